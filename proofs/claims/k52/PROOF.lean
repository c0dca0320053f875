import PyProof.Rows.All
import Wide.All
import OpenK.AllK
import Wide.FinOn
import PyProof.EqAt
import PyProof.EqKinds
import PyProof.TupleCall
import KE.KLam
import KE.KMinKey
import PyProof.NeData
import PyProof.P3In
import PyProof.WalkInts
import PyProof.Rows.SortWalk
import PyProof.SumWalkG
import PyProof.Rows.CallKwBuiltin
import KE.KDictList
import PyProof.WalksEnum
import PyProof.ZipIter
import PyProof.ConsumeWalk
import PyProof.ListRange
import PyProof.TupleOfSeq
import PyProof.Rows.RuleN_abs
import KE.KIntText
import PyProof.FString
import PyProof.StrWalks
import PyProof.StrLawsTight
import PyProof.StrLawsChain
import KE.KUnpackStar
import PyProof.ReprRoads
import KE.KRevIter
import PyProof.Rows.SetFrom
import KE.KDictOf
import PyProof.AttrMissHeap
import PySem.Challenge.RW_fewties_k52_whole_growing_webs_handed_on
open PySem.W (Frag kitOne mg_of nsIn mg_none_of excIn fnOf mroIn keepIn codeIn)
set_option Elab.async false
set_option linter.all false
set_option compiler.extract_closed false
set_option maxRecDepth 100000
set_option maxHeartbeats 4000000
set_option autoImplicit true
set_option relaxedAutoImplicit true
noncomputable section
abbrev Y0:=@List.getElem?_eq_getElem
abbrev N1:=@List.getElem?_eq_some_iff
abbrev i3:=@List.mem_of_getElem?
abbrev R0:=@List.length_map
abbrev Y2:=@Array.getElem?_eq_getElem
abbrev L1:=@List.getElem?_map
abbrev M0:=@Nat.le_refl
abbrev Q1:=@List.mem_append
abbrev iC:=@Array.length_toList
abbrev D1:=@List.mem_cons
abbrev X1:=@Bool.false_ne_true
abbrev f3:=@List.length_append
abbrev Q2:=@List.size_toArray
abbrev Z2:=@List.mem_append_right
abbrev m3:=@List.append_assoc
abbrev S2:=@List.mem_cons_of_mem
abbrev O1:=@Nat.ne_of_lt
abbrev X0:=@List.mem_map
abbrev o3:=@List.mem_cons_self
abbrev U1:=@List.mem_range
abbrev M4:=@List.mem_of_mem_take
abbrev C5:=@List.take_append_drop
abbrev O2:=@List.mem_singleton
abbrev f8:=@List.getElem?_append_left
abbrev P4:=@List.mem_of_mem_drop
abbrev L4:=@Nat.lt_of_lt_of_le
abbrev u3:=@Option.some.inj
abbrev z5:=@List.mem_append_left
abbrev F7:=@List.getElem?_append_right
abbrev A3:=@List.pairwise_append
abbrev W1:=@Nat.le_trans
abbrev M2:=@List.map_cons
abbrev y4:=@List.getElem?_set
abbrev aA:=@List.getD_eq_getElem?_getD
abbrev AC:=@Classical.byContradiction
abbrev V5:=@Array.getElem?_toList
abbrev D3:=@decide_eq_false
abbrev N3:=@decide_eq_true
abbrev S7:=@List.getElem?_range
abbrev v2:=@List.map_map
abbrev AB:=@List.length_range
abbrev i6:=@List.mem_filter
abbrev vC:=@Nat.lt_of_le_of_lt
abbrev N4:=@List.map_append
abbrev L3:=@List.length_cons
abbrev cA:=@Int.emod_nonneg
abbrev yA:=@Int.emod_lt_of_pos
abbrev B7:=@List.nodup_append
abbrev j7:=@List.map_congr_left
abbrev m5:=@List.append_nil
abbrev o8:=@List.take_of_length_le
abbrev U7:=@List.getElem_mem
abbrev X7:=@List.length_filter_le
abbrev o9:=@List.any_eq_true
abbrev P2:=@List.all_eq_true
abbrev q0:=@if_pos
abbrev o0:=@if_neg
abbrev P6:=@List.getElem?_eq_none_iff
abbrev T6:=@Nat.lt_succ_of_lt
abbrev y6:=@List.length_pos_iff
abbrev O3:=@Nat.zero_le
abbrev O6:=@List.pairwise_map
abbrev D6:=@List.ext_getElem?
abbrev S1:=@beq_iff_eq
abbrev t4:=@Nat.lt_irrefl
abbrev D5:=@Nat.le_of_lt
abbrev W4:=@Array.toList_append
abbrev t7:=@List.pairwise_iff_getElem
abbrev Q6:=@List.take_length
abbrev J3:=@List.lookup_cons
abbrev Q7:=@List.length_take
abbrev E5:=@Bool.and_eq_true
abbrev gC:=@List.eq_nil_of_length_eq_zero
abbrev o7:=@List.replicate_succ
abbrev S6:=@List.take_add_one
abbrev n8:=@List.getElem?_take_of_lt
abbrev r8:=@List.mem_iff_getElem
abbrev r9:=@List.getElem?_replicate
abbrev f6:=@Bool.eq_iff_iff
abbrev g7:=@Array.size_push
abbrev kA:=@List.Pairwise.imp_of_mem
abbrev Y3:=@List.getElem?_cons_succ
abbrev w8:=@Option.map_some
abbrev Z9:=@List.getElem?_drop
abbrev EA:=@List.not_mem_nil
abbrev O5:=@List.nodup_cons
abbrev S9:=@List.pairwise_cons
abbrev dA:=@Nat.sub_self
abbrev u8:=@Int.zero_add
abbrev W8:=@Nat.lt_succ_self
abbrev aC:=@List.length_drop
abbrev rC:=@List.length_nil
open PySem PySem.Spec in
abbrev C0:=@wpAny_bind
open PySem PySem.Spec in
abbrev N0:=@wpAny_pure
open PySem PySem.Spec in
abbrev J1:=@Heap.get?_push_of_some
open PySem PySem.Spec in
abbrev L0:=@Heap.lt_size
open PySem PySem.Spec in
abbrev D2:=@Heap.get?_push_size
open PySem PySem.Spec in
abbrev w5:=@wpAny_holding
open PySem PySem.Spec in
abbrev t5:=@PassesOwn.never
open PySem PySem.Spec in
abbrev V3:=@wpAny_mono
open PySem PySem.Spec in
abbrev O7:=@wpAny_newObj_type
open PySem PySem.Spec in
abbrev pA:=@Around.under_plainId
open PySem PySem.Spec in
abbrev s7:=@Heap.size_push
open PySem PySem.Spec in
abbrev DA:=@wpAny_call_entry
open PySem PySem.Spec in
abbrev B6:=@wpAny_truthy_bool
open PySem PySem.Spec in
abbrev e8:=@wpAny_pyIter_list
open PySem PySem.Spec in
abbrev nA:=@codeAny_builtin
theorem ab{α:Sort u}{a:α}{b:Prop}:a=a \/b:=.inl rfl
namespace L2
open PySem PySem.Spec PyProof.Rows
abbrev Key:=Sum Int Str
def j9:Key->Value->Bool
 | .inl k,v=>Value.isInt k v
 | .inr x,v=>Value.isStrOf x v
def keyH(w:World):Key->Int
 | .inl k=>hashInt k
 | .inr x=>hashStr w x
theorem p7:∀{k:Key}{v:Value},j9 k v=true->(∃ i t,k=Sum.inl i/\v=Value.int i t)\/(∃ x t,k=Sum.inr x/\v=Value.str x t)
 | .inl i,v,h=>by
  obtain⟨t,e⟩:=Value.isInt_shape (k:=i) (v:=v) h;exact .inl ⟨i,t,rfl,e⟩
 | .inr x,v,h=>by
  obtain⟨t,e⟩:=Value.isStrOf_shape (x:=x) (v:=v) h;exact .inr ⟨x,t,rfl,e⟩
theorem vT(i:Int)(t:Tok):j9 (.inl i) (.int i t)=true:=by simp[j9,Value.isInt]
theorem TL(x:Str)(t:Tok):j9 (.inr x) (.str x t)=true:=by simp[j9,Value.isStrOf]
theorem xN(a b:Int):decide ((Sum.inl a:Key)=Sum.inl b)=(a == b):=by
 by_cases e:a=b
 ·subst e;simp
 ·have h:¬ (Sum.inl a:Key)=Sum.inl b:=λq=>e (Sum.inl.inj q);rw[D3 h];exact(beq_eq_false_iff_ne.mpr e).symm
theorem fK(a b:Str):decide ((Sum.inr a:Key)=Sum.inr b)=decide (a=b):=by
 by_cases e:a=b
 ·subst e;simp
 ·have h:¬ (Sum.inr a:Key)=Sum.inr b:=λq=>e (Sum.inr.inj q);rw[D3 h,D3 e]
theorem eU(a:Int)(b:Str):decide ((Sum.inl a:Key)=Sum.inr b)=false:=D3 (λq=>nomatch q)
theorem nN(a:Str)(b:Int):decide ((Sum.inr a:Key)=Sum.inl b)=false:=D3 (λq=>nomatch q)
def Z4(prog:Program)(w:World):PySem.KeyKind prog w Key where
 is:=j9
 hash:=keyH w
 inj:=λv a b ha hb=>by
  rcases p7 ha with ⟨i,t,rfl,rfl⟩|⟨x,t,rfl,rfl⟩
  ·rcases p7 hb with ⟨j,u,rfl,e⟩|⟨y,u,rfl,e⟩
   ·injection e with e1 _;rw[e1]
   ·exact nomatch e
  ·rcases p7 hb with ⟨j,u,rfl,e⟩|⟨y,u,rfl,e⟩
   ·exact nomatch e
   ·injection e with e1 _;rw[e1]
 byValue:=λk v h=>by
  rcases p7 h with ⟨i,t,rfl,rfl⟩|⟨x,t,rfl,rfl⟩ <;> rfl
 pyHash:=λhv h=>by
  rcases p7 hv with ⟨i,t,rfl,rfl⟩|⟨x,t,rfl,rfl⟩
  ·exact wpAny_pyHash_int h
  ·exact wpAny_pyHash_str h
 eqBool:=λhu hv h=>by
  rcases p7 hu with ⟨i,t,rfl,rfl⟩|⟨x,t,rfl,rfl⟩
  ·rcases p7 hv with ⟨j,u,rfl,rfl⟩|⟨y,u,rfl,rfl⟩
   ·rw[xN] at h;exact wpAny_eqBool_int h
   ·rw[eU] at h;exact SeqAt.EqAt.int_str i t y u _ _ _ _ h
  ·rcases p7 hv with ⟨j,u,rfl,rfl⟩|⟨y,u,rfl,rfl⟩
   ·rw[nN] at h;exact SeqAt.EqAt.str_int x t j u _ _ _ _ h
   ·rw[fK] at h;exact wpAny_eqBool_str h
 «strs»:=λk x t v h=>by
  rcases p7 h with ⟨i,u,rfl,e⟩|⟨y,u,rfl,e⟩
  ·exact nomatch e
  ·injection e with e1 _;subst e1;cases v <;> rfl
theorem JN(prog:Program)(w:World)(i:Int)(t:Tok):(Z4 prog w).is (.inl i) (.int i t)=true:=vT i t
theorem YM(prog:Program)(w:World)(x:Str)(t:Tok):(Z4 prog w).is (.inr x) (.str x t)=true:=TL x t
inductive V where
 |non|bl (b:Bool)|int (i:Int)|str (x:Str)|byt (b:Array UInt8)|flt (b:UInt64)|ref (a:Addr)|ty (n:String)
 deriving DecidableEq
def RelV:V->Value->Prop
 | .non,u=>u=Value.none
 | .bl b,u=>u=Value.bool b
 | .int i,u=>∃ t,u=Value.int i t
 | .str x,u=>∃ t,u=Value.str x t
 | .byt b,u=>∃ t,u=Value.bytes b t
 | .flt b,u=>∃ t,u=Value.float b t
 | .ref a,u=>u=Value.ref a
 | .ty n,u=>u=Value.type n
abbrev Vals:List V->List Value->Prop:=Paired RelV
theorem Vals.length{xs:List V}{us:List Value}(r:Vals xs us):xs.length=us.length:=Paired.length r
theorem Vals.get:∀{xs:List V}{us:List Value}{i:Nat}{x:V},Vals xs us->xs[i]?=some x->∃ u,us[i]?=some u/\RelV x u
 |_,_,_,_,.nil,e=>by simp at e
 |_,_,0,_,.cons r _,e=>by simp at e;subst e;exact⟨_,rfl,r⟩
 | _,_,i+1,x,.cons _ t,e=>by
  obtain⟨u,b,a⟩:=Vals.get (i:=i) (x:=x) t (by simpa using e);exact⟨u,by simpa using b,a⟩
theorem Vals.set(r:RelV x u):∀{xs:List V}{us:List Value}(i:Nat),Vals xs us->Vals (xs.set i x) (us.set i u)
 |_,_,_,.nil=>.nil
 |_,_,0,.cons _ t=>.cons r t
 |_,_,i+1,.cons q t=>.cons q (Vals.set r i t)
theorem Vals.append:∀{xs ys:List V}{us ws:List Value},Vals xs us->Vals ys ws->Vals (xs++ys) (us++ws)
 |_,_,_,_,.nil,s=>s
 |_,_,_,_,.cons r t,s=>.cons r (Vals.append t s)
theorem Vals.take:∀{xs:List V}{us:List Value}(n:Nat),Vals xs us->Vals (xs.take n) (us.take n)
 |_,_,0,_=>.nil
 |_,_,_+1,.nil=>.nil
 |_,_,n+1,.cons r t=>.cons r (Vals.take n t)
theorem Vals.drop:∀{xs:List V}{us:List Value}(n:Nat),Vals xs us->Vals (xs.drop n) (us.drop n)
 |_,_,0,r=>r
 |_,_,_+1,.nil=>.nil
 |_,_,n+1,.cons _ t=>Vals.drop n t
def RelO:Option V->Option Value->Prop
 |some v,some u=>RelV v u
 |none,none=>True
 |_,_=>False
def KV{κ:Type}:List (κ × V)->List (κ × Value)->Prop:=Paired λ(p : κ × V)(q : κ × Value)=>p.1=q.1/\RelV p.2 q.2
def kV:Key->V
 | .inl i=>.int i
 | .inr x=>.str x
inductive HO where
 /-- a list -/
 |lst (xs:List V)
 /-- a tuple (never changes) -/
 |tup (xs:List V)
 /-- a dict whose keys are ints and texts; one whose keys are tuples of ints and texts (the empty one is both) -/
 |dK (kvs:List (Key × V))|dT (kvs:List (List Key × V))
 /-- a set of ints: its members, its size -/
 |set (S:Int->Bool) (n:Nat)
 /-- an instance of the class at C, its dict at dx, its attributes -/
 |ins (C dx:Addr) (fs:List (Str × V))
 /-- the dict of the instance at x -/
 |own (x:Addr)
 /-- the dict of an exception -/
 |xd (fs:List (Str × V))
 /-- a bound method, f of x -/
 |met (f x:Addr)
 /-- a range object lo, lo + 1, .. below hi -/
 |rng (lo hi:Int)
 /-- a thing that is known to the object (the script; a dict while a loop walks it): read, never written while it is so -/
 |frz (o:Obj) (u:HO)
 /-- a code object's table -/
 |tbl (ps:Array Value)
 /-- any other thing, by what is true of its one object (a def of one's own: SetO a S n:=HO.ext λh=>..) -/
 |ext (φ:Heap->Prop)
abbrev Hp:=Addr->Option HO
def upd(H:Hp)(a:Addr)(o:HO):Hp:=λb=>if b=a then some o else H b
theorem W0:upd H a o a=some o:=by unfold upd;rw[q0 rfl]
theorem J0(h:b ≠ a):upd H a o b=H b:=by unfold upd;rw[o0 h]
theorem l9{H:Hp}{a b:Addr}{o u:HO}(h:H a=some o)(h':H b=some u)(d:o ≠ u):a ≠ b:=by
 intro e;subst e;rw[h] at h';exact d (u3 h')
theorem U2{H:Hp}{a b:Addr}{o:HO}(h:H a=some o)(h':H b=none):a ≠ b:=by
 intro e;subst e;rw[h] at h';cases h'
section
variable(P:Program)(w:World)
def ObjOk(H:Hp)(h:Heap)(a:Addr):HO->Prop
 | .lst xs=>xs.length<=sizeLine/\∃(its:List Value)(n:Nat),Vals xs its/\h.get? a=some { cls:=.type "list",data:=.seq its.toArray n }
 | .tup xs=>xs.length<=sizeLine/\∃ its:List Value,Vals xs its/\IsTup h a its.toArray
 | .dK kvs=>kvs.length<=sizeLine/\(a == sysModules)=false/\∃ vs,KV kvs vs/\h.DictOf (Z4 P w) a vs
 | .dT kvs=>kvs.length<=sizeLine/\(a == sysModules)=false/\∃ xs:List (List Key × Addr × Value),
   Paired (λ(p:List Key × V)(q:List Key × Addr × Value)=>p.1=q.1/\H q.2.1=some (.tup (p.1.map kV))/\RelV p.2 q.2.2) kvs xs /\
   ∃ o es ep,h.get? a=some o/\o.ExactDict/\o.data=.dict es ep/\es.toList=xs.map (entryOfKey (tupleKind (Z4 P w)))/\(xs.map (·.1)).Nodup
 | .set S n=>h.SetOf (intKind P w) a S n
 | .ins C dx fs=>H dx=some (.own a)/\fs.length<=1000/\dx ≠ a/\h.get? a=some (PySem.W.instObj C dx) /\
   ∃ mA,h.Ns1 dx mA/\(∀ f,RelO (fs.lookup f) (mA f))/\PySem.Within mA (fs.map (·.1))
 | .own _=>∃ o,h.get? a=some o
 | .xd fs=>∃ mA,h.Ns1 a mA/\∀ f,RelO (fs.lookup f) (mA f)
 | .rng lo hi=>∃ t u v,h.get? a=some { cls:=.type "range",data:=.fields #[.int lo t,.int hi u,.int 1 v] }
 | .frz o u=>h.get? a=some o/\ObjOk H h a u
 | .tbl gs=>∃ ps:Array Value,h.get? a=some { cls:=.none,data:=.fields ps }/\TriplesOk ps.toList/\∀(pos:Pos)(cv:Value),codeAmong pos ps.toList=some cv->∃ c oc vs q t t',cv=.ref c/\H c=some (.own a)/\h.get? c=some oc/\oc.data=.fields vs/\vs[1]?=some (.str q t)/\gs[0]?=some (.str q t')
 | .met f x=>h.get? a=some (PySem.W.methodObj (.ref f) (.ref x))
 | .ext φ=>φ h/\(∃ o,h.get? a=some o)/\∀ h1 h2:Heap,φ h1->(∀ o,h1.get? a=some o->h2.get? a=some o)->φ h2
def HOk(H:Hp)(h:Heap):Prop:=∀ a o,H a=some o->ObjOk P w H h a o
end
theorem ObjOk.lt(x:ObjOk P w H h a o):a<h.objs.size:=by
 cases o with
 |lst xs=>obtain⟨_,_,_,_,e⟩:=x;exact L0 e
 |tup xs=>obtain⟨_,_,_,p⟩:=x;exact p.lt
 |dK kvs=>obtain⟨_,_,_,_,o,_,_,e,_⟩:=x;exact L0 e
 |dT kvs=>obtain⟨_,_,_,_,o,_,_,e,_⟩:=x;exact L0 e
 |set S n=>obtain⟨o,_,_,_,e,_⟩:=x;exact L0 e
 |ins C dx fs=>obtain⟨_,_,_,e,_⟩:=x;exact L0 e
 |own y=>obtain⟨_,e⟩:=x;exact L0 e
 |xd fs=>obtain⟨_,⟨_,_,_,e,_⟩,_⟩:=x;exact L0 e
 |rng lo hi=>obtain⟨_,_,_,e⟩:=x;exact L0 e
 |frz ob u=>obtain⟨e,_⟩:=x;exact L0 e
 |tbl ps=>obtain⟨_,e,_⟩:=x;exact L0 e
 |met f y=>exact L0 (show h.get? a=some _ from x)
 |ext φ=>obtain⟨_,⟨_,e⟩,_⟩:=x;exact L0 e
theorem Paired.mapP{α β:Type}{F G : α->β->Prop}:∀{l₁:List α}{l₂:List β},Paired F l₁ l₂->(∀ a b,F a b->G a b)->Paired G l₁ l₂
 |_,_,.nil,_=>.nil
 |_,_,.cons r t,f=>.cons (f _ _ r) (Paired.mapP t f)
theorem ObjOk.stay(x:ObjOk P w H h a o)(k:∀ b u,(b=a\/H b=some (.own a))->h.get? b=some u->h'.get? b=some u)
  (j:∀ b,H b=some (.own a)->H' b=some (.own a)) (s:∀ b xs,H b=some (.tup xs)->H' b=some (.tup xs)):ObjOk P w H' h' a o:=by
 induction o with
 |lst xs=>obtain⟨z,its,n,r,e⟩:=x;exact⟨z,its,n,r,k _ _ (.inl rfl) e⟩
 |tup xs=>obtain⟨z,its,r,g,e,c⟩:=x;exact⟨z,its,r,g,k _ _ (.inl rfl) e,c⟩
 |dK kvs=>obtain⟨z,y,vs,r,g,es,ep,e,c⟩:=x;exact⟨z,y,vs,r,g,es,ep,k _ _ (.inl rfl) e,c⟩
 | dT kvs =>
  obtain⟨z,y,xs,r,g,es,ep,e,c⟩:=x;exact⟨z,y,xs,Paired.mapP r λp q z=>⟨z.1,s _ _ z.2.1,z.2.2⟩,g,es,ep,k _ _ (.inl rfl) e,c⟩
 |set S n=>obtain⟨g,es,ep,t,e,c⟩:=x;exact⟨g,es,ep,t,k _ _ (.inl rfl) e,c⟩
 | ins C dx fs =>
  obtain⟨d,z,ne,e,mA,⟨od,es,ep,e2,c⟩,r⟩:=x;exact⟨j _ d,z,ne,k _ _ (.inl rfl) e,mA,⟨od,es,ep,k _ _ (.inr d) e2,c⟩,r⟩
 |own y=>obtain⟨g,e⟩:=x;exact⟨g,k _ _ (.inl rfl) e⟩
 |xd fs=>obtain⟨mA,⟨od,es,ep,e,c⟩,r⟩:=x;exact⟨mA,⟨od,es,ep,k _ _ (.inl rfl) e,c⟩,r⟩
 |rng lo hi=>obtain⟨t,u,v,e⟩:=x;exact⟨t,u,v,k _ _ (.inl rfl) e⟩
 |frz g u ih=>obtain⟨e,q⟩:=x;exact⟨k _ _ (.inl rfl) e,ih q⟩
 | tbl ps =>
  obtain⟨i,e,T,f⟩:=x;exact⟨i,k a _ (.inl rfl) e,T,λpos l z=>let ⟨c,oc,vs,q,t,t',A,e2,m,r⟩:=f pos l z;⟨c,oc,vs,q,t,t',A,j c e2,k c oc (.inr e2) m,r⟩⟩
 | met f y =>
  have e:h.get? a=some (PySem.W.methodObj (.ref f) (.ref y)):=x;show h'.get? a=some (PySem.W.methodObj (.ref f) (.ref y));exact k a _ (.inl rfl) e
 |ext φ=>obtain⟨p,⟨o,e⟩,st⟩:=x;exact⟨st _ _ p λo q=>k _ _ (.inl rfl) q,⟨o,k _ _ (.inl rfl) e⟩,st⟩
theorem HOk.lt(x:HOk P w H h)(e:H a=some o):a<h.objs.size:=(x a o e).lt
theorem HOk.fresh(x:HOk P w H h)(e:h.objs.size<=a):H a=none:=by
 cases q:H a with
 |none=>rfl
 |some u=>exact absurd (L4 (x.lt q) e) (t4 _)
theorem HOk.kept(x:HOk P w H h)(k:∀ b u,h.get? b=some u->h'.get? b=some u):HOk P w H h':=λa o e =>
 (x a o e).stay (λb u _ q=>k b u q) (λ_ q=>q) λ_ _ q=>q
theorem HOk.laid(x:HOk P w H h)(k:∀ b u,h.get? b=some u->h'.get? b=some u)(d:h.objs.size<=a)(new:ObjOk P w (upd H a o) h' a o):HOk P w (upd H a o) h':=λb u e=>by
 have hn:=x.fresh d;by_cases hb:b=a
 ·subst hb;rw[W0] at e;cases e;exact new
 ·rw[J0 hb] at e;exact(x b u e).stay (λc v _ q=>k c v q) (λc q=>by rw[J0 (U2 q hn)];exact q) λc xs q=>by rw[J0 (U2 q hn)];exact q
def Rd(H:Hp)(a:Addr)(u:HO):Prop:=H a=some u\/∃ o,H a=some (.frz o u)
theorem Rd.ok(r:Rd H a u)(x:HOk P w H h):ObjOk P w H h a u:=by
 rcases r with r|⟨o,r⟩
 ·exact x a u r
 ·obtain⟨_,q⟩:=x a _ r;exact q
def Mut:Option HO->Prop
 |some (.lst _)=>True
 |some (.dK _)=>True
 |some (.dT _)=>True
 |some (.set _ _)=>True
 |some (.ins _ _ _)=>True
 |some (.ext _)=>True
 |_=>False
theorem HOk.write(ok:HOk P w H h)(g:Mut (H x))(j:e=x\/H e=some (.own x))(k:∀ b u,b ≠ e->h.get? b=some u->h'.get? b=some u)(i:∃ u,h'.get? e=some u)
  (new:ObjOk P w (upd H x o') h' x o'):HOk P w (upd H x o') h':=λb u q=>by
 have a:∀ c y,H c=some (.own y)->c ≠ x:=λc y r z=>by subst z;rw[r] at g;exact g
 have d:∀ c xs,H c=some (.tup xs)->c ≠ x:=λc xs r z=>by subst z;rw[r] at g;exact g
 by_cases hb:b=x
 ·subst hb;rw[W0] at q;cases q;exact new
 ·rw[J0 hb] at q;by_cases hbe:b=e
  ·have l:H b=some (.own x):=by
    rcases j with z|z
    ·exact absurd (hbe.trans z) hb
    ·rw[hbe];exact z
   rw[q] at l;cases l;obtain⟨v,m⟩:=i;exact⟨v,by rw[hbe];exact m⟩
  ·refine(ok b u q).stay (λc v f r=>k c v ?_ r) (λc r=>by rw[J0 (a c b r)];exact r) λc xs r=>by rw[J0 (d c xs r)];exact r
   rcases f with rfl|f
   ·exact hbe
   ·rintro rfl;rcases j with z|z
    ·exact a c b f z
    ·rw[f] at z;cases z;exact hb rfl
structure Un(fs ex:List Addr)(H H':Hp)(h h':Heap):Prop where
 keep:∀ b o,h.get? b=some o->H b=none->b ∉ fs->b ∉ ex->h'.get? b=some o
 slot:∀ b o,h.get? b=some o->H b=none->b∈fs->b ∉ ex->∃ sl,h'.get? b=some { o with slots:=sl }
 free:∀ b o,h.get? b=some o->H b=none->b ∉ ex->H' b=none
 there:∀ b o,h.get? b=some o->b ∉ ex->∃ o',h'.get? b=some o'
 tups:∀ b xs,H b=some (.tup xs)->H' b=some (.tup xs)
 frzs:∀ b o u,H b=some (.frz o u)->H' b=some (.frz o u)
 tbls:∀ b ps,H b=some (.tbl ps)->∃ more,H' b=some (.tbl (ps++more))
section
variable{fs fs' ex ex':List Addr}{H H1 H2:Hp}{h h1 h2 h':Heap}{a x e:Addr}{o:HO}
theorem Un.any(u:Un fs ex H H1 h h1){b:Addr}{a:Obj}(q:h.get? b=some a)(n:H b=none)(c:b ∉ ex):∃ sl,h1.get? b=some { a with slots:=sl }:=by
 by_cases hb:b∈fs
 ·exact u.slot b a q n hb c
 ·exact⟨a.slots,u.keep b a q n hb c⟩
theorem Un.kept(k:∀ b u,h.get? b=some u->h'.get? b=some u):Un fs ex H H h h' :=
 ⟨λb a q _ _ _=>k b a q,λb a q _ _ _=>⟨a.slots,k b a q⟩,λ_ _ _ n _=>n,λb a q _=>⟨a,k b a q⟩,λ_ _ q=>q,λ_ _ _ q=>q,λ_ ps q=>⟨#[],by rw[q];simp⟩⟩
theorem Un.refl:Un fs ex H H h h:=Un.kept λ_ _ q=>q
theorem Un.laid(k:∀ b u,h.get? b=some u->h'.get? b=some u)(c:h.objs.size<=a)(hn:H a=none):Un fs ex H (upd H a o) h h' where
 keep:=λb u q _ _ _=>k b u q
 slot:=λb u q _ _ _=>⟨u.slots,k b u q⟩
 free:=λb u q n _=>by rw[J0 (O1 (L4 (L0 q) c))];exact n
 there:=λb u q _=>⟨u,k b u q⟩
 tups:=λb xs q=>by rw[J0 (U2 q hn)];exact q
 frzs:=λb u xs q=>by rw[J0 (U2 q hn)];exact q
 tbls:=λb ps q=>⟨#[],by rw[J0 (U2 q hn),q];simp⟩
theorem Un.write(a:Mut (H x))(g:e=x\/H e=some (.own x))(k:∀ b u,b ≠ e->h.get? b=some u->h'.get? b=some u)(c:∃ u,h'.get? e=some u):Un fs ex H (upd H x o) h h':=by
 have d:∀ b,H b=none->b ≠ x:=λb n z=>by subst z;rw[n] at a;exact a
 have hb:∀ b,H b=none->b ≠ e:=λb n z=>by
  subst z;rcases g with r|r
  ·exact d b n r
  ·rw[n] at r;cases r
 have hm:∀ b u,H b=some u->¬ Mut (some u)->b ≠ x:=λb u q f z=>by subst z;rw[q] at a;exact f a
 refine⟨λb u q n _ _=>k b u (hb b n) q,λb u q n _ _=>⟨u.slots,k b u (hb b n) q⟩,λb u q n _=>by rw[J0 (d b n)];exact n,λb u q _=>?_,
  λb xs q=>by rw[J0 (hm b _ q λz=>z)];exact q,λb u xs q=>by rw[J0 (hm b _ q λz=>z)];exact q,λb ps q=>⟨#[],by rw[J0 (hm b _ q λz=>z),q];simp⟩⟩
 by_cases hbe:b=e
 ·subst hbe;exact c
 ·exact⟨u,k b u hbe q⟩
end
def trk(h:Heap)(H:Hp):List Addr:=(List.range h.objs.size).filter λa=>(H a).isSome
def hidT(h:Heap)(H:Hp):Heap:=PySem.W.hideAll h (trk h H)
theorem MP(h:Heap)(H:Hp):(hidT h H).objs.size=h.objs.size:=PySem.W.hideAll_size _ _
theorem oO(e:h.get? b=some o)(n:H b=none):(hidT h H).get? b=some o :=
 PySem.W.hideAll_get _ e λhm=>by
  have q:(H b).isSome=true:=(i6.mp hm).2;rw[n] at q;simp at q
theorem wK(e:(hidT h H).get? b=some o):h.get? b=some o/\H b=none:=by
 have a:h.get? b=some o:=PySem.W.of_hideAll (trk h H) e;refine⟨a,?_⟩;cases q:H b with
 |none=>rfl
 | some x =>
  have hm:b∈trk h H:=i6.mpr ⟨U1.mpr (L0 a),by simp[q]⟩;have z:(hidT h H).get? b=none:=PySem.W.hideAll_none (trk h H) hm;rw[z] at e;cases e
def qK(g h:Heap)(L:Addr):List (Addr × Obj):=(List.range h.objs.size).filterMap λa=>if a=L\/(g.get? a).isSome=true then none else (h.get? a).map λo=>(a,o)
def rest(g h:Heap)(L d:Addr):List (Addr × Obj):=(qK g h L).filter λp=>decide (p.1 ≠ d)
def lamN:Str:="best_few"
def lamQ:Str:="best_few.<locals>.<lambda>"
def QF(mg:Str->Option Value)(h:Heap):Prop:=∃ bm ob,mg "__builtins__" = some (.ref bm)/\bm ≠ builtinsNs/\h.get? bm=some ob/\ob.cls=.type "module"/\ob.dict=some builtinsNs/\ob.data=.plain
def TabsOk(K:Frag)(H:Hp):Prop:=∀ c P,PySem.W.tabIn K lamN=some (c,P)->∃ more,H P=some (.tbl (#[.str lamQ 0]++more))
structure Mod(K:Frag)(mg:Str->Option Value)(base:Heap):Prop where
 kin:K.In base
 glob:base.Ns mainGlobals mg
 blt:∃ mb,base.Ns builtinsNs mb/\∀ x:Str,x ≠ "__name__"->mb x=bootBuiltins x
 nolimit:base.NoLimit
 bmain:QF mg base
/-- the context: a def's body (or a comprehension's block) running. base: fixed through the whole law; s₀, H₀: the entry; outer: the frames whose slots others may change (a def's callers); stack: all frames that run;
  ex: iterators that were made ahead of the entry and are walked here (a comprehension's);fn: the names whose cells were made at the entry (a def: all;a comprehension's block: its own);calm: not within an except suite;pn: pins that every state bears;xe: what is wanted of an exception that leaves the code -/
structure Cx where
 prog:Program
 w:World
 K:Frag
 mg:Str->Option Value
 base:Heap
 A:Around
 N:List Str
 s₀:Shared
 H₀:Hp
 env:Env
 outer:List Env
 stack:List Env
 ex:List Addr
 fn:Str->Bool
 calm:Bool
 pn:List (Addr × Obj)
 xe:Value->Shared->Prop
def frs(l:List Env):List Addr:=l.filterMap (·.frame)
abbrev Cx.fs(X:Cx):List Addr:=frs X.outer
def Vis(sc:Scope)(x:Str):Prop:=sc.names.lookup x=some .local\/sc.names.lookup x=some .cell\/sc.names.lookup x=some .free
def Loc(sc:Scope)(x:Str):Prop:=sc.names.lookup x=some .local\/sc.names.lookup x=some .cell
def Look(env:Env)(h:Heap)(m:Str->Option Value)(x:Str)(u:Value):Prop :=
 (env.kindOf x=some .local/\m x=some u)\/((env.kindOf x=some .cell\/env.kindOf x=some .free)/\∃ c,env.cells.lookup x=some c/\h.IsCell c (some u))
structure Cx.Ok(X:Cx):Prop where
 mod:Mod X.K X.mg X.base
 kind:X.env.scope.kind=.function
 glob:X.env.globals=mainGlobals
 blt:X.env.builtins=builtinsNs
 above:X.s₀.heap.objs.size<=X.env.locals
 inj:∀ x y c,X.env.cells.lookup x=some c->X.env.cells.lookup y=some c->x=y
 has:∀ x,(X.env.kindOf x=some .cell\/X.env.kindOf x=some .free)->∃ c,X.env.cells.lookup x=some c
 cab:∀ x c,X.fn x=true->X.env.cells.lookup x=some c->X.s₀.heap.objs.size<=c
 hd:X.calm=true->X.A.handled=none
 frames:X.A.frames=some X.stack
 stk:X.stack=X.outer\/(X.stack=X.env::X.outer/\X.env.frame=some X.env.locals)
 exf:∀ b∈X.ex,b ≠ X.env.locals/\∀ x c,X.env.cells.lookup x=some c->c ≠ b
 bs:∀ b o,X.base.get? b=some o->X.s₀.heap.get? b=some o/\X.H₀ b=none
 bsz:X.base.objs.size<=X.s₀.heap.objs.size
 noex:∀ b o,X.base.get? b=some o->b ∉ X.ex
 exfs:∀ b∈X.ex,b ∉ X.fs
 funs:X.s₀.heap.FunFrames X.base X.outer
 frf:∀ b∈X.fs,X.H₀ b=none
 tab:TabsOk X.K X.H₀
structure Inv(X:Cx)(pins:List (Addr × Obj))(σ:List (Option V))(H:Hp)(s:Shared):Prop where
 ok:X.Ok
 os:s.os=X.s₀.os
 bare:AllBare s.gens
 base:Un X.fs X.ex X.H₀ H X.s₀.heap s.heap
 loc:∃ m,s.heap.Ns X.env.locals m/\∀(i:Nat)(x:Str)(v:V),X.N[i]?=some x->σ[i]?=some (some v)->Vis X.env.scope x->∃ u,RelV v u/\Look X.env s.heap m x u
 cell:∀ x c,X.env.cells.lookup x=some c->∃ v,s.heap.IsCell c v
 free:H X.env.locals=none
 freeC:∀ x c,X.env.cells.lookup x=some c->H c=none
 pin:∀ p∈X.pn++pins,s.heap.get? p.1=some p.2/\H p.1=none/\p.1 ≠ X.env.locals/\p.1 ∉ X.fs/\∀ v,p.2.data ≠ .cell v
 hok:HOk X.prog X.w H s.heap
 len : σ.length=X.N.length
section
variable{X:Cx}{pins:List (Addr × Obj)}{σ:List (Option V)}{H H':Hp}{s:Shared}{h':Heap}
theorem Cx.Ok.nofr(ok:X.Ok)(e:X.base.get? b=some o):b ∉ X.fs:=λhb=>by
 have:=(ok.funs.mem hb).1;rw[e] at this;cases this
theorem Inv.bs(I:Inv X pins σ H s):∀ b o,X.base.get? b=some o->s.heap.get? b=some o/\H b=none:=λb o e =>
 ⟨I.base.keep b o (I.ok.bs b o e).1 (I.ok.bs b o e).2 (I.ok.nofr e) (I.ok.noex b o e),I.base.free b o (I.ok.bs b o e).1 (I.ok.bs b o e).2 (I.ok.noex b o e)⟩
theorem Inv.bk(I:Inv X pins σ H s):∀ b o,X.base.get? b=some o->s.heap.get? b=some o:=λb o e=>(I.bs b o e).1
theorem Inv.mod(I:Inv X pins σ H s):Mod X.K X.mg X.base:=I.ok.mod
theorem Inv.kIn(I:Inv X pins σ H s):X.K.In s.heap:=I.ok.mod.kin.keeps I.bk
theorem Inv.lt(I:Inv X pins σ H s):X.env.locals<s.heap.objs.size:=let ⟨_,hn,_⟩:=I.loc;hn.lt
theorem Inv.sz(I:Inv X pins σ H s):X.s₀.heap.objs.size<=s.heap.objs.size:=W1 I.ok.above (D5 I.lt)
theorem Inv.nofs(I:Inv X pins σ H s)(h:s.heap.objs.size<=a):a ∉ X.fs:=λhb=>by
 obtain⟨_,o,b,_⟩:=I.ok.funs.mem hb;exact absurd (L4 (L0 b) (W1 I.sz h)) (t4 _)
theorem Inv.cne(I:Inv X pins σ H s):∀ x c,X.env.cells.lookup x=some c->c ≠ X.env.locals:=λx c e z=>by
 obtain⟨v,o,d,hd⟩:=I.cell x c e;obtain⟨m,⟨o',es,ep,a,b,_⟩,_⟩:=I.loc;rw[z,a] at d;cases d;rw[b] at hd;cases hd
theorem Inv.funs(I:Inv X pins σ H s):s.heap.FunFrames X.base X.outer:=by
 have all:∀(l:List Env),(∀ b∈frs l,b∈X.fs)->X.s₀.heap.FunFrames X.base l->s.heap.FunFrames X.base l:=by
  intro l
  induction l with
  |nil=>intro _ _;trivial
  | cons env r ih =>
   intro hs f;obtain⟨g,⟨L,o,hf,hn,c,hd⟩,d⟩:=f;have a:L∈X.fs:=hs L (by unfold frs;rw[List.filterMap_cons,hf];exact o3);obtain⟨sl,e⟩:=I.base.slot L o c (I.ok.frf L a) a λz=>I.ok.exfs L z a;exact⟨g,⟨L,_,hf,hn,e,hd⟩,ih (λb hb=>hs b (by unfold frs;rw[List.filterMap_cons,hf];exact S2 _ hb)) d⟩
 exact all X.outer (λ_ hb=>hb) I.ok.funs
theorem TabsOk.un{K:Frag}{fs ex:List Addr}{H H':Hp}{h h':Heap}(t:TabsOk K H)(u:Un fs ex H H' h h'):TabsOk K H':=λc P e =>
 let ⟨m,q⟩:=t c P e;let ⟨b,a⟩:=u.tbls P _ q
 ⟨m++b,by rw[a,Array.append_assoc]⟩
theorem Inv.tab(I:Inv X pins σ H s):TabsOk X.K H:=I.ok.tab.un I.base
theorem Inv.stack(I:Inv X pins σ H s):s.heap.FunFrames X.base X.stack:=by
 rcases I.ok.stk with e|⟨e,hf⟩
 ·rw[e];exact I.funs
 ·rw[e];obtain⟨m,hn,_⟩:=I.loc;refine .cons (by rw[I.ok.kind];decide) hf hn ?_ I.funs;exact Heap.get?_none_of_le (W1 I.ok.bsz I.ok.above)
theorem Inv.stkSub(I:Inv X pins σ H s):∀ b∈frs X.stack,b∈X.env.locals::X.fs:=λb hb=>by
 rcases I.ok.stk with e|⟨e,hf⟩
 ·rw[e] at hb;exact S2 _ hb
 ·rw[e] at hb;unfold frs at hb;rw[List.filterMap_cons,hf] at hb;exact hb
theorem Inv.stkFree(I:Inv X pins σ H s):∀ b∈frs X.stack,H b=none:=λb hb=>by
 rcases D1.mp (I.stkSub b hb) with e|hb
 ·rw[e];exact I.free
 ·obtain⟨_,o,a,_⟩:=I.ok.funs.mem hb;exact I.base.free b o a (I.ok.frf b hb) λz=>I.ok.exfs b z hb
theorem Inv.step{g':Array GenState}{t':Nat}{d':Drawn}{ch:List Addr}(I:Inv X pins σ H s)
  (g:∀ b∈ch,(b∈X.ex\/X.s₀.heap.objs.size<=b)/\b ≠ X.env.locals/\(∀ x c,X.env.cells.lookup x=some c->c ≠ b)/\∀ p∈X.pn++pins,p.1 ≠ b)
  (keep:∀ b o,b ≠ X.env.locals->b ∉ X.fs->b ∉ ch->s.heap.get? b=some o->H b=none->h'.get? b=some o)
  (slot:∀ b o,b ≠ X.env.locals->b∈X.fs->b ∉ ch->s.heap.get? b=some o->H b=none->∃ sl,h'.get? b=some { o with slots:=sl }) (free:∀ b o,b ∉ ch->s.heap.get? b=some o->H b=none->H' b=none)
  (there:∀ b o,b ∉ ch->s.heap.get? b=some o->∃ o',h'.get? b=some o')
  (tups:∀ b xs,H b=some (.tup xs)->H' b=some (.tup xs)) (frzs:∀ b o u,H b=some (.frz o u)->H' b=some (.frz o u)) (tbls:∀ b ps,H b=some (.tbl ps)->∃ more,H' b=some (.tbl (ps++more)))
  (ns:∀ m,s.heap.Ns X.env.locals m->h'.Ns X.env.locals m) (hok:HOk X.prog X.w H' h') (F:AllBare g') :
  Inv X pins σ H' { s with heap:=h',gens:=g',drawn:=d',toks:=t' }:=by
 have B:∀ b o,X.s₀.heap.get? b=some o->b ≠ X.env.locals:=λb o e=>O1 (L4 (L0 e) I.ok.above);have j:∀ b o,X.s₀.heap.get? b=some o->b ∉ X.ex->b ∉ ch:=λb o e a hb=>by
  rcases(g b hb).1 with z|z
  ·exact a z
  ·exact absurd (L4 (L0 e) z) (t4 _)
 have f:∀ x c,X.env.cells.lookup x=some c->∀ v,s.heap.IsCell c v->h'.IsCell c v:=λx c e v G=>by
  obtain⟨o,A,hd⟩:=G;have h:c ∉ ch:=λz=>(g c z).2.2.1 x c e rfl;by_cases hc:c∈X.fs
  ·obtain⟨sl,q⟩:=slot c o (I.cne x c e) hc h A (I.freeC x c e);exact⟨_,q,hd⟩
  ·exact⟨o,keep c o (I.cne x c e) hc h A (I.freeC x c e),hd⟩
 refine⟨I.ok,I.os,F,⟨λb o e n hb a=>?_,λb o e n hb a=>?_,λb o e n a=>?_,λb o e a=>?_,λb xs e=>tups b xs (I.base.tups b xs e),λb o xs e=>frzs b o xs (I.base.frzs b o xs e),λb ps e=>?_⟩,?_,λx c e=>?_,?_,λx c e=>?_,λp D=>?_,hok,I.len⟩
 ·exact keep b o (B b o e) hb (j b o e a) (I.base.keep b o e n hb a) (I.base.free b o e n a)
 ·obtain⟨sl,y⟩:=I.base.slot b o e n hb a;obtain⟨C,e2⟩:=slot b _ (B b o e) hb (j b o e a) y (I.base.free b o e n a);exact⟨C,e2⟩
 ·obtain⟨o',y⟩:=I.base.there b o e a;exact free b o' (j b o e a) y (I.base.free b o e n a)
 ·obtain⟨o',y⟩:=I.base.there b o e a;exact there b o' (j b o e a) y
 ·obtain⟨L,y⟩:=I.base.tbls b ps e;obtain⟨M,e2⟩:=tbls b _ y;exact⟨L++M,by rw[e2,Array.append_assoc]⟩
 ·obtain⟨m,hn,J⟩:=I.loc;refine⟨m,ns m hn,λi x v y e2 K=>?_⟩;obtain⟨u,r,l⟩:=J i x v y e2 K;refine⟨u,r,?_⟩;rcases l with l|⟨k,c,e,z⟩
  ·exact .inl l
  ·exact .inr ⟨k,c,e,f x c e _ z⟩
 ·obtain⟨v,z⟩:=I.cell x c e;exact⟨v,f x c e v z⟩
 ·obtain⟨m,⟨o,_,_,A,_⟩,_⟩:=I.loc;exact free _ o (λz=>(g _ z).2.1 rfl) A I.free
 ·obtain⟨v,o,A,hd⟩:=I.cell x c e;exact free c o (λz=>(g c z).2.2.1 x c e rfl) A (I.freeC x c e)
 ·obtain⟨e,n,ne,E,d⟩:=I.pin p D;have h:p.1 ∉ ch:=λz=>(g p.1 z).2.2.2 p D rfl;exact⟨keep p.1 p.2 ne E h e n,free p.1 p.2 h e n,ne,E,d⟩
theorem Inv.un(I:Inv X pins σ H s)(u:Un X.fs [] H H' s.heap h')(hok:HOk X.prog X.w H' h'):Inv X pins σ H' { s with heap:=h',toks:=t' }:=by
 obtain⟨m,⟨o,es,ep,f,r⟩,_⟩:=id I.loc;obtain⟨sl,g⟩:=u.any f I.free (by simp)
 exact I.step (g':=s.gens) (d':=s.drawn) (ch:=[]) (λ_ z=>nomatch z) (λb o _ hb _ e n=>u.keep b o e n hb (by simp)) (λb o _ hb _ e n=>u.slot b o e n hb (by simp)) (λb o _ e n=>u.free b o e n (by simp)) (λb o _ e=>u.there b o e (by simp)) u.tups u.frzs u.tbls (λi hm=>by
  obtain⟨o',d,c,a,h⟩:=hm;rw[f] at a;cases a;exact⟨_,d,c,g,h⟩) hok I.bare
theorem Inv.call(I:Inv X pins σ H s)(u:Un (frs X.stack) ch H H' s.heap h')(hok:HOk X.prog X.w H' h')(l:AllBare g')
  (f:∀ b∈ch,(b∈X.ex\/X.s₀.heap.objs.size<=b)/\b ≠ X.env.locals/\(∀ x c,X.env.cells.lookup x=some c->c ≠ b)/\∀ p∈X.pn++pins,p.1 ≠ b) :
  Inv X pins σ H' { s with heap:=h',gens:=g',drawn:=d',toks:=t' }:=by
 obtain⟨m,⟨o,es,ep,j,r⟩,_⟩:=id I.loc;obtain⟨sl,g⟩:=u.any j I.free λz=>(f _ z).2.1 rfl;exact I.step (ch:=ch) f (λb o g hb a e n=>u.keep b o e n (λz=>(D1.mp (I.stkSub b z)).elim g hb) a) (λb o _ _ a e n=>u.any e n a) (λb o a e n=>u.free b o e n a) (λb o a e=>u.there b o e a) u.tups u.frzs u.tbls (λv hm=>by
  obtain⟨o',i,h,d,q⟩:=hm;rw[j] at d;cases d;exact⟨_,i,h,g,q⟩) hok l
theorem Inv.turned(I:Inv X pins σ H s)(k:∀ b o,b ≠ it->s.heap.get? b=some o->h'.get? b=some o)(hn:H it=none)(f:it ≠ X.env.locals)
  (j:it∈X.ex\/X.s₀.heap.objs.size<=it) (g:∀ x c,X.env.cells.lookup x=some c->c ≠ it) (i:∀ p∈X.pn++pins,p.1 ≠ it):Inv X pins σ H { s with heap:=h',toks:=t' }:=by
 have d:∀ b u,H b=some u->b ≠ it:=λb u e z=>by rw[z,hn] at e;cases e
 refine I.step (g':=s.gens) (d':=s.drawn) (ch:=[it]) (λb hb=>?_) (λb o _ _ a e _=>k b o (λz=>a (by simp[z])) e) (λb o _ _ a e _=>⟨o.slots,k b o (λz=>a (by simp[z])) e⟩) (λ_ _ _ _ n=>n)
  (λb o a e=>⟨o,k b o (λz=>a (by simp[z])) e⟩) (λ_ _ e=>e) (λ_ _ _ e=>e) (λb ps e=>⟨#[],by rw[e];simp⟩) (λm hm=>?_) (λb u e=>?_) I.bare
 ·have e:b=it:=by simpa using hb
  subst e;exact⟨j,f,g,i⟩
 ·obtain⟨o,es,ep,h,r⟩:=hm;exact⟨o,es,ep,k _ o (Ne.symm f) h,r⟩
 ·refine(I.hok b u e).stay (λc v a q=>k c v ?_ q) (λ_ q=>q) λ_ _ q=>q;rcases a with z|z
  ·rw[z];exact d b u e
  ·exact d c _ z
theorem Inv.tok(I:Inv X pins σ H s)(t:Nat):Inv X pins σ H { s with toks:=t }:=I.un (h':=s.heap) (t':=t) Un.refl I.hok
theorem Inv.kept(I:Inv X pins σ H s)(k:∀ b u,s.heap.get? b=some u->h'.get? b=some u):Inv X pins σ H { s with heap:=h',toks:=t' }:=I.un (Un.kept k) (I.hok.kept k)
theorem Inv.laid(I:Inv X pins σ H s)(k:∀ b u,s.heap.get? b=some u->h'.get? b=some u)(c:s.heap.objs.size<=a)(new:ObjOk X.prog X.w (upd H a o) h' a o) :
  Inv X pins σ (upd H a o) { s with heap:=h',toks:=t' }:=I.un (Un.laid k c (I.hok.fresh c)) (I.hok.laid k c new)
theorem Inv.write(I:Inv X pins σ H s)(c:Mut (H x))(d:e=x\/H e=some (.own x))(k:∀ b u,b ≠ e->s.heap.get? b=some u->h'.get? b=some u)(a:∃ u,h'.get? e=some u)
  (new:ObjOk X.prog X.w (upd H x o) h' x o):Inv X pins σ (upd H x o) { s with heap:=h',toks:=t' }:=I.un (Un.write c d k a) (I.hok.write c d k a new)
theorem Inv.pins_of(I:Inv X pins σ H s)(h:∀ p∈a,s.heap.get? p.1=some p.2/\H p.1=none/\p.1 ≠ X.env.locals/\p.1 ∉ X.fs/\∀ v,p.2.data ≠ .cell v):Inv X a σ H s :=
 ⟨I.ok,I.os,I.bare,I.base,I.loc,I.cell,I.free,I.freeC,λp b=>(Q1.mp b).elim (λz=>I.pin p (z5 _ z)) (h p),I.hok,I.len⟩
theorem nodup_ix{N:List Str}(c:N.Nodup){i j:Nat}{x:Str}(a:N[i]?=some x)(b:N[j]?=some x):i=j:=by
 obtain⟨g,d⟩:=N1.mp a;obtain⟨f,e2⟩:=N1.mp b;exact(List.getElem_inj c).mp (d.trans e2.symm)
theorem WD(I:Inv X pins σ H s)(hN:X.N.Nodup)(hi:X.N[i]?=some x)(B:Loc X.env.scope x)(r:RelV v u)
  (h:∀ s',Inv X pins (σ.set i (some v)) H s'->(∃ a,Heap.SameBut a s.heap s'.heap/\(a=X.env.locals\/X.env.cells.lookup x=some a))->Q () s') (hf:X.fn x=true\/X.env.scope.names.lookup x=some .local:=by first|exact .inl rfl|exact .inr rfl|assumption):wpAny M A (storeName X.env x u) Q E s:=by
 obtain⟨m,hn,hl⟩:=id I.loc;have K:(X.env.scope.kind == .class || (X.env.scope.kind == .module && X.env.locals != X.env.globals))=false:=by rw[I.ok.kind];rfl
 have D:i<σ.length:=by rw[I.len];exact(N1.mp hi).1
 have cne:=I.cne;have f:∀{a:Addr}{h':Heap},(∃ o,s.heap.get? a=some o/\H a=none)->Heap.SameBut a s.heap h'->HOk X.prog X.w H h':=λ{a h'} ha hs b ob e=>by
  obtain⟨_,_,C⟩:=ha;refine(I.hok b ob e).stay (λc R l q=>(hs.2 c ?_).trans q) (λ_ q=>q) λ_ _ q=>q;rintro rfl;rcases l with rfl|l
  ·rw[C] at e;cases e
  ·rw[C] at l;cases l
 rcases B with F|F
 ·refine wpAny_storeName_local F hn (λh' a1 hs=>?_) K;obtain⟨oL,_,_,a0,_⟩:=id hn;refine h _ ⟨I.ok,I.os,I.bare,⟨λb o e n hb B=>?_,λb o e n hb B=>?_,I.base.free,λb o e B=>?_,I.base.tups,I.base.frzs,I.base.tbls⟩,⟨_,a1,λj y T g e2 Y=>?_⟩,λy c e=>?_,I.free,I.freeC,λp U=>?_,f ⟨oL,a0,I.free⟩ hs,by simpa using I.len⟩ ⟨_,hs,.inl rfl⟩
  ·exact(hs.2 b (O1 (L4 (L0 e) I.ok.above))).trans (I.base.keep b o e n hb B)
  ·obtain⟨sl,g⟩:=I.base.slot b o e n hb B;exact⟨sl,(hs.2 b (O1 (L4 (L0 e) I.ok.above))).trans g⟩
  ·obtain⟨o',g⟩:=I.base.there b o e B;exact⟨o',(hs.2 b (O1 (L4 (L0 e) I.ok.above))).trans g⟩
  ·by_cases hj:j=i
   ·subst hj;rw[hi] at g;cases g;rw[List.getElem?_set_self D] at e2;cases e2;exact⟨u,r,.inl ⟨F,by simp⟩⟩
   ·rw[List.getElem?_set_ne (Ne.symm hj)] at e2;obtain⟨S,W,q⟩:=hl j y T g e2 Y;refine⟨S,W,?_⟩;rcases q with ⟨k,e⟩|⟨k,c,e,z⟩
    ·refine .inl ⟨k,?_⟩;have:y ≠ x:=λe=>hj (nodup_ix hN g (e ▸ hi));simp[this,e]
    ·exact .inr ⟨k,c,e,z.sameBut hs (cne y c e)⟩
  ·obtain⟨R,z⟩:=I.cell y c e;exact⟨R,z.sameBut hs (cne y c e)⟩
  ·obtain⟨e,n,ne,Z,d⟩:=I.pin p U;exact⟨(hs.2 p.1 ne).trans e,n,ne,Z,d⟩
 ·have G:X.fn x=true:=by
   rcases hf with z|z
   ·exact z
   ·rw[z] at F;cases F
  obtain⟨c,l⟩:=I.ok.has x (.inl F);obtain⟨R,z⟩:=I.cell x c l;refine wpAny_storeName_cell I.ok.kind F l z (λh' L hs=>?_);obtain⟨oc,O,J⟩:=id z;refine h { s with heap:=h' } ⟨I.ok,I.os,I.bare,⟨λb o e n hb B=>?_,λb o e n hb B=>?_,I.base.free,λb o e B=>?_,I.base.tups,I.base.frzs,I.base.tbls⟩,⟨m,hn.sameBut hs (Ne.symm (cne x c l)),λj y T g e2 Y=>?_⟩,λy P e=>?_,I.free,I.freeC,λp U=>?_,f ⟨oc,O,I.freeC x c l⟩ hs,by simpa using I.len⟩ ⟨c,hs,.inr l⟩
  ·exact(hs.2 b (O1 (L4 (L0 e) (I.ok.cab x c G l)))).trans (I.base.keep b o e n hb B)
  ·obtain⟨sl,g⟩:=I.base.slot b o e n hb B;exact⟨sl,(hs.2 b (O1 (L4 (L0 e) (I.ok.cab x c G l)))).trans g⟩
  ·obtain⟨o',g⟩:=I.base.there b o e B;exact⟨o',(hs.2 b (O1 (L4 (L0 e) (I.ok.cab x c G l)))).trans g⟩
  ·by_cases hj:j=i
   ·subst hj;rw[hi] at g;cases g;rw[List.getElem?_set_self D] at e2;cases e2;exact⟨u,r,.inr ⟨.inl F,c,l,L⟩⟩
   ·rw[List.getElem?_set_ne (Ne.symm hj)] at e2;obtain⟨S,W,q⟩:=hl j y T g e2 Y;refine⟨S,W,?_⟩;rcases q with q|⟨k,P,e,z'⟩
    ·exact .inl q
    ·refine .inr ⟨k,P,e,z'.sameBut hs ?_⟩;rintro rfl;exact hj (nodup_ix hN g (I.ok.inj _ _ _ e l ▸ hi))
  ·by_cases hcc:P=c
   ·subst hcc;exact⟨_,L⟩
   ·obtain⟨w2,z2⟩:=I.cell y P e;exact⟨w2,z2.sameBut hs hcc⟩
  ·obtain⟨e,n,ne,Z,d⟩:=I.pin p U;refine⟨(hs.2 p.1 ?_).trans e,n,ne,Z,d⟩;intro q;rw[q,O] at e;have q':oc=p.2:=u3 e;exact d R (by rw[← q'];exact J)
theorem AF(I:Inv X pins σ H s)(a:X.N.Nodup)(hi:X.N[i]?=some x)(c:Loc X.env.scope x)(r:RelV v u)
  (h:∀ s',Inv X pins (σ.set i (some v)) H s'->Q () s') (hf:X.fn x=true\/X.env.scope.names.lookup x=some .local:=by first|exact .inl rfl|exact .inr rfl|assumption):wpAny M A (storeName X.env x u) Q E s :=
 WD I a hi c r (λs' b _=>h s' b) hf
theorem Inv.call'(I:Inv X pins σ H s)(f:s'.os=s.os)(u:Un (frs X.stack) ch H H' s.heap s'.heap)(hok:HOk X.prog X.w H' s'.heap)(d:AllBare s'.gens)
  (a:∀ b∈ch,(b∈X.ex\/X.s₀.heap.objs.size<=b)/\b ≠ X.env.locals/\(∀ x c,X.env.cells.lookup x=some c->c ≠ b)/\∀ p∈X.pn++pins,p.1 ≠ b):Inv X pins σ H' s':=by
 obtain⟨h',g',d',t',o'⟩:=s';have e:o'=s.os:=f;subst e;exact I.call (g':=g') (t':=t') (d':=d') u hok d a
end
abbrev XK:=Value->Option Addr->Hp->Prop
abbrev St:=List (Option V)
abbrev VK:=V->Hp->Prop
abbrev TE:=St->Hp->VK->Prop
abbrev TT:=St->Hp->(Bool->Hp->Prop)->Prop
abbrev TA:=St->Hp->(List V->Hp->Prop)->Prop
structure Ends where
 nx:St->Hp->Prop
 rt:VK
 bk:St->Hp->Prop:=λ_ _=>False
 ct:St->Hp->Prop:=λ_ _=>False
abbrev TS:=Ends->St->Hp->Prop
def EP(X:Cx)(pins:List (Addr × Obj))(σ:St)(Q:VK)(u:Value)(s':Shared):Prop:=∃ v H',Inv X pins σ H' s'/\RelV v u/\Q v H'
def TP(X:Cx)(pins:List (Addr × Obj))(σ:St)(Q:Bool->Hp->Prop)(b:Bool)(s':Shared):Prop:=∃ H',Inv X pins σ H' s'/\Q b H'
def AP(X:Cx)(pins:List (Addr × Obj))(σ:St)(Q:List V->Hp->Prop)(us:List Value)(s':Shared):Prop:=∃ vs H',Inv X pins σ H' s'/\Vals vs us/\Q vs H'
def SP(X:Cx)(pins:List (Addr × Obj))(D:Ends)(f:Flow)(s':Shared):Prop :=
 match f with
 | .next=>∃ σ' H',Inv X pins σ' H' s'/\D.nx σ' H'
 | .brk=>∃ σ' H',Inv X pins σ' H' s'/\D.bk σ' H'
 | .cont=>∃ σ' H',Inv X pins σ' H' s'/\D.ct σ' H'
 | .ret u=>∃ v σ' H',Inv X pins σ' H' s'/\RelV v u/\D.rt v H'
def PE(X:Cx)(e:Expr)(t:TE):Prop :=
 ∀(pins:List (Addr × Obj))(s:Shared)(σ:St)(H:Hp)(Q:VK),Inv X pins σ H s->t σ H Q->wpAny (model X.prog X.w) X.A (eval e X.env) (EP X pins σ Q) X.xe s
def PT(X:Cx)(e:Expr)(t:TT):Prop :=
 ∀(pins:List (Addr × Obj))(s:Shared)(σ:St)(H:Hp)(Q:Bool->Hp->Prop),Inv X pins σ H s->t σ H Q->wpAny (model X.prog X.w) X.A (isTrue e X.env (eval e X.env)) (TP X pins σ Q) X.xe s
def PW(X:Cx)(e:Expr)(t:TT):Prop :=
 ∀(whole:Sem Value)(pins:List (Addr × Obj))(s:Shared)(σ:St)(H:Hp)(Q:Bool->Hp->Prop),Inv X pins σ H s->t σ H Q->wpAny (model X.prog X.w) X.A (isTrue e X.env whole) (TP X pins σ Q) X.xe s
theorem PW.pt(h:PW X e t):PT X e t:=h _
def PA(X:Cx)(es:List Expr)(t:TA):Prop :=
 ∀(pos:Pos)(pins:List (Addr × Obj))(s:Shared)(σ:St)(H:Hp)(Q:List V->Hp->Prop),Inv X pins σ H s->t σ H Q->wpAny (model X.prog X.w) X.A (spliced (backTo pos (starEach es X.env))) (AP X pins σ Q) X.xe s
def PS(X:Cx)(st:Stmt)(t:TS):Prop :=
 ∀(pins:List (Addr × Obj))(s:Shared)(σ:St)(H:Hp)(D:Ends),Inv X pins σ H s->t D σ H->wpAny (model X.prog X.w) X.A (exec st X.env) (SP X pins D) X.xe s
def PSs(X:Cx)(st:List Stmt)(t:TS):Prop :=
 ∀(pins:List (Addr × Obj))(s:Shared)(σ:St)(H:Hp)(D:Ends),Inv X pins σ H s->t D σ H->wpAny (model X.prog X.w) X.A (execs st X.env) (SP X pins D) X.xe s
theorem thn{α:Type}{t:Sem α}{Q Q' : α->Shared->Prop}{M:Model}{A:Around}{E:Value->Shared->Prop}{s:Shared}(h:wpAny M A t Q E s)(b:∀ a s,Q a s->Q' a s):wpAny M A t Q' E s:=V3 h b λ_ _ x=>x
section
def tVar(i:Nat):TE:=λσ H Q=>∃ v,σ[i]?=some (some v)/\Q v H
def tC(v:V):TE:=λ_ H Q=>Q v H
theorem FM(g:X.N[i]?=some x)(j:Vis X.env.scope x)(hd:(x == ("__debug__" : Str))=false:=by decide)(d:(x == ("__classdict__" : Str))=false:=by decide):PE X (.Name x pos) (tVar i):=by
 intro pins s σ H Q I h;obtain⟨v,e,h⟩:=h;obtain⟨m,hn,n⟩:=I.loc;obtain⟨u,r,l⟩:=n i x v g e j;have fin:EP X pins σ Q u s:=⟨v,H,I,r,h⟩
 rcases l with ⟨b,hm⟩|⟨b,c,f,a⟩
 ·exact wpAny_Name (wpAny_loadName_local I.ok.kind b hn hm fin) hd
 ·rcases b with b|b
  ·exact wpAny_Name (wpAny_loadName_cell I.ok.kind b f a fin) hd
  ·exact wpAny_Name (wpAny_loadName_free I.ok.kind b f a fin d) hd
theorem t0{i j pos}:PE X (.Constant (.int i) j pos) (tC (.int i)):=λ_ _ _ H _ I h=>wpAny_Constant_int ⟨.int i,H,I.tok _,⟨_,rfl⟩,h⟩
theorem t3{b j pos}:PE X (.Constant (.bool b) j pos) (tC (.bl b)):=λ_ _ _ H _ I h=>Constant_bool ⟨.bl b,H,I,rfl,h⟩
theorem Z6{j pos}:PE X (.Constant .none j pos) (tC .non):=λ_ _ _ H _ I h=>Constant_none ⟨.non,H,I,rfl,h⟩
theorem mB{x j pos}:PE X (.Constant (.str x) j pos) (tC (.str x)):=λ_ _ _ H _ I h=>Calls.Constant_str ⟨.str x,H,I.tok _,⟨_,rfl⟩,h⟩
def Gl(X:Cx)(x:Str):Prop:=X.env.kindOf x=some .globalImplicit
theorem wE(I:Inv X pins σ H s)(a:Gl X x)(hm:X.mg x=some u)(h:Q u s)
  (hd:(x == ("__debug__" : Str))=false:=by decide):wpAny (model X.prog X.w) X.A (eval (.Name x pos) X.env) Q E s :=
 Calls.Name_function_global I.ok.kind a (Calls.loadGlobal_global (by rw[I.ok.glob];exact I.mod.glob.keeps I.bk) hm h) hd
theorem p6{E:Value->Shared->Prop}{pins:List (Addr × Obj)}{s:Shared}{σ:St}{H:Hp}{x:Str}{u:Value}{pos:Pos}{Q:Value->Shared->Prop}(I:Inv X pins σ H s)(a:Gl X x)(hm:X.mg x=none)(c:bootBuiltins x=some u)(h:Q u s)
  (hn:x ≠ "__name__":=by decide) (hd:(x == ("__debug__" : Str))=false:=by decide):wpAny (model X.prog X.w) X.A (eval (.Name x pos) X.env) Q E s:=by
 obtain⟨mb,d,b⟩:=I.mod.blt;exact Calls.Name_function_global I.ok.kind a (Calls.loadGlobal_builtin (by rw[I.ok.glob];exact I.mod.glob.keeps I.bk) hm (by rw[I.ok.blt];exact d.keeps I.bk) ((b x hn).trans c) h) hd
theorem f9(a:Gl X x)(hm:X.mg x=some u)(r:RelV v u)(hd:(x == ("__debug__" : Str))=false:=by decide):PE X (.Name x pos) (tC v) :=
 λ_ _ _ H _ I h=>wE I a hm ⟨v,H,I,r,h⟩ hd
theorem u7(a:Gl X x)(hm:X.mg x=none)(b:bootBuiltins x=some u)(r:RelV v u)(hn:x ≠ "__name__":=by decide)(hd:(x == ("__debug__" : Str))=false:=by decide):PE X (.Name x pos) (tC v) :=
 λ_ _ _ H _ I h=>p6 I a hm b ⟨v,H,I,r,h⟩ hn hd
variable{a b:Expr}{ta tb:TE}{pos:Pos}
def PC(X:Cx)(op:CmpOp)(a b:Expr)(t:TE):Prop :=
 ∀(pins:List (Addr × Obj))(s:Shared)(σ:St)(H:Hp)(Q:VK),Inv X pins σ H s->t σ H Q ->
  wpAny (model X.prog X.w) X.A (eval a X.env) (λv s₁=>wpAny (model X.prog X.w) X.A (eval b X.env) (λu s₂=>wpAny (model X.prog X.w) X.A (compareOp op v u) (EP X pins σ Q) X.xe s₂) X.xe s₁) X.xe s
def tB(t:TE):TT:=λσ H Q=>t σ H λx H1=>∃ c,x=.bl c/\Q c H1
theorem YJ{op:CmpOp}{t:TE}(h:PC X op a b t)(f:behindInMarks op b=false:=by first|exact nobehind _ (by decide) (by decide)|rfl):PT X (.Compare a [op] [b] pos) (tB t):=by
 intro pins s σ H Q I l;refine wpAny_isTrue_Compare1 (thn (h pins s σ H _ I l) λv s1 f=>thn f λu s2 i=>thn i λc o ⟨x,j,m,n,g⟩=>?_) f;obtain⟨d,rfl,q⟩:=g;cases n;exact B6 ⟨j,m,q⟩
theorem n4{e:Expr}{t:TE}(h:PE X e t)(c:∀ whole,isTrue e X.env whole=(do let v ← whole;standAt e.pos;holding [v] (truthy v)):=by intro _;rfl):PT X e (tB t):=by
 intro pins s σ H Q I f;refine isTrue_plain (thn (h pins s σ H _ I f) λv s1 ⟨x,b,g,i,a⟩=>?_) (c _);obtain⟨d,rfl,q⟩:=a;cases i;exact B6 ⟨b,g,q⟩
variable{tA tB':TT}{rest:List Expr}
def tAnd(t u:TT):TT:=λσ H Q=>t σ H λc H1=>if c=true then u σ H1 Q else Q false H1
def tOr(t u:TT):TT:=λσ H Q=>t σ H λc H1=>if c=true then Q true H1 else u σ H1 Q
def tNot(t:TT):TT:=λσ H Q=>t σ H λc H1=>Q (!c) H1
theorem T7(ha:PT X a tA):PW X (.BoolOp .And [a] pos) tA:=by
 intro b pins s σ H Q I h;refine isTrue_and (thn (ha pins s σ H Q I h) λc s1 e=>?_);cases c with
 |true=>exact isTrue_and_nil e
 |false=>exact e
theorem J5(ha:PT X a tA):PW X (.BoolOp .Or [a] pos) tA:=by
 intro b pins s σ H Q I h;refine isTrue_or (thn (ha pins s σ H Q I h) λc s1 e=>?_);cases c with
 |false=>exact isTrue_or_nil e
 |true=>exact e
theorem P7(ha:PT X a tA)(hb:PW X (.BoolOp .And (b::rest) pos) tB'):PW X (.BoolOp .And (a::b::rest) pos) (tAnd tA tB'):=by
 intro i pins s σ H Q I h;refine isTrue_and (thn (ha pins s σ H _ I h) λc s1 ⟨f,g,d⟩=>?_);cases c with
 |true=>exact hb i pins s1 σ f Q g d
 |false=>exact⟨f,g,d⟩
theorem T4(ha:PT X a tA)(hb:PW X (.BoolOp .Or (b::rest) pos) tB'):PW X (.BoolOp .Or (a::b::rest) pos) (tOr tA tB'):=by
 intro i pins s σ H Q I h;refine isTrue_or (thn (ha pins s σ H _ I h) λc s1 ⟨f,g,d⟩=>?_);cases c with
 |true=>exact⟨f,g,d⟩
 |false=>exact hb i pins s1 σ f Q g d
theorem B4(ha:PT X a tA):PT X (.UnaryOp .Not a pos) (tNot tA):=by
 intro pins s σ H Q I h;exact isTrue_not (ha pins s σ H (λc b=>Q (!c) b) I h)
def MD(ta tb:TE):TE:=λσ H Q=>ta σ H λx H1=>∃ c,x=.bl c/\if c=true then tb σ H1 Q else Q (.bl false) H1
def tOrV(ta tb:TE):TE:=λσ H Q=>ta σ H λx H1=>∃ c,x=.bl c/\if c=true then Q (.bl true) H1 else tb σ H1 Q
def uD(ta:TE):TE:=λσ H Q=>ta σ H λx H1=>∃ c,x=.bl c/\Q (.bl (!c)) H1
theorem C6{op}(h:PE X a t):PE X (.BoolOp op [a] pos) t:=λpins s σ H Q I b=>BoolOp_one (h pins s σ H Q I b)
theorem U5(ha:PE X a ta)(hb:PE X (.BoolOp .And (b::rest) pos) tb):PE X (.BoolOp .And (a::b::rest) pos) (MD ta tb):=by
 intro pins s σ H Q I h;refine BoolOp_and (thn (ha pins s σ H _ I h) λv s1 ⟨x,f,g,i,d⟩=>?_);obtain⟨c,rfl,d⟩:=d;cases i;refine B6 ?_;cases c with
 |true=>exact hb pins s1 σ f Q g d
 |false=>exact⟨.bl false,f,g,rfl,d⟩
theorem rT(ha:PE X a ta)(hb:PE X (.BoolOp .Or (b::rest) pos) tb):PE X (.BoolOp .Or (a::b::rest) pos) (tOrV ta tb):=by
 intro pins s σ H Q I h;refine BoolOp_or (thn (ha pins s σ H _ I h) λv s1 ⟨x,f,g,i,d⟩=>?_);obtain⟨c,rfl,d⟩:=d;cases i;refine B6 ?_;cases c with
 |false=>exact hb pins s1 σ f Q g d
 |true=>exact⟨.bl true,f,g,rfl,d⟩
theorem AN(ha:PE X a ta):PE X (.UnaryOp .Not a pos) (uD ta):=by
 intro pins s σ H Q I h;refine UnaryOp_ (thn (ha pins s σ H _ I h) λv s1 ⟨x,d,f,g,b⟩=>?_);obtain⟨c,rfl,b⟩:=b;cases g;exact not_of (B6 ⟨.bl (!c),d,f,rfl,b⟩)
def tIf(t:TT)(ta tb:TE):TE:=λσ H Q=>t σ H λc H1=>if c=true then ta σ H1 Q else tb σ H1 Q
theorem cJ{c:Expr}(j:PT X c tA)(ha:PE X a ta)(hb:PE X b tb):PE X (.IfExp c a b pos) (tIf tA ta tb):=by
 intro pins s σ H Q I h;refine wpAny_IfExp (thn (j pins s σ H _ I h) λd s1 ⟨g,i,f⟩=>?_);cases d with
 |true=>exact ha pins s1 σ g Q i f
 |false=>exact hb pins s1 σ g Q i f
end
def SqL(K:Frag)(H:Hp)(a:Addr)(xs:List V):Prop :=
 Rd H a (.lst xs) ∨
  ∃(o:Obj)(its:Array Value)(n:Nat),K.lookup a=some o/\o.cls=.type "list"/\o.dict=none/\o.data=.seq its n/\its.size<=sizeLine/\Vals xs its.toList
def SqT(K:Frag)(H:Hp)(a:Addr)(xs:List V):Prop :=
 Rd H a (.tup xs) ∨
  ∃(o:Obj)(its:Array Value)(n:Nat),K.lookup a=some o/\o.cls=.type "tuple"/\o.data=.seq its n/\its.size<=sizeLine/\Vals xs its.toList
def absV:Value->Option V
 | .none=>some .non
 | .bool b=>some (.bl b)
 | .int i _=>some (.int i)
 | .str x _=>some (.str x)
 | .bytes b _=>some (.byt b)
 | .float b _=>some (.flt b)
 | .ref a=>some (.ref a)
 | .type n=>some (.ty n)
 |_=>none
theorem RelV.abs(r:RelV x u):absV u=some x:=by
 cases x with
 |non=>cases r;rfl
 |bl _=>cases r;rfl
 |int _=>obtain⟨t,rfl⟩:=r;rfl
 |str _=>obtain⟨t,rfl⟩:=r;rfl
 |byt _=>obtain⟨t,rfl⟩:=r;rfl
 |flt _=>obtain⟨t,rfl⟩:=r;rfl
 |ref _=>cases r;rfl
 |ty _=>cases r;rfl
theorem RelV.inj(r:RelV x u)(q:RelV y u):x=y:=u3 (r.abs.symm.trans q.abs)
theorem Vals.inj:∀{xs ys:List V}{us:List Value},Vals xs us->Vals ys us->xs=ys
 |_,_,_,.nil,.nil=>rfl
 |_,_,_,.cons r t,.cons r' t'=>by rw[r.inj r',Vals.inj t t']
theorem SqL.of{K:Frag}(h:H a=some (.lst xs)):SqL K H a xs:=.inl (.inl h)
theorem SqT.of{K:Frag}(h:H a=some (.tup xs)):SqT K H a xs:=.inl (.inl h)
theorem Inv.list(I:Inv X pins σ H s)(h:SqL X.K H a xs):∃ its:List Value,Vals xs its/\PlainL s.heap a its.toArray/\xs.length<=sizeLine:=by
 rcases h with h|⟨o,its,n,b,c,hd,hs,d,r⟩
 ·obtain⟨z,its,n,r,e⟩:=h.ok I.hok;exact⟨its,r,⟨_,n,e,rfl,rfl,rfl⟩,z⟩
 ·refine⟨its.toList,r,⟨o,n,I.kIn a o b,c,hd,by simpa using hs⟩,?_⟩;have e:=r.length;simp only[iC] at e;lia
theorem Inv.tuple(I:Inv X pins σ H s)(h:SqT X.K H a xs):∃ its:List Value,Vals xs its/\IsTup s.heap a its.toArray/\xs.length<=sizeLine:=by
 rcases h with h|⟨o,its,n,b,c,hs,d,r⟩
 ·obtain⟨z,its,r,p⟩:=h.ok I.hok;exact⟨its,r,p,z⟩
 ·refine⟨its.toList,r,⟨o,I.kIn a o b,c,n,by simpa using hs⟩,?_⟩;have e:=r.length;simp only[iC] at e;lia
theorem Inv.list_inj(I:Inv X pins σ H s)(h:SqL X.K H a xs)(h':SqL X.K H a ys):xs=ys:=by
 obtain⟨its,r,⟨o,n,e,_,_,d⟩,_⟩:=I.list h;obtain⟨its',c,⟨o',g,b,_,_,d'⟩,_⟩:=I.list h';rw[e] at b;cases b;rw[d] at d';injection d' with f _;have:its=its':=by simpa using congrArg Array.toList f
 subst this;exact r.inj c
abbrev Cx.wish(X:Cx)(E:Value->Shared->Prop):Cx:={ X with xe:=E }
abbrev Cx.nox(X:Cx):Cx:=X.wish λ_ _=>False
theorem Cx.Ok.wish{X:Cx}(ok:X.Ok)(E:Value->Shared->Prop):(X.wish E).Ok :=
 ⟨ok.mod,ok.kind,ok.glob,ok.blt,ok.above,ok.inj,ok.has,ok.cab,ok.hd,ok.frames,ok.stk,ok.exf,ok.bs,ok.bsz,ok.noex,ok.exfs,ok.funs,ok.frf,ok.tab⟩
theorem Cx.Ok.unwish{X:Cx}{E:Value->Shared->Prop}(ok:(X.wish E).Ok):X.Ok :=
 ⟨ok.mod,ok.kind,ok.glob,ok.blt,ok.above,ok.inj,ok.has,ok.cab,ok.hd,ok.frames,ok.stk,ok.exf,ok.bs,ok.bsz,ok.noex,ok.exfs,ok.funs,ok.frf,ok.tab⟩
theorem Inv.wish(I:Inv X pins σ H s)(E:Value->Shared->Prop):Inv (X.wish E) pins σ H s:=⟨I.ok.wish E,I.os,I.bare,I.base,I.loc,I.cell,I.free,I.freeC,I.pin,I.hok,I.len⟩
theorem Inv.unwish(I:Inv (X.wish E) pins σ H s):Inv X pins σ H s:=⟨I.ok.unwish,I.os,I.bare,I.base,I.loc,I.cell,I.free,I.freeC,I.pin,I.hok,I.len⟩
theorem SP.unwish(h:SP (X.wish E) pins D f s'):SP X pins D f s':=by
 cases f with
 |next=>obtain⟨a,H',I,q⟩:=h;exact⟨a,H',I.unwish,q⟩
 |brk=>obtain⟨a,H',I,q⟩:=h;exact⟨a,H',I.unwish,q⟩
 |cont=>obtain⟨a,H',I,q⟩:=h;exact⟨a,H',I.unwish,q⟩
 |ret u=>obtain⟨v,a,H',I,r,q⟩:=h;exact⟨v,a,H',I.unwish,r,q⟩
theorem PSs.nox{st:List Stmt}{t:TS}(h:PSs X.nox st t):PSs X st t:=λpins s σ H D I a =>
 V3 (h pins s σ H D (I.wish _) a) (λ_ _ q=>q.unwish) λ_ _ z=>False.elim z
section
variable{X:Cx}{st:Stmt}{rest:List Stmt}{t u:TS}{e:Expr}{te:TE}{pos:Pos}
def xG:TS:=λD σ H=>D.nx σ H
def tSeq(t u:TS):TS:=λD σ H=>t { D with nx:=u D } σ H
theorem A2:PSs X [] xG:=λ_ _ σ H _ I h=>wpAny_execs_nil ⟨σ,H,I,h⟩
theorem D0(c:PS X st t)(b:PSs X rest u):PSs X (st::rest) (tSeq t u):=by
 intro pins s σ H D I h;refine wpAny_execs_cons (thn (c pins s σ H { D with nx:=u D } I h) λf s1 q=>?_);cases f with
 | next =>
  obtain⟨a,H',d,q⟩:=q;exact b pins s1 a H' D d q
 |ret v=>exact q
 |brk=>exact q
 |cont=>exact q
theorem I0(a:PS X st t):PSs X [st] t:=by
 intro pins s σ H D I h;refine wpAny_execs_cons (thn (a pins s σ H D I h) λf s1 q=>?_);cases f with
 |next=>exact wpAny_execs_nil q
 |ret v=>exact q
 |brk=>exact q
 |cont=>exact q
theorem Inv.quiet{pins:List (Addr × Obj)}{σ:St}{H:Hp}{s:Shared}(I:Inv X pins σ H s):interactive X.env=false:=by simp[interactive,I.ok.kind]
def OH(te:TE):TS:=λD σ H=>te σ H λ_ H1=>D.nx σ H1
theorem Z3(d:PE X e te)(hs:swapsWith e none pos.line X.env=pure false:=by rfl):PS X (.Expr e pos) (OH te):=by
 intro pins s σ H D I h;exact wpAny_Expr_any (thn (d pins s σ H _ I h) λv s1 ⟨x,b,c,f,a⟩=>⟨σ,b,c,a⟩) I.quiet hs
def tRet(te:TE):TS:=λD σ H=>te σ H D.rt
theorem O0(f:PE X e te):PS X (.Return (some e) pos) (tRet te):=by
 intro pins s σ H D I h;exact wpAny_Return_some (thn (f pins s σ H _ I h) λv s1 ⟨x,b,c,d,a⟩=>⟨x,σ,b,c,d,a⟩)
def tIfS(c:TT)(t u:TS):TS:=λD σ H=>c σ H λb H1=>if b=true then t D σ H1 else u D σ H1
theorem Z1{c:Expr}{a b:List Stmt}{i:TT}(l:PT X c i)(ha:PSs X a t)(hb:PSs X b u):PS X (.If c a b pos) (tIfS i t u):=by
 intro pins s σ H D I h;refine wpAny_If (thn (l pins s σ H _ I h) λd s1 ⟨g,j,f⟩=>?_);cases d with
 |true=>exact ha pins s1 σ g D j f
 |false=>exact hb pins s1 σ g D j f
def QN:TS:=λ_ _ _=>False
theorem A8:PS X st QN:=λ_ _ _ _ _ _ h=>h.elim
end
abbrev TG:=V->St->Hp->(St->Hp->Prop)->Prop
abbrev TGs:=List V->St->Hp->(St->Hp->Prop)->Prop
def PG(X:Cx)(target:Expr)(t:TG):Prop :=
 ∀(pins:List (Addr × Obj))(s:Shared)(σ:St)(H:Hp)(v:V)(u:Value)(Q:St->Hp->Prop),Inv X pins σ H s->RelV v u->t v σ H Q ->
  wpAny (model X.prog X.w) X.A (assign target X.env u) (λ_ s'=>∃ σ' H',Inv X pins σ' H' s'/\Q σ' H') X.xe s
def PGs(X:Cx)(ts:List Expr)(t:TGs):Prop :=
 ∀(pins:List (Addr × Obj))(s:Shared)(σ:St)(H:Hp)(vs:List V)(us:List Value)(Q:St->Hp->Prop),Inv X pins σ H s->Vals vs us->t vs σ H Q ->
  wpAny (model X.prog X.w) X.A (assignInOrder ((assignEach ts X.env).map (·.2)) us) (λ_ s'=>∃ σ' H',Inv X pins σ' H' s'/\Q σ' H') X.xe s
abbrev TSet:=V->V->V->Hp->(Hp->Prop)->Prop
def PSet(X:Cx)(t:TSet):Prop :=
 ∀(pins:List (Addr × Obj))(s:Shared)(σ:St)(H:Hp)(o i v:V)(ov iv u:Value)(Q:Hp->Prop),Inv X pins σ H s->RelV o ov->RelV i iv->RelV v u->t o i v H Q ->
  wpAny (model X.prog X.w) X.A (setItem ov iv u) (λ_ s'=>∃ H',Inv X pins σ H' s'/\Q H') X.xe s
def N2(i:Nat):TG:=λv σ H Q=>Q (σ.set i (some v)) H
theorem T0(a:X.N.Nodup)(hi:X.N[i]?=some x)(c:Loc X.env.scope x)(hf:X.fn x=true\/X.env.scope.names.lookup x=some .local:=by first|exact .inl rfl|exact .inr rfl|assumption):PG X (.Name x pos) (N2 i):=by
 intro pins s σ H v u Q I r h;exact wpAny_assign_Name (AF I a hi c r (λs' b=>⟨_,H,b,h⟩) hf)
def gNil:TGs:=λvs σ H Q=>vs=[]/\Q σ H
def V7(t:TG)(u:TGs):TGs:=λvs σ H Q=>∃ v r,vs=v::r/\t v σ H λσ' H'=>u r σ' H' Q
theorem o5:PGs X [] gNil:=by
 intro pins s σ H vs us Q I r h;obtain⟨e,h⟩:=h;subst e;cases r;exact assignInOrder_nil ⟨σ,H,I,h⟩
theorem X2{e:Expr}{es:List Expr}{t:TG}{u:TGs}(f:PG X e t)(c:PGs X es u)
  (hs:(assignEach (e::es) X.env).map (·.2)=assign e X.env::(assignEach es X.env).map (·.2):=by rfl):PGs X (e::es) (V7 t u):=by
 intro pins s σ H vs us Q I r h;obtain⟨v,j,g,h⟩:=h;subst g;cases r with
 | cons r rr =>
  rw[hs];refine assignInOrder_cons (thn (f pins s σ H _ _ _ I r h) λ_ s1 ⟨a,d,i,b⟩=>?_);exact c pins s1 a d _ _ Q i rr b
def gTup(K:Frag)(n:Nat)(t:TGs):TG:=λv σ H Q=>∃ a xs,v=.ref a/\SqT K H a xs/\xs.length=n/\t xs σ H Q
theorem j5(g:X.calm=true)(h:PGs X es t)
  (hn:(assignEach es X.env).length=n:=by rfl) (c:(assignEach es X.env).findIdx? (·.1)=none:=by rfl):PG X (.Tuple es k pos) (gTup X.K n t):=by
 intro pins s σ H v u Q I r d;obtain⟨a,xs,p,i,l,d⟩:=d;subst p;cases r;obtain⟨its,f,m,w⟩:=I.tuple i;refine assign_Tuple_tuple (I.ok.hd g) m (by simp[hn,← l,f.length]) c λh' j=>?_;have q:Inv X pins σ H { s with heap:=h' }:=I.kept (t':=s.toks) λb o e=>j b o (O1 (L0 e)) e;exact h pins _ σ H xs _ Q q (by simpa using f) d
def gSub(to ti:TE)(t:TSet):TG:=λv σ H Q=>to σ H λo H1=>ti σ H1 λi H2=>t o i v H2 λH3=>Q σ H3
theorem LE{o i:Expr}{to c:TE}{t:TSet}(j:PE X o to)(hi:PE X i c)(hs:PSet X t)
  (ha:∀ v,assign (.Subscript o i pos) X.env v=(do
   let a ← holding [v] (eval o X.env);let b ← holding [v,a] (eval i X.env)
   standAt pos
   holding [v,a,b] (setItem a b v)
   release [v,a,b] []):=by intro _;rfl):PG X (.Subscript o i pos) (gSub to c t):=by
 intro pins s σ H v u Q I r h;rw[ha];refine C0 (w5 (thn (j pins s σ H _ I h) λa s1 ⟨x,g,q,n,f⟩=>?_));refine C0 (w5 (thn (hi pins s1 σ g _ q f) λb s2 ⟨y,H2,w,l,p⟩=>?_));refine C0 (wpAny_standAt (C0 (w5 (thn (hs pins s2 σ H2 x y v a b u _ w n l r p) λ_ z ⟨H3,d,m⟩=>?_))));exact wpAny_release ⟨σ,H3,d,m⟩
def tAsg(te:TE)(g:TG):TS:=λD σ H=>te σ H λx H1=>g x σ H1 D.nx
theorem U4{tg e:Expr}{te:TE}{g:TG}(d:PE X e te)(a:PG X tg g)(hs:swapsWithSole [tg] e pos.line X.env=pure false:=by rfl)(i:swappedStores [tg] e X.env=pure none:=by rfl)
  (f:(assignEach [tg] X.env).map (·.2)=[assign tg X.env]:=by rfl):PS X (.Assign [tg] e pos) (tAsg te g):=by
 intro pins s σ H D I h;refine wpAny_Assign_stores (thn (d pins s σ H _ I h) λv s1 ⟨x,c,j,l,b⟩=>?_) hs i;rw[f];exact thn (a pins s1 σ c x v _ j l b) λ_ s2 q=>q
theorem U0{i:Nat}{x:Str}{e:Expr}{te:TE}{a:Pos}(d:X.N.Nodup)(hi:X.N[i]?=some x)(g:Loc X.env.scope x)(f:PE X e te)(hs:swapsWith e (some (.Name x a)) pos.line X.env=pure false:=by rfl)(hf:X.fn x=true\/X.env.scope.names.lookup x=some .local:=by first|exact .inl rfl|exact .inr rfl|assumption) :
  PS X (.Assign [.Name x a] e pos) (tAsg te (N2 i)):=by
 intro pins s σ H D I h;refine wpAny_Assign_Name (thn (f pins s σ H _ I h) λv s1 ⟨y,c,j,m,b⟩=>?_) hs;exact AF j d hi g m (λs2 l=>⟨_,c,l,b⟩) hf
def jG(c:TT)(tb:TS):TS:=λD σ H=>∃ W:Nat->St->Hp->Prop,(∃ m,W m σ H)/\∀ m σ H,W m σ H ->
 c σ H λb H1=>if b=true then ∃ N:St->Hp->Prop,(∀ σ' H',N σ' H'->∃ m',m'<m/\W m' σ' H')/\tb { D with nx:=N,ct:=N,bk:=D.nx } σ H1 else D.nx σ H1
theorem OA{c:Expr}{body:List Stmt}{z:TT}{x:TS}(y:PassesOwn (model X.prog X.w) X.A X.env X.xe)(C:PT X c z)(hb:PSs X body x):PS X (.While c body [] pos) (jG z x):=by
 intro pins s σ H D I h;obtain⟨W,⟨E,F⟩,g⟩:=h;refine wpAny_While (codeAny_whileLoop (λn s'=>∃ i H',Inv X pins i H' s'/\W n i H') ?_ E ⟨σ,H,I,F⟩);rintro n s1 ⟨d,r,J,G⟩;refine wpAny_passesOwn y (thn (C pins s1 d r _ J (g n d r G)) λb s2 ⟨H2,B,l⟩=>?_);cases b with
 | true =>
  obtain⟨N,u,l⟩:=l;rw[q0 rfl];refine wpAny_passesOwn y (thn (hb pins s2 d H2 _ B l) λf K j=>?_);cases f with
  | next =>
   obtain⟨a,H3,m,o⟩:=j;obtain⟨q,hm,p⟩:=u a H3 o;exact⟨q,hm,a,H3,m,p⟩
  | cont =>
   obtain⟨a,H3,m,o⟩:=j;obtain⟨q,hm,p⟩:=u a H3 o;exact⟨q,hm,a,H3,m,p⟩
  |brk=>exact j
  |ret v=>exact j
 | false =>
  rw[o0 X1];exact wpAny_execs_nil ⟨d,H2,B,l⟩
structure It where
 go:Nat->Hp->Prop
 yld:Nat->Hp->V->Hp->Prop
 stop:Nat->Hp->Prop
def FpOk(X:Cx)(pins:List (Addr × Obj))(H:Hp)(b:Addr):Prop :=
 H b=none/\b ≠ X.env.locals/\b ∉ X.fs/\(b∈X.ex\/X.s₀.heap.objs.size<=b)/\(∀ x c,X.env.cells.lookup x=some c->c ≠ b)/\∀ p∈X.pn++pins,p.1 ≠ b
theorem Inv.fpOk(I:Inv X pins σ H s)(hb:s.heap.objs.size<=b)(hn:H' b=none):FpOk X pins H' b:=by
 refine⟨hn,Nat.ne_of_gt (L4 I.lt hb),I.nofs hb,.inr (W1 I.sz hb),λx c e z=>?_,λp a z=>?_⟩
 ·obtain⟨v,q⟩:=I.cell x c e;exact absurd (L4 q.lt (by rw[z];exact hb)) (t4 _)
 ·exact absurd (L4 (L0 (I.pin p a).1) (by rw[z];exact hb)) (t4 _)
structure Turn(P:Program)(w:World)(K:Frag)(tg:Expr)(J:It)(fp:List Addr)(it:Addr)(tn:Nat->Heap->Prop):Prop where
 mem:it∈fp
 obj:∀ i h,tn i h->∀ b∈fp,∃ o,h.get? b=some o/\∀ v,o.data ≠ .cell v
 keep:∀ i h h',tn i h->(∀ b∈fp,∀ o,h.get? b=some o->h'.get? b=some o)->tn i h'
 item:∀(X:Cx),X.prog=P->X.w=w->X.K=K->X.calm=true->∀(i:Nat)(pins:List (Addr × Obj))(s:Shared)(σ:St)(H:Hp)(E:Value->Shared->Prop),Inv X pins σ H s->(∀ b∈fp,FpOk X pins H b)->tn i s.heap->J.go i H ->
  wpAny (model P w) X.A (pyNext (.ref it)) (λr s1=>∃ u,r=some u /\
   wpAny (model P w) X.A (letOwnedTupleGo tg (.ref it) u) (λ_ s2=>∃ x H',Inv X pins σ H' s2/\RelV x u/\J.yld i H x H'/\tn (i+1) s2.heap/\∀ b∈fp,H' b=none) E s1) E s
 done:∀(X:Cx),X.prog=P->X.w=w->X.K=K->X.calm=true->∀(i:Nat)(pins:List (Addr × Obj))(s:Shared)(σ:St)(H:Hp)(E:Value->Shared->Prop),Inv X pins σ H s->(∀ b∈fp,FpOk X pins H b)->tn i s.heap->J.stop i H ->
  wpAny (model P w) X.A (pyNext (.ref it)) (λr s1=>r=none/\Inv X pins σ H s1) E s
 self:∀(A:Around)(i:Nat)(s:Shared)(Q:Value->Shared->Prop)(E:Value->Shared->Prop),tn i s.heap->Q (.ref it) s->wpAny (model P w) A (pyIter (.ref it)) Q E s
abbrev TI:=St->Hp->(It->Hp->Prop)->Prop
def PIE(X:Cx)(pins:List (Addr × Obj))(σ:St)(tg:Expr)(R:It->Hp->Prop)(itv:Value)(s2:Shared):Prop :=
 ∃(it:Addr)(fp:List Addr)(tn:Nat->Heap->Prop)(J:It)(H':Hp),itv=.ref it/\Inv X pins σ H' s2/\Turn X.prog X.w X.K tg J fp it tn/\tn 0 s2.heap/\(∀ b∈fp,FpOk X pins H' b)/\R J H'
def PI(X:Cx)(tg iter:Expr)(wi:TI):Prop :=
 ∀(pins:List (Addr × Obj))(s:Shared)(σ:St)(H:Hp)(R:It->Hp->Prop),Inv X pins σ H s->wi σ H R ->
  wpAny (model X.prog X.w) X.A (eval iter X.env) (λv s1=>wpAny (model X.prog X.w) X.A (pyIter v) (PIE X pins σ tg R) X.xe s1) X.xe s
theorem vB(c:s.heap.get? it=some o)(b:o.cls=.type n)(hd:o.data=.fields vs)
  (hn:["enumerate","zip","dict_itemiterator","dict_reverseitemiterator","odict_iterator","itertools.zip_longest","itertools.pairwise"].contains n=false) (a:Q () s):wpAny M A (letOwnedTupleGo tg (.ref it) u) Q E s:=by
 unfold letOwnedTupleGo
 cases tg <;> first
  |exact N0 a
  | (cases u <;> first
    |exact N0 a
    | (refine C0 (wpAny_load c ?_)
       rw[b,hd];show wpAny M A (if (["enumerate","zip","dict_itemiterator","dict_reverseitemiterator","odict_iterator","itertools.zip_longest","itertools.pairwise"].contains n && vs[0]? == some (rawInt _))=true then _ else _) Q E s;rw[o0 (by intro h;rw[hn,Bool.false_and] at h;cases h)];exact N0 a))
def Itl(K:Frag)(a:Addr):It :=
 ⟨λi H=>∃ xs x,SqL K H a xs/\xs[i]?=some x,λi H x H'=>H'=H/\∀ xs,SqL K H a xs->xs[i]?=some x,λi H=>∃ xs,SqL K H a xs/\xs.length<=i⟩
def Itr(lo:Int)(n:Nat):It:=⟨λi _=>i<n,λi H x H'=>H'=H/\x=.int (lo+i),λi _=>n<=i⟩
theorem zN{P:Program}{w:World}{K:Frag}{tg:Expr}(a it:Addr):Turn P w K tg (Itl K a) [it] it (λi h=>h.IsListIter it a i) where
 mem:=by simp
 obj:=λi h st b hb=>by
  have e:b=it:=by simpa using hb
  subst e;obtain⟨o,e,c,d⟩:=st;exact⟨o,e,λv z=>by rw[d] at z;cases z⟩
 keep:=λi h h' st k=>st.at λo e=>k it (by simp) o e
 item:=by
  intro X B A n C i pins s σ H E I hf st g;subst B A n;obtain⟨xs,x,f,r⟩:=g;obtain⟨its,l,p,D⟩:=I.list f;obtain⟨u,F,L⟩:=l.get r;obtain⟨m,f1,M,q,y,j⟩:=hf it (by simp);refine wpAny_pyNext_list_item st p.isList (x:=u) (by simpa using F) λh' st' sb=>?_;have N:Inv X pins σ H { s with heap:=h' }:=I.turned (t':=s.toks) (λb o hb e=>(sb.2 b hb).trans e) m f1 q y j;obtain⟨o,e,c,d⟩:=id st';exact⟨u,rfl,vB (s:={ s with heap:=h' }) e c d (by decide) ⟨x,H,N,L,⟨rfl,λys G=>by rw[I.list_inj G f];exact r⟩,st',λb hb=>(hf b hb).1⟩⟩
 done:=by
  intro X B A n C i pins s σ H E I hf st g;subst B A n;obtain⟨xs,f,r⟩:=g;obtain⟨its,l,p,D⟩:=I.list f;obtain⟨m,f1,M,q,y,j⟩:=hf it (by simp);have O:=l.length;exact wpAny_pyNext_list_end (I.ok.hd C) st p.isList (by simp;lia) λh' J=>⟨rfl,I.turned (t':=s.toks) (λb o hb e=>J b o hb e) m f1 q y j⟩
 self:=λ_ _ _ _ _ st h=>wpAny_pyIter_listiter st h
theorem AU{P:Program}{w:World}{K:Frag}{tg:Expr}(it:Addr)(lo:Int)(n:Nat):Turn P w K tg (Itr lo n) [it] it (λi h=>IsRangeIter h it (lo+(i:Nat) * 1) ((n:Int)-(i:Nat)) 1) where
 mem:=by simp
 obj:=λi h st b hb=>by
  have e:b=it:=by simpa using hb
  subst e;exact⟨_,st,λv z=>by
   have r:Data.fields _=Data.cell v:=z;cases r⟩
 keep:=λi h h' st k=>k it (by simp) _ st
 item:=by
  intro X p m f j i pins s σ H E I hf st a;subst p m f;obtain⟨d,f1,y,g,l,c⟩:=hf it (by simp);have W:=Walks.range (prog:=X.prog) (w:=X.w) (I.ok.hd j) it lo 1 n;refine W.item i s _ _ a st λv h' q x st' B=>?_;obtain⟨t,rfl⟩:=x;have A:Inv X pins σ H { s with heap:=h',toks:=q }:=I.turned (λb o hb e=>B b o (by simpa using hb) e) d f1 g l c;refine⟨_,rfl,vB (s:={ s with heap:=h',toks:=q }) (n:="range_iterator") st' rfl rfl (by decide) ⟨.int (lo+i),H,A,⟨t,?_⟩,⟨rfl,rfl⟩,st',λb hb=>(hf b hb).1⟩⟩;rw[Int.mul_one]
 done:=by
  intro X p m f j i pins s σ H E I hf st a;subst p m f;obtain⟨d,f1,y,g,l,c⟩:=hf it (by simp);exact wpAny_pyNext_range_end (I.ok.hd j) st (by have:n<=i:=a;lia) λh' u=>⟨rfl,I.turned (t':=s.toks) (λb o hb e=>u b o hb e) d f1 g l c⟩
 self:=λ_ _ _ _ _ st h=>wpAny_pyIter_rangeiter st h
def w9(K:Frag)(tl:TE):TI:=λσ H R=>tl σ H λx H1=>∃ a,x=.ref a/\(∃ xs,SqL K H1 a xs)/\R (Itl K a) H1
theorem S3{l:Expr}{tl:TE}(i:PE X l tl):PI X tg l (w9 X.K tl):=by
 intro pins s σ H R I h;refine thn (i pins s σ H _ I h) λv s1 ⟨x,f,c,j,d⟩=>?_;obtain⟨a,e,⟨xs,g⟩,q⟩:=d;subst e;cases j;obtain⟨its,n,p,m⟩:=c.list g;refine e8 p.isList ?_;refine⟨s1.heap.objs.size,[s1.heap.objs.size],_,_,f,rfl,c.kept (t':=s1.toks) λb o e=>J1 _ e,zN a _,⟨_,D2 _ rfl,rfl,rfl⟩,λb hb=>?_,q⟩;have e:b=s1.heap.objs.size:=by simpa using hb
 subst e;exact c.fpOk (M0 _) (c.hok.fresh (M0 _))
theorem kI{pins:List (Addr × Obj)}{σ:St}{H:Hp}{s:Shared}{R:It->Hp->Prop}{E:Value->Shared->Prop}{lo hi:Int}{t u v:Tok}{a:Nat}(I:Inv X pins σ H s)(h : -(2 ^ 62)<=lo)(d:lo<2 ^ 62)(f : -(2 ^ 62)<=hi)(g:hi<2 ^ 62)
  (q:R (Itr lo (hi-lo).toNat) H):wpAny (model X.prog X.w) X.A (pyIter (.ref s.heap.objs.size)) (PIE X pins σ tg R) E { s with heap:=s.heap.push { cls:=.type "range",data:=.fields #[.int lo t,.int hi u,.int 1 v] },toks:=a }:=by
 refine wpAny_pyIter_range (IsRange.new ..) (small_one h d f g) ?_;have c:Inv X pins σ H { s with heap:=s.heap.push { cls:=.type "range",data:=.fields #[.int lo t,.int hi u,.int 1 v] },toks:=a }:=I.kept λb o e=>J1 _ e
 refine⟨(s.heap.push { cls:=.type "range",data:=.fields #[.int lo t,.int hi u,.int 1 v] }).objs.size,[(s.heap.push { cls:=.type "range",data:=.fields #[.int lo t,.int hi u,.int 1 v] }).objs.size],_,_,H,rfl,
  c.kept (t':=a) λb o e=>J1 _ e,AU _ lo (hi-lo).toNat,?_,λb hb=>?_,q⟩
 ·have i:lo+((0:Nat):Int) * 1=lo:=by simp
  have e2:(((hi-lo).toNat:Nat):Int)-((0:Nat):Int)=Builtin.Range.rangeSize lo hi 1:=by rw[rangeSize_one];split <;> lia
  show IsRangeIter _ _ (lo+((0:Nat):Int) * 1) ((((hi-lo).toNat:Nat):Int)-((0:Nat):Int)) 1;rw[i,e2];exact D2 _ rfl
 ·have e:b=(s.heap.push { cls:=.type "range",data:=.fields #[.int lo t,.int hi u,.int 1 v] }).objs.size:=by simpa using hb
  subst e;exact c.fpOk (M0 _) (c.hok.fresh (M0 _))
def wH(ta:TA):TI:=λσ H R=>ta σ H λvs H1=>∃ j:Int,vs=[.int j]/\-(2 ^ 62)<=j/\j<2 ^ 62/\R (Itr 0 j.toNat) H1
def VF(ta:TA):TI:=λσ H R=>ta σ H λvs H1=>∃ i j:Int,vs=[.int i,.int j]/\(-(2 ^ 62)<=i/\i<2 ^ 62/\-(2 ^ 62)<=j/\j<2 ^ 62)/\R (Itr i (j-i).toNat) H1
theorem R5{a:Expr}{c:TA}{p pos:Pos}(d:Gl X "range")(hm:X.mg "range" = none)(ha:PA X [a] c)(hs:starEach [a] X.env=[(false,eval a X.env)]:=by rfl):PI X tg (.Call (.Name "range" p) [a] [] pos) (wH c):=by
 intro pins s σ H R I h;refine Call_ (p6 I d hm boot_range (PyProof.Rows.callWith_type1 (thn (ha pos pins s σ H _ I h) λus s1 ⟨vs,l,g,i,b⟩=>?_) hs rfl));obtain⟨j,e,b,f,q⟩:=b;subst e;cases i with
 | cons r rr =>
  cases rr;obtain⟨t,rfl⟩:=r;exact call_range_1 (kI g (by lia) (by lia) b f (by simpa using q))
theorem xD{a b:Expr}{f:TA}{p pos:Pos}(g:Gl X "range")(hm:X.mg "range" = none)(ha:PA X [a,b] f)(hs:starEach [a,b] X.env=[(false,eval a X.env),(false,eval b X.env)]:=by rfl)(c:starEach [b] X.env=[(false,eval b X.env)]:=by rfl) :
  PI X tg (.Call (.Name "range" p) [a,b] [] pos) (VF f):=by
 intro pins s σ H R I h;refine Call_ (p6 I g hm boot_range (PyProof.Rows.callWith_type1 (thn (ha pos pins s σ H _ I h) λus s1 ⟨vs,v,u,n,d⟩=>?_) (by rw[hs,c]) (by rw[c];rfl)));obtain⟨i,j,e,⟨d,o,m,l⟩,q⟩:=d;subst e;cases n with
 | cons r rr =>
  cases rr with
  | cons r' rr =>
   cases rr;obtain⟨t,rfl⟩:=r;obtain⟨t',rfl⟩:=r';exact call_range_2 (kI u d o m l q)
def tFor(wi:TI)(g:TG)(tb:TS):TS:=λD σ H=>wi σ H λJ H1=>∃ W:Nat->Nat->St->Hp->Prop,(∃ m,W 0 m σ H1)/\∀ i m σ H,W i m σ H ->
 (J.stop i H/\D.nx σ H)\/(J.go i H/\∃ N:St->Hp->Prop,(∀ σ' H',N σ' H'->∃ m',m'<m/\W (i+1) m' σ' H')/\∀ x H',J.yld i H x H'->g x σ H' λσ2 H2=>tb { D with nx:=N,ct:=N,bk:=D.nx } σ2 H2)
def y8(fp:List Addr)(h:Heap):List (Addr × Obj):=fp.filterMap λb=>(h.get? b).map λo=>(b,o)
theorem L7(hb:b∈fp)(e:h.get? b=some o):(b,o)∈y8 fp h:=List.mem_filterMap.mpr ⟨b,hb,by rw[e];rfl⟩
theorem fP(a:p∈y8 fp h):p.1∈fp/\h.get? p.1=some p.2:=by
 obtain⟨b,hb,e⟩:=List.mem_filterMap.mp a;cases q:h.get? b with
 |none=>rw[q] at e;cases e
 | some o =>
  rw[q] at e;have c:(b,o)=p:=u3 e;subst c;exact⟨hb,q⟩
theorem Inv.pinned(I:Inv X pins σ H s)(hf:∀ b∈fp,FpOk X pins H b)(c:∀ b∈fp,∃ o,s.heap.get? b=some o/\∀ v,o.data ≠ .cell v):Inv X (pins++y8 fp s.heap) σ H s :=
 I.pins_of λp g=>(Q1.mp g).elim (λz=>I.pin p (Z2 _ z)) λz=>by
  obtain⟨hb,e⟩:=fP z;obtain⟨f,f1,h,_⟩:=hf p.1 hb;obtain⟨o,a,d⟩:=c p.1 hb;rw[e] at a;cases a;exact⟨e,f,f1,h,d⟩
theorem Inv.unpinned(I:Inv X (pins++pl) σ H s):Inv X pins σ H s:=I.pins_of λp a=>I.pin p (Z2 _ (z5 _ a))
theorem J6{iter:Expr}{body:List Stmt}{wi:TI}{g:TG}{U:TS}{pos:Pos}(E:PassesOwn (model X.prog X.w) X.A X.env X.xe)(hc:X.calm=true)(hi:PI X tg iter wi)(hg:PG X tg g)(hb:PSs X body U)
  (hs:∀ x,foldedSetIterable iter X.env x=pure x:=by intro _;rfl):PS X (.For tg iter body [] pos) (tFor wi g U):=by
 intro pins s σ H D I h;refine wpAny_For (thn (hi pins s σ H _ I h) λv s1 h1=>thn h1 λa0 s2 h2=>?_) hs;obtain⟨it,fp,tn,J,H2,e,I2,T,Q,Y,W,⟨m0,w0⟩,G⟩:=h2;subst e
 -- what stays true of the iterator's objects through the loop
 have y:∀{H':Hp},(∀ b∈fp,H' b=none)->∀ b∈fp,FpOk X pins H' b:=λhn b hb=>⟨hn b hb,(Y b hb).2⟩
 refine codeAny_forLoop_any (λn s'=>∃ i p H',Inv X pins p H' s'/\tn i s'.heap/\(∀ b∈fp,H' b=none)/\W i n p H') ?_ m0 ⟨0,σ,H2,I2,Q,λb hb=>(Y b hb).1,w0⟩;rintro n s3 ⟨i,l,H3,I3,F,C,w3⟩;rcases G i n l H3 w3 with ⟨stop,qn⟩|⟨go,N,hN,step⟩
 ·refine wpAny_passesOwn E (thn (T.done X rfl rfl rfl hc i pins s3 l H3 X.xe I3 (y C) F stop) λr s4 ⟨L,I4⟩=>?_);subst L;exact wpAny_execs_nil ⟨l,H3,I4,qn⟩
 ·refine wpAny_passesOwn E (thn (T.item X rfl rfl rfl hc i pins s3 l H3 X.xe I3 (y C) F go) λr s4 ⟨u,L,h4⟩=>?_);subst L;refine wpAny_passesOwn E (thn h4 λ_ S ⟨x,Z,I5,r5,y5,B,M⟩=>?_);have O:=I5.pinned (y M) (T.obj _ _ B);refine wpAny_passesOwn E (thn (hg _ S l Z x u _ O r5 (step x Z y5)) λ_ s6 ⟨P,H6,I6,q6⟩=>?_);refine wpAny_passesOwn E (thn (hb _ s6 P H6 _ I6 q6) λf R z=>?_);have q:∀{a:St}{j:Hp},Inv X (pins++y8 fp S.heap) a j R->N a j->∃ m,m<n/\∃ i p H',Inv X pins p H' R/\tn i R.heap/\(∀ b∈fp,H' b=none)/\W i m p H':=λ{a j} c K=>by
   obtain⟨m',hm,w7⟩:=hN a j K;refine⟨m',hm,i+1,a,j,c.unpinned,T.keep _ _ _ B λb hb o e=>(c.pin (b,o) (Z2 _ (Z2 _ (L7 hb e)))).1,λb hb=>?_,w7⟩;obtain⟨o,e,d⟩:=T.obj _ _ B b hb;exact(c.pin (b,o) (Z2 _ (Z2 _ (L7 hb e)))).2.1
  cases f with
  |next=>obtain⟨a,j,c,K⟩:=z;exact q c K
  |cont=>obtain⟨a,j,c,K⟩:=z;exact q c K
  |brk=>obtain⟨a,j,c,z⟩:=z;exact⟨a,j,c.unpinned,z⟩
  |ret v=>obtain⟨x7,a,j,c,r7,z⟩:=z;exact⟨x7,a,j,c.unpinned,r7,z⟩
abbrev R2:=V->V->Hp->VK->Prop
def OpR(X:Cx)(f:Value->Value->Sem Value)(r:R2):Prop :=
 ∀(pins:List (Addr × Obj))(s:Shared)(σ:St)(H:Hp)(x y:V)(v u:Value)(Q:VK),Inv X pins σ H s->RelV x v->RelV y u->r x y H Q ->
  wpAny (model X.prog X.w) X.A (f v u) (EP X pins σ Q) X.xe s
def UnR(X:Cx)(f:Value->Sem Value)(r:V->Hp->VK->Prop):Prop :=
 ∀(pins:List (Addr × Obj))(s:Shared)(σ:St)(H:Hp)(x:V)(v:Value)(Q:VK),Inv X pins σ H s->RelV x v->r x H Q ->
  wpAny (model X.prog X.w) X.A (f v) (EP X pins σ Q) X.xe s
def C2(X:Cx)(f:Value)(r:List V->Hp->VK->Prop):Prop :=
 ∀(pins:List (Addr × Obj))(s:Shared)(σ:St)(H:Hp)(xs:List V)(us:List Value)(Q:VK),Inv X pins σ H s->Vals xs us->r xs H Q ->
  wpAny (model X.prog X.w) X.A (call f us) (EP X pins σ Q) X.xe s
def TruR(X:Cx)(r:V->Hp->(Bool->Hp->Prop)->Prop):Prop :=
 ∀(pins:List (Addr × Obj))(s:Shared)(σ:St)(H:Hp)(x:V)(v:Value)(Q:Bool->Hp->Prop),Inv X pins σ H s->RelV x v->r x H Q ->
  wpAny (model X.prog X.w) X.A (truthy v) (TP X pins σ Q) X.xe s
def tOp(r:R2)(ta tb:TE):TE:=λσ H Q=>ta σ H λx H1=>tb σ H1 λy H2=>r x y H2 Q
def tUn(r:V->Hp->VK->Prop)(ta:TE):TE:=λσ H Q=>ta σ H λx H1=>r x H1 Q
def rI(C:Int->Int->Prop)(g:Int->Int->V):R2:=λx y H Q=>∃ i j,x=.int i/\y=.int j/\C i j/\Q (g i j) H
def rI0(g:Int->Int->V):R2:=λx y H Q=>∃ i j,x=.int i/\y=.int j/\Q (g i j) H
def rU(g:Int->V):V->Hp->VK->Prop:=λx H Q=>∃ i,x=.int i/\Q (g i) H
section
variable{X:Cx}{a b c:Expr}{ta tb tc:TE}{pos:Pos}
theorem binT(ha:PE X a ta)(hb:PE X b tb){pins:List (Addr × Obj)}{s:Shared}{σ:St}{H:Hp}{R:V->V->Hp->Prop}(I:Inv X pins σ H s)
  (h:ta σ H λx g=>tb σ g λy H2=>R x y H2) {Q:Value->Shared->Prop} {f:Value->Value->Sem Value}
  (hf:∀ v u s2 x y H2,Inv X pins σ H2 s2->RelV x v->RelV y u->R x y H2->wpAny (model X.prog X.w) X.A (f v u) Q X.xe s2) :
  wpAny (model X.prog X.w) X.A (eval a X.env) (λv c=>wpAny (model X.prog X.w) X.A (eval b X.env) (λu d=>wpAny (model X.prog X.w) X.A (f v u) Q X.xe d) X.xe c) X.xe s:=by
 refine thn (ha pins s σ H _ I h) λv s1 ⟨x,g,m,o,i⟩=>?_;refine thn (hb pins s1 σ g _ m i) λu s2 ⟨y,H2,n,j,l⟩=>?_;exact hf v u s2 x y H2 n o j l
theorem K0(c:OpR X (binaryOp op) r)(ha:PE X a ta)(hb:PE X b tb):PE X (.BinOp a op b pos) (tOp r ta tb):=by
 intro pins s σ H Q I h;exact wpAny_BinOp (binT ha hb I h λv u s2 x y H2 g f d q=>c pins s2 σ H2 x y v u Q g f d q)
theorem AR{op:UnaryOp}{r:V->Hp->VK->Prop}(f:UnR X (unaryOp op) r)(ha:PE X a ta):PE X (.UnaryOp op a pos) (tUn r ta):=by
 intro pins s σ H Q I h;exact UnaryOp_ (thn (ha pins s σ H _ I h) λv s1 ⟨x,c,d,g,b⟩=>f pins s1 σ c x v Q d g b)
theorem opI{f:Value->Value->Sem Value}{C:Int->Int->Prop}{g:Int->Int->Int}
  (a:∀(i j:Int)(t u:Tok)(s:Shared)(Q:Value->Shared->Prop)(E:Value->Shared->Prop),C i j->Q (.int (g i j) s.toks) { s with toks:=s.toks+1 }->wpAny (model X.prog X.w) X.A (f (.int i t) (.int j u)) Q E s) :
  OpR X f (rI C λi j=>.int (g i j)):=by
 intro pins s σ H x y v u Q I c b h;obtain⟨i,j,rfl,rfl,d,q⟩:=h;obtain⟨t,rfl⟩:=c;obtain⟨t',rfl⟩:=b;exact a i j t t' s _ _ d ⟨.int (g i j),H,I.tok _,⟨_,rfl⟩,q⟩
theorem opI0{f:Value->Value->Sem Value}{g:Int->Int->Int}
  (a:∀(i j:Int)(t u:Tok)(s:Shared)(Q:Value->Shared->Prop)(E:Value->Shared->Prop),Q (.int (g i j) s.toks) { s with toks:=s.toks+1 }->wpAny (model X.prog X.w) X.A (f (.int i t) (.int j u)) Q E s) :
  OpR X f (rI0 λi j=>.int (g i j)):=by
 intro pins s σ H x y v u Q I c b h;obtain⟨i,j,rfl,rfl,q⟩:=h;obtain⟨t,rfl⟩:=c;obtain⟨t',rfl⟩:=b;exact a i j t t' s _ _ ⟨.int (g i j),H,I.tok _,⟨_,rfl⟩,q⟩
theorem opB0{f:Value->Value->Sem Value}{g:Int->Int->Bool}
  (a:∀(i j:Int)(t u:Tok)(s:Shared)(Q:Value->Shared->Prop)(E:Value->Shared->Prop),Q (.bool (g i j)) s->wpAny (model X.prog X.w) X.A (f (.int i t) (.int j u)) Q E s) :
  OpR X f (rI0 λi j=>.bl (g i j)):=by
 intro pins s σ H x y v u Q I c b h;obtain⟨i,j,rfl,rfl,q⟩:=h;obtain⟨t,rfl⟩:=c;obtain⟨t',rfl⟩:=b;exact a i j t t' s _ _ ⟨.bl (g i j),H,I,rfl,q⟩
def CDiv(i j:Int):Prop:=0<j/\j<1073741824
def CPow(i j:Int):Prop:=0<=j/\j<=1000000/\i.natAbs<2 ^ 64
def CMul(i j:Int):Prop:=(-(2 ^ 64)<i/\i<2 ^ 64)\/(-(2 ^ 64)<j/\j<2 ^ 64)
theorem CMul.ok(h:CMul i j):IntMulOk i j:=by
 rcases h with ⟨b,a⟩|⟨b,a⟩
 ·exact .of_left (intBits_le_64 b a)
 ·exact .of_right (intBits_le_64 b a)
theorem R3:OpR X (binaryOp .Add) (rI0 λi j=>.int (i+j)):=opI0 λ_ _ _ _ _ _ _ q=>add_int q
theorem k6:OpR X (binaryOp .Sub) (rI0 λi j=>.int (i-j)):=opI0 λ_ _ _ _ _ _ _ q=>sub_int q
theorem Q5:OpR X (binaryOp .Mult) (rI CMul λi j=>.int (i * j)):=opI λ_ _ _ _ _ _ _ a q=>mul_int q a.ok
theorem R7:OpR X (binaryOp .FloorDiv) (rI CDiv λi j=>.int (i / j)):=opI λi j _ _ _ _ _ a q=>by
 have c:(0:Int)<j:=a.1;have b:j<1073741824:=a.2;exact floordiv_int (by lia) (by rw[Int.fdiv_eq_ediv_of_nonneg i (by lia)];exact q) (.inl (PyProof.noPylong_small (by lia)))
theorem m4:OpR X (binaryOp .Mod) (rI (λ_ j=>0<j) λi j=>.int (i % j)):=opI λi j _ _ _ _ _ a q=>by
 have b:(0:Int)<j:=a;exact mod_int' (by lia) (by rw[Int.fmod_eq_emod_of_nonneg i (by lia)];exact q)
theorem HU:OpR X (binaryOp .Pow) (rI CPow λi j=>.int (i ^ j.toNat)):=opI λ_ _ _ _ _ _ _ a q=>pow_int_small a.1 a.2.1 a.2.2 q
theorem unI{f:Value->Sem Value}{g:Int->Int}
  (a:∀(i:Int)(t:Tok)(s:Shared)(Q:Value->Shared->Prop)(E:Value->Shared->Prop),Q (.int (g i) s.toks) { s with toks:=s.toks+1 }->wpAny (model X.prog X.w) X.A (f (.int i t)) Q E s) :
  UnR X f (rU λi=>.int (g i)):=by
 intro pins s σ H x v Q I b h;obtain⟨i,rfl,q⟩:=h;obtain⟨t,rfl⟩:=b;exact a i t s _ _ ⟨.int (g i),H,I.tok _,⟨_,rfl⟩,q⟩
theorem pL:UnR X (unaryOp .USub) (rU λi=>.int (-i)):=unI λ_ _ _ _ _ q=>neg_int q
end
def scal:V->V->Bool
 | .non,.non=>true | .non,.int _=>true | .int _,.non=>true | .non,.bl _=>true | .bl _,.non=>true | .non,.str _=>true | .str _,.non=>true
 | .int _,.int _=>true | .bl _,.bl _=>true | .str _,.str _=>true | .byt _,.byt _=>true
 | .int _,.str _=>true | .str _,.int _=>true | .bl _,.str _=>true | .str _,.bl _=>true
 |_,_=>false
def rEq:R2:=λx y H Q=>scal x y=true/\Q (.bl (decide (x=y))) H
def rNe:R2:=λx y H Q=>scal x y=true/\Q (.bl (!decide (x=y))) H
theorem jB:decide (V.int i=V.int j)=(i == j):=by
 rw[f6];simp
theorem fG:decide (V.bl i=V.bl j)=(i == j):=by
 rw[f6];simp
theorem bG:decide (V.str i=V.str j)=(i == j):=by
 rw[f6];simp
theorem iG:decide (V.byt i=V.byt j)=(i.toList == j.toList):=by
 rw[f6];cases i;cases j;simp
section
variable{X:Cx}{a b c:Expr}{ta tb tc:TE}{pos:Pos}
theorem E2{pins:List (Addr × Obj)}{σ:St}{H:Hp}{s:Shared}{Q:VK}{k a:Bool}(I:Inv X pins σ H s)(q:Q (.bl k) H)(e:k=a):EP X pins σ Q (.bool a) s:=by
 subst e;exact⟨.bl k,H,I,rfl,q⟩
theorem j6:OpR X (compareOp .Eq) rEq:=by
 intro pins s σ H x y v u Q I b a h;obtain⟨hs,q⟩:=h;cases x with
 | non =>
  cases b;cases y with
  |non=>cases a;exact PySem.EqNone.eq_none_none (E2 I q (by simp))
  |bl j=>cases a;exact PySem.EqNone.eq_none_bool (E2 I q (by simp))
  |int j=>obtain⟨t',rfl⟩:=a;exact PySem.EqNone.eq_none_int (E2 I q (by simp))
  |str j=>obtain⟨t',rfl⟩:=a;exact PySem.EqNone.eq_none_str (E2 I q (by simp))
  |_=>exact absurd (show false=true from hs) X1
 | bl i =>
  cases b;cases y with
  |non=>cases a;exact PySem.EqNone.eq_bool_none (E2 I q (by simp))
  |bl j=>cases a;exact eq_bool (E2 I q fG)
  |str j=>obtain⟨t',rfl⟩:=a;exact PySem.EqMixed.eq_bool_str (E2 I q (by simp))
  |_=>exact absurd (show false=true from hs) X1
 | int i =>
  obtain⟨t,rfl⟩:=b;cases y with
  |non=>cases a;exact PySem.EqNone.eq_int_none (E2 I q (by simp))
  |int j=>obtain⟨t',rfl⟩:=a;exact eq_int (E2 I q jB)
  |str j=>obtain⟨t',rfl⟩:=a;exact PySem.EqMixed.eq_int_str (E2 I q (by simp))
  |_=>exact absurd (show false=true from hs) X1
 | str i =>
  obtain⟨t,rfl⟩:=b;cases y with
  |non=>cases a;exact PySem.EqNone.eq_str_none (E2 I q (by simp))
  |bl j=>cases a;exact PySem.EqMixed.eq_str_bool (E2 I q (by simp))
  |int j=>obtain⟨t',rfl⟩:=a;exact PySem.EqMixed.eq_str_int (E2 I q (by simp))
  |str j=>obtain⟨t',rfl⟩:=a;exact eq_str (E2 I q bG)
  |_=>exact absurd (show false=true from hs) X1
 | byt i =>
  obtain⟨t,rfl⟩:=b;cases y with
  |byt j=>obtain⟨t',rfl⟩:=a;exact PySem.W.eq_bytes (E2 I q iG)
  |_=>exact absurd (show false=true from hs) X1
 |_=>cases y <;> exact absurd (show false=true from hs) X1
theorem zA:OpR X (compareOp .NotEq) rNe:=by
 intro pins s σ H x y v u Q I b a h;obtain⟨hs,q⟩:=h;cases x with
 | non =>
  cases b;cases y with
  |non=>cases a;exact PySem.EqNone.ne_none_none (E2 I q (by simp))
  |bl j=>cases a;exact PySem.EqNone.ne_none_bool (E2 I q (by simp))
  |int j=>obtain⟨t',rfl⟩:=a;exact PySem.EqNone.ne_none_int (E2 I q (by simp))
  |str j=>obtain⟨t',rfl⟩:=a;exact PySem.EqNone.ne_none_str (E2 I q (by simp))
  |_=>exact absurd (show false=true from hs) X1
 | bl i =>
  cases b;cases y with
  |non=>cases a;exact PySem.EqNone.ne_bool_none (E2 I q (by simp))
  |bl j=>cases a;exact ne_bool (E2 I q (congrArg not fG))
  |str j=>obtain⟨t',rfl⟩:=a;exact PySem.EqMixed.ne_bool_str (E2 I q (by simp))
  |_=>exact absurd (show false=true from hs) X1
 | int i =>
  obtain⟨t,rfl⟩:=b;cases y with
  |non=>cases a;exact PySem.EqNone.ne_int_none (E2 I q (by simp))
  |int j=>obtain⟨t',rfl⟩:=a;exact ne_int (E2 I q (congrArg not jB))
  |str j=>obtain⟨t',rfl⟩:=a;exact PySem.EqMixed.ne_int_str (E2 I q (by simp))
  |_=>exact absurd (show false=true from hs) X1
 | str i =>
  obtain⟨t,rfl⟩:=b;cases y with
  |non=>cases a;exact PySem.EqNone.ne_str_none (E2 I q (by simp))
  |bl j=>cases a;exact PySem.EqMixed.ne_str_bool (E2 I q (by simp))
  |int j=>obtain⟨t',rfl⟩:=a;exact PySem.EqMixed.ne_str_int (E2 I q (by simp))
  |str j=>obtain⟨t',rfl⟩:=a;exact ne_str (E2 I q (congrArg not bG))
  |_=>exact absurd (show false=true from hs) X1
 | byt i =>
  obtain⟨t,rfl⟩:=b;cases y with
  |byt j=>obtain⟨t',rfl⟩:=a;exact PySem.W.ne_bytes (E2 I q (congrArg not iG))
  |_=>exact absurd (show false=true from hs) X1
 |_=>cases y <;> exact absurd (show false=true from hs) X1
theorem Y5:OpR X (compareOp .Lt) (rI0 λi j=>.bl (decide (i<j))):=opB0 λ_ _ _ _ _ _ _ q=>lt_int q
theorem J9:OpR X (compareOp .LtE) (rI0 λi j=>.bl (decide (i<=j))):=opB0 λ_ _ _ _ _ _ _ q=>le_int q
theorem LB:OpR X (compareOp .Gt) (rI0 λi j=>.bl (decide (j<i))):=opB0 λ_ _ _ _ _ _ _ q=>gt_int q
theorem oE:OpR X (compareOp .GtE) (rI0 λi j=>.bl (decide (j<=i))):=opB0 λ_ _ _ _ _ _ _ q=>ge_int q
theorem SM:OpR X (compareOp .In) (λx y H Q=>∃ i j,x=.str i/\y=.str j/\Q (.bl (!(Builtin.Str.occurrences j i 0 j.length 1).isEmpty)) H):=by
 intro pins s σ H x y v u Q I b a h;obtain⟨i,j,rfl,rfl,q⟩:=h;obtain⟨t,rfl⟩:=b;obtain⟨t',rfl⟩:=a;exact in_str (E2 I q rfl)
theorem NP:OpR X (compareOp .Is) (λx y H Q=>y=.non/\Q (.bl (decide (x=.non))) H):=by
 intro pins s σ H x y v u Q I a b h;obtain⟨rfl,q⟩:=h;cases b;refine is_none_gen (E2 I q ?_)
 cases x <;> first
  |(cases a;rfl)
  |(obtain⟨t,rfl⟩:=a;rfl)
theorem C1(b:Expr)(h:op ≠ .In:=by decide)(a:op ≠ .NotIn:=by decide):behindInMarks op b=false:=by
 have c:(op == CmpOp.In)=false:=by cases op <;> first|rfl|exact absurd rfl h
 have e2:(op == CmpOp.NotIn)=false:=by cases op <;> first|rfl|exact absurd rfl a
 cases b <;> simp[behindInMarks,c,e2]
theorem S4(c:OpR X (compareOp op) r)(ha:PE X a ta)(hb:PE X b tb)(hm:behindInMarks op b=false):PE X (.Compare a [op] [b] pos) (tOp r ta tb):=by
 intro pins s σ H Q I h;exact wpAny_Compare1 (binT ha hb I h λv u s2 x y H2 g f d q=>c pins s2 σ H2 x y v u Q g f d q) hm
def YD(t:TE):TT:=λσ H Q=>t σ H λx H'=>∃ k,x=.bl k/\Q k H'
theorem R1{op:CmpOp}{r:R2}(i:OpR X (compareOp op) r)(ha:PE X a ta)(hb:PE X b tb)(hm:behindInMarks op b=false):PT X (.Compare a [op] [b] pos) (YD (tOp r ta tb)):=by
 intro pins s σ H Q I h;refine wpAny_isTrue_Compare1 (thn (ha pins s σ H _ I h) λv s1 ⟨x,g,o,q,f⟩=>thn (hb pins s1 σ g _ o f) λu s2 ⟨y,H2,p,j,n⟩ =>
  thn (i pins s2 σ H2 x y v u _ p q j n) λc w ⟨z,H3,d,m,k,e,l⟩=>?_) hm
 subst e;cases m;exact B6 ⟨H3,d,l⟩
def QB(r r':R2)(ta tb tc:TE):TE:=λσ H Q=>ta σ H λx H1=>tb σ H1 λy H2=>r x y H2 λz H3=>∃ k,z=.bl k /\
 (if k=true then tc σ H3 λw' H4=>r' y w' H4 Q else Q (.bl false) H3)
theorem jP{op f:CmpOp}{r m:R2}(A:OpR X (compareOp op) r)(g:OpR X (compareOp f) m)(ha:PE X a ta)(hb:PE X b tb)(B:PE X c tc)
  (hm:lastMarks [op,f] [b,c]=false:=by with_unfolding_all rfl):PE X (.Compare a [op,f] [b,c] pos) (QB r m ta tb tc):=by
 intro pins s σ H Q I h;refine Compare_chain (thn (ha pins s σ H _ I h) λv s1 ⟨x,p,G,K,n⟩=>chain_link (thn (hb pins s1 σ p _ G n) λu s2 ⟨y,H2,J,j,F⟩ =>
  thn (A pins s2 σ H2 x y v u _ J K j F) λd C ⟨z,H3,i,E,k,e,l⟩=>?_)) hm
 subst e;cases E;refine B6 ?_;cases k with
 |false=>exact ite_ff ⟨.bl false,H3,i,rfl,l⟩
 |true=>exact ite_tt (chain_last (thn (B pins C σ H3 _ i l) λN w ⟨o,M,D,L,q⟩=>g pins w σ M y o u N Q D j L q))
theorem UO{op f:CmpOp}{r m:R2}(A:OpR X (compareOp op) r)(g:OpR X (compareOp f) m)(ha:PE X a ta)(hb:PE X b tb)(C:PE X c tc)
  (hm:lastMarks [op,f] [b,c]=false:=by with_unfolding_all rfl):PT X (.Compare a [op,f] [b,c] pos) (YD (QB r m ta tb tc)):=by
 intro pins s σ H Q I h;refine isTrue_chain (thn (ha pins s σ H _ I h) λv s1 ⟨x,p,M,P,n⟩=>test_link (thn (hb pins s1 σ p _ M n) λu s2 ⟨y,H2,N,j,L⟩ =>
  thn (A pins s2 σ H2 x y v u _ N P j L) λd E ⟨z,H3,i,G,k,e,l⟩=>?_)) hm
 subst e;cases G;refine B6 ?_;cases k with
 | false =>
  obtain⟨k',K,B⟩:=l;cases K;exact ite_ff ⟨H3,i,B⟩
 | true =>
  refine ite_tt (test_last (thn (C pins E σ H3 _ i l) λT w ⟨o,S,F,R,q⟩=>thn (g pins w σ S y o u T _ F j R q) λd' Z ⟨W,U,D,J,Y,e2,O⟩=>?_));subst e2;cases J;exact B6 ⟨U,D,O⟩
def TruV(K:Frag)(x:V)(H:Hp)(k:Bool):Prop :=
 match x with
 | .non=>k=false
 | .bl b=>k=b
 | .int i=>k=(i != 0)
 | .str y=>y.length<=sizeLine/\k=((y.length:Int) != 0)
 | .byt y=>y.size<=sizeLine/\k=((y.size:Int) != 0)
 | .ref p=>(∃ xs,SqL K H p xs/\k = !xs.isEmpty)\/(∃ xs,SqT K H p xs/\k = !xs.isEmpty)\/∃ kvs,H p=some (.dK kvs)/\k = !kvs.isEmpty
 |_=>False
theorem qO{κ:Type}{kvs:List (κ × V)}{vs:List (κ × Value)}(r:KV kvs vs):(!vs.isEmpty) = !kvs.isEmpty:=by
 cases r <;> rfl
theorem qG{xs:List V}{its:List Value}(r:Vals xs its):(!its.toArray.isEmpty) = !xs.isEmpty:=by
 cases r <;> simp
theorem J8:(sizeLine:Nat)<2 ^ 63:=by rw[sizeLine_eq];decide
theorem IR:TruR X (λx H Q=>∃ k,TruV X.K x H k/\Q k H):=by
 intro pins s σ H x v Q I d h;obtain⟨k,e,q⟩:=h;have n:=J8;have hs:sizeLine=16777216:=sizeLine_eq;cases x with
 | non =>
  cases d;have a:k=false:=e;subst a;exact truthy_none ⟨H,I,q⟩
 | bl b =>
  cases d;have a:k=b:=e;subst a;exact B6 ⟨H,I,q⟩
 | int i =>
  obtain⟨t,rfl⟩:=d;have a:k=(i != 0):=e;subst a;exact PySem.P.truthy_int ⟨H,I,q⟩
 | str y =>
  obtain⟨t,rfl⟩:=d;obtain⟨j,a⟩:y.length<=sizeLine/\k=((y.length:Int) != 0):=e;subst a;exact PySem.P.truthy_str (by lia) ⟨H,I.tok _,q⟩
 | byt y =>
  obtain⟨t,rfl⟩:=d;obtain⟨j,a⟩:y.size<=sizeLine/\k=((y.size:Int) != 0):=e;subst a;exact PySem.W.truthy_bytes (by lia) ⟨H,I.tok _,q⟩
 | ref p =>
  cases d;have a:(∃ xs,SqL X.K H p xs/\k = !xs.isEmpty)\/(∃ xs,SqT X.K H p xs/\k = !xs.isEmpty)\/∃ kvs,H p=some (.dK kvs)/\k = !kvs.isEmpty:=e;rcases a with ⟨xs,f,a⟩|⟨xs,f,a⟩|⟨kvs,f,a⟩
  ·subst a;obtain⟨its,r,pl,g⟩:=I.list f;have c:=r.length;exact wpAny_truthy_list pl.isList (by simp only[Q2];lia) ⟨H,I.tok _,by rw[qG r];exact q⟩
  ·subst a;obtain⟨its,r,pl,g⟩:=I.tuple f;have c:=r.length;exact truthy_tuple pl (by simp only[Q2];lia) ⟨H,I.tok _,by rw[qG r];exact q⟩
  ·subst a;obtain⟨g,l,vs,r,m⟩:kvs.length<=sizeLine/\(p == sysModules)=false/\∃ vs,KV kvs vs/\s.heap.DictOf (Z4 X.prog X.w) p vs:=I.hok p _ f;have c:kvs.length=vs.length:=Paired.length r;exact wpAny_truthy_dict l m (by lia) ⟨H,I.tok _,by rw[qO r];exact q⟩
 |_=>exact(show False from e).elim
theorem sS(ha:PE X a ta)(d:∀ whole,isTrue a X.env whole=(do let v ← whole;standAt a.pos;holding [v] (truthy v))) :
  PT X a (λσ H Q=>ta σ H λx H'=>∃ k,TruV X.K x H' k/\Q k H'):=by
 intro pins s σ H Q I h;exact isTrue_plain (thn (ha pins s σ H _ I h) λv s1 ⟨x,c,f,g,b⟩=>IR pins s1 σ c x v Q f g b) (d _)
theorem W3(r:Vals [x] us):∃ u,us=[u]/\RelV x u:=by
 cases r with
 |cons r1 r2=>cases r2;exact⟨_,rfl,r1⟩
theorem WB(r:Vals [x,y] us):∃ u a,us=[u,a]/\RelV x u/\RelV y a:=by
 cases r with
 | cons r1 r2 =>
  cases r2 with
  |cons r3 r4=>cases r4;exact⟨_,_,rfl,r1,r3⟩
theorem HR(a:X.calm=true):C2 X (.builtin "max") (λxs H Q=>∃ i j,xs=[.int i,.int j]/\Q (.int (if j > i then j else i)) H):=by
 intro pins s σ H xs us Q I r h;obtain⟨i,j,rfl,q⟩:=h;obtain⟨u,c,rfl,⟨t,rfl⟩,⟨t',rfl⟩⟩:=WB r;refine max_two_ints (I.ok.hd a) λh' b k=>⟨_,H,I.kept k,?_,q⟩
 by_cases hj:j > i
 ·rw[q0 hj,q0 hj];exact⟨_,rfl⟩
 ·rw[o0 hj,o0 hj];exact⟨_,rfl⟩
theorem pQ(a:X.calm=true):C2 X (.builtin "min") (λxs H Q=>∃ i j,xs=[.int i,.int j]/\Q (.int (if j<i then j else i)) H):=by
 intro pins s σ H xs us Q I r h;obtain⟨i,j,rfl,q⟩:=h;obtain⟨u,c,rfl,⟨t,rfl⟩,⟨t',rfl⟩⟩:=WB r;refine min_two_ints (I.ok.hd a) λh' b k=>⟨_,H,I.kept k,?_,q⟩
 by_cases hj:j<i
 ·rw[q0 hj,q0 hj];exact⟨_,rfl⟩
 ·rw[o0 hj,o0 hj];exact⟨_,rfl⟩
theorem JP:C2 X (.type "int") (λxs H Q=>(∃ i,xs=[.int i]/\Q (.int i) H)\/∃ k,xs=[.bl k]/\Q (.int (if k then 1 else 0)) H):=by
 intro pins s σ H xs us Q I r h;rcases h with ⟨i,rfl,q⟩|⟨k,rfl,q⟩
 ·obtain⟨u,rfl,t,rfl⟩:=W3 r;exact call_int_int ⟨.int i,H,I,⟨_,rfl⟩,q⟩
 ·obtain⟨u,rfl,a⟩:=W3 r;cases a;exact call_int_bool ⟨.int (if k then 1 else 0),H,I.tok _,⟨_,rfl⟩,q⟩
theorem cN:C2 X (.type "str") (λxs H Q=>∃ i,xs=[.int i]/\i.natAbs.log2<1920/\Q (.str (toString i)) H):=by
 intro pins s σ H xs us Q I r h;obtain⟨i,rfl,a,q⟩:=h;obtain⟨u,rfl,t,rfl⟩:=W3 r;exact PySem.P.str_of_int a ⟨.str _,H,I.tok _,⟨_,rfl⟩,q⟩
end
structure ObjM(h:Heap)(x dx C:Addr)(mA:Str->Option Value):Prop where
 obj:h.get? x=some (PySem.W.instObj C dx)
 ns:h.Ns1 dx mA
 ne:dx ≠ x
theorem TM{h:Heap}{dx:Addr}{mA:Str->Option Value}(n:h.Ns1 dx mA):∃ od,h.get? dx=some od/\∀ name,PySem.W.lookIn name od=some (mA name):=by
 obtain⟨o,es,ep,f,hd,g,_,hm⟩:=n;refine⟨o,f,λname=>?_⟩;have e:=hm name;unfold nsFind findBy at e;rw[← Array.find?_toList] at e;unfold PySem.W.lookIn;rw[hd];dsimp only;split
 ·rename_i y q
  rw[q] at e;exact congrArg some e
 ·rename_i q
  rw[q] at e;have a:es.toList.any (·.refKey)=false:=by
   rw[List.any_eq_false];intro y c;obtain⟨z,t,b⟩:=g y (Array.mem_toList_iff.mp c);simp[DictEntry.refKey,b]
  have d:¬ es.toList.any (·.refKey)=true:=by rw[a];exact X1
  rw[o0 d];exact congrArg some e
theorem ObjM.look(I:ObjM h x dx C mA):∃ od,PySem.W.InstAt h x (PySem.W.instObj C dx) C (some od)/\∀ name,PySem.W.lookIn name od=some (mA name) :=
 let ⟨od,b,a⟩:=TM I.ns
 ⟨od,⟨I.obj,rfl,rfl,b⟩,a⟩
section
variable{prog:Program}{w:World}{A:Around}{E:Value->Shared->Prop}{s:Shared}{K:Frag}{x dx C f:Addr}{mA:Str->Option Value}{name:Str}{v:Value}
theorem bO(X:K.In s.heap)(I:ObjM s.heap x dx C mA)(c:PySem.W.plainGet K C name=true)(hh:PySem.W.hasDictIn K C=true)
  (ha:PySem.W.findIn K (.ref C) name=some none) (f:mA name=some v) (b:PySem.W.handedIn v=true) (h:Q v { s with toks:=s.toks+1 }) :
  wpAny (model prog w) A (getAttr (.ref x) name a) Q E s:=by
 obtain⟨od,J,d⟩:=I.look;exact PySem.W.get_value X J (PySem.W.plainGet_of c).1 (PySem.W.findObj_own hh ha rfl (by rw[d,f])) b h
theorem RK(X:K.In s.heap)(I:ObjM s.heap x dx C mA)(a:PySem.W.plainGet K C name=true)
  (hf:PySem.W.findIn K (.ref C) name=some (some (.ref f))) (d:PySem.W.isFn K (.ref f)=true) (c:mA name=none) (h:Q (.ref f,[.ref x]) s) :
  wpAny (model prog w) A (getMethod (.ref x) name pl) Q E s:=by
 obtain⟨od,J,b⟩:=I.look;exact PySem.W.method_fn X J (PySem.W.plainGet_of a).1 (PySem.W.plainGet_of a).2 hf (S1.mp d) (by show(PySem.W.lookIn name od).map (·.isSome)=some false;rw[b,c];rfl) h
theorem ZQ(X:K.In s.heap)(I:ObjM s.heap x dx C mA)
  (hs:PySem.W.findIn K (.ref C) "__setattr__" = some (some (.builtin "object.__setattr__"))) (o:PySem.W.plainOver K C=true) (p:PySem.W.takerIn K C name=some none) (hh:PySem.W.hasDictIn K C=true)
  (q:PySem.Within mA ns) (hsz:ns.length<=sizeLine)
  (h:∀ h',ObjM h' x dx C (λy=>if y=name then some v else mA y)->Heap.SameBut dx s.heap h'->Q () { s with heap:=h',toks:=s.toks+2 }) :
  wpAny (model prog w) A (setAttr (.ref x) name v) Q E s:=by
 obtain⟨od,J,B⟩:=I.look;refine PySem.W.set_plain X J hs (PySem.W.osa_open (s:={ s with toks:=s.toks+1 }) (r:=none) X J o p λb=>?_);obtain⟨z,m,g⟩:=PySem.W.any_some hh;have n:s.heap.get? x=some ⟨.ref C,some dx,.plain,#[]⟩:=I.obj;refine C0 (N0 (C0 (C0 (wpAny_loadPart n (C0 (PySem.W.Looks.here (s:={ s with toks:=s.toks+1 }) (PySem.W.looks_clsIn X m) ?_))))));rw[g];refine N0 (a:=some dx) (C0 (N0 (C0 ?_)));refine wpAny_nsSet1 (s:={ s with toks:=s.toks+1 }) I.ns λh' c d=>?_;obtain⟨oD,u,l,f,j,i⟩:=c.count (PySem.Within.cons name v q);refine C0 (wpAny_lookBehind f (by rw[j];exact pastItsLine_dict (W1 i (by rw[L3];lia))) ?_);exact N0 (h _ ⟨(d.2 _ (Ne.symm I.ne)).trans I.obj,c,I.ne⟩ d)
theorem QQ(X:K.In s.heap)(hm:PySem.W.makesIn K C=true)
  (hi:PySem.W.findIn K (.ref C) "__init__" = some (some (.ref f))) (hf:PySem.W.typeIn K (.ref f)=some (.type "function"))
  (h:codeAny (model prog w) (A.under (.builtin "type.__call__" ⟨.ref C::vs,a⟩)) (.call (.ref f) ⟨.ref (s.heap.objs.size+1)::vs,a⟩) (PySem.W.InitBack (s.heap.objs.size+1) R)
   { s with heap:=(s.heap.push PySem.W.emptyDict).push (PySem.W.instObj C s.heap.objs.size) }) :
  codeAny (model prog w) A (.call (.ref C) ⟨vs,a⟩) R s:=by
 obtain⟨hh,g,d,t,os⟩:=s;exact PySem.W.make_core (PySem.W.makes_of X hm) (PySem.W.looks_findIn X hi) (λself=>PySem.W.bind_fn X self hf) (.inl rfl) h
end
def putF(f:Str)(v:V):List (Str × V)->List (Str × V)
 |[]=>[(f,v)]
 |(g,x)::r=>if g=f then (g,v)::r else (g,x)::putF f v r
theorem UE(f g:Str)(v:V):∀ fs:List (Str × V),(putF f v fs).lookup g=if g=f then some v else fs.lookup g
 | []=>by
  show List.lookup g [(f,v)]=_;by_cases h:g=f
  ·have hb:(g == f)=true:=S1.mpr h;simp only[List.lookup,hb,q0 h]
  ·have hb:(g == f)=false:=beq_eq_false_iff_ne.mpr h;simp only[List.lookup,hb,o0 h]
 | (k,x)::r=>by
  have a:=UE f g v r;rw[show putF f v ((k,x)::r)=(if k=f then (k,v)::r else (k,x)::putF f v r) from rfl];by_cases hk:k=f
  ·rw[q0 hk];by_cases h:g=k
   ·have hb:(g == k)=true:=S1.mpr h;simp only[List.lookup,hb,q0 (h.trans hk)]
   ·have hb:(g == k)=false:=beq_eq_false_iff_ne.mpr h;simp only[List.lookup,hb,o0 (λe:g=f=>h (e.trans hk.symm))]
  ·rw[o0 hk];by_cases h:g=k
   ·have hb:(g == k)=true:=S1.mpr h;simp only[List.lookup,hb,o0 (λe:g=f=>hk (h.symm.trans e))]
   ·have hb:(g == k)=false:=beq_eq_false_iff_ne.mpr h;simp only[List.lookup,hb];exact a
theorem cD(f:Str)(v:V):∀ fs:List (Str × V),f∈(putF f v fs).map (·.1)/\∀ g,g∈fs.map (·.1)->g∈(putF f v fs).map (·.1)
 |[]=>⟨by simp[putF],λg h=>by simp at h⟩
 | (k,x)::r=>by
  obtain⟨i1,a⟩:=cD f v r;rw[show putF f v ((k,x)::r)=(if k=f then (k,v)::r else (k,x)::putF f v r) from rfl];by_cases hk:k=f
  ·rw[q0 hk];subst hk;exact⟨by simp,λg h=>by simpa using h⟩
  ·rw[o0 hk];refine⟨?_,λg h=>?_⟩
   ·rw[M2];exact S2 _ i1
   ·rw[M2] at h ⊢;rcases D1.mp h with e|e
    ·exact D1.mpr (.inl e)
    ·exact S2 _ (a g e)
theorem iF(f:Str)(v:V):∀ fs:List (Str × V),(putF f v fs).length<=fs.length+1
 |[]=>by simp[putF]
 | (k,x)::r=>by
  have a:=iF f v r;rw[show putF f v ((k,x)::r)=(if k=f then (k,v)::r else (k,x)::putF f v r) from rfl];by_cases hk:k=f
  ·rw[q0 hk,L3,L3];lia
  ·rw[o0 hk,L3,L3];lia
theorem RelO.some_of(r:RelO (some v) o):∃ u,o=some u/\RelV v u:=by
 cases o with
 |none=>exact(show False from r).elim
 |some u=>exact⟨u,rfl,r⟩
theorem RelO.none_of(r:RelO none o):o=none:=by
 cases o with
 |none=>rfl
 |some u=>exact(show False from r).elim
theorem uR(r:RelV v u):PySem.W.handedIn u=true:=by
 cases v with
 |non=>cases (show u=Value.none from r);rfl
 |bl b=>cases (show u=Value.bool b from r);rfl
 |int i=>obtain⟨t,e⟩:=(show ∃ t,u=Value.int i t from r);cases e;rfl
 |str x=>obtain⟨t,e⟩:=(show ∃ t,u=Value.str x t from r);cases e;rfl
 |byt b=>obtain⟨t,e⟩:=(show ∃ t,u=Value.bytes b t from r);cases e;rfl
 |flt b=>obtain⟨t,e⟩:=(show ∃ t,u=Value.float b t from r);cases e;rfl
 |ref a=>cases (show u=Value.ref a from r);rfl
 |ty n=>cases (show u=Value.type n from r);rfl
theorem ins_get(hok:HOk P w H h)(e:H a=some (.ins C dx fs)):∃ mA,ObjM h a dx C mA/\(∀ f,RelO (fs.lookup f) (mA f))/\PySem.Within mA (fs.map (·.1))/\fs.length<=1000/\H dx=some (.own a):=by
 obtain⟨d,z,ne,b,mA,n,r,q⟩:=(show ObjOk P w H h a (.ins C dx fs) from hok a _ e)
 exact⟨mA,⟨b,n,ne⟩,r,q,z,d⟩
structure Cls(K:Frag)(C:Addr):Prop where
 pg:PySem.W.plainGet K C Str.empty=true
 hd:PySem.W.hasDictIn K C=true
 po:PySem.W.plainOver K C=true
 sa:PySem.W.findIn K (.ref C) "__setattr__" = some (some (.builtin "object.__setattr__"))
theorem Cls.get{K:Frag}{C:Addr}(c:Cls K C)(f:Str):PySem.W.plainGet K C f=true:=c.pg
def NoAttr(K:Frag)(C:Addr)(f:Str):Prop:=PySem.W.findIn K (.ref C) f=some none
theorem NoAttr.taker{K:Frag}{C:Addr}{f:Str}(n:NoAttr K C f):PySem.W.takerIn K C f=some none:=by
 unfold PySem.W.takerIn;rw[show PySem.W.findIn K (.ref C) f=some none from n];rfl
structure Meth(K:Frag)(C:Addr)(m:Str)(f:Addr):Prop where
 at_:PySem.W.findIn K (.ref C) m=some (some (.ref f))
 fn:PySem.W.isFn K (.ref f)=true
 kp:keepIn K (.ref f)=true
theorem xK(I:Inv X pins σ H s)(e:H a=some (.ins C dx fs))(c:Cls X.K C)(n:NoAttr X.K C f)(l:fs.lookup f=some v)
  (h:∀ u s',Inv X pins σ H s'->RelV v u->Q u s'):wpAny (model X.prog X.w) A (getAttr (.ref a) f b) Q E s:=by
 obtain⟨mA,O,r,_,_,_⟩:=ins_get I.hok e;obtain⟨u,g,d⟩:=RelO.some_of (v:=v) (o:=mA f) (by rw[← l];exact r f);exact bO I.kIn O (c.get f) c.hd n g (uR d) (h u _ (I.tok _) d)
theorem tG(I:Inv X pins σ H s)(e:H a=some (.ins C dx fs))(c:Cls X.K C)(k:Meth X.K C m g)(l:fs.lookup m=none)
  (h:Q (.ref g,[.ref a]) s):wpAny (model X.prog X.w) A (getMethod (.ref a) m pl) Q E s:=by
 obtain⟨mA,O,r,_,_,_⟩:=ins_get I.hok e;have hn:mA m=none:=RelO.none_of (by rw[← l];exact r m);exact RK I.kIn O (c.get m) k.at_ k.fn hn h
theorem rS(I:Inv X pins σ H s)(e:H a=some (.ins C dx fs))(c:Cls X.K C)(n:NoAttr X.K C f)(B:fs.length<1000)(p:RelV y u)
  (h:∀ s',Inv X pins σ (upd H a (.ins C dx (putF f y fs))) s'->Q () s'):wpAny (model X.prog X.w) A (setAttr (.ref a) f u) Q E s:=by
 obtain⟨mA,O,r,i,_,j⟩:=ins_get I.hok e;have m:(fs.map (·.1)).length<=sizeLine:=by rw[R0,sizeLine_eq];lia
 refine ZQ I.kIn O c.sa c.po n.taker c.hd i m λh' d sb=>h _ ?_;have hd:∃ o,h'.get? dx=some o:=let ⟨o,_,_,v,_⟩:=d.ns;⟨o,v⟩;refine I.write (x:=a) (e:=dx) (by rw[e];exact True.intro) (.inr j) (λb q hb z=>(sb.2 b hb).trans z) hd ?_;refine⟨by rw[J0 O.ne];exact j,?_,O.ne,d.obj,_,d.ns,λg=>?_,λg l=>?_⟩
 ·have:=iF f y fs;lia
 ·show RelO ((putF f y fs).lookup g) (if g=f then some u else mA g);rw[UE];by_cases q:g=f
  ·rw[q0 q,q0 q];exact p
  ·rw[o0 q,o0 q];exact r g
 ·by_cases q:g=f
  ·rw[q];exact(cD f y fs).1
  ·refine(cD f y fs).2 g (i g λz=>l ?_);show(if g=f then some u else mA g)=none;rw[o0 q];exact z
theorem Inv.made(I:Inv X pins σ H s):Inv X pins σ (upd (upd H s.heap.objs.size (.own (s.heap.objs.size+1))) (s.heap.objs.size+1) (.ins C s.heap.objs.size []))
  { s with heap:=(s.heap.push PySem.W.emptyDict).push (PySem.W.instObj C s.heap.objs.size) }:=by
 have c:(s.heap.push PySem.W.emptyDict).get? s.heap.objs.size=some PySem.W.emptyDict:=D2 s.heap rfl;have e2:((s.heap.push PySem.W.emptyDict).push (PySem.W.instObj C s.heap.objs.size)).get? (s.heap.objs.size+1)=some (PySem.W.instObj C s.heap.objs.size):=by
  have:=D2 (s.heap.push PySem.W.emptyDict) (o:=PySem.W.instObj C s.heap.objs.size) rfl
  rwa [s7] at this
 have d:(s.heap.push PySem.W.emptyDict).Ns s.heap.objs.size (λ_=>none):=⟨PySem.W.emptyDict,#[],_,c,rfl,(λe h=>absurd h (by simp)),λ_=>rfl⟩
 have g:=I.laid (a:=s.heap.objs.size) (o:=.own (s.heap.objs.size+1)) (h':=s.heap.push PySem.W.emptyDict) (t':=s.toks) (λb u q=>J1 _ q) (M0 _) ⟨_,c⟩;refine g.laid (a:=s.heap.objs.size+1) (o:=.ins C s.heap.objs.size []) (t':=s.toks) (λb u q=>J1 _ q) (Nat.le_of_eq (s7 _ _)) ?_;have ne:s.heap.objs.size ≠ s.heap.objs.size+1:=O1 (W8 _);refine⟨by rw[J0 ne,W0],O3 _,ne,e2,λ_=>none,(Heap.Ns1.of_empty d).at λo q=>J1 _ q,λ_=>True.intro,λy f=>absurd rfl f⟩
theorem rM(hb:attributeBase e f env (eval e env)=eval e env)
  (h:wpAny (model prog w) A (eval e env) (λo a=>wpAny (model prog w) A (getAttr o f true) Q E a) E s):wpAny (model prog w) A (eval (.Attribute e f pos) env) Q E s :=
 Attribute_any_ h (by rw[arm_eval_Attribute,hb])
def tFld(K:Frag)(ta:TE)(f:Str):TE:=λσ H Q=>ta σ H λx H1=>∃ a C dx fs v,x=.ref a/\H1 a=some (.ins C dx fs)/\Cls K C/\NoAttr K C f/\fs.lookup f=some v/\Q v H1
def sFld(K:Frag)(ta tv:TE)(f:Str):TS:=λD σ H=>tv σ H λy H1=>ta σ H1 λx H2=>∃ a C dx fs,x=.ref a/\H2 a=some (.ins C dx fs)/\Cls K C/\NoAttr K C f/\fs.length<1000 /\
 D.nx σ (upd H2 a (.ins C dx (putF f y fs)))
section
variable{X:Cx}{o e value:Expr}{f:Str}{pos pos' tpos:Pos}{ta tv:TE}
theorem T8(d:PE X e ta)(hb:attributeBase e f X.env (eval e X.env)=eval e X.env):PE X (.Attribute e f pos) (tFld X.K ta f):=by
 intro pins s σ H Q I h;refine rM hb (thn (d pins s σ H _ I h) λu s1 ⟨x,b,j,g,a,C,dx,fs,v,ex,o,c,n,l,q⟩=>?_);subst ex;obtain rfl:u=Value.ref a:=g;exact xK j o c n l λp s2 m i=>⟨v,b,m,i,q⟩
theorem NH(ha:PE X o ta)(j:PE X value tv)(hs:swapsWith value (some (.Attribute o f pos')) pos.line X.env=pure false):PS X (.Assign [.Attribute o f pos'] value pos) (sFld X.K ta tv f):=by
 intro pins s σ H D I h;refine plainObj_wpAny_Assign_Attribute (thn (j pins s σ H _ I h) λu s1 ⟨y,d,r,g,q⟩=>thn (ha pins s1 σ d _ r q) λm s2 ⟨x,H2,v,i,a,C,dx,fs,ex,w,c,n,l,p⟩=>?_) hs;subst ex;obtain rfl:m=Value.ref a:=i;exact rS v w c n l g λz b=>⟨σ,_,b,p⟩
end
inductive TyOf(K:Frag)(H:Hp):V->Value->Prop where
 |non:TyOf K H .non (.type "NoneType")
 |bl (x:Bool):TyOf K H (.bl x) (.type "bool")
 |int (i:Int):TyOf K H (.int i) (.type "int")
 |str (x:Str):TyOf K H (.str x) (.type "str")
 |flt (x:UInt64):TyOf K H (.flt x) (.type "float")
 |lst {a:Addr} {xs:List V} (e:H a=some (.lst xs)):TyOf K H (.ref a) (.type "list")
 |frz {a:Addr} {o:Obj} {xs:List V} (e:H a=some (.frz o (.lst xs))):TyOf K H (.ref a) (.type "list")
 |tup {a:Addr} {xs:List V} (e:H a=some (.tup xs)):TyOf K H (.ref a) (.type "tuple")
 |dK {a:Addr} {kvs:List (Key × V)} (e:H a=some (.dK kvs)):TyOf K H (.ref a) (.type "dict")
 |dT {a:Addr} {kvs:List (List Key × V)} (e:H a=some (.dT kvs)):TyOf K H (.ref a) (.type "dict")
 | ins {a C dx:Addr} {fs:List (Str × V)} (e:H a=some (.ins C dx fs)) (cl:Cls K C) (ha:PySem.W.findIn K (.ref C) "__class__" = some (some (.builtin "object.__class__")))
   (hn:PySem.W.specialIn K (.builtin "object.__class__") "__get__" = some (some (.builtin "getset_descriptor.__get__"))) (htk:PySem.W.takesIn K (.builtin "object.__class__")=some true)
   (hm:mroIn K C (.type "object")=some true):TyOf K H (.ref a) (.ref C)
theorem ON(I:Inv X pins σ H s)(d:RelV x u)(ty:TyOf X.K H x t)(e:kitOne X.K t c=some b)(h:∀ j,Q (.bool b) { s with toks:=j }) :
  wpAny (model X.prog X.w) A (call (.builtin "isinstance") [u,c]) Q E s:=by
 cases ty with
 |non=>cases (show u=Value.none from d);exact PySem.W.kia_one PySem.W.kitx_none I.kIn True.intro e (λz=>nomatch z) h
 |bl y=>cases (show u=Value.bool y from d);exact PySem.W.kia_one PySem.W.kitx_bool I.kIn True.intro e (λz=>nomatch z) h
 |int i=>obtain⟨t,q⟩:=(show ∃ t,u=Value.int i t from d);cases q;exact PySem.W.kia_one PySem.W.kitx_int I.kIn True.intro e (λz=>nomatch z) h
 |str y=>obtain⟨t,q⟩:=(show ∃ t,u=Value.str y t from d);cases q;exact PySem.W.kia_one PySem.W.kitx_str I.kIn True.intro e (λz=>nomatch z) h
 |flt y=>obtain⟨t,q⟩:=(show ∃ t,u=Value.float y t from d);cases q;exact PySem.W.kia_one PySem.W.kitx_float I.kIn True.intro e (λz=>nomatch z) h
 | @lst a xs ea =>
  cases (show u=Value.ref a from d);obtain⟨_,_,n,_,f⟩:=(show ObjOk X.prog X.w H s.heap a (.lst xs) from I.hok a _ ea)
  exact PySem.W.kia_one PySem.W.kitx_list I.kIn ⟨_,f,rfl⟩ e (λz=>nomatch z) h
 | @frz a ob xs ea =>
  cases (show u=Value.ref a from d);obtain⟨_,_,_,n,_,f⟩:=(show ObjOk X.prog X.w H s.heap a (.frz ob (.lst xs)) from I.hok a _ ea)
  exact PySem.W.kia_one PySem.W.kitx_list I.kIn ⟨_,f,rfl⟩ e (λz=>nomatch z) h
 | @tup a xs ea =>
  cases (show u=Value.ref a from d);obtain⟨_,_,_,p⟩:=(show ObjOk X.prog X.w H s.heap a (.tup xs) from I.hok a _ ea)
  obtain⟨o,f,g,_⟩:=p;exact PySem.W.kia_one PySem.W.kitx_tuple I.kIn ⟨o,f,g⟩ e (λz=>nomatch z) h
 | @dK a kvs ea =>
  cases (show u=Value.ref a from d);obtain⟨_,_,vs,_,p⟩:=(show ObjOk X.prog X.w H s.heap a (.dK kvs) from I.hok a _ ea)
  obtain⟨o,es,ep,f,g,_⟩:=p;exact PySem.W.kia_one PySem.W.kitx_dict I.kIn ⟨o,f,g.1⟩ e (λz=>nomatch z) h
 | @dT a kvs ea =>
  cases (show u=Value.ref a from d);obtain⟨_,_,xs,_,o,es,ep,f,g,_⟩:=(show ObjOk X.prog X.w H s.heap a (.dT kvs) from I.hok a _ ea)
  exact PySem.W.kia_one PySem.W.kitx_dict I.kIn ⟨o,f,g.1⟩ e (λz=>nomatch z) h
 | @ins a C dx fs ea cl ha hn htk hm =>
  cases (show u=Value.ref a from d);obtain⟨mA,O,_⟩:=ins_get I.hok ea;obtain⟨od,J,_⟩:=O.look;exact PySem.W.kia_one (PySem.W.kitx_own (cl.get _) cl.hd ha hn htk hm) I.kIn J e (λz=>nomatch z) h
structure Room(k:Nat)(A:Around):Prop where
 hd:A.handled=none
 dp:A.depth+3 * k+5<recursionLimit
 un:A.units+16 * k+200<cLine
 gd:A.guards=some []
theorem Room.mono(r:Room k A)(h:j<=k):Room j A:=⟨r.hd,by have:=r.dp;lia,by have:=r.un;lia,r.gd⟩
theorem Room.deeper(r:Room (k+1) A)(env:Env):Room k (A.deeper env) :=
 ⟨r.hd,by have:=r.dp;show A.depth+1+3 * k+5<_;lia,by have:=r.un;show A.units+3+16 * k+200<_;lia,r.gd⟩
theorem WR{A:Around}{C:Addr}{us:List Value}{a:List (Str × Value)}:(A.under (.builtin "type.__call__" ⟨.ref C::us,a⟩)).depth=A.depth+1:=by
 first|rfl|simp[Around.under,Code.weight,Code.isCreation,Code.isGuard,Code.isCaller,Code.frames,Code.isFrame,guardIds]
theorem ZS{A:Around}{C:Addr}{us:List Value}{a:List (Str × Value)}:(A.under (.builtin "type.__call__" ⟨.ref C::us,a⟩)).units=A.units+1:=by
 first|rfl|simp[Around.under,Code.cUnits,Code.frames,Code.isFrame]
theorem sR{A:Around}{C:Addr}{us:List Value}{a:List (Str × Value)}:(A.under (.builtin "type.__call__" ⟨.ref C::us,a⟩)).guards=A.guards:=by
 cases hg:A.guards <;> simp[Around.under,hg,Code.guards,Code.isGuard,guardIds,pushGuards]
theorem Room.make(r:Room (k+1) A)(C:Addr)(us:List Value)(a:List (Str × Value)):Room k (A.under (.builtin "type.__call__" ⟨.ref C::us,a⟩)) :=
 ⟨r.hd,by have:=r.dp;rw[WR];lia,by have:=r.un;rw[ZS];lia,by rw[sR];exact r.gd⟩
theorem Room.depth(r:Room k A):A.depth<recursionLimit:=by have:=r.dp;lia
theorem Room.units(r:Room k A):A.units+64<cLine:=by have:=r.un;lia
theorem Room.units0(r:Room k A):A.units<cLine:=by have:=r.un;lia
def tNil:TA:=λ_ H Q=>Q [] H
def Y1(ta:TE)(tr:TA):TA:=λσ H Q=>ta σ H λx H1=>tr σ H1 λxs H2=>Q (x::xs) H2
section
variable{X:Cx}{e:Expr}{es:List Expr}{te:TE}{t:TA}{pos:Pos}
theorem i0:PA X [] tNil:=λ_ _ _ _ H Q I h=>Calls.spliced_nil ⟨[],H,I,.nil,h⟩
theorem f0(ha:PE X e te)(d:PA X es t)(hs:starEach (e::es) X.env=(false,eval e X.env)::starEach es X.env:=by rfl):PA X (e::es) (Y1 te t):=by
 intro pos pins s σ H Q I h;rw[hs];show wpAny _ _ (spliced ((false,eval e X.env)::backTo pos (starEach es X.env))) _ _ s;refine Calls.spliced_cons (thn (ha pins s σ H _ I h) λu s1 ⟨x,b,g,j,a⟩=>?_);exact thn (d pos pins s1 σ b _ g a) λus s2 ⟨xs,H2,i,c,f⟩=>⟨x::xs,H2,i,.cons j c,f⟩
def tTup(t:TA):TE:=λσ H Q=>t σ H λxs H1=>xs.length<=sizeLine/\∀ p,H1 p=none->Q (.ref p) (upd H1 p (.tup xs))
def tLst(t:TA):TE:=λσ H Q=>t σ H λxs H1=>xs.length<=sizeLine/\∀ p,H1 p=none->Q (.ref p) (upd H1 p (.lst xs))
theorem n3{x1}(h:PA X es t):PE X (.Tuple es x1 pos) (tTup t):=by
 intro pins s σ H Q I d;refine wpAny_Tuple_spliced (thn (h pos pins s σ H _ I d) λus s1 ⟨xs,a,c,r,z,q⟩=>⟨by rw[← r.length];exact z,?_⟩);have hf:a s1.heap.objs.size=none:=c.hok.fresh (M0 _);refine⟨.ref s1.heap.objs.size,upd a s1.heap.objs.size (.tup xs),c.laid (t':=s1.toks) (λb u e=>J1 _ e) (M0 _) ?_,rfl,q _ hf⟩;exact⟨z,us,r,⟨_,D2 _ rfl,rfl,_,rfl⟩⟩
theorem T3(h:PA X es t):PE X (.List es pos) (tLst t):=by
 intro pins s σ H Q I d;refine wpAny_List_spliced (thn (h pos pins s σ H _ I d) λus s1 ⟨xs,a,c,r,z,q⟩=>⟨by rw[← r.length];exact z,?_⟩);have hf:a s1.heap.objs.size=none:=c.hok.fresh (M0 _);refine⟨.ref s1.heap.objs.size,upd a s1.heap.objs.size (.lst xs),c.laid (t':=s1.toks) (λb u e=>J1 _ e) (M0 _) ?_,rfl,q _ hf⟩;exact⟨z,us,0,r,D2 _ rfl⟩
end
abbrev Sp:=List V->Hp->VK->XK->Prop
abbrev CXT:=List Env->Hp->Shared->XK->Value->Shared->Prop
structure Env0(P:Program)(w:World)(K:Frag)(mg:Str->Option Value)(base:Heap)(A:Around)(outer:List Env)(s:Shared)(H:Hp):Prop where
 frames:A.frames=some outer
 mod:Mod K mg base
 bs:∀ b o,base.get? b=some o->s.heap.get? b=some o/\H b=none
 bsz:base.objs.size<=s.heap.objs.size
 funs:s.heap.FunFrames base outer
 frf:∀ b∈frs outer,H b=none
 tab:TabsOk K H
 hok:HOk P w H s.heap
 bare:AllBare s.gens
def CE(outer:List Env)(P:Program)(w:World)(H:Hp)(s:Shared)(Q:VK)(u:Value)(s':Shared):Prop :=
 ∃ v H',s'.os=s.os/\AllBare s'.gens/\Un (frs outer) [] H H' s.heap s'.heap/\HOk P w H' s'.heap/\RelV v u/\Q v H'
def CR(CX:CXT)(outer:List Env)(P:Program)(w:World)(H:Hp)(s:Shared)(Q:VK)(E:XK)(r:Result)(s':Shared):Prop :=
 match r with
 | .ok (.ret u)=>CE outer P w H s Q u s'
 | .ok _=>False
 | .error e=>CX outer H s E e s'
structure FnOk(P:Program)(w:World)(K:Frag)(mg:Str->Option Value)(base:Heap)(CX:CXT)(k:Nat)(f:Addr)(fd:FuncData)(ps:List Str)(sp:Sp):Prop where
 len:∀ vs H Q E,sp vs H Q E->vs.length=ps.length
 run:∀(A:Around)(outer:List Env)(s:Shared)(H:Hp)(args:Args)(us:List Value)(vs:List V)(Q:VK)(E:XK),Room k A->Env0 P w K mg base A outer s H->BindsTo s fd args (ps.zip us)->Vals vs us->sp vs H Q E ->
  codeAny (model P w) A (.call (.ref f) args) (CR CX outer P w H s Q E) s
theorem FnOk.imp{P:Program}{w:World}{K:Frag}{mg:Str->Option Value}{base:Heap}{CX:CXT}{k:Nat}{f:Addr}{fd:FuncData}{ps:List Str}{sp a:Sp}(F:FnOk P w K mg base CX k f fd ps sp)
  (h:∀ vs H Q E,a vs H Q E->sp vs H Q E):FnOk P w K mg base CX k f fd ps a :=
 ⟨λvs H Q E q=>F.len vs H Q E (h _ _ _ _ q),λA outer s H args us vs Q E d b hb c hs=>F.run A outer s H args us vs Q E d b hb c (h _ _ _ _ hs)⟩
theorem Env0.make{P:Program}{w:World}{K:Frag}{mg:Str->Option Value}{base:Heap}{A:Around}{outer:List Env}{s:Shared}{H:Hp}(e:Env0 P w K mg base A outer s H)(C:Addr)(us:List Value)(a:List (Str × Value)) :
  Env0 P w K mg base (A.under (.builtin "type.__call__" ⟨.ref C::us,a⟩)) outer s H:=⟨by first|exact e.frames|(simpa[Around.under,Code.envs,Code.isFrame,pushEnvs] using e.frames),e.mod,e.bs,e.bsz,e.funs,e.frf,e.tab,e.hok,e.bare⟩
theorem Inv.env0(I:Inv X pins σ H s):Env0 X.prog X.w X.K X.mg X.base X.A X.stack s H :=
 ⟨I.ok.frames,I.ok.mod,I.bs,W1 I.ok.bsz I.sz,I.stack,I.stkFree,I.tab,I.hok,I.bare⟩
theorem Inv.after(I:Inv X pins σ H s)(h:CE X.stack X.prog X.w H s Q u s'):EP X pins σ Q u s':=by
 obtain⟨v,H',os,bare,un,hok,r,q⟩:=h;obtain⟨hh,g,d,t,os'⟩:=s';obtain rfl:os'=s.os:=os;exact⟨v,H',I.call (h':=hh) (g':=g) (d':=d) (t':=t) (ch:=[]) un hok bare (λb z=>absurd z (by simp)),r,q⟩
def M3(sp:Sp)(dvs:List V)(E:XK)(t:TA):TE:=λσ H Q=>t σ H λvs H1=>sp (vs++dvs) H1 Q E
def t8(C:Addr)(m:Str)(sp:Sp)(dvs:List V)(E:XK)(ta:TE)(t:TA):TE:=λσ H Q=>ta σ H λx H1=>∃ a dx fs,x=.ref a/\H1 a=some (.ins C dx fs)/\fs.lookup m=none /\
 t σ H1 λvs H2=>sp (x::(vs++dvs)) H2 Q E
def gD(C:Addr)(sp:Sp)(dvs:List V)(E:XK)(t:TA):TE:=λσ H Q=>t σ H λvs H1=>∀ x dx,H1 x=none->H1 dx=none->dx ≠ x ->
 sp (.ref x::(vs++dvs)) (upd (upd H1 dx (.own x)) x (.ins C dx [])) (λv H2=>v=.non/\Q (.ref x) H2) E
def Binds(K:Frag)(fd:FuncData)(ps:List Str)(ds:List Value):Prop :=
 ∀(s:Shared)(us:List Value),K.In s.heap->(us++ds).length=ps.length->BindsTo s fd ⟨us,[]⟩ (ps.zip (us++ds))
theorem Binds.all{K:Frag}{fd:FuncData}{ps:List Str}(h:∀ us:List Value,us.length=ps.length->bindArgs fd ⟨us,[]⟩=pure (ps.zip us)):Binds K fd ps []:=λs us _ a=>by
 rw[m5] at a ⊢;exact .of_eq (h us a)
def L8(CX:CXT)(X:Cx)(E:XK):Prop:=∀(pins:List (Addr × Obj))(σ:St)(H:Hp)(s:Shared)(e:Value)(s':Shared),Inv X pins σ H s->CX X.stack H s E e s'->X.xe e s'
section
variable{X:Cx}{CX:CXT}{k:Nat}{f C:Addr}{fd:FuncData}{ps:List Str}{sp:Sp}{dvs:List V}{ds:List Value}{E:XK}{x m:Str}{p pos apos:Pos}{e o:Expr}{es:List Expr}{ta:TE}{t:TA}
theorem lD(F:FnOk X.prog X.w X.K X.mg X.base CX k f fd ps sp)(d:Room k X.A)(hb:Binds X.K fd ps ds)(hd:Vals dvs ds)(c:L8 CX X E)
  (I:Inv X pins σ H s) (r:Vals vs us) (h:sp (vs++dvs) H Q E):wpAny (model X.prog X.w) X.A (call (.ref f) us) (EP X pins σ Q) X.xe s:=by
 have b:Vals (vs++dvs) (us++ds):=r.append hd;have g:(us++ds).length=ps.length:=by rw[← b.length];exact F.len _ _ _ _ h
 refine wpAny_call (codeAny_mono (F.run X.A X.stack s H ⟨us,[]⟩ (us++ds) (vs++dvs) Q E d I.env0 (hb s us I.kIn g) b h) λr s' a=>?_);cases r with
 |error e=>exact c pins σ H s e s' I a
 | ok fl =>
  cases fl with
  |ret u=>exact I.after a
  |next=>exact False.elim a
  |brk=>exact False.elim a
  |cont=>exact False.elim a
theorem cK(F:FnOk X.prog X.w X.K X.mg X.base CX k f fd ps sp)(j:Room k X.A)(d:Gl X x)(hm:X.mg x=some (.ref f))(l:keepIn X.K (.ref f)=true)(hb:Binds X.K fd ps ds)(hd:Vals dvs ds)(i:L8 CX X E)
  (ha:PA X (e::es) t) (a:(x == ("__debug__" : Str))=false:=by decide) (g:starEach (e::es) X.env=(false,eval e X.env)::starEach es X.env:=by rfl) (b:(backTo pos (starEach es X.env)).any (·.1)=false:=by rfl) :
  PE X (.Call (.Name x p) (e::es) [] pos) (M3 sp dvs E t):=by
 intro pins s σ H Q I h;refine wpAny_Call_Name_kw (wE I d hm ?_ a);refine PySem.W.callWith_K (h₀:=X.base) I.ok.mod.kin l (thn (ha pos pins s σ H _ I h) λus s1 ⟨vs,m,c,r,q⟩=>⟨c.kIn,?_⟩) g b;exact lD F j hb hd i c r q
theorem yT{pl:Sem Bool}(n:PE X o ta)(c:Cls X.K C)(hm:Meth X.K C m f)(F:FnOk X.prog X.w X.K X.mg X.base CX k f fd ps sp)(y:Room k X.A)(hb:Binds X.K fd ps ds)(hd:Vals dvs ds)(v:L8 CX X E)(ha:PA X (e::es) t)
  (b:starEach (e::es) X.env=(false,eval e X.env)::starEach es X.env:=by rfl) (d:(backTo pos (starEach es X.env)).any (·.1)=false:=by rfl)
  (z:eval (.Call (.Attribute o m apos) (e::es) [] pos) X.env=(do
   let ov ← eval o X.env
   standAt apos.atName
   let (f,first) ← holding [ov] (getMethod ov m pl)
   callWith pos f first (backTo pos (starEach (e::es) X.env)) (backToKw pos (keywordEach [] X.env))):=by rfl) :
  PE X (.Call (.Attribute o m apos) (e::es) [] pos) (t8 C m sp dvs E ta t):=by
 intro pins s σ H Q I h;refine PySem.W.methodCall_KW (pl:=pl) (thn (n pins s σ H _ I h) λu s1 ⟨x,j,g,p,a,dx,fs,ex,D,l,q⟩=>?_) z;subst ex;obtain rfl:u=Value.ref a:=p;refine tG g D c hm l ?_;refine PySem.W.callWith_K (first:=[.ref a]) (h₀:=X.base) I.ok.mod.kin hm.kp (thn (ha pos pins s1 σ j _ g q) λus s2 ⟨vs,H2,i,r,B⟩=>⟨i.kIn,?_⟩) b d;exact lD (us:=.ref a::us) (vs:=.ref a::vs) F y hb hd v i (.cons rfl r) B
theorem KM{pl:Sem Bool}(d:PE X o ta)(c:Cls X.K C)(hm:Meth X.K C m f)(F:FnOk X.prog X.w X.K X.mg X.base CX k f fd ps sp)(j:Room k X.A)(hb:Binds X.K fd ps ds)(hd:Vals dvs ds)(i:L8 CX X E)
  (n:eval (.Call (.Attribute o m apos) [] [] pos) X.env=(do
   let ov ← eval o X.env
   standAt apos.atName
   let (f,first) ← holding [ov] (getMethod ov m pl)
   callWith pos f first (backTo pos (starEach [] X.env)) (backToKw pos (keywordEach [] X.env))):=by rfl) :
  PE X (.Call (.Attribute o m apos) [] [] pos) (t8 C m sp dvs E ta tNil):=by
 intro pins s σ H Q I h;refine PySem.W.methodCall_KW (pl:=pl) (thn (d pins s σ H _ I h) λu s1 ⟨x,r,b,g,a,dx,fs,ex,p,l,q⟩=>?_) n;subst ex;obtain rfl:u=Value.ref a:=g;refine tG b p c hm l ?_;exact PySem.W.callWith_K0 (first:=[.ref a]) b.kIn hm.kp (lD (us:=[.ref a]) (vs:=[.ref a]) F j hb hd i b (.cons rfl .nil) q)
structure Mk(K:Frag)(C f:Addr):Prop where
 makes:PySem.W.makesIn K C=true
 init:PySem.W.findIn K (.ref C) "__init__" = some (some (.ref f))
 fn:PySem.W.isFn K (.ref f)=true
 kp:keepIn K (.ref C)=true
theorem GT(M:Mk X.K C f)(F:FnOk X.prog X.w X.K X.mg X.base CX k f fd ps sp)(m:Room (k+1) X.A)(hb:Binds X.K fd ps ds)(hd:Vals dvs ds)
  (l:L8 CX X E) (I:Inv X pins σ H s) (r:Vals vs us)
  (h:∀ x dx,H x=none->H dx=none->dx ≠ x->sp (.ref x::(vs++dvs)) (upd (upd H dx (.own x)) x (.ins C dx [])) (λv H2=>v=.non/\Q (.ref x) H2) E) :
  wpAny (model X.prog X.w) X.A (call (.ref C) us) (EP X pins σ Q) X.xe s:=by
 have d:=h (s.heap.objs.size+1) s.heap.objs.size (I.hok.fresh (Nat.le_succ _)) (I.hok.fresh (M0 _)) (O1 (W8 _));have b:=Inv.made (C:=C) I;have c:Vals (V.ref (s.heap.objs.size+1)::(vs++dvs)) (Value.ref (s.heap.objs.size+1)::(us++ds)):=.cons rfl (r.append hd);have n:(Value.ref (s.heap.objs.size+1)::us++ds).length=ps.length:=by
  have e:=c.length;rw[F.len _ _ _ _ d] at e;exact e.symm
 refine wpAny_call (QQ (f:=f) I.kIn M.makes M.init (S1.mp M.fn) (codeAny_mono (F.run _ X.stack _ _ ⟨Value.ref (s.heap.objs.size+1)::us,[]⟩ (Value.ref (s.heap.objs.size+1)::(us++ds)) _ _ E (m.make C us [])
  (b.env0.make C us []) (hb _ (Value.ref (s.heap.objs.size+1)::us) b.kIn n) c d) λr s' a=>?_))
 cases r with
 |error e=>exact l pins σ _ _ e s' b a
 | ok fl =>
  cases fl with
  | ret u =>
   obtain⟨v,H',g,i,o,j⟩:=b.after a;subst o;exact⟨i,⟨V.ref (s.heap.objs.size+1),H',g,rfl,j⟩⟩
  |next=>exact False.elim a
  |brk=>exact False.elim a
  |cont=>exact False.elim a
theorem KK(M:Mk X.K C f)(F:FnOk X.prog X.w X.K X.mg X.base CX k f fd ps sp)(j:Room (k+1) X.A)(d:Gl X x)(hm:X.mg x=some (.ref C))(hb:Binds X.K fd ps ds)(hd:Vals dvs ds)(i:L8 CX X E)
  (ha:PA X (e::es) t) (a:(x == ("__debug__" : Str))=false:=by decide) (g:starEach (e::es) X.env=(false,eval e X.env)::starEach es X.env:=by rfl) (b:(backTo pos (starEach es X.env)).any (·.1)=false:=by rfl) :
  PE X (.Call (.Name x p) (e::es) [] pos) (gD C sp dvs E t):=by
 intro pins s σ H Q I h;refine wpAny_Call_Name_kw (wE I d hm ?_ a);refine PySem.W.callWith_K (h₀:=X.base) I.ok.mod.kin M.kp (thn (ha pos pins s σ H _ I h) λus s1 ⟨vs,l,c,r,q⟩=>⟨c.kIn,?_⟩) g b;exact GT M F j hb hd i c r q
end
structure FnScope(N P:List Str)(sc:Scope):Prop where
 kind:sc.kind=.function
 co:sc.isCoroutine=false
 gen:sc.isGenerator=false
 nd:N.Nodup
 pre:N.take P.length=P
 par:∀ x∈P,sc.names.lookup x=some .local\/sc.names.lookup x=some .cell
 nofree:∀ y∈sc.names,y.2 ≠ .free
theorem fH{kindOf:Str->Option NameKind}{x:Str}:∀{binds:List (Str × Value)}{m:Str->Option Value},(∀ v,(x,v) ∉ binds)->bindL kindOf binds m x=m x
 |[],_,_=>rfl
 | (n,v)::r,m,h=>by
  unfold bindL;rw[fH λw a=>h w (S2 _ a)];split
  ·have:x ≠ n:=by rintro rfl;exact h v o3
   simp[this]
  ·rfl
theorem vF{kindOf:Str->Option NameKind}{x:Str}:∀{binds:List (Str × Value)}{m:Str->Option Value},(∀ v,(x,v) ∉ binds)->bindC kindOf binds m x=m x
 |[],_,_=>rfl
 | (n,v)::r,m,h=>by
  unfold bindC;rw[vF λw a=>h w (S2 _ a)];split
  ·rfl
  ·have:x ≠ n:=by rintro rfl;exact h v o3
   simp[this]
theorem QG{kindOf:Str->Option NameKind}{x:Str}{v:Value}:∀{P:List Str}{vs:List Value}{i:Nat}{m:Str->Option Value},P.Nodup->P[i]?=some x->vs[i]?=some v->kindOf x=some .local ->
  bindL kindOf (P.zip vs) m x=some v
 |[],_,_,_,_,h,_,_=>by simp at h
 |_::_,[],_,_,_,_,h,_=>by simp at h
 | p::P,w::vs,0,m,nd,h1,h2,hk=>by
  simp at h1 h2;subst h1;subst h2;show bindL kindOf ((p,w)::P.zip vs) m p=_;unfold bindL;rw[fH λv a=>(O5.mp nd).1 (List.of_mem_zip a).1,q0 hk];simp
 | p::P,w::vs,i+1,m,nd,h1,h2,hk=>by
  show bindL kindOf ((p,w)::P.zip vs) m x=_;unfold bindL;exact QG (i:=i) (O5.mp nd).2 (by simpa using h1) (by simpa using h2) hk
theorem rJ{kindOf:Str->Option NameKind}{x:Str}{v:Value}:∀{P:List Str}{vs:List Value}{i:Nat}{m:Str->Option Value},P.Nodup->P[i]?=some x->vs[i]?=some v->kindOf x ≠ some .local ->
  bindC kindOf (P.zip vs) m x=some v
 |[],_,_,_,_,h,_,_=>by simp at h
 |_::_,[],_,_,_,_,h,_=>by simp at h
 | p::P,w::vs,0,m,nd,h1,h2,hk=>by
  simp at h1 h2;subst h1;subst h2;show bindC kindOf ((p,w)::P.zip vs) m p=_;unfold bindC;rw[vF λv a=>(O5.mp nd).1 (List.of_mem_zip a).1,o0 hk];simp
 | p::P,w::vs,i+1,m,nd,h1,h2,hk=>by
  show bindC kindOf ((p,w)::P.zip vs) m x=_;unfold bindC;exact rJ (i:=i) (O5.mp nd).2 (by simpa using h1) (by simpa using h2) hk
def start(N:List Str)(vs:List V):St:=vs.map some++List.replicate (N.length-vs.length) none
def cxOf(CX:CXT)(P:Program)(w:World)(K:Frag)(mg:Str->Option Value)(base:Heap)(N:List Str)(qual:Str)(scope:Scope)(f:Addr)(cd:Value)(A:Around)(outer:List Env)(s:Shared)(H:Hp)(E:XK):Cx where
 prog:=P
 w:=w
 K:=K
 mg:=mg
 base:=base
 A:=A.deeper (envOfC qual scope s.heap.objs.size f cd)
 N:=N
 s₀:=s
 H₀:=H
 env:=envOfC qual scope s.heap.objs.size f cd
 outer:=outer
 stack:=envOfC qual scope s.heap.objs.size f cd::outer
 ex:=[]
 calm:=true
 fn:=λ_=>true
 pn:=[]
 xe:=λe s'=>wpAny (model P w) (A.deeper (envOfC qual scope s.heap.objs.size f cd)) (leaving (envOfC qual scope s.heap.objs.size f cd) e) (λ_ s''=>CX outer H s E e s'') (λe' s''=>CX outer H s E e' s'') s'
theorem vJ{sc:Scope}{n:Nat}{x:Str}(h:sc.names.lookup x=some .cell):∃ c,(cellsFrom n sc.names []).lookup x=some c:=by
 have q:=PySem.W.cellsFrom_some sc.names n [] (.inl h);exact Option.isSome_iff_exists.mp q
theorem MM{CX:CXT}{P:Program}{w:World}{K:Frag}{mg:Str->Option Value}{base:Heap}{N ps:List Str}{qual:Str}{scope:Scope}{f:Addr}{B:Value}{A:Around}{outer:List Env}{s s1:Shared}{H:Hp}{E:XK}{us:List Value}{vs:List V}
  (S:FnScope N ps scope) (hd:A.handled=none) (g:Env0 P w K mg base A outer s H) (J:vs.length=ps.length) (r:Vals vs us)
  (x:InCallC s s.heap.objs.size (bindL (envOfC qual scope s.heap.objs.size f B).kindOf (ps.zip us) λ_=>none) (cellsFrom (s.heap.objs.size+1) scope.names []) (bindC (envOfC qual scope s.heap.objs.size f B).kindOf (ps.zip us) λ_=>none) s1) :
  Inv (cxOf CX P w K mg base N qual scope f B A outer s H E) [] (start N vs) H s1:=by
 have I:ps.length<=N.length:=by have:=congrArg List.length S.pre;rw[Q7] at this;lia
 obtain⟨C,L,rfl,F⟩:=x.done;have j:∀ b:Addr,b ∉ (cxOf CX P w K mg base N qual scope f B A outer s H E).ex:=λb z=>absurd (show b∈([]:List Addr) from z) (by simp)
 refine⟨⟨g.mod,S.kind,rfl,rfl,M0 _,λy z c C d=>?_,λy l=>?_,λy c _ h=>?_,λ_=>hd,Around.frames_deeper g.frames,.inr ⟨rfl,rfl⟩,λb z=>absurd z (j b),g.bs,g.bsz,λb _ _=>j b,λb z=>absurd z (j b),g.funs,g.frf,g.tab⟩,
  rfl,g.bare,Un.kept F,⟨_,x.toInCall.ns,λi y v C d M=>?_⟩,λy c h=>⟨_,x.cell y c h⟩,g.hok.fresh (M0 _),λy c h=>?_,λp m=>absurd (show p∈([]:List (Addr × Obj)) from m) (by simp),g.hok.kept F,?_⟩
 ·exact name_of_addr x.apart (PySem.mem_of_lookup C) (PySem.mem_of_lookup d)
 ·have l:scope.names.lookup y=some .cell\/scope.names.lookup y=some .free:=l;rcases l with l|l
  ·exact vJ l
  ·exact absurd rfl (S.nofree _ (PySem.mem_of_lookup l))
 ·exact D5 (x.above y c (PySem.mem_of_lookup h))
 ·have hi:i<vs.length:=by
   unfold start at d;by_cases hi:i<vs.length
   ·exact hi
   ·rw[F7 (by simpa using hi)] at d;rw[r9] at d;split at d <;> cases d
  have ha:vs[i]?=some v:=by
   unfold start at d;rw[f8 (by simpa using hi),L1] at d;cases e:vs[i]? with
   |none=>rw[e] at d;cases d
   |some a=>rw[e] at d;cases d;rfl
  obtain⟨u,D,G⟩:=r.get ha;have m:ps[i]?=some y:=by
   rw[← S.pre,n8 (by lia)];exact C
  have o:ps.Nodup:=by rw[← S.pre];exact S.nd.sublist (List.take_sublist _ _)
  refine⟨u,G,?_⟩;rcases S.par y (i3 m) with k|k
  ·exact .inl ⟨k,QG o m D k⟩
  ·obtain⟨c,e⟩:=vJ (n:=s.heap.objs.size+1) k;refine .inr ⟨.inl k,c,e,?_⟩;have q:=x.cell y c e;rw[rJ o m D (by show scope.names.lookup y ≠ _;rw[k];decide)] at q;exact q
 ·exact g.hok.fresh (D5 (x.above y c (PySem.mem_of_lookup h)))
 ·unfold start;show _=N.length;rw[f3,R0,List.length_replicate];lia
theorem XS{CX:CXT}{P:Program}{w:World}{K:Frag}{mg:Str->Option Value}{base:Heap}{k:Nat}{f:Addr}{name qual:Str}{a:Arguments}{body:List Stmt}{scope:Scope}{B kV doc pm cdv ct oc:Value}{an od:Option Addr}
  {osl:Array (Option Value)} {N ps:List Str} {sp:Sp} (O:K.lookup f=some ⟨oc,od,.func (fnOf name qual a body scope B kV doc pm an cdv ct),osl⟩) (j:codeIn K cdv qual=true) (S:FnScope N ps scope)
  (len:∀ vs H Q E,sp vs H Q E->vs.length=ps.length)
  (d:∀(A:Around)(outer:List Env)(s:Shared)(H:Hp)(vs:List V)(Q:VK)(E:XK),Room k (A.deeper (envOfC qual scope s.heap.objs.size f cdv))->sp vs H Q E ->
   ∃ t,PSs (cxOf CX P w K mg base N qual scope f cdv A outer s H E) body t/\t { nx:=λ_ H'=>Q .non H',rt:=Q } (start N vs) H) :
  FnOk P w K mg base CX (k+1) f (fnOf name qual a body scope B kV doc pm an cdv ct) ps sp:=by
 refine⟨len,λA outer s H args us vs Q E m i hb r h=>?_⟩;have G:=len _ _ _ _ h;have z:K.In s.heap:=i.mod.kin.keeps λb o e=>(i.bs b o e).1;have p:s.heap.NoLimit:=i.mod.nolimit.keeps λb o e=>(i.bs b o e).1;have g:∀ y∈ps.zip us,scope.names.lookup y.1=some .local\/(scope.names.lookup y.1=some .cell/\((cellsFrom (s.heap.objs.size+1) scope.names []).lookup y.1).isSome=true):=λ⟨n,v⟩ C=>by
  rcases S.par n (List.of_mem_zip C).1 with q|q
  ·exact .inl q
  ·exact .inr ⟨q,PySem.W.cellsFrom_some _ _ _ (.inl q)⟩
 refine codeAny_call_function m.depth (z _ _ O) rfl S.co S.gen rfl (PySem.W.codeRec_of z j) (hb _ _ _ _ ?_);refine wpAny_newFunctionEnv_cells S.kind g λenv D s1 x=>?_;subst D;refine⟨p.keeps x.toInCall.keep,codeAny_func ?_⟩;obtain⟨t,L,F⟩:=d A outer s H vs Q E (m.deeper _) h;have I:Inv (cxOf CX P w K mg base N qual scope f cdv A outer s H E) [] (start N vs) H s1:=MM S m.hd i G r x;refine V3 (L [] s1 (start N vs) H _ I F) (λM s' hs=>?_) λe s' hs=>hs;have fin:∀{c:St}{H':Hp}{v:V}{u:Value},Inv (cxOf CX P w K mg base N qual scope f cdv A outer s H E) [] c H' s'->RelV v u->Q v H'->CE outer P w H s Q u s' :=
  λ{c H' v u} J l q=>⟨v,H',J.os,J.bare,J.base,J.hok,l,q⟩
 cases M with
 | ret u =>
  obtain⟨v,c,H',J,l,q⟩:=hs;exact fin J l q
 | next =>
  obtain⟨c,H',J,q⟩:=hs;exact fin (v:=V.non) (u:=Value.none) J rfl q
 | brk =>
  obtain⟨_,_,_,q⟩:=hs;exact False.elim q
 | cont =>
  obtain⟨_,_,_,q⟩:=hs;exact False.elim q
section
variable{X:Cx}{x:Str}{p pos:Pos}{e:Expr}{es:List Expr}{t:TA}{id T:String}{r:List V->Hp->VK->Prop}
def tCB(r:List V->Hp->VK->Prop)(t:TA):TE:=λσ H Q=>t σ H λvs H1=>r vs H1 Q
theorem Z0(i:C2 X (.builtin id) r)(c:Gl X x)(hm:X.mg x=none)(j:bootBuiltins x=some (.builtin id))(ha:PA X (e::es) t)(hn:x ≠ "__name__":=by decide)(a:(x == ("__debug__" : Str))=false:=by decide)
  (g:starEach (e::es) X.env=(false,eval e X.env)::starEach es X.env:=by rfl) (b:(backTo pos (starEach es X.env)).any (·.1)=false:=by rfl):PE X (.Call (.Name x p) (e::es) [] pos) (tCB r t):=by
 intro pins s σ H Q I h;refine wpAny_Call_Name_kw (p6 I c hm j ?_ hn a);exact PyProof.Rows.callWith_builtin1 (thn (ha pos pins s σ H _ I h) λus s1 ⟨vs,f,l,m,d⟩=>i pins s1 σ f vs us Q l m d) g b
theorem J7(i:C2 X (.type T) r)(c:Gl X x)(hm:X.mg x=none)(j:bootBuiltins x=some (.type T))(ha:PA X (e::es) t)(hn:x ≠ "__name__":=by decide)(a:(x == ("__debug__" : Str))=false:=by decide)
  (g:starEach (e::es) X.env=(false,eval e X.env)::starEach es X.env:=by rfl) (b:(backTo pos (starEach es X.env)).any (·.1)=false:=by rfl):PE X (.Call (.Name x p) (e::es) [] pos) (tCB r t):=by
 intro pins s σ H Q I h;refine wpAny_Call_Name_kw (p6 I c hm j ?_ hn a);exact PyProof.Rows.callWith_type1 (thn (ha pos pins s σ H _ I h) λus s1 ⟨vs,f,l,m,d⟩=>i pins s1 σ f vs us Q l m d) g b
end
end L2
namespace HT
open PySem PyProof.Rows
def lexLt:List Int->List Int->Bool
 |[],[]=>false
 |[],_::_=>true
 |_::_,[]=>false
 |x::xs,y::ys=>if x=y then lexLt xs ys else decide (x<y)
theorem oC(x y:Int)(xs ys:List Int):lexLt (x::xs) (y::ys)=if x=y then lexLt xs ys else decide (x<y):=rfl
theorem CS:lexLt [] []=false:=rfl
theorem mS(y:Int)(ys:List Int):lexLt [] (y::ys)=true:=rfl
theorem SN(x:Int)(xs:List Int):lexLt (x::xs) []=false:=rfl
theorem sT(A:Around)(s:Shared)(a:Int)(t:Tok)(c:Int)(u:Tok):∃ e,SeqAt.EqAt A s (.int a t) (.int c u) e/\(e=true ↔ a=c) :=
 ⟨(a == c),SeqAt.EqAt.int_int a t c u,by simp⟩
theorem uN(A:Around)(s:Shared)(a:Int)(t:Tok)(c:Int)(u:Tok)(prog:Program)(w:World)(E:Value->Shared->Prop)(Q:Value->Shared->Prop)(h:Q (.bool (decide (a<c))) s) :
  wpAny (model prog w) A (richCompare .Lt (.int a t) (.int c u)) Q E s :=
 (PyProof.Rows.lt_int h:wpAny (model prog w) A (compareOp .Lt (.int a t) (.int c u)) Q E s)
section
open PySem.SeqAt
open PySem.AutoSeq1 (wpAny_loadPart')
open PySem.MeetsSeq PySem.MeetsSeq2 PySem.MeetsSeq3
theorem KP(l b:Addr)(items f:Array Value)(n N:Nat)(S H:Option Addr)(sl G:Array (Option Value))(ns F:List Int)(hi:IntsAre items.toList ns)(K:IntsAre f.toList F) :
  Meets (Builtin.«tuple.__lt__» ⟨[.ref l,.ref b],[]⟩)
   (λ_ R s=>s.heap.get? l=some { cls:=.type "tuple",dict:=S,data:=.seq items n,slots:=sl }/\s.heap.get? b=some { cls:=.type "tuple",dict:=H,data:=.seq f N,slots:=G } /\
    R (.ok (.ret (.bool (lexLt ns F)))) s) :=
 .of_wp λprog w A R s h=>by
  obtain⟨E,g,d,D,os⟩:=s;obtain⟨Q,hb,h⟩:=h;have X:=AutoSeq1.sub_tuple_tuple;have W:items.size=ns.length:=by rw[← hi.length];simp
  have T:f.size=F.length:=by rw[← K.length];simp
  wp_walk using wpAny_loadPart' Q,wpAny_loadPart' hb,wpAny_forIn_list _ (λrest b s'=>b.1=none/\s'=⟨E,g,d,D,os⟩/\∃(vs ws:List Value)(j m:List Int),rest=vs.zip ws /\
   IntsAre vs j/\IntsAre ws m/\j.length+f.size=m.length+items.size/\R (.ok (.ret (.bool (lexLt j m)))) ⟨E,g,d,D,os⟩) _
  case turn =>
   rintro⟨y,x⟩ rest b s' ⟨z,rfl,vs,ws,j,m,o,B,p,i,r⟩;cases B with
   |nil=>rw[List.zip_nil_left] at o;cases o
   | cons a t hvi' =>
    cases p with
    |nil=>rw[List.zip_nil_right] at o;cases o
    | cons c u hwi' =>
     rw[List.zip_cons_cons] at o;injection o with I C;injection I with M P;subst M P;rw[oC] at r;simp only[L3] at i;obtain⟨e,O,v⟩:=sT A.in1 ⟨E,g,d,D,os⟩ a t c u;refine C0 (O prog w _ _ ?_);cases e with
     | true =>
      rw[q0 (v.mp rfl)] at r
      wp_walk
      exact⟨rfl,rfl,_,_,_,_,C,hvi',hwi',by lia,r⟩
     | false =>
      rw[o0 (λq=>absurd (v.mpr q) X1)] at r;have J:=uN A.in1 ⟨E,g,d,D,os⟩ a t c u prog w
      wp_walk using J
      exact⟨_,rfl,by simpa using r⟩
  case fin =>
   rintro⟨b1,U⟩ s' ⟨z,rfl,vs,ws,j,m,o,B,p,i,r⟩;simp only at z;subst z;have L:lexLt j m=decide (items.size<f.size):=by
    cases B with
    | nil =>
     cases p with
     | nil =>
      simp only[rC] at i;rw[CS];exact(D3 (by lia)).symm
     | cons c u hw =>
      simp only[rC,L3] at i;rw[mS];exact(N3 (by lia)).symm
    | cons a t L =>
     cases p with
     | nil =>
      simp only[rC,L3] at i;rw[SN];exact(D3 (by lia)).symm
     | cons c u hw =>
      rw[List.zip_cons_cons] at o;cases o
   rw[L] at r
   wp_walk
   exact⟨_,rfl,by simpa[Builtin.Tuple.tupleCompareSizes] using r⟩
  case h =>
   exact⟨rfl,rfl,items.toList,f.toList,ns,F,rfl,hi,K,by lia,h⟩
end
theorem lt_tupInts(y:IsTup s.heap l items)(hb:IsTup s.heap b a)(hi:IntsAre items.toList ns)(v:IntsAre a.toList g)
  (r:A.units<cLine) (h:Q (.bool (lexLt ns g)) s):wpAny (model prog w) A (compareOp .Lt (.ref l) (.ref b)) Q E s:=by
 obtain⟨⟨cls,z,data,sl⟩,o,p,n,hd⟩:=id y;obtain⟨⟨q,j,m,i⟩,f,c,u,d⟩:=id hb;simp only at p hd c d;subst p hd c d
 exact richCompare_meets_room (op:=.Lt) ⟨_,o,rfl⟩ ⟨_,f,rfl⟩ PySem.F.slot_tuple_lt PySem.F.entry_tuple_lt (PySem.F.args_tuple_lt_2 _ _) (KP l b items a n u z j sl i ns g hi v)
  ⟨o,f,show Value.bool (lexLt ns g) ≠ Value.notImplemented/\Q (.bool (lexLt ns g)) s from⟨(λx=>nomatch x),h⟩⟩ r
def sIx(n d:Nat):Option Int->Nat
 |none=>d
 |some v=>if v<0 then (v+(n:Int)).toNat else min v.toNat n
end HT
namespace L2
open PySem PySem.Spec PyProof.Rows
abbrev TO:=St->Hp->(Option Int->Hp->Prop)->Prop
def PO(X:Cx)(e:Option Expr)(t:TO):Prop :=
 ∀(pins:List (Addr × Obj))(s:Shared)(σ:St)(H:Hp)(Q:Option Int->Hp->Prop),Inv X pins σ H s->t σ H Q ->
  wpAny (model X.prog X.w) X.A (evalPart e X.env) (λu s'=>∃ o H',Inv X pins σ H' s'/\IsPart u o/\Q o H') X.xe s
def xJ:TO:=λ_ H Q=>Q none H
def HG(t:TE):TO:=λσ H Q=>t σ H λx H1=>∃ i,x=.int i/\Q (some i) H1
theorem Z7:∀{us:List Value},Vals (ns.map V.int) us->IntsAre us ns:=by
 induction ns with
 |nil=>intro us r;rw[List.map_nil] at r;cases r;exact .nil
 | cons n ns ih =>
  intro us r;rw[M2] at r;cases r with
  | cons r1 r2 =>
   obtain⟨t,e⟩:=r1;subst e;exact .cons n t (ih r2)
section
variable{X:Cx}{e:Expr}{te:TE}{lo hi:Option Expr}{tl th:TO}{pos p2:Pos}
theorem GS:PO X none xJ:=by
 intro pins s σ H Q I h;rw[evalPart_none];exact N0 ⟨none,H,I,.none,h⟩
theorem OO(h:PE X e te):PO X (some e) (HG te):=by
 intro pins s σ H Q I d;rw[evalPart_some];refine thn (h pins s σ H _ I d) λu s1 ⟨x,b,f,c,a⟩=>?_;obtain⟨i,rfl,q⟩:=a;obtain⟨t,rfl⟩:=c;exact⟨some i,b,f,.int i t,q⟩
def SlR(X:Cx)(r:V->Option Int->Option Int->Hp->VK->Prop):Prop :=
 ∀(pins:List (Addr × Obj))(s:Shared)(σ:St)(H:Hp)(x:V)(v vl vu:Value)(lo hi:Option Int)(sl:Addr)(Q:VK),Inv X pins σ H s->RelV x v->s.heap.IsSliceOf sl vl vu .none->IsPart vl lo->IsPart vu hi->r x lo hi H Q ->
  ∃ T id,typeLookup (.type T) "__getitem__" = pure (some (.builtin id))/\s.TypeIs v T/\wpAny (model X.prog X.w) X.A (getItem v (.ref sl)) (EP X pins σ Q) X.xe s
def tSl(r:V->Option Int->Option Int->Hp->VK->Prop)(te:TE)(tl th:TO):TE:=λσ H Q=>te σ H λx H1=>tl σ H1 λl H2=>th σ H2 λu H3=>r x l u H3 Q
theorem SQ(p:SlR X r)(n:PE X e te)(y:PO X lo tl)(m:PO X hi th):PE X (.Subscript e (.Slice lo hi none p2) pos) (tSl r te tl th):=by
 intro pins s σ H Q I h;refine Subscript_ (thn (n pins s σ H _ I h) λv s1 ⟨x,j,E,J,i⟩=>?_);refine wpAny_Slice (thn (y pins s1 σ j _ E i) λd s2 ⟨l,H2,F,pl,D⟩=>thn (m pins s2 σ H2 _ F D) λc a ⟨u,H3,g,C,o⟩=>?_);rw[evalPart_none];refine N0 ?_;have z:Inv X pins σ H3 { a with heap:=a.heap.push { cls:=.type "slice",data:=.fields #[d,c,.none] } }:=g.kept (t':=a.toks) λb K q=>J1 _ q;obtain⟨T,id,G,B,f⟩:=p pins { a with heap:=a.heap.push { cls:=.type "slice",data:=.fields #[d,c,.none] } } σ H3 x v d c l u a.heap.objs.size Q z J (Heap.IsSliceOf.new ..) pl C o;show wpAny (model X.prog X.w) X.A (subscriptTail e (.Slice lo hi none p2) v (.ref a.heap.objs.size)) (EP X pins σ Q) X.xe { a with heap:=a.heap.push { cls:=.type "slice",data:=.fields #[d,c,.none] } };exact tail_any (ops:=[.ref a.heap.objs.size,v]) B G f (by with_unfolding_all rfl)
def cutV(xs:List V)(lo hi:Option Int):List V:=(xs.drop (HT.sIx xs.length 0 lo)).take (HT.sIx xs.length xs.length hi-HT.sIx xs.length 0 lo)
theorem sK(xs:List V)(lo hi:Option Int):(cutV xs lo hi).length<=xs.length:=by
 unfold cutV;rw[Q7,aC];lia
def rLtT(K:Frag):R2:=λx y H Q=>∃ a b ns ms,x=.ref a/\y=.ref b/\SqT K H a (ns.map V.int)/\SqT K H b (ms.map V.int)/\Q (.bl (HT.lexLt ns ms)) H
theorem NT(f:X.A.units<cLine):OpR X (compareOp .Lt) (rLtT X.K):=by
 intro pins s σ H x y v u Q I l j h;obtain⟨a,b,ns,d,rfl,rfl,ha,hb,q⟩:=h;cases l;cases j;obtain⟨its,n,g,_⟩:=I.tuple ha;obtain⟨c,i,p2,_⟩:=I.tuple hb;have i1:IntsAre its.toArray.toList ns:=Z7 n;have m:IntsAre c.toArray.toList d:=Z7 i;exact HT.lt_tupInts g p2 i1 m f ⟨.bl (HT.lexLt ns d),H,I,rfl,q⟩
end
def ixN(n:Nat)(i:Int):Option Nat:=if 0<=i then (if i<n then some i.toNat else none) else if -(n:Int)<=i then some (i+n).toNat else none
def M1{α:Type}(xs:List α)(i:Int):Option α:=(ixN xs.length i).bind λj=>xs[j]?
theorem MH(h:ixN n i=some j):seqIndex? i n=some j/\j<n/\-(n:Int)<=i/\i<n:=by
 unfold ixN at h;by_cases h0:0<=i
 ·rw[q0 h0] at h;by_cases h1:i<n
  ·rw[q0 h1] at h;have e:i.toNat=j:=u3 h;exact⟨by rw[seqIndex_of h0 h1,e],by lia,by lia,h1⟩
  ·rw[o0 h1] at h;cases h
 ·rw[o0 h0] at h;by_cases h1 : -(n:Int)<=i
  ·rw[q0 h1] at h;have e:(i+n).toNat=j:=u3 h;exact⟨by rw[seqIndex_neg (by lia) h1,e],by lia,h1,by lia⟩
  ·rw[o0 h1] at h;cases h
theorem lE{α:Type}{xs:List α}{i:Int}{v : α}(h:M1 xs i=some v):∃ j,seqIndex? i xs.length=some j/\xs[j]?=some v/\j<xs.length/\-(xs.length:Int)<=i/\i<xs.length:=by
 unfold M1 at h;cases e:ixN xs.length i with
 |none=>rw[e] at h;cases h
 | some j =>
  rw[e] at h;obtain⟨c,a,d,b⟩:=MH e;exact⟨j,c,h,a,d,b⟩
theorem E9{α:Type}{xs:List α}{j:Nat}{v : α}(h:xs[j]?=some v):M1 xs (j:Int)=some v:=by
 have a:j<xs.length:=(N1.mp h).1;have e:ixN xs.length (j:Int)=some j:=by
  unfold ixN;rw[q0 (by lia),q0 (by lia)];simp
 unfold M1;rw[e];exact h
def gU(b:Expr):Prop:=∀ o i,subscripted b false o i=operate [o,i] (getItem o i)
def IxR(X:Cx)(r:R2):Prop :=
 ∀(value slice:Expr)(pins:List (Addr × Obj))(s:Shared)(σ:St)(H:Hp)(x y:V)(v u:Value)(Q:VK),Inv X pins σ H s->RelV x v->RelV y u->r x y H Q ->
  subscripted slice false v u=operate [v,u] (getItem v u)->wpAny (model X.prog X.w) X.A (subscriptTail value slice v u) (EP X pins σ Q) X.xe s
def MtR(X:Cx)(id:String)(r:V->List V->Hp->VK->Prop):Prop :=
 ∀(pins:List (Addr × Obj))(s:Shared)(σ:St)(H:Hp)(x:V)(xs:List V)(v:Value)(us:List Value)(Q:VK),Inv X pins σ H s->RelV x v->Vals xs us->r x xs H Q ->
  wpAny (model X.prog X.w) X.A (call (.builtin id) (v::us)) (EP X pins σ Q) X.xe s
section
variable{X:Cx}{a b:Expr}{ta tb:TE}{pos:Pos}
theorem IxR.or(h:IxR X r)(h':IxR X f):IxR X (λx y H Q=>r x y H Q\/f x y H Q):=by
 intro b a pins s σ H x y v u Q I d c q hs;rcases q with q|q
 ·exact h b a pins s σ H x y v u Q I d c q hs
 ·exact h' b a pins s σ H x y v u Q I d c q hs
theorem P0(f:IxR X r)(ha:PE X a ta)(hb:PE X b tb)(hs:gU b):PE X (.Subscript a b pos) (tOp r ta tb):=by
 intro pins s σ H Q I h;exact Subscript_ (binT ha hb I h λv u s2 x y H2 g d c q=>f a b pins s2 σ H2 x y v u Q g d c q (hs _ _))
def rIxL(K:Frag):R2:=λx y H Q=>∃ p xs i v,x=.ref p/\y=.int i/\SqL K H p xs/\M1 xs i=some v/\Q v H
def rIxT(K:Frag):R2:=λx y H Q=>∃ p xs i v,x=.ref p/\y=.int i/\SqT K H p xs/\M1 xs i=some v/\Q v H
def rIxS:R2:=λx y H Q=>∃ z i c,x=.str z/\y=.int i/\z.length<=sizeLine/\M1 z.cps.toList i=some c/\Q (.str ⟨#[c]⟩) H
theorem ix_list:IxR X (rIxL X.K):=by
 intro f c pins s σ H x y v u Q I o n h hs;obtain⟨p,xs,i,z,rfl,rfl,A,m,q⟩:=h;cases o;obtain⟨t,rfl⟩:=n;obtain⟨its,r,pl,E⟩:=I.list A;obtain⟨j,a,l,F,C,D⟩:=lE m;obtain⟨w,g,d⟩:=r.get l;have B:=r.length;have hn:=J8;have fin:EP X pins σ Q w s:=⟨z,H,I,d,q⟩
 by_cases h0:0<=i
 ·have b:i.toNat=j:=by
   rw[seqIndex_of h0 D] at a;exact u3 a
  exact item_listR pl.isList h0 (by lia) (by rw[b];simpa using g) fin hs
 ·have b:(i+(its.toArray.size:Int)).toNat=j:=by
   rw[seqIndex_neg (by lia) C] at a;rw[Q2,← B];exact u3 a
  exact subscriptTail_builtinR (x:=w) pl.isList.typeIs slot_list_getitem.lookup
   (wpAny_getItem_list_neg (Q:=λr s'=>r=w/\EP X pins σ Q r s') pl.isList (by lia) (by rw[Q2] <;> lia) (by lia) (by rw[b];simpa using g) ⟨rfl,fin⟩) hs
theorem eK:IxR X (rIxT X.K):=by
 intro c a pins s σ H x y v u Q I m l h hs;obtain⟨p,xs,i,z,rfl,rfl,n,g,q⟩:=h;cases m;obtain⟨t,rfl⟩:=l;obtain⟨its,r,pl,B⟩:=I.tuple n;obtain⟨j,A,d,C,D,E⟩:=lE g;obtain⟨w,f,b⟩:=r.get d;have o:=r.length;have hn:=J8;have fin:EP X pins σ Q w s:=⟨z,H,I,b,q⟩
 exact subscriptTail_builtinR (x:=w) pl.typeIs slot_tuple_getitem.lookup
  (getItem_tuple (j:=j) (Q:=λr s'=>r=w/\EP X pins σ Q r s') pl (by lia) (by lia) (by rw[Q2,← o];exact A) (by simpa using f) ⟨rfl,fin⟩) hs
theorem GP:IxR X rIxS:=by
 intro b a pins s σ H x y v u Q I m l h hs;obtain⟨z,i,c,rfl,rfl,w,g,q⟩:=h;obtain⟨t,rfl⟩:=m;obtain⟨t',rfl⟩:=l;obtain⟨j,d,f,A,o,p⟩:=lE g;have n:z.cps.toList.length=z.length:=by simp[Str.length]
 rw[n] at d o p;have hn:=J8;exact tail_any (typeIs_str s z t) slot_str_getitem.lookup (getItem_str (c:=c) (by
  have r:decide (i < -(2 ^ 63:Int))=false:=D3 (by lia);have e2:decide (i ≥ 2 ^ 63)=false:=D3 (by lia);rw[r,e2,Bool.or_false]) (by rw[d];simpa using f) ⟨.str ⟨#[c]⟩,H,I.tok _,⟨_,rfl⟩,q⟩) hs
theorem gN(its:List Value)(n j:Nat)(u:Value):Obj.mapSeq (·.setIfInBounds j u) { cls:=.type "list",data:=.seq its.toArray n }={ cls:=.type "list",data:=.seq (its.set j u).toArray n }:=by
 simp[Obj.mapSeq]
theorem Inv.lst{pins:List (Addr × Obj)}{σ:St}{H:Hp}{s:Shared}{p:Addr}{xs:List V}(I:Inv X pins σ H s)(h:H p=some (.lst xs)) :
  ∃(its:List Value)(n:Nat),Vals xs its/\s.heap.get? p=some { cls:=.type "list",data:=.seq its.toArray n }/\xs.length<=sizeLine:=by
 obtain⟨z,its,n,r,e⟩:=I.hok p _ h;exact⟨its,n,r,e,z⟩
theorem Inv.lstUpd{pins:List (Addr × Obj)}{σ:St}{H:Hp}{s:Shared}{p:Addr}{xs ys:List V}{its its':List Value}{n a:Nat}{f:Obj->Obj}(I:Inv X pins σ H s)(h:H p=some (.lst xs))
  (d:s.heap.get? p=some { cls:=.type "list",data:=.seq its.toArray n }) (hf:f { cls:=.type "list",data:=.seq its.toArray n }={ cls:=.type "list",data:=.seq its'.toArray a }) (r:Vals ys its') (c:ys.length<=sizeLine) (t:Nat) :
  Inv X pins σ (upd H p (.lst ys)) { s with heap:=s.heap.update p f,toks:=t }:=by
 have e:(s.heap.update p f).get? p=some { cls:=.type "list",data:=.seq its'.toArray a }:=by
  rw[Heap.get?_update_self f d (by rw[hf] <;> rfl),hf]
 refine I.write (x:=p) (e:=p) (by rw[h];trivial) (.inl rfl) (λb u hb q=>(Heap.get?_update_other _ _ (Ne.symm hb)).trans q) ⟨_,e⟩ ?_;exact⟨c,its',a,r,e⟩
def NE:V->V->V->Hp->(Hp->Prop)->Prop:=λo i v H Q=>∃ p xs k j,o=.ref p/\i=.int k/\H p=some (.lst xs)/\ixN xs.length k=some j/\Q (upd H p (.lst (xs.set j v)))
theorem OE:PSet X NE:=by
 intro pins s σ H o i v C D u Q I z A x h;obtain⟨p,xs,k,j,rfl,rfl,g,y,q⟩:=h;cases z;obtain⟨t,rfl⟩:=A;obtain⟨its,n,r,b,w⟩:=I.lst g;obtain⟨a,B,f,l⟩:=MH y;have c:=r.length;have hn:=J8;have m:Inv X pins σ (upd H p (.lst (xs.set j v))) { s with heap:=s.heap.update p (Obj.mapSeq (·.setIfInBounds j u)) } :=
  I.lstUpd g b (gN its n j u) (r.set x j) (by rw[List.length_set];exact w) s.toks
 by_cases h0:0<=k
 ·have d:k.toNat=j:=by
   rw[seqIndex_of h0 l] at a;exact u3 a
  exact PySem.W.ki_setAt b h0 (by lia) (by rw[Q2,← c];exact l) (by rw[d];exact⟨_,m,q⟩)
 ·have d:(k+(its.toArray.size:Int)).toNat=j:=by
   rw[seqIndex_neg (by lia) f] at a;rw[Q2,← c];exact u3 a
  exact PySem.W.ki_setBack b (by lia) (by rw[Q2,← c];exact f) (by lia) (by rw[d];exact⟨_,m,q⟩)
theorem mU(lo hi:Option Int)(n:Nat):(sliceBounds lo hi none n).1=((HT.sIx n 0 lo:Nat):Int)/\(sliceBounds lo hi none n).2.1=((HT.sIx n n hi:Nat):Int)/\(sliceBounds lo hi none n).2.2=1:=by
 refine⟨?_,?_,rfl⟩
 ·cases lo with
  |none=>simp[sliceBounds,HT.sIx]
  | some i =>
   simp only[sliceBounds,HT.sIx,Option.getD_none,show(1:Int) > 0 by decide,if_true];by_cases h:i<0
   ·simp only[h,if_true] <;> lia
   ·simp only[h,if_false] <;> lia
 ·cases hi with
  |none=>simp[sliceBounds,HT.sIx]
  | some i =>
   simp only[sliceBounds,HT.sIx,Option.getD_none,show(1:Int) > 0 by decide,if_true];by_cases h:i<0
   ·simp only[h,if_true] <;> lia
   ·simp only[h,if_false] <;> lia
theorem iT(its:List Value)(lo hi:Option Int):slicePick its.toArray lo hi none=((its.drop (HT.sIx its.length 0 lo)).take (HT.sIx its.length its.length hi-HT.sIx its.length 0 lo)).toArray:=by
 obtain⟨b,a,c⟩:=mU lo hi its.toArray.size;unfold slicePick;rw[b,a,c];simp only[sliceRange_one,pick_run,Q2] <;> rfl
def rSlL(K:Frag):V->Option Int->Option Int->Hp->VK->Prop:=λx lo hi H Q=>∃ a xs,x=.ref a/\SqL K H a xs/\∀ p,H p=none->Q (.ref p) (upd H p (.lst (cutV xs lo hi)))
theorem CL:SlR X (rSlL X.K):=by
 intro pins s σ H x v n m lo hi sl Q I g hs pl j h;obtain⟨a,xs,rfl,i,q⟩:=h;cases g;obtain⟨its,r,d,f⟩:=I.list i;have c:=r.length;refine⟨"list",_,slot_list_getitem.lookup,d.isList.typeIs,?_⟩;refine wpAny_getItem_list_slice d.isList hs pl j .none (by simp) ?_ (by rw[Q2] <;> lia);rw[iT,← c];refine⟨.ref s.heap.objs.size,_,I.laid (t':=s.toks) (o:=.lst (cutV xs lo hi)) (λb l q=>J1 _ q) (M0 _) ?_,rfl,q _ (I.hok.fresh (M0 _))⟩;exact⟨W1 (sK xs lo hi) f,_,0,(r.drop (HT.sIx xs.length 0 lo)).take (HT.sIx xs.length xs.length hi-HT.sIx xs.length 0 lo),D2 _ rfl⟩
theorem pN:C2 X (.builtin "len") (λxs H Q=>∃ p ys,xs=[.ref p]/\(SqL X.K H p ys\/SqT X.K H p ys)/\Q (.int ys.length) H):=by
 intro pins s σ H xs us Q I r h;obtain⟨p,ys,rfl,b,q⟩:=h;obtain⟨u,rfl,f⟩:=W3 r;cases f;have hn:=J8;rcases b with b|b
 ·obtain⟨its,c,pl,d⟩:=I.list b;have a:=c.length;exact Calls.call_len_list pl.isList (by simp only[Q2] <;> lia) ⟨.int ys.length,H,I.tok _,⟨s.toks+1,by rw[Q2,a]⟩,q⟩
 ·obtain⟨its,c,pl,d⟩:=I.tuple b;have a:=c.length;exact len_tuple pl (by simp only[Q2] <;> lia) ⟨.int ys.length,H,I.tok _,⟨s.toks+1,by rw[Q2,a]⟩,q⟩
theorem rN:C2 X (.builtin "len") (λxs H Q=>∃ z,xs=[.str z]/\z.length<=sizeLine/\Q (.int z.length) H):=by
 intro pins s σ H xs us Q I r h;obtain⟨z,rfl,a,q⟩:=h;obtain⟨u,rfl,t,rfl⟩:=W3 r;have hn:=J8;exact len_str (by lia) ⟨.int z.length,H,I.tok _,⟨_,rfl⟩,q⟩
theorem UK:C2 X (.type "list") (λxs H Q=>∃ p ys,xs=[.ref p]/\(SqL X.K H p ys\/SqT X.K H p ys)/\∀ l,H l=none->Q (.ref l) (upd H l (.lst ys))):=by
 intro pins s σ H xs us Q I r h;obtain⟨p,ys,rfl,g,q⟩:=h;obtain⟨u,rfl,m⟩:=W3 r;cases m
 have fin:∀(its:List Value),Vals ys its->ys.length<=sizeLine->∀(h':Heap)(a:Nat),(∀ b o',s.heap.get? b=some o'->h'.get? b=some o') ->
   h'.get? s.heap.objs.size=some { cls:=.type "list",dict:=none,data:=.seq its.toArray a,slots:=#[] }->EP X pins σ Q (.ref s.heap.objs.size) { s with heap:=h' }:=λits c d h' a kp e =>
  ⟨.ref s.heap.objs.size,_,I.laid (t':=s.toks) kp (M0 _) (show ObjOk X.prog X.w _ h' _ (.lst ys) from⟨d,its,a,c,e⟩),rfl,q _ (I.hok.fresh (M0 _))⟩
 rcases g with g|g
 ·obtain⟨its,c,pl,d⟩:=I.list g;have f:=c.length;obtain⟨o,i,j,n,hd⟩:=pl.isList;exact call_list_seq p (.inl rfl) i j hd (λh' a kp e=>fin its c d h' a kp e) (by simp only[Q2] <;> lia)
 ·obtain⟨its,c,pl,d⟩:=I.tuple g;have f:=c.length;obtain⟨o,i,j,n,hd⟩:=pl;exact call_list_seq p (.inr rfl) i j hd (λh' a kp e=>fin its c d h' a kp e) (by simp only[Q2] <;> lia)
theorem HK:C2 X (.type "tuple") (λxs H Q=>∃ p ys,xs=[.ref p]/\((SqL X.K H p ys/\∀ l,H l=none->Q (.ref l) (upd H l (.tup ys)))\/(SqT X.K H p ys/\Q (.ref p) H))):=by
 intro pins s σ H xs us Q I r h;obtain⟨p,ys,rfl,h⟩:=h;obtain⟨u,rfl,i⟩:=W3 r;cases i;rcases h with ⟨a,q⟩|⟨a,q⟩
 ·obtain⟨its,c,pl,d⟩:=I.list a;have f:=c.length;refine call_tuple_list pl.isList (λh' kp=>?_) (by simp only[Q2] <;> lia);have g:Inv X pins σ H { s with heap:=h' }:=I.kept (t':=s.toks) kp;have j:Inv X pins σ (upd H h'.objs.size (.tup ys)) { s with heap:=h'.push { cls:=.type "tuple",data:=.seq its.toArray } } :=
   g.laid (t':=s.toks) (λb o e=>J1 _ e) (M0 _) (show ObjOk X.prog X.w _ _ _ (.tup ys) from⟨d,its,c,IsTup.new _ _⟩)
  exact⟨.ref h'.objs.size,_,j,rfl,q _ (g.hok.fresh (M0 _))⟩
 ·obtain⟨its,c,pl,d⟩:=I.tuple a;exact call_tuple_same pl ⟨.ref p,H,I,rfl,q⟩
def tyV(K:Frag)(T:String)(x:V)(H:Hp):Prop:=match x with
 | .str _=>T = "str"
 | .int _=>T = "int"
 | .ref p=>(T = "list"/\∃ xs,SqL K H p xs)\/(T = "tuple"/\∃ o,K.lookup p=some o/\o.cls=.type "tuple"/\o.dict=none) ∨
   (T = "dict"/\((∃ kvs,H p=some (.dK kvs))\/∃ kvs,H p=some (.dT kvs)))\/(T = "set"/\∃ S n,H p=some (.set S n))
 |_=>False
theorem SE(I:Inv X pins σ H s)(r:RelV x v)(ty:tyV X.K T x H) :
  s.TypeIs v T/\∀ a,v=.ref a->∃ d,s.heap.get? a=some d/\d.dict=none:=by
 cases x with
 | str z =>
  obtain⟨t,rfl⟩:=r;cases (show T = "str" from ty);exact⟨typeIs_str s z t,λ_ e=>nomatch e⟩
 | int i =>
  obtain⟨t,rfl⟩:=r;cases (show T = "int" from ty);exact⟨typeIs_int s i t,λ_ e=>nomatch e⟩
 | ref p =>
  cases r;rcases ty with ⟨rfl,xs,g⟩|⟨rfl,o,b,f,hd⟩|⟨rfl,b⟩|⟨rfl,S,n,b⟩
  ·obtain⟨its,_,pl,_⟩:=I.list g;refine⟨pl.isList.typeIs,λa e=>?_⟩;cases e;obtain⟨o,n,e,c,hd,_⟩:=pl;exact⟨o,e,hd⟩
  ·refine⟨⟨o,I.kIn p o b,f⟩,λa e=>?_⟩;cases e;exact⟨o,I.kIn _ o b,hd⟩
  ·have z:∃ o,s.heap.get? p=some o/\o.ExactDict:=by
    rcases b with ⟨kvs,b⟩|⟨kvs,b⟩
    ·obtain⟨_,_,_,_,o,_,_,e,ex,_⟩:=I.hok p _ b;exact⟨o,e,ex⟩
    ·obtain⟨_,_,_,_,o,_,_,e,ex,_⟩:=I.hok p _ b;exact⟨o,e,ex⟩
   obtain⟨o,e,ex⟩:=z;refine⟨⟨o,e,ex.1⟩,λa e2=>?_⟩;cases e2;exact⟨o,e,ex.2.1⟩
  ·obtain⟨o,_,_,_,e,ex,_⟩:=I.hok p _ b;refine⟨⟨o,e,ex.1⟩,λa e2=>?_⟩;cases e2;exact⟨o,e,ex.2.1⟩
 |_=>exact False.elim ty
def tBM0(K:Frag)(T:String)(r:V->List V->Hp->VK->Prop)(to:TE):TE:=λσ H Q=>to σ H λx H1=>tyV K T x H1/\r x [] H1 Q
def tBM(K:Frag)(T:String)(r:V->List V->Hp->VK->Prop)(to:TE)(t:TA):TE:=λσ H Q=>to σ H λx H1=>tyV K T x H1/\t σ H1 λxs H2=>r x xs H2 Q
variable{o e:Expr}{es:List Expr}{to:TE}{t:TA}{name:Str}{apos cpos:Pos}{T id:String}{r:V->List V->Hp->VK->Prop}
theorem CI(n:PlainAttrs T)(slot:Slot T name id)(c:typeOf (.builtin id)=pure (.type "method_descriptor"))(hm:MtR X id r)(l:PE X o to)
  (b:attributeBase o name X.env (eval o X.env)=eval o X.env:=by rfl) (a:(apos.endLine == cpos.line)=true:=by rfl):PE X (.Call (.Attribute o name apos) [] [] cpos) (tBM0 X.K T r to):=by
 intro pins s σ H Q I h;refine wpAny_Call_method0_late b a (thn (l pins s σ H _ I h) λv s1 ⟨x,j,d,f,ty,g⟩=>?_);obtain⟨m,i⟩:=SE d f ty;exact⟨T,id,n,slot,c,m,i,Calls.callWith_builtin rfl (PySem.evalArgs_none (hm pins s1 σ j x [] v [] Q d f .nil g))⟩
theorem X4(y:PlainAttrs T)(slot:Slot T name id)(g:typeOf (.builtin id)=pure (.type "method_descriptor"))(hm:MtR X id r)(q:PE X o to)(ha:PA X (e::es) t)
  (d:attributeBase o name X.env (eval o X.env)=eval o X.env:=by rfl)
  (f:((backTo cpos (starEach (e::es) X.env)).all (λx=>!x.1) && (backToKw cpos (keywordEach [] X.env)).all (λx=>x.1.isSome)
   && decide ((e::es).length+([]:List Keyword).length+(if ([]:List Keyword).isEmpty then 0 else 1)<30))=true:=by rfl)
  (c:(apos.endLine == cpos.line)=true:=by rfl) (hs:starEach (e::es) X.env=(false,eval e X.env)::starEach es X.env:=by rfl) (b:(backTo cpos (starEach es X.env)).any (·.1)=false:=by rfl) :
  PE X (.Call (.Attribute o name apos) (e::es) [] cpos) (tBM X.K T r to t):=by
 intro pins s σ H Q I h;refine wpAny_Call_method_late d f c rfl (thn (q pins s σ H _ I h) λv s1 ⟨x,p,j,l,ty,m⟩=>?_);obtain⟨w,n⟩:=SE j l ty;refine⟨T,id,y,slot,g,w,n,?_⟩;have i:=ha cpos pins s1 σ p _ j m;rw[hs] at i ⊢;refine Calls.callWith_builtin (by show(false || (backTo cpos (starEach es X.env)).any (·.1))=false;rw[b] <;> rfl) (Calls.evalArgs_plain ?_);exact thn i λus s2 ⟨vs,H2,A,u,z⟩=>hm pins s2 σ H2 x vs v us Q A l u z
/- xs.append(e), list.index on a module's tuple .. are MtR facts of 06m -/
end
def MtM(X:Cx)(id:String)(r:V->List V->Hp->VK->Prop):Prop :=
 ∀(pins:List (Addr × Obj))(s:Shared)(σ:St)(H:Hp)(x:V)(xs:List V)(v:Value)(us:List Value)(Q:VK),Inv X pins σ H s->RelV x v->Vals xs us->r x xs H Q ->
  wpAny (model X.prog X.w) X.A (call (.builtin id) (v::us)) (EP X pins σ Q) X.xe s
theorem Vals.one:∀{x:V}{us:List Value},Vals [x] us->∃ u,us=[u]/\RelV x u
 |_,_,.cons r .nil=>⟨_,rfl,r⟩
theorem Vals.zero:∀{us:List Value},Vals [] us->us=[]
 |_,.nil=>rfl
theorem Vals.eraseIdx:∀{xs:List V}{us:List Value}(i:Nat),Vals xs us->Vals (xs.eraseIdx i) (us.eraseIdx i)
 |_,_,_,.nil=>.nil
 |_,_,0,.cons _ t=>t
 |_,_,i+1,.cons r t=>.cons r (Vals.eraseIdx i t)
theorem Vals.rep(h:Vals xs us):∀ k:Nat,Vals (List.replicate k xs).flatten (List.replicate k us).flatten
 |0=>.nil
 | k+1=>by
  rw[o7,o7,List.flatten_cons,List.flatten_cons];exact Vals.append h (Vals.rep h k)
theorem WE{α:Type}:∀(l:List α)(i:Nat),(l.eraseIdx i).length<=l.length
 |[],_=>M0 _
 |_::_,0=>Nat.le_succ _
 |_::r,i+1=>Nat.succ_le_succ (WE r i)
theorem qH(its:List Value):∀(k:Nat)(a:List Value),
  List.foldl (λc b=>c++b) a.toArray (List.replicate k its.toArray)=(a++(List.replicate k its).flatten).toArray
 |0,a=>by simp
 | k+1,a=>by
  have e:a.toArray++its.toArray=(a++its).toArray:=by simp
  have e2:(a++its)++(List.replicate k its).flatten=a++(List.replicate (k+1) its).flatten:=by
   rw[o7,List.flatten_cons,m3]
  rw[← e2,← qH its k (a++its),← e,o7,List.foldl_cons]
theorem Inv.lset{its its':List Value}{n:Nat}{f:Array Value->Array Value}{t':Nat}(I:Inv X pins σ H s)(c:H l=some (.lst xs))
  (e:s.heap.get? l=some { cls:=.type "list",data:=.seq its.toArray n }) (hf:f its.toArray=its'.toArray) (d:Vals ys its') (a:ys.length<=sizeLine) :
  Inv X pins σ (upd H l (.lst ys)) { s with heap:=s.heap.update l (Obj.mapSeq f),toks:=t' }:=by
 have q:=PySem.IsL.update e f;rw[hf] at q;refine I.write (x:=l) (e:=l) (by rw[c];exact trivial) (.inl rfl) (λg u hb b=>(Heap.get?_update_other s.heap (Obj.mapSeq f) (Ne.symm hb)).trans b) ⟨_,q⟩ ?_;exact⟨a,its',_,d,q⟩
theorem Inv.lnew(I:Inv X pins σ H s)(b:Vals ys its)(a:ys.length<=sizeLine) :
  Inv X pins σ (upd H s.heap.objs.size (.lst ys)) { s with heap:=s.heap.push { cls:=.type "list",data:=.seq its.toArray },toks:=t' } :=
 I.laid (λ_ _ q=>J1 _ q) (M0 _) ⟨a,its,0,b,D2 _ rfl⟩
theorem Inv.fresh(I:Inv X pins σ H s):H s.heap.objs.size=none:=I.hok.fresh (M0 _)
theorem Inv.lstM(I:Inv X pins σ H s)(a:H l=some (.lst xs)):xs.length<=sizeLine/\∃(its:List Value)(n:Nat),Vals xs its/\xs.length=its.length/\s.heap.get? l=some { cls:=.type "list",data:=.seq its.toArray n }:=by
 obtain⟨z,its,n,r,e⟩:=I.hok l _ a;exact⟨z,its,n,r,r.length,e⟩
theorem RE(h:n<=sizeLine):Builtin.List.listTooLong n=false:=by
 unfold Builtin.List.listTooLong;exact D3 (by lia)
def W9:V->List V->Hp->VK->Prop:=λx vs H Q=>∃ l xs y,x=.ref l/\vs=[y]/\H l=some (.lst xs)/\xs.length<sizeLine/\Q .non (upd H l (.lst (xs++[y])))
theorem L6:MtM X "list.append" W9:=by
 intro pins s σ H x vs v us Q I c b h;obtain⟨l,xs,y,rfl,rfl,a,f,q⟩:=h;cases c;obtain⟨u,rfl,d⟩:=b.one;obtain⟨z,its,n,r,g,e⟩:=I.lstM a;refine call_meets F.slot_list_append ⟨_,e,rfl⟩ F.entry_list_append (F.args_list_append_2 _ _) (PySem.list_append l its.toArray n u (by rw[Q2];lia)) ⟨e,?_⟩;refine⟨.non,_,I.lset (its':=its++[u]) a e (by simp) (r.append (.cons d .nil)) ?_,rfl,q⟩;rw[f3,List.length_singleton];lia
def iD:V->List V->Hp->VK->Prop:=λx vs H Q=>∃ l b xs zs,x=.ref l/\vs=[.ref b]/\H l=some (.lst xs)/\H b=some (.lst zs)/\xs.length+zs.length<=sizeLine/\Q .non (upd H l (.lst (xs++zs)))
theorem dM:MtM X "list.extend" iD:=by
 intro pins s σ H x vs v us Q I m g h;obtain⟨l,b,xs,A,rfl,rfl,d,p,w,q⟩:=h;cases m;obtain⟨u,rfl,o⟩:=g.one;cases o;obtain⟨z,its,n,r,B,e⟩:=I.lstM d;obtain⟨y,a,f,j,i,e2⟩:=I.lstM p;have hsz:its.toArray.size+a.toArray.size<=sizeLine:=by rw[Q2,Q2];lia
 have c:¬ (!its.toArray.isEmpty && Builtin.List.listTooLong (its.toArray.size+a.toArray.size))=true:=by
  rw[RE hsz,Bool.and_false];exact X1
 refine call_meets F.slot_list_extend ⟨_,e,rfl⟩ F.entry_list_extend (F.args_list_extend_2 _ _)
  (AutoSeq1.list_extend_list_list_0 l its.toArray n b a.toArray f c (by rw[Q2];lia) (by lia)) ⟨e,e2,?_⟩
 refine⟨.non,_,I.lset (its':=its++a) d e (by simp) (r.append j) ?_,rfl,q⟩;rw[f3];lia
def bC:V->List V->Hp->VK->Prop:=λx vs H Q=>∃ l xs i k y,x=.ref l/\vs=[.int i]/\H l=some (.lst xs)/\-(2 ^ 63)<=i/\i<2 ^ 63/\seqIndex? i xs.length=some k/\xs[k]?=some y/\Q y (upd H l (.lst (xs.eraseIdx k)))
theorem UT:MtM X "list.pop" bC:=by
 intro pins s σ H x vs v us Q I g f h;obtain⟨l,xs,i,k,y,rfl,rfl,b,m,c,A,d,q⟩:=h;cases g;obtain⟨u,rfl,p⟩:=f.one;obtain⟨t,rfl⟩:=p;obtain⟨z,its,n,r,j,e⟩:=I.lstM b;obtain⟨w,o,a⟩:=r.get d
 refine call_meets F.slot_list_pop ⟨_,e,rfl⟩ F.entry_list_pop (F.args_list_pop_2 _ _)
  (MeetsSeq.list_pop_at l its.toArray n i t k w (fitsIndex_both m c) (by rw[Q2,← j];exact A) (by rw[← V5];exact o) (by rw[Q2];lia)) ⟨e,?_⟩
 refine⟨y,_,I.lset (its':=its.eraseIdx k) b e ?_ (r.eraseIdx k) ?_,a,q⟩
 ·show its.toArray.eraseIdxIfInBounds k=(its.eraseIdx k).toArray;rw[List.eraseIdxIfInBounds_toArray]
 ·have:=WE xs k;lia
def gI:V->List V->Hp->VK->Prop:=λx vs H Q=>∃ l xs,x=.ref l/\vs=[]/\H l=some (.lst xs)/\Q .non (upd H l (.lst []))
theorem WG:MtM X "list.clear" gI:=by
 intro pins s σ H x vs v us Q I d c h;obtain⟨l,xs,rfl,rfl,b,q⟩:=h;cases d;have a:=c.zero;subst a;obtain⟨z,its,n,r,f,e⟩:=I.lstM b;refine call_meets F.slot_list_clear ⟨_,e,rfl⟩ F.entry_list_clear (F.args_list_clear_1 _) (AutoSeq1.list_clear_list_0 l its.toArray n (by rw[Q2];lia)) ⟨e,?_⟩;exact⟨.non,_,I.lset (its':=[]) (ys:=[]) b e rfl .nil (O3 _),rfl,q⟩
def rCat:R2:=λx y H Q=>∃ l b xs zs,x=.ref l/\y=.ref b/\H l=some (.lst xs)/\H b=some (.lst zs)/\xs.length+zs.length<=sizeLine/\∀ p,H p=none->Q (.ref p) (upd H p (.lst (xs++zs)))
theorem CA:OpR X (binaryOp .Add) rCat:=by
 intro pins s σ H x y v u Q I g f h;obtain⟨l,b,xs,A,rfl,rfl,i,j,o,q⟩:=h;cases g;cases f;obtain⟨z,its,n,r,B,e⟩:=I.lstM i;obtain⟨p,a,w,d,c,e2⟩:=I.lstM j;refine PySem.P.add_list e e2 ?_ (by rw[Q2,Q2];lia);have m:its.toArray++a.toArray=(its++a).toArray:=by simp
 rw[m];exact⟨.ref _,_,I.lnew (t':=s.toks) (r.append d) (by rw[f3];lia),rfl,q _ I.fresh⟩
def rRep:R2:=λx y H Q=>∃ l k xs,x=.ref l/\y=.int k/\H l=some (.lst xs)/\-(2 ^ 63)<=k/\k<2 ^ 63/\xs.length * k.toNat<=sizeLine /\
 ∀ p,H p=none->Q (.ref p) (upd H p (.lst (List.replicate k.toNat xs).flatten))
theorem FI{α:Type}(xs:List α)(k:Nat):(List.replicate k xs).flatten.length=k * xs.length:=by
 induction k with
 |zero=>simp
 |succ k ih=>rw[o7,List.flatten_cons,f3,ih,Nat.succ_mul,Nat.add_comm]
theorem BM:OpR X (binaryOp .Mult) rRep:=by
 intro pins s σ H x y v u Q I B w h;obtain⟨l,k,xs,rfl,rfl,D,E,p,o,q⟩:=h;cases B;obtain⟨t,rfl⟩:=w;obtain⟨z,its,n,r,C,e⟩:=I.lstM D;have d:its.toArray.size * k.toNat<=sizeLine:=by rw[Q2,← C];exact o
 have f:¬ its.toArray.size * k.toNat > (2 ^ 63-1) / 8:=by
  have:(sizeLine:Nat)<=(2 ^ 63-1) / 8:=by decide
  lia
 have c:¬ (!Builtin.List.listFitsIndex k)=true:=by
  rw[fitsIndex_both E p];exact X1
 have b:¬ Builtin.List.listTooLong (its.toArray.size * k.toNat)=true:=by
  rw[RE d];exact X1
 have g:List.foldl (λj i=>j++i) #[] (List.replicate (if its.toArray.isEmpty=true then 0 else k.toNat) its.toArray)=(List.replicate k.toNat its).flatten.toArray:=by
  have A:∀ m:Nat,List.foldl (λj i=>j++i) #[] (List.replicate m its.toArray)=(List.replicate m its).flatten.toArray:=λm=>by
   have:=qH its m [];rw[List.nil_append] at this;exact this
  rw[A];cases its with
  |nil=>simp
  |cons a r'=>rw[o0 (by simp)]
 refine wpAny_binaryOp_repeat_ref (T:="list") (U:="int") (by decide) ⟨_,e,rfl⟩ (λs'=>typeIs_int s' k t) noFill_list_mul F.fills_int_mul F.slot_int_rmul repeat_list F.slot_int_index.lookup
  (call_meets F.slot_int_rmul (typeIs_int s k t) F.entry_int_rmul (F.args_int_rmul_2 _ _) (int___rmul___int_list k t l its.toArray n)
   ⟨e,rfl,⟨_,e,rfl⟩,call_meets F.slot_list_mul ⟨_,e,rfl⟩ F.entry_list_mul (F.args_list_mul_2 _ _) (AutoListH.list___mul___list_int_3 l its.toArray n k t c f b) ⟨e,?_⟩⟩)
 rw[g];exact⟨.ref _,_,I.lnew (t':=s.toks) (r.rep k.toNat) (by rw[FI,Nat.mul_comm];exact o),rfl,q _ I.fresh⟩
section
variable{κ:Type} [DecidableEq κ]
def valV(kvs:List (κ × V))(k : κ):Option V:=(kvs.find? λkv=>decide (kv.1=k)).map (·.2)
def putK(kvs:List (κ × V))(k : κ)(v:V):List (κ × V) :=
 if (kvs.any λkv=>decide (kv.1=k))=true then kvs.map (λkv=>if kv.1=k then (kv.1,v) else kv) else kvs++[(k,v)]
def KU(kvs:List (κ × V))(k : κ):List (κ × V):=kvs.filter λkv=>decide (kv.1 ≠ k)
theorem HE{p : κ × V}{r:List (κ × V)}{k : κ}(e:p.1=k):valV (p::r) k=some p.2:=by simp[valV,List.find?_cons,e]
theorem ND{p : κ × V}{r:List (κ × V)}{k : κ}(e:¬ p.1=k):valV (p::r) k=valV r k:=by simp[valV,List.find?_cons,e]
theorem RF(k : κ):∀ kvs:List (κ × V),(kvs.any λa=>decide (a.1=k))=(valV kvs k).isSome
 |[]=>rfl
 | p::r=>by
  rw[List.any_cons];by_cases e:p.1=k
  ·simp only[HE e,N3 e,Bool.true_or,Option.isSome_some]
  ·rw[ND e,D3 e,Bool.false_or];exact RF k r
theorem VE(kvs:List (κ × V))(k : κ)(v:V):(putK kvs k v).length<=kvs.length+1:=by
 unfold putK;split
 ·rw[R0];lia
 ·rw[f3,L3,rC];lia
theorem RelO.isSome_eq(r:RelO o u):o.isSome=u.isSome:=by
 cases o with
 | none=>cases u with
  |none=>rfl
  |some _=>exact(show False from r).elim
 | some _=>cases u with
  |none=>exact(show False from r).elim
  |some _=>rfl
theorem KV.val(r:KV kvs vs)(k : κ):RelO (valV kvs k) (valueAt vs k):=by
 unfold KV at r
 induction r with
 |nil=>exact True.intro
 | @cons p q ps qs h t ih =>
  obtain⟨c,d⟩:=h;by_cases e:p.1=k
  ·have a:q.1=k:=c.symm.trans e;have b:valueAt (q::qs) k=some q.2:=by simp[valueAt,List.find?_cons,a]
   rw[HE e,b];exact d
  ·have a:¬ q.1=k:=λz=>e (c.trans z);have b:valueAt (q::qs) k=valueAt qs k:=by simp[valueAt,List.find?_cons,a]
   rw[ND e,b];exact ih
theorem KV.any(r:KV kvs vs)(k : κ):(kvs.any λa=>decide (a.1=k))=vs.any λa=>decide (a.1=k):=by
 unfold KV at r
 induction r with
 |nil=>rfl
 |cons h t ih=>rw[List.any_cons,List.any_cons,ih,h.1]
theorem KV.repl(r:KV kvs vs)(k : κ)(d:RelV y u) :
  KV (kvs.map λa=>if a.1=k then (a.1,y) else a) (vs.map λa=>if a.1=k then (a.1,u) else a):=by
 unfold KV at r ⊢
 induction r with
 |nil=>exact .nil
 | @cons p q ps qs h t ih =>
  rw[M2,M2];refine .cons ?_ ih;obtain⟨b,c⟩:=h;by_cases e:p.1=k
  ·rw[q0 e,q0 (b.symm.trans e)];exact⟨b,d⟩
  ·rw[o0 e,o0 (λz=>e (b.trans z))];exact⟨b,c⟩
theorem KV.put(r:KV kvs vs)(k : κ)(a:RelV y u):KV (putK kvs k y) (stored vs k u):=by
 unfold putK stored;rw[r.any k];by_cases e:(vs.any λb=>decide (b.1=k))=true
 ·rw[q0 e,q0 e];exact r.repl k a
 ·rw[o0 e,o0 e];exact Paired.snoc r ⟨rfl,a⟩
theorem KV.length{kvs:List (κ × V)}{vs:List (κ × Value)}(r:KV kvs vs):kvs.length=vs.length:=Paired.length r
end
theorem OD(r:RelV (kV k) u):(Z4 P w).is k u=true:=by
 cases k with
 |inl i=>obtain⟨t,e⟩:=(show ∃ t,u=Value.int i t from r);subst e;exact JN P w i t
 |inr x=>obtain⟨t,e⟩:=(show ∃ t,u=Value.str x t from r);subst e;exact YM P w x t
theorem sF:∀{ks:List Key}{us:List Value},Vals (ks.map kV) us->ItemsAre (Z4 P w) ks us
 |[],_,r=>by rw[List.map_nil] at r;cases r;exact .nil
 | k::ks,_,r=>by
  rw[M2] at r;cases r with
  |cons h t=>exact .cons (OD h) (sF t)
abbrev KT(H:Hp):List (List Key × V)->List (List Key × Addr × Value)->Prop:=Paired λp q=>p.1=q.1/\H q.2.1=some (.tup (p.1.map kV))/\RelV p.2 q.2.2
theorem KT.val(r:KT H kvs xs)(k:List Key):RelO (valV kvs k) ((atKey xs k).map (·.2)):=by
 induction r with
 |nil=>exact True.intro
 | @cons p q ps qs h t ih =>
  obtain⟨c,_,d⟩:=h;by_cases e:p.1=k
  ·have a:q.1=k:=c.symm.trans e;have b:atKey (q::qs) k=some q.2:=by simp[atKey,List.find?_cons,a]
   rw[HE e,b];exact d
  ·have a:¬ q.1=k:=λz=>e (c.trans z);have b:atKey (q::qs) k=atKey qs k:=by simp[atKey,List.find?_cons,a]
   rw[ND e,b];exact ih
theorem KT.repl(r:KT H kvs xs)(k:List Key)(f:RelV y u) :
  KT H (kvs.map λb=>if b.1=k then (b.1,y) else b) (xs.map (putAt k u)):=by
 induction r with
 |nil=>exact .nil
 | @cons p q ps qs h t ih =>
  rw[M2,M2];refine .cons ?_ ih;obtain⟨a,c,d⟩:=h;unfold putAt;by_cases e:p.1=k
  ·rw[q0 e,q0 (a.symm.trans e)];exact⟨a,c,f⟩
  ·rw[o0 e,o0 (λz=>e (a.trans z))];exact⟨a,c,d⟩
theorem KT.put(r:KT H kvs xs)(k:List Key)(hb:H b=some (.tup (k.map kV)))(a:RelV y u) :
  KT H (putK kvs k y) (storedH xs k b u):=by
 have e:(kvs.any λc=>decide (c.1=k))=(atKey xs k).isSome:=by
  rw[RF,(r.val k).isSome_eq,Option.isSome_map]
 unfold putK storedH;rw[e];by_cases q:(atKey xs k).isSome=true
 ·rw[q0 q,q0 q];exact r.repl k a
 ·rw[o0 q,o0 q];exact Paired.snoc r ⟨rfl,hb,a⟩
theorem KT.keeps(r:KT H kvs xs)(a:∀ b ys,H b=some (.tup ys)->H' b=some (.tup ys)):KT H' kvs xs :=
 Paired.mapP r λ_ _ z=>⟨z.1,a _ _ z.2.1,z.2.2⟩
theorem CF(ok:HOk P w H h)(e:Rd H a u):ObjOk P w H h a u:=e.ok ok
theorem LG(ok:HOk P w H h)(e:Rd H a (.dK kvs)):kvs.length<=sizeLine/\(a == sysModules)=false/\∃ vs,KV kvs vs/\h.DictOf (Z4 P w) a vs :=
 show ObjOk P w H h a (.dK kvs) from CF ok e
theorem nK(ok:HOk P w H h)(e:H a=some (.dK kvs)):kvs.length<=sizeLine/\(a == sysModules)=false/\∃ vs,KV kvs vs/\h.DictOf (Z4 P w) a vs:=LG ok (.inl e)
theorem lC(ok:HOk P w H h)(e:H a=some (.tup (ks.map kV))):(tupleKind (Z4 P w)).is h ks a:=by
 obtain⟨_,its,r,o,b,c,n,d⟩:=(show ObjOk P w H h a (.tup (ks.map kV)) from ok a _ e)
 exact⟨o,its.toArray,n,b,c,d,by simpa using sF r⟩
theorem KG(ok:HOk P w H h)(e:Rd H a (.dT kvs)):kvs.length<=sizeLine/\(a == sysModules)=false /\
  ∃ xs,KT H kvs xs/\h.DictOfH (tupleKind (Z4 P w)) a xs:=by
 obtain⟨z,y,xs,r,o,es,ep,g,c,d,f,i⟩:=(show ObjOk P w H h a (.dT kvs) from CF ok e)
 refine⟨z,y,xs,r,o,es,ep,g,c,d,f,λx b=>?_,i⟩;have all:∀{l:List (List Key × V)}{m:List (List Key × Addr × Value)},KT H l m->∀ x∈m,(tupleKind (Z4 P w)).is h x.1 x.2.1:=by
  intro l m q
  induction q with
  |nil=>intro x b;exact nomatch b
  | @cons p q ps qs hq t ih =>
   intro x b;rcases D1.mp b with e|b
   ·subst e;exact lC ok (by rw[← hq.1];exact hq.2.1)
   ·exact ih x b
 exact all r x b
theorem tL(ok:HOk P w H h)(e:H a=some (.dT kvs)):kvs.length<=sizeLine/\(a == sysModules)=false /\
  ∃ xs,KT H kvs xs/\h.DictOfH (tupleKind (Z4 P w)) a xs:=KG ok (.inl e)
def DGet(H:Hp)(a:Addr)(y:V)(r:Option V):Prop :=
 (∃ kvs k,Rd H a (.dK kvs)/\y=kV k/\r=valV kvs k)\/∃ kvs k b,Rd H a (.dT kvs)/\y=.ref b/\H b=some (.tup (k.map kV))/\r=valV kvs k
def DPut(H:Hp)(a:Addr)(y v:V)(H':Hp):Prop :=
 (∃ kvs k,H a=some (.dK kvs)/\y=kV k/\kvs.length<sizeLine/\H'=upd H a (.dK (putK kvs k v))) ∨
 ∃ kvs k b,H a=some (.dT kvs)/\y=.ref b/\H b=some (.tup (k.map kV))/\kvs.length<sizeLine/\H'=upd H a (.dT (putK kvs k v))
theorem DGet.t{H:Hp}{a b:Addr}{kvs:List (List Key × V)}{k:List Key}(e:H a=some (.dT kvs))(c:H b=some (.tup (k.map kV))):DGet H a (.ref b) (valV kvs k):=.inr ⟨kvs,k,b,.inl e,rfl,c,rfl⟩
theorem DPut.t{H:Hp}{a b:Addr}{kvs:List (List Key × V)}{k:List Key}{v:V}(e:H a=some (.dT kvs))(d:H b=some (.tup (k.map kV)))(c:kvs.length<sizeLine) :
  DPut H a (.ref b) v (upd H a (.dT (putK kvs k v))):=.inr ⟨kvs,k,b,e,rfl,d,c,rfl⟩
theorem Inv.big(I:Inv X pins σ H s):sysModules<s.heap.objs.size:=by
 have h:mainGlobals<s.heap.objs.size:=(I.mod.glob.keeps I.bk).lt;exact Nat.lt_trans (by decide) h
theorem HN(j:A.units+1<cLine)(I:Inv X pins σ H s)(g:DGet H a y o)(i:RelV y u)(h:∀ s',Inv X pins σ H s'->Q (.bool (!o.isSome)) s') :
  wpAny (model X.prog X.w) A (compareOp .NotIn u (.ref a)) Q E s:=by
 rcases g with ⟨kvs,k,e,d,l⟩|⟨kvs,k,b,e,d,m,l⟩
 ·subst d;obtain⟨z,hd,vs,c,f⟩:=LG I.hok e;refine wpAny_notIn_of (OD i) hd f.mapOf ?_;rw[← (c.val k).isSome_eq,← l];exact h _ (I.tok _)
 ·subst d;cases (show u=Value.ref b from i);obtain⟨z,hd,xs,c,f⟩:=KG I.hok e;refine wpAny_notIn_heap (tupleKind_room_in1 j) (lC I.hok m) hd f ?_;have q:=(c.val k).isSome_eq;rw[Option.isSome_map] at q;rw[← q,← l];exact h _ (I.tok _)
theorem fJ(I:Inv X pins σ H s)(d:Mut (H a))(hs:Heap.SameBut a s.heap h')(f:∃ q,h'.get? a=some q)(new:ObjOk X.prog X.w (upd H a c) h' a c) :
  Inv X pins σ (upd H a c) { s with heap:=h',toks:=t' } :=
 I.write (x:=a) (e:=a) d (.inl rfl) (λb q hb z=>(hs.2 b hb).trans z) f new
theorem MK(z:kvs.length<=sizeLine)(hd:(a == sysModules)=false)(b:KV kvs vs)(c:h'.DictOf (Z4 P w) a vs) :
  ObjOk P w H' h' a (.dK kvs):=⟨z,hd,vs,b,c⟩
theorem lN(G:A.units+1<cLine)(I:Inv X pins σ H s)(g:DPut H a y v H')(B:RelV y u)(x:RelV v r)(h:∀ s',Inv X pins σ H' s'->Q () s') :
  wpAny (model X.prog X.w) A (setItem (.ref a) u r) Q E s:=by
 rcases g with ⟨kvs,k,e,m,l,n⟩|⟨kvs,k,b,e,m,C,l,n⟩
 ·subst m n;obtain⟨z,hd,vs,d,p⟩:=nK I.hok e;have j:vs.length<=sizeLine:=by rw[← d.length];exact z
  have o:(putK kvs k v).length<=sizeLine:=by have:=VE kvs k v;lia
  refine wpAny_setItem_pairs (hsz:=j) (OD B) p λh' f hs=>h _ ?_;have J:∃ q,h'.get? a=some q:=let ⟨q,_,_,i,_⟩:=f;⟨q,i⟩;exact fJ I (by rw[e];exact True.intro) hs J (MK o hd (d.put k x) f)
 ·subst m n;cases (show u=Value.ref b from B);obtain⟨z,hd,xs,d,p⟩:=tL I.hok e;have j:xs.length<=sizeLine:=by rw[← Paired.length d];exact z
  have o:(putK kvs k v).length<=sizeLine:=by have:=VE kvs k v;lia
  refine wpAny_setItem_heap (hsz:=j) (tupleKind_room_in1 G) (lC I.hok C) p λh' f hs=>h _ ?_;obtain⟨q,es,ep,i,F,K,L,_,M⟩:=f;refine fJ I (by rw[e];exact True.intro) hs ⟨q,i⟩ ⟨o,hd,_,(d.put k C x).keeps λc ys D=>?_,q,es,ep,i,F,K,L,M⟩;rw[J0 (l9 D e (λz=>nomatch z))];exact D
def JC(ty td:TE):TE:=λσ H Q=>ty σ H λy H1=>td σ H1 λx H2=>∃ a o,x=.ref a/\DGet H2 a y o/\Q (.bl (!o.isSome)) H2
def tE(td ty tv:TE):TS:=λD σ H=>tv σ H λv H1=>td σ H1 λx H2=>ty σ H2 λy H3=>∃ a H4,x=.ref a/\DPut H3 a y v H4/\D.nx σ H4
theorem HQ(f:X.A.units+1<cLine)(hi:PE X i ty)(j:PE X o td):PC X .NotIn i o (JC ty td):=by
 intro pins s σ H Q I h;refine thn (hi pins s σ H _ I h) λw s1 ⟨y,d,q,l,c⟩=>thn (j pins s1 σ d _ q c) λu s2 ⟨x,H2,r,m,a,n,ex,g,p⟩=>?_;subst ex;obtain rfl:u=Value.ref a:=m;exact HN f r g l λv b=>⟨.bl (!n.isSome),H2,b,rfl,p⟩
theorem ZE(f:X.A.units+1<cLine)(j:PE X o td)(hi:PE X i ty)(q:PE X value tv)(hs:swapsWith value (some (.Subscript o i pos')) pos.line X.env=pure false) :
  PS X (.Assign [.Subscript o i pos'] value pos) (tE td ty tv):=by
 intro pins s σ H D I h;refine wpAny_Assign_Subscript (thn (q pins s σ H _ I h) λr s1 ⟨v,d,B,l,c⟩=>thn (j pins s1 σ d _ B c) λu s2 ⟨x,H2,C,n,z⟩=>thn (hi pins s2 σ H2 _ C z) λJ G ⟨y,H3,b,m,a,E,ex,g,p⟩=>?_) hs;subst ex;obtain rfl:u=Value.ref a:=n;exact lN f b g m l λF w=>⟨σ,E,w,p⟩
theorem tO(h:Heap)(hb:sysModules<h.objs.size):ObjOk P w H (h.push { cls:=.type "dict",data:=.dict #[] }) h.objs.size (.dT []) :=
 ⟨O3 _,beq_eq_false_iff_ne.mpr (Ne.symm (O1 hb)),[],.nil,_,#[],0,D2 _ rfl,⟨rfl,rfl,rfl⟩,rfl,rfl,List.nodup_nil⟩
def SF:TE:=λ_ H Q=>∀ p,H p=none->Q (.ref p) (upd H p (.dT []))
theorem JJ:PE X (.Dict [] [] pos) SF:=λpins s σ H Q I h =>
 wpAny_Dict_empty ⟨.ref s.heap.objs.size,_,I.laid (a:=s.heap.objs.size) (o:=.dT []) (t':=s.toks) (λ_ _ q=>J1 _ q) (M0 _) (tO s.heap I.big),rfl,h _ (I.hok.fresh (M0 _))⟩
end L2
namespace Att
open PySem PySem.W PySem.Calls PyProof.Rows
theorem aM:∀(ns:List Int)(vs:List Value),WellAll P h vs (ns.map WData.int)->IntsAre vs ns:=by
 intro ns
 induction ns with
 | nil =>
  intro vs w;rw[List.map_nil] at w;cases w;exact .nil
 | cons n ns ih =>
  intro vs w;rw[M2] at w;cases w with
  | cons a b =>
   cases a;exact .cons _ _ (ih _ b)
theorem mM{l:OpenLaw}{n:Nat}(hn:l.most=some n){P:Params}{h:Heap}{args:List WData}{c:List Value}
  (b:l.row.toRowW.claim.pre args=true) (m:WellAll P h c args) :
  ∃ a vs ns,c=[Value.ref a]/\args=[WData.list (ns.map WData.int)]/\h.get? a=some { cls:=.type "list",data:=.seq vs.toArray }/\IntsAre vs ns/\ns.length<=n:=by
 have j:WShape.hasAll [] args [.list .int]=true:=(pre_splitW b).1;have o:l.pre.holds [] { args:=args }=true:=(pre_splitW b).2;obtain⟨d,r,rfl,u,p⟩:=hasAllW_cons j;obtain rfl:=hasAllW_nil p;obtain⟨xs,rfl,s⟩:=hasW_list u;obtain⟨ns,rfl⟩:=items_int s;have f:ns.length<=n:=by
  unfold OpenLaw.pre at o;have g:(WTm.not (.lt (.lit (.int (n:Int))) (.len (.arg 0)))).holds [] { args:=[.list (ns.map .int)] }=true:=by
   have g:=(holds_andW o).1;rw[hn] at g;exact g
  have i:=condW_of g (w_not (w_lt w_lit (w_len_list (w_arg rfl))));rw[R0] at i;refine Nat.le_of_not_lt λq=>?_;have v:(n:Int)<((ns.length:Nat):Int):=by lia
  first
   |(rw[N3 v] at i;exact absurd i (by decide))
   |(simp at i;lia)
 cases m with
 | cons w1 w2 =>
  cases w2;cases w1 with
  |list ho hall=>exact⟨_,_,ns,rfl,rfl,ho,aM ns _ hall,f⟩
theorem TN(l:OpenLaw)(args:List WData):l.row.toRowW.claim.post args (.bool true) args=true :=
 postW_of (r:=l.row.toRowW) (X:=(true == true))
  (show WShape.has [] (.bool true) .bool=true by first|rfl|decide|simp[WShape.has,WShape.arms,WShape.armsAll])
  (show(WTm.eq .res (.lit (.bool true))).value [] { args:=args,res:=some (.bool true),after:=args }=some (.bool (true == true)) from w_eq_bool (w_res rfl) w_lit) rfl
theorem attach_call{l:OpenLaw}{n:Nat}{q:Program}{c:List Str}{y:(Str->Option Value)->Heap->Prop}{A:World->Heap->Prop}{d:DefRec}
  (hn:l.most=some n) (s:d.params.defaults=[])
  (call:∀(w:World)(s₀ b:Shared)(mg mb:Str->Option Value)(fa:Addr)(o:Obj)(pm m doc:Value)(a:Addr)(vs:List Value)(ns:List Int),
   Ground q c [] y w s₀ mg mb b.heap->A w b.heap ->
   b.heap.get? fa=some o->o.data=.func (docDef d.name d.params d.body d.scope pm m doc)->b.heap.CodeRec m d.name->mg d.name=some (.ref fa) ->
   b.heap.get? a=some { cls:=.type "list",data:=.seq vs.toArray }->IntsAre vs ns->ns.length<=n->b.gens = #[] ->
   codeAny (model l.prog w) callerA (.call (.ref fa) ⟨[.ref a],[]⟩) (λr s'=>r=.ok (.ret (.bool true))/\OldK b.heap s'.heap/\s'.os=b.os/\AllBare s'.gens) b) :
  WalkO q c y A l.row.toRowW d [] (λf vs=>PySem.call f vs):=by
 intro w s₀ b mg mb G Y fa o pm m doc L kV F hd p z u C args B as i x E v H;obtain rfl:L=.none:=Dflts.none z s;obtain rfl:kV=.none:=Dflts.noKw z;obtain⟨a,vs,ns,rfl,rfl,j,g,h⟩:=mM hn i v;refine enter_call (codeAny_mono (call w s₀ b mg mb fa o pm m doc a vs ns G Y F (fd_plain hd) p u j g h C) λr s' I=>?_);obtain⟨rfl,D,J,K⟩:=I;exact⟨.inl ⟨.bool true,.bool true,[],rfl,λ_=>rfl,.bool true,TN l _,λ_=>⟨List.Pairwise.nil,λ_ hm=>(nomatch hm)⟩⟩,D,J,K⟩
end Att
namespace L2
open PySem PySem.Spec PyProof.Rows
theorem xE:∀{vs:List Value}{ns:List Int},IntsAre vs ns->Vals (ns.map V.int) vs
 |_,_,.nil=>.nil
 |_,_,.cons n t h=>.cons ⟨t,rfl⟩ (xE h)
def Only(H:Hp):Prop:=∀ b,H b=none\/(∃ o xs,H b=some (.frz o (.lst xs)))\/∃ gs,H b=some (.tbl gs)
def R9(K:Frag)(h:Heap):Prop:=∀ c P,PySem.W.tabIn K lamN=some (c,P)->PySem.W.CodeHd h c P/\h.get? P=some (PySem.W.tabObj #[])/\K.lookup P=none
theorem FU{P:Program}{w:World}{K:Frag}{h:Heap}{H:Hp}{a:Addr}{xs:List V}{j:Obj}(s:R9 K h)(ha:h.get? a=some j)(p:j.cls ≠ .none)(m:∀ b,H b=none\/∃ o xs,H b=some (.frz o (.lst xs)))(n:SqL K H a xs)(hok:HOk P w H h)(f:∀ b,H b ≠ none->b=a)(l:H a ≠ none->K.lookup a=none) :
  ∃ H':Hp,Only H'/\SqL K H' a xs/\HOk P w H' h/\(∀ b,H' b ≠ none->(b=a/\K.lookup a=none)\/∃ c,PySem.W.tabIn K lamN=some (c,b))/\TabsOk K H':=by
 cases q:PySem.W.tabIn K lamN with
 | none =>
  refine⟨H,λb=>(m b).elim .inl λz=>.inr (.inl z),n,hok,λb z=>.inl ⟨f b z,l ?_⟩,λc P e=>by rw[q] at e;cases e⟩;have:=f b z;subst this;exact z
 | some cP =>
  obtain⟨c,T⟩:=cP;obtain⟨_,g,A⟩:=s c T q;have i:T ≠ a:=λz=>by subst z;rw[ha] at g;cases g;exact p rfl
  have hn:H T=none:=by
   cases e:H T with
   |none=>rfl
   |some u=>exact absurd (f T (by rw[e];simp)) i
  refine⟨upd H T (.tbl #[.str lamQ 0]),λb=>?_,?_,λb u z=>?_,λb z=>?_,λy v e=>?_⟩
  ·by_cases hb:b=T
   ·subst hb;exact .inr (.inr ⟨_,W0⟩)
   ·rw[J0 hb];exact(m b).elim .inl λz=>.inr (.inl z)
  ·rcases n with (r|⟨o,r⟩)|r
   ·exact .inl (.inl (by rw[J0 (Ne.symm i)];exact r))
   ·exact .inl (.inr ⟨o,by rw[J0 (Ne.symm i)];exact r⟩)
   ·exact .inr r
  ·by_cases hb:b=T
   ·subst hb;rw[W0] at z;cases z;exact⟨#[],g,trivial,λpos x e=>by simp[codeAmong] at e⟩
   ·rw[J0 hb] at z;exact(hok b u z).stay (λ_ _ _ r=>r) (λd r=>by rw[J0 (U2 r hn)];exact r) λd ys r=>by rw[J0 (U2 r hn)];exact r
  ·by_cases hb:b=T
   ·subst hb;exact .inr ⟨c,rfl⟩
   ·rw[J0 hb] at z;have:=f b z;subst this;exact .inl ⟨rfl,l z⟩
  ·rw[q] at e;cases e;exact⟨#[],by rw[W0];rfl⟩
theorem eL{P:Program}{w:World}{K:Frag}{mg mb:Str->Option Value}{CX:CXT}{k:Nat}{fa a:Addr}{fd:FuncData}{x:Str}{sp:Sp}{f:Shared}{vs:List Value}{ns:List Int}
  (KX:K.In f.heap) (I:f.heap.Ns mainGlobals mg) (hb:f.heap.Ns builtinsNs mb) (Z:∀ x:Str,x ≠ "__name__"->mb x=bootBuiltins x) (G:f.heap.NoLimit) (hg:f.gens = #[])
  (ha:f.heap.get? a=some { cls:=.type "list",data:=.seq vs.toArray }) (hi:IntsAre vs ns) (hl:ns.length<=sizeLine) (hr:Room k callerA) (i:R9 K f.heap) (R:QF mg f.heap)
  (F:∀ base:Heap,K.In base->base.Ns mainGlobals mg->FnOk P w K mg base CX k fa fd [x] sp) (A:∀(s:Shared)(u:Value),BindsTo s fd ⟨[u],[]⟩ [(x,u)])
  (W:∀ H:Hp,Only H->SqL K H a (ns.map V.int)->sp [.ref a] H (λv _=>v=.bl true) λ_ _ _=>False)
  (T:∀ H e s',CX [] H f (λ_ _ _=>False) e s'->False) :
  codeAny (model P w) callerA (.call (.ref fa) ⟨[.ref a],[]⟩) (λr s'=>r=.ok (.ret (.bool true))/\OldK f.heap s'.heap/\s'.os=f.os/\AllBare s'.gens) f:=by
 have rv:=xE hi;have L:=hi.length
 -- from an abstract heap in which nothing but the script may be tracked
 have p:∀ H:Hp,(∀ b,H b=none\/∃ o xs,H b=some (.frz o (.lst xs)))->SqL K H a (ns.map V.int)->HOk P w H f.heap->(∀ b,H b ≠ none->b=a)->(H a ≠ none->K.lookup a=none) ->
   codeAny (model P w) callerA (.call (.ref fa) ⟨[.ref a],[]⟩) (λr s'=>r=.ok (.ret (.bool true))/\OldK f.heap s'.heap/\s'.os=f.os/\AllBare s'.gens) f:=by
  intro H O U hok B hK;obtain⟨H,O,U,hok,B,hT⟩:=FU i ha (by intro z;cases z) O U hok B hK;have g:∀{b:Addr}{o:Obj},f.heap.get? b=some o->H b=none->(hidT f.heap H).get? b=some o:=λe n=>oO e n;have S:∀{b:Addr}{o:Obj}{es:Array DictEntry}{ep:Nat},f.heap.get? b=some o->o.data=.dict es ep->H b=none:=λ{b o es ep} e d=>by
   cases q:H b with
   |none=>rfl
   | some u =>
    rcases B b (by rw[q];simp) with ⟨j,_⟩|⟨c,j⟩
    ·subst j;rw[ha] at e;cases e;have d':Data.seq vs.toArray _=Data.dict es ep:=d;cases d'
    ·have e2:=(i c b j).2.1;rw[e2] at e;cases e;cases d
  have l:∀{b:Addr}{m:Str->Option Value},f.heap.Ns b m->(hidT f.heap H).Ns b m:=λ{b m} ⟨o,es,ep,e,d,r⟩=>⟨o,es,ep,g e (S e d),d,r⟩
  have D:K.In (hidT f.heap H):=λb o e=>g (KX b o e) (by
   cases q:H b with
   |none=>rfl
   | some u =>
    rcases B b (by rw[q];simp) with ⟨j,M⟩|⟨c,j⟩
    ·subst j;rw[M] at e;cases e
    ·rw[(i c b j).2.2] at e;cases e)
  have hM:Mod K mg (hidT f.heap H):=⟨D,l I,⟨mb,l hb,Z⟩,let ⟨mc,h1,h2⟩:=G;⟨mc,l h1,h2⟩,by
   obtain⟨N,Q,b1,b2,J,Y,b5⟩:=R;refine⟨N,Q,b1,b2,g J ?_,Y,b5⟩;cases q:H N with
   |none=>rfl
   | some u =>
    rcases B N (by rw[q];simp) with ⟨j,_⟩|⟨c,j⟩
    ·subst j;rw[ha] at J;cases J;have b6:Value.type "list" = Value.type "module":=Y;injection b6 with z;exact absurd z (by decide)
    ·rw[(i c N j).2.1] at J;cases J;cases Y⟩
  have e0:Env0 P w K mg (hidT f.heap H) callerA [] f H:=⟨rfl,hM,λb o e=>wK e,Nat.le_of_eq (MP _ _),trivial,λb hb=>absurd (show b∈([]:List Addr) from hb) (by simp),hT,hok,.of_eq hg⟩
  refine codeAny_mono ((F _ D (l I)).run callerA [] f H ⟨[.ref a],[]⟩ [.ref a] [.ref a] _ _ hr e0 (A f (.ref a)) (.cons rfl .nil) (W H O U)) λr s' h=>?_;cases r with
  |error e=>exact(T H e s' h).elim
  | ok fl =>
   cases fl with
   |next=>exact False.elim h
   |brk=>exact False.elim h
   |cont=>exact False.elim h
   | ret u =>
    obtain⟨v,H',os,bare,un,y,r',q⟩:=h;have q':v=.bl true:=q;subst q';obtain rfl:u=Value.bool true:=r';refine⟨rfl,⟨λb o e=>?_,λb o e=>un.there b o e (by simp)⟩,os,bare⟩;cases q:H b with
    |none=>exact .inl (un.keep b o e q (by intro z;exact absurd (show b∈([]:List Addr) from z) (by simp)) (by simp))
    | some u =>
     rcases O b with z|⟨Q,xs,z⟩|⟨gs,z⟩
     ·rw[q] at z;cases z
     ·refine .inl ?_;have X:=un.frzs b Q _ z;obtain⟨e1,_⟩:=hok b _ z;obtain⟨e2,_⟩:=y b _ X;rw[e] at e1;cases e1;exact e2
     ·obtain⟨m,X⟩:=un.tbls b gs z;obtain⟨ps,e2,_⟩:=y b _ X;rcases B b (by rw[q];simp) with ⟨j,_⟩|⟨c,j⟩
      ·subst j;obtain⟨a0,C,_⟩:=hok b _ z;rw[ha] at C;cases C
      ·have C:=(i c b j).2.1;rw[C] at e;cases e;refine .inr (.inl ⟨((i c b j).1.tab C).isCodeTable,rfl,#[],ps,rfl,?_⟩);rw[e2];simp
 cases M:K.lookup a with
 | some o =>
  -- the script is one of the module's own objects
  have e:=KX a o M;rw[ha] at e;cases e;refine p (λ_=>none) (λ_=>.inl rfl) (.inr ⟨_,vs.toArray,_,M,rfl,rfl,rfl,by rw[Q2,L];exact hl,by simpa using rv⟩) (λb u z=>by have E:(none:Option HO)=some u:=z;cases E) (λb z=>absurd rfl z) λz=>absurd rfl z
 | none =>
  refine p (λb=>if b=a then some (.frz { cls:=.type "list",data:=.seq vs.toArray } (.lst (ns.map V.int))) else none) (λb=>?_) (.inl (.inr ⟨{ cls:=.type "list",data:=.seq vs.toArray },q0 rfl⟩)) (λb u z=>?_) (λb z=>?_) λ_=>M
  ·by_cases hb:b=a
   ·exact .inr ⟨_,_,q0 hb⟩
   ·exact .inl (o0 hb)
  ·by_cases hb:b=a
   ·have E:=(q0 hb).symm.trans z;cases E;subst hb;exact⟨ha,by rw[R0];exact hl,vs,_,rv,ha⟩
   ·have E:=(o0 hb).symm.trans z;cases E
  ·by_cases hb:b=a
   ·exact hb
   ·exact absurd (o0 hb) z
abbrev KOf{K:Frag}{h:Heap}(_:K.In h):Frag:=K
theorem walk_of{l:PySem.W.OpenLaw}{n k:Nat}{q:Program}{j:List Str}{M:(Str->Option Value)->Heap->Prop}{D:World->Heap->Prop}{d:DefRec}{K:Params->Frag}{CX:World->CXT}{sp:World->Sp}{x:Str}
  (hn:l.most=some n) (z:n<=sizeLine) (A:d.params.defaults=[]) (O:Room k callerA)
  (N:∀(w:World)(h:Heap),D w h->(K w.params).In h)
  (E:∀(w:World)(lo:List Str)(mg mb:Str->Option Value)(r:ExcName->Option Value)(h:Heap),PyProof.Rows.Top q lo r mg mb h->D w h->R9 (K w.params) h)
  (F:∀(w:World)(mg:Str->Option Value)(fa:Addr)(h:Heap),(K w.params).In h->h.Ns mainGlobals mg->mg d.name=some (.ref fa) ->
   ∃ fd:FuncData,(∀(s:Shared)(u:Value),BindsTo s fd ⟨[u],[]⟩ [(x,u)]) /\
    ∀ base:Heap,(K w.params).In base->base.Ns mainGlobals mg->FnOk l.prog w (K w.params) mg base (CX w) k fa fd [x] (sp w))
  (y:∀(w:World)(H:Hp)(a:Addr)(ns:List Int),ns.length<=n->Only H->SqL (K w.params) H a (ns.map V.int)->sp w [.ref a] H (λv _=>v=.bl true) λ_ _ _=>False)
  (B:∀(w:World)(H:Hp)(s:Shared)(e:Value)(s':Shared),CX w [] H s (λ_ _ _=>False) e s'->False) :
  PySem.W.WalkO q j M D l.row.toRowW d [] (λf vs=>PySem.call f vs):=by
 refine Att.attach_call hn A λw s₀ m mg mb fa o pm S doc a vs ns G Y U hd L C p i c J=>?_;have I:=N w _ Y;obtain⟨fd,hb,Q⟩:=F w mg fa _ I G.T.g C;exact eL I G.T.g G.T.b G.T.builtins G.T.nolimit J p i (W1 c z) O (E w _ _ _ _ _ G.T Y) G.T.bmain Q hb (λH P R=>y w H a ns c P R) λH e s'=>B w H m e s'
end L2
/- THE LAST THEOREM (shape; LID, My.* are yours):
  My.Adr: a structure of the addresses that your layer names (classes,functions);My.Txt K t: a structure (Prop) of the equations over K;
  My.txt_mk:{K} {implicit addresses ..} (e1:nsIn K mainGlobals "law" = some (some (.ref f))) (e2:K.lookup f=some ⟨oc,od,.func (fnOf "law" "law" params body scope dV kV doc pm an cdv ct),sl⟩) (e3:codeIn K cdv "law" = true) .. : ∃ t,My.Txt K t
set_option maxRecDepth 100000 in
set_option maxHeartbeats 0 in
theorem PySem.Challenge.cw_LID_holds : PySem.Challenge.rw_LID.Holds := by
 w_on;o_law;k_head;(case hw=>w_witness2)
 k_fill
 refine L2.walk_of (l:=PySem.Challenge.rw_LID) (n:=63) (k:=40) (x:="script") (CX:=λw=>..) (sp:=λ_=>My.sp_law) rfl (by decide) rfl ⟨rfl,by decide,by decide⟩ (λw h Y=>PySem.W.kIn_of Y) ?F ?S ?C
 case F =>
  intro w mg fa h KX G hmg;have T:∃ t,My.Txt (L2.KOf KX) t:=by
   dsimp only[L2.KOf]                          -- K must stand as «<heap const> w.params» for k_is;refine' My.txt_mk ?e1 ?e2 ?e3 ..
   (case e1=>PySem.W.k_is)                    -- in the order: a name -> its address -> its object -> its parts
   (case e2=>PySem.W.k_is)
   ..
  obtain⟨t,T⟩:=T;have e0:=hmg.symm.trans (mg_of KX G T.law);cases e0                                       -- fa is the law's own address;exact⟨_,λs u=>.of_eq rfl,λbase kb nb=>My.law_fn T kb nb⟩     -- if «.of_eq rfl» comes too early: refine'⟨_,?b,λbase kb nb=>My.law_fn T kb nb⟩;exact λs u=>.of_eq rfl
 case S=>exact λw H a ns hl hO hS=>..
 case C=>exact ..
(the tactic k_is has no namespace: write k_is) -/
namespace L2
open PySem PySem.Spec PyProof.Rows
def D8(s:Stmt)(j:Nat):Stmt:=match s with
 | .ClassDef _ _ _ body _ _ _ _ _ _ _=>body.getD j (.Pass ⟨0,0,0,0⟩)
 |_=>.Pass ⟨0,0,0,0⟩
def D4(s:Stmt):Arguments:=match s with
 | .FunctionDef _ a _ _ _ _ _ _ _ _=>a
 |_=>{ posonlyargs:=[],args:=[],vararg:=none,kwonlyargs:=[],kw_defaults:=[],kwarg:=none,defaults:=[] }
def C4(s:Stmt):List Stmt:=match s with
 | .FunctionDef _ _ b _ _ _ _ _ _ _=>b
 |_=>[]
def S0(s:Stmt):Scope:=match s with
 | .FunctionDef _ _ _ _ _ _ sc _ _ _=>sc
 |_=>{ kind:=.function,names:=[],isGenerator:=false,isCoroutine:=false }
abbrev CX0:CXT:=λ_ _ _ _ _ _=>False
abbrev E0:XK:=λ_ _ _=>False
theorem cB:L8 CX0 X E0:=λ_ _ _ _ _ _ _ h=>h.elim
structure Fun(K:Frag)(x qual:Str)(st:Stmt)(f:Addr)(fd:FuncData):Prop where
 ex:∃(oc:Value)(od:Option Addr)(kV doc pm:Value)(an:Option Addr)(cdv ct:Value)(osl:Array (Option Value)),
  fd=fnOf x qual (D4 st) (C4 st) (S0 st) .none kV doc pm an cdv ct/\K.lookup f=some ⟨oc,od,.func fd,osl⟩/\codeIn K cdv qual=true
 kp:keepIn K (.ref f)=true
section
variable{P:Program}{w:World}{K:Frag}{mg:Str->Option Value}{base:Heap}
theorem Fun.ok{x qual:Str}{st:Stmt}{f:Addr}{fd:FuncData}{N ps:List Str}{k:Nat}{sp:Sp}(F:Fun K x qual st f fd)(S:FnScope N ps (S0 st))(len:∀ vs H Q E,sp vs H Q E->vs.length=ps.length)
  (a:∀(cdv:Value)(A:Around)(outer:List Env)(s:Shared)(H:Hp)(vs:List V)(Q:VK)(E:XK),Room k (A.deeper (envOfC qual (S0 st) s.heap.objs.size f cdv))->sp vs H Q E ->
   ∃ t,PSs (cxOf CX0 P w K mg base N qual (S0 st) f cdv A outer s H E).nox (C4 st) t/\t { nx:=λ_ H'=>Q .non H',rt:=Q } (start N vs) H):FnOk P w K mg base CX0 (k+1) f fd ps sp:=by
 obtain⟨oc,od,kV,doc,pm,an,cdv,ct,osl,rfl,g,c⟩:=F.ex;refine XS g c S len λA outer s H vs Q E d b=>?_;obtain⟨t,h,q⟩:=a cdv A outer s H vs Q E d b;exact⟨t,h.nox,q⟩
theorem Fun.binds{x qual:Str}{st:Stmt}{f:Addr}{fd:FuncData}{ps:List Str}(F:Fun K x qual st f fd)
  (h:∀(kV doc pm:Value)(an:Option Addr)(cdv ct:Value)(us:List Value),us.length=ps.length->bindArgs (fnOf x qual (D4 st) (C4 st) (S0 st) .none kV doc pm an cdv ct) ⟨us,[]⟩=pure (ps.zip us)):Binds K fd ps []:=by
 obtain⟨oc,od,kV,doc,pm,an,cdv,ct,osl,rfl,b,a⟩:=F.ex;exact .all (h kV doc pm an cdv ct)
theorem eF{x qual:Str}{st:Stmt}{f:Addr}{oc:Value}{od an:Option Addr}{osl:Array (Option Value)}{kV doc pm cdv ct:Value}(l:K.lookup f=some ⟨oc,od,.func (fnOf x qual (D4 st) (C4 st) (S0 st) .none kV doc pm an cdv ct),osl⟩)
  (c:codeIn K cdv qual=true) (k:keepIn K (.ref f)=true):Fun K x qual st f (fnOf x qual (D4 st) (C4 st) (S0 st) .none kV doc pm an cdv ct):=⟨⟨oc,od,kV,doc,pm,an,cdv,ct,osl,rfl,l,c⟩,k⟩
end
theorem jD(a:Room k A):A.units+1<cLine:=vC (Nat.add_le_add_left (by decide:1<=64) _) a.units
theorem xC(h:n<=1000):n<sizeLine:=vC h (by decide)
section
variable{X:Cx}
theorem pv(i:Nat)(b:X.N[i]?=some x:=by rfl)(c:Vis X.env.scope x:=by first|exact Or.inl rfl|exact Or.inr ab|exact Or.inr (Or.inr rfl))(hd:(x == ("__debug__" : Str))=false:=by decide)
  (a:(x == ("__classdict__" : Str))=false:=by decide):PE X (.Name x pos) (tVar i):=FM b c hd a
end
theorem iteF{A B:Prop}(h:B):if false=true then A else B:=by
 rw[o0 X1];exact h
theorem iteT{A B:Prop}(h:A):if true=true then A else B:=by
 rw[q0 rfl];exact h
def Same(H H':Hp):Prop:=∀ b o,H b=some o->H' b=some o
theorem Same.refl(H:Hp):Same H H:=λ_ _ h=>h
theorem Same.trans(a:Same H d)(b:Same d H2):Same H H2:=λc o h=>b c o (a c o h)
theorem Same.seq{K:Frag}{H H':Hp}{a:Addr}{xs:List V}(e:Same H H')(h:SqL K H a xs):SqL K H' a xs:=by
 rcases h with (h|⟨o,h⟩)|h
 ·exact .inl (.inl (e _ _ h))
 ·exact .inl (.inr ⟨o,e _ _ h⟩)
 ·exact .inr h
section
variable{X:Cx}
end
section
variable{κ:Type} [DecidableEq κ]
end
def clos(env:Env):List (Str × NameKind)->List (Str × Addr)->List (Str × Addr)
 |[],cs=>cs
 |(n,k)::r,cs=>if k == NameKind.free then (match env.cells.lookup n with|some a=>clos env r ((n,a)::cs)|none=>clos env r cs) else clos env r cs
theorem eG(h:∀ n,(n,NameKind.free)∈sc.names->∃ a,env.cells.lookup n=some a):closureFor sc env=pure (clos env sc.names []):=by
 have all:∀(l:List (Str × NameKind))(cs:List (Str × Addr)),(∀ n,(n,NameKind.free)∈l->∃ a,env.cells.lookup n=some a) ->
   (forIn l cs λ(x:Str × NameKind)(cs:List (Str × Addr))=>match x with|(name,kind)=>if kind == NameKind.free then (do let a ← cellOf env name;pure (ForInStep.yield ((name,a)::cs))) else pure (ForInStep.yield cs))=(pure (clos env l cs):Sem _):=by
  intro l
  induction l with
  |nil=>intro cs _;rfl
  | cons p r ih =>
   intro cs c;obtain⟨n,k⟩:=p;rw[List.forIn_cons];unfold clos;dsimp only;cases hk:(k == NameKind.free) with
   | false =>
    simp only[Bool.false_eq_true,if_false,pure_bind];exact ih cs λm hm=>c m (S2 _ hm)
   | true =>
    have f:k=NameKind.free:=by simpa using hk
    subst f;obtain⟨a,ha⟩:=c n o3;have d:cellOf env n=pure a:=by unfold cellOf;rw[ha]
    simp only[if_true,d,pure_bind,ha];exact ih _ λm hm=>c m (S2 _ hm)
 have e:=all sc.names [] h;unfold closureFor;refine Eq.trans (b:=(pure (clos env sc.names []):Sem _) >>= λcs=>pure cs) ?_ (pure_bind _ _);exact congrArg (λz:Sem (List (Str × Addr))=>z >>= λcs=>pure cs) e
theorem uA:∀{l:List (Str × NameKind)}{cs:List (Str × Addr)},(clos env l cs).lookup x=some c->env.cells.lookup x=some c\/cs.lookup x=some c
 |[],cs,h=>.inr h
 | (n,k)::r,cs,h=>by
  unfold clos at h;by_cases hk:(k == NameKind.free)=true
  ·rw [q0 hk] at h;cases ha:env.cells.lookup n with
   |none=>rw[ha] at h;exact uA h
   | some a =>
    rw[ha] at h;rcases uA h with e|e
    ·exact .inl e
    ·rw[J3] at e;cases hx:(x == n) with
     | true =>
      rw[hx] at e;have:x=n:=by simpa using hx
      subst this;cases e;exact .inl ha
     |false=>rw[hx] at e;exact .inr e
  ·rw[o0 hk] at h;exact uA h
theorem wB:∀{l:List (Str × NameKind)}{cs:List (Str × Addr)},(∃ c,cs.lookup x=some c)->∃ c,(clos env l cs).lookup x=some c
 |[],cs,h=>h
 | (n,k)::r,cs,h=>by
  unfold clos;by_cases hk:(k == NameKind.free)=true
  ·rw[q0 hk];cases ha:env.cells.lookup n with
   |none=>exact wB h
   | some a =>
    refine wB ?_;rw[J3];cases hx:(x == n) with
    |true=>exact⟨_,rfl⟩
    |false=>exact h
  ·rw[o0 hk];exact wB h
theorem p8(h:∃ a,env.cells.lookup x=some a):∀{l:List (Str × NameKind)}{cs:List (Str × Addr)},(x,NameKind.free)∈l->∃ c,(clos env l cs).lookup x=some c
 |[],_,hm=>absurd hm (by simp)
 | (n,k)::r,cs,hm=>by
  rcases D1.mp hm with e|hm
  ·cases e;obtain⟨a,ha⟩:=h;unfold clos;rw[q0 (by rfl),ha];refine wB ⟨a,?_⟩;rw[J3];simp
  ·unfold clos;by_cases hk:(k == NameKind.free)=true
   ·rw[q0 hk];cases ha:env.cells.lookup n with
    |none=>exact p8 h hm
    |some a=>exact p8 h hm
   ·rw[o0 hk];exact p8 h hm
theorem yH{env:Env}{x:Str}:∀{names:List (Str × NameKind)},(∀ y∈names,y.2 ≠ .cell) ->
  ((names.map λ(n,k)=>if (k == NameKind.free && env.scope.kind == .function && env.kindOf n == some .cell) then (n,NameKind.cell) else (n,k)).lookup x=some .cell ∨
   (names.map λ(n,k)=>if (k == NameKind.free && env.scope.kind == .function && env.kindOf n == some .cell) then (n,NameKind.cell) else (n,k)).lookup x=some .free)->names.lookup x=some .free
 |[],_,h=>by rcases h with h|h <;> simp at h
 | (n,k)::r,hc,h=>by
  have a:=@yH env x r λy b=>hc y (S2 _ b);rw[J3];simp only[M2] at h;by_cases hq:(k == NameKind.free && env.scope.kind == .function && env.kindOf n == some .cell)=true
  ·rw[q0 hq] at h;have c:k=NameKind.free:=by
    have:=hq;simp only[E5] at this;simpa using this.1.1
   subst c;cases hx:(x == n) with
   |true=>rfl
   |false=>simp only[J3,hx] at h;exact a h
  ·rw[o0 hq] at h;cases hx:(x == n) with
   | true =>
    simp only[J3,hx] at h;rcases h with h|h
    ·cases h;exact absurd rfl (hc (n,NameKind.cell) o3)
    ·exact h
   |false=>simp only[J3,hx] at h;exact a h
theorem yD{env:Env}{x:Str}:∀{names:List (Str × NameKind)},names.lookup x=some .free ->
  ((names.map λ(n,k)=>if (k == NameKind.free && env.scope.kind == .function && env.kindOf n == some .cell) then (n,NameKind.cell) else (n,k)).lookup x=some .cell ∨
   (names.map λ(n,k)=>if (k == NameKind.free && env.scope.kind == .function && env.kindOf n == some .cell) then (n,NameKind.cell) else (n,k)).lookup x=some .free)
 |[],h=>by simp at h
 | (n,k)::r,h=>by
  have a:=@yD env x r;rw[J3] at h;simp only[M2];by_cases hq:(k == NameKind.free && env.scope.kind == .function && env.kindOf n == some .cell)=true
  ·rw[q0 hq];cases hx:(x == n) with
   |true=>left;simp[J3,hx]
   |false=>rw[hx] at h;simp only[J3,hx];exact a h
  ·rw[o0 hq];cases hx:(x == n) with
   |true=>rw[hx] at h;right;simp only[J3,hx];exact h
   |false=>rw[hx] at h;simp only[J3,hx];exact a h
def Cx.comp(X:Cx)(N:List Str)(sc:Scope)(C:Addr)(s0:Shared)(H0:Hp)(ex:List Addr):Cx where
 prog:=X.prog
 w:=X.w
 K:=X.K
 mg:=X.mg
 base:=X.base
 A:=X.A
 N:=N
 s₀:=s0
 H₀:=H0
 env:=compEnvC sc (clos X.env sc.names []) C X.env
 outer:=X.stack
 stack:=X.stack
 ex:=ex
 fn:=λ_=>false
 calm:=X.calm
 pn:=[]
 xe:=λ_ _=>False
def pick(src:List (Option Nat))(σ:St):St:=src.map λo=>match o with|some j=>(σ[j]?).getD none|none=>none
structure LcOk(X:Cx)(N:List Str)(sc:Scope)(src:List (Option Nat)):Prop where
 kind:sc.kind=.function
 nocell:∀ y∈sc.names,y.2 ≠ .cell
 own:∀ y∈sc.names,y.2=.local->sc.names.lookup y.1=some .local
 outs:∀ y∈sc.names,y.2=.free->X.env.kindOf y.1=some .cell\/X.env.kindOf y.1=some .free
 len:src.length=N.length
 from':∀(i j:Nat),src[i]?=some (some j)->∃ x,N[i]?=some x/\X.N[j]?=some x/\sc.names.lookup x=some .free
theorem LcOk.clo(L:LcOk X N sc src)(ok:X.Ok):closureFor sc X.env=pure (clos X.env sc.names []) :=
 eG λn hn=>ok.has n (L.outs (n,.free) hn rfl)
theorem YE           
  (L:LcOk X N sc src) (I:Inv X pins σ H s) (hf:∀ b∈fp,FpOk X pins H b) (d:∀ b∈fp,b<s.heap.objs.size)
  (hn:w.Ns s.heap.objs.size λ_=>none) (f:∀ b o,s.heap.get? b=some o->w.get? b=some o) :
  Inv (X.comp N sc s.heap.objs.size s H fp) [] (pick src σ) H { s with heap:=w,toks:=t' }:=by
 have look:∀{x c},(clos X.env sc.names []).lookup x=some c->X.env.cells.lookup x=some c:=λ{x c} e=>by
  rcases uA e with z|z
  ·exact z
  ·simp at z
 refine⟨⟨I.ok.mod,L.kind,I.ok.glob,I.ok.blt,M0 _,λx y c A e2=>?_,λx G=>?_,λx c z _=>?_,I.ok.hd,I.ok.frames,.inl rfl,λb hb=>⟨?_,λx c e=>?_⟩,I.bs,W1 I.ok.bsz I.sz,λb o e hb=>?_,λb hb z=>?_,I.stack,I.stkFree,I.tab⟩,
  rfl,I.bare,Un.kept f,⟨_,hn,λi x v A e2 P=>?_⟩,λx c e=>?_,I.hok.fresh (M0 _),λx c e=>I.freeC x c (look e),λp J=>?_,I.hok.kept f,?_⟩
 ·exact I.ok.inj x y c (look A) (look e2)
 ·have q:=yH (env:=X.env) (x:=x) L.nocell G;exact p8 (I.ok.has x (L.outs (x,.free) (PySem.mem_of_lookup q) rfl)) (PySem.mem_of_lookup q)
 ·exact Bool.noConfusion z
 ·exact O1 (d b hb)
 ·exact(hf b hb).2.2.2.2.1 x c (look e)
 ·rcases(hf b hb).2.2.2.1 with z|z
  ·exact I.ok.noex b o e z
  ·exact absurd (L4 (L0 e) (W1 I.ok.bsz z)) (t4 _)
 ·rcases D1.mp (I.stkSub b z) with q|q
  ·exact(hf b hb).2.1 q
  ·exact(hf b hb).2.2.1 q
 ·unfold pick at e2;rw[L1] at e2;cases q:src[i]? with
  |none=>rw[q] at e2;cases e2
  | some o =>
   rw[q] at e2;cases o with
   |none=>cases e2
   | some j =>
    obtain⟨y,D,F,h⟩:=L.from' i j q;have n:N[i]?=some x:=A;rw[n] at D;cases D;have M : σ[j]?=some (some v):=by
     cases q2 : σ[j]? with
     |none=>simp[q2] at e2
     |some z=>simp[q2] at e2;rw[e2]
    have d:=L.outs (x,.free) (PySem.mem_of_lookup h) rfl;have g:Vis X.env.scope x:=by
     rcases d with z|z
     ·exact .inr (.inl z)
     ·exact .inr (.inr z)
    obtain⟨m,_,K⟩:=I.loc;obtain⟨u,r,l⟩:=K j x v F M g;refine⟨u,r,.inr ⟨?_,?_⟩⟩
    ·exact yD (env:=X.env) h
    ·rcases l with ⟨z,_⟩|⟨_,c,C,oc,a,hd⟩
     ·rcases d with B|B <;> (rw[B] at z;cases z)
     ·obtain⟨O,E⟩:=p8 (env:=X.env) ⟨c,C⟩ (PySem.mem_of_lookup h) (cs:=[]);have:=look E;rw[C] at this;cases this;exact⟨c,E,oc,f c oc a,hd⟩
 ·obtain⟨v,oc,a,hd⟩:=I.cell x c (look e);exact⟨v,oc,f c oc a,hd⟩
 ·exact absurd (show p∈([]:List (Addr × Obj)) from J) (by simp)
 ·show(pick src σ).length=N.length;unfold pick;rw[R0];exact L.len
def PIf(X:Cx)(ifs:List Expr)(t:TT):Prop :=
 ∀(pins:List (Addr × Obj))(s:Shared)(σ:St)(H:Hp)(Q:Bool->Hp->Prop),Inv X pins σ H s->t σ H Q ->
  wpAny (model X.prog X.w) X.A (forIn ifs true λc r=>if r=true then do let ok ← isTrue c X.env (eval c X.env);pure (ForInStep.yield ok) else pure (ForInStep.yield r)) (TP X pins σ Q) X.xe s
def tYes:TT:=λ_ H Q=>Q true H
theorem v3:PIf X [] tYes:=λ_ _ _ H _ I h=>wpAny_tests_nil ⟨H,I,h⟩
theorem bA(h:PT X c t):PIf X [c] t:=λpins s σ H Q I q=>wpAny_tests_one (h pins s σ H Q I q)
abbrev LW:=Nat->Nat->List V->St->Hp->Prop
def iB(J:It)(g:TG)(tif:TT)(te:TE)(acc:Addr)(Qd:List V->Hp->Prop)(W:LW):Prop:=∀(i m:Nat)(ys:List V)(σ:St)(H:Hp),W i m ys σ H->H acc=some (.lst ys)/\((J.stop i H/\Qd ys H)\/(J.go i H /\
 ∃ Nx:List V->St->Hp->Prop,(∀ ys' σ' H',Nx ys' σ' H'->∃ m',m'<m/\W (i+1) m' ys' σ' H')/\∀ x H2,J.yld i H x H2 ->
 g x σ H2 λσ3 H3=>tif σ3 H3 λb H4=>if b=true then te σ3 H4 λy H5=>H5 acc=some (.lst ys)/\ys.length<sizeLine/\Nx (ys++[y]) σ3 (upd H5 acc (.lst (ys++[y]))) else Nx ys σ3 H4))
theorem TF                
  (T:Turn X.prog X.w X.K tg J fp it tn) (hc:X.calm=true) (l:∀ e s,¬ X.xe e s) (hg:PG X tg g) (a0:PIf X C M) (he:PE X B te)
  (D:iB J g M te a Qd W) (hR:∀ ys σ H s,Inv X [] σ H s->Qd ys H->R (.ok .next) s)
       (I:Inv X [] σ H s) (st:tn i s.heap) (hf:∀ b∈fp,FpOk X [] H b) (w:W i m ys σ H) :
  codeAny (model X.prog X.w) X.A (.compLoop (.ListComp B [⟨tg,iter,C,0⟩] sc pos) 0 (.ref it) (.ref a) X.env) R s:=by
 have h:∀{H':Hp},(∀ b∈fp,H' b=none)->∀ b∈fp,FpOk X [] H' b:=λhn b hb=>⟨hn b hb,(hf b hb).2⟩
 refine codeAny_loop rfl (λn s'=>∃ i ys f H',Inv X [] f H' s'/\tn i s'.heap/\(∀ b∈fp,H' b=none)/\W i n ys f H') ?_ m ⟨i,ys,σ,H,I,st,λb hb=>(hf b hb).1,w⟩;rintro n s1 ⟨i,ys,c,S,I1,F,L,w1⟩;show wpAny _ X.A ((compTurn (.ListComp B [⟨tg,iter,C,0⟩] sc pos) 0 (.ref it) (.ref a) X.env).onRaise (λx=>do noteFrame x X.env;theTreesLotGoes x)) _ _ s1;refine wpAny_noted ?_;rw[compTurn_list];refine C0 (wpAny_standAt (C0 ?_));obtain⟨a1,⟨stop,qd⟩|⟨go,Nx,N,step⟩⟩:=D i n ys c S w1
 ·refine thn (T.done X rfl rfl rfl hc i [] s1 c S _ I1 (h L) F stop) λr s2 ⟨hr,I2⟩=>?_;subst hr;exact N0 (hR ys c S s2 I2 qd)
 ·refine thn (T.item X rfl rfl rfl hc i [] s1 c S _ I1 (h L) F go) λr s2 ⟨u,hr,h2⟩=>?_;subst hr;refine C0 (thn h2 λ_ s3 ⟨x,H3,I3,r3,y3,v,Y⟩=>?_);have Z:=I3.pinned (h Y) (T.obj _ _ v);refine C0 (V3 (hg _ s3 c H3 x u _ Z r3 (step x H3 y3)) (λ_ s4 ⟨q,H4,I4,q4⟩=>?_) λe s' z=>(l e s' z).elim);have p:∀{j:St}{G:Hp}{O:Shared}{zs:List V},Inv X ([]++y8 fp s3.heap) j G O->(∃ P,P<n/\W (i+1) P zs j G)->∃ m,m<n/\∃ i ys f H',Inv X [] f H' O/\tn i O.heap/\(∀ b∈fp,H' b=none)/\W i m ys f H':=λ{j G O zs} E U=>by
   obtain⟨P,hm,U⟩:=U;refine⟨P,hm,i+1,zs,j,G,E.unpinned,T.keep _ _ _ v λb hb o e=>(E.pin (b,o) (Z2 _ (Z2 _ (L7 hb e)))).1,λb hb=>?_,U⟩;obtain⟨o,e,d⟩:=T.obj _ _ v b hb;exact(E.pin (b,o) (Z2 _ (Z2 _ (L7 hb e)))).2.1
  refine C0 (V3 (a0 _ s4 q H4 _ I4 q4) (λb s5 ⟨H5,I5,Q⟩=>?_) λe s' z=>(l e s' z).elim);cases b with
  | false =>
   rw[o0 X1] at Q;exact N0 ⟨rfl,p I5 (N _ _ _ Q)⟩
  | true =>
   rw[q0 rfl] at Q;refine C0 (C0 (V3 (he _ s5 q H5 _ I5 Q) (λyv s6 ⟨y,H6,I6,r6,a6,l6,w6⟩=>?_) λe s' z=>(l e s' z).elim));have ap:=L6 (X:=X) _ s6 q H6 (.ref a) [y] (.ref a) [yv] (λ_ H'=>H'=upd H6 a (.lst (ys++[y]))) I6 rfl (.cons r6 .nil) ⟨a,ys,y,rfl,rfl,a6,l6,rfl⟩;refine C0 (V3 ap (λ_ O ⟨v7,G,E,_,e7⟩=>?_) λe s' z=>(l e s' z).elim);subst e7;exact N0 (N0 ⟨rfl,p E (N _ _ _ w6)⟩)
def tLC(src:List (Option Nat))(wi:TI)(g:TG)(tif:TT)(te:TE):TE:=λσ H Q=>wi σ H λJ H1=>∀ acc,H1 acc=none->∃ W:LW,(∃ m,W 0 m [] (pick src σ) (upd H1 acc (.lst [])))/\iB J g tif te acc (λ_ H'=>Q (.ref acc) H') W
section
variable{X:Cx}{N:List Str}{tg iter elt:Expr}{ifs:List Expr}{sc:Scope}{src:List (Option Nat)}{wi:TI}{g:TG}{tif:TT}{te:TE}{pos:Pos}
theorem XL(Z:X.calm=true)(L:LcOk X N sc src)(R:∀ C s0 E ex,PG (X.comp N sc C s0 E ex) tg g)(M:∀ C s0 E ex,PIf (X.comp N sc C s0 E ex) ifs tif)(U:∀ C s0 E ex,PE (X.comp N sc C s0 E ex) elt te)
  {pins:List (Addr × Obj)} {d:Shared} {σ:St} {H3:Hp} {Q:VK} (h:Inv X pins σ H3 d) {it a:Addr} {fp:List Addr} {J:It} {tn:Nat->Heap->Prop} (T:Turn X.prog X.w X.K tg J fp it tn) (q:tn 0 d.heap) (i:∀ b∈fp,FpOk X pins H3 b)
  {W:LW} {m0:Nat} (w0:W 0 m0 [] (pick src σ) H3) (r:iB J g tif te a (λ_ H'=>Q (.ref a) H') W) (use:Option (Value->Sem Unit)) (P:Value->Shared->Prop)
  (hP:∀ C H' s' m,Inv X pins σ H' s'->Q (.ref a) H'->s'.heap.Ns C m->H' C=none->C ≠ X.env.locals->(C∈X.ex\/X.s₀.heap.objs.size<=C)->(∀ x c,X.env.cells.lookup x=some c->c ≠ C)->(∀ p∈X.pn++pins,p.1 ≠ C) ->
   compPost (model X.prog X.w) X.A X.xe use P (.ref a) C (.ok .next) s') :
  wpAny (model X.prog X.w) X.A (newFunctionEnv sc X.env.globals (clos X.env sc.names []) [] X.env.qual none .none (some X.env)) (λf u =>
    codeAny (model X.prog X.w) X.A (.compStart (.ListComp elt [⟨tg,iter,ifs,0⟩] sc pos) 0 (.ref it) (.ref a) { f with scope:=relabel sc X.env }) (compPost (model X.prog X.w) X.A X.xe use P (.ref a) f.locals) u) X.xe d:=by
 refine wpAny_newFunctionEnv L.nocell (by intro y S;simp at S) (λO n D=>?_) L.kind;have I:∀ b∈fp,b<d.heap.objs.size:=λb hb=>by
  obtain⟨o,G,_⟩:=T.obj _ _ q b hb;exact L0 G
 have l:∀ b o,d.heap.get? b=some o->O.get? b=some o:=λb o e=>D.extBut b o (O1 (L0 e)) (J1 _ e);have F:=YE (t':=d.toks+([]:List (Str × Value)).length) L h i I (by simpa using n) l;have B:tn 0 O:=T.keep _ _ _ q λb _ o e=>l b o e;have f4:∀ b∈fp,FpOk (X.comp N sc d.heap.objs.size d H3 fp) [] H3 b:=λb hb =>
  ⟨(i b hb).1,(F.ok.exf b hb).1,F.ok.exfs b hb,.inl hb,(F.ok.exf b hb).2,λp H=>absurd (show p∈([]:List (Addr × Obj)) from H) (by simp)⟩
 have fin:∀(ys:List V) s H' s',Inv (X.comp N sc d.heap.objs.size d H3 fp) [] s H' s'->Q (.ref a) H'->compPost (model X.prog X.w) X.A X.xe use P (.ref a) d.heap.objs.size (.ok .next) s':=λys s H' s' j q'=>by
  have Y:Inv X pins σ H' s':=h.call' (ch:=fp) j.os j.base j.hok j.bare λb hb=>⟨(i b hb).2.2.2.1,(i b hb).2.1,(i b hb).2.2.2.2.1,(i b hb).2.2.2.2.2⟩
  obtain⟨m,hn,_⟩:=j.loc;refine hP _ H' s' m Y q' hn j.free (Nat.ne_of_gt h.lt) (.inr h.sz) (λx c e z=>?_) λp H z=>?_
  ·obtain⟨v,o,G,_⟩:=h.cell x c e;exact absurd (L0 G) (by rw[z];exact t4 _)
  ·exact absurd (L0 (h.pin p H).1) (by rw[z];exact t4 _)
 have loop:codeAny (model X.prog X.w) X.A (.compLoop (.ListComp elt [⟨tg,iter,ifs,0⟩] sc pos) 0 (.ref it) (.ref a) (X.comp N sc d.heap.objs.size d H3 fp).env)
   (compPost (model X.prog X.w) X.A X.xe use P (.ref a) d.heap.objs.size) { d with heap:=O,toks:=d.toks+([]:List (Str × Value)).length } :=
  TF (X:=X.comp N sc d.heap.objs.size d H3 fp) T Z (λ_ _ z=>z) (R _ _ _ _) (M _ _ _ _) (U _ _ _ _) r fin F B f4 w0
 exact codeAny_compStart_list loop (T.self _ 0 _ _ _ B loop)
theorem dI(F:X.calm=true)(L:LcOk X N sc src)(hi:PI X tg iter wi)(y:∀ C s0 f ex,PG (X.comp N sc C s0 f ex) tg g)(n:∀ C s0 f ex,PIf (X.comp N sc C s0 f ex) ifs tif)(E:∀ C s0 f ex,PE (X.comp N sc C s0 f ex) elt te)
       (I:Inv X pins σ H s) (h:tLC src wi g tif te σ H Q) (use:Option (Value->Sem Unit)) (P:Value->Shared->Prop)
  (M:∀ j C H' s' m,Inv X pins σ H' s'->Q (.ref j) H'->s'.heap.Ns C m->H' C=none->C ≠ X.env.locals->(C∈X.ex\/X.s₀.heap.objs.size<=C)->(∀ x c,X.env.cells.lookup x=some c->c ≠ C)->(∀ p∈X.pn++pins,p.1 ≠ C) ->
   compPost (model X.prog X.w) X.A X.xe use P (.ref j) C (.ok .next) s')
  (hs:∀ x,foldedSetIterable iter X.env x=pure x) :
  wpAny (model X.prog X.w) X.A (comprehension (.ListComp elt [⟨tg,iter,ifs,0⟩] sc pos) sc X.env (firstIterPos [⟨tg,iter,ifs,0⟩] pos) (newList []) false (eval iter X.env) use) P X.xe s:=by
 refine wpAny_comprehension_free rfl hs (L.clo I.ok) L.kind L.own (thn (hi pins s σ H _ I h) λv s1 G=>thn G λB s2 z=>?_);obtain⟨it,fp,tn,J,H2,e,r,T,a,q,O⟩:=z;subst e;have i:H2 s2.heap.objs.size=none:=r.hok.fresh (M0 _);obtain⟨W,⟨R,K⟩,d⟩:=O s2.heap.objs.size i;have l:∀ b∈fp,b<s2.heap.objs.size:=λb hb=>by
  obtain⟨o,D,_⟩:=T.obj _ _ a b hb;exact L0 D
 refine O7 ?_;refine XL F L y n E (H3:=upd H2 s2.heap.objs.size (.lst [])) ?_ T ?_ ?_ K d use P (M _)
 ·exact r.laid (t':=s2.toks) (λb u e=>J1 _ e) (M0 _) ⟨O3 _,[],0,.nil,D2 _ rfl⟩
 ·exact T.keep _ _ _ a λb _ o e=>J1 _ e
 ·exact λb hb=>⟨by rw[J0 (O1 (l b hb))];exact(q b hb).1,(q b hb).2⟩
theorem Q4(l:X.calm=true)(L:LcOk X N sc src)(hi:PI X tg iter wi)(i:∀ C s0 a ex,PG (X.comp N sc C s0 a ex) tg g)(d:∀ C s0 a ex,PIf (X.comp N sc C s0 a ex) ifs tif)(j:∀ C s0 a ex,PE (X.comp N sc C s0 a ex) elt te)
  (hs:∀ x,foldedSetIterable iter X.env x=pure x:=by intro _;rfl):PE X (.ListComp elt [⟨tg,iter,ifs,0⟩] sc pos) (tLC src wi g tif te):=by
 intro pins s σ H Q I h;rw[eval_ListComp];refine dI l L hi i d j I h none _ (λf C H' s' m J q hn u n p c r=>?_) hs;refine⟨m,hn,λh' sb=>⟨.ref f,H',?_,rfl,q⟩⟩;exact J.turned (t':=s'.toks) (λb o hb e=>sb.extBut b o hb e) u n p c r
end
section
variable{X:Cx}{N:List Str}{tg iter elt:Expr}{ifs:List Expr}{sc:Scope}{src:List (Option Nat)}{wi:TI}{g:TG}{tif:TT}{te:TE}{pos spos px:Pos}
theorem P9(B:X.N.Nodup)(j:X.N[i]?=some x)(K:Loc X.env.scope x)(F:X.calm=true)(L:LcOk X N sc src)(hi:PI X tg iter wi)(y:∀ C s0 d ex,PG (X.comp N sc C s0 d ex) tg g)
  (l:∀ C s0 d ex,PIf (X.comp N sc C s0 d ex) ifs tif) (E:∀ C s0 d ex,PE (X.comp N sc C s0 d ex) elt te)
  (u:swapsWith (.ListComp elt [⟨tg,iter,ifs,0⟩] sc pos) (some (.Name x px)) spos.line X.env=pure true:=by rfl)
  (hf:X.fn x=true\/X.env.scope.names.lookup x=some .local:=by first|exact .inl rfl|exact .inr rfl|assumption)
  (hs:∀ x,foldedSetIterable iter X.env x=pure x:=by intro _;rfl):PS X (.Assign [.Name x px] (.ListComp elt [⟨tg,iter,ifs,0⟩] sc pos) spos) (tAsg (tLC src wi g tif te) (N2 i)):=by
 intro pins s σ H D I h;rw[exec_Assign_Name_used _ _ _ _ u];refine C0 (wpAny_standAt (C0 ?_));show wpAny _ X.A (do let _ ← comprehension (.ListComp elt [⟨tg,iter,ifs,0⟩] sc pos) sc X.env _ (newList []) false (eval iter X.env) (some (assign (.Name x px) X.env))) _ _ s;refine C0 (V3 (dI F L hi y l E I h (some (assign (.Name x px) X.env)) (λ_ s'=>SP X pins D .next s') (λf C H' s' m J q hn P w p c M=>?_) hs) (λ_ s' G=>N0 (N0 G)) λ_ _ e=>e);show wpAny _ X.A (assign (.Name x px) X.env (.ref f)) _ _ _;refine wpAny_assign_Name (WD J B j K (v:=.ref f) rfl (λs2 O ⟨a,sb,ha⟩=>?_) hf);have r:C ≠ a:=by
  rcases ha with z|z
  ·rw[z];exact w
  ·exact(c x a z).symm
 refine⟨m,hn.sameBut sb r,λh' n=>⟨_,H',?_,q⟩⟩;exact O.turned (t':=s2.toks) (λb o hb e=>n.extBut b o hb e) P w p c M
end
section
variable{g:TG}{tif:TT}{te:TE}{acc:Addr}{Qd:List V->Hp->Prop}{σ0:St}{H0:Hp}
end
def CH(J:It)(g:TG)(tif:TT)(te:TE)(acc:Addr)(Qd:List V->St->Hp->Prop)(W:LW):Prop:=∀(i m:Nat)(ys:List V)(σ:St)(H:Hp),W i m ys σ H->H acc=some (.lst ys)/\((J.stop i H/\Qd ys σ H)\/(J.go i H /\
 ∃ Nx:List V->St->Hp->Prop,(∀ ys' σ' H',Nx ys' σ' H'->∃ m',m'<m/\W (i+1) m' ys' σ' H')/\∀ x H2,J.yld i H x H2 ->
 g x σ H2 λσ3 H3=>tif σ3 H3 λb H4=>if b=true then te σ3 H4 λy H5=>H5 acc=some (.lst ys)/\ys.length<sizeLine/\Nx (ys++[y]) σ3 (upd H5 acc (.lst (ys++[y]))) else Nx ys σ3 H4))
def FE(J:It)(g:TG)(tif:TT)(wi2:TI)(g2:TG)(tif2:TT)(te:TE)(acc:Addr)(Qd:List V->Hp->Prop)(W:LW):Prop:=∀(i m:Nat)(ys:List V)(σ:St)(H:Hp),W i m ys σ H->((J.stop i H/\Qd ys H)\/(J.go i H /\
 ∃ Nx:List V->St->Hp->Prop,(∀ ys' σ' H',Nx ys' σ' H'->∃ m',m'<m/\W (i+1) m' ys' σ' H')/\∀ x H2,J.yld i H x H2 ->
 g x σ H2 λσ3 H3=>tif σ3 H3 λb H4=>if b=true then wi2 σ3 H4 λJ2 H5=>∃ W2:LW,(∃ m2,W2 0 m2 ys σ3 H5)/\CH J2 g2 tif2 te acc Nx W2 else Nx ys σ3 H4))
theorem JT(a t1 i1 g d:Expr)(f1 f:List Expr)(sc:Scope)(pos:Pos)(it b:Value)(env:Env) :
  compTurn (.ListComp a [⟨t1,i1,f1,0⟩,⟨g,d,f,0⟩] sc pos) 0 it b env=(do
   standAt i1.pos
   match ← pyNext it with
   |none=>pure (.done .next)
   | some v =>
    letOwnedTupleGo t1 it v
    assign t1 env v
    let mut ok:=true
    for c in f1 do
     if ok then ok ← isTrue c env (eval c env)
    if ok then
     let x ← eval d env
     standAt d.pos
     let x ← foldedSetIterable d env x;let _ ← runOwn (.compStart (.ListComp a [⟨t1,i1,f1,0⟩,⟨g,d,f,0⟩] sc pos) 1 (← holding [x] (pyIter x)) b env) env
    again (.compLoop (.ListComp a [⟨t1,i1,f1,0⟩,⟨g,d,f,0⟩] sc pos) 0 it b env)):=by rfl
theorem JQ(a t1 i1 d g:Expr)(f1 f:List Expr)(sc:Scope)(pos:Pos)(it b:Value)(env:Env) :
  compTurn (.ListComp a [⟨t1,i1,f1,0⟩,⟨d,g,f,0⟩] sc pos) 1 it b env=(do
   standAt g.pos
   match ← pyNext it with
   |none=>pure (.done .next)
   | some v =>
    letOwnedTupleGo d it v
    assign d env v
    let mut ok:=true
    for c in f do
     if ok then ok ← isTrue c env (eval c env)
    if ok then
     (do let _ ← call (.builtin "list.append") [b,← eval a env])
    again (.compLoop (.ListComp a [⟨t1,i1,f1,0⟩,⟨d,g,f,0⟩] sc pos) 1 it b env)):=by rfl
theorem KJ           
  (j:codeAny (model prog w) A (.compLoop (.ListComp b [⟨t1,i1,f1,0⟩,⟨g,d,i,0⟩] sc pos) 1 it c env) R s)
  (h:wpAny (model prog w) A (pyIter it) (λa s'=>codeAny (model prog w) A (.compLoop (.ListComp b [⟨t1,i1,f1,0⟩,⟨g,d,i,0⟩] sc pos) 1 a c env) R s') (notedBy (model prog w) A env λx s'=>R (.error x) s') s) :
  codeAny (model prog w) A (.compStart (.ListComp b [⟨t1,i1,f1,0⟩,⟨g,d,i,0⟩] sc pos) 1 it c env) R s:=by
 refine codeAny_of_tree ?_;show wpAny _ _ ((compStart (.ListComp b [⟨t1,i1,f1,0⟩,⟨g,d,i,0⟩] sc pos) 1 it c env).onRaise (λx=>do noteFrame x env;standAt theWindowsPlace)) _ _ s;refine wpAny_notedAt ?_;unfold compStart;show wpAny _ _ (ask >>= _) _ _ s;apply C0;apply wpAny_askSetting;apply wpAny_ite;split
 ·first|exact C0 (N0 (N0 ⟨rfl,j⟩))|exact N0 ⟨rfl,j⟩
 ·have q:wpAny (model prog w) A (pyIter it >>= λa=>again (.compLoop (.ListComp b [⟨t1,i1,f1,0⟩,⟨g,d,i,0⟩] sc pos) 1 a c env)) (λfin s'=>match fin with | .done f=>R (.ok f) s' | .again c'=>c'.quiet=true/\codeAny (model prog w) A c' R s') (notedBy (model prog w) A env λx s'=>R (.error x) s') s :=
   C0 (V3 h (λa s' h'=>N0 ⟨rfl,h'⟩) λ_ _ x=>x)
  first
   |exact C0 (wpAny_rule (C0 (wpAny_standAt (C0 (V3 h (λa s' h'=>N0 ⟨rfl,h'⟩) λ_ _ x=>x)))))
   |(apply C0;apply wpAny_rule;show wpAny _ _ (standAt d.pos >>= _) _ _ s;exact C0 (wpAny_standAt (C0 (V3 h (λa s' h'=>N0 ⟨rfl,h'⟩) λ_ _ x=>x))))
theorem xU                 
  (T:Turn X.prog X.w X.K tg J fp it tn) (hc:X.calm=true) (l:∀ e s,¬ X.xe e s) (hg:PG X tg g) (a0:PIf X C M) (he:PE X B te)
  (D:CH J g M te a Qd W) (hR:∀ ys σ H s,Inv X pins σ H s->Qd ys σ H->R (.ok .next) s)
       (I:Inv X pins σ H s) (st:tn i s.heap) (hf:∀ b∈fp,FpOk X pins H b) (w:W i m ys σ H) :
  codeAny (model X.prog X.w) X.A (.compLoop (.ListComp B [⟨t1,i1,f1,0⟩,⟨tg,iter,C,0⟩] sc pos) 1 (.ref it) (.ref a) X.env) R s:=by
 have h:∀{H':Hp},(∀ b∈fp,H' b=none)->∀ b∈fp,FpOk X pins H' b:=λhn b hb=>⟨hn b hb,(hf b hb).2⟩
 refine codeAny_loop rfl (λn s'=>∃ i ys f H',Inv X pins f H' s'/\tn i s'.heap/\(∀ b∈fp,H' b=none)/\W i n ys f H') ?_ m ⟨i,ys,σ,H,I,st,λb hb=>(hf b hb).1,w⟩;rintro n s1 ⟨i,ys,c,S,I1,F,L,w1⟩;show wpAny _ X.A ((compTurn (.ListComp B [⟨t1,i1,f1,0⟩,⟨tg,iter,C,0⟩] sc pos) 1 (.ref it) (.ref a) X.env).onRaise (λx=>do noteFrame x X.env;theTreesLotGoes x)) _ _ s1;refine wpAny_noted ?_;rw[JQ];refine C0 (wpAny_standAt (C0 ?_));obtain⟨a1,⟨stop,qd⟩|⟨go,Nx,N,step⟩⟩:=D i n ys c S w1
 ·refine thn (T.done X rfl rfl rfl hc i pins s1 c S _ I1 (h L) F stop) λr s2 ⟨hr,I2⟩=>?_;subst hr;exact N0 (hR ys c S s2 I2 qd)
 ·refine thn (T.item X rfl rfl rfl hc i pins s1 c S _ I1 (h L) F go) λr s2 ⟨u,hr,h2⟩=>?_;subst hr;refine C0 (thn h2 λ_ s3 ⟨x,H3,I3,r3,y3,v,Y⟩=>?_);have Z:=I3.pinned (h Y) (T.obj _ _ v);refine C0 (V3 (hg _ s3 c H3 x u _ Z r3 (step x H3 y3)) (λ_ s4 ⟨q,H4,I4,q4⟩=>?_) λe s' z=>(l e s' z).elim);have p:∀{j:St}{G:Hp}{O:Shared}{zs:List V},Inv X (pins++y8 fp s3.heap) j G O->(∃ P,P<n/\W (i+1) P zs j G)->∃ m,m<n/\∃ i ys f H',Inv X pins f H' O/\tn i O.heap/\(∀ b∈fp,H' b=none)/\W i m ys f H':=λ{j G O zs} E U=>by
   obtain⟨P,hm,U⟩:=U;refine⟨P,hm,i+1,zs,j,G,E.unpinned,T.keep _ _ _ v λb hb o e=>(E.pin (b,o) (Z2 _ (Z2 _ (L7 hb e)))).1,λb hb=>?_,U⟩;obtain⟨o,e,d⟩:=T.obj _ _ v b hb;exact(E.pin (b,o) (Z2 _ (Z2 _ (L7 hb e)))).2.1
  refine C0 (V3 (a0 _ s4 q H4 _ I4 q4) (λb s5 ⟨H5,I5,Q⟩=>?_) λe s' z=>(l e s' z).elim);cases b with
  | false =>
   rw[o0 X1] at Q;exact N0 ⟨rfl,p I5 (N _ _ _ Q)⟩
  | true =>
   rw[q0 rfl] at Q;refine C0 (C0 (V3 (he _ s5 q H5 _ I5 Q) (λyv s6 ⟨y,H6,I6,r6,a6,l6,w6⟩=>?_) λe s' z=>(l e s' z).elim));have ap:=L6 (X:=X) _ s6 q H6 (.ref a) [y] (.ref a) [yv] (λ_ H'=>H'=upd H6 a (.lst (ys++[y]))) I6 rfl (.cons r6 .nil) ⟨a,ys,y,rfl,rfl,a6,l6,rfl⟩;refine C0 (V3 ap (λ_ O ⟨v7,G,E,_,e7⟩=>?_) λe s' z=>(l e s' z).elim);subst e7;exact N0 (N0 ⟨rfl,p E (N _ _ _ w6)⟩)
theorem qR                   
  (T:Turn X.prog X.w X.K t1 J fp it tn) (hc:X.calm=true) (l:∀ e s,¬ X.xe e s) (hg:PG X t1 g) (a3:PIf X f1 U) (a2:PI X t2 L F) (a4:PG X t2 g2) (Q:PIf X f2 v) (he:PE X C te)
  (a6:∀ x,foldedSetIterable L X.env x=pure x)
  (G:FE J g U F g2 v te B Qd W) (hR:∀ ys σ H s,Inv X [] σ H s->Qd ys H->R (.ok .next) s)
       (I:Inv X [] σ H s) (st:tn i s.heap) (hf:∀ b∈fp,FpOk X [] H b) (w:W i m ys σ H) :
  codeAny (model X.prog X.w) X.A (.compLoop (.ListComp C [⟨t1,i1,f1,0⟩,⟨t2,L,f2,0⟩] sc pos) 0 (.ref it) (.ref B) X.env) R s:=by
 have j:∀{H':Hp},(∀ b∈fp,H' b=none)->∀ b∈fp,FpOk X [] H' b:=λhn b hb=>⟨hn b hb,(hf b hb).2⟩
 refine codeAny_loop rfl (λn s'=>∃ i ys a H',Inv X [] a H' s'/\tn i s'.heap/\(∀ b∈fp,H' b=none)/\W i n ys a H') ?_ m ⟨i,ys,σ,H,I,st,λb hb=>(hf b hb).1,w⟩;rintro n s1 ⟨i,ys,c,H1,I1,N,P,w1⟩;show wpAny _ X.A ((compTurn (.ListComp C [⟨t1,i1,f1,0⟩,⟨t2,L,f2,0⟩] sc pos) 0 (.ref it) (.ref B) X.env).onRaise (λx=>do noteFrame x X.env;theTreesLotGoes x)) _ _ s1;refine wpAny_noted ?_;rw[JT];refine C0 (wpAny_standAt (C0 ?_));obtain⟨stop,qd⟩|⟨go,Nx,Y,step⟩:=G i n ys c H1 w1
 ·refine thn (T.done X rfl rfl rfl hc i [] s1 c H1 _ I1 (j P) N stop) λr s2 ⟨hr,I2⟩=>?_;subst hr;exact N0 (hR ys c H1 s2 I2 qd)
 ·refine thn (T.item X rfl rfl rfl hc i [] s1 c H1 _ I1 (j P) N go) λr s2 ⟨u,hr,h2⟩=>?_;subst hr;refine C0 (thn h2 λ_ s3 ⟨x,H3,I3,r3,y3,y,a0⟩=>?_);have a1:=I3.pinned (j a0) (T.obj _ _ y);refine C0 (V3 (hg _ s3 c H3 x u _ a1 r3 (step x H3 y3)) (λ_ s4 ⟨E,H4,I4,q4⟩=>?_) λe s' z=>(l e s' z).elim);have q:∀{p:St}{O:Hp}{Z:Shared}{zs:List V},Inv X ([]++y8 fp s3.heap) p O Z->(∃ m',m'<n/\W (i+1) m' zs p O)->∃ m,m<n/\∃ i ys a H',Inv X [] a H' Z/\tn i Z.heap/\(∀ b∈fp,H' b=none)/\W i m ys a H':=λ{p O Z zs} M w7=>by
   obtain⟨m',hm,w7⟩:=w7;refine⟨m',hm,i+1,zs,p,O,M.unpinned,T.keep _ _ _ y λb hb o e=>(M.pin (b,o) (Z2 _ (Z2 _ (L7 hb e)))).1,λb hb=>?_,w7⟩;obtain⟨o,e,d⟩:=T.obj _ _ y b hb;exact(M.pin (b,o) (Z2 _ (Z2 _ (L7 hb e)))).2.1
  refine C0 (V3 (a3 _ s4 E H4 _ I4 q4) (λb s5 ⟨H5,I5,q5⟩=>?_) λe s' z=>(l e s' z).elim);cases b with
  | false =>
   rw[o0 X1] at q5;exact N0 ⟨rfl,q I5 (Y _ _ _ q5)⟩
  | true =>
   rw[q0 rfl] at q5;refine C0 (V3 (a2 _ s5 E H5 _ I5 q5) (λxv s6 h6=>?_) λe s' z=>(l e s' z).elim);refine C0 (wpAny_standAt (C0 ?_));rw[a6 xv];refine N0 (C0 (w5 (V3 h6 (λa9 Z h7=>?_) λe s' z=>(l e s' z).elim)));obtain⟨b0,a8,a7,J2,O,e,M,T2,S,a5,W2,⟨m2,w2⟩,D⟩:=h7;subst e;refine C0 (wpAny_runOwn ?_);have loop:=xU (R:=λr s'=>match r with | .ok f=>(∃ m,m<n/\∃ i ys a H',Inv X [] a H' s'/\tn i s'.heap/\(∀ b∈fp,H' b=none)/\W i m ys a H') | .error e=>False) (t1:=t1) (i1:=i1) (f1:=f1) (iter:=L) (sc:=sc) (pos:=pos) T2 hc l a4 Q he D (λb1 b2 H8 s8 I8 q8=>q I8 (Y _ _ _ q8)) M S a5 w2;have st:=KJ loop (T2.self _ 0 _ _ _ S loop);refine codeAny_mono st λr s' h=>?_;cases r with
   |error e=>exact h.elim
   |ok f=>exact N0 ⟨rfl,h⟩
def tLC2(src:List (Option Nat))(wi:TI)(g:TG)(tif:TT)(wi2:TI)(g2:TG)(tif2:TT)(te:TE):TE:=λσ H Q=>wi σ H λJ H1=>∀ acc,H1 acc=none->∃ W:LW,(∃ m,W 0 m [] (pick src σ) (upd H1 acc (.lst [])))/\FE J g tif wi2 g2 tif2 te acc (λ_ H'=>Q (.ref acc) H') W
section
variable{X:Cx}{N:List Str}{t1 i1 t2 i2 elt:Expr}{f1 f2:List Expr}{sc:Scope}{src:List (Option Nat)}{wi wi2:TI}{g g2:TG}{tif tif2:TT}{te:TE}{pos:Pos}
theorem pF(hc:X.calm=true)(L:LcOk X N sc src)(Z:∀ C s0 f ex,PG (X.comp N sc C s0 f ex) t1 g)(O:∀ C s0 f ex,PIf (X.comp N sc C s0 f ex) f1 tif)(M:∀ C s0 f ex,PI (X.comp N sc C s0 f ex) t2 i2 wi2)(S:∀ C s0 f ex,PG (X.comp N sc C s0 f ex) t2 g2)(u:∀ C s0 f ex,PIf (X.comp N sc C s0 f ex) f2 tif2)(he:∀ C s0 f ex,PE (X.comp N sc C s0 f ex) elt te)
  (Y:∀ C s0 f ex x,foldedSetIterable i2 (X.comp N sc C s0 f ex).env x=pure x)
  {pins:List (Addr × Obj)} {d:Shared} {σ:St} {H3:Hp} {Q:VK} (i:Inv X pins σ H3 d) {it a:Addr} {fp:List Addr} {J:It} {tn:Nat->Heap->Prop} (T:Turn X.prog X.w X.K t1 J fp it tn) (B:tn 0 d.heap) (j:∀ b∈fp,FpOk X pins H3 b)
  {W:LW} {m0:Nat} (w0:W 0 m0 [] (pick src σ) H3) (D:FE J g tif wi2 g2 tif2 te a (λ_ H'=>Q (.ref a) H') W) (use:Option (Value->Sem Unit)) (P:Value->Shared->Prop)
  (hP:∀ C H' s' m,Inv X pins σ H' s'->Q (.ref a) H'->s'.heap.Ns C m->H' C=none->C ≠ X.env.locals->(C∈X.ex\/X.s₀.heap.objs.size<=C)->(∀ x c,X.env.cells.lookup x=some c->c ≠ C)->(∀ p∈X.pn++pins,p.1 ≠ C) ->
   compPost (model X.prog X.w) X.A X.xe use P (.ref a) C (.ok .next) s') :
  wpAny (model X.prog X.w) X.A (newFunctionEnv sc X.env.globals (clos X.env sc.names []) [] X.env.qual none .none (some X.env)) (λh F =>
    codeAny (model X.prog X.w) X.A (.compStart (.ListComp elt [⟨t1,i1,f1,0⟩,⟨t2,i2,f2,0⟩] sc pos) 0 (.ref it) (.ref a) { h with scope:=relabel sc X.env }) (compPost (model X.prog X.w) X.A X.xe use P (.ref a) h.locals) F) X.xe d:=by
 refine wpAny_newFunctionEnv L.nocell (by intro y hy;simp at hy) (λR q s=>?_) L.kind;have I:∀ b∈fp,b<d.heap.objs.size:=λb hb=>by
  obtain⟨o,U,_⟩:=T.obj _ _ B b hb;exact L0 U
 have n:∀ b o,d.heap.get? b=some o->R.get? b=some o:=λb o e=>s.extBut b o (O1 (L0 e)) (J1 _ e);have G:=YE (t':=d.toks+([]:List (Str × Value)).length) L i j I (by simpa using q) n;have r:tn 0 R:=T.keep _ _ _ B λb _ o e=>n b o e;have f4:∀ b∈fp,FpOk (X.comp N sc d.heap.objs.size d H3 fp) [] H3 b:=λb hb =>
  ⟨(j b hb).1,(G.ok.exf b hb).1,G.ok.exfs b hb,.inl hb,(G.ok.exf b hb).2,λp H=>absurd (show p∈([]:List (Addr × Obj)) from H) (by simp)⟩
 have fin:∀(ys:List V) E H' s',Inv (X.comp N sc d.heap.objs.size d H3 fp) [] E H' s'->Q (.ref a) H'->compPost (model X.prog X.w) X.A X.xe use P (.ref a) d.heap.objs.size (.ok .next) s':=λys E H' s' l q'=>by
  have Jo:Inv X pins σ H' s':=i.call' (ch:=fp) l.os l.base l.hok l.bare λb hb=>⟨(j b hb).2.2.2.1,(j b hb).2.1,(j b hb).2.2.2.2.1,(j b hb).2.2.2.2.2⟩
  obtain⟨m,hn,_⟩:=l.loc;refine hP _ H' s' m Jo q' hn l.free (Nat.ne_of_gt i.lt) (.inr i.sz) (λx c e z=>?_) λp H z=>?_
  ·obtain⟨v,o,U,_⟩:=i.cell x c e;exact absurd (L0 U) (by rw[z];exact t4 _)
  ·exact absurd (L0 (i.pin p H).1) (by rw[z];exact t4 _)
 have loop:codeAny (model X.prog X.w) X.A (.compLoop (.ListComp elt [⟨t1,i1,f1,0⟩,⟨t2,i2,f2,0⟩] sc pos) 0 (.ref it) (.ref a) (X.comp N sc d.heap.objs.size d H3 fp).env)
   (compPost (model X.prog X.w) X.A X.xe use P (.ref a) d.heap.objs.size) { d with heap:=R,toks:=d.toks+([]:List (Str × Value)).length } :=
  qR (X:=X.comp N sc d.heap.objs.size d H3 fp) T hc (λ_ _ z=>z) (Z _ _ _ _) (O _ _ _ _) (M _ _ _ _) (S _ _ _ _) (u _ _ _ _) (he _ _ _ _) (Y _ _ _ _) D fin G r f4 w0
 exact codeAny_compStart_list loop (T.self _ 0 _ _ _ r loop)
theorem pE(G:X.calm=true)(L:LcOk X N sc src)(hi:PI X t1 i1 wi)(A:∀ C s0 a ex,PG (X.comp N sc C s0 a ex) t1 g)(w:∀ C s0 a ex,PIf (X.comp N sc C s0 a ex) f1 tif)(r:∀ C s0 a ex,PI (X.comp N sc C s0 a ex) t2 i2 wi2)(y:∀ C s0 a ex,PG (X.comp N sc C s0 a ex) t2 g2)(c:∀ C s0 a ex,PIf (X.comp N sc C s0 a ex) f2 tif2)(F:∀ C s0 a ex,PE (X.comp N sc C s0 a ex) elt te)
  (hs:∀ x,foldedSetIterable i1 X.env x=pure x:=by intro _;rfl) (n:∀ C s0 a ex x,foldedSetIterable i2 (X.comp N sc C s0 a ex).env x=pure x:=by intros;rfl):PE X (.ListComp elt [⟨t1,i1,f1,0⟩,⟨t2,i2,f2,0⟩] sc pos) (tLC2 src wi g tif wi2 g2 tif2 te):=by
 intro pins s σ H Q I h;rw[eval_ListComp];refine wpAny_comprehension_free rfl hs (L.clo I.ok) L.kind L.own (thn (hi pins s σ H _ I h) λv s1 P=>thn P λD s2 B=>?_);obtain⟨it,fp,tn,J,H2,e,z,T,d,f,U⟩:=B;subst e;have j:H2 s2.heap.objs.size=none:=z.hok.fresh (M0 _);obtain⟨W,⟨Y,S⟩,i⟩:=U s2.heap.objs.size j;have p:∀ b∈fp,b<s2.heap.objs.size:=λb hb=>by
  obtain⟨o,E,_⟩:=T.obj _ _ d b hb;exact L0 E
 refine O7 ?_;refine pF (pins:=pins) G L A w r y c F n (H3:=upd H2 s2.heap.objs.size (.lst [])) ?_ T ?_ ?_ S i none _ ?_
 ·exact z.laid (t':=s2.toks) (λb u e=>J1 _ e) (M0 _) ⟨O3 _,[],0,.nil,D2 _ rfl⟩
 ·exact T.keep _ _ _ d λb _ o e=>J1 _ e
 ·exact λb hb=>⟨by rw[J0 (O1 (p b hb))];exact(f b hb).1,(f b hb).2⟩
 ·intro C H' s' m J q hn R O K l M;refine⟨m,hn,λh' sb=>⟨.ref s2.heap.objs.size,H',?_,rfl,q⟩⟩;exact J.turned (t':=s'.toks) (λb o hb e=>sb.extBut b o hb e) R O K l M
end
theorem BI{env:Env}{x x0:Str}:∀{names:List (Str × NameKind)},(∀ y∈names,y.2=.cell->y.1=x0) ->
  ((names.map λ(n,k)=>if (k == NameKind.free && env.scope.kind == .function && env.kindOf n == some .cell) then (n,NameKind.cell) else (n,k)).lookup x=some .cell ∨
   (names.map λ(n,k)=>if (k == NameKind.free && env.scope.kind == .function && env.kindOf n == some .cell) then (n,NameKind.cell) else (n,k)).lookup x=some .free)->x=x0\/names.lookup x=some .free
 |[],_,h=>by rcases h with h|h <;> simp at h
 | (n,k)::r,hc,h=>by
  have a:=@BI env x x0 r λy b=>hc y (S2 _ b);rw[J3];simp only[M2] at h;by_cases hq:(k == NameKind.free && env.scope.kind == .function && env.kindOf n == some .cell)=true
  ·rw[q0 hq] at h;have c:k=NameKind.free:=by
    have:=hq;simp only[E5] at this;simpa using this.1.1
   subst c;cases hx:(x == n) with
   |true=>exact .inr rfl
   |false=>simp only[J3,hx] at h;exact a h
  ·rw[o0 hq] at h;cases hx:(x == n) with
   | true =>
    simp only[J3,hx] at h;rcases h with h|h
    ·cases h;exact .inl ((S1.mp hx).trans (hc (n,NameKind.cell) o3 rfl))
    ·exact .inr h
   |false=>simp only[J3,hx] at h;exact a h
def Cx.compC(X:Cx)(N:List Str)(sc:Scope)(x0:Str)(C:Addr)(s0:Shared)(H0:Hp)(ex:List Addr):Cx where
 prog:=X.prog
 w:=X.w
 K:=X.K
 mg:=X.mg
 base:=X.base
 A:=X.A
 N:=N
 s₀:=s0
 H₀:=H0
 env:=compEnvC sc ((x0,C+1)::clos X.env sc.names []) C X.env
 outer:=X.stack
 stack:=X.stack
 ex:=ex
 fn:=λx=>x == x0
 calm:=X.calm
 pn:=[]
 xe:=λ_ _=>False
structure LcOkC(X:Cx)(N:List Str)(sc:Scope)(src:List (Option Nat))(x0:Str):Prop where
 kind:sc.kind=.function
 cells:∀ a cl,cellsFrom a sc.names cl=(x0,a)::cl
 push:∀ h,pushCells h sc.names=h.push { cls:=.type "cell",data:=.cell none }
 only:∀ y∈sc.names,y.2=.cell->y.1=x0
 own:∀ y∈sc.names,y.2=.local->sc.names.lookup y.1=some .local
 outs:∀ y∈sc.names,y.2=.free->X.env.kindOf y.1=some .cell\/X.env.kindOf y.1=some .free
 nof:∀ y∈sc.names,y.2=.free->y.1 ≠ x0
 len:src.length=N.length
 from':∀(i j:Nat),src[i]?=some (some j)->∃ x,N[i]?=some x/\X.N[j]?=some x/\sc.names.lookup x=some .free
theorem LcOkC.clo(L:LcOkC X N sc src x0)(ok:X.Ok):closureFor sc X.env=pure (clos X.env sc.names []) :=
 eG λn hn=>ok.has n (L.outs (n,.free) hn rfl)
theorem LQ            
  (L:LcOkC X N sc src x0) (I:Inv X pins σ H s) (hf:∀ b∈fp,FpOk X pins H b) (g:∀ b∈fp,b<s.heap.objs.size)
  (hn:B.Ns s.heap.objs.size λ_=>none) (C:∀ b o,s.heap.get? b=some o->B.get? b=some o) (E:B.IsCell (s.heap.objs.size+1) none) :
  Inv (X.compC N sc x0 s.heap.objs.size s H fp) [] (pick src σ) H { s with heap:=B,toks:=t' }:=by
 have d:∀{x c},(clos X.env sc.names []).lookup x=some c->X.env.cells.lookup x=some c:=λ{x c} e=>by
  rcases uA e with z|z
  ·exact z
  ·simp at z
 have look:∀{x c},(((x0,s.heap.objs.size+1)::clos X.env sc.names []:List (Str × Addr))).lookup x=some c->(x=x0/\c=s.heap.objs.size+1)\/(X.env.cells.lookup x=some c/\(clos X.env sc.names []).lookup x=some c/\x ≠ x0):=λ{x c} e=>by
  rw[J3] at e;cases f:(x == x0) with
  |true=>rw[f] at e;cases e;exact .inl ⟨S1.mp f,rfl⟩
  |false=>rw[f] at e;exact .inr ⟨d e,e,λz=>by rw[z] at f;simp at f⟩
 have old:∀{x c},X.env.cells.lookup x=some c->c<s.heap.objs.size:=λ{x c} e=>by
  obtain⟨v,o,g,_⟩:=I.cell x c e;exact L0 g
 have n:∀{x c},x ≠ x0->(clos X.env sc.names []).lookup x=some c->(((x0,s.heap.objs.size+1)::clos X.env sc.names []:List (Str × Addr))).lookup x=some c:=λ{x c} f e=>by
  rw[J3,show(x == x0)=false by simpa using f];exact e
 refine⟨⟨I.ok.mod,L.kind,I.ok.glob,I.ok.blt,M0 _,λx y c J e2=>?_,λx f=>?_,λx c z e=>?_,I.ok.hd,I.ok.frames,.inl rfl,λb hb=>⟨?_,λx c e=>?_⟩,I.bs,W1 I.ok.bsz I.sz,λb o e hb=>?_,λb hb z=>?_,I.stack,I.stkFree,I.tab⟩,
  rfl,I.bare,Un.kept C,⟨_,hn,λi x v J e2 Z=>?_⟩,λx c e=>?_,I.hok.fresh (M0 _),λx c e=>?_,λp S=>?_,I.hok.kept C,?_⟩
 ·rcases look J with ⟨a1,b1⟩|⟨a1,_,_⟩ <;> rcases look e2 with ⟨w,R⟩|⟨w,_,_⟩
  ·rw[a1,w]
  ·exact absurd (old w) (by rw[b1];exact Nat.not_lt.mpr (Nat.le_succ _))
  ·exact absurd (old a1) (by rw[R];exact Nat.not_lt.mpr (Nat.le_succ _))
  ·exact I.ok.inj x y c a1 w
 ·rcases BI (env:=X.env) (x:=x) L.only f with q|q
  ·exact⟨s.heap.objs.size+1,by rw[q];show List.lookup x0 ((x0,_)::_)=_;rw[J3];simp⟩
  ·obtain⟨c,e⟩:=p8 (I.ok.has x (L.outs (x,.free) (PySem.mem_of_lookup q) rfl)) (PySem.mem_of_lookup q) (cs:=[]);exact⟨c,n (L.nof (x,.free) (PySem.mem_of_lookup q) rfl) e⟩
 ·rcases look e with ⟨_,b⟩|⟨_,_,G⟩
  ·rw[b];exact Nat.le_succ _
  ·exact absurd (S1.mp z) G
 ·exact O1 (g b hb)
 ·rcases look e with ⟨_,W⟩|⟨a,_,_⟩
  ·rw[W];exact Nat.ne_of_gt (T6 (g b hb))
  ·exact(hf b hb).2.2.2.2.1 x c a
 ·rcases(hf b hb).2.2.2.1 with z|z
  ·exact I.ok.noex b o e z
  ·exact absurd (L4 (L0 e) (W1 I.ok.bsz z)) (t4 _)
 ·rcases D1.mp (I.stkSub b z) with q|q
  ·exact(hf b hb).2.1 q
  ·exact(hf b hb).2.2.1 q
 ·unfold pick at e2;rw[L1] at e2;cases q:src[i]? with
  |none=>rw[q] at e2;cases e2
  | some o =>
   rw[q] at e2;cases o with
   |none=>cases e2
   | some j =>
    obtain⟨y,O,Q,A⟩:=L.from' i j q;have F:N[i]?=some x:=J;rw[F] at O;cases O;have U : σ[j]?=some (some v):=by
     cases q2 : σ[j]? with
     |none=>simp[q2] at e2
     |some z=>simp[q2] at e2;rw[e2]
    have g:=L.outs (x,.free) (PySem.mem_of_lookup A) rfl;have D:Vis X.env.scope x:=by
     rcases g with z|z
     ·exact .inr (.inl z)
     ·exact .inr (.inr z)
    obtain⟨m,_,T⟩:=I.loc;obtain⟨u,r,l⟩:=T j x v Q U D;refine⟨u,r,.inr ⟨?_,?_⟩⟩
    ·exact yD (env:=X.env) A
    ·rcases l with ⟨z,_⟩|⟨_,c,M,oc,h,hd⟩
     ·rcases g with K|K <;> (rw[K] at z;cases z)
     ·obtain⟨Y,P⟩:=p8 (env:=X.env) ⟨c,M⟩ (PySem.mem_of_lookup A) (cs:=[]);have:=d P;rw[M] at this;cases this;exact⟨c,n (L.nof (x,.free) (PySem.mem_of_lookup A) rfl) P,oc,C c oc h,hd⟩
 ·rcases look e with ⟨_,b⟩|⟨a,_,_⟩
  ·rw[b];exact⟨none,E⟩
  ·obtain⟨v,oc,h,hd⟩:=I.cell x c a;exact⟨v,oc,C c oc h,hd⟩
 ·rcases look e with ⟨_,b⟩|⟨a,_,_⟩
  ·rw[b];exact I.hok.fresh (Nat.le_succ _)
  ·exact I.freeC x c a
 ·exact absurd (show p∈([]:List (Addr × Obj)) from S) (by simp)
 ·show(pick src σ).length=N.length;unfold pick;rw[R0];exact L.len
theorem CP           
  (c:∀ a cl,cellsFrom a sc.names cl=(x0,a)::cl) (d:∀ h,pushCells h sc.names=h.push { cls:=.type "cell",data:=.cell none })
  (h:∀ h',h'.Ns s.heap.objs.size (λ_=>none)->(∀ b o,s.heap.get? b=some o->h'.get? b=some o)->h'.IsCell (s.heap.objs.size+1) none ->
   Q { scope:=sc,locals:=s.heap.objs.size,globals:=g,cells:=(x0,s.heap.objs.size+1)::cl,qual:=qual,func:=none,code:=outer.code,frame:=outer.frame,builtins:=outer.builtins } { s with heap:=h' }) :
  wpAny M A (newFunctionEnv sc g cl [] qual none .none (some outer)) Q E s:=by
 simp only[newFunctionEnv,Option.isSome_some,if_true];refine C0 (wpAny_alloc ?_);refine C0 (wpAny_layCells _ (λname kind cells=>by cases hkc:kind == NameKind.cell <;> simp[hkc]) _ _ _ _ ?_);rw[c,d];rw[show({ s with heap:=s.heap.push { cls:=.type "dict",data:=.dict #[] } }:Shared).heap.objs.size=s.heap.objs.size+1 from s7 ..];simp only[List.forIn_nil,pure_bind];refine N0 ?_;have hsz:(s.heap.push { cls:=.type "dict",data:=.dict #[] }).objs.size=s.heap.objs.size+1:=s7 ..;refine h _ ((Heap.Ns.new s.heap (.type "dict")).keeps λb o e=>J1 _ e) (λb o e=>J1 _ (J1 _ e)) ?_;rw[← hsz];exact⟨_,D2 _ rfl,rfl⟩
section
variable{X:Cx}{N:List Str}{tg iter elt:Expr}{ifs:List Expr}{sc:Scope}{src:List (Option Nat)}{x0:Str}{wi:TI}{g:TG}{tif:TT}{te:TE}{pos:Pos}
theorem ET(U:X.calm=true)(L:LcOkC X N sc src x0)(O:∀ C s0 D ex,PG (X.compC N sc x0 C s0 D ex) tg g)(I:∀ C s0 D ex,PIf (X.compC N sc x0 C s0 D ex) ifs tif)(R:∀ C s0 D ex,PE (X.compC N sc x0 C s0 D ex) elt te)
  {pins:List (Addr × Obj)} {d:Shared} {σ:St} {H3:Hp} {Q:VK} (h:Inv X pins σ H3 d) {it a:Addr} {fp:List Addr} {J:It} {tn:Nat->Heap->Prop} (T:Turn X.prog X.w X.K tg J fp it tn) (q:tn 0 d.heap) (i:∀ b∈fp,FpOk X pins H3 b)
  {W:LW} {Z:Nat} (w0:W 0 Z [] (pick src σ) H3) (r:iB J g tif te a (λ_ H'=>Q (.ref a) H') W) (use:Option (Value->Sem Unit)) (P:Value->Shared->Prop)
  (hP:∀ C H' s' m,Inv X pins σ H' s'->Q (.ref a) H'->s'.heap.Ns C m->H' C=none->C ≠ X.env.locals->(C∈X.ex\/X.s₀.heap.objs.size<=C)->(∀ x c,X.env.cells.lookup x=some c->c ≠ C)->(∀ p∈X.pn++pins,p.1 ≠ C) ->
   compPost (model X.prog X.w) X.A X.xe use P (.ref a) C (.ok .next) s') :
  wpAny (model X.prog X.w) X.A (newFunctionEnv sc X.env.globals (clos X.env sc.names []) [] X.env.qual none .none (some X.env)) (λf u =>
    codeAny (model X.prog X.w) X.A (.compStart (.ListComp elt [⟨tg,iter,ifs,0⟩] sc pos) 0 (.ref it) (.ref a) { f with scope:=relabel sc X.env }) (compPost (model X.prog X.w) X.A X.xe use P (.ref a) f.locals) u) X.xe d:=by
 refine CP L.cells L.push λM n l y=>?_;have H:∀ b∈fp,b<d.heap.objs.size:=λb hb=>by
  obtain⟨o,F,_⟩:=T.obj _ _ q b hb;exact L0 F
 have E:=LQ (t':=d.toks) L h i H n l y;have B:tn 0 M:=T.keep _ _ _ q λb _ o e=>l b o e;have Y:∀ b∈fp,FpOk (X.compC N sc x0 d.heap.objs.size d H3 fp) [] H3 b:=λb hb =>
  ⟨(i b hb).1,(E.ok.exf b hb).1,E.ok.exfs b hb,.inl hb,(E.ok.exf b hb).2,λp G=>absurd (show p∈([]:List (Addr × Obj)) from G) (by simp)⟩
 have fin:∀(ys:List V) s H' s',Inv (X.compC N sc x0 d.heap.objs.size d H3 fp) [] s H' s'->Q (.ref a) H'->compPost (model X.prog X.w) X.A X.xe use P (.ref a) d.heap.objs.size (.ok .next) s':=λys s H' s' j q'=>by
  have S:Inv X pins σ H' s':=h.call' (ch:=fp) j.os j.base j.hok j.bare λb hb=>⟨(i b hb).2.2.2.1,(i b hb).2.1,(i b hb).2.2.2.2.1,(i b hb).2.2.2.2.2⟩
  obtain⟨m,hn,_⟩:=j.loc;refine hP _ H' s' m S q' hn j.free (Nat.ne_of_gt h.lt) (.inr h.sz) (λx c e z=>?_) λp G z=>?_
  ·obtain⟨v,o,F,_⟩:=h.cell x c e;exact absurd (L0 F) (by rw[z];exact t4 _)
  ·exact absurd (L0 (h.pin p G).1) (by rw[z];exact t4 _)
 have loop:codeAny (model X.prog X.w) X.A (.compLoop (.ListComp elt [⟨tg,iter,ifs,0⟩] sc pos) 0 (.ref it) (.ref a) (X.compC N sc x0 d.heap.objs.size d H3 fp).env)
   (compPost (model X.prog X.w) X.A X.xe use P (.ref a) d.heap.objs.size) { d with heap:=M } :=
  TF (X:=X.compC N sc x0 d.heap.objs.size d H3 fp) T U (λ_ _ z=>z) (O _ _ _ _) (I _ _ _ _) (R _ _ _ _) r fin E B Y w0
 exact codeAny_compStart_list loop (T.self _ 0 _ _ _ B loop)
theorem KL(B:X.calm=true)(L:LcOkC X N sc src x0)(hi:PI X tg iter wi)(r:∀ C s0 d ex,PG (X.compC N sc x0 C s0 d ex) tg g)(l:∀ C s0 d ex,PIf (X.compC N sc x0 C s0 d ex) ifs tif)(A:∀ C s0 d ex,PE (X.compC N sc x0 C s0 d ex) elt te)
  (hs:∀ x,foldedSetIterable iter X.env x=pure x:=by intro _;rfl):PE X (.ListComp elt [⟨tg,iter,ifs,0⟩] sc pos) (tLC src wi g tif te):=by
 intro pins s σ H Q I h;rw[eval_ListComp];refine wpAny_comprehension_free rfl hs (L.clo I.ok) L.kind L.own (thn (hi pins s σ H _ I h) λv s1 G=>thn G λy s2 w=>?_);obtain⟨it,fp,tn,J,H2,e,p,T,a,n,O⟩:=w;subst e;have f:H2 s2.heap.objs.size=none:=p.hok.fresh (M0 _);obtain⟨W,⟨P,M⟩,c⟩:=O s2.heap.objs.size f;have j:∀ b∈fp,b<s2.heap.objs.size:=λb hb=>by
  obtain⟨o,z,_⟩:=T.obj _ _ a b hb;exact L0 z
 refine O7 ?_;refine ET (pins:=pins) B L r l A (H3:=upd H2 s2.heap.objs.size (.lst [])) ?_ T ?_ ?_ M c none _ (λC H' s' m J q hn K E D i F=>?_)
 ·exact p.laid (t':=s2.toks) (λb u e=>J1 _ e) (M0 _) ⟨O3 _,[],0,.nil,D2 _ rfl⟩
 ·exact T.keep _ _ _ a λb _ o e=>J1 _ e
 ·exact λb hb=>⟨by rw[J0 (O1 (j b hb))];exact(n b hb).1,(n b hb).2⟩
 ·refine⟨m,hn,λh' sb=>⟨.ref _,H',?_,rfl,q⟩⟩;exact J.turned (t':=s'.toks) (λb o hb e=>sb.extBut b o hb e) K E D i F
end
theorem dQ(o:sc.kind=.function)(g:∀ a cl,cellsFrom a sc.names cl=(x0,a)::cl)(m:∀ h,pushCells h sc.names=h.push { cls:=.type "cell",data:=.cell none })
  (c:sc.names.all (λy=>y.2 != .cell || y.1 == x0)=true) (l:sc.names.all (λy=>y.2 != .local || sc.names.lookup y.1 == some .local)=true)
  (n:sc.names.all (λy=>y.2 != .free || X.env.kindOf y.1 == some .cell || X.env.kindOf y.1 == some .free)=true) (f:sc.names.all (λy=>y.2 != .free || y.1 != x0)=true) (p:src.length=N.length)
  (d:(List.range src.length).all (λi=>match src[i]? with|some (some j)=>(match N[i]?,X.N[j]? with|some x,some y=>x == y && sc.names.lookup x == some .free|_,_=>false)|_=>true)=true):LcOkC X N sc src x0:=by
 refine⟨o,g,m,λy b e=>?_,λy b e=>?_,λy b e=>?_,λy b e=>?_,p,λi j e=>?_⟩
 ·have:=P2.mp c y b;rw[e] at this;simpa using this
 ·have:=P2.mp l y b;rw[e] at this;simpa using this
 ·have:=P2.mp n y b;rw[e] at this;simpa using this
 ·have:=P2.mp f y b;rw[e] at this;simpa using this
 ·have hi:i<src.length:=(N1.mp e).1;have:=P2.mp d i (U1.mpr hi);simp only[e] at this;cases hN:N[i]? with
  |none=>rw[hN] at this;simp at this
  | some x =>
   cases hX:X.N[j]? with
   |none=>rw[hN,hX] at this;simp at this
   | some y =>
    rw[hN,hX] at this;simp only[E5,S1] at this;exact⟨x,rfl,by rw[this.1],this.2⟩
section
variable{X:Cx}{N:List Str}{t1 i1 t2 i2 elt:Expr}{f1 f2:List Expr}{sc:Scope}{src:List (Option Nat)}{wi wi2:TI}{g g2:TG}{tif tif2:TT}{te:TE}{pos spos px:Pos}
theorem QL(hN:X.N.Nodup)(r:X.N[i]?=some x)(hx:Loc X.env.scope x)(hc:X.calm=true)(L:LcOk X N sc src)(hi:PI X t1 i1 wi)(hg:∀ C s0 c ex,PG (X.comp N sc C s0 c ex) t1 g)
  (y:∀ C s0 c ex,PIf (X.comp N sc C s0 c ex) f1 tif) (w:∀ C s0 c ex,PI (X.comp N sc C s0 c ex) t2 i2 wi2) (B:∀ C s0 c ex,PG (X.comp N sc C s0 c ex) t2 g2) (n:∀ C s0 c ex,PIf (X.comp N sc C s0 c ex) f2 tif2) (he:∀ C s0 c ex,PE (X.comp N sc C s0 c ex) elt te)
  (K:swapsWith (.ListComp elt [⟨t1,i1,f1,0⟩,⟨t2,i2,f2,0⟩] sc pos) (some (.Name x px)) spos.line X.env=pure true:=by rfl)
  (hf:X.fn x=true\/X.env.scope.names.lookup x=some .local:=by first|exact .inl rfl|exact .inr rfl|assumption)
  (hs:∀ x,foldedSetIterable i1 X.env x=pure x:=by intro _;rfl) (O:∀ C s0 c ex x,foldedSetIterable i2 (X.comp N sc C s0 c ex).env x=pure x:=by intros;rfl) :
  PS X (.Assign [.Name x px] (.ListComp elt [⟨t1,i1,f1,0⟩,⟨t2,i2,f2,0⟩] sc pos) spos) (tAsg (tLC2 src wi g tif wi2 g2 tif2 te) (N2 i)):=by
 intro pins s σ H D I h;rw[exec_Assign_Name_used _ _ _ _ K];refine C0 (wpAny_standAt (C0 ?_));show wpAny _ X.A (do let _ ← comprehension (.ListComp elt [⟨t1,i1,f1,0⟩,⟨t2,i2,f2,0⟩] sc pos) sc X.env _ (newList []) false (eval i1 X.env) (some (assign (.Name x px) X.env))) _ _ s;refine C0 (V3 (Q:=λ_ s'=>SP X pins D .next s') ?_ (λ_ s' hq=>N0 (N0 hq)) λ_ _ e=>e);refine wpAny_comprehension_free rfl hs (L.clo I.ok) L.kind L.own (thn (hi pins s σ H _ I h) λv s1 h1=>thn h1 λZ s2 S=>?_);obtain⟨it,fp,tn,J,H2,e,P,T,p,l,Y⟩:=S;subst e;have f:H2 s2.heap.objs.size=none:=P.hok.fresh (M0 _);obtain⟨W,⟨m0,w0⟩,j⟩:=Y s2.heap.objs.size f;have M:∀ b∈fp,b<s2.heap.objs.size:=λb hb=>by
  obtain⟨o,ho,_⟩:=T.obj _ _ p b hb;exact L0 ho
 refine O7 ?_;refine pF (pins:=pins) (Q:=λx H1=>N2 i x σ H1 D.nx) hc L hg y w B n he O (H3:=upd H2 s2.heap.objs.size (.lst [])) ?_ T ?_ ?_ w0 j (some (assign (.Name x px) X.env)) _ ?_
 ·exact P.laid (t':=s2.toks) (λb u e=>J1 _ e) (M0 _) ⟨O3 _,[],0,.nil,D2 _ rfl⟩
 ·exact T.keep _ _ _ p λb _ o e=>J1 _ e
 ·exact λb hb=>⟨by rw[J0 (O1 (M b hb))];exact(l b hb).1,(l b hb).2⟩
 ·intro C H' s' m J q hn hC R G d U;show wpAny _ X.A (assign (.Name x px) X.env (.ref s2.heap.objs.size)) _ _ _;refine wpAny_assign_Name (WD J hN r hx (v:=.ref s2.heap.objs.size) rfl (λs2 J2 ⟨a,sb,ha⟩=>?_) hf);have E:C ≠ a:=by
   rcases ha with z|z
   ·rw[z];exact R
   ·exact(d x a z).symm
  refine⟨m,hn.sameBut sb E,λh' F=>⟨_,H',?_,q⟩⟩;exact J2.turned (t':=s2.toks) (λb o hb e=>F.extBut b o hb e) hC R G d U
end
def rLen(K:Frag):List V->Hp->VK->Prop:=λxs H Q=>∃ p ys,xs=[.ref p]/\(SqL K H p ys\/SqT K H p ys)/\Q (.int ys.length) H
theorem E4:C2 X (.builtin "len") (rLen X.K):=pN
def XA:List V->Hp->VK->Prop:=λxs H Q=>∃ i j,xs=[.int i,.int j]/\Q (.int (if j > i then j else i)) H
def xB:List V->Hp->VK->Prop:=λxs H Q=>∃ i j,xs=[.int i,.int j]/\Q (.int (if j<i then j else i)) H
theorem GC(a:X.calm=true):C2 X (.builtin "max") XA:=HR a
theorem BD(a:X.calm=true):C2 X (.builtin "min") xB:=pQ a
def PB:List V->Hp->VK->Prop:=λxs H Q=>(∃ i,xs=[.int i]/\Q (.int i) H)\/∃ k,xs=[.bl k]/\Q (.int (if k then 1 else 0)) H
theorem OP:C2 X (.type "int") PB:=JP
section
variable{σ:St}{H:Hp}{D:Ends}{K:Frag}
theorem IC(h:Q (σ.set i (some v)) H):N2 i v σ H Q:=h
theorem oF(a : σ[i]?=some (some v))(h:Q v H):tVar i σ H Q:=⟨v,a,h⟩
theorem go_c(h:Q v H):tC v σ H Q:=h
theorem ZC(h:a σ H λx b=>tr σ b λxs H2=>Q (x::xs) H2):Y1 a tr σ H Q:=h
theorem VA(h:Q [] H):tNil σ H Q:=h
theorem yQ(h:t σ H λxs a=>xs.length<=sizeLine/\∀ p,a p=none->Q (.ref p) (upd a p (.tup xs))):tTup t σ H Q:=h
theorem fN(h:t σ H λxs a=>xs.length<=sizeLine/\∀ p,a p=none->Q (.ref p) (upd a p (.lst xs))):tLst t σ H Q:=h
theorem tH(h:Q (.bl (decide (i=j))) H):rEq (.int i) (.int j) H Q:=by
 have e:decide (V.int i=V.int j)=decide (i=j):=by rw[jB];exact Bool.beq_eq_decide_eq i j
 exact⟨rfl,by rw[e];exact h⟩
theorem uK(h:Q (.bl (!decide (i=j))) H):rNe (.int i) (.int j) H Q:=by
 have e:decide (V.int i=V.int j)=decide (i=j):=by rw[jB];exact Bool.beq_eq_decide_eq i j
 exact⟨rfl,by rw[e];exact h⟩
theorem oN(ha:H a=some (.lst xs))(b:M1 xs i=some v)(h:Q v H):rIxL K (.ref a) (.int i) H Q:=⟨a,xs,i,v,rfl,rfl,SqL.of ha,b,h⟩
theorem yM(ha:H a=some (.tup xs))(b:M1 xs i=some v)(h:Q v H):rIxT K (.ref a) (.int i) H Q:=⟨a,xs,i,v,rfl,rfl,SqT.of ha,b,h⟩
theorem cF(ha:H a=some (.lst xs))(b:ixN xs.length k=some j)(h:Q (upd H a (.lst (xs.set j v)))):NE (.ref a) (.int k) v H Q:=⟨a,xs,k,j,rfl,rfl,ha,b,h⟩
theorem nD(ha:H a=some (.lst xs))(b:xs.length<sizeLine)(h:Q .non (upd H a (.lst (xs++[y])))):W9 (.ref a) [y] H Q:=⟨a,xs,y,rfl,rfl,ha,b,h⟩
theorem gP(ha:H a=some (.lst xs))(hb:H b=some (.lst c))(d:xs.length+c.length<=sizeLine)(h:Q .non (upd H a (.lst (xs++c)))):iD (.ref a) [.ref b] H Q:=⟨a,b,xs,c,rfl,rfl,ha,hb,d,h⟩
theorem cL(ha:H a=some (.lst xs))(hb:H b=some (.lst c))(d:xs.length+c.length<=sizeLine)(h:∀ p,H p=none->Q (.ref p) (upd H p (.lst (xs++c)))):rCat (.ref a) (.ref b) H Q:=⟨a,b,xs,c,rfl,rfl,ha,hb,d,h⟩
theorem wI(ha:H a=some (.lst xs))(h:Q (.int xs.length) H):rLen K [.ref a] H Q:=⟨a,xs,rfl,.inl (SqL.of ha),h⟩
theorem uM(ha:H a=some (.tup xs))(h:Q (.int xs.length) H):rLen K [.ref a] H Q:=⟨a,xs,rfl,.inr (SqT.of ha),h⟩
theorem DG(h:Q (.int (if j > i then j else i)) H):XA [.int i,.int j] H Q:=⟨i,j,rfl,h⟩
theorem BJ(h:Q (.int (if j<i then j else i)) H):xB [.int i,.int j] H Q:=⟨i,j,rfl,h⟩
theorem YH(h:Q (.int (if k then 1 else 0)) H):PB [.bl k] H Q:=.inr ⟨k,rfl,h⟩
theorem RD{c:Prop} [Decidable c] {A B:Prop} (a:c) (h:A):if decide c=true then A else B:=by rw[N3 a];exact iteT h
theorem CB{c:Prop} [Decidable c] {A B:Prop} (a:¬ c) (h:B):if decide c=true then A else B:=by rw[D3 a];exact iteF h
theorem L5{c:Prop} [Decidable c] {A B:Prop} (b:c->A) (a:¬ c->B):if decide c=true then A else B:=by
 by_cases hc:c
 ·exact RD hc (b hc)
 ·exact CB hc (a hc)
theorem DP{c:Prop} [Decidable c] {A B:Prop} (b:¬ c->A) (a:c->B):if (!decide c)=true then A else B:=by
 by_cases hc:c
 ·rw[N3 hc];exact iteF (a hc)
 ·rw[D3 hc];exact iteT (b hc)
theorem JE{x y:V}{xs:List V}:M1 (x::y::xs) 1=some y:=E9 (j:=1) rfl
theorem ixN1:ixN (n+2) 1=some 1:=by unfold ixN;rw[q0 (by decide),q0 (by lia)];rfl
end
structure CallOk(P:Program)(w:World)(K:Frag)(mg:Str->Option Value)(base:Heap)(x:Str)(k:Nat)(ps:List Str)(sp:Sp)(f:Addr)(fd:FuncData):Prop where
 ok:FnOk P w K mg base CX0 k f fd ps sp
 mgx:mg x=some (.ref f)
 kp:keepIn K (.ref f)=true
 bd:Binds K fd ps []
def Can(P:Program)(w:World)(K:Frag)(mg:Str->Option Value)(base:Heap)(x:Str)(k:Nat)(ps:List Str)(sp:Sp):Prop:=∃ f fd,CallOk P w K mg base x k ps sp f fd
structure DefAt(K:Frag)(mg:Str->Option Value)(x:Str)(st:Stmt)(ps:List Str)(f:Addr)(fd:FuncData):Prop where
 fn:Fun K x x st f fd
 mgx:mg x=some (.ref f)
 bd:Binds K fd ps []
theorem DefAt.can{P:Program}{w:World}{K:Frag}{mg:Str->Option Value}{base:Heap}{x:Str}{st:Stmt}{k:Nat}{ps:List Str}{sp:Sp}{f:Addr}{fd:FuncData}(D:DefAt K mg x st ps f fd)(ok:FnOk P w K mg base CX0 k f fd ps sp):Can P w K mg base x k ps sp :=
 ⟨f,fd,ok,D.mgx,D.fn.kp,D.bd⟩
section
variable{X:Cx}{k j:Nat}{ps:List Str}{sp:Sp}{x:Str}{p pos:Pos}{e:Expr}{es:List Expr}{t:TA}
theorem G0(F:Can X.prog X.w X.K X.mg X.base x k ps sp)(c:Room j X.A)(ha:PA X (e::es) t)(g:k<=j:=by decide)(d:Gl X x:=by rfl)(b:(x == ("__debug__" : Str))=false:=by decide)
  (h:starEach (e::es) X.env=(false,eval e X.env)::starEach es X.env:=by rfl) (a:(backTo pos (starEach es X.env)).any (·.1)=false:=by rfl) :
  PE X (.Call (.Name x p) (e::es) [] pos) (M3 sp [] E0 t):=by
 obtain⟨f,fd,C⟩:=F;exact cK C.ok (c.mono g) d C.mgx C.kp C.bd .nil cB ha b h a
end
theorem z3(d:sc.kind=.function)(b:sc.names.all (λy=>y.2 != .cell)=true)(l:sc.names.all (λy=>y.2 != .local || sc.names.lookup y.1 == some .local)=true)
  (c:sc.names.all (λy=>y.2 != .free || X.env.kindOf y.1 == some .cell || X.env.kindOf y.1 == some .free)=true) (g:src.length=N.length)
  (f:(List.range src.length).all (λi=>match src[i]? with|some (some j)=>(match N[i]?,X.N[j]? with|some x,some y=>x == y && sc.names.lookup x == some .free|_,_=>false)|_=>true)=true):LcOk X N sc src:=by
 refine⟨d,λy a e=>?_,λy a e=>?_,λy a e=>?_,g,λi j e=>?_⟩
 ·have:=P2.mp b y a;rw[e] at this;exact absurd this (by decide)
 ·have:=P2.mp l y a;rw[e] at this;simpa using this
 ·have:=P2.mp c y a;rw[e] at this;simpa using this
 ·have hi:i<src.length:=(N1.mp e).1;have:=P2.mp f i (U1.mpr hi);rw[e] at this;dsimp only at this;cases h7:N[i]? with
  |none=>rw[h7] at this;cases this
  | some x =>
   cases h8:X.N[j]? with
   |none=>rw[h7,h8] at this;cases this
   | some y =>
    rw[h7,h8] at this;simp only[E5] at this;have h:x=y:=by simpa using this.1
    subst h;exact⟨x,rfl,rfl,by simpa using this.2⟩
section
variable{σ:St}{H:Hp}{D:Ends}{K:Frag}
theorem SD(h:Q true H):tYes σ H Q:=h
theorem ZT(ha:H a=some (.lst xs))(d : -(2 ^ 63)<=i)(b:i<2 ^ 63)(f:seqIndex? i xs.length=some k)(c:xs[k]?=some y)(h:Q y (upd H a (.lst (xs.eraseIdx k)))):bC (.ref a) [.int i] H Q :=
 ⟨a,xs,i,k,y,rfl,rfl,ha,d,b,f,c,h⟩
end
end L2
namespace L2
open PySem
theorem p4:bootBuiltins "len" = some (.builtin "len"):=by decide +kernel
theorem o6:bootBuiltins "max" = some (.builtin "max"):=by decide +kernel
theorem cC:bootBuiltins "min" = some (.builtin "min"):=by decide +kernel
theorem hA:bootBuiltins "sorted" = some (.builtin "sorted"):=by decide +kernel
theorem q7:bootBuiltins "isinstance" = some (.builtin "isinstance"):=by decide +kernel
theorem Y6:bootBuiltins "all" = some (.builtin "all"):=by decide +kernel
theorem LL:bootBuiltins "any" = some (.builtin "any"):=by decide +kernel
theorem zD:bootBuiltins "int" = some (.type "int"):=by decide +kernel
theorem k8:bootBuiltins "list" = some (.type "list"):=by decide +kernel
theorem aP:bootBuiltins "dict" = some (.type "dict"):=by decide +kernel
theorem bB:bootBuiltins "tuple" = some (.type "tuple"):=by decide +kernel
theorem jO:bootBuiltins "enumerate" = some (.type "enumerate"):=by decide +kernel
theorem yL:bootBuiltins "bool" = some (.type "bool"):=by decide +kernel
theorem lF:bootBuiltins "str" = some (.type "str"):=by decide +kernel
theorem zU:bootBuiltins "zip" = some (.type "zip"):=by decide +kernel
end L2
namespace TS
open PySem PyProof.Rows
def UC:Bool->Keyed->Array Keyed->Nat->Nat->Nat->StateT SortSt Sem (Option Nat):=sortPriv% PySem.Builtin.gallop
def lP:Array Keyed->Array Keyed->StateT SortSt Sem (Array Keyed):=sortPriv% PySem.Builtin.mergeLo
def eR:Array Keyed->Array Keyed->StateT SortSt Sem (Array Keyed):=sortPriv% PySem.Builtin.mergeHi
def aJ:Nat->StateT SortSt Sem Bool:=sortPriv% PySem.Builtin.mergeAt
def IJ:Nat->Nat->StateT SortSt Sem (Option Nat):=sortPriv% PySem.Builtin.countRun
def oP:Nat->Nat->Nat->StateT SortSt Sem Bool:=sortPriv% PySem.Builtin.binarySort
def tQ:StateT SortSt Sem Unit:=sortPriv% PySem.Builtin.sortRuns
structure Cmp(M:Model)(A:Around)(E:Value->Shared->Prop)(s:Shared)(κ:SortKind)(S:Keyed->Prop)(R:Keyed->Keyed->Bool):Prop where
 ask:∀ x y,S x->S y->∀(Q:Option Bool->SortSt->Prop)(st:SortSt),kindOf st = κ->Q (some (R x y)) st->wpS M A E s (lt' x y) Q st
 asy:∀ x y,S x->S y->R x y=true->R y x=false
 tr:∀ x y z,S x->S y->S z->R y x=false->R z y=false->R z x=false
theorem C3{arr:Array Keyed}{i:Nat}{x:Keyed}{Q:Keyed->SortSt->Prop}{st:SortSt}(a:arr[i]?=some x)(h:Q x st):wpS M A E s (elem' arr i) Q st:=by
 rw[elem'_eq,a];exact wpS_pure h
theorem L9{x:String}{Q:Unit->SortSt->Prop}{st:SortSt}(h:Q () st):wpS M A E s (liftM (PySem.rule x):StateT SortSt Sem Unit) Q st :=
 wpS_lift (wpAny_rule ⟨rfl,h⟩)
def bey(left:Bool)(key:Keyed)(arr:Array Keyed)(base i:Nat):StateT SortSt Sem (Option Bool):=do
 let x ← elem' arr (base+i)
 if left=true then lt' x key else do
  let r ← lt' key x
  pure (Option.map (λb=>!b) r)
theorem vG{left:Bool}{p:Keyed}{arr:Array Keyed}{base n a:Nat}{B:Nat->Bool}
  (hb:∀ i,i<n->∀(Q:Option Bool->SortSt->Prop)(st:SortSt),kindOf st = κ->Q (some (B i)) st->wpS M A E s (bey left p arr base i) Q st)
  (mono:∀ i j,i<j->j<n->B j=true->B i=true) (hh:a<n) {Q:Option Nat->SortSt->Prop} {st:SortSt} (x:kindOf st = κ)
  (h:∀ k,k<=n->(∀ i,i<k->B i=true)->(∀ i,k<=i->i<n->B i=false)->Q (some k) st):wpS M A E s (UC left p arr base n a) Q st:=by
 have c:∀ i j,i<j->j<n->B i=false->B j=false:=λi j y H hi=>by
  cases e:B j with
  |false=>rfl
  |true=>rw[mono i j y H e] at hi;cases hi
 -- the last loop
 have last:∀(lo hi:Nat)(F:Option (Option Nat) × Nat × Nat->StateT SortSt Sem (Option Nat)),lo<=hi->hi<=n->(∀ i,i<lo->B i=true)->(∀ i,hi<=i->i<n->B i=false) ->
   (∀ lo hi,F (none,lo,hi)=pure (some hi)) ->
   wpS M A E s (forIn [:n] ((none,lo,hi):Option (Option Nat) × Nat × Nat) (λ(_:Nat) z=>if z.2.1 ≥ z.2.2 then pure (ForInStep.done (none,z.2.1,z.2.2)) else bey left p arr base (z.2.1+(z.2.2-z.2.1) / 2) >>= λr=>match r with
    |some more=>if more=true then pure (ForInStep.yield (none,z.2.1+(z.2.2-z.2.1) / 2+1,z.2.2)) else pure (ForInStep.yield (none,z.2.1,z.2.1+(z.2.2-z.2.1) / 2))
    |_=>pure (ForInStep.done (some none,z.2.1,z.2.2))) >>= F) Q st:=by
  intro lo hi F K G I J D;refine wpS_bind (wpS_forRange (λt z st'=>st'=st/\z.1=none/\z.2.1<=z.2.2/\z.2.2<=n/\z.2.2-z.2.1+t<=n/\(∀ i,i<z.2.1->B i=true)/\(∀ i,z.2.2<=i->i<n->B i=false)) ?_ ?_ ⟨rfl,rfl,K,G,by dsimp only;lia,I,J⟩)
  ·rintro t ⟨o,l,u⟩ st' _ C ⟨rfl,e,q,d,b,g,w⟩;dsimp only at e q d b g w ⊢;subst e;by_cases hlu:l ≥ u
   ·rw[q0 hlu];have:l=u:=by lia
    subst this;exact wpS_pure (by dsimp only;rw[D];exact wpS_pure (h l d g w))
   ·rw[o0 hlu];have hm:l+(u-l) / 2<u:=by lia
    refine wpS_bind (hb _ (by lia) _ _ x ?_);dsimp only;cases e:B (l+(u-l) / 2) with
    | true =>
     rw[q0 rfl];refine wpS_pure ⟨rfl,rfl,by dsimp only;lia,d,by dsimp only;lia,λi hi=>?_,w⟩;dsimp only at hi;by_cases hi2:i=l+(u-l) / 2
     ·rw[hi2];exact e
     ·exact mono i _ (by lia) (by lia) e
    | false =>
     rw[o0 (by simp)];refine wpS_pure ⟨rfl,rfl,by dsimp only;lia,by dsimp only;lia,by dsimp only;lia,g,λi hi hn=>?_⟩;dsimp only at hi;by_cases hi2:i=l+(u-l) / 2
     ·rw[hi2];exact e
     ·exact c _ i (by lia) hn e
  ·rintro ⟨o,l,u⟩ st' ⟨rfl,e,q,d,b,g,w⟩;dsimp only at e q d b g w ⊢;subst e
   have : l = u := by have:n ≤ max 0 n := by lia
                      lia
   subst this;rw[D];exact wpS_pure (h l d g w)
 refine wpS_bind (f:=λL=>_) (m:=bey left p arr base a) (hb a hh _ st x ?_);dsimp only;cases e0:B a with
 | true =>
  rw[q0 rfl];refine wpS_bind ?_;refine wpS_forRange (λt (z:Option (Option Nat) × Nat × Nat) st'=>st'=st/\z.1=none/\z.2.1<z.2.2/\a+z.2.1<n/\B (a+z.2.1)=true/\t+1<=z.2.2) ?_ ?_ ⟨rfl,rfl,by decide,by dsimp only;lia,e0,Nat.le_refl _⟩
  ·rintro t ⟨o,l,u⟩ st' _ C ⟨rfl,e,q,d,b,g⟩;dsimp only at e q d b g ⊢;subst e;by_cases hu:u ≥ n-a
   ·rw[q0 hu];refine wpS_pure ?_;dsimp only;refine last _ _ _ (by lia) (by lia) (λi hi=>?_) (λi hi hn=>by lia) (λ_ _=>rfl);by_cases hi2:i=a+l
    ·rw[hi2];exact b
    ·exact mono i _ (by lia) d b
   ·rw[o0 hu];refine wpS_bind (m:=bey left p arr base (a+u)) (hb _ (by lia) _ _ x ?_);dsimp only;cases e1:B (a+u) with
    | true =>
     rw[o0 (by decide)];exact wpS_pure ⟨rfl,rfl,by dsimp only;lia,by dsimp only;lia,e1,by dsimp only;lia⟩
    | false =>
     rw[q0 (by decide)];refine wpS_pure ?_;dsimp only;refine last _ _ _ (by lia) (by lia) (λi hi=>?_) (λi hi hn=>?_) (λ_ _=>rfl)
     ·by_cases hi2:i=a+l
      ·rw[hi2];exact b
      ·exact mono i _ (by lia) d b
     ·by_cases hi2:i=a+u
      ·rw[hi2];exact e1
      ·exact c _ i (by lia) hn e1
  ·rintro⟨o,l,u⟩ st' ⟨rfl,e,q,d,b,g⟩;dsimp only at e q d b g ⊢;subst e;dsimp only;refine last _ _ _ (by lia) (by lia) (λi hi=>?_) (λi hi hn=>by lia) (λ_ _=>rfl);by_cases hi2:i=a+l
   ·rw[hi2];exact b
   ·exact mono i _ (by lia) d b
 | false =>
  rw[o0 (by decide)];refine wpS_bind ?_;refine wpS_forRange (λt (z:Option (Option Nat) × Nat × Nat) st'=>st'=st/\z.1=none/\z.2.1<z.2.2/\z.2.1<=a/\B (a-z.2.1)=false/\t+1<=z.2.2) ?_ ?_ ⟨rfl,rfl,by decide,O3 _,e0,M0 _⟩
  ·rintro t ⟨o,l,u⟩ st' _ C ⟨rfl,e,q,d,b,g⟩;dsimp only at e q d b g ⊢;subst e;have v:∀ i,a-l<=i->i<n->B i=false:=λi hi hn=>by
    by_cases hi2:i=a-l
    ·rw[hi2];exact b
    ·exact c _ i (by lia) hn b
   by_cases hu:u ≥ a+1
   ·rw[q0 hu];refine wpS_pure ?_;dsimp only;exact last _ _ _ (by lia) (by lia) (λi hi=>by lia) v (λ_ _=>rfl)
   ·rw[o0 hu];refine wpS_bind (m:=bey left p arr base (a-u)) (hb _ (by lia) _ _ x ?_);dsimp only;cases e1:B (a-u) with
    | true =>
     rw[q0 rfl];refine wpS_pure ?_;dsimp only;refine last _ _ _ (by lia) (by lia) (λi hi=>?_) v (λ_ _=>rfl);by_cases hi2:i=a-u
     ·rw[hi2];exact e1
     ·exact mono i _ (by lia) (by lia) e1
    | false =>
     rw[o0 (by decide)];exact wpS_pure ⟨rfl,rfl,by dsimp only;lia,by dsimp only;lia,e1,by dsimp only;lia⟩
  ·rintro⟨o,l,u⟩ st' ⟨rfl,e,q,d,b,g⟩;dsimp only at e q d b g ⊢;subst e;dsimp only;refine last _ _ _ (by lia) (by lia) (λi hi=>by lia) (λi hi hn=>?_) (λ_ _=>rfl);by_cases hi2:i=a-l
   ·rw[hi2];exact b
   ·exact c _ i (by lia) hn b
def Srt(R:Keyed->Keyed->Bool)(l:List Keyed):Prop:=l.Pairwise λx y=>R y x=false
structure Mid(R:Keyed->Keyed->Bool)(L out a b:List Keyed):Prop where
 perm:(out++a++b).Perm L
 so:Srt R out
 le:∀ x∈out,∀ y∈a++b,R y x=false
 sa:Srt R a
 sb:Srt R b
theorem Mid.takeA(m:Mid R L out (p++a) b)(h:∀ x∈p,∀ y∈b,R y x=false):Mid R L (out++p) a b:=by
 have sp:=A3.mp m.sa;refine⟨by have:=m.perm;rw[← m3] at this;exact this,A3.mpr ⟨m.so,sp.1,λx d y c=>m.le x d y (z5 _ (z5 _ c))⟩,λx d y c=>?_,sp.2.1,m.sb⟩;rcases Q1.mp d with d|d
 ·refine m.le x d y ?_;rcases Q1.mp c with c|c
  ·exact z5 _ (Z2 _ c)
  ·exact Z2 _ c
 ·rcases Q1.mp c with c|c
  ·exact sp.2.2 x d y c
  ·exact h x d y c
theorem Mid.takeB(m:Mid R L out a (p++b))(h:∀ x∈p,∀ y∈a,R y x=false):Mid R L (out++p) a b:=by
 have sp:=A3.mp m.sb;refine⟨List.Perm.trans ?_ m.perm,A3.mpr ⟨m.so,sp.1,λx d y c=>m.le x d y (Z2 _ (z5 _ c))⟩,λx d y c=>?_,m.sa,sp.2.1⟩
 ·rw[← m3 (out++a) p b];refine List.Perm.append_right b ?_;rw[m3,m3];exact List.Perm.append_left out List.perm_append_comm
 ·rcases Q1.mp d with d|d
  ·refine m.le x d y ?_;rcases Q1.mp c with c|c
   ·exact z5 _ c
   ·exact Z2 _ (Z2 _ c)
  ·rcases Q1.mp c with c|c
   ·exact h x d y c
   ·exact sp.2.2 x d y c
theorem Mid.done(m:Mid R L out a b)(h:a=[]\/b=[]):(out++a++b).Perm L/\Srt R (out++a++b):=by
 refine⟨m.perm,?_⟩;rw[m3];refine A3.mpr ⟨m.so,?_,m.le⟩;rcases h with h|h
 ·subst h;exact m.sb
 ·subst h;rw[m5];exact m.sa
theorem Mid.last(m:Mid R L out a b)(h:∀ y∈b,∀ x∈a,R x y=false):(out++b++a).Perm L/\Srt R (out++b++a):=by
 refine⟨List.Perm.trans ?_ m.perm,?_⟩
 ·rw[m3,m3];exact List.Perm.append_left out List.perm_append_comm
 ·rw[m3];refine A3.mpr ⟨m.so,A3.mpr ⟨m.sb,m.sa,h⟩,λx d y c=>m.le x d y ?_⟩;rcases Q1.mp c with c|c
  ·exact Z2 _ c
  ·exact z5 _ c
structure Eqv(st st':SortSt):Prop where
 k:kindOf st'=kindOf st
 a:arrOf st'=arrOf st
 p:pendingOf st'=pendingOf st
 f:failedOf st'=failedOf st
theorem Eqv.refl(st:SortSt):Eqv st st:=⟨rfl,rfl,rfl,rfl⟩
theorem Eqv.trans{a b c:SortSt}(h:Eqv a b)(g:Eqv b c):Eqv a c:=⟨g.k.trans h.k,g.a.trans h.a,g.p.trans h.p,g.f.trans h.f⟩
theorem mC(a:Array Keyed)(i:Nat):(a.extract i a.size).toList=a.toList.drop i:=by
 rw[Array.toList_extract];simp only[List.extract_eq_take_drop];exact o8 (by simp)
theorem iE(a:Array Keyed)(i k:Nat):(a.extract i (i+k)).toList=(a.toList.drop i).take k:=by
 rw[Array.toList_extract];simp[List.extract]
theorem u5{a:Array Keyed}{i:Nat}(h:i<a.size):a.toList.drop i=a[i]::a.toList.drop (i+1):=by
 rw[List.drop_eq_getElem_cons (by simpa using h)];simp
theorem Cmp.irr(C:Cmp M A E s κ S R)(a:S x):R x x=false:=by
 cases e:R x x with
 |false=>rfl
 |true=>have:=C.asy x x a a e;rw[e] at this;cases this
theorem nE(C:Cmp M A E s κ S R){a:Keyed}{arr:Array Keyed}{base n f:Nat}(d:S a)(J:∀ x∈arr.toList,S x)(hn:base+n<=arr.size)(hs:Srt R ((arr.toList.drop base).take n))(hh:f<n)
  {Q:Option Nat->SortSt->Prop} {st:SortSt} (O:kindOf st = κ)
  (h:∀ k,k<=n->(∀ x∈(arr.toList.drop base).take k,R a x=false)->(∀ x∈((arr.toList.drop base).take n).drop k,R a x=true)->Q (some k) st) :
  wpS M A E s (UC false a arr base n f) Q st:=by
 have at':∀ i,i<n->∃ x,arr[base+i]?=some x/\S x/\((arr.toList.drop base).take n)[i]?=some x:=λi hi=>by
  have m:base+i<arr.size:=by lia
  refine⟨arr[base+i],Y2 m,J _ (by simp),?_⟩;rw[n8 hi,Z9];simp[m]
 have g:∀ i j x y,i<j->j<n->arr[base+i]?=some x->arr[base+j]?=some y->R y x=false:=λi j x y l p ex G=>by
  obtain⟨T,b,_,e2⟩:=at' i (by lia);obtain⟨U,D,_,r⟩:=at' j p;rw[ex] at b;cases b;rw[G] at D;cases D;obtain⟨K,e2⟩:=N1.mp e2;obtain⟨I,r⟩:=N1.mp r;have:=t7.mp hs i j K I l;rw[e2,r] at this;exact this
 refine vG (κ:=κ) (B:=λi=>match arr[base+i]? with|some x=>!(R a x)|none=>false) (λi hi Q' st' q z=>?_) (λi j l p o=>?_) hh O λk w L F=>h k w (λx u=>?_) λx u=>?_
 ·obtain⟨x,b,v,_⟩:=at' i hi;unfold bey;refine wpS_bind (C3 b ?_);rw[o0 (by decide)];refine wpS_bind (C.ask _ _ d v _ _ q ?_);refine wpS_pure ?_;simp only[b] at z;exact z
 ·obtain⟨x,b,v,_⟩:=at' i (by lia);obtain⟨y,e2,N,_⟩:=at' j p;simp only[b,e2] at o ⊢;have P:=g i j x y l p b e2;have H:R a y=false:=by simpa using o
  have:=C.tr x y a v N d P H;simp[this]
 ·obtain⟨i,hi,e⟩:=List.getElem_of_mem u;have c:i<k:=by rw[Q7] at hi;lia
  obtain⟨y,b,_,e2⟩:=at' i (by lia);have hb:=L i c;simp only[b] at hb;have ex:x=y:=by
   have:((arr.toList.drop base).take k)[i]?=some x:=by rw[Y0 hi,e]
   rw[n8 c] at this;rw[n8 (by lia)] at e2;rw[this] at e2;exact u3 e2
  subst ex;simpa using hb
 ·obtain⟨i,hi,e⟩:=List.getElem_of_mem u;have c:k+i<n:=by rw[aC,Q7] at hi;lia
  obtain⟨y,b,_,e2⟩:=at' (k+i) c;have hb:=F (k+i) (by lia) c;simp only[b] at hb;have ex:x=y:=by
   have:(((arr.toList.drop base).take n).drop k)[i]?=some x:=by rw[Y0 hi,e]
   rw[Z9] at this;rw[this] at e2;exact u3 e2
  subst ex;simpa using hb
theorem rE(C:Cmp M A E s κ S R){a:Keyed}{arr:Array Keyed}{base n f:Nat}(d:S a)(I:∀ x∈arr.toList,S x)(hn:base+n<=arr.size)(hs:Srt R ((arr.toList.drop base).take n))(hh:f<n)
  {Q:Option Nat->SortSt->Prop} {st:SortSt} (N:kindOf st = κ)
  (h:∀ k,k<=n->(∀ x∈(arr.toList.drop base).take k,R x a=true)->(∀ x∈((arr.toList.drop base).take n).drop k,R x a=false)->Q (some k) st) :
  wpS M A E s (UC true a arr base n f) Q st:=by
 have at':∀ i,i<n->∃ x,arr[base+i]?=some x/\S x/\((arr.toList.drop base).take n)[i]?=some x:=λi hi=>by
  have o:base+i<arr.size:=by lia
  refine⟨arr[base+i],Y2 o,I _ (by simp),?_⟩;rw[n8 hi,Z9];simp[o]
 have g:∀ i j x y,i<j->j<n->arr[base+i]?=some x->arr[base+j]?=some y->R y x=false:=λi j x y l p ex G=>by
  obtain⟨P,b,_,e2⟩:=at' i (by lia);obtain⟨T,D,_,r⟩:=at' j p;rw[ex] at b;cases b;rw[G] at D;cases D;obtain⟨J,e2⟩:=N1.mp e2;obtain⟨H,r⟩:=N1.mp r;have:=t7.mp hs i j J H l;rw[e2,r] at this;exact this
 refine vG (κ:=κ) (B:=λi=>match arr[base+i]? with|some x=>R x a|none=>false) (λi hi Q' st' q z=>?_) (λi j l p m=>?_) hh N λk w K F=>h k w (λx u=>?_) λx u=>?_
 ·obtain⟨x,b,v,_⟩:=at' i hi;unfold bey;refine wpS_bind (C3 b ?_);rw[q0 rfl];simp only[b] at z;exact C.ask _ _ v d _ _ q z
 ·obtain⟨x,b,v,_⟩:=at' i (by lia);obtain⟨y,e2,L,_⟩:=at' j p;simp only[b,e2] at m ⊢;have O:=g i j x y l p b e2;cases e:R x a with
  |true=>rfl
  | false =>
   have:=C.tr a x y d v L e O;rw[this] at m;cases m
 ·obtain⟨i,hi,e⟩:=List.getElem_of_mem u;have c:i<k:=by rw[Q7] at hi;lia
  obtain⟨y,b,_,e2⟩:=at' i (by lia);have hb:=K i c;simp only[b] at hb;have ex:x=y:=by
   have:((arr.toList.drop base).take k)[i]?=some x:=by rw[Y0 hi,e]
   rw[n8 c] at this;rw[n8 (by lia)] at e2;rw[this] at e2;exact u3 e2
  subst ex;exact hb
 ·obtain⟨i,hi,e⟩:=List.getElem_of_mem u;have c:k+i<n:=by rw[aC,Q7] at hi;lia
  obtain⟨y,b,_,e2⟩:=at' (k+i) c;have hb:=F (k+i) (by lia) c;simp only[b] at hb;have ex:x=y:=by
   have:(((arr.toList.drop base).take n).drop k)[i]?=some x:=by rw[Y0 hi,e]
   rw[Z9] at this;rw[this] at e2;exact u3 e2
  subst ex;exact hb
structure Two(S:Keyed->Prop)(R:Keyed->Keyed->Bool)(a b:Array Keyed):Prop where
 ha:∀ x∈a.toList,S x
 hb:∀ x∈b.toList,S x
 sa:Srt R a.toList
 sb:Srt R b.toList
 a0:0<a.size
 b0:0<b.size
 first:∀ x∈a.toList,∀ y,b[0]?=some y->R x y=false
 last:∀ y∈b.toList,∀ x,a[a.size-1]?=some x->R x y=false
def Fin2(R:Keyed->Keyed->Bool)(a b m:Array Keyed):Prop:=m.toList.Perm (a.toList++b.toList)/\Srt R m.toList
structure Lo(S:Keyed->Prop)(R:Keyed->Keyed->Bool)(a b out:Array Keyed)(ia ib:Nat):Prop where
 mid:Mid R (a.toList++b.toList) out.toList (a.toList.drop ia) (b.toList.drop ib)
 ia:ia<=a.size
 ib:ib<=b.size
theorem Lo.len{a b out:Array Keyed}{ia ib:Nat}(l:Lo S R a b out ia ib):out.size+(a.size-ia)+(b.size-ib)=a.size+b.size:=by
 have:=l.mid.perm.length_eq;simp at this;lia
theorem Lo.doneA{a b out:Array Keyed}{ia ib:Nat}(l:Lo S R a b out ia ib)(h:ib=b.size\/ia=a.size):Fin2 R a b (out++a.extract ia++b.extract ib):=by
 have:=l.mid.done (by
  rcases h with h|h
  ·right;rw[h];simp
  ·left;rw[h];simp)
 unfold Fin2;rw[W4,W4,mC,mC];exact this
theorem pR{a:Array Keyed}{i:Nat}(h:i+1=a.size):a.toList.drop i=[a[a.size-1]'(by lia)]:=by
 have hi:i<a.size:=by lia
 rw[u5 hi];have:i=a.size-1:=by lia
 subst this;have e:a.toList.drop (a.size-1+1)=[]:=by
  apply List.drop_eq_nil_of_le;simp;lia
 rw[e]
theorem Lo.lastA{a b out:Array Keyed}{ia ib:Nat}(T:Two S R a b)(l:Lo S R a b out ia ib)(h:ia+1=a.size):Fin2 R a b (out++b.extract ib++a.extract ia):=by
 have:=l.mid.last (by
  intro y d x c;rw[pR h] at c;have ex:x=a[a.size-1]'(by lia):=by simpa using c
  refine T.last y (P4 d) x ?_;rw[ex];exact Y2 _)
 unfold Fin2;rw[W4,W4,mC,mC];exact this
theorem Q9(C:Cmp M A E s κ S R)(h:Srt R (x::l))(b:S x):∀ y∈x::l,R y x=false:=by
 intro y a;rcases D1.mp a with e|a
 ·rw[e];exact C.irr b
 ·exact(S9.mp h).1 y a
theorem Lo.pushB{a b out:Array Keyed}{ia ib:Nat}(C:Cmp M A E s κ S R)(T:Two S R a b)(l:Lo S R a b out ia ib)(hb:ib<b.size)(h:∀ x∈a.toList.drop ia,R x b[ib]=false):Lo S R a b (out.push b[ib]) ia (ib+1):=by
 refine⟨?_,l.ia,hb⟩;have m:=l.mid;rw[u5 hb] at m;rw[Array.toList_push];exact m.takeB (p:=[b[ib]]) (λx d y c=>by
  have:x=b[ib]:=by simpa using d
  rw[this];exact h y c)
theorem Lo.pushA{a b out:Array Keyed}{ia ib:Nat}(l:Lo S R a b out ia ib)(ha:ia<a.size)(h:∀ y∈b.toList.drop ib,R y a[ia]=false):Lo S R a b (out.push a[ia]) (ia+1) ib:=by
 refine⟨?_,ha,l.ib⟩;have m:=l.mid;rw[u5 ha] at m;rw[Array.toList_push];exact m.takeA (p:=[a[ia]]) (λx d y c=>by
  have:x=a[ia]:=by simpa using d
  rw[this];exact h y c)
theorem Lo.runA{a b out:Array Keyed}{ia ib k:Nat}(l:Lo S R a b out ia ib)(d:ia+k<=a.size)(h:∀ x∈(a.toList.drop ia).take k,∀ y∈b.toList.drop ib,R y x=false):Lo S R a b (out++a.extract ia (ia+k)) (ia+k) ib:=by
 refine⟨?_,d,l.ib⟩;have m:=l.mid;rw[← C5 k (a.toList.drop ia)] at m;rw[W4,iE];have c:=m.takeA h;rw[List.drop_drop] at c;exact c
theorem Lo.runB{a b out:Array Keyed}{ia ib k:Nat}(l:Lo S R a b out ia ib)(d:ib+k<=b.size)(h:∀ x∈(b.toList.drop ib).take k,∀ y∈a.toList.drop ia,R y x=false):Lo S R a b (out++b.extract ib (ib+k)) ia (ib+k):=by
 refine⟨?_,l.ia,d⟩;have m:=l.mid;rw[← C5 k (b.toList.drop ib)] at m;rw[W4,iE];have c:=m.takeB h;rw[List.drop_drop] at c;exact c
theorem W7(h:Srt R l):Srt R (l.drop i):=List.Pairwise.sublist (List.drop_sublist i l) h
theorem jpn{α β:Type}{prog : β->StateT SortSt Sem α}{P : β->Prop}{Q : α->SortSt->Prop}{st:SortSt}{G:Prop}(use:(∀ m,P m->wpS M A E s (prog m) Q st)->G)(a:∀ m,P m->wpS M A E s (prog m) Q st):G:=use a
theorem jpn2{α:Type}{prog:Array Keyed->Nat->StateT SortSt Sem α}{P:Array Keyed->Nat->Prop}{Q : α->SortSt->Prop}{st:SortSt}{G:Prop}(use:(∀ o i,P o i->wpS M A E s (prog o i) Q st)->G)(a:∀ o i,P o i->wpS M A E s (prog o i) Q st):G:=use a
section
variable{ρ β γ δ ε ζ η:Type}
@[elab_as_elim] theorem un5 {J : β->γ->δ->ε->Prop} {G:Option ρ × β × γ × δ × ε->Prop} (z:Option ρ × β × γ × δ × ε) (h:z.1=none/\J z.2.1 z.2.2.1 z.2.2.2.1 z.2.2.2.2) (k:∀ x y u v,J x y u v->G (none,x,y,u,v)):G z:=by
 have e:z=(none,z.2.1,z.2.2.1,z.2.2.2.1,z.2.2.2.2):=by rw[← h.1]
 rw[e];exact k _ _ _ _ h.2
@[elab_as_elim] theorem un6 {J : β->γ->δ->ε->ζ->Prop} {G:Option ρ × β × γ × δ × ε × ζ->Prop} (z:Option ρ × β × γ × δ × ε × ζ) (h:z.1=none/\J z.2.1 z.2.2.1 z.2.2.2.1 z.2.2.2.2.1 z.2.2.2.2.2) (k:∀ x y u v a,J x y u v a->G (none,x,y,u,v,a)):G z:=by
 have e:z=(none,z.2.1,z.2.2.1,z.2.2.2.1,z.2.2.2.2.1,z.2.2.2.2.2):=by rw[← h.1]
 rw[e];exact k _ _ _ _ _ h.2
@[elab_as_elim] theorem un7 {J : β->γ->δ->ε->ζ->η->Prop} {G:Option ρ × β × γ × δ × ε × ζ × η->Prop} (z:Option ρ × β × γ × δ × ε × ζ × η) (h:z.1=none/\J z.2.1 z.2.2.1 z.2.2.2.1 z.2.2.2.2.1 z.2.2.2.2.2.1 z.2.2.2.2.2.2) (k:∀ x y u v a b,J x y u v a b->G (none,x,y,u,v,a,b)):G z:=by
 have e:z=(none,z.2.1,z.2.2.1,z.2.2.2.1,z.2.2.2.2.1,z.2.2.2.2.2.1,z.2.2.2.2.2.2):=by rw[← h.1]
 rw[e];exact k _ _ _ _ _ _ h.2
@[elab_as_elim] theorem unR {κ:Type} {F : ρ->Prop} {J : κ->Prop} {G:Option ρ × κ->Prop} (z:Option ρ × κ) (h:(∃ r,z.1=some r/\F r)\/(z.1=none/\J z.2)) (b:∀ r x,F r->G (some r,x)) (c:z.1=none/\J z.2->G z):G z:=by
 rcases h with ⟨r,e,a⟩|h
 ·have e:z=(some r,z.2):=by rw[← e]
  rw[e];exact b _ _ a
 ·exact c h
end
theorem V1{c:Prop} [Decidable c] {α:Type} {a b:StateT SortSt Sem α} {Q : α->SortSt->Prop} {st:SortSt} (f:c->wpS M A E s a Q st) (d:¬ c->wpS M A E s b Q st):wpS M A E s (if c then a else b) Q st:=by
 by_cases h:c
 ·rw[q0 h];exact f h
 ·rw[o0 h];exact d h
theorem yK (C:Cmp M A E s κ S R) {a b:Array Keyed} (T:Two S R a b) {Q:Array Keyed->SortSt->Prop} {st:SortSt} (hk:kindOf st = κ)
  (h:∀ m st',Eqv st st'->Fin2 R a b m->Q m st'):wpS M A E s (lP a b) Q st:=by
 have O:∀ i (h:i<a.size),S a[i]:=λi h=>T.ha _ (by simp);have N:∀ i (h:i<b.size),S b[i]:=λi h=>T.hb _ (by simp);have b0:=T.b0;have a0:=T.a0;refine wpS_bind (L9 ?_);refine wpS_bind (C3 (x:=b[0]'b0) (Y2 b0) ?_);have l1:Lo S R a b #[b[0]'b0] 0 1:=by
  have l0:Lo S R a b #[] 0 0:=⟨⟨by simp,List.Pairwise.nil,λx w=>by simp at w,T.sa,T.sb⟩,O3 _,O3 _⟩
  exact l0.pushB C T b0 λx w=>T.first x (by simpa using w) _ (Y2 b0)
 refine V1 (λe1=>wpS_pure (h _ _ (Eqv.refl _) (l1.doneA (.inl (S1.mp e1))))) (λe1=>?_);refine V1 (λe2=>wpS_pure (h _ _ (Eqv.refl _) (l1.lastA T (S1.mp e2)))) (λe2=>?_)
 replace e1:1 ≠ b.size:=λq=>e1 (S1.mpr q)
 replace e2:0+1 ≠ a.size:=λq=>e2 (S1.mpr q)
 refine wpS_bind (wpS_get ?_);refine wpS_bind (wpS_mono (Q:=λ(z:Option (Array Keyed) × Array Keyed × Nat × Nat × Nat) st'=>Eqv st st'/\∃ r,z.1=some r/\Fin2 R a b r) ?_ ?_)
 ·refine wpS_forRange (λt (z:Option (Array Keyed) × Array Keyed × Nat × Nat × Nat) st'=>Eqv st st'/\z.1=none/\Lo S R a b z.2.1 z.2.2.1 z.2.2.2.1/\z.2.2.1+1<a.size/\z.2.2.2.1<b.size/\t+1<=z.2.1.size) ?_ ?_ ⟨Eqv.refl _,rfl,l1,by dsimp only;lia,by dsimp only;lia,by simp⟩
  ·intro t z a7 _ ht n;have q1:=n.1;refine un5 (J:=λout ia ib _=>Lo S R a b out ia ib/\ia+1<a.size/\ib<b.size/\t+1<=out.size) z n.2 λout ia ib mg v=>?_;dsimp only;refine wpS_bind (wpS_mono (Q:=λ(z:Option (Array Keyed) × Array Keyed × Nat × Nat × Nat × Nat) st'=>Eqv st st'/\((∃ r,z.1=some r/\Fin2 R a b r)\/(z.1=none/\Lo S R a b z.2.1 z.2.2.1 z.2.2.2.1/\z.2.2.1+1<a.size/\z.2.2.2.1<b.size/\t+2<=z.2.1.size))) ?_ ?_)
   ·refine wpS_forRange (λi (z:Option (Array Keyed) × Array Keyed × Nat × Nat × Nat × Nat) st'=>Eqv st st'/\z.1=none/\Lo S R a b z.2.1 z.2.2.1 z.2.2.2.1/\z.2.2.1+1<a.size/\z.2.2.2.1<b.size/\t+1+min i 1<=z.2.1.size) ?_ ?_ ⟨q1,rfl,v.1,v.2.1,v.2.2.1,v.2.2.2⟩
    ·intro i z o _ hi n;have q:=n.1;refine un6 (J:=λout ia ib _ _=>Lo S R a b out ia ib/\ia+1<a.size/\ib<b.size/\t+1+min i 1<=out.size) z n.2 λout ia ib ac bc v=>?_;have l:=v.1;have I:=v.2.1;have d:=v.2.2.1;have hsz:=v.2.2.2;have g:ia<a.size:=Nat.lt_of_succ_lt I;refine wpS_bind (C3 (x:=b[ib]) (Y2 d) ?_);refine wpS_bind (C3 (x:=a[ia]) (Y2 g) ?_);refine wpS_bind (C.ask _ _ (N ib d) (O ia g) _ _ (q.k.trans hk) ?_);dsimp only;refine V1 (λer=>?_) (λer=>?_)
     ·refine wpS_bind (C3 (x:=b[ib]) (Y2 d) ?_);have F:Lo S R a b (out.push b[ib]) ia (ib+1):=l.pushB C T d λx w=>by
       rw[u5 g] at w;have hd:Srt R (a[ia]::a.toList.drop (ia+1)):=by rw[← u5 g];exact W7 T.sa
       have sx:S x:=T.ha x (P4 (i:=ia) (by rw[u5 g];exact w));exact C.tr _ _ _ (N ib d) (O ia g) sx (C.asy _ _ (N ib d) (O ia g) er) (Q9 C hd (O ia g) x w)
      refine V1 (λD=>wpS_pure ⟨q,.inl ⟨_,rfl,F.doneA (.inl (S1.mp D))⟩⟩) (λD=>?_);have hf:ib+1<b.size/\t+2<=(out.push b[ib]).size:=by
       have Z:ib+1 ≠ b.size:=λq=>D (S1.mpr q);rw[g7];lia
      refine V1 (λ_=>wpS_pure ⟨q,.inr ⟨rfl,F,I,hf⟩⟩) (λ_=>wpS_pure ⟨q,rfl,F,I,hf.1,W1 (by lia) hf.2⟩)
     ·refine wpS_bind (C3 (x:=a[ia]) (Y2 g) ?_);have F:Lo S R a b (out.push a[ia]) (ia+1) ib:=l.pushA g λy G=>by
       rw[u5 d] at G;have hd:Srt R (b[ib]::b.toList.drop (ib+1)):=by rw[← u5 d];exact W7 T.sb
       have sy:S y:=T.hb y (P4 (i:=ib) (by rw[u5 d];exact G));exact C.tr _ _ _ (O ia g) (N ib d) sy (eq_false_of_ne_true er) (Q9 C hd (N ib d) y G)
      refine V1 (λD=>wpS_pure ⟨q,.inl ⟨_,rfl,F.lastA T (S1.mp D)⟩⟩) (λD=>?_);have hf:ia+1+1<a.size/\ib<b.size/\t+2<=(out.push a[ia]).size:=by
       have Z:ia+1+1 ≠ a.size:=λq=>D (S1.mpr q);rw[g7];lia
      refine V1 (λ_=>wpS_pure ⟨q,.inr ⟨rfl,F,hf⟩⟩) (λ_=>wpS_pure ⟨q,rfl,F,hf.1,d,W1 (by lia) hf.2.2⟩)
    ·exact λz o n=>⟨n.1,.inr ⟨n.2.1,n.2.2.1,n.2.2.2.1,n.2.2.2.2.1,W1 (by lia) n.2.2.2.2.2⟩⟩
   ·intro z o n;have X:=n.1;refine unR (J:=λy:Array Keyed × Nat × Nat × Nat × Nat=>Lo S R a b y.1 y.2.1 y.2.2.1/\y.2.1+1<a.size/\y.2.2.1<b.size/\t+2<=y.1.size) z n.2 (λr x Y=>wpS_pure ⟨X,r,rfl,Y⟩) λhN=>?_;refine un6 (J:=λout ia ib _ _=>Lo S R a b out ia ib/\ia+1<a.size/\ib<b.size/\t+2<=out.size) z hN λout ia ib ac bc v=>?_;dsimp only;refine wpS_bind (L9 ?_);refine wpS_bind (wpS_mono (Q:=λ(z:Option (Array Keyed) × Array Keyed × Nat × Nat × Nat × Nat × Nat) st'=>Eqv st st'/\((∃ r,z.1=some r/\Fin2 R a b r)\/(z.1=none/\Lo S R a b z.2.1 z.2.2.1 z.2.2.2.1/\z.2.2.1+1<a.size/\z.2.2.2.1<b.size/\t+2<=z.2.1.size))) ?_ ?_)
    ·refine wpS_forRange (λi (z:Option (Array Keyed) × Array Keyed × Nat × Nat × Nat × Nat × Nat) st'=>Eqv st st'/\z.1=none/\Lo S R a b z.2.1 z.2.2.1 z.2.2.2.1/\z.2.2.1+1<a.size/\z.2.2.2.1<b.size/\t+2<=z.2.1.size) ?_ (λz o n=>⟨n.1,.inr n.2⟩) ⟨X,rfl,v⟩;intro i z o _ hi n;have q:=n.1;refine un7 (J:=λout ia ib _ _ _=>Lo S R a b out ia ib/\ia+1<a.size/\ib<b.size/\t+2<=out.size) z n.2 λout ia ib mg ac bc v=>?_;have l:=v.1;have I:=v.2.1;have d:=v.2.2.1;have hsz:=v.2.2.2;dsimp only;refine' jpn (M:=M) (A:=A) (E:=E) (s:=s) (st:=o) (β:=Nat) (P:=λ_=>True) (prog:=?prog) (λU=>?use) (λa9 _=>?pf)
     case use =>
      refine V1 (λhm=>?_) (λhm=>?_)
      ·generalize mg-1=m;exact U m trivial
      ·exact U mg trivial
     refine wpS_bind (wpS_mono (Q:=λ_ L=>Eqv o L) (wpS_modify ⟨rfl,rfl,rfl,rfl⟩) λ_ L H=>?_)
     replace H:=q.trans H
     refine wpS_bind (C3 (x:=b[ib]) (Y2 d) ?_);refine wpS_bind (nE C (N ib d) T.ha (by lia) (by rw[o8 (by simp)];exact W7 T.sa) (by lia) (H.k.trans hk) λk b1 h1 h2=>?_);rw[o8 (by simp),List.drop_drop] at h2;dsimp only;refine' jpn2 (M:=M) (A:=A) (E:=E) (s:=s) (st:=L) (P:=λj c=>Lo S R a b j c ib/\c+1<a.size/\(∀ x∈a.toList.drop c,R x b[ib]=false)/\t+2<=j.size) (prog:=?prog2) (λU=>?use2) (λj c h5=>?pf2)
     case use2 =>
      have u:∀ x∈a.toList.drop (ia+k),R x b[ib]=false:=λx w=>C.asy _ _ (N ib d) (T.ha x (P4 w)) (h2 x w);refine V1 (λk0=>?_) (λk0=>?_)
      ·have F:Lo S R a b (out++a.extract ia (ia+k)) (ia+k) ib:=l.runA (by lia) λx w y G=>by
        rw[u5 d] at G;have hd:Srt R (b[ib]::b.toList.drop (ib+1)):=by rw[← u5 d];exact W7 T.sb
        have sy:S y:=T.hb y (P4 (i:=ib) (by rw[u5 d];exact G));exact C.tr _ _ _ (T.ha x (P4 (M4 w))) (N ib d) sy (h1 x w) (Q9 C hd (N ib d) y G)
       refine V1 (λD=>wpS_pure ⟨H,.inl ⟨_,rfl,F.lastA T (S1.mp D)⟩⟩) (λD=>?_);refine V1 (λe4=>wpS_pure ⟨H,.inl ⟨_,rfl,F.doneA (.inr (S1.mp e4))⟩⟩) (λe4=>?_);have W:Lo S R a b (out++a.extract ia (ia+k)) (ia+k) ib/\ia+k+1<a.size/\(∀ x∈a.toList.drop (ia+k),R x b[ib]=false)/\t+2<=(out++a.extract ia (ia+k)).size:=by
        have Z:ia+k+1 ≠ a.size:=λq=>D (S1.mpr q);have a4:ia+k ≠ a.size:=λq=>e4 (S1.mpr q);exact⟨F,by lia,u,by rw[Array.size_append];lia⟩
       revert W;clear D e4 F u;generalize out++a.extract ia (ia+k)=j;generalize ia+k=c;intro W;exact U j c W
      ·have:k=0:=by lia
       rw[this] at u;exact U out ia ⟨l,I,u,hsz⟩
     have l3:=h5.1;have a1:=h5.2.1;have a2:=h5.2.2.1;have a3:=h5.2.2.2;have f:c<a.size:=Nat.lt_of_succ_lt a1;refine wpS_bind (C3 (x:=b[ib]) (Y2 d) ?_);have l4:=l3.pushB C T d a2;refine V1 (λe5=>wpS_pure ⟨H,.inl ⟨_,rfl,l4.doneA (.inl (S1.mp e5))⟩⟩) (λe5=>?_)
     replace e5:ib+1 ≠ b.size:=λq=>e5 (S1.mpr q)
     refine wpS_bind (C3 (x:=a[c]) (Y2 f) ?_);refine wpS_bind (rE C (O c f) T.hb (by lia) (by rw[o8 (by simp)];exact W7 T.sb) (by lia) (H.k.trans hk) λK a5 h3 h4=>?_);rw[o8 (by simp),List.drop_drop] at h4;dsimp only;refine' jpn2 (M:=M) (A:=A) (E:=E) (s:=s) (st:=L) (P:=λp B=>Lo S R a b p c B/\B<b.size/\(∀ y∈b.toList.drop B,R y a[c]=false)/\t+2<=p.size) (prog:=?prog3) (λU=>?use3) (λp B h6=>?pf3)
     case use3 =>
      refine V1 (λk0=>?_) (λk0=>?_)
      ·have hd:Srt R (a[c]::a.toList.drop (c+1)):=by rw[← u5 f];exact W7 T.sa
       have l5:Lo S R a b (j.push b[ib]++b.extract (ib+1) (ib+1+K)) c (ib+1+K):=l4.runB (by lia) λx w y G=>by
        rw[u5 f] at G;have sy:S y:=T.ha y (P4 (i:=c) (by rw[u5 f];exact G));have sx:S x:=T.hb x (P4 (M4 w));exact C.tr _ _ _ sx (O c f) sy (C.asy _ _ sx (O c f) (h3 x w)) (Q9 C hd (O c f) y G)
       refine V1 (λe6=>wpS_pure ⟨H,.inl ⟨_,rfl,l5.doneA (.inl (S1.mp e6))⟩⟩) (λe6=>?_);have W:Lo S R a b (j.push b[ib]++b.extract (ib+1) (ib+1+K)) c (ib+1+K)/\ib+1+K<b.size/\(∀ y∈b.toList.drop (ib+1+K),R y a[c]=false)/\t+2<=(j.push b[ib]++b.extract (ib+1) (ib+1+K)).size:=by
        have a8:ib+1+K ≠ b.size:=λq=>e6 (S1.mpr q);exact⟨l5,by lia,h4,by rw[Array.size_append,g7];lia⟩
       revert W;clear e6 l5 hd;generalize j.push b[ib]++b.extract (ib+1) (ib+1+K)=p;generalize ib+1+K=B;intro W;exact U p B W
      ·have:K=0:=by lia
       rw[this] at h4;exact U (j.push b[ib]) (ib+1) ⟨l4,by lia,h4,by rw[g7];lia⟩
     refine wpS_bind (C3 (x:=a[c]) (Y2 f) ?_);have l7:=h6.1.pushA f h6.2.2.1;refine V1 (λe7=>wpS_pure ⟨H,.inl ⟨_,rfl,l7.lastA T (S1.mp e7)⟩⟩) (λe7=>?_);have hf:c+1+1<a.size/\B<b.size/\t+2<=(p.push a[c]).size:=by
      have a6:c+1+1 ≠ a.size:=λq=>e7 (S1.mpr q);have h7:=h6.2.2.2;exact⟨by lia,h6.2.1,by rw[g7];lia⟩
     exact V1 (λ_=>wpS_pure ⟨H,.inr ⟨rfl,l7,hf⟩⟩) (λ_=>wpS_pure ⟨H,rfl,l7,hf⟩)
    ·intro z o n;have X:=n.1;refine unR (J:=λy:Array Keyed × Nat × Nat × Nat × Nat × Nat=>Lo S R a b y.1 y.2.1 y.2.2.1/\y.2.1+1<a.size/\y.2.2.1<b.size/\t+2<=y.1.size) z n.2 (λr x Y=>wpS_pure ⟨X,r,rfl,Y⟩) λhN=>?_;refine un7 (J:=λout ia ib _ _ _=>Lo S R a b out ia ib/\ia+1<a.size/\ib<b.size/\t+2<=out.size) z hN λout ia ib mg ac bc v=>?_;dsimp only;refine wpS_bind (wpS_modify ?_);exact wpS_pure ⟨X.trans ⟨rfl,rfl,rfl,rfl⟩,rfl,v⟩
  ·intro z o n;exfalso;have h1:=n.2.2.1.len;have h2:=n.2.2.2;have:a.size+b.size<=max 0 (a.size+b.size):=by lia
   lia
 ·intro z o n;have X:=n.1;exact unR (J:=λ_=>False) z (.inl n.2) (λr x Y=>wpS_pure (h r o X Y)) λhN=>hN.2.elim
structure MidH(R:Keyed->Keyed->Bool)(L a b tl:List Keyed):Prop where
 perm:(a++b++tl).Perm L
 so:Srt R tl
 le:∀ x∈a++b,∀ y∈tl,R y x=false
 sa:Srt R a
 sb:Srt R b
theorem MidH.takeA(m:MidH R L (a++p) b tl)(h:∀ x∈b,∀ y∈p,R y x=false):MidH R L a b (p++tl):=by
 have sp:=A3.mp m.sa;refine⟨List.Perm.trans ?_ m.perm,A3.mpr ⟨sp.2.1,m.so,λx c y d=>m.le x (z5 _ (Z2 _ c)) y d⟩,λx c y d=>?_,sp.1,m.sb⟩
 ·rw[← m3,m3 a p b,m3 a b p];exact List.Perm.append_right tl (List.Perm.append_left a List.perm_append_comm)
 ·rcases Q1.mp d with d|d
  ·rcases Q1.mp c with c|c
   ·exact sp.2.2 x c y d
   ·exact h x c y d
  ·refine m.le x ?_ y d;rcases Q1.mp c with c|c
   ·exact z5 _ (z5 _ c)
   ·exact Z2 _ c
theorem MidH.takeB(m:MidH R L a (b++p) tl)(h:∀ x∈a,∀ y∈p,R y x=false):MidH R L a b (p++tl):=by
 have sp:=A3.mp m.sb;refine⟨by have:=m.perm;simp only[m3] at this ⊢;exact this,A3.mpr ⟨sp.2.1,m.so,λx c y d=>m.le x (Z2 _ (Z2 _ c)) y d⟩,λx c y d=>?_,m.sa,sp.1⟩;rcases Q1.mp d with d|d
 ·rcases Q1.mp c with c|c
  ·exact h x c y d
  ·exact sp.2.2 x c y d
 ·refine m.le x ?_ y d;rcases Q1.mp c with c|c
  ·exact z5 _ c
  ·exact Z2 _ (z5 _ c)
theorem MidH.done(m:MidH R L a b tl)(h:a=[]\/b=[]):(a++b++tl).Perm L/\Srt R (a++b++tl):=by
 refine⟨m.perm,A3.mpr ⟨?_,m.so,m.le⟩⟩;rcases h with h|h
 ·subst h;exact m.sb
 ·subst h;rw[m5];exact m.sa
theorem MidH.first(m:MidH R L a b tl)(h:∀ y∈b,∀ x∈a,R x y=false):(b++a++tl).Perm L/\Srt R (b++a++tl):=by
 refine⟨List.Perm.trans (List.Perm.append_right tl List.perm_append_comm) m.perm,A3.mpr ⟨A3.mpr ⟨m.sb,m.sa,h⟩,m.so,λx c y d=>m.le x ?_ y d⟩⟩;rcases Q1.mp c with c|c
 ·exact Z2 _ c
 ·exact z5 _ c
theorem z6{a:Array Keyed}{i:Nat}(c:0<i)(h:i<=a.size):a.toList.take i=a.toList.take (i-1)++[a[i-1]'(by lia)]:=by
 obtain⟨j,rfl⟩:∃ j,i=j+1:=⟨i-1,by lia⟩
 rw[List.take_succ];have b:j<a.size:=by lia
 simp[b]
theorem VB(a:Array Keyed)(k:Nat):(a.extract 0 k).toList=a.toList.take k:=by
 rw[Array.toList_extract];simp[List.extract]
theorem LC(a:Array Keyed)(k n:Nat):(a.extract k n).toList=(a.toList.take n).drop k:=by
 rw[Array.toList_extract];simp[List.extract,List.drop_take]
structure Hi(S:Keyed->Prop)(R:Keyed->Keyed->Bool)(a b out:Array Keyed)(na nb:Nat):Prop where
 mid:MidH R (a.toList++b.toList) (a.toList.take na) (b.toList.take nb) out.toList.reverse
 na:na<=a.size
 nb:nb<=b.size
theorem Hi.len{a b out:Array Keyed}{na nb:Nat}(l:Hi S R a b out na nb):out.size+na+nb=a.size+b.size:=by
 have:=l.mid.perm.length_eq;have d:=l.na;have c:=l.nb;simp at this;lia
theorem Hi.doneA{a b out:Array Keyed}{na nb:Nat}(l:Hi S R a b out na nb)(h:na=0\/nb=0):Fin2 R a b (a.extract 0 na++b.extract 0 nb++out.reverse):=by
 have:=l.mid.done (by
  rcases h with h|h
  ·left;rw[h];simp
  ·right;rw[h];simp)
 unfold Fin2;rw[W4,W4,VB,VB,Array.toList_reverse];exact this
theorem Hi.firstB{a b out:Array Keyed}{na nb:Nat}(T:Two S R a b)(l:Hi S R a b out na nb)(h:nb=1):Fin2 R a b (b.extract 0 nb++a.extract 0 na++out.reverse):=by
 subst h;have:=l.mid.first (by
  intro y c x f;rw[z6 (by decide) l.nb] at c;have d:y=b[0]'T.b0:=by simpa using c
  exact T.first x (M4 f) y (by rw[d];exact Y2 _))
 unfold Fin2;rw[W4,W4,VB,VB,Array.toList_reverse];exact this
theorem M6(h:Srt R l):Srt R (l.take i):=List.Pairwise.sublist (List.take_sublist i l) h
theorem oA(C:Cmp M A E s κ S R)(h:Srt R (l++[x]))(b:S x):∀ y∈l++[x],R x y=false:=by
 intro y a;rcases Q1.mp a with a|a
 ·exact(A3.mp h).2.2 y a x (by simp)
 ·have:y=x:=by simpa using a
  rw[this];exact C.irr b
theorem Hi.pushA{a b out:Array Keyed}{na nb:Nat}(l:Hi S R a b out na nb)(d:0<na)(h:∀ x∈b.toList.take nb,R (a[na-1]'(by have:=l.na;lia)) x=false):Hi S R a b (out.push (a[na-1]'(by have:=l.na;lia))) (na-1) nb:=by
 refine⟨?_,by have:=l.na;lia,l.nb⟩;have m:=l.mid;rw[z6 d l.na] at m;rw[Array.toList_push,List.reverse_append];exact m.takeA (p:=[_]) (λx f y c=>by
  rw[O2.mp c];exact h x f)
theorem Hi.pushB{a b out:Array Keyed}{na nb:Nat}(l:Hi S R a b out na nb)(d:0<nb)(h:∀ x∈a.toList.take na,R (b[nb-1]'(by have:=l.nb;lia)) x=false):Hi S R a b (out.push (b[nb-1]'(by have:=l.nb;lia))) na (nb-1):=by
 refine⟨?_,l.na,by have:=l.nb;lia⟩;have m:=l.mid;rw[z6 d l.nb] at m;rw[Array.toList_push,List.reverse_append];exact m.takeB (p:=[_]) (λx f y c=>by
  rw[O2.mp c];exact h x f)
theorem Hi.runA{a b out:Array Keyed}{na nb k:Nat}(l:Hi S R a b out na nb)(d:k<=na)(h:∀ x∈b.toList.take nb,∀ y∈(a.toList.take na).drop k,R y x=false):Hi S R a b (out++(a.extract k na).reverse) k nb:=by
 refine⟨?_,by have:=l.na;lia,l.nb⟩;have m:=l.mid;rw[← C5 k (a.toList.take na)] at m;rw[W4,Array.toList_reverse,LC,List.reverse_append,List.reverse_reverse];have c:=m.takeA h;rw[List.take_take,Nat.min_eq_left d] at c;exact c
theorem Hi.runB{a b out:Array Keyed}{na nb k:Nat}(l:Hi S R a b out na nb)(d:k<=nb)(h:∀ x∈a.toList.take na,∀ y∈(b.toList.take nb).drop k,R y x=false):Hi S R a b (out++(b.extract k nb).reverse) na k:=by
 refine⟨?_,l.na,by have:=l.nb;lia⟩;have m:=l.mid;rw[← C5 k (b.toList.take nb)] at m;rw[W4,Array.toList_reverse,LC,List.reverse_append,List.reverse_reverse];have c:=m.takeB h;rw[List.take_take,Nat.min_eq_left d] at c;exact c
theorem IL (C:Cmp M A E s κ S R) {a b:Array Keyed} (T:Two S R a b) {Q:Array Keyed->SortSt->Prop} {st:SortSt} (hk:kindOf st = κ)
  (h:∀ m st',Eqv st st'->Fin2 R a b m->Q m st'):wpS M A E s (eR a b) Q st:=by
 have N:∀ i (h:i<a.size),S a[i]:=λi h=>T.ha _ (by simp);have L:∀ i (h:i<b.size),S b[i]:=λi h=>T.hb _ (by simp);have b0:=T.b0;have a0:=T.a0;have la:a.size-1<a.size:=by lia
 refine wpS_bind (L9 ?_);refine wpS_bind (C3 (x:=a[a.size-1]'la) (Y2 la) ?_);have l1:Hi S R a b #[a[a.size-1]'la] (a.size-1) b.size:=by
  have l0:Hi S R a b #[] a.size b.size:=⟨⟨by simp[o8],List.Pairwise.nil,λx g y Z=>by simp at Z,M6 T.sa,M6 T.sb⟩,M0 _,M0 _⟩
  exact l0.pushA a0 λx g=>T.last x (M4 g) _ (Y2 la)
 refine V1 (λe1=>wpS_pure (h _ _ (Eqv.refl _) (l1.doneA (.inl (S1.mp e1))))) (λe1=>?_);refine V1 (λe2=>wpS_pure (h _ _ (Eqv.refl _) (l1.firstB T (S1.mp e2)))) (λe2=>?_)
 replace e1:a.size-1 ≠ 0:=λq=>e1 (S1.mpr q)
 replace e2:b.size ≠ 1:=λq=>e2 (S1.mpr q)
 refine wpS_bind (wpS_get ?_)
 have a5:∀{na nb:Nat}(H:0<na)(I:na<=a.size)(O:0<nb)(U:nb<=b.size),R (b[nb-1]'(by lia)) (a[na-1]'(by lia))=true->∀ x∈b.toList.take nb,R (a[na-1]'(by lia)) x=false:=λ{na nb} H I O U er x g=>by
  have sx:S x:=T.hb x (M4 g);have hs:Srt R (b.toList.take (nb-1)++[b[nb-1]'(by lia)]):=by rw[← z6 O U];exact M6 T.sb
  rw[z6 O U] at g;exact C.tr _ _ _ sx (L _ _) (N _ _) (oA C hs (L _ _) x g) (C.asy _ _ (L _ _) (N _ _) er)
 have a4:∀{na nb:Nat}(H:0<na)(I:na<=a.size)(O:0<nb)(U:nb<=b.size),R (b[nb-1]'(by lia)) (a[na-1]'(by lia))=false->∀ x∈a.toList.take na,R (b[nb-1]'(by lia)) x=false:=λ{na nb} H I O U er x g=>by
  have sx:S x:=T.ha x (M4 g);have hs:Srt R (a.toList.take (na-1)++[a[na-1]'(by lia)]):=by rw[← z6 H I];exact M6 T.sa
  rw[z6 H I] at g;exact C.tr _ _ _ sx (N _ _) (L _ _) (oA C hs (N _ _) x g) er
 refine wpS_bind (wpS_mono (Q:=λ(z:Option (Array Keyed) × Nat × Nat × Array Keyed × Nat) st'=>Eqv st st'/\∃ r,z.1=some r/\Fin2 R a b r) ?_ ?_)
 ·refine wpS_forRange (λt (z:Option (Array Keyed) × Nat × Nat × Array Keyed × Nat) st'=>Eqv st st'/\z.1=none/\Hi S R a b z.2.2.2.1 z.2.1 z.2.2.1/\0<z.2.1/\1<z.2.2.1/\t+1<=z.2.2.2.1.size) ?_ ?_ ⟨Eqv.refl _,rfl,l1,by dsimp only;lia,by dsimp only;lia,by simp⟩
  ·intro t z b5 _ ht f;have q1:=f.1;refine un5 (J:=λna nb out _=>Hi S R a b out na nb/\0<na/\1<nb/\t+1<=out.size) z f.2 λna nb out mg o=>?_;dsimp only;refine wpS_bind (wpS_mono (Q:=λ(z:Option (Array Keyed) × Nat × Nat × Array Keyed × Nat × Nat) st'=>Eqv st st'/\((∃ r,z.1=some r/\Fin2 R a b r)\/(z.1=none/\Hi S R a b z.2.2.2.1 z.2.1 z.2.2.1/\0<z.2.1/\1<z.2.2.1/\t+2<=z.2.2.2.1.size))) ?_ ?_)
   ·refine wpS_forRange (λi (z:Option (Array Keyed) × Nat × Nat × Array Keyed × Nat × Nat) st'=>Eqv st st'/\z.1=none/\Hi S R a b z.2.2.2.1 z.2.1 z.2.2.1/\0<z.2.1/\1<z.2.2.1/\t+1+min i 1<=z.2.2.2.1.size) ?_ ?_ ⟨q1,rfl,o.1,o.2.1,o.2.2.1,o.2.2.2⟩
    ·intro i z j _ hi f;have q:=f.1;refine un6 (J:=λna nb out _ _=>Hi S R a b out na nb/\0<na/\1<nb/\t+1+min i 1<=out.size) z f.2 λna nb out ac bc o=>?_;have l:=o.1;have u:=o.2.1;have a2:=o.2.2.1;have hsz:=o.2.2.2;have ia:na-1<a.size:=by have:=l.na;lia
     have ib:nb-1<b.size:=by have:=l.nb;lia
     refine wpS_bind (C3 (x:=b[nb-1]) (Y2 ib) ?_);refine wpS_bind (C3 (x:=a[na-1]) (Y2 ia) ?_);refine wpS_bind (C.ask _ _ (L _ ib) (N _ ia) _ _ (q.k.trans hk) ?_);dsimp only;refine V1 (λer=>?_) (λer=>?_)
     ·refine wpS_bind (C3 (x:=a[na-1]) (Y2 ia) ?_);have D:=l.pushA u (a5 u l.na (by lia) l.nb er);refine V1 (λw=>wpS_pure ⟨q,.inl ⟨_,rfl,D.doneA (.inl (S1.mp w))⟩⟩) (λw=>?_);have hf:0<na-1/\1<nb/\t+2<=(out.push a[na-1]).size:=by
       have a3:na-1 ≠ 0:=λq=>w (S1.mpr q);rw[g7];lia
      exact V1 (λ_=>wpS_pure ⟨q,.inr ⟨rfl,D,hf⟩⟩) (λ_=>wpS_pure ⟨q,rfl,D,hf.1,a2,W1 (by lia) hf.2.2⟩)
     ·refine wpS_bind (C3 (x:=b[nb-1]) (Y2 ib) ?_);have D:=l.pushB (by lia) (a4 u l.na (by lia) l.nb (eq_false_of_ne_true er));refine V1 (λw=>wpS_pure ⟨q,.inl ⟨_,rfl,D.firstB T (S1.mp w)⟩⟩) (λw=>?_);have hf:1<nb-1/\t+2<=(out.push b[nb-1]).size:=by
       have a3:nb-1 ≠ 1:=λq=>w (S1.mpr q);rw[g7];lia
      exact V1 (λ_=>wpS_pure ⟨q,.inr ⟨rfl,D,u,hf⟩⟩) (λ_=>wpS_pure ⟨q,rfl,D,u,hf.1,W1 (by lia) hf.2⟩)
    ·exact λz j f=>⟨f.1,.inr ⟨f.2.1,f.2.2.1,f.2.2.2.1,f.2.2.2.2.1,W1 (by lia) f.2.2.2.2.2⟩⟩
   ·intro z j f;have q2:=f.1;refine unR (J:=λy:Nat × Nat × Array Keyed × Nat × Nat=>Hi S R a b y.2.2.1 y.1 y.2.1/\0<y.1/\1<y.2.1/\t+2<=y.2.2.1.size) z f.2 (λr x hr=>wpS_pure ⟨q2,r,rfl,hr⟩) λhN=>?_;refine un6 (J:=λna nb out _ _=>Hi S R a b out na nb/\0<na/\1<nb/\t+2<=out.size) z hN λna nb out ac bc o=>?_;dsimp only;refine wpS_bind (L9 ?_);refine wpS_bind (wpS_mono (Q:=λ(z:Option (Array Keyed) × Nat × Nat × Array Keyed × Nat × Nat × Nat) st'=>Eqv st st'/\((∃ r,z.1=some r/\Fin2 R a b r)\/(z.1=none/\Hi S R a b z.2.2.2.1 z.2.1 z.2.2.1/\0<z.2.1/\1<z.2.2.1/\t+2<=z.2.2.2.1.size))) ?_ ?_)
    ·refine wpS_forRange (λi (z:Option (Array Keyed) × Nat × Nat × Array Keyed × Nat × Nat × Nat) st'=>Eqv st st'/\z.1=none/\Hi S R a b z.2.2.2.1 z.2.1 z.2.2.1/\0<z.2.1/\1<z.2.2.1/\t+2<=z.2.2.2.1.size) ?_ (λz j f=>⟨f.1,.inr f.2⟩) ⟨q2,rfl,o⟩;intro i z j _ hi f;have q:=f.1;refine un7 (J:=λna nb out _ _ _=>Hi S R a b out na nb/\0<na/\1<nb/\t+2<=out.size) z f.2 λna nb out mg ac bc o=>?_;have l:=o.1;have u:=o.2.1;have a2:=o.2.2.1;have hsz:=o.2.2.2;have b3:=l.na;have X:=l.nb;have ib:nb-1<b.size:=by lia
     dsimp only;refine' jpn (M:=M) (A:=A) (E:=E) (s:=s) (st:=j) (β:=Nat) (P:=λ_=>True) (prog:=?prog) (λW=>?use) (λb7 _=>?pf)
     case use =>
      refine V1 (λhm=>?_) (λhm=>?_)
      ·generalize mg-1=m;exact W m trivial
      ·exact W mg trivial
     refine wpS_bind (wpS_mono (Q:=λ_ K=>Eqv j K) (wpS_modify ⟨rfl,rfl,rfl,rfl⟩) λ_ K B=>?_)
     replace B:=q.trans B
     refine wpS_bind (C3 (x:=b[nb-1]) (Y2 ib) ?_);refine wpS_bind (nE C (L _ ib) T.ha (by lia) (by rw[List.drop_zero];exact M6 T.sa) (by lia) (B.k.trans hk) λk b2 H I=>?_);rw[List.drop_zero] at H I;dsimp only;generalize hac:na-k=ac2;refine' jpn2 (M:=M) (A:=A) (E:=E) (s:=s) (st:=K) (P:=λd c=>Hi S R a b d c nb/\0<c/\(∀ x∈a.toList.take c,R b[nb-1] x=false)/\t+2<=d.size) (prog:=?prog2) (λW=>?use2) (λd c h5=>?pf2)
     case use2 =>
      refine V1 (λk0=>?_) (λk0=>?_)
      ·have b1:Srt R (b.toList.take (nb-1)++[b[nb-1]]):=by rw[← z6 (by lia) X];exact M6 T.sb
       have D:Hi S R a b (out++(a.extract k na).reverse) k nb:=l.runA b2 λx g y Z=>by
        have sx:S x:=T.hb x (M4 g);have sy:S y:=T.ha y (M4 (P4 Z));rw[z6 (by lia) X] at g;exact C.tr _ _ _ sx (L _ ib) sy (oA C b1 (L _ ib) x g) (C.asy _ _ (L _ ib) sy (I y Z))
       refine V1 (λw=>wpS_pure ⟨B,.inl ⟨_,rfl,D.doneA (.inl (S1.mp w))⟩⟩) (λw=>?_);have hP:Hi S R a b (out++(a.extract k na).reverse) k nb/\0<k/\(∀ x∈a.toList.take k,R b[nb-1] x=false)/\t+2<=(out++(a.extract k na).reverse).size:=by
        have a3:k ≠ 0:=λq=>w (S1.mpr q);exact⟨D,by lia,H,by rw[Array.size_append];lia⟩
       revert hP;clear w D;generalize out++(a.extract k na).reverse=d;generalize k=c;intro hP;exact W d c hP
      ·have:k=na:=by lia
       rw[this] at H;exact W out na ⟨l,u,H,hsz⟩
     have l3:=h5.1;have F:=h5.2.1;have a6:=h5.2.2.1;have b4:=h5.2.2.2;have G:=l3.na;have ia:c-1<a.size:=by lia
     refine wpS_bind (C3 (x:=b[nb-1]) (Y2 ib) ?_);have l4:=l3.pushB (by lia) a6;refine V1 (λe5=>wpS_pure ⟨B,.inl ⟨_,rfl,l4.firstB T (S1.mp e5)⟩⟩) (λe5=>?_)
     replace e5:nb-1 ≠ 1:=λq=>e5 (S1.mpr q)
     refine wpS_bind (C3 (x:=a[c-1]) (Y2 ia) ?_);refine wpS_bind (rE C (N _ ia) T.hb (by lia) (by rw[List.drop_zero];exact M6 T.sb) (by lia) (B.k.trans hk) λv a7 O U=>?_);rw[List.drop_zero] at O U;dsimp only;generalize hbc:nb-1-v=bc2;refine' jpn2 (M:=M) (A:=A) (E:=E) (s:=s) (st:=K) (P:=λn p=>Hi S R a b n c p/\1<p/\(∀ x∈b.toList.take p,R a[c-1] x=false)/\t+2<=n.size) (prog:=?prog3) (λW=>?use3) (λn p h6=>?pf3)
     case use3 =>
      have a1:∀ x∈b.toList.take v,R a[c-1] x=false:=λx g=>C.asy _ _ (T.hb x (M4 g)) (N _ ia) (O x g);refine V1 (λk0=>?_) (λk0=>?_)
      ·have a9:Srt R (a.toList.take (c-1)++[a[c-1]]):=by rw[← z6 F G];exact M6 T.sa
       have l5:Hi S R a b (d.push b[nb-1]++(b.extract v (nb-1)).reverse) c v:=l4.runB a7 λx g y Z=>by
        have sx:S x:=T.ha x (M4 g);have sy:S y:=T.hb y (M4 (P4 Z));rw[z6 F G] at g;exact C.tr _ _ _ sx (N _ ia) sy (oA C a9 (N _ ia) x g) (U y Z)
       refine V1 (λe6=>wpS_pure ⟨B,.inl ⟨_,rfl,l5.firstB T (S1.mp e6)⟩⟩) (λe6=>?_);refine V1 (λY=>wpS_pure ⟨B,.inl ⟨_,rfl,l5.doneA (.inr (S1.mp Y))⟩⟩) (λY=>?_);have hP:Hi S R a b (d.push b[nb-1]++(b.extract v (nb-1)).reverse) c v/\1<v/\(∀ x∈b.toList.take v,R a[c-1] x=false)/\t+2<=(d.push b[nb-1]++(b.extract v (nb-1)).reverse).size:=by
        have b6:v ≠ 1:=λq=>e6 (S1.mpr q);have a8:v ≠ 0:=λq=>Y (S1.mpr q);exact⟨l5,by lia,a1,by rw[Array.size_append,g7];lia⟩
       revert hP;clear e6 Y l5;generalize d.push b[nb-1]++(b.extract v (nb-1)).reverse=n;generalize v=p;intro hP;exact W n p hP
      ·have:v=nb-1:=by lia
       rw[this] at a1;exact W (d.push b[nb-1]) (nb-1) ⟨l4,by lia,a1,by rw[g7];lia⟩
     refine wpS_bind (C3 (x:=a[c-1]) (Y2 ia) ?_);have l7:=h6.1.pushA F h6.2.2.1;refine V1 (λY=>wpS_pure ⟨B,.inl ⟨_,rfl,l7.doneA (.inl (S1.mp Y))⟩⟩) (λY=>?_);have hf:0<c-1/\1<p/\t+2<=(n.push a[c-1]).size:=by
      have a8:c-1 ≠ 0:=λq=>Y (S1.mpr q);have h7:=h6.2.2.2;exact⟨by lia,h6.2.1,by rw[g7];lia⟩
     exact V1 (λ_=>wpS_pure ⟨B,.inr ⟨rfl,l7,hf⟩⟩) (λ_=>wpS_pure ⟨B,rfl,l7,hf⟩)
    ·intro z j f;have q2:=f.1;refine unR (J:=λy:Nat × Nat × Array Keyed × Nat × Nat × Nat=>Hi S R a b y.2.2.1 y.1 y.2.1/\0<y.1/\1<y.2.1/\t+2<=y.2.2.1.size) z f.2 (λr x hr=>wpS_pure ⟨q2,r,rfl,hr⟩) λhN=>?_;refine un7 (J:=λna nb out _ _ _=>Hi S R a b out na nb/\0<na/\1<nb/\t+2<=out.size) z hN λna nb out mg ac bc o=>?_;dsimp only;refine wpS_bind (wpS_modify ?_);exact wpS_pure ⟨q2.trans ⟨rfl,rfl,rfl,rfl⟩,rfl,o⟩
  ·intro z j f;exfalso;have H:=f.2.2.1.len;have I:=f.2.2.2;have:a.size+b.size<=max 0 (a.size+b.size):=by lia
   lia
 ·intro z j f;have q2:=f.1;exact unR (J:=λ_=>False) z (.inl f.2) (λr x hr=>wpS_pure (h r j q2 hr)) λhN=>hN.2.elim
theorem qJ(base:Nat):∀(b v u w:List Keyed)(j:Nat)(xs:Array Keyed),xs.toList=u++v++w->v.length=b.length->u.length=base+j ->
  ((b.zipIdx j).foldl (λa x=>match x with|(p,j)=>a.setIfInBounds (base+j) p) xs).toList=u++b++w
 | [],v,u,w,j,xs,h1,h2,h3=>by
  have:v=[]:=gC h2;subst this;exact h1
 | m::b,v,u,w,j,xs,h1,h2,h3=>by
  cases v with
  |nil=>cases h2
  | cons y v =>
   rw[List.zipIdx_cons,List.foldl_cons];have c:=qJ base b v (u++[m]) w (j+1) (xs.setIfInBounds (base+j) m) (by
    rw[Array.toList_setIfInBounds,h1,← h3];simp[List.set_append]) (by simpa using h2) (by simp[h3];lia)
   rw[c];simp
theorem sP{σ:Type}{st st' : σ}{Q:PUnit->σ->Prop}(h:Q ⟨⟩ st'):wpS M A E s (set st':StateT σ Sem PUnit) Q st:=by
 unfold wpS;rw[StateT.run_set];exact N0 ⟨rfl,h⟩
theorem CM(C:Cmp M A E s κ S R){st:SortSt}{i pw pw2:Nat}{pre a b g:List Keyed}(F:(arrOf st).toList=pre++a++b++g)(hS:∀ x∈(arrOf st).toList,S x)
  (a6:(pendingOf st)[i]?=some (pre.length,a.length,pw)) (a3:(pendingOf st)[i+1]?=some (pre.length+a.length,b.length,pw2)) (na:a ≠ []) (nb:b ≠ []) (U:Srt R a) (O:Srt R b) (hk:kindOf st = κ) (hf:failedOf st=none)
  {Q:Bool->SortSt->Prop}
  (h:∀ st' m,kindOf st' = κ->failedOf st'=none->pendingOf st'=((pendingOf st).setIfInBounds i (pre.length,a.length+b.length,pw)).eraseIdxIfInBounds (i+1)->(arrOf st').toList=pre++m++g->m.Perm (a++b)->Srt R m->Q true st') :
  wpS M A E s (aJ i) Q st:=by
 have la:0<a.length:=y6.mpr na;have lb:0<b.length:=y6.mpr nb;have K:∀ x∈a,S x:=λx c=>hS x (by rw[F];simp[c]);have L:∀ x∈b,S x:=λx c=>hS x (by rw[F];simp[c]);have lx:(arrOf st).size=pre.length+a.length+b.length+g.length:=by
  have:=congrArg List.length F;simp at this;lia
 have D:((arrOf st).toList.drop pre.length).take a.length=a:=by rw[F];simp[m3]
 have w:((arrOf st).toList.drop (pre.length+a.length)).take b.length=b:=by
  rw[show pre.length+a.length=(pre++a).length by simp,F,m3 (pre++a),List.drop_left,List.take_left]
 refine wpS_bind (wpS_get ?_);rw[a6,a3];refine wpS_bind (wpS_mono (Q:=λ_ n=>kindOf n = κ/\failedOf n=none/\arrOf n=arrOf st/\pendingOf n=((pendingOf st).setIfInBounds i (pre.length,a.length+b.length,pw)).eraseIdxIfInBounds (i+1)) (sP ⟨hk,hf,rfl,rfl⟩) λ_ n ⟨W,f1,a1,p1⟩=>?_);obtain⟨b0,bt,eb⟩:∃ b0 bt,b=b0::bt:=by cases b with|nil=>exact absurd rfl nb|cons x r=>exact⟨x,r,rfl⟩
 have a7:(arrOf st)[pre.length+a.length]?=some b0:=by
  rw[← V5,F,eb];simp[List.getElem?_append]
 have v:S b0:=L b0 (by rw[eb];simp);have B:∀ y∈b,R y b0=false:=λy d=>by rw[eb] at d O;exact Q9 C O v y d
 -- nothing is laid together: the two stand in order already
 have plain:(∀ x∈a,∀ y∈b,R y x=false)->∀ st',Eqv n st'->Q true st':=λhc st' q=>by
  refine h st' (a++b) (q.k.trans W) (q.f.trans f1) (q.p.trans p1) ?_ (List.Perm.refl _) (A3.mpr ⟨U,O,hc⟩);rw[q.a,a1,F];simp[m3]
 refine wpS_bind (C3 a7 ?_);refine wpS_bind (nE C v hS (by lia) (by rw[D];exact U) la W λk a9 h1 h2=>?_);rw[D] at h2;have G:∀ x∈a.take k,R b0 x=false:=λx c=>h1 x (by
  have:((arrOf st).toList.drop pre.length).take k=a.take k:=by rw[← D,List.take_take,Nat.min_eq_left a9]
  rw[this];exact c)
 dsimp only;refine V1 (λe=>?_) (λe=>?_)
 ·have e':a.length-k=0:=by simpa using e
  refine wpS_pure (plain (λx c y d=>?_) n (Eqv.refl _));have:a.take k=a:=o8 (by lia);rw[this] at G;exact C.tr x b0 y (K x c) v (L y d) (G x c) (B y d)
 ·have e':a.length-k ≠ 0:=by simpa using e
  -- the last of a
  have N:pre.length+k+(a.length-k)-1=pre.length+(a.length-1):=by lia
  have o:a.length-1<a.length:=by lia
  have a8:(arrOf st)[pre.length+k+(a.length-k)-1]?=some (a[a.length-1]'o):=by
   rw[← V5,F,N];simp[List.getElem?_append,o,m3]
  have Sl:S (a[a.length-1]'o):=K _ (U7 o);have u:a=a.take (a.length-1)++[a[a.length-1]'o]:=by
   have:=List.take_succ (l:=a) (i:=a.length-1);rw[show a.length-1+1=a.length by lia,Q6] at this;simpa[o] using this
  have J:∀ x∈a,R (a[a.length-1]'o) x=false:=λx c=>by
   have hs:Srt R (a.take (a.length-1)++[a[a.length-1]'o]):=by rw[← u];exact U
   exact oA C hs Sl x (by rw[← u];exact c)
  refine wpS_bind (C3 a8 ?_);refine wpS_bind (rE C Sl hS (by lia) (by rw[w];exact O) (by lia) W λj a5 h3 h4=>?_);rw[w] at h4;have Z:((arrOf st).toList.drop (pre.length+a.length)).take j=b.take j:=by rw[← w,List.take_take,Nat.min_eq_left a5]
  rw[Z] at h3;dsimp only;refine V1 (λe2=>?_) (λe2=>?_)
  ·have a0:j=0:=by simpa using e2
   subst a0;refine wpS_pure (plain (λx c y d=>?_) n (Eqv.refl _));exact C.tr x _ y (K x c) Sl (L y d) (J x c) (h4 y (by simpa using d))
  ·have a0:j ≠ 0:=by simpa using e2
   have ex:((arrOf st).extract (pre.length+k) (pre.length+a.length)).toList=a.drop k:=by
    rw[LC,F];simp[m3,List.take_append,List.drop_append]
   have P:((arrOf st).extract (pre.length+a.length) (pre.length+a.length+j)).toList=b.take j:=by
    rw[iE,Z]
   generalize hX:(arrOf st).extract (pre.length+k) (pre.length+a.length)=X at ex;generalize hY:(arrOf st).extract (pre.length+a.length) (pre.length+a.length+j)=Y at P;have sX:X.size=a.length-k:=by have:=congrArg List.length ex;simpa using this
   have sY:Y.size=j:=by have:=congrArg List.length P;simp at this;lia
   have T:Two S R X Y:=by
    refine⟨λx c=>K x (P4 (by rw[← ex];exact c)),λx c=>L x (M4 (by rw[← P];exact c)),by rw[ex];exact W7 U,by rw[P];exact M6 O,by lia,by lia,λx c y d=>?_,λy d x c=>?_⟩
    ·rw[← V5,P,eb] at d;have:y=b0:=by
      obtain⟨j',rfl⟩:∃ j',j=j'+1:=⟨j-1,by lia⟩
      simpa using d.symm
     rw[this];rw[ex] at c;exact C.asy _ _ v (K x (P4 c)) (h2 x c)
    ·rw[← V5,ex,sX] at c;rw[Z9,show k+(a.length-k-1)=a.length-1 by lia,Y0 o] at c;cases c;rw[P] at d;exact C.asy _ _ (L y (M4 d)) Sl (h3 y d)
   have fin:∀(m:Array Keyed)(st':SortSt),Eqv n st'->Fin2 R X Y m->wpS M A E s (do
     modify λ(z:SortSt)=>setArr z (List.foldl (λa x=>match x with|(p,j)=>a.setIfInBounds (pre.length+k+j) p) (arrOf z) m.toList.zipIdx)
     let z ← get
     pure (failedOf z).isNone) Q st':=by
    intro m st' q ⟨H,ms⟩;rw[ex,P] at H;refine wpS_bind (wpS_modify ?_);refine wpS_bind (wpS_get ?_);refine wpS_pure ?_;show Q (failedOf st').isNone _;rw[q.f,f1];have lm:m.toList.length=(a.drop k).length+(b.take j).length:=by rw[H.length_eq,f3]
    have I:∀ z∈m.toList,z∈a.drop k\/z∈b.take j:=λz hz=>Q1.mp (H.mem_iff.mp hz);refine h _ (a.take k++m.toList++b.drop j) (q.k.trans W) (q.f.trans f1) (q.p.trans p1) ?_ ?_ ?_
    ·show(List.foldl _ (arrOf st') m.toList.zipIdx).toList=_;have base:(arrOf st').toList=(pre++a.take k)++(a.drop k++b.take j)++(b.drop j++g):=by
      rw[q.a,a1,F];have t1:=C5 k a;have t2:=C5 j b
      calc pre++a++b++g=pre++(a.take k++a.drop k)++(b.take j++b.drop j)++g:=by rw[t1,t2]
       _=_:=by simp only[m3]
     have:=qJ (pre.length+k) m.toList (a.drop k++b.take j) (pre++a.take k) (b.drop j++g) 0 (arrOf st') base (by rw[f3,lm]) (by rw[f3,Q7];lia);rw[this];simp only[m3]
    ·have t1:=C5 k a;have t2:=C5 j b
     calc (a.take k++m.toList++b.drop j).Perm (a.take k++(a.drop k++b.take j)++b.drop j):=List.Perm.append_right _ (List.Perm.append_left _ H)
      _ = a++b:=by
       simp only[m3];rw[t2,← m3,t1]
    ·have a4:Srt R (a.take k++a.drop k):=by rw[C5];exact U
     have a2:Srt R (b.take j++b.drop j):=by rw[C5];exact O
     have ca:=(A3.mp a4).2.2;have cb:=(A3.mp a2).2.2;refine A3.mpr ⟨A3.mpr ⟨M6 U,ms,λx c y d=>?_⟩,W7 O,λx c y d=>?_⟩
     ·rcases I y d with d|d
      ·exact ca x c y d
      ·exact C.tr x b0 y (K x (M4 c)) v (L y (M4 d)) (G x c) (B y (M4 d))
     ·have Sy:=L y (P4 d);rcases Q1.mp c with c|c
      ·exact C.tr x b0 y (K x (M4 c)) v Sy (G x c) (B y (P4 d))
      ·rcases I x c with c|c
       ·exact C.tr x _ y (K x (P4 c)) Sl Sy (J x (P4 c)) (h4 y d)
       ·exact cb x c y d
   refine V1 (λe3=>?_) (λe3=>?_)
   ·exact wpS_bind (yK C T W λm st' q fm=>fin m st' q fm)
   ·exact wpS_bind (IL C T W λm st' q fm=>fin m st' q fm)
def e(xs:Array Keyed)(k:Nat):Keyed:=(xs[k]?).getD (.none,.none)
theorem kC(h:k<xs.size):xs[k]?=some (e xs k):=by
 unfold e;rw[Y2 h];rfl
def Asc(R:Keyed->Keyed->Bool)(xs:Array Keyed)(l h:Nat):Prop:=∀ i j,l<=i->i<=j->j<h->R (e xs j) (e xs i)=false
def Des(R:Keyed->Keyed->Bool)(xs:Array Keyed)(l h:Nat):Prop:=∀ i j,l<=i->i<=j->j<h->R (e xs i) (e xs j)=false
structure Bs(κ:SortKind)(p0:Array (Nat × Nat × Nat))(a0:Array Keyed)(lo:Nat)(st:SortSt):Prop where
 k:kindOf st = κ
 f:failedOf st=none
 p:pendingOf st=p0
 perm:(arrOf st).toList.Perm a0.toList
 pre:∀ k,k<lo->(arrOf st)[k]?=a0[k]?
theorem HL(hs:src<xs.size)(hd:d<=src)(k:Nat):e (bubble xs src d) k=if k=src-d then e xs src else if src-d<k/\k<=src then e xs (k-1) else e xs k:=by
 unfold e;rw[getElem?_bubble hs d hd]
 repeat' split
 all_goals rfl
theorem P8(a:j<=xs.size)(k:Nat):e (mirror xs i j ((j-i) / 2)) k=if i<=k/\k<j then e xs (i+j-1-k) else e xs k:=by
 unfold e;rw[getElem?_mirror_all a];split <;> rfl
section
variable{M:Model}{A:Around}{E:Value->Shared->Prop}{s:Shared}{κ:SortKind}{S:Keyed->Prop}{R:Keyed->Keyed->Bool}{p0:Array (Nat × Nat × Nat)}{a0:Array Keyed}{lo:Nat}
theorem Bs.size{st:SortSt}(B:Bs κ p0 a0 lo st):(arrOf st).size=a0.size:=by
 have:=B.perm.length_eq;simpa using this
theorem Bs.sat{st:SortSt}(B:Bs κ p0 a0 lo st)(b:∀ x∈a0.toList,S x){k:Nat}(a:k<a0.size):S (e (arrOf st) k):=by
 have h:=kC (xs:=arrOf st) (k:=k) (by rw[B.size];exact a);refine b _ (B.perm.mem_iff.mp ?_);rw[← V5] at h;exact i3 h
theorem LA(C:Cmp M A E s κ S R)(a:∀ x∈a0.toList,S x){st:SortSt}(B:Bs κ p0 a0 lo st){i j:Nat}(hi:i<a0.size)(b:j<a0.size){Q:Option Bool->SortSt->Prop}(h:Q (some (R (e (arrOf st) i) (e (arrOf st) j))) st) :
  wpS M A E s (ltAt' i j) Q st:=by
 rw[ltAt'_eq];refine wpS_bind (wpS_get ?_);refine wpS_bind (C3 (kC (by rw[B.size];exact hi)) ?_);refine wpS_bind (C3 (kC (by rw[B.size];exact b)) ?_);exact C.ask _ _ (B.sat a hi) (B.sat a b) _ _ B.k h
theorem EJ(C:Cmp M A E s κ S R)(b:∀ k,k<=h->S (e xs k))(f:l<h)(a:Asc R xs l h)(n:R (e xs h) (e xs (h-1))=false):Asc R xs l (h+1):=by
 intro i j c d g;by_cases hj:j=h
 ·subst hj;by_cases hi:i=j
  ·subst hi;exact C.irr (b _ (M0 _))
  ·exact C.tr _ (e xs (j-1)) _ (b _ (by lia)) (b _ (by lia)) (b _ (by lia)) (a i (j-1) c (by lia) (by lia)) n
 ·exact a i j c d (by lia)
theorem wC(C:Cmp M A E s κ S R)(b:∀ k,k<=h->S (e xs k))(f:l<h)(a:Des R xs l h)(n:R (e xs (h-1)) (e xs h)=false):Des R xs l (h+1):=by
 intro i j c d g;by_cases hj:j=h
 ·subst hj;by_cases hi:i=j
  ·subst hi;exact C.irr (b _ (M0 _))
  ·exact C.tr _ (e xs (j-1)) _ (b _ (by lia)) (b _ (by lia)) (b _ (by lia)) n (a i (j-1) c (by lia) (by lia))
 ·exact a i j c d (by lia)
theorem Bs.set{st:SortSt}(B:Bs κ p0 a0 lo st){xs:Array Keyed}(b:xs.Perm (arrOf st))(c:∀ k,k<lo->xs[k]?=(arrOf st)[k]?):Bs κ p0 a0 lo (setArr st xs) :=
 ⟨B.k,B.f,B.p,b.toList.trans B.perm,λk a=>(c k a).trans (B.pre k a)⟩
theorem SL (C:Cmp M A E s κ S R) (F:∀ x∈a0.toList,S x) {st:SortSt} (B:Bs κ p0 a0 lo st) {n ok:Nat} (hn:lo+n<=a0.size) (hok:ok<=n) (O:1<=n) (hs:Asc R (arrOf st) lo (lo+ok)) {Q:Bool->SortSt->Prop}
  (h:∀ st',Bs κ p0 a0 lo st'->Asc R (arrOf st') lo (lo+n)->Q true st'):wpS M A E s (oP lo n ok) Q st:=by
 refine wpS_bind (wpS_mono (Q:=λ(z:Option Bool × Unit) st'=>z.1=none/\Bs κ p0 a0 lo st'/\Asc R (arrOf st') lo (lo+n)) ?_ ?_)
 ·refine wpS_forRange (λk (z:Option Bool × Unit) st'=>z.1=none/\Bs κ p0 a0 lo st'/\Asc R (arrOf st') lo (lo+k)) ?_ ?_ ⟨rfl,B,λi j f m u=>?_⟩
  ·rintro k ⟨o,_⟩ b K J ⟨rfl,q,as⟩;have d:∀ j,j<lo+n->S (e (arrOf b) j):=λj v=>q.sat F (by lia);refine wpS_bind (wpS_mono (Q:=λ(z:Option Bool × Nat × Nat) st'=>st'=b/\z.1=none/\z.2.1<=k/\(∀ i,i<z.2.1->R (e (arrOf b) (lo+k)) (e (arrOf b) (lo+i))=false)/\(∀ i,z.2.1<=i->i<k->R (e (arrOf b) (lo+k)) (e (arrOf b) (lo+i))=true)) ?_ ?_)
   ·refine wpS_forRange (λt (z:Option Bool × Nat × Nat) st'=>st'=b/\z.1=none/\z.2.1<=z.2.2/\z.2.2<=k/\z.2.2-z.2.1+t<=k/\(∀ i,i<z.2.1->R (e (arrOf b) (lo+k)) (e (arrOf b) (lo+i))=false)/\(∀ i,z.2.2<=i->i<k->R (e (arrOf b) (lo+k)) (e (arrOf b) (lo+i))=true)) ?_ ?_
     ⟨rfl,rfl,Nat.zero_le _,Nat.le_refl _,by dsimp only;lia,λi hi=>absurd hi (Nat.not_lt_zero _),λi f m=>by dsimp only at f;lia⟩
    ·rintro t ⟨o,l,r⟩ a _ N ⟨rfl,c,f,m,u,g,p⟩;dsimp only at c f m u g p ⊢;subst c;refine V1 (λw=>?_) (λw=>?_)
     ·have:l=r:=by lia
      subst this;exact wpS_pure ⟨rfl,rfl,m,g,p⟩
     ·have hm:(l+r) / 2<r:=by lia
      have y:l<=(l+r) / 2:=by lia
      refine wpS_bind (LA C F q (by lia) (by lia) ?_);dsimp only;cases er:R (e (arrOf a) (lo+k)) (e (arrOf a) (lo+(l+r) / 2)) with
      | true =>
       rw[q0 rfl];refine wpS_pure ⟨rfl,rfl,y,by dsimp only;lia,by dsimp only;lia,g,λi i1 D=>?_⟩;dsimp only at i1;cases e2:R (e (arrOf a) (lo+k)) (e (arrOf a) (lo+i)) with
       |true=>rfl
       | false =>
        have:=C.tr _ _ _ (d _ (by lia)) (d _ (by lia)) (d _ (by lia)) (as (lo+(l+r) / 2) (lo+i) (by lia) (by lia) (by lia)) e2;rw[this] at er;cases er
      | false =>
       rw[o0 (by decide)];refine wpS_pure ⟨rfl,rfl,by dsimp only;lia,m,by dsimp only;lia,λi i1=>?_,p⟩;dsimp only at i1;exact C.tr _ _ _ (d _ (by lia)) (d _ (by lia)) (d _ (by lia)) (as (lo+i) (lo+(l+r) / 2) (by lia) (by lia) (by lia)) er
    ·rintro⟨o,l,r⟩ a ⟨rfl,c,f,m,u,g,p⟩;dsimp only at c f m u g p ⊢
     have : l = r := by have:k ≤ max 0 k := by lia
                        lia
     subst this;exact⟨rfl,c,m,g,p⟩
   ·rintro⟨o,l,r⟩ a ⟨rfl,c,f,g,p⟩;dsimp only at c f g p ⊢;subst c;dsimp only;have hsz:lo+k<(arrOf a).size:=by rw[q.size];lia
    have hd:(lo+k)-(lo+l)=k-l:=by lia
    refine wpS_bind (wpS_modify ?_);have H:∀ j,e (bubble (arrOf a) (lo+k) (lo+k-(lo+l))) j=if j=lo+l then e (arrOf a) (lo+k) else if lo+l<j/\j<=lo+k then e (arrOf a) (j-1) else e (arrOf a) j:=λj=>by
     rw[HL hsz (by lia),show lo+k-(lo+k-(lo+l))=lo+l by lia]
    refine wpS_pure ⟨rfl,q.set (bubble_perm _ _ _) (λj v=>?_),λi j i1 D L=>?_⟩
    ·show(bubble (arrOf a) (lo+k) (lo+k-(lo+l)))[j]?=_;rw[getElem?_bubble hsz _ (by lia),o0 (by lia),o0 (by lia)]
    ·show R (e (bubble (arrOf a) (lo+k) (lo+k-(lo+l))) j) (e (bubble (arrOf a) (lo+k) (lo+k-(lo+l))) i)=false;rw[H,H];have I:∀ j,j<lo+n->S (e (arrOf a) j):=d;by_cases j1:j=lo+l
     ·rw[q0 j1];by_cases i4:i=lo+l
      ·rw[q0 i4];exact C.irr (d _ (by lia))
      ·rw[o0 i4,o0 (by lia)];have:=g (i-lo) (by lia);rw[show lo+(i-lo)=i by lia] at this;exact this
     ·rw[o0 j1];by_cases j2:lo+l<j/\j<=lo+k
      ·rw[q0 j2];have G:=p (j-1-lo) (by lia) (by lia);rw[show lo+(j-1-lo)=j-1 by lia] at G;by_cases i4:i=lo+l
       ·rw[q0 i4];exact C.asy _ _ (d _ (by lia)) (d _ (by lia)) G
       ·rw[o0 i4];by_cases i5:lo+l<i/\i<=lo+k
        ·rw[q0 i5];exact as (i-1) (j-1) (by lia) (by lia) (by lia)
        ·rw[o0 i5];exact as i (j-1) (by lia) (by lia) (by lia)
      ·rw[o0 j2,o0 (by lia),o0 (by lia)];exact as i j (by lia) (by lia) (by lia)
  ·rintro⟨o,_⟩ b ⟨c,q,as⟩;exact⟨c,q,λi j i1 D L=>as i j i1 D (by lia)⟩
  ·by_cases v:j<lo+ok
   ·exact hs i j f m v
   ·have:i=j:=by lia
    subst this;exact C.irr (B.sat F (by lia))
 ·rintro⟨o,_⟩ b ⟨c,q,as⟩;dsimp only at c ⊢;subst c;exact wpS_pure (h b q as)
end
def Eqb(R:Keyed->Keyed->Bool)(xs:Array Keyed)(l h:Nat):Prop:=∀ i j,l<=i->i<h->l<=j->j<h->R (e xs i) (e xs j)=false
section
variable{M:Model}{A:Around}{E:Value->Shared->Prop}{s:Shared}{κ:SortKind}{S:Keyed->Prop}{R:Keyed->Keyed->Bool}{p0:Array (Nat × Nat × Nat)}{a0:Array Keyed}{lo:Nat}
theorem jI{α:Type}{prog:StateT SortSt Sem α}{P:SortSt->Prop}{Q : α->SortSt->Prop}{G:Prop}(use:(∀ st,P st->wpS M A E s prog Q st)->G)(a:∀ st,P st->wpS M A E s prog Q st):G:=use a
theorem DH(C:Cmp M A E s κ S R)(f:∀ x∈a0.toList,S x){st:SortSt}(B:Bs κ p0 a0 lo st){a nrem:Nat}(j:1<=a)(g:a<=nrem)(hn:lo+nrem<=a0.size)(as:Asc R (arrOf st) lo (lo+a)){Q:Option (Option Nat) × Nat->SortSt->Prop}
  (h:∀ n,a<=n->n<=nrem->Asc R (arrOf st) lo (lo+n)->(n<nrem->R (e (arrOf st) (lo+n)) (e (arrOf st) (lo+n-1))=true)->Q (none,n) st) :
  wpS M A E s (forIn [a:nrem] ((none,a):Option (Option Nat) × Nat) (λ(_:Nat) z=>ltAt' (lo+z.2) (lo+z.2-1) >>= λx=>match x with
   |some smaller=>if smaller=true then pure (ForInStep.done (none,z.2)) else pure (ForInStep.yield (none,z.2+1))
   |_=>pure (ForInStep.done (some none,z.2)))) Q st:=by
 refine wpS_forRange (λt (z:Option (Option Nat) × Nat) st'=>st'=st/\z=(none,t)/\Asc R (arrOf st) lo (lo+t)) ?_ ?_ ⟨rfl,rfl,as⟩
 ·rintro t ⟨o,n⟩ c t1 i ⟨rfl,d,b⟩;cases d;dsimp only;refine wpS_bind (LA C f B (by lia) (by lia) ?_);dsimp only;cases er:R (e (arrOf c) (lo+t)) (e (arrOf c) (lo+t-1)) with
  | true =>
   rw[q0 rfl];exact wpS_pure (h t t1 (by lia) b λ_=>er)
  | false =>
   rw[o0 (by decide)];exact wpS_pure ⟨rfl,rfl,EJ C (h:=lo+t) (λk l=>B.sat f (by lia)) (by lia) b er⟩
 ·rintro⟨o,n⟩ c ⟨rfl,d,b⟩;cases d;rw[show max a nrem=nrem by lia] at b ⊢;exact h nrem g (M0 _) b λz=>absurd z (t4 _)
theorem AM(C:Cmp M A E s κ S R){st:SortSt}(B:Bs κ p0 a0 lo st){n:Nat}(hn:lo+n<=a0.size)(b:Des R (arrOf st) lo (lo+n)) :
  Bs κ p0 a0 lo (setArr st (mirror (arrOf st) lo (lo+n) ((lo+n-lo) / 2)))/\Asc R (mirror (arrOf st) lo (lo+n) ((lo+n-lo) / 2)) lo (lo+n):=by
 have a:lo+n<=(arrOf st).size:=by rw[B.size];exact hn
 refine⟨B.set (mirror_perm _ _ _ _) (λk d=>by rw[getElem?_mirror_all a,o0 (by lia)]),λi j f c g=>?_⟩;rw[P8 a,P8 a,q0 (by lia),q0 (by lia)];exact b _ _ (by lia) (by lia) (by lia)
theorem fE(C:Cmp M A E s κ S R)(d:∀ x∈a0.toList,S x){st:SortSt}(B:Bs κ p0 a0 lo st){l h m:Nat}(o:lo<=l)(hh:h<=a0.size)(hm:h<=m)(c:m<=a0.size)(b:Des R (arrOf st) lo m)(eq:Eqb R (arrOf st) l h) :
  Bs κ p0 a0 lo (setArr st (mirror (arrOf st) l h ((h-l) / 2)))/\Des R (mirror (arrOf st) l h ((h-l) / 2)) lo m:=by
 have a:h<=(arrOf st).size:=by rw[B.size];exact hh
 refine⟨B.set (mirror_perm _ _ _ _) (λk f=>by rw[getElem?_mirror_all a,o0 (by lia)]),λi j p g n=>?_⟩;rw[P8 a,P8 a];have q:∀ k,k<m->S (e (arrOf st) k):=λk f=>B.sat d (by lia);by_cases c1:l<=i/\i<h
 ·rw[q0 c1];by_cases c2:l<=j/\j<h
  ·rw[q0 c2];exact eq _ _ (by lia) (by lia) (by lia) (by lia)
  ·rw[o0 c2];exact b _ _ (by lia) (by lia) (by lia)
 ·rw[o0 c1];by_cases c2:l<=j/\j<h
  ·rw[q0 c2];exact b _ _ (by lia) (by lia) (by lia)
  ·rw[o0 c2];exact b _ _ (by lia) (by lia) (by lia)
theorem RS (C:Cmp M A E s κ S R) (p:∀ x∈a0.toList,S x) {st:SortSt} (B:Bs κ p0 a0 lo st) {nrem:Nat} (h1:1<=nrem) (hn:lo+nrem<=a0.size) {Q:Option Nat->SortSt->Prop}
  (h:∀ st' n,Bs κ p0 a0 lo st'->1<=n->n<=nrem->Asc R (arrOf st') lo (lo+n)->Q (some n) st'):wpS M A E s (IJ lo nrem) Q st:=by
 refine wpS_bind (DH C p B (M0 1) h1 hn (λi j i1 r Z=>?_) λn n1 n2 as br=>?_)
 ·have:i=j:=by lia
  subst this;exact C.irr (B.sat p (by lia))
 dsimp only;refine V1 (λen=>wpS_pure (h st n B n1 n2 as)) (λen=>?_);have a5:n ≠ nrem:=by simpa using en
 have W:n<nrem:=by lia
 have G:=br W;refine jI (M:=M) (A:=A) (E:=E) (s:=s) (α:=Option Nat) (Q:=Q) (P:=λu=>Bs κ p0 a0 lo u/\Des R (arrOf u) lo (lo+n)/\R (e (arrOf u) (lo+n)) (e (arrOf u) (lo+n-1))=true) (prog:=?prog) (λK=>?use) (λu ⟨N,de,U⟩=>?pf)
 case use =>
  refine V1 (λg1=>?_) (λg1=>?_)
  ·refine wpS_bind (LA C p B (by lia) (by lia) ?_);dsimp only;cases er:R (e (arrOf st) lo) (e (arrOf st) (lo+n-1)) with
   |true=>rw[q0 rfl];exact wpS_pure (h st n B n1 n2 as)
   | false =>
    rw[o0 (by decide)]
    -- all of them are equal
    have c:∀ k,k<lo+n->S (e (arrOf st) k):=λk J=>B.sat p (by lia);have all:Eqb R (arrOf st) lo (lo+n):=λi j i1 r y w=>by
     -- j<=last<=first<=i
     have a1:=as j (lo+n-1) y (by lia) (by lia);have a2:=as lo i (M0 _) i1 r;exact C.tr _ _ _ (c j w) (c lo (by lia)) (c i r) (C.tr _ _ _ (c j w) (c (lo+n-1) (by lia)) (c lo (by lia)) a1 er) a2
    have de:Des R (arrOf st) lo (lo+n):=λi j i1 r Z=>all i j i1 (by lia) (by lia) Z;have O:lo+n<=(arrOf st).size:=by rw[B.size];lia
    obtain⟨q,a⟩:=fE C p B (M0 lo) (show lo+n<=a0.size by lia) (M0 _) (by lia) de all;refine wpS_bind (wpS_modify ?_);refine K _ ⟨q,a,?_⟩;show R (e (mirror (arrOf st) lo (lo+n) ((lo+n-lo) / 2)) (lo+n)) (e (mirror (arrOf st) lo (lo+n) ((lo+n-lo) / 2)) (lo+n-1))=true;rw[P8 O,P8 O,o0 (by lia),q0 (by lia)];rw[show lo+(lo+n)-1-(lo+n-1)=lo by lia];cases e2:R (e (arrOf st) (lo+n)) (e (arrOf st) lo) with
    |true=>rfl
    | false =>
     have:=C.tr _ _ _ (c (lo+n-1) (by lia)) (c lo (by lia)) (B.sat p (show lo+n<a0.size by lia)) er e2;rw[this] at G;cases G
  ·have:n=1:=by lia
   subst this;refine K st ⟨B,λi j i1 r Z=>?_,G⟩;have:i=j:=by lia
   subst this;exact C.irr (B.sat p (by lia))
 case pf =>
  -- the falling part
  refine wpS_bind (L9 ?_);refine wpS_bind (wpS_mono (Q:=λ(z:Option (Option Nat) × Nat × Nat) st'=>z.1=none/\Bs κ p0 a0 lo st'/\z.2.1<=nrem/\z.2.2+1<=z.2.1/\Des R (arrOf st') lo (lo+z.2.1)/\Eqb R (arrOf st') (lo+z.2.1-(z.2.2+1)) (lo+z.2.1)) ?_ ?_)
  ·refine wpS_forRange (λt (z:Option (Option Nat) × Nat × Nat) st'=>z.1=none/\z.2.1=t/\Bs κ p0 a0 lo st'/\z.2.2+1<=z.2.1/\Des R (arrOf st') lo (lo+z.2.1)/\Eqb R (arrOf st') (lo+z.2.1-(z.2.2+1)) (lo+z.2.1)) ?_ ?_ ⟨rfl,rfl,N,by dsimp only;lia,?_,λi j i1 r y w=>?_⟩
   ·rintro t ⟨o,m,b⟩ d t1 t2 ⟨D,T,q,H,a,f⟩;dsimp only at D T H a f ⊢;subst D T;have c:∀ k,k<a0.size->S (e (arrOf d) k):=λk J=>q.sat p J;refine wpS_bind (LA C p q (by lia) (by lia) ?_);dsimp only;cases er:R (e (arrOf d) (lo+m)) (e (arrOf d) (lo+m-1)) with
    | true =>
     rw[q0 rfl];refine V1 (λg=>?_) (λg=>?_)
     ·have O:lo+m<=(arrOf d).size:=by rw[q.size];lia
      obtain⟨F,v⟩:=fE C p q (l:=lo+m-(b+1)) (h:=lo+m) (by lia) (by lia) (M0 _) (by lia) a f;have L:∀ k,e (mirror (arrOf d) (lo+m-(b+1)) (lo+m) ((lo+m-(lo+m-(b+1))) / 2)) k=if lo+m-(b+1)<=k/\k<lo+m then e (arrOf d) (lo+m-(b+1)+(lo+m)-1-k) else e (arrOf d) k:=λk=>P8 O k
      refine wpS_bind (wpS_modify ?_);refine wpS_pure ⟨rfl,rfl,F,by dsimp only;lia,?_,λi j i1 r y w=>?_⟩
      ·show Des R (mirror (arrOf d) (lo+m-(b+1)) (lo+m) ((lo+m-(lo+m-(b+1))) / 2)) lo (lo+(m+1));refine wC C (h:=lo+m) (λk J=>F.sat p (by lia)) (by lia) v ?_;rw[L,L,q0 (by lia),o0 (by lia)];rw[show lo+m-(b+1)+(lo+m)-1-(lo+m-1)=lo+m-(b+1) by lia];exact C.tr _ _ _ (c _ (by lia)) (c (lo+m-1) (by lia)) (c _ (by lia)) (C.asy _ _ (c _ (by lia)) (c _ (by lia)) er) (a _ _ (by lia) (by lia) (by lia))
      ·dsimp only at i1 r y w;have:i=j:=by lia
       subst this;exact C.irr (F.sat p (by lia))
     ·have:b=0:=by lia
      subst this;refine wpS_pure ⟨rfl,rfl,q,by dsimp only;lia,wC C (h:=lo+m) (λk J=>c k (by lia)) (by lia) a (C.asy _ _ (c _ (by lia)) (c _ (by lia)) er),λi j i1 r y w=>?_⟩;dsimp only at i1 r y w;have:i=j:=by lia
      subst this;exact C.irr (c _ (by lia))
    | false =>
     rw[o0 (by decide)];refine wpS_bind (LA C p q (by lia) (by lia) ?_);dsimp only;cases er2:R (e (arrOf d) (lo+m-1)) (e (arrOf d) (lo+m)) with
     | true =>
      rw[q0 rfl];exact wpS_pure ⟨rfl,q,by dsimp only;lia,H,a,f⟩
     | false =>
      rw[o0 (by decide)];refine wpS_pure ⟨rfl,rfl,q,by dsimp only;lia,wC C (h:=lo+m) (λk J=>c k (by lia)) (by lia) a er2,λi j i1 r y w=>?_⟩;dsimp only at i1 r y w;by_cases ci:i=lo+m
      ·by_cases cj:j=lo+m
       ·rw[ci,cj];exact C.irr (c _ (by lia))
       ·rw[ci];exact C.tr _ _ _ (c j (by lia)) (c (lo+m-1) (by lia)) (c _ (by lia)) (f (lo+m-1) j (by lia) (by lia) (by lia) (by lia)) er
      ·by_cases cj:j=lo+m
       ·rw[cj];exact C.tr _ _ _ (c _ (by lia)) (c (lo+m-1) (by lia)) (c i (by lia)) er2 (f i (lo+m-1) (by lia) (by lia) (by lia) (by lia))
       ·exact f i j (by lia) (by lia) (by lia) (by lia)
   ·rintro⟨o,m,b⟩ d ⟨D,T,q,H,a,f⟩;dsimp only at D T H a f ⊢;exact⟨D,q,by lia,H,a,f⟩
   ·exact wC C (h:=lo+n) (λk J=>N.sat p (by lia)) (by lia) de (C.asy _ _ (N.sat p (by lia)) (N.sat p (by lia)) U)
   ·dsimp only at i1 r y w;have:i=j:=by lia
    subst this;exact C.irr (N.sat p (by lia))
  ·rintro⟨o,m,b⟩ d ⟨D,q,hm,H,a,f⟩;dsimp only at D hm H a f ⊢;subst D;dsimp only;refine jI (M:=M) (A:=A) (E:=E) (s:=s) (α:=Option Nat) (Q:=Q) (P:=λI=>Bs κ p0 a0 lo I/\Des R (arrOf I) lo (lo+m)) (prog:=?prog2) (λK=>?use2) (λI ⟨F,v⟩=>?pf2)
   case use2 =>
    refine V1 (λg=>?_) (λg=>?_)
    ·obtain⟨F,v⟩:=fE C p q (l:=lo+m-(b+1)) (h:=lo+m) (by lia) (by lia) (M0 _) (by lia) a f;refine wpS_bind (wpS_modify ?_);exact K _ ⟨F,v⟩
    ·exact K _ ⟨q,a⟩
   case pf2 =>
    obtain⟨B5,a3⟩:=AM C F (n:=m) (by lia) v;refine wpS_bind (wpS_modify ?_);refine wpS_bind (DH C p B5 (by lia) hm hn a3 λn' a4 Y X _=>?_);exact wpS_pure (h _ n' B5 (by lia) Y X)
end
def flat(rs:List (List Keyed × Nat)):List Keyed:=(rs.map (·.1)).flatten
def pend:Nat->List (List Keyed × Nat)->List (Nat × Nat × Nat)
 |_,[]=>[]
 |k,(r,pw)::t=>(k,r.length,pw)::pend (k+r.length) t
theorem TD:flat []=[]:=rfl
theorem U6(r:List Keyed × Nat)(t:List (List Keyed × Nat)):flat (r::t)=r.1++flat t:=rfl
theorem A7(p q:List (List Keyed × Nat)):flat (p++q)=flat p++flat q:=by simp[flat]
theorem F8:∀(k:Nat)(p q:List (List Keyed × Nat)),pend k (p++q)=pend k p++pend (k+(flat p).length) q
 |k,[],q=>by simp[pend,TD]
 | k,(r,pw)::t,q=>by
  simp only[List.cons_append,pend,U6,f3,List.cons.injEq,true_and];rw[F8 (k+r.length) t q,Nat.add_assoc]
theorem RA:∀(k:Nat)(p:List (List Keyed × Nat)),(pend k p).length=p.length
 |_,[]=>rfl
 |k,(r,pw)::t=>by simp[pend,RA _ t]
structure Rn(κ:SortKind)(R:Keyed->Keyed->Bool)(a0:Array Keyed)(rs:List (List Keyed × Nat))(rest:List Keyed)(st:SortSt):Prop where
 k:kindOf st = κ
 f:failedOf st=none
 arr:(arrOf st).toList=flat rs++rest
 pn:(pendingOf st).toList=pend 0 rs
 ok:∀ r∈rs,r.1 ≠ []/\Srt R r.1
 perm:(arrOf st).toList.Perm a0.toList
theorem pT{α:Type}(a b:List α)(x c y : α):((a++x::y::b).set a.length c).eraseIdx (a.length+1)=a++c::b:=by
 rw[List.set_append_right _ _ (M0 _),dA,List.set_cons_zero,List.eraseIdx_append_of_length_le (by lia)];rw[show a.length+1-a.length=1 by lia];rfl
theorem mH(C:Cmp M A E s κ S R)(y:∀ x∈a0.toList,S x){st:SortSt}{rs:List (List Keyed × Nat)}{rest:List Keyed}(N:Rn κ R a0 rs rest st){i:Nat}(hi:i+1<rs.length){Q:Bool->SortSt->Prop}
  (h:∀ st' o,Rn κ R a0 o rest st'->o.length+1=rs.length->(flat o).length=(flat rs).length->Q true st'):wpS M A E s (aJ i) Q st:=by
 obtain⟨p,a,pw,b,pw2,q,e,D⟩:∃ p a pw b pw2 q,rs=p++(a,pw)::(b,pw2)::q/\p.length=i:=by
  have I:rs=rs.take i++rs.drop i:=(C5 i rs).symm;have hd:rs.drop i=rs[i]::rs[i+1]::rs.drop (i+2):=by
   rw[List.drop_eq_getElem_cons (by lia),List.drop_eq_getElem_cons hi]
  exact⟨rs.take i,rs[i].1,rs[i].2,rs[i+1].1,rs[i+1].2,rs.drop (i+2),by rw[← hd];exact I,by simp;lia⟩
 subst D;have d:=N.ok (a,pw) (by rw[e];simp);have j:=N.ok (b,pw2) (by rw[e];simp);have l:(pendingOf st).toList=pend 0 p++((flat p).length,a.length,pw)::((flat p).length+a.length,b.length,pw2)::pend ((flat p).length+a.length+b.length) q:=by
  rw[N.pn,e,F8];simp[pend]
 have c:(pend 0 p).length=p.length:=RA 0 p;have g:(arrOf st).toList=flat p++a++b++(flat q++rest):=by
  rw[N.arr,e,A7,U6,U6];simp[m3]
 refine CM C (i:=p.length) (pw:=pw) (pw2:=pw2) g (λx B=>y x (N.perm.mem_iff.mp B)) ?_ ?_ d.1 j.1 d.2 j.2 N.k N.f λst' m F G w u pm H=>?_
 ·rw[← V5,l,F7 (by lia),c,dA];rfl
 ·rw[← V5,l,F7 (by lia),c,show p.length+1-p.length=1 by lia];rfl
 ·refine h st' (p++(m,pw)::q) ⟨F,G,?_,?_,λr n=>?_,?_⟩ (by rw[e];simp;lia) ?_
  ·rw[u,A7,U6];simp[m3]
  ·rw[w,Array.toList_eraseIdxIfInBounds,Array.toList_setIfInBounds,l,← c,pT,F8];simp[pend,pm.length_eq,Nat.add_assoc]
  ·rcases Q1.mp n with n|n
   ·exact N.ok r (by rw[e];simp[n])
   ·rcases D1.mp n with rfl|n
    ·refine⟨?_,H⟩;intro z;have:=pm.length_eq;have v:m=[]:=z;rw[v] at this;have:=y6.mpr d.1;simp at *;lia
    ·exact N.ok r (by rw[e];simp[n])
  ·rw[u];refine List.Perm.trans ?_ N.perm;rw[g];have:(flat p++a++b++(flat q++rest))=flat p++(a++b)++(flat q++rest):=by simp[m3]
   rw[this];exact(pm.append_left (flat p)).append_right _
  ·rw[e,A7,A7,U6,U6,U6];simp[pm.length_eq];lia
theorem Rn.run{rs:List (List Keyed × Nat)}{rest:List Keyed}{st st':SortSt}{n:Nat}(N:Rn κ R a0 rs rest st)(B:Bs κ (pendingOf st) (arrOf st) (flat rs).length st')(u:1<=n)(hn:(flat rs).length+n<=(arrOf st).size)(as:Asc R (arrOf st') (flat rs).length ((flat rs).length+n)) :
  ∃ r a,r.length=n/\r ≠ []/\Srt R r/\Rn κ R a0 rs (r++a) st':=by
 have hsz:=B.size;have d:(arrOf st').toList.take (flat rs).length=flat rs:=by
  have s:(arrOf st').toList.take (flat rs).length=(arrOf st).toList.take (flat rs).length:=by
   apply D6;intro k;rw[List.getElem?_take,List.getElem?_take];split
   ·rename_i c
    have:=B.pre k c;simpa using this
   ·rfl
  rw[s,N.arr,List.take_left]
 refine⟨((arrOf st').toList.drop (flat rs).length).take n,((arrOf st').toList.drop (flat rs).length).drop n,?_,?_,?_,B.k,B.f,?_,?_,N.ok,B.perm.trans N.perm⟩
 ·simp;lia
 ·intro z;have:=congrArg List.length z;simp at this;lia
 ·unfold Srt;rw[t7];intro i j hi g l;have b:j<n:=by simp at g;lia
  have get:∀ k,k<n->∀(c:k<(((arrOf st').toList.drop (flat rs).length).take n).length),(((arrOf st').toList.drop (flat rs).length).take n)[k]=e (arrOf st') ((flat rs).length+k):=by
   intro k c o;rw[List.getElem_take,List.getElem_drop];have m:=kC (xs:=arrOf st') (k:=(flat rs).length+k) (by lia);have q:(flat rs).length+k<(arrOf st').toList.length:=by simp;lia
   have h:(arrOf st').toList[(flat rs).length+k]?=some (e (arrOf st') ((flat rs).length+k)):=by simpa using m
   rw[Y0 q] at h;exact u3 h
  rw[get i (by lia) hi,get j b g];exact as _ _ (by lia) (by lia) (by lia)
 ·rw[C5]
  conv=>lhs;rw[← C5 (flat rs).length (arrOf st').toList,d]
 ·rw[B.p];exact N.pn
theorem Rn.bs{rs:List (List Keyed × Nat)}{rest:List Keyed}{st:SortSt}(N:Rn κ R a0 rs rest st):Bs κ (pendingOf st) (arrOf st) (flat rs).length st:=⟨N.k,N.f,rfl,List.Perm.refl _,λ_ _=>rfl⟩
theorem Rn.size{rs:List (List Keyed × Nat)}{rest:List Keyed}{st:SortSt}(N:Rn κ R a0 rs rest st):(arrOf st).size=a0.size:=by
 have:=N.perm.length_eq;simpa using this
theorem Rn.len{rs:List (List Keyed × Nat)}{rest:List Keyed}{st:SortSt}(N:Rn κ R a0 rs rest st):(flat rs).length+rest.length=a0.size:=by
 have:=congrArg List.length N.arr;have a:=N.size;simp at this;lia
theorem GJ(h:∀ r∈rs,r.1 ≠ []):rs.length<=(flat rs).length:=by
 induction rs with
 |nil=>simp[flat]
 | cons r t ih =>
  rw[U6,f3,L3];have:=ih λq a=>h q (S2 _ a);have:=y6.mpr (h r o3);lia
theorem iI{α:Type}(f : α->α):∀(l:List α)(x : α),(l++[x]).modify l.length f=l++[f x]
 |[],x=>rfl
 | y::l,x=>by
  show(y::(l++[x])).modify (l.length+1) f=_;rw[List.modify_succ_cons,iI f l x];rfl
theorem pS{α:Type}(arr:Array α)(f : α->α){l:List α}{x : α}(h:arr.toList=l++[x]):(arr.modify (arr.size-1) f).toList=l++[f x]:=by
 have hs:arr.size=l.length+1:=by have:=congrArg List.length h;simpa using this
 rw[Array.toList_modify,h,hs,show l.length+1-1=l.length by lia];exact iI f l x
theorem lM{α:Type}(arr:Array α){l:List α}{x : α}(h:arr.toList=l++[x]):arr.back?=some x:=by
 have hs:arr.size=l.length+1:=by have:=congrArg List.length h;simpa using this
 rw[Array.back?_eq_getElem?,← V5,h,hs];simp
theorem oI:∀(rs:List (List Keyed × Nat)),rs ≠ []->∃ p x,rs=p++[x]
 |rs,h=>⟨rs.dropLast,rs.getLast h,(List.dropLast_concat_getLast h).symm⟩
theorem Rn.push{rs:List (List Keyed × Nat)}{r rest:List Keyed}{st st':SortSt}(N:Rn κ R a0 rs (r++rest) st)(c:r ≠ [])(hs:Srt R r)(k:kindOf st'=kindOf st)(f:failedOf st'=failedOf st)(a:arrOf st'=arrOf st)
  (p:pendingOf st'=(pendingOf st).push ((flat rs).length,r.length,0)):Rn κ R a0 (rs++[(r,0)]) rest st':=by
 refine⟨k.trans N.k,f.trans N.f,?_,?_,λq b=>?_,by rw[a];exact N.perm⟩
 ·rw[a,N.arr,A7];simp[flat,m3]
 ·rw[p,Array.toList_push,N.pn,F8];simp[pend]
 ·rcases Q1.mp b with b|b
  ·exact N.ok q b
  ·have:q=(r,0):=by simpa using b
   subst this;exact⟨c,hs⟩
theorem Rn.pow{rs:List (List Keyed × Nat)}{rest:List Keyed}{st st':SortSt}{pw:Nat}(N:Rn κ R a0 rs rest st)(i:rs ≠ [])(k:kindOf st'=kindOf st)(f:failedOf st'=failedOf st)(a:arrOf st'=arrOf st)
  (p:pendingOf st'=(pendingOf st).modify ((pendingOf st).size-1) λx=>(x.1,x.2.1,pw)):∃ g,Rn κ R a0 g rest st'/\(flat g).length=(flat rs).length:=by
 obtain⟨q,⟨b,d⟩,e⟩:=oI rs i;subst e;have h:(pendingOf st).toList=pend 0 q++[((flat q).length,b.length,d)]:=by rw[N.pn,F8];simp[pend]
 refine⟨q++[(b,pw)],⟨k.trans N.k,f.trans N.f,?_,?_,λx c=>?_,by rw[a];exact N.perm⟩,by simp[A7,U6,TD]⟩
 ·rw[a,N.arr];simp[A7,U6,TD]
 ·rw[p,pS _ _ h,F8];simp[pend]
 ·rcases Q1.mp c with c|c
  ·exact N.ok x (by simp[c])
  ·have:x=(b,pw):=by simpa using c
   subst this;exact N.ok (b,d) (by simp)
theorem bQ [Decidable c]  (b:x+1<z) (a:y+1<z):(if c then x else y)+1<z:=by
 split
 ·exact b
 ·exact a
theorem Rn.powK{rs:List (List Keyed × Nat)}{rest:List Keyed}{st st':SortSt}{pw:Nat}{G:SortSt->Prop}(N:Rn κ R a0 rs rest st)(c:rs ≠ [])(h:∀ b,Rn κ R a0 b rest st'->(flat b).length=(flat rs).length->G st')(k:kindOf st'=kindOf st)(f:failedOf st'=failedOf st)(a:arrOf st'=arrOf st)
  (p:pendingOf st'=(pendingOf st).modify ((pendingOf st).size-1) λx=>(x.1,x.2.1,pw)):G st':=by
 obtain⟨b,d,g⟩:=N.pow c k f a p;exact h b d g
theorem WL (C:Cmp M A E s κ S R) (hS:∀ x∈a0.toList,S x) {st:SortSt} (h0:arrOf st=a0) (hk:kindOf st = κ) (hf:failedOf st=none) (hp:pendingOf st = #[]) {Q:Unit->SortSt->Prop}
  (h:∀ st',failedOf st'=none->(arrOf st').toList.Perm a0.toList->Srt R (arrOf st').toList->Q () st'):wpS M A E s tQ Q st:=by
 have o:(arrOf st).size=a0.size:=by rw[h0]
 refine wpS_bind (wpS_get ?_);dsimp only;refine wpS_bind (wpS_mono (Q:=λ(c:Option Unit × Nat) u=>c.1=none/\∃ rs,Rn κ R a0 rs [] u) ?_ ?_)
 ·refine wpS_forRange (λi (c:Option Unit × Nat) u=>c.1=none/\∃ rs rest,Rn κ R a0 rs rest u/\c.2=(flat rs).length/\i<=c.2) ?_ ?_ ⟨rfl,[],a0.toList,⟨hk,hf,by rw[h0];rfl,by rw[hp];rfl,λr H=>(by cases H),by rw[h0]⟩,rfl,M0 _⟩
  ·rintro i ⟨c1,lo⟩ u _ hi ⟨F,rs,rest,N,e2,D⟩;dsimp only at F e2 D ⊢;subst F e2;have L:=N.len;have b1:i<a0.size:=by rw[← o];exact hi
   refine V1 (λa4=>?_) (λa5=>?_)
   ·have a8:a0.size<=(flat rs).length:=by rw[← o];exact a4
    refine wpS_pure ⟨rfl,rs,?_⟩;have:rest=[]:=gC (by lia);subst this;exact N
   ·have b0:(flat rs).length<a0.size:=by
     have:¬ (flat rs).length ≥ (arrOf st).size:=a5;lia
    refine wpS_bind (RS C (λx hx=>hS x (N.perm.mem_iff.mp hx)) N.bs (nrem:=(arrOf st).size-(flat rs).length) (by lia) (by rw[N.size];lia) λb4 n B2 n1 n2 W=>?_);dsimp only;have w:=N.size;refine V1 (λl=>?g1) (λl=>?g2)
    case' g1 =>
     refine wpS_bind (L9 ?_);generalize hmr:min (_:Nat) _=nn;refine wpS_bind (SL C (λx hx=>hS x (N.perm.mem_iff.mp hx)) B2 (n:=nn) (ok:=n) ?_ ?_ ?_ W λb2 B3 a6=>?_)
     ·have:nn<=(arrOf st).size-(flat rs).length:=by rw[← hmr];exact Nat.min_le_left _ _
      rw[w];lia
     ·rw[← hmr];exact Nat.le_min.mpr ⟨n2,D5 l⟩
     ·have:n<=nn:=by rw[← hmr];exact Nat.le_min.mpr ⟨n2,D5 l⟩
      lia
     rw[o0 (by decide)];have P:1<=nn:=by
      have:n<=nn:=by rw[← hmr];exact Nat.le_min.mpr ⟨n2,D5 l⟩
      lia
     have a9:nn<=(arrOf st).size-(flat rs).length:=by rw[← hmr];exact Nat.min_le_left _ _
     obtain⟨r,g,H,B,I,U⟩:=N.run B3 P (by rw[w];lia) a6;clear hmr;subst H
    case' g2 =>
     obtain⟨r,g,H,B,I,U⟩:=N.run B2 n1 (by rw[w];lia) W;clear l;subst H
    all_goals
     refine wpS_bind (wpS_get ?_);rcases Classical.em (rs=[]) with X|X
     ·have y:=U.pn;rw[X] at y;have hb:=Array.back?_eq_none_iff.mpr (Array.toList_eq_nil_iff.mp y);rw[hb];dsimp only;refine wpS_bind (wpS_modify (wpS_pure ⟨rfl,rs++[(r,0)],g,U.push B I rfl rfl rfl rfl,?_,?_⟩))
      ·rw[A7,f3];simp[flat]
      ·have:=y6.mpr B;show i+1<=(flat rs).length+r.length;lia
     ·obtain⟨q,⟨b,O⟩,eq⟩:=oI rs X;have y:=U.pn;rw[eq,F8,show pend (0+(flat q).length) [(b,O)]=[((flat q).length,b.length,O)] by simp[pend]] at y;have hb:=lM _ y;rw[hb];dsimp only;refine wpS_bind (wpS_mono (Q:=λ(c:Option Unit × Unit) d=>c.1=none/\∃ a,Rn κ R a0 a (r++g) d/\a ≠ []/\(flat a).length=(flat rs).length) ?_ ?_)
      ·refine wpS_forRange (λ_ (c:Option Unit × Unit) d=>c.1=none/\∃ a,Rn κ R a0 a (r++g) d/\a ≠ []/\(flat a).length=(flat rs).length) ?_ (λc d h4=>h4) ⟨rfl,rs,U,X,rfl⟩;rintro i4 ⟨Y,Z⟩ d _ _ ⟨v,a,m,z4,p⟩;dsimp only at v;subst v;refine wpS_bind (wpS_get ?_);have T:(pendingOf d).size=a.length:=by
        have:=congrArg List.length m.pn;rw[RA] at this;simpa using this
       by_cases K:(pendingOf d).size > 1
       ·rw[q0 K];obtain⟨x4,a2⟩:∃ x4,(pendingOf d)[(pendingOf d).size-2]?=some x4:=⟨_,Y2 (by lia)⟩
        obtain⟨y1,y2,y3⟩:=x4;rw[a2];dsimp only;refine V1 (λ_=>wpS_pure ⟨rfl,a,m,z4,p⟩) (λ_=>?_);rw[T];refine wpS_bind (mH C hS m (i:=a.length-2) (by lia) λa7 J N5 l5 f5=>?_);rw[o0 (by decide)];refine wpS_pure ⟨rfl,J,N5,?_,by lia⟩;rintro rfl;simp at l5;lia
       ·rw[o0 K];exact wpS_pure ⟨rfl,a,m,z4,p⟩
      ·rintro⟨Y,Z⟩ d ⟨v,a,m,z4,p⟩;dsimp only at v ⊢;subst v;dsimp only;refine wpS_bind (wpS_modify ?_);refine m.powK (G:=λz=>wpS M A E s _ _ z) z4 (λa1 N6 l6=>?_) rfl rfl rfl rfl;refine wpS_bind (wpS_modify (wpS_pure ⟨rfl,a1++[(r,0)],g,N6.push B I rfl rfl rfl ?_,?_,?_⟩))
       ·rw[l6,p]
       ·rw[A7,f3,l6,p];simp[flat]
       ·have:=y6.mpr B;show i+1<=(flat rs).length+r.length;lia
  ·rintro⟨c1,lo⟩ u ⟨F,rs,rest,N,e2,D⟩;dsimp only at F e2 D ⊢;refine⟨F,rs,?_⟩;have L:=N.len;have a3:(arrOf st).size<=lo:=W1 (Nat.le_max_right 0 _) D;have:rest=[]:=gC (by rw[o] at a3;lia);subst this;exact N
 ·rintro⟨c1,lo⟩ u ⟨F,rs,N⟩;dsimp only at F ⊢;subst F;dsimp only;refine wpS_bind (wpS_mono (Q:=λ(c:Option Unit × Unit) d=>c.1=none/\∃ a,Rn κ R a0 a [] d/\a.length<=1) ?_ ?_)
  ·refine wpS_forRange (λj (c:Option Unit × Unit) d=>c.1=none/\∃ a,Rn κ R a0 a [] d/\(a.length<=1\/a.length+j<=a0.size)) ?_ ?_ ⟨rfl,rs,N,.inr ?_⟩
   ·rintro j ⟨Y,Z⟩ d _ _ ⟨v,a,m,p⟩;dsimp only at v;subst v;refine wpS_bind (wpS_get ?_);have T:(pendingOf d).size=a.length:=by
     have:=congrArg List.length m.pn;rw[RA] at this;simpa using this
    refine V1 (λK=>wpS_pure ⟨rfl,a,m,?_⟩) (λK=>?_)
    ·have:(pendingOf d).size<=1:=K;lia
    ·have b3:¬ (pendingOf d).size<=1:=K;refine wpS_bind (mH C hS m (i:=_) ?_ λa7 J N5 l5 f5=>?_)
     ·refine bQ ?_ ?_
      ·show(pendingOf d).size-2-1+1<a.length;lia
      ·show(pendingOf d).size-2+1<a.length;lia
     rw[o0 (by decide)];exact wpS_pure ⟨rfl,J,N5,by lia⟩
   ·rintro⟨Y,Z⟩ d ⟨v,a,m,p⟩;refine⟨v,a,m,?_⟩;rcases p with p|p
    ·exact p
    ·have:(arrOf st).size<=max 0 (arrOf st).size:=Nat.le_max_right _ _;have h3:a.length+max 0 (arrOf st).size<=a0.size:=p;lia
   ·have:=GJ λr H=>(N.ok r H).1;have:=N.len;lia
  ·rintro⟨Y,Z⟩ d ⟨v,a,m,p⟩;dsimp only at v ⊢;subst v;dsimp only;refine wpS_pure (h d m.f m.perm ?_);rw[m.arr]
   match a,p with
   |[],_=>exact List.Pairwise.nil
   |[x],_=>simpa[flat] using (m.ok x (by simp)).2
end TS
namespace L2
open PySem PySem.Spec PyProof.Rows
mutual
inductive Rep(H:Hp):V->PyData->Prop
 |non:Rep H .non .none
 |bl (b:Bool):Rep H (.bl b) (.bool b)
 |int (i:Int):Rep H (.int i) (.int i)
 |str (x:Str):Rep H (.str x) (.str x)
 |lst {a:Addr} {xs:List V} {ds:List PyData}:H a=some (.lst xs)->Reps H xs ds->Rep H (.ref a) (.list ds)
 |tup {a:Addr} {xs:List V} {ds:List PyData}:H a=some (.tup xs)->Reps H xs ds->Rep H (.ref a) (.tuple ds)
inductive Reps(H:Hp):List V->List PyData->Prop
 |nil:Reps H [] []
 |cons {v:V} {vs:List V} {d:PyData} {ds:List PyData}:Rep H v d->Reps H vs ds->Reps H (v::vs) (d::ds)
end
mutual
theorem Rep.same(s:Same H H'):∀{v:V}{d:PyData},Rep H v d->Rep H' v d
 |_,_,.non=>.non
 |_,_,.bl b=>.bl b
 |_,_,.int i=>.int i
 |_,_,.str x=>.str x
 |_,_,.lst h r=>.lst (s _ _ h) (Reps.same s r)
 |_,_,.tup h r=>.tup (s _ _ h) (Reps.same s r)
theorem Reps.same(s:Same H H'):∀{vs:List V}{ds:List PyData},Reps H vs ds->Reps H' vs ds
 |_,_,.nil=>.nil
 |_,_,.cons r t=>.cons (Rep.same s r) (Reps.same s t)
end
section
variable{X:Cx}{pins:List (Addr × Obj)}{σ:St}{H:Hp}{s:Shared}
mutual
theorem Rep.reads(I:Inv X pins σ H s):∀{v:V}{d:PyData}{u:Value},Rep H v d->RelV v u->∃ as,Reads s.heap u d as
 |_,_,_,.non,r=>by cases r;exact⟨_,.none⟩
 |_,_,_,.bl b,r=>by cases r;exact⟨_,.bool b⟩
 |_,_,_,.int i,r=>by obtain⟨t,rfl⟩:=r;exact⟨_,.int i t⟩
 |_,_,_,.str x,r=>by obtain⟨t,rfl⟩:=r;exact⟨_,.str x t⟩
 | _,_,_,.lst (a:=a) (xs:=xs) h q,r=>by
  cases r;obtain⟨_,its,n,g,e⟩:=(show ObjOk X.prog X.w H s.heap a (.lst xs) from I.hok a _ h)
  obtain⟨as,f⟩:=Reps.reads I q g;exact⟨_,.list e rfl rfl (by simpa using f)⟩
 | _,_,_,.tup (a:=a) (xs:=xs) h q,r=>by
  cases r;obtain⟨_,its,g,o,e,c,n,j⟩:=(show ObjOk X.prog X.w H s.heap a (.tup xs) from I.hok a _ h)
  obtain⟨as,f⟩:=Reps.reads I q g;exact⟨_,.tuple e c j (by simpa using f)⟩
theorem Reps.reads(I:Inv X pins σ H s):∀{vs:List V}{ds:List PyData}{us:List Value},Reps H vs ds->Vals vs us->∃ as,ReadsAll s.heap us ds as
 |_,_,_,.nil,.nil=>⟨_,.nil⟩
 | _,_,_,.cons r t,.cons q qs=>by
  obtain⟨as,a⟩:=Rep.reads I r q;obtain⟨bs,rb⟩:=Reps.reads I t qs;exact⟨_,.cons a rb⟩
end
end
mutual
def E1:PyData->Bool
 | .none | .int _=>true
 | .list xs | .tuple xs=>plainDs xs
 |_=>false
def plainDs:List PyData->Bool
 |[]=>true
 |x::xs=>E1 x && plainDs xs
end
mutual
theorem M8:∀(d:PyData),E1 d=true->d.canLay0=true
 | .none,_=>by simp[PyData.canLay0]
 | .int _,_=>by simp[PyData.canLay0]
 | .list xs,h=>by simp only[PyData.canLay0];exact plain_lays xs (by simpa[E1] using h)
 | .tuple xs,h=>by simp only[PyData.canLay0];exact plain_lays xs (by simpa[E1] using h)
 | .bool _,h=>by simp[E1] at h
 | .str _,h=>by simp[E1] at h
 | .dict _,h=>by simp[E1] at h
theorem plain_lays:∀(ds:List PyData),plainDs ds=true->PyData.canLayAll0 ds=true
 |[],_=>by simp[PyData.canLayAll0]
 | x::xs,h=>by
  have h':E1 x=true/\plainDs xs=true:=by simpa[plainDs] using h
  simp only[PyData.canLayAll0,M8 x h'.1,plain_lays xs h'.2,Bool.and_self]
end
mutual
theorem mD:∀(d e:PyData),E1 d=true->E1 e=true->(PyData.eqv d e=true ↔ d=e)
 | .none,e,_,h=>by cases e <;> simp_all [E1,PyData.eqv]
 | .int i,e,_,h=>by cases e <;> simp_all [E1,PyData.eqv]
 | .list xs,e,g,h=>by
  cases e with
  |list ys=>simp only[PyData.eqv,PyData.list.injEq];exact eqvAll_plain xs ys (by simpa[E1] using g) (by simpa[E1] using h)
  |_=>simp_all [E1,PyData.eqv]
 | .tuple xs,e,g,h=>by
  cases e with
  |tuple ys=>simp only[PyData.eqv,PyData.tuple.injEq];exact eqvAll_plain xs ys (by simpa[E1] using g) (by simpa[E1] using h)
  |_=>simp_all [E1,PyData.eqv]
 | .bool _,_,h,_=>by simp[E1] at h
 | .str _,_,h,_=>by simp[E1] at h
 | .dict _,_,h,_=>by simp[E1] at h
theorem eqvAll_plain:∀(ds es:List PyData),plainDs ds=true->plainDs es=true->(PyData.eqvAll ds es=true ↔ ds=es)
 |[],[],_,_=>by simp[PyData.eqvAll]
 |[],_::_,_,_=>by simp[PyData.eqvAll]
 |_::_,[],_,_=>by simp[PyData.eqvAll]
 | x::xs,y::ys,g,h=>by
  have g':E1 x=true/\plainDs xs=true:=by simpa[plainDs] using g
  have h':E1 y=true/\plainDs ys=true:=by simpa[plainDs] using h
  simp only[PyData.eqvAll,E5,List.cons.injEq,mD x y g'.1 h'.1,eqvAll_plain xs ys g'.2 h'.2]
end
theorem zC(ds:List PyData):plainDs ds=true ↔ ∀ d∈ds,E1 d=true:=by
 induction ds with
 |nil=>simp[plainDs]
 |cons d ds ih=>simp[plainDs,ih]
def rEqD:R2:=λx y H Q=>∃ d e,Rep H x d/\Rep H y e/\E1 d=true/\E1 e=true/\d.depth<=60/\Q (.bl (PyData.eqv d e)) H
def rNeD:R2:=λx y H Q=>∃ d e,Rep H x d/\Rep H y e/\E1 d=true/\E1 e=true/\d.depth<=60/\Q (.bl (!PyData.eqv d e)) H
section
variable{X:Cx}
theorem qI(i:X.A.units+64<cLine):OpR X (compareOp .Eq) rEqD:=by
 intro pins s σ H x y v u Q I c b h;obtain⟨d,e,g,re,hd,a,j,q⟩:=h;obtain⟨as,f⟩:=g.reads I c;obtain⟨bs,rb⟩:=re.reads I b;refine SeqAt.compareEq_reads f rb (M8 _ hd) (M8 _ a) ?_ ⟨.bl _,H,I,rfl,q⟩;have:=Nat.min_le_left d.depth e.depth;lia
theorem Z5(i:X.A.units+64<cLine):OpR X (compareOp .NotEq) rNeD:=by
 intro pins s σ H x y v u Q I c b h;obtain⟨d,e,g,re,hd,a,j,q⟩:=h;obtain⟨as,f⟩:=g.reads I c;obtain⟨bs,rb⟩:=re.reads I b;refine SeqAt.compareNe_reads f rb (M8 _ hd) (M8 _ a) ?_ ⟨.bl _,H,I,rfl,q⟩;have:=Nat.min_le_left d.depth e.depth;lia
def rInD(neg:Bool):R2:=λx y H Q=>∃ d es,Rep H x d/\(Rep H y (.list es)\/Rep H y (.tuple es))/\E1 d=true/\plainDs es=true/\d.depth<=60/\Q (.bl (if neg then !es.any (λz=>PyData.eqv z d) else es.any (λz=>PyData.eqv z d))) H
theorem BE(i:X.A.units+64<cLine):OpR X (compareOp .NotIn) (rInD true):=by
 intro pins s σ H x y v u Q I f b h;obtain⟨d,es,g,re,hd,a,j,q⟩:=h;obtain⟨as,c⟩:=g.reads I f;have hm:=Nat.min_le_right (PyData.depthAll es) d.depth;rcases re with re|re
 ·obtain⟨bs,rb⟩:=re.reads I b;exact SeqAt.notIn_list_reads rb c (plain_lays _ a) (M8 _ hd) (by lia) ⟨.bl _,H,I,rfl,q⟩
 ·obtain⟨bs,rb⟩:=re.reads I b;exact SeqAt.notIn_tuple_reads rb c (plain_lays _ a) (M8 _ hd) (by lia) ⟨.bl _,H,I,rfl,q⟩
def rIsi(K:Frag):List V->Hp->VK->Prop:=λxs H Q=>∃(x:V)(T:String)(t:Value)(b:Bool),xs=[x,.ty T]/\TyOf K H x t/\kitOne K t (.type T)=some b/\Q (.bl b) H
theorem n7:C2 X (.builtin "isinstance") (rIsi X.K):=by
 intro pins s σ H xs us Q I r h;obtain⟨x,T,t,b,rfl,ty,e,q⟩:=h;obtain⟨u,c,rfl,d,a⟩:=WB r;cases a;exact ON I d ty e λf=>⟨.bl b,H,I.tok _,rfl,q⟩
end
end L2
namespace HT
open PySem PyProof.Rows
section
open PySem.SeqAt
open PySem.AutoSeq1 (wpAny_loadPart')
open PySem.MeetsSeq PySem.MeetsSeq2 PySem.MeetsSeq3
end
section
variable{prog:Program}{w:World}{A:Around}{E:Value->Shared->Prop}{s:Shared}
end
end HT
namespace L2
open PySem PySem.Spec PyProof.Rows
section
variable{X:Cx}
def FD(K:Frag):List V->Hp->VK->Prop:=λxs H Q=>∃(a:Addr)(ns:List Int),xs=[.ref a]/\SqL K H a (ns.map V.int)/\ns.length<64/\∀(ns':List Int)(p:Addr),ns'.Perm ns->ns'.Pairwise (·<=·)->H p=none->Q (.ref p) (upd H p (.lst (ns'.map V.int)))
theorem oK:C2 X (.builtin "sorted") (FD X.K):=by
 intro pins s σ H xs us Q I r h;obtain⟨a,ns,rfl,ha,f,q⟩:=h;obtain⟨u,rfl,m⟩:=W3 r;cases m;obtain⟨its,p,j,v⟩:=I.list ha;have i1:IntsAre its.toArray.toList ns:=Z7 p;have i:IntsAre its ns:=by simpa using i1
 refine sorted_ints (vs:=its) j.isList i (by rw[i.length];exact f) λout d b1 g n=>?_;obtain⟨e,l⟩:=sortedAll_at s.heap its out;have c:H (s.heap.objs.size+1)=none:=I.hok.fresh (Nat.le_succ _);refine⟨.ref (s.heap.objs.size+1),_,I.laid (t':=s.toks) (o:=.lst (d.map V.int)) (λb w q=>sortedAll_old q) (Nat.le_succ _) ?_,rfl,q d _ g n c⟩;refine⟨?_,out.toList,e,xE b1,by rw[l]⟩;rw[R0,g.length_eq];exact D5 (xC (by lia))
end
end L2
namespace HT
open PySem PyProof.Rows
theorem UD  (val:Nat->Int):∀ k,argBest (λi j=>decide (val i > val j)) k<=k/\∀ i,i<=k->val i<=val (argBest (λi j=>decide (val i > val j)) k)
 | 0 => ⟨Nat.le_refl _, fun i hi => by have:i=0 := by lia
                                       subst this;exact Int.le_refl _⟩
 | k+1=>by
  obtain⟨b,a⟩:=UD val k;unfold argBest;by_cases hc:val (k+1) > val (argBest (λi j=>decide (val i > val j)) k)
  ·rw[q0 (N3 hc)];refine⟨M0 _,λi hi=>?_⟩;by_cases e:i=k+1
   ·subst e;exact Int.le_refl _
   ·have:=a i (by lia);exact Int.le_trans this (Int.le_of_lt hc)
  ·rw[o0 (by simpa using hc)];refine⟨by lia,λi hi=>?_⟩;by_cases e:i=k+1
   ·subst e;lia
   ·exact a i (by lia)
theorem sD  (val:Nat->Int):∀ k,argBest (λi j=>decide (val i<val j)) k<=k/\∀ i,i<=k->val (argBest (λi j=>decide (val i<val j)) k)<=val i
 | 0 => ⟨Nat.le_refl _, fun i hi => by have:i=0 := by lia
                                       subst this;exact Int.le_refl _⟩
 | k+1=>by
  obtain⟨b,a⟩:=sD val k;unfold argBest;by_cases hc:val (k+1)<val (argBest (λi j=>decide (val i<val j)) k)
  ·rw[q0 (N3 hc)];refine⟨M0 _,λi hi=>?_⟩;by_cases e:i=k+1
   ·subst e;exact Int.le_refl _
   ·have:=a i (by lia);exact Int.le_trans (Int.le_of_lt hc) this
  ·rw[o0 (by simpa using hc)];refine⟨by lia,λi hi=>?_⟩;by_cases e:i=k+1
   ·subst e;lia
   ·exact a i (by lia)
def val(ns:List Int)(i:Nat):Int:=(ns[i]?).getD 0
theorem K7(hi:IntsAre us ns)(i:Nat)(v:Value)(h:us.toArray[i]?=some v):∃ t,v=.int (val ns i) t:=by
 induction hi generalizing i with
 |nil=>simp at h
 | cons n t r ih =>
  cases i with
  |zero=>simp at h;subst h;exact⟨t,by simp[val]⟩
  | succ i =>
   obtain⟨t',e⟩:=ih i (by simpa using h);exact⟨t',by simpa[val] using e⟩
theorem uB(h:i<ns.length):val ns i∈ns:=by
 unfold val;rw[Y0 h];exact U7 h
theorem fC(h:x∈ns):∃ i,i<ns.length/\val ns i=x:=by
 obtain⟨i,hi,e⟩:=r8.mp h;exact⟨i,hi,by unfold val;rw[Y0 hi];exact e⟩
section
variable{prog:Program}{w:World}{A:Around}{E:Value->Shared->Prop}{s:Shared}
theorem max_list(hh:A.handled=none)(d:s.heap.IsList l us.toArray)(hi:IntsAre us ns)(f:ns ≠ [])
  (h:∀ m t h' c,m∈ns->(∀ x∈ns,x<=m)->(∀ b o,s.heap.get? b=some o->h'.get? b=some o)->Q (.int m t) { s with heap:=h',toks:=c }) :
  wpAny (model prog w) A (call (.builtin "max") [.ref l]) Q E s:=by
 have a:l<s.heap.objs.size:=by obtain⟨_,e,_⟩:=d;exact L0 e
 have n:us.length=ns.length:=hi.length;have y:0<ns.length:=y6.mpr f;refine call_max_walk (e8 d ?_);refine⟨_,[s.heap.objs.size,l],_,_,_,_,_,rfl,Walks.list (A:=A.in1) hh _ l (O1 a) us.toArray,⟨⟨_,D2 _ rfl,rfl,rfl⟩,d.push _⟩,λb hb=>?_,by simp;lia,CmpOf.ints_gt (val ns) (λi v=>K7 hi i v),λv h' c q u=>?_⟩
 ·show b<(s.heap.push _).objs.size;rw[s7];rcases D1.mp hb with rfl|hb
  ·exact W8 _
  ·rcases D1.mp hb with rfl|hb
   ·exact T6 a
   ·cases hb
 ·obtain⟨t,e⟩:=K7 hi _ _ q;obtain⟨b1,g⟩:=UD (val ns) (us.toArray.size-1);have hs:us.toArray.size=ns.length:=by simp[n]
  rw[hs] at b1 g;subst e;refine h _ t h' c (uB (by rw[hs];lia)) (λx p=>?_) λb o e=>?_
  ·obtain⟨i,j,e⟩:=fC p;have:=g i (by lia);rw[e] at this;rw[hs];exact this
  ·refine u b o (λhm=>?_) (J1 _ e);rcases D1.mp hm with r|hm
   ·exact absurd (r ▸ L0 e) (t4 _)
   ·cases hm
theorem min_list(hh:A.handled=none)(d:s.heap.IsList l us.toArray)(hi:IntsAre us ns)(f:ns ≠ [])
  (h:∀ m t h' c,m∈ns->(∀ x∈ns,m<=x)->(∀ b o,s.heap.get? b=some o->h'.get? b=some o)->Q (.int m t) { s with heap:=h',toks:=c }) :
  wpAny (model prog w) A (call (.builtin "min") [.ref l]) Q E s:=by
 have a:l<s.heap.objs.size:=by obtain⟨_,e,_⟩:=d;exact L0 e
 have n:us.length=ns.length:=hi.length;have y:0<ns.length:=y6.mpr f;refine call_min_walk (e8 d ?_);refine⟨_,[s.heap.objs.size,l],_,_,_,_,_,rfl,Walks.list (A:=A.in1) hh _ l (O1 a) us.toArray,⟨⟨_,D2 _ rfl,rfl,rfl⟩,d.push _⟩,λb hb=>?_,by simp;lia,CmpOf.ints_lt (val ns) (λi v=>K7 hi i v),λv h' c q u=>?_⟩
 ·show b<(s.heap.push _).objs.size;rw[s7];rcases D1.mp hb with rfl|hb
  ·exact W8 _
  ·rcases D1.mp hb with rfl|hb
   ·exact T6 a
   ·cases hb
 ·obtain⟨t,e⟩:=K7 hi _ _ q;obtain⟨b1,g⟩:=sD (val ns) (us.toArray.size-1);have hs:us.toArray.size=ns.length:=by simp[n]
  rw[hs] at b1 g;subst e;refine h _ t h' c (uB (by rw[hs];lia)) (λx p=>?_) λb o e=>?_
  ·obtain⟨i,j,e⟩:=fC p;have:=g i (by lia);rw[e] at this;rw[hs];exact this
  ·refine u b o (λhm=>?_) (J1 _ e);rcases D1.mp hm with r|hm
   ·exact absurd (r ▸ L0 e) (t4 _)
   ·cases hm
theorem max_tup{l:Addr}{us:List Value}{ns:List Int}{Q:Value->Shared->Prop}(hh:A.handled=none)(f:s.heap.IsTuple l us.toArray)(hi:IntsAre us ns)(g:ns ≠ [])
  (h:∀ m t h' d,m∈ns->(∀ x∈ns,x<=m)->(∀ b o,s.heap.get? b=some o->h'.get? b=some o)->Q (.int m t) { s with heap:=h',toks:=d }) :
  wpAny (model prog w) A.in1 (pyIter (.ref l)) (λit a=>∃ I fp j n P St bt,it=.ref I/\Walks prog w A.in1 I fp j n P St/\St 0 a.heap/\(∀ b∈fp,b<a.heap.objs.size)/\0<n/\CmpOf prog w A.in1 .Gt P bt /\
   ∀ v h' d,P (argBest bt (n-1)) v->(∀ b o,b ∉ j->a.heap.get? b=some o->h'.get? b=some o)->Q v { a with heap:=h',toks:=d }) E s:=by
 have c:l<s.heap.objs.size:=by obtain⟨_,e,_⟩:=f;exact L0 e
 have r:us.length=ns.length:=hi.length;have C:0<ns.length:=y6.mpr g;refine wpAny_pyIter_tuple f ?_;refine⟨_,[s.heap.objs.size,l],[_],_,_,_,_,rfl,Walks.tuple (A:=A.in1) hh _ l (O1 c) us.toArray,⟨⟨_,D2 _ rfl,rfl,rfl⟩,f.push _⟩,λb hb=>?_,by simp;lia,CmpOf.ints_gt (val ns) (λi v=>K7 hi i v),λv h' d y B=>?_⟩
 ·show b<(s.heap.push _).objs.size;rw[s7];rcases D1.mp hb with rfl|hb
  ·exact W8 _
  ·rcases D1.mp hb with rfl|hb
   ·exact T6 c
   ·cases hb
 ·obtain⟨t,e⟩:=K7 hi _ _ y;obtain⟨b1,p⟩:=UD (val ns) (us.toArray.size-1);have hs:us.toArray.size=ns.length:=by simp[r]
  rw[hs] at b1 p;subst e;refine h _ t h' d (uB (by rw[hs];lia)) (λx u=>?_) λb o e=>?_
  ·obtain⟨i,q,e⟩:=fC u;have:=p i (by lia);rw[e] at this;rw[hs];exact this
  ·refine B b o (λhm=>?_) (J1 _ e);rcases D1.mp hm with z|hm
   ·exact absurd (z ▸ L0 e) (t4 _)
   ·cases hm
theorem min_tup{l:Addr}{us:List Value}{ns:List Int}{Q:Value->Shared->Prop}(hh:A.handled=none)(f:s.heap.IsTuple l us.toArray)(hi:IntsAre us ns)(g:ns ≠ [])
  (h:∀ m t h' d,m∈ns->(∀ x∈ns,m<=x)->(∀ b o,s.heap.get? b=some o->h'.get? b=some o)->Q (.int m t) { s with heap:=h',toks:=d }) :
  wpAny (model prog w) A.in1 (pyIter (.ref l)) (λit a=>∃ I fp j n P St bt,it=.ref I/\Walks prog w A.in1 I fp j n P St/\St 0 a.heap/\(∀ b∈fp,b<a.heap.objs.size)/\0<n/\CmpOf prog w A.in1 .Lt P bt /\
   ∀ v h' d,P (argBest bt (n-1)) v->(∀ b o,b ∉ j->a.heap.get? b=some o->h'.get? b=some o)->Q v { a with heap:=h',toks:=d }) E s:=by
 have c:l<s.heap.objs.size:=by obtain⟨_,e,_⟩:=f;exact L0 e
 have r:us.length=ns.length:=hi.length;have C:0<ns.length:=y6.mpr g;refine wpAny_pyIter_tuple f ?_;refine⟨_,[s.heap.objs.size,l],[_],_,_,_,_,rfl,Walks.tuple (A:=A.in1) hh _ l (O1 c) us.toArray,⟨⟨_,D2 _ rfl,rfl,rfl⟩,f.push _⟩,λb hb=>?_,by simp;lia,CmpOf.ints_lt (val ns) (λi v=>K7 hi i v),λv h' d y B=>?_⟩
 ·show b<(s.heap.push _).objs.size;rw[s7];rcases D1.mp hb with rfl|hb
  ·exact W8 _
  ·rcases D1.mp hb with rfl|hb
   ·exact T6 c
   ·cases hb
 ·obtain⟨t,e⟩:=K7 hi _ _ y;obtain⟨b1,p⟩:=sD (val ns) (us.toArray.size-1);have hs:us.toArray.size=ns.length:=by simp[r]
  rw[hs] at b1 p;subst e;refine h _ t h' d (uB (by rw[hs];lia)) (λx u=>?_) λb o e=>?_
  ·obtain⟨i,q,e⟩:=fC u;have:=p i (by lia);rw[e] at this;rw[hs];exact this
  ·refine B b o (λhm=>?_) (J1 _ e);rcases D1.mp hm with z|hm
   ·exact absurd (z ▸ L0 e) (t4 _)
   ·cases hm
end
end HT
namespace L2
open PySem PySem.Spec PyProof.Rows
section
variable{X:Cx}
def R6(ns:List Int)(m:Int):Prop:=m∈ns/\∀ x∈ns,x<=m
def OC(ns:List Int)(m:Int):Prop:=m∈ns/\∀ x∈ns,m<=x
def i9(K:Frag):List V->Hp->VK->Prop:=λxs H Q=>∃(a:Addr)(ns:List Int),xs=[.ref a]/\(SqL K H a (ns.map V.int)\/SqT K H a (ns.map V.int))/\ns ≠ []/\∀ m,R6 ns m->Q (.int m) H
def TC(K:Frag):List V->Hp->VK->Prop:=λxs H Q=>∃(a:Addr)(ns:List Int),xs=[.ref a]/\(SqL K H a (ns.map V.int)\/SqT K H a (ns.map V.int))/\ns ≠ []/\∀ m,OC ns m->Q (.int m) H
theorem j8(i:X.calm=true):C2 X (.builtin "max") (i9 X.K):=by
 intro pins s σ H xs us Q I r h;obtain⟨a,ns,rfl,ha,b,q⟩:=h;obtain⟨u,rfl,l⟩:=W3 r;cases l;rcases ha with ha|ha
 ·obtain⟨its,g,c,_⟩:=I.list ha;have i1:IntsAre its.toArray.toList ns:=Z7 g;exact HT.max_list (I.ok.hd i) c.isList (by simpa using i1) b λm t h' j d f kp=>⟨.int m,H,I.kept kp,⟨_,rfl⟩,q m ⟨d,f⟩⟩
 ·obtain⟨its,g,c,_⟩:=I.tuple ha;have i1:IntsAre its.toArray.toList ns:=Z7 g;refine call_max_walk (HT.max_tup (I.ok.hd i) c (by simpa using i1) b λm t h' j d f kp=>⟨.int m,H,I.kept kp,⟨_,rfl⟩,q m ⟨d,f⟩⟩)
theorem ZJ(i:X.calm=true):C2 X (.builtin "min") (TC X.K):=by
 intro pins s σ H xs us Q I r h;obtain⟨a,ns,rfl,ha,b,q⟩:=h;obtain⟨u,rfl,l⟩:=W3 r;cases l;rcases ha with ha|ha
 ·obtain⟨its,g,c,_⟩:=I.list ha;have i1:IntsAre its.toArray.toList ns:=Z7 g;exact HT.min_list (I.ok.hd i) c.isList (by simpa using i1) b λm t h' j d f kp=>⟨.int m,H,I.kept kp,⟨_,rfl⟩,q m ⟨d,f⟩⟩
 ·obtain⟨its,g,c,_⟩:=I.tuple ha;have i1:IntsAre its.toArray.toList ns:=Z7 g;refine call_min_walk (HT.min_tup (I.ok.hd i) c (by simpa using i1) b λm t h' j d f kp=>⟨.int m,H,I.kept kp,⟨_,rfl⟩,q m ⟨d,f⟩⟩)
end
def tTru(K:Frag)(ta:TE):TT:=λσ H Q=>ta σ H λx H'=>∃ k,TruV K x H' k/\Q k H'
def rIsN:R2:=λx y H Q=>y=.non/\Q (.bl (decide (x=.non))) H
section
variable{X:Cx}{a:Expr}{ta:TE}
theorem YB(ha:PE X a ta)(b:∀ whole,isTrue a X.env whole=(do let v ← whole;standAt a.pos;holding [v] (truthy v)):=by intro _;rfl):PT X a (tTru X.K ta):=sS ha b
def A4(K:Frag):R2:=λx y H Q=>rIxL K x y H Q\/rIxT K x y H Q
theorem Q0:IxR X (A4 X.K):=ix_list.or eK
theorem ZP{i j n:Int}{b a:Nat}{d p2 pos:Pos}(h:i ^ j.toNat=n)(c:CPow i j):PE X (.BinOp (.Constant (.int i) b d) .Pow (.Constant (.int j) a p2) pos) (tC (.int n)):=by
 intro pins s σ H Q I q;subst h;exact K0 HU t0 t0 pins s σ H Q I ⟨i,j,rfl,rfl,c,q⟩
theorem wD:OpR X (compareOp .Is) rIsN:=NP
end
section
variable{σ:St}{H:Hp}{D:Ends}{K:Frag}
theorem FC(ha:H a=some (.lst xs))(b:M1 xs i=some v)(h:Q v H):A4 K (.ref a) (.int i) H Q:=.inl (oN ha b h)
theorem fF(ha:H a=some (.tup xs))(b:M1 xs i=some v)(h:Q v H):A4 K (.ref a) (.int i) H Q:=.inr (yM ha b h)
theorem P5{A B:Prop}(h:A):if true=true then A else B:=by rw[q0 rfl];exact h
theorem m6{A B:Prop}(h:B):if false=true then A else B:=by rw[o0 X1];exact h
theorem BC{A B:Prop}(h:B):if (!true)=true then A else B:=by rw[o0 (by decide)];exact h
theorem DE{A B:Prop}(h:A):if (!false)=true then A else B:=by rw[q0 (by decide)];exact h
theorem lQ{c:Prop} [Decidable c] {A B:Prop} (a:c) (h:B):if (!decide c)=true then A else B:=by rw[N3 a];exact BC h
theorem EU{c:Prop} [Decidable c] {A B:Prop} (a:¬ c) (h:A):if (!decide c)=true then A else B:=by rw[D3 a];exact DE h
theorem iK:kitOne K (.type "NoneType") (.type "int")=some false:=by first|rfl|decide
theorem DR:kitOne K (.type "NoneType") (.type "bool")=some false:=by first|rfl|decide
theorem rR:kitOne K (.type "NoneType") (.type "tuple")=some false:=by first|rfl|decide
theorem PK:kitOne K (.type "NoneType") (.type "list")=some false:=by first|rfl|decide
theorem xS:kitOne K (.type "NoneType") (.type "str")=some false:=by first|rfl|decide
theorem CT:kitOne K (.type "NoneType") (.type "dict")=some false:=by first|rfl|decide
theorem iS:kitOne K (.type "bool") (.type "int")=some true:=by first|rfl|decide
theorem GR:kitOne K (.type "bool") (.type "bool")=some true:=by first|rfl|decide
theorem GL:kitOne K (.type "bool") (.type "tuple")=some false:=by first|rfl|decide
theorem fQ:kitOne K (.type "bool") (.type "list")=some false:=by first|rfl|decide
theorem lO:kitOne K (.type "bool") (.type "str")=some false:=by first|rfl|decide
theorem CU:kitOne K (.type "bool") (.type "dict")=some false:=by first|rfl|decide
theorem aR:kitOne K (.type "int") (.type "int")=some true:=by first|rfl|decide
theorem IU:kitOne K (.type "int") (.type "bool")=some false:=by first|rfl|decide
theorem mP:kitOne K (.type "int") (.type "tuple")=some false:=by first|rfl|decide
theorem IQ:kitOne K (.type "int") (.type "list")=some false:=by first|rfl|decide
theorem JK:kitOne K (.type "int") (.type "str")=some false:=by first|rfl|decide
theorem pP:kitOne K (.type "int") (.type "dict")=some false:=by first|rfl|decide
theorem tU:kitOne K (.type "str") (.type "int")=some false:=by first|rfl|decide
theorem eQ:kitOne K (.type "str") (.type "bool")=some false:=by first|rfl|decide
theorem LM:kitOne K (.type "str") (.type "tuple")=some false:=by first|rfl|decide
theorem eS:kitOne K (.type "str") (.type "list")=some false:=by first|rfl|decide
theorem QR:kitOne K (.type "str") (.type "str")=some true:=by first|rfl|decide
theorem NL:kitOne K (.type "str") (.type "dict")=some false:=by first|rfl|decide
theorem UQ:kitOne K (.type "list") (.type "int")=some false:=by first|rfl|decide
theorem aK:kitOne K (.type "list") (.type "bool")=some false:=by first|rfl|decide
theorem MJ:kitOne K (.type "list") (.type "tuple")=some false:=by first|rfl|decide
theorem jN:kitOne K (.type "list") (.type "list")=some true:=by first|rfl|decide
theorem ER:kitOne K (.type "list") (.type "str")=some false:=by first|rfl|decide
theorem IT:kitOne K (.type "list") (.type "dict")=some false:=by first|rfl|decide
theorem yU:kitOne K (.type "tuple") (.type "int")=some false:=by first|rfl|decide
theorem fM:kitOne K (.type "tuple") (.type "bool")=some false:=by first|rfl|decide
theorem wO:kitOne K (.type "tuple") (.type "tuple")=some true:=by first|rfl|decide
theorem EK:kitOne K (.type "tuple") (.type "list")=some false:=by first|rfl|decide
theorem VT:kitOne K (.type "tuple") (.type "str")=some false:=by first|rfl|decide
theorem JR:kitOne K (.type "tuple") (.type "dict")=some false:=by first|rfl|decide
theorem vU:kitOne K (.type "dict") (.type "int")=some false:=by first|rfl|decide
theorem GM:kitOne K (.type "dict") (.type "bool")=some false:=by first|rfl|decide
theorem dO:kitOne K (.type "dict") (.type "tuple")=some false:=by first|rfl|decide
theorem EQ:kitOne K (.type "dict") (.type "list")=some false:=by first|rfl|decide
theorem jM:kitOne K (.type "dict") (.type "str")=some false:=by first|rfl|decide
theorem oU:kitOne K (.type "dict") (.type "dict")=some true:=by first|rfl|decide
end
end L2
namespace L2
open PySem
section
variable{σ:St}{H:Hp}{K:Frag}
theorem M5(a:H p=none):Same H (upd H p o):=λb u e=>by rw[J0 (U2 e a)];exact e
theorem Same.at(s:Same H H')(h:H b=some o):H' b=some o:=s b o h
end
section
variable{σ:St}{H:Hp}{K:Frag}
end
end L2
namespace Gr
inductive Walk(T:Int->Int->Prop)(u:Int):Nat->Int->Prop
 |refl:Walk T u 0 u
 |step {k:Nat} {v w:Int}:Walk T u k v->T v w->Walk T u (k+1) w
def Dist(T:Int->Int->Prop)(u v:Int)(d:Nat):Prop:=Walk T u d v/\∀ k,Walk T u k v->d<=k
theorem Dist.uniq(h:Dist T u v d)(g:Dist T u v e):d=e:=Nat.le_antisymm (h.2 _ g.1) (g.2 _ h.1)
theorem Dist.self(T:Int->Int->Prop)(u:Int):Dist T u u 0:=⟨.refl,λ_ _=>O3 _⟩
theorem Dist.of_walk(h:Walk T u k v):∃ d,d<=k/\Dist T u v d:=by
 induction k using Nat.strongRecOn with
 | ind k ih =>
  by_cases hx:∃ j,j<k/\Walk T u j v
  ·obtain⟨j,a,w⟩:=hx;obtain⟨d,hd,e⟩:=ih j a w;exact⟨d,by lia,e⟩
  ·refine⟨k,M0 _,h,λj w=>?_⟩;by_cases a:j<k
   ·exact absurd ⟨j,a,w⟩ hx
   ·lia
theorem Dist.pred(h:Dist T u w (d+1)):∃ v,T v w/\Dist T u v d:=by
 obtain⟨b,hm⟩:=h;cases b with
 | step hv ht =>
  rename_i v
  refine⟨v,ht,hv,λk a=>?_⟩;have:=hm (k+1) (.step a ht);lia
theorem Dist.next(h:Dist T u v d)(t:T v w):∃ e,e<=d+1/\Dist T u w e:=Dist.of_walk (.step h.1 t)
structure Bfs(T:Int->Int->Prop)(a:Int)(line:List Int)(ds:List Nat)(at_:Nat):Prop where
 len:ds.length=line.length
 fst:line[0]?=some a
 nd:line.Nodup
 le:at_<=line.length
 dist:∀(i:Nat) v d,line[i]?=some v->ds[i]?=some d->Dist T a v d
 mono:∀(i j:Nat) d e,i<=j->ds[i]?=some d->ds[j]?=some e->d<=e
 near:∀(i j:Nat) d e,at_<=i->ds[i]?=some d->ds[j]?=some e->e<=d+1
 done:∀(i:Nat) v w,i<at_->line[i]?=some v->T v w->w∈line
end Gr
namespace L2
open PySem PySem.Spec PyProof.Rows
section
variable{σ:St}{H:Hp}{D:Ends}{K:Frag}
end
theorem few_places:∀(n:Nat)(l:List Int),l.Nodup->(∀ v∈l,0<=v/\v<(n:Int))->l.length<=n
 | 0,l,_,h=>by
  cases l with
  |nil=>simp
  |cons v r=>have:=h v (by simp);lia
 | n+1,l,hn,h=>by
  have d:=few_places n (l.erase (n:Int)) (hn.erase _) λv a=>by
   have hm:=List.mem_of_mem_erase a;have hb:=h v hm;have b:v ≠ (n:Int):=by
    rintro rfl;exact absurd a (List.Nodup.not_mem_erase hn)
   lia
  have c:l.length<=(l.erase (n:Int)).length+1:=by
   rw[List.length_erase];split <;> lia
  lia
end L2
namespace L2
open PySem
end L2
namespace HT
open PySem PyProof.Rows
section
variable{prog:Program}{w:World}{A:Around}{E:Value->Shared->Prop}{s:Shared}
end
end HT
namespace L2
open PySem PySem.Spec PyProof.Rows
section
variable{X:Cx}
end
section
variable{X:Cx}{pins:List (Addr × Obj)}{σ:St}{H:Hp}{s:Shared}{A:Around}{E:Value->Shared->Prop}{Q:Value->Shared->Prop}{b:Bool}
end
section
variable{X:Cx}
end
end L2
namespace HT
open PySem PyProof.Rows L2
def LtAt(A:Around)(s:Shared)(y x:Value)(b:Bool):Prop :=
 ∀(prog:Program)(w:World)(E:Value->Shared->Prop)(Q:Value->Shared->Prop),Q (.bool b) s->wpAny (model prog w) A (richCompare .Lt y x) Q E s
section
open PySem.SeqAt
open PySem.AutoSeq1 (wpAny_loadPart')
open PySem.MeetsSeq PySem.MeetsSeq2 PySem.MeetsSeq3
inductive Its(A:Around)(s:Shared):List Value->List Value->Bool->Prop
 |nn:Its A s [] [] false
 |nc {x:Value} {ys:List Value}:Its A s [] (x::ys) true
 |cn {x:Value} {xs:List Value}:Its A s (x::xs) [] false
 |eq {x y:Value} {xs ys:List Value} {b:Bool}:EqAt A s x y true->Its A s xs ys b->Its A s (x::xs) (y::ys) b
 |ne {x y:Value} {xs ys:List Value} {b:Bool}:EqAt A s x y false->LtAt A s x y b->Its A s (x::xs) (y::ys) b
end
section
variable{A:Around}{s:Shared}
end
end HT
namespace L2
open PySem PySem.Spec PyProof.Rows
section
variable{X:Cx}
end
end L2
namespace L2
open PySem
end L2
namespace TS
open PySem PyProof.Rows HT
theorem zH:∀ x y:List Int,HT.lexLt x y=true->HT.lexLt y x=false
 |[],[],h=>by simp[HT.lexLt] at h
 |[],_::_,_=>rfl
 |_::_,[],h=>by simp[HT.lexLt] at h
 | a::x,b::y,h=>by
  rw[oC] at h ⊢;by_cases e:a=b
  ·subst e;rw[q0 rfl] at h ⊢;exact zH x y h
  ·rw[o0 e] at h;rw[o0 (λz=>e z.symm)];have:=of_decide_eq_true h;exact D3 (by lia)
theorem xF:∀ x y z:List Int,HT.lexLt y x=false->HT.lexLt z y=false->HT.lexLt z x=false
 |_,[],[],h,_=>h
 |[],[],_::_,_,_=>rfl
 |_::_,[],_::_,h,_=>by simp[HT.lexLt] at h
 |_,_::_,[],_,h=>by simp[HT.lexLt] at h
 |[],_::_,_::_,_,_=>rfl
 | a::x,b::y,c::z,h,g=>by
  rw[oC] at h g ⊢;by_cases e:b=a
  ·subst e;rw[q0 rfl] at h;by_cases e2:c=b
   ·subst e2;rw[q0 rfl] at g ⊢;exact xF x y z h g
   ·rw[o0 e2] at g ⊢;exact g
  ·rw[o0 e] at h;have h':=of_decide_eq_false h;by_cases e2:c=b
   ·subst e2;rw[o0 e];exact h
   ·rw[o0 e2] at g;have g':=of_decide_eq_false g;rw[o0 (by lia)];exact D3 (by lia)
def TI(h:Heap)(a:Addr)(ns:List Int):Prop:=∃ o xs n,h.get? a=some o/\o.cls=.type "tuple"/\o.data=.seq xs n/\IntsAre xs.toList ns
def kfV(kf:Addr->List Int):Value->List Int
 | .ref a=>kf a
 |_=>[]
section
variable{prog:Program}{w:World}{A:Around}{E:Value->Shared->Prop}{s:Shared}
theorem EF:∀{xs ys:List Value}{ns c:List Int}(i:Nat),IntsAre xs ns->IntsAre ys c->(ns.length<c.length->fin=true)->(c.length<=ns.length->fin=false)->Q (HT.lexLt ns c) s ->
  PySem.W.KatLex prog w A true fin Q (xs.zip ys) i s
 | _,_,_,_,i,.nil,.nil,_,h2,q=>by
  rw[h2 (M0 _)];exact q
 | _,_,_,_,i,.nil,.cons b u r,h1,_,q=>by
  rw[h1 (by simp)];exact q
 | _,_,_,_,i,.cons a t r,.nil,_,h2,q=>by
  rw[List.zip_nil_right,h2 (by simp)];exact q
 | _,_,_,_,i,.cons a t r,.cons b u r2,h1,h2,q=>by
  rw[List.zip_cons_cons];refine PySem.W.kat_cons (SeqAt.EqAt.int_int a t b u prog w _ _ ?_);rw[oC] at q;by_cases e:a=b
  ·subst e;rw[q0 rfl] at q;rw[show(a == a)=true by simp];exact PySem.W.kat_yes (EF (i+1) r r2 (λz=>h1 (by simpa using z)) (λz=>h2 (by simpa using z)) q)
  ·rw[o0 e] at q;rw[show(a == b)=false by simpa using e];refine PySem.W.kat_no ?_;by_cases hi:i=0
   ·subst hi;exact oneLt_int q
   ·rw[show(true && i == 0)=false by simpa using hi];exact PySem.W.kat_one _ _ (PyProof.Rows.lt_int q)
def tS(h:Heap)(kf:Addr->List Int)(x:Keyed):Prop:=x.1=x.2/\∃ a,x.1=.ref a/\TI h a (kf a)
def tR(kf:Addr->List Int)(x y:Keyed):Bool:=HT.lexLt (kfV kf x.1) (kfV kf y.1)
theorem cmp_tups(i:Addr->List Int):Cmp (model prog w) A E s (tuples' true) (tS s.heap i) (tR i):=by
 refine⟨λx y p l Q st v q=>?_,λx y _ _=>zH _ _,λx y z _ _ _=>xF _ _ _⟩;obtain⟨I,H⟩:=x;obtain⟨G,D⟩:=y;obtain⟨_,a,j,o,xs,n,u,e2,r,f⟩:=p;obtain⟨_,b,h,o',ys,F,m,C,B,d⟩:=l;dsimp only at j h;subst j h;rw[lt'_eq];refine wpS_bind (wpS_get ?_);rw[v];refine wpS_bind (wpS_lift (wpAny_attempt (PySem.W.kat_lt u r m B (EF 0 f d (λz=>?_) (λz=>?_) ⟨rfl,?_⟩))))
 ·have g:=f.length;have c:=d.length;simp at g c;exact N3 (by lia)
 ·have g:=f.length;have c:=d.length;simp at g c;exact D3 (by lia)
 ·exact wpS_pure q
theorem YL{vs:List Value}{ps:List Keyed}(h:ps.Perm (vs.zip vs)):(∀ p∈ps,p.1=p.2/\p.1∈vs)/\(ps.map (·.2)).Perm vs:=by
 refine⟨λp a=>mem_zip_self (h.mem_iff.mp a),?_⟩;have b:=h.map (λp=>p.2);have e:(vs.zip vs).map (λp=>p.2)=vs:=List.map_snd_zip (M0 _)
 rwa [e] at b
theorem pG(j:s.heap.get? a=some (seqObj "list" vs.toArray n))(c:vs.length<=sizeLine)
  (p:2<=vs.length->∀ h',(∀ b o,b ≠ a->s.heap.get? b=some o->h'.get? b=some o)->∃ κ S R,(∀(Q:SortKind->Shared->Prop),Q κ { s with heap:=h' }->wpAny (model prog w) A (keyKind' vs.toArray) Q E { s with heap:=h' })/\Cmp (model prog w) A E { s with heap:=h' } κ S R/\(∀ v∈vs,S (v,v)) /\
   ∀ out:List Value,out.Perm vs->out.Pairwise (λx y=>R (y,y) (x,x)=false)->P (.done (.ret .none)) { s with heap:=sortedHeap s.heap a vs out.toArray })
  (I:vs.length<2->P (.done (.ret .none)) { s with heap:=sortedHeap s.heap a vs vs.toArray }) :
  wpAny (model prog w) A (Builtin.«list.sort» ⟨[.ref a],[]⟩) P E s:=by
 rw[list_sort_plain];have ha:a<s.heap.objs.size:=L0 j;refine C0 (listItems_at j rfl ?_);refine C0 (listUpdate_at j rfl ?_ (by rw[Q2];exact c) (O3 _));obtain⟨r,h⟩:∃ r,(s.heap.update a (Obj.mapSeq λ_=>#[])).get? a=some (seqObj "list" #[] r):=⟨_,get?_update_seq j (λ_=>#[])⟩
 refine C0 (seqEpoch_at h rfl ?_);refine C0 (wpAny_newTuple ?_ (by show vs.length<=_;exact c));refine C0 (wpAny_newList ?_ (O3 _));refine w5 ?_;have d:(((s.heap.update a (Obj.mapSeq λ_=>#[])).push (seqObj "tuple" vs.toArray 0)).push (seqObj "list" #[] 0)).get? a=some (seqObj "list" #[] r):=by
  rw[Heap.get?_push_ne _ _ _ (by rw[size_push',Heap.size_update];exact O1 (T6 ha)),Heap.get?_push_ne _ _ _ (by rw[Heap.size_update];exact O1 ha)];exact h
 show wpAny (model prog w) A _ P E { s with heap:=((s.heap.update a (Obj.mapSeq λ_=>#[])).push (seqObj "tuple" vs.toArray 0)).push (seqObj "list" #[] 0) };dsimp only;have hsz:vs.toArray.size=vs.length:=by simp
 have kp:∀ b o,b ≠ a->s.heap.get? b=some o->(((s.heap.update a (Obj.mapSeq λ_=>#[])).push (seqObj "tuple" vs.toArray 0)).push (seqObj "list" #[] 0)).get? b=some o:=λb o hb e=>by
  refine J1 _ (J1 _ ?_);rw[Heap.get?_update_ne _ _ _ _ hb];exact e
 by_cases h2:vs.toArray.size<2
 ·rw[q0 h2,q0 h2];refine C0 (N0 ?_);rw[StateT.run_pure];refine C0 (N0 ?_);dsimp only;have q:(arrOf (SortSt.mk' general' (vs.toArray.zip vs.toArray) #[] 7 none)).map (·.2)=vs.toArray:=by
   show(vs.toArray.zip vs.toArray).map (·.2)=vs.toArray;apply Array.toList_inj.mp;rw[Array.toList_map,Array.toList_zip];exact List.map_snd_zip (M0 _)
  rw[q];refine C0 (seqEpoch_at d rfl ?_);refine C0 (listUpdate_at d rfl ?_ (O3 _) (by rw[Q2];exact Nat.le_succ_of_le c));simp only[bne_self_eq_false,Bool.false_eq_true,if_false];exact N0 (I (by lia))
 ·rw[o0 h2,o0 h2];obtain⟨κ,S,R,K,C,L,g⟩:=p (by lia) _ kp;refine C0 (K _ ?_);refine C0 (V3 (WL C (a0:=vs.toArray.zip vs.toArray) (st:=SortSt.mk' κ (vs.toArray.zip vs.toArray) #[] 7 none) (Q:=λ_ st'=>failedOf st'=none/\(arrOf st').toList.Perm (vs.zip vs)/\Srt R (arrOf st').toList) (λx m=>?_) rfl rfl rfl rfl λst' J B s'=>⟨J,by simpa using B,s'⟩) ?_ λ_ _ e=>e)
  ·have:x∈vs.zip vs:=by simpa using m
   obtain⟨f,i⟩:=mem_zip_self this;obtain⟨H,G⟩:=x;dsimp only at f i;subst f;exact L _ i
  rintro⟨⟨⟩,st'⟩ s' ⟨rfl,hf,D,hs⟩;dsimp only;obtain⟨f,i⟩:=YL D;have q:(arrOf st').map (·.2)=(((arrOf st').toList.map (·.2)).toArray):=by
   apply Array.toList_inj.mp;simp
  rw[q];have l:((arrOf st').toList.map (·.2)).length=vs.length:=i.length_eq;refine C0 (seqEpoch_at d rfl ?_);refine C0 (listUpdate_at d rfl ?_ (O3 _) (by rw[Q2,l];exact Nat.le_succ_of_le c));rw[hf];simp only[bne_self_eq_false,Bool.false_eq_true,if_false];refine N0 (g _ i ?_);rw[O6];refine kA ?_ hs;intro x y m z F;have ex:=(f x m).1;have u:=(f y z).1;obtain⟨H,G⟩:=x;obtain⟨N,M⟩:=y;dsimp only at ex u;subst ex u;exact F
theorem sorted_any(j:s.heap.IsList l vs.toArray)(c:vs.length<=sizeLine)
  (g:2<=vs.length->∀ h',(∀ b o,s.heap.get? b=some o->h'.get? b=some o)->∃ κ S R,(∀(Q:SortKind->Shared->Prop),Q κ { s with heap:=h' }->wpAny (model prog w) A.in1.in1 (keyKind' vs.toArray) Q E { s with heap:=h' })/\Cmp (model prog w) A.in1.in1 E { s with heap:=h' } κ S R/\(∀ v∈vs,S (v,v)) /\
   ∀ out:List Value,out.Perm vs->out.Pairwise (λx y=>R (y,y) (x,x)=false)->Q (.ref (s.heap.objs.size+1)) { s with heap:=sortedAll s.heap vs out.toArray })
  (n:vs.length<2->Q (.ref (s.heap.objs.size+1)) { s with heap:=sortedAll s.heap vs vs.toArray }) :
  wpAny (model prog w) A (call (.builtin "sorted") [.ref l]) Q E s:=by
 refine Calls.call_function_entry kind_sorted plain_sorted entry_sorted (args_sorted1 _) ?_;unfold Builtin.«sorted»;refine C0 (m:=checkCount "sorted" 1 1 _) (N0 ?_);refine C0 (collect_list j ?_ c);refine C0 (wpAny_newList ?_ c);have hsz:((s.heap.push (seqObj "list" #[] 0)).update s.heap.objs.size (Obj.mapSeq (· ++ vs.toArray))).objs.size=s.heap.objs.size+1:=by
  rw[Heap.size_update,size_push']
 have f:(((s.heap.push (seqObj "list" #[] 0)).update s.heap.objs.size (Obj.mapSeq (· ++ vs.toArray))).push (seqObj "list" vs.toArray 0)).get? (s.heap.objs.size+1)=some (seqObj "list" vs.toArray 0):=by
  rw[← hsz];exact D2 _ rfl
 have keep:∀ b o,s.heap.get? b=some o->(((s.heap.push (seqObj "list" #[] 0)).update s.heap.objs.size (Obj.mapSeq (· ++ vs.toArray))).push (seqObj "list" vs.toArray 0)).get? b=some o:=λb o q=>by
  have a:b<s.heap.objs.size:=L0 q;rw[Heap.get?_push_ne _ _ _ (by rw[hsz];exact O1 (T6 a)),Heap.get?_update_ne _ _ _ _ (O1 a),Heap.get?_push_ne _ _ _ (O1 a)];exact q
 show wpAny _ _ _ _ _ { s with heap:=((s.heap.push (seqObj "list" #[] 0)).update s.heap.objs.size (Obj.mapSeq (· ++ vs.toArray))).push (seqObj "list" vs.toArray 0) };rw[hsz];refine C0 (w5 (DA slot_list_sort ⟨_,f,rfl⟩ entry_list_sort ?body (args_list_sort _)))
 case body =>
  refine pG (s:={ s with heap:=((s.heap.push (seqObj "list" #[] 0)).update s.heap.objs.size (Obj.mapSeq (· ++ vs.toArray))).push (seqObj "list" vs.toArray 0) }) f c (λh h' kp=>?_) λa=>?_
  ·obtain⟨κ,S,R,r,C,u,d⟩:=g h h' λb o e=>kp b o (O1 (T6 (L0 e))) (keep b o e);exact⟨κ,S,R,r,C,u,λout i p=>⟨_,rfl,N0 ⟨_,rfl,d out i p⟩⟩⟩
  ·exact⟨_,rfl,N0 ⟨_,rfl,n a⟩⟩
end
end TS
namespace L2
open PySem PySem.Spec PyProof.Rows
def toI:V->Int
 | .int i=>i
 |_=>0
def kH(H:Hp):V->List Int
 | .ref t=>match H t with
  |some (.tup xs)=>xs.map toI
  |_=>[]
 |_=>[]
theorem tM(ns:List Int):(ns.map V.int).map toI=ns:=by
 rw[v2];have:(toI ∘ V.int)=id:=by funext i;rfl
 rw[this,List.map_id]
theorem ZA(h:H t=some (.tup (ns.map V.int))):kH H (.ref t)=ns:=by
 simp only[kH,h];exact tM ns
def TupI(H:Hp)(v:V):Prop:=∃ t ns,v=.ref t/\H t=some (.tup (ns.map V.int))/\ns ≠ []
def n6:Value->V
 | .ref a=>.ref a
 |_=>.non
theorem pD:∀{us:List Value},(∀ u∈us,∃ a,u=.ref a)->Vals (us.map n6) us
 |[],_=>.nil
 | u::us,h=>by
  obtain⟨a,e⟩:=h u o3;subst e;exact .cons rfl (pD λv b=>h v (S2 _ b))
theorem mE:∀{vs:List V}{us:List Value},Vals vs us->(∀ v∈vs,TupI H v)->(∀ u∈us,∃ a,u=.ref a)/\us.map n6=vs
 |_,_,.nil,_=>⟨λu d=>(by cases d),rfl⟩
 | v::vs,u::us,.cons r t,h=>by
  obtain⟨a,ns,rfl,_,_⟩:=h v o3;cases r;obtain⟨f,c⟩:=mE t λv g=>h v (S2 _ g);refine⟨λx b=>?_,by rw[M2,c];rfl⟩;rcases D1.mp b with rfl|b
  ·exact⟨_,rfl⟩
  ·exact f x b
section
variable{X:Cx}
def SA(K:Frag):List V->Hp->VK->Prop:=λxs H Q=>∃(a:Addr)(vs:List V),xs=[.ref a]/\SqL K H a vs/\(∀ v∈vs,TupI H v) /\
 ∀(vs':List V)(p:Addr),vs'.Perm vs->vs'.Pairwise (λx y=>HT.lexLt (kH H y) (kH H x)=false)->H p=none->Q (.ref p) (upd H p (.lst vs'))
theorem PD(I:Inv X pins σ H s)(kp:∀ b o,s.heap.get? b=some o->h'.get? b=some o):∀{vs:List V}{us:List Value},Vals vs us->(∀ v∈vs,TupI H v) ->
  (∃ fs,PySem.W.KatTups h' us fs/\fs.length=us.length/\∀ f∈fs,∃ i t,f=.int i t)/\∀ u∈us,∃ a,u=.ref a/\TS.TI h' a (kH H (.ref a))
 |_,_,.nil,_=>⟨⟨[],trivial,rfl,λf hf=>by cases hf⟩,λu q=>by cases q⟩
 | v::vs,u::us,.cons r t,h=>by
  obtain⟨a,ns,rfl,e,l⟩:=h v o3;cases r;obtain⟨⟨fs,A,z,E⟩,C⟩:=PD I kp t λv B=>h v (S2 _ B);obtain⟨_,its,y,o,p,e2,n,m⟩:=(show ObjOk X.prog X.w H s.heap a (.tup (ns.map V.int)) from I.hok a _ e)
  have hi:IntsAre its ns:=by simpa using (Z7 y:IntsAre its.toArray.toList ns)
  have F:TS.TI h' a (kH H (.ref a)):=⟨o,its.toArray,n,kp _ _ p,e2,m,by rw[ZA e];simpa using hi⟩
  obtain⟨f,hf,i,d,D⟩:∃ f,its.toArray[0]?=some f/\∃ i t,f=.int i t:=by
   cases hi with
   |nil=>exact absurd rfl l
   |cons i d _=>exact⟨_,by simp,i,d,rfl⟩
  refine⟨⟨f::fs,PySem.W.KatTups.cons (kp _ _ p) e2 m hf A,by simp[z],λg c=>?_⟩,λx j=>?_⟩
  ·rcases D1.mp c with rfl|c
   ·exact⟨i,d,D⟩
   ·exact E g c
  ·rcases D1.mp j with rfl|j
   ·exact⟨a,rfl,F⟩
   ·exact C x j
theorem PH{α:Type}{R : α->α->Prop}:∀{l:List α},l.length<2->l.Pairwise R
 |[],_=>List.Pairwise.nil
 |[_],_=>List.pairwise_singleton _ _
 |_::_::_,h=>absurd h (by simp)
theorem vE:C2 X (.builtin "sorted") (SA X.K):=by
 intro pins s σ H xs us Q I r h;obtain⟨a,vs,rfl,ha,n,q⟩:=h;obtain⟨u,rfl,M⟩:=W3 r;cases M;obtain⟨its,m,B,p⟩:=I.list ha;obtain⟨b1,C⟩:=mE m n;have c:its.length<=sizeLine:=by rw[← m.length];exact p
 have d:H (s.heap.objs.size+1)=none:=I.hok.fresh (Nat.le_succ _);have fin:∀ out:List Value,out.Perm its->(out.map n6).Pairwise (λx y=>HT.lexLt (kH H y) (kH H x)=false)->EP X pins σ Q (.ref (s.heap.objs.size+1)) { s with heap:=sortedAll s.heap its out.toArray }:=by
  intro out f hs;obtain⟨e,A⟩:=sortedAll_at s.heap its out.toArray;have g:Vals (out.map n6) out:=pD λu w=>b1 u (f.mem_iff.mp w);refine⟨.ref (s.heap.objs.size+1),_,I.laid (t':=s.toks) (o:=.lst (out.map n6)) (λb P q=>sortedAll_old q) (Nat.le_succ _) ?_,rfl,q _ _ ?_ hs d⟩
  ·refine⟨by rw[R0,f.length_eq];exact c,out,e,g,by rw[A]⟩
  ·rw[← C];exact f.map n6
 refine TS.sorted_any B.isList c (λN h' kp=>?_) λj=>?_
 ·obtain⟨⟨fs,D,R,O⟩,J⟩:=PD I kp m n;have l:(Value.type "int" != Value.type "tuple")=true:=by rfl
  refine⟨tuples' true,TS.tS h' (λa=>kH H (.ref a)),TS.tR (λa=>kH H (.ref a)),λQ' E=>?_,TS.cmp_tups (s:={ s with heap:=h' }) (λa=>kH H (.ref a)),λv g=>?_,λout f hs=>fin out f ?_⟩
  ·refine PySem.W.kat_kind (T:=.type "int") (s:={ s with heap:=h' }) D (by lia) (λv g=>?_) (by rfl) ?_
   ·obtain⟨i,t,rfl⟩:=O v g;exact .now
   ·rw[l];exact E
  ·obtain⟨a,e,L⟩:=J v g;exact⟨rfl,a,e,L⟩
  ·rw[O6];refine kA ?_ hs;intro x y F z G;obtain⟨S,rfl⟩:=b1 x (f.mem_iff.mp F);obtain⟨U,rfl⟩:=b1 y (f.mem_iff.mp z);exact G
 ·refine fin its (List.Perm.refl _) ?_;exact PH (by rw[R0];exact j)
end
end L2
namespace HT
open PySem PySem.Spec PyProof.Rows L2
section
variable{prog:Program}{w:World}{A:Around}{kw:List (Str × Value)}{R:Result->Shared->Prop}{I S:Addr}{fp wr:List Addr}{n:Nat}{P:Nat->Value->Prop}{St:Nat->Heap->Prop}{Hd:Heap->Prop}
end
section
variable{prog:Program}{w:World}{A:Around}{E:Value->Shared->Prop}{s:Shared}
end
end HT
namespace L2
open PySem PySem.Spec PyProof.Rows
section
variable{X:Cx}{x:Str}{p pos kpos:Pos}{e en:Expr}{t:TA}
end
end L2
namespace HT
open PySem PySem.Spec PyProof.Rows
section
variable{prog:Program}{w:World}{A:Around}{E:Value->Shared->Prop}{s:Shared}
end
end HT
namespace L2
open PySem PySem.Spec PyProof.Rows
section
variable{X:Cx}
end
end L2
namespace VL
open PySem PySem.Spec L2
def kD:Key->PyData
 | .inl i=>.int i
 | .inr x=>.str x
mutual
inductive Rp(G:Hp):V->PyData->Prop
 |non:Rp G .non .none
 |bl (b:Bool):Rp G (.bl b) (.bool b)
 |int (i:Int):Rp G (.int i) (.int i)
 |str (x:Str):Rp G (.str x) (.str x)
 |lst {a:Addr} {xs:List V} {ds:List PyData}:G a=some (.lst xs)->Rps G xs ds->Rp G (.ref a) (.list ds)
 |tup {a:Addr} {xs:List V} {ds:List PyData}:G a=some (.tup xs)->Rps G xs ds->Rp G (.ref a) (.tuple ds)
 |dk {a:Addr} {kvs:List (Key × V)} {es:List (Key × PyData)} {ds:List (PyData × PyData)}:G a=some (.dK kvs)->RpK G kvs es->ds=es.map (λp=>(kD p.1,p.2))->Rp G (.ref a) (.dict ds)
 |dt {a:Addr} {kvs:List (List Key × V)} {es:List (List Key × PyData)} {ds:List (PyData × PyData)}:G a=some (.dT kvs)->RpT G kvs es->ds=es.map (λp=>(.tuple (p.1.map kD),p.2))->Rp G (.ref a) (.dict ds)
inductive Rps(G:Hp):List V->List PyData->Prop
 |nil:Rps G [] []
 |cons {v:V} {vs:List V} {d:PyData} {ds:List PyData}:Rp G v d->Rps G vs ds->Rps G (v::vs) (d::ds)
inductive RpK(G:Hp):List (Key × V)->List (Key × PyData)->Prop
 |nil:RpK G [] []
 |cons {k:Key} {v:V} {d:PyData} {r:List (Key × V)} {s:List (Key × PyData)}:Rp G v d->RpK G r s->RpK G ((k,v)::r) ((k,d)::s)
inductive RpT(G:Hp):List (List Key × V)->List (List Key × PyData)->Prop
 |nil:RpT G [] []
 |cons {k:List Key} {v:V} {d:PyData} {r:List (List Key × V)} {s:List (List Key × PyData)}:Rp G v d->RpT G r s->RpT G ((k,v)::r) ((k,d)::s)
end
mutual
theorem Rp.same(s:Same G G'):∀{v:V}{d:PyData},Rp G v d->Rp G' v d
 |_,_,.non=>.non
 |_,_,.bl b=>.bl b
 |_,_,.int i=>.int i
 |_,_,.str x=>.str x
 |_,_,.lst h r=>.lst (s _ _ h) (Rps.same s r)
 |_,_,.tup h r=>.tup (s _ _ h) (Rps.same s r)
 |_,_,.dk h r e=>.dk (s _ _ h) (RpK.same s r) e
 |_,_,.dt h r e=>.dt (s _ _ h) (RpT.same s r) e
theorem Rps.same(s:Same G G'):∀{vs:List V}{ds:List PyData},Rps G vs ds->Rps G' vs ds
 |_,_,.nil=>.nil
 |_,_,.cons r t=>.cons (Rp.same s r) (Rps.same s t)
theorem RpK.same(s:Same G G'):∀{vs:List (Key × V)}{ds:List (Key × PyData)},RpK G vs ds->RpK G' vs ds
 |_,_,.nil=>.nil
 |_,_,.cons r t=>.cons (Rp.same s r) (RpK.same s t)
theorem RpT.same(s:Same G G'):∀{vs:List (List Key × V)}{ds:List (List Key × PyData)},RpT G vs ds->RpT G' vs ds
 |_,_,.nil=>.nil
 |_,_,.cons r t=>.cons (Rp.same s r) (RpT.same s t)
end
theorem Rps.length:∀{vs:List V}{ds:List PyData},Rps G vs ds->vs.length=ds.length
 |_,_,.nil=>rfl
 |_,_,.cons _ t=>by simp[Rps.length t]
theorem Rps.get:∀{vs:List V}{ds:List PyData}{i:Nat}{d:PyData},Rps G vs ds->ds[i]?=some d->∃ v,vs[i]?=some v/\Rp G v d
 |_,_,_,_,.nil,e=>by simp at e
 |_,_,0,_,.cons r _,e=>by simp at e;subst e;exact⟨_,rfl,r⟩
 | _,_,i+1,d,.cons _ t,e=>by
  obtain⟨u,b,a⟩:=Rps.get (i:=i) (d:=d) t (by simpa using e);exact⟨u,by simpa using b,a⟩
theorem Rps.append:∀{vs ws:List V}{ds es:List PyData},Rps G vs ds->Rps G ws es->Rps G (vs++ws) (ds++es)
 |_,_,_,_,.nil,s=>s
 |_,_,_,_,.cons r t,s=>.cons r (Rps.append t s)
theorem Rps.set(h:Rp G v d):∀{vs:List V}{ds:List PyData}(i:Nat),Rps G vs ds->Rps G (vs.set i v) (ds.set i d)
 |_,_,_,.nil=>.nil
 |_,_,0,.cons _ t=>.cons h t
 |_,_,i+1,.cons r t=>.cons r (Rps.set h i t)
theorem Rps.erase:∀{vs:List V}{ds:List PyData}(i:Nat),Rps G vs ds->Rps G (vs.eraseIdx i) (ds.eraseIdx i)
 |_,_,_,.nil=>.nil
 |_,_,0,.cons _ t=>t
 |_,_,i+1,.cons r t=>.cons r (Rps.erase i t)
theorem Rps.take:∀{vs:List V}{ds:List PyData}(i:Nat),Rps G vs ds->Rps G (vs.take i) (ds.take i)
 |_,_,0,_=>.nil
 |_,_,_+1,.nil=>.nil
 |_,_,i+1,.cons r t=>.cons r (Rps.take i t)
theorem Rps.drop:∀{vs:List V}{ds:List PyData}(i:Nat),Rps G vs ds->Rps G (vs.drop i) (ds.drop i)
 |_,_,0,r=>r
 |_,_,_+1,.nil=>.nil
 |_,_,i+1,.cons _ t=>Rps.drop i t
theorem Rps.rep(h:Rps G vs ds):∀(k:Nat),Rps G (List.replicate k vs).flatten (List.replicate k ds).flatten
 |0=>.nil
 | k+1=>by
  rw[o7,o7,List.flatten_cons,List.flatten_cons];exact h.append (Rps.rep h k)
theorem Rps.ints:∀(ns:List Int),Rps G (ns.map V.int) (ns.map PyData.int)
 |[]=>.nil
 |n::ns=>.cons (.int n) (Rps.ints ns)
theorem Rps.ints_inv:∀{ns:List Int}{vs:List V},Rps G vs (ns.map PyData.int)->vs=ns.map V.int
 |[],_,.nil=>rfl
 | n::ns,_,.cons r t=>by
  cases r;rw[Rps.ints_inv t];rfl
mutual
theorem Rp.rep:∀{v:V}{d:PyData},Rp G v d->E1 d=true->Rep G v d
 |_,_,.non,_=>.non
 |_,_,.bl b,_=>.bl b
 |_,_,.int i,_=>.int i
 |_,_,.str x,_=>.str x
 |_,_,.lst h r,p=>.lst h (Rps.reps r (by simpa[E1] using p))
 |_,_,.tup h r,p=>.tup h (Rps.reps r (by simpa[E1] using p))
 |_,_,.dk h r e,p=>by simp[E1] at p
 |_,_,.dt h r e,p=>by simp[E1] at p
theorem Rps.reps:∀{vs:List V}{ds:List PyData},Rps G vs ds->plainDs ds=true->Reps G vs ds
 |_,_,.nil,_=>.nil
 | _,_,.cons r t,p=>by
  simp only[plainDs,E5] at p;exact .cons (Rp.rep r p.1) (Rps.reps t p.2)
end
structure Own where
 P:Hp->Hp->V->(Addr->Prop)->Prop
 mono:∀{G H G' H':Hp}{v:V}{F:Addr->Prop},P G H v F->Same G G'->(∀ a o,F a->H a=some o->H' a=some o)->P G' H' v F
 dom:∀{G H:Hp}{v:V}{F:Addr->Prop},P G H v F->∀ a,F a->∃ o,H a=some o
inductive Sl where
 |st (d:PyData)|own (A:Own)|io (A:Own)|scr (ns:List Int)
abbrev En:=List (Option Sl)
structure Bs where
 K:Frag
 G:Hp
 H:Hp
 R:Hp
 S:St
 F:Nat->Addr->Prop
def SlOk(B:Bs)(G H:Hp)(i:Nat)(v:V)(F:Addr->Prop):Sl->Prop
 | .st d=>Rp G v d/\∀ a,¬ F a
 | .own A=>A.P G H v F/\∀ a,F a->B.H a=none
 | .io A=>A.P G H v F/\(∀ a,F a->B.F i a\/B.H a=none)/\B.S[i]?=some (some v)
 | .scr ns=>(∃ a,v=.ref a/\SqL B.K G a (ns.map V.int))/\∀ a,¬ F a
def FT(G H:Hp):Prop:=∀(a:Addr)(ks:List Key),H a=some (.tup (ks.map kV))->G a=some (.tup (ks.map kV))
structure VI(B:Bs)(G H:Hp)(σ:St)(env:En)(F:Nat->Addr->Prop):Prop where
 gh:Same G H
 g0:Same B.G G
 gn:∀ a o,G a=some o->B.G a=some o\/B.H a=none
 rs:Same B.R H
 rb:Same B.R B.H
 bh:∀ a o,B.H a=some o->∃ o',H a=some o'
 fg:∀ i a,F i a->G a=none
 fr:∀ i a,F i a->B.R a=none
 fd:∀ i j a,F i a->F j a->i=j
 fo:∀ i a,F i a->∃ o,H a=some o
 sl:∀ i s,env[i]?=some (some s)->∃ v,σ[i]?=some (some v)/\SlOk B G H i v (F i) s
 ln : σ.length=env.length
 ft:FT G H
def RsOk(G H:Hp)(v:V)(F:Addr->Prop):Sl->Prop
 | .st d=>Rp G v d/\∀ a,¬ F a
 | .own A=>A.P G H v F
 |_=>False
structure RsX(B:Bs)(G H:Hp)(v:V)(Fv:Addr->Prop)(s:Sl)(F:Nat->Addr->Prop):Prop where
 ok:RsOk G H v Fv s
 fb:∀ a,Fv a->B.H a=none
 fg:∀ a,Fv a->G a=none
 fo:∀ a,Fv a->∃ o,H a=some o
 fd:∀ j a,Fv a->¬ F j a
structure Out(G H:Hp)(v:V)(G' H':Hp)(s:Sl)(Fv:Addr->Prop):Prop where
 gg:Same G G'
 gh:Same G' H'
 hh:Same H H'
 gn:∀ a o,G' a=some o->G a=some o\/H a=none
 fn:∀ a,Fv a->H a=none
 fg:∀ a,Fv a->G' a=none
 fo:∀ a,Fv a->∃ o,H' a=some o
 ok:RsOk G' H' v Fv s
 ft:FT G H->FT G' H'
theorem aF{α:Type}{o:Option α}(h:o ≠ none):∃ x,o=some x:=by
 cases o with
 |none=>exact absurd rfl h
 |some x=>exact⟨x,rfl⟩
theorem SlOk.mono(h:SlOk B G H i v F s)(g:Same G G')(hh:∀ a o,F a->H a=some o->H' a=some o):SlOk B G' H' i v F s:=by
 cases s with
 |st d=>exact⟨h.1.same g,h.2⟩
 |own A=>exact⟨A.mono h.1 g hh,h.2⟩
 |io A=>exact⟨A.mono h.1 g hh,h.2⟩
 | scr ns =>
  obtain⟨⟨a,e,q⟩,n⟩:=h;exact⟨⟨a,e,g.seq q⟩,n⟩
section
variable{B:Bs}{G H G' H':Hp}{σ:St}{env:En}{F:Nat->Addr->Prop}{v:V}{s:Sl}{Fv:Addr->Prop}
theorem VI.no_r(I:VI B G H σ env F)(h:H a=none):B.R a=none:=by
 cases e:B.R a with
 |none=>rfl
 |some o=>rw[I.rs a o e] at h;cases h
theorem VI.no_b(I:VI B G H σ env F)(h:H a=none):B.H a=none:=by
 cases e:B.H a with
 |none=>rfl
 |some o=>obtain⟨o',b⟩:=I.bh a o e;rw[b] at h;cases h
theorem VI.no_g(I:VI B G H σ env F)(h:H a=none):G a=none:=by
 cases e:G a with
 |none=>rfl
 |some o=>rw[I.gh a o e] at h;cases h
theorem VI.no_f(I:VI B G H σ env F)(h:H a=none)(i:Nat):¬ F i a:=λz=>by
 obtain⟨o,e⟩:=I.fo i a z;rw[e] at h;cases h
theorem VI.grow(I:VI B G H σ env F)(gg:Same G G')(gh:Same G' H')(hh:Same H H')(gn:∀ a o,G' a=some o->G a=some o\/H a=none)(ft:FT G' H'):VI B G' H' σ env F where
 gh:=gh
 g0:=I.g0.trans gg
 gn:=λa o e=>by
  rcases gn a o e with e|e
  ·exact I.gn a o e
  ·exact .inr (I.no_b e)
 rs:=I.rs.trans hh
 rb:=I.rb
 bh:=λa o e=>by obtain⟨o',b⟩:=I.bh a o e;exact⟨o',hh _ _ b⟩
 fg:=λi a z=>by
  cases e:G' a with
  |none=>rfl
  | some o =>
   rcases gn a o e with e|e
   ·rw[I.fg i a z] at e;cases e
   ·exact absurd z (I.no_f e i)
 fr:=I.fr
 fd:=I.fd
 fo:=λi a z=>by obtain⟨o,e⟩:=I.fo i a z;exact⟨o,hh _ _ e⟩
 sl:=λi s e=>by
  obtain⟨v,c,e2⟩:=I.sl i s e;exact⟨v,c,e2.mono gg λa o _ q=>hh _ _ q⟩
 ln:=I.ln
 ft:=ft
theorem VI.out(I:VI B G H σ env F)(o:Out G H v G' H' s Fv):VI B G' H' σ env F/\RsX B G' H' v Fv s F :=
 ⟨I.grow o.gg o.gh o.hh o.gn (o.ft I.ft),o.ok,λa z=>I.no_b (o.fn a z),o.fg,o.fo,λj a z y=>I.no_f (o.fn a z) j y⟩
theorem VI.b_r(I:VI B G H σ env F)(h:B.H a=none):B.R a=none:=by
 cases e:B.R a with
 |none=>rfl
 |some o=>rw[I.rb a o e] at h;cases h
def putF(F:Nat->Addr->Prop)(i:Nat)(Fv:Addr->Prop):Nat->Addr->Prop:=λj a=>if j=i then Fv a else F j a
theorem putF_same:putF F i Fv i a ↔ Fv a:=by unfold putF;rw[q0 rfl]
theorem rA:putF F i Fv i=Fv:=by funext a;unfold putF;rw[q0 rfl]
theorem Q3(h:j ≠ i):putF F i Fv j=F j:=by funext a;unfold putF;rw[o0 h]
theorem VI.slot(I:VI B G H σ env F)(i:Nat)(o:Option V)(os:Option Sl)(fg:∀ a,Fv a->G a=none)(fr:∀ a,Fv a->B.R a=none)(fo:∀ a,Fv a->∃ o,H a=some o)(fd:∀ j a,j ≠ i->Fv a->¬ F j a)
  (ok:∀ s,os=some s->∃ v,o=some v/\SlOk B G H i v Fv s):VI B G H (σ.set i o) (env.set i os) (putF F i Fv) where
 gh:=I.gh
 g0:=I.g0
 gn:=I.gn
 rs:=I.rs
 rb:=I.rb
 bh:=I.bh
 fg:=λj a z=>by
  by_cases h:j=i
  ·subst h;exact fg a (putF_same.mp z)
  ·rw[Q3 h] at z;exact I.fg j a z
 fr:=λj a z=>by
  by_cases h:j=i
  ·subst h;exact fr a (putF_same.mp z)
  ·rw[Q3 h] at z;exact I.fr j a z
 fd:=λj k a y z=>by
  by_cases h:j=i
  ·by_cases g:k=i
   ·rw[h,g]
   ·subst h;rw[Q3 g] at z;exact absurd z (fd k a g (putF_same.mp y))
  ·by_cases g:k=i
   ·subst g;rw[Q3 h] at y;exact absurd y (fd j a h (putF_same.mp z))
   ·rw[Q3 h] at y;rw[Q3 g] at z;exact I.fd j k a y z
 fo:=λj a z=>by
  by_cases h:j=i
  ·subst h;exact fo a (putF_same.mp z)
  ·rw[Q3 h] at z;exact I.fo j a z
 sl:=λj t e=>by
  by_cases h:j=i
  ·subst h;rw[y4,q0 rfl] at e;by_cases hl:j<env.length
   ·rw[q0 hl] at e;obtain⟨v,b,q⟩:=ok t (u3 e);refine⟨v,by rw[y4,q0 rfl,q0 (by rw[I.ln];exact hl),b],?_⟩;rw[rA];exact q
   ·rw[o0 hl] at e;cases e
  ·rw[y4,o0 (λz=>h z.symm)] at e;obtain⟨v,b,q⟩:=I.sl j t e;refine⟨v,by rw[y4,o0 (λz=>h z.symm)];exact b,?_⟩;rw[Q3 h];exact q
 ln:=by simp[I.ln]
 ft:=I.ft
theorem VI.store(I:VI B G H σ env F)(r:RsX B G H v Fv s F)(i:Nat):VI B G H (σ.set i (some v)) (env.set i (some s)) (putF F i Fv):=by
 refine I.slot i (some v) (some s) r.fg (λa z=>I.b_r (r.fb a z)) r.fo (λj a _ z=>r.fd j a z) λt e=>?_;cases e;refine⟨v,rfl,?_⟩;have:=r.ok;cases s with
 |st d=>exact this
 |own A=>exact⟨this,r.fb⟩
 |io A=>exact this.elim
 |scr ns=>exact this.elim
theorem VI.drop(I:VI B G H σ env F)(i:Nat):VI B G H σ (env.set i none) (putF F i λ_=>False):=by
 have:=I.slot (Fv:=λ_=>False) i ((σ[i]?).getD none) none (λa z=>z.elim) (λa z=>z.elim) (λa z=>z.elim) (λj a _ z=>z.elim) (λs e=>by cases e)
 rwa [show σ.set i ((σ[i]?).getD none) = σ from ?_] at this
 apply D6;intro j;rw[y4];by_cases h:i=j
 ·subst h;rw[q0 rfl];by_cases hl:i<σ.length
  ·rw[q0 hl,Y0 hl];rfl
  ·rw[o0 hl,P6.mpr (by lia)]
 ·rw[o0 h]
theorem VI.change{A:Own}(I:VI B G H σ env F)(i:Nat){H2:Hp}{F2:Addr->Prop}{os os':Sl}(e:env[i]?=some (some os))(g : σ[i]?=some (some v))
  (keep:∀ a o,¬ F i a->H a=some o->H2 a=some o) (p:∀ a o,H a=some o->∃ o',H2 a=some o') (c:∀ a,F2 a->(F i a\/H a=none)/\∃ o,H2 a=some o) (l:A.P G H2 v F2) (L:FT G H2)
  (hs:(os'=.own A/\∃ d,os=.own d)\/(os'=.io A/\∃ d,os=.io d)):VI B G H2 σ (env.set i (some os')) (putF F i F2):=by
 obtain⟨O,f,q⟩:=I.sl i os e;rw[g] at f;cases f;have n:∀ j a,j ≠ i->F j a->¬ F i a:=λj a b y z=>b (I.fd j i a y z);have E:∀ a,F2 a->G a=none:=λa z=>by
  rcases(c a z).1 with y|y
  ·exact I.fg i a y
  ·exact I.no_g y
 have J:VI B G H2 σ (env.set i none) (putF F i λ_=>False):=by
  have D:=I.drop i;refine⟨λa o x=>keep a o (λz=>by rw[I.fg i a z] at x;cases x) (I.gh a o x),D.g0,D.gn,λa o x=>keep a o (λz=>by rw[I.fr i a z] at x;cases x) (I.rs a o x),D.rb,λa o x=>?_,D.fg,D.fr,D.fd,λj a z=>?_,λj s x=>?_,D.ln,L⟩
  ·obtain⟨o',C⟩:=I.bh a o x;exact p a o' C
  ·obtain⟨o,x⟩:=D.fo j a z;exact p a o x
  ·obtain⟨u,M,w⟩:=D.sl j s x;refine⟨u,M,w.mono (Same.refl G) λa o z y=>?_⟩;by_cases b:j=i
   ·subst b;exact(putF_same.mp z).elim
   ·rw[Q3 b] at z;exact keep a o (n j a b z) y
 have m:=J.slot (Fv:=F2) i (some v) (some os') E (λa z=>by
   rcases(c a z).1 with y|y
   ·exact I.fr i a y
   ·exact I.no_r y) (λa z=>(c a z).2) (λj a b z y=>by
   rw[Q3 b] at y;rcases(c a z).1 with x|x
   ·exact n j a b y x
   ·exact I.no_f x j y) λt r=>by
   cases r;refine⟨v,rfl,?_⟩;rcases hs with ⟨rfl,d,rfl⟩|⟨rfl,d,rfl⟩
   ·refine⟨l,λa z=>?_⟩;rcases(c a z).1 with y|y
    ·exact q.2 a y
    ·exact I.no_b y
   ·refine⟨l,λa z=>?_,q.2.2⟩;rcases(c a z).1 with y|y
    ·exact q.2.1 a y
    ·exact .inr (I.no_b y)
 have N : σ.set i (some v) = σ:=by
  apply D6;intro j;rw[y4];by_cases h:i=j
  ·subst h;rw[q0 rfl,g,q0 (N1.mp g).1]
  ·rw[o0 h]
 have e2:(env.set i none).set i (some os')=env.set i (some os'):=by simp
 have K:putF (putF F i λ_=>False) i F2=putF F i F2:=by
  funext j a
  by_cases h:j=i
  ·subst h;rw[rA,rA]
  ·rw[Q3 h,Q3 h,Q3 h]
 rw[N,e2,K] at m;exact m
end
open Classical in
def jn(G H:Hp)(F:Addr->Prop):Hp:=λa=>if F a then H a else G a
theorem u6(h:F a):jn G H F a=H a:=q0 h
theorem I7(h:¬ F a):jn G H F a=G a:=o0 h
theorem V4(h:∀ a,F a->G a=none):Same G (jn G H F):=λa o e=>by
 rw[I7 (λz=>by rw[h a z] at e;cases e)];exact e
theorem wA(h:Same G H):Same (jn G H F) H:=λa o e=>by
 by_cases z:F a
 ·rw[u6 z] at e;exact e
 ·rw[I7 z] at e;exact h a o e
def Frz(A:Own)(d:PyData):Prop:=∀(G H:Hp)(v:V)(F:Addr->Prop),A.P G H v F->(∀ a,F a->G a=none)->Same G H->Rp (jn G H F) v d
def FQ:Sl->(PyData->Prop)->Prop
 | .st d,R=>R d
 | .own A,R=>∃ d,Frz A d/\R d
 |_,_=>False
def OL(ds:List PyData):Own where
 P:=λG H v F=>∃ a vs,v=.ref a/\H a=some (.lst vs)/\Rps G vs ds/\∀ b,F b ↔ b=a
 mono:=λ⟨a,vs,e,h,r,f⟩ g hh=>⟨a,vs,e,hh a _ ((f a).mpr rfl) h,r.same g,f⟩
 dom:=λ⟨a,vs,e,h,r,f⟩ b z=>by rw[(f b).mp z];exact⟨_,h⟩
def OT(es:List (List Key × PyData)):Own where
 P:=λG H v F=>∃ a kvs,v=.ref a/\H a=some (.dT kvs)/\RpT G kvs es/\∀ b,F b ↔ b=a
 mono:=λ⟨a,vs,e,h,r,f⟩ g hh=>⟨a,vs,e,hh a _ ((f a).mpr rfl) h,r.same g,f⟩
 dom:=λ⟨a,vs,e,h,r,f⟩ b z=>by rw[(f b).mp z];exact⟨_,h⟩
theorem w4:Frz (OL ds) (.list ds):=λG H v F ⟨a,vs,e,h,r,f⟩ n g=>by
 subst e;exact .lst (by rw[u6 ((f a).mpr rfl)];exact h) (r.same (V4 n))
theorem N7(h:R d):FQ (.st d) R:=h
theorem p5(h:R (.list ds)):FQ (.own (OL ds)) R:=⟨_,w4,h⟩
section
variable{B:Bs}{G H G' H':Hp}{σ:St}{env:En}{F:Nat->Addr->Prop}{v:V}{s:Sl}{Fv:Addr->Prop}
theorem VI.freeze(I:VI B G H σ env F)(fb:∀ a,Fv a->B.H a=none)(fd:∀ j a,Fv a->¬ F j a)(fg:∀ a,Fv a->G a=none):VI B (jn G H Fv) H σ env F where
 gh:=wA I.gh
 g0:=I.g0.trans (V4 fg)
 gn:=λa o e=>by
  by_cases z:Fv a
  ·exact .inr (fb a z)
  ·rw[I7 z] at e;exact I.gn a o e
 rs:=I.rs
 rb:=I.rb
 bh:=I.bh
 fg:=λi a z=>by
  rw[I7 (λy=>fd i a y z)];exact I.fg i a z
 fr:=I.fr
 fd:=I.fd
 fo:=I.fo
 sl:=λi s e=>by
  obtain⟨v,b,e2⟩:=I.sl i s e;exact⟨v,b,e2.mono (V4 fg) λa o _ q=>q⟩
 ln:=I.ln
 ft:=λa ks e=>V4 fg _ _ (I.ft a ks e)
theorem VI.frz{A:Own}{d:PyData}{i:Nat}(I:VI B G H σ env F)(e:env[i]?=some (some (.own A)))(f:Frz A d) :
  ∃ v,σ[i]?=some (some v)/\Rp (jn G H (F i)) v d/\Same G (jn G H (F i))/\VI B (jn G H (F i)) H σ (env.set i (some (.st d))) (putF F i λ_=>False):=by
 obtain⟨v,b,q⟩:=I.sl i _ e;have c:=f G H v (F i) q.1 (I.fg i) I.gh;refine⟨v,b,c,V4 (I.fg i),?_⟩;have D:=(I.drop i).freeze (Fv:=F i) q.2 (λj a z y=>by
  by_cases h:j=i
  ·subst h;exact(putF_same.mp y).elim
  ·rw[Q3 h] at y;exact h (I.fd j i a y z)) (I.fg i)
 have J:=D.slot (Fv:=λ_=>False) i (some v) (some (.st d)) (λa z=>z.elim) (λa z=>z.elim) (λa z=>z.elim) (λj a _ z=>z.elim) (λt g=>by cases g;exact⟨v,rfl,c,λa z=>z⟩);have m : σ.set i (some v) = σ:=by
  apply D6;intro j;rw[y4];by_cases h:i=j
  ·subst h;rw[q0 rfl,b,q0 (N1.mp b).1]
  ·rw[o0 h]
 have l:putF (putF F i λ_=>False) i (λ_=>False)=putF F i λ_=>False:=by
  funext j a
  by_cases h:j=i
  ·subst h;rw[rA,rA]
  ·rw[Q3 h,Q3 h]
 rw[m,l,List.set_set] at J;exact J
theorem Out.refl(g:Same G H)(r:Rp G v d):Out G H v G H (.st d) (λ_=>False):=⟨Same.refl _,g,Same.refl _,λa o e=>.inl e,λa z=>z.elim,λa z=>z.elim,λa z=>z.elim,⟨r,λa z=>z⟩,λt=>t⟩
theorem bK(g:Same G H)(h:H p=none):Same (upd G p o) (upd H p o):=λa u e=>by
 by_cases z:a=p
 ·subst z;rw[W0] at e ⊢;exact e
 ·rw[J0 z] at e ⊢;exact g a u e
theorem E6(g:Same G H)(h:H p=none):G p=none:=by
 cases e:G p with
 |none=>rfl
 |some o=>rw[g p o e] at h;cases h
theorem Out.newT{p:Addr}{xs:List V}{ds:List PyData}(g:Same G H)(h:H p=none)(r:Rps G xs ds):Out G H (.ref p) (upd G p (.tup xs)) (upd H p (.tup xs)) (.st (.tuple ds)) (λ_=>False) where
 gg:=M5 (E6 g h)
 gh:=bK g h
 hh:=M5 h
 gn:=λa o e=>by
  by_cases z:a=p
  ·subst z;exact .inr h
  ·rw[J0 z] at e;exact .inl e
 fn:=λa z=>z.elim
 fg:=λa z=>z.elim
 fo:=λa z=>z.elim
 ok:=⟨.tup W0 (r.same (M5 (E6 g h))),λa z=>z⟩
 ft:=λt a ks e=>by
  by_cases z:a=p
  ·subst z;rw[W0] at e ⊢;exact e
  ·rw[J0 z] at e ⊢;exact t a ks e
theorem Out.newO{p:Addr}{o:HO}{A:Own}(g:Same G H)(h:H p=none)(b:∀ xs,o ≠ .tup xs)(r:A.P G (upd H p o) (.ref p) (· = p)):Out G H (.ref p) G (upd H p o) (.own A) (· = p) where
 gg:=Same.refl _
 gh:=g.trans (M5 h)
 hh:=M5 h
 gn:=λa o e=>.inl e
 fn:=λa z=>by rw[z];exact h
 fg:=λa z=>by rw[z];exact E6 g h
 fo:=λa z=>by rw[z];exact⟨_,W0⟩
 ok:=r
 ft:=λt a ks e=>by
  by_cases z:a=p
  ·subst z;rw[W0] at e;exact absurd (u3 e) (b _)
  ·rw[J0 z] at e;exact t a ks e
theorem Out.newL(g:Same G H)(h:H p=none)(r:Rps G xs ds):Out G H (.ref p) G (upd H p (.lst xs)) (.own (OL ds)) (· = p) :=
 .newO g h (λ_ z=>nomatch z) ⟨p,xs,rfl,W0,r,λb=>Iff.rfl⟩
theorem Out.newDT(g:Same G H)(h:H p=none)(r:RpT G xs ds):Out G H (.ref p) G (upd H p (.dT xs)) (.own (OT ds)) (· = p) :=
 .newO g h (λ_ z=>nomatch z) ⟨p,xs,rfl,W0,r,λb=>Iff.rfl⟩
end
def EvO(B:Bs)(te:TE)(env:En)(Q':Sl->En->Prop):Prop:=∀(σ:St)(G H:Hp)(F:Nat->Addr->Prop)(Q:VK),VI B G H σ env F ->
 (∀ v G' H' F' Fv s env',VI B G' H' σ env' F'->Same G G'->RsX B G' H' v Fv s F'->Q' s env'->Q v H')->te σ H Q
def Ev(B:Bs)(te:TE)(env:En)(Q':PyData->En->Prop):Prop:=∀(σ:St)(G H:Hp)(F:Nat->Addr->Prop)(Q:VK),VI B G H σ env F ->
 (∀ v G' H' F' d env',VI B G' H' σ env' F'->Same G G'->Rp G' v d->Q' d env'->Q v H')->te σ H Q
def EvT(B:Bs)(tt:TT)(env:En)(Q':Bool->En->Prop):Prop:=∀(σ:St)(G H:Hp)(F:Nat->Addr->Prop)(Q:Bool->Hp->Prop),VI B G H σ env F ->
 (∀ b G' H' F' env',VI B G' H' σ env' F'->Same G G'->Q' b env'->Q b H')->tt σ H Q
def EvA(B:Bs)(ta:TA)(env:En)(Q':List PyData->En->Prop):Prop:=∀(σ:St)(G H:Hp)(F:Nat->Addr->Prop)(Q:List V->Hp->Prop),VI B G H σ env F ->
 (∀ vs G' H' F' ds env',VI B G' H' σ env' F'->Same G G'->Rps G' vs ds->Q' ds env'->Q vs H')->ta σ H Q
structure ItOk(G:Hp)(J:It)(ds:List PyData):Prop where
 go:∀ i G' H',Same G G'->Same G' H'->i<ds.length->J.go i H'
 stop:∀ i G' H',Same G G'->Same G' H'->i=ds.length->J.stop i H'
 yld:∀ i G' H' x H'' d,Same G G'->Same G' H'->FT G' H'->ds[i]?=some d->J.yld i H' x H''->∃ G'',Out G' H' x G'' H'' (.st d) (λ_=>False)
def EvI(B:Bs)(ti:TI)(env:En)(Q':List PyData->En->Prop):Prop:=∀(σ:St)(G H:Hp)(F:Nat->Addr->Prop)(R:It->Hp->Prop),VI B G H σ env F ->
 (∀ J G' H' F' ds env',VI B G' H' σ env' F'->Same G G'->ItOk G' J ds->Q' ds env'->R J H')->ti σ H R
def EvG(B:Bs)(g:TG)(s:Sl)(env:En)(Q':En->Prop):Prop:=∀(σ:St)(G H:Hp)(F:Nat->Addr->Prop)(v:V)(Fv:Addr->Prop)(Q:St->Hp->Prop),VI B G H σ env F->RsX B G H v Fv s F ->
 (∀ σ' G' H' F' env',VI B G' H' σ' env' F'->Same G G'->Q' env'->Q σ' H')->g v σ H Q
def EvGs(B:Bs)(g:TGs)(ds:List PyData)(env:En)(Q':En->Prop):Prop:=∀(σ:St)(G H:Hp)(F:Nat->Addr->Prop)(vs:List V)(Q:St->Hp->Prop),VI B G H σ env F->Rps G vs ds ->
 (∀ σ' G' H' F' env',VI B G' H' σ' env' F'->Same G G'->Q' env'->Q σ' H')->g vs σ H Q
structure VEnds where
 nx:En->Prop
 rt:Sl->En->Prop
 bk:En->Prop:=λ_=>False
 ct:En->Prop:=λ_=>False
structure RelE(B:Bs)(G:Hp)(D:Ends)(D':VEnds):Prop where
 nx:∀ σ G' H F env,VI B G' H σ env F->Same G G'->D'.nx env->D.nx σ H
 rt:∀ σ G' H F env v Fv s,VI B G' H σ env F->Same G G'->RsX B G' H v Fv s F->D'.rt s env->D.rt v H
 bk:∀ σ G' H F env,VI B G' H σ env F->Same G G'->D'.bk env->D.bk σ H
 ct:∀ σ G' H F env,VI B G' H σ env F->Same G G'->D'.ct env->D.ct σ H
def EvS(B:Bs)(ts:TS)(D':VEnds)(env:En):Prop:=∀(σ:St)(G H:Hp)(F:Nat->Addr->Prop)(D:Ends),VI B G H σ env F->RelE B G D D'->ts D σ H
theorem RelE.later(r:RelE B G D D')(g:Same G G'):RelE B G' D D' :=
 ⟨λσ a H F env I q=>r.nx σ a H F env I (g.trans q),λσ a H F env v Fv s I q=>r.rt σ a H F env v Fv s I (g.trans q),λσ a H F env I q=>r.bk σ a H F env I (g.trans q),λσ a H F env I q=>r.ct σ a H F env I (g.trans q)⟩
section
variable{B:Bs}{env:En}{Q':PyData->En->Prop}{QO:Sl->En->Prop}{QT:Bool->En->Prop}{QA:List PyData->En->Prop}{te ta tb:TE}
theorem V6(r:Rp G v d):RsX B G H v (λ_=>False) (.st d) F:=⟨⟨r,λa z=>z⟩,λa z=>z.elim,λa z=>z.elim,λa z=>z.elim,λj a z=>z.elim⟩
theorem j3(h:Ev B te env λd e=>QO (.st d) e):EvO B te env QO:=λσ G H F Q I k =>
 h σ G H F Q I λv G' H' F' d a b g r q=>k v G' H' F' _ (.st d) a b g (V6 r) q
theorem U3(h:EvO B te env λs e=>FQ s λd=>Q' d e):Ev B te env Q':=λσ G H F Q I k =>
 h σ G H F Q I λv G' H' F' Fv s a b g r q=>by
  cases s with
  |st d=>exact k v G' H' F' d a b g r.ok.1 q
  | own A =>
   obtain⟨d,f,q⟩:=q;exact k v _ H' F' d a (b.freeze r.fb r.fd r.fg) (g.trans (V4 r.fg)) (f G' H' v Fv r.ok r.fg b.gh) q
  |io A=>exact q.elim
  |scr ns=>exact q.elim
theorem FN(e:env[i]?=some (some (.st d)))(q:Q' d env):Ev B (tVar i) env Q':=λσ G H F Q I k=>by
 obtain⟨v,a,r⟩:=I.sl i _ e;exact⟨v,a,k v G H F d env I (Same.refl _) r.1 q⟩
theorem zL(e:env[i]?=some (some (.own A)))(f:Frz A d)(q:Q' d (env.set i (some (.st d)))):Ev B (tVar i) env Q':=λσ G H F Q I k=>by
 obtain⟨v,a,r,g,J⟩:=I.frz e f;exact⟨v,a,k v _ H _ d _ J g r q⟩
theorem vM(e:env[i]?=some (some (.own A)))(q:QO (.own A) (env.set i none)):EvO B (tVar i) env QO:=λσ G H F Q I k=>by
 obtain⟨v,b,r⟩:=I.sl i _ e;refine⟨v,b,k v G H _ (F i) (.own A) _ (I.drop i) (Same.refl _) ⟨r.1,r.2,I.fg i,I.fo i,λj a z y=>?_⟩ q⟩;by_cases h:j=i
 ·subst h;exact putF_same.mp y
 ·rw[Q3 h] at y;exact h (I.fd j i a y z)
theorem DK(q:Q' (.int i) env):Ev B (tC (.int i)) env Q':=λσ G H F Q I k=>k _ G H F _ env I (Same.refl _) (.int i) q
theorem LT(q:Q' (.bool b) env):Ev B (tC (.bl b)) env Q':=λσ G H F Q I k=>k _ G H F _ env I (Same.refl _) (.bl b) q
theorem VO(q:Q' .none env):Ev B (tC .non) env Q':=λσ G H F Q I k=>k _ G H F _ env I (Same.refl _) .non q
theorem GO(q:Q' (.str x) env):Ev B (tC (.str x)) env Q':=λσ G H F Q I k=>k _ G H F _ env I (Same.refl _) (.str x) q
def Op2(r:R2)(x y:PyData)(R:Sl->Prop):Prop:=∀(G H:Hp)(vx vy:V)(Q:VK),Same G H->Rp G vx x->Rp G vy y->(∀ v G' H' s Fv,Out G H v G' H' s Fv->R s->Q v H')->r vx vy H Q
def Op1(r:V->Hp->VK->Prop)(x:PyData)(R:Sl->Prop):Prop:=∀(G H:Hp)(vx:V)(Q:VK),Same G H->Rp G vx x->(∀ v G' H' s Fv,Out G H v G' H' s Fv->R s->Q v H')->r vx H Q
def OpA(r:List V->Hp->VK->Prop)(ds:List PyData)(R:Sl->Prop):Prop:=∀(G H:Hp)(vs:List V)(Q:VK),Same G H->Rps G vs ds->(∀ v G' H' s Fv,Out G H v G' H' s Fv->R s->Q v H')->r vs H Q
theorem dD(h:Ev B ta env λx c=>Ev B tb c λy e2=>Op2 r x y λs=>QO s e2):EvO B (tOp r ta tb) env QO:=λσ G H F Q I k =>
 h σ G H F _ I λj p f A x c w n z d=>d σ p f A _ w λg l H2 F2 y e2 a b i u =>
  u l H2 j g Q a.gh (z.same b) i λv q H3 s Fv o m=>k v q H3 F2 Fv s e2 (a.out o).1 (n.trans (b.trans o.gg)) (a.out o).2 m
theorem RN(h:Ev B ta env λx a=>Ev B tb a λy e2=>Op2 r x y λs=>FQ s λd=>Q' d e2):Ev B (tOp r ta tb) env Q':=U3 (dD h)
theorem mR(h:Ev B ta env λx a=>Op1 r x λs=>QO s a):EvO B (tUn r ta) env QO:=λσ G H F Q I k =>
 h σ G H F _ I λf j d n x a b i m c=>c j d f Q b.gh m λv l H3 s Fv o g=>k v l H3 n Fv s a (b.out o).1 (i.trans o.gg) (b.out o).2 g
theorem mT(h:Ev B ta env λx a=>Op1 r x λs=>FQ s λd=>Q' d a):Ev B (tUn r ta) env Q':=U3 (mR h)
theorem GI(q:QA [] env):EvA B tNil env QA:=λσ G H F Q I k=>k [] G H F [] env I (Same.refl _) .nil q
theorem IM(h:Ev B ta env λx b=>EvA B tr b λxs e2=>QA (x::xs) e2):EvA B (Y1 ta tr) env QA:=λσ G H F Q I k =>
 h σ G H F _ I λq j d p x b m i o c=>c σ j d p _ m λvs g H2 F2 ds e2 n a f l=>k _ g H2 F2 _ e2 n (i.trans a) (.cons (o.same a) f) l
theorem KI(h:EvA B t env λds a=>OpA r ds λs=>QO s a):EvO B (tCB r t) env QO:=λσ G H F Q I k =>
 h σ G H F _ I λvs i d m ds a b g l c=>c i d vs Q b.gh l λv j H3 s Fv o f=>k v j H3 m Fv s a (b.out o).1 (g.trans o.gg) (b.out o).2 f
theorem GE(h:EvA B t env λds a=>OpA r ds λs=>FQ s λd=>Q' d a):Ev B (tCB r t) env Q':=U3 (KI h)
theorem dH(h:EvA B t env λds a=>ds.length<=1000/\QO (.st (.tuple ds)) a):EvO B (tTup t) env QO:=λσ G H F Q I k =>
 h σ G H F _ I λvs l j i ds a b f d c=>⟨by rw[d.length];exact D5 (xC c.1),λp g=>by
  have o:=Out.newT b.gh g d;exact k _ _ _ i _ _ a (b.out o).1 (f.trans o.gg) (b.out o).2 c.2⟩
theorem cU(h:EvA B t env λds a=>ds.length<=1000/\Q' (.tuple ds) a):Ev B (tTup t) env Q':=U3 (dH h)
theorem aI(h:EvA B t env λds a=>ds.length<=1000/\QO (.own (OL ds)) a):EvO B (tLst t) env QO:=λσ G H F Q I k =>
 h σ G H F _ I λvs l j i ds a b f d c=>⟨by rw[d.length];exact D5 (xC c.1),λp g=>by
  have o:=Out.newL b.gh g d;exact k _ _ _ i _ _ a (b.out o).1 (f.trans o.gg) (b.out o).2 c.2⟩
theorem FL(h:EvA B t env λds a=>ds.length<=1000/\Q' (.list ds) a):Ev B (tLst t) env Q':=U3 (aI λσ G H F Q I k=>h σ G H F Q I λvs G' H' F' ds a b g r q=>k vs G' H' F' ds a b g r ⟨q.1,p5 q.2⟩)
theorem YA(h:Ev B te env λx a=>∃ b,x=.bool b/\QT b a):EvT B (YD te) env QT:=λσ G H F Q I k =>
 h σ G H F _ I λv g c l x a i f j d=>by
  obtain⟨b,e,q⟩:=d;subst e;cases j;exact⟨b,rfl,k b g c l a i f q⟩
theorem MC(h:Ev B te env λx a=>∃ b,x=.bool b/\QT b a):EvT B (tB te) env QT:=YA h
theorem x_bl{b:Bool}{R:Bool->Prop}(h:R b):∃ c,PyData.bool b=.bool c/\R c:=⟨b,rfl,h⟩
theorem wM(h:EvT B t env λc a=>if c=true then EvT B u a QT else QT false a):EvT B (tAnd t u) env QT:=λσ G H F Q I k =>
 h σ G H F _ I λb g d j a i f q=>by
  cases b with
  |true=>rw[q0 rfl] at q ⊢;exact q σ g d j Q i λc l H2 F2 e2 o m n=>k c l H2 F2 e2 o (f.trans m) n
  |false=>rw[o0 X1] at q ⊢;exact k false g d j a i f q
theorem ZM(h:EvT B t env λc a=>if c=true then QT true a else EvT B u a QT):EvT B (tOr t u) env QT:=λσ G H F Q I k =>
 h σ G H F _ I λb g d j a i f q=>by
  cases b with
  |false=>rw[o0 X1] at q ⊢;exact q σ g d j Q i λc l H2 F2 e2 o m n=>k c l H2 F2 e2 o (f.trans m) n
  |true=>rw[q0 rfl] at q ⊢;exact k true g d j a i f q
theorem uI(h:EvT B t env λc a=>QT (!c) a):EvT B (tNot t) env QT:=λσ G H F Q I k =>
 h σ G H F _ I λb d f j a g i q=>k (!b) d f j a g i q
theorem B8(q:QT true env):EvT B tYes env QT:=λσ G H F Q I k=>k true G H F env I (Same.refl _) q
def TruD:PyData->Bool->Prop
 | .bool b,k=>k=b
 | .list ds,k=>k = !ds.isEmpty
 |_,_=>False
theorem kN(h:Ev B te env λx a=>∃ b,TruD x b/\QT b a):EvT B (tTru K te) env QT:=λσ G H F Q I k =>
 h σ G H F _ I λv i f j x a d g n l=>by
  obtain⟨b,e,q⟩:=l;cases n with
  |bl c=>cases e;exact⟨_,rfl,k _ i f j a d g q⟩
  | lst ha rs =>
   refine⟨b,.inl ⟨_,SqL.of (d.gh _ _ ha),?_⟩,k _ i f j a d g q⟩;have m:b = !_:=e;rw[m];cases rs <;> rfl
  |_=>exact e.elim
theorem zT(h:Ev B ta env λx a=>∃ b,x=.bool b/\if b=true then Ev B tb a Q' else Q' (.bool false) a):Ev B (MD ta tb) env Q':=λσ G H F Q I k =>
 h σ G H F _ I λv g c j x a i f s m=>by
  obtain⟨b,e,q⟩:=m;subst e;cases s;refine⟨b,rfl,?_⟩;cases b with
  |true=>rw[q0 rfl] at q ⊢;exact q σ g c j Q i λv n H2 F2 d e2 r o l p=>k v n H2 F2 d e2 r (f.trans o) l p
  |false=>rw[o0 X1] at q ⊢;exact k _ g c j _ a i f (.bl false) q
theorem fL(h:Ev B ta env λx a=>∃ b,x=.bool b/\if b=true then Q' (.bool true) a else Ev B tb a Q'):Ev B (tOrV ta tb) env Q':=λσ G H F Q I k =>
 h σ G H F _ I λv g c j x a i f s m=>by
  obtain⟨b,e,q⟩:=m;subst e;cases s;refine⟨b,rfl,?_⟩;cases b with
  |false=>rw[o0 X1] at q ⊢;exact q σ g c j Q i λv n H2 F2 d e2 r o l p=>k v n H2 F2 d e2 r (f.trans o) l p
  |true=>rw[q0 rfl] at q ⊢;exact k _ g c j _ a i f (.bl true) q
theorem tT(h:Ev B ta env λx a=>∃ b,x=.bool b/\Q' (.bool (!b)) a):Ev B (uD ta) env Q':=λσ G H F Q I k =>
 h σ G H F _ I λv g c l x a i f j d=>by
  obtain⟨b,e,q⟩:=d;subst e;cases j;exact⟨b,rfl,k _ g c l _ a i f (.bl _) q⟩
theorem BU(h:Ev B ta env λx R=>Ev B tb R λy e2=>Op2 r x y λs=>∃ b,s=.st (.bool b)/\if b=true then Ev B O e2 λz e3=>Op2 N y z λs'=>FQ s' λd=>Q' d e3 else Q' (.bool false) e2):Ev B (QB r N ta tb O) env Q':=λσ G H F Q I k =>
 h σ G H F _ I λY G1 U F1 x R I1 L r1 T=>T σ G1 U F1 _ I1 λw G2 H2 F2 y e2 S l C q2 =>
  q2 G2 H2 Y w _ S.gh (r1.same l) C λv P H3 s Fv o z_=>by
   obtain⟨b,es,a⟩:=z_;have p:=(S.out o).1;have i:=o.ok;subst es;obtain⟨i,_⟩:=i;cases i;refine⟨b,rfl,?_⟩;cases b with
   |false=>rw[o0 X1] at a ⊢;exact k _ P H3 F2 _ e2 p (L.trans (l.trans o.gg)) (.bl _) a
   | true =>
    rw[q0 rfl] at a ⊢;refine a σ P H3 F2 _ p λX Z H4 D z K M u r4 W=>W Z H4 w X Q M.gh (C.same (o.gg.trans u)) r4 λj E n s5 g m c=>?_;have J:=M.out m;have gg:=L.trans (l.trans (o.gg.trans (u.trans m.gg)));cases s5 with
    |st d=>exact k j E n D d K J.1 gg m.ok.1 c
    | own A =>
     obtain⟨d,f,q⟩:=c;exact k j _ n D d K (J.1.freeze J.2.fb J.2.fd J.2.fg) (gg.trans (V4 J.2.fg)) (f E n j g J.2.ok J.2.fg J.1.gh) q
    |io A=>exact c.elim
    |scr ns=>exact c.elim
end
section
variable{B:Bs}{env:En}{D':VEnds}{t u tb:TS}{te:TE}{g:TG}{c:TT}{QE:En->Prop}
theorem rH(h:EvS B t { D' with nx:=λe=>EvS B u D' e } env):EvS B (tSeq t u) D' env:=λσ G H F D I r =>
 h σ G H F { D with nx:=u D } I ⟨λσ G' H F env a g q=>q σ G' H F D a (r.later g),r.rt,r.bk,r.ct⟩
theorem O9(h:D'.nx env):EvS B xG D' env:=λσ G H F D I r=>r.nx σ G H F env I (Same.refl _) h
theorem nP(h:EvO B te env λs e=>EvG B g s e D'.nx):EvS B (tAsg te g) D' env:=λσ G H F D I r =>
 h σ G H F _ I λv j c p Fv s q n i l b=>b σ j c p v Fv D.nx n l λa d H2 F2 e2 o f m=>r.nx a d H2 F2 e2 o (i.trans f) m
theorem P3(h:QE (env.set i (some s))):EvG B (N2 i) s env QE:=λσ G H F v Fv Q I x k=>k _ G H _ _ (I.store x i) (Same.refl _) h
theorem DF(h:QE env):EvGs B gNil [] env QE:=λσ G H F vs Q I x k=>by cases x;exact⟨rfl,k σ G H F env I (Same.refl _) h⟩
theorem bD(h:EvG B g (.st d) env λe=>EvGs B f ds e QE):EvGs B (V7 g f) (d::ds) env QE:=λσ G H F vs Q I x k=>by
 cases x with
 | cons r rs =>
  refine⟨_,_,rfl,h σ G H F _ _ _ I (V6 r) λa n j s u p c i=>i a n j s _ Q p (rs.same c) λb l H2 F2 e2 q m o=>k b l H2 F2 e2 q (c.trans m) o⟩
theorem uF(b:ds.length=n)(h:EvGs B a ds env QE):EvG B (gTup K n a) (.st (.tuple ds)) env QE:=λσ G H F v Fv Q I x k=>by
 obtain⟨r,_⟩:=x.ok;cases r with
 |tup ha rs=>exact⟨_,_,rfl,SqT.of (I.gh _ _ ha),by rw[rs.length,b],h σ G H F _ Q I rs k⟩
theorem XD(h:EvO B te env λs e=>D'.rt s e):EvS B (tRet te) D' env:=λσ G H F D I r =>
 h σ G H F _ I λv d b j Fv s g i c f a=>r.rt σ d b j g v Fv s i c f a
theorem FS(h:EvO B te env λ_ e=>D'.nx e):EvS B (OH te) D' env:=λσ G H F D I r =>
 h σ G H F _ I λv d b i Fv s f g c j a=>r.nx σ d b i f g c a
theorem lJ(h:EvT B c env λb e=>if b=true then EvS B t D' e else EvS B u D' e):EvS B (tIfS c t u) D' env:=λσ G H F D I r =>
 h σ G H F _ I λb a d i j f g q=>by
  cases b with
  |true=>rw[q0 rfl] at q ⊢;exact q σ a d i D f (r.later g)
  |false=>rw[o0 X1] at q ⊢;exact q σ a d i D f (r.later g)
def ForV(B:Bs)(g:TG)(tb:TS)(D':VEnds)(ds:List PyData)(e1:En):Prop:=∃ J:Nat->En->Prop,J 0 e1/\(∀ i d e,ds[i]?=some d->J i e->EvG B g (.st d) e λe2=>EvS B tb { D' with nx:=J (i+1),ct:=J (i+1),bk:=D'.nx } e2)/\∀ e,J ds.length e->D'.nx e
theorem YQ(h:EvI B L env λds A=>ForV B g tb D' ds A):EvS B (tFor L g tb) D' env:=λσ G H F D I r =>
 h σ G H F _ I λJ z H1 F1 ds A I1 v it T=>by
  obtain⟨N,U,js,R⟩:=T;refine⟨λi m σ H=>m=ds.length-i/\i<=ds.length/\∃ c F2 e2,VI B c H σ e2 F2/\Same z c/\N i e2,⟨ds.length,by simp,O3 _,z,F1,A,I1,Same.refl _,U⟩,?_⟩;rintro i m σ H ⟨rfl,hi,c,F2,e2,n,p,E⟩;by_cases hlt:i<ds.length
  ·refine .inr ⟨it.go i c H p n.gh hlt,λσ H=>∃ s F3 M,VI B s H σ M F3/\Same z s/\N (i+1) M,λW H' h'=>⟨ds.length-(i+1),by lia,rfl,hlt,h'⟩,λx H' y=>?_⟩;obtain⟨s,o⟩:=it.yld i c H x H' _ p n.gh n.ft (Y0 hlt) y;have K:=n.out o;refine js i _ e2 (Y0 hlt) E σ s H' F2 x _ _ K.1 K.2 λw S H4 Q e4 Z O P=>?_;have gg:=p.trans (o.gg.trans O);refine P w S H4 Q _ Z ⟨λa b q f j d l C=>⟨b,f,j,d,gg.trans l,C⟩,λa b q f j Y u X d l=>r.rt a b q f j Y u X d (v.trans (gg.trans l)),λa b q f j d l=>r.nx a b q f j d (v.trans (gg.trans l)),λa b q f j d l C=>⟨b,f,j,d,gg.trans l,C⟩⟩
  ·have e:i=ds.length:=by lia
   subst e;exact .inl ⟨it.stop _ c H p n.gh rfl,r.nx σ c H F2 e2 n (v.trans p) (R e2 E)⟩
theorem OB(J:Nat->En->Prop)(w:∃ m,J m env)(h:∀ m e,J m e->EvT B c e λb C=>if b=true then EvS B tb { D' with nx:=λe2=>∃ d,d<m/\J d e2,ct:=λe2=>∃ d,d<m/\J d e2,bk:=D'.nx } C else D'.nx C):EvS B (jG c tb) D' env:=λσ G H F D I r=>by
 obtain⟨S,w⟩:=w;refine⟨λm σ H=>∃ p F2 e2,VI B p H σ e2 F2/\Same G p/\J m e2,⟨S,G,F,env,I,Same.refl _,w⟩,?_⟩;rintro m σ H ⟨p,F2,e2,U,P,E⟩;refine h m e2 E σ p H F2 _ U λb A H3 z R y T q=>?_;have gg:=P.trans T;cases b with
 |false=>rw[o0 X1] at q ⊢;exact r.nx σ A H3 z R y gg q
 | true =>
  rw[q0 rfl] at q ⊢;refine⟨λσ H=>∃ o v s,VI B o H σ s v/\Same G o/\∃ d,d<m/\J d s,λN H' ⟨o,v,s,Q,K,d,hm,L⟩=>⟨d,hm,o,v,s,Q,K,L⟩,?_⟩;exact q σ A H3 z _ y ⟨λa f n i j g l x=>⟨f,i,j,g,gg.trans l,x⟩,λa f n i j O u M g l=>r.rt a f n i j O u M g (gg.trans l),λa f n i j g l=>r.nx a f n i j g (gg.trans l),λa f n i j g l x=>⟨f,i,j,g,gg.trans l,x⟩⟩
variable{QI:List PyData->En->Prop}
theorem MR(h:Ev B te env λd e=>∃ ds,d=.list ds/\QI ds e):EvI B (w9 K te) env QI:=λσ G H F R I k =>
 h σ G H F _ I λv o f s d q b m r l=>by
  obtain⟨ds,p,c⟩:=l;subst p;cases r with
  | @lst a vs ds ha rs =>
   refine⟨a,rfl,⟨vs,SqL.of (b.gh _ _ ha)⟩,k _ o f s ds q b m ⟨λi G' H' g h hi=>?_,λi G' H' g h hi=>?_,λi G' H' x H'' d g h ft hd y=>?_⟩ c⟩
   ·have:i<vs.length:=by rw[rs.length];exact hi
    exact⟨vs,vs[i],SqL.of (h _ _ (g _ _ ha)),Y0 this⟩
   ·exact⟨vs,SqL.of (h _ _ (g _ _ ha)),by rw[rs.length];exact Nat.le_of_eq hi.symm⟩
   ·obtain⟨e,y⟩:=y;subst e;obtain⟨v,n,j⟩:=rs.get hd;have:=y vs (SqL.of (h _ _ (g _ _ ha)));rw[n] at this;cases this;exact⟨G',Out.refl h (j.same g)⟩
theorem RQ{ds:List PyData}{R:List PyData->Prop}(h:R ds):∃ xs,PyData.list ds=.list xs/\R xs:=⟨ds,rfl,h⟩
def rngD(lo:Int)(n:Nat):List PyData:=(List.range n).map λ(i:Nat)=>.int (lo+(i:Int))
theorem M7:(rngD lo n).length=n:=by simp[rngD]
theorem C9(h:(rngD lo n)[i]?=some d):i<n/\d=.int (lo+(i:Int)):=by
 unfold rngD at h;rw[L1] at h;have hi:i<n:=by
  have:=(N1 (l:=(List.range n).map λ(i:Nat)=>PyData.int (lo+(i:Int)))).mp (by rw[L1];exact h);obtain⟨q,_⟩:=this;simpa using q
 rw[Y0 (by simpa using hi)] at h;simp at h;exact⟨hi,h.symm⟩
theorem kG:ItOk G (Itr lo n) (rngD lo n):=by
 refine⟨λi G' H' g h hi=>?_,λi G' H' g h hi=>?_,λi G' H' x H'' d g h ft hd y=>?_⟩
 ·rw[M7] at hi;exact hi
 ·rw[M7] at hi;exact Nat.le_of_eq hi.symm
 ·obtain⟨e,y⟩:=y;subst e y;rw[(C9 hd).2];exact⟨G',Out.refl h (.int _)⟩
def JB(ds:List PyData)(R:List PyData->Prop):Prop:=∃ j:Int,ds=[.int j]/\-(2 ^ 62)<=j/\j<2 ^ 62/\R (rngD 0 j.toNat)
def jC(ds:List PyData)(R:List PyData->Prop):Prop:=∃ i j:Int,ds=[.int i,.int j]/\(-(2 ^ 62)<=i/\i<2 ^ 62/\-(2 ^ 62)<=j/\j<2 ^ 62)/\R (rngD i (j-i).toNat)
theorem EO(h:EvA B a env λds e=>JB ds λxs=>QI xs e):EvI B (wH a) env QI:=λσ G H F R I k =>
 h σ G H F _ I λvs i c p ds m n g o d=>by
  obtain⟨j,l,b1,f,b⟩:=d;subst l;obtain rfl:vs=[V.int j]:=Rps.ints_inv (ns:=[j]) o;exact⟨j,rfl,b1,f,k _ i c p _ m n g kG b⟩
theorem UL(h:EvA B a env λds e=>jC ds λxs=>QI xs e):EvI B (VF a) env QI:=λσ G H F R I k =>
 h σ G H F _ I λvs l c p ds n o f g d=>by
  obtain⟨i,j,m,b1,b⟩:=d;subst m;obtain rfl:vs=[V.int i,V.int j]:=Rps.ints_inv (ns:=[i,j]) g;exact⟨i,j,rfl,b1,k _ l c p _ n o f kG b⟩
theorem nT(b : -4611686018427387904<=j)(a:j<4611686018427387904)(h:R (rngD 0 j.toNat)):JB [.int j] R:=⟨j,rfl,by lia,by lia,h⟩
theorem bR(c : -4611686018427387904<=a/\a<4611686018427387904/\-4611686018427387904<=b/\b<4611686018427387904)(h:R (rngD a (b-a).toNat)):jC [.int a,.int b] R:=⟨a,b,rfl,by lia,h⟩
theorem Z8(J:Nat->En->Prop)(a:J 0 env)(hs:∀ i e,i<n->J i e->EvG B g (.st (.int (lo+(i:Int)))) e λe2=>EvS B tb { D' with nx:=J (i+1),ct:=J (i+1),bk:=D'.nx } e2)(hd:∀ e,J n e->D'.nx e):ForV B g tb D' (rngD lo n) env :=
 ⟨J,a,λi d e h j=>by obtain⟨hi,rfl⟩:=C9 h;exact hs i e hi j,λe j=>hd e (by rw[M7] at j;exact j)⟩
theorem yE{α:Type}{f : α->PyData}{xs:List α}(J:Nat->En->Prop)(a:J 0 env)(hs:∀ i x e,xs[i]?=some x->J i e->EvG B g (.st (f x)) e λe2=>EvS B tb { D' with nx:=J (i+1),ct:=J (i+1),bk:=D'.nx } e2)(hd:∀ e,J xs.length e->D'.nx e):ForV B g tb D' (xs.map f) env :=
 ⟨J,a,λi d e h j=>by
  rw[L1] at h;cases hx:xs[i]? with
  |none=>rw[hx] at h;cases h
  |some x=>rw[hx] at h;cases h;exact hs i x e hx j,λe j=>hd e (by rw[R0] at j;exact j)⟩
end
theorem dU(h:∀ c:TS,c=b->EvS B a { D' with nx:=λe=>EvS B c D' e } env):EvS B (tSeq a b) D' env:=rH (h b rfl)
theorem aG(e:c=b)(h:EvS B b D' env):EvS B c D' env:=by rw[e];exact h
@[elab_as_elim] theorem exS1 {b:Type} {σ:Type} {f : b->σ} {p : b->Prop} {a : σ->Prop} (s : σ) (h:∃ x0,s=f x0/\p x0) (k:∀ x0,p x0->a (f x0)):a s:=by
 obtain⟨x0,e,h⟩:=h;rw[e];exact k _ h
@[elab_as_elim] theorem exS2 {c:Type} {d:Type} {σ:Type} {f : c->d->σ} {p : c->d->Prop} {a : σ->Prop} (s : σ) (h:∃ x0 b,s=f x0 b/\p x0 b) (k:∀ x0 b,p x0 b->a (f x0 b)):a s:=by
 obtain⟨x0,b,e,h⟩:=h;rw[e];exact k _ _ h
@[elab_as_elim] theorem exS3 {d:Type} {i:Type} {g:Type} {σ:Type} {f : d->i->g->σ} {p : d->i->g->Prop} {a : σ->Prop} (s : σ) (h:∃ x0 c b,s=f x0 c b/\p x0 c b) (k:∀ x0 c b,p x0 c b->a (f x0 c b)):a s:=by
 obtain⟨x0,c,b,e,h⟩:=h;rw[e];exact k _ _ _ h
@[elab_as_elim] theorem exS4 {l:Type} {i:Type} {g:Type} {j:Type} {σ:Type} {f : l->i->g->j->σ} {p : l->i->g->j->Prop} {a : σ->Prop} (s : σ) (h:∃ x0 c b d,s=f x0 c b d/\p x0 c b d) (k:∀ x0 c b d,p x0 c b d->a (f x0 c b d)):a s:=by
 obtain⟨x0,c,b,d,e,h⟩:=h;rw[e];exact k _ _ _ _ h
@[elab_as_elim] theorem exS5 {n:Type} {l:Type} {j:Type} {m:Type} {i:Type} {σ:Type} {f : n->l->j->m->i->σ} {p : n->l->j->m->i->Prop} {a : σ->Prop} (s : σ) (h:∃ x0 d c g b,s=f x0 d c g b/\p x0 d c g b) (k:∀ x0 d c g b,p x0 d c g b->a (f x0 d c g b)):a s:=by
 obtain⟨x0,d,c,g,b,e,h⟩:=h;rw[e];exact k _ _ _ _ _ h
@[elab_as_elim] theorem exS6 {o:Type} {m:Type} {l:Type} {n:Type} {j:Type} {q:Type} {σ:Type} {f : o->m->l->n->j->q->σ} {p : o->m->l->n->j->q->Prop} {a : σ->Prop} (s : σ) (h:∃ x0 g d i c b,s=f x0 g d i c b/\p x0 g d i c b) (k:∀ x0 g d i c b,p x0 g d i c b->a (f x0 g d i c b)):a s:=by
 obtain⟨x0,g,d,i,c,b,e,h⟩:=h;rw[e];exact k _ _ _ _ _ _ h
@[elab_as_elim] theorem exS7 {r:Type} {o:Type} {n:Type} {q:Type} {m:Type} {u:Type} {l:Type} {σ:Type} {f : r->o->n->q->m->u->l->σ} {p : r->o->n->q->m->u->l->Prop} {a : σ->Prop} (s : σ) (h:∃ x0 i g j d c b,s=f x0 i g j d c b/\p x0 i g j d c b) (k:∀ x0 i g j d c b,p x0 i g j d c b->a (f x0 i g j d c b)):a s:=by
 obtain⟨x0,i,g,j,d,c,b,e,h⟩:=h;rw[e];exact k _ _ _ _ _ _ _ h
theorem big(h:n<=1000000):n<sizeLine:=vC h (by decide)
section
variable{B B1:Bs}{G H G' H':Hp}{σ σI:St}{env envI:En}{F F':Nat->Addr->Prop}{v:V}{s:Sl}{Fv:Addr->Prop}{inv:Nat->Option Nat}
open Classical in
def u4(H:Hp)(F:Nat->Addr->Prop)(inv:Nat->Option Nat):Hp:=λa=>if ∃ i j,inv i=some j/\F i a then none else H a
theorem JA(h:inv i=some j)(f:F i a):u4 H F inv a=none:=q0 ⟨i,j,h,f⟩
theorem K9(h:∀ i j,inv i=some j->¬ F i a):u4 H F inv a=H a:=o0 λ⟨i,j,x,y⟩=>h i j x y
theorem D7:Same (u4 H F inv) H:=λa o e=>by
 unfold u4 at e;split at e
 ·cases e
 ·exact e
theorem VI.enter(I:VI B G H σ env F)(inj:∀ i b j,inv i=some j->inv b=some j->i=b)(ln : σI.length=envI.length)
  (sl:∀ j s,envI[j]?=some (some s)->∃ v,σI[j]?=some (some v)/\((∃ d,s=.st d/\Rp G v d/\∀ i,inv i ≠ some j)\/(∃ ns a,s=.scr ns/\v=.ref a/\SqL B.K G a (ns.map V.int)/\∀ i,inv i ≠ some j) ∨
   ∃ i A,inv i=some j/\s=.io A/\σ[i]?=some (some v)/\(env[i]?=some (some (.own A))\/env[i]?=some (some (.io A))))) :
  VI ⟨B.K,G,H,u4 H F inv,σI,λj a=>∃ i,inv i=some j/\F i a⟩ G H σI envI (λj a=>∃ i,inv i=some j/\F i a) where
 gh:=I.gh
 g0:=Same.refl _
 gn:=λa o e=>.inl e
 rs:=D7
 rb:=D7
 bh:=λa o e=>⟨o,e⟩
 fg:=λj a ⟨i,_,z⟩=>I.fg i a z
 fr:=λj a ⟨i,h,z⟩=>JA h z
 fd:=λj k a ⟨i,h,z⟩ ⟨b,h',l⟩=>by
  have:=I.fd i b a z l;subst this;rw[h] at h';cases h';rfl
 fo:=λj a ⟨i,h,z⟩=>I.fo i a z
 sl:=λj s e=>by
  obtain⟨v,g,q⟩:=sl j s e;refine⟨v,g,?_⟩;rcases q with ⟨d,rfl,r,n⟩|⟨ns,a,rfl,rfl,q,n⟩|⟨i,A,hi,rfl,hs,c⟩
  ·exact⟨r,λa ⟨i,h,_⟩=>n i h⟩
  ·exact⟨⟨a,rfl,q⟩,λa ⟨i,h,_⟩=>n i h⟩
  ·refine⟨?_,λa z=>.inl z,g⟩;have m:(λa=>∃ b,inv b=some j/\F b a)=F i:=by
    funext a
    exact propext ⟨λ⟨b,h,z⟩=>by rw[inj i b j hi h];exact z,λz=>⟨i,hi,z⟩⟩
   show A.P G H v (λa=>∃ b,inv b=some j/\F b a);rw[m];rcases c with c|c
   ·obtain⟨p,f,e2⟩:=I.sl i _ c;rw[hs] at f;cases f;exact e2.1
   ·obtain⟨p,f,e2⟩:=I.sl i _ c;rw[hs] at f;cases f;exact e2.1
 ln:=ln
 ft:=I.ft
theorem VI.leave(I:VI B G H σ env F)(inj:∀ i h j,inv i=some j->inv h=some j->i=h)(p:B1.G=G)(g:B1.H=H)(N:∀ a o,H a=some o->(∀ i j,inv i=some j->¬ F i a)->B1.R a=some o)
  (C:∀ i j,inv i=some j->∀ a,B1.F j a->F i a) (K:∀ i j,inv i=some j->B1.S[j]? = σ[i]?) (J:VI B1 G' H' σI envI F') (io:∀ i j,inv i=some j->∃ A',envI[j]?=some (some (.io A')))  (E:env2.length=env.length)
  (w:∀ i s,env2[i]?=some (some s)->(inv i=none/\env[i]?=some (some s))\/∃ j A A',inv i=some j/\envI[j]?=some (some (.io A'))/\((env[i]?=some (some (.own A))/\s=.own A')\/(env[i]?=some (some (.io A))/\s=.io A'))) :
  VI B G' H' σ env2 (λi a=>match inv i with|some j=>F' j a|none=>F i a):=by
 have c:∀ a o,G' a=some o->G a=some o\/H a=none:=λa o e=>by
  have:=J.gn a o e;rw[p,g] at this;exact this
 have fi:∀ i j a,inv i=some j->F' j a->F i a\/H a=none:=λi j a hi z=>by
  obtain⟨A',e⟩:=io i j hi;obtain⟨v,_,q⟩:=J.sl j _ e;rcases q.2.1 a z with y|y
  ·exact .inl (C i j hi a y)
  ·rw[g] at y;exact .inr y
 have kp:∀ a o,H a=some o->(∀ i j,inv i=some j->¬ F i a)->H' a=some o:=λa o e n=>J.rs a o (N a o e n);refine⟨J.gh,I.g0.trans (p ▸ J.g0),λa o e=>?_,λa o e=>?_,I.rb,λa o e=>?_,λi a z=>?_,λi a z=>?_,λi k a y z=>?_,λi a z=>?_,λi t e=>?_,by rw[E];exact I.ln,J.ft⟩
 ·rcases c a o e with e|e
  ·exact I.gn a o e
  ·exact .inr (I.no_b e)
 ·refine kp a o (I.rs a o e) λi j _ z=>?_;rw[I.fr i a z] at e;cases e
 ·obtain⟨M,f⟩:=I.bh a o e;exact J.bh a M (by rw[g];exact f)
 ·cases hi:inv i with
  |some j=>rw[hi] at z;exact J.fg j a z
  | none =>
   rw[hi] at z;cases e:G' a with
   |none=>rfl
   | some o =>
    rcases c a o e with e|e
    ·rw[I.fg i a z] at e;cases e
    ·exact absurd z (I.no_f e i)
 ·cases hi:inv i with
  | some j =>
   rw[hi] at z;rcases fi i j a hi z with y|y
   ·exact I.fr i a y
   ·exact I.no_r y
  |none=>rw[hi] at z;exact I.fr i a z
 ·cases hi:inv i with
  | some j =>
   rw[hi] at y;cases hk:inv k with
   | some l =>
    rw[hk] at z;have:=J.fd j l a y z;subst this;exact inj i k j hi hk
   | none =>
    rw[hk] at z;rcases fi i j a hi y with x|x
    ·exact I.fd i k a x z
    ·exact absurd z (I.no_f x k)
  | none =>
   rw[hi] at y;cases hk:inv k with
   | some l =>
    rw[hk] at z;rcases fi k l a hk z with x|x
    ·exact I.fd i k a y x
    ·exact absurd y (I.no_f x i)
   |none=>rw[hk] at z;exact I.fd i k a y z
 ·cases hi:inv i with
  |some j=>rw[hi] at z;exact J.fo j a z
  | none =>
   rw[hi] at z;obtain⟨o,e⟩:=I.fo i a z;exact J.bh a o (by rw[g];exact e)
 ·rcases w i t e with ⟨hi,f⟩|⟨j,A,A',hi,f,e2⟩
  ·obtain⟨v,r,q⟩:=I.sl i t f;refine⟨v,r,?_⟩;simp only[hi];refine q.mono (p ▸ J.g0) λa o z y=>kp a o y λh j' b D=>?_;have:=I.fd i h a z D;subst this;rw[hi] at b;cases b
  ·obtain⟨v,r,q⟩:=J.sl j _ f;have u : σ[i]?=some (some v):=by rw[← K i j hi];exact q.2.2
   refine⟨v,u,?_⟩;simp only[hi];rcases e2 with ⟨e2,rfl⟩|⟨e2,rfl⟩
   ·obtain⟨L,_,m⟩:=I.sl i _ e2;refine⟨q.1,λa z=>?_⟩;rcases fi i j a hi z with y|y
    ·exact m.2 a y
    ·exact I.no_b y
   ·obtain⟨L,d,m⟩:=I.sl i _ e2;rw[u] at d;cases d;refine⟨q.1,λa z=>?_,m.2.2⟩;rcases fi i j a hi z with y|y
    ·exact m.2.1 a y
    ·exact .inr (I.no_b y)
theorem RsX.leave(I:VI B G H σ env F)(b:B1.H=H)(r:RsX B1 G' H' v Fv s F'):RsX B G' H' v Fv s (λi a=>match inv i with|some j=>F' j a|none=>F i a):=by
 have hn:∀ a,Fv a->H a=none:=λa z=>b ▸ r.fb a z;refine⟨r.ok,λa z=>I.no_b (hn a z),r.fg,r.fo,λi a z y=>?_⟩;cases hi:inv i with
 |some j=>rw[hi] at y;exact r.fd j a z y
 |none=>rw[hi] at y;exact I.no_f (hn a z) i y
end
abbrev VP:=List Sl->(Sl->Prop)->Prop
abbrev VIo:=Own->List Sl->(Own->Sl->Prop)->Prop
def noF:Nat->Addr->Prop:=λ_ _=>False
def bsP(K:Frag)(G H:Hp)(vs:List V):Bs:=⟨K,G,H,H,vs.map some,noF⟩
def nH(K:Frag)(G:Hp):V->Sl->Prop
 |v,.st d=>Rp G v d
 |v,.scr ns=>∃ a,v=.ref a/\SqL K G a (ns.map V.int)
 |_,_=>False
inductive ArgsOk(K:Frag)(G:Hp):List V->List Sl->Prop
 |nil:ArgsOk K G [] []
 |cons {v:V} {s:Sl} {vs:List V} {ss:List Sl}:nH K G v s->ArgsOk K G vs ss->ArgsOk K G (v::vs) (s::ss)
theorem ArgsOk.length:∀{vs:List V}{ss:List Sl},ArgsOk K G vs ss->vs.length=ss.length
 |_,_,.nil=>rfl
 |_,_,.cons _ t=>by simp[ArgsOk.length t]
theorem ArgsOk.get:∀{vs:List V}{ss:List Sl}{i:Nat}{s:Sl},ArgsOk K G vs ss->ss[i]?=some s->∃ v,vs[i]?=some v/\nH K G v s
 |_,_,_,_,.nil,e=>by simp at e
 |_,_,0,_,.cons r _,e=>by simp at e;subst e;exact⟨_,rfl,r⟩
 | _,_,i+1,s,.cons _ t,e=>by
  obtain⟨u,a,b⟩:=ArgsOk.get (i:=i) (s:=s) t (by simpa using e);exact⟨u,by simpa using a,b⟩
theorem ArgsOk.of:∀{vs:List V}{ds:List PyData},Rps G vs ds->ArgsOk K G vs (ds.map Sl.st)
 |_,_,.nil=>.nil
 |_,_,.cons r t=>.cons r (ArgsOk.of t)
theorem pJ{α:Type}{xs:List α}{n i:Nat}{s : α}(e:(xs.map some++List.replicate n none)[i]?=some (some s)):xs[i]?=some s:=by
 by_cases h:i<xs.length
 ·rw[f8 (by simpa using h),L1] at e;rw[Y0 h] at e ⊢;simpa using e
 ·rw[F7 (by simpa using h),r9] at e;split at e <;> cases e
theorem tI{α:Type}{xs:List α}{n i:Nat}{s : α}(e:xs[i]?=some s):(xs.map some++List.replicate n none)[i]?=some (some s):=by
 have h:i<xs.length:=(N1.mp e).1;rw[f8 (by simpa using h),L1,e];rfl
def spP(K:Frag)(f:VP):Sp:=λvs H Q _=>∃ G ss Q',Same G H/\FT G H/\ArgsOk K G vs ss/\f ss Q'/\∀ s,Q' s->∀ v G' H' Fv,Out G H v G' H' s Fv->Q v H'
structure OutI(G H R:Hp)(F0:Addr->Prop)(v0:V)(A':Own)(s:Sl)(v:V)(G' H':Hp)(F' Fv:Addr->Prop):Prop where
 gg:Same G G'
 gh:Same G' H'
 ft:FT G' H'
 gn:∀ a o,G' a=some o->G a=some o\/H a=none
 rs:Same R H'
 bh:∀ a o,H a=some o->∃ o',H' a=some o'
 ap:A'.P G' H' v0 F'
 fi:∀ a,F' a->F0 a\/H a=none
 fg:∀ a,F' a->G' a=none
 ok:RsOk G' H' v Fv s
 fv:∀ a,Fv a->H a=none/\G' a=none/\(∃ o,H' a=some o)/\¬ F' a
def spI(K:Frag)(f:VIo):Sp:=λvs H Q _=>∃ v0 vr G R A ss F0 Q',vs=v0::vr/\Same G H/\FT G H/\Same R H/\A.P G H v0 F0/\(∀ a,F0 a->G a=none)/\(∀ a,F0 a->R a=none)/\ArgsOk K G vr ss /\
 f A ss Q'/\∀ A' s,Q' A' s->∀ v G' H' F' Fv,OutI G H R F0 v0 A' s v G' H' F' Fv->Q v H'
theorem T1(h:spP K f vs H Q E)
  (hb:∀ ss Q',f ss Q'->∀ B,B.K=K->EvS B b { nx:=λ_=>Q' (.st .none),rt:=λs _=>Q' s } (ss.map some++List.replicate (N.length-ss.length) none)):b { nx:=λ_ H'=>Q .non H',rt:=Q } (L2.start N vs) H:=by
 obtain⟨G,ss,Q',gh,ft,l,hf,c⟩:=h;have fin:∀{σ G' H' F env v Fv s},VI (bsP K G H vs) G' H' σ env F->RsX (bsP K G H vs) G' H' v Fv s F->Out G H v G' H' s Fv:=λI r =>
  ⟨I.g0,I.gh,I.rs,I.gn,r.fb,r.fg,r.fo,r.ok,λ_=>I.ft⟩
 refine hb ss _ hf (bsP K G H vs) rfl (L2.start N vs) G H noF _ ?_ ⟨λσ G' H' F env I g q=>c _ q _ _ _ _ (fin I (V6 .non)),λσ G' H' F env v Fv s I g r q=>c _ q v G' H' Fv (fin I r),λ_ _ _ _ _ _ _ q=>q,λ_ _ _ _ _ _ _ q=>q⟩;refine⟨gh,Same.refl _,λa o e=>.inl e,Same.refl _,Same.refl _,λa o e=>⟨o,e⟩,λi a z=>z.elim,λi a z=>z.elim,λi j a z=>z.elim,λi a z=>z.elim,λi s e=>?_,?_,ft⟩
 ·obtain⟨v,m,q⟩:=l.get (pJ e);refine⟨v,by unfold L2.start;exact tI m,?_⟩;cases s with
  |st d=>exact⟨q,λa z=>z⟩
  |scr ns=>exact⟨q,λa z=>z⟩
  |own A=>exact q.elim
  |io A=>exact q.elim
 ·unfold L2.start;simp[l.length]
theorem i7(h:spI K f vs H Q E)
  (hb:∀ A ss Q',f A ss Q'->∀ B,B.K=K->EvS B n { nx:=λe=>∃ A',e[0]?=some (some (.io A'))/\Q' A' (.st .none),rt:=λs e=>∃ A',e[0]?=some (some (.io A'))/\Q' A' s } (some (.io A)::(ss.map some++List.replicate (N.length-(ss.length+1)) none))):n { nx:=λ_ H'=>Q .non H',rt:=Q } (L2.start N vs) H:=by
 obtain⟨v0,b,G,R,A,ss,F0,Q',rfl,gh,ft,m,ap,fg,fr,l,hf,x⟩:=h;have M:(v0::b).length=ss.length+1:=by simp[l.length]
 refine hb A ss _ hf ⟨K,G,H,R,(v0::b).map some,λi a=>i=0/\F0 a⟩ rfl (L2.start N (v0::b)) G H (λi a=>i=0/\F0 a) _ ?_ ?_
 ·refine⟨gh,Same.refl _,λa o e=>.inl e,m,m,λa o e=>⟨o,e⟩,λi a z=>fg a z.2,λi a z=>fr a z.2,λi j a z y=>by rw[z.1,y.1],λi a z=>A.dom ap a z.2,λi s e=>?_,?_,ft⟩
  ·cases i with
   | zero =>
    simp at e;subst e;refine⟨v0,rfl,?_,λa z=>.inl z,rfl⟩;have:(λa=>0=0/\F0 a)=F0:=by funext a;simp
    rw[this];exact ap
   | succ i =>
    have D:(ss.map some++List.replicate (N.length-(ss.length+1)) none)[i]?=some (some s):=by simpa using e
    obtain⟨v,u,q⟩:=l.get (pJ D);refine⟨v,?_,?_⟩
    ·unfold L2.start;exact tI (by simpa using u)
    ·cases s with
     |st d=>exact⟨q,λa z=>by cases z.1⟩
     |scr ns=>exact⟨q,λa z=>by cases z.1⟩
     |own A=>exact q.elim
     |io A=>exact q.elim
  ·unfold L2.start;simp[l.length]
 ·have fin:∀ σ G' H' F env v Fv s,VI ⟨K,G,H,R,(v0::b).map some,λi a=>i=0/\F0 a⟩ G' H' σ env F->RsX ⟨K,G,H,R,(v0::b).map some,λi a=>i=0/\F0 a⟩ G' H' v Fv s F->(∃ A',env[0]?=some (some (.io A'))/\Q' A' s)->Q v H':=by
   intro σ G' H' F env v Fv s I r ⟨A',e,q⟩;obtain⟨p,C,w,L,J⟩:=I.sl 0 _ e;have:p=v0:=by
    have c:((v0::b).map some)[0]?=some (some p):=J;simpa using c.symm
   subst this;exact x A' s q v G' H' (F 0) Fv ⟨I.g0,I.gh,I.ft,I.gn,I.rs,I.bh,w,λa z=>by
    rcases L a z with y|y
    ·exact .inl y.2
    ·exact .inr y,I.fg 0,r.ok,λa z=>⟨r.fb a z,r.fg a z,r.fo a z,r.fd 0 a z⟩⟩
  refine⟨λσ G' H' F env I g q=>fin σ G' H' F env .non _ (.st .none) I (V6 .non) q,λσ G' H' F env v Fv s I g r q=>fin σ G' H' F env v Fv s I r q,λ_ _ _ _ _ _ _ q=>q,λ_ _ _ _ _ _ _ q=>q⟩
section
variable{B:Bs}{env:En}{Q':PyData->En->Prop}{QO:Sl->En->Prop}{K:Frag}{E:XK}
theorem HF(h:EvA B t env λds b=>f (ds.map Sl.st) λs=>QO s b):EvO B (M3 (spP K f) [] E t) env QO:=λσ G H F Q I k=>by
 unfold M3;simp only[m5];exact h σ G H F _ I λvs g l j ds b a d i c=>⟨g,_,_,a.gh,a.ft,ArgsOk.of i,c,λs q v G' H' Fv o=>k v G' H' j Fv s b (a.out o).1 (d.trans o.gg) (a.out o).2 q⟩
theorem WK(h:EvA B t env λds a=>f (ds.map Sl.st) λs=>FQ s λd=>Q' d a):Ev B (M3 (spP K f) [] E t) env Q':=U3 (HF h)
theorem iH(e:env[i]?=some (some (.scr ns)))(j:B.K=K)(h:EvA B t env λds c=>f (.scr ns::ds.map Sl.st) λs=>QO s c):EvO B (M3 (spP K f) [] E (Y1 (tVar i) t)) env QO:=λσ G H F Q I k=>by
 subst j;unfold M3;simp only[m5];obtain⟨v0,m,⟨a,r,p⟩,_⟩:=I.sl i _ e;refine⟨v0,m,h σ G H F _ I λvs n w u ds c b d l g=>⟨n,_,_,b.gh,b.ft,.cons (s:=.scr ns) ⟨a,r,d.seq p⟩ (ArgsOk.of l),g,λs q v G' H' Fv o=>k v G' H' u Fv s c (b.out o).1 (d.trans o.gg) (b.out o).2 q⟩⟩
theorem mO(e:env[i]?=some (some (.scr ns)))(b:B.K=K)(h:EvA B t env λds a=>f (.scr ns::ds.map Sl.st) λs=>FQ s λd=>Q' d a):Ev B (M3 (spP K f) [] E (Y1 (tVar i) t)) env Q':=U3 (iH e b h)
def reS:Sl->Own->Sl
 | .io _,A=>.io A
 |_,A=>.own A
theorem rD(S:∃ s,env[i]?=some (some s))(h:EvA B t env λds C=>∃ s0 A,C[i]?=some (some s0)/\(s0=.own A\/s0=.io A)/\f A (ds.map Sl.st) λA' s=>QO s (C.set i (some (reS s0 A')))):EvO B (M3 (spI K f) [] E (Y1 (tVar i) t)) env QO:=λσ G H F Q I k=>by
 unfold M3;simp only[m5];obtain⟨s,e⟩:=S;obtain⟨v0,N,_⟩:=I.sl i _ e;refine⟨v0,N,h σ G H F _ I λvs D p m ds C r R T ⟨s0,A,M,hs,O⟩=>?_⟩;obtain⟨U,w,q⟩:=r.sl i _ M;rw[N] at w;cases w;have ap:A.P D p v0 (m i):=by
  rcases hs with rfl|rfl
  ·exact q.1
  ·exact q.1
 let inv:Nat->Option Nat:=λj=>if j=i then some 0 else none
 have d:inv i=some 0:=q0 rfl;have g:∀ j,j ≠ i->inv j=none:=λj h=>o0 h;have c:∀ j l,inv j=some l->j=i/\l=0:=λj l h=>by
  by_cases hj:j=i
  ·subst hj;rw[d] at h;cases h;exact⟨rfl,rfl⟩
  ·rw[g j hj] at h;cases h
 refine⟨v0,vs,D,u4 p m inv,A,_,m i,_,rfl,r.gh,r.ft,D7,ap,r.fg i,λa z=>JA d z,ArgsOk.of T,O,λA' s q v G' H' F' Fv o=>?_⟩;have hi:i<C.length:=(N1.mp M).1;have J:VI ⟨K,D,p,u4 p m inv,[some v0],λj a=>j=0/\m i a⟩ G' H' [some v0] [some (.io A')] (λj a=>j=0/\F' a):=by
  refine⟨o.gh,o.gg,o.gn,o.rs,D7,o.bh,λj a z=>o.fg a z.2,λj a z=>?_,λj l a y z=>by rw[y.1,z.1],λj a z=>A'.dom o.ap a z.2,λj s e=>?_,rfl,o.ft⟩
  ·rcases o.fi a z.2 with y|y
   ·exact JA d y
   ·cases e:u4 p m inv a with
    |none=>exact e
    |some u=>rw[D7 a u e] at y;cases y
  ·cases j with
   | zero =>
    simp at e;subst e;refine⟨v0,rfl,?_,λa z=>?_,rfl⟩
    ·have:(λa=>0=0/\F' a)=F':=by funext a;simp
     rw[this];exact o.ap
    ·rcases o.fi a z.2 with y|y
     ·exact .inl ⟨rfl,y⟩
     ·exact .inr y
   |succ j=>simp at e
 have L:=r.leave (inv:=inv) (env2:=C.set i (some (reS s0 A'))) (λa b j ha hb=>by rw[(c a j ha).1,(c b j hb).1]) rfl rfl (λa u e n=>by show u4 p m inv a=_;rw[K9 n];exact e)
  (λa j ha x z=>by rw[(c a j ha).1];exact z.2) (λa j ha=>by rw[(c a j ha).1,(c a j ha).2,N];rfl) J (λa j ha=>⟨A',by rw[(c a j ha).2];rfl⟩) (by simp) λj s' e=>by
   by_cases hj:j=i
   ·subst hj;rw[y4,q0 rfl,q0 hi] at e;cases e;refine .inr ⟨0,A,A',d,rfl,?_⟩;rcases hs with rfl|rfl
    ·exact .inl ⟨M,rfl⟩
    ·exact .inr ⟨M,rfl⟩
   ·rw[y4,o0 (λz=>hj z.symm)] at e;exact .inl ⟨g j hj,e⟩
 have X:RsX ⟨K,D,p,u4 p m inv,[some v0],λj a=>j=0/\m i a⟩ G' H' v Fv s (λj a=>j=0/\F' a):=⟨o.ok,λa z=>(o.fv a z).1,λa z=>(o.fv a z).2.1,λa z=>(o.fv a z).2.2.1,λj a z y=>(o.fv a z).2.2.2 y.2⟩
 exact k v G' H' _ Fv s _ L (R.trans o.gg) (X.leave (inv:=inv) r rfl) q
end
def X9:Option Sl->Option Sl
 |some (.own A)=>some (.io A)
 |s=>s
def V0(src:List (Option Nat))(env:En):En:=src.map λo=>match o with|some j=>X9 ((env[j]?).getD none)|none=>none
def isIo:Option Sl->Bool
 |some (.io _)=>true
 |_=>false
def idxE(i:Nat):List (Option Nat)->Nat->Option Nat
 |[],_=>none
 |o::r,k=>if o=some i then some k else idxE i r (k+1)
def M9(src:List (Option Nat))(e:En)(i:Nat)(s:Option Sl):Option Sl :=
 match s with
 |some (.own A)=>(match idxE i src 0 with|some j=>(match e[j]? with|some (some (.io A'))=>some (.own A')|_=>none)|none=>some (.own A))
 |some (.io A)=>(match idxE i src 0 with|some j=>(match e[j]? with|some (some (.io A'))=>some (.io A')|_=>none)|none=>some (.io A))
 |s=>s
def X8(src:List (Option Nat))(e:En):Nat->En->En
 |_,[]=>[]
 |k,s::r=>M9 src e k s::X8 src e (k+1) r
def A9(src:List (Option Nat))(e1 e:En):En:=X8 src e 0 e1
theorem fD(src:List (Option Nat))(e:En):∀(k:Nat)(l:En)(i:Nat),(X8 src e k l)[i]?=(l[i]?).map (M9 src e (k+i))
 |_,[],i=>by simp[X8]
 |k,s::r,0=>by simp[X8]
 | k,s::r,i+1=>by
  have:=fD src e (k+1) r i;simp only[X8,Y3,this];rw[show k+1+i=k+(i+1) by lia]
theorem SB:∀{src:List (Option Nat)}{k j:Nat},idxE i src k=some j->k<=j/\src[j-k]?=some (some i)
 |[],_,_,h=>by cases h
 | o::r,k,j,h=>by
  unfold idxE at h;by_cases e:o=some i
  ·rw[q0 e] at h;cases h;exact⟨M0 _,by simp[e]⟩
  ·rw[o0 e] at h;obtain⟨b,a⟩:=SB h;refine⟨by lia,?_⟩;rw[show j-k=(j-(k+1))+1 by lia];simpa using a
theorem wJ:∀{src:List (Option Nat)}{k:Nat},idxE i src k=none->∀ j:Nat,src[j]? ≠ some (some i)
 |[],_,_,j=>by simp
 | o::r,k,h,j=>by
  unfold idxE at h;by_cases e:o=some i
  ·rw[q0 e] at h;cases h
  ·rw[o0 e] at h;cases j with
   |zero=>simpa using e
   |succ j=>simpa using wJ h j
theorem WC:∀(src:List (Option Nat)),(src.filterMap id).Nodup->∀ j j' i:Nat,src[j]?=some (some i)->src[j']?=some (some i)->j=j'
 |[],_,j,_,_,h,_=>by simp at h
 | none::r,h,j,j',i,h1,h2=>by
  cases j with
  |zero=>simp at h1
  | succ j =>
   cases j' with
   |zero=>simp at h2
   |succ j'=>rw[WC r (by simpa using h) j j' i (by simpa using h1) (by simpa using h2)]
 | some x::r,h,j,j',i,h1,h2=>by
  have h':=O5.mp (show(x::r.filterMap id).Nodup by simpa using h);have b:∀ k,r[k]?=some (some x)->False:=λk c=>h'.1 (List.mem_filterMap.mpr ⟨some x,i3 c,rfl⟩);cases j with
  | zero =>
   have a:x=i:=by simpa using h1
   subst a;cases j' with
   |zero=>rfl
   |succ j'=>exact(b j' (by simpa using h2)).elim
  | succ j =>
   cases j' with
   | zero =>
    have a:x=i:=by simpa using h2
    subst a;exact(b j (by simpa using h1)).elim
   |succ j'=>rw[WC r h'.2 j j' i (by simpa using h1) (by simpa using h2)]
def t9:Option Sl->Bool
 |some (.own _)=>true
 |_=>false
def ioLe:En->En->Prop
 |a::r,b::s=>(isIo a=isIo b/\t9 b=false)/\ioLe r s
 |[],[]=>True
 |_,_=>False
theorem SG(h:isIo x=true):∃ A,x=some (.io A):=by
 cases x with
 |none=>simp[isIo] at h
 | some y =>
  cases y with
  |io A=>exact⟨A,rfl⟩
  |_=>simp[isIo] at h
theorem ioLe.get:∀{a b:En}{j:Nat}{x:Option Sl},ioLe a b->a[j]?=some x->isIo x=true->∃ A,b[j]?=some (some (.io A))
 |[],_,_,_,_,e,_=>by simp at e
 |x::r,[],_,_,h,_,_=>h.elim
 | x::r,y::s,0,z,h,e,p=>by
  simp at e;subst e;have:=h.1.1;rw[p] at this;obtain⟨A,q⟩:=SG this.symm;exact⟨A,by simp[q]⟩
 | x::r,y::s,j+1,z,h,e,p=>by
  obtain⟨A,q⟩:=ioLe.get (j:=j) h.2 (by simpa using e) p;exact⟨A,by simpa using q⟩
theorem ioLe.got:∀{a b:En}{j:Nat}{x:Option Sl},ioLe a b->b[j]?=some x->(isIo x=true->∃ A,a[j]?=some (some (.io A)))/\t9 x=false
 |[],[],_,_,_,e=>by simp at e
 |[],_::_,_,_,h,e=>h.elim
 |x::r,[],_,_,h,_=>h.elim
 | x::r,y::s,0,z,h,e=>by
  simp at e;subst e;refine⟨λp=>?_,h.1.2⟩;have:=h.1.1;rw[p] at this;obtain⟨A,q⟩:=SG this;exact⟨A,by simp[q]⟩
 | x::r,y::s,j+1,z,h,e=>by
  obtain⟨p,q⟩:=ioLe.got (j:=j) (x:=z) h.2 (by simpa using e);exact⟨λt=>by obtain⟨A,u⟩:=p t;exact⟨A,by simpa using u⟩,q⟩
section
variable{B:Bs}{G H:Hp}{σ:St}{env:En}{F:Nat->Addr->Prop}
theorem VI.aside(I:VI B G H σ env F){p:Addr}{o:HO}(d:∀ xs,o ≠ .tup xs)(b:G p=none)(hf:∀ j,¬ F j p)(hb:B.H p=none):VI B G (upd H p o) σ env F where
 gh:=λa u e=>by rw[J0 (U2 e b)];exact I.gh a u e
 g0:=I.g0
 gn:=I.gn
 rs:=λa u e=>by rw[J0 (U2 e (I.b_r hb))];exact I.rs a u e
 rb:=I.rb
 bh:=λa u e=>by rw[J0 (U2 e hb)];exact I.bh a u e
 fg:=I.fg
 fr:=I.fr
 fd:=I.fd
 fo:=λj a z=>by rw[J0 (λe:a=p=>hf j (e ▸ z))];exact I.fo j a z
 sl:=λi s e=>by
  obtain⟨v,c,q⟩:=I.sl i s e;exact⟨v,c,q.mono (Same.refl _) λa u z y=>by rw[J0 (λe:a=p=>hf i (e ▸ z))];exact y⟩
 ln:=I.ln
 ft:=λa ks e=>by
  by_cases z:a=p
  ·subst z;rw[W0] at e;exact absurd (u3 e) (d _)
  ·rw[J0 z] at e;exact I.ft a ks e
def LcV(K:Frag)(src:List (Option Nat))(g:TG)(tif:TT)(te:TE)(ds:List PyData)(e1:En)(R:List PyData->En->Prop):Prop:=∃ J:Nat->List PyData->En->Prop,J 0 [] (V0 src e1)/\(∀ i ys e,J i ys e->ioLe (V0 src e1) e) /\
 (∀ i d ys e,ds[i]?=some d->J i ys e->∀ B':Bs,B'.K=K->EvG B' g (.st d) e λe2=>EvT B' tif e2 λb e3=>if b=true then Ev B' te e3 λy e4=>ys.length<=999999/\J (i+1) (ys++[y]) e4 else J (i+1) ys e3)/\∀ ys e,J ds.length ys e->R ys (A9 src e1 e)
theorem KD{src:List (Option Nat)}{j:Nat}{s:Sl}(h:(V0 src env)[j]?=some (some s)):∃ i t,src[j]?=some (some i)/\env[i]?=some (some t)/\X9 (some t)=some s:=by
 unfold V0 at h;rw[L1] at h;cases e:src[j]? with
 |none=>rw[e] at h;cases h
 | some o =>
  rw[e] at h;cases o with
  |none=>cases h
  | some i =>
   simp only[w8,Option.some.injEq] at h;cases e2:env[i]? with
   |none=>rw[e2] at h;cases h
   | some o2 =>
    rw[e2] at h;cases o2 with
    |none=>cases h
    |some t=>exact⟨i,t,rfl,e2,h⟩
theorem rG{src:List (Option Nat)}{i j:Nat}{v:V}(h:src[j]?=some (some i))(a : σ[i]?=some (some v)):(pick src σ)[j]?=some (some v):=by
 unfold pick;rw[L1,h];simp[a]
theorem IG (nd:(src.filterMap id).Nodup) (h:EvI B wi env λds U=>LcV B.K src g b3 te ds U λys e2=>QO (.own (OL ys)) e2):EvO B (tLC src wi g b3 te) env QO:=λσ G H F Q I k=>by
 refine h σ G H F _ I λJ G1 H1 F1 ds U I1 g1 it ⟨Jv,j0,a7,js,jd⟩ p S=>?_;let M:Nat->Bool:=λi=>match U[i]? with|some (some (.own _))=>true|some (some (.io _))=>true|_=>false
 let inv:Nat->Option Nat:=λi=>if M i=true then idxE i src 0 else none
 have D:∀ i j,inv i=some j->src[j]?=some (some i)/\M i=true:=λi j hi=>by
  by_cases hm:M i=true
  ·have f:idxE i src 0=some j:=by simpa[inv,hm] using hi
   have:=(SB f).2;exact⟨by simpa using this,hm⟩
  ·simp[inv,hm] at hi
 have a3:∀ i j,src[j]?=some (some i)->M i=true->inv i=some j:=λi j hs hm=>by
  have e0:inv i=idxE i src 0:=by simp[inv,hm]
  cases e:idxE i src 0 with
  |none=>exact absurd hs (wJ e j)
  | some j' =>
   have:=(SB e).2;rw[e0,e,WC src nd j j' i hs (by simpa using this)]
 have inj:∀ i c j,inv i=some j->inv c=some j->i=c:=λi c j X C=>by
  have a:=(D i j X).1;rw[(D c j C).1] at a;simpa using a.symm
 have a9:∀ i,M i=true->∃ A,U[i]?=some (some (.own A))\/U[i]?=some (some (.io A)):=λi hm=>by
  cases e:U[i]? with
  |none=>simp[M,e] at hm
  | some o =>
   cases o with
   |none=>simp[M,e] at hm
   | some s =>
    cases s with
    |own A=>exact⟨A,.inl rfl⟩
    |io A=>exact⟨A,.inr rfl⟩
    |st d=>simp[M,e] at hm
    |scr ns=>simp[M,e] at hm
 have b2:∀ i ys e,Jv i ys e->∀ c j,inv c=some j->∃ A,e[j]?=some (some (.io A)):=λi ys e hj c j hi=>by
  obtain⟨hs,hm⟩:=D c j hi;obtain⟨A,N⟩:=a9 c hm;refine(a7 i ys e hj).get (x:=some (.io A)) ?_ rfl;unfold V0;rw[L1,hs];rcases N with N|N <;> simp[N,X9]
 -- between two turns
 let Wv:Nat->List V->St->Hp->Prop:=λi ys σI H=>∃ G2 F2 e env2 yd,VI B G2 H σ env2 F2/\Same G1 G2/\H p=some (.lst ys)/\Rps G2 ys yd/\G2 p=none/\(∀ j,¬ F2 j p)/\Jv i yd e/\σI.length=e.length/\env2.length=U.length /\
  (∀ j s,e[j]?=some (some s)->∃ v,σI[j]?=some (some v)/\((∃ d,s=.st d/\Rp G2 v d/\∀ i,inv i ≠ some j)\/(∃ ns a,s=.scr ns/\v=.ref a/\SqL B.K G2 a (ns.map V.int)/\∀ i,inv i ≠ some j) ∨
   ∃ i A,inv i=some j/\s=.io A/\σ[i]?=some (some v)/\(env2[i]?=some (some (.own A))\/env2[i]?=some (some (.io A))))) /\
  (∀ i,inv i=none->env2[i]?=U[i]?)/\(∀ i j,inv i=some j->∃ A0 A,e[j]?=some (some (.io A))/\((U[i]?=some (some (.own A0))/\env2[i]?=some (some (.own A)))\/(U[i]?=some (some (.io A0))/\env2[i]?=some (some (.io A)))))
 have hb:B.H p=none:=I1.no_b S;refine⟨λi m ys σI H=>m=ds.length-i/\i<=ds.length/\Wv i ys σI H,⟨ds.length,by simp,O3 _,?_⟩,?_⟩
 ·refine⟨G1,F1,V0 src U,U,[],I1.aside (λ_ z=>nomatch z) (I1.no_g S) (I1.no_f S) hb,Same.refl _,W0,.nil,I1.no_g S,I1.no_f S,j0,by simp[pick,V0],rfl,λj s e=>?_,λ_ _=>rfl,λi j hi=>?_⟩
  ·obtain⟨i,t,hs,ht,hp⟩:=KD e;obtain⟨v,hv,q⟩:=I1.sl i t ht;refine⟨v,rG hs hv,?_⟩;cases t with
   | st d =>
    cases hp;refine .inl ⟨d,rfl,q.1,λc f=>?_⟩;have a:=(D c j f).1;rw[hs] at a;have:i=c:=by simpa using a
    subst this;have:=(D i j f).2;simp[M,ht] at this
   | scr ns =>
    cases hp;obtain⟨⟨a,ea,sq⟩,_⟩:=q;refine .inr (.inl ⟨ns,a,rfl,ea,sq,λc f=>?_⟩);have a:=(D c j f).1;rw[hs] at a;have:i=c:=by simpa using a
    subst this;have:=(D i j f).2;simp[M,ht] at this
   |own A=>cases hp;exact .inr (.inr ⟨i,A,a3 i j hs (by simp[M,ht]),rfl,hv,.inl ht⟩)
   |io A=>cases hp;exact .inr (.inr ⟨i,A,a3 i j hs (by simp[M,ht]),rfl,hv,.inr ht⟩)
  ·obtain⟨hs,hm⟩:=D i j hi;obtain⟨A,N⟩:=a9 i hm;refine⟨A,A,?_,?_⟩
   ·unfold V0;rw[L1,hs];rcases N with N|N <;> simp[N,X9]
   ·rcases N with N|N
    ·exact .inl ⟨N,N⟩
    ·exact .inr ⟨N,N⟩
 ·rintro i m ys σI H2 ⟨rfl,hi,G2,F2,e,env2,yd,I2,g2,a0,ry,ga,fa,jv,ln,b8,sl,un,mv⟩;refine⟨a0,?_⟩;by_cases hlt:i<ds.length
  ·refine .inr ⟨it.go i G2 H2 g2 I2.gh hlt,Wv (i+1),λa1 c1 H' hw=>⟨ds.length-(i+1),by lia,rfl,hlt,hw⟩,λx H3 y=>?_⟩;obtain⟨G3,o⟩:=it.yld i G2 H2 x H3 _ g2 I2.gh I2.ft (Y0 hlt) y;obtain⟨I3,X3⟩:=I2.out o;have a8:=o.hh _ _ a0;have a5:=fa;have c0:G3 p=none:=by
    cases e':G3 p with
    |none=>rfl
    | some u =>
     rcases o.gn p u e' with q|q
     ·rw[ga] at q;cases q
     ·rw[a0] at q;cases q
   have b4:∀ j s,e[j]?=some (some s)->∃ v,σI[j]?=some (some v)/\((∃ d,s=.st d/\Rp G3 v d/\∀ i,inv i ≠ some j)\/(∃ ns a,s=.scr ns/\v=.ref a/\SqL B.K G3 a (ns.map V.int)/\∀ i,inv i ≠ some j) ∨
     ∃ i A,inv i=some j/\s=.io A/\σ[i]?=some (some v)/\(env2[i]?=some (some (.own A))\/env2[i]?=some (some (.io A)))):=λj s es=>by
    obtain⟨v,hv,q⟩:=sl j s es;refine⟨v,hv,?_⟩;rcases q with ⟨d,a6,r,n⟩|⟨ns,a,a6,b9,r,n⟩|q
    ·exact .inl ⟨d,a6,r.same o.gg,n⟩
    ·exact .inr (.inl ⟨ns,a,a6,b9,o.gg.seq r,n⟩)
    ·exact .inr (.inr q)
   have E3:=I3.enter (inv:=inv) (σI:=σI) (envI:=e) inj ln b4
   -- back from the turn
   have fin:∀(R:St)(G4 H4:Hp)(F4:Nat->Addr->Prop)(e4:En)(Z:List PyData)(a1:List V)(o4:HO),VI ⟨B.K,G3,H3,u4 H3 F2 inv,σI,λj a=>∃ i,inv i=some j/\F2 i a⟩ G4 H4 R e4 F4->Jv (i+1) Z e4->Rps G4 a1 Z ->
     Wv (i+1) a1 R (upd H4 p (.lst a1))/\H4 p=some (.lst ys):=by
    intro R G4 H4 F4 e4 Z a1 o4 I4 j4 r4;have a2:=b2 (i+1) Z e4 j4;have b6:H4 p=some (.lst ys):=I4.rs p _ (by show u4 H3 F2 inv p=_;rw[K9 (λc _ _=>a5 c)];exact a8);have b0:G4 p=none:=by
     cases e':G4 p with
     |none=>rfl
     | some u =>
      rcases I4.gn p u e' with q|q
      ·change G3 p=_ at q;rw[c0] at q;cases q
      ·change H3 p=_ at q;rw[a8] at q;cases q
    -- the slots of the outer frame
    let E:En:=(List.range env2.length).map λc=>match inv c with
     |some j=>(match env2[c]?,e4[j]? with|some (some (.own _)),some (some (.io A))=>some (.own A)|some (some (.io _)),some (some (.io A))=>some (.io A)|_,_=>none)
     |none=>(env2[c]?).getD none
    have O:∀ c,c<env2.length->E[c]?=some (match inv c with
     |some j=>(match env2[c]?,e4[j]? with|some (some (.own _)),some (some (.io A))=>some (.own A)|some (some (.io _)),some (some (.io A))=>some (.io A)|_,_=>none)
     |none=>(env2[c]?).getD none):=λc hl=>by
     simp only[E,L1];rw[Y0 (by simpa using hl)];simp
    have L:=I3.leave (inv:=inv) (env2:=E) inj rfl rfl (λa u q n=>by show u4 H3 F2 inv a=_;rw[K9 n];exact q) (λc j f a z=>by obtain⟨W,X,C⟩:=z;rw[inj c W j f X];exact C)
     (λc j f=>by
      obtain⟨A0,A,X,C⟩:=mv c j f;obtain⟨v,hv,q⟩:=sl j _ X;rcases q with ⟨d,q,_⟩|⟨ns,a,q,_⟩|⟨W,b5,q1,q2,q3,_⟩
      ·cases q
      ·cases q
      ·rw[inj c W j f q1];show σI[j]?=_;rw[hv,q3]) I4 a2 (by simp[E]) (λc s es=>by
      have hl:c<env2.length:=by
       have:=(N1.mp es).1;simpa[E] using this
      rw[O c hl] at es;cases f:inv c with
      | none =>
       refine .inl ⟨rfl,?_⟩;rw[f] at es;simp only[Option.some.injEq] at es;cases q:env2[c]? with
       |none=>rw[q] at es;cases es
       |some u=>rw[q] at es;simp at es;rw[es]
      | some j =>
       rw[f] at es;obtain⟨A',T⟩:=a2 c j f;obtain⟨A0,A,X,C⟩:=mv c j f;simp only[T] at es;rcases C with ⟨_,C⟩|⟨_,C⟩
       ·rw[C] at es;simp only[Option.some.injEq] at es;exact .inr ⟨j,A,A',rfl,T,.inl ⟨C,es.symm⟩⟩
       ·rw[C] at es;simp only[Option.some.injEq] at es;exact .inr ⟨j,A,A',rfl,T,.inr ⟨C,es.symm⟩⟩)
    have b1:∀ j,¬ (match inv j with|some j=>F4 j p|none=>F2 j p):=λj z=>by
     cases hj:inv j with
     |none=>rw[hj] at z;exact a5 j z
     | some l =>
      rw[hj] at z;obtain⟨A',T⟩:=a2 j l hj;obtain⟨v,_,q⟩:=I4.sl l _ T;rcases q.2.1 p z with ⟨W,_,q⟩|q
      ·exact a5 W q
      ·change H3 p=_ at q;rw[a8] at q;cases q
    refine⟨⟨G4,_,e4,E,Z,L.aside (λ_ z=>nomatch z) b0 b1 hb,g2.trans (o.gg.trans I4.g0),W0,r4,b0,b1,j4,I4.ln,by simp[E,b8],λj s es=>?_,λc f=>?_,λc j f=>?_⟩,b6⟩
    ·obtain⟨v,hv,q⟩:=I4.sl j s es;refine⟨v,hv,?_⟩;have Y:(∀ A,s ≠ .io A)->∀ c,inv c ≠ some j:=λhn c f=>by
      obtain⟨A,N⟩:=a2 c j f;rw[es] at N;exact hn A (by simpa using N)
     cases s with
     |st d=>exact .inl ⟨d,rfl,q.1,Y (by intro A z;cases z)⟩
     | scr ns =>
      obtain⟨⟨a,ea,sq⟩,_⟩:=q;exact .inr (.inl ⟨ns,a,rfl,ea,sq,Y (by intro A z;cases z)⟩)
     | own A =>
      have:=((a7 _ _ _ j4).got es).2;simp[t9] at this
     | io A =>
      obtain⟨A0,h0⟩:=((a7 _ _ _ j4).got es).1 rfl;obtain⟨c,t,hs,ht,hp⟩:=KD h0;have hm:M c=true:=by
       cases t with
       |own A=>simp[M,ht]
       |io A=>simp[M,ht]
       |st d=>cases hp
       |scr ns=>cases hp
      have f:=a3 c j hs hm;obtain⟨B0,A1,X,C⟩:=mv c j f;have hl:c<env2.length:=by
       rcases C with ⟨_,C⟩|⟨_,C⟩ <;> exact(N1.mp C).1
      refine .inr (.inr ⟨c,A,f,rfl,?_,?_⟩)
      ·have hS : σI[j]?=some (some v):=q.2.2;obtain⟨v',b7,q'⟩:=sl j _ X;rcases q' with ⟨d,q',_⟩|⟨ns,a,q',_⟩|⟨W,b5,q1,q2,q3,_⟩
       ·cases q'
       ·cases q'
       ·rw[inj c W j f q1,q3,← b7,hS]
      ·rw[O c hl,f];simp only[es];rcases C with ⟨_,C⟩|⟨_,C⟩
       ·rw[C];exact .inl rfl
       ·rw[C];exact .inr rfl
    ·by_cases hl:c<env2.length
     ·rw[O c hl,f];simp only;rw[← un c f];rw[Y0 hl];rfl
     ·rw[P6.mpr (by simp[E];lia),← un c f,P6.mpr (by lia)]
    ·obtain⟨A',T⟩:=a2 c j f;obtain⟨A0,A,X,C⟩:=mv c j f;have hl:c<env2.length:=by
      rcases C with ⟨_,C⟩|⟨_,C⟩ <;> exact(N1.mp C).1
     refine⟨A0,A',T,?_⟩;rw[O c hl,f];simp only[T];rcases C with ⟨h3,C⟩|⟨h3,C⟩
     ·rw[C];exact .inl ⟨h3,rfl⟩
     ·rw[C];exact .inr ⟨h3,rfl⟩
   have hd:ds[i]?=some ds[i]:=Y0 hlt;refine js i _ yd e hd jv ⟨B.K,G3,H3,u4 H3 F2 inv,σI,λj a=>∃ i,inv i=some j/\F2 i a⟩ rfl σI G3 H3 _ x _ _ E3 (V6 o.ok.1) λR G4 H4 F4 e4 I4 g4 q4=>?_;refine q4 R G4 H4 F4 _ I4 λb G5 H5 F5 e5 I5 g5 q5=>?_;cases b with
   | false =>
    rw[o0 X1] at q5 ⊢;obtain⟨w,ac⟩:=fin R G5 H5 F5 e5 yd ys (.lst ys) I5 q5 (ry.same (o.gg.trans (g4.trans g5)));have:upd H5 p (.lst ys)=H5:=by
     funext b
     unfold upd;split
     ·rename_i hb';rw[hb'];exact ac.symm
     ·rfl
    rw[this] at w;exact w
   | true =>
    rw[q0 rfl] at q5 ⊢;refine q5 R G5 H5 F5 _ I5 λy G6 H6 F6 d6 e6 I6 g6 r6 q6=>?_;obtain⟨w,ac⟩:=fin R G6 H6 F6 e6 (yd++[d6]) (ys++[y]) (.lst ys) I6 q6.2 ((ry.same (o.gg.trans (g4.trans (g5.trans g6)))).append (.cons r6 .nil));exact⟨ac,by rw[ry.length];exact big (by have:=q6.1;lia),w⟩
  ·have ei:i=ds.length:=by lia
   subst ei;refine .inl ⟨it.stop _ G2 H2 g2 I2.gh rfl,?_⟩;have q:=jd yd e jv;have eb:A9 src U e=env2:=by
    apply D6;intro c;unfold A9;rw[fD,Nat.zero_add];have P:M c=false->env2[c]?=U[c]?:=λhm=>un c (by simp[inv,hm]);cases e2:U[c]? with
    | none =>
     rw[P (by simp[M,e2]),e2];rfl
    | some o =>
     cases o with
     |none=>rw[P (by simp[M,e2]),e2];rfl
     | some t =>
      have a4:∀ A,(t=.own A\/t=.io A)->M c=true:=λA h=>by rcases h with rfl|rfl <;> simp[M,e2]
      cases t with
      |st d=>rw[P (by simp[M,e2]),e2];rfl
      |scr ns=>rw[P (by simp[M,e2]),e2];rfl
      | own A =>
       have hm:=a4 A (.inl rfl);simp only[w8,M9];cases e3:idxE c src 0 with
       | none =>
        have:inv c=none:=by simp[inv,e3]
        rw[un c this,e2]
       | some j =>
        have f:inv c=some j:=by simp[inv,hm,e3]
        obtain⟨A0,A1,X,C⟩:=mv c j f;simp only[X];rcases C with ⟨h3,C⟩|⟨h3,C⟩
        ·rw[C]
        ·rw[e2] at h3;cases h3
      | io A =>
       have hm:=a4 A (.inr rfl);simp only[w8,M9];cases e3:idxE c src 0 with
       | none =>
        have:inv c=none:=by simp[inv,e3]
        rw[un c this,e2]
       | some j =>
        have f:inv c=some j:=by simp[inv,hm,e3]
        obtain⟨A0,A1,X,C⟩:=mv c j f;simp only[X];rcases C with ⟨h3,C⟩|⟨h3,C⟩
        ·rw[e2] at h3;cases h3
        ·rw[C]
   rw[eb] at q;refine k (.ref p) G2 H2 F2 (· = p) (.own (OL yd)) env2 I2 (g1.trans g2) ⟨⟨p,ys,rfl,a0,ry,λb=>Iff.rfl⟩,λa z=>by rw[z];exact hb,λa z=>by rw[z];exact ga,λa z=>by rw[z];exact⟨_,a0⟩,λj a z=>by rw[z];exact fa j⟩ q
end
def noIo(e:En):Bool:=e.all λs=>!isIo s
theorem cQ{e:En}{j:Nat}{x:Option Sl}(h:noIo e=true)(a:e[j]?=some x):isIo x=false:=by
 have:=P2.mp h x (i3 a);simpa using this
theorem uC(h:noIo (V0 src b)=true):A9 src b e=b:=by
 apply D6;intro i;unfold A9;rw[fD,Nat.zero_add];cases e2:b[i]? with
 |none=>rfl
 | some o =>
  have a:∀ A,(o=some (.own A)\/o=some (.io A))->idxE i src 0=none:=λA c=>by
   cases e3:idxE i src 0 with
   |none=>rfl
   | some j =>
    have hs:=(SB e3).2;have:(V0 src b)[j]?=some (some (.io A)):=by
     unfold V0;rw[L1,show src[j]?=some (some i) by simpa using hs];rcases c with rfl|rfl <;> simp[e2,X9]
    have:=cQ h this;simp[isIo] at this
  cases o with
  |none=>rfl
  | some t =>
   cases t with
   |st d=>rfl
   |scr ns=>rfl
   |own A=>simp only[w8,M9,a A (.inl rfl)]
   |io A=>simp only[w8,M9,a A (.inr rfl)]
def stO:Option PyData->Option Sl:=Option.map Sl.st
theorem isIo_stO:isIo (stO o)=false:=by cases o <;> rfl
theorem R8:t9 (stO o)=false:=by cases o <;> rfl
theorem iA:∀ x∈V0 src a,t9 x=false:=by
 intro x b;unfold V0 at b;obtain⟨o,_,rfl⟩:=X0.mp b;cases o with
 |none=>rfl
 | some j =>
  dsimp only;cases (a[j]?).getD none with
  |none=>rfl
  |some t=>cases t <;> rfl
theorem u9:∀{e:En},(∀ x∈e,t9 x=false)->ioLe e e
 |[],_=>True.intro
 |x::r,h=>⟨⟨rfl,h x o3⟩,u9 λy a=>h y (S2 _ a)⟩
section
variable{B:Bs}{env:En}{g:TG}{tif:TT}{te:TE}{K:Frag}{src:List (Option Nat)}{ds:List PyData}{e1:En}{R:List PyData->En->Prop}
theorem nJ(f:PyData->PyData)(p:PyData->Bool)(j:noIo (V0 src e1)=true)(C:ds.length<=999999)
  (h:∀ d∈ds,∀ a:Bs,a.K=K->EvT a tif (some (.st d)::V0 src e1) λb l=>b=p d/\l=some (.st d)::V0 src e1/\(b=true->Ev a te (some (.st d)::V0 src e1) λy g=>y=f d/\g=some (.st d)::V0 src e1))
  (w:R ((ds.filter p).map f) e1):LcV K (none::src) (N2 0) tif te ds e1 R:=by
 have c:noIo (V0 (none::src) e1)=true:=by
  show((none::V0 src e1).all λs=>!isIo s)=true;rw[List.all_cons];exact(E5 _ _).mpr ⟨rfl,j⟩
 refine⟨λi ys e=>ys=((ds.take i).filter p).map f/\∃ o,e=stO o::V0 src e1,⟨by simp,none,rfl⟩,?_,?_,?_⟩
 ·rintro i ys e ⟨_,o,rfl⟩;exact⟨⟨isIo_stO.symm,R8⟩,u9 iA⟩
 ·rintro i d ys e hd ⟨rfl,o,rfl⟩ a A;have hi:i<ds.length:=(N1.mp hd).1;have q:ds.take (i+1)=ds.take i++[d]:=by rw[S6,hd];rfl
  refine P3 ?_;show EvT a tif (some (.st d)::V0 src e1) _;intro σ G H F Q I k;refine h d (i3 hd) a A σ G H F Q I λb G' H' F' l m g' ⟨hb,u,x⟩=>k b G' H' F' l m g' ?_;subst u;by_cases hp:b=true
  ·rw[q0 hp];intro σ G H F Q I k;refine x hp σ G H F Q I λv G' H' F' d' g m g' z ⟨r,n⟩=>k v G' H' F' d' g m g' z ?_;subst r n;refine⟨?_,?_,some d,rfl⟩
   ·have:=X7 p (ds.take i);simp only[R0];have B:(ds.take i).length<=i:=by simp;lia
    lia
   ·rw[q,List.filter_append,N4];have:p d=true:=by rw[← hb];exact hp
    simp[this]
  ·rw[o0 hp];refine⟨?_,some d,rfl⟩;rw[q,List.filter_append,N4];have:p d=false:=by rw[← hb];simpa using hp
   simp[this]
 ·rintro ys e ⟨rfl,o,rfl⟩;rw[uC c,Q6];exact w
theorem RC{α:Type}(xs:List α):xs.filter (λ_=>true)=xs:=by simp
theorem BB(f:PyData->PyData)(b:noIo (V0 src e1)=true)(c:ds.length<=999999)
  (h:∀ d∈ds,∀ a:Bs,a.K=K->Ev a te (some (.st d)::V0 src e1) λy i=>y=f d/\i=some (.st d)::V0 src e1)
  (g:R (ds.map f) e1):LcV K (none::src) (N2 0) tYes te ds e1 R :=
 nJ f (λ_=>true) b c (λd hd a j=>B8 ⟨rfl,rfl,λ_=>h d hd a j⟩) (by rw[RC];exact g)
theorem FF{B:Frag}{α:Type}{xs:List α}{fa fb : α->PyData}(f : α->PyData)(p : α->Bool)(j:noIo (V0 src e1)=true)(E:xs.length<=999999)
  (h:∀ x∈xs,∀ a:Bs,a.K=K->EvT a tif (some (.st (fa x))::some (.st (fb x))::V0 src e1) λb l=>b=p x/\l=some (.st (fa x))::some (.st (fb x))::V0 src e1/\(b=true->Ev a te (some (.st (fa x))::some (.st (fb x))::V0 src e1) λy g=>y=f x/\g=some (.st (fa x))::some (.st (fb x))::V0 src e1))
  (w:R ((xs.filter p).map f) e1):LcV K (none::none::src) (gTup B 2 (V7 (N2 0) (V7 (N2 1) gNil))) tif te (xs.map λx=>.tuple [fa x,fb x]) e1 R:=by
 have c:noIo (V0 (none::none::src) e1)=true:=by
  show((none::none::V0 src e1).all λs=>!isIo s)=true;rw[List.all_cons,List.all_cons];exact(E5 _ _).mpr ⟨rfl,(E5 _ _).mpr ⟨rfl,j⟩⟩
 refine⟨λi ys e=>ys=((xs.take i).filter p).map f/\∃ o o',e=stO o::stO o'::V0 src e1,⟨by simp,none,none,rfl⟩,?_,?_,?_⟩
 ·rintro i ys e ⟨_,o,o',rfl⟩;exact⟨⟨isIo_stO.symm,R8⟩,⟨isIo_stO.symm,R8⟩,u9 iA⟩
 ·rintro i d ys e hd ⟨rfl,o,o',rfl⟩ a C;rw[L1] at hd;cases hx:xs[i]? with
  |none=>rw[hx] at hd;cases hd
  | some x =>
   rw[hx] at hd;cases hd;have hi:i<xs.length:=(N1.mp hx).1;have q:xs.take (i+1)=xs.take i++[x]:=by rw[S6,hx];rfl
   refine uF rfl (bD (P3 (bD (P3 (DF ?_)))));show EvT a tif (some (.st (fa x))::some (.st (fb x))::V0 src e1) _;intro σ G H F Q I k;refine h x (i3 hx) a C σ G H F Q I λb G' H' F' l m g' ⟨hb,u,z⟩=>k b G' H' F' l m g' ?_;subst u;by_cases hp:b=true
   ·rw[q0 hp];intro σ G H F Q I k;refine z hp σ G H F Q I λv G' H' F' d' g m g' A ⟨r,n⟩=>k v G' H' F' d' g m g' A ?_;subst r n;refine⟨?_,?_,some _,some _,rfl⟩
    ·have:=X7 p (xs.take i);simp only[R0];have D:(xs.take i).length<=i:=by simp;lia
     lia
    ·rw[q,List.filter_append,N4];have:p x=true:=by rw[← hb];exact hp
     simp[this]
   ·rw[o0 hp];refine⟨?_,some _,some _,rfl⟩;rw[q,List.filter_append,N4];have:p x=false:=by rw[← hb];simpa using hp
    simp[this]
 ·rintro ys e ⟨rfl,o,o',rfl⟩;rw[uC c];simpa using w
end
section
variable{R:Sl->Prop}
theorem TR{g:Int->Int->Int}{i j:Int}(h:R (.st (.int (g i j)))):Op2 (rI0 λi j=>.int (g i j)) (.int i) (.int j) R:=λG H c d Q gh a b k=>by
 cases a;cases b;exact⟨i,j,rfl,rfl,k _ _ _ _ _ (Out.refl gh (.int _)) h⟩
theorem QS{g:Int->Int->Bool}{i j:Int}(h:R (.st (.bool (g i j)))):Op2 (rI0 λi j=>.bl (g i j)) (.int i) (.int j) R:=λG H c d Q gh a b k=>by
 cases a;cases b;exact⟨i,j,rfl,rfl,k _ _ _ _ _ (Out.refl gh (.bl _)) h⟩
theorem WQ{C:Int->Int->Prop}{g:Int->Int->Int}{i j:Int}(b:C i j)(h:R (.st (.int (g i j)))):Op2 (rI C λi j=>.int (g i j)) (.int i) (.int j) R:=λG H d f Q gh a c k=>by
 cases a;cases c;exact⟨i,j,rfl,rfl,b,k _ _ _ _ _ (Out.refl gh (.int _)) h⟩
theorem mK{g:Int->Int}{i:Int}(h:R (.st (.int (g i)))):Op1 (rU λi=>.int (g i)) (.int i) R:=λG H b Q gh a k=>by
 cases a;exact⟨i,rfl,k _ _ _ _ _ (Out.refl gh (.int _)) h⟩
theorem SK(h:R (.st (.bool (decide (i=j))))):Op2 rEq (.int i) (.int j) R:=λG H c d Q gh a b k=>by
 cases a;cases b;exact tH (k _ _ _ _ _ (Out.refl gh (.bl _)) h)
theorem AQ(h:R (.st (.bool (!decide (i=j))))):Op2 rNe (.int i) (.int j) R:=λG H c d Q gh a b k=>by
 cases a;cases b;exact uK (k _ _ _ _ _ (Out.refl gh (.bl _)) h)
theorem kL(i j:Str):decide (V.str i=V.str j)=decide (i=j):=by
 by_cases h:i=j
 ·subst h;simp
 ·simp[h]
theorem xL(h:R (.st (.bool (decide (i=j))))):Op2 rEq (.str i) (.str j) R:=λG H c d Q gh a b k=>by
 cases a;cases b;refine⟨rfl,?_⟩;rw[kL];exact k _ _ _ _ _ (Out.refl gh (.bl _)) h
theorem p9(a:E1 x=true)(b:E1 y=true)(hd:x.depth<=60)(h:R (.st (.bool (PyData.eqv x y)))):Op2 rEqD x y R:=λG H f g Q gh c d k =>
 ⟨x,y,(c.rep a).same gh,(d.rep b).same gh,a,b,hd,k _ _ _ _ _ (Out.refl gh (.bl _)) h⟩
theorem S5(a:E1 x=true)(b:E1 y=true)(hd:x.depth<=60)(h:R (.st (.bool (!PyData.eqv x y)))):Op2 rNeD x y R:=λG H f g Q gh c d k =>
 ⟨x,y,(c.rep a).same gh,(d.rep b).same gh,a,b,hd,k _ _ _ _ _ (Out.refl gh (.bl _)) h⟩
theorem EG(b:E1 x=true)(c:plainDs es=true)(hd:x.depth<=60)(h:R (.st (.bool (if a then !es.any (λz=>PyData.eqv z x) else es.any (λz=>PyData.eqv z x))))):Op2 (rInD a) x (.list es) R:=λG H g i Q gh d f k =>
 ⟨x,es,(d.rep b).same gh,.inl ((f.rep (by simpa[E1] using c)).same gh),b,c,hd,k _ _ _ _ _ (Out.refl gh (.bl _)) h⟩
theorem uL(b:E1 x=true)(c:plainDs es=true)(hd:x.depth<=60)(h:R (.st (.bool (if a then !es.any (λz=>PyData.eqv z x) else es.any (λz=>PyData.eqv z x))))):Op2 (rInD a) x (.tuple es) R:=λG H g i Q gh d f k =>
 ⟨x,es,(d.rep b).same gh,.inr ((f.rep (by simpa[E1] using c)).same gh),b,c,hd,k _ _ _ _ _ (Out.refl gh (.bl _)) h⟩
theorem Rps.at(r:Rps G vs ds)(h:M1 ds i=some d):∃ v,M1 vs i=some v/\Rp G v d:=by
 unfold M1 at h ⊢;rw[r.length];cases e:ixN ds.length i with
 |none=>rw[e] at h;cases h
 | some j =>
  rw[e] at h;exact r.get h
theorem TJ(hd:M1 ds i=some d)(h:R (.st d)):Op2 (A4 K) (.list ds) (.int i) R:=λG H g j Q gh b f k=>by
 cases f;cases b with
 | lst ha rs =>
  obtain⟨v,a,c⟩:=rs.at hd;exact FC (gh _ _ ha) a (k _ _ _ _ _ (Out.refl gh c) h)
theorem DO(hd:M1 ds i=some d)(h:R (.st d)):Op2 (A4 K) (.tuple ds) (.int i) R:=λG H g j Q gh b f k=>by
 cases f;cases b with
 | tup ha rs =>
  obtain⟨v,a,c⟩:=rs.at hd;exact fF (gh _ _ ha) a (k _ _ _ _ _ (Out.refl gh c) h)
def isNone:PyData->Bool
 | .none=>true
 |_=>false
theorem FP(r:Rp G v x):decide (v=.non)=isNone x:=by cases r <;> rfl
theorem wQ(h:R (.st (.bool (isNone x)))):Op2 rIsN x .none R:=λG H c d Q gh a b k=>by
 cases b;refine⟨rfl,?_⟩;rw[FP a];exact k _ _ _ _ _ (Out.refl gh (.bl _)) h
theorem YG(b:xs.length+ys.length<=1000000)(h:R (.own (OL (xs++ys)))):Op2 rCat (.list xs) (.list ys) R:=λG H f g Q gh c d k=>by
 cases c with
 | lst ha ra =>
  cases d with
  | lst hb rb =>
   refine cL (gh _ _ ha) (gh _ _ hb) ?_ λp a=>k _ _ _ _ _ (Out.newL gh a (ra.append rb)) h;rw[ra.length,rb.length];exact D5 (big b)
theorem lT(d : -(2 ^ 63)<=n)(c:n<2 ^ 63)(b:xs.length * n.toNat<=1000000)(h:R (.own (OL (List.replicate n.toNat xs).flatten))):Op2 rRep (.list xs) (.int n) R:=λG H i j Q gh g f k=>by
 cases f;cases g with
 | lst ha ra =>
  refine⟨_,n,_,rfl,rfl,gh _ _ ha,d,c,?_,λp a=>k _ _ _ _ _ (Out.newL gh a (ra.rep _)) h⟩;rw[ra.length];exact D5 (big b)
theorem FK(h:R (.st (.int xs.length))):OpA (rLen K) [.list xs] R:=λG H vs Q gh rs k=>by
 cases rs with
 | cons r t =>
  cases t;cases r with
  | lst ha ra =>
   refine wI (gh _ _ ha) ?_;rw[ra.length];exact k _ _ _ _ _ (Out.refl gh (.int _)) h
theorem bT(h:R (.st (.int xs.length))):OpA (rLen K) [.tuple xs] R:=λG H vs Q gh rs k=>by
 cases rs with
 | cons r t =>
  cases t;cases r with
  | tup ha ra =>
   refine uM (gh _ _ ha) ?_;rw[ra.length];exact k _ _ _ _ _ (Out.refl gh (.int _)) h
theorem gT(h:R (.st (.int (if j > i then j else i)))):OpA XA [.int i,.int j] R:=λG H vs Q gh rs k=>by
 obtain rfl:vs=[V.int i,V.int j]:=Rps.ints_inv (ns:=[i,j]) rs;exact DG (k _ _ _ _ _ (Out.refl gh (.int _)) h)
theorem XP(h:R (.st (.int (if j<i then j else i)))):OpA xB [.int i,.int j] R:=λG H vs Q gh rs k=>by
 obtain rfl:vs=[V.int i,V.int j]:=Rps.ints_inv (ns:=[i,j]) rs;exact BJ (k _ _ _ _ _ (Out.refl gh (.int _)) h)
theorem GU(h:R (.st (.int (if b then 1 else 0)))):OpA PB [.bool b] R:=λG H vs Q gh rs k=>by
 cases rs with
 | cons r t =>
  cases t;cases r;exact YH (k _ _ _ _ _ (Out.refl gh (.int _)) h)
theorem N8(a:ns ≠ [])(h:∀ m,R6 ns m->R (.st (.int m))):OpA (i9 K) [.list (ns.map .int)] R:=λG H vs Q gh rs k=>by
 cases rs with
 | cons r t =>
  cases t;cases r with
  | lst ha ra =>
   have:=Rps.ints_inv ra;subst this;exact⟨_,ns,rfl,.inl (SqL.of (gh _ _ ha)),a,λm hm=>k _ _ _ _ _ (Out.refl gh (.int _)) (h m hm)⟩
theorem bP(a:ns ≠ [])(h:∀ m,OC ns m->R (.st (.int m))):OpA (TC K) [.list (ns.map .int)] R:=λG H vs Q gh rs k=>by
 cases rs with
 | cons r t =>
  cases t;cases r with
  | lst ha ra =>
   have:=Rps.ints_inv ra;subst this;exact⟨_,ns,rfl,.inl (SqL.of (gh _ _ ha)),a,λm hm=>k _ _ _ _ _ (Out.refl gh (.int _)) (h m hm)⟩
end
section
variable{B:Bs}{env:En}{QO:Sl->En->Prop}{Q':PyData->En->Prop}{te tl th:TE}{K:Frag}
def cutD(xs:List PyData)(lo hi:Option Int):List PyData:=(xs.drop (HT.sIx xs.length 0 lo)).take (HT.sIx xs.length xs.length hi-HT.sIx xs.length 0 lo)
def EvOp(B:Bs)(t:TO)(env:En)(Q':Option Int->En->Prop):Prop:=∀(σ:St)(G H:Hp)(F:Nat->Addr->Prop)(Q:Option Int->Hp->Prop),VI B G H σ env F->(∀ o G' H' F' env',VI B G' H' σ env' F'->Same G G'->Q' o env'->Q o H')->t σ H Q
theorem wP(q:a none env):EvOp B xJ env a:=λσ G H F Q I k=>k none G H F env I (Same.refl _) q
theorem qP(h:Ev B te env λd e=>∃ i,d=.int i/\a (some i) e):EvOp B (HG te) env a:=λσ G H F Q I k =>
 h σ G H F _ I λv j b o d m n f g c=>by
  obtain⟨i,l,q⟩:=c;subst l;cases g;exact⟨i,rfl,k _ j b o m n f q⟩
theorem VR{i:Int}{R:Int->Prop}(h:R i):∃ j,PyData.int i=.int j/\R j:=⟨i,rfl,h⟩
end
def y9:PyData->Bool
 | .none | .bool _ | .int _ | .str _=>true
 |_=>false
theorem CG(r:Rp G v d)(h:y9 d=true):Rp G' v d:=by
 cases r with
 |non=>exact .non
 |bl b=>exact .bl b
 |int i=>exact .int i
 |str x=>exact .str x
 |_=>simp[y9] at h
def Has(env:En)(i:Nat)(A:Own):Prop:=env[i]?=some (some (.own A))\/env[i]?=some (some (.io A))
section
variable{B:Bs}{env:En}{QO:Sl->En->Prop}{Q':PyData->En->Prop}{QT:Bool->En->Prop}{QE:En->Prop}{te ta tb tk:TE}{K:Frag}{i:Nat}
theorem VI.has(I:VI B G H σ env F)(h:Has env i A):∃ v,σ[i]?=some (some v)/\A.P G H v (F i):=by
 rcases h with h|h
 ·obtain⟨v,a,q⟩:=I.sl i _ h;exact⟨v,a,q.1⟩
 ·obtain⟨v,a,q⟩:=I.sl i _ h;exact⟨v,a,q.1⟩
theorem VI.moment(I:VI B G H σ env F)(g:Same G b)(o:Out b H v c H3 s Fv):∃ f,Same G f/\VI B f H3 σ env F:=by
 refine⟨λa=>if H a=none then c a else G a,λa u e=>?_,I.grow (λa u e=>?_) (λa u e=>?_) o.hh (λa u e=>?_) λa ks e=>?_⟩
 ·show(if H a=none then c a else G a)=some u;rw[o0 (by rw[I.gh a u e];simp)];exact e
 ·rw[o0 (by rw[I.gh a u e];simp)];exact e
 ·by_cases h:H a=none
  ·rw[q0 h] at e;exact o.gh a u e
  ·rw[o0 h] at e;exact o.hh _ _ (I.gh a u e)
 ·by_cases h:H a=none
  ·exact .inr h
  ·rw[o0 h] at e;exact .inl e
 ·have f1:FT b H:=λa ks e=>g _ _ (I.ft a ks e);by_cases h:H a=none
  ·rw[q0 h];exact o.ft f1 a ks e
  ·rw[o0 h];obtain⟨u,d⟩:=aF h;have:=o.hh _ _ d;rw[e] at this;exact I.ft a ks (by rw[d,← this])
theorem sL(j:Has env i A)(l:Frz A dx)(h:OpA r [dx] λs=>∃ d,s=.st d/\y9 d=true/\Q' d env):Ev B (tCB r (Y1 (tVar i) tNil)) env Q':=λσ G H F Q I k=>by
 obtain⟨v,f,ap⟩:=I.has j;refine⟨v,f,h (jn G H (F i)) H [v] Q (wA I.gh) (.cons (l _ _ _ _ ap (I.fg i) I.gh) .nil) λw m H3 s Fv o ⟨d,es,hs,c⟩=>?_⟩;subst es;obtain⟨b,a,g⟩:=I.moment (V4 (I.fg i)) o;exact k w b H3 F d env g a (CG o.ok.1 hs) c
theorem x_sc{d:PyData}{R:PyData->Prop}(a:y9 d=true)(h:R d):∃ d',Sl.st d=.st d'/\y9 d'=true/\R d':=⟨d,rfl,a,h⟩
theorem gK(x:Has env i (OL f))(h:Ev B tb env λy e2=>∃ ds k d,Has e2 i (OL ds)/\y=.int k/\M1 ds k=some d/\Q' d e2):Ev B (tOp (A4 K) (tVar i) tb) env Q':=λσ G H F Q I k=>by
 obtain⟨v,l,_⟩:=I.has x;refine⟨v,l,h σ G H F _ I λu p H2 F2 y e2 m r o ⟨ds,j,d,s,n,g,q⟩=>?_⟩;subst n;cases o;obtain⟨C,b,a,vs,A,ha,rs,_⟩:=m.has s;rw[l] at b;cases b;subst A;obtain⟨w,z,c⟩:=rs.at g;exact FC ha z (k w p H2 F2 d e2 m r c q)
theorem VI.upd1(I:VI B G H σ env F)(e:env[i]?=some (some s))(hs:s=.own A\/s=.io A)(d : σ[i]?=some (some (.ref a)))(hf:∀ b,F i b ↔ b=a)(f:A'.P G (upd H a o) (.ref a) (· = a))(g:∀ xs,o ≠ .tup xs:=by intro _ z;cases z) :
  VI B G (upd H a o) σ (env.set i (some (reS s A'))) (putF F i (· = a)):=by
 refine I.change (A:=A') i e d (λb u hb c=>by rw[J0 (λz=>hb ((hf b).mpr z))];exact c) (λb u c=>?_) (λb z=>⟨.inl ((hf b).mpr z),by rw[z];exact⟨_,W0⟩⟩) f (λb ks e=>?_) ?_
 ·by_cases z:b=a
  ·rw[z];exact⟨_,W0⟩
  ·rw[J0 z];exact⟨u,c⟩
 ·by_cases z:b=a
  ·subst z;rw[W0] at e;exact absurd (u3 e) (g _)
  ·rw[J0 z] at e;exact I.ft b ks e
 ·rcases hs with rfl|rfl
  ·exact .inl ⟨rfl,A,rfl⟩
  ·exact .inr ⟨rfl,A,rfl⟩
theorem UJ(x:Has env i (OL l))(h:Ev B te env λy e2=>∃ s ds,e2[i]?=some (some s)/\(s=.own (OL ds)\/s=.io (OL ds))/\ds.length<=999999/\Q' .none (e2.set i (some (reS s (OL (ds++[y])))))):Ev B (tBM K "list" W9 (tVar i) (Y1 te tNil)) env Q':=λσ G H F Q I k=>by
 obtain⟨v,g,a,vs,z,ha,rs,_⟩:=I.has x;subst z;refine⟨_,g,.inl ⟨rfl,_,SqL.of ha⟩,h σ G H F _ I λu o H2 F2 y e2 m p n ⟨s,ds,es,hs,D,q⟩=>?_⟩;have w:Has e2 i (OL ds):=by rcases hs with rfl|rfl;exact .inl es;exact .inr es
 obtain⟨C,d,A,r,f,j,c,hf⟩:=m.has w;rw[g] at d;cases d;cases f;refine nD j (by rw[c.length];exact big (by lia)) ?_;exact k _ o _ _ _ _ (m.upd1 (A':=OL (ds++[y])) es hs g hf ⟨a,_,rfl,W0,c.append (.cons n .nil),λb=>Iff.rfl⟩) p .non q
theorem WP(c:Has env i (OL a))(h:Ev B te env λy e2=>∃ ds,e2[i]?=some (some (.own (OL ds)))/\ds.length<=999999/\Q' .none (e2.set i (some (.own (OL (ds++[y])))))):Ev B (tBM K "list" W9 (tVar i) (Y1 te tNil)) env Q' :=
 UJ c λσ G H F Q I k=>h σ G H F Q I λv G' H' F' d e j g r ⟨ds,f,b,q⟩=>k v G' H' F' d e j g r ⟨_,ds,f,.inl rfl,b,q⟩
theorem CK(x:Has env i (OL m))(h:Ev B te env λy e2=>∃ ds ys,y=.list ys/\e2[i]?=some (some (.own (OL ds)))/\ds.length+ys.length<=1000000/\Q' .none (e2.set i (some (.own (OL (ds++ys)))))):Ev B (tBM K "list" iD (tVar i) (Y1 te tNil)) env Q':=λσ G H F Q I k=>by
 obtain⟨v,g,a,vs,z,ha,rs,_⟩:=I.has x;subst z;refine⟨_,g,.inl ⟨rfl,_,SqL.of ha⟩,h σ G H F _ I λu p H2 F2 y e2 l r o ⟨ds,ys,n,es,w,q⟩=>?_⟩;subst n;cases o with
 | lst hb rb =>
  obtain⟨C,d,A,s,f,j,c,hf⟩:=l.has (.inl es);rw[g] at d;cases d;cases f;refine gP j (l.gh _ _ hb) (by rw[c.length,rb.length];exact D5 (big w)) ?_;exact k _ p _ _ _ _ (l.upd1 (A':=OL (ds++ys)) es (.inl rfl) g hf ⟨a,_,rfl,W0,c.append rb,λb=>Iff.rfl⟩) r .non q
theorem SR(L:Has env i (OL p))(h:Ev B te env λy e2=>∃ s ds j n d,y=.int j/\e2[i]?=some (some s)/\(s=.own (OL ds)\/s=.io (OL ds))/\-(2 ^ 63)<=j/\j<2 ^ 63/\seqIndex? j ds.length=some n/\ds[n]?=some d/\Q' d (e2.set i (some (reS s (OL (ds.eraseIdx n)))))):Ev B (tBM K "list" bC (tVar i) (Y1 te tNil)) env Q':=λσ G H F Q I k=>by
 obtain⟨v,l,a,vs,N,ha,rs,_⟩:=I.has L;subst N;refine⟨_,l,.inl ⟨rfl,_,SqL.of ha⟩,h σ G H F _ I λu A H2 F2 y e2 r D z ⟨s,ds,j,n,d,x,es,hs,b1,C,hn,hd,q⟩=>?_⟩;subst x;cases z;have J:Has e2 i (OL ds):=by rcases hs with rfl|rfl;exact .inl es;exact .inr es
 obtain⟨P,f,O,E,g,m,c,hf⟩:=r.has J;rw[l] at f;cases f;cases g;obtain⟨w,M,o⟩:=c.get hd;refine ZT m b1 C (by rw[c.length];exact hn) M ?_;exact k _ A _ _ _ _ (r.upd1 (A':=OL (ds.eraseIdx n)) es hs l hf ⟨a,_,rfl,W0,c.erase n,λb=>Iff.rfl⟩) D o q
theorem GN(K:Has env i (OL o))(h:Ev B tk env λy e2=>∃ s ds k j,y=.int k/\e2[i]?=some (some s)/\(s=.own (OL ds)\/s=.io (OL ds))/\ixN ds.length k=some j/\QE (e2.set i (some (reS s (OL (ds.set j d)))))):EvG B (gSub (tVar i) tk NE) (.st d) env QE:=λσ G H F v Fv Q I x k=>by
 obtain⟨w,_⟩:=x.ok;obtain⟨N,l,a,vs,L,ha,rs,_⟩:=I.has K;subst L;refine⟨_,l,h σ G H F _ I λu D H2 F2 y e2 r p C ⟨s,ds,n,j,z,es,hs,A,q⟩=>?_⟩;subst z;cases C;have J:Has e2 i (OL ds):=by rcases hs with rfl|rfl;exact .inl es;exact .inr es
 obtain⟨O,f,M,E,g,m,c,hf⟩:=r.has J;rw[l] at f;cases f;cases g;refine cF m (by rw[c.length];exact A) ?_;exact k _ D _ _ _ (r.upd1 (A':=OL (ds.set j d)) es hs l hf ⟨a,_,rfl,W0,c.set (w.same p) j,λb=>Iff.rfl⟩) p q
theorem ED(i:Nat)(e:env[i]?=some (some (.own A)))(f:Frz A d)(h:EvS B t D' (env.set i (some (.st d)))):EvS B t D' env:=λσ G H F D I r=>by
 obtain⟨v,b,a,g,J⟩:=I.frz e f;exact h σ _ H _ D J (r.later g)
end
def tyD:PyData->String
 | .none=>"NoneType" | .bool _=>"bool" | .int _=>"int" | .str _=>"str" | .list _=>"list" | .tuple _=>"tuple" | .dict _=>"dict"
def O8(T:String):Prop:=T = "int"\/T = "bool"\/T = "tuple"\/T = "list"\/T = "str"\/T = "dict"
def isiD(T:String)(d:PyData):Bool:=tyD d == T || (T == "int" && tyD d == "bool")
theorem pK(r:Rp H v d):TyOf K H v (.type (tyD d)):=by
 cases r with
 |non=>exact .non
 |bl b=>exact .bl b
 |int i=>exact .int i
 |str x=>exact .str x
 |lst h _=>exact .lst h
 |tup h _=>exact .tup h
 |dk h _ _=>exact .dK h
 |dt h _ _=>exact .dT h
theorem OQ(h:O8 T)(d:PyData):kitOne K (.type (tyD d)) (.type T)=some (isiD T d):=by
 rcases h with rfl|rfl|rfl|rfl|rfl|rfl
 ·cases d with
  |none=>exact iK
  |bool _=>exact iS
  |int _=>exact aR
  |str _=>exact tU
  |list _=>exact UQ
  |tuple _=>exact yU
  |dict _=>exact vU
 ·cases d with
  |none=>exact DR
  |bool _=>exact GR
  |int _=>exact IU
  |str _=>exact eQ
  |list _=>exact aK
  |tuple _=>exact fM
  |dict _=>exact GM
 ·cases d with
  |none=>exact rR
  |bool _=>exact GL
  |int _=>exact mP
  |str _=>exact LM
  |list _=>exact MJ
  |tuple _=>exact wO
  |dict _=>exact dO
 ·cases d with
  |none=>exact PK
  |bool _=>exact fQ
  |int _=>exact IQ
  |str _=>exact eS
  |list _=>exact jN
  |tuple _=>exact EK
  |dict _=>exact EQ
 ·cases d with
  |none=>exact xS
  |bool _=>exact lO
  |int _=>exact JK
  |str _=>exact QR
  |list _=>exact ER
  |tuple _=>exact VT
  |dict _=>exact jM
 ·cases d with
  |none=>exact CT
  |bool _=>exact CU
  |int _=>exact pP
  |str _=>exact NL
  |list _=>exact IT
  |tuple _=>exact JR
  |dict _=>exact oU
section
variable{B:Bs}{env:En}{QO:Sl->En->Prop}{Q':PyData->En->Prop}{QT:Bool->En->Prop}{QE:En->Prop}{te ta tb tk:TE}{K:Frag}{i:Nat}
theorem sN(j:O8 T)(h:Ev B te env λd e=>Q' (.bool (isiD T d)) e):Ev B (tCB (rIsi K) (Y1 te (Y1 (tC (.ty T)) tNil))) env Q':=λσ G H F Q I k =>
 h σ G H F _ I λv g c m d i a f l b=>⟨v,T,_,_,rfl,pK (l.same a.gh),OQ j d,k _ g c m _ i a f (.bl _) b⟩
theorem wL:O8 "int":=.inl rfl
theorem xM:O8 "bool":=.inr (.inl rfl)
theorem pU:O8 "tuple":=.inr (.inr (.inl rfl))
theorem NQ:O8 "list":=.inr (.inr (.inr (.inl rfl)))
theorem bL:O8 "str":=.inr (.inr (.inr (.inr (.inl rfl))))
theorem HJ(e:env[i]?=some (some (.own A)))(q:D'.rt (.own A) (env.set i none)):EvS B (tRet (tVar i)) D' env:=XD (vM e q)
theorem BT{n m:Nat}{P:Prop}(h:n<=m)(q:P):n<=m/\P:=⟨h,q⟩
theorem lS{ds:List PyData}{e2:En}{R:List PyData->Prop}(e:e2[i]?=some (some (.own (OL ds))))(a:ds.length<=999999)(q:R ds):∃ ds,e2[i]?=some (some (.own (OL ds)))/\ds.length<=999999/\R ds:=⟨ds,e,a,q⟩
theorem tN{ds:List PyData}{d:PyData}{k:Int}{e2:En}{R:PyData->Prop}(b:Has e2 i (OL ds))(h:M1 ds k=some d)(q:R d):∃ ds a d,Has e2 i (OL ds)/\PyData.int k=.int a/\M1 ds a=some d/\R d:=⟨ds,k,d,b,rfl,h,q⟩
theorem EE{ds:List PyData}{k:Int}{j:Nat}{e2:En}{R:Sl->List PyData->Nat->Prop}(e:e2[i]?=some (some (.own (OL ds))))(b:ixN ds.length k=some j)(q:R (.own (OL ds)) ds j):∃ s ds a j,PyData.int k=.int a/\e2[i]?=some (some s)/\(s=.own (OL ds)\/s=.io (OL ds))/\ixN ds.length a=some j/\R s ds j:=⟨_,ds,k,j,rfl,e,.inl rfl,b,q⟩
theorem MQ{ds:List PyData}{k:Int}{j:Nat}{e2:En}{R:Sl->List PyData->Nat->Prop}(e:e2[i]?=some (some (.io (OL ds))))(b:ixN ds.length k=some j)(q:R (.io (OL ds)) ds j):∃ s ds a j,PyData.int k=.int a/\e2[i]?=some (some s)/\(s=.own (OL ds)\/s=.io (OL ds))/\ixN ds.length a=some j/\R s ds j:=⟨_,ds,k,j,rfl,e,.inr rfl,b,q⟩
theorem YN{A:Own}{dx:PyData}{e2:En}{P:PyData->Prop}(a:Has e2 i A)(b:Frz A dx)(q:P dx):∃ A dx,Has e2 i A/\Frz A dx/\P dx:=⟨A,dx,a,b,q⟩
theorem x_rt{A:Own}{e2:En}{R:Own->Prop}(e:e2[0]?=some (some (.io A)))(q:R A):∃ A',e2[0]?=some (some (.io A'))/\R A':=⟨A,e,q⟩
theorem x_st{b:Bool}{R:Bool->Prop}(h:R b):∃ c,Sl.st (.bool b)=.st (.bool c)/\R c:=⟨b,rfl,h⟩
theorem DU{b:Bool}{R:Bool->Prop}(h:R b):∃ k,TruD (.bool b) k/\R k:=⟨b,rfl,h⟩
theorem AS{ds:List PyData}{R:Bool->Prop}(h:R (!ds.isEmpty)):∃ k,TruD (.list ds) k/\R k:=⟨_,rfl,h⟩
theorem lenP(h:spP K f vs H Q E)(hf:∀ ss Q',f ss Q'->ss.length=n):vs.length=n:=by
 obtain⟨G,ss,Q',_,_,a,q,_⟩:=h;rw[a.length];exact hf ss Q' q
theorem lenI(h:spI K f vs H Q E)(hf:∀ A ss Q',f A ss Q'->ss.length+1=n):vs.length=n:=by
 obtain⟨v0,b,G,R,A,ss,F0,Q',rfl,_,_,_,_,_,_,a,q,_⟩:=h;rw[L3,a.length];exact hf A ss Q' q
theorem AH(b:env[i]?=some (some (.io A)))(h:EvA B t env λds a=>a[i]?=some (some (.io A))/\f A (ds.map Sl.st) λA' s=>QO s (a.set i (some (.io A')))):EvO B (M3 (spI K f) [] E (Y1 (tVar i) t)) env QO :=
 rD ⟨_,b⟩ λσ G H F Q I k=>h σ G H F Q I λvs G' H' F' ds a d g r ⟨c,q⟩=>k vs G' H' F' ds a d g r ⟨_,A,c,.inr rfl,q⟩
theorem rF(b:env[i]?=some (some (.own A)))(h:EvA B t env λds a=>a[i]?=some (some (.own A))/\f A (ds.map Sl.st) λA' s=>QO s (a.set i (some (.own A')))):EvO B (M3 (spI K f) [] E (Y1 (tVar i) t)) env QO :=
 rD ⟨_,b⟩ λσ G H F Q I k=>h σ G H F Q I λvs G' H' F' ds a d g r ⟨c,q⟩=>k vs G' H' F' ds a d g r ⟨_,A,c,.inl rfl,q⟩
theorem nU(b:env[i]?=some (some (.io A)))(h:EvA B t env λds a=>a[i]?=some (some (.io A))/\f A (ds.map Sl.st) λA' s=>FQ s λd=>Q' d (a.set i (some (.io A')))):Ev B (M3 (spI K f) [] E (Y1 (tVar i) t)) env Q':=U3 (AH b h)
theorem UM(b:env[i]?=some (some (.own A)))(h:EvA B t env λds a=>a[i]?=some (some (.own A))/\f A (ds.map Sl.st) λA' s=>FQ s λd=>Q' d (a.set i (some (.own A')))):Ev B (M3 (spI K f) [] E (Y1 (tVar i) t)) env Q':=U3 (rF b h)
theorem iQ(h:P)(q:Q):P/\Q:=⟨h,q⟩
theorem iN(nd:(src.filterMap id).Nodup)(h:EvI B j env λds i=>LcV B.K src g f te ds i λys e2=>Q' (.list ys) e2):Ev B (tLC src j g f te) env Q':=U3 (IG nd λσ G H F R I k=>h σ G H F R I λJ G' H' F' ds i l g' it ⟨m,a,b,c,d⟩=>k J G' H' F' ds i l g' it ⟨m,a,b,c,λys e q=>p5 (d ys e q)⟩)
end
end VL
namespace VL
open PySem L2
theorem ZN(h:QE (x0::some s::r)):EvG B (N2 1) s (x0::x1::r) QE:=P3 h
theorem NS(h:QE (x0::x1::some s::r)):EvG B (N2 2) s (x0::x1::x2::r) QE:=P3 h
theorem KQ(h:QE (x0::x1::x2::some s::r)):EvG B (N2 3) s (x0::x1::x2::x3::r) QE:=P3 h
theorem PM(h:QE (x0::x1::x2::x3::some s::r)):EvG B (N2 4) s (x0::x1::x2::x3::x4::r) QE:=P3 h
theorem EL(h:QE (x0::x1::x2::x3::x4::some s::r)):EvG B (N2 5) s (x0::x1::x2::x3::x4::x5::r) QE:=P3 h
theorem eO(h:QE (x0::x1::x2::x3::x4::x5::some s::r)):EvG B (N2 6) s (x0::x1::x2::x3::x4::x5::x6::r) QE:=P3 h
theorem iO(h:QE (x0::x1::x2::x3::x4::x5::x6::some s::r)):EvG B (N2 7) s (x0::x1::x2::x3::x4::x5::x6::x7::r) QE:=P3 h
theorem bM(h:QE (x0::x1::x2::x3::x4::x5::x6::x7::some s::r)):EvG B (N2 8) s (x0::x1::x2::x3::x4::x5::x6::x7::x8::r) QE:=P3 h
theorem JL(h:QE (x0::x1::x2::x3::x4::x5::x6::x7::x8::some s::r)):EvG B (N2 9) s (x0::x1::x2::x3::x4::x5::x6::x7::x8::x9::r) QE:=P3 h
theorem EM(h:QE (x0::x1::x2::x3::x4::x5::x6::x7::x8::x9::some s::r)):EvG B (N2 10) s (x0::x1::x2::x3::x4::x5::x6::x7::x8::x9::x10::r) QE:=P3 h
end VL
namespace Gr
structure Ring(T:Int->Int->Prop)(a:Int)(k:Nat)(far:Int->Option Nat)(edge:List Int):Prop where
 lab:∀ v d,far v=some d ↔ (Dist T a v d/\d<=k)
 edg:∀ v,v∈edge ↔ Dist T a v k
structure Mid(T:Int->Int->Prop)(k:Nat)(far0:Int->Option Nat)(edge:List Int)(done:Int->Prop)(far:Int->Option Nat)(beyond:List Int):Prop where
 old:∀ v d,far0 v=some d->far v=some d
 new:∀ v,v∈beyond ↔ (far0 v=none/\far v ≠ none)
 val:∀ v d,far0 v=none->far v=some d->d=k+1/\∃ u,u∈edge/\T u v
 dn:∀ u w,done u->T u w->far w ≠ none
def label(far:Int->Option Nat)(w:Int)(d:Nat):Int->Option Nat:=λv=>if v=w then some d else far v
theorem label_same:label far w d w=some d:=q0 rfl
theorem label_ne(h:v ≠ w):label far w d v=far v:=o0 h
theorem Ring.start:Ring T a 0 (label (λ_=>none) a 0) [a]:=by
 refine⟨λv d=>?_,λv=>?_⟩
 ·by_cases h:v=a
  ·subst h;rw[label_same];constructor
   ·intro e;cases e;exact⟨Dist.self T v,M0 _⟩
   ·rintro⟨h,_⟩;rw[h.uniq (Dist.self T v)]
  ·rw[label_ne h];constructor
   ·intro e;cases e
   ·rintro⟨b,c⟩;have:d=0:=by lia
    subst this;cases b.1;exact absurd rfl h
 ·simp only[O2];constructor
  ·rintro rfl;exact Dist.self T v
  ·intro h;cases h.1;rfl
theorem Mid.start:Mid T k far0 edge (λ_=>False) far0 [] :=
 ⟨λv d h=>h,λv=>⟨λh=>by simp at h,λh=>absurd h.1 h.2⟩,λv d h g=>(by rw[h] at g;cases g),λu w h=>h.elim⟩
theorem Mid.add(m:Mid T k far0 edge done far beyond)(c:u∈edge)(t:T u w)(b:far w=none):Mid T k far0 edge done (label far w (k+1)) (beyond++[w]):=by
 have a:far0 w=none:=by
  cases e:far0 w with
  |none=>rfl
  |some d=>rw[m.old w d e] at b;cases b
 refine⟨λv d h=>?_,λv=>?_,λv d h g=>?_,λx y i f=>?_⟩
 ·rw[label_ne (by rintro rfl;rw[a] at h;cases h)];exact m.old v d h
 ·by_cases hv:v=w
  ·subst hv;simp[label_same,a]
  ·rw[label_ne hv];simp only[Q1,O2,hv,or_false];exact m.new v
 ·by_cases hv:v=w
  ·subst hv;rw[label_same] at g;cases g;exact⟨rfl,u,c,t⟩
  ·rw[label_ne hv] at g;exact m.val v d h g
 ·by_cases hv:y=w
  ·subst hv;rw[label_same];simp
  ·rw[label_ne hv];exact m.dn x y i f
theorem Mid.did(m:Mid T k far0 edge done far beyond)(h:∀ w,T u w->far w ≠ none):Mid T k far0 edge (λx=>done x\/x=u) far beyond :=
 ⟨m.old,m.new,m.val,λx w a t=>by rcases a with a|rfl;exact m.dn x w a t;exact h w t⟩
theorem Mid.imp{a:Int->Prop}(m:Mid T k far0 edge done far beyond)(h:∀ u,a u->done u):Mid T k far0 edge a far beyond :=
 ⟨m.old,m.new,m.val,λx w b t=>m.dn x w (h x b) t⟩
theorem Ring.next(r:Ring T a k far0 edge)(m:Mid T k far0 edge done far beyond)(hd:∀ u∈edge,done u):Ring T a (k+1) far beyond:=by
 have g:∀ v,far0 v=none->far v ≠ none->Dist T a v (k+1):=λv f b=>by
  cases e:far v with
  |none=>exact absurd e b
  | some d =>
   obtain⟨rfl,u,j,t⟩:=m.val v d f e;obtain⟨l,p,h⟩:=((r.edg u).mp j).next t;by_cases i:l<=k
   ·rw[(r.lab v l).mpr ⟨h,i⟩] at f;cases f
   ·have:l=k+1:=by lia
    rw[← this];exact h
 have c:∀ v,Dist T a v (k+1)->far0 v=none/\far v ≠ none:=λv h=>by
  refine⟨?_,?_⟩
  ·cases e:far0 v with
   |none=>rfl
   | some d =>
    obtain⟨b,n⟩:=(r.lab v d).mp e;have:=b.uniq h;lia
  ·obtain⟨u,t,j⟩:=h.pred;exact m.dn u v (hd u ((r.edg u).mpr j)) t
 refine⟨λv d=>?_,λv=>⟨λh=>?_,λh=>(m.new v).mpr (c v h)⟩⟩
 ·constructor
  ·intro e;cases e0:far0 v with
   | some d0 =>
    rw[m.old v d0 e0] at e;cases e;obtain⟨b,n⟩:=(r.lab v d).mp e0;exact⟨b,by lia⟩
   | none =>
    have i:=(m.val v d e0 e).1;subst i;exact⟨g v e0 (by rw[e];simp),M0 _⟩
  ·rintro⟨h,i⟩;by_cases hd':d<=k
   ·exact m.old v d ((r.lab v d).mpr ⟨h,hd'⟩)
   ·have o:d=k+1:=by lia
    subst o;obtain⟨f,b⟩:=c v h;cases e:far v with
    |none=>exact absurd e b
    |some d=>rw[(m.val v d f e).1]
 ·obtain⟨f,b⟩:=(m.new v).mp h;exact g v f b
theorem Dist.down:∀{d:Nat},Dist T a v d->∀ j,j<=d->∃ u,Dist T a u j
 |0,h,j,hj=>⟨v,by rw[show j=0 by lia];exact h⟩
 | d+1,h,j,hj=>by
  by_cases e:j=d+1
  ·rw[e];exact⟨v,h⟩
  ·obtain⟨u,_,b⟩:=h.pred;exact Dist.down b j (by lia)
def farO(T:Int->Int->Prop)(a v:Int):Option Nat:=open Classical in if h:∃ d,Dist T a v d then some (Classical.choose h) else none
theorem farO_some:farO T a v=some d ↔ Dist T a v d:=by
 unfold farO;constructor
 ·intro h;split at h
  ·rename_i b
   cases h;exact Classical.choose_spec b
  ·cases h
 ·intro h;have b:∃ d,Dist T a v d:=⟨d,h⟩
  rw[dif_pos b,(Classical.choose_spec b).uniq h]
theorem farO_none:farO T a v=none ↔ ∀ d,¬ Dist T a v d:=by
 constructor
 ·intro h d hd;rw[farO_some.mpr hd] at h;cases h
 ·intro h;cases e:farO T a v with
  |none=>rfl
  |some d=>exact absurd (farO_some.mp e) (h d)
theorem bI(h:∀ d,o=some d ↔ Dist T a v d):o=farO T a v:=by
 cases o with
 |some d=>exact(farO_some.mpr ((h d).mp rfl)).symm
 |none=>exact(farO_none.mpr λd hd=>by cases (h d).mpr hd).symm
theorem Ring.fin(r:Ring T a k far0 [])(v:Int):far0 v=farO T a v:=by
 refine bI λd=>?_;rw[r.lab];refine⟨λh=>h.1,λh=>⟨h,?_⟩⟩;apply AC;intro c;obtain⟨u,b⟩:=h.down k (by lia);have:=(r.edg u).mpr b;simp at this
theorem Walk.app(h:Walk T u i v)(g:Walk T v j w):Walk T u (i+j) w:=by
 induction g with
 |refl=>exact h
 |step _ t ih=>exact .step ih t
theorem Walk.rev(hs:∀ u v,T u v->T v u)(h:Walk T u i v):Walk T v i u:=by
 induction h with
 |refl=>exact .refl
 | @step j x y _ t ih =>
  have:=(Walk.step (T:=T) (u:=y) .refl (hs _ _ t)).app ih;rw[Nat.add_comm] at this;exact this
theorem Dist.rev(hs:∀ u v,T u v->T v u)(h:Dist T u v d):Dist T v u d:=⟨h.1.rev hs,λk w=>h.2 k (w.rev hs)⟩
theorem farO_comm(hs:∀ u v,T u v->T v u)(u v:Int):farO T u v=farO T v u:=bI λd=>by
 rw[farO_some];exact⟨λh=>h.rev hs,λh=>h.rev hs⟩
theorem farO_self:farO T a a=some 0:=farO_some.mpr (Dist.self T a)
theorem Dist.lt{n:Nat}(y:∀ u v,T u v->0<=v/\v<(n:Int))(ha:0<=a/\a<(n:Int)){v:Int}{d:Nat}(h:Dist T a v d):d<n:=by
 -- the places of a shortest way are unlike
 have m:∀ d v,Dist T a v d->∃ l:List Int,l.length=d+1/\l.Nodup/\∀ x∈l,(0<=x/\x<(n:Int))/\∃ j,j<=d/\Dist T a x j:=by
  intro d
  induction d with
  | zero =>
   intro v h;have:v=a:=by cases h.1;rfl
   subst this;exact⟨[v],rfl,by simp,λx b=>by simp at b;subst b;exact⟨ha,0,M0 _,h⟩⟩
  | succ d ih =>
   intro v h;obtain⟨u,t,p⟩:=h.pred;obtain⟨l,i,c,f⟩:=ih u p;refine⟨v::l,by simp[i],O5.mpr ⟨λhm=>?_,c⟩,λx b=>?_⟩
   ·obtain⟨_,j,s,hd⟩:=f v hm;have:=hd.uniq h;lia
   ·rcases D1.mp b with rfl|b
    ·exact⟨y _ _ t,d+1,M0 _,h⟩
    ·obtain⟨q,j,s,hd⟩:=f x b;exact⟨q,j,by lia,hd⟩
 obtain⟨l,i,c,f⟩:=m d v h;have g:∀(n:Nat)(l:List Int),l.Nodup->(∀ v∈l,0<=v/\v<(n:Int))->l.length<=n:=by
  intro n
  induction n with
  | zero =>
   intro l _ h;cases l with
   |nil=>simp
   |cons v r=>have:=h v (by simp);lia
  | succ n ih =>
   intro l hn h;have i:=ih (l.erase (n:Int)) (hn.erase _) λv o=>by
    have hm:=List.mem_of_mem_erase o;have hb:=h v hm;have w:v ≠ (n:Int):=by
     rintro rfl;exact absurd o (List.Nodup.not_mem_erase hn)
    lia
   have c:l.length<=(l.erase (n:Int)).length+1:=by
    rw[List.length_erase];split <;> lia
   lia
 have:=g n l c λx b=>(f x b).1;lia
end Gr
namespace VL
open PySem PySem.Spec L2
theorem nodup_ix{α:Type}{xs:List α}(h:xs.Nodup){i j:Nat}(hi:i<xs.length)(a:j<xs.length)(e:xs[i]=xs[j]):i=j:=by
 have p:=t7.mp h;rcases Nat.lt_trichotomy i j with q|q|q
 ·exact absurd e (p i j hi a q)
 ·exact q
 ·exact absurd e.symm (p j i a hi q)
def OLL(dss:List (List PyData)):Own where
 P:=λG H v F=>∃(a:Addr)(as:List Addr),v=.ref a/\H a=some (.lst (as.map V.ref))/\as.Nodup/\a ∉ as/\as.length=dss.length/\(∀(i:Nat) b ds,as[i]?=some b->dss[i]?=some ds->∃ vs,H b=some (.lst vs)/\Rps G vs ds)/\∀ b,F b ↔ b=a\/b∈as
 mono:=λ⟨a,as,e,h,n1,n2,l,r,f⟩ g hh=>⟨a,as,e,hh a _ ((f a).mpr (.inl rfl)) h,n1,n2,l,λi b ds hb hd=>by
  obtain⟨vs,h1,h2⟩:=r i b ds hb hd;exact⟨vs,hh b _ ((f b).mpr (.inr (i3 hb))) h1,h2.same g⟩,f⟩
 dom:=λ⟨a,as,e,h,n1,n2,l,r,f⟩ b z=>by
  rcases(f b).mp z with rfl|z
  ·exact⟨_,h⟩
  ·obtain⟨i,hi,e⟩:=r8.mp z;have hb:as[i]?=some b:=by rw[Y0 hi,e]
   obtain⟨vs,h1,_⟩:=r i b _ hb (Y0 (by rw[← l];exact hi));exact⟨_,h1⟩
theorem LD:∀{vs:List V}{ds:List PyData},vs.length=ds.length->(∀(i:Nat) v d,vs[i]?=some v->ds[i]?=some d->Rp G v d)->Rps G vs ds
 |[],[],_,_=>.nil
 |[],_::_,h,_=>by simp at h
 |_::_,[],h,_=>by simp at h
 |v::vs,d::ds,h,k=>.cons (k 0 v d rfl rfl) (LD (by simpa using h) λi v d b a=>k (i+1) v d (by simpa using b) (by simpa using a))
theorem dC:Frz (OLL c) (.list (c.map .list)):=λG H v F ⟨a,as,e,h,q,p,l,r,f⟩ n g=>by
 subst e;refine .lst (by rw[u6 ((f a).mpr (.inl rfl))];exact h) (LD (by simp[l]) λi u d j hd=>?_);rw[L1] at j hd;cases hb:as[i]? with
 |none=>rw[hb] at j;cases j
 | some b =>
  cases hds:c[i]? with
  |none=>rw[hds] at hd;cases hd
  | some ds =>
   rw[hb] at j;rw[hds] at hd;cases j;cases hd;obtain⟨vs,o,m⟩:=r i b ds hb hds;exact .lst (by rw[u6 ((f b).mpr (.inr (i3 hb)))];exact o) (m.same (V4 n))
theorem WT(h:R (.list (a.map .list))):FQ (.own (OLL a)) R:=⟨_,dC,h⟩
theorem zP(h:EvI B wi env λds O=>ds.length<=1000000/\QO (.own (OLL (List.replicate ds.length []))) O):EvO B (tLC src wi (N2 j) tYes (tLst tNil)) env QO:=λσ G H F Q I k=>by
 refine h σ G H F _ I λJ X M F1 ds O s g1 it ⟨a1,q⟩ c d=>?_;let W:Nat->List V->Hp->Prop:=λn ys H=>∃(as:List Addr)(g:Hp),ys=as.map V.ref/\as.length=n/\as.Nodup/\c ∉ as/\(∀ b∈as,M b=none/\g b=none/\H b=some (.lst []))/\H c=some (.lst ys)/\g c=none/\Same X g/\Same g H/\Same M H/\(∀ a o,g a=some o->X a=some o\/M a=none)/\FT g H;refine⟨λn m ys σI H=>m=ds.length-n/\n<=ds.length/\W n ys H,⟨ds.length,by simp,O3 _,[],X,rfl,rfl,List.nodup_nil,by simp,λb hb=>by simp at hb,W0,s.no_g d,Same.refl _,s.gh.trans (M5 d),M5 d,λa o e=>.inl e,λa ks e=>?_⟩,?_⟩
 ·by_cases z:a=c
  ·subst z;rw[W0] at e;cases e
  ·rw[J0 z] at e;exact s.ft a ks e
 rintro n m ys σI H2 ⟨rfl,hn,as,g,rfl,R,nd,na,all,f,P,A,r,l,E,v⟩;refine⟨f,?_⟩;by_cases hlt:n<ds.length
 ·refine .inr ⟨it.go n g H2 A r hlt,λK U H'=>W (n+1) K H',λK U H' hw=>⟨ds.length-(n+1),by lia,rfl,hlt,hw⟩,λx H3 y=>?_⟩;obtain⟨L,o⟩:=it.yld n g H2 x H3 _ A r v (Y0 hlt) y;refine IC (SD (P5 (fN (VA ⟨by decide,λp C=>?_⟩))));have n2:H2 p=none:=E6 o.hh C;have n1:M p=none:=E6 l n2;have Y:p ≠ c:=(U2 (o.hh _ _ f) C).symm;have D:p ∉ as:=λz=>by
   have:=o.hh _ _ (all p z).2.2;rw[this] at C;cases C
  refine⟨by rw[J0 Y.symm];exact o.hh _ _ f,by rw[R0,R];exact big (by lia),as++[p],L,by simp,by simp[R],?_,?_,λb hb=>?_,W0,?_,A.trans o.gg,λa u e=>?_,λa u e=>?_,λa u e=>?_,λa ks e=>?_⟩
  ·rw[B7];exact⟨nd,by simp,λx hx y Z=>by simp at Z;subst Z;intro e;subst e;exact D hx⟩
  ·intro z;rcases Q1.mp z with z|z
   ·exact na z
   ·exact Y (O2.mp z).symm
  ·have gb:∀ b,g b=none->(∃ u,H2 b=some u)->L b=none:=λb S z_=>by
    obtain⟨u,N⟩:=z_;cases e:L b with
    |none=>rfl
    | some w =>
     rcases o.gn b w e with e|e
     ·rw[S] at e;cases e
     ·rw[N] at e;cases e
   rcases Q1.mp hb with hb|hb
   ·obtain⟨S,N,h3⟩:=all b hb;refine⟨S,gb b N ⟨_,h3⟩,?_⟩;rw[J0 (λz:b=c=>na (by rw[← z];exact hb)),J0 (λz:b=p=>D (by rw[← z];exact hb))];exact o.hh _ _ h3
   ·have e:b=p:=by simpa using hb
    subst e;exact⟨n1,E6 o.gh C,by rw[J0 Y,W0]⟩
  ·cases e:L c with
   |none=>rfl
   | some w =>
    rcases o.gn c w e with e|e
    ·rw[P] at e;cases e
    ·rw[f] at e;cases e
  ·have ap:a ≠ p:=U2 (o.gh a u e) C;have T:a ≠ c:=by
    rintro rfl;rcases o.gn _ u e with e|e
    ·rw[P] at e;cases e
    ·rw[f] at e;cases e
   rw[J0 T,J0 ap];exact o.gh a u e
  ·have ap:a ≠ p:=U2 e n1;have T:a ≠ c:=U2 e d;rw[J0 T,J0 ap];exact o.hh _ _ (l a u e)
  ·rcases o.gn a u e with e|e
   ·exact E a u e
   ·exact .inr (E6 l e)
  ·by_cases z:a=c
   ·subst z;rw[W0] at e;cases e
   ·rw[J0 z] at e;by_cases y:a=p
    ·subst y;rw[W0] at e;cases e
    ·rw[J0 y] at e;exact o.ft v a ks e
 ·have e:n=ds.length:=by lia
  subst e;refine .inl ⟨it.stop _ g H2 A r rfl,?_⟩;have I2:=s.grow A r l E v;refine k (.ref c) g H2 F1 (λb=>b=c\/b∈as) (.own (OLL (List.replicate ds.length []))) O I2 (g1.trans A) ⟨⟨c,as,rfl,f,nd,na,by simp[R],λi b a0 hb hd=>?_,λb=>Iff.rfl⟩,λb z=>?_,λb z=>?_,λb z=>?_,λj b z y=>?_⟩ q
  ·rw[r9] at hd;split at hd
   ·cases hd;exact⟨[],(all b (i3 hb)).2.2,.nil⟩
   ·cases hd
  ·rcases z with rfl|z
   ·exact s.no_b d
   ·exact s.no_b (all b z).1
  ·rcases z with rfl|z
   ·exact P
   ·exact(all b z).2.1
  ·rcases z with rfl|z
   ·exact⟨_,f⟩
   ·exact⟨_,(all b z).2.2⟩
  ·rcases z with rfl|z
   ·exact s.no_f d j y
   ·exact s.no_f (all b z).1 j y
theorem PF(e:env[i]?=some (some (.own (OLL d))))(W:env[l]?=some (some (.st (.int k))))(R:env[j]?=some (some (.st y)))
  (hk:ixN d.length k=some n) (hd:d[n]?=some ds) (hl:ds.length<=999999) (q:Q' .none (env.set i (some (.own (OLL (d.set n (ds++[y]))))))):Ev B (tBM K "list" W9 (tOp (A4 K) (tVar i) (tVar l)) (Y1 (tVar j) tNil)) env Q':=λσ G H F Q I kk=>by
 obtain⟨v,M,⟨a,as,rfl,h,O,L,ln,r,f⟩,_⟩:=I.sl i _ e;obtain⟨vk,w,P,_⟩:=I.sl l _ W;obtain⟨Y,D,S,_⟩:=I.sl j _ R;cases P;have hn:n<d.length:=(N1.mp hd).1;have hb:as[n]?=some (as[n]'(by lia)):=Y0 _;generalize as[n]'(by lia)=b at hb;have s:b∈as:=i3 hb;obtain⟨vs,N,E⟩:=r n b ds hb hd;have C:M1 (as.map V.ref) k=some (.ref b):=by
  unfold M1;rw[R0,ln,hk];simp[hb]
 refine⟨_,M,_,w,FC h C ⟨.inl ⟨rfl,_,SqL.of N⟩,_,D,nD N (by rw[E.length];exact big (by lia)) ?_⟩⟩;have x:a ≠ b:=λz=>L (z ▸ s)
 have J:=I.change (A:=OLL (d.set n (ds++[y]))) (H2:=upd H b (.lst (vs++[Y]))) (F2:=F i) (os':=.own (OLL (d.set n (ds++[y])))) i e M (λc o p u=>by rw[J0 (λz:c=b=>p ((f c).mpr (.inr (by rw[z];exact s))))];exact u)
  (λc o u=>by
   by_cases z:c=b
   ·rw[z];exact⟨_,W0⟩
   ·rw[J0 z];exact⟨o,u⟩)
  (λc z=>⟨.inl z,by
   by_cases y:c=b
   ·rw[y];exact⟨_,W0⟩
   ·rw[J0 y];exact I.fo i c z⟩) ?_ (λc ks e=>by
   by_cases z:c=b
   ·subst z;rw[W0] at e;cases e
   ·rw[J0 z] at e;exact I.ft c ks e) (.inl ⟨rfl,_,rfl⟩)
 ·exact kk _ G _ _ _ _ J (Same.refl _) .non q
 ·refine⟨a,as,rfl,by rw[J0 x];exact h,O,L,by simp[ln],λm c es p g=>?_,f⟩;by_cases hm:m=n
  ·subst hm;rw[hb] at p;cases p;rw[y4,q0 rfl,q0 hn] at g;cases g;exact⟨_,W0,E.append (.cons S .nil)⟩
  ·rw[y4,o0 (λz=>hm z.symm)] at g;obtain⟨us,X,h4⟩:=r m c es p g;refine⟨us,?_,h4⟩;rw[J0]
   ·exact X
   ·rintro rfl;have i1:=(N1.mp hb)
    have U:=(N1.mp p)
    obtain⟨Z,e1⟩:=i1;obtain⟨T,e2⟩:=U;exact hm (nodup_ix O T Z (e2.trans e1.symm))
def exO{α:Type}(f : α->Own):Own where
 P:=λG H v F=>∃ x,(f x).P G H v F
 mono:=λ⟨x,h⟩ g hh=>⟨x,(f x).mono h g hh⟩
 dom:=λ⟨x,h⟩=>(f x).dom h
theorem VI.weakO(I:VI B G H σ env F)(e:env[i]?=some (some (.own A)))(h:∀ G H v F,A.P G H v F->A'.P G H v F):VI B G H σ (env.set i (some (.own A'))) F:=by
 refine⟨I.gh,I.g0,I.gn,I.rs,I.rb,I.bh,I.fg,I.fr,I.fd,I.fo,λj s es=>?_,by simp[I.ln],I.ft⟩;by_cases hj:j=i
 ·subst hj;rw[y4,q0 rfl,q0 (N1.mp e).1] at es;cases es;obtain⟨v,a,q⟩:=I.sl j _ e;exact⟨v,a,h _ _ _ _ q.1,q.2⟩
 ·rw[y4,o0 (λz=>hj z.symm)] at es;exact I.sl j s es
@[reducible] def prD (p:Int × Int):PyData:=.tuple [.int p.1,.int p.2]
@[reducible] def webD (n:Int) (es:List (Int × Int)):PyData:=.tuple [.int n,.list (es.map prD)]
def Tied(es:List (Int × Int))(u v:Int):Prop:=(u,v)∈es\/(v,u)∈es
theorem Tied.symm(h:Tied es u v):Tied es v u:=h.elim .inr .inl
def InN(n:Int)(es:List (Int × Int)):Prop:=∀ p∈es,0<=p.1/\p.1<n/\0<=p.2/\p.2<n
theorem Tied.in(hi:InN n es)(h:Tied es u v):(0<=u/\u<n)/\0<=v/\v<n:=by
 rcases h with h|h
 ·have:=hi _ h;exact⟨⟨this.1,this.2.1⟩,this.2.2⟩
 ·have:=hi _ h;exact⟨⟨this.2.2.1,this.2.2.2⟩,this.1,this.2.1⟩
theorem Tied.snoc{es:List (Int × Int)}{i:Nat}{a b:Int}(h:es[i]?=some (a,b))(u v:Int):Tied (es.take (i+1)) u v ↔ (Tied (es.take i) u v\/(u=a/\v=b))\/(u=b/\v=a):=by
 have e:es.take (i+1)=es.take i++[(a,b)]:=by rw[S6,h];rfl
 unfold Tied;rw[e];simp only[Q1,O2,Prod.mk.injEq];constructor
 ·rintro((h|⟨rfl,rfl⟩)|(h|⟨rfl,rfl⟩))
  ·exact .inl (.inl (.inl h))
  ·exact .inl (.inr ⟨rfl,rfl⟩)
  ·exact .inl (.inl (.inr h))
  ·exact .inr ⟨rfl,rfl⟩
 ·rintro(((h|h)|⟨rfl,rfl⟩)|⟨rfl,rfl⟩)
  ·exact .inl (.inl h)
  ·exact .inr (.inl h)
  ·exact .inl (.inr ⟨rfl,rfl⟩)
  ·exact .inr (.inr ⟨rfl,rfl⟩)
def TiedL(n:Int)(T:Int->Int->Prop)(tl:List (List Int)):Prop:=(tl.length:Int)=n/\∀(i:Nat) ws,tl[i]?=some ws->∀ w,w∈ws ↔ T i w
def oD:Option Nat->PyData
 |none=>.none
 |some d=>.int d
def lab(n:Nat)(far:Int->Option Nat):List PyData:=(List.range n).map λ(i:Nat)=>oD (far (i:Int))
theorem B9:(lab n far).length=n:=by simp[lab]
theorem N9(h:i<n):(lab n far)[i]?=some (oD (far i)):=by
 unfold lab;rw[L1,Y0 (by simpa using h)];simp
theorem dE{n:Nat}{far:Int->Option Nat}{v:Int}(a:0<=v)(h:v<n):M1 (lab n far) v=some (oD (far v)):=by
 have:=E9 (xs:=lab n far) (j:=v.toNat) (N9 (by lia))
 rwa [show((v.toNat:Nat):Int)=v by lia] at this
theorem sC{n:Nat}{v:Int}(a:0<=v)(h:v<n):ixN n v=some v.toNat:=by
 unfold ixN;rw[q0 a,q0 h]
theorem NG{n:Nat}{far:Int->Option Nat}{v:Int}{d:Nat}(a:0<=v)(h:v<n):(lab n far).set v.toNat (.int d)=lab n (Gr.label far v d):=by
 apply D6;intro i;rw[y4];by_cases e:v.toNat=i
 ·rw[q0 e,q0 (by rw[B9];lia),N9 (by lia)];have:(i:Int)=v:=by lia
  rw[this,Gr.label_same];rfl
 ·rw[o0 e];by_cases hi:i<n
  ·rw[N9 hi,N9 hi,Gr.label_ne (by lia)]
  ·rw[P6.mpr (by rw[B9];lia),P6.mpr (by rw[B9];lia)]
theorem ZL{n:Nat}{f g:Int->Option Nat}(h:∀ v,0<=v->v<(n:Int)->f v=g v):lab n f=lab n g:=by
 unfold lab;apply j7;intro i hi;rw[h i (by lia) (by have:=U1.mp hi;lia)]
theorem BQ:isNone (oD o)=o.isNone:=by cases o <;> rfl
theorem K8{α:Type}{f : α->PyData}{xs:List α}{i:Int}{x : α}(h:M1 xs i=some x):M1 (xs.map f) i=some (f x):=by
 unfold M1 at h ⊢;rw[R0];cases e:ixN xs.length i with
 |none=>rw[e] at h;cases h
 |some j=>rw[e] at h;simp at h ⊢;exact⟨_,h,rfl⟩
theorem t6(a:0<=i)(h:xs[i.toNat]?=some x):M1 xs i=some x:=by
 have:=E9 (xs:=xs) (j:=i.toNat) h
 rwa [show((i.toNat:Nat):Int)=i by lia] at this
@[reducible] def tlD (tl:List (List Int)):List (List PyData):=tl.map λws=>ws.map .int
theorem TiedL.get(h:TiedL n T tl)(b:0<=v)(c:v<n):∃ ws,tl[v.toNat]?=some ws/\∀ w,w∈ws ↔ T v w:=by
 have a:v.toNat<tl.length:=by have:=h.1;lia
 refine⟨tl[v.toNat],Y0 a,λw=>?_⟩;rw[h.2 _ _ (Y0 a) w,show((v.toNat:Nat):Int)=v by lia]
theorem DC{tl:List (List Int)}{i:Nat}{ws:List Int}(h:tl[i]?=some ws):(tlD tl)[i]?=some (ws.map .int):=by
 rw[L1,h];rfl
theorem TiedL.put(h:TiedL n T tl)(g:0<=v)(j:v<n)(c:tl[v.toNat]?=some ws):TiedL n (λa b=>T a b\/(a=v/\b=q)) (tl.set v.toNat (ws++[q])):=by
 refine⟨by rw[List.length_set];exact h.1,λi us hi w=>?_⟩;rw[y4] at hi;by_cases e:v.toNat=i
 ·rw[q0 e] at hi;have f:v.toNat<tl.length:=(N1.mp c).1;rw[q0 (by lia)] at hi;cases hi;have d:(i:Int)=v:=by lia
  rw[Q1,O2,h.2 i ws (by rw[← e];exact c) w,d];simp
 ·rw[o0 e] at hi;rw[h.2 i us hi w];exact⟨.inl,λz=>z.elim id λz=>by lia⟩
theorem wF:(tlD tl).set i (ws.map .int)=tlD (tl.set i ws):=by
 unfold tlD;rw[List.map_set]
theorem TiedL.iff(h:TiedL n T tl)(e:∀ u v,T u v ↔ a u v):TiedL n a tl:=⟨h.1,λi ws hi w=>(h.2 i ws hi w).trans (e _ _)⟩
end VL
namespace VL
open PySem L2
def cnt(far:Int->Option Nat):Nat->Nat
 |0=>0
 |n+1=>cnt far n+(if far (n:Int)=none then 1 else 0)
theorem gJ:∀{n:Nat},(w:Int) ≥ n->cnt (Gr.label far w d) n=cnt far n
 |0,_=>rfl
 | n+1,h=>by
  unfold cnt;rw[gJ (by lia),Gr.label_ne (by lia)]
theorem IH(b:0<=w)(a:far w=none):∀{n:Nat},w<(n:Int)->cnt (Gr.label far w d) n+1=cnt far n
 |0,h=>by lia
 | n+1,h=>by
  unfold cnt;by_cases e:w=n
  ·subst e;rw[gJ (by lia),Gr.label_same,a];simp
  ·rw[Gr.label_ne (by lia)];have:=IH b a (n:=n) (d:=d) (by lia);lia
theorem dN(n:Nat):(List.replicate n [PyData.none]).flatten=lab n (λ_=>none):=by
 apply D6;intro i;by_cases hi:i<n
 ·rw[N9 hi];have:(List.replicate n [PyData.none]).flatten=List.replicate n PyData.none:=by
   clear hi
   induction n with
   |zero=>rfl
   |succ n ih=>rw[o7,List.flatten_cons,ih,o7];rfl
  rw[this,r9,q0 hi];rfl
 ·rw[P6.mpr (by rw[FI];simp;lia),P6.mpr (by rw[B9];lia)]
theorem aL{α:Type}{f : α->PyData}{xs:List α}:(xs.map f).isEmpty=xs.isEmpty:=by cases xs <;> rfl
theorem QD{xs:List Int}{j:Nat}{u w:Int}(a:xs[j]?=some u)(hm:w∈xs.take (j+1)):w∈xs.take j\/w=u:=by
 rw[S6,a] at hm;rcases Q1.mp hm with q|q
 ·exact .inl q
 ·exact .inr (by simpa using q)
theorem zK:plainDs (lab n far)=true:=by
 rw[zC];intro d hd;obtain⟨i,_,rfl⟩:=X0.mp hd;cases far (i:Int) <;> rfl
theorem QP:((lab n far).any λz=>PyData.eqv z .none)=true ↔ ∃ v:Int,0<=v/\v<n/\far v=none:=by
 rw[o9];constructor
 ·rintro⟨d,hd,e⟩;obtain⟨i,hi,rfl⟩:=X0.mp hd;refine⟨i,by lia,by have:=U1.mp hi;lia,?_⟩;cases h:far (i:Int) with
  |none=>rfl
  |some d=>rw[h] at e;simp[oD,PyData.eqv] at e
 ·rintro⟨v,b,a,h⟩;refine⟨oD (far v),?_,by rw[h];rfl⟩;have:=N9 (far:=far) (show v.toNat<n by lia);rw[show((v.toNat:Nat):Int)=v by lia] at this;exact i3 this
def Joined(n:Int)(es:List (Int × Int)):Prop:=∀ v,0<=v->v<n->∃ d,Gr.Dist (Tied es) 0 v d
end VL
namespace DI
open PySem PySem.W
def Raw(h:Heap)(d:Addr)(es:Array DictEntry)(ep:Nat):Prop:=∃ o,h.get? d=some o/\o.ExactDict/\o.data=.dict es ep
theorem Raw.keep(r:Raw h d es ep)(k:∀ o,h.get? d=some o->h'.get? d=some o):Raw h' d es ep:=let ⟨o,e,x⟩:=r;⟨o,k o e,x⟩
theorem Raw.ty{s:Shared}{d:Addr}{es:Array DictEntry}{ep:Nat}(r:Raw s.heap d es ep):s.TypeIs (.ref d) "dict":=let ⟨o,e,x,_⟩:=r;⟨o,e,x.1⟩
theorem AL(hd:(d == sysModules)=false)(r:Raw s.heap d es ep)
  (c:Q (.ref s.heap.objs.size) { s with heap:=s.heap.push { cls:=.type "dict_keyiterator",data:=.fields #[.ref d,.int 0 0,.int es.size 0,.int ep 0] } }):wpAny (model prog w) A (pyIter (.ref d)) Q E s:=by
 obtain⟨o,b,f,a⟩:=id r;refine wpAny_pyIter_slot r.ty PySem.F.slot_dict_iter (DA PySem.F.slot_dict_iter r.ty PySem.F.entry_dict_iter ?body (PySem.F.args_dict_iter_1 _))
 case body =>
  unfold Builtin.«dict.__iter__»;refine C0 ?slot
  case slot =>
   unfold Builtin.Dict.dictSlotNone;refine C0 (wpAny_notOrdered_dict r.ty ?pl)
   case pl =>
    show wpAny _ _ (pure (Value.ref d)) _ _ s;refine N0 ?rest
    case rest =>
     show wpAny _ _ (Builtin.Dict.showsAll d >>= _) _ _ s;unfold Builtin.Dict.showsAll;rw[o0 (by rw[hd];exact X1)];refine C0 (N0 (C0 (wpAny_dictEntries b a (C0 (wpAny_dictEpoch b a (C0 (O7 (N0 ⟨_,rfl,"dict_keyiterator",_,⟨_,D2 _ rfl,rfl⟩,PySem.F.slot_dict_keyiterator_next.lookup,?fin⟩))))))))
     case fin=>simpa[rawInt] using c
theorem ZR (a:s.heap.IsKeyIter it d i es.size ep) (r:Raw s.heap d es ep) (hi:i<es.size)
  (v:∀ h',h'.IsKeyIter it d (i+1) es.size ep->Heap.SameBut it s.heap h'->Q (some es[i].key) { s with heap:=h' }):wpAny (model prog w) A (pyNext (.ref it)) Q E s:=by
 obtain⟨o,q,x,hd⟩:=id a;obtain⟨od,n,u,p⟩:=r;unfold pyNext;refine C0 (wpAny_attempt (wpAny_callSpecial?_slot (name:=Str.ofString "__next__") a.typeIs PySem.F.slot_dict_keyiterator_next (DA PySem.F.slot_dict_keyiterator_next a.typeIs PySem.F.entry_dict_keyiterator_next ?b (PySem.F.args_dict_keyiterator_next_1 _))))
 case b =>
  refine C0 (N0 (C0 (C0 ?c)))
  case c =>
   first|refine C0 (wpAny_typeNameOfWhole_keyiter a.typeIs (N0 (C0 (wpAny_fieldsOf q hd ?e))))|refine C0 (wpAny_typeNameOf_keyiter a.typeIs (N0 (C0 (wpAny_fieldsOf q hd ?e))))
   case e =>
    simp only[show Builtin.Dict_items.ownsTuple "dict_keyiterator" = false by decide,Bool.false_eq_true,if_false];show wpAny _ _ (if (Value.ref d == Value.none)=true then _ else _) _ _ s;rw[o0 (show ¬ ((Value.ref d == Value.none)=true) from X1)];refine C0 (N0 (C0 (wpAny_dictEntries n p ?f)))
    case f =>
     rw[o0 (by simp)];refine C0 (N0 (C0 (wpAny_dictEpoch n p ?g)))
     case g =>
      rw[o0 (by simp)];refine N0 ?h
      case h =>
       simp only[show ¬ ((i:Int)<0) by lia,if_false,Int.toNat_natCast,Y2 hi];refine C0 ?j
       case j =>
        first|refine C0 (wpAny_typeNameOfWhole_keyiter a.typeIs (N0 (C0 (wpAny_isOneOf_keyiter a.typeIs ?k))))|refine C0 (wpAny_typeNameOf_keyiter a.typeIs (N0 (C0 (wpAny_isOneOf_keyiter a.typeIs ?k))))
        case k =>
         show wpAny _ _ (setField (.ref it) 1 (rawInt ((i:Int)+1)) >>= _) _ _ s;refine C0 (wpAny_setField q hd (by simp) ?l)
         case l =>
          have nx:(s.heap.update it (Obj.mapFields (·.setIfInBounds 1 (rawInt ((i:Int)+1))))).IsKeyIter it d (i+1) es.size ep:=⟨_,Heap.get?_update_self _ q (Obj.isFreed_of_fields (Obj.data_mapFields hd _)),(Obj.cls_mapFields ..).trans x,by rw[Obj.data_mapFields hd];simp[rawInt]⟩
          refine C0 (w5 (C0 (wpAny_isOneOf_keyiter (s:={ s with heap:=s.heap.update it (Obj.mapFields (·.setIfInBounds 1 (rawInt ((i:Int)+1)))) }) nx.typeIs ?m)))
          case m=>show wpAny _ _ (pure es[i].key) _ _ _;exact N0 (N0 ⟨_,rfl,N0 (v _ nx (Heap.SameBut.update ..))⟩)
theorem MN  (hh:A.handled=none) (i:s.heap.IsKeyIter it d es.size es.size ep) (r:Raw s.heap d es ep) (x:∀ h',Heap.ExtBut it s.heap h'->Q none { s with heap:=h' }):wpAny (model prog w) A (pyNext (.ref it)) Q E s:=by
 obtain⟨o,u,y,hd⟩:=id i;obtain⟨od,n,v,p⟩:=r;unfold pyNext;refine C0 (wpAny_attempt (wpAny_callSpecial?_slot (name:=Str.ofString "__next__") i.typeIs PySem.F.slot_dict_keyiterator_next (DA PySem.F.slot_dict_keyiterator_next i.typeIs PySem.F.entry_dict_keyiterator_next ?b (PySem.F.args_dict_keyiterator_next_1 _))))
 case b =>
  refine C0 (N0 (C0 (C0 ?c)))
  case c =>
   first|refine C0 (wpAny_typeNameOfWhole_keyiter i.typeIs (N0 (C0 (wpAny_fieldsOf u hd ?e))))|refine C0 (wpAny_typeNameOf_keyiter i.typeIs (N0 (C0 (wpAny_fieldsOf u hd ?e))))
   case e =>
    simp only[show Builtin.Dict_items.ownsTuple "dict_keyiterator" = false by decide,Bool.false_eq_true,if_false];show wpAny _ _ (if (Value.ref d == Value.none)=true then _ else _) _ _ s;rw[o0 (show ¬ ((Value.ref d == Value.none)=true) from X1)];refine C0 (N0 (C0 (wpAny_dictEntries n p ?f)))
    case f =>
     rw[o0 (by simp)];refine C0 (N0 (C0 (wpAny_dictEpoch n p ?g)))
     case g =>
      rw[o0 (by simp)];refine N0 ?h
      case h =>
       simp only[show ¬ ((es.size:Int)<0) by lia,if_false,Int.toNat_natCast,Array.getElem?_eq_none (M0 es.size)];refine C0 ?j
       case j =>
        first|refine C0 (wpAny_typeNameOfWhole_keyiter i.typeIs (N0 ?k))|refine C0 (wpAny_typeNameOf_keyiter i.typeIs (N0 ?k))
        case k =>
         show wpAny _ _ (setField (.ref it) 0 .none >>= _) _ _ s;refine C0 (wpAny_setField u hd (by simp) ?l)
         case l =>
          show wpAny _ _ (newExc (.type "StopIteration") [] >>= _) _ _ _;refine C0 ?m
          case m =>
           simp only[newExc,newTuple];refine C0 (O7 ?zz2 (by size_fits))
           case zz2 =>
            refine C0 (m:=firstArgMember _ _) (wpAny_of_eq (a:=Value.none) (by first|rfl|(simp only[firstArgMember];rfl)) (O7 ?zz1 (by size_fits)))
            case zz1 =>
             simp only[raiseNew];refine C0 (wpAny_handled ?q)
             case q =>
              rw[show A.in1.handled=none from hh];refine C0 (N0 (wpAny_throw ?u1))
              case u1=>refine C0 (wpAny_isInstance (T:="StopIteration") (b:=true) ⟨_,D2 _ rfl,rfl⟩ isSubtype_stop ?u2);exact N0 (x _ (((Heap.SameBut.update ..).extBut.push _).push _))
theorem walks{prog:Program}{w:World}{A:Around}(hh:A.handled=none)(I d:Addr)(c:d ≠ I)(es:Array DictEntry)(ep:Nat) :
  Walks prog w A I [I,d] [I] es.size (λi v=>(es[i]?).map (·.key)=some v) (λi h=>h.IsKeyIter I d i es.size ep/\Raw h d es ep) where
 sub:=λb hb=>by simp at hb;simp[hb]
 frame:=λ_ _ _ st f=>⟨st.1.at λo e=>f I (by simp) o e,st.2.keep λo e=>f d (by simp) o e⟩
 item:=λi s Q E hi st a=>ZR st.1 st.2 hi λh' nx sb=>a _ h' s.toks (by rw[Y2 hi];rfl) ⟨nx,st.2.keep λo e=>sb.extBut d o c e⟩ λb o hb e=>sb.extBut b o (λz=>hb (by simp[z])) e
 done:=λs Q E st a=>MN hh st.1 st.2 λh' g=>a h' s.toks λb o hb e=>g b o (λz=>hb (by simp[z])) e
 self:=λ_ _ _ _ st a=>wpAny_pyIter_keyiter st.1 a
end DI
namespace DI
open PySem PySem.W PyProof.Rows
section
variable{prog:Program}{w:World}{A:Around}{E:Value->Shared->Prop}{s:Shared}
theorem src(d:Addr)(es:Array DictEntry)(ep:Nat)(hd:(d == sysModules)=false):KdlSrc prog w "dict" d d es.size (λi v=>(es[i]?).map (·.key)=some v) (λh=>Raw h d es ep) where
 type:=λs r=>r.ty
 there:=λh r=>let ⟨o,e,_⟩:=r;⟨L0 e,L0 e⟩
 keep:=λh h' r k=>r.keep λo e=>k d (.inl rfl) o e
 notList:=by decide
 notTuple:=by decide
 hint:=λA E s Q r q=>kdl_hint_dict r.ty q
 iter:=λA s hh r=>⟨{ cls:=.type "dict_keyiterator",data:=.fields #[.ref d,.int 0 0,.int es.size 0,.int ep 0] },λi h=>h.IsKeyIter s.heap.objs.size d i es.size ep/\Raw h d es ep,λE Q q=>AL hd r q,
  walks hh s.heap.objs.size d (by obtain⟨o,e,_⟩:=r;exact O1 (L0 e)) es ep,⟨_,D2 _ rfl,rfl,rfl⟩,r.keep λo e=>J1 _ e⟩
theorem collect_src(K:KdlSrc prog w T r d n P j)(hh:A.handled=none)(hok:j s.heap)(hn:n<=sizeLine)
  (p:∀ h' i (f:Array Value),(∀ b o,s.heap.get? b=some o->h'.get? b=some o)->s.heap.objs.size<=h'.objs.size->ItemsOf P f n->Q f.toList { s with heap:=h',toks:=i }):wpAny (model prog w) A (collect (.ref r)) Q E s:=by
 unfold collect;refine C0 (wpAny_runValue (nA PySem.F.entry_proto_collect ?a1))
 case a1 =>
  rw[pA PySem.F.plain_proto_collect _];show wpAny _ A.in1 (newList [] >>= λl=>again (.builtin "list.__iadd__" ⟨[l,.ref r],[]⟩)) _ _ s;refine C0 (O7 (N0 ⟨plainId_quiet PySem.F.plain_list_iadd _,nA PySem.F.entry_list_iadd ?a2⟩))
  case a2 =>
   rw[pA PySem.F.plain_list_iadd _];show wpAny _ A.in1 (Builtin.List.listExtendWith (.ref s.heap.objs.size) (.ref r) (.ref s.heap.objs.size)) _ _ _;have q:(s.heap.push { cls:=.type "list",data:=.seq ([]:List Value).toArray }).get? s.heap.objs.size=some { cls:=.type "list",data:=.seq #[] 0 }:=D2 _ rfl;obtain⟨t1,m⟩:=K.there _ hok;refine kdl_extend (R:=wants (λv s'=>wpAny (model prog w) A (match v with | .ref a=>(do match (← load a).data with | .seq xs _=>pure xs.toList|_=>unsupported "internal:collect")|_=>unsupported "internal:collect") Q E s') E) (s:={ s with heap:=s.heap.push { cls:=.type "list",data:=.seq ([]:List Value).toArray } }) K hh (K.keep _ _ hok λb _ o e=>J1 _ e) s.heap.objs.size (Nat.ne_of_gt t1) (Nat.ne_of_gt m) _ 0 q (λh' i f c k g h=>?a3) hn
   case a3 =>
    show wpAny (model prog w) A _ Q E _;refine C0 (wpAny_load g ?a4)
    case a4=>exact N0 (p h' i f (λb o e=>k b o (O1 (L0 e)) (J1 _ e)) (D5 (L0 g)) h)
end
end DI
namespace TS
open PySem PySem.W PyProof.Rows
theorem sorted_gen{l:Addr}{Ok:List Value->Prop}{Q:Value->Shared->Prop}
  (i:∀(D:List Value->Shared->Prop),(∀ vs j d,(∀ b o,s.heap.get? b=some o->j.get? b=some o)->s.heap.objs.size<=j.objs.size->Ok vs->D vs { s with heap:=j,toks:=d })->wpAny (model prog w) A.in1 (collect (.ref l)) D E s)
  (c:∀ vs,Ok vs->vs.length<=sizeLine)
  (z:∀ vs,Ok vs->2<=vs.length->∀ h' d,(∀ b o,s.heap.get? b=some o->h'.get? b=some o)->∃ κ S R,(∀(Q:SortKind->Shared->Prop),Q κ { s with heap:=h',toks:=d }->wpAny (model prog w) A.in1.in1 (keyKind' vs.toArray) Q E { s with heap:=h',toks:=d }) /\
   Cmp (model prog w) A.in1.in1 E { s with heap:=h',toks:=d } κ S R/\(∀ v∈vs,S (v,v))/\∀ out:List Value,out.Perm vs->out.Pairwise (λx y=>R (y,y) (x,x)=false) ->
    ∀ a h' d e,(∀ b o,s.heap.get? b=some o->h'.get? b=some o)->s.heap.objs.size<=a->h'.get? a=some (seqObj "list" out.toArray e)->Q (.ref a) { s with heap:=h',toks:=d })
  (j:∀ vs,Ok vs->vs.length<2->∀ a h' d e,(∀ b o,s.heap.get? b=some o->h'.get? b=some o)->s.heap.objs.size<=a->h'.get? a=some (seqObj "list" vs.toArray e)->Q (.ref a) { s with heap:=h',toks:=d }) :
  wpAny (model prog w) A (call (.builtin "sorted") [.ref l]) Q E s:=by
 refine Calls.call_function_entry kind_sorted plain_sorted entry_sorted (args_sorted1 _) ?_;unfold Builtin.«sorted»;refine C0 (m:=checkCount "sorted" 1 1 _) (N0 (C0 (i _ λvs g d kp hsz u=>?_)));have c:=c vs u;refine C0 (wpAny_newList ?_ c);have f:(g.push (seqObj "list" vs.toArray 0)).get? g.objs.size=some (seqObj "list" vs.toArray 0):=D2 _ rfl;have keep:∀ b o,s.heap.get? b=some o->(g.push (seqObj "list" vs.toArray 0)).get? b=some o:=λb o q=>J1 _ (kp b o q);refine C0 (w5 (DA slot_list_sort ⟨_,f,rfl⟩ entry_list_sort ?body (args_list_sort _)))
 case body =>
  have fin:∀ out:List Value,∃ e,(sortedHeap (g.push (seqObj "list" vs.toArray 0)) g.objs.size vs out.toArray).get? g.objs.size=some (seqObj "list" out.toArray e):=λout=>sortedHeap_at (n:=0) f;have old:∀(out:List Value) b o,s.heap.get? b=some o->(sortedHeap (g.push (seqObj "list" vs.toArray 0)) g.objs.size vs out.toArray).get? b=some o:=λout b o e=>by
   have lt:=L0 (kp b o e);rw[sortedHeap_old (O1 lt) (by rw[size_push'];exact T6 lt)];exact keep b o e
  refine pG (s:={ s with heap:=g.push (seqObj "list" vs.toArray 0),toks:=d }) f c (λB h' G=>?_) λp=>?_
  ·obtain⟨κ,S,R,I,C,J,h⟩:=z vs u B h' d λb o e=>G b o (O1 (L0 (kp b o e))) (keep b o e);refine⟨κ,S,R,I,C,J,λout F H=>⟨_,rfl,N0 ⟨_,rfl,?_⟩⟩⟩;obtain⟨e,r⟩:=fin out;exact h out F H _ _ _ e (old out) hsz r
  ·obtain⟨e,r⟩:=fin vs;exact⟨_,rfl,N0 ⟨_,rfl,j vs u p _ _ _ e (old vs) hsz r⟩⟩
end TS
namespace L2
open PySem PySem.Spec PyProof.Rows
theorem Inv.turnNew{t':Nat}{ch:List Addr}{T:Addr}{o:HO}(I:Inv X pins σ H s)(f:∀ b∈ch,FpOk X pins H b)(k:∀ b u,b ∉ ch->s.heap.get? b=some u->h'.get? b=some u)(g:s.heap.objs.size<=T)(new:ObjOk X.prog X.w (upd H T o) h' T o) :
  Inv X pins σ (upd H T o) { s with heap:=h',toks:=t' }:=by
 have hn:H T=none:=I.hok.fresh g;have d:∀ b u,H b=some u->b ∉ ch:=λb u e z=>by rw[(f b z).1] at e;cases e
 refine I.step (g':=s.gens) (d':=s.drawn) (ch:=ch) (λb hb=>⟨(f b hb).2.2.2.1,(f b hb).2.1,(f b hb).2.2.2.2.1,(f b hb).2.2.2.2.2⟩) (λb u _ _ a e _=>k b u a e) (λb u _ _ a e _=>⟨u.slots,k b u a e⟩)
  (λb u _ e n=>by rw[J0 (O1 (L4 (L0 e) g))];exact n) (λb u a e=>⟨u,k b u a e⟩) (λb xs e=>by rw[J0 (U2 e hn)];exact e) (λb u v e=>by rw[J0 (U2 e hn)];exact e)
  (λb ps e=>⟨#[],by rw[J0 (U2 e hn),e];simp⟩) (λm hm=>?_) (λb u e=>?_) I.bare
 ·obtain⟨u,es,ep,h,r⟩:=hm;exact⟨u,es,ep,k _ u (λz=>(f _ z).2.1 rfl) h,r⟩
 ·by_cases hb:b=T
  ·subst hb;rw[W0] at e;cases e;exact new
  ·rw[J0 hb] at e;refine(I.hok b u e).stay (λc v a q=>k c v ?_ q) (λc q=>by rw[J0 (U2 q hn)];exact q) λc xs q=>by rw[J0 (U2 q hn)];exact q
   rcases a with z|z
   ·rw[z];exact d b u e
   ·exact d c _ z
theorem Inv.turnedL{t':Nat}{ch:List Addr}(I:Inv X pins σ H s)(f:∀ b∈ch,FpOk X pins H b)(k:∀ b u,b ∉ ch->s.heap.get? b=some u->h'.get? b=some u):Inv X pins σ H { s with heap:=h',toks:=t' }:=by
 have d:∀ b u,H b=some u->b ∉ ch:=λb u e z=>by rw[(f b z).1] at e;cases e
 refine I.step (g':=s.gens) (d':=s.drawn) (ch:=ch) (λb hb=>⟨(f b hb).2.2.2.1,(f b hb).2.1,(f b hb).2.2.2.2.1,(f b hb).2.2.2.2.2⟩) (λb u _ _ a e _=>k b u a e) (λb u _ _ a e _=>⟨u.slots,k b u a e⟩) (λ_ _ _ _ n=>n)
  (λb u a e=>⟨u,k b u a e⟩) (λ_ _ e=>e) (λ_ _ _ e=>e) (λb ps e=>⟨#[],by rw[e];simp⟩) (λm hm=>?_) (λb u e=>?_) I.bare
 ·obtain⟨u,es,ep,g,r⟩:=hm;exact⟨u,es,ep,k _ u (λz=>(f _ z).2.1 rfl) g,r⟩
 ·refine(I.hok b u e).stay (λc v a q=>k c v ?_ q) (λ_ q=>q) λ_ _ q=>q;rcases a with z|z
  ·rw[z];exact d b u e
  ·exact d c _ z
def Ite(K:Frag)(a:Addr):It :=
 ⟨λi H=>∃ xs x,SqL K H a xs/\xs[i]?=some x,λi H x H'=>∃ p y,x=.ref p/\H p=none/\H'=upd H p (.tup [.int i,y])/\∀ xs,SqL K H a xs->xs[i]?=some y,λi H=>∃ xs,SqL K H a xs/\xs.length<=i⟩
def Itz(K:Frag)(a b:Addr):It :=
 ⟨λi H=>∃ xs ys x y,SqL K H a xs/\SqL K H b ys/\xs[i]?=some x/\ys[i]?=some y,λi H v H'=>∃ p x y,v=.ref p/\H p=none/\H'=upd H p (.tup [x,y])/\(∀ xs,SqL K H a xs->xs[i]?=some x)/\∀ ys,SqL K H b ys->ys[i]?=some y,
  λi H=>∃ xs ys,SqL K H a xs/\SqL K H b ys/\min xs.length ys.length=i⟩
theorem RO{P:Program}{w:World}{K:Frag}{f:List Expr}{k:Nat}{pos:Pos}(a e it:Addr)(R:e ≠ it)(L:a ≠ e)(J:a ≠ it) :
  Turn P w K (.Tuple f k pos) (Ite K a) [e,it] e (λi h=>(∃ old,IsEnum h e it i old)/\h.IsListIter it a i) where
 mem:=by simp
 obj:=λi h st b hb=>by
  obtain⟨⟨old,g⟩,o,D,c,d⟩:=st;rcases D1.mp hb with rfl|hb
  ·exact⟨_,g,λv z=>by simp at z⟩
  ·have:b=it:=by simpa using hb
   subst this;exact⟨o,D,λv z=>by rw[d] at z;cases z⟩
 keep:=λi h h' st q=>⟨let ⟨old,g⟩:=st.1;⟨old,q e (by simp) _ g⟩,st.2.at λo x=>q it (by simp) o x⟩
 item:=by
  intro X j O F U i pins s σ H E I hf st M;subst j O F;obtain⟨xs,x,r,G⟩:=M;obtain⟨its,N,p,hz⟩:=I.list r;obtain⟨u,Z,ru⟩:=N.get G;have hi:i<its.toArray.size:=by simpa using (N1.mp Z).1
  have W:=WalksT.enumerate (prog:=X.prog) (w:=X.w) (I.ok.hd U) e it a R L J its.toArray;refine W.item i s _ _ hi ⟨st.1,st.2,p.isList⟩ λT a0 h1 tk j hT S mid kk=>⟨_,rfl,?_⟩
  obtain⟨t,y,B,rfl⟩:=j;have ey:y=u:=by
   have:its[i]?=some y:=by simpa using B
   rw[Z] at this;cases this;rfl
  subst ey;have aT:=W.apart i T _ mid;refine W.go f k pos i T { s with heap:=h1,toks:=tk } _ _ mid λY m k2=>?_;have l:IsTup Y T #[.int i t,y]:=by
   obtain⟨o,D,e2,n,e3⟩:=S;exact⟨o,k2 T o aT D,e2,n,e3⟩
  refine⟨.ref T,upd H T (.tup [.int i,x]),I.turnNew hf (λb o hb q=>k2 b o hb (kk b o hb q)) hT ?_,rfl,⟨T,x,rfl,I.hok.fresh hT,rfl,λys B=>by rw[I.list_inj B r];exact G⟩,⟨?_,m.2.1⟩,λb hb=>?_⟩
  ·exact⟨by show(2:Nat)<=sizeLine;decide,[.int i t,y],.cons ⟨t,rfl⟩ (.cons ru .nil),l⟩
  ·obtain⟨old,q⟩:=m.1;exact⟨old,by simpa using q⟩
  ·rw[J0]
   ·exact(hf b hb).1
   ·rintro rfl;exact aT hb
 done:=by
  intro X j O F U i pins s σ H E I hf st M;subst j O F;obtain⟨xs,r,G⟩:=M;obtain⟨its,N,p,hz⟩:=I.list r;obtain⟨⟨old,g⟩,C⟩:=st;have hl:=N.length;exact wpAny_pyNext_enum_end (I.ok.hd U) g C p.isList (by simp;lia) λY eb=>⟨rfl,I.turnedL (t':=s.toks) hf λb o hb q=>eb b o (λz=>hb (by simp[z])) q⟩
 self:=λA i s Q E st h=>by
  obtain⟨⟨old,g⟩,_⟩:=st;exact wpAny_pyIter_enum g h
def XI(K:Frag)(ta:TA):TI:=λσ H R=>ta σ H λvs H1=>∃ a xs,vs=[.ref a]/\SqL K H1 a xs/\R (Ite K a) H1
theorem cI(l:Gl X "enumerate")(hm:X.mg "enumerate" = none)(ha:PA X [a] j)(hs:starEach [a] X.env=[(false,eval a X.env)]:=by rfl):PI X (.Tuple elts k tpos) (.Call (.Name "enumerate" p) [a] [] pos) (XI X.K j):=by
 intro pins s σ H R I h;refine Call_ (p6 I l hm jO (PyProof.Rows.callWith_type1 (thn (ha pos pins s σ H _ I h) λus s1 ⟨vs,m,f,x,a,xs,w,r,q⟩=>?_) hs rfl));subst w;obtain⟨u,rfl,v⟩:=W3 x;cases v;obtain⟨its,A,pl,z⟩:=f.list r;refine call_enumerate_list pl.isList λy i g hsz kp=>?_;have c:a<s1.heap.objs.size:=by obtain⟨o,n,e,_⟩:=pl;exact L0 e
 refine wpAny_pyIter_enum i ⟨s1.heap.objs.size+1,[s1.heap.objs.size+1,s1.heap.objs.size],_,_,m,rfl,f.kept (t':=s1.toks) kp,RO a _ _ (Nat.succ_ne_self _) (O1 (T6 c)) (O1 c),⟨⟨_,i⟩,g⟩,λb hb=>?_,q⟩;have d:s1.heap.objs.size<=b:=by
  rcases D1.mp hb with rfl|hb
  ·exact Nat.le_succ _
  ·have:b=s1.heap.objs.size:=by simpa using hb
   exact Nat.le_of_eq this.symm
 exact f.fpOk d (f.hok.fresh d)
theorem nL{P:Program}{w:World}{K:Frag}{m:List Expr}{k:Nat}{pos:Pos}(z TI TO i1 f O M:Addr)(D:ZipApart z TI TO i1 f O M) :
  Turn P w K (.Tuple m k pos) (Itz K O M) [z,TI,TO,i1,f] z (λi h=>IsZip h z TI TO .none/\IsPair h TI (.ref i1) (.ref f)/\(∃ a b,IsPair h TO a b)/\h.IsListIter i1 O i/\h.IsListIter f M i) where
 mem:=by simp
 obj:=λi h st b hb=>by
  obtain⟨p,c,⟨a,b',d⟩,⟨o1,Z,c1,d1⟩,⟨o2,e2,c2,d2⟩⟩:=st;simp only[D1,EA,or_false] at hb;rcases hb with rfl|rfl|rfl|rfl|rfl
  ·exact⟨_,p,λv y=>by simp at y⟩
  ·exact⟨_,c,λv y=>by simp at y⟩
  ·exact⟨_,d,λv y=>by simp at y⟩
  ·exact⟨o1,Z,λv y=>by rw[d1] at y;cases y⟩
  ·exact⟨o2,e2,λv y=>by rw[d2] at y;cases y⟩
 keep:=λi h h' st q=>by
  obtain⟨p,c,⟨a,b',d⟩,G,F⟩:=st;exact⟨q z (by simp) _ p,q TI (by simp) _ c,⟨a,b',q TO (by simp) _ d⟩,G.at λo x=>q i1 (by simp) o x,F.at λo x=>q f (by simp) o x⟩
 item:=by
  intro X J hw hK hc i pins s σ H E I hf st hg;subst J hw hK;obtain⟨xs,ys,x,y,l,j,U,hy⟩:=hg;obtain⟨us,r,p1,_⟩:=I.list l;obtain⟨vs,B,p2,_⟩:=I.list j;obtain⟨u,hu,ru⟩:=r.get U;obtain⟨v,hv,rv⟩:=B.get hy;have hi:i<min us.toArray.size vs.toArray.size:=by
   have a1:=(N1.mp hu).1;have a2:=(N1.mp hv).1;simp;lia
  obtain⟨p,c,d,G,F⟩:=st;have W:=WalksT.zip2 (prog:=X.prog) (w:=X.w) (I.ok.hd hc) z TI TO i1 f O M D us.toArray vs.toArray;refine W.item i s _ _ hi ⟨p,c,d,G,F,p1.isList,p2.isList⟩ λT a4 h3 tk J hT N mid kk=>⟨_,rfl,?_⟩
  obtain⟨Y,S,a0,a3,rfl⟩:=J;have ex:Y=u:=by
   have:us[i]?=some Y:=by simpa using a0
   rw[hu] at this;cases this;rfl
  have ey:S=v:=by
   have:vs[i]?=some S:=by simpa using a3
   rw[hv] at this;cases this;rfl
  subst ex ey;have R:=W.apart i T _ mid;have sub:∀ b,b ∉ [z,TI,TO,i1,f]->b ∉ [z,TO,i1,f]:=λb hb y=>hb (by simp at y ⊢;rcases y with y|y|y|y <;> simp[y]);have Tt:T ∉ [z,TI,TO,i1,f]:=λy=>by
   have:=(hf T y).1;obtain⟨o,e,_⟩:=N;simp only[D1,EA,or_false] at y;rcases y with rfl|rfl|rfl|rfl|rfl
   ·exact R (by simp)
   ·exact absurd (L0 c) (Nat.not_lt.mpr hT)
   ·exact R (by simp)
   ·exact R (by simp)
   ·exact R (by simp)
  refine W.go m k pos i T { s with heap:=h3,toks:=tk } _ _ mid λh4 g k4=>?_;have L:IsTup h4 T #[Y,S]:=by
   obtain⟨o,Z,e2,n,e3⟩:=N;exact⟨o,k4 T o R Z,e2,n,e3⟩
  refine⟨.ref T,upd H T (.tup [x,y]),I.turnNew hf (λb o hb q=>k4 b o (sub b hb) (kk b o (sub b hb) q)) hT ?_,rfl,⟨T,x,y,rfl,I.hok.fresh hT,rfl,λzs C=>by rw[I.list_inj C l];exact U,λzs C=>by rw[I.list_inj C j];exact hy⟩,⟨g.1,g.2.1,g.2.2.1,g.2.2.2.1,g.2.2.2.2.1⟩,λb hb=>?_⟩
  ·exact⟨by show(2:Nat)<=sizeLine;decide,[Y,S],.cons ru (.cons rv .nil),L⟩
  ·rw[J0]
   ·exact(hf b hb).1
   ·rintro rfl;exact Tt hb
 done:=by
  intro X J hw hK hc i pins s σ H E I hf st hg;subst J hw hK;obtain⟨xs,ys,l,j,U⟩:=hg;obtain⟨us,r,p1,_⟩:=I.list l;obtain⟨vs,B,p2,_⟩:=I.list j;obtain⟨p,c,d,G,F⟩:=st;have W:=WalksT.zip2 (prog:=X.prog) (w:=X.w) (I.ok.hd hc) z TI TO i1 f O M D us.toArray vs.toArray;have ei:min us.toArray.size vs.toArray.size=i:=by
   rw[← U,r.length,B.length];simp
  have sub:∀ b,b ∉ [z,TI,TO,i1,f]->b ∉ [z,TO,i1,f]:=λb hb y=>hb (by simp at y ⊢;rcases y with y|y|y|y <;> simp[y]);rw[← ei] at G F;exact W.done s _ _ ⟨p,c,d,G,F,p1.isList,p2.isList⟩ λh3 tk kk=>⟨rfl,I.turnedL (t':=tk) hf λb o hb q=>kk b o (sub b hb) q⟩
 self:=λA i s Q E st h=>wpAny_pyIter_zip st.1 h
theorem IP(d:a<n)(c:b<n):ZipApart (n+4) (n+2) (n+3) n (n+1) a b:=by constructor <;> (show(_:Nat) ≠ _;lia)
def iZip(K:Frag)(ta:TA):TI:=λσ H R=>ta σ H λvs H1=>∃ a b xs ys,vs=[.ref a,.ref b]/\SqL K H1 a xs/\SqL K H1 b ys/\R (Itz K a b) H1
theorem XQ(y:Gl X "zip")(hm:X.mg "zip" = none)(ha:PA X [a,b] w)(hs:starEach [a,b] X.env=[(false,eval a X.env),(false,eval b X.env)]:=by rfl)(f:starEach [b] X.env=[(false,eval b X.env)]:=by rfl):PI X (.Tuple elts k tpos) (.Call (.Name "zip" p) [a,b] [] pos) (iZip X.K w):=by
 intro pins s σ H R I h;refine Call_ (p6 I y hm zU (PyProof.Rows.callWith_type1 (thn (ha pos pins s σ H _ I h) λus s1 ⟨vs,z,g,J,a,b,xs,ys,G,i,m,q⟩=>?_) (by rw[hs,f]) (by rw[f];rfl)));subst G;obtain⟨u,c,rfl,F,C⟩:=WB J;cases F;cases C;obtain⟨_,_,v,_⟩:=g.list i;obtain⟨_,_,p2,_⟩:=g.list m;have D:a<s1.heap.objs.size:=by obtain⟨o,n,e,_⟩:=v;exact L0 e
 have A:b<s1.heap.objs.size:=by obtain⟨o,n,e,_⟩:=p2;exact L0 e
 refine call_zip_2 v.isList p2.isList λL r j l E B hsz kp=>?_;refine wpAny_pyIter_zip r ⟨s1.heap.objs.size+4,[s1.heap.objs.size+4,s1.heap.objs.size+2,s1.heap.objs.size+3,s1.heap.objs.size,s1.heap.objs.size+1],_,_,z,rfl,g.kept (t':=s1.toks) kp,nL _ _ _ _ _ a b (IP D A),⟨r,j,⟨_,_,l⟩,E,B⟩,λc x=>?_,q⟩;have d:s1.heap.objs.size<=c:=by
  simp only[D1,EA,or_false] at x;rcases x with rfl|rfl|rfl|rfl|rfl
  ·exact Nat.le_add_right _ 4
  ·exact Nat.le_add_right _ 2
  ·exact Nat.le_add_right _ 3
  ·exact M0 _
  ·exact Nat.le_add_right _ 1
 exact g.fpOk d (g.hok.fresh d)
theorem eD:∀{xs:List V}{us:List Value},xs.length=us.length->(∀(i:Nat) v u,xs[i]?=some v->us[i]?=some u->RelV v u)->Vals xs us
 |[],[],_,_=>.nil
 |[],_::_,h,_=>by simp at h
 |_::_,[],h,_=>by simp at h
 |x::xs,u::us,h,k=>.cons (k 0 x u rfl rfl) (eD (by simpa using h) λi v w b a=>k (i+1) v w (by simpa using b) (by simpa using a))
theorem PN:bootBuiltins "abs" = some (.builtin "abs"):=by decide +kernel
theorem UF(prog:Program)(w:World)(A:Around){bs:List Bool}{us:List Value}(r:Vals (bs.map V.bl) us):TruthOf prog w A (λi v=>us.toArray[i]?=some v) (λi=>bs.getD i false):=by
 intro i v s Q E d h;have b:us[i]?=some v:=by simpa using d
 have hi:i<us.length:=(N1.mp b).1;have hb:i<bs.length:=by have:=r.length;simp at this;lia
 obtain⟨u,a,c⟩:=r.get (i:=i) (x:=.bl bs[i]) (by simp[hb]);rw[b] at a;cases a;cases (show v=Value.bool bs[i] from c);have e:bs.getD i false=bs[i]:=by simp[List.getD,hb]
 have h':Q (bs.getD i false) s:=h;rw[e] at h';exact B6 h'
theorem NR(bs:List Bool):((List.range bs.length).all λi=>bs.getD i false)=bs.all id:=by
 rw[f6,P2,P2];constructor
 ·intro h b hb;obtain⟨i,hi,e⟩:=r8.mp hb;have:=h i (U1.mpr hi);simp[List.getD,hi,e] at this;exact this
 ·intro h i hi;have a:=U1.mp hi;have:=h bs[i] (U7 a);simp[List.getD,a];exact this
theorem RR(bs:List Bool):((List.range bs.length).any λi=>bs.getD i false)=bs.any id:=by
 rw[f6,o9,o9];constructor
 ·rintro⟨i,hi,h⟩;have a:=U1.mp hi;refine⟨bs[i],U7 a,?_⟩;simp[List.getD,a] at h;exact h
 ·rintro⟨b,hb,h⟩;obtain⟨i,hi,e⟩:=r8.mp hb;refine⟨i,U1.mpr hi,?_⟩;simp[List.getD,hi,e];exact h
def rAll(K:Frag):List V->Hp->VK->Prop:=λxs H Q=>∃(a:Addr)(bs:List Bool),xs=[.ref a]/\SqL K H a (bs.map V.bl)/\Q (.bl (bs.all id)) H
def rAny(K:Frag):List V->Hp->VK->Prop:=λxs H Q=>∃(a:Addr)(bs:List Bool),xs=[.ref a]/\SqL K H a (bs.map V.bl)/\Q (.bl (bs.any id)) H
theorem W6(g:X.calm=true):C2 X (.builtin "all") (rAll X.K):=by
 intro pins s σ H xs us Q I r h;obtain⟨a,bs,rfl,ha,q⟩:=h;obtain⟨u,rfl,j⟩:=W3 r;cases j;obtain⟨its,d,c,_⟩:=I.list ha;have i:a<s.heap.objs.size:=by obtain⟨o,n,e,_⟩:=c;exact L0 e
 have f:its.toArray.size=bs.length:=by have:=d.length;simp at this;simp[this]
 refine call_all_walk (e8 c.isList ⟨_,[s.heap.objs.size,a],_,_,_,_,_,rfl,Walks.list (A:=X.A.in1) (I.ok.hd g) _ a (O1 i) its.toArray,⟨⟨_,D2 _ rfl,rfl,rfl⟩,c.isList.push _⟩,UF _ _ _ d,λl m kp=>?_⟩);rw[f,NR];refine⟨.bl _,H,I.kept λb o e=>kp b o (λz=>?_) (J1 _ e),rfl,q⟩;exact absurd (L0 e) (by rw[O2.mp z];exact t4 _)
theorem PL(g:X.calm=true):C2 X (.builtin "any") (rAny X.K):=by
 intro pins s σ H xs us Q I r h;obtain⟨a,bs,rfl,ha,q⟩:=h;obtain⟨u,rfl,j⟩:=W3 r;cases j;obtain⟨its,d,c,_⟩:=I.list ha;have i:a<s.heap.objs.size:=by obtain⟨o,n,e,_⟩:=c;exact L0 e
 have f:its.toArray.size=bs.length:=by have:=d.length;simp at this;simp[this]
 refine call_any_walk (e8 c.isList ⟨_,[s.heap.objs.size,a],_,_,_,_,_,rfl,Walks.list (A:=X.A.in1) (I.ok.hd g) _ a (O1 i) its.toArray,⟨⟨_,D2 _ rfl,rfl,rfl⟩,c.isList.push _⟩,UF _ _ _ d,λl m kp=>?_⟩);rw[f,RR];refine⟨.bl _,H,I.kept λb o e=>kp b o (λz=>?_) (J1 _ e),rfl,q⟩;exact absurd (L0 e) (by rw[O2.mp z];exact t4 _)
def rAbs:List V->Hp->VK->Prop:=λxs H Q=>∃ i:Int,xs=[.int i]/\Q (.int (if i<0 then -i else i)) H
theorem XR:C2 X (.builtin "abs") rAbs:=by
 intro pins s σ H xs us Q I r h;obtain⟨i,rfl,q⟩:=h;obtain⟨u,rfl,t,rfl⟩:=W3 r;exact call_abs_int λt' a=>⟨.int _,H,I.tok _,⟨_,rfl⟩,q⟩
def bE(K:Frag):List V->Hp->VK->Prop:=λxs H Q=>∃ p ys,xs=[.ref p]/\(SqL K H p ys\/SqT K H p ys)/\∀ l,H l=none->Q (.ref l) (upd H l (.lst ys))
theorem eE:C2 X (.type "list") (bE X.K):=UK
def lI(ta:TA):TE:=λσ H Q=>ta σ H λvs H1=>∃ j:Int,vs=[.int j]/\0<=j/\j<=1000000/\∀ l,H1 l=none->Q (.ref l) (upd H1 l (.lst ((List.range j.toNat).map λ(i:Nat)=>V.int (i:Int))))
theorem EH(z:Gl X "list")(hm:X.mg "list" = none)(r:Gl X "range")(p:X.mg "range" = none)(G:X.calm=true)(ha:PA X [a] y)(hs:starEach [a] X.env=[(false,eval a X.env)]:=by rfl)
  (g:starEach [.Call (.Name "range" p2) [a] [] d] X.env=[(false,eval (.Call (.Name "range" p2) [a] [] d) X.env)]:=by rfl):PE X (.Call (.Name "list" C) [.Call (.Name "range" p2) [a] [] d] [] pos) (lI y):=by
 intro pins s σ H Q I h;refine Call_ (p6 I z hm k8 (PyProof.Rows.callWith_type1 ?_ g rfl));rw[g];refine Calls.spliced_cons (Call_ (p6 I r p boot_range (PyProof.Rows.callWith_type1 (thn (ha d pins s σ H _ I h) λus s1 ⟨vs,O,x,N,j,M,P,R,q⟩=>?_) hs rfl)));subst M;obtain⟨u,rfl,t,rfl⟩:=W3 N;refine call_range_1 (Calls.spliced_nil ?_);have J:IsRange (s1.heap.push { cls:=.type "range",data:=.fields #[.int 0 s1.toks,.int j t,.int 1 (s1.toks+1)] }) s1.heap.objs.size 0 j 1 s1.toks t (s1.toks+1):=D2 _ rfl;have hn:Builtin.Range.rangeSize 0 j 1=((j.toNat:Nat):Int):=by rw[rangeSize_one];split <;> lia
 refine call_list_range (s:={ s1 with heap:=s1.heap.push { cls:=.type "range",data:=.fields #[.int 0 s1.toks,.int j t,.int 1 (s1.toks+1)] },toks:=s1.toks+1+1 }) (x.ok.hd G) J (small_one (by lia) (by lia) (by lia) (by lia)) hn (by lia) λA E l c kp F items=>?_;have D:∀ b o,s1.heap.get? b=some o->A.get? b=some o:=λb o e=>kp b o (J1 _ e);have f:s1.heap.objs.size<=(s1.heap.push { cls:=.type "range",data:=.fields #[.int 0 s1.toks,.int j t,.int 1 (s1.toks+1)] }).objs.size:=by rw[s7];exact Nat.le_succ _
 refine⟨.ref _,_,x.laid (t':=E) (o:=.lst ((List.range j.toNat).map λ(i:Nat)=>V.int (i:Int))) D f ?_,rfl,q _ (x.hok.fresh f)⟩;refine⟨by rw[R0,AB];exact D5 (VL.big (by lia)),l.toList,c,?_,by simpa using F⟩;obtain⟨K,w⟩:=items;refine eD (by simp[K]) λi v u n B=>?_;have m:l[i]?=some u:=by simpa using B
 obtain⟨t',L⟩:=w i u m;rw[L1] at n;have hi:i<j.toNat:=by
  have:=(Array.getElem?_eq_some_iff.mp m).1;lia
 rw[Y0 (by simpa using hi)] at n;simp at n;subst n;exact⟨t',by rw[L];simp⟩
def eC:List V->Hp->VK->Prop:=λxs H Q=>∃(a:Addr)(kvs:List (List Key × V))(kss:List (List Int)),xs=[.ref a]/\H a=some (.dT kvs)/\kvs.map (·.1)=kss.map (λns=>ns.map Sum.inl)/\(∀ ns∈kss,ns ≠ []) /\
 ∀(vs:List V)(p:Addr),(∀ v∈vs,TupI H v)->(vs.map (kH H)).Perm kss->vs.Pairwise (λx y=>HT.lexLt (kH H y) (kH H x)=false)->H p=none->Q (.ref p) (upd H p (.lst vs))
theorem MG:∀{kvs:List (List Key × V)}{xs:List (List Key × Addr × Value)}{a:List (List Int)},KT H kvs xs->kvs.map (·.1)=a.map (λns=>ns.map Sum.inl)->(∀ ns∈a,ns ≠ []) ->
  (∀ v∈xs.map (λq=>V.ref q.2.1),TupI H v)/\(xs.map (λq=>V.ref q.2.1)).map (kH H)=a
 |_,_,[],.nil,_,_=>⟨λv b=>by simp at b,rfl⟩
 |_,_,_::_,.nil,h,_=>by simp at h
 |_,_,[],.cons _ _,h,_=>by simp at h
 | p::kvs,q::xs,ns::a,.cons r t,h,hn=>by
  simp only[M2,List.cons.injEq] at h;obtain⟨i1,c⟩:=MG t h.2 λd hm=>hn d (S2 _ hm);have e:H q.2.1=some (.tup (ns.map V.int)):=by
   rw[r.2.1,h.1,v2];rfl
  refine⟨λv b=>?_,?_⟩
  ·rcases D1.mp b with rfl|b
   ·exact⟨_,ns,rfl,e,hn ns o3⟩
   ·exact i1 v b
  ·rw[M2,M2,ZA e,c]
theorem dR(hc:X.calm=true):C2 X (.builtin "sorted") eC:=by
 intro pins s σ H xs us Q I r h;obtain⟨a,kvs,a1,rfl,hH,hk,C,q⟩:=h;obtain⟨u,rfl,S⟩:=W3 r;cases S;obtain⟨z,y,ys,B,o,es,ep,h1,m,h3,M,h5⟩:=(show ObjOk X.prog X.w H s.heap a (.dT kvs) from I.hok a _ hH)
 obtain⟨t1,N⟩:=MG B hk C;have hz:es.size=ys.length:=by
  have U:es.toList.length=ys.length:=by rw[M];simp
  simpa using U
 have f:ys.length<=sizeLine:=by have:=Paired.length B;lia
 let c:List Value:=ys.map λq=>.ref q.2.1
 have J:Vals (ys.map λq=>V.ref q.2.1) c:=eD (by simp[c]) λi v u d n=>by
  rw[L1] at d n;cases e:ys[i]? with
  |none=>rw[e] at d;cases d
  |some q=>rw[e] at d n;cases d;cases n;rfl
 obtain⟨b1,K⟩:=mE J t1;have fin:∀ out:List Value,out.Perm c->(out.map n6).Pairwise (λx y=>HT.lexLt (kH H y) (kH H x)=false)->∀ p m j e,(∀ b o,s.heap.get? b=some o->m.get? b=some o)->s.heap.objs.size<=p->m.get? p=some (seqObj "list" out.toArray e)->EP X pins σ Q (.ref p) { s with heap:=m,toks:=j }:=by
  intro out g hs p m j e kp hsz Y;have d:Vals (out.map n6) out:=pD λu n=>b1 u (g.mem_iff.mp n);refine⟨.ref p,_,I.laid (t':=j) (o:=.lst (out.map n6)) kp hsz ?_,rfl,q _ _ (λv F=>?_) ?_ hs (I.hok.fresh hsz)⟩
  ·refine⟨by rw[R0,g.length_eq];simp[c];exact f,out,e,d,by rw[Y]⟩
  ·have:=(g.map n6).mem_iff.mp F;rw[K] at this;exact t1 v this
  ·have:=(g.map n6).map (kH H);rw[K,N] at this;exact this
 refine TS.sorted_gen (Ok:=λvs=>vs=c) (λQc E=>DI.collect_src (DI.src a es ep y) (I.ok.hd hc) ⟨o,h1,m,h3⟩ (by lia) λh' j l kp hsz items=>E _ h' j kp hsz ?_) (λvs e=>by subst e;simp[c];exact f) (λvs e a0 h' j kp=>?_) λvs e G=>?_
 ·obtain⟨i1,Z⟩:=items;apply D6;intro i;simp only[c,L1];by_cases hi:i<ys.length
  ·have ha:l[i]?=some l[i]:=Y2 (by lia);have:(es[i]?).map (·.key)=some l[i]:=Z i _ ha;have L:es[i]?=some es[i]:=Y2 (by lia);rw[L] at this;have D:es.toList[i]?=some es[i]:=by rw[V5];exact L
   rw[M,L1,Y0 hi] at D;rw[Y0 hi];simp at this D;rw[V5,ha,← this,← D];rfl
  ·rw[P6.mpr (by simp;lia),P6.mpr (by lia)];rfl
 ·subst e;obtain⟨⟨fs,k1,k2,k3⟩,k4⟩:=PD I kp J t1;have A:(Value.type "int" != Value.type "tuple")=true:=by rfl
  refine⟨tuples' true,TS.tS h' (λa=>kH H (.ref a)),TS.tR (λa=>kH H (.ref a)),λQ' E=>?_,TS.cmp_tups (s:={ s with heap:=h',toks:=j }) (λa=>kH H (.ref a)),λv d=>?_,λout g hs=>fin out g ?_⟩
  ·refine PySem.W.kat_kind (T:=.type "int") (s:={ s with heap:=h',toks:=j }) k1 (by lia) (λv d=>?_) (by rfl) ?_
   ·obtain⟨i,t,rfl⟩:=k3 v d;exact .now
   ·rw[A];exact E
  ·obtain⟨a,e,R⟩:=k4 v d;exact⟨rfl,a,e,R⟩
  ·rw[O6];refine kA ?_ hs;intro x y hx O P;obtain⟨ax,rfl⟩:=b1 x (g.mem_iff.mp hx);obtain⟨ay,rfl⟩:=b1 y (g.mem_iff.mp O);exact P
 ·subst e;exact fin c (List.Perm.refl _) (PH (by rw[R0];exact G))
end L2
namespace VL
open PySem PySem.Spec L2
def enD(ds:List PyData):List PyData:=(List.range ds.length).map λ(i:Nat)=>.tuple [.int (i:Int),ds.getD i .none]
def zipD(xs ys:List PyData):List PyData:=(xs.zip ys).map λp=>.tuple [p.1,p.2]
theorem T9:(enD ds).length=ds.length:=by simp[enD]
theorem cE{ds:List PyData}{i:Nat}{d:PyData}(h:(enD ds)[i]?=some d):∃ x,ds[i]?=some x/\d=.tuple [.int (i:Int),x]:=by
 unfold enD at h;rw[L1] at h;by_cases hi:i<ds.length
 ·rw[Y0 (by simpa using hi)] at h;simp at h;refine⟨ds[i],Y0 hi,?_⟩;rw[← h];simp[hi]
 ·rw[P6.mpr (by simp;lia)] at h;cases h
theorem xO{xs ys:List PyData}{i:Nat}{d:PyData}(h:(zipD xs ys)[i]?=some d):∃ x y,xs[i]?=some x/\ys[i]?=some y/\d=.tuple [x,y]:=by
 unfold zipD at h;rw[L1] at h;cases e:(xs.zip ys)[i]? with
 |none=>rw[e] at h;cases h
 | some p =>
  rw[e] at h;cases h;obtain⟨b,a⟩:=List.getElem?_zip_eq_some.mp e;exact⟨p.1,p.2,b,a,rfl⟩
theorem Out.tup2(g:Same G H)(h:H p=none)(a:Rp G x d)(b:Rp G y e):Out G H (.ref p) (upd G p (.tup [x,y])) (upd H p (.tup [x,y])) (.st (.tuple [d,e])) (λ_=>False):=Out.newT g h (.cons a (.cons b .nil))
theorem AT(h:EvA B ta env λvs e=>∃ ds,vs=[.list ds]/\QI (enD ds) e):EvI B (XI K ta) env QI:=λσ G H F R I k =>
 h σ G H F _ I λvs o f D ds A b m C l=>by
  obtain⟨xs,w,c⟩:=l;subst w;cases C with
  | cons r t =>
   cases t;cases r with
   | @lst a us _ ha rs =>
    refine⟨a,us,rfl,SqL.of (b.gh _ _ ha),k _ o f D _ A b m ⟨λi G' H' g h hi=>?_,λi G' H' g h hi=>?_,λi G' H' x H'' d g h ft hd y=>?_⟩ c⟩
    ·have:i<us.length:=by rw[rs.length];rw[T9] at hi;exact hi
     exact⟨us,us[i],SqL.of (h _ _ (g _ _ ha)),Y0 this⟩
    ·exact⟨us,SqL.of (h _ _ (g _ _ ha)),by rw[rs.length];rw[T9] at hi;exact Nat.le_of_eq hi.symm⟩
    ·obtain⟨p,v,rfl,q,rfl,n⟩:=y;obtain⟨dx,s,rfl⟩:=cE hd;obtain⟨u,j,z⟩:=rs.get s;have:=n us (SqL.of (h _ _ (g _ _ ha)));rw[j] at this;cases this;exact⟨_,Out.tup2 h q (.int _) (z.same g)⟩
theorem vN(h:EvA B ta env λvs e=>∃ xs ys,vs=[.list xs,.list ys]/\QI (zipD xs ys) e):EvI B (iZip K ta) env QI:=λσ G H F R I k =>
 h σ G H F _ I λvs D o S ds c l A Q z=>by
  obtain⟨xs,ys,M,m⟩:=z;subst M;cases Q with
  | cons r t =>
   cases t with
   | cons r2 t =>
    cases t;cases r with
    | @lst a us _ ha rs =>
     cases r2 with
     | @lst b ws _ hb rs2 =>
      have L:(zipD xs ys).length=min us.length ws.length:=by simp[zipD,rs.length,rs2.length]
      refine⟨a,b,us,ws,rfl,SqL.of (l.gh _ _ ha),SqL.of (l.gh _ _ hb),k _ D o S _ c l A ⟨λi G' H' g h hi=>?_,λi G' H' g h hi=>?_,λi G' H' x H'' d g h ft hd y=>?_⟩ m⟩
      ·have N:i<us.length:=by lia
       have n:i<ws.length:=by lia
       exact⟨us,ws,us[i],ws[i],SqL.of (h _ _ (g _ _ ha)),SqL.of (h _ _ (g _ _ hb)),Y0 N,Y0 n⟩
      ·exact⟨us,ws,SqL.of (h _ _ (g _ _ ha)),SqL.of (h _ _ (g _ _ hb)),by rw[← L];exact hi.symm⟩
      ·obtain⟨p,v,w,rfl,E,rfl,C,O⟩:=y;obtain⟨dx,T,J,s,rfl⟩:=xO hd;obtain⟨u,q,P⟩:=rs.get J;obtain⟨U,j,f⟩:=rs2.get s;have c:=C us (SqL.of (h _ _ (g _ _ ha)));have e2:=O ws (SqL.of (h _ _ (g _ _ hb)));rw[q] at c;cases c;rw[j] at e2;cases e2;exact⟨_,Out.tup2 h E (P.same g) (f.same g)⟩
theorem RpT.len:∀{kvs:List (List Key × V)}{es:List (List Key × PyData)},RpT G kvs es->kvs.length=es.length/\kvs.map (·.1)=es.map (·.1)
 |_,_,.nil=>⟨rfl,rfl⟩
 | _,_,.cons _ t=>by
  obtain⟨b,a⟩:=RpT.len t;exact⟨by simp[b],by simp[a]⟩
@[reducible] def tkD (ks:List Key):PyData:=.tuple (ks.map kD)
@[reducible] def tiD (ns:List Int):PyData:=.tuple (ns.map .int)
def lexS(pss:List (List Int)):Prop:=pss.Pairwise λx y=>HT.lexLt y x=false
theorem ME(ft:FT G H):∀{vs:List V},(∀ v∈vs,TupI H v)->Rps G vs ((vs.map (kH H)).map tiD)
 |[],_=>.nil
 | v::vs,h=>by
  obtain⟨t,ns,rfl,e,_⟩:=h v o3;rw[M2,M2,ZA e];have:(ns.map V.int)=(ns.map (λi=>(Sum.inl i:Key))).map kV:=by rw[v2];rfl
  refine .cons (.tup ?_ (Rps.ints ns)) (ME ft λu a=>h u (S2 _ a));rw[this];exact ft t _ (by rw[← this];exact e)
theorem jJ(gh:Same G H):∀{vs:List V}{pss:List (List Int)},Rps G vs (pss.map tiD)->(∀ ns∈pss,ns ≠ [])->(∀ v∈vs,TupI H v)/\vs.map (kH H)=pss
 |_,[],.nil,_=>⟨λv d=>by simp at d,rfl⟩
 | v::vs,ns::pss,.cons r t,hn=>by
  obtain⟨i1,b⟩:=jJ gh t λc hm=>hn c (S2 _ hm);cases r with
  | tup h rs =>
   have:=Rps.ints_inv rs;subst this;have e:=gh _ _ h;refine⟨λu a=>?_,by rw[M2,ZA e,b]⟩;rcases D1.mp a with rfl|a
   ·exact⟨_,ns,rfl,e,hn ns o3⟩
   ·exact i1 u a
theorem oS(hn:∀ ns∈pss,ns ≠ [])(h:EvA B ta env λds e=>ds=[.list (pss.map tiD)]/\∀ b:List (List Int),b.Perm pss->lexS b->QO (.own (OL (b.map tiD))) e):EvO B (tCB (SA K) ta) env QO:=λσ G H F Q I k =>
 h σ G H F _ I λvs x d w ds s c m u l=>by
  obtain⟨q,g⟩:=l;subst q;cases u with
  | cons r t =>
   cases t;cases r with
   | @lst a us _ ha rs =>
    obtain⟨t1,j⟩:=jJ c.gh rs hn;refine⟨a,us,rfl,SqL.of (c.gh _ _ ha),t1,λws p f hs hf=>?_⟩;have i:∀ v∈ws,TupI d v:=λv n=>t1 v (f.mem_iff.mp n);have o:=Out.newL c.gh hf (ME c.ft i);refine k _ _ _ w _ _ s (c.out o).1 (m.trans o.gg) (c.out o).2 (g _ ?_ ?_)
    ·have:=f.map (kH d);rw[j] at this;exact this
    ·unfold lexS;rw[O6];exact hs
theorem IK(l:Has env i (OT es))(m:es.map (·.1)=b.map (λns=>ns.map Sum.inl))(hn:∀ ns∈b,ns ≠ [])(q:∀ c:List (List Int),c.Perm b->lexS c->QO (.own (OL (c.map tiD))) env):EvO B (tCB eC (Y1 (tVar i) tNil)) env QO:=λσ G H F Q I k=>by
 obtain⟨v,h,a,kvs,rfl,ha,rt,hf⟩:=I.has l;obtain⟨n,g⟩:=RpT.len rt;refine⟨_,h,a,kvs,b,rfl,ha,by rw[g,m],hn,λws p f j hs d=>?_⟩;have o:=Out.newL I.gh d (ME I.ft f);refine k _ _ _ F _ _ env (I.out o).1 o.gg (I.out o).2 (q _ j ?_);unfold lexS;rw[O6];exact hs
theorem Rps.bools_inv:∀{bs:List Bool}{vs:List V},Rps G vs (bs.map PyData.bool)->vs=bs.map V.bl
 |[],_,.nil=>rfl
 | b::bs,_,.cons r t=>by
  cases r;rw[Rps.bools_inv t];rfl
theorem X6{bs:List Bool}(h:R (.st (.bool (bs.all id)))):OpA (rAll K) [.list (bs.map .bool)] R:=λG H vs Q gh rs k=>by
 cases rs with
 | cons r t =>
  cases t;cases r with
  | lst ha ra =>
   have:=Rps.bools_inv ra;subst this;exact⟨_,bs,rfl,SqL.of (gh _ _ ha),k _ _ _ _ _ (Out.refl gh (.bl _)) h⟩
theorem jK{bs:List Bool}(h:R (.st (.bool (bs.any id)))):OpA (rAny K) [.list (bs.map .bool)] R:=λG H vs Q gh rs k=>by
 cases rs with
 | cons r t =>
  cases t;cases r with
  | lst ha ra =>
   have:=Rps.bools_inv ra;subst this;exact⟨_,bs,rfl,SqL.of (gh _ _ ha),k _ _ _ _ _ (Out.refl gh (.bl _)) h⟩
theorem pM(h:R (.st (.int (if n<0 then -n else n)))):OpA rAbs [.int n] R:=λG H vs Q gh rs k=>by
 obtain rfl:vs=[V.int n]:=Rps.ints_inv (ns:=[n]) rs;exact⟨n,rfl,k _ _ _ _ _ (Out.refl gh (.int _)) h⟩
theorem gM(h:R (.own (OL ds))):OpA (bE K) [.list ds] R:=λG H vs Q gh rs k=>by
 cases rs with
 | cons r t =>
  cases t;cases r with
  |lst ha ra=>exact⟨_,_,rfl,.inl (SqL.of (gh _ _ ha)),λp a=>k _ _ _ _ _ (Out.newL gh a ra) h⟩
theorem DL(n:Nat):Rps G ((List.range n).map λ(i:Nat)=>V.int (i:Int)) (rngD 0 n):=by
 unfold rngD;refine LD (by simp) λi v d a hd=>?_;rw[L1] at a hd;cases e:(List.range n)[i]? with
 |none=>rw[e] at a;cases a
 |some m=>rw[e] at a hd;cases a;cases hd;show Rp G (.int (m:Int)) (.int (0+(m:Int)));rw[u8];exact .int _
theorem jL(h:EvA B ta env λds e=>∃ j:Int,ds=[.int j]/\0<=j/\j<=1000000/\QO (.own (OL (rngD 0 j.toNat))) e):EvO B (lI ta) env QO:=λσ G H F Q I k =>
 h σ G H F _ I λvs s r q ds m a f n c=>by
  obtain⟨j,i,d,l,b⟩:=c;subst i;obtain rfl:vs=[V.int j]:=Rps.ints_inv (ns:=[j]) n;refine⟨j,rfl,d,l,λp g=>?_⟩;have o:=Out.newL a.gh g (DL j.toNat);exact k _ _ _ q _ _ m (a.out o).1 (f.trans o.gg) (a.out o).2 b
section
variable{κ:Type} [DecidableEq κ] {α:Type}
def valD(es:List (κ × α))(k : κ):Option α:=(es.find? λe=>decide (e.1=k)).map (·.2)
def putD(es:List (κ × α))(k : κ)(d : α):List (κ × α):=if (es.any λe=>decide (e.1=k))=true then es.map (λe=>if e.1=k then (e.1,d) else e) else es++[(k,d)]
end
theorem RpT.any:∀{kvs:List (List Key × V)}{es:List (List Key × PyData)},RpT G kvs es->(kvs.any λe=>decide (e.1=k))=es.any λe=>decide (e.1=k)
 |_,_,.nil=>rfl
 |_,_,.cons r t=>by simp[RpT.any t]
theorem RpT.map(h:Rp G v d):∀{kvs:List (List Key × V)}{es:List (List Key × PyData)},RpT G kvs es->RpT G (kvs.map λe=>if e.1=k then (e.1,v) else e) (es.map λe=>if e.1=k then (e.1,d) else e)
 |_,_,.nil=>.nil
 | _,_,.cons (k:=k') r t=>by
  by_cases e:k'=k
  ·simp only[M2,e,if_true];exact .cons h (RpT.map h t)
  ·simp only[M2,e,if_false];exact .cons r (RpT.map h t)
theorem RpT.append:∀{a b:List (List Key × V)}{c d:List (List Key × PyData)},RpT G a c->RpT G b d->RpT G (a++b) (c++d)
 |_,_,_,_,.nil,s=>s
 |_,_,_,_,.cons r t,s=>.cons r (RpT.append t s)
theorem RpT.put(h:Rp G v d)(r:RpT G kvs es):RpT G (putK kvs k v) (putD es k d):=by
 unfold putK putD;rw[r.any];split
 ·exact r.map h
 ·exact r.append (.cons h .nil)
theorem fU(r:Rp G v (kD k)):v=kV k:=by
 cases k with
 |inl i=>cases r;rfl
 |inr x=>cases r;rfl
theorem vD:∀{ks:List Key}{vs:List V},Rps G vs (ks.map kD)->vs=ks.map kV
 |[],_,.nil=>rfl
 |k::ks,_,.cons r t=>by rw[fU r,vD t];rfl
theorem yR(q:QO (.own (OT [])) env):EvO B SF env QO:=λσ G H F Q I k p a=>by
 have o:=Out.newDT (ds:=[]) I.gh a .nil;exact k _ _ _ F _ _ env (I.out o).1 o.gg (I.out o).2 q
theorem XN(h:Ev B tv env λd o=>Has o i (OT l)/\Ev B ty o λy e2=>∃ es ks,e2[i]?=some (some (.own (OT es)))/\y=tkD ks/\es.length<=999999/\D'.nx (e2.set i (some (.own (OT (putD es ks d)))))):EvS B (tE (tVar i) ty tv) D' env:=λσ G H F D I r =>
 h σ G H F _ I λv K x O d o u J N C=>by
  obtain⟨L,w⟩:=C;obtain⟨v0,m,a,kvs,rfl,ha,rt,_⟩:=u.has L;refine⟨_,m,w σ K x O _ u λS E H2 F2 y e2 p q A ⟨es,ks,f,z,R,M⟩=>?_⟩;subst z;obtain⟨Q,g,⟨P,s,j,n,c,hf⟩,hb⟩:=p.sl i _ f;rw[m] at g;cases g;cases j;cases A with
  | tup hk rs =>
   have:=vD rs;subst this;refine⟨a,_,rfl,DPut.t n (p.gh _ _ hk) (by rw[(RpT.len c).1];exact big (by lia)),?_⟩;exact r.nx σ E _ _ _ (p.upd1 (A':=OT (putD es ks d)) f (.inl rfl) m hf ⟨a,_,rfl,W0,c.put (N.same q),λb=>Iff.rfl⟩) (J.trans q) M
section
variable{B:Bs}{env:En}{QO:Sl->En->Prop}{Q':PyData->En->Prop}{QE:En->Prop}{D':VEnds}{K:Frag}{i:Nat}{ta:TA}
theorem oJ(e:env[i]?=some (some (.scr ns)))(j:B.K=K)(h:EvOp B tl env λlo e2=>EvOp B d e2 λhi c=>QO (.own (OL (cutD (ns.map .int) lo hi))) c):EvO B (tSl (rSlL K) (tVar i) tl d) env QO:=λσ G H F Q I k=>by
 subst j;obtain⟨v0,n,⟨a,w,s⟩,_⟩:=I.sl i _ e;subst w;refine⟨_,n,h σ G H F _ I λlo l H2 F2 e2 v f u=>u σ l H2 F2 _ v λhi x H3 r c b g m=>⟨a,_,rfl,b.gh.seq (g.seq (f.seq s)),λp q=>?_⟩⟩;have o:=Out.newL (xs:=cutV (ns.map V.int) lo hi) (ds:=cutD (ns.map .int) lo hi) b.gh q (by
  unfold cutV cutD;rw[R0,R0];exact((Rps.ints ns).drop _).take _)
 exact k _ _ _ r _ _ c (b.out o).1 (f.trans (g.trans o.gg)) (b.out o).2 m
theorem wU(e:env[i]?=some (some (.scr ns)))(d:B.K=K)(h:EvOp B tl env λlo e2=>EvOp B c e2 λhi f=>Q' (.list (cutD (ns.map .int) lo hi)) f):Ev B (tSl (rSlL K) (tVar i) tl c) env Q':=U3 (oJ e d λσ G H F Q I k=>h σ G H F Q I λlo G' H' F' b a g' q=>k lo G' H' F' b a g' λσ G H F Q I k=>q σ G H F Q I λhi G' H' F' b a g' q=>k hi G' H' F' b a g' (p5 q))
theorem kT(h:EvA B ta env λds e=>∃ ns:List Int,ds=[.list (ns.map .int)]/\ns.length<64/\∀ b:List Int,b.Perm ns->b.Pairwise (·<=·)->QO (.own (OL (b.map .int))) e):EvO B (tCB (FD K) ta) env QO:=λσ G H F Q I k =>
 h σ G H F _ I λvs u s q ds m c g n f=>by
  obtain⟨ns,l,i,d⟩:=f;subst l;cases n with
  | cons r t =>
   cases t;cases r with
   | @lst a us _ ha rs =>
    have:=Rps.ints_inv rs;subst this;refine⟨a,ns,rfl,SqL.of (c.gh _ _ ha),i,λb p j hs hf=>?_⟩;have o:=Out.newL c.gh hf (Rps.ints b);exact k _ _ _ q _ _ m (c.out o).1 (g.trans o.gg) (c.out o).2 (d _ j hs)
theorem x_en{ds:List PyData}{R:List PyData->Prop}(h:R ds):∃ xs,[PyData.list ds]=[.list xs]/\R xs:=⟨ds,rfl,h⟩
theorem sM{xs ys:List PyData}{R:List PyData->List PyData->Prop}(h:R xs ys):∃ us vs,[PyData.list xs,.list ys]=[.list us,.list vs]/\R us vs:=⟨xs,ys,rfl,h⟩
theorem jQ{j:Int}{R:Int->Prop}(b:0<=j)(a:j<=1000000)(h:R j):∃ i:Int,[PyData.int j]=[.int i]/\0<=i/\i<=1000000/\R i:=⟨j,rfl,b,a,h⟩
theorem x_dT{es:List (List Key × PyData)}{a b:Int}{e2:En}{R:List (List Key × PyData)->List Key->Prop}(e:e2[i]?=some (some (.own (OT es))))(c:es.length<=999999)(q:R es [.inl a,.inl b]):∃ es ks,e2[i]?=some (some (.own (OT es)))/\PyData.tuple [.int a,.int b]=tkD ks/\es.length<=999999/\R es ks:=⟨es,_,e,rfl,c,q⟩
end
def ltP(p q:Int × Int):Prop:=p.1<q.1\/(p.1=q.1/\p.2<q.2)
@[reducible] def p2 (p:Int × Int):List Int:=[p.1,p.2]
theorem lex2(p q:Int × Int):HT.lexLt (p2 p) (p2 q)=true ↔ ltP p q:=by
 obtain⟨a,b⟩:=p;obtain⟨c,d⟩:=q;simp[p2,HT.lexLt,ltP];split <;> lia
theorem AG(h:a.Perm (ps.map p2)):∃ b:List (Int × Int),a=b.map p2/\b.Perm ps:=by
 refine⟨a.map λl=>(l.getD 0 0,l.getD 1 0),?_,?_⟩
 ·rw[v2]
  symm
  conv=>rhs;rw[← List.map_id a]
  apply j7;intro l c;obtain⟨p,_,rfl⟩:=X0.mp (h.mem_iff.mp c);rfl
 ·have:=h.map λl=>(l.getD 0 0,l.getD 1 0)
  rw[v2] at this;have e:((λl:List Int=>(l.getD 0 0,l.getD 1 0)) ∘ p2)=id:=by funext p;rfl
  rw[e,List.map_id] at this;exact this
def Rise(es:List (Int × Int)):Prop:=es.Pairwise ltP
theorem DB(p:Int × Int):¬ ltP p p:=by unfold ltP;lia
theorem rK(p q:Int × Int):ltP p q\/p=q\/ltP q p:=by
 obtain⟨a,b⟩:=p;obtain⟨c,d⟩:=q;unfold ltP;simp only[Prod.mk.injEq];lia
theorem ZI(h:ltP p q)(g:ltP q r):ltP p r:=by unfold ltP at *;lia
theorem nB(c:a.Perm ps)(hn:ps.Nodup)(hs:lexS (a.map p2)):Rise a:=by
 have b:a.Nodup:=c.nodup_iff.mpr hn;unfold lexS at hs;rw[O6] at hs;unfold Rise;refine(List.Pairwise.and hs b).imp λ{p q} h=>?_;have d:¬ ltP q p:=λz=>by rw[(lex2 q p).mpr z] at h;exact absurd h.1 (by simp)
 rcases rK p q with z|z|z
 ·exact z
 ·exact absurd z h.2
 ·exact absurd z d
theorem Rise.nodup(h:Rise es):es.Nodup:=h.imp λ{p q} z (e:p=q)=>DB q (by rw[e] at z;exact z)
theorem Rise.eq:∀{as bs:List (Int × Int)},Rise as->Rise bs->(∀ p,p∈as ↔ p∈bs)->as=bs
 |[],[],_,_,_=>rfl
 |[],b::_,_,_,h=>by have:=(h b).mpr o3;simp at this
 |a::_,[],_,_,h=>by have:=(h a).mp o3;simp at this
 | a::as,b::bs,ha,hb,h=>by
  obtain⟨c,i⟩:=S9.mp ha;obtain⟨d,g⟩:=S9.mp hb;have e:a=b:=by
   rcases D1.mp ((h a).mp o3) with e|e
   ·exact e
   ·rcases D1.mp ((h b).mpr o3) with e2|e2
    ·exact e2.symm
    ·exact absurd (ZI (c b e2) (d a e)) (DB a)
  subst e;have:=Rise.eq i g λp=>by
   have f:=h p;simp only[D1] at f;constructor
   ·intro m;rcases f.mp (.inr m) with e|e
    ·subst e;exact absurd (c p m) (DB p)
    ·exact e
   ·intro m;rcases f.mpr (.inr m) with e|e
    ·subst e;exact absurd (d p m) (DB p)
    ·exact e
  rw[this]
structure WebOk(n:Int)(es:List (Int × Int)):Prop where
 lo:1<=n
 hi:n<=60
 inn:∀ p∈es,0<=p.1/\p.1<p.2/\p.2<n
 rise:Rise es
theorem WebOk.in(h:WebOk n es):InN n es:=λp a=>by
 have:=h.inn p a;lia
theorem BS{n:Nat}{es:List (Int × Int)}(hn:es.Nodup)(hi:∀ p∈es,0<=p.1/\p.1<(n:Int)/\0<=p.2/\p.2<(n:Int)):es.length<=n * n:=by
 have j:(es.map λ(p:Int × Int)=>p.1 * (n:Int)+p.2).Nodup:=by
  unfold List.Nodup;rw[O6];refine kA ?_ hn;intro p q c g d e;have a:=hi p c;have b:=hi q g;apply d;have f:p.1=q.1:=by
   rcases Int.lt_trichotomy p.1 q.1 with z|z|z
   ·have:(p.1+1) * n<=q.1 * n:=Int.mul_le_mul_of_nonneg_right (by lia) (by lia);rw[Int.add_mul] at this;lia
   ·exact z
   ·have:(q.1+1) * n<=p.1 * n:=Int.mul_le_mul_of_nonneg_right (by lia) (by lia);rw[Int.add_mul] at this;lia
  rw[f] at e;exact Prod.ext f (by lia)
 have:=L2.few_places (n * n) _ j λv i=>by
  obtain⟨p,c,rfl⟩:=X0.mp i;have a:=hi p c;have l:0<=p.1 * (n:Int):=Int.mul_nonneg a.1 (by lia);have h:(p.1+1) * (n:Int)<=n * n:=Int.mul_le_mul_of_nonneg_right (by lia) (by lia);rw[Int.add_mul] at h
  push_cast
  lia
 simpa using this
def kE(ps:List (Int × Int)):List (List Key × PyData):=ps.map λp=>([Sum.inl p.1,Sum.inl p.2],.bool true)
def addP(ps:List (Int × Int))(p:Int × Int):List (Int × Int):=if p∈ps then ps else ps++[p]
theorem RH:(kE ps).length=ps.length:=by simp[kE]
theorem DD(ps:List (Int × Int))(a b:Int):putD (kE ps) [Sum.inl a,Sum.inl b] (.bool true)=kE (addP ps (a,b)):=by
 have c:((kE ps).any λe=>decide (e.1=[Sum.inl a,Sum.inl b]))=decide ((a,b)∈ps):=by
  rw[f6,o9,decide_eq_true_iff];constructor
  ·rintro⟨e,f,h⟩;obtain⟨p,d,rfl⟩:=X0.mp f;simp at h;obtain⟨g,p2⟩:=p;simp at h;rw[← h.1,← h.2];exact d
  ·intro h;exact⟨_,X0.mpr ⟨(a,b),h,rfl⟩,by simp⟩
 unfold putD;rw[c];unfold addP;by_cases h:(a,b)∈ps
 ·rw[q0 (by simpa using h),q0 h];unfold kE;rw[v2];apply j7;intro p _;simp only[Function.comp];split <;> rfl
 ·rw[o0 (by simpa using h),o0 h];simp[kE]
theorem addP_mem:q∈addP ps p ↔ q∈ps\/q=p:=by
 unfold addP;split
 ·rename_i h
  exact⟨.inl,λz=>z.elim id λe=>e ▸ h⟩
 ·simp
theorem vP(h:ps.Nodup):(addP ps p).Nodup:=by
 unfold addP;split
 ·exact h
 ·rename_i hn
  rw[B7];exact⟨h,by simp,λx b y a=>by simp at a;subst a;rintro rfl;exact hn b⟩
theorem xH:(addP ps p).length<=ps.length+1:=by
 unfold addP;split <;> simp
theorem nO(ps:List (Int × Int)):(kE ps).map (·.1)=(ps.map p2).map (λns=>ns.map Sum.inl):=by
 unfold kE;rw[v2,v2];rfl
theorem dS:([]:List (List Key × PyData))=kE []:=rfl
theorem VC(ps:List (Int × Int)):(ps.map p2).map tiD=ps.map prD:=by rw[v2];rfl
theorem WI{ps:List (Int × Int)}:∀ ns∈ps.map p2,ns ≠ []:=λns h=>by
 obtain⟨p,_,rfl⟩:=X0.mp h;simp
theorem NC(h:EvA B ta env λds e=>ds=[.list (ps.map prD)]/\∀ a:List (Int × Int),a.Perm ps->lexS (a.map p2)->QO (.own (OL (a.map prD))) e):EvO B (tCB (SA K) ta) env QO :=
 oS (pss:=ps.map p2) WI λσ G H F Q I k=>h σ G H F Q I λvs G' H' F' ds e f g r ⟨d,q⟩=>k vs G' H' F' ds e f g r ⟨by rw[VC];exact d,λi c hs=>by
  obtain⟨a,rfl,b⟩:=AG c;rw[VC];exact q a b hs⟩
theorem ZO(c:Has env i (OT (kE ps)))(q:∀ a:List (Int × Int),a.Perm ps->lexS (a.map p2)->QO (.own (OL (a.map prD))) env):EvO B (tCB eC (Y1 (tVar i) tNil)) env QO :=
 IK c (nO ps) WI λd b hs=>by
  obtain⟨a,rfl,f⟩:=AG b;rw[VC];exact q a f hs
def OW(d:PyData)(ds:List PyData):Own where
 P:=λG H v F=>∃ t l u vs,v=.ref t/\H t=some (.tup [u,.ref l])/\Rp G u d/\H l=some (.lst vs)/\Rps G vs ds/\∀ b,F b ↔ b=t\/b=l
 mono:=λ⟨t,l,u,vs,e,h1,r1,h2,r2,f⟩ g hh=>⟨t,l,u,vs,e,hh t _ ((f t).mpr (.inl rfl)) h1,r1.same g,hh l _ ((f l).mpr (.inr rfl)) h2,r2.same g,f⟩
 dom:=λ⟨t,l,u,vs,e,h1,r1,h2,r2,f⟩ b z=>by
  rcases(f b).mp z with rfl|rfl
  ·exact⟨_,h1⟩
  ·exact⟨_,h2⟩
theorem z9:Frz (OW d ds) (.tuple [d,.list ds]):=λG H v F ⟨t,l,u,vs,e,b,c,a,h,f⟩ n g=>by
 subst e;exact .tup (by rw[u6 ((f t).mpr (.inl rfl))];exact b) (.cons (c.same (V4 n)) (.cons (.lst (by rw[u6 ((f l).mpr (.inr rfl))];exact a) (h.same (V4 n))) .nil))
theorem f7(h:R (.tuple [d,.list ds])):FQ (.own (OW d ds)) R:=⟨_,z9,h⟩
section
variable{B:Bs}{env:En}{QO:Sl->En->Prop}{Q':PyData->En->Prop}{K:Frag}{i j:Nat}{ta te:TE}
theorem GF{u:V}{l:Addr}{ks:List Key}:HO.tup [u,.ref l] ≠ .tup (ks.map kV):=by
 intro z;injection z with z
 match ks,z with
 |[],z=>cases z
 |[_],z=>cases z
 | [_,k],z =>
  simp at z;cases k <;> simp[kV] at z
 |_::_::_::_,z=>simp at z
theorem kO(M:env[j]?=some (some (.own (OL r))))(h:Ev B ta env λd g=>∃ ds,g[j]?=some (some (.own (OL ds)))/\QO (.own (OW d ds)) (g.set j none)):EvO B (tTup (Y1 ta (Y1 (tVar j) tNil))) env QO:=λσ G H F Q I k =>
 h σ G H F _ I λv u x s d g c A L y=>by
  obtain⟨ds,C,q⟩:=y;obtain⟨w,E,⟨l,vs,rfl,i,rs,hf⟩,hb⟩:=c.sl j _ C;refine⟨_,E,⟨by show(2:Nat)<=sizeLine;decide,λp f=>?_⟩⟩;have n:s j l:=(hf l).mpr rfl;have pl:p ≠ l:=(U2 i f).symm;have D:=c.drop j;have K:∀ m a,(a=p\/a=l)->¬ putF s j (λ_=>False) m a:=λm a ha z=>by
   by_cases hm:m=j
   ·subst hm;exact putF_same.mp z
   ·rw[Q3 hm] at z;rcases ha with rfl|rfl
    ·exact c.no_f f m z
    ·exact hm (c.fd m j a z n)
  have J:VI B u (upd x p (.tup [v,.ref l])) σ (g.set j none) (putF s j λ_=>False):=D.grow (Same.refl _) (c.gh.trans (M5 f)) (M5 f) (λa o e=>.inl e) λa ks e=>by
   by_cases z:a=p
   ·subst z;rw[W0] at e;exact absurd (u3 e) GF
   ·rw[J0 z] at e;exact c.ft a ks e
  refine k _ u _ _ (λa=>a=p\/a=l) (.own (OW d ds)) _ J A ⟨⟨p,l,v,vs,rfl,W0,L,by rw[J0 pl.symm];exact i,rs,λb=>Iff.rfl⟩,λa z=>?_,λa z=>?_,λa z=>?_,λm a z=>K m a z⟩ q
  ·rcases z with rfl|rfl
   ·exact c.no_b f
   ·exact hb a n
  ·rcases z with rfl|rfl
   ·exact c.no_g f
   ·exact c.fg j a n
  ·rcases z with rfl|rfl
   ·exact⟨_,W0⟩
   ·exact⟨_,by rw[J0 pl.symm];exact i⟩
theorem x_ow{ds:List PyData}{a:En}{R:List PyData->Prop}(e:a[j]?=some (some (.own (OL ds))))(q:R ds):∃ ds,a[j]?=some (some (.own (OL ds)))/\R ds:=⟨ds,e,q⟩
end
theorem jT(c:env[i]?=some (some (.own (OT a))))(h:Ev B tv env λd b=>Has b i (OT a)/\Ev B ty b λy e2=>∃ es ks,e2[i]?=some (some (.own (OT es)))/\y=tkD ks/\es.length<=999999/\D'.nx (e2.set i (some (.own (OT (putD es ks d)))))):EvS B (tE (tVar i) ty tv) D' env:=XN h
theorem YS(h:R (.st (.bool (HT.lexLt (p2 p) (p2 q))))):Op2 (rLtT K) (prD p) (prD q) R:=λG H d f Q gh a c k=>by
 cases a with
 | tup ha ra =>
  cases c with
  | tup hb rb =>
   have b:=Rps.ints_inv (ns:=p2 p) ra;have e2:=Rps.ints_inv (ns:=p2 q) rb;subst b e2;exact⟨_,_,p2 p,p2 q,rfl,rfl,SqT.of (gh _ _ ha),SqT.of (gh _ _ hb),k _ _ _ _ _ (Out.refl gh (.bl _)) h⟩
theorem rP(p:Int × Int):E1 (prD p)=true:=rfl
theorem EC(ps:List (Int × Int)):plainDs (ps.map prD)=true:=by
 rw[zC];intro d hd;obtain⟨p,_,rfl⟩:=X0.mp hd;rfl
theorem zJ(p q:Int × Int):PyData.eqv (prD p) (prD q)=decide (p=q):=by
 rw[f6,mD _ _ rfl rfl,decide_eq_true_iff];constructor
 ·intro h;simp[prD] at h;exact Prod.ext h.1 h.2
 ·rintro rfl;rfl
theorem lK(ps:List (Int × Int))(q:Int × Int):((ps.map prD).any λz=>PyData.eqv z (prD q))=decide (q∈ps):=by
 rw[f6,o9,decide_eq_true_iff];constructor
 ·rintro⟨d,hd,e⟩;obtain⟨p,a,rfl⟩:=X0.mp hd;rw[zJ] at e;rw[← of_decide_eq_true e];exact a
 ·intro h;exact⟨prD q,X0.mpr ⟨q,h,rfl⟩,by rw[zJ];exact N3 rfl⟩
theorem V9(h:∀ d∈ds,d.depth<=m):PyData.depthAll ds<=m:=by
 induction ds with
 |nil=>simp[PyData.depthAll]
 | cons d ds ih =>
  simp only[PyData.depthAll];exact Nat.max_le.mpr ⟨h d o3,ih λe a=>h e (S2 _ a)⟩
theorem RB(p:Int × Int):(prD p).depth<=1:=by simp[prD,PyData.depth,PyData.depthAll]
theorem xT(ps:List (Int × Int)):PyData.depthAll (ps.map prD)<=1:=V9 λd hd=>by
 obtain⟨p,_,rfl⟩:=X0.mp hd;exact RB p
theorem X5(h:E1 d=true):PyData.eqv d d=true:=(mD d d h h).mpr rfl
theorem JF{α:Type}(R : α->α->Prop)(tr:∀{a b c},R a b->R b c->R a c){xs:List α}:xs.Pairwise R ↔ ∀ i (h:i+1<xs.length),R (xs[i]'(by lia)) xs[i+1]:=by
 constructor
 ·intro h i hi;exact t7.mp h i (i+1) (by lia) hi (by lia)
 ·intro h;rw[t7];intro i j hi d f
  induction j with
  |zero=>lia
  | succ j ih =>
   by_cases e:i=j
   ·subst e;exact h i d
   ·exact tr (ih (by lia) (by lia)) (h j d)
theorem dJ(L:Has env i D)(h:EvA B t env λds g=>∃ A d,Has g i A/\Frz A d/\f (.st d::ds.map Sl.st) λs=>∃ d',s=.st d'/\y9 d'=true/\Q' d' g):Ev B (M3 (spP K f) [] E (Y1 (tVar i) t)) env Q':=λσ G H F Q I k=>by
 unfold M3;simp only[m5];obtain⟨v,l,_⟩:=I.has L;refine⟨v,l,h σ G H F _ I λvs z j m ds g b w x ⟨A,d,C,J,n⟩=>?_⟩;obtain⟨M,c,ap⟩:=b.has C;rw[l] at c;cases c;have js:=V4 (H:=j) (b.fg i);refine⟨jn z j (m i),_,_,wA b.gh,λa ks e=>js _ _ (b.ft a ks e),.cons (s:=.st d) (J _ _ _ _ ap (b.fg i) b.gh) (ArgsOk.of (x.same js)),n,λs q u G' H' Fv o=>?_⟩;obtain⟨d',rfl,hs,q⟩:=q;obtain⟨r,p,y⟩:=b.moment js o;exact k u r H' m d' g y (w.trans p) (CG o.ok.1 hs) q
end VL
namespace VL
open PySem L2
theorem VS(h:EvS B t D' e):EvS B t D' e:=h
theorem iL(h:EvG B g s e Q):EvG B g s e Q:=h
theorem JU(h:EvGs B g s e Q):EvGs B g s e Q:=h
theorem g_Ev(h:Ev B t e Q):Ev B t e Q:=h
theorem sU(h:EvO B t e Q):EvO B t e Q:=h
theorem gO(h:EvT B t e Q):EvT B t e Q:=h
theorem yP(h:EvA B t e Q):EvA B t e Q:=h
theorem ES(h:EvI B t e Q):EvI B t e Q:=h
theorem GK(h:EvOp B t e Q):EvOp B t e Q:=h
theorem IS(h:Op2 r x y R):Op2 r x y R:=h
theorem uS(h:Op1 r x R):Op1 r x R:=h
theorem RL(h:OpA r x R):OpA r x R:=h
theorem g_FQ(h:FQ s R):FQ s R:=h
theorem OK(h:JB ds R):JB ds R:=h
theorem fS(h:jC ds R):jC ds R:=h
structure PsOk(n:Int)(ps:List (Int × Int)):Prop where
 nd:ps.Nodup
 inn:∀ p∈ps,0<=p.1/\p.1<p.2/\p.2<n
def Tr(n:Int)(ps:List (Int × Int)):Prop:=∀ k,1<=k->k<n->∃ h,0<=h/\h<k/\(h,k)∈ps
def Conn(n:Int)(T:Int->Int->Prop):Prop:=∀ u v,0<=u->u<n->0<=v->v<n->∃ k,Gr.Walk T u k v
theorem Tr.conn(h:Tr n ps):Conn n (Tied ps):=by
 have d:∀(m:Nat)(v:Int),v=m->v<n->∃ k,Gr.Walk (Tied ps) 0 k v:=by
  intro m
  induction m using Nat.strongRecOn with
  | ind m ih =>
   intro v i hn;by_cases h0:m=0
   ·subst h0;have:v=0:=by lia
    subst this;exact⟨0,.refl⟩
   ·obtain⟨x,a,b,c⟩:=h v (by lia) hn;obtain⟨k,w⟩:=ih x.toNat (by lia) x (by lia) (by lia);exact⟨k+1,.step w (.inl c)⟩
 intro u v l g v0 f;obtain⟨k,w⟩:=d u.toNat u (by lia) g;obtain⟨j,x⟩:=d v.toNat v (by lia) f;exact⟨k+j,(w.rev λ_ _ t=>t.symm).app x⟩
theorem Conn.joined(h:Conn n (Tied es))(b:0<n):Joined n es:=λv v0 a=>by
 obtain⟨k,w⟩:=h 0 v (by lia) (by lia) v0 a;obtain⟨d,_,hd⟩:=Gr.Dist.of_walk w;exact⟨d,hd⟩
theorem Joined.conn(h:Joined n es):Conn n (Tied es):=λu v a b v0 f=>by
 obtain⟨d,hd⟩:=h u a b;obtain⟨e,c⟩:=h v v0 f;exact⟨d+e,(hd.1.rev λ_ _ t=>t.symm).app c.1⟩
theorem Conn.mono(h:Conn n T)(g:∀ u v,T u v->a u v):Conn n a:=λu v b d v0 f=>by
 obtain⟨k,w⟩:=h u v b d v0 f;exact⟨k,w.rec .refl λ_ t c=>.step c (g _ _ t)⟩
def Order(n:Int)(row:List Int):Prop:=row.Perm ((List.range n.toNat).map λ(i:Nat)=>(i:Int))
theorem Order.len(h:Order n a):a.length=n.toNat:=by have:=h.length_eq;simpa using this
theorem Order.nodup(h:Order n c):c.Nodup:=by
 refine h.nodup_iff.mpr ?_;unfold List.Nodup;rw[O6];exact List.nodup_range.imp λ{a b} d e=>d (by lia)
theorem Order.mem(h:Order n a) :v∈a ↔ 0<=v/\v<n:=by
 rw[h.mem_iff,X0];constructor
 ·rintro⟨i,hi,rfl⟩;have:=U1.mp hi;lia
 ·rintro⟨c,b⟩;exact⟨v.toNat,U1.mpr (by lia),by lia⟩
theorem Order.get(h:Order n b)(d:0<=a)(f:a<n):∃ x,b[a.toNat]?=some x/\M1 b a=some x/\0<=x/\x<n:=by
 have c:a.toNat<b.length:=by rw[h.len];lia
 have e:b[a.toNat]?=some b[a.toNat]:=Y0 c;have:=h.mem.mp (i3 e);exact⟨_,e,t6 d e,this.1,this.2⟩
theorem Order.inj{n:Int}{c:List Int}(h:Order n c){a b x:Int}(a0:0<=a)(b0:0<=b)(ha:c[a.toNat]?=some x)(hb:c[b.toNat]?=some x):a=b:=by
 obtain⟨f,g⟩:=N1.mp ha;obtain⟨d,e2⟩:=N1.mp hb;have:=nodup_ix h.nodup f d (g.trans e2.symm);lia
theorem Order.id(n:Int):Order n ((List.range n.toNat).map λ(i:Nat)=>(i:Int)):=List.Perm.refl _
def V2(row:List Int)(a:Int):Int:=row.getD a.toNat 0
def reP(row:List Int)(p:Int × Int):Int × Int:=if V2 row p.1<V2 row p.2 then (V2 row p.1,V2 row p.2) else (V2 row p.2,V2 row p.1)
theorem Order.at(h:Order n b)(d:0<=a)(f:a<n):b[a.toNat]?=some (V2 b a)/\0<=V2 b a/\V2 b a<n:=by
 obtain⟨x,e,_,x0,c⟩:=h.get d f;have:V2 b a=x:=by unfold V2;rw[aA,e];rfl
 rw[this];exact⟨e,x0,c⟩
theorem Order.ne(h:Order n c)(a0:0<=a)(a1:a<n)(b0:0<=b)(b1:b<n)(d:a ≠ b):V2 c a ≠ V2 c b:=λe=>by
 have f:=(h.at a0 a1).1;have g:=(h.at b0 b1).1;rw[e] at f;exact d (h.inj a0 b0 f g)
theorem PsOk.re(h:PsOk n ps)(o:Order n c):PsOk n (ps.map (reP c)):=by
 have inn:∀ p∈ps,0<=(reP c p).1/\(reP c p).1<(reP c p).2/\(reP c p).2<n:=λp d=>by
  obtain⟨p0,v,p2⟩:=h.inn p d;have a:=o.at p0 (by lia);have b:=o.at (a:=p.2) (by lia) p2;have ne:=o.ne p0 (by lia) (by lia) p2 (by lia);unfold reP;split <;> dsimp only <;> lia
 refine⟨?_,λq f=>by obtain⟨p,d,rfl⟩:=X0.mp f;exact inn p d⟩;unfold List.Nodup;rw[O6];refine kA ?_ h.nd;intro p q d f g e;apply g;obtain⟨p0,v,p2⟩:=h.inn p d;obtain⟨m,w,u⟩:=h.inn q f;have inj:∀ a b,0<=a->a<n->0<=b->b<n->V2 c a=V2 c b->a=b:=λa b a0 a1 b0 b1 e=>by
  apply AC;intro i;exact o.ne a0 a1 b0 b1 i e
 have r:=inj p.1 q.1 p0 (by lia) m (by lia);have j:=inj p.2 q.2 (by lia) p2 (by lia) u;have s:=inj p.1 q.2 p0 (by lia) (by lia) u;have l:=inj p.2 q.1 (by lia) p2 m (by lia);unfold reP at e;split at e <;> split at e <;> simp only[Prod.mk.injEq] at e
 ·exact Prod.ext (r e.1) (j e.2)
 ·have:=s e.1;have:=l e.2;lia
 ·have:=l e.1;have:=s e.2;lia
 ·exact Prod.ext (r e.2) (j e.1)
theorem Tied.re(h:Tied ps u v):Tied (ps.map (reP c)) (V2 c u) (V2 c v):=by
 have d:∀ a b,(a,b)∈ps->Tied (ps.map (reP c)) (V2 c a) (V2 c b):=λa b hm=>by
  have:=List.mem_map_of_mem (f:=reP c) hm;unfold reP at this;dsimp only at this;split at this
  ·exact .inl this
  ·exact .inr this
 rcases h with h|h
 ·exact d u v h
 ·exact(d v u h).symm
theorem Conn.re(h:Conn n (Tied ps))(o:Order n d):Conn n (Tied (ps.map (reP d))):=λu v l j v0 g=>by
 have c:∀ x,0<=x->x<n->∃ a,0<=a/\a<n/\V2 d a=x:=λx x0 m=>by
  obtain⟨i,hi,e⟩:=r8.mp (o.mem.mpr ⟨x0,m⟩);refine⟨i,by lia,by rw[o.len] at hi;lia,?_⟩;unfold V2;simp[hi,e]
 obtain⟨a,a0,a1,rfl⟩:=c u l j;obtain⟨b,b0,b1,rfl⟩:=c v v0 g;obtain⟨k,w⟩:=h a b a0 a1 b0 b1;exact⟨k,w.rec .refl λ_ t f=>.step f t.re⟩
theorem Tied.perm(h:a.Perm ps) :Tied a u v ↔ Tied ps u v:=by unfold Tied;rw[h.mem_iff,h.mem_iff]
theorem WebOk.ps(h:WebOk n es):PsOk n es:=⟨h.rise.nodup,h.inn⟩
theorem zG{α:Type}:∀{l:List α}{k:Nat}{x : α},l[k]?=some x->(x::l.eraseIdx k).Perm l
 |[],_,_,h=>by simp at h
 |a::l,0,x,h=>by simp at h;subst h;exact List.Perm.refl _
 | a::l,k+1,x,h=>by
  have b:=zG (l:=l) (k:=k) (x:=x) (by simpa using h);exact(List.Perm.swap a x _).trans (b.cons a)
theorem rO(h:Order n (a++left))(b:left[k]?=some x):Order n ((a++[x])++left.eraseIdx k):=by
 refine List.Perm.trans ?_ h;rw[m3];refine List.Perm.append_left a ?_;exact zG b
theorem RG(n:Nat):rngD 0 n=((List.range n).map λ(i:Nat)=>(i:Int)).map PyData.int:=by simp[rngD]
theorem n5(f:Frz A d)(h:EvG B g (.st d) env b):EvG B g (.own A) env b:=λσ G H F v Fv Q I x k =>
 h σ _ H F v _ Q (I.freeze x.fb x.fd x.fg) (V6 (f G H v Fv x.ok x.fg I.gh)) λa G' H' F' i c g' q=>k a G' H' F' i c ((V4 x.fg).trans g') q
theorem pI(i:Nat)(h:s=.own A\/s=.st d)(e:env[i]?=some (some s))(f:Frz A d)(q:EvS B t D' (env.set i (some (.st d)))):EvS B t D' env:=by
 rcases h with rfl|rfl
 ·exact ED i e f q
 ·obtain⟨hi,e⟩:=N1.mp e;rw[← e,List.set_getElem_self] at q;exact q
theorem cutR{R X:Prop}(h:R->X)(r:R):X:=h r
end VL
namespace VL
open PySem PySem.Spec L2
def z8(e:En):Prop:=∀(j:Nat)(s:Sl),e[j]?=some (some s)->(∃ d,s=.st d)\/∃ ns:List Int,s=.scr ns
def Sls(K:Frag)(G:Hp)(σ:St)(e:En):Prop:=∀(j:Nat)(s:Sl),e[j]?=some (some s)->∃ v,σ[j]?=some (some v)/\((∃ d,s=.st d/\Rp G v d)\/∃(ns:List Int)(a:Addr),s=.scr ns/\v=.ref a/\SqL K G a (ns.map V.int))
theorem Sls.same(h:Sls K G σ e)(g:Same G G'):Sls K G' σ e:=λj s es=>by
 obtain⟨v,c,q⟩:=h j s es;refine⟨v,c,?_⟩;rcases q with ⟨d,b,r⟩|⟨ns,a,b,e2,r⟩
 ·exact .inl ⟨d,b,r.same g⟩
 ·exact .inr ⟨ns,a,b,e2,g.seq r⟩
def bsC(K:Frag)(G H:Hp)(σ:St):Bs:=⟨K,G,H,H,σ,noF⟩
theorem IF(gh:Same G H)(ft:FT G H)(ln : σ.length=e.length)(sl:Sls K G σ e):VI (bsC K G H σ) G H σ e noF:=by
 refine⟨gh,Same.refl _,λa o e=>.inl e,Same.refl _,Same.refl _,λa o e=>⟨o,e⟩,λi a z=>z.elim,λi a z=>z.elim,λi j a z=>z.elim,λi a z=>z.elim,λi s es=>?_,ln,ft⟩;obtain⟨v,c,q⟩:=sl i s es;refine⟨v,c,?_⟩;rcases q with ⟨d,b,r⟩|⟨ns,a,b,e2,r⟩
 ·subst b;exact⟨r,λa z=>z⟩
 ·subst b;exact⟨⟨a,e2,r⟩,λa z=>z⟩
theorem nC(I:VI B G H σ e F)(c:z8 e)(b:B.K=K:=by rfl):Sls K G σ e:=λj s es=>by
 subst b;obtain⟨v,f,q⟩:=I.sl j s es;refine⟨v,f,?_⟩;rcases c j s es with ⟨d,rfl⟩|⟨ns,rfl⟩
 ·exact .inl ⟨d,rfl,q.1⟩
 ·obtain⟨⟨a,h,g⟩,_⟩:=q;exact .inr ⟨ns,a,rfl,h,g⟩
def LcV2(K:Frag)(src:List (Option Nat))(g:TG)(tif:TT)(wi2:TI)(g2:TG)(tif2:TT)(te:TE)(ds:List PyData)(e1:En)(R:List PyData->Prop):Prop:=∃ J:Nat->List PyData->En->Prop,J 0 [] (V0 src e1)/\(∀ i ys e,J i ys e->z8 e) /\
 (∀ i d ys e,ds[i]?=some d->J i ys e->∀ B':Bs,B'.K=K->EvG B' g (.st d) e λe2=>EvT B' tif e2 λb e3=>if b=true then EvI B' wi2 e3 λds2 e4=>∃ J2:Nat->List PyData->En->Prop,J2 0 ys e4/\(∀ j ys e,J2 j ys e->z8 e) /\
  (∀ j d2 ys2 e,ds2[j]?=some d2->J2 j ys2 e->∀ B2:Bs,B2.K=K->EvG B2 g2 (.st d2) e λe5=>EvT B2 tif2 e5 λb e6=>if b=true then Ev B2 te e6 λy e7=>ys2.length<=999999/\J2 (j+1) (ys2++[y]) e7 else J2 (j+1) ys2 e6)/\(∀ ys2 e,J2 ds2.length ys2 e->J (i+1) ys2 e) else J (i+1) ys e3)/\∀ ys e,J ds.length ys e->R ys
theorem XF(h:EvI B wi env λds w=>LcV2 B.K src g b0 a2 g2 L te ds w λys=>QO (.own (OL ys)) w):EvO B (tLC2 src wi g b0 a2 g2 L te) env QO:=λσ G H F Q I k=>by
 refine h σ G H F _ I λJ G1 H1 N ds w Z g1 it ⟨Jv,j0,jc,js,jd⟩ c l=>?_;have fa:∀ j,¬ N j c:=Z.no_f l;have hb:B.H c=none:=Z.no_b l
 -- between two turns
 let Wv:(List PyData->En->Prop)->List V->St->Hp->Prop:=λJ ys σI H=>∃ f e D,VI B f H σ w N/\Same G1 f/\H c=some (.lst ys)/\Rps f ys D/\f c=none/\J D e/\σI.length=e.length/\Sls B.K f σI e
 -- out of a frame within
 have leave:∀{n H3:Hp}{σI:St}{ys:List V},VI B n H3 σ w N->n c=none->H3 c=some (.lst ys)->∀{O U:Hp}{r:St}{F4:Nat->Addr->Prop}{e4:En},VI (bsC B.K n H3 σI) O U r e4 F4->VI B O U σ w N/\O c=none/\U c=some (.lst ys):=by
  intro n H3 σI ys Y W ac O U r F4 e4 E;refine⟨Y.grow E.g0 E.gh E.rs E.gn E.ft,?_,E.rs _ _ ac⟩;cases e':O c with
  |none=>rfl
  | some u =>
   rcases E.gn c u e' with q|q
   ·change n c=_ at q;rw[W] at q;cases q
   ·change H3 c=_ at q;rw[ac] at q;cases q
 have step:∀{f H2:Hp}{ys:List V}{x:V}{n H3:Hp}{d:PyData},VI B f H2 σ w N->f c=none->H2 c=some (.lst ys)->Out f H2 x n H3 (.st d) (λ_=>False)->VI B n H3 σ w N/\n c=none/\H3 c=some (.lst ys):=by
  intro f H2 ys x n H3 d M W ac o;refine⟨(M.out o).1,?_,o.hh _ _ ac⟩;cases e':n c with
  |none=>rfl
  | some u =>
   rcases o.gn c u e' with q|q
   ·rw[W] at q;cases q
   ·rw[ac] at q;cases q
 refine⟨λi m ys σI H=>m=ds.length-i/\i<=ds.length/\Wv (Jv i) ys σI H,⟨ds.length,by simp,O3 _,?_⟩,?_⟩
 ·refine⟨G1,V0 src w,[],Z.aside (λ_ z=>nomatch z) (Z.no_g l) fa hb,Same.refl _,W0,.nil,Z.no_g l,j0,by simp[pick,V0],λj s e=>?_⟩;obtain⟨i,t,hs,ht,hp⟩:=KD e;obtain⟨v,hv,q⟩:=Z.sl i t ht;refine⟨v,rG hs hv,?_⟩;cases t with
  |st d=>cases hp;exact .inl ⟨d,rfl,q.1⟩
  | scr ns =>
   cases hp;obtain⟨⟨a,ea,sq⟩,_⟩:=q;exact .inr ⟨ns,a,rfl,ea,sq⟩
  |own A=>cases hp;rcases jc _ _ _ j0 j _ e with ⟨d,z⟩|⟨ns,z⟩ <;> cases z
  |io A=>cases hp;rcases jc _ _ _ j0 j _ e with ⟨d,z⟩|⟨ns,z⟩ <;> cases z
 ·rintro i m ys σI H2 ⟨rfl,hi,f,e,D,M,C,R,ry,W,jv,ln,sl⟩;by_cases hlt:i<ds.length
  ·refine .inr ⟨it.go i f H2 C M.gh hlt,Wv (Jv (i+1)),λb9 c1 H' hw=>⟨ds.length-(i+1),by lia,rfl,hlt,hw⟩,λx H3 y=>?_⟩;obtain⟨n,o⟩:=it.yld i f H2 x H3 _ C M.gh M.ft (Y0 hlt) y;obtain⟨Y,b3,b2⟩:=step M W R o;have E3:=IF (K:=B.K) Y.gh Y.ft ln (sl.same o.gg);refine js i _ D e (Y0 hlt) jv (bsC B.K n H3 σI) rfl σI n H3 _ x _ _ E3 (V6 o.ok.1) λr O U F4 e4 E g4 q4=>?_;refine q4 r O U F4 _ E λb G5 H5 F5 e5 I5 g5 q5=>?_;have a9:=ry.same (o.gg.trans (g4.trans g5));have s5:=C.trans (o.gg.trans (g4.trans g5));cases b with
   | false =>
    rw[o0 X1] at q5 ⊢;obtain⟨K5,b7,b8⟩:=leave Y b3 b2 I5;exact⟨G5,e5,D,K5,s5,b8,a9,b7,q5,I5.ln,nC I5 (jc _ _ _ q5)⟩
   | true =>
    rw[q0 rfl] at q5 ⊢;refine q5 r G5 H5 F5 _ I5 λJ2 G6 H6 F6 p e6 I6 g6 P ⟨Jw,w0,wc,ws,wd⟩=>?_;obtain⟨K6,c2,b5⟩:=leave Y b3 b2 I6;have s6:=s5.trans g6;let Wi:Nat->List V->St->Hp->Prop:=λj ys σI H=>∃ f e D,VI B f H σ w N/\Same G6 f/\H c=some (.lst ys)/\Rps f ys D/\f c=none/\Jw j D e/\σI.length=e.length/\Sls B.K f σI e;refine⟨λj m ys σI H=>m=p.length-j/\j<=p.length/\Wi j ys σI H,⟨p.length,by simp,O3 _,G6,e6,D,K6,Same.refl _,b5,a9.same g6,c2,w0,I6.ln,nC I6 (wc _ _ _ w0)⟩,?_⟩;rintro j m zs a0 H7 ⟨rfl,hj,G7,e7,zd,X,T,S,rz,a1,jw,a8,a6⟩;refine⟨S,?_⟩;by_cases hlt2:j<p.length
    ·refine .inr ⟨P.go j G7 H7 T X.gh hlt2,Wi (j+1),λb9 c1 H' hw=>⟨p.length-(j+1),by lia,rfl,hlt2,hw⟩,λx2 H8 y2=>?_⟩;obtain⟨G8,o2⟩:=P.yld j G7 H7 x2 H8 _ T X.gh X.ft (Y0 hlt2) y2;obtain⟨I8,a3,b1⟩:=step X a1 S o2;have E8:=IF (K:=B.K) I8.gh I8.ft a8 (a6.same o2.gg);refine ws j _ zd e7 (Y0 hlt2) jw (bsC B.K G8 H8 a0) rfl a0 G8 H8 _ x2 _ _ E8 (V6 o2.ok.1) λa4 G9 H9 F9 e9 I9 g9 q9=>?_;refine q9 a4 G9 H9 F9 _ I9 λb GA HA FA eA IA gA qA=>?_;cases b with
     | false =>
      rw[o0 X1] at qA ⊢;obtain⟨KA,b4,b6⟩:=leave I8 a3 b1 IA;have sA:=o2.gg.trans (g9.trans gA);exact⟨GA,eA,zd,KA,T.trans sA,b6,rz.same sA,b4,qA,IA.ln,nC IA (wc _ _ _ qA)⟩
     | true =>
      rw[q0 rfl] at qA ⊢;refine qA a4 GA HA FA _ IA λyv GB HB FB dB eB IB gB rB ⟨lB,qB⟩=>?_;obtain⟨KB,a7,c0⟩:=leave I8 a3 b1 IB;have sB:=o2.gg.trans (g9.trans (gA.trans gB));have a5:=rz.same sB;refine⟨c0,by rw[a5.length];exact vC lB (by decide),GB,eB,zd++[dB],KB.aside (λ_ z=>nomatch z) a7 fa hb,T.trans sB,W0,a5.append (.cons rB .nil),a7,qB,IB.ln,nC IB (wc _ _ _ qB)⟩
    ·have ej:j=p.length:=by lia
     subst ej;refine .inl ⟨P.stop _ G7 H7 T X.gh rfl,G7,e7,zd,X,s6.trans T,S,rz,a1,wd _ _ jw,a8,a6⟩
  ·have ei:i=ds.length:=by lia
   subst ei;refine .inl ⟨it.stop _ f H2 C M.gh rfl,?_⟩;refine k (.ref c) f H2 N (· = c) (.own (OL D)) w M (g1.trans C) ⟨⟨c,ys,rfl,R,ry,λb=>Iff.rfl⟩,λa z=>by rw[z];exact hb,λa z=>by rw[z];exact W,λa z=>by rw[z];exact⟨_,R⟩,λj a z=>by rw[z];exact fa j⟩ (jd _ _ jv)
theorem aB(h:z8 e):z8 (stO o::e):=λj s es=>by
 cases j with
 | zero =>
  cases o with
  |none=>simp[stO] at es
  | some d =>
   have:s=.st d:=by simpa[stO] using es.symm
   exact .inl ⟨d,this⟩
 |succ j=>exact h j s (by simpa using es)
theorem NB{α β:Type}{K:Frag}{src:List (Option Nat)}{a:En}{r:TI}{g:TT}{te:TE}{R:List PyData->Prop}{xs:List α}{fx : α->PyData}(c : α->List β)(n : β->PyData)(f : α->β->PyData)(q : α->β->Bool)(T:z8 (V0 src a))
  (hl:(xs.flatMap λx=>((c x).filter (q x)).map (f x)).length<=999999)
  (Z:∀ x∈xs,∀ l:Bs,l.K=K->∀ o,EvI l r (some (.st (fx x))::stO o::V0 src a) λu w=>u=(c x).map n/\w=some (.st (fx x))::stO o::V0 src a)
  (W:∀ x∈xs,∀ y∈c x,∀ l:Bs,l.K=K->EvT l g (some (.st (fx x))::some (.st (n y))::V0 src a) λb e6=>b=q x y/\e6=some (.st (fx x))::some (.st (n y))::V0 src a/\(b=true->Ev l te (some (.st (fx x))::some (.st (n y))::V0 src a) λz e7=>z=f x y/\e7=some (.st (fx x))::some (.st (n y))::V0 src a))
  (X:R (xs.flatMap λx=>((c x).filter (q x)).map (f x))):LcV2 K (none::none::src) (N2 0) tYes r (N2 1) g te (xs.map fx) a R:=by
 refine⟨λi ys e=>ys=(xs.take i).flatMap (λx=>((c x).filter (q x)).map (f x))/\∃ o o',e=stO o::stO o'::V0 src a,⟨by simp,none,none,rfl⟩,?_,?_,?_⟩
 ·rintro i ys e ⟨_,o,o',rfl⟩;exact aB (aB T)
 ·rintro i d ys e hd ⟨rfl,o,o',rfl⟩ l hB;rw[L1] at hd;cases hx:xs[i]? with
  |none=>rw[hx] at hd;cases hd
  | some x =>
   rw[hx] at hd;cases hd;have C:=i3 hx;have S:xs.take (i+1)=xs.take i++[x]:=by rw[S6,hx];rfl
   have L:((xs.take (i+1)).flatMap (λx=>((c x).filter (q x)).map (f x))).length<=999999:=by
    refine W1 ?_ hl
    conv=>rhs;rw[← C5 (i+1) xs,List.flatMap_append,f3]
    exact Nat.le_add_right _ _
   refine P3 (B8 ?_);rw[q0 rfl];show EvI l r (some (.st (fx x))::stO o'::V0 src a) _;intro σ G H F Q I k;refine Z x C l hB o' σ G H F Q I λJ G' H' F' u w A g' N ⟨P,p⟩=>k J G' H' F' u w A g' N ?_;subst P p;refine⟨λj m e=>m=(xs.take i).flatMap (λx=>((c x).filter (q x)).map (f x))++(((c x).take j).filter (q x)).map (f x)/\∃ o',e=some (.st (fx x))::stO o'::V0 src a,⟨by simp,o',rfl⟩,?_,?_,?_⟩
   ·rintro j m e ⟨_,s,rfl⟩;exact aB (o:=some (fx x)) (aB T)
   ·rintro j d2 m e h ⟨rfl,s,rfl⟩ U D;rw[L1] at h;cases hy:(c x)[j]? with
    |none=>rw[hy] at h;cases h
    | some y =>
     rw[hy] at h;cases h;have B:(c x).take (j+1)=(c x).take j++[y]:=by rw[S6,hy];rfl
     refine P3 ?_;show EvT U g (some (.st (fx x))::some (.st (n y))::V0 src a) _;intro σ G H F Q I k;refine W x C y (i3 hy) U D σ G H F Q I λb G' H' F' Y A g' ⟨hb,he,hq⟩=>k b G' H' F' Y A g' ?_;subst he;by_cases hp:b=true
     ·rw[q0 hp];intro σ G H F Q I k;refine hq hp σ G H F Q I λv G' H' F' d' w A g' r' ⟨E,p⟩=>k v G' H' F' d' w A g' r' ?_;subst E p;have M:q x y=true:=by rw[← hb];exact hp
      refine⟨?_,?_,some (n y),rfl⟩
      ·refine W1 ?_ L;rw[S,List.flatMap_append,f3,f3];refine Nat.add_le_add_left ?_ _;simp only[List.flatMap_cons,List.flatMap_nil,m5,R0];exact(List.Sublist.filter (q x) (List.take_sublist j (c x))).length_le
      ·rw[B,List.filter_append,N4,← m3];simp[M]
     ·rw[o0 hp];have O:q x y=false:=by rw[← hb];simpa using hp
      refine⟨?_,some (n y),rfl⟩;rw[B,List.filter_append,N4];simp[O]
   ·rintro m e ⟨rfl,s,rfl⟩;refine⟨?_,some (fx x),s,rfl⟩;rw[S,List.flatMap_append];simp
 ·rintro ys e ⟨rfl,o,o',rfl⟩;rw[R0,Q6];exact X
theorem zR(h:EvT B c env λb e=>if b=true then EvO B ta e QO else EvO B tb e QO):EvO B (tIf c ta tb) env QO:=λσ G H F Q I k =>
 h σ G H F _ I λb j f m n l i q=>by
  cases b with
  |true=>rw[q0 rfl] at q ⊢;exact q σ j f m Q l λv G' H' F' Fv d e a g r z=>k v G' H' F' Fv d e a (i.trans g) r z
  |false=>rw[o0 X1] at q ⊢;exact q σ j f m Q l λv G' H' F' Fv d e a g r z=>k v G' H' F' Fv d e a (i.trans g) r z
theorem OS(h:EvI B m env λds l=>LcV2 B.K src g j i n f te ds l λys=>Q' (.list ys) l):Ev B (tLC2 src m g j i n f te) env Q':=U3 (XF λσ G H F R I k=>h σ G H F R I λJ r o v ds l u p it ⟨s,a,b,c,d⟩=>k J r o v ds l u p it ⟨s,a,b,c,λys e q=>p5 (d ys e q)⟩)
def cR(e:En):Bool:=e.all λo=>match o with|some (.own _)=>false|some (.io _)=>false|_=>true
theorem pC(h:cR e=true):z8 e:=λj s es=>by
 have:=P2.mp h (some s) (i3 es);cases s with
 |st d=>exact .inl ⟨d,rfl⟩
 |scr ns=>exact .inr ⟨ns,rfl⟩
 |own A=>simp at this
 |io A=>simp at this
end VL
namespace VL
open PySem PySem.Spec L2 PyProof.Rows
end VL
namespace VL
open PySem PySem.Spec L2
end VL
namespace L2
open PySem PySem.Spec PyProof.Rows
def isV(k:Int):Value->Bool
 | .int a _=>decide (a=k)
 |_=>false
theorem yF{ns:List Int}{us:List Value}(r:Vals (ns.map V.int) us)(k:Int):∀ i (h:i<us.length) (h':i<ns.length),isV k us[i]=decide (ns[i]=k):=by
 induction ns generalizing us with
 |nil=>intro i h h';simp at h'
 | cons n ns ih =>
  rw[M2] at r;cases r with
  | cons r1 r2 =>
   obtain⟨t,e⟩:=r1;subst e;intro i h h';cases i with
   |zero=>rfl
   |succ i=>exact ih r2 i (by simpa using h) (by simpa using h')
theorem PQ{ns:List Int}{us:List Value}(r:Vals (ns.map V.int) us)(k:Int)(t:Tok):∀ y∈us,MeetsSeq.EqGives y (.int k t) (isV k y):=by
 induction ns generalizing us with
 |nil=>rw[List.map_nil] at r;cases r;intro y a;simp at a
 | cons n ns ih =>
  rw[M2] at r;cases r with
  | cons r1 r2 =>
   obtain⟨u,e⟩:=r1;subst e;intro y a;rcases D1.mp a with rfl|a
   ·exact MeetsSeq.EqGives.int n k u t
   ·exact ih r2 y a
def dG:V->List V->Hp->VK->Prop:=λx vs H Q=>∃(l:Addr)(ns:List Int)(k:Int)(j:Nat),x=.ref l/\vs=[.int k]/\H l=some (.lst (ns.map V.int))/\ns[j]?=some k/\(∀ m,m<j->ns[m]? ≠ some k)/\Q (.int j) H
theorem VD:MtM X "list.index" dG:=by
 intro pins s σ H x vs v us Q I p i h;obtain⟨l,ns,k,j,rfl,rfl,A,o,f,q⟩:=h;cases p;obtain⟨u,rfl,B⟩:=i.one;obtain⟨t,rfl⟩:=B;obtain⟨z,its,n,r,w,e⟩:=I.lstM A;rw[R0] at w z;obtain⟨d,c⟩:=N1.mp o;have C:sizeLine<2 ^ 62:=by decide
 refine call_meets F.slot_list_index ⟨_,e,rfl⟩ F.entry_list_index (F.args_list_index_2 _ _)
  (MeetsSeq.list_index l its.toArray n (.int k t) (isV k) (λy g=>PQ r k t y (by simpa using g)) j (by rw[Q2];lia) (by lia) ?_ (λm hm b=>?_)) ⟨e,?_⟩
 ·rw[List.getElem_toArray,yF r k j (by lia) d,N3 c]
 ·have a:m<ns.length:=by lia
  rw[List.getElem_toArray,yF r k m (by lia) a];exact D3 λe=>f m b (by rw[Y0 a,e])
 ·exact⟨.int j,H,I.tok _,⟨_,rfl⟩,q⟩
end L2
namespace VL
open PySem PySem.Spec L2
theorem zS(h:Ev B tl env λx f=>∃ ns:List Int,x=.list (ns.map .int)/\Ev B te f λy e2=>∃(k:Int)(j:Nat),y=.int k/\ns[j]?=some k/\(∀ m,m<j->ns[m]? ≠ some k)/\Q' (.int j) e2):Ev B (tBM K "list" dG tl (Y1 te tNil)) env Q':=λσ G H F Q I k =>
 h σ G H F _ I λv A o L d f g z J s=>by
  obtain⟨ns,C,l⟩:=s;subst C;cases J with
  | @lst a vs _ ha rs =>
   have E:vs=ns.map V.int:=rs.ints_inv;subst E;refine⟨.inl ⟨rfl,_,SqL.of (g.gh _ _ ha)⟩,l σ A o L _ g λu w H2 F2 y e2 i b r ⟨c,j,p,D,n,q⟩=>?_⟩;subst p;cases r;exact⟨a,ns,c,j,rfl,rfl,i.gh _ _ (b _ _ ha),D,n,k _ w H2 F2 _ e2 i (z.trans b) (.int _) q⟩
theorem mF{α:Type} [DecidableEq α]:∀{as bs:List α},as.Nodup->(∀ a∈as,a∈bs)->as.length<=bs.length
 |[],_,_,_=>O3 _
 | a::as,bs,hn,hs=>by
  have ha:a∈bs:=hs a (o3 ..);have b:=O5.mp hn;have h:=mF (bs:=bs.erase a) b.2 λx c=>(List.mem_erase_of_ne (show x ≠ a from λe=>b.1 (by rw[← e];exact c))).mpr (hs x (S2 _ c));rw[List.length_erase_of_mem ha] at h;have:0<bs.length:=List.length_pos_of_mem ha;simp only[L3];lia
structure But(n:Int)(es rem:List (Int × Int)):Prop where
 rise:Rise es
 inn:∀ p∈es,0<=p.1/\p.1<p.2/\p.2<n
 all:∀ p:Int × Int,0<=p.1->p.1<p.2->p.2<n->p∈es\/p∈rem
end VL
namespace PopT
open PySem PyProof.Rows
section
variable{prog:Program}{w:World}{K:Type} [DecidableEq K] {knd:HeapKind prog w K} {A:Around} {E:Value->Shared->Prop} {s:Shared}
end
end PopT
namespace L2
open PySem PySem.Spec PySem.W PyProof.Rows
end L2
namespace DNe
open PySem PyProof.Rows
end DNe
namespace L2
open PySem PySem.Spec PySem.W PyProof.Rows
end L2
namespace DNe
open PySem PyProof.Rows
end DNe
namespace L2
open PySem PySem.Spec PySem.W PyProof.Rows
end L2
namespace VL
open PySem PySem.Spec L2
theorem mL{α:Type}{K:Frag}{src:List (Option Nat)}{a:En}{te:TE}{c:TT}{R:List PyData->En->Prop}{xs:List α}{f : α->PyData}(g : α->PyData)(p : α->Bool)(n:noIo (V0 src a)=true)(L:xs.length<=999999)
  (h:∀ x∈xs,∀ j:Bs,j.K=K->EvT j c (some (.st (f x))::V0 src a) λb q=>b=p x/\q=some (.st (f x))::V0 src a/\(b=true->Ev j te (some (.st (f x))::V0 src a) λy m=>y=g x/\m=some (.st (f x))::V0 src a))
  (B:R ((xs.filter p).map g) a):LcV K (none::src) (N2 0) c te (xs.map f) a R:=by
 have l:noIo (V0 (none::src) a)=true:=by
  show((none::V0 src a).all λs=>!isIo s)=true;rw[List.all_cons];exact(E5 _ _).mpr ⟨rfl,n⟩
 refine⟨λi ys e=>ys=((xs.take i).filter p).map g/\∃ o,e=stO o::V0 src a,⟨by simp,none,rfl⟩,?_,?_,?_⟩
 ·rintro i ys e ⟨_,o,rfl⟩;exact⟨⟨isIo_stO.symm,R8⟩,u9 iA⟩
 ·rintro i d ys e hd ⟨rfl,o,rfl⟩ j E;rw[L1] at hd;cases hx:xs[i]? with
  |none=>rw[hx] at hd;cases hd
  |some x =>
  rw[hx] at hd;cases hd;have hi:i<xs.length:=(N1.mp hx).1;have w:xs.take (i+1)=xs.take i++[x]:=by rw[S6,hx];rfl
  refine P3 ?_;show EvT j c (some (.st (f x))::V0 src a) _;intro σ G H F Q I k;refine h x (i3 hx) j E σ G H F Q I λb G' H' F' q r g' ⟨hb,A,C⟩=>k b G' H' F' q r g' ?_;subst A;by_cases hp:b=true
  ·rw[q0 hp];intro σ G H F Q I k;refine C hp σ G H F Q I λv G' H' F' d' m r g' D ⟨z,u⟩=>k v G' H' F' d' m r g' D ?_;subst z u;refine⟨?_,?_,some _,rfl⟩
   ·have:=X7 p (xs.take i);simp only[R0];have J:(xs.take i).length<=i:=by simp;lia
    lia
   ·rw[w,List.filter_append,N4];have:p x=true:=by rw[← hb];exact hp
    simp[this]
  ·rw[o0 hp];refine⟨?_,some _,rfl⟩;rw[w,List.filter_append,N4];have:p x=false:=by rw[← hb];simpa using hp
   simp[this]
 ·rintro ys e ⟨rfl,o,rfl⟩;rw[uC l,R0,Q6];exact B
theorem vA(h:Ev B j env λd u=>EvO B n u λs e2=>∃ ds,s=.own (OL ds)/\QO (.own (OW d ds)) e2):EvO B (tTup (Y1 j (Y1 n tNil))) env QO:=λσ G H F Q I k =>
 h σ G H F _ I λv E A M d u K D L y=>y σ E A M _ K λw i H2 F2 Fv s e2 f r x C=>by
  obtain⟨ds,es,q⟩:=C;subst es;obtain⟨l,vs,rfl,g,rs,hf⟩:=x.ok;refine⟨show(2:Nat)<=sizeLine by rw[sizeLine_eq];decide,λp c=>?_⟩;have pl:p ≠ l:=(U2 g c).symm;have J:VI B i (upd H2 p (.tup [v,.ref l])) σ e2 F2:=f.grow (Same.refl _) (f.gh.trans (M5 c)) (M5 c) (λa o e=>.inl e) λa ks e=>by
   by_cases z:a=p
   ·subst z;rw[W0] at e;exact absurd (u3 e) GF
   ·rw[J0 z] at e;exact f.ft a ks e
  refine k _ i _ _ (λa=>a=p\/a=l) (.own (OW d ds)) _ J (D.trans r) ⟨⟨p,l,v,vs,rfl,W0,L.same r,by rw[J0 pl.symm];exact g,rs,λb=>Iff.rfl⟩,λa z=>?_,λa z=>?_,λa z=>?_,λm a z=>?_⟩ q
  ·rcases z with rfl|rfl
   ·exact f.no_b c
   ·exact x.fb a ((hf a).mpr rfl)
  ·rcases z with rfl|rfl
   ·exact f.no_g c
   ·exact x.fg a ((hf a).mpr rfl)
  ·rcases z with rfl|rfl
   ·exact⟨_,W0⟩
   ·exact⟨_,by rw[J0 pl.symm];exact g⟩
  ·rcases z with rfl|rfl
   ·exact f.no_f c m
   ·exact x.fd m a ((hf a).mpr rfl)
theorem VI.changeW(I:VI B G H σ env F)(q:env[i]?=some (some (.own (OW d ds))))(o : σ[i]?=some (some (.ref t)))(j:H t=some (.tup [u,.ref l]))(r:Rp G u d)(m:H l=some (.lst vs))(f:∀ b,F i b ↔ b=t\/b=l)(p:Rps G g a) :
  VI B G (upd H l (.lst g)) σ (env.set i (some (.own (OW d a)))) (putF F i (F i)):=by
 have tl:t ≠ l:=l9 j m (by intro z;cases z)
 refine I.change (A:=OW d a) (H2:=upd H l (.lst g)) (F2:=F i) (os':=.own (OW d a)) i q o (λc w n h=>by rw[J0 (λz:c=l=>n ((f c).mpr (.inr z)))];exact h)
  (λc w h=>by
   by_cases z:c=l
   ·rw[z];exact⟨_,W0⟩
   ·rw[J0 z];exact⟨w,h⟩)
  (λc z=>⟨.inl z,by
   by_cases y:c=l
   ·rw[y];exact⟨_,W0⟩
   ·rw[J0 y];exact I.fo i c z⟩) ?_ (λc ks e=>by
   by_cases z:c=l
   ·subst z;rw[W0] at e;cases e
   ·rw[J0 z] at e;exact I.ft c ks e) (.inl ⟨rfl,_,rfl⟩)
 exact⟨t,l,u,_,rfl,by rw[J0 tl];exact j,r,W0,p,f⟩
theorem JI(c:env[i]?=some (some (.own (OW d ds))))(q:Q' .none (env.set i (some (.own (OW d []))))):Ev B (tBM0 K "list" gI (tOp (A4 K) (tVar i) (tC (.int 1)))) env Q':=λσ G H F Q I k=>by
 obtain⟨v,b,⟨t,l,u,vs,rfl,g,h,a,j,f⟩,hb⟩:=I.sl i _ c;refine⟨_,b,fF g JE ⟨.inl ⟨rfl,_,SqL.of a⟩,l,vs,rfl,rfl,a,?_⟩⟩;exact k _ _ _ _ _ _ (I.changeW c b g h a f .nil) (Same.refl _) .non q
inductive RpF(G:Hp):List (Str × V)->List (Str × PyData)->Prop
 |nil:RpF G [] []
 |cons {x:Str} {u:V} {d:PyData} {us:List (Str × V)} {fs:List (Str × PyData)}:Rp G u d->RpF G us fs->RpF G ((x,u)::us) ((x,d)::fs)
def putP(x:Str)(d:PyData):List (Str × PyData)->List (Str × PyData)
 |[]=>[(x,d)]
 |(y,e)::fs=>if y=x then (y,d)::fs else (y,e)::putP x d fs
theorem RpF.same(h:RpF G us fs)(g:Same G G'):RpF G' us fs:=by
 induction h with
 |nil=>exact .nil
 |cons r _ ih=>exact .cons (r.same g) ih
theorem RpF.get(h:RpF G us fs)(e:fs.lookup x=some d):∃ u,us.lookup x=some u/\Rp G u d:=by
 induction h with
 |nil=>cases e
 | @cons y u d' us fs r _ ih =>
  rw[J3] at e ⊢;cases hx:x == y with
  |true=>rw[hx] at e;cases e;exact⟨u,rfl,r⟩
  |false=>rw[hx] at e;exact ih e
theorem RpF.no(h:RpF G us fs)(e:fs.lookup x=none):us.lookup x=none:=by
 induction h with
 |nil=>rfl
 | @cons y u d' us fs r _ ih =>
  rw[J3] at e ⊢;cases hx:x == y with
  |true=>rw[hx] at e;cases e
  |false=>rw[hx] at e;exact ih e
theorem RpF.length(h:RpF G us fs):us.length=fs.length:=by
 induction h with
 |nil=>rfl
 |cons _ _ ih=>simp[ih]
theorem RpF.put(h:RpF G us fs)(r:Rp G u d):RpF G (L2.putF x u us) (putP x d fs):=by
 induction h with
 |nil=>exact .cons r .nil
 | @cons y u' d' us fs r' hh ih =>
  unfold L2.putF putP;by_cases e:y=x
  ·rw[q0 e,q0 e];first|exact .cons r hh|(rw[e];exact .cons r hh)
  ·rw[o0 e,o0 e];exact .cons r' ih
def OI(C:Addr)(fs:List (Str × PyData)):Own where
 P:=λG H v F=>∃ a dx us,v=.ref a/\H a=some (.ins C dx us)/\H dx=some (.own a)/\RpF G us fs/\∀ b,F b ↔ b=a\/b=dx
 mono:=λ⟨a,dx,us,e,h1,h2,r,f⟩ g hh=>⟨a,dx,us,e,hh a _ ((f a).mpr (.inl rfl)) h1,hh dx _ ((f dx).mpr (.inr rfl)) h2,r.same g,f⟩
 dom:=λ⟨a,dx,us,e,h1,h2,r,f⟩ b z=>by
  rcases(f b).mp z with rfl|rfl
  ·exact⟨_,h1⟩
  ·exact⟨_,h2⟩
theorem l8(h:Has env i (OI C fs))(c:Cls K C)(n:NoAttr K C x)(hd:fs.lookup x=some d)(q:Q' d env):Ev B (tFld K (tVar i) x) env Q':=λσ G H F Q I k=>by
 obtain⟨v,g,a,dx,us,rfl,j,m,r,f⟩:=I.has h;obtain⟨u,b,l⟩:=r.get hd;exact⟨_,g,a,C,dx,us,u,rfl,j,c,n,b,k u G H F d env I (Same.refl _) l q⟩
theorem bU(c:Cls K C)(n:NoAttr K C x)(h:EvO B tv env λs g=>FQ s λd=>∃ s0,g[i]?=some (some s0)/\(s0=.own (OI C fs)\/s0=.io (OI C fs))/\fs.length<1000/\D'.nx (g.set i (some (reS s0 (OI C (putP x d fs)))))):EvS B (sFld K (tVar i) tv x) D' env:=λσ G H F D I r =>
 U3 (te:=tv) (Q':=λd g=>∃ s0,g[i]?=some (some s0)/\(s0=.own (OI C fs)\/s0=.io (OI C fs))/\fs.length<1000/\D'.nx (g.set i (some (reS s0 (OI C (putP x d fs)))))) h σ G H F _ I λy R p M d g l Q N O=>by
  obtain⟨s0,L,hs,S,q⟩:=O;obtain⟨v,u,j⟩:=l.sl i _ L;have ap:(OI C fs).P R p v (M i):=by
   rcases hs with rfl|rfl
   ·exact j.1
   ·exact j.1
  obtain⟨a,dx,us,rfl,E,o,rf,f⟩:=ap;refine⟨_,u,a,C,dx,us,rfl,E,c,n,by rw[rf.length];exact S,?_⟩;have T:a ≠ dx:=l9 E o (by intro z;cases z)
  have J:=l.change (A:=OI C (putP x d fs)) (H2:=upd p a (.ins C dx (L2.putF x y us))) (F2:=M i) (os':=reS s0 (OI C (putP x d fs))) i L u (λb w hb m=>by rw[J0 (λz:b=a=>hb ((f b).mpr (.inl z)))];exact m)
   (λb w m=>by
    by_cases z:b=a
    ·rw[z];exact⟨_,W0⟩
    ·rw[J0 z];exact⟨w,m⟩)
   (λb z=>⟨.inl z,by
    by_cases y:b=a
    ·rw[y];exact⟨_,W0⟩
    ·rw[J0 y];exact l.fo i b z⟩) ⟨a,dx,_,rfl,W0,by rw[J0 T.symm];exact o,rf.put N,f⟩ (λb ks e=>by
    by_cases z:b=a
    ·subst z;rw[W0] at e;cases e
    ·rw[J0 z] at e;exact l.ft b ks e) (by
    rcases hs with rfl|rfl
    ·exact .inl ⟨rfl,_,rfl⟩
    ·exact .inr ⟨rfl,_,rfl⟩)
  exact r.nx _ _ _ _ _ J Q q
theorem Y8(d:Has env i (OI C fs))(hm:fs.lookup m=none)(h:EvA B t env λds g=>∃ s0 A,g[i]?=some (some s0)/\(s0=.own A\/s0=.io A)/\f A (ds.map Sl.st) λA' s=>QO s (g.set i (some (reS s0 A')))):EvO B (t8 C m (spI K f) [] E (tVar i) t) env QO:=λσ G H F Q I k=>by
 obtain⟨v,c,a,dx,us,rfl,l,n,r,p⟩:=I.has d;have j:∃ s,env[i]?=some (some s):=by rcases d with e|e <;> exact⟨_,e⟩
 have:=rD (K:=K) (E:=E) j h σ G H F Q I k;unfold M3 at this;simp only[m5] at this;obtain⟨o,b,q⟩:=this;rw[c] at b;cases b;unfold t8;simp only[m5];exact⟨_,c,a,dx,us,rfl,l,r.no hm,q⟩
theorem g8(b:Has env i (OI C fs))(hm:fs.lookup m=none)(h:EvA B t env λds a=>∃ s0 A,a[i]?=some (some s0)/\(s0=.own A\/s0=.io A)/\f A (ds.map Sl.st) λA' s=>FQ s λd=>Q' d (a.set i (some (reS s0 A')))):Ev B (t8 C m (spI K f) [] E (tVar i) t) env Q':=U3 (Y8 b hm h)
theorem S8{x:Str}{d:PyData}:List.lookup x [(x,d)]=some d:=by rw[J3,beq_self_eq_true]
theorem T5{x m:Str}{d:PyData}(h:(m == x)=false):List.lookup m [(x,d)]=none:=by rw[J3,h];rfl
theorem put1:putP x e [(x,d)]=[(x,e)]:=by unfold putP;rw[q0 rfl]
end VL
namespace L2
open PySem PySem.Spec
structure ObAt(K:Frag)(mg:Str->Option Value)(x:Str)(C:Addr):Prop where
 mgx:mg x=some (.ref C)
 cl:Cls K C
 mks:PySem.W.makesIn K C=true
 kp:keepIn K (.ref C)=true
structure MeAt(K:Frag)(C:Addr)(m qn:Str)(st:Stmt)(ps:List Str)(f:Addr)(fd:FuncData):Prop where
 fn:Fun K m qn st f fd
 me:Meth K C m f
 bd:Binds K fd ps []
structure MeOk(P:Program)(w:World)(K:Frag)(mg:Str->Option Value)(base:Heap)(C:Addr)(m:Str)(k:Nat)(ps:List Str)(sp:Sp)(f:Addr)(fd:FuncData):Prop where
 me:Meth K C m f
 ok:FnOk P w K mg base CX0 k f fd ps sp
 bd:Binds K fd ps []
def CanM(P:Program)(w:World)(K:Frag)(mg:Str->Option Value)(base:Heap)(C:Addr)(m:Str)(k:Nat)(ps:List Str)(sp:Sp):Prop:=∃ f fd,MeOk P w K mg base C m k ps sp f fd
theorem MeAt.can(D:MeAt K C m qn st ps f fd)(ok:FnOk P w K mg base CX0 k f fd ps sp):CanM P w K mg base C m k ps sp:=⟨f,fd,D.me,ok,D.bd⟩
theorem s9(F:CanM X.prog X.w X.K X.mg X.base C m k ps sp)(c:Cls X.K C)(d:Room j X.A)(i:PE X o ta)(ha:PA X (e::es) t)(g:k<=j:=by decide)
  (a:starEach (e::es) X.env=(false,eval e X.env)::starEach es X.env:=by rfl) (b:(backTo pos (starEach es X.env)).any (·.1)=false:=by rfl)
  (h:eval (.Call (.Attribute o m apos) (e::es) [] pos) X.env=(do
   let ov ← eval o X.env
   standAt apos.atName
   let (f,first) ← holding [ov] (getMethod ov m pl)
   callWith pos f first (backTo pos (starEach (e::es) X.env)) (backToKw pos (keywordEach [] X.env))):=by rfl) :
  PE X (.Call (.Attribute o m apos) (e::es) [] pos) (t8 C m sp [] E0 ta t):=by
 obtain⟨f,fd,M⟩:=F;exact yT i c M.me M.ok (d.mono g) M.bd .nil cB ha a b h
theorem m9(F:CanM X.prog X.w X.K X.mg X.base C m k ps sp)(c:Cls X.K C)(a:Room j X.A)(g:PE X o ta)(b:k<=j:=by decide)
  (d:eval (.Call (.Attribute o m apos) [] [] pos) X.env=(do
   let ov ← eval o X.env
   standAt apos.atName
   let (f,first) ← holding [ov] (getMethod ov m pl)
   callWith pos f first (backTo pos (starEach [] X.env)) (backToKw pos (keywordEach [] X.env))):=by rfl) :
  PE X (.Call (.Attribute o m apos) [] [] pos) (t8 C m sp [] E0 ta tNil):=by
 obtain⟨f,fd,M⟩:=F;exact KM g c M.me M.ok (a.mono b) M.bd .nil cB d
theorem tF(F:CanM X.prog X.w X.K X.mg X.base C "__init__" k ps sp)(O:ObAt X.K X.mg x C)(c:Room j X.A)(ha:PA X (e::es) t)(g:k+1<=j:=by decide)(d:Gl X x:=by rfl)(b:(x == ("__debug__" : Str))=false:=by decide)
  (h:starEach (e::es) X.env=(false,eval e X.env)::starEach es X.env:=by rfl) (a:(backTo pos (starEach es X.env)).any (·.1)=false:=by rfl) :
  PE X (.Call (.Name x p) (e::es) [] pos) (gD C sp [] E0 t):=by
 obtain⟨f,fd,M⟩:=F;exact KK ⟨O.mks,M.me.at_,M.me.fn,O.kp⟩ M.ok (c.mono g) d O.mgx M.bd .nil cB ha b h a
end L2
namespace HT
open PySem PySem.Spec PyProof.Rows PySem.Builtin PySem.Builtin.Str
theorem split_push(a:(y.length == 0)=false)(hsz:x.length+2<=sizeLine)
  (h:∀ l k,l.map (·.1)=Txt.split x y->Q (.ref s.heap.objs.size) { s with heap:=s.heap.push { cls:=.type "list",data:=.seq (strValues l).toArray },toks:=k }) :
  wpAny (model prog w) A (call (.builtin "str.split") [.str x t,.str y u]) Q E s:=by
 have hn:(partsBetween x (occurrences x y 0 x.length (x.length+1)) y.length).length<=sizeLine:=by
  have b:=StrLaws.occ_length_le x y 0 x.length (x.length+1);rw[length_partsBetween];lia
 cases h1:(decide (x.length<y.length) || decide (strKind x<strKind y))
 ·cases hf:(occurrences x y 0 x.length (x.length+1)).isEmpty
  ·refine call_meets F.slot_str_split (typeIs_str _ _ _) F.entry_str_split (F.args_str_split_2 _ _) (meets_str_split_sep x y t u h1 a hf (by lia) hn) ?_;show wants Q E _ { s with toks:=_,heap:=s.heap.push { cls:=.type "list",data:=.seq (strsFrom s.toks (partsBetween x (occurrences x y 0 x.length (x.length+1)) y.length)).toArray } };rw[strsFrom_eq];exact h (numbered s.toks _) _ ((numbered_texts _ _).trans ((o0 (ne_true_of_eq_false h1)).trans (o0 (ne_true_of_eq_false hf))).symm)
  ·exact call_meets F.slot_str_split (typeIs_str _ _ _) F.entry_str_split (F.args_str_split_2 _ _) (meets_str_split_not_found x y t u h1 a hf)
    (h [(x,t)] s.toks ((o0 (ne_true_of_eq_false h1)).trans (q0 hf)).symm)
 ·exact call_meets F.slot_str_split (typeIs_str _ _ _) F.entry_str_split (F.args_str_split_2 _ _) (meets_str_split_cannot_occur x y t u h1)
   (h [(x,t)] s.toks (q0 h1).symm)
end HT
namespace L2
open PySem PySem.Spec PyProof.Rows
theorem yI:∀{l:List (Str × Tok)},Vals ((l.map (·.1)).map V.str) (strValues l)
 |[]=>.nil
 |p::r=>.cons ⟨p.2,rfl⟩ (yI (l:=r))
theorem LI:∀{ys:List Str}{us:List Value},Vals (ys.map V.str) us->StrsAre us ys
 |[],[],_=>.nil
 |[],_::_,r=>by cases r
 |_::_,[],r=>by cases r
 | y::ys,u::us,r=>by
  cases r with
  | cons r1 r2 =>
   obtain⟨t,rfl⟩:=r1;exact .cons y t (LI r2)
def oG:V->List V->Hp->VK->Prop:=λx vs H Q=>∃ z y:Str,x=.str z/\vs=[.str y]/\(y.length == 0)=false/\z.length+2<=sizeLine/\(Txt.split z y).length<=sizeLine/\∀ p,H p=none->Q (.ref p) (upd H p (.lst ((Txt.split z y).map V.str)))
theorem fI:MtR X "str.split" oG:=by
 intro pins s σ H x xs v us Q I r rs h;obtain⟨z,y,rfl,rfl,c,a,d,q⟩:=h;obtain⟨t,rfl⟩:=r;obtain⟨u,rfl,f⟩:=W3 rs;obtain⟨g,rfl⟩:=f;refine HT.split_push c a λl k e=>?_;refine⟨.ref s.heap.objs.size,_,I.laid (t':=k) (o:=.lst ((Txt.split z y).map V.str)) (λb u e=>J1 _ e) (M0 _) ⟨by rw[R0];exact d,strValues l,0,?_,D2 _ rfl⟩,rfl,q _ (I.hok.fresh (M0 _))⟩;rw[← e];exact yI
def NI(K:Frag):V->List V->Hp->VK->Prop:=λx vs H Q=>∃(z:Str)(a:Addr)(ys:List Str),x=.str z/\vs=[.ref a]/\SqL K H a (ys.map V.str)/\(ys.map (·.length)).sum+ys.length * z.length<=16777216/\Q (.str (Txt.join z ys)) H
theorem US:MtR X "str.join" (NI X.K):=by
 intro pins s σ H x xs v us Q I r rs h;obtain⟨z,a,ys,rfl,rfl,ha,c,q⟩:=h;obtain⟨t,rfl⟩:=r;obtain⟨u,rfl,f⟩:=W3 rs;cases f;obtain⟨its,d,b,_⟩:=I.list ha;exact join_list b.isList (LI (by simpa using d)) c λt' k=>⟨.str _,H,I.tok k,⟨t',rfl⟩,q⟩
def bJ:List V->Hp->VK->Prop:=λxs H Q=>∃ i,xs=[.int i]/\i.natAbs.log2<1920/\Q (.str (toString i)) H
theorem jU:C2 X (.type "str") bJ:=cN
def Its(x:Str):It:=⟨λi _=>i<x.cps.size,λi H v H'=>H'=H/\∃ c,x.cps[i]?=some c/\v=.str ⟨#[c]⟩,λi _=>i=x.cps.size⟩
theorem dP{P:Program}{w:World}{K:Frag}{tg:Expr}(it:Addr)(x:Str)(t:Tok){T:String}(f:T = "str_ascii_iterator"\/T = "str_iterator"):Turn P w K tg (Its x) [it] it (λi h=>h.IsStrIter it T x t i) where
 mem:=by simp
 obj:=λi h st b hb=>by
  have e:b=it:=by simpa using hb
  subst e;obtain⟨o,e,c,d⟩:=st;exact⟨o,e,λv z=>by rw[d] at z;cases z⟩
 keep:=λi h h' st k=>let ⟨o,e,r⟩:=st;⟨o,k it (by simp) o e,r⟩
 item:=by
  intro X D C n a i pins s σ H E I hf st g;subst D C n;obtain⟨l,f1,J,p,y,j⟩:=hf it (by simp);have W:Walks X.prog X.w X.A it [it] [it] x.cps.size (SignAt x) (λi h=>h.IsStrIter it T x t i):=by
   rcases f with rfl|rfl
   ·exact Walks.strAscii (I.ok.hd a) it x t
   ·exact Walks.strWide (I.ok.hd a) it x t
  refine W.item i s _ _ g st λv h' m G st' F=>?_;obtain⟨c,u,B,rfl⟩:=G;have L:Inv X pins σ H { s with heap:=h',toks:=m }:=I.turned (λb o hb e=>F b o (by simpa using hb) e) l f1 p y j;obtain⟨o,e,cl,d⟩:=id st';exact⟨_,rfl,vB (s:={ s with heap:=h',toks:=m }) e cl d (by rcases f with rfl|rfl <;> decide) ⟨.str ⟨#[c]⟩,H,L,⟨u,rfl⟩,⟨rfl,c,B,rfl⟩,st',λb hb=>(hf b hb).1⟩⟩
 done:=by
  intro X D C n a i pins s σ H E I hf st g;subst D C n;obtain⟨l,f1,J,p,y,j⟩:=hf it (by simp);have W:Walks X.prog X.w X.A it [it] [it] x.cps.size (SignAt x) (λi h=>h.IsStrIter it T x t i):=by
   rcases f with rfl|rfl
   ·exact Walks.strAscii (I.ok.hd a) it x t
   ·exact Walks.strWide (I.ok.hd a) it x t
  have q:i=x.cps.size:=g;subst q;exact W.done s _ _ st λh' m F=>⟨rfl,I.turned (λb o hb e=>F b o (by simpa using hb) e) l f1 p y j⟩
 self:=λA i s Q E st h=>by
  rcases f with rfl|rfl
  ·exact wpAny_pyIter_striter_ascii st h
  ·exact wpAny_pyIter_striter_wide st h
def iStr(tl:TE):TI:=λσ H R=>tl σ H λx H1=>∃ z,x=.str z/\R (Its z) H1
theorem yN(f:PE X l tl):PI X tg l (iStr tl):=by
 intro pins s σ H R I h;refine thn (f pins s σ H _ I h) λv s1 ⟨x,d,a,g,c⟩=>?_;obtain⟨z,e,q⟩:=c;subst e;obtain⟨t,rfl⟩:=g;refine wpAny_pyIter_strU ?_;refine⟨s1.heap.objs.size,[s1.heap.objs.size],_,_,d,rfl,a.kept (t':=s1.toks) λb o e=>J1 _ e,dP (T:=strIterType z) _ z t (by unfold strIterType;split <;> simp),⟨_,D2 _ rfl,rfl,rfl⟩,λb hb=>?_,q⟩;have e:b=s1.heap.objs.size:=by simpa using hb
 subst e;exact a.fpOk (M0 _) (a.hok.fresh (M0 _))
def tF2(m:Str)(ta tb:TE):TE:=λσ H Q=>ta σ H λx H1=>∃ i,x=.int i/\(0<=i/\i<1000000)/\tb σ H1 λy H2=>∃ k,y=.int k/\(0<=k/\k<1000000)/\Q (.str (Str.ofString (toString i)++m++Str.ofString (toString k))) H2
theorem RJ(h:n<1000000):n.log2<1920:=by
 by_cases h0:n=0
 ·subst h0;decide
 ·have:=(Nat.log2_lt h0 (k:=20)).mpr (by lia);lia
theorem II{i:Int}(h:0<=i/\i<1000000):(Str.ofString (toString i)).length<=10:=PySem.W.KT.len_num h.1 (by lia)
theorem sE{i:Int}(h:0<=i/\i<1000000):i.natAbs.log2<1920:=RJ (by lia)
theorem UP(hm:m.length<=1000)(ha:PE X a ta)(hb:PE X b tb):PE X (.JoinedStr [.FormattedValue a (-1) none p1,.Constant (.str m) j p2,.FormattedValue b (-1) none p3] pos) (tF2 m ta tb):=by
 intro pins s σ H Q I h;refine JoinedStr_many ?_;refine joinParts_cons (FormattedValue_plain (thn (ha pins s σ H _ I h) λv s1 ⟨x,f,p,r,i,n,hi,d⟩=>?_));subst n;obtain⟨t,rfl⟩:=r;have A:=II hi;have sz:(20000:Nat)<=sizeLine:=by decide
 refine wpAny_formatField_int (sE hi) ⟨by rw[Str.empty_append];lia,?_⟩;rw[Str.empty_append];refine joinParts_cons (Calls.Constant_str ⟨by rw[strLen_append];lia,?_⟩);show wpAny _ _ (joinParts _ [eval (.FormattedValue b (-1) none p3) X.env]) _ _ _;refine joinParts_cons (FormattedValue_plain (thn (hb pins _ σ f _ (p.tok _) d) λw s2 ⟨y,H2,q,g,k,l,c,o⟩=>?_));subst l;obtain⟨u,rfl⟩:=g;have z:=II c;refine wpAny_formatField_int (sE c) ⟨by rw[strLen_append,strLen_append];lia,?_⟩;exact joinParts_nil ⟨.str _,H2,q.tok _,⟨_,rfl⟩,o⟩ (by rw[strLen_append,strLen_append];lia)
def rInS:R2:=λx y H Q=>∃ i j,x=.str i/\y=.str j/\Q (.bl (!(Builtin.Str.occurrences j i 0 j.length 1).isEmpty)) H
theorem XT:OpR X (compareOp .In) rInS:=SM
def uG:List V->Hp->VK->Prop:=λxs H Q=>∃ z,xs=[.str z]/\z.length<=sizeLine/\Q (.int z.length) H
theorem XE:C2 X (.builtin "len") uG:=rN
def zI:List V->Hp->VK->Prop:=λxs H Q=>∃(z:Str)(n:Int),xs=[.str z]/\PySem.intText? z=some n/\z.length<=640/\Q (.int n) H
theorem vO:C2 X (.type "int") zI:=by
 intro pins s σ H xs us Q I r h;obtain⟨z,n,rfl,hn,a,q⟩:=h;obtain⟨u,rfl,b⟩:=W3 r;obtain⟨t,rfl⟩:=b;exact PySem.W.KIN.call_text hn a ⟨.int n,H,I.tok _,⟨_,rfl⟩,q⟩
end L2
namespace VL
open PySem PySem.Spec L2
def sgnD(x:Str):List PyData:=x.cps.toList.map λc=>.str ⟨#[c]⟩
theorem nQ(h:Ev B te env λd e=>∃ z,d=.str z/\QI (sgnD z) e):EvI B (iStr te) env QI:=λσ G H F R I k =>
 h σ G H F _ I λv m b r d o p j q f=>by
  obtain⟨z,n,a⟩:=f;subst n;cases q;refine⟨z,rfl,k _ m b r (sgnD z) o p j ⟨λi G' H' g h hi=>?_,λi G' H' g h hi=>?_,λi G' H' x H'' d g h ft hd y=>?_⟩ a⟩
  ·have:i<(sgnD z).length:=hi;show i<z.cps.size;simpa[sgnD] using this
  ·have:i=(sgnD z).length:=hi;show i=z.cps.size;simpa[sgnD] using this
  ·obtain⟨e,c,l,ex⟩:=y;subst e ex;have:d=.str ⟨#[c]⟩:=by
    unfold sgnD at hd;rw[L1,V5,l] at hd;cases hd;rfl
   subst this;exact⟨G',Out.refl h (.str _)⟩
theorem qU(h:Ev B ta env λx a=>∃ i,x=.int i/\(0<=i/\i<1000000)/\Ev B tb a λy e2=>∃ k,y=.int k/\(0<=k/\k<1000000)/\Q' (.str (Str.ofString (toString i)++m++Str.ofString (toString k))) e2):Ev B (tF2 m ta tb) env Q':=λσ G H F Q I k =>
 h σ G H F _ I λC p c z x a u o w g=>by
  obtain⟨i,r,hi,b⟩:=g;subst r;cases w;refine⟨i,rfl,hi,b σ p c z _ u λA l H2 F2 y e2 v n f ⟨j,q,d,s⟩=>?_⟩;subst q;cases f;exact⟨j,rfl,d,k _ l H2 F2 _ e2 v (o.trans n) (.str _) s⟩
theorem aO(hi:0<=i/\i<1000000)(h:R (.st (.str (Str.ofString (toString i))))):OpA bJ [.int i] R:=λG H vs Q gh rs k=>by
 cases rs with
 |cons r t=>cases t;cases r;exact⟨i,rfl,sE hi,k _ _ _ _ _ (Out.refl gh (.str _)) h⟩
theorem sQ(hn:PySem.intText? z=some n)(a:z.length<=640)(h:R (.st (.int n))):OpA zI [.str z] R:=λG H vs Q gh rs k=>by
 cases rs with
 |cons r t=>cases t;cases r;exact⟨z,n,rfl,hn,a,k _ _ _ _ _ (Out.refl gh (.int _)) h⟩
theorem kF(a:z.length<=1000000)(h:R (.st (.int z.length))):OpA uG [.str z] R:=λG H vs Q gh rs k=>by
 cases rs with
 |cons r t=>cases t;cases r;exact⟨z,rfl,W1 a (by decide),k _ _ _ _ _ (Out.refl gh (.int _)) h⟩
theorem LR(h:R (.st (.bool (!(Builtin.Str.occurrences y x 0 y.length 1).isEmpty)))):Op2 rInS (.str x) (.str y) R:=λG H c d Q gh a b k=>by
 cases a;cases b;exact⟨x,y,rfl,rfl,k _ _ _ _ _ (Out.refl gh (.bl _)) h⟩
theorem dL(a:x.length<=1000000)(d:M1 x.cps.toList i=some c)(h:R (.st (.str ⟨#[c]⟩))):Op2 rIxS (.str x) (.int i) R:=λG H g j Q gh b f k=>by
 cases b;cases f;exact⟨x,i,c,rfl,rfl,W1 a (by decide),d,k _ _ _ _ _ (Out.refl gh (.str _)) h⟩
theorem Rps.strs:∀(ys:List Str),Rps G (ys.map V.str) (ys.map PyData.str)
 |[]=>.nil
 |y::ys=>.cons (.str y) (Rps.strs ys)
theorem Rps.strs_inv:∀{ys:List Str}{vs:List V},Rps G vs (ys.map PyData.str)->vs=ys.map V.str
 |[],_,.nil=>rfl
 | y::ys,_,.cons r t=>by
  cases r;rw[Rps.strs_inv t];rfl
theorem uJ(h:Ev B ta env λd b=>∃ z,d=.str z/\EvA B (Y1 tb tNil) b λds e2=>∃ y,ds=[.str y]/\(y.length == 0)=false/\z.length<=1000000/\(Txt.split z y).length<=1000000/\QO (.own (OL ((Txt.split z y).map .str))) e2):EvO B (tBM K "str" oG ta (Y1 tb tNil)) env QO:=λσ G H F Q I k =>
 h σ G H F _ I λJ u f E x b C s D n=>by
  obtain⟨z,g,c⟩:=n;subst g;cases D;refine⟨rfl,c σ u f E _ C λvs L H2 F2 ds e2 a q m ⟨y,l,j,i,v,A⟩=>?_⟩;subst l;cases m with
  | cons r t =>
   cases t;cases r;refine⟨z,y,rfl,rfl,j,W1 (Nat.add_le_add_right i 2) (by decide),W1 v (by decide),λp w=>?_⟩;have o:=Out.newL (xs:=(Txt.split z y).map V.str) (ds:=(Txt.split z y).map .str) a.gh w (Rps.strs _);exact k _ _ _ F2 _ _ e2 (a.out o).1 (s.trans (q.trans o.gg)) (a.out o).2 A
theorem WJ(h:Ev B ta env λd a=>∃ z,d=.str z/\EvA B (Y1 tb tNil) a λds e2=>∃ ys:List Str,ds=[.list (ys.map .str)]/\(ys.map (·.length)).sum+ys.length * z.length<=16777216/\Q' (.str (Txt.join z ys)) e2):Ev B (tBM K "str" (NI K) ta (Y1 tb tNil)) env Q':=λσ G H F Q I k =>
 h σ G H F _ I λy q f w x a u p v m=>by
  obtain⟨z,g,c⟩:=m;subst g;cases v;refine⟨rfl,c σ q f w _ u λvs n H2 F2 ds e2 b o l ⟨ys,j,i,s⟩=>?_⟩;subst j;cases l with
  | cons r t =>
   cases t;cases r with
   | lst ha ra =>
    have:=Rps.strs_inv ra;subst this;exact⟨z,_,ys,rfl,rfl,SqL.of (b.gh _ _ ha),i,k _ n H2 F2 _ e2 b (p.trans o) (.str _) s⟩
end VL
namespace Tx
open PySem PySem.StrLaws
def gl(c:Nat):List (List Nat)->List Nat
 |[]=>[]
 |[w]=>w
 |w::v::r=>w++c::gl c (v::r)
theorem aD(c:Nat):∀(ws:List Str),(Str.join ⟨#[c]⟩ ws).cps.toList=gl c (ws.map (·.cps.toList))
 |[]=>rfl
 |[w]=>rfl
 | w::v::r=>by
  show(w ++ ⟨#[c]⟩ ++ Str.join ⟨#[c]⟩ (v::r)).cps.toList=_;rw[Str.cps_append,Str.cps_append,W4,W4,aD c (v::r)];simp[gl]
theorem vI:∀{a b x y:List Nat},c ∉ a->c ∉ b->a++c::x=b++c::y->a=b/\x=y
 |[],[],_,_,_,_,e=>⟨rfl,by simpa using e⟩
 | [],d::b,_,_,_,hb,e=>by
  simp at e;exact absurd (by rw[e.1];simp) hb
 | d::a,[],_,_,ha,_,e=>by
  simp at e;exact absurd (by rw[← e.1];simp) ha
 | d::a,f::b,x,y,ha,hb,e=>by
  simp at e;obtain⟨i,g⟩:=vI (a:=a) (b:=b) (λh=>ha (S2 _ h)) (λh=>hb (S2 _ h)) e.2;exact⟨by rw[e.1,i],g⟩
theorem oH:∀{ws vs:List (List Nat)},ws ≠ []->vs ≠ []->(∀ w∈ws,c ∉ w)->(∀ v∈vs,c ∉ v)->gl c ws=gl c vs->ws=vs
 |[],_,h,_,_,_,_=>absurd rfl h
 |_::_,[],_,h,_,_,_=>absurd rfl h
 |[w],[v],_,_,_,_,e=>by rw[show w=v from e]
 | [w],v::u::r,_,_,hw,_,e=>by
  have e:w=v++c::gl c (u::r):=e;exact absurd (by rw[e];simp) (hw w (by simp))
 | w::u::r,[v],_,_,_,hv,e=>by
  have e:w++c::gl c (u::r)=v:=e;exact absurd (by rw[← e];simp) (hv v (by simp))
 | w::u::r,v::z::s,_,_,hw,hv,e=>by
  have e:w++c::gl c (u::r)=v++c::gl c (z::s):=e;obtain⟨d,b⟩:=vI (hw w (by simp)) (hv v (by simp)) e;rw[d,oH (by simp) (by simp) (λx a=>hw x (S2 _ a)) (λx a=>hv x (S2 _ a)) b]
theorem eP(x y:Str):Txt.split x y ≠ []:=by
 unfold Txt.split;split
 ·simp
 ·split
  ·simp
  ·rw[partsBetween_eq];obtain⟨p,r,e⟩:=partsFrom_ne x y.length 0 _;rw[e];simp
theorem WF:∀{ws vs:List Str},ws.map (·.cps.toList)=vs.map (·.cps.toList)->ws=vs
 |[],[],_=>rfl
 |[],_::_,e=>by simp at e
 |_::_,[],e=>by simp at e
 | w::ws,v::vs,e=>by
  simp only[M2,List.cons.injEq] at e;have:w=v:=by
   cases w;cases v;congr 1;exact Array.toList_inj.mp e.1
  rw[this,WF e.2]
theorem mI(h:ws ≠ [])(hf:∀ w∈ws,c ∉ w.cps.toList):Txt.split (Txt.join ⟨#[c]⟩ ws) ⟨#[c]⟩=ws:=by
 have f:Txt.join ⟨#[c]⟩ ws=Str.join ⟨#[c]⟩ ws:=glued_eq_join _ _;rw[f];have e2:=join_split (Str.join ⟨#[c]⟩ ws) ⟨#[c]⟩;have d:=congrArg (λs:Str=>s.cps.toList) e2;simp only[aD] at d;refine WF (oH (c:=c) ?_ ?_ ?_ ?_ ?_)
 ·simp[eP]
 ·simpa using h
 ·intro w b;obtain⟨p,a,rfl⟩:=X0.mp b;exact split_free _ c p a
 ·intro w b;obtain⟨p,a,rfl⟩:=X0.mp b;exact hf p a
 ·rw[← d]
def nS(i:Int):Str:=Str.ofString (toString i)
def figs:Str:="0123456789"
def okN(i:Nat):Bool:=((nS i).length == 1 || (nS i).length == 2) && ((nS i).cps.toList.all λc=>!(Builtin.Str.occurrences figs ⟨#[c]⟩ 0 figs.length 1).isEmpty && c != 45 && c != 32) && ((nS i).length != 2 || (nS i).cps.toList.head? != some 48)
theorem PP:(List.range 100).all okN=true:=by decide +kernel
theorem mN{i:Int}(b:0<=i)(a:i<100):okN i.toNat=true:=P2.mp PP _ (U1.mpr (by lia))
end Tx
namespace HT
open PySem PySem.Spec PySem.Calls PyProof.Rows PySem.W
theorem unpack_star(v:s.heap.IsList l items)(hh:A.handled=none)(hi:i<=items.size)(D:items.size<=sizeLine)
  (h:∀ h' y,Heap.ExtBut s.heap.objs.size s.heap h'->Q (items.toList.take i++[.ref h'.objs.size]) { s with heap:=h'.push { cls:=.type "list",data:=.seq (items.toList.drop i).toArray },toks:=y }):wpAny (model prog w) A (unpackItems (.ref l) (i+1) (some i)) Q E s:=by
 have q:l ≠ s.heap.objs.size:=by obtain⟨o,F,_⟩:=v;exact O1 (L0 F)
 unfold unpackItems;refine C0 ?_;unfold notIterableAtAll;refine C0 (wpAny_specialOf v.typeIs slot_list_iter.lookup ?_);refine N0 ?_;simp only[Bool.false_eq_true,if_false];refine C0 (w5 (e8 v ?_));refine C0 (w5 (kun_draw q i 0 _ _ ⟨_,D2 _ rfl,rfl,rfl⟩ (v.push _) (by lia) λn a g=>?_));have c:n.IsList l items:=(v.push _).extBut g.extBut q;rw[Nat.zero_add] at a;have f:=a;obtain⟨J,z,_⟩:=f;have m:=c;obtain⟨I,B,_⟩:=m;rw[List.drop_zero];have C:(items.toList.take i).length=i:=by rw[Q7,iC];lia
 rw[o0 (show ¬ ((items.toList.take i).length<i) by rw[C];lia)];refine C0 (w5 (kun_collect (s:={ s with heap:=n }) (T:="list_iterator") (.inr (.inr (.inl rfl))) (Walks.list (A:=A.in1) hh s.heap.objs.size l q items) (λj u st=>st.1.typeIs) (k:=i) (by lia) ⟨a,c⟩ (L0 z) (L0 B) (λp y H=>?_) D));have x:(items.toList.drop i).length=items.size-i:=by rw[aC,iC]
 have r:(items.toList.drop i).length-(i+1-1-i)=(items.toList.drop i).length:=by lia
 show wpAny _ _ (if (items.toList.drop i).length<i+1-1-i then _ else _) _ _ _;rw[o0 (by lia)];show wpAny _ _ (newList ((items.toList.drop i).take ((items.toList.drop i).length-(i+1-1-i))) >>= λd=>pure (items.toList.take i++[d]++(items.toList.drop i).drop ((items.toList.drop i).length-(i+1-1-i)))) _ _ _;rw[r,Q6,List.drop_length];have G:Heap.ExtBut s.heap.objs.size s.heap p:=λb o hb e=>H b o hb (g.extBut b o hb (J1 _ e));refine C0 (wpAny_newList ?_ (by rw[x];lia));refine N0 ?_;rw[m5];exact h p y G
end HT
namespace L2
open PySem PySem.Spec PyProof.Rows
def YI(K:Frag)(g1 g2:TG):TG:=λv σ H Q=>∃ a x xs,v=.ref a/\SqL K H a (x::xs)/\∀ p,H p=none->g1 x σ (upd H p (.lst xs)) λσ1 H1=>g2 (.ref p) σ1 H1 Q
theorem KF(C:X.calm=true)(J:PG X c m)(w:PG X e2 l)
  (hn:(assignEach [c,.Starred e2 sp] X.env).length=1+1:=by rfl) (f:(assignEach [c,.Starred e2 sp] X.env).findIdx? (·.1)=some 1:=by rfl) (hm:(assignEach [c,.Starred e2 sp] X.env).map (·.2)=[assign c X.env,assign e2 X.env]:=by rfl) :
  PG X (.Tuple [c,.Starred e2 sp] k pos) (YI X.K m l):=by
 intro pins s σ H v u Q I r i;obtain⟨a,x,xs,L,D,i⟩:=i;subst L;cases r;obtain⟨its,A,G,z⟩:=I.list D;cases A with
 | @cons _ v0 _ vr r0 rr =>
  rw[assign_Tuple];refine C0 (wpAny_standAt ?_);unfold unpack;rw[hn,f,hm];have B:=rr.length;have d:(v0::vr).length<=sizeLine:=by simp at z ⊢;lia
  refine C0 (w5 (HT.unpack_star G.isList (I.ok.hd C) (by simp) (by simpa using d) λh' h E=>?_));have n:Inv X pins σ H { s with heap:=h',toks:=h }:=I.kept (t':=h) λb o e=>E b o (O1 (L0 e)) e;have hf:H h'.objs.size=none:=n.hok.fresh (M0 _);have N:=n.laid (t':=h) (o:=.lst xs) (h':=h'.push { cls:=.type "list",data:=.seq vr.toArray }) (λb u e=>J1 _ e) (M0 h'.objs.size) ⟨by simp at d;lia,vr,0,rr,D2 _ rfl⟩;show wpAny _ _ (assignInOrder [assign c X.env,assign e2 X.env] [v0,.ref h'.objs.size]) _ _ _;refine assignInOrder_cons (thn (J pins _ σ _ _ _ _ N r0 (i _ hf)) λ_ s1 ⟨g,y,q,p⟩=>?_);refine assignInOrder_cons (thn (w pins s1 g y _ _ _ q (show RelV (.ref h'.objs.size) (.ref h'.objs.size) from rfl) p) λ_ s2 ⟨j,H2,F,M⟩=>?_);exact assignInOrder_nil ⟨j,H2,F,M⟩
end L2
namespace VL
open PySem PySem.Spec L2
theorem EI(h:EvG B c (.own (OL ds)) (env.set i (some (.st d))) QE):EvG B (YI K (N2 i) c) (.st (.list (d::ds))) env QE:=λσ G H F v Fv Q I x k=>by
 obtain⟨r,_⟩:=x.ok;cases r with
 | lst ha rs =>
  cases rs with
  | cons r0 rr =>
   refine⟨_,_,_,rfl,SqL.of (I.gh _ _ ha),λp g=>?_⟩;have o:=Out.newL I.gh g rr;have l:=(I.out o).1;have b:=(I.out o).2;have f:=l.store (V6 r0) i;refine h _ _ _ _ _ _ _ f ⟨b.ok,b.fb,b.fg,b.fo,λj a z y=>?_⟩ k;by_cases hj:j=i
   ·subst hj;exact(putF_same.mp y).elim
   ·rw[Q3 hj] at y;exact b.fd j a z y
end VL
namespace L2
open PySem PySem.Spec PyProof.Rows
end L2
namespace VL
open PySem PySem.Spec L2
end VL
namespace L2
open PySem PySem.Spec PyProof.Rows
end L2
namespace VL
open PySem PySem.Spec L2
end VL
namespace L2
open PySem PySem.Spec PyProof.Rows
def BH(K:Frag):List V->Hp->VK->Prop:=λxs H Q=>∃ p ys,xs=[.ref p]/\SqL K H p ys/\∀ l,H l=none->Q (.ref l) (upd H l (.tup ys))
theorem FR:C2 X (.type "tuple") (BH X.K):=by
 intro pins s σ H xs us Q I r h;obtain⟨p,ys,e,hs,q⟩:=h;exact HK pins s σ H xs us Q I r ⟨p,ys,e,.inl ⟨hs,q⟩⟩
end L2
namespace VL
open PySem PySem.Spec L2
theorem iU(h:R (.st (.tuple ds))):OpA (BH K) [.list ds] R:=λG H vs Q gh rs k=>by
 cases rs with
 | cons r t =>
  cases t;cases r with
  | lst ha ra =>
   refine⟨_,_,rfl,SqL.of (gh _ _ ha),λp a=>?_⟩;exact k _ _ _ _ _ (Out.newT gh a ra) h
structure Sm(b k:Nat)(d:PyData):Prop where
 lay:d.canLay0=true
 sh:d.showable=true/\d.shown.length<=b
 dp:d.depth<=k
end VL
namespace L2
open PySem PySem.W PyProof.Rows
def rIsB:R2:=λx y H Q=>∃ b c,x=.bl b/\y=.bl c/\Q (.bl (decide (b=c))) H
theorem wR:OpR X (compareOp .Is) rIsB:=by
 intro pins s σ H x y v u Q I a d h;obtain⟨b,c,rfl,rfl,q⟩:=h;cases a;cases d;refine wpAny_is_plain rfl (E2 I q ?_);cases b <;> cases c <;> rfl
end L2
namespace VL
open PySem PySem.Spec L2
theorem eT(h:R (.st (.bool (decide (b=c))))):Op2 rIsB (.bool b) (.bool c) R:=λG H f g Q gh a d k=>by
 cases a;cases d;exact⟨b,c,rfl,rfl,k _ _ _ _ _ (Out.refl gh (.bl _)) h⟩
end VL
namespace L2
open PySem PySem.Spec PyProof.Rows
theorem HM(r:Addr)(a b c:Int)(t u v:Tok)(hs:¬ ((!(Builtin.Range.rangeFitsLong a && Builtin.Range.rangeFitsLong b && Builtin.Range.rangeFitsLong c && Builtin.Range.rangeFitsLong (-c) && Builtin.Range.rangeFitsLong (a-c) && Builtin.Range.rangeFitsLong (Builtin.Range.rangeSize a b c)))=true)) :
  Meets (Builtin.«range.__reversed__» ⟨[.ref r],[]⟩) (λ_ R s=>s.heap.get? r=some { cls:=.type "range",dict:=none,data:=.fields #[.int a t,.int b u,.int c v],slots:=#[] } /\
   R (.ok (.ret (Value.ref s.heap.objs.size))) { s with heap:=s.heap.push { cls:=Value.type (if (Builtin.Range.rangeFitsLong a && Builtin.Range.rangeFitsLong b && Builtin.Range.rangeFitsLong c && Builtin.Range.rangeFitsLong (-c) && Builtin.Range.rangeFitsLong (a-c) && Builtin.Range.rangeFitsLong (Builtin.Range.rangeSize a b c))=true then "range_iterator" else "longrange_iterator"),data:=.fields #[rawInt (a+(Builtin.Range.rangeSize a b c-1) * c),rawInt (Builtin.Range.rangeSize a b c),rawInt (-c)] } }) :=
 .of_wp λprog w A R s h=>by obtain⟨i,g,d,f,os⟩:=s;obtain⟨j,h⟩:=h;wp_walk;exact⟨_,rfl,h⟩
theorem LS:isSubtype (.type "range_iterator") (.type "reversed")=pure false:=by rw[isSubtype_type];kernel_rfl
theorem uQ(c : -(2 ^ 62)<=j)(b:j<2 ^ 62):(Builtin.Range.rangeFitsLong 0 && Builtin.Range.rangeFitsLong j && Builtin.Range.rangeFitsLong 1 && Builtin.Range.rangeFitsLong (-1) && Builtin.Range.rangeFitsLong (0-1) && Builtin.Range.rangeFitsLong (Builtin.Range.rangeSize 0 j 1))=true:=by
 have e:=rangeSize_one 0 j;have h:Builtin.Range.rangeSize 0 j 1=if 0<j then j-0 else 0:=by rw[e]
 have b1:Builtin.Range.rangeFitsLong j=true:=by unfold Builtin.Range.rangeFitsLong;simp;lia
 have a:Builtin.Range.rangeFitsLong (Builtin.Range.rangeSize 0 j 1)=true:=by rw[h];unfold Builtin.Range.rangeFitsLong;split <;> simp <;> lia
 rw[b1,a];rfl
theorem kU(j:Int):Builtin.Range.rangeSize 0 j 1=(j.toNat:Int):=by rw[rangeSize_one];split <;> lia
theorem kK(a:IsRange s.heap r 0 j 1 t u v)(c : -(2 ^ 62)<=j)(b:j<2 ^ 62)
  (h:Q (.ref s.heap.objs.size) { s with heap:=s.heap.push { cls:=.type "range_iterator",data:=.fields #[rawInt ((j.toNat:Int)-1),rawInt (j.toNat:Int),rawInt (-1)] } }):wpAny (model prog w) A (call (.builtin "range.__reversed__") [.ref r]) Q E s:=by
 have d:s.TypeIs (.ref r) "range":=⟨_,a,rfl⟩
 have hf:=uQ c b;refine call_meets F.slot_range_reversed d F.entry_range_reversed (F.args_range_reversed_1 _) (HM r 0 j 1 t u v (by rw[hf];decide)) ⟨a,?_⟩;rw[hf,q0 rfl,kU,u8,Int.mul_one];exact h
theorem qM(b:IsRange s.heap r 0 j 1 t u v)(d : -(2 ^ 62)<=j)(c:j<2 ^ 62)
  (h:Q (.ref s.heap.objs.size) { s with heap:=s.heap.push { cls:=.type "range_iterator",data:=.fields #[rawInt ((j.toNat:Int)-1),rawInt (j.toNat:Int),rawInt (-1)] } }) :
  codeAny (model prog w) A (.call (.builtin "reversed.__new__") ⟨[.type "reversed",.ref r],[]⟩) (wants Q E) s:=by
 have f:s.TypeIs (.ref r) "range":=⟨_,b,rfl⟩
 refine codeAny_of_tree ?_;show wpAny _ A.in1 (do checkBuiltinCall "reversed.__new__" ⟨[.type "reversed",.ref r],[]⟩;again (.builtin "reversed.__new__" ⟨[.type "reversed",.ref r],[]⟩)) _ _ s;refine C0 (wpAny_of_eq (F.newCall_reversed_1 _) (N0 ⟨plainId_quiet F.plain_reversed_new _,nA F.entry_reversed_new ?_⟩));rw[pA F.plain_reversed_new _];unfold Builtin.«reversed.__new__»;refine C0 (wpAny_of_eq (newClass_reversed _) ?_);try dsimp only
 refine C0 (wpAny_of_eq (a:=()) (by first|rfl|kernel_rfl) ?_);refine C0 (wpAny_of_eq (a:=()) (by first|rfl|kernel_rfl) ?_);try dsimp only
 refine C0 (wpAny_specialOf f F.slot_range_reversed.lookup ?_);try dsimp only
 refine C0 (wpAny_of_eq (F.slot_range_reversed.bind _) ?_);try dsimp only
 first
 |rw[o0 (show ¬ ((Value.builtin "range.__reversed__" == Value.none)=true) from X1)]
 |(show wpAny _ _ (if (Value.builtin "range.__reversed__" == Value.none)=true then _ else _) _ _ _;rw[o0 (show ¬ ((Value.builtin "range.__reversed__" == Value.none)=true) from X1)])
 refine C0 (wpAny_rule ?_);refine C0 (m:=runValue (.call (.builtin "range.__reversed__") ⟨[.ref r],[]⟩)) (show wpAny _ _ (call (.builtin "range.__reversed__") [.ref r]) _ _ _ from kK b d c ?_);first
 |exact N0 h
 |exact C0 (N0 (N0 h))
theorem NM(b:IsRange s.heap r 0 j 1 t u v)(d : -(2 ^ 62)<=j)(c:j<2 ^ 62)
  (h:Q (.ref s.heap.objs.size) { s with heap:=s.heap.push { cls:=.type "range_iterator",data:=.fields #[rawInt ((j.toNat:Int)-1),rawInt (j.toNat:Int),rawInt (-1)] } }):wpAny (model prog w) A (call (.type "reversed") [.ref r]) Q E s:=by
 refine callType_other (U:="range_iterator") (Q₁:=λobj a=>obj=.ref s.heap.objs.size/\a={ s with heap:=s.heap.push { cls:=.type "range_iterator",data:=.fields #[rawInt ((j.toNat:Int)-1),rawInt (j.toNat:Int),rawInt (-1)] } }) (by decide +kernel) F.create_reversed ⟨_,_,F.mro_reversed⟩ F.made_reversed LS (F.typeCall_reversed_1 _) (qM b d c ⟨rfl,rfl⟩) ?_;rintro obj a ⟨rfl,rfl⟩;exact⟨⟨_,D2 _ rfl,rfl⟩,h⟩
def Itn(n:Nat):It:=⟨λi _=>i<n,λi H x H'=>H'=H/\x=.int ((n:Int)-1-i),λi _=>n<=i⟩
theorem nM{P:Program}{w:World}{K:Frag}{tg:Expr}(it:Addr)(n:Nat):Turn P w K tg (Itn n) [it] it (λi h=>IsRangeIter h it (((n:Int)-1)+(i:Nat) * (-1)) ((n:Int)-(i:Nat)) (-1)) where
 mem:=by simp
 obj:=λi h st b hb=>by
  have e:b=it:=by simpa using hb
  subst e;exact⟨_,st,λv z=>by
   have r:Data.fields _=Data.cell v:=z;cases r⟩
 keep:=λi h h' st k=>k it (by simp) _ st
 item:=by
  intro X p m f j i pins s σ H E I hf st a;subst p m f;obtain⟨d,f1,y,g,l,c⟩:=hf it (by simp);have W:=Walks.range (prog:=X.prog) (w:=X.w) (I.ok.hd j) it ((n:Int)-1) (-1) n;refine W.item i s _ _ a st λv h' q x st' B=>?_;obtain⟨t,rfl⟩:=x;have A:Inv X pins σ H { s with heap:=h',toks:=q }:=I.turned (λb o hb e=>B b o (by simpa using hb) e) d f1 g l c;refine⟨_,rfl,vB (s:={ s with heap:=h',toks:=q }) (n:="range_iterator") st' rfl rfl (by decide) ⟨.int ((n:Int)-1-i),H,A,⟨t,?_⟩,⟨rfl,rfl⟩,st',λb hb=>(hf b hb).1⟩⟩;rw[show(n:Int)-1+(i:Int) * -1=(n:Int)-1-i by lia]
 done:=by
  intro X p m f j i pins s σ H E I hf st a;subst p m f;obtain⟨d,f1,y,g,l,c⟩:=hf it (by simp);exact wpAny_pyNext_range_end (I.ok.hd j) st (by have:n<=i:=a;lia) λh' u=>⟨rfl,I.turned (t':=s.toks) (λb o hb e=>u b o hb e) d f1 g l c⟩
 self:=λ_ _ _ _ _ st h=>wpAny_pyIter_rangeiter st h
def aH(ta:TA):TI:=λσ H R=>ta σ H λvs H1=>∃ j:Int,vs=[.int j]/\-(2 ^ 62)<=j/\j<2 ^ 62/\R (Itn j.toNat) H1
theorem FJ(i:Gl X "reversed")(g:X.mg "reversed" = none)(u:Gl X "range")(hm:X.mg "range" = none)(ha:PA X [a] n)(hs:starEach [a] X.env=[(false,eval a X.env)]:=by rfl)
  (d:starEach [.Call (.Name "range" p) [a] [] pos] X.env=[(false,eval (.Call (.Name "range" p) [a] [] pos) X.env)]:=by rfl):PI X tg (.Call (.Name "reversed" p2) [.Call (.Name "range" p) [a] [] pos] [] c) (aH n):=by
 intro pins s σ H R I h;refine Call_ (p6 I i g boot_reversed (PyProof.Rows.callWith_type1 ?_ d rfl));rw[d];show wpAny _ _ (spliced ((false,eval (.Call (.Name "range" p) [a] [] pos) X.env)::backTo c [])) _ _ s;refine Calls.spliced_cons ?_;refine Call_ (p6 I u hm boot_range (PyProof.Rows.callWith_type1 (thn (ha pos pins s σ H _ I h) λus s1 ⟨vs,m,w,x,f⟩=>?_) hs rfl));obtain⟨j,e,f,v,q⟩:=f;subst e;cases x with
 | cons r rr =>
  cases rr;obtain⟨t,rfl⟩:=r;refine call_range_1 ?_;refine Calls.spliced_nil ?_;refine NM (IsRange.new ..) f v ?_;have l:Inv X pins σ m { s1 with heap:=s1.heap.push { cls:=.type "range",data:=.fields #[.int 0 s1.toks,.int j t,.int 1 (s1.toks+1)] },toks:=s1.toks+1+1 }:=w.kept λb o e=>J1 _ e;have st:IsRangeIter ((s1.heap.push { cls:=.type "range",data:=.fields #[.int 0 s1.toks,.int j t,.int 1 (s1.toks+1)] }).push { cls:=.type "range_iterator",data:=.fields #[rawInt ((j.toNat:Int)-1),rawInt (j.toNat:Int),rawInt (-1)] }) (s1.heap.push { cls:=.type "range",data:=.fields #[.int 0 s1.toks,.int j t,.int 1 (s1.toks+1)] }).objs.size (((j.toNat:Int)-1)+((0:Nat):Int) * (-1)) ((j.toNat:Int)-((0:Nat):Int)) (-1):=by
   rw[show((j.toNat:Int)-1)+((0:Nat):Int) * (-1)=(j.toNat:Int)-1 by lia,show(j.toNat:Int)-((0:Nat):Int)=(j.toNat:Int) by lia];exact D2 _ rfl
  refine wpAny_pyIter_rangeiter st ?_;refine⟨_,[(s1.heap.push { cls:=.type "range",data:=.fields #[.int 0 s1.toks,.int j t,.int 1 (s1.toks+1)] }).objs.size],_,_,m,rfl,l.kept (t':=s1.toks+1+1) λb o e=>J1 _ e,nM _ j.toNat,st,λb hb=>?_,q⟩;have e:b=(s1.heap.push { cls:=.type "range",data:=.fields #[.int 0 s1.toks,.int j t,.int 1 (s1.toks+1)] }).objs.size:=by simpa using hb
  subst e;exact l.fpOk (M0 _) (l.hok.fresh (M0 _))
end L2
namespace VL
open PySem PySem.Spec L2
def dnD(n:Nat):List PyData:=(List.range n).map λ(i:Nat)=>.int ((n:Int)-1-(i:Int))
theorem EB(n:Nat):(dnD n).length=n:=by simp[dnD]
theorem sJ(h:(dnD n)[i]?=some d):i<n/\d=.int ((n:Int)-1-(i:Int)):=by
 have hi:i<n:=by have:=(N1.mp h).1;rwa [EB] at this
 refine⟨hi,?_⟩;unfold dnD at h;rw[L1,S7 hi] at h;exact(u3 h).symm
theorem BP:ItOk G (Itn n) (dnD n):=by
 refine⟨λi G' H' g h hi=>?_,λi G' H' g h hi=>?_,λi G' H' x H'' d g h ft hd y=>?_⟩
 ·rw[EB] at hi;exact hi
 ·rw[EB] at hi;exact Nat.le_of_eq hi.symm
 ·obtain⟨e,y⟩:=y;subst e y;rw[(sJ hd).2];exact⟨G',Out.refl h (.int _)⟩
theorem aQ(h:EvA B a env λds e=>∃ j:Int,ds=[.int j]/\-4611686018427387904<=j/\j<4611686018427387904/\QI (dnD j.toNat) e):EvI B (aH a) env QI:=λσ G H F R I k =>
 h σ G H F _ I λvs g c o ds l m f n d=>by
  obtain⟨j,i,b1,p,b⟩:=d;subst i;obtain rfl:vs=[V.int j]:=Rps.ints_inv (ns:=[j]) n;exact⟨j,rfl,by lia,by lia,k _ g c o _ l m f BP b⟩
theorem LJ(J:Nat->En->Prop)(a:J 0 env)(hs:∀ i e,i<n->J i e->EvG B g (.st (.int ((n:Int)-1-(i:Int)))) e λe2=>EvS B tb { D' with nx:=J (i+1),ct:=J (i+1),bk:=D'.nx } e2)(hd:∀ e,J n e->D'.nx e):ForV B g tb D' (dnD n) env :=
 ⟨J,a,λi d e h j=>by obtain⟨hi,rfl⟩:=sJ h;exact hs i e hi j,λe j=>hd e (by rw[EB] at j;exact j)⟩
def OGW(C:Addr)(x:Str)(d:PyData)(ds:List PyData):Own where
 P:=λG H v F=>∃ a dx t l u vs,v=.ref a/\H a=some (.ins C dx [(x,.ref t)])/\H dx=some (.own a)/\H t=some (.tup [u,.ref l])/\Rp G u d/\H l=some (.lst vs)/\Rps G vs ds/\∀ b,F b ↔ (b=a\/b=dx)\/(b=t\/b=l)
 mono:=λ⟨a,dx,t,l,u,vs,e,h1,h2,h3,r3,h4,r4,f⟩ g hh=>⟨a,dx,t,l,u,vs,e,hh a _ ((f a).mpr (.inl (.inl rfl))) h1,hh dx _ ((f dx).mpr (.inl (.inr rfl))) h2,hh t _ ((f t).mpr (.inr (.inl rfl))) h3,r3.same g,hh l _ ((f l).mpr (.inr (.inr rfl))) h4,r4.same g,f⟩
 dom:=λ⟨a,dx,t,l,u,vs,e,h1,h2,h3,r3,h4,r4,f⟩ b z=>by
  rcases(f b).mp z with (rfl|rfl)|(rfl|rfl)
  ·exact⟨_,h1⟩
  ·exact⟨_,h2⟩
  ·exact⟨_,h3⟩
  ·exact⟨_,h4⟩
def OAny:Own where
 P:=λG H v F=>∀ b,F b->∃ o,H b=some o
 mono:=λh g hh b z=>by
  obtain⟨o,e⟩:=h b z;exact⟨o,hh b o z e⟩
 dom:=λh b z=>h b z
theorem WH{σ:St}{i:Nat}{v:V}(a : σ[i]?=some (some v)) : σ.set i (some v) = σ:=by
 apply D6;intro j;rw[y4];by_cases h:i=j
 ·subst h;rw[q0 rfl,a,q0 (N1.mp a).1]
 ·rw[o0 h]
theorem Rps.prs(gh:Same G H)(ft:FT G' H):∀{es:List (Int × Int)}{vs:List V},Rps G vs (es.map prD)->Rps G' vs (es.map prD)
 |[],_,.nil=>.nil
 | p::es,_,.cons r t=>by
  refine .cons ?_ (Rps.prs gh ft t);cases r with
  | @tup a xs _ h q =>
   obtain rfl:xs=[V.int p.1,V.int p.2]:=Rps.ints_inv (ns:=[p.1,p.2]) q;exact .tup (ft a [.inl p.1,.inl p.2] (gh _ _ h)) (.cons (.int _) (.cons (.int _) .nil))
theorem nG{C:Addr}{x:Str}{n:Int}{es:List (Int × Int)}:∀ G G' H v F,Same G H->FT G' H->(OGW C x (.int n) (es.map prD)).P G H v F->(OGW C x (.int n) (es.map prD)).P G' H v F:=λG G' H v F gh ft c=>by
 obtain⟨a,dx,t,l,u,vs,e,i,b,d,g,h,j,f⟩:=c;cases g;exact⟨a,dx,t,l,_,vs,e,i,b,d,.int _,h,j.prs gh ft,f⟩
theorem DJ(c:Cls K C)(n:NoAttr K C x)(h:EvO B tv env λs S=>∃ d ds s0,s=.own (OW d ds)/\S[i]?=some (some s0)/\(s0=.own (OI C [])\/s0=.io (OI C []))/\D'.nx (S.set i (some (reS s0 (OGW C x d ds))))):EvS B (sFld K (tVar i) tv x) D' env:=λσ G H F D I r =>
 h σ G H F _ I λy X p M Fv s S m g1 o z_=>by
  obtain⟨d,ds,s0,es,ei,hs,q⟩:=z_;subst es;obtain⟨v,Q,g⟩:=m.sl i _ ei;have ap:(OI C []).P X p v (M i):=by
   rcases hs with rfl|rfl
   ·exact g.1
   ·exact g.1
  obtain⟨a,dx,us,rfl,L,T,rf,f⟩:=ap;cases rf;obtain⟨t,l,u,vs,rfl,W,r3,h4,r4,f'⟩:=o.ok;refine⟨_,Q,a,C,dx,[],rfl,L,c,n,by decide,?_⟩;have ad:a ≠ dx:=l9 L T (by intro z;cases z);have at':a ≠ t:=l9 L W (by intro z;cases z);have al:a ≠ l:=l9 L h4 (by intro z;cases z);have E:∀ b w,p b=some w->∃ w',upd p a (.ins C dx [(x,.ref t)]) b=some w':=λb w O=>by
   by_cases z:b=a
   ·rw[z];exact⟨_,W0⟩
   ·rw[J0 z];exact⟨w,O⟩
  have J:=m.change (A:=OAny) (H2:=upd p a (.ins C dx [(x,.ref t)])) (F2:=M i) (os':=reS s0 OAny) i ei Q (λb w hb O=>by rw[J0 (λz:b=a=>hb ((f b).mpr (.inl z)))];exact O) E
   (λb z=>⟨.inl z,by obtain⟨w,e⟩:=m.fo i b z;exact E b w e⟩) (λb z=>by obtain⟨w,e⟩:=m.fo i b z;exact E b w e) (λb ks e=>by
    by_cases z:b=a
    ·subst z;rw[W0] at e;cases e
    ·rw[J0 z] at e;exact m.ft b ks e) (by
    rcases hs with rfl|rfl
    ·exact .inl ⟨rfl,_,rfl⟩
    ·exact .inr ⟨rfl,_,rfl⟩)
  have Z:=J.slot (Fv:=λb=>M i b\/Fv b) i (some (.ref a)) (some (reS s0 (OGW C x d ds))) (λb z=>z.elim (m.fg i b) (o.fg b)) (λb z=>z.elim (m.fr i b) λz=>by
    cases e:B.R b with
    |none=>rfl
    |some w=>have:=m.rb b w e;rw[o.fb b z] at this;cases this) (λb z=>z.elim (λz=>by obtain⟨w,e⟩:=m.fo i b z;exact E b w e) λz=>by obtain⟨w,e⟩:=o.fo b z;exact E b w e) (λj b U z N=>by
    rw[Q3 U] at N;rcases z with z|z
    ·exact U (m.fd j i b N z)
    ·exact o.fd j b z N) (λt' et=>by
    cases et;have Y:(OGW C x d ds).P X (upd p a (.ins C dx [(x,.ref t)])) (.ref a) (λb=>M i b\/Fv b):=⟨a,dx,t,l,u,vs,rfl,W0,by rw[J0 ad.symm];exact T,by rw[J0 at'.symm];exact W,r3,by rw[J0 al.symm];exact h4,r4,λb=>or_congr (f b) (f' b)⟩
    refine⟨_,rfl,?_⟩;rcases hs with rfl|rfl
    ·exact⟨Y,λb z=>z.elim (g.2 b) (o.fb b)⟩
    ·exact⟨Y,λb z=>z.elim (g.2.1 b) λz=>.inr (o.fb b z),g.2.2⟩)
  rw[WH Q,List.set_set] at Z;exact r.nx _ _ _ _ _ Z g1 q
theorem nI(M:Has env i u)(L:Frz u d)(h:f (OI C []) [.st d] λA' s=>s=.st .none/\(∀ G G' H v F,Same G H->FT G' H->A'.P G H v F->A'.P G' H v F)/\QO (.own A') env):EvO B (gD C (spI K f) [] E (Y1 (tVar i) tNil)) env QO:=λσ G H F Q I k=>by
 obtain⟨v0,n,ap⟩:=I.has M;refine⟨v0,n,?_⟩;intro x dx nx c m;simp only[m5];have js:=V4 (H:=H) (I.fg i);have hs:Same H (upd (upd H dx (.own x)) x (.ins C dx [])):=λa o e=>by rw[J0 (U2 e nx),J0 (U2 e c)];exact e
 have p:FT (jn G H (F i)) (upd (upd H dx (.own x)) x (.ins C dx [])):=λa ks e=>js _ _ (by
  by_cases z:a=x
  ·subst z;rw[W0] at e;cases e
  ·rw[J0 z] at e;by_cases z2:a=dx
   ·subst z2;rw[W0] at e;cases e
   ·rw[J0 z2] at e;exact I.ft a ks e)
 have g:Same (jn G H (F i)) H:=wA I.gh;refine⟨.ref x,[v0],jn G H (F i),H,OI C [],_,λb=>b=x\/b=dx,_,rfl,g.trans hs,p,hs,⟨x,dx,[],rfl,W0,by rw[J0 m,W0],.nil,λb=>Iff.rfl⟩,λa z=>?_,λa z=>?_,.cons (s:=.st d) (L _ _ _ _ ap (I.fg i) I.gh) .nil,h,λA' s ⟨es,tr,q⟩ v G' H' F' Fv o=>?_⟩
 ·rcases z with rfl|rfl
  ·exact E6 g nx
  ·exact E6 g c
 ·rcases z with rfl|rfl
  ·exact nx
  ·exact c
 ·subst es;have N:v=.non:=by
   obtain⟨r,_⟩:=o.ok;cases r;rfl
  have hh:Same H H':=o.rs;have l:FT (λa=>if H a=none then G' a else G a) H':=λa ks e=>by
   by_cases z:H a=none
   ·exact(q0 z).trans (o.ft a ks e)
   ·refine(o0 z).trans ?_;obtain⟨w,D⟩:=aF z;have:=hh a w D;rw[e] at this;exact I.ft a ks (by rw[D,← this])
  have A:Same G (λa=>if H a=none then G' a else G a):=λa w e=>by
   show(if H a=none then G' a else G a)=some w;rw[o0 (by rw[I.gh a w e];simp)];exact e
  have J:=I.grow A (λa w e=>by
   by_cases z:H a=none
   ·exact o.gh a w ((q0 z).symm.trans e)
   ·exact hh _ _ (I.gh a w ((o0 z).symm.trans e))) hh (λa w e=>by
   by_cases z:H a=none
   ·exact .inr z
   ·exact .inl ((o0 z).symm.trans e)) l
  have hn:∀ a,F' a->H a=none:=λa z=>by
   rcases o.fi a z with y|y
   ·rcases y with rfl|rfl
    ·exact nx
    ·exact c
   ·cases e1:H a with
    |none=>rfl
    |some w1=>rw[hs a w1 e1] at y;cases y
  exact⟨N,k (.ref x) _ H' F F' (.own A') env J A ⟨tr _ _ _ _ _ o.gh l o.ap,λa z=>I.no_b (hn a z),λa z=>(q0 (hn a z)).trans (o.fg a z),λa z=>A'.dom o.ap a z,λj a z=>I.no_f (hn a z) j⟩ q⟩
theorem ZG(i:Nat)(e:env[i]?=some (some (.own (OGW C x d ds))))(h:EvS B t D' (env.set i (some (.own (OI C [(x,.tuple [d,.list ds])]))))):EvS B t D' env:=λσ G H F D I r=>by
 obtain⟨v,s,⟨a,dx,g,l,u,vs,rfl,p,o,m,w,n,K,f⟩,hb⟩:=I.sl i _ e;have ft:F i g:=(f g).mpr (.inr (.inl rfl));have L:F i l:=(f l).mpr (.inr (.inr rfl));have fi:∀ b,b=g\/b=l->F i b:=λb z=>(f b).mpr (.inr z);have fo:∀ b,b=a\/b=dx->F i b:=λb z=>(f b).mpr (.inl z);have js:Same G (jn G H λb=>b=g\/b=l):=V4 λb z=>I.fg i b (fi b z);have A:=(I.drop i).freeze (Fv:=λb=>b=g\/b=l) (λb z=>hb b (fi b z)) (λj b z y=>by
  by_cases c:j=i
  ·subst c;exact putF_same.mp y
  ·rw[Q3 c] at y;exact c (I.fd j i b y (fi b z))) (λb z=>I.fg i b (fi b z))
 have E:∀ b,b=a\/b=dx->¬ (b=g\/b=l):=λb z y=>by
  rcases z with rfl|rfl <;> rcases y with rfl|rfl
  ·rw[p] at m;cases m
  ·rw[p] at n;cases n
  ·rw[o] at m;cases m
  ·rw[o] at n;cases n
 have J:=A.slot (Fv:=λb=>b=a\/b=dx) i (some (.ref a)) (some (.own (OI C [(x,.tuple [d,.list ds])]))) (λb z=>by rw[I7 (E b z)];exact I.fg i b (fo b z)) (λb z=>I.fr i b (fo b z)) (λb z=>I.fo i b (fo b z)) (λj b c z y=>by
  rw[Q3 c] at y;exact c (I.fd j i b y (fo b z))) (λt q=>by
  cases q;refine⟨_,rfl,⟨a,dx,_,rfl,p,o,.cons (.tup (by rw[u6 (.inl rfl)];exact m) (.cons (w.same js) (.cons (.lst (by rw[u6 (.inr rfl)];exact n) (K.same js)) .nil))) .nil,λb=>Iff.rfl⟩,λb z=>hb b (fo b z)⟩)
 rw[WH s,List.set_set] at J;exact h σ _ H _ D J (r.later js)
end VL
namespace SS
open PySem
structure TbI(bt:Bool)(t:SetTable):Prop where
 led:bt=false->t.led=true
 dum:t.dummies = #[]
 ris:t.plain=true->t.place.toList.Pairwise (· < ·)
end SS
namespace SS
open PySem PySem.W PyProof.Rows
def bt(w:World):Bool:=w.params.followText "set-order"
def kE(e:Int × Value):Int:=match e.2 with | .int k _=>k|_=>0
def WO(prog:Program)(w:World)(e:Int × Value):Prop:=e.1=(intKind prog w).hash (kE e)/\∃ t,e.2=.int (kE e) t
def SetR(prog:Program)(w:World)(a:Addr)(es:Array (Int × Value))(ep:Nat)(t:SetTable)(h:Heap):Prop :=
 ∃ o,h.get? a=some o/\o.ExactSet/\o.data=.set es ep t/\t.fits es.size=true/\TbI (bt w) t
def SetI(prog:Program)(w:World)(a:Addr)(L:List Int)(h:Heap):Prop:=∃ es ep t,SetR prog w a es ep t h/\(∀ e∈es.toList,WO prog w e)/\(es.toList.map kE).Perm L
end SS
namespace SH
open PySem PySem.SetTable
def it:Nat->Nat->Nat
 |0,x=>x
 |n+1,x=>it n (5 * x+1)
def aS(mask:Nat)(p:Probe):Probe:=if p.more > 0 then { p with j:=p.j+1,more:=p.more-1 } else { p with j:=(leap mask p.i p.perturb).1,more:=runEnd mask (leap mask p.i p.perturb).1-(leap mask p.i p.perturb).1,i:=(leap mask p.i p.perturb).1,perturb:=(leap mask p.i p.perturb).2 }
def pr0(mask:Nat)(h:Int):Probe:={ j:=bits h % (mask+1),more:=runEnd mask (bits h % (mask+1))-bits h % (mask+1),i:=bits h % (mask+1),perturb:=bits h,dummy:=none }
def pr(mask:Nat)(h:Int):Nat->Probe
 |0=>pr0 mask h
 |k+1=>aS mask (pr mask h k)
def lp(mask:Nat)(h:Int):Nat->Nat × Nat
 |0=>(bits h % (mask+1),bits h)
 |n+1=>leap mask (lp mask h n).1 (lp mask h n).2
def pAt(mask:Nat)(q:Nat × Nat)(a:Nat):Probe:={ j:=q.1+a,more:=runEnd mask q.1-q.1-a,i:=q.1,perturb:=q.2,dummy:=none }
def sp(mask:Nat)(h:Int):Nat->Nat
 |0=>0
 |n+1=>sp mask h n+(runEnd mask (lp mask h n).1-(lp mask h n).1)+1
structure TOk(t:SetTable):Prop where
 ris:t.place.toList.Pairwise (· < ·)
 dum:t.dummies = #[]
 le:∀ j∈t.place.toList,j<=t.mask
 two:∃ m,t.mask+1=2 ^ m
 room:t.place.size<=t.mask
def HI(t:SetTable)(es:List (Int × Value)):Prop:=es.length=t.place.size/\∀(i:Nat)(e:Int × Value)(j:Nat),es[i]?=some e->t.place.toList[i]?=some j->∃ k,(pr t.mask e.1 k).j=j/\∀ k',k'<k->t.slot (pr t.mask e.1 k').j ≠ .empty
def ow(owner:Array (Option Nat))(j:Nat):Option Nat:=owner.getD j none
structure Lay(mask:Nat)(hs:List Int)(owner:Array (Option Nat)):Prop where
 sz:owner.size=mask+1
 at':∀ k h,hs[k]?=some h->∃ s,(pr mask h s).j<=mask/\ow owner (pr mask h s).j=some k/\∀ s',s'<s->ow owner (pr mask h s').j ≠ none
 un:∀ j k,ow owner j=some k->k<hs.length
 inj:∀ j j' k,ow owner j=some k->ow owner j'=some k->j=j'
def live(owner:Array (Option Nat))(mask:Nat):List (Nat × Nat):=(List.range (mask+1)).filterMap λj=>(owner.getD j none).map (j,·)
end SH
namespace SH
open PySem PySem.W PyProof.Rows
abbrev TK(prog:Program)(w:World):=tupleKind (intKind prog w)
structure ST(prog:Program)(w:World)(U:Addr->Prop)(a:Addr)(es:Array (Int × Value))(ep:Nat)(t:SetTable)(ks:List (List Int))(h:Heap):Prop where
 r:SS.SetR prog w a es ep t h
 ok:TOk t
 hi:HI t es.toList
 pl:t.plain=true
 msk:7<=t.mask/\t.mask<=8191
 len:ks.length=es.size
 gd:∀(i:Nat) e k,es.toList[i]?=some e->ks[i]?=some k->∃ b,e=((TK prog w).hash k,.ref b)/\(TK prog w).is h k b/\U b
 nd:ks.Nodup
end SH
namespace SS
open PySem PySem.W PyProof.Rows
end SS
namespace SH
open PySem PySem.W PyProof.Rows SS
end SH
namespace SS
open PySem PySem.W PyProof.Rows
def IsIt(h:Heap)(I:Addr)(vs:Array Value):Prop:=∃ o,h.get? I=some o/\o.cls=.type "set_iterator"/\o.data=.fields vs
def dr(w:World)(es:Array (Int × Value))(t:SetTable):Bool:=!bt w && (!t.plain && decide (es.size > 1))
def ord(w:World)(a:Addr)(es:Array (Int × Value))(ep:Nat):List (Int × Value):=if bt w=true then (pickOrder (w.params.setOrder a ep) es).toList else es.toList
def sl(t:SetTable):Nat->Nat
 |0=>0
 |i+1=>t.place.getD i 0+1
end SS
namespace SH
open PySem PySem.W PyProof.Rows SS
end SH
namespace SS
open PySem PySem.W PyProof.Rows
end SS
namespace L2
open PySem PySem.W PyProof.Rows
end L2
namespace VL
open PySem PySem.Spec L2
end VL
namespace L2
open PySem PySem.W PyProof.Rows
end L2
namespace VL
open PySem PySem.Spec L2
end VL
namespace DictL
open PySem PyProof.Rows
theorem OG:entryFor table "dict.update.loop" = some Builtin.«dict.update.loop»:=entryFor_of_tree (by kernel_rfl)
theorem ZB:plainId "dict.update.loop" = true:=by decide +kernel
section
variable{prog:Program}{w:World}{A:Around}{R:Result->Shared->Prop}{I:Addr}{fp wr:List Addr}{n:Nat}{P:Nat->Value->Prop}{St:Nat->Heap->Prop}{K:Type} [DecidableEq K] {knd:KeyKind prog w K}
theorem vL(b:s.heap.IsTuple t #[k,v])(h:Q [k,v] s):wpAny M A ((Builtin.Dict.pairItems (.ref t)).tryCatch c) Q E s:=by
 obtain⟨⟨cls,l,data,sl⟩,f,a,m,hd⟩:=b;simp only at a hd;subst a hd;refine wpAny_tryCatch ?_;unfold Builtin.Dict.pairItems;obtain⟨j,g,d,i,os⟩:=s
 wp_walk
 exact h
end
theorem wN:typeLookup (.type "list") (Str.ofString "keys")=pure none:=by rw[typeLookup_type,builtinLookup_eq_fast];kernel_rfl
theorem NN(j:s.heap.get? a=some { cls:=.type "list",data:=.seq xs k })(n:A.handled=none)
  (h:∀ h' i,(∀ b o,s.heap.get? b=some o->h'.get? b=some o)->Q none { s with heap:=h',toks:=i }):wpAny (model prog w) A (getAttr? (.ref a) (Str.ofString "keys")) Q E s:=by
 obtain⟨m,g,d,i,os⟩:=s;have l:∀ f,(⟨m,g,d,f,os⟩:Shared).TypeIs (.ref a) "list":=λ_=>⟨_,j,rfl⟩
 have f1:=sub_AttributeError;have u:=PySem.F.slot_list_getattribute.lookup;have v:=PySem.F.slot_list_getattribute.bind (.ref a);have p:=am_list_getattr_none;unfold getAttr? getAttrBy? getAttrBy;repeat (any_goals (first|assumption|exact l _|((with_reducible show wpAny _ _ (call (Value.builtin "list.__getattribute__") _ _) _ _ _);refine call_meets PySem.F.slot_list_getattribute (l _) am_entry_list_getattribute (PySem.F.args_list_getattribute_2 _ _) (meets_getattribute_miss_list a xs k #[] (Str.ofString "keys") _ wN (by decide +kernel) (by size_fits)) ⟨j,n,λh' f e c=>?_⟩)|wp_step))
 obtain⟨t',q,r⟩:=c.there;show wpAny _ _ (getattributeRaised _ _ _ _ _ _ _) _ _ _;unfold getattributeRaised;repeat (any_goals (first|assumption|wp_step))
 exact h _ _ c.keeps
section
variable{prog:Program}{w:World}{A:Around}{E:Value->Shared->Prop}{s:Shared}{K:Type} [DecidableEq K] {knd:KeyKind prog w K}
end
end DictL
namespace L2
open PySem PySem.W PyProof.Rows
section
variable{K:Type} [DecidableEq K]
end
end L2
namespace VL
open PySem PySem.Spec L2
end VL
namespace DictL
open PySem PyProof.Rows
section
variable{prog:Program}{w:World}{A:Around}{R:Result->Shared->Prop}{I:Addr}{fp wr:List Addr}{n:Nat}{P:Nat->Value->Prop}{St:Nat->Heap->Prop}{K:Type} [DecidableEq K] {knd:HeapKind prog w K}
theorem DN(W:Walks prog w A.in1 I fp wr n P St)(S:Addr)(F:S ∉ fp)(hu:knd.room A.in1)(X:Heap)(p:Nat->K)(E:Nat->Addr)(val:Nat->Value)(tup:Nat->Addr)(f:Nat->List (K × Addr × Value))(hk:∀ i,f (i+1)=storedH (f i) (p i) (E i) (val i))(hz:∀ i,i<=n->(f i).length<=sizeLine)
  (hP:∀ i v,P i v->v=.ref (tup i)) (q:∀ i x,x∈f i->∃ j,j<i/\x.1=p j/\x.2.1=E j) (m:∀ i,i<n->tup i ≠ S/\tup i ∉ wr) (g:∀ h',(∀ b o,b ≠ S->b ∉ wr->X.get? b=some o->h'.get? b=some o)->∀ i,i<n->knd.is h' (p i) (E i)) :
  ∀(k i:Nat)(s:Shared),n-i=k->i<=n->St i s.heap->(∀ b o,b ≠ S->b ∉ wr->X.get? b=some o->s.heap.get? b=some o)->(∀ j,i<=j->j<n->s.heap.IsTuple (tup j) #[.ref (E j),val j])->s.heap.DictOfH knd S (f i)->
   (∀ h' G,h'.DictOfH knd S (f n)->(∀ b o,b ≠ S->b ∉ wr->s.heap.get? b=some o->h'.get? b=some o)->R (.ok (.ret .none)) { s with heap:=h',toks:=G }) ->
   codeAny (model prog w) A (.builtin "dict.update.loop" ⟨[.ref S,.ref I,rawInt i,.none],[]⟩) R s:=by
 have Y:S ∉ wr:=λh=>F (W.sub _ h);have y:∀(h h':Heap)(i:Nat),i<=n->(∀ b o,b ≠ S->b ∉ wr->X.get? b=some o->h'.get? b=some o)->h.DictOfH knd S (f i)->(∀ b o,b ∉ wr->h.get? b=some o->h'.get? b=some o)->h'.DictOfH knd S (f i):=λh h' i hi c C hm=>by
  obtain⟨o,es,ep,u,g1,g2,g3,_,g5⟩:=C;refine⟨o,es,ep,hm S o Y u,g1,g2,g3,λx hx=>?_,g5⟩;obtain⟨j,hj,e1,e2⟩:=q i x hx;rw[e1,e2];exact g h' c j (by lia)
 intro k
 induction k with
 | zero =>
  intro i s L hi l c Z C N;have T:i=n:=by lia
  subst T;refine nA OG ?_;rw[pA ZB _];show wpAny _ A.in1 (pyNext (.ref I) >>= _) _ _ s;refine C0 (W.done s _ _ l λh' G hm=>?_);dsimp only;unfold Builtin.Dict.addKeywords;refine C0 (C0 (N0 (N0 ?_)));refine N0 ?_;exact N h' G (y _ _ _ (M0 _) (λb o b1 a e=>hm b o a (c b o b1 a e)) C hm) λb o _ hb e=>hm b o hb e
 | succ k ih =>
  intro i s L hi l c Z C N;have d:i<n:=by lia
  refine nA OG ?_;rw[pA ZB _];show wpAny _ A.in1 (pyNext (.ref I) >>= _) _ _ s;refine C0 (W.item i s _ _ d l λv h' G a1 B hm=>?_);have ev:=hP i v a1;subst ev;dsimp only;have U:h'.IsTuple (tup i) #[.ref (E i),val i]:=by
   obtain⟨o,u,r⟩:=Z i (M0 _) d;exact⟨o,hm _ o (m i d).2 u,r⟩
  have a0:h'.DictOfH knd S (f i):=y _ _ _ hi (λb o b1 a e=>hm b o a (c b o b1 a e)) C hm;refine C0 (w5 ?_);refine C0 (vL U ?_);dsimp only;refine w5 (wpAny_dictSet_heap hu (g h' (λb o b1 a e=>hm b o a (c b o b1 a e)) i d) a0 (λh2 J D=>?_) (hz i hi));have keep:∀ b o,b ≠ S->b ∉ wr->s.heap.get? b=some o->h2.get? b=some o:=λb o b1 a e=>by rw[D.2 b b1];exact hm b o a e
  refine N0 ⟨plainId_quiet ZB _,ih (i+1) _ (by lia) d ?_ ?_ ?_ (by rw[hk];exact J) ?_⟩
  ·exact W.frame _ _ _ B λb hb o e=>by rw[D.2 b (λz:b=S=>F (by rw[← z];exact hb))];exact e
  ·exact λb o b1 a e=>keep b o b1 a (c b o b1 a e)
  ·intro j j1 H;obtain⟨o,u,r⟩:=Z j (by lia) H;exact⟨o,keep _ o (m j H).1 (m j H).2 u,r⟩
  ·intro h3 Q M O;exact N h3 Q M λb o b1 a e=>O b o b1 a (keep b o b1 a e)
theorem call_dict_listH(S:knd.room A.in1.in1)(a:Nat->K)(B:Nat->Addr)(val:Nat->Value)(tup:Nat->Addr)(n:Nat->List (K × Addr × Value))(Y:n 0=[])(hk:∀ i,n (i+1)=storedH (n i) (a i) (B i) (val i))(T:∀ i,i<=items.size->(n i).length<=sizeLine)(u:∀ i x,x∈n i->∃ j,j<i/\x.1=a j/\x.2.1=B j)
  (hh:A.handled=none) (C:s.heap.get? l=some { cls:=.type "list",data:=.seq items nl }) (hP:∀ i v,items[i]?=some v->v=Value.ref (tup i)) (P:∀ j,j<items.size->s.heap.IsTuple (tup j) #[.ref (B j),val j]) (D:∀ h',(∀ b o,s.heap.get? b=some o->h'.get? b=some o)->∀ i,i<items.size->knd.is h' (a i) (B i))
  (h:∀(h':Heap)(M:Nat),h'.DictOfH knd s.heap.objs.size (n items.size)->(∀ b o,s.heap.get? b=some o->h'.get? b=some o)->Q (.ref s.heap.objs.size) { s with heap:=h',toks:=M }) :
  wpAny (model prog w) A (call (.type "dict") [.ref l]) Q E s:=by
 refine callType_codes (Q₁:=λobj c=>obj=.ref s.heap.objs.size/\c={ s with heap:=s.heap.push { cls:=.type "dict",data:=.dict #[] } }) F.kt_called_dict (F.kt_typeCall_dict_1 _) F.entry_dict_init (kt_code_dict_new (.ref l) ⟨rfl,rfl⟩) λobj c G=>?_;obtain⟨rfl,rfl⟩:=G;have R:(s.heap.push { cls:=.type "dict",data:=.dict #[] }).get? s.heap.objs.size=some { cls:=.type "dict",data:=.dict #[] }:=D2 _ rfl;refine⟨⟨_,R,rfl⟩,F.args_dict_init_2 _ _,?_⟩;have f:(s.heap.push { cls:=.type "dict",data:=.dict #[] }).get? l=some { cls:=.type "list",data:=.seq items nl }:=J1 _ C;have Z:(Value.type "list" == Value.type "dict")=false:=by decide
 unfold Builtin.«dict.__init__» Builtin.Dict.updateCommon Builtin.Dict.updateFrom;obtain⟨m,g,d,M,os⟩:=s;dsimp only at *;generalize hPI:pyIter=PI;generalize hGA:getAttr?=GA
 wp_walk
 subst hGA hPI;refine NN (s:={ heap:=m.push { cls:=.type "dict",data:=.dict #[] },gens:=g,drawn:=d,toks:=M,os:=os }) f hh λp J z=>?_;rw[q0 (show(none:Option Value).isNone=true from rfl)];refine C0 (wpAny_rule ?_);have I:p.IsList l items:=⟨_,z _ _ f,rfl,nl,rfl⟩
 have H:l<m.objs.size:=L0 C;have q:=z _ _ R;have hsz:m.objs.size<p.objs.size:=L0 q;refine C0 (e8 (s:={ heap:=p,gens:=g,drawn:=d,toks:=J,os:=os }) I ?_);refine N0 ⟨plainId_quiet ZB _,?_⟩;have y:l ≠ p.objs.size:=O1 (Nat.lt_trans H hsz);have N:m.objs.size ∉ [p.objs.size,l]:=by
  simp only[D1,EA,or_false,not_or];exact⟨O1 hsz,Nat.ne_of_gt H⟩
 have tl:∀ j,j<items.size->tup j<m.objs.size:=λj L=>let ⟨_,e,_⟩:=P j L;L0 e
 refine DN (A:=A.in1) (knd:=knd) (Walks.list (A:=A.in1.in1) hh p.objs.size l y items) m.objs.size N S m a B val tup n hk T hP u (λi hi=>⟨O1 (tl i hi),by simp only[O2];exact O1 (Nat.lt_trans (tl i hi) hsz)⟩)
  (λh' U=>D h' λb o e=>U b o (O1 (L0 e)) (by simp only[O2];exact O1 (Nat.lt_trans (L0 e) hsz)) e) (items.size-0) 0 _ (by lia) (O3 _)
  ⟨⟨_,D2 _ rfl,rfl,rfl⟩,I.push _⟩ (λb o _ _ e=>J1 _ (z _ _ (J1 _ e))) (λj _ L=>?_) ?_ λh' O W kp=>?_
 ·obtain⟨o,e,r⟩:=P j L;exact⟨o,J1 _ (z _ _ (J1 _ e)),r⟩
 ·rw[Y];exact⟨_,#[],0,J1 _ q,⟨rfl,rfl,rfl⟩,rfl,rfl,λx X=>by simp at X,List.nodup_nil⟩
 ·refine⟨rfl,h h' O W λb o e=>kp b o (O1 (L0 e)) (by simp only[O2];exact O1 (Nat.lt_trans (L0 e) hsz)) (J1 _ (z _ _ (J1 _ e)))⟩
end
end DictL
namespace L2
open PySem PySem.W PyProof.Rows
def y7(kvs:List (List Key × Addr × V)):List (List Key × V):=kvs.foldl (λacc kv=>putK acc kv.1 kv.2.2) []
def tJ:List V->Hp->VK->Prop:=λxs H Q=>∃(a:Addr)(ts:List Addr)(kvs:List (List Key × Addr × V)),xs=[.ref a]/\H a=some (.lst (ts.map V.ref))/\ts.length=kvs.length/\kvs.length<40000 /\
 (∀(i:Nat) t kv,ts[i]?=some t->kvs[i]?=some kv->H t=some (.tup [.ref kv.2.1,kv.2.2])/\H kv.2.1=some (.tup (kv.1.map kV)))/\∀ p,H p=none->Q (.ref p) (upd H p (.dT (y7 kvs)))
section
variable{K:Type} [DecidableEq K]
def kfH(key:Nat->K)(ka:Nat->Addr)(val:Nat->Value):Nat->List (K × Addr × Value)
 |0=>[]
 |i+1=>storedH (kfH key ka val i) (key i) (ka i) (val i)
theorem OR(xs:List (K × Addr × Value))(k:K)(a:Addr)(v:Value):(storedH xs k a v).length<=xs.length+1:=by
 unfold storedH;split
 ·rw[R0];lia
 ·simp
theorem ID(a:Nat->K)(b:Nat->Addr)(val:Nat->Value):∀ i,(kfH a b val i).length<=i
 |0=>M0 _
 |i+1=>W1 (OR _ _ _ _) (Nat.succ_le_succ (ID a b val i))
theorem CJ(a:Nat->K)(b:Nat->Addr)(val:Nat->Value):∀ i x,x∈kfH a b val i->∃ j,j<i/\x.1=a j/\x.2.1=b j
 |0,x,h=>by cases h
 | i+1,x,h=>by
  have d:=CJ a b val i;change x∈storedH (kfH a b val i) (a i) (b i) (val i) at h;unfold storedH at h;split at h
  ·obtain⟨y,f,rfl⟩:=X0.mp h;obtain⟨j,g,c,e2⟩:=d y f;refine⟨j,by lia,?_⟩;unfold putAt;split
   ·exact⟨c,e2⟩
   ·exact⟨c,e2⟩
  ·rcases Q1.mp h with h|h
   ·obtain⟨j,g,e⟩:=d x h;exact⟨j,by lia,e⟩
   ·have:x=(a i,b i,val i):=by simpa using h
    subst this;exact⟨i,by lia,rfl,rfl⟩
end
theorem qN:y7 (kvs++[a])=putK (y7 kvs) a.1 a.2.2:=by unfold y7;rw[List.foldl_append];rfl
theorem mQ(hc:X.calm=true)(B:X.A.units+64<cLine):C2 X (.type "dict") tJ:=by
 intro pins s σ H xs us Q I r h;obtain⟨a,c,kvs,rfl,ha,N,h4,C,q⟩:=h;obtain⟨u,rfl,E⟩:=W3 r;cases E;obtain⟨hz,its,nl,K,e⟩:=(show ObjOk X.prog X.w H s.heap a (.lst (c.map V.ref)) from I.hok a _ ha)
 have g:its.length=c.length:=by have:=K.length;rw[R0] at this;lia
 have z:∀{i},i<c.length->c[i]?=some (c.getD i 0):=λ{i} hi=>by rw[aA,Y0 hi];rfl
 have x:∀{i},i<c.length->kvs[i]?=some (kvs.getD i ([],0,.non)):=λ{i} hi=>by rw[aA,Y0 (show i<kvs.length by lia)];rfl
 obtain⟨l,d⟩:∃ l:Nat->List Key × Addr × V,l=λi=>kvs.getD i ([],0,.non):=⟨_,rfl⟩
 have G:∀ i:Nat,∃ p:Value,i<c.length->s.heap.IsTuple (c.getD i 0) #[.ref (l i).2.1,p]/\RelV (l i).2.2 p:=λi=>by
  by_cases hi:i<c.length
  ·obtain⟨R,J⟩:=C i _ _ (z hi) (x hi);obtain⟨_,P,n,p2⟩:=(show ObjOk X.prog X.w H s.heap _ (.tup _) from I.hok _ _ R)
   cases n with
   | cons r1 n =>
    cases n with
    | cons n r3 =>
     cases r3;cases r1;exact⟨_,λ_=>⟨by rw[d];exact p2,by rw[d];exact n⟩⟩
  ·exact⟨.none,λh=>absurd h hi⟩
 obtain⟨f,hf⟩:=Classical.skolem.mp G;have D:∀ i,i<=c.length->KT H (y7 (kvs.take i)) (kfH (λi=>(l i).1) (λi=>(l i).2.1) f i):=λi=>by
  induction i with
  |zero=>intro _;exact .nil
  | succ i ih =>
   intro hi;have O:kvs.take (i+1)=kvs.take i++[l i]:=by rw[S6,x (by lia),d];rfl
   rw[O,qN];refine(ih (by lia)).put _ ?_ (hf i (by lia)).2;rw[d];exact(C i _ _ (z (by lia)) (x (by lia))).2
 refine DictL.call_dict_listH (knd:=tupleKind (Z4 X.prog X.w)) (items:=its.toArray) (nl:=nl) (tupleKind_room_in1 (by show X.A.units+1+1<cLine;lia)) (λi=>(l i).1) (λi=>(l i).2.1) f (λi=>c.getD i 0) (kfH (λi=>(l i).1) (λi=>(l i).2.1) f) rfl (λi=>rfl) (λi hi=>W1 (ID _ _ _ i) (W1 hi (by rw[sizeLine_eq];simp;lia))) (CJ _ _ _)
  (I.ok.hd hc) e (λi v y=>?_) (λj Y=>(hf j (by simpa[g] using Y)).1) (λh' kp i hi=>?_) λh' Z M kp=>?_
 ·have y:its[i]?=some v:=by simpa using y
  have hi:=(N1.mp y).1;have S:(c.map V.ref)[i]?=some (.ref (c.getD i 0)):=by rw[L1,z (by lia)];rfl
  obtain⟨u,B,E⟩:=K.get S;rw[y] at B;cases B;exact E
 ·have hi:i<c.length:=by simpa[g] using hi
  have J:=(C i _ _ (z hi) (x hi)).2;rw[d];exact lC (I.hok.kept kp) J
 ·have hsz:its.toArray.size=c.length:=by simp[g]
  rw[hsz] at M;have F:=D c.length (M0 _);rw[N,Q6,← N] at F;have m:=I.hok.fresh (a:=s.heap.objs.size) (M0 _);refine⟨.ref s.heap.objs.size,_,I.laid (t':=Z) (o:=.dT (y7 kvs)) kp (M0 _) ?_,rfl,q _ m⟩;obtain⟨T,es,ep,U,b1,b2,b3,_,W⟩:=M;refine⟨?_,beq_eq_false_iff_ne.mpr (Ne.symm (O1 I.big)),_,F.keeps λb ys L=>?_,T,es,ep,U,b1,b2,b3,W⟩
  ·have:=F.length;rw[this,sizeLine_eq];exact W1 (ID _ _ _ _) (by lia)
  ·rw[J0 (U2 L m)];exact L
end L2
namespace VL
open PySem PySem.Spec L2
theorem yG{G:Hp}{as:List Addr}:∀{es:List (Int × Int)}{kvs:List (List Key × V)}{ps:List (Int × Int)},RpT G kvs (kE ps)->∀(as:List Addr),as.length=es.length ->
  RpT G ((es.zip as).foldl (λb x=>putK b [Sum.inl x.1.1,Sum.inl x.1.2] (.bl true)) kvs) (kE (es.foldl addP ps))
 |[],_,_,h,as,_=>by simpa using h
 |e::es,kvs,ps,h,[],hl=>by simp at hl
 | e::es,kvs,ps,h,a::as,hl=>by
  rw[List.zip_cons_cons,List.foldl_cons,List.foldl_cons];refine yG (as:=as) ?_ as (by simpa using hl);obtain⟨x,y⟩:=e;rw[← DD];exact h.put (.bl true)
theorem gR(h:EvI B wi env λds P=>∃ es:List (Int × Int),ds=es.map prD/\es.length<=30000/\QO (.own (OT (kE (es.foldl addP [])))) P) :
  EvO B (tCB tJ (Y1 (tLC (none::src) wi (N2 0) tYes (tTup (Y1 (tVar 0) (Y1 (tC (V.bl true)) tNil)))) tNil)) env QO:=λσ G H F Q I k=>by
 refine h σ G H F _ I λJ G1 H1 F1 ds P I1 g1 it ⟨es,ed,a2,q⟩ f j=>?_;subst ed;have hL:(es.map prD).length=es.length:=R0 ..
 let W:Nat->List V->St->Hp->Prop:=λn ys σI H=>∃(C as:List Addr)(s:Hp),ys=C.map V.ref/\C.length=n/\as.length=n/\0<σI.length /\
  (∀(i:Nat) t b p,C[i]?=some t->as[i]?=some b->es[i]?=some p->H t=some (.tup [.ref b,.bl true])/\s b=some (.tup [.int p.1,.int p.2]))/\(∀ t∈C,t ≠ f) /\
  H f=some (.lst ys)/\s f=none/\Same G1 s/\Same s H/\Same H1 H/\(∀ a o,s a=some o->G1 a=some o\/H1 a=none)/\FT s H
 refine⟨λn m ys σI H=>m=es.length-n/\n<=es.length/\W n ys σI H,⟨es.length,by simp,O3 _,[],[],G1,rfl,rfl,rfl,by simp[pick],λi t b p h=>by simp at h,λt O=>by simp at O,W0,I1.no_g j,Same.refl _,I1.gh.trans (M5 j),M5 j,λa o e=>.inl e,λa ks e=>?_⟩,?_⟩
 ·by_cases z:a=f
  ·subst z;rw[W0] at e;cases e
  ·rw[J0 z] at e;exact I1.ft a ks e
 rintro n m ys σI H2 ⟨rfl,hn,C,as,s,rfl,hl,M,T,A,R,l,ga,N,r,L,S,E⟩;refine⟨l,?_⟩;by_cases hlt:n<es.length
 ·refine .inr ⟨it.go n s H2 N r (by lia),λU X H'=>W (n+1) U X H',λU X H' hw=>⟨es.length-(n+1),by lia,rfl,hlt,hw⟩,λx H3 y=>?_⟩;obtain⟨p,Y⟩:∃ p,es[n]?=some p:=⟨_,Y0 hlt⟩
  obtain⟨G3,o⟩:=it.yld n s H2 x H3 (prD p) N r E (by rw[L1,Y];rfl) y;have rx:Rp G3 x (.tuple [.int p.1,.int p.2]):=o.ok.1;cases rx with
  | @tup b vs ds' hb rs =>
  cases rs with
  |cons r1 rs =>
  cases rs with
  |cons r2 rs =>
  cases rs;cases r1;cases r2;refine IC (SD (P5 (yQ (ZC (oF (v:=.ref b) (by rw[y4,q0 rfl,q0 T]) (ZC (go_c (VA ⟨show(2:Nat)<=sizeLine by rw[sizeLine_eq];decide,λt O=>?_⟩))))))));have t2:H2 t=none:=E6 o.hh O;have ta:t ≠ f:=(U2 (o.hh _ _ l) O).symm;have old:∀ a u,H2 a=some u->a ≠ f->upd (upd H3 t (.tup [.ref b,.bl true])) f (.lst (C.map V.ref++[.ref t])) a=some u:=λa u e aa=>by
   have Z:=o.hh _ _ e;rw[J0 aa,J0 (U2 Z O)];exact Z
  refine⟨by rw[J0 ta.symm];exact o.hh _ _ l,by rw[R0,hl];exact big (by lia),C++[t],as++[b],G3,by simp,by simp[hl],by simp[M],by rw[List.length_set];exact T,λi c d p' g hd K=>?_,λc g=>?_,W0,?_,N.trans o.gg,λa u e=>?_,λa u e=>?_,λa u e=>?_,λa ks e=>?_⟩
  ·by_cases hi:i<n
   ·rw[f8 (by lia)] at g hd;obtain⟨q1,q2⟩:=A i c d p' g hd K;exact⟨old c _ q1 (R c (i3 g)),o.gg _ _ q2⟩
   ·have a0:i=n:=by
     have:=(N1.mp g).1;simp at this;lia
    subst a0;rw[F7 (by lia),hl,dA] at g;rw[F7 (by lia),M,dA] at hd;rw[Y] at K;cases g;cases hd;cases K;exact⟨by rw[J0 ta,W0],hb⟩
  ·rcases Q1.mp g with g|g
   ·exact R c g
   ·have e:=O2.mp g;subst e;exact ta
  ·cases e:G3 f with
   |none=>rfl
   | some w =>
    rcases o.gn f w e with e|e
    ·rw[ga] at e;cases e
    ·rw[l] at e;cases e
  ·have at':a ≠ t:=U2 (o.gh a u e) O;have aa:a ≠ f:=by
    rintro rfl;rcases o.gn _ u e with e|e
    ·rw[ga] at e;cases e
    ·rw[l] at e;cases e
   rw[J0 aa,J0 at'];exact o.gh a u e
  ·exact old a u (L a u e) (U2 e j)
  ·rcases o.gn a u e with e|e
   ·exact S a u e
   ·exact .inr (E6 L e)
  ·by_cases z:a=f
   ·subst z;rw[W0] at e;cases e
   ·rw[J0 z] at e;by_cases y:a=t
    ·subst y;rw[W0] at e;exfalso;have e:=HO.tup.inj (u3 e)
     match ks,e with
     |[],e=>simp at e
     | .inl _::_,e=>simp[kV] at e
     | .inr _::_,e=>simp[kV] at e
    ·rw[J0 y] at e;exact o.ft E a ks e
 ·have e:n=es.length:=by lia
  subst e;refine .inl ⟨it.stop _ s H2 N r hL.symm,?_⟩;have I2:=I1.grow N r L S E;obtain⟨kvs,hk⟩:∃ kvs:List (List Key × Addr × V),kvs=(es.zip as).map λx=>([Sum.inl x.1.1,Sum.inl x.1.2],x.2,V.bl true):=⟨_,rfl⟩
  have a3:kvs.length=es.length:=by rw[hk,R0,List.length_zip];lia
  have a1:y7 kvs=(es.zip as).foldl (λf x=>putK f [Sum.inl x.1.1,Sum.inl x.1.2] (.bl true)) []:=by
   unfold y7;rw[hk,List.foldl_map]
  refine VA ⟨f,C,kvs,rfl,l,by lia,by lia,λi t kv g D=>?_,λp Y=>?_⟩
  ·rw[hk,L1] at D;have hi:=(N1.mp g).1;have P:es[i]?=some es[i]:=Y0 (by lia);have e2:as[i]?=some as[i]:=Y0 (by lia);have Z:(es.zip as)[i]?=some (es[i],as[i]):=by
    rw[Y0 (by rw[List.length_zip];lia)];simp
   rw[Z] at D;cases D;obtain⟨q1,q2⟩:=A i t _ _ g e2 P;exact⟨q1,r _ _ q2⟩
  ·have o:=Out.newDT (xs:=y7 kvs) (ds:=kE (es.foldl addP [])) I2.gh Y (by rw[a1];exact yG (as:=as) .nil as M);exact k _ _ _ F1 _ _ P (I2.out o).1 ((g1.trans N).trans o.gg) (I2.out o).2 q
theorem RpT.val:∀{kvs:List (List Key × V)}{es:List (List Key × PyData)},RpT G kvs es->(valV kvs k).isSome=(valD es k).isSome
 |_,_,.nil=>rfl
 | (k',v)::r,(_,d)::s,.cons h t=>by
  have a:=RpT.val (k:=k) t;unfold valV valD at a ⊢;simp only[List.find?_cons];by_cases e:k'=k
  ·subst e;simp
  ·simpa[e] using a
theorem JH(p:Has env i (OT c))(h:Ev B ty env λy e2=>∃ es ks,Has e2 i (OT es)/\y=tkD ks/\Q' (.bool (!(valD es ks).isSome)) e2):Ev B (JC ty (tVar i)) env Q':=λσ G H F Q I k =>
 h σ G H F _ I λo j H2 F2 y e2 b l f g=>by
  obtain⟨es,ks,n,d,q⟩:=g;subst d;obtain⟨v,m,a,kvs,rfl,ha,rt,_⟩:=b.has n;cases f with
  | tup hk rs =>
   have:=vD rs;subst this;refine⟨_,m,a,_,rfl,DGet.t ha (b.gh _ _ hk),?_⟩;rw[RpT.val rt];exact k _ j H2 F2 _ e2 b l (.bl _) q
theorem QK(ps:List (Int × Int))(a b:Int):(valD (kE ps) [Sum.inl a,Sum.inl b]).isSome=decide ((a,b)∈ps):=by
 induction ps with
 |nil=>rfl
 | cons p ps ih =>
  unfold valD kE at ih ⊢;simp only[M2,List.find?_cons];by_cases e:p=(a,b)
  ·subst e;simp
  ·have:¬ (([Sum.inl p.1,Sum.inl p.2]:List Key)=[Sum.inl a,Sum.inl b]):=λz=>by
    simp at z;exact e (Prod.ext z.1 z.2)
   have c:¬ ((a,b)=p):=λz=>e z.symm;rw[D3 this];simp only[ih,D1,c,false_or]
theorem ZK{α:Type}{K:Frag}{src:List (Option Nat)}{a:En}{te:TE}{c:TT}{R:List PyData->En->Prop}{xs:List α}{f : α->PyData}(g : α->PyData)(p : α->Bool)(m:∀ o,A9 (none::src) a (stO o::V0 src a)=a)(E:xs.length<=999999)
  (h:∀ x∈xs,∀ j:Bs,j.K=K->EvT j c (some (.st (f x))::V0 src a) λb n=>b=p x/\n=some (.st (f x))::V0 src a/\(b=true->Ev j te (some (.st (f x))::V0 src a) λy l=>y=g x/\l=some (.st (f x))::V0 src a))
  (z:R ((xs.filter p).map g) a):LcV K (none::src) (N2 0) c te (xs.map f) a R:=by
 refine⟨λi ys e=>ys=((xs.take i).filter p).map g/\∃ o,e=stO o::V0 src a,⟨by simp,none,rfl⟩,?_,?_,?_⟩
 ·rintro i ys e ⟨_,o,rfl⟩;exact⟨⟨isIo_stO.symm,R8⟩,u9 iA⟩
 ·rintro i d ys e hd ⟨rfl,o,rfl⟩ j C;rw[L1] at hd;cases hx:xs[i]? with
  |none=>rw[hx] at hd;cases hd
  |some x =>
  rw[hx] at hd;cases hd;have hi:i<xs.length:=(N1.mp hx).1;have s:xs.take (i+1)=xs.take i++[x]:=by rw[S6,hx];rfl
  refine P3 ?_;show EvT j c (some (.st (f x))::V0 src a) _;intro σ G H F Q I k;refine h x (i3 hx) j C σ G H F Q I λb G' H' F' n q g' ⟨hb,w,A⟩=>k b G' H' F' n q g' ?_;subst w;by_cases hp:b=true
  ·rw[q0 hp];intro σ G H F Q I k;refine A hp σ G H F Q I λv G' H' F' d' l q g' B ⟨u,r⟩=>k v G' H' F' d' l q g' B ?_;subst u r;refine⟨?_,?_,some _,rfl⟩
   ·have:=X7 p (xs.take i);simp only[R0];have D:(xs.take i).length<=i:=by simp;lia
    lia
   ·rw[s,List.filter_append,N4];have:p x=true:=by rw[← hb];exact hp
    simp[this]
  ·rw[o0 hp];refine⟨?_,some _,rfl⟩;rw[s,List.filter_append,N4];have:p x=false:=by rw[← hb];simpa using hp
   simp[this]
 ·rintro ys e ⟨rfl,o,rfl⟩;rw[m,R0,Q6];exact z
abbrev VJ:=List Sl->(En->Sl->Prop)->Prop
def ioO:Option Sl->Option Sl
 |some (.io A)=>some (.io A)
 |_=>none
def cutE:Nat->En->En
 |0,_=>[]
 |n+1,[]=>none::cutE n []
 |n+1,x::xs=>ioO x::cutE n xs
theorem KC:∀(n:Nat)(e:En),(cutE n e).length=n
 |0,_=>rfl
 |n+1,[]=>by unfold cutE;rw[L3,KC n []]
 |n+1,_::xs=>by unfold cutE;rw[L3,KC n xs]
theorem uE:∀{n:Nat}{e:En}{i:Nat}{s:Sl},(cutE n e)[i]?=some (some s)->∃ A,s=.io A/\e[i]?=some (some (.io A))
 |0,_,_,_,h=>by simp[cutE] at h
 |n+1,[],0,_,h=>by simp[cutE] at h
 | n+1,[],i+1,_,h=>by
  unfold cutE at h;rw[Y3] at h;obtain⟨A,_,a⟩:=uE h;simp at a
 | n+1,x::xs,0,s,h=>by
  unfold cutE at h;rw[List.getElem?_cons_zero] at h;have h:=u3 h
  match x,h with
  |some (.io A),h=>cases h;exact⟨A,rfl,rfl⟩
  |some (.st _),h=>cases h
  |some (.own _),h=>cases h
  |some (.scr _),h=>cases h
  |none,h=>cases h
 | n+1,x::xs,i+1,s,h=>by
  unfold cutE at h;rw[Y3] at h;rw[Y3];exact uE h
def spJ(K:Frag)(f:VJ):Sp:=λvs H Q _=>∃(B:Bs)(ss:List Sl)(Q':En->Sl->Prop),B.K=K/\B.S=vs.map some/\VI B B.G H (vs.map some) (ss.map some) B.F/\f ss Q' /\
 ∀ e s,Q' e s->∀ v G' H' F' Fv,VI B G' H' (vs.map some) e F'->RsX B G' H' v Fv s F'->Q v H'
theorem YT [Decidable c]  (e:(if c then some (none:Option Sl) else none)=some (some s)):False:=by
 split at e <;> cases e
theorem VI.pad(I:VI B G H σ env F)(n:Nat):VI B G H (σ++List.replicate n none) (env++List.replicate n none) F :=
 ⟨I.gh,I.g0,I.gn,I.rs,I.rb,I.bh,I.fg,I.fr,I.fd,I.fo,λi s e=>by
  by_cases h:i<env.length
  ·rw[f8 h] at e;obtain⟨v,a,b⟩:=I.sl i s e;exact⟨v,by rw[f8 (by rw[I.ln];exact h)];exact a,b⟩
  ·rw[F7 (by lia),r9] at e;exact(YT e).elim,by rw[f3,f3,I.ln];simp,I.ft⟩
theorem VI.cut(I:VI B G H σ env F):VI B G H B.S (cutE B.S.length env) (λi a=>(∃ A,(cutE B.S.length env)[i]?=some (some (.io A)))/\F i a) :=
 ⟨I.gh,I.g0,I.gn,I.rs,I.rb,I.bh,λi a z=>I.fg i a z.2,λi a z=>I.fr i a z.2,λi j a y z=>I.fd i j a y.2 z.2,λi a z=>I.fo i a z.2,λi s e=>by
  obtain⟨A,rfl,h⟩:=uE e;obtain⟨v,f,c,d,b⟩:=I.sl i _ h;have:(λa=>(∃ A,(cutE B.S.length env)[i]?=some (some (.io A)))/\F i a)=F i:=by
   funext a
   exact propext ⟨λz=>z.2,λz=>⟨⟨A,e⟩,z⟩⟩
  exact⟨v,b,by rw[this];exact c,λa z=>d a z.2,b⟩,(KC _ _).symm,I.ft⟩
theorem RsX.cut(r:RsX B G H v Fv s F)(h:∀ i a,F2 i a->F i a):RsX B G H v Fv s F2:=⟨r.ok,r.fb,r.fg,r.fo,λj a z y=>r.fd j a z (h j a y)⟩
theorem bH(h:spJ K f vs H Q E)
  (hb:∀ ss Q',f ss Q'->∀ B,B.K=K->EvS B l { nx:=λe=>Q' (cutE ss.length e) (.st .none),rt:=λs e=>Q' (cutE ss.length e) s } (ss.map some++List.replicate (N.length-ss.length) none)):l { nx:=λ_ H'=>Q .non H',rt:=Q } (L2.start N vs) H:=by
 obtain⟨B,ss,Q',m,j,I,hf,n⟩:=h;have d:vs.length=ss.length:=by have:=I.ln;simpa using this
 have c:B.S.length=ss.length:=by rw[j,R0,d]
 have fin:∀{σ G' H' F env v Fv s},VI B G' H' σ env F->RsX B G' H' v Fv s F->Q' (cutE ss.length env) s->Q v H':=λ{σ G' H' F env v Fv s} b r q=>by
  have J:=b.cut;have X:=r.cut (F2:=λi a=>(∃ A,(cutE B.S.length env)[i]?=some (some (.io A)))/\F i a) λi a z=>z.2;rw[c] at J X;rw[j] at J;exact n _ s q v G' H' _ Fv J X
 refine hb ss Q' hf B m (L2.start N vs) B.G H B.F _ ?_ ⟨λσ G' H' F env b g q=>fin b (V6 .non) q,λσ G' H' F env v Fv s b g r q=>fin b r q,λ_ _ _ _ _ _ _ q=>q,λ_ _ _ _ _ _ _ q=>q⟩;unfold L2.start;rw[d];exact I.pad _
theorem lenJ(h:spJ K f vs H Q E)(hf:∀ ss Q',f ss Q'->ss.length=n):vs.length=n:=by
 obtain⟨B,ss,Q',_,_,I,q,_⟩:=h;have:=I.ln;rw[R0,R0] at this;rw[this];exact hf ss Q' q
inductive AJ where
 |pl (d:PyData)
 |rf (i:Nat)
def R4:List AJ->List Nat
 |[]=>[]
 | .pl _::js=>R4 js
 | .rf i::js=>i::R4 js
def ArgJ(σ:St)(G:Hp):V->AJ->Prop
 |v,.pl d=>Rp G v d
 |v,.rf i=>σ[i]?=some (some v)
inductive ArgsJ(σ:St)(G:Hp):List V->List AJ->Prop
 |nil:ArgsJ σ G [] []
 |cons {v:V} {j:AJ} {vs:List V} {js:List AJ}:ArgJ σ G v j->ArgsJ σ G vs js->ArgsJ σ G (v::vs) (j::js)
def EvJ(B:Bs)(ta:TA)(env:En)(Q':List AJ->En->Prop):Prop:=∀(σ:St)(G H:Hp)(F:Nat->Addr->Prop)(Q:List V->Hp->Prop),VI B G H σ env F ->
 (∀ vs G' H' F' js env',VI B G' H' σ env' F'->Same G G'->ArgsJ σ G' vs js->Q' js env'->Q vs H')->ta σ H Q
inductive SlJ(e:En):List AJ->List Sl->Prop
 |nil:SlJ e [] []
 |pl {d:PyData} {js:List AJ} {ss:List Sl}:SlJ e js ss->SlJ e (.pl d::js) (.st d::ss)
 |rf {i:Nat} {A:Own} {js:List AJ} {ss:List Sl}:Has e i A->SlJ e js ss->SlJ e (.rf i::js) (.io A::ss)
inductive PutJ:En->List AJ->En->En->Prop
 |nil {e:En}:PutJ e [] [] e
 |pl {e r e2:En} {d:PyData} {x:Option Sl} {js:List AJ}:PutJ e js r e2->PutJ e (.pl d::js) (x::r) e2
 |rf {e r e2:En} {i:Nat} {s0:Sl} {A A':Own} {js:List AJ}:e[i]?=some (some s0)->(s0=.own A\/s0=.io A)->PutJ (e.set i (some (reS s0 A'))) js r e2->PutJ e (.rf i::js) (some (.io A')::r) e2
theorem V8:∀{js:List AJ}{j i:Nat},js[j]?=some (.rf i)->i∈R4 js
 |[],_,_,h=>by simp at h
 | .pl _::js,0,_,h=>by simp at h
 | .rf k::js,0,_,h=>by simp at h;simp[R4,h]
 | .pl _::js,j+1,_,h=>by rw[Y3] at h;exact V8 (js:=js) h
 | .rf k::js,j+1,_,h=>by rw[Y3] at h;exact S2 _ (V8 h)
theorem aE:∀{js:List AJ}{i:Nat},i∈R4 js->∃ j:Nat,js[j]?=some (AJ.rf i)
 |[],_,h=>by simp[R4] at h
 | .pl _::js,i,h=>by
  obtain⟨j,a⟩:=aE (js:=js) h;exact⟨j+1,by rw[Y3];exact a⟩
 | .rf k::js,i,h=>by
  rcases D1.mp h with rfl|h
  ·exact⟨0,rfl⟩
  ·obtain⟨j,a⟩:=aE (js:=js) h;exact⟨j+1,by rw[Y3];exact a⟩
theorem SC:∀{js:List AJ}{j j' i:Nat},(R4 js).Nodup->js[j]?=some (.rf i)->js[j']?=some (.rf i)->j=j'
 |[],_,_,_,_,h,_=>by simp at h
 |x::js,0,0,_,_,_,_=>rfl
 | .pl _::js,0,_+1,_,_,h,_=>by simp at h
 | .pl _::js,_+1,0,_,_,_,h=>by simp at h
 | .rf k::js,0,j'+1,i,n,h,h'=>by
  simp at h;subst h;rw[Y3] at h';exact absurd (V8 h') (O5.mp n).1
 | .rf k::js,j+1,0,i,n,h,h'=>by
  simp at h';subst h';rw[Y3] at h;exact absurd (V8 h) (O5.mp n).1
 | .pl _::js,j+1,j'+1,i,n,h,h'=>by
  rw[Y3] at h h';rw[SC (js:=js) n h h']
 | .rf k::js,j+1,j'+1,i,n,h,h'=>by
  rw[Y3] at h h';rw[SC (js:=js) (O5.mp n).2 h h']
theorem PutJ.io(h:PutJ e js r e2):∀{i j:Nat},js[j]?=some (.rf i)->∃ A',r[j]?=some (some (.io A')):=by
 induction h with
 |nil=>intro i j h;simp at h
 | pl _ ih =>
  intro i j h;cases j with
  |zero=>simp at h
  |succ j=>rw[Y3] at h ⊢;exact ih h
 | rf _ _ _ ih =>
  intro i j h;cases j with
  |zero=>exact⟨_,rfl⟩
  |succ j=>rw[Y3] at h ⊢;exact ih h
theorem PutJ.length(h:PutJ e js r e2):e2.length=e.length:=by
 induction h with
 |nil=>rfl
 |pl _ ih=>exact ih
 |rf _ _ _ ih=>rw[ih,List.length_set]
theorem PutJ.at(h:PutJ e js r e2):(R4 js).Nodup->∀{i:Nat}{s:Sl},e2[i]?=some (some s)->(i ∉ R4 js/\e[i]?=some (some s))\/∃(j:Nat)(A A':Own),js[j]?=some (AJ.rf i)/\r[j]?=some (some (.io A'))/\((e[i]?=some (some (.own A))/\s=.own A')\/(e[i]?=some (some (.io A))/\s=.io A')):=by
 induction h with
 |nil=>intro _ i s h;exact .inl ⟨by simp[R4],h⟩
 | pl _ ih =>
  intro n i s h;rcases ih n h with z|⟨j,A,A',d,f,c⟩
  ·exact .inl z
  ·exact .inr ⟨j+1,A,A',by rw[Y3];exact d,by rw[Y3];exact f,c⟩
 | @rf e r e2 k s0 A A' js h0 hs _ ih =>
  intro n i s h;have l:=O5.mp n;rcases ih l.2 h with ⟨m,a⟩|⟨j,o,g,d,f,c⟩
  ·rw[y4] at a;by_cases b:k=i
   ·subst b;rw[q0 rfl,q0 (N1.mp h0).1] at a;cases a;refine .inr ⟨0,A,A',rfl,rfl,?_⟩;rcases hs with rfl|rfl
    ·exact .inl ⟨h0,rfl⟩
    ·exact .inr ⟨h0,rfl⟩
   ·rw[o0 b] at a;exact .inl ⟨λz=>by
     rcases D1.mp z with y|y
     ·exact b y.symm
     ·exact m y,a⟩
  ·have b:k ≠ i:=λz=>l.1 (z ▸ V8 d);rw[y4,o0 b] at c;exact .inr ⟨j+1,o,g,by rw[Y3];exact d,by rw[Y3];exact f,c⟩
theorem SlJ.length(h:SlJ e js ss):ss.length=js.length:=by
 induction h with
 |nil=>rfl
 |pl _ ih=>simp[ih]
 |rf _ _ ih=>simp[ih]
theorem ArgsJ.length(h:ArgsJ σ G vs js):vs.length=js.length:=by
 induction h with
 |nil=>rfl
 |cons _ _ ih=>simp[ih]
theorem ArgsJ.get(h:ArgsJ σ G vs js):∀{j:Nat}{x:AJ},js[j]?=some x->∃ v,vs[j]?=some v/\ArgJ σ G v x:=by
 induction h with
 |nil=>intro j x h;simp at h
 | cons q _ ih =>
  intro j x h;cases j with
  |zero=>simp at h;subst h;exact⟨_,rfl,q⟩
  |succ j=>rw[Y3] at h ⊢;exact ih h
theorem SlJ.get(h:SlJ e js ss):∀{j:Nat}{s:Sl},ss[j]?=some s->(∃ d,js[j]?=some (AJ.pl d)/\s=.st d)\/∃ i A,js[j]?=some (AJ.rf i)/\s=.io A/\Has e i A:=by
 induction h with
 |nil=>intro j s h;simp at h
 | pl _ ih =>
  intro j s h;cases j with
  |zero=>simp at h;exact .inl ⟨_,rfl,h.symm⟩
  |succ j=>rw[Y3] at h ⊢;exact ih h
 | rf q _ ih =>
  intro j s h;cases j with
  |zero=>simp at h;exact .inr ⟨_,_,rfl,h.symm,q⟩
  |succ j=>rw[Y3] at h ⊢;exact ih h
theorem NA(q:QJ [] env):EvJ B tNil env QJ:=λσ G H F Q I k=>k [] G H F [] env I (Same.refl _) .nil q
theorem oB(h:Ev B te env λx b=>EvJ B t b λxs e2=>QJ (.pl x::xs) e2):EvJ B (Y1 te t) env QJ:=λσ G H F Q I k =>
 h σ G H F _ I λr m d q x b o i l c=>c σ m d q _ o λvs g H2 F2 js e2 p a f n=>k _ g H2 F2 _ e2 p (i.trans a) (.cons (j:=.pl x) (l.same a) f) n
theorem fB(f:env[i]?=some (some s))(h:EvJ B t env λxs e2=>QJ (.rf i::xs) e2):EvJ B (Y1 (tVar i) t) env QJ:=λσ G H F Q I k=>by
 obtain⟨v,a,_⟩:=I.sl i _ f;exact⟨v,a,h σ G H F _ I λvs c H2 F2 js e2 l d b g=>k _ c H2 F2 _ e2 l d (.cons (j:=.rf i) a b) g⟩
theorem KO(nd:(R4 js).Nodup):∃ inv:Nat->Option Nat,(∀ i j,inv i=some j ↔ js[j]?=some (AJ.rf i))/\∀ i,inv i=none ↔ i ∉ R4 js:=by
 have a:∀ i,∃ o:Option Nat,(∀ j,o=some j ↔ js[j]?=some (AJ.rf i))/\(o=none ↔ i ∉ R4 js):=λi=>by
  by_cases hh:i∈R4 js
  ·obtain⟨j,b⟩:=aE hh;exact⟨some j,λk=>⟨λz=>by cases z;exact b,λz=>congrArg some (SC nd b z)⟩,⟨λz=>(nomatch z),λz=>absurd hh z⟩⟩
  ·exact⟨none,λk=>⟨λz=>(nomatch z),λz=>absurd (V8 z) hh⟩,⟨λ_=>hh,λ_=>rfl⟩⟩
 exact⟨λi=>Classical.choose (a i),λi j=>(Classical.choose_spec (a i)).1 j,λi=>(Classical.choose_spec (a i)).2⟩
theorem U9(O:B.K=K)(h:EvJ B t env λjs r=>∃ ss,SlJ r js ss/\(R4 js).Nodup/\f ss λe s=>∃ e2,PutJ r js e e2/\QO s e2):EvO B (M3 (spJ K f) [] E t) env QO:=λσ G H F Q I k=>by
 subst O;unfold M3;simp only[m5];refine h σ G H F _ I λvs T o C js r w R a1 ⟨ss,M,nd,hf⟩=>?_;obtain⟨inv,i1,P⟩:=KO nd;have inj:∀ i c j,inv i=some j->inv c=some j->i=c:=λi c j x y=>by
  have x:=(i1 i j).mp x;have y:=(i1 c j).mp y;rw[x] at y;cases y;rfl
 have J:=w.enter (inv:=inv) (σI:=vs.map some) (envI:=ss.map some) inj (by rw[R0,R0,a1.length,M.length]) (λj s e=>by
  rw[L1] at e;obtain⟨s',W,e2⟩:=Option.map_eq_some_iff.mp e;cases e2;rcases M.get W with ⟨d,b,rfl⟩|⟨i,A,b,rfl,l⟩
  ·obtain⟨v,g,q⟩:=a1.get b;refine⟨v,by rw[L1,g];rfl,.inl ⟨d,rfl,q,λi z=>?_⟩⟩;rw[(i1 i j).mp z] at b;cases b
  ·obtain⟨v,g,q⟩:=a1.get b;exact⟨v,by rw[L1,g];rfl,.inr (.inr ⟨i,A,(i1 i j).mpr b,rfl,q,l⟩)⟩)
 refine⟨⟨B.K,T,o,u4 o C inv,vs.map some,λj a=>∃ i,inv i=some j/\C i a⟩,ss,_,rfl,rfl,J,hf,λe s ⟨e2,p,q⟩ v G' H' F' Fv D X=>?_⟩
 have L:=w.leave (inv:=inv) (env2:=e2) inj rfl rfl (λa u e n=>by show u4 o C inv a=_;rw[K9 n];exact e) (λi j hi a z=>by
   obtain⟨c,m,z⟩:=z;rw[inj i c j hi m];exact z) (λi j hi=>by
   obtain⟨v,g,q⟩:=a1.get ((i1 i j).mp hi);show(vs.map some)[j]? = σ[i]?;rw[L1,g,q];rfl) D (λi j hi=>p.io ((i1 i j).mp hi)) p.length (λi s' e=>by
   rcases p.at nd e with ⟨U,N⟩|⟨j,A,A',b,l,S⟩
   ·exact .inl ⟨(P i).mpr U,N⟩
   ·exact .inr ⟨j,A,A',(i1 i j).mpr b,l,S⟩)
 exact k v G' H' _ Fv s _ L (R.trans D.g0) (X.leave (inv:=inv) w rfl) q
theorem pB(j:B.K=K)(h:EvJ B t env λjs c=>∃ ss,SlJ c js ss/\(R4 js).Nodup/\f ss λe s=>∃ e2,PutJ c js e e2/\FQ s λd=>Q' d e2):Ev B (M3 (spJ K f) [] E t) env Q':=U3 (U9 j (by
 intro σ G H F Q I k;exact h σ G H F Q I λvs G' H' F' js b n g a ⟨ss,m,i,l⟩=>k vs G' H' F' js b n g a ⟨ss,m,i,l⟩))
end VL
namespace L2
open PySem PySem.W PyProof.Rows
def wG:R2:=λx y H Q=>∃ b c,x=.bl b/\y=.bl c/\Q (.bl (!decide (b=c))) H
theorem tD:OpR X (compareOp .IsNot) wG:=by
 intro pins s σ H x y v u Q I a d h;obtain⟨b,c,rfl,rfl,q⟩:=h;cases a;cases d;refine wpAny_isNot_plain rfl (E2 I q ?_);cases b <;> cases c <;> rfl
end L2
namespace VL
open PySem PySem.Spec L2
theorem zE(h:R (.st (.bool (!decide (b=c))))):Op2 wG (.bool b) (.bool c) R:=λG H f g Q gh a d k=>by
 cases a;cases d;exact⟨b,c,rfl,rfl,k _ _ _ _ _ (Out.refl gh (.bl _)) h⟩
end VL
namespace L2
open PySem PySem.Spec PyProof.Rows PySem.W
def LamH(P:Addr)(H H':Hp):Prop:=H'=H\/∃ c,H c=none/\H'=upd H c (.own P)
def LamAt(K:Frag)(mg:Str->Option Value):Prop:=∃ f c P,mg lamN=some (.ref f)/\tabIn K lamN=some (c,P)/\codeHdIn K c P=true/\∀ oc od fd sl,K.lookup f=some ⟨oc,od,.func fd,sl⟩->fd.code=.ref c
theorem tabs0_none{K:Frag}{h:Heap}(e:tabIn K lamN=none):R9 K h:=λc P q=>by rw[e] at q;cases q
end L2
namespace L2
open PySem PySem.W
theorem tab_no(a:nsIn K mainGlobals lamN=some none):tabIn K lamN=none:=by
 unfold tabIn;rw[a]
end L2
namespace G
open PySem L2 VL
def top(i:Nat):Stmt:=PySem.Challenge.pw_fewties_k52_whole_growing_webs_handed_on.main.body.getD i (.Pass ⟨0,0,0,0⟩)
abbrev s_is_whole:Stmt:=top 9
abbrev s_is_between:Stmt:=top 10
abbrev s_need_number:Stmt:=top 11
abbrev s_is_place:Stmt:=top 12
abbrev s_is_tie:Stmt:=top 13
abbrev s_are_ties:Stmt:=top 14
abbrev s_is_rising:Stmt:=top 15
abbrev s_is_web:Stmt:=top 16
abbrev s_tied_places:Stmt:=top 17
abbrev s_far_from:Stmt:=top 18
abbrev s_need_place:Stmt:=top 19
abbrev s_all_far:Stmt:=top 20
abbrev s_how_far:Stmt:=top 21
abbrev s_is_joined:Stmt:=top 22
abbrev s_need_joined:Stmt:=top 24
abbrev s_far_rows:Stmt:=top 25
abbrev s_most_far:Stmt:=top 26
abbrev s_farthest_two:Stmt:=top 27
abbrev s_middles:Stmt:=top 28
abbrev s_far_paper:Stmt:=top 29
abbrev s_far_shows:Stmt:=top 30
abbrev s_is_square:Stmt:=top 31
abbrev s_is_long:Stmt:=top 32
abbrev s_number_holds:Stmt:=top 33
abbrev s_with_ties:Stmt:=top 35
abbrev s_far_or_none:Stmt:=top 37
abbrev s_hubs_for:Stmt:=top 41
abbrev s_hub_ties:Stmt:=top 42
abbrev s_show_tie:Stmt:=top 45
abbrev s_show_web:Stmt:=top 46
abbrev s_number_of:Stmt:=top 47
abbrev s_tie_of:Stmt:=top 48
abbrev s_read_web:Stmt:=top 49
abbrev s_stay_shows:Stmt:=top 53
abbrev s_is_pair:Stmt:=top 54
abbrev s_need_places:Stmt:=top 55
abbrev s_need_far:Stmt:=top 56
abbrev s_are_apart:Stmt:=top 57
abbrev s_best_stay:Stmt:=top 58
abbrev s_apart_lists:Stmt:=top 59
abbrev s_places_after:Stmt:=top 60
abbrev s_law_draws:Stmt:=top 62
abbrev s_law_take:Stmt:=top 63
abbrev s_law_web:Stmt:=top 64
abbrev s_law_free:Stmt:=top 65
abbrev s_law_handed_right:Stmt:=top 66
abbrev s_law_deed:Stmt:=top 67
abbrev s_law_stands:Stmt:=top 68
abbrev s_law:Stmt:=top 69
abbrev s_Grower____init__:Stmt:=D8 (top 38) 0
abbrev s_Grower__put_place:Stmt:=D8 (top 38) 1
abbrev s_Grower__put_tie:Stmt:=D8 (top 38) 2
abbrev s_Grower__become:Stmt:=D8 (top 38) 3
abbrev s_Grower__web:Stmt:=D8 (top 38) 4
abbrev s_Grower__farthest:Stmt:=D8 (top 38) 5
abbrev s_Grower__far:Stmt:=D8 (top 38) 6
structure Txt(K:Frag)(mg:Str->Option Value):Prop where
 ae:mg "ValueError" = none
 af:mg "all" = none
 ag:mg "max" = none
 ah:mg "min" = none
 ai:mg "any" = none
 aj:mg "sorted" = none
 ak:mg "int" = none
 am:mg "tuple" = none
 ao:mg "reversed" = none
 aq:mg "range" = none
 au:mg "enumerate" = none
 av:mg "list" = none
 aw:mg "dict" = none
 az:mg "isinstance" = none
 aV:mg "len" = none
 aW:mg "str" = none
 aX:mg "abs" = none
 aY:mg "bool" = none
 aZ:mg "zip" = none
 bf:∃ t,mg "MOST_PLACES" = some (.int 60 t)
 bg:∃ t,mg "MOST_HUB_TIES" = some (.int 20 t)
 bi:∃ t,mg "FIGURES" = some (.str "0123456789" t)
 bj:∃ t,mg "MOST_STAY_TIES" = some (.int 5 t)
 bn:∃ t,mg "MOST_PLACES_FOR_STAY" = some (.int 12 t)
 bo:∃ f fd,DefAt K mg "is_whole" s_is_whole ["thing"] f fd
 bp:∃ f fd,DefAt K mg "is_between" s_is_between ["least","most","thing"] f fd
 bq:∃ f fd,DefAt K mg "need_number" s_need_number ["least","most","thing"] f fd
 bu:∃ f fd,DefAt K mg "is_place" s_is_place ["n","thing"] f fd
 bv:∃ f fd,DefAt K mg "is_tie" s_is_tie ["n","thing"] f fd
 bw:∃ f fd,DefAt K mg "are_ties" s_are_ties ["n","thing"] f fd
 bx:∃ f fd,DefAt K mg "is_rising" s_is_rising ["things"] f fd
 bz:∃ f fd,DefAt K mg "is_web" s_is_web ["thing"] f fd
 bV:∃ f fd,DefAt K mg "tied_places" s_tied_places ["web"] f fd
 bW:∃ f fd,DefAt K mg "far_from" s_far_from ["tied","start"] f fd
 bX:∃ f fd,DefAt K mg "need_place" s_need_place ["web","thing"] f fd
 bY:∃ f fd,DefAt K mg "all_far" s_all_far ["web","a"] f fd
 bZ:∃ f fd,DefAt K mg "how_far" s_how_far ["web","a","b"] f fd
 cc:∃ f fd,DefAt K mg "is_joined" s_is_joined ["web"] f fd
 ce:∃ f fd,DefAt K mg "need_joined" s_need_joined ["web"] f fd
 cf:∃ f fd,DefAt K mg "far_rows" s_far_rows ["web"] f fd
 cg:∃ f fd,DefAt K mg "most_far" s_most_far ["rows"] f fd
 ck:∃ f fd,DefAt K mg "farthest_two" s_farthest_two ["web"] f fd
 cm:∃ f fd,DefAt K mg "middles" s_middles ["web"] f fd
 cp:∃ f fd,DefAt K mg "far_paper" s_far_paper ["web"] f fd
 cq:∃ f fd,DefAt K mg "far_shows" s_far_shows ["web","d","paper"] f fd
 cr:∃ f fd,DefAt K mg "is_square" s_is_square ["n","paper"] f fd
 cu:∃ f fd,DefAt K mg "is_long" s_is_long ["n","thing"] f fd
 cw:∃ f fd,DefAt K mg "number_holds" s_number_holds ["tied","d","paper","a","b"] f fd
 cx:∃ f fd,DefAt K mg "with_ties" s_with_ties ["web","ties"] f fd
 cy:∃ f fd,DefAt K mg "far_or_none" s_far_or_none ["web"] f fd
 cz:∃ f fd,DefAt K mg "hubs_for" s_hubs_for ["web","k"] f fd
 cV:∃ f fd,DefAt K mg "hub_ties" s_hub_ties ["web","k"] f fd
 cW:∃ f fd,DefAt K mg "show_tie" s_show_tie ["tie"] f fd
 cX:∃ f fd,DefAt K mg "show_web" s_show_web ["web"] f fd
 cY:∃ f fd,DefAt K mg "number_of" s_number_of ["word"] f fd
 cZ:∃ f fd,DefAt K mg "tie_of" s_tie_of ["word"] f fd
 da:∃ f fd,DefAt K mg "read_web" s_read_web ["text"] f fd
 db:∃ f fd,DefAt K mg "stay_shows" s_stay_shows ["web","k","paper"] f fd
 dd:∃ f fd,DefAt K mg "is_pair" s_is_pair ["thing"] f fd
 df:∃ f fd,DefAt K mg "need_places" s_need_places ["k"] f fd
 dg:∃ f fd,DefAt K mg "need_far" s_need_far ["r"] f fd
 dh:∃ f fd,DefAt K mg "are_apart" s_are_apart ["rows","least","places"] f fd
 di:∃ f fd,DefAt K mg "best_stay" s_best_stay ["web","k"] f fd
 dj:∃ f fd,DefAt K mg "apart_lists" s_apart_lists ["rows","least","many"] f fd
 dl:∃ f fd,DefAt K mg "places_after" s_places_after ["rows","least","places"] f fd
 dm:∃ f fd,DefAt K mg "_law_draws" s_law_draws ["script","many"] f fd
 dq:∃ f fd,DefAt K mg "_law_take" s_law_take ["store","many"] f fd
 du:∃ f fd,DefAt K mg "_law_web" s_law_web ["store","most"] f fd
 dv:∃ f fd,DefAt K mg "_law_free" s_law_free ["web"] f fd
 dw:∃ f fd,DefAt K mg "_law_handed_right" s_law_handed_right ["store","told","web"] f fd
 dy:∃ f fd,DefAt K mg "_law_deed" s_law_deed ["store","grower","web","before"] f fd
 dz:∃ f fd,DefAt K mg "_law_stands" s_law_stands ["store","grower","web"] f fd
 dW:∃ f fd,DefAt K mg "law" s_law ["script"] f fd
 dX:∃ C,ObAt K mg "Grower" C
 dY:∀ C,mg "Grower" = some (.ref C)->NoAttr K C "held"
 dZ:∀ C,mg "Grower" = some (.ref C)->∃ f fd,MeAt K C "__init__" "Grower.__init__" s_Grower____init__ ["self","web"] f fd
 ec:∀ C,mg "Grower" = some (.ref C)->∃ f fd,MeAt K C "put_place" "Grower.put_place" s_Grower__put_place ["self","a"] f fd
 ee:∀ C,mg "Grower" = some (.ref C)->∃ f fd,MeAt K C "put_tie" "Grower.put_tie" s_Grower__put_tie ["self","a","b"] f fd
 ef:∀ C,mg "Grower" = some (.ref C)->∃ f fd,MeAt K C "become" "Grower.become" s_Grower__become ["self","grown"] f fd
 eg:∀ C,mg "Grower" = some (.ref C)->∃ f fd,MeAt K C "web" "Grower.web" s_Grower__web ["self"] f fd
 el:∀ C,mg "Grower" = some (.ref C)->∃ f fd,MeAt K C "farthest" "Grower.farthest" s_Grower__farthest ["self"] f fd
 eo:∀ C,mg "Grower" = some (.ref C)->∃ f fd,MeAt K C "far" "Grower.far" s_Grower__far ["self","a","b"] f fd
local macro_rules|`(tactic|clear 0 $e*)=>`(tactic|with_reducible first $[|refine $e ?_]*)|`(tactic|clear 1 $e*)=>`(tactic|first $[|((with_reducible refine' $e ?h ?_);(case h=>exact rfl))]*)|`(tactic|clear 2 $e*)=>`(tactic|first $[|((with_reducible refine' $e ?h ?_);(case h=>row_cond hs))]*)|`(tactic|clear 3 $e*)=>`(tactic|first $[|((with_reducible refine' $e ?h ?_);(case h=>row_cond dc))]*)|`(tactic|clear 5 $e*)=>`(tactic|first $[|((with_reducible refine' $e ?h ?k ?_);(case h=>exact rfl);(case k=>assumption))]*)|`(tactic|clear 9 $e*)=>`(tactic|with_reducible first $[|refine $e]*)|`(tactic|clear 7 $a $b:ident)=>`(tactic|((with_reducible refine $a ?_);row_cond $b))
local macro_rules|`(tactic|row_cond sc)=>`(tactic|exact ⟨rfl,rfl,rfl,by decide +kernel,rfl,by decide +kernel,by decide +kernel⟩)
local macro_rules|`(tactic|row_cond gn)=>`(tactic|first|clear 0 evg_n0 ZN NS KQ PM EL eO iO bM JL EM evg_n11 evg_n12 evg_n13 evg_n14 evg_n15 evg_n16 evg_n17 evg_n18 evg_n19 evg_n20 evg_n21 evg_n22 evg_n23 evg_n24 evg_n25|clear 7 P3 qc)
local macro_rules|`(tactic|row_cond dc)=>`(tactic|first|assumption|lia|(with_reducible rfl))
local macro_rules|`(tactic|row_cond ar)=>`(tactic|first|assumption|(refine ⟨?_, ?_, ?_⟩ <;> decide)|(constructor <;> first | assumption | lia)|(show (0 : Int) < _; first | assumption | lia)|(left; constructor <;> first | assumption | lia)|(right; constructor <;> first | assumption | lia))
local macro_rules|`(tactic|row_cond hs)=>`(tactic|first|exact Or.inl rfl|exact Or.inr rfl)
local macro_rules|`(tactic|row_cond fz)=>`(tactic|first|exact w4|exact frz_OD|exact frz_OT|exact z9|exact dC|assumption)
local macro_rules|`(tactic|row_cond le)=>`(tactic|first|exact Nat.le_of_ble_eq_true rfl|assumption|lia|(simp only [List.length_append, List.length_map, List.length_cons, List.length_nil, List.length_set, List.length_replicate]; lia))
local macro_rules|`(tactic|row_cond ia)=>`(tactic|first|assumption|exact at0|exact JE|exact at2|exact rfl)
local macro_rules|`(tactic|row_cond ty)=>`(tactic|first|exact wL|exact xM|exact pU|exact NQ|exact bL|exact ty_dict)
local macro_rules|`(tactic|row_cond sEvS)=>`(tactic|first|clear 9 (dU (fun c_ hc_ => ?_))|clear 0 nP lJ FS|clear 1 HJ|clear 0 XD YQ O9|clear 1 jT|((with_reducible refine' aG ?h ?_);(case h=>assumption)))
local macro_rules|`(tactic|row_cond sEvG)=>`(tactic|first|row_cond gn|clear 1 uF|clear 2 GN|clear 0 evg_st)
local macro_rules|`(tactic|row_cond sEv)=>`(tactic|first|clear 1 FN|clear 0 DK|clear 2 gK|clear 0 RN|((with_reducible refine' sN ?h0 ?_); (case h0 => row_cond ty))|((with_reducible refine' sL ?h0 ?h1 ?_); (case h0 => row_cond hs); (case h1 => row_cond fz))|clear 1 nU UM|clear 5 mO|clear 0 WK|((with_reducible refine' zL ?h0 ?h1 ?_); (case h0 => exact rfl); (case h1 => row_cond fz); row_cond qc)|clear 0 cU FL LT VO GO mT zT fL tT BU|clear 9 (U3 (te:=tCB (SA _) _) ?_) (U3 (te:=tCB (FD _) _) ?_) (U3 (te:=tCB eC _) ?_)|clear 0 GE|clear 2 WP CK SR|clear 0 ev_listR|((with_reducible refine' iN ?h0 ?_); (case h0 => decide))|clear 5 wU|clear 0 OS zS)
local macro_rules|`(tactic|row_cond sEvO)=>`(tactic|first|clear 9 (dD (r:=rCat) ?_) (dD (r:=rRep) ?_) (j3 (te:=tOp _ _ _) ?_) (j3 (te:=tVar _) ?_) (j3 (te:=tC _) ?_)|clear 0 aI|clear 1 kO|clear 0 dH|clear 1 AH rF|clear 5 iH|clear 0 HF zP|((with_reducible refine' IG ?h0 ?_); (case h0 => decide))|clear 0 XF zR|clear 5 oJ|clear 0 yR jL|clear 9 (KI (r:=bE _) ?_) (j3 (te:=tUn _ _) ?_) (j3 (te:=tIf _ _ _) ?_) (j3 (te:=MD _ _) ?_) (j3 (te:=tOrV _ _) ?_) (j3 (te:=uD _) ?_) (j3 (te:=QB _ _ _ _ _) ?_) (j3 (te:=JC _ _) ?_) (j3 (te:=tCB (rLen _) _) ?_) (j3 (te:=tCB (rIsi _) _) ?_) (j3 (te:=tCB XA _) ?_) (j3 (te:=tCB xB _) ?_) (j3 (te:=tCB PB _) ?_) (j3 (te:=tCB rAbs _) ?_) (j3 (te:=tCB (i9 _) _) ?_) (j3 (te:=tCB (TC _) _) ?_) (j3 (te:=tCB (rAll _) _) ?_) (j3 (te:=tCB (rAny _) _) ?_) (j3 (te:=tBM _ _ _ _ _) ?_))
local macro_rules|`(tactic|row_cond sEvI)=>`(tactic|clear 0 EO UL aQ MR AT vN evi_tup)
local macro_rules|`(tactic|row_cond sOp2)=>`(tactic|first|clear 0 TR QS|((with_reducible refine' WQ ?h0 ?_); (case h0 => row_cond ar))|clear 0 SK AQ|((with_reducible refine' TJ ?h ?_);(case h=>row_cond ia))|((with_reducible refine' DO ?h ?_);(case h=>row_cond ia))|clear 0 xL wQ|((with_reducible refine' YG ?h ?_);(case h=>row_cond le)))
local macro_rules|`(tactic|row_cond sRest)=>`(tactic|first|clear 0 x_bl x_st RQ VR|((with_reducible refine' tN ?h0 ?h1 ?_); (case h0 => row_cond hs); (case h1 => row_cond ia))|((with_reducible refine' YN ?h0 ?h1 ?_); (case h0 => row_cond hs); (case h1 => row_cond fz))|clear 1 x_sc|((with_reducible refine' BT ?h ?_);(case h=>row_cond le))|clear 0 P5 m6 BC DE|clear 3 RD CB lQ EU|((with_reducible refine' iQ ?h0 ?_); (case h0 => first | exact rfl | row_cond hs))|clear 1 x_rt|((with_reducible refine' lS ?h0 ?h1 ?_); (case h0 => exact rfl); (case h1 => row_cond le); row_cond qc)|((with_reducible refine' EE ?h0 ?h1 ?_); (case h0 => exact rfl); (case h1 => first | exact ixN0 | exact ixN1 | exact ixN2 | assumption); dsimp only [List.set_cons_zero, List.set_cons_succ, reS])|((with_reducible refine' MQ ?h0 ?h1 ?_); (case h0 => exact rfl); (case h1 => first | exact ixN0 | exact ixN1 | exact ixN2 | assumption); dsimp only [List.set_cons_zero, List.set_cons_succ, reS])|clear 0 DU AS|((with_reducible refine' x_dT ?h0 ?h1 ?_); (case h0 => exact rfl); (case h1 => row_cond le); row_cond qc)|clear 0 x_en sM|((with_reducible refine' jQ ?h ?k ?_);(case h=>lia);(case k=>lia))|((with_reducible refine' x_ow ?h0 ?_); (case h0 => exact rfl); row_cond qc))
local macro_rules|`(tactic|row_cond st)=>`(tactic|first|clear 7 VS sEvS|clear 7 iL sEvG|((with_reducible refine JU ?_);clear 0 bD DF)|clear 7 g_Ev sEv|clear 7 sU sEvO|((with_reducible refine gO ?_);clear 0 YA MC wM ZM uI B8 kN)|((with_reducible refine yP ?_);clear 0 IM GI)|clear 7 ES sEvI|((with_reducible refine GK ?_);clear 0 wP qP)|clear 7 IS sOp2|((with_reducible refine uS ?_);clear 0 mK)|((with_reducible refine RL ?_);clear 0 FK bT gT XP GU pM gM)|((with_reducible refine g_FQ ?_);clear 0 N7 p5 f7)|((with_reducible refine OK ?_);((with_reducible refine' nT ?h ?k ?_);(case h=>lia);(case k=>lia)))|((with_reducible refine fS ?_);((with_reducible refine' bR ?h0 ?_); (case h0 => lia)))|row_cond sRest)
local macro_rules|`(tactic|row_cond go)=>`(tactic|repeat row_cond st)
local macro_rules|`(tactic|row_cond qa)=>`(tactic|(dsimp only[List.set_cons_zero,List.set_cons_succ,reS]))
local macro_rules|`(tactic|row_cond qc)=>`(tactic|(dsimp only[List.set_cons_zero,List.set_cons_succ]))
def isInt:PyData->Bool
 | .int _=>true
 |_=>false
def btwD(a b:Int):PyData->Bool
 | .int i=>decide (a<=i/\i<=b)
 |_=>false
def oQ:VP:=λss Q=>∃ d,ss=[.st d]/\Q (.st (.bool (isInt d)))
def KS:VP:=λss Q=>∃(a b:Int)(d:PyData),ss=[.st (.int a),.st (.int b),.st d]/\Q (.st (.bool (btwD a b d)))
def cM:VP:=λss Q=>∃(n:Int)(d:PyData),ss=[.st (.int n),.st d]/\Q (.st (.bool (btwD 0 (n-1) d)))
theorem sc_is_whole:FnScope ["thing"] ["thing"] (S0 s_is_whole):=by row_cond sc
theorem qD(T:Txt K mg):Can P w K mg base "is_whole" 1 ["thing"] (spP K (oQ)):=by
 obtain⟨f,fd,D⟩:=T.bo;obtain⟨j,c⟩:=T.dX;have a:=c.mgx;have l:=T.dY _ a;refine D.can (D.fn.ok sc_is_whole (λvs H Q E h=>lenP h λss Q' q=>by obtain⟨d,rfl,k⟩:=q;rfl) (λcdv A outer s H vs Q E n h=>?_));have nd:=sc_is_whole.nd;refine⟨_,(I0 (O0 (U5 (Z0 n7 (by rfl) T.az q7 (f0 (pv 0) (f0 (u7 (v:=.ty "int") rfl T.ak zD rfl) i0))) (C6 (AN (Z0 n7 (by rfl) T.az q7 (f0 (pv 0) (f0 (u7 (v:=.ty "bool") rfl T.aY yL rfl) i0)))))))),?_⟩;refine T1 h λss Q' q B m=>?_;refine exS1 ss q λd g=>?_;have k:=g;clear g q;show EvS B _ _ [some (.st d)];row_cond go;cases d with
 |int i=>refine P5 ?_; row_cond go; exact k
 |bool b=>refine P5 ?_; row_cond go; exact k
 |_=>refine m6 ?_;exact k
theorem sc_is_between:FnScope ["least","most","thing"] ["least","most","thing"] (S0 s_is_between):=by row_cond sc
theorem JD(T:Txt K mg):Can P w K mg base "is_between" 2 ["least","most","thing"] (spP K (KS)):=by
 obtain⟨f,fd,D⟩:=T.bp;obtain⟨l,g⟩:=T.dX;have c:=g.mgx;have m:=T.dY _ c;refine D.can (D.fn.ok sc_is_between (λvs H Q E h=>lenP h λss Q' q=>by obtain⟨a,b,d,rfl,k⟩:=q;rfl) (λcdv A outer s H vs Q E o h=>?_));have nd:=sc_is_between.nd;refine⟨_,(I0 (O0 (U5 (G0 (qD T) o (f0 (pv 2) i0)) (C6 (jP J9 J9 (pv 0) (pv 2) (pv 1)))))),?_⟩;refine T1 h λss Q' q B p=>?_;refine exS3 ss q λa b d j=>?_;have k:=j;clear j q;show EvS B _ _ [some (.st (.int a)),some (.st (.int b)),some (.st d)];row_cond go;refine⟨d,rfl,?_⟩;row_cond go;cases d with
 | int i =>
  refine P5 ?_;row_cond go;refine L5 (λn=>?_) (λn=>?_)
  ·row_cond go;have e:decide (i<=b)=btwD a b (.int i):=by
    show _=decide (a<=i/\i<=b);rw[f6];simp[n]
   rw[e];exact k
  ·have e:false=btwD a b (.int i):=by
    show _=decide (a<=i/\i<=b);exact(D3 (λz=>n z.1)).symm
   rw[e];exact k
 |_=>exact m6 k
theorem sc_is_place:FnScope ["n","thing"] ["n","thing"] (S0 s_is_place):=by row_cond sc
theorem kB(T:Txt K mg):Can P w K mg base "is_place" 3 ["n","thing"] (spP K (cM)):=by
 obtain⟨f,fd,D⟩:=T.bu;obtain⟨g,b⟩:=T.dX;have a:=b.mgx;have i:=T.dY _ a;refine D.can (D.fn.ok sc_is_place (λvs H Q E h=>lenP h λss Q' q=>by obtain⟨n,d,rfl,k⟩:=q;rfl) (λcdv A outer s H vs Q E j h=>?_));have nd:=sc_is_place.nd;refine⟨_,(I0 (O0 (G0 (JD T) j (f0 t0 (f0 (K0 k6 (pv 0) t0) (f0 (pv 1) i0)))))),?_⟩;refine T1 h λss Q' q B l=>?_;refine exS2 ss q λn d c=>?_;have k:=c;clear c q;show EvS B _ _ [some (.st (.int n)),some (.st d)];row_cond go;exact⟨_,_,_,rfl,k⟩
def rQ:VP:=λss Q=>∃(n:Int)(es:List (Int × Int)),ss=[.st (webD n es)]/\0<=n/\n<=100/\InN n es/\es.length<=10000/\∀ tl,TiedL n (Tied es) tl->(∀ us∈tl,us.length<=20000)->Q (.own (OLL (tlD tl)))
theorem sc_tied_places:FnScope ["web","n","ties","tied","a","b"] ["web"] (S0 s_tied_places):=by row_cond sc
theorem jE(T:Txt K mg):Can P w K mg base "tied_places" 1 ["web"] (spP K (rQ)):=by
 obtain⟨f,fd,D⟩:=T.bV;obtain⟨y,m⟩:=T.dX;have l:=m.mgx;have G:=T.dY _ l;refine D.can (D.fn.ok sc_tied_places (λvs H Q E h=>lenP h λss Q' q=>by obtain⟨n,es,rfl,M,S,x,C,k⟩:=q;rfl) (λcdv A outer s H vs Q E W h=>?_));have nd:=sc_tied_places.nd
 refine⟨_,(D0 (U4 (pv 0) (j5 rfl (X2 (T0 (i:=1) nd rfl ab) (X2 (T0 (i:=2) nd rfl ab) o5))))
  (D0 (P9 (i:=3) nd rfl ab rfl (N:=["place"]) (src:=[none]) (by exact z3 rfl rfl rfl rfl rfl rfl) (R5 rfl T.aq (f0 (pv 1) i0)) (λ_ _ _ _=>(T0 (i:=0) (show List.Nodup (["place"]:List Str) by decide +kernel) rfl ab (hf:=Or.inr rfl))) (λ_ _ _ _=>v3) (λ_ _ _ _=>(T3 i0)))
  (D0 (J6 t5 rfl (S3 (pv 2)) (j5 rfl (X2 (T0 (i:=4) nd rfl ab) (X2 (T0 (i:=5) nd rfl ab) o5)))
   (D0 (Z3 (X4 PySem.F.plainAttrs_list PySem.F.slot_list_append PySem.F.type_list_append L6 (P0 Q0 (pv 3) (pv 4) (λ_ _=>rfl)) (f0 (pv 5) i0)))
    (I0 (Z3 (X4 PySem.F.plainAttrs_list PySem.F.slot_list_append PySem.F.type_list_append L6 (P0 Q0 (pv 3) (pv 5) (λ_ _=>rfl)) (f0 (pv 4) i0))))))
  (I0 (O0 (pv 3)))))),?_⟩
 refine T1 h λss Q' q B U=>?_;refine exS2 ss q λn es c=>?_;have M:=c.1;have S:=c.2.1;have x:=c.2.2.1;have C:=c.2.2.2.1;have k:=c.2.2.2.2;clear c q;show EvS B _ _ [some (.st (webD n es)),none,none,none,none,none];row_cond go;rw[M7];refine⟨by lia,?_⟩;row_cond go
 refine yE (λi e=>∃ L I tl,e=[some (.st (webD n es)),some (.st (.int n)),some (.st (.list (es.map prD))),some (.own (OLL (tlD tl))),L,I]/\TiedL n (Tied (es.take i)) tl/\∀ ws∈tl,ws.length<=2 * i)
  ⟨none,none,List.replicate n.toNat [],by simp[tlD],⟨by simp;lia,λi ws hi w=>?_⟩,λws R=>?_⟩ ?_ ?_
 ·rw[r9] at hi;split at hi
  ·cases hi;simp[Tied]
  ·cases hi
 ·have:=List.eq_of_mem_replicate R;subst this;simp
 ·rintro i ⟨a,b⟩ e J o;refine exS3 e o λL I tl c=>?_;have p:=c.1;have j:=c.2;clear c o;have hi:i<es.length:=(N1.mp J).1;obtain⟨a0,a1,b0,b1⟩:=x _ (i3 J);dsimp only at a0 a1 b0 b1;row_cond go;obtain⟨ws,d,_⟩:=p.get a0 a1;have O:=j ws (i3 d);refine PF (n:=a.toNat) (ds:=ws.map .int) rfl rfl rfl (by rw[R0];exact sC a0 (by rw[p.1];exact a1)) (DC d) (by rw[R0];lia) ?_;row_cond qc;have z:=p.put (q:=b) a0 a1 d;rw[show ws.map PyData.int++[.int b]=(ws++[b]).map .int by simp,wF];have g:∀ us∈tl.set a.toNat (ws++[b]),us.length<=2 * i+1:=λus r=>by
   rcases List.mem_or_eq_of_mem_set r with h|h
   ·have:=j us h;lia
   ·subst h;simp;lia
  generalize tl.set a.toNat (ws++[b])=tl2 at z g;row_cond go;obtain⟨ws,d,_⟩:=z.get b0 b1;have O:=g ws (i3 d);refine PF (n:=b.toNat) (ds:=ws.map .int) rfl rfl rfl (by rw[R0];exact sC b0 (by rw[z.1];exact b1)) (DC d) (by rw[R0];lia) ?_;row_cond qc;rw[show ws.map PyData.int++[.int a]=(ws++[a]).map .int by simp,wF];refine⟨_,_,_,rfl,(z.put (q:=a) b0 b1 d).iff λu v=>(Tied.snoc J u v).symm,λus r=>?_⟩;rcases List.mem_or_eq_of_mem_set r with h|h
  ·have:=g us h;lia
  ·subst h;simp;lia
 ·rintro e o;refine exS3 e o λL I tl c=>?_;have p:=c.1;have j:=c.2;clear c o;rw[Q6] at p;row_cond go;exact k tl p λus r=>by have:=j us r;lia
@[reducible] def tlV (tl:List (List Int)):PyData:=.list ((tlD tl).map .list)
def kR:VP:=λss Q=>∃(n a:Int)(T:Int->Int->Prop)(tl:List (List Int)),ss=[.st (tlV tl),.st (.int a)]/\n<=100/\TiedL n T tl/\(∀ u v,T u v->0<=v/\v<n)/\0<=a/\a<n/\Q (.own (OL (lab n.toNat (Gr.farO T a))))
theorem sc_far_from:FnScope ["tied","start","far","edge","beyond","place","other"] ["tied","start"] (S0 s_far_from):=by row_cond sc
theorem MI(T:Txt K mg):Can P w K mg base "far_from" 1 ["tied","start"] (spP K (kR)):=by
 obtain⟨f,fd,D⟩:=T.bW
 obtain⟨U,C⟩:=T.dX;have z:=C.mgx;have a4:=T.dY _ z;refine D.can (D.fn.ok sc_far_from (λvs H Q E h=>lenP h λss Q' q=>by obtain⟨n,a,T,tl,rfl,n1,Y,hT,a0,a1,k⟩:=q;rfl) (λcdv A outer s H vs Q E hr h=>?_));have nd:=sc_far_from.nd
 refine ⟨_,(D0 (U0 (i:=2) nd rfl ab (K0 BM (T3 (f0 Z6 i0)) (Z0 E4 (by rfl) T.aV p4 (f0 (pv 0) i0))))
  (D0 (U4 t0 (LE (pv 2) (pv 1) OE))
  (D0 (U0 (i:=3) nd rfl ab (T3 (f0 (pv 1) i0)))
  (D0  (OA t5 (YB (pv 3))
   (D0  (U0 (i:=4) nd rfl ab (T3 i0))
    (D0  (J6 t5 rfl (S3 (pv 3)) (T0 (i:=5) nd rfl ab)
     (I0  (J6 t5 rfl (S3 (P0 Q0 (pv 0) (pv 5) (λ_ _=>rfl))) (T0 (i:=6) nd rfl ab)
       (I0 (Z1 (R1 wD (P0 Q0 (pv 2) (pv 6) (λ_ _=>rfl)) Z6 (C1 _))
         (D0 (U4 (K0 R3 (P0 Q0 (pv 2) (pv 5) (λ_ _=>rfl)) t0) (LE (pv 2) (pv 6) OE))
          (I0 (Z3 (X4 PySem.F.plainAttrs_list PySem.F.slot_list_append PySem.F.type_list_append L6 (pv 4) (f0 (pv 6) i0)))))
         A2)))))
    (I0 (U0 (i:=3) nd rfl ab (pv 4))))))
  (I0 (O0 (pv 2))))))),?_⟩
 refine T1 h λss Q' q B hK=>?_;refine exS4 ss q λn a T tl b=>?_;have n1:=b.1;have Y:=b.2.1;have hT:=b.2.2.1;have a0:=b.2.2.2.1;have a1:=b.2.2.2.2.1;have k:=b.2.2.2.2.2;clear b q;show EvS B _ _ [some (.st (tlV tl)),some (.st (.int a)),none,none,none,none,none];have hl:tl.length=n.toNat:=by have:=Y.1;lia
 row_cond go;refine lT (by first|lia|(simp;done)|(simp;lia)) (by first|lia|(simp;done)|(simp;lia)) (by first|lia|(simp;done)|(simp;lia)) ?_;simp only[R0,hl];rw[show((n.toNat:Nat):Int).toNat=n.toNat by lia,dN];row_cond go;refine EE (j:=a.toNat) rfl (by rw[B9];exact sC a0 (by lia)) ?_;row_cond qa;rw[show(PyData.int 0)=.int ((0:Nat):Int) from rfl,NG a0 (by lia)];row_cond go;refine ED 3 rfl w4 ?_;row_cond qc
 refine OB (λm e=>∃ v4 M y far edge r,e=[some (.st (tlV tl)),some (.st (.int a)),some (.own (OL (lab n.toNat far))),some (.st (.list (edge.map .int))),v4,M,y]/\Gr.Ring T a r far edge/\(∀ v∈edge,0<=v/\v<n)/\m=2 * cnt far n.toNat+(if edge=[] then 0 else 1))
  ⟨_,none,none,none,_,[a],0,rfl,Gr.Ring.start,λv R=>by simp at R;subst R;exact⟨a0,a1⟩,rfl⟩ ?_
 rintro m e l;refine exS6 e l λv4 M y far edge r b=>?_;have W:=b.1;have hb:=b.2.1;have a6:=b.2.2;clear b l;subst a6;row_cond go;rw[aL];cases hedge:edge with
 | nil =>
  subst hedge;refine m6 ?_;row_cond go;rw[ZL (g:=Gr.farO T a) λv _ _=>W.fin v];exact k
 | cons e0 er =>
  refine P5 ?_;rw[← hedge];have Z:edge ≠ []:=by rw[hedge];simp
  row_cond go
  refine yE (λi e=>∃ M y c beyond,e=[some (.st (tlV tl)),some (.st (.int a)),some (.own (OL (lab n.toNat c))),some (.st (.list (edge.map .int))),some (.own (OL (beyond.map .int))),M,y]/\Gr.Mid T r far edge (λu=>u∈edge.take i) c beyond/\cnt c n.toNat+beyond.length=cnt far n.toNat/\∀ v∈beyond,0<=v/\v<n)
   ⟨M,y,far,[],rfl,Gr.Mid.start.imp λu L=>by simp at L,rfl,λv R=>by simp at R⟩ ?_ ?_
  ·rintro i p e hp l;refine exS4 e l λM y c beyond b=>?_;have I:=b.1;have J:=b.2.1;have o:=b.2.2;clear b l;have O:=i3 hp;obtain⟨p0,p1⟩:=hb p O;obtain⟨ws,a5,hw⟩:=Y.get p0 p1;have a7:M1 ((tlD tl).map PyData.list) p=some (.list (ws.map .int)):=K8 (f:=PyData.list) (t6 p0 (DC a5));row_cond go;have a3:far p=some r:=(W.lab p r).mpr ⟨(W.edg p).mp O,M0 _⟩
   refine yE (λj e=>∃ y c beyond,e=[some (.st (tlV tl)),some (.st (.int a)),some (.own (OL (lab n.toNat c))),some (.st (.list (edge.map .int))),some (.own (OL (beyond.map .int))),some (.st (.int p)),y]/\Gr.Mid T r far edge (λu=>u∈edge.take i) c beyond/\cnt c n.toNat+beyond.length=cnt far n.toNat/\(∀ v∈beyond,0<=v/\v<n)/\∀ x∈ws.take j,c x ≠ none)
    ⟨y,c,beyond,rfl,I,J,o,λx N=>by simp at N⟩ ?_ ?_
   ·rintro j u e L l;refine exS3 e l λy c beyond b=>?_;have I:=b.1;have J:=b.2.1;have o:=b.2.2.1;have G:=b.2.2.2;clear b l;have tu:T p u:=(hw u).mp (i3 L);obtain⟨S,u1⟩:=hT _ _ tu;have a8:M1 (lab n.toNat c) u=some (oD (c u)):=dE S (by lia);have a9:M1 (lab n.toNat c) p=some (.int (r:Int)):=by
     rw[dE p0 (by lia),I.old p r a3];rfl
    row_cond go;rw[BQ];cases hf:c u with
    | none =>
     refine P5 ?_;row_cond go;refine EE (j:=u.toNat) rfl (by rw[B9];exact sC S (by lia)) ?_;row_cond qa;rw[show(PyData.int ((r:Int)+1))=.int ((r+1:Nat):Int) by simp,NG S (by lia)];have b1:=IH (d:=r+1) S hf (n:=n.toNat) (by lia);have a2:beyond.length<=cnt far n.toNat:=by lia
     have X:∀ m,cnt far m<=m:=λm=>by
      induction m with
      |zero=>exact M0 _
      |succ m ih=>unfold cnt;split <;> lia
     have:=X n.toNat
     row_cond go;refine⟨some (.st (.int u)),Gr.label c u (r+1),beyond++[u],by simp,I.add O tu hf,by simp;lia,λv R=>?_,λx N=>?_⟩
     ·rcases Q1.mp R with h|h
      ·exact o v h
      ·have:v=u:=by simpa using h
       subst this;exact⟨S,u1⟩
     ·by_cases hx2:x=u
      ·subst hx2;rw[Gr.label_same];simp
      ·rw[Gr.label_ne hx2];rcases QD L N with h|h
       ·exact G x h
       ·exact absurd h hx2
    | some d =>
     refine m6 ?_;row_cond go;refine⟨_,c,beyond,rfl,I,J,o,λx N=>?_⟩;rcases QD L N with h|h
     ·exact G x h
     ·subst h;rw[hf];simp
   ·rintro e l;refine exS3 e l λy c beyond b=>?_;have I:=b.1;have J:=b.2.1;have o:=b.2.2.1;have G:=b.2.2.2;clear b l;rw[Q6] at G;refine⟨_,_,c,beyond,rfl,?_,J,o⟩;refine(I.did (u:=p) λx tx=>G x ((hw x).mpr tx)).imp λx N=>?_;exact QD hp N
  ·rintro e l;refine exS4 e l λM y c beyond b=>?_;have I:=b.1;have J:=b.2.1;have o:=b.2.2;clear b l;row_cond go;refine⟨_,?_,_,_,_,c,beyond,r+1,rfl,W.next I λu L=>by rw[Q6];exact L,o,rfl⟩;rw[o0 Z];cases beyond with
   |nil=>rw[q0 rfl];simp at J;lia
   |cons b0 br=>rw[o0 (by simp)];simp at J;lia
def MS:VP:=λss Q=>∃(n a:Int)(es:List (Int × Int)),ss=[.st (webD n es),.st (.int a)]/\0<=a/\a<n/\Q (.st .none)
def RM:VP:=λss Q=>∃(n a:Int)(es:List (Int × Int)),ss=[.st (webD n es),.st (.int a)]/\n<=100/\InN n es/\es.length<=10000/\0<=a/\a<n/\Q (.own (OL (lab n.toNat (Gr.farO (Tied es) a))))
def uT:VP:=λss Q=>∃(n a b:Int)(es:List (Int × Int)),ss=[.st (webD n es),.st (.int a),.st (.int b)]/\n<=100/\InN n es/\es.length<=10000/\0<=a/\a<n/\0<=b/\b<n/\Q (.st (oD (Gr.farO (Tied es) a b)))
def BO:VP:=λss Q=>∃(n:Int)(es:List (Int × Int)),ss=[.st (webD n es)]/\1<=n/\n<=100/\InN n es/\es.length<=10000/\∀ b:Bool,(b=true ↔ Joined n es)->Q (.st (.bool b))
theorem sc_need_place:FnScope ["web","thing"] ["web","thing"] (S0 s_need_place):=by row_cond sc
theorem yC(T:Txt K mg):Can P w K mg base "need_place" 4 ["web","thing"] (spP K (MS)):=by
 obtain⟨f,fd,D⟩:=T.bX;obtain⟨g,c⟩:=T.dX;have b:=c.mgx;have i:=T.dY _ b;refine D.can (D.fn.ok sc_need_place (λvs H Q E h=>lenP h λss Q' q=>by obtain⟨n,a,es,rfl,a0,a1,k⟩:=q;rfl) (λcdv A outer s H vs Q E j h=>?_));have nd:=sc_need_place.nd
 refine⟨_,(I0 (Z1 (B4 (n4 (G0 (kB T) j (f0 (P0 Q0 (pv 0) t0 (λ_ _=>rfl)) (f0 (pv 1) i0)))))
   (I0 A8)
   A2)),?_⟩
 refine T1 h λss Q' q B l=>?_;refine exS3 ss q λn a es d=>?_;have a0:=d.1;have a1:=d.2.1;have k:=d.2.2;clear d q;show EvS B _ _ [some (.st (webD n es)),some (.st (.int a))];row_cond go;refine⟨_,_,rfl,?_⟩;row_cond go;have e:btwD 0 (n-1) (.int a)=true:=N3 ⟨a0,by lia⟩;rw[e];row_cond go;exact k
theorem sc_all_far:FnScope ["web","a"] ["web","a"] (S0 s_all_far):=by row_cond sc
theorem dF(T:Txt K mg):Can P w K mg base "all_far" 5 ["web","a"] (spP K (RM)):=by
 obtain⟨f,fd,D⟩:=T.bY;obtain⟨j,d⟩:=T.dX;have c:=d.mgx;have l:=T.dY _ c;refine D.can (D.fn.ok sc_all_far (λvs H Q E h=>lenP h λss Q' q=>by obtain⟨n,a,es,rfl,o,g,i,a0,a1,k⟩:=q;rfl) (λcdv A outer s H vs Q E m h=>?_));have nd:=sc_all_far.nd
 refine⟨_,(D0 (Z3 (G0 (yC T) m (f0 (pv 0) (f0 (pv 1) i0))))
  (I0 (O0 (G0 (MI T) m (f0 (G0 (jE T) m (f0 (pv 0) i0)) (f0 (pv 1) i0)))))),?_⟩
 refine T1 h λss Q' q B r=>?_;refine exS3 ss q λn a es b=>?_;have o:=b.1;have g:=b.2.1;have i:=b.2.2.1;have a0:=b.2.2.2.1;have a1:=b.2.2.2.2.1;have k:=b.2.2.2.2.2;clear b q;show EvS B _ _ [some (.st (webD n es)),some (.st (.int a))];row_cond go;refine⟨n,a,es,rfl,a0,a1,?_⟩;row_cond go;refine⟨n,es,rfl,by lia,o,g,i,λtl p _=>?_⟩;refine WT ?_;row_cond go;exact⟨n,a,Tied es,tl,rfl,o,p,λu v h=>(h.in g).2,a0,a1,k⟩
theorem sc_how_far:FnScope ["web","a","b"] ["web","a","b"] (S0 s_how_far):=by row_cond sc
theorem hE(T:Txt K mg):Can P w K mg base "how_far" 6 ["web","a","b"] (spP K (uT)):=by
 obtain⟨f,fd,D⟩:=T.bZ;obtain⟨l,g⟩:=T.dX;have d:=g.mgx;have m:=T.dY _ d;refine D.can (D.fn.ok sc_how_far (λvs H Q E h=>lenP h λss Q' q=>by obtain⟨n,a,b,es,rfl,p,j,i,a0,a1,b0,b1,k⟩:=q;rfl) (λcdv A outer s H vs Q E o h=>?_));have nd:=sc_how_far.nd
 refine⟨_,(D0 (Z3 (G0 (yC T) o (f0 (pv 0) (f0 (pv 1) i0))))
  (D0 (Z3 (G0 (yC T) o (f0 (pv 0) (f0 (pv 2) i0))))
  (I0 (O0 (P0 Q0 (G0 (dF T) o (f0 (pv 0) (f0 (pv 1) i0))) (pv 2) (λ_ _=>rfl)))))),?_⟩
 refine T1 h λss Q' q B u=>?_;refine exS4 ss q λn a b es c=>?_;have p:=c.1;have j:=c.2.1;have i:=c.2.2.1;have a0:=c.2.2.2.1;have a1:=c.2.2.2.2.1;have b0:=c.2.2.2.2.2.1;have b1:=c.2.2.2.2.2.2.1;have k:=c.2.2.2.2.2.2.2;clear c q;show EvS B _ _ [some (.st (webD n es)),some (.st (.int a)),some (.st (.int b))];row_cond go;refine⟨n,a,es,rfl,a0,a1,?_⟩;row_cond go;refine⟨n,b,es,rfl,b0,b1,?_⟩;row_cond go;refine⟨n,a,es,rfl,p,j,i,a0,a1,?_⟩;have r:M1 (lab n.toNat (Gr.farO (Tied es) a)) b=some (oD (Gr.farO (Tied es) a b)):=dE b0 (by lia);row_cond go;exact k
theorem sc_is_joined:FnScope ["web"] ["web"] (S0 s_is_joined):=by row_cond sc
theorem eJ(T:Txt K mg):Can P w K mg base "is_joined" 6 ["web"] (spP K (BO)):=by
 obtain⟨f,fd,D⟩:=T.cc;obtain⟨j,c⟩:=T.dX;have b:=c.mgx;have l:=T.dY _ b;refine D.can (D.fn.ok sc_is_joined (λvs H Q E h=>lenP h λss Q' q=>by obtain⟨n,es,rfl,r,o,i,g,k⟩:=q;rfl) (λcdv A outer s H vs Q E m h=>?_));have nd:=sc_is_joined.nd;refine⟨_,(I0 (O0 (S4 (BE m.units) Z6 (G0 (dF T) m (f0 (pv 0) (f0 t0 i0))) rfl))),?_⟩;refine T1 h λss Q' q B u=>?_;refine exS2 ss q λn es a=>?_;have r:=a.1;have o:=a.2.1;have i:=a.2.2.1;have g:=a.2.2.2.1;have k:=a.2.2.2.2;clear a q;show EvS B _ _ [some (.st (webD n es))];row_cond go;refine⟨n,0,es,rfl,o,i,g,by lia,by lia,?_⟩;row_cond go;refine EG rfl zK (by simp[PyData.depth]) ?_;row_cond go;refine k _ ?_;rw[q0 rfl,Bool.not_eq_true',← Bool.not_eq_true,QP];constructor
 ·intro h v v0 p;cases e:Gr.farO (Tied es) 0 v with
  |some d=>exact⟨d,Gr.farO_some.mp e⟩
  |none=>exact absurd ⟨v,v0,by lia,e⟩ h
 ·rintro h ⟨v,v0,p,e⟩;obtain⟨d,hd⟩:=h v v0 (by lia);exact Gr.farO_none.mp e d hd
def dsF(es:List (Int × Int))(u v:Int):Int:=(((Gr.farO (Tied es) u v).getD 0:Nat):Int)
def rowD(n:Nat)(r:Int->Int):List PyData:=(List.range n).map λ(i:Nat)=>.int (r (i:Int))
def matD(n:Nat)(m:Int->Int->Int):List PyData:=(List.range n).map λ(u:Nat)=>.list (rowD n (m (u:Int)))
theorem k9{n:Nat}{r:Int->Int}{x:Int}(a:0<=x)(b:x<n):M1 (rowD n r) x=some (.int (r x)):=by
 have:=E9 (xs:=rowD n r) (j:=x.toNat) (v:=.int (r x)) (by
  unfold rowD;rw[L1,Y0 (by simp;lia)];simp[Int.max_eq_left a])
 rwa [show((x.toNat:Nat):Int)=x by lia] at this
theorem m7{n:Nat}{m:Int->Int->Int}{x:Int}(a:0<=x)(b:x<n):M1 (matD n m) x=some (.list (rowD n (m x))):=by
 have:=E9 (xs:=matD n m) (j:=x.toNat) (v:=.list (rowD n (m x))) (by
  unfold matD;rw[L1,Y0 (by simp;lia)];simp[Int.max_eq_left a])
 rwa [show((x.toNat:Nat):Int)=x by lia] at this
theorem yB:(matD n m).length=n:=by simp[matD]
theorem jA:rowD n r=((List.range n).map λ(i:Nat)=>r (i:Int)).map .int:=by simp[rowD]
theorem lA(c:Joined n es)(a:0<=u)(f:u<n)(v0:0<=v)(g:v<n):∃ d,Gr.farO (Tied es) u v=some d:=by
 cases e:Gr.farO (Tied es) u v with
 |some d=>exact⟨d,rfl⟩
 | none =>
  obtain⟨k,b⟩:=c.conn u v a f v0 g;obtain⟨d,_,hd⟩:=Gr.Dist.of_walk b;exact absurd hd (Gr.farO_none.mp e d)
theorem OM(b:Joined n es)(a:0<=u)(c:u<n):lab n.toNat (Gr.farO (Tied es) u)=rowD n.toNat (dsF es u):=by
 unfold lab rowD;refine j7 λi hi=>?_;obtain⟨d,e⟩:=lA b a c (show 0<=(i:Int) by lia) (by have:=U1.mp hi;lia);simp only[dsF,e,oD,Option.getD_some]
theorem A6{α:Type}{K:Frag}{src:List (Option Nat)}{a:En}{te:TE}{R:List PyData->En->Prop}{xs:List α}{f : α->PyData}(g : α->PyData)(m:noIo (V0 src a)=true)(z:xs.length<=999999)
  (h:∀ x∈xs,∀ c:Bs,c.K=K->Ev c te (some (.st (f x))::V0 src a) λy l=>y=g x/\l=some (.st (f x))::V0 src a)
  (u:R (xs.map g) a):LcV K (none::src) (N2 0) tYes te (xs.map f) a R:=by
 have b:noIo (V0 (none::src) a)=true:=by
  show((none::V0 src a).all λs=>!isIo s)=true;rw[List.all_cons];exact(E5 _ _).mpr ⟨rfl,m⟩
 refine⟨λi ys e=>ys=(xs.take i).map g/\∃ o,e=stO o::V0 src a,⟨by simp,none,rfl⟩,?_,?_,?_⟩
 ·rintro i ys e ⟨_,o,rfl⟩;exact⟨⟨isIo_stO.symm,R8⟩,u9 iA⟩
 ·rintro i d ys e hd ⟨rfl,o,rfl⟩ c w;rw[L1] at hd;cases hx:xs[i]? with
  |none=>rw[hx] at hd;cases hd
  | some x =>
   rw[hx] at hd;cases hd;have hi:i<xs.length:=(N1.mp hx).1;have p:xs.take (i+1)=xs.take i++[x]:=by rw[S6,hx];rfl
   refine P3 (B8 ?_);rw[q0 rfl];intro σ G H F Q I k;refine h x (i3 hx) c w σ G H F Q I λv G' H' F' d' l r g' n ⟨q,j⟩=>k v G' H' F' d' l r g' n ?_;subst q j;refine⟨by simp;lia,by rw[p];simp,some _,rfl⟩
 ·rintro ys e ⟨rfl,o,rfl⟩;rw[uC b];simpa using u
theorem n9(h:R6 ns x)(g:R6 ns y):x=y:=Int.le_antisymm (g.2 x h.1) (h.2 y g.1)
theorem XB:∀{ns:List Int},ns ≠ []->∃ x,R6 ns x
 |[a],_=>⟨a,by simp[R6]⟩
 | a::b::r,_=>by
  obtain⟨x,d,hm⟩:=XB (ns:=b::r) (by simp);by_cases h:a<=x
  ·exact⟨x,S2 _ d,λy c=>by
    rcases D1.mp c with rfl|c
    ·exact h
    ·exact hm y c⟩
  ·exact⟨a,o3,λy c=>by
    rcases D1.mp c with rfl|c
    ·exact Int.le_refl _
    ·have:=hm y c;lia⟩
theorem IE(b:1<=n)(m:Int->Int->Int):∃ a:Nat->Int,∀ u:Nat,R6 ((List.range n).map λ(i:Nat)=>m (u:Int) (i:Int)) (a u) :=
 ⟨λu=>Classical.choose (XB (ns:=(List.range n).map λ(i:Nat)=>m (u:Int) (i:Int)) (by simp;lia)),λu=>Classical.choose_spec (XB (ns:=(List.range n).map λ(i:Nat)=>m (u:Int) (i:Int)) (by simp;lia))⟩
theorem fR:zipD (rowD n r) (rowD n q)=(List.range n).map λ(i:Nat)=>.tuple [.int (r (i:Int)),.int (q (i:Int))]:=by
 unfold zipD rowD;rw[List.zip_map',v2];rfl
def aU:VP:=λss Q=>∃(n:Int)(es:List (Int × Int)),ss=[.st (webD n es)]/\1<=n/\n<=100/\InN n es/\es.length<=10000/\Joined n es/\Q (.st .none)
def FH:VP:=λss Q=>∃(n:Int)(es:List (Int × Int)),ss=[.st (webD n es)]/\1<=n/\n<=100/\InN n es/\es.length<=10000/\Joined n es/\Q (.own (OL (matD n.toNat (dsF es))))
def Y7(n:Nat)(m:Int->Int->Int)(x:Int):Prop:=(∃ u v:Int,0<=u/\u<n/\0<=v/\v<n/\m u v=x)/\∀ u v:Int,0<=u->u<n->0<=v->v<n->m u v<=x
def fO:VP:=λss Q=>∃(n:Nat)(m:Int->Int->Int),ss=[.st (.list (matD n m))]/\1<=n/\n<=1000/\∀ x,Y7 n m x->Q (.st (.int x))
structure FreeAll(n:Int)(es fs:List (Int × Int)):Prop where
 mem:∀ p:Int × Int,p∈fs ↔ (0<=p.1/\p.1<p.2/\p.2<n/\p ∉ es)
 rise:Rise fs
theorem sc_need_joined:FnScope ["web"] ["web"] (S0 s_need_joined):=by row_cond sc
theorem LF(T:Txt K mg):Can P w K mg base "need_joined" 7 ["web"] (spP K (aU)):=by
 obtain⟨f,fd,D⟩:=T.ce;obtain⟨j,d⟩:=T.dX;have c:=d.mgx;have l:=T.dY _ c;refine D.can (D.fn.ok sc_need_joined (λvs H Q E h=>lenP h λss Q' q=>by obtain⟨n,es,rfl,m,p,i,g,o,k⟩:=q;rfl) (λcdv A outer s H vs Q E r h=>?_));have nd:=sc_need_joined.nd
 refine⟨_,(I0 (Z1 (B4 (n4 (G0 (eJ T) r (f0 (pv 0) i0))))
   (I0 A8)
   A2)),?_⟩
 refine T1 h λss Q' q B u=>?_;refine exS2 ss q λn es a=>?_;have m:=a.1;have p:=a.2.1;have i:=a.2.2.1;have g:=a.2.2.2.1;have o:=a.2.2.2.2.1;have k:=a.2.2.2.2.2;clear a q;show EvS B _ _ [some (.st (webD n es))];row_cond go;refine⟨n,es,rfl,m,p,i,g,λb hb=>?_⟩;have:b=true:=hb.mpr o;subst this;row_cond go;exact k
theorem sc_far_rows:FnScope ["web","tied"] ["web"] (S0 s_far_rows):=by row_cond sc
theorem D9(T:Txt K mg):Can P w K mg base "far_rows" 8 ["web"] (spP K (FH)):=by
 obtain⟨f,fd,D⟩:=T.cf;obtain⟨j,c⟩:=T.dX;have b:=c.mgx;have m:=T.dY _ b;refine D.can (D.fn.ok sc_far_rows (λvs H Q E h=>lenP h λss Q' q=>by obtain⟨n,es,rfl,y,l,d,g,r,k⟩:=q;rfl) (λcdv A outer s H vs Q E p h=>?_));have nd:=sc_far_rows.nd
 refine⟨_,(D0 (Z3 (G0 (LF T) p (f0 (pv 0) i0)))
  (D0 (U0 (i:=1) nd rfl (Or.inr rfl) (G0 (jE T) p (f0 (pv 0) i0)))
  (I0 (O0 (Q4 rfl (N:=["place","tied"]) (src:=[none,some 1]) (by exact z3 rfl rfl rfl rfl rfl rfl) (R5 rfl T.aq (f0 (Z0 E4 (by rfl) T.aV p4 (f0 (pv 1) i0)) i0)) (λ_ _ _ _=>(T0 (i:=0) (show List.Nodup (["place","tied"]:List Str) by decide +kernel) rfl ab (hf:=Or.inr rfl))) (λ_ _ _ _=>v3) (λ_ _ _ _=>(G0 (MI T) p (f0 (pv 1) (f0 (pv 0) i0))))))))),?_⟩
 refine T1 h λss Q' q B G=>?_;refine exS2 ss q λn es a=>?_;have y:=a.1;have l:=a.2.1;have d:=a.2.2.1;have g:=a.2.2.2.1;have r:=a.2.2.2.2.1;have k:=a.2.2.2.2.2;clear a q;show EvS B _ _ [some (.st (webD n es)),none];row_cond go;refine⟨n,es,rfl,y,l,d,g,r,?_⟩;row_cond go;refine⟨n,es,rfl,by lia,l,d,g,λtl z _=>?_⟩;refine n5 dC ?_;have F:tl.length=n.toNat:=by have:=z.1;lia
 have o:((tlD tl).map PyData.list).length=n.toNat:=by simp[tlD,F]
 row_cond go;rw[o,show(((n.toNat:Nat):Int)).toNat=n.toNat by lia];unfold rngD;refine A6 (λu:Nat=>.list (rowD n.toNat (dsF es (u:Int)))) rfl (by simp;lia) (λu C J I=>?_) ?_
 ·have x:(u:Int)<n:=by have:=U1.mp C;lia
  row_cond go;refine⟨n,0+(u:Int),Tied es,tl,rfl,l,z,λu v h=>(h.in d).2,by lia,by lia,p5 ⟨?_,rfl⟩⟩;rw[u8,OM r (by lia) x]
 ·row_cond go;exact k
theorem sc_most_far:FnScope ["rows"] ["rows"] (S0 s_most_far):=by row_cond sc
theorem BF(T:Txt K mg):Can P w K mg base "most_far" 1 ["rows"] (spP K (fO)):=by
 obtain⟨f,fd,D⟩:=T.cg;obtain⟨g,b⟩:=T.dX;have a:=b.mgx;have p:=T.dY _ a;refine D.can (D.fn.ok sc_most_far (λvs H Q E h=>lenP h λss Q' q=>by obtain⟨n,m,rfl,r,C,k⟩:=q;rfl) (λcdv A outer s H vs Q E M h=>?_));have nd:=sc_most_far.nd;refine⟨_,(I0 (O0 (Z0 (j8 rfl) (by rfl) T.ag o6 (f0 (Q4 rfl (N:=["row"]) (src:=[none]) (by exact z3 rfl rfl rfl rfl rfl rfl) (S3 (pv 0)) (λ_ _ _ _=>(T0 (i:=0) (show List.Nodup (["row"]:List Str) by decide +kernel) rfl ab (hf:=Or.inr rfl))) (λ_ _ _ _=>v3) (λ_ _ _ _=>(Z0 (show C2 _ (.builtin "max") (i9 K) from(j8 rfl)) (by rfl) T.ag o6 (f0 (pv 0) i0)))) i0)))),?_⟩;refine T1 h λss Q' q B J=>?_;refine exS2 ss q λn m c=>?_;have r:=c.1;have C:=c.2.1;have k:=c.2.2;clear c q;show EvS B _ _ [some (.st (.list (matD n m)))];obtain⟨l,d⟩:=IE r m;row_cond go;unfold matD;refine A6 (λu:Nat=>.int (l u)) rfl (by simp;lia) (λu G S R=>?_) ?_
 ·row_cond go;rw[jA];exact N8 (by simp;lia) λx o=>⟨by rw[n9 o (d u)],rfl⟩
 ·row_cond go;rw[show(List.range n).map (λu:Nat=>PyData.int (l u))=((List.range n).map l).map .int by rw[v2];rfl];refine N8 (by simp;lia) λx o=>?_;row_cond go;refine k x ⟨?_,λu v O L v0 I=>?_⟩
  ·obtain⟨i,hi,e⟩:=X0.mp o.1;obtain⟨j,y,e2⟩:=X0.mp (d i).1;exact⟨i,j,by lia,by have:=U1.mp hi;lia,by lia,by have:=U1.mp y;lia,e2.trans e⟩
  ·have z:=(d u.toNat).2 (m ((u.toNat:Nat):Int) ((v.toNat:Nat):Int)) (X0.mpr ⟨v.toNat,U1.mpr (by lia),rfl⟩);have F:=o.2 (l u.toNat) (X0.mpr ⟨u.toNat,U1.mpr (by lia),rfl⟩);rw[show((u.toNat:Nat):Int)=u by lia,show((v.toNat:Nat):Int)=v by lia] at z;lia
structure MidOk(n:Int)(es:List (Int × Int))(x:Int)(ps:List Int):Prop where
 lo:∀ u:Int,0<=u->u<n->∃ v:Int,0<=v/\v<n/\x<=dsF es u v
 rise:ps.Pairwise (· < ·)
 ne:ps ≠ []
 mem:∀ u:Int,u∈ps ↔ (0<=u/\u<n/\∀ v:Int,0<=v->v<n->dsF es u v<=x)
def YO:VP:=λss Q=>∃(n:Int)(es:List (Int × Int)),ss=[.st (webD n es)]/\1<=n/\n<=100/\InN n es/\es.length<=10000/\Joined n es/\∀ x ps,MidOk n es x ps->Q (.own (OW (.int x) (ps.map .int)))
theorem vH:∀{ps a:List Int},ps.Pairwise (· < ·)->a.Pairwise (· < ·)->(∀ u,u∈ps ↔ u∈a)->ps=a
 |[],[],_,_,_=>rfl
 |[],q::a,_,_,h=>by have:=(h q).mpr o3;cases this
 |p::ps,[],_,_,h=>by have:=(h p).mp o3;cases this
 | p::ps,q::a,hp,hq,h=>by
  rw[S9] at hp hq;have e:p=q:=by
   rcases D1.mp ((h p).mp o3) with e|e
   ·exact e
   ·have c:=hq.1 p e;rcases D1.mp ((h q).mpr o3) with e2|e2
    ·exact e2.symm
    ·have:=hp.1 q e2;lia
  subst e;rw[vH hp.2 hq.2 λu=>?_];constructor
  ·intro b;have c:=hp.1 u b;rcases D1.mp ((h u).mp (S2 _ b)) with e|e
   ·lia
   ·exact e
  ·intro b;have c:=hq.1 u b;rcases D1.mp ((h u).mpr (S2 _ b)) with e|e
   ·lia
   ·exact e
theorem qL(n:Nat)(a:Nat->Int):enD (List.map PyData.int (List.map a (List.range n)))=(List.range n).map λ(i:Nat)=>.tuple [.int (i:Int),.int (a i)]:=by
 refine D6 λi=>?_;by_cases hi:i<n
 ·have b:i<(enD (List.map PyData.int (List.map a (List.range n)))).length:=by rw[T9];simpa using hi
  obtain⟨x,c,e⟩:=cE (Y0 b);rw[Y0 b,e,L1,S7 hi];rw[L1,L1,S7 hi] at c;cases c;rfl
 ·rw[List.getElem?_eq_none (by rw[T9];simp;lia),List.getElem?_eq_none (by simp;lia)]
theorem JM(r:1<=n)(d:∀ u:Nat,R6 ((List.range n.toNat).map λ(i:Nat)=>dsF es (u:Int) (i:Int)) (c u))(m:OC ((List.range n.toNat).map c) x) :
  MidOk n es x (((List.range n.toNat).filter λi=>decide (c i=x)).map λ(i:Nat)=>(i:Int)):=by
 refine⟨λu p o=>?_,?_,λe=>?_,λu=>?_⟩
 ·have g:=m.2 (c u.toNat) (X0.mpr ⟨u.toNat,U1.mpr (by lia),rfl⟩);obtain⟨j,f,e⟩:=X0.mp (d u.toNat).1;rw[show((u.toNat:Nat):Int)=u by lia] at e;exact⟨j,by lia,by have:=U1.mp f;lia,by lia⟩
 ·rw[O6];exact(List.pairwise_lt_range.filter _).imp λ{a b} h=>by lia
 ·obtain⟨j,f,e2⟩:=X0.mp m.1;have:(j:Int)∈((List.range n.toNat).filter λi=>decide (c i=x)).map λ(i:Nat)=>(i:Int):=X0.mpr ⟨j,i6.mpr ⟨f,by simpa using e2⟩,rfl⟩;rw[e] at this;cases this
 ·rw[X0];constructor
  ·rintro⟨i,hi,rfl⟩;obtain⟨g,l⟩:=i6.mp hi;have g:=U1.mp g;have l:c i=x:=by simpa using l
   refine⟨by lia,by lia,λv v0 q=>?_⟩;have:=(d i).2 (dsF es (i:Int) ((v.toNat:Nat):Int)) (X0.mpr ⟨v.toNat,U1.mpr (by lia),rfl⟩);rw[show((v.toNat:Nat):Int)=v by lia,l] at this;exact this
  ·rintro⟨p,o,h⟩;refine⟨u.toNat,i6.mpr ⟨U1.mpr (by lia),?_⟩,by lia⟩;have g:=m.2 (c u.toNat) (X0.mpr ⟨u.toNat,U1.mpr (by lia),rfl⟩);obtain⟨j,f,e⟩:=X0.mp (d u.toNat).1;rw[show((u.toNat:Nat):Int)=u by lia] at e;have:=h j (by lia) (by have:=U1.mp f;lia);simp;lia
theorem MidOk.uniq(h:MidOk n es x ps)(g:MidOk n es y a):x=y/\ps=a:=by
 have b:∀{x y:Int}{ps a:List Int},MidOk n es x ps->MidOk n es y a->x<=y:=λ{x y ps a} h g=>by
  obtain⟨u,t,e⟩:=List.exists_cons_of_ne_nil g.ne;have c:=(g.mem u).mp (by rw[e];exact o3);obtain⟨v,v0,d,f⟩:=h.lo u c.1 c.2.1;have:=c.2.2 v v0 d;lia
 have e:x=y:=Int.le_antisymm (b h g) (b g h);subst e;refine⟨rfl,?_⟩;have hm:∀ u,u∈ps ↔ u∈a:=λu=>by rw[h.mem,g.mem]
 exact vH h.rise g.rise hm
theorem sc_middles:FnScope ["web","wides","wide"] ["web"] (S0 s_middles):=by row_cond sc
theorem lG(T:Txt K mg):Can P w K mg base "middles" 9 ["web"] (spP K (YO)):=by
 obtain⟨f,fd,D⟩:=T.cm;obtain⟨m,c⟩:=T.dX;have b:=c.mgx;have o:=T.dY _ b;refine D.can (D.fn.ok sc_middles (λvs H Q E h=>lenP h λss Q' q=>by obtain⟨n,es,rfl,r,y,j,g,v,k⟩:=q;rfl) (λcdv A outer s H vs Q E z h=>?_));have nd:=sc_middles.nd
 refine⟨_,(D0 (P9 (i:=1) nd rfl ab rfl (N:=["row"]) (src:=[none]) (by exact z3 rfl rfl rfl rfl rfl rfl) (S3 (G0 (D9 T) z (f0 (pv 0) i0))) (λ_ _ _ _=>(T0 (i:=0) (show List.Nodup (["row"]:List Str) by decide +kernel) rfl ab (hf:=Or.inr rfl))) (λ_ _ _ _=>v3) (λ_ _ _ _=>(Z0 (show C2 _ (.builtin "max") (i9 K) from(j8 rfl)) (by rfl) T.ag o6 (f0 (pv 0) i0))))
  (D0 (U0 (i:=2) nd rfl (Or.inr rfl) (Z0 (ZJ rfl) (by rfl) T.ah cC (f0 (pv 1) i0)))
  (I0 (O0 (n3 (f0 (pv 2) (f0 (Q4 rfl (N:=["place","sees","wide"]) (src:=[none,none,some 2]) (by exact z3 rfl rfl rfl rfl rfl rfl) (cI rfl T.au (f0 (pv 1) i0)) (λ_ _ _ _=>(show PG _ _ (gTup K 2 (V7 (N2 0) (V7 (N2 1) gNil))) from(j5 rfl (X2 (T0 (i:=0) (show List.Nodup (["place","sees","wide"]:List Str) by decide +kernel) rfl ab (hf:=Or.inr rfl)) (X2 (T0 (i:=1) (show List.Nodup (["place","sees","wide"]:List Str) by decide +kernel) rfl ab (hf:=Or.inr rfl)) o5))))) (λ_ _ _ _=>bA (R1 j6 (pv 1) (pv 2) (C1 _))) (λ_ _ _ _=>(pv 0))) i0))))))),?_⟩
 refine T1 h λss Q' q B I=>?_;refine exS2 ss q λn es a=>?_;have r:=a.1;have y:=a.2.1;have j:=a.2.2.1;have g:=a.2.2.2.1;have v:=a.2.2.2.2.1;have k:=a.2.2.2.2.2;clear a q;show EvS B _ _ [some (.st (webD n es)),none,none];have hn:1<=n.toNat:=by lia
 obtain⟨d,l⟩:=IE hn (dsF es);row_cond go;refine⟨n,es,rfl,r,y,j,g,v,p5 ?_⟩;row_cond go;unfold matD;refine A6 (λu:Nat=>.int (d u)) rfl (by simp;lia) (λu G F C=>?_) ?_
 ·row_cond go;rw[jA];exact N8 (by simp;lia) λx p=>⟨by rw[n9 p (l u)],rfl⟩
 ·rw[show(List.range n.toNat).map (λu:Nat=>PyData.int (d u))=((List.range n.toNat).map d).map .int by rw[v2];rfl];refine n5 w4 ?_;row_cond go;refine bP (by simp;lia) λx p=>?_;repeat (first|(refine vA ?_)|row_cond st)
  rw[qL];refine FF (xs:=List.range n.toNat) (fa:=λi:Nat=>.int (i:Int)) (fb:=λi:Nat=>.int (d i)) (λi:Nat=>.int (i:Int)) (λi=>decide (d i=x)) rfl (by simp;lia) (λi hi F C=>?_) ?_
  ·row_cond go;intro _;row_cond go;exact rfl
  ·refine⟨_,rfl,?_⟩;rw[show((List.range n.toNat).filter λi=>decide (d i=x)).map (λi:Nat=>PyData.int (i:Int))=(((List.range n.toNat).filter λi=>decide (d i=x)).map λ(i:Nat)=>(i:Int)).map .int by rw[v2];rfl];exact k x _ (JM r l p)
def k7(n:Int):PyData->Bool
 | .list ds=>decide ((ds.length:Int)=n)
 |_=>false
def CC:PyData->Bool
 | .list ds=>ds.all isInt
 |_=>false
def A5(n:Int):PyData->Bool
 | .list ds=>decide ((ds.length:Int)=n) && ds.all (k7 n) && ds.all CC
 |_=>false
def C7:PyData->List PyData
 | .list ds=>ds
 |_=>[]
def LK:VP:=λss Q=>∃(n:Int)(d:PyData),ss=[.st (.int n),.st d]/\Q (.st (.bool (k7 n d)))
def vQ:VP:=λss Q=>∃(n:Int)(d:PyData),ss=[.st (.int n),.st d]/\n<=100/\Q (.st (.bool (A5 n d)))
def AA(T:Int->Int->Prop)(d:Int)(m:Int->Int->Int)(a b:Int):Prop:=(a=b->m a b=0)/\(a ≠ b->1<=m a b/\m a b<=d/\∃ p,T a p/\m p b=m a b-1)
def iP:VP:=λss Q=>∃(n:Nat)(T:Int->Int->Prop)(tl:List (List Int))(d:Int)(m:Int->Int->Int)(a b:Int),ss=[.st (tlV tl),.st (.int d),.st (.list (matD n m)),.st (.int a),.st (.int b)]/\n<=100/\TiedL n T tl/\(∀ u v,T u v->0<=v/\v<n)/\(∀ ws∈tl,ws.length<=20000)/\0<=a/\a<n/\0<=b/\b<n/\∀ bb:Bool,(bb=true ↔ AA T d m a b)->Q (.st (.bool bb))
def mG(n:Int)(es:List (Int × Int))(d:Int)(m:Int->Int->Int):Prop:=0<=d/\∀ a b:Int,0<=a->a<n->0<=b->b<n->AA (Tied es) d m a b
def qT:VP:=λss Q=>∃(n d:Int)(es:List (Int × Int))(p:PyData),ss=[.st (webD n es),.st (.int d),.st p]/\1<=n/\n<=100/\InN n es/\es.length<=10000/\Joined n es/\(A5 n p=false->Q (.st (.bool false)))/\∀ m,p=.list (matD n.toNat m)->∀ bb:Bool,(bb=true ↔ mG n es d m)->Q (.st (.bool bb))
def pO:PyData->Int
 | .int i=>i
 |_=>0
theorem nF(h:A5 n p=true):∃ m,p=.list (matD n.toNat m):=by
 cases p with
 | list ds =>
  simp only[A5,E5,decide_eq_true_eq,P2] at h;obtain⟨⟨y,v⟩,q⟩:=h;refine⟨λa b=>pO ((C7 (ds.getD a.toNat .none)).getD b.toNat .none),congrArg PyData.list ?_⟩;refine List.ext_getElem (by rw[yB];lia) λi hi u=>?_;have f:=v ds[i] (U7 hi);have c:=q ds[i] (U7 hi);have l:ds.getD i .none=ds[i]:=by rw[aA,Y0 hi];rfl
  generalize ds[i]=r at f c l;cases r with
  | list xs =>
   have w:(xs.length:Int)=n:=of_decide_eq_true f;simp only[matD,List.getElem_map,List.getElem_range];refine congrArg PyData.list (List.ext_getElem (by simp[rowD];lia) λj o s=>?_);have d:=P2.mp c xs[j] (U7 o);have g:xs.getD j .none=xs[j]:=by rw[aA,Y0 o];rfl
   simp only[rowD,List.getElem_map,List.getElem_range,Int.toNat_natCast,l,C7,g];generalize xs[j]=x at d;cases x with
   |int i=>rfl
   |_=>cases d
  |_=>cases f
 |_=>cases h
theorem uU(r:Int->Int):CC (.list (rowD n r))=true:=by
 unfold CC rowD;simp only[List.all_map,P2];intro x _;rfl
theorem oR(h:0<=n)(m:Int->Int->Int):A5 n (.list (matD n.toNat m))=true:=by
 unfold A5;simp only[yB,E5,decide_eq_true_eq,P2];refine⟨⟨by lia,λr a=>?_⟩,λr a=>?_⟩
 ·unfold matD at a;obtain⟨u,_,rfl⟩:=X0.mp a;exact N3 (by simp only[rowD,R0,AB];lia)
 ·unfold matD at a;obtain⟨u,_,rfl⟩:=X0.mp a;exact uU _
theorem YF(h:k7 n d=true):∃ ds,d=.list ds/\(ds.length:Int)=n:=by
 cases d with
 |list ds=>exact⟨ds,rfl,of_decide_eq_true h⟩
 |_=>cases h
theorem ZF{α:Type}{k:Nat}{f:PyData->List α}:∀(l:List PyData),(∀ u∈l,(f u).length<=k)->(l.flatMap f).length<=l.length * k
 |[],_=>by simp
 | u::l,h=>by
  have c:=h u o3;have b:=ZF l λv a=>h v (S2 _ a);rw[List.flatMap_cons,f3,L3,Nat.add_mul];lia
theorem mJ{n:Nat}{c:Int->Int->Bool}:((List.range n).flatMap λ(u:Nat)=>((List.range n).filter λ_=>true).map λ(v:Nat)=>PyData.bool (c (u:Int) (v:Int)))=((List.range n).flatMap λ(u:Nat)=>(List.range n).map λ(v:Nat)=>c (u:Int) (v:Int)).map .bool:=by
 rw[List.map_flatMap];congr 1
 funext u
 rw[v2,List.filter_eq_self.mpr λ_ _=>rfl];rfl
theorem sc_is_long:FnScope ["n","thing"] ["n","thing"] (S0 s_is_long):=by row_cond sc
theorem kJ(T:Txt K mg):Can P w K mg base "is_long" 1 ["n","thing"] (spP K (LK)):=by
 obtain⟨f,fd,D⟩:=T.cu;obtain⟨g,b⟩:=T.dX;have a:=b.mgx;have i:=T.dY _ a;refine D.can (D.fn.ok sc_is_long (λvs H Q E h=>lenP h λss Q' q=>by obtain⟨n,d,rfl,k⟩:=q;rfl) (λcdv A outer s H vs Q E l h=>?_));have nd:=sc_is_long.nd;refine⟨_,(I0 (O0 (U5 (Z0 n7 (by rfl) T.az q7 (f0 (pv 1) (f0 (u7 (v:=.ty "list") rfl T.av k8 rfl) i0))) (C6 (S4 j6 (Z0 E4 (by rfl) T.aV p4 (f0 (pv 1) i0)) (pv 0) (C1 _)))))),?_⟩;refine T1 h λss Q' q B j=>?_;refine exS2 ss q λn d c=>?_;have k:=c;clear c q;show EvS B _ _ [some (.st (.int n)),some (.st d)];row_cond go;cases d with
 | list ds =>
  refine P5 ?_;row_cond go;exact k
 | _ =>
  refine m6 ?_;exact k
theorem sc_is_square:FnScope ["n","paper"] ["n","paper"] (S0 s_is_square):=by row_cond sc
theorem WS (T:Txt K mg):Can P w K mg base "is_square" 2 ["n","paper"] (spP K (vQ)):=by
 obtain⟨f,fd,D⟩:=T.cr;obtain⟨m,c⟩:=T.dX;have b:=c.mgx;have u:=T.dY _ b;refine D.can (D.fn.ok sc_is_square (λvs H Q E h=>lenP h λss Q' q=>by obtain⟨n,d,rfl,J,k⟩:=q;rfl) (λcdv A outer s H vs Q E g h=>?_));have nd:=sc_is_square.nd
 refine⟨_,(D0 (Z1 (PW.pt (T4 (B4 (n4 (G0 (kJ T) g (f0 (pv 0) (f0 (pv 1) i0))))) (J5 (B4 (n4 (Z0 (W6 rfl) (by rfl) T.af Y6 (f0 (Q4 rfl (N:=["row","n"]) (src:=[none,some 0]) (by exact z3 rfl rfl rfl rfl rfl rfl) (S3 (pv 1)) (λ_ _ _ _=>(T0 (i:=0) (show List.Nodup (["row","n"]:List Str) by decide +kernel) rfl ab (hf:=Or.inr rfl))) (λ_ _ _ _=>v3) (λ_ _ _ _=>(G0 (kJ T) g (f0 (pv 1) (f0 (pv 0) i0))))) i0)))))))
   (I0 (O0 t3))
   A2)
  (I0 (O0 (Z0 (W6 rfl) (by rfl) T.af Y6 (f0 (pE rfl (N:=["row","number"]) (src:=[none,none]) (by exact z3 rfl rfl rfl rfl rfl rfl) (S3 (pv 1)) (λ_ _ _ _=>(T0 (i:=0) (show List.Nodup (["row","number"]:List Str) by decide +kernel) rfl ab (hf:=Or.inr rfl))) (λ_ _ _ _=>v3) (λ_ _ _ _=>(show PI _ _ _ (w9 K _) from S3 (pv 0))) (λ_ _ _ _=>(T0 (i:=1) (show List.Nodup (["row","number"]:List Str) by decide +kernel) rfl ab (hf:=Or.inr rfl))) (λ_ _ _ _=>v3) (λ_ _ _ _=>(G0 (qD T) g (f0 (pv 1) i0)))) i0))))),?_⟩
 refine T1 h λss Q' q B L=>?_;refine exS2 ss q λn d j=>?_;have J:=j.1;have k:=j.2;clear j q;show EvS B _ _ [some (.st (.int n)),some (.st d)];row_cond go;refine⟨_,_,rfl,?_⟩;cases e:k7 n d with
 | false =>
  row_cond go;rw[show A5 n d=false by
   cases d with
   |list ds=>simp only[A5,show decide ((ds.length:Int)=n)=false from e,Bool.false_and]
   |_=>rfl] at k
  exact k
 | true =>
  obtain⟨ds,rfl,G⟩:=YF e;row_cond go;refine BB (λr=>.bool (k7 n r)) rfl (by lia) (λr _ p F=>?_) ?_
  ·row_cond go;exact⟨n,r,rfl,rfl,rfl⟩
  ·row_cond go;rw[show(ds.map λr=>PyData.bool (k7 n r))=(ds.map (k7 n)).map .bool by rw[v2];rfl];refine X6 ?_;rw[show(ds.map (k7 n)).all id=ds.all (k7 n) by simp[List.all_map]];row_cond go;cases e2:ds.all (k7 n) with
   | false =>
    row_cond go;rw[show A5 n (.list ds)=false by simp only[A5,e2,Bool.and_false,Bool.false_and]] at k;exact k
   | true =>
    have g:∀ r∈ds,∃ xs,r=.list xs/\(xs.length:Int)=n:=λr g=>YF (P2.mp e2 r g);row_cond go;have C:(ds.flatMap λr=>((C7 r).filter λ_=>true).map λx=>PyData.bool (isInt x)).length<=999999:=by
     have:=ZF (k:=100) (f:=λr=>((C7 r).filter λ_=>true).map λx=>PyData.bool (isInt x)) ds λr a=>by
      obtain⟨xs,rfl,l⟩:=g r a;rw[R0];refine W1 (X7 _ _) ?_;show xs.length<=100;lia
     have M:ds.length * 100<=100 * 100:=Nat.mul_le_mul_right _ (by lia);lia
    have v:ds.map id=ds:=List.map_id ds;rw[← v];refine NB (xs:=ds) (fx:=id) C7 id (λ_ x=>.bool (isInt x)) (λ_ _=>true) (pC rfl) C ?_ ?_ ?_
    ·intro r a p F o;obtain⟨xs,rfl,l⟩:=g r a;show EvI p _ (some (.st (.list xs))::_) _;row_cond go;exact⟨(List.map_id xs).symm,rfl⟩
    ·intro r a x l p F;show EvT p _ (some (.st r)::some (.st x)::_) _;row_cond go;intro _;row_cond go;exact⟨x,rfl,rfl,rfl⟩
    ·rw [show(ds.flatMap λr=>((C7 r).filter λ_=>true).map λx=>PyData.bool (isInt x))=(ds.flatMap λr=>(C7 r).map isInt).map .bool by
      rw[List.map_flatMap];congr 1
      funext r
      rw[v2,List.filter_eq_self.mpr λ_ _=>rfl];rfl]
     row_cond go;refine X6 ?_;rw [show(ds.flatMap λr=>(C7 r).map isInt).all id=A5 n (.list ds) by
      have I:(ds.flatMap λr=>(C7 r).map isInt).all id=ds.all CC:=by
       rw[f6];simp only[P2,List.mem_flatMap,X0,id];constructor
       ·intro z r a;obtain⟨xs,rfl,_⟩:=g r a;exact P2.mpr λx l=>z _ ⟨_,a,x,l,rfl⟩
       ·rintro z y ⟨r,a,x,l,rfl⟩;obtain⟨xs,rfl,_⟩:=g r a;exact P2.mp (z _ a) x l
      rw[I];simp only[A5,e2,show decide ((ds.length:Int)=n)=true from N3 G,Bool.and_self,Bool.true_and]]
     row_cond go;exact k
theorem sc_number_holds:FnScope ["tied","d","paper","a","b","number"] ["tied","d","paper","a","b"] (S0 s_number_holds):=by row_cond sc
theorem BR(T:Txt K mg):Can P w K mg base "number_holds" 1 ["tied","d","paper","a","b"] (spP K (iP)):=by
 obtain⟨f,fd,D⟩:=T.cw;obtain⟨y,j⟩:=T.dX;have g:=j.mgx;have C:=T.dY _ g;refine D.can (D.fn.ok sc_number_holds (λvs H Q E h=>lenP h λss Q' q=>by obtain⟨n,L,tl,d,m,a,b,rfl,M,I,u,G,a0,a1,b0,b1,k⟩:=q;rfl) (λcdv A outer s H vs Q E W h=>?_));have nd:=sc_number_holds.nd
 refine⟨_,(D0 (U0 (i:=5) nd rfl (Or.inr rfl) (P0 Q0 (P0 Q0 (pv 2) (pv 3) (λ_ _=>rfl)) (pv 4) (λ_ _=>rfl)))
  (D0 (Z1 (R1 j6 (pv 3) (pv 4) (C1 _))
   (I0 (O0 (S4 j6 (pv 5) t0 (C1 _))))
   A2)
  (D0 (Z1 (B4 (UO J9 J9 t0 (pv 5) (pv 1)))
   (I0 (O0 t3))
   A2)
  (I0 (O0 (Z0 (PL rfl) (by rfl) T.ai LL (f0 (Q4 rfl (N:=["place","b","number","paper"]) (src:=[none,some 4,some 5,some 2]) (by exact z3 rfl rfl rfl rfl rfl rfl) (S3 (P0 Q0 (pv 0) (pv 3) (λ_ _=>rfl))) (λ_ _ _ _=>(T0 (i:=0) (show List.Nodup (["place","b","number","paper"]:List Str) by decide +kernel) rfl ab (hf:=Or.inr rfl))) (λ_ _ _ _=>v3) (λ_ _ _ _=>(S4 j6 (P0 (show IxR _ (A4 K) from Q0) (P0 (show IxR _ (A4 K) from Q0) (pv 3) (pv 0) (λ_ _=>rfl)) (pv 1) (λ_ _=>rfl)) (K0 k6 (pv 2) t0) (C1 _)))) i0))))))),?_⟩
 refine T1 h λss Q' q B U=>?_;refine exS7 ss q λn L tl d m a b c=>?_;have M:=c.1;have I:=c.2.1;have u:=c.2.2.1;have G:=c.2.2.2.1;have a0:=c.2.2.2.2.1;have a1:=c.2.2.2.2.2.1;have b0:=c.2.2.2.2.2.2.1;have b1:=c.2.2.2.2.2.2.2.1;have k:=c.2.2.2.2.2.2.2.2;clear c q;show EvS B _ _ [some (.st (tlV tl)),some (.st (.int d)),some (.st (.list (matD n m))),some (.st (.int a)),some (.st (.int b)),none];have ha:=m7 (n:=n) (m:=m) a0 a1;have hb:=k9 (n:=n) (r:=m a) b0 b1;row_cond go;refine L5 (λh=>?_) (λh=>?_)
 ·row_cond go;refine k _ ?_;rw[decide_eq_true_iff];exact⟨λe=>⟨λ_=>e,λz=>absurd h z⟩,λz=>z.1 h⟩
 ·row_cond go;obtain⟨ws,o,F⟩:=I.get (v:=a) a0 (by lia);have R:M1 ((tlD tl).map PyData.list) a=some (.list (ws.map .int)):=K8 (f:=PyData.list) (t6 a0 (DC o));have O:=G ws (i3 o);by_cases q1:1<=m a b
  ·by_cases q2:m a b<=d
   ·row_cond go;refine A6 (xs:=ws) (f:=PyData.int) (λp=>.bool (decide (m p b=m a b-1))) rfl (by lia) (λp x Y X=>?_) ?_
    ·have l:=u _ _ ((F p).mp x);have J:=m7 (n:=n) (m:=m) l.1 l.2;have S:=k9 (n:=n) (r:=m p) b0 b1;row_cond go;exact rfl
    ·row_cond go;rw[show(ws.map λp=>PyData.bool (decide (m p b=m a b-1)))=(ws.map λp=>decide (m p b=m a b-1)).map .bool by rw[v2];rfl];refine jK ?_;row_cond go;refine k _ ?_;simp only[List.any_map,o9,Function.comp,id,decide_eq_true_eq];constructor
     ·rintro⟨p,x,e⟩;exact⟨λz=>absurd z h,λ_=>⟨q1,q2,p,(F p).mp x,e⟩⟩
     ·rintro⟨_,z⟩;obtain⟨_,_,p,x,e⟩:=z h;exact⟨p,(F p).mpr x,e⟩
   ·row_cond go;refine k _ ⟨λz=>(by cases z),λz=>absurd (z.2 h).2.1 q2⟩
  ·row_cond go;refine k _ ⟨λz=>(by cases z),λz=>absurd (z.2 h).1 q1⟩
theorem sc_far_shows:FnScope ["web","d","paper","n","tied"] ["web","d","paper"] (S0 s_far_shows):=by row_cond sc
theorem jF(T:Txt K mg):Can P w K mg base "far_shows" 8 ["web","d","paper"] (spP K (qT)):=by
 obtain⟨f,fd,D⟩:=T.cq;obtain⟨F,l⟩:=T.dX;have j:=l.mgx;have O:=T.dY _ j;refine D.can (D.fn.ok sc_far_shows (λvs H Q E h=>lenP h λss Q' q=>by obtain⟨n,d,es,p,rfl,Z,M,r,x,hJ,W,S⟩:=q;rfl) (λcdv A outer s H vs Q E L h=>?_));have nd:=sc_far_shows.nd
 refine⟨_,(D0 (Z3 (G0 (LF T) L (f0 (pv 0) i0)))
  (D0 (U0 (i:=3) nd rfl (Or.inr rfl) (P0 Q0 (pv 0) t0 (λ_ _=>rfl)))
  (D0 (Z1 (PW.pt (T4 (R1 Y5 (pv 1) t0 (C1 _)) (J5 (B4 (n4 (G0 (WS T) L (f0 (pv 3) (f0 (pv 2) i0))))))))
   (I0 (O0 t3))
   A2)
  (D0 (U0 (i:=4) nd rfl (Or.inr rfl) (G0 (jE T) L (f0 (pv 0) i0)))
  (I0 (O0 (Z0 (W6 rfl) (by rfl) T.af Y6 (f0 (pE rfl (N:=["a","b","tied","d","paper","n"]) (src:=[none,none,some 4,some 1,some 2,some 3]) (by exact z3 rfl rfl rfl rfl rfl rfl) (R5 rfl T.aq (f0 (pv 3) i0)) (λ_ _ _ _=>(T0 (i:=0) (show List.Nodup (["a","b","tied","d","paper","n"]:List Str) by decide +kernel) rfl ab (hf:=Or.inr rfl))) (λ_ _ _ _=>v3) (λ_ _ _ _=>(R5 rfl T.aq (f0 (pv 5) i0))) (λ_ _ _ _=>(T0 (i:=1) (show List.Nodup (["a","b","tied","d","paper","n"]:List Str) by decide +kernel) rfl ab (hf:=Or.inr rfl))) (λ_ _ _ _=>v3) (λ_ _ _ _=>(G0 (BR T) L (f0 (pv 2) (f0 (pv 3) (f0 (pv 4) (f0 (pv 0) (f0 (pv 1) i0)))))))) i0)))))))),?_⟩
 refine T1 h λss Q' q B hK=>?_;refine exS4 ss q λn d es p g=>?_;have Z:=g.1;have M:=g.2.1;have r:=g.2.2.1;have x:=g.2.2.2.1;have hJ:=g.2.2.2.2.1;have W:=g.2.2.2.2.2.1;have S:=g.2.2.2.2.2.2;clear g q;show EvS B _ _ [some (.st (webD n es)),some (.st (.int d)),some (.st p),none,none];row_cond go;refine⟨n,es,rfl,Z,M,r,x,hJ,?_⟩;row_cond go;have I:d<0->Q' (.st (.bool false)):=λhd=>by
  cases e:A5 n p with
  |false=>exact W e
  | true =>
   obtain⟨m,rfl⟩:=nF e;exact S m rfl _ ⟨λz=>(by cases z),λz=>absurd z.1 (by lia)⟩
 by_cases hd:d<0
 ·row_cond go;exact I hd
 ·row_cond go;refine⟨n,_,rfl,M,?_⟩;cases esq:A5 n p with
  | false =>
   row_cond go;exact W esq
  |true =>
  obtain⟨m,rfl⟩:=nF esq;have k:=S m rfl;row_cond go;refine⟨n,es,rfl,by lia,M,r,x,λtl ht hu=>n5 dC ?_⟩;row_cond go;have C:∃ c:Int->Int->Bool,∀ a b,c a b=true ↔ AA (Tied es) d m a b:=⟨λa b=>@decide (AA (Tied es) d m a b) (Classical.propDecidable _),λa b=>@decide_eq_true_iff _ (Classical.propDecidable _)⟩
  obtain⟨c,C⟩:=C;have U:∀{a b:Int}{J:Bool},(J=true ↔ AA (Tied es) d m a b)->J=c a b:=λ{a b J} h=>by rw[f6,h,C]
  unfold rngD;refine NB (xs:=List.range n.toNat) (λ_=>List.range n.toNat) (λv:Nat=>.int (0+(v:Int))) (λu v=>.bool (c (u:Int) (v:Int))) (λ_ _=>true) (pC rfl) ?_ ?_ ?_ ?_
  ·rw[mJ,R0,List.length_flatMap];have h1:(List.range n.toNat).map (λu:Nat=>((List.range n.toNat).map λv:Nat=>c (u:Int) (v:Int)).length)=(List.range n.toNat).map λ_=>n.toNat:=j7 λu _=>by simp
   rw[h1,List.map_const',List.sum_replicate_nat,AB];have h2:n.toNat * n.toNat<=100 * 100:=Nat.mul_le_mul (by lia) (by lia);lia
  ·intro u G B' hB o;row_cond go;exact rfl
  ·intro u G v X B' hB;have Y:(u:Int)<n:=by have:=U1.mp G;lia
   have R:(v:Int)<n:=by have:=U1.mp X;lia
   row_cond go;intro _;row_cond go;refine⟨n.toNat,Tied es,tl,d,m,0+(u:Int),0+(v:Int),rfl,by lia,by rw[show((n.toNat:Nat):Int)=n by lia];exact ht,λu v h=>by have:=(h.in r).2;lia,hu,by lia,by lia,by lia,by lia,λJ hb=>⟨?_,rfl⟩⟩;rw[u8,u8] at hb;rw[U hb]
  ·rw[mJ];row_cond go;refine X6 ?_;row_cond go;refine k _ ?_;simp only[P2,List.mem_flatMap,X0,U1,id];constructor
   ·intro z;refine⟨by lia,λa b a0 a1 b0 b1=>(C a b).mp (z _ ⟨a.toNat,by lia,b.toNat,by lia,?_⟩)⟩;rw[show((a.toNat:Nat):Int)=a by lia,show((b.toNat:Nat):Int)=b by lia]
   ·rintro z y ⟨u,Y,v,R,rfl⟩;exact(C _ _).mpr (z.2 _ _ (by lia) (by lia) (by lia) (by lia))
theorem sc_far_paper:FnScope ["web"] ["web"] (S0 s_far_paper):=by row_cond sc
theorem lL(T:Txt K mg):Can P w K mg base "far_paper" 9 ["web"] (spP K (FH)):=by
 obtain⟨f,fd,D⟩:=T.cp;obtain⟨i,c⟩:=T.dX;have b:=c.mgx;have j:=T.dY _ b;refine D.can (D.fn.ok sc_far_paper (λvs H Q E h=>lenP h λss Q' q=>by obtain⟨n,es,rfl,l,o,g,d,m,k⟩:=q;rfl) (λcdv A outer s H vs Q E p h=>?_));have nd:=sc_far_paper.nd;refine⟨_,(I0 (O0 (G0 (D9 T) p (f0 (pv 0) i0)))),?_⟩;refine T1 h λss Q' q B r=>?_;refine exS2 ss q λn es a=>?_;have l:=a.1;have o:=a.2.1;have g:=a.2.2.1;have d:=a.2.2.2.1;have m:=a.2.2.2.2.1;have k:=a.2.2.2.2.2;clear a q;show EvS B _ _ [some (.st (webD n es))];row_cond go;exact⟨n,es,rfl,l,o,g,d,m,k⟩
def k5(n:Int):PyData->Bool
 | .tuple [.int a,.int b]=>decide (0<=a/\a<=n-1) && decide (0<=b/\b<=n-1) && decide (a<b)
 |_=>false
def fA(n:Int):PyData->Bool
 | .list ds=>ds.all (k5 n)
 |_=>false
def iR:VP:=λss Q=>∃(n:Int)(d:PyData),ss=[.st (.int n),.st d]/\Q (.st (.bool (k5 n d)))
def KR:VP:=λss Q=>∃(n:Int)(d:PyData),ss=[.st (.int n),.st d]/\(∀ ds,d=.list ds->ds.length<=100000)/\Q (.st (.bool (fA n d)))
def cO:VP:=λss Q=>∃(ps:List (Int × Int)),ss=[.st (.list (ps.map prD))]/\ps.length<=100000/\∀ b:Bool,(b=true ↔ Rise ps)->Q (.st (.bool b))
structure PutOk(n:Int)(es fs:List (Int × Int)):Prop where
 inn:∀ p∈fs,0<=p.1/\p.1<p.2/\p.2<n
 nd:(es++fs).Nodup
def QM:VP:=λss Q=>∃(n:Int)(es fs:List (Int × Int)),ss=[.st (webD n es),.st (.list (fs.map prD))]/\es.length<=10000/\fs.length<=10000/\PutOk n es fs/\∀ qs,Rise qs->qs.Perm (es++fs)->Q (.own (OW (.int n) (qs.map prD)))
theorem sc_is_tie:FnScope ["n","thing","a","b"] ["n","thing"] (S0 s_is_tie):=by row_cond sc
theorem EN (T:Txt K mg):Can P w K mg base "is_tie" 4 ["n","thing"] (spP K (iR)):=by
 obtain⟨f,fd,D⟩:=T.bv;obtain⟨m,j⟩:=T.dX;have g:=j.mgx;have o:=T.dY _ g;refine D.can (D.fn.ok sc_is_tie (λvs H Q E h=>lenP h λss Q' q=>by obtain⟨n,d,rfl,k⟩:=q;rfl) (λcdv A outer s H vs Q E r h=>?_));have nd:=sc_is_tie.nd
 refine⟨_,(D0 (Z1 (PW.pt (T4 (B4 (n4 (Z0 n7 (by rfl) T.az q7 (f0 (pv 1) (f0 (u7 (v:=.ty "tuple") rfl T.am bB rfl) i0))))) (J5 (R1 zA (Z0 E4 (by rfl) T.aV p4 (f0 (pv 1) i0)) t0 (C1 _)))))
   (I0 (O0 t3))
   A2)
  (D0 (U4 (pv 1) (j5 rfl (X2 (T0 (i:=2) nd rfl ab) (X2 (T0 (i:=3) nd rfl ab) o5))))
  (I0 (O0 (U5 (G0 (kB T) r (f0 (pv 0) (f0 (pv 2) i0))) (U5 (G0 (kB T) r (f0 (pv 0) (f0 (pv 3) i0))) (C6 (S4 Y5 (pv 2) (pv 3) (C1 _))))))))),?_⟩
 refine T1 h λss Q' q B u=>?_;refine exS2 ss q λn d l=>?_;have k:=l;clear l q;show EvS B _ _ [some (.st (.int n)),some (.st d),none,none];row_cond go;cases d with
 | tuple xs =>
  refine BC ?_;row_cond go;rcases(show xs.length=2\/xs.length ≠ 2 by lia) with p|p
  ·match xs,p with
   | [x,y],_ =>
    row_cond go;refine⟨n,x,rfl,?_⟩;row_cond go;have c:k5 n (.tuple [x,y])=(btwD 0 (n-1) x && (btwD 0 (n-1) y && match x,y with | .int a,.int b=>decide (a<b)|_,_=>false)):=by
     cases x <;> cases y <;> simp[k5,btwD,Bool.and_assoc]
    cases hx:btwD 0 (n-1) x with
    | false =>
     rw[hx,Bool.false_and] at c;refine m6 ?_;rw[← c];exact k
    | true =>
     refine P5 ?_;row_cond go;refine⟨n,y,rfl,?_⟩;row_cond go;cases hy:btwD 0 (n-1) y with
     | false =>
      rw[hx,hy] at c;refine m6 ?_;rw[show false=k5 n (.tuple [x,y]) by rw[c];rfl];exact k
     | true =>
      refine P5 ?_;cases x with
      | int a =>
       cases y with
       | int b =>
        row_cond go;rw[hx,hy] at c;rw[show decide (a<b)=k5 n (.tuple [.int a,.int b]) by rw[c];rfl];exact k
       |_=>simp[btwD] at hy
      |_=>simp[btwD] at hx
  ·row_cond go;have:k5 n (.tuple xs)=false:=by
    match xs,p with
    |[],_=>rfl
    |[x],_=>cases x <;> rfl
    |[_,_],h=>exact absurd rfl h
    |x::y::_::_,_=>cases x <;> cases y <;> rfl
   rw[← this];exact k
 | _ =>
  refine DE ?_;row_cond go;exact k
theorem sc_are_ties:FnScope ["n","thing"] ["n","thing"] (S0 s_are_ties):=by row_cond sc
theorem yJ(T:Txt K mg):Can P w K mg base "are_ties" 5 ["n","thing"] (spP K (KR)):=by
 obtain⟨f,fd,D⟩:=T.bw;obtain⟨g,b⟩:=T.dX;have a:=b.mgx;have j:=T.dY _ a;refine D.can (D.fn.ok sc_are_ties (λvs H Q E h=>lenP h λss Q' q=>by obtain⟨n,d,rfl,l,k⟩:=q;rfl) (λcdv A outer s H vs Q E m h=>?_));have nd:=sc_are_ties.nd;refine⟨_,(I0 (O0 (U5 (Z0 n7 (by rfl) T.az q7 (f0 (pv 1) (f0 (u7 (v:=.ty "list") rfl T.av k8 rfl) i0))) (C6 (Z0 (W6 rfl) (by rfl) T.af Y6 (f0 (Q4 rfl (N:=["tie","n"]) (src:=[none,some 0]) (by exact z3 rfl rfl rfl rfl rfl rfl) (S3 (pv 1)) (λ_ _ _ _=>(T0 (i:=0) (show List.Nodup (["tie","n"]:List Str) by decide +kernel) rfl ab (hf:=Or.inr rfl))) (λ_ _ _ _=>v3) (λ_ _ _ _=>(G0 (EN T) m (f0 (pv 1) (f0 (pv 0) i0))))) i0)))))),?_⟩;refine T1 h λss Q' q B o=>?_;refine exS2 ss q λn d c=>?_;have l:=c.1;have k:=c.2;clear c q;show EvS B _ _ [some (.st (.int n)),some (.st d)];row_cond go;cases d with
 | list ds =>
  have l:=l ds rfl;refine P5 ?_;row_cond go;refine BB (λt=>.bool (k5 n t)) rfl (by lia) (λt _ r p=>?_) ?_
  ·row_cond go;exact⟨n,t,rfl,rfl,rfl⟩
  ·row_cond go;rw[show(ds.map λt=>PyData.bool (k5 n t))=(ds.map (k5 n)).map .bool by rw[v2];rfl];refine X6 ?_;row_cond go;rw[show(ds.map (k5 n)).all id=fA n (.list ds) by simp[fA,List.all_map]];exact k
 | _ =>
  refine m6 ?_;exact k
theorem sc_is_rising:FnScope ["things"] ["things"] (S0 s_is_rising):=by row_cond sc
theorem pH(T:Txt K mg):Can P w K mg base "is_rising" 1 ["things"] (spP K (cO)):=by
 obtain⟨f,fd,D⟩:=T.bx;obtain⟨l,b⟩:=T.dX;have a:=b.mgx;have m:=T.dY _ a;refine D.can (D.fn.ok sc_is_rising (λvs H Q E h=>lenP h λss Q' q=>by obtain⟨ps,rfl,u,k⟩:=q;rfl) (λcdv A outer s H vs Q E r h=>?_));have nd:=sc_is_rising.nd;refine⟨_,(I0 (O0 (Z0 (W6 rfl) (by rfl) T.af Y6 (f0 (Q4 rfl (N:=["at","things"]) (src:=[none,some 0]) (by exact z3 rfl rfl rfl rfl rfl rfl) (R5 rfl T.aq (f0 (K0 k6 (Z0 E4 (by rfl) T.aV p4 (f0 (pv 0) i0)) t0) i0)) (λ_ _ _ _=>(T0 (i:=0) (show List.Nodup (["at","things"]:List Str) by decide +kernel) rfl ab (hf:=Or.inr rfl))) (λ_ _ _ _=>v3) (λ_ _ _ _=>(S4 (show OpR _ (compareOp .Lt) (rLtT K) from NT r.units0) (P0 (show IxR _ (A4 K) from Q0) (pv 1) (pv 0) (λ_ _=>rfl)) (P0 (show IxR _ (A4 K) from Q0) (pv 1) (K0 R3 (pv 0) t0) (λ_ _=>rfl)) (C1 _)))) i0)))),?_⟩;refine T1 h λss Q' q B x=>?_;refine exS1 ss q λps c=>?_;have u:=c.1;have k:=c.2;clear c q;show EvS B _ _ [some (.st (.list (ps.map prD)))];row_cond go;rw[R0];row_cond go;refine BB (λd=>match d with | .int i=>.bool (match ps[i.toNat]?,ps[i.toNat+1]? with|some p,some q=>HT.lexLt (p2 p) (p2 q)|_,_=>false)|_=>.none) rfl (by rw[M7];lia) (λd hd z y=>?_) ?_
 ·obtain⟨i,hi⟩:=List.mem_iff_getElem?.mp hd;obtain⟨hi,rfl⟩:=C9 hi;have o:i<ps.length:=by lia
  have n:i+1<ps.length:=by lia
  have a1:M1 (ps.map prD) (0+(i:Int))=some (prD ps[i]):=K8 (f:=prD) (t6 (by lia) (by rw[show(0+(i:Int)).toNat=i by lia];exact Y0 o));have v:M1 (ps.map prD) (0+(i:Int)+1)=some (prD ps[i+1]):=K8 (f:=prD) (t6 (by lia) (by rw[show(0+(i:Int)+1).toNat=i+1 by lia];exact Y0 n));row_cond go;refine YS ?_;row_cond go;refine⟨?_,rfl⟩;simp[o,n]
 ·row_cond go;have e:(rngD 0 ((ps.length:Int)-1).toNat).map (λd=>match d with | .int i=>PyData.bool (match ps[i.toNat]?,ps[i.toNat+1]? with|some p,some q=>HT.lexLt (p2 p) (p2 q)|_,_=>false)|_=>.none)=((List.range (ps.length-1)).map λi=>match ps[i]?,ps[i+1]? with|some p,some q=>HT.lexLt (p2 p) (p2 q)|_,_=>false).map .bool:=by
   unfold rngD;rw[v2,v2,show((ps.length:Int)-1).toNat=ps.length-1 by lia];apply j7;intro i _;simp
  rw[e];refine X6 ?_;row_cond go;refine k _ ?_;rw[List.all_map,P2];unfold Rise;rw[JF ltP (λh g=>ZI h g)];constructor
  ·intro h i hi;have:=h i (U1.mpr (by lia));simp[show i<ps.length by lia,hi] at this;exact(lex2 _ _).mp this
  ·intro h i hi;have j:i+1<ps.length:=by have:=U1.mp hi;lia
   have:=(lex2 _ _).mpr (h i j);simp[show i<ps.length by lia,j,this]
theorem sc_with_ties:FnScope ["web","ties","n","there","every"] ["web","ties"] (S0 s_with_ties):=by row_cond sc
theorem qC(T:Txt K mg):Can P w K mg base "with_ties" 6 ["web","ties"] (spP K (QM)):=by
 obtain⟨f,fd,D⟩:=T.cx;obtain⟨l,d⟩:=T.dX;have c:=d.mgx;have m:=T.dY _ c;refine D.can (D.fn.ok sc_with_ties (λvs H Q E h=>lenP h λss Q' q=>by obtain⟨n,es,fs,rfl,v,u,r,k⟩:=q;rfl) (λcdv A outer s H vs Q E g h=>?_));have nd:=sc_with_ties.nd
 refine⟨_,(D0 (U4 (pv 0) (j5 rfl (X2 (T0 (i:=2) nd rfl ab) (X2 (T0 (i:=3) nd rfl ab) o5))))
  (D0 (Z1 (B4 (n4 (G0 (yJ T) g (f0 (pv 2) (f0 (pv 1) i0)))))
   (I0 A8)
   A2)
  (D0 (U0 (i:=4) nd rfl ab (Z0 vE (by rfl) T.aj hA (f0 (K0 CA (pv 3) (pv 1)) i0)))
  (D0 (Z1 (B4 (n4 (G0 (pH T) g (f0 (pv 4) i0))))
   (I0 A8)
   A2)
  (I0 (O0 (n3 (f0 (pv 2) (f0 (pv 4) i0))))))))),?_⟩
 refine T1 h λss Q' q B y=>?_;refine exS3 ss q λn es fs a=>?_;have v:=a.1;have u:=a.2.1;have r:=a.2.2.1;have k:=a.2.2.2;clear a q;show EvS B _ _ [some (.st (webD n es)),some (.st (.list (fs.map prD))),none,none,none];row_cond go;refine⟨n,_,rfl,λds e=>by cases e;rw[R0];lia,?_⟩;row_cond go;have x:fA n (.list (fs.map prD))=true:=by
  show((fs.map prD).all (k5 n))=true;rw[List.all_map,P2];intro p j;have:=r.inn p j;simp[k5,prD];lia
 rw[x];row_cond go;refine NC (ps:=es++fs) ?_;row_cond go;rw[← N4];refine⟨rfl,λo j hs=>?_⟩;have g:Rise o:=nB j r.nd hs;refine P3 ?_;row_cond qc;try refine' aG (by assumption) ?_
 refine rH (lJ (uI (YA (dJ (.inl rfl) (GI ⟨_,_,.inl rfl,w4,o,rfl,by rw[j.length_eq,f3];lia,λb hb=>?_⟩)))));row_cond go;rw[hb.mpr g];row_cond go;exact k o g j
def zM:VP:=λss Q=>∃(a b c:Int),ss=[.st (.int a),.st (.int b),.st (.int c)]/\a<=c/\c<=b/\Q (.st .none)
theorem sc_need_number:FnScope ["least","most","thing"] ["least","most","thing"] (S0 s_need_number):=by row_cond sc
theorem zB(T:Txt K mg):Can P w K mg base "need_number" 3 ["least","most","thing"] (spP K (zM)):=by
 obtain⟨f,fd,D⟩:=T.bq;obtain⟨j,g⟩:=T.dX;have d:=g.mgx;have l:=T.dY _ d;refine D.can (D.fn.ok sc_need_number (λvs H Q E h=>lenP h λss Q' q=>by obtain⟨a,b,c,rfl,o,m,k⟩:=q;rfl) (λcdv A outer s H vs Q E n h=>?_));have nd:=sc_need_number.nd
 refine⟨_,(I0 (Z1 (B4 (n4 (G0 (JD T) n (f0 (pv 0) (f0 (pv 1) (f0 (pv 2) i0))))))
   (I0 A8)
   A2)),?_⟩
 refine T1 h λss Q' q B p=>?_;refine exS3 ss q λa b c i=>?_;have o:=i.1;have m:=i.2.1;have k:=i.2.2;clear i q;show EvS B _ _ [some (.st (.int a)),some (.st (.int b)),some (.st (.int c))];row_cond go;refine⟨a,b,.int c,rfl,?_⟩;have:btwD a b (.int c)=true:=by simp[btwD];lia
 rw[this];row_cond go;exact k
def O4(n:Nat)(r:Int->Int):List Int:=(List.range n).map λ(i:Nat)=>r (i:Int)
theorem FG:rowD n r=(O4 n r).map .int:=jA
theorem eI(n:Nat)(r:Int->Int):(O4 n r).length=n:=by simp[O4]
theorem UB(hn:1<=n)(r:Int->Int):O4 n r ≠ []:=λe=>by have:=eI n r;rw[e] at this;simp at this;lia
def mxF(n:Nat)(r:Int->Int):Int:=open Classical in if h:∃ x,R6 (O4 n r) x then Classical.choose h else 0
theorem jH(hn:1<=n)(r:Int->Int):R6 (O4 n r) (mxF n r):=by
 unfold mxF;have h:=XB (UB hn r);rw[dif_pos h];exact Classical.choose_spec h
theorem ZH:∀{l:List Int}{x:Int},x∈l->∃ j:Nat,l[j]?=some x/\∀ m,m<j->l[m]? ≠ some x
 | a::l,x,h=>by
  by_cases e:a=x
  ·subst e;exact⟨0,rfl,λm hm=>by lia⟩
  ·obtain⟨j,c,b⟩:=ZH (l:=l) (x:=x) (by rcases D1.mp h with q|q;exact absurd q.symm e;exact q);refine⟨j+1,by simpa using c,λm hm=>?_⟩;cases m with
   |zero=>simpa using e
   |succ m=>simpa using b m (by lia)
def ixF(n:Nat)(r:Int->Int):Nat:=open Classical in if h:∃ j:Nat,(O4 n r)[j]?=some (mxF n r)/\∀ m,m<j->(O4 n r)[m]? ≠ some (mxF n r) then Classical.choose h else 0
theorem AD(hn:1<=n)(r:Int->Int):(O4 n r)[ixF n r]?=some (mxF n r)/\∀ m,m<ixF n r->(O4 n r)[m]? ≠ some (mxF n r):=by
 unfold ixF;have h:=ZH (jH hn r).1;rw[dif_pos h];exact Classical.choose_spec h
theorem RI(hn:1<=n)(r:Int->Int):ixF n r<n:=by
 have:=(N1.mp (AD hn r).1).1
 rwa [eI] at this
def nxF(m:Int->Int->Int)(r:Int->Int)(h:Int):Int->Int:=λy=>if m h y<r y then m h y else r y
def hubN(n:Nat)(m:Int->Int->Int):Nat->List Int × (Int->Int)
 |0=>([0],m 0)
 |j+1=>open Classical in if 0<mxF n (hubN n m j).2 then ((hubN n m j).1++[(ixF n (hubN n m j).2:Int)],nxF m (hubN n m j).2 (ixF n (hubN n m j).2:Int)) else hubN n m j
theorem GH(e:hubN n m j=(hs,r))(h:0<mxF n r):hubN n m (j+1)=(hs++[(ixF n r:Int)],nxF m r (ixF n r:Int)):=by
 show(if 0<mxF n (hubN n m j).2 then _ else _)=_;rw[e,q0 h]
theorem cG(e:hubN n m j=(hs,r))(h:¬ 0<mxF n r):hubN n m (j+1)=(hs,r):=by
 show(if 0<mxF n (hubN n m j).2 then _ else _)=_;rw[e,o0 h]
theorem sH(e:hubN n m j=(hs,r))(h:¬ 0<mxF n r):∀ i,hubN n m (j+i)=(hs,r)
 |0=>e
 |i+1=>cG (sH e h i) h
def hubO(n:Int)(es:List (Int × Int))(k:Int):Own:=OW (.int (mxF n.toNat (hubN n.toNat (dsF es) k.toNat).2)) ((hubN n.toNat (dsF es) k.toNat).1.map .int)
theorem WA(e:hubN n.toNat (dsF es) k.toNat=(hs,r)):hubO n es k=OW (.int (mxF n.toNat r)) (hs.map .int):=by unfold hubO;rw[e]
def BL:VP:=λss Q=>∃(n:Int)(es:List (Int × Int))(k:Int),ss=[.st (webD n es),.st (.int k)]/\1<=n/\n<=100/\InN n es/\es.length<=10000/\Joined n es/\0<=k/\k<=20/\Q (.own (hubO n es k))
theorem WN:zipD ((O4 n r).map .int) (rowD n q)=(List.range n).map λ(i:Nat)=>.tuple [.int (r (i:Int)),.int (q (i:Int))]:=by rw[← FG,fR]
theorem CQ(n:Nat)(r:Int->Int):(List.range n).map (λi:Nat=>PyData.int (r (i:Int)))=(O4 n r).map .int:=by unfold O4;rw[v2];rfl
theorem sc_hubs_for:FnScope ["web","k","rows","hubs","near","hub"] ["web","k"] (S0 s_hubs_for):=by row_cond sc
theorem YC(T:Txt K mg):Can P w K mg base "hubs_for" 9 ["web","k"] (spP K (BL)):=by
 obtain⟨f,fd,D⟩:=T.cz;obtain⟨c,b⟩:=T.bg;obtain⟨C,g⟩:=T.dX;have d:=g.mgx;have G:=T.dY _ d;refine D.can (D.fn.ok sc_hubs_for (λvs H Q E h=>lenP h λss Q' q=>by obtain⟨n,es,k,rfl,Z,X,o,u,W,k0,Y,O⟩:=q;rfl) (λcdv A outer s H vs Q E S h=>?_));have nd:=sc_hubs_for.nd
 refine⟨_,(D0 (U0 (i:=2) nd rfl ab (G0 (D9 T) S (f0 (pv 0) i0)))
  (D0 (Z3 (G0 (zB T) S (f0 t0 (f0 (f9 (v:=.int 20) rfl b ⟨_,rfl⟩) (f0 (pv 1) i0)))))
  (D0 (U0 (i:=3) nd rfl ab (T3 (f0 t0 i0)))
  (D0 (U0 (i:=4) nd rfl ab (P0 Q0 (pv 2) t0 (λ_ _=>rfl)))
  (D0 (OA t5 (PW.pt (P7 (R1 J9 (Z0 E4 (by rfl) T.aV p4 (f0 (pv 3) i0)) (pv 1) (C1 _)) (T7 (R1 LB (Z0 (j8 rfl) (by rfl) T.ag o6 (f0 (pv 4) i0)) t0 (C1 _)))))
   (D0 (U0 (i:=5) nd rfl ab (X4 PySem.F.plainAttrs_list PySem.F.slot_list_index PySem.F.type_list_index VD (pv 4) (f0 (Z0 (j8 rfl) (by rfl) T.ag o6 (f0 (pv 4) i0)) i0)))
    (D0 (Z3 (X4 PySem.F.plainAttrs_list PySem.F.slot_list_append PySem.F.type_list_append L6 (pv 3) (f0 (pv 5) i0)))
    (I0 (P9 (i:=4) nd rfl ab rfl (N:=["far","other"]) (src:=[none,none]) (by exact z3 rfl rfl rfl rfl rfl rfl) (XQ rfl T.aZ (f0 (pv 4) (f0 (P0 Q0 (pv 2) (pv 5) (λ_ _=>rfl)) i0))) (λ_ _ _ _=>(show PG _ _ (gTup K 2 (V7 (N2 0) (V7 (N2 1) gNil))) from(j5 rfl (X2 (T0 (i:=0) (show List.Nodup (["far","other"]:List Str) by decide +kernel) rfl ab (hf:=Or.inr rfl)) (X2 (T0 (i:=1) (show List.Nodup (["far","other"]:List Str) by decide +kernel) rfl ab (hf:=Or.inr rfl)) o5))))) (λ_ _ _ _=>v3) (λ_ _ _ _=>(Z0 (BD rfl) (by rfl) T.ah cC (f0 (pv 0) (f0 (pv 1) i0)))))))))
  (I0 (O0 (n3 (f0 (Z0 (j8 rfl) (by rfl) T.ag o6 (f0 (pv 4) i0)) (f0 (pv 3) i0)))))))))),?_⟩
 refine T1 h λss Q' q B hK=>?_;refine exS3 ss q λn es k a=>?_;have Z:=a.1;have X:=a.2.1;have o:=a.2.2.1;have u:=a.2.2.2.1;have W:=a.2.2.2.2.1;have k0:=a.2.2.2.2.2.1;have Y:=a.2.2.2.2.2.2.1;have O:=a.2.2.2.2.2.2.2;clear a q;show EvS B _ _ [some (.st (webD n es)),some (.st (.int k)),none,none,none,none];have hn:1<=n.toNat:=by lia
 have a0:=m7 (n:=n.toNat) (m:=dsF es) (x:=0) (by lia) (by lia);row_cond go;refine⟨n,es,rfl,Z,X,o,u,W,n5 w4 ?_⟩;row_cond go;refine⟨0,20,k,rfl,k0,Y,?_⟩;row_cond go;rw[FG];refine OB (λU e=>∃ I j hs r,e=[some (.st (webD n es)),some (.st (.int k)),some (.st (.list (matD n.toNat (dsF es)))),some (.own (OL (List.map PyData.int hs))),some (.st (.list ((O4 n.toNat r).map .int))),I]/\hubN n.toNat (dsF es) j=(hs,r)/\hs.length=j+1/\(j:Int)<=k/\U=k.toNat-j) ⟨_,_,0,[0],dsF es 0,rfl,rfl,rfl,by lia,rfl⟩ ?_;rintro U e z;refine exS4 e z λI j hs r a=>?_;have J:=a.1;have hl:=a.2.1;have hj:=a.2.2.1;have L:=a.2.2.2;clear a z;subst L;have l:=jH hn r;have p:=AD hn r;have a1:=RI hn r;have a2:=m7 (n:=n.toNat) (m:=dsF es) (x:=(ixF n.toNat r:Int)) (by lia) (by lia);row_cond go;rw[R0];refine' cutR (R:=hubN n.toNat (dsF es) k.toNat=(hs,r)->EvS B ?c1 ?d1 [some (.st (webD n es)),some (.st (.int k)),some (.st (.list (matD n.toNat (dsF es)))),some (.own (OL (List.map PyData.int hs))),some (.st (.list ((O4 n.toNat r).map .int))),I]) (λR=>?K1) ?K2
 case K1 =>
  refine L5 (λh=>?_) (λh=>?_)
  ·row_cond go;refine N8 (UB hn r) λx y=>?_;obtain rfl:=n9 y l;row_cond go;refine L5 (λh=>?_) (λh=>?_)
   ·row_cond go;refine⟨O4 n.toNat r,rfl,?_⟩;row_cond go;refine N8 (UB hn r) λx y=>?_;obtain rfl:=n9 y l;refine⟨mxF n.toNat r,ixF n.toNat r,rfl,p.1,p.2,?_⟩;row_cond go;rw[WN];refine FF (xs:=List.range n.toNat) (fa:=λi:Nat=>.int (r (i:Int))) (fb:=λi:Nat=>.int (dsF es (ixF n.toNat r:Int) (i:Int))) (λi:Nat=>.int (nxF (dsF es) r (ixF n.toNat r:Int) (i:Int))) (λ_=>true) rfl (by simp;lia) (λi hi B' hB=>?_) ?_
    ·refine B8 ⟨rfl,rfl,λ_=>?_⟩;row_cond go;exact rfl
    ·rw[RC,CQ];refine n5 w4 ?_;row_cond go;exact⟨k.toNat-(j+1),by lia,_,j+1,hs++[(ixF n.toNat r:Int)],nxF (dsF es) r (ixF n.toNat r:Int),by rw[N4];rfl,GH J h,by simp[hl],by lia,rfl⟩
   ·exact R (by have:=sH J h (k.toNat-j);rwa [show j+(k.toNat-j)=k.toNat by lia] at this)
  ·refine m6 ?_;exact R (by rw[show k.toNat=j by lia];exact J)
 case K2 =>
  intro M;row_cond go;refine N8 (UB hn r) λx y=>?_;obtain rfl:=n9 y l;refine⟨_,rfl,?_⟩;rw[WA M] at O;exact O
structure FarOk(n:Int)(es:List (Int × Int))(x a b:Int):Prop where
 top:Y7 n.toNat (dsF es) x
 a0:0<=a
 a1:a<n
 b0:0<=b
 b1:b<n
 eq:dsF es a b=x
 fst:∀ u v:Int,0<=u->u<n->0<=v->v<n->dsF es u v=x->a<u\/(a=u/\b<=v)
def yO:VP:=λss Q=>∃(n:Int)(es:List (Int × Int)),ss=[.st (webD n es)]/\1<=n/\n<=100/\InN n es/\es.length<=10000/\Joined n es/\∀ x a b,FarOk n es x a b->Q (.st (.tuple [.int x,.int a,.int b]))
theorem uH{ns:List Int}{k:Int}(h:k∈ns):∃ j:Nat,ns[j]?=some k/\∀ m:Nat,m<j->ns[m]? ≠ some k:=by
 induction ns with
 |nil=>simp at h
 | cons n ns ih =>
  by_cases e:n=k
  ·exact⟨0,by rw[e];rfl,λm hm=>by lia⟩
  ·obtain⟨j,b,a⟩:=ih ((D1.mp h).resolve_left λz=>e z.symm);refine⟨j+1,b,λm hm=>?_⟩;cases m with
   |zero=>simpa using e
   |succ m=>exact a m (by lia)
theorem sc_farthest_two:FnScope ["web","rows","far","a"] ["web"] (S0 s_farthest_two):=by row_cond sc
theorem E7(T:Txt K mg):Can P w K mg base "farthest_two" 9 ["web"] (spP K (yO)):=by
 obtain⟨f,fd,D⟩:=T.ck;obtain⟨C,m⟩:=T.dX;have l:=m.mgx;have I:=T.dY _ l;refine D.can (D.fn.ok sc_farthest_two (λvs H Q E h=>lenP h λss Q' q=>by obtain⟨n,es,rfl,n0,n1,o,r,hJ,k⟩:=q;rfl) (λcdv A outer s H vs Q E Z h=>?_));have nd:=sc_farthest_two.nd
 refine⟨_,(D0 (U0 (i:=1) nd rfl ab (G0 (D9 T) Z (f0 (pv 0) i0)))
  (D0 (U0 (i:=2) nd rfl ab (G0 (BF T) Z (f0 (pv 1) i0)))
  (D0 (U0 (i:=3) nd rfl ab (X4 PySem.F.plainAttrs_list PySem.F.slot_list_index PySem.F.type_list_index VD (Q4 rfl (N:=["row"]) (src:=[none]) (by exact z3 rfl rfl rfl rfl rfl rfl) (S3 (pv 1)) (λ_ _ _ _=>(T0 (i:=0) (show List.Nodup (["row"]:List Str) by decide +kernel) rfl ab (hf:=Or.inr rfl))) (λ_ _ _ _=>v3) (λ_ _ _ _=>(Z0 (show C2 _ (.builtin "max") (i9 K) from(j8 rfl)) (by rfl) T.ag o6 (f0 (pv 0) i0)))) (f0 (pv 2) i0)))
  (I0 (O0 (n3 (f0 (pv 2) (f0 (pv 3) (f0 (X4 PySem.F.plainAttrs_list PySem.F.slot_list_index PySem.F.type_list_index VD (P0 Q0 (pv 1) (pv 3) (λ_ _=>rfl)) (f0 (pv 2) i0)) i0))))))))),?_⟩
 refine T1 h λss Q' q B hK=>?_;refine exS2 ss q λn es c=>?_;have n0:=c.1;have n1:=c.2.1;have o:=c.2.2.1;have r:=c.2.2.2.1;have hJ:=c.2.2.2.2.1;have k:=c.2.2.2.2.2;clear c q;show EvS B _ _ [some (.st (webD n es)),none,none,none];have hn:1<=n.toNat:=by lia
 obtain⟨G,d⟩:=IE hn (dsF es);row_cond go;refine⟨n,es,rfl,n0,n1,o,r,hJ,n5 w4 ?_⟩;row_cond go;refine⟨n.toNat,dsF es,rfl,hn,by lia,λx z=>?_⟩;have Y:x∈(List.range n.toNat).map G:=by
  obtain⟨⟨u,v,L,u1,v0,v1,e⟩,g⟩:=z;refine X0.mpr ⟨u.toNat,U1.mpr (by lia),?_⟩;have M:=(d u.toNat).2 (dsF es ((u.toNat:Nat):Int) ((v.toNat:Nat):Int)) (X0.mpr ⟨v.toNat,U1.mpr (by lia),rfl⟩);rw[show((u.toNat:Nat):Int)=u by lia,show((v.toNat:Nat):Int)=v by lia,e] at M;obtain⟨j,R,e2⟩:=X0.mp (d u.toNat).1;have:=g u j L u1 (by lia) (by have:=U1.mp R;lia);rw[show((u.toNat:Nat):Int)=u by lia] at e2;lia
 obtain⟨a,ha,y⟩:=uH Y;have S:a<n.toNat:=by have:=(N1.mp ha).1;simpa using this
 have W:G a=x:=by
  rw[L1,S7 S] at ha;simpa using ha
 have U:x∈(List.range n.toNat).map λ(i:Nat)=>dsF es (a:Int) (i:Int):=by rw[← W];exact(d a).1
 obtain⟨b,hb,p⟩:=uH U;have J:b<n.toNat:=by have:=(N1.mp hb).1;simpa using this
 have X:dsF es (a:Int) (b:Int)=x:=by
  rw[L1,S7 J] at hb;simpa using hb
 have a0:M1 (matD n.toNat (dsF es)) (a:Int)=some (.list (rowD n.toNat (dsF es (a:Int)))):=m7 (by lia) (by lia);row_cond go;unfold matD;refine A6 (λu:Nat=>.int (G u)) rfl (by simp;lia) (λu hu B' hB=>?_) ?_
 ·row_cond go;rw[jA];exact N8 (by simp;lia) λx z=>⟨by rw[n9 z (d u)],rfl⟩
 ·refine⟨(List.range n.toNat).map G,by rw[v2];rfl,?_⟩;row_cond go;refine⟨x,a,rfl,ha,y,?_⟩;row_cond go;refine⟨(List.range n.toNat).map λ(i:Nat)=>dsF es (a:Int) (i:Int),by rw[jA],?_⟩;row_cond go;refine⟨x,b,rfl,hb,p,?_⟩;row_cond go;refine k x a b ⟨z,by lia,by lia,by lia,by lia,X,λu v L u1 v0 v1 e=>?_⟩;have hu:(a:Int)<=u:=by
   apply AC;intro O;refine y u.toNat (by lia) ?_;rw[L1,S7 (by lia)];have M:=(d u.toNat).2 (dsF es ((u.toNat:Nat):Int) ((v.toNat:Nat):Int)) (X0.mpr ⟨v.toNat,U1.mpr (by lia),rfl⟩);rw[show((u.toNat:Nat):Int)=u by lia,show((v.toNat:Nat):Int)=v by lia,e] at M;obtain⟨j,R,e2⟩:=X0.mp (d u.toNat).1;have:=z.2 u j L (by lia) (by lia) (by have:=U1.mp R;lia);rw[show((u.toNat:Nat):Int)=u by lia] at e2;simp only[w8,Option.some.injEq];lia
  by_cases hau:(a:Int)<u
  ·exact .inl hau
  ·refine .inr ⟨by lia,?_⟩;apply AC;intro O;refine p v.toNat (by lia) ?_;rw[L1,S7 (by lia)];simp only[w8,Option.some.injEq];rw[show((v.toNat:Nat):Int)=v by lia,show(a:Int)=u by lia];exact e
structure HubI(n:Nat)(j:Nat)(hs:List Int)(r:Int->Int):Prop where
 nd:hs.Nodup
 mem:∀ y∈hs,0<=y/\y<n/\r y=0
 hd:∃ rest,hs=0::rest
 len:hs.length<=j+1
theorem HC(hn:1<=n)(i:∀ u v,0<=m u v)(d:∀ u,m u u=0):∀(j:Nat){hs:List Int}{r:Int->Int},hubN n m j=(hs,r)->HubI n j hs r
 | 0,hs,r,e=>by
  cases e;exact⟨by simp,λy b=>by cases O2.mp b;exact⟨by lia,by lia,d 0⟩,⟨[],rfl⟩,by simp⟩
 | j+1,hs,r,e=>by
  obtain⟨a,r0,f⟩:∃ a r0,hubN n m j=(a,r0):=⟨_,_,rfl⟩
  have h:=HC hn i d j f;by_cases hp:0<mxF n r0
  ·rw[GH f hp] at e;cases e;have hi:=RI hn r0;have p:r0 (ixF n r0:Int)=mxF n r0:=by
    have:=(AD hn r0).1;unfold O4 at this;rw[L1,S7 hi] at this;exact u3 this
   have c:(ixF n r0:Int) ∉ a:=λz=>by have:=(h.mem _ z).2.2;lia
   obtain⟨rest,l⟩:=h.hd;refine⟨B7.mpr ⟨h.nd,by simp,λx o y b e=>?_⟩,λy b=>?_,⟨rest++[(ixF n r0:Int)],by rw[l];rfl⟩,by have:=h.len;simp;lia⟩
   ·rw[O2.mp b] at e;exact c (e ▸ o)
   ·rcases Q1.mp b with q|q
    ·have:=h.mem y q;refine⟨this.1,this.2.1,?_⟩;have g:=i (ixF n r0:Int) y;unfold nxF;rw[o0 (by lia)];exact this.2.2
    ·cases O2.mp q;refine⟨by lia,by lia,?_⟩;unfold nxF;have g:=d (ixF n r0:Int);rw[q0 (by lia)];exact g
  ·rw[cG f hp] at e;cases e;exact⟨h.nd,h.mem,h.hd,by have:=h.len;lia⟩
theorem MF(es:List (Int × Int))(u v:Int):0<=dsF es u v:=by unfold dsF;lia
theorem VH(es:List (Int × Int))(u:Int):dsF es u u=0:=by unfold dsF;rw[Gr.farO_self];rfl
def xA(n:Int)(es:List (Int × Int))(k:Int)(ts:List (Int × Int)):Prop:=∃ rest qs:List Int,(hubN n.toNat (dsF es) k.toNat).1=0::rest/\qs.Perm rest/\qs.Pairwise (·<=·)/\ts=(qs.filter λh=>!decide ((0,h)∈es)).map λh=>(0,h)
def NJ:VP:=λss Q=>∃(n:Int)(es:List (Int × Int))(k:Int),ss=[.st (webD n es),.st (.int k)]/\1<=n/\n<=100/\InN n es/\es.length<=5000/\es.Nodup/\Joined n es/\0<=k/\k<=20/\∀ ts qs x a b,xA n es k ts->PutOk n es ts->Rise qs->qs.Perm (es++ts)->FarOk n qs x a b->Q (.st (.tuple [.list (ts.map prD),.int x]))
theorem UI(f:Joined n es)(d:0<n)(a:b.Perm (es++c)):Joined n b:=Conn.joined (f.conn.mono λu v t=>t.imp (λz=>a.mem_iff.mpr (Q1.mpr (.inl z))) (λz=>a.mem_iff.mpr (Q1.mpr (.inl z)))) d
theorem sO(hn:1<=n)(nd:es.Nodup)(h:xA n es k g):PutOk n es g/\g.length<=k.toNat:=by
 obtain⟨rest,m,e,d,_,rfl⟩:=h;obtain⟨hs,r,e2⟩:∃ hs r,hubN n.toNat (dsF es) k.toNat=(hs,r):=⟨_,_,rfl⟩
 have c:=HC (n:=n.toNat) (by lia) (MF es) (VH es) k.toNat e2;rw[e2] at e;simp only at e;subst e;have j:rest.Nodup:=(O5.mp c.nd).2;have v:(0:Int) ∉ rest:=(O5.mp c.nd).1;have q:m.Nodup:=d.nodup_iff.mpr j;refine⟨⟨λp f=>?_,B7.mpr ⟨nd,?_,λx u y o e=>?_⟩⟩,?_⟩
 ·obtain⟨h,hh,rfl⟩:=X0.mp f;have l:h∈rest:=d.mem_iff.mp (i6.mp hh).1;have:=c.mem h (S2 _ l);have w:h ≠ 0:=λz=>v (z ▸ l);exact⟨by simp,by simp only;lia,by simp only;lia⟩
 ·refine(List.Pairwise.filter _ q).map _ λa b i e=>i (by simpa using e)
 ·subst e;obtain⟨h,hh,rfl⟩:=X0.mp o;have:=(i6.mp hh).2;simp only[Bool.not_eq_true',decide_eq_false_iff_not] at this;exact this u
 ·rw[R0];have B:=X7 (λh=>!decide ((0,h)∈es)) m;have A:=d.length_eq;have s:=c.len;simp at s;lia
theorem sc_hub_ties:FnScope ["web","k","first","others","ties"] ["web","k"] (S0 s_hub_ties):=by row_cond sc
theorem lH(T:Txt K mg):Can P w K mg base "hub_ties" 10 ["web","k"] (spP K (NJ)):=by
 obtain⟨f,fd,D⟩:=T.cV;obtain⟨v,j⟩:=T.dX;have g:=j.mgx;have G:=T.dY _ g;refine D.can (D.fn.ok sc_hub_ties (λvs H Q E h=>lenP h λss Q' q=>by obtain⟨n,es,k,rfl,C,M,l,F,u,J,k0,R,X⟩:=q;rfl) (λcdv A outer s H vs Q E m h=>?_));have nd:=sc_hub_ties.nd
 refine⟨_,(D0 (U4 (P0 Q0 (G0 (YC T) m (f0 (pv 0) (f0 (pv 1) i0))) t0 (λ_ _=>rfl)) (KF rfl (T0 (i:=2) nd rfl (Or.inr rfl)) (T0 (i:=3) nd rfl ab)))
  (D0 (P9 (i:=4) nd rfl ab rfl (N:=["hub","first","web"]) (src:=[none,some 2,some 0]) (by exact z3 rfl rfl rfl rfl rfl rfl) (S3 (Z0 oK (by rfl) T.aj hA (f0 (pv 3) i0))) (λ_ _ _ _=>(T0 (i:=0) (show List.Nodup (["hub","first","web"]:List Str) by decide +kernel) rfl ab (hf:=Or.inr rfl))) (λ_ _ _ _=>bA (R1 (BE m.units) (n3 (f0 (pv 1) (f0 (pv 0) i0))) (P0 (show IxR _ (A4 K) from Q0) (pv 2) t0 (λ_ _=>rfl)) rfl)) (λ_ _ _ _=>(n3 (f0 (pv 1) (f0 (pv 0) i0)))))
  (I0 (O0 (n3 (f0 (pv 4) (f0 (P0 Q0 (G0 (E7 T) m (f0 (G0 (qC T) m (f0 (pv 0) (f0 (pv 4) i0))) i0)) t0 (λ_ _=>rfl)) i0))))))),?_⟩
 refine T1 h λss Q' q B hK=>?_;refine exS3 ss q λn es k c=>?_;have C:=c.1;have M:=c.2.1;have l:=c.2.2.1;have F:=c.2.2.2.1;have u:=c.2.2.2.2.1;have J:=c.2.2.2.2.2.1;have k0:=c.2.2.2.2.2.2.1;have R:=c.2.2.2.2.2.2.2.1;have X:=c.2.2.2.2.2.2.2.2;clear c q;show EvS B _ _ [some (.st (webD n es)),some (.st (.int k)),none,none,none];obtain⟨hs,r,e2⟩:∃ hs r,hubN n.toNat (dsF es) k.toNat=(hs,r):=⟨_,_,rfl⟩
 have U:=HC (n:=n.toNat) (by lia) (MF es) (VH es) k.toNat e2;obtain⟨rest,rfl⟩:=U.hd;have Y:rest.length<=20:=by have:=U.len;simp at this;lia
 row_cond go;refine⟨n,es,k,rfl,C,M,l,by lia,J,k0,R,?_⟩;rw[WA e2];repeat (first|(refine EI ?_)|(refine U3 (kT ?_))|row_cond st)
 refine⟨rest,rfl,by lia,λo S hs=>p5 ?_⟩;have O:xA n es k ((o.filter λh=>!decide ((0,h)∈es)).map λh=>(0,h)):=⟨rest,o,by rw[e2],S,hs,rfl⟩
 obtain⟨d,I⟩:=sO C u O;row_cond go;refine mL (xs:=o) (f:=PyData.int) (λh=>prD (0,h)) (λh=>!decide ((0,h)∈es)) rfl (by rw[S.length_eq];lia) (λh hh B' hB=>?_) ?_
 ·row_cond go;refine EG (rP (_,_)) (EC es) (W1 (RB (_,_)) (by decide)) ?_;rw[q0 rfl,show PyData.tuple [PyData.int 0,PyData.int h]=prD (0,h) from rfl,lK];row_cond go;intro _;row_cond go;exact rfl
 ·rw[show(o.filter λh=>!decide ((0,h)∈es)).map (λh=>prD (0,h))=((o.filter λh=>!decide ((0,h)∈es)).map λh=>((0:Int),h)).map prD by rw[v2];rfl];generalize (o.filter λh=>!decide ((0,h)∈es)).map (λh=>((0:Int),h))=ts at O d I;refine n5 w4 ?_;row_cond go;refine⟨n,es,ts,rfl,by lia,by lia,d,λW m y=>?_⟩;row_cond go;refine⟨n,W,rfl,C,M,λp L=>?_,by rw[y.length_eq];simp;lia,UI J (by lia) y,λx a b Z=>?_⟩
  ·rcases Q1.mp (y.mem_iff.mp L) with z|z
   ·exact l p z
   ·have:=d.inn p z;exact⟨by lia,by lia,by lia,by lia⟩
  ·row_cond go;exact X ts W x a b O d m y Z
theorem BA(b:Joined n es)(a:0<=u)(c:u<n)(v0:0<=v)(f:v<n):0<=dsF es u v/\Gr.Dist (Tied es) u v (dsF es u v).toNat:=by
 obtain⟨d,e⟩:=lA b a c v0 f;simp only[dsF,e,Option.getD_some];exact⟨by lia,by rw[show((d:Nat):Int).toNat=d by lia];exact Gr.farO_some.mp e⟩
theorem XG(h:Gr.Dist (Tied es) u v d):dsF es u v=d:=by
 simp only[dsF,Gr.farO_some.mpr h,Option.getD_some]
theorem sI(g:∀ u v,T u v->a u v)(w:Gr.Walk T u k v):Gr.Walk a u k v:=w.rec .refl λ_ t b=>.step b (g _ _ t)
theorem bN(d:Joined n es)(b:InN n es)(c:0<=u)(f:u<n)(t:Tied es v w):dsF es u w<=dsF es u v+1:=by
 have a:=t.in b;have h:=BA d c f a.1.1 a.1.2;have g:=BA d c f a.2.1 a.2.2;have:=g.2.2 _ (.step h.2.1 t);lia
theorem HH(es:List (Int × Int))(u:Int):dsF es u u=0:=by rw[XG (Gr.Dist.self _ u)];rfl
theorem QC(es:List (Int × Int))(u v:Int):dsF es u v=dsF es v u:=by unfold dsF;rw[Gr.farO_comm λ_ _ t=>t.symm]
def l2(ps:List Int):Int:=match ps.getLast? with|some x=>x+1|none=>0
def okP(m:Int->Int->Int)(least:Int)(ps:List Int)(x:Int):Bool:=ps.all λo=>decide (m x o ≥ least)
def z7(n:Nat)(m:Int->Int->Int)(least:Int)(ps:List Int):List Int:=((List.range ((n:Int)-l2 ps).toNat).map λ(j:Nat)=>l2 ps+(j:Int)).filter (okP m least ps)
def C8(n:Nat)(m:Int->Int->Int)(least:Int)(ps:List Int):List (List Int):=(z7 n m least ps).map λp=>ps++[p]
def J4(n:Nat)(m:Int->Int->Int)(least:Int):Nat->List (List Int)
 |0=>[[]]
 |i+1=>(J4 n m least i).flatMap (C8 n m least)
@[reducible] def plD (ps:List Int):PyData:=.list (ps.map .int)
theorem MA(ps:List Int)(x:Int):l2 (ps++[x])=x+1:=by simp[l2]
theorem afterF_mem:x∈z7 n m least ps ↔ l2 ps<=x/\x<n/\okP m least ps x=true:=by
 unfold z7;rw[i6,X0];constructor
 ·rintro⟨⟨j,a,rfl⟩,h⟩;have:=U1.mp a;exact⟨by lia,by lia,h⟩
 ·rintro⟨d,c,b⟩;exact⟨⟨(x-l2 ps).toNat,U1.mpr (by lia),by lia⟩,b⟩
structure Apart(n:Nat)(m:Int->Int->Int)(least:Int)(ps:List Int):Prop where
 rise:ps.Pairwise (· < ·)
 inn:∀ x∈ps,0<=x/\x<n
 far:ps.Pairwise λa b=>m b a ≥ least
theorem BN(h:ps.Pairwise (· < ·))(c:∀ x∈ps,0<=x)(b:l2 ps<=y):0<=y/\∀ x∈ps,x<y:=by
 rcases List.eq_nil_or_concat ps with rfl|⟨d,z,rfl⟩
 ·exact⟨by simpa[l2] using b,λx a=>by simp at a⟩
 ·rw[List.concat_eq_append] at *;rw[MA] at b;have f:=c z (by simp);refine⟨by lia,λx a=>?_⟩;rcases Q1.mp a with a|a
  ·have:=(A3.mp h).2.2 x a z (by simp);lia
  ·have:x=z:=by simpa using a
   lia
theorem U8:∀(i:Nat)(ps:List Int),ps∈J4 n m least i ↔ Apart n m least ps/\ps.length=i
 | 0,ps=>by
  simp only[J4,O2];constructor
  ·rintro rfl;exact⟨⟨.nil,λx d=>by simp at d,.nil⟩,rfl⟩
  ·rintro⟨_,h⟩;exact List.length_eq_zero_iff.mp h
 | i+1,ps=>by
  simp only[J4,List.mem_flatMap,C8,X0];constructor
  ·rintro⟨j,p,x,d,rfl⟩;obtain⟨c,l⟩:=(U8 i j).mp p;obtain⟨s,o,q⟩:=afterF_mem.mp d;obtain⟨s0,s1⟩:=BN c.rise (λx d=>(c.inn x d).1) s;refine⟨⟨A3.mpr ⟨c.rise,by simp,λa ha b hb=>?_⟩,λy g=>?_,A3.mpr ⟨c.far,by simp,λa ha b hb=>?_⟩⟩,by simp[l]⟩
   ·rw[O2.mp hb];exact s1 a ha
   ·rcases Q1.mp g with g|g
    ·exact c.inn y g
    ·rw[O2.mp g];exact⟨s0,o⟩
   ·rw[O2.mp hb];have:=P2.mp q a ha;simpa using this
  ·rintro⟨c,l⟩;rcases List.eq_nil_or_concat ps with rfl|⟨j,x,rfl⟩
   ·simp at l
   ·rw[List.concat_eq_append] at *;have r:=A3.mp c.rise;have f:=A3.mp c.far;have d:=c.inn x (by simp);refine⟨j,(U8 i j).mpr ⟨⟨r.1,λy g=>c.inn y (by simp[g]),f.1⟩,by simpa using l⟩,x,afterF_mem.mpr ⟨?_,d.2,P2.mpr λa ha=>?_⟩,rfl⟩
    ·rcases List.eq_nil_or_concat j with rfl|⟨rs,z,rfl⟩
     ·simpa[l2] using d.1
     ·rw[List.concat_eq_append] at *;rw[MA];have:=r.2.2 z (by simp) x (by simp);lia
    ·have:=f.2.2 a ha x (by simp);simpa using this
theorem sG(c:Nat->Bool):∀ k:Nat,(((List.range k).filter c).map λj=>2 ^ (k-1-j)).sum+1<=2 ^ k
 |0=>by simp
 | k+1=>by
  have b:=sG (λj=>c (j+1)) k;rw[List.range_succ_eq_map,List.filter_cons];have e:(((List.range k).map (· + 1)).filter c).map (λj=>2 ^ (k+1-1-j))=((List.range k).filter λj=>c (j+1)).map λj=>2 ^ (k-1-j):=by
   rw[List.filter_map,v2];refine j7 λj a=>?_;show 2 ^ (k+1-1-(j+1))=2 ^ (k-1-j);congr 1;lia
  rw[show(List.range k).map Nat.succ=(List.range k).map (· + 1) from rfl];split
  ·rw[M2,e,List.sum_cons,Nat.pow_succ];simp only[Nat.add_sub_cancel,Nat.sub_zero];lia
  ·rw[e,Nat.pow_succ];lia
def wtF(n:Nat)(ps:List Int):Nat:=2 ^ ((n:Int)-l2 ps).toNat
theorem VN:((C8 n m least ps).map (wtF n)).sum<=wtF n ps:=by
 have h:=sG (λj=>okP m least ps (l2 ps+(j:Int))) ((n:Int)-l2 ps).toNat
 unfold C8 z7;rw[List.filter_map,v2,v2];have e:∀ j∈(List.range ((n:Int)-l2 ps).toNat).filter ((okP m least ps) ∘ λ(j:Nat)=>l2 ps+(j:Int)),((wtF n ∘ λp=>ps++[p]) ∘ λ(j:Nat)=>l2 ps+(j:Int)) j=2 ^ (((n:Int)-l2 ps).toNat-1-j):=λj a=>by
  have:=U1.mp (i6.mp a).1;show 2 ^ ((n:Int)-l2 (ps++[l2 ps+(j:Int)])).toNat=_;rw[MA];congr 1;lia
 rw[j7 e];unfold wtF;have h':(List.range ((n:Int)-l2 ps).toNat).filter ((okP m least ps) ∘ λ(j:Nat)=>l2 ps+(j:Int))=(List.range ((n:Int)-l2 ps).toNat).filter λ(j:Nat)=>okP m least ps (l2 ps+(j:Int)):=rfl;rw[h'];lia
theorem DQ(pss:List (List Int)):((pss.flatMap (C8 n m least)).map (wtF n)).sum<=(pss.map (wtF n)).sum:=by
 induction pss with
 |nil=>simp
 | cons ps pss ih =>
  rw[List.flatMap_cons,N4,List.sum_append,M2,List.sum_cons];have:=VN (n:=n) (m:=m) (least:=least) (ps:=ps);lia
theorem KN(pss:List (List Int)):pss.length<=(pss.map (wtF n)).sum:=by
 induction pss with
 |nil=>simp
 | cons ps pss ih =>
  rw[M2,List.sum_cons,L3];have:1<=wtF n ps:=Nat.one_le_two_pow;lia
theorem VG(hn:n<=12)(i:Nat):(J4 n m least i).length<=4096:=by
 have a:∀ i,((J4 n m least i).map (wtF n)).sum<=2 ^ n:=λi=>by
  induction i with
  |zero=>simp[J4,wtF,l2]
  |succ i ih=>exact W1 (DQ _) ih
 refine W1 (KN (n:=n) _) (W1 (a i) ?_);exact W1 (Nat.pow_le_pow_right (by decide) hn) (by decide)
def tP:VP:=λss Q=>∃ r:Int,ss=[.st (.int r)]/\-1000000<=r/\r<=1000000/\Q (.st (.int (2 * r+1)))
def ML:VP:=λss Q=>∃ r:Int,ss=[.st (.int r)]/\-1000000<=r/\r<=1000000/\Q (.st (.int (2 * r+2)))
def cT:VP:=λss Q=>∃(n:Nat)(m:Int->Int->Int)(least:Int)(ps:List Int),ss=[.st (.list (matD n m)),.st (.int least),.st (plD ps)]/\n<=1000/\ps.Pairwise (· < ·)/\(∀ x∈ps,0<=x/\x<n)/\Q (.own (OL ((z7 n m least ps).map .int)))
def kS:VP:=λss Q=>∃(n:Nat)(m:Int->Int->Int)(least many:Int),ss=[.st (.list (matD n m)),.st (.int least),.st (.int many)]/\n<=12/\0<=many/\many<=1000/\Q (.st (.list ((J4 n m least many.toNat).map plD)))
theorem iJ{n:Nat}{ps:List Int}(d:ps.Pairwise (· < ·))(c:∀ x∈ps,0<=x/\x<(n:Int)):ps.length<=n:=by
 have hn:ps.Nodup:=d.imp λ{a b} h e=>by lia
 have:=mF (bs:=(List.range n).map λ(i:Nat)=>(i:Int)) hn λa ha=>by
  have:=c a ha;exact X0.mpr ⟨a.toNat,U1.mpr (by lia),by lia⟩
 simpa using this
theorem sc_need_far:FnScope ["r"] ["r"] (S0 s_need_far):=by row_cond sc
theorem zF(T:Txt K mg):Can P w K mg base "need_far" 1 ["r"] (spP K (tP)):=by
 obtain⟨f,fd,D⟩:=T.dg;obtain⟨d,b⟩:=T.dX;have a:=b.mgx;have g:=T.dY _ a;refine D.can (D.fn.ok sc_need_far (λvs H Q E h=>lenP h λss Q' q=>by obtain⟨r,rfl,j,i,k⟩:=q;rfl) (λcdv A outer s H vs Q E m h=>?_));have nd:=sc_need_far.nd;refine⟨_,(I0 (O0 (K0 R3 (K0 Q5 t0 (pv 0)) t0))),?_⟩;refine T1 h λss Q' q B l=>?_;refine exS1 ss q λr c=>?_;have j:=c.1;have i:=c.2.1;have k:=c.2.2;clear c q;show EvS B _ _ [some (.st (.int r))];row_cond go;exact k
theorem sc_need_places:FnScope ["k"] ["k"] (S0 s_need_places):=by row_cond sc
theorem BG(T:Txt K mg):Can P w K mg base "need_places" 1 ["k"] (spP K (ML)):=by
 obtain⟨f,fd,D⟩:=T.df;obtain⟨d,b⟩:=T.dX;have a:=b.mgx;have g:=T.dY _ a;refine D.can (D.fn.ok sc_need_places (λvs H Q E h=>lenP h λss Q' q=>by obtain⟨r,rfl,j,i,k⟩:=q;rfl) (λcdv A outer s H vs Q E m h=>?_));have nd:=sc_need_places.nd;refine⟨_,(I0 (O0 (K0 R3 (K0 Q5 t0 (pv 0)) t0))),?_⟩;refine T1 h λss Q' q B l=>?_;refine exS1 ss q λr c=>?_;have j:=c.1;have i:=c.2.1;have k:=c.2.2;clear c q;show EvS B _ _ [some (.st (.int r))];row_cond go;exact k
theorem sc_places_after:FnScope ["rows","least","places","start"] ["rows","least","places"] (S0 s_places_after):=by row_cond sc
theorem AK(T:Txt K mg):Can P w K mg base "places_after" 1 ["rows","least","places"] (spP K (cT)):=by
 obtain⟨f,fd,D⟩:=T.dl;obtain⟨p,g⟩:=T.dX;have c:=g.mgx;have u:=T.dY _ c;refine D.can (D.fn.ok sc_places_after (λvs H Q E h=>lenP h λss Q' q=>by obtain⟨n,m,least,ps,rfl,hn,F,b,k⟩:=q;rfl) (λcdv A outer s H vs Q E F h=>?_));have nd:=sc_places_after.nd
 refine⟨_,(D0 (U0 (i:=3) nd rfl ab (cJ (YB (pv 2)) (K0 R3 (P0 Q0 (pv 2) (AR pL t0) (λ_ _=>rfl)) t0) t0))
  (I0 (O0 (KL rfl (x0:="place") (N:=["place","least","places","rows"]) (src:=[none,some 1,some 2,some 0]) (by exact dQ rfl (λ_ _=>rfl) (λ_=>rfl) rfl rfl rfl rfl rfl rfl) (xD rfl T.aq (f0 (pv 3) (f0 (Z0 E4 (by rfl) T.aV p4 (f0 (pv 0) i0)) i0))) (λ_ _ _ _=>(T0 (i:=0) (show List.Nodup (["place","least","places","rows"]:List Str) by decide +kernel) rfl (Or.inr rfl) (hf:=Or.inl rfl))) (λ_ _ _ _=>bA (n4 (Z0 (show C2 _ (.builtin "all") (rAll K) from(W6 rfl)) (by rfl) T.af Y6 (f0 (Q4 rfl (N:=["other","least","rows","place"]) (src:=[none,some 1,some 3,some 0]) (by exact z3 rfl rfl rfl rfl rfl rfl) (show PI _ _ _ (w9 K _) from S3 (pv 2)) (λ_ _ _ _=>(T0 (i:=0) (show List.Nodup (["other","least","rows","place"]:List Str) by decide +kernel) rfl ab (hf:=Or.inr rfl))) (λ_ _ _ _=>v3) (λ_ _ _ _=>(S4 oE (P0 (show IxR _ (A4 K) from Q0) (P0 (show IxR _ (A4 K) from Q0) (pv 2) (pv 3) (λ_ _=>rfl)) (pv 0) (λ_ _=>rfl)) (pv 1) (C1 _)))) i0)))) (λ_ _ _ _=>(pv 0)))))),?_⟩
 refine T1 h λss Q' q B Y=>?_;refine exS4 ss q λn m least ps a=>?_;have hn:=a.1;have F:=a.2.1;have b:=a.2.2.1;have k:=a.2.2.2;clear a q;show EvS B _ _ [some (.st (.list (matD n m))),some (.st (.int least)),some (.st (plD ps)),none];row_cond go;refine' cutR (R:=EvS B _ _ [some (.st (.list (matD n m))),some (.st (.int least)),some (.st (plD ps)),some (.st (.int (l2 ps)))]) (λR=>?K1) ?K2
 case K1 =>
  rcases List.eq_nil_or_concat ps with e|⟨l,z,e⟩
  ·have y:(ps.map PyData.int).isEmpty=true:=by rw[e];rfl
   have hs:l2 ps=0:=by rw[e];rfl
   rw[hs] at R;rw[y,o0 (by decide)];repeat (first|exact R|row_cond st)
  ·rw[List.concat_eq_append] at e;have X:M1 (ps.map PyData.int) (-1)=some (.int z):=by
    rw[e];unfold M1 ixN;have W:(1:Int)<=(l.length:Int)+1:=by lia
    have M:(-1+((l.length:Int)+1)).toNat=(l.map PyData.int).length:=by rw[R0];lia
    simp only[N4,f3,R0,M2,List.map_nil,List.length_singleton]
    push_cast
    simp[W,M]
   have G:=b z (by rw[e];simp);have hs:l2 ps=z+1:=by rw[e,MA]
   rw[hs] at R;have y:(ps.map PyData.int).isEmpty=false:=by rw[e];cases l <;> rfl
   rw[y,q0 (by decide)];repeat (first|exact R|row_cond st)
 case K2 =>
  have U:0<=l2 ps/\l2 ps<=n:=by
   rcases List.eq_nil_or_concat ps with e|⟨l,z,e⟩
   ·have hs:l2 ps=0:=by rw[e];rfl
    lia
   ·rw[List.concat_eq_append] at e;have hs:l2 ps=z+1:=by rw[e,MA]
    have G:=b z (by rw[e];simp);lia
  have C:(matD n m).length=n:=yB;row_cond go;rw[C];row_cond go;refine nJ (λd=>d) (λd=>match d with | .int x=>okP m least ps x|_=>false) rfl (by rw[M7];lia) (λd hd B' O=>?_) ?_
  ·obtain⟨i,hi⟩:=List.mem_iff_getElem?.mp hd;obtain⟨hi,rfl⟩:=C9 hi;have v:l2 ps+(i:Int)<n:=by lia
   have J:=m7 (n:=n) (m:=m) (x:=l2 ps+(i:Int)) (by lia) v;row_cond go;refine A6 (λo:Int=>.bool (decide (m (l2 ps+(i:Int)) o ≥ least))) rfl (by have:=iJ F b;lia) (λo S Z L=>?_) ?_
   ·have j:=b o S;have I:=k9 (n:=n) (r:=m (l2 ps+(i:Int))) (x:=o) j.1 j.2;row_cond go;exact rfl
   ·row_cond go;rw[show(ps.map λo=>PyData.bool (decide (m (l2 ps+(i:Int)) o ≥ least)))=(ps.map λo=>decide (m (l2 ps+(i:Int)) o ≥ least)).map .bool by rw[v2];rfl];refine X6 ?_;row_cond go;refine⟨?_,rfl,λ_=>?_⟩
    ·simp only[okP,List.all_map];rfl
    ·row_cond go;exact rfl
  ·have e:((rngD (l2 ps) ((n:Int)-l2 ps).toNat).filter (λd=>match d with | .int x=>okP m least ps x|_=>false)).map (λd=>d)=(z7 n m least ps).map .int:=by
    unfold rngD z7;rw[List.map_id',List.filter_map,List.filter_map,v2];rfl
   rw[e];exact k
theorem sc_apart_lists:FnScope ["rows","least","many","lists","again"] ["rows","least","many"] (S0 s_apart_lists):=by row_cond sc
theorem JS(T:Txt K mg):Can P w K mg base "apart_lists" 2 ["rows","least","many"] (spP K (kS)):=by
 obtain⟨f,fd,D⟩:=T.dj;obtain⟨r,c⟩:=T.dX;have b:=c.mgx;have u:=T.dY _ b;refine D.can (D.fn.ok sc_apart_lists (λvs H Q E h=>lenP h λss Q' q=>by obtain⟨n,m,least,many,rfl,hn,G,I,k⟩:=q;rfl) (λcdv A outer s H vs Q E F h=>?_));have nd:=sc_apart_lists.nd
 refine⟨_,(D0 (U0 (i:=3) nd rfl ab (T3 (f0 (T3 i0) i0)))
  (D0 (J6 t5 rfl (R5 rfl T.aq (f0 (pv 2) i0)) (T0 (i:=4) nd rfl ab)
   (I0 (QL (i:=3) nd rfl ab rfl (N:=["places","place","rows","least"]) (src:=[none,none,some 0,some 1]) (by exact z3 rfl rfl rfl rfl rfl rfl) (S3 (pv 3)) (λ_ _ _ _=>(T0 (i:=0) (show List.Nodup (["places","place","rows","least"]:List Str) by decide +kernel) rfl ab (hf:=Or.inr rfl))) (λ_ _ _ _=>v3) (λ_ _ _ _=>(show PI _ _ _ (w9 K _) from S3 (G0 (AK T) F (f0 (pv 2) (f0 (pv 3) (f0 (pv 0) i0)))))) (λ_ _ _ _=>(T0 (i:=1) (show List.Nodup (["places","place","rows","least"]:List Str) by decide +kernel) rfl ab (hf:=Or.inr rfl))) (λ_ _ _ _=>v3) (λ_ _ _ _=>(K0 CA (pv 0) (T3 (f0 (pv 1) i0)))))))
  (I0 (O0 (pv 3))))),?_⟩
 refine T1 h λss Q' q B M=>?_;refine exS4 ss q λn m least many a=>?_;have hn:=a.1;have G:=a.2.1;have I:=a.2.2.1;have k:=a.2.2.2;clear a q;show EvS B _ _ [some (.st (.list (matD n m))),some (.st (.int least)),some (.st (.int many)),none,none];row_cond go;refine Z8 (λi e=>∃ y j,e=[some (.st (.list (matD n m))),some (.st (.int least)),some (.st (.int many)),some j,y]/\(j=.own (OL ((J4 n m least i).map plD))\/j=.st (.list ((J4 n m least i).map plD)))) ⟨_,_,rfl,.inl rfl⟩ ?_ ?_
 ·rintro i e hi d;refine exS2 e d λy j a=>?_;have v:=a;clear a d;refine P3 ?_;row_cond qc;refine pI 3 v rfl w4 ?_;row_cond qc;have C:=VG (m:=m) (least:=least) hn i;have x:=VG (m:=m) (least:=least) hn (i+1);row_cond go;have z:((J4 n m least i).flatMap λps=>((z7 n m least ps).filter λ_=>true).map λp=>PyData.list (ps.map .int++[.int p]))=(J4 n m least (i+1)).map plD:=by
   show _=((J4 n m least i).flatMap (C8 n m least)).map plD;rw[List.map_flatMap];congr 1
   funext ps
   unfold C8;rw[RC,v2];refine j7 λp _=>?_;simp[plD]
  refine NB (xs:=J4 n m least i) (z7 n m least) .int (λps p=>.list (ps.map .int++[.int p])) (λ_ _=>true) ?_ ?_ ?_ ?_ ?_
  ·exact pC rfl
  ·rw[z,R0];lia
  ·intro ps g L J o;have l:=((U8 i ps).mp g).1;row_cond go;refine⟨n,m,least,ps,rfl,by lia,l.rise,l.inn,p5 ?_⟩;row_cond go;exact rfl
  ·intro ps g p O L J;have l:=((U8 i ps).mp g).1;have R:=iJ l.rise l.inn;refine B8 ⟨rfl,rfl,λ_=>?_⟩;row_cond go;exact rfl
  ·rw[z];row_cond go;exact⟨_,_,rfl,.inl rfl⟩
 ·rintro e d;refine exS2 e d λy j a=>?_;have v:=a;clear a d;refine pI 3 v rfl w4 ?_;row_cond qc;row_cond go;exact k
theorem DT(f:Y7 n m x)(h:x<least):∀ j:Nat,2<=j->J4 n m least j=[]:=λj i=>by
 cases e:J4 n m least j with
 |nil=>rfl
 | cons ps t =>
  exfalso;obtain⟨c,d⟩:=(U8 j ps).mp (by rw[e];simp)
  match ps,d with
  | a::b::r,_ =>
   have hf:=c.far;rw[S9] at hf;have g:=hf.1 b (by simp);have ha:=c.inn a (by simp);have hb:=c.inn b (by simp);have:=f.2 b a hb.1 hb.2 ha.1 ha.2;lia
  |[],h=>simp at h;lia
  |[_],h=>simp at h;lia
def oSD:Option (Int × List Int)->PyData
 |none=>.none
 |some p=>.tuple [.int p.1,plD p.2]
def Q8(n:Int)(es:List (Int × Int))(k r:Int):List (List Int):=J4 n.toNat (dsF es) (2 * r+1) (2 * k+2).toNat
def StayOk(n:Int)(es:List (Int × Int))(k:Int):Option (Int × List Int)->Prop
 |none=>∀ r,0<=r->Q8 n es k r=[]
 |some p=>0<=p.1/\(Q8 n es k p.1).head?=some p.2/\∀ r,p.1<r->Q8 n es k r=[]
theorem StayOk.uniq(h:StayOk n es k o)(g:StayOk n es k q):o=q:=by
 cases o with
 | none =>
  cases q with
  |none=>rfl
  | some p =>
   obtain⟨r,ps⟩:=p;have:=h r g.1;have b:=g.2.1;rw[this] at b;simp at b
 | some p =>
  obtain⟨r,ps⟩:=p;cases q with
  | none =>
   have:=g r h.1;have c:=h.2.1;rw[this] at c;simp at c
  | some p' =>
   obtain⟨d,f⟩:=p';have c:=h.2.1;have b:=g.2.1;have:r=d:=by
    rcases Int.lt_trichotomy r d with a|i|a
    ·have:=h.2.2 d a;rw[this] at b;simp at b
    ·exact i
    ·have:=g.2.2 r a;rw[this] at c;simp at c
   subst this;rw[c] at b;cases b;rfl
def DS:VP:=λss Q=>∃(n:Int)(es:List (Int × Int))(k:Int),ss=[.st (webD n es),.st (.int k)]/\1<=n/\n<=12/\InN n es/\es.length<=10000/\Joined n es/\0<=k/\k<=5/\∀ o,StayOk n es k o->Q (.st (oSD o))
theorem UN(es:List (Int × Int))(u:Int):dsF es u u=0:=by
 unfold dsF;rw[Gr.farO_self];rfl
theorem JG(g:Joined n es)(c:InN n es)(f:0<=u)(h:u<n)(v0:0<=v)(i:v<n):dsF es u v<n:=by
 obtain⟨d,e⟩:=lA g f h v0 i;have:=Gr.Dist.lt (n:=n.toNat) (λa b t=>by have:=(t.in c).2;lia) (by lia) (Gr.farO_some.mp e);simp only[dsF,e,Option.getD_some];lia
theorem sc_best_stay:FnScope ["web","k","rows","r","lists"] ["web","k"] (S0 s_best_stay):=by row_cond sc
theorem UG(T:Txt K mg):Can P w K mg base "best_stay" 9 ["web","k"] (spP K (DS)):=by
 obtain⟨f,fd,D⟩:=T.di;obtain⟨g,c⟩:=T.bj;obtain⟨d,a⟩:=T.bn;obtain⟨C,m⟩:=T.dX;have l:=m.mgx;have F:=T.dY _ l;refine D.can (D.fn.ok sc_best_stay (λvs H Q E h=>lenP h λss Q' q=>by obtain⟨n,es,k,rfl,L,S,y,z,N,k0,R,O⟩:=q;rfl) (λcdv A outer s H vs Q E j h=>?_));have nd:=sc_best_stay.nd
 refine⟨_,(D0 (U0 (i:=2) nd rfl ab (G0 (D9 T) j (f0 (pv 0) i0)))
  (D0 (Z3 (G0 (zB T) j (f0 t0 (f0 (f9 (v:=.int 5) rfl c ⟨_,rfl⟩) (f0 (pv 1) i0)))))
  (D0 (Z3 (G0 (zB T) j (f0 t0 (f0 (f9 (v:=.int 12) rfl a ⟨_,rfl⟩) (f0 (P0 Q0 (pv 0) t0 (λ_ _=>rfl)) i0)))))
  (D0 (J6 t5 rfl (FJ rfl T.ao rfl T.aq (f0 (K0 R7 (K0 R3 (G0 (BF T) j (f0 (pv 2) i0)) t0) t0) i0)) (T0 (i:=3) nd rfl ab)
   (D0 (U0 (i:=4) nd rfl ab (G0 (JS T) j (f0 (pv 2) (f0 (G0 (zF T) j (f0 (pv 3) i0)) (f0 (G0 (BG T) j (f0 (pv 1) i0)) i0)))))
    (I0 (Z1 (YB (pv 4))
     (I0 (O0 (n3 (f0 (pv 3) (f0 (P0 Q0 (pv 4) t0 (λ_ _=>rfl)) i0)))))
     A2))))
  (I0 (O0 Z6)))))),?_⟩
 refine T1 h λss Q' q B hK=>?_;refine exS3 ss q λn es k b=>?_;have L:=b.1;have S:=b.2.1;have y:=b.2.2.1;have z:=b.2.2.2.1;have N:=b.2.2.2.2.1;have k0:=b.2.2.2.2.2.1;have R:=b.2.2.2.2.2.2.1;have O:=b.2.2.2.2.2.2.2;clear b q;show EvS B _ _ [some (.st (webD n es)),some (.st (.int k)),none,none,none];have hn:1<=n.toNat:=by lia
 row_cond go;refine⟨n,es,rfl,L,by lia,y,z,N,n5 w4 ?_⟩;row_cond go;refine⟨0,5,k,rfl,k0,R,?_⟩;row_cond go;refine⟨1,12,n,rfl,L,S,?_⟩;row_cond go;refine⟨n.toNat,dsF es,rfl,hn,by lia,λx J=>?_⟩;have Y:0<=x:=by
  have:=J.2 0 0 (by lia) (by lia) (by lia) (by lia);rw[UN] at this;exact this
 have X:x<n:=by
  obtain⟨u,v,W,u1,v0,v1,e⟩:=J.1;rw[← e];exact JG N y W (by lia) v0 (by lia)
 row_cond go;refine⟨(x+1) / 2,rfl,by lia,by lia,?_⟩;have U:∀ r:Int,(((x+1) / 2).toNat:Int)<=r->Q8 n es k r=[]:=λr j=>DT J (by lia) _ (by lia);refine LJ (λi e=>∃ G M,e=[some (.st (webD n es)),some (.st (.int k)),some (.st (.list (matD n.toNat (dsF es)))),G,M]/\∀ r,(((x+1) / 2).toNat:Int)-(i:Int)<=r->Q8 n es k r=[]) ⟨_,_,rfl,λr j=>U r (by lia)⟩ ?_ ?_
 ·rintro i e hi o;refine exS2 e o λG M b=>?_;have p:=b;clear b o;row_cond go;refine⟨_,rfl,by lia,by lia,?_⟩;row_cond go;refine⟨k,rfl,by lia,by lia,?_⟩;row_cond go;refine⟨n.toNat,dsF es,_,2 * k+2,rfl,by lia,by lia,by lia,?_⟩;row_cond go;have I:J4 n.toNat (dsF es) (2 * ((((x+1) / 2).toNat:Int)-1-(i:Int))+1) (2 * k+2).toNat=Q8 n es k ((((x+1) / 2).toNat:Int)-1-(i:Int)):=rfl;rw[I];cases hL:Q8 n es k ((((x+1) / 2).toNat:Int)-1-(i:Int)) with
  | nil =>
   rw[o0 (show ¬ ((!(List.map plD []).isEmpty)=true) from λh=>Bool.noConfusion h)];refine O9 ?_;refine⟨_,_,rfl,λr j=>?_⟩;by_cases hrr:r=(((x+1) / 2).toNat:Int)-1-(i:Int)
   ·rw[hrr];exact hL
   ·exact p r (by push_cast at j;lia)
  | cons ps t =>
   rw[q0 (show(!(List.map plD (ps::t)).isEmpty)=true from rfl)];rw[M2];have Z:M1 (plD ps::List.map plD t) 0=some (plD ps):=t6 (by lia) rfl;row_cond go;refine O (some ((((x+1) / 2).toNat:Int)-1-(i:Int),ps)) ⟨by simp only;lia,by simp only;rw[hL];rfl,λr j=>p r (by simp only at j;lia)⟩
 ·rintro e o;refine exS2 e o λG M b=>?_;have p:=b;clear b o;row_cond go;exact O none λr j=>p r (by lia)
def gQ:VP:=λss Q=>∃(r:Int)(ps:List Int),ss=[.st (.tuple [.int r,plD ps])]/\Q (.st (.bool true))
def aN:VP:=λss Q=>∃(ps:List Int),ss=[.st (plD ps)]/\ps.length<=100000/\∀ b:Bool,(b=true ↔ ps.Pairwise (· < ·))->Q (.st (.bool b))
def qS:VP:=λss Q=>∃(n:Nat)(m:Int->Int->Int)(least:Int)(ps:List Int),ss=[.st (.list (matD n m)),.st (.int least),.st (plD ps)]/\n<=1000/\ps.length<=900/\(∀ x∈ps,0<=x/\x<n)/\∀ b:Bool,(b=true ↔ ∀ a∈ps,∀ c∈ps,a<c->m a c ≥ least)->Q (.st (.bool b))
structure ShowOk(n:Int)(es:List (Int × Int))(k r:Int)(ps:List Int):Prop where
 k0:0<=k
 r0:0<=r
 len:2 * k+2<=ps.length
 inn:∀ x∈ps,0<=x/\x<n
 rise:ps.Pairwise (· < ·)
 far:∀ a∈ps,∀ c∈ps,a<c->dsF es a c ≥ 2 * r+1
def YK:VP:=λss Q=>∃(n:Int)(es:List (Int × Int))(k r:Int)(ps:List Int),ss=[.st (webD n es),.st (.int k),.st (.tuple [.int r,plD ps])]/\1<=n/\n<=100/\InN n es/\es.length<=10000/\Joined n es/\-1000000<=k/\k<=1000000/\-1000000<=r/\r<=1000000/\ps.length<=900/\∀ b:Bool,(b=true ↔ ShowOk n es k r ps)->Q (.st (.bool b))
theorem GQ{α β:Type}(xs:List α)(ys:List β)(q : α->β->Bool)(f : α->β->PyData):(xs.flatMap λx=>(ys.filter (q x)).map (f x)).length<=xs.length * ys.length:=by
 induction xs with
 |nil=>simp
 | cons x xs ih =>
  rw[List.flatMap_cons,f3,R0,L3,Nat.succ_mul];have:=X7 (q x) ys;lia
theorem sc_is_pair:FnScope ["thing"] ["thing"] (S0 s_is_pair):=by row_cond sc
theorem zQ(T:Txt K mg):Can P w K mg base "is_pair" 2 ["thing"] (spP K (gQ)):=by
 obtain⟨f,fd,D⟩:=T.dd;obtain⟨d,b⟩:=T.dX;have a:=b.mgx;have g:=T.dY _ a;refine D.can (D.fn.ok sc_is_pair (λvs H Q E h=>lenP h λss Q' q=>by obtain⟨r,ps,rfl,k⟩:=q;rfl) (λcdv A outer s H vs Q E i h=>?_));have nd:=sc_is_pair.nd
 refine⟨_,(D0 (Z1 (PW.pt (T4 (B4 (n4 (Z0 n7 (by rfl) T.az q7 (f0 (pv 0) (f0 (u7 (v:=.ty "tuple") rfl T.am bB rfl) i0))))) (J5 (R1 zA (Z0 E4 (by rfl) T.aV p4 (f0 (pv 0) i0)) t0 (C1 _)))))
   (I0 (O0 t3))
   A2)
  (I0 (O0 (U5 (G0 (qD T) i (f0 (P0 Q0 (pv 0) t0 (λ_ _=>rfl)) i0)) (C6 (Z0 n7 (by rfl) T.az q7 (f0 (P0 Q0 (pv 0) t0 (λ_ _=>rfl)) (f0 (u7 (v:=.ty "list") rfl T.av k8 rfl) i0)))))))),?_⟩
 refine T1 h λss Q' q B j=>?_;refine exS2 ss q λr ps c=>?_;have k:=c;clear c q;show EvS B _ _ [some (.st (.tuple [.int r,plD ps]))];row_cond go;refine BC ?_;row_cond go;refine O9 ?_;row_cond go;refine⟨_,rfl,?_⟩;row_cond go;rw[q0 (show isInt (PyData.int r)=true from rfl)];row_cond go;exact k
theorem gL(T:Txt K mg):Can P w K mg base "is_rising" 1 ["things"] (spP K (aN)):=by
 obtain⟨f,fd,D⟩:=T.bx;obtain⟨o,l⟩:=T.dX;have j:=l.mgx;have r:=T.dY _ j;refine D.can (D.fn.ok sc_is_rising (λvs H Q E h=>lenP h λss Q' q=>by obtain⟨ps,rfl,x,k⟩:=q;rfl) (λcdv A outer s H vs Q E y h=>?_));have nd:=sc_is_rising.nd;refine⟨_,(I0 (O0 (Z0 (W6 rfl) (by rfl) T.af Y6 (f0 (Q4 rfl (N:=["at","things"]) (src:=[none,some 0]) (by exact z3 rfl rfl rfl rfl rfl rfl) (R5 rfl T.aq (f0 (K0 k6 (Z0 E4 (by rfl) T.aV p4 (f0 (pv 0) i0)) t0) i0)) (λ_ _ _ _=>(T0 (i:=0) (show List.Nodup (["at","things"]:List Str) by decide +kernel) rfl ab (hf:=Or.inr rfl))) (λ_ _ _ _=>v3) (λ_ _ _ _=>(S4 Y5 (P0 (show IxR _ (A4 K) from Q0) (pv 1) (pv 0) (λ_ _=>rfl)) (P0 (show IxR _ (A4 K) from Q0) (pv 1) (K0 R3 (pv 0) t0) (λ_ _=>rfl)) (C1 _)))) i0)))),?_⟩;refine T1 h λss Q' q B C=>?_;refine exS1 ss q λps m=>?_;have x:=m.1;have k:=m.2;clear m q;show EvS B _ _ [some (.st (plD ps))];row_cond go;rw[R0];row_cond go;refine BB (λd=>match d with | .int i=>.bool (match ps[i.toNat]?,ps[i.toNat+1]? with|some p,some q=>decide (p<q)|_,_=>false)|_=>.none) rfl (by rw[M7];lia) (λd hd G F=>?_) ?_
 ·obtain⟨i,hi⟩:=List.mem_iff_getElem?.mp hd;obtain⟨hi,rfl⟩:=C9 hi;have v:i<ps.length:=by lia
  have u:i+1<ps.length:=by lia
  have a1:M1 (ps.map PyData.int) (0+(i:Int))=some (.int ps[i]):=K8 (f:=PyData.int) (t6 (by lia) (by rw[show(0+(i:Int)).toNat=i by lia];exact Y0 v));have z:M1 (ps.map PyData.int) (0+(i:Int)+1)=some (.int ps[i+1]):=K8 (f:=PyData.int) (t6 (by lia) (by rw[show(0+(i:Int)+1).toNat=i+1 by lia];exact Y0 u));row_cond go;refine⟨?_,rfl⟩;simp[v,u]
 ·row_cond go;have e:(rngD 0 ((ps.length:Int)-1).toNat).map (λd=>match d with | .int i=>PyData.bool (match ps[i.toNat]?,ps[i.toNat+1]? with|some p,some q=>decide (p<q)|_,_=>false)|_=>.none)=((List.range (ps.length-1)).map λi=>match ps[i]?,ps[i+1]? with|some p,some q=>decide (p<q)|_,_=>false).map .bool:=by
   unfold rngD;rw[v2,v2,show((ps.length:Int)-1).toNat=ps.length-1 by lia];apply j7;intro i _;simp
  rw[e];refine X6 ?_;row_cond go;refine k _ ?_;rw[List.all_map,P2];rw[JF (· < ·) (λ{a b c} h g=>Int.lt_trans h g)];constructor
  ·intro h i hi;have:=h i (U1.mpr (by lia));simp[show i<ps.length by lia,hi] at this;exact this
  ·intro h i hi;have n:i+1<ps.length:=by have:=U1.mp hi;lia
   have:=h i n;simp[show i<ps.length by lia,n,this]
theorem sc_are_apart:FnScope ["rows","least","places"] ["rows","least","places"] (S0 s_are_apart):=by row_cond sc
theorem fT(T:Txt K mg):Can P w K mg base "are_apart" 1 ["rows","least","places"] (spP K (qS)):=by
 obtain⟨f,fd,D⟩:=T.dh;obtain⟨u,l⟩:=T.dX;have j:=l.mgx;have v:=T.dY _ j;refine D.can (D.fn.ok sc_are_apart (λvs H Q E h=>lenP h λss Q' q=>by obtain⟨n,m,least,ps,rfl,hn,F,g,k⟩:=q;rfl) (λcdv A outer s H vs Q E M h=>?_));have nd:=sc_are_apart.nd;refine⟨_,(I0 (O0 (Z0 (W6 rfl) (by rfl) T.af Y6 (f0 (pE rfl (N:=["a","b","least","rows","places"]) (src:=[none,none,some 1,some 0,some 2]) (by exact z3 rfl rfl rfl rfl rfl rfl) (S3 (pv 2)) (λ_ _ _ _=>(T0 (i:=0) (show List.Nodup (["a","b","least","rows","places"]:List Str) by decide +kernel) rfl ab (hf:=Or.inr rfl))) (λ_ _ _ _=>v3) (λ_ _ _ _=>(show PI _ _ _ (w9 K _) from S3 (pv 4))) (λ_ _ _ _=>(T0 (i:=1) (show List.Nodup (["a","b","least","rows","places"]:List Str) by decide +kernel) rfl ab (hf:=Or.inr rfl))) (λ_ _ _ _=>bA (R1 Y5 (pv 0) (pv 1) (C1 _))) (λ_ _ _ _=>(S4 oE (P0 (show IxR _ (A4 K) from Q0) (P0 (show IxR _ (A4 K) from Q0) (pv 3) (pv 0) (λ_ _=>rfl)) (pv 1) (λ_ _=>rfl)) (pv 2) (C1 _)))) i0)))),?_⟩;refine T1 h λss Q' q B L=>?_;refine exS4 ss q λn m least ps d=>?_;have hn:=d.1;have F:=d.2.1;have g:=d.2.2.1;have k:=d.2.2.2;clear d q;show EvS B _ _ [some (.st (.list (matD n m))),some (.st (.int least)),some (.st (plD ps))];row_cond go;refine NB (xs:=ps) (λ_=>ps) .int (λa c=>.bool (decide (m a c ≥ least))) (λa c=>decide (a<c)) ?_ ?_ ?_ ?_ ?_
 ·exact pC rfl
 ·refine W1 (GQ ps ps _ _) (W1 (Nat.mul_le_mul F F) (by decide))
 ·intro a ha I G o;row_cond go;exact rfl
 ·intro a ha c p I G;have O:=m7 (n:=n) (m:=m) (x:=a) (g a ha).1 (g a ha).2;have J:=k9 (n:=n) (r:=m a) (x:=c) (g c p).1 (g c p).2;row_cond go;intro _;row_cond go;exact rfl
 ·row_cond go;rw[show(ps.flatMap λx=>(ps.filter λc=>decide (x<c)).map λc=>PyData.bool (decide (m x c ≥ least)))=(ps.flatMap λx=>(ps.filter λc=>decide (x<c)).map λc=>decide (m x c ≥ least)).map .bool by rw[List.map_flatMap];congr 1;funext x;rw[v2];rfl];refine X6 ?_;row_cond go;refine k _ ?_;rw[P2];constructor
  ·intro h a ha c p C;have:=h (decide (m a c ≥ least)) (List.mem_flatMap.mpr ⟨a,ha,X0.mpr ⟨c,i6.mpr ⟨p,by simpa using C⟩,rfl⟩⟩);simpa using this
  ·intro h b hb;obtain⟨a,ha,hb⟩:=List.mem_flatMap.mp hb;obtain⟨c,p,rfl⟩:=X0.mp hb;obtain⟨y,z⟩:=i6.mp p;simpa using h a ha c y (by simpa using z)
theorem sc_stay_shows:FnScope ["web","k","paper","rows","r","places"] ["web","k","paper"] (S0 s_stay_shows):=by row_cond sc
theorem kP(T:Txt K mg):Can P w K mg base "stay_shows" 9 ["web","k","paper"] (spP K (YK)):=by
 obtain⟨f,fd,D⟩:=T.db;obtain⟨z,d⟩:=T.dX;have c:=d.mgx;have C:=T.dY _ c;refine D.can (D.fn.ok sc_stay_shows (λvs H Q E h=>lenP h λss Q' q=>by obtain⟨n,es,k,r,ps,rfl,I,L,v,p,J,W,S,U,rb,G,F⟩:=q;rfl) (λcdv A outer s H vs Q E m h=>?_));have nd:=sc_stay_shows.nd
 refine⟨_,(D0 (U0 (i:=3) nd rfl (Or.inr rfl) (G0 (D9 T) m (f0 (pv 0) i0)))
  (D0 (Z1 (PW.pt (T4 (R1 Y5 (pv 1) t0 (C1 _)) (J5 (B4 (n4 (G0 (zQ T) m (f0 (pv 2) i0)))))))
   (I0 (O0 t3))
   A2)
  (D0 (U4 (pv 2) (j5 rfl (X2 (T0 (i:=4) nd rfl ab) (X2 (T0 (i:=5) nd rfl ab) o5))))
  (D0 (Z1 (PW.pt (T4 (R1 Y5 (pv 4) t0 (C1 _)) (J5 (R1 Y5 (Z0 E4 (by rfl) T.aV p4 (f0 (pv 5) i0)) (G0 (BG T) m (f0 (pv 1) i0)) (C1 _)))))
   (I0 (O0 t3))
   A2)
  (D0 (Z1 (B4 (n4 (Z0 (W6 rfl) (by rfl) T.af Y6 (f0 (Q4 rfl (N:=["place","rows"]) (src:=[none,some 3]) (by exact z3 rfl rfl rfl rfl rfl rfl) (S3 (pv 5)) (λ_ _ _ _=>(T0 (i:=0) (show List.Nodup (["place","rows"]:List Str) by decide +kernel) rfl ab (hf:=Or.inr rfl))) (λ_ _ _ _=>v3) (λ_ _ _ _=>(G0 (kB T) m (f0 (Z0 (show C2 _ (.builtin "len") (rLen K) from E4) (by rfl) T.aV p4 (f0 (pv 1) i0)) (f0 (pv 0) i0))))) i0))))
   (I0 (O0 t3))
   A2)
  (I0 (O0 (U5 (G0 (gL T) m (f0 (pv 5) i0)) (C6 (G0 (fT T) m (f0 (pv 3) (f0 (G0 (zF T) m (f0 (pv 4) i0)) (f0 (pv 5) i0))))))))))))),?_⟩
 refine T1 h λss Q' q B Z=>?_;refine exS5 ss q λn es k r ps a=>?_;have I:=a.1;have L:=a.2.1;have v:=a.2.2.1;have p:=a.2.2.2.1;have J:=a.2.2.2.2.1;have W:=a.2.2.2.2.2.1;have S:=a.2.2.2.2.2.2.1;have U:=a.2.2.2.2.2.2.2.1;have rb:=a.2.2.2.2.2.2.2.2.1;have G:=a.2.2.2.2.2.2.2.2.2.1;have F:=a.2.2.2.2.2.2.2.2.2.2;clear a q;show EvS B _ _ [some (.st (webD n es)),some (.st (.int k)),some (.st (.tuple [.int r,plD ps])),none,none,none];row_cond go;refine⟨n,es,rfl,I,L,v,p,J,n5 w4 ?_⟩;row_cond go;have no:¬ ShowOk n es k r ps->Q' (.st (.bool false)):=λh=>F false ⟨λe=>(by cases e),λe=>absurd e h⟩;refine L5 (λX=>?_) (λX=>?_)
 ·row_cond go;exact no λh=>by have:=h.k0;lia
 ·row_cond go;refine⟨r,ps,rfl,?_⟩;row_cond go;refine L5 (λM=>?_) (λM=>?_)
  ·row_cond go;exact no λh=>by have:=h.r0;lia
  ·row_cond go;refine⟨k,rfl,by lia,by lia,?_⟩;row_cond go;rw[R0];refine L5 (λR=>?_) (λR=>?_)
   ·row_cond go;exact no λh=>by have:=h.len;lia
   ·refine O9 ?_;row_cond go;refine A6 (λo:Int=>.bool (btwD 0 (n-1) (.int o))) rfl (by lia) (λo Y B' hB=>?_) ?_
    ·row_cond go;refine⟨n,.int o,?_,?_⟩
     ·rw[yB];simp;lia
     ·row_cond go;exact rfl
    ·row_cond go;rw[show(ps.map λo=>PyData.bool (btwD 0 (n-1) (.int o)))=(ps.map λo=>btwD 0 (n-1) (.int o)).map .bool by rw[v2];rfl];refine X6 ?_;row_cond go;have j:(ps.map λo=>btwD 0 (n-1) (.int o)).all id=true ↔ ∀ x∈ps,0<=x/\x<n:=by
      rw[List.all_map,P2];constructor
      ·intro h x y;have:=h x y;simp[btwD] at this;lia
      ·intro h x y;have:=h x y;simp[btwD];lia
     cases hb:(ps.map λo=>btwD 0 (n-1) (.int o)).all id with
     | false =>
      row_cond go;exact no λh=>by have:=j.mpr h.inn;rw[hb] at this;cases this
     | true =>
      have g:=j.mp hb;row_cond go;refine⟨ps,rfl,by lia,λb hb=>?_⟩;row_cond go;cases b with
      | false =>
       row_cond go;exact no λh=>by have:=hb.mpr h.rise;cases this
      | true =>
       have l:=hb.mp rfl;row_cond go;refine⟨r,rfl,by lia,by lia,?_⟩;row_cond go;refine⟨n.toNat,dsF es,2 * r+1,ps,rfl,by lia,G,λx y=>by have:=g x y;lia,λO u=>?_⟩;row_cond go;exact F O ⟨λe=>⟨by lia,by lia,by lia,g,l,u.mp e⟩,λh=>u.mpr h.far⟩
def VM:VP:=λss Q=>∃(n:Int)(es:List (Int × Int)),ss=[.st (webD n es)]/\1<=n/\n<=60/\PsOk n es/\Rise es/\es.length<=10000/\Q (.st (.bool true))
theorem sc_is_web:FnScope ["thing","n","ties"] ["thing"] (S0 s_is_web):=by row_cond sc
theorem bF(T:Txt K mg):Can P w K mg base "is_web" 6 ["thing"] (spP K (VM)):=by
 obtain⟨f,fd,D⟩:=T.bz;obtain⟨d,a⟩:=T.bf;obtain⟨l,j⟩:=T.dX;have g:=j.mgx;have m:=T.dY _ g;refine D.can (D.fn.ok sc_is_web (λvs H Q E h=>lenP h λss Q' q=>by obtain⟨n,es,rfl,z,G,u,r,y,x⟩:=q;rfl) (λcdv A outer s H vs Q E o h=>?_));have nd:=sc_is_web.nd
 refine⟨_,(D0 (Z1 (PW.pt (T4 (B4 (n4 (Z0 n7 (by rfl) T.az q7 (f0 (pv 0) (f0 (u7 (v:=.ty "tuple") rfl T.am bB rfl) i0))))) (J5 (R1 zA (Z0 E4 (by rfl) T.aV p4 (f0 (pv 0) i0)) t0 (C1 _)))))
   (I0 (O0 t3))
   A2)
  (D0 (U4 (pv 0) (j5 rfl (X2 (T0 (i:=1) nd rfl ab) (X2 (T0 (i:=2) nd rfl ab) o5))))
  (I0 (O0 (U5 (G0 (JD T) o (f0 t0 (f0 (f9 (v:=.int 60) rfl a ⟨_,rfl⟩) (f0 (pv 1) i0)))) (U5 (G0 (yJ T) o (f0 (pv 1) (f0 (pv 2) i0))) (C6 (G0 (pH T) o (f0 (pv 2) i0))))))))),?_⟩
 refine T1 h λss Q' q B I=>?_;refine exS2 ss q λn es c=>?_;have z:=c.1;have G:=c.2.1;have u:=c.2.2.1;have r:=c.2.2.2.1;have y:=c.2.2.2.2.1;have x:=c.2.2.2.2.2;clear c q;show EvS B _ _ [some (.st (webD n es)),none,none];have i1:isiD "tuple" (webD n es)=true:=rfl;have F:fA n (.list (es.map prD))=true:=by
  show((es.map prD).all (k5 n))=true;rw[List.all_map,P2];intro p C;have:=u.inn p C;simp[k5,prD];lia
 row_cond go;rw[i1];row_cond go;refine O9 ?_;row_cond go;refine⟨1,60,_,rfl,?_⟩;rw[show btwD 1 60 (.int n)=true by simp[btwD];lia];row_cond go;refine⟨n,_,rfl,λds e=>by cases e;rw[R0];lia,?_⟩;rw[F];row_cond go;refine⟨es,rfl,by lia,λb hb=>?_⟩;obtain rfl:=hb.mpr r;row_cond go;exact x
open Tx
def tS(p:Int × Int):Str:=nS p.1 ++ "-" ++ nS p.2
def wS(n:Int)(es:List (Int × Int)):Str:=Txt.join " " (nS n::es.map tS)
def XO:VP:=λss Q=>∃ p:Int × Int,ss=[.st (prD p)]/\0<=p.1/\p.1<100/\0<=p.2/\p.2<100/\Q (.st (.str (tS p)))
def uP:VP:=λss Q=>∃(n:Int)(es:List (Int × Int)),ss=[.st (webD n es)]/\0<=n/\n<100/\es.length<=10000/\(∀ p∈es,0<=p.1/\p.1<100/\0<=p.2/\p.2<100)/\Q (.st (.str (wS n es)))
def LP:VP:=λss Q=>∃ i:Int,ss=[.st (.str (nS i))]/\0<=i/\i<100/\Q (.st (.int i))
def jR:VP:=λss Q=>∃ p:Int × Int,ss=[.st (.str (tS p))]/\0<=p.1/\p.1<100/\0<=p.2/\p.2<100/\Q (.st (prD p))
def cS:VP:=λss Q=>∃(n:Int)(es:List (Int × Int)),ss=[.st (.str (wS n es))]/\1<=n/\n<=60/\PsOk n es/\Rise es/\es.length<=10000/\Q (.own (OW (.int n) (es.map prD)))
theorem i8(d:0<=i)(b:i<100):((nS i).length=1\/(nS i).length=2)/\(∀ c∈(nS i).cps.toList,(!(Builtin.Str.occurrences figs ⟨#[c]⟩ 0 figs.length 1).isEmpty)=true/\c ≠ 45/\c ≠ 32)/\((nS i).length=2->(nS i).cps.toList.head? ≠ some 48):=by
 have h:=mN d b;unfold okN at h;rw[show((i.toNat:Nat):Int)=i by lia] at h;simp only[E5,Bool.or_eq_true,S1,bne_iff_ne,P2] at h;refine⟨h.1.1,λc f=>?_,λa=>?_⟩
 ·have:=h.1.2 c f;exact⟨this.1.1,this.1.2,this.2⟩
 ·rcases h.2 with z|z
  ·exact absurd a z
  ·exact z
theorem CD:∀{ws:List Str},(∀ s∈ws,s.length<=c)->(ws.map (·.length)).sum<=ws.length * c
 |[],_=>by simp
 | w::ws,h=>by
  have b:=h w (by simp);have a:=CD (ws:=ws) λs hs=>h s (S2 _ hs);rw[M2,List.sum_cons,L3,Nat.add_mul];lia
theorem AE(h:0<=p.1/\p.1<100/\0<=p.2/\p.2<100):(tS p).length<=5:=by
 have a:=(i8 h.1 h.2.1).1;have b:=(i8 h.2.2.1 h.2.2.2).1;unfold tS;rw[strLen_append,strLen_append];have:(("-" : Str)).length=1:=rfl;lia
theorem TQ(p:Int × Int):tS p=Txt.join "-" [nS p.1,nS p.2]:=rfl
theorem Y9(b:0<=i)(a:i<100):45 ∉ (nS i).cps.toList/\32 ∉ (nS i).cps.toList :=
 ⟨λh=>((i8 b a).2.1 45 h).2.1 rfl,λh=>((i8 b a).2.1 32 h).2.2 rfl⟩
theorem IO(h:0<=p.1/\p.1<100/\0<=p.2/\p.2<100):Txt.split (tS p) "-" = [nS p.1,nS p.2]:=by
 rw[TQ];refine mI (c:=45) (by simp) λw a=>?_;rcases D1.mp a with rfl|a
 ·exact(Y9 h.1 h.2.1).1
 ·rw[O2.mp a];exact(Y9 h.2.2.1 h.2.2.2).1
theorem VQ(h:0<=p.1/\p.1<100/\0<=p.2/\p.2<100):32 ∉ (tS p).cps.toList:=by
 unfold tS;rw[Str.cps_append,Str.cps_append,W4,W4,Q1,Q1];rintro((z|z)|z)
 ·exact(Y9 h.1 h.2.1).2 z
 ·exact absurd z (by decide)
 ·exact(Y9 h.2.2.1 h.2.2.2).2 z
theorem nR(d:0<=n)(b:n<100)(h:∀ p∈es,0<=p.1/\p.1<100/\0<=p.2/\p.2<100):Txt.split (wS n es) " " = nS n::es.map tS:=by
 refine mI (c:=32) (by simp) λw a=>?_;rcases D1.mp a with rfl|a
 ·exact(Y9 d b).2
 ·obtain⟨p,f,rfl⟩:=X0.mp a;exact VQ (h p f)
theorem SI(c:Nat):∀(ws:List (List Nat)),(gl c ws).length<=(ws.map List.length).sum+ws.length
 |[]=>by simp[gl]
 |[w]=>by simp[gl]
 | w::v::r=>by
  have:=SI c (v::r);show(w++c::gl c (v::r)).length<=_;rw[f3,L3,M2,List.sum_cons,L3];lia
theorem MT(f:0<=n)(g:n<100)(j:es.length<=10000)(h:∀ p∈es,0<=p.1/\p.1<100/\0<=p.2/\p.2<100):(wS n es).length<=1000000:=by
 have i:wS n es=Str.join ⟨#[32]⟩ (nS n::es.map tS):=StrLaws.glued_eq_join _ _;have e2:=congrArg (λs:Str=>s.cps.toList.length) i;have l:(wS n es).length=(gl 32 ((nS n::es.map tS).map (·.cps.toList))).length:=by rw[← aD];exact e2
 have a:=SI 32 ((nS n::es.map tS).map (·.cps.toList));have hs:∀ s∈nS n::es.map tS,Str.length s<=5:=λs hs=>by
  rcases D1.mp hs with e|h'
  ·have:=(i8 f g).1;rw[e];lia
  ·obtain⟨p,d,rfl⟩:=X0.mp h';exact AE (h p d)
 have b:=CD hs;rw[v2,R0] at a;have c:((nS n::es.map tS).map (List.length ∘ λs:Str=>s.cps.toList))=(nS n::es.map tS).map (·.length):=rfl;rw[c] at a;rw[L3,R0] at a b;lia
theorem sc_show_tie:FnScope ["tie","a","b"] ["tie"] (S0 s_show_tie):=by row_cond sc
theorem vR(T:Txt K mg):Can P w K mg base "show_tie" 1 ["tie"] (spP K (XO)):=by
 obtain⟨f,fd,D⟩:=T.cW;obtain⟨d,c⟩:=T.dX;have b:=c.mgx;have g:=T.dY _ b;refine D.can (D.fn.ok sc_show_tie (λvs H Q E h=>lenP h λss Q' q=>by obtain⟨p,rfl,a0,a1,b0,b1,k⟩:=q;rfl) (λcdv A outer s H vs Q E l h=>?_));have nd:=sc_show_tie.nd
 refine⟨_,(D0 (U4 (pv 0) (j5 rfl (X2 (T0 (i:=1) nd rfl ab) (X2 (T0 (i:=2) nd rfl ab) o5))))
  (I0 (O0 (UP (by decide) (pv 1) (pv 2))))),?_⟩
 refine T1 h λss Q' q B j=>?_;refine exS1 ss q λp a=>?_;have a0:=a.1;have a1:=a.2.1;have b0:=a.2.2.1;have b1:=a.2.2.2.1;have k:=a.2.2.2.2;clear a q;show EvS B _ _ [some (.st (prD p)),none,none];row_cond go;refine j3 (qU ?_);row_cond go;refine⟨⟨a0,by lia⟩,?_⟩;row_cond go;exact⟨⟨b0,by lia⟩,k⟩
theorem sc_show_web:FnScope ["web","n","ties"] ["web"] (S0 s_show_web):=by row_cond sc
theorem LN(T:Txt K mg):Can P w K mg base "show_web" 2 ["web"] (spP K (uP)):=by
 obtain⟨f,fd,D⟩:=T.cX;obtain⟨g,c⟩:=T.dX;have b:=c.mgx;have l:=T.dY _ b;refine D.can (D.fn.ok sc_show_web (λvs H Q E h=>lenP h λss Q' q=>by obtain⟨n,es,rfl,m,r,v,d,k⟩:=q;rfl) (λcdv A outer s H vs Q E u h=>?_));have nd:=sc_show_web.nd
 refine⟨_,(D0 (U4 (pv 0) (j5 rfl (X2 (T0 (i:=1) nd rfl ab) (X2 (T0 (i:=2) nd rfl ab) o5))))
  (I0 (O0 (X4 PySem.F.plainAttrs_str PySem.F.slot_str_join PySem.F.type_str_join US mB (f0 (K0 CA (T3 (f0 (J7 jU (by rfl) T.aW lF (f0 (pv 1) i0)) i0)) (Q4 rfl (N:=["tie"]) (src:=[none]) (by exact z3 rfl rfl rfl rfl rfl rfl) (S3 (pv 2)) (λ_ _ _ _=>(T0 (i:=0) (show List.Nodup (["tie"]:List Str) by decide +kernel) rfl ab (hf:=Or.inr rfl))) (λ_ _ _ _=>v3) (λ_ _ _ _=>(G0 (vR T) u (f0 (pv 0) i0))))) i0))))),?_⟩
 refine T1 h λss Q' q B x=>?_;refine exS2 ss q λn es a=>?_;have m:=a.1;have r:=a.2.1;have v:=a.2.2.1;have d:=a.2.2.2.1;have k:=a.2.2.2.2;clear a q;show EvS B _ _ [some (.st (webD n es)),none,none];row_cond go;refine WJ ?_;row_cond go;refine⟨_,rfl,?_⟩;row_cond go;refine aO ⟨m,by lia⟩ ?_;row_cond go;refine A6 (f:=prD) (λp=>.str (tS p)) rfl (by lia) (λp o z y=>?_) ?_
 ·have j:=d p o;row_cond go;refine⟨p,rfl,j.1,j.2.1,j.2.2.1,j.2.2.2,?_⟩;row_cond go;exact rfl
 ·refine YG (by rw[R0];simp;lia) (p5 ?_);row_cond go;refine⟨nS n::es.map tS,by rw[M2,v2];rfl,?_,k⟩;have hs:=CD (λs hs=>?_:∀ s∈nS n::es.map tS,Str.length s<=5)
  ·have:(("" ++ " " : Str)).length=1:=rfl;rw[show((" " : Str)).length=1 from rfl,L3,R0];rw[L3,R0] at hs;lia
  ·rcases D1.mp hs with e|h
   ·have:=(i8 m r).1;rw[e];lia
   ·obtain⟨p,o,rfl⟩:=X0.mp h;exact AE (d p o)
theorem sc_number_of:FnScope ["word"] ["word"] (S0 s_number_of):=by row_cond sc
theorem gH(T:Txt K mg):Can P w K mg base "number_of" 1 ["word"] (spP K (LP)):=by
 obtain⟨f,fd,D⟩:=T.cY;obtain⟨m,a⟩:=T.bi;obtain⟨p,g⟩:=T.dX;have b:=g.mgx;have u:=T.dY _ b;refine D.can (D.fn.ok sc_number_of (λvs H Q E h=>lenP h λss Q' q=>by obtain⟨i,rfl,x,C,k⟩:=q;rfl) (λcdv A outer s H vs Q E G h=>?_));have nd:=sc_number_of.nd
 refine⟨_,(D0 (Z1 (PW.pt (T4 (R1 (BE G.units) (Z0 XE (by rfl) T.aV p4 (f0 (pv 0) i0)) (n3 (f0 t0 (f0 t0 i0))) rfl) (J5 (B4 (n4 (Z0 (W6 rfl) (by rfl) T.af Y6 (f0 (Q4 rfl (N:=["sign"]) (src:=[none]) (by exact z3 rfl rfl rfl rfl rfl rfl) (yN (pv 0)) (λ_ _ _ _=>(T0 (i:=0) (show List.Nodup (["sign"]:List Str) by decide +kernel) rfl ab (hf:=Or.inr rfl))) (λ_ _ _ _=>v3) (λ_ _ _ _=>(S4 XT (pv 0) (f9 (v:=.str "0123456789") rfl a ⟨_,rfl⟩) rfl))) i0)))))))
   (I0 (O0 Z6))
   A2)
  (D0 (Z1 (PW.pt (P7 (R1 j6 (Z0 XE (by rfl) T.aV p4 (f0 (pv 0) i0)) t0 (C1 _)) (T7 (R1 j6 (P0 GP (pv 0) t0 (λ_ _=>rfl)) mB (C1 _)))))
   (I0 (O0 Z6))
   A2)
  (I0 (O0 (J7 vO (by rfl) T.ak zD (f0 (pv 0) i0)))))),?_⟩
 refine T1 h λss Q' q B J=>?_;refine exS1 ss q λi l=>?_;have x:=l.1;have C:=l.2.1;have k:=l.2.2;clear l q;show EvS B _ _ [some (.st (.str (nS i)))];row_cond go;have hf:=i8 x C;refine kF (by lia) ?_;row_cond go;refine uL rfl rfl (by simp[PyData.depth]) ?_;rw[show(if true=true then !([PyData.int 1,.int 2].any λz=>PyData.eqv z (.int ((nS i).length:Int))) else ([PyData.int 1,.int 2].any λz=>PyData.eqv z (.int ((nS i).length:Int))))=false by
  rcases hf.1 with e|e <;> rw[e] <;> rfl]
 row_cond go;refine nQ ?_;row_cond go;refine⟨_,rfl,?_⟩;unfold sgnD;refine A6 (f:=λc=>PyData.str ⟨#[c]⟩) (λ_=>.bool true) rfl (by show(nS i).cps.toList.length<=_;have:(nS i).cps.toList.length=(nS i).length:=rfl;lia) (λc o M L=>?_) ?_
 ·row_cond go;refine LR ?_;rw[show("0123456789" : Str)=figs from rfl,(hf.2.1 c o).1];row_cond go;exact rfl
 ·row_cond go;rw[show((nS i).cps.toList.map λ_=>PyData.bool true)=((nS i).cps.toList.map λ_=>true).map .bool by rw[v2];rfl];refine X6 ?_;rw[show((nS i).cps.toList.map λ_=>true).all id=true by simp];row_cond go;refine kF (by lia) ?_;row_cond go;refine' cutR (R:=EvS B ?c1 ?d1 [some (.st (.str (nS i)))]) (λR=>?K1) ?K2
  case K1 =>
   refine L5 (λF=>?_) (λF=>?_)
   ·have y:(nS i).length=2:=by lia
    obtain⟨c,o⟩:∃ c,(nS i).cps.toList.head?=some c:=by
     cases e:(nS i).cps.toList with
     | nil =>
      have:(nS i).cps.toList.length=(nS i).length:=rfl;rw[e] at this;simp at this;lia
     |cons c r=>exact⟨c,rfl⟩
    have n:=hf.2.2 y;rw[o] at n;have ha:M1 (nS i).cps.toList 0=some c:=by
     cases e:(nS i).cps.toList with
     |nil=>rw[e] at o;cases o
     |cons d r=>rw[e] at o;cases o;exact E9 (j:=0) rfl
    row_cond go;refine dL (by lia) ha ?_;row_cond go;refine CB (λe=>n ?_) ?_
    ·have e2:=congrArg (λs:Str=>s.cps.toList) e;have I:[c]=[48]:=e2;rw[List.cons.inj I |>.1]
    ·repeat (first|exact R|row_cond st)
   ·repeat (first|exact R|row_cond st)
  case K2 =>
   row_cond go;refine j3 (GE ?_);row_cond go;refine sQ (PySem.W.KIN.num_reads x (by lia)) (by show(nS i).length<=_;lia) ?_;row_cond go;exact k
theorem sc_tie_of:FnScope ["word"] ["word"] (S0 s_tie_of):=by row_cond sc
theorem FO(T:Txt K mg):Can P w K mg base "tie_of" 2 ["word"] (spP K (jR)):=by
 obtain⟨f,fd,D⟩:=T.cZ;obtain⟨g,c⟩:=T.dX;have b:=c.mgx;have j:=T.dY _ b;refine D.can (D.fn.ok sc_tie_of (λvs H Q E h=>lenP h λss Q' q=>by obtain⟨p,rfl,a0,a1,b0,b1,k⟩:=q;rfl) (λcdv A outer s H vs Q E l h=>?_));have nd:=sc_tie_of.nd;refine⟨_,(I0 (O0 (J7 FR (by rfl) T.am bB (f0 (Q4 rfl (N:=["part"]) (src:=[none]) (by exact z3 rfl rfl rfl rfl rfl rfl) (S3 (X4 PySem.F.plainAttrs_str PySem.F.slot_str_split PySem.F.type_str_split fI (pv 0) (f0 mB i0))) (λ_ _ _ _=>(T0 (i:=0) (show List.Nodup (["part"]:List Str) by decide +kernel) rfl ab (hf:=Or.inr rfl))) (λ_ _ _ _=>v3) (λ_ _ _ _=>(G0 (gH T) l (f0 (pv 0) i0)))) i0)))),?_⟩;refine T1 h λss Q' q B n=>?_;refine exS1 ss q λp a=>?_;have a0:=a.1;have a1:=a.2.1;have b0:=a.2.2.1;have b1:=a.2.2.2.1;have k:=a.2.2.2.2;clear a q;show EvS B _ _ [some (.st (.str (tS p)))];have hb:=IO (p:=p) ⟨a0,a1,b0,b1⟩;have m:=AE (p:=p) ⟨a0,a1,b0,b1⟩;refine XD ?_;refine j3 (GE ?_);repeat (first|(refine U3 (uJ ?_))|row_cond st)
 refine⟨_,rfl,?_⟩;row_cond go;refine⟨_,rfl,rfl,by lia,by rw[hb];exact Nat.le_of_ble_eq_true rfl,p5 ?_⟩;rw[hb];row_cond go;show LcV _ _ _ _ _ ([p.1,p.2].map λi=>PyData.str (nS i)) _ _;refine A6 (xs:=[p.1,p.2]) (f:=λi=>PyData.str (nS i)) (λi=>.int i) rfl (by simp) (λi hi r o=>?_) ?_
 ·have d:0<=i/\i<100:=by
   rcases D1.mp hi with rfl|hi
   ·exact⟨a0,a1⟩
   ·rw[O2.mp hi];exact⟨b0,b1⟩
  row_cond go;refine⟨i,rfl,d.1,d.2,?_⟩;row_cond go;exact rfl
 ·row_cond go;refine iU ?_;row_cond go;exact k
theorem sc_read_web:FnScope ["text","first","others","web"] ["text"] (S0 s_read_web):=by row_cond sc
theorem bS(T:Txt K mg):Can P w K mg base "read_web" 7 ["text"] (spP K (cS)):=by
 obtain⟨f,fd,D⟩:=T.da;obtain⟨g,c⟩:=T.dX;have b:=c.mgx;have l:=T.dY _ b;refine D.can (D.fn.ok sc_read_web (λvs H Q E h=>lenP h λss Q' q=>by obtain⟨n,es,rfl,y,z,u,x,o,k⟩:=q;rfl) (λcdv A outer s H vs Q E m h=>?_));have nd:=sc_read_web.nd
 refine⟨_,(D0 (Z1 (B4 (n4 (Z0 n7 (by rfl) T.az q7 (f0 (pv 0) (f0 (u7 (v:=.ty "str") rfl T.aW lF rfl) i0)))))
   (I0 A8)
   A2)
  (D0 (U4 (X4 PySem.F.plainAttrs_str PySem.F.slot_str_split PySem.F.type_str_split fI (pv 0) (f0 mB i0)) (KF rfl (T0 (i:=1) nd rfl ab) (T0 (i:=2) nd rfl ab)))
  (D0 (U0 (i:=3) nd rfl ab (n3 (f0 (G0 (gH T) m (f0 (pv 1) i0)) (f0 (Q4 rfl (N:=["word"]) (src:=[none]) (by exact z3 rfl rfl rfl rfl rfl rfl) (S3 (pv 2)) (λ_ _ _ _=>(T0 (i:=0) (show List.Nodup (["word"]:List Str) by decide +kernel) rfl ab (hf:=Or.inr rfl))) (λ_ _ _ _=>v3) (λ_ _ _ _=>(G0 (FO T) m (f0 (pv 0) i0)))) i0))))
  (D0 (Z1 (B4 (n4 (G0 (bF T) m (f0 (pv 3) i0))))
   (I0 A8)
   A2)
  (I0 (O0 (pv 3))))))),?_⟩
 refine T1 h λss Q' q B G=>?_;refine exS2 ss q λn es a=>?_;have y:=a.1;have z:=a.2.1;have u:=a.2.2.1;have x:=a.2.2.2.1;have o:=a.2.2.2.2.1;have k:=a.2.2.2.2.2;clear a q;show EvS B _ _ [some (.st (.str (wS n es))),none,none,none];have d:∀ p∈es,0<=p.1/\p.1<100/\0<=p.2/\p.2<100:=λp r=>by have:=u.inn p r;lia
 have hb:=nR (n:=n) (by lia) (by lia) d;row_cond go;rw[show isiD "str" (.str (wS n es))=true from rfl];repeat (first|(refine uJ ?_)|row_cond st)
 refine⟨_,rfl,?_⟩;row_cond go;refine⟨_,rfl,rfl,MT (by lia) (by lia) o d,by rw[hb];simp;lia,?_⟩;rw[hb];refine n5 w4 ?_;rw[M2];refine EI (n5 w4 ?_);repeat (first|(refine vA ?_)|row_cond st)
 refine⟨n,rfl,by lia,by lia,?_⟩;row_cond go;rw[v2];refine A6 (f:=PyData.str ∘ tS) prD rfl (by lia) (λp r C I=>?_) ?_
 ·have j:=d p r;show Ev C _ (some (.st (.str (tS p)))::_) _;row_cond go;refine⟨p,rfl,j.1,j.2.1,j.2.2.1,j.2.2.2,?_⟩;row_cond go;exact rfl
 ·refine⟨_,rfl,?_⟩;repeat (first|(refine dJ (i:=3) (.inl rfl) ?_)|row_cond st)
  refine⟨n,es,rfl,y,z,u,x,o,?_⟩;row_cond go;exact k
def FarN(n:Int)(es:List (Int × Int))(d:PyData):Prop:=(Joined n es/\∃ x,Y7 n.toNat (dsF es) x/\d=.int x)\/(¬ Joined n es/\d=.none)
structure GW(n:Int)(es:List (Int × Int)):Prop where
 lo:1<=n
 hi:n<=61
 inn:InN n es
 len:es.length<=4000
def zO:VP:=λss Q=>∃(n:Int)(es:List (Int × Int)),ss=[.st (webD n es)]/\GW n es/\∀ d,FarN n es d->Q (.st d)
abbrev gF(n:Int)(es:List (Int × Int)):List (Str × PyData):=[("held",webD n es)]
def AO(mg:Str->Option Value):VIo:=λA ss Q=>∃(C:Addr)(n:Int)(es:List (Int × Int)),mg "Grower" = some (.ref C)/\A=OI C []/\ss=[.st (webD n es)]/\Q (OGW C "held" (.int n) (es.map prD)) (.st .none)
def MO(mg:Str->Option Value):VIo:=λA ss Q=>∃(C:Addr)(n m:Int)(es qs:List (Int × Int)),mg "Grower" = some (.ref C)/\A=OI C (gF n es)/\ss=[.st (webD m qs)]/\GW n es/\GW m qs/\∀ d0 d1,FarN n es d0->FarN m qs d1->Q (OI C (gF m qs)) (.st (.tuple [d0,d1]))
def xR(mg:Str->Option Value):VIo:=λA ss Q=>∃(C:Addr)(n a:Int)(es:List (Int × Int)),mg "Grower" = some (.ref C)/\A=OI C (gF n es)/\ss=[.st (.int a)]/\GW n es/\n<60/\PsOk n es/\es.length<=2500/\0<=a/\a<n/\∀ qs d0 d1,Rise qs->qs.Perm (es++[(a,n)])->FarN n es d0->FarN (n+1) qs d1->Q (OI C (gF (n+1) qs)) (.st (.tuple [d0,d1]))
def tK(mg:Str->Option Value):VIo:=λA ss Q=>∃(C:Addr)(n a b:Int)(es:List (Int × Int)),mg "Grower" = some (.ref C)/\A=OI C (gF n es)/\ss=[.st (.int a),.st (.int b)]/\GW n es/\PutOk n es [(a,b)]/\es.length<=2500/\∀ qs d0 d1,Rise qs->qs.Perm (es++[(a,b)])->FarN n es d0->FarN n qs d1->Q (OI C (gF n qs)) (.st (.tuple [d0,d1]))
theorem QH(h:GW n es)(hm:n<=m)(c:m<=61)(q:es.length<=2500)(j:0<=a)(l:a<m)(i:0<=b)(o:b<m)(f:d.Perm (es++[(a,b)])):GW m d :=
 ⟨by have:=h.lo;lia,c,λp g=>by
  rcases Q1.mp (f.mem_iff.mp g) with z|z
  ·have:=h.inn p z;exact⟨by lia,by lia,by lia,by lia⟩
  ·cases O2.mp z;exact⟨j,l,i,o⟩,by rw[f.length_eq,f3];simp;lia⟩
theorem sc_far_or_none:FnScope ["web"] ["web"] (S0 s_far_or_none):=by row_cond sc
theorem AI(T:Txt K mg):Can P w K mg base "far_or_none" 10 ["web"] (spP K (zO)):=by
 obtain⟨f,fd,D⟩:=T.cy;obtain⟨l,d⟩:=T.dX;have c:=d.mgx;have m:=T.dY _ c;refine D.can (D.fn.ok sc_far_or_none (λvs H Q E h=>lenP h λss Q' q=>by obtain⟨n,es,rfl,j,o⟩:=q;rfl) (λcdv A outer s H vs Q E r h=>?_));have nd:=sc_far_or_none.nd;refine⟨_,(I0 (O0 (cJ (n4 (G0 (eJ T) r (f0 (pv 0) i0))) (P0 Q0 (G0 (E7 T) r (f0 (pv 0) i0)) t0 (λ_ _=>rfl)) Z6))),?_⟩;refine T1 h λss Q' q B y=>?_;refine exS2 ss q λn es g=>?_;have j:=g.1;have o:=g.2;clear g q;show EvS B _ _ [some (.st (webD n es))];have hn:=j.lo;have v:=j.hi;have i:=j.inn;have p:=j.len;row_cond go;refine⟨n,es,rfl,hn,by lia,i,by lia,λb hb=>?_⟩;cases b with
 | true =>
  row_cond go;refine⟨n,es,rfl,hn,by lia,i,by lia,hb.mp rfl,λx a b u=>?_⟩;row_cond go;exact o _ (.inl ⟨hb.mp rfl,x,u.top,rfl⟩)
 | false =>
  row_cond go;exact o _ (.inr ⟨λz=>(by have:=hb.mpr z;cases this),rfl⟩)
theorem sc_Grower____init__:FnScope ["self","web","n","ties"] ["self","web"] (S0 s_Grower____init__):=by row_cond sc
theorem LH(T:Txt K mg)(a:mg "Grower" = some (.ref b)):CanM P w K mg base b "__init__" 1 ["self","web"] (spI K (AO mg)):=by
 obtain⟨f,fd,D⟩:=T.dZ _ a;have d:ObAt K mg "Grower" b:=by
  obtain⟨c,o⟩:=T.dX;have:=o.mgx.symm.trans a;cases this;exact o
 have g:=T.dY _ a;refine D.can (D.fn.ok sc_Grower____init__ (λvs H Q E h=>lenI h λA ss Q' q=>by obtain⟨C,n,es,j,rfl,rfl,l⟩:=q;rfl) (λcdv A outer s H vs Q E p h=>?_));have nd:=sc_Grower____init__.nd
 refine⟨_,(D0 (U4 (pv 1) (j5 rfl (X2 (T0 (i:=2) nd rfl ab) (X2 (T0 (i:=3) nd rfl ab) o5))))
  (I0 (NH (pv 0) (n3 (f0 (pv 2) (f0 (J7 eE (by rfl) T.av k8 (f0 (pv 3) i0)) i0))) rfl))),?_⟩
 refine i7 h λr ss Q' q B m=>?_;obtain⟨C,n,es,j,rfl,rfl,l⟩:=q;show EvS B _ _ [some (.io (OI C [])),some (.st (webD n es)),none,none];obtain rfl:b=C:=by have:=a.symm.trans j;cases this;rfl
 repeat (first|(refine DJ d.cl g ?_)|(refine vA ?_)|row_cond st)
 exact⟨_,rfl,_,_,_,rfl,rfl,.inr rfl,_,rfl,l⟩
theorem sc_Grower__become:FnScope ["self","grown","before"] ["self","grown"] (S0 s_Grower__become):=by row_cond sc
theorem TH(T:Txt K mg)(a:mg "Grower" = some (.ref b)):CanM P w K mg base b "become" 11 ["self","grown"] (spI K (MO mg)):=by
 obtain⟨f,fd,D⟩:=T.ef _ a;have d:ObAt K mg "Grower" b:=by
  obtain⟨c,o⟩:=T.dX;have:=o.mgx.symm.trans a;cases this;exact o
 have g:=T.dY _ a;refine D.can (D.fn.ok sc_Grower__become (λvs H Q E h=>lenI h λA ss Q' q=>by obtain⟨C,n,m,es,l,r,rfl,rfl,u,j,v⟩:=q;rfl) (λcdv A outer s H vs Q E p h=>?_));have nd:=sc_Grower__become.nd
 refine⟨_,(D0 (U0 (i:=2) nd rfl ab (G0 (AI T) p (f0 (T8 (pv 0) rfl) i0)))
  (D0 (NH (pv 0) (pv 1) rfl)
  (I0 (O0 (n3 (f0 (pv 2) (f0 (G0 (AI T) p (f0 (pv 1) i0)) i0))))))),?_⟩
 refine i7 h λI ss Q' q B G=>?_;obtain⟨C,n,m,es,l,r,rfl,rfl,u,j,v⟩:=q;show EvS B _ _ [some (.io (OI C (gF n es))),some (.st (webD m l)),none];obtain rfl:b=C:=by have:=a.symm.trans r;cases this;rfl
 repeat (first|(refine l8 (.inr rfl) d.cl g S8 ?_)|row_cond st)
 refine⟨n,es,rfl,u,λx z=>?_⟩;repeat (first|(refine bU (fs:=gF n es) d.cl g ?_)|row_cond st)
 refine⟨_,rfl,.inr rfl,Nat.le_of_ble_eq_true rfl,?_⟩;rw[put1];row_cond qa;row_cond go;refine⟨m,l,rfl,j,λy F=>?_⟩;row_cond go;exact v x y z F
theorem sc_Grower__put_place:FnScope ["self","a","n","ties"] ["self","a"] (S0 s_Grower__put_place):=by row_cond sc
theorem xP(T:Txt K mg)(b:mg "Grower" = some (.ref d)):CanM P w K mg base d "put_place" 12 ["self","a"] (spI K (xR mg)):=by
 obtain⟨f,fd,D⟩:=T.ec _ b;obtain⟨l,j⟩:=T.bf;have g:ObAt K mg "Grower" d:=by
  obtain⟨c,o⟩:=T.dX;have:=o.mgx.symm.trans b;cases this;exact o
 have r:=T.dY _ b;refine D.can (D.fn.ok sc_Grower__put_place (λvs H Q E h=>lenI h λA ss Q' q=>by obtain⟨C,n,a,es,N,rfl,rfl,G,F,J,M,a0,a1,R⟩:=q;rfl) (λcdv A outer s H vs Q E u h=>?_));have nd:=sc_Grower__put_place.nd
 refine⟨_,(D0 (Z3 (G0 (yC T) u (f0 (T8 (pv 0) rfl) (f0 (pv 1) i0))))
  (D0 (U4 (T8 (pv 0) rfl) (j5 rfl (X2 (T0 (i:=2) nd rfl ab) (X2 (T0 (i:=3) nd rfl ab) o5))))
  (D0 (Z3 (G0 (zB T) u (f0 t0 (f0 (K0 k6 (f9 (v:=.int 60) rfl j ⟨_,rfl⟩) t0) (f0 (pv 2) i0)))))
  (I0 (O0 (s9 (TH T b) g.cl u (pv 0) (f0 (G0 (qC T) u (f0 (n3 (f0 (K0 R3 (pv 2) t0) (f0 (pv 3) i0))) (f0 (T3 (f0 (n3 (f0 (pv 1) (f0 (pv 2) i0))) i0)) i0))) i0))))))),?_⟩
 refine i7 h λA0 ss Q' q B hK=>?_;obtain⟨C,n,a,es,N,rfl,rfl,G,F,J,M,a0,a1,R⟩:=q;show EvS B _ _ [some (.io (OI C (gF n es))),some (.st (.int a)),none,none];obtain rfl:d=C:=by have:=b.symm.trans N;cases this;rfl
 have hn:=G.lo
 have z:PutOk (n+1) es [(a,n)]:=⟨λp X=>by cases O2.mp X;exact⟨a0,a1,by simp only;lia⟩,B7.mpr ⟨J.nd,by simp,λx W y S e=>by
  cases O2.mp S;have:=J.inn x W;rw[e] at this;simp only at this;lia⟩⟩
 repeat (first|(refine l8 (.inr rfl) g.cl r S8 ?_)|row_cond st)
 refine⟨n,a,es,rfl,a0,a1,?_⟩;repeat (first|(refine j3 (l8 (.inr rfl) g.cl r S8 ?_))|row_cond st)
 refine⟨1,60-1,n,rfl,hn,by lia,?_⟩;(repeat (first|(refine Y8 (.inr rfl) (T5 (by decide +kernel)) ?_)|row_cond st));refine⟨n+1,es,[(a,n)],rfl,by lia,by simp,z,λO u L=>f7 ?_⟩;have I:=QH G (m:=n+1) (by lia) (by lia) M a0 (by lia) (by lia) (by lia) L;row_cond go;refine⟨_,_,rfl,.inr rfl,d,n,n+1,es,O,b,rfl,rfl,G,I,λU Y h0 Z=>?_⟩;exact⟨_,rfl,R O U Y u L h0 Z⟩
theorem sc_Grower__put_tie:FnScope ["self","a","b"] ["self","a","b"] (S0 s_Grower__put_tie):=by row_cond sc
theorem UR(T:Txt K mg)(d:mg "Grower" = some (.ref g)):CanM P w K mg base g "put_tie" 12 ["self","a","b"] (spI K (tK mg)):=by
 obtain⟨f,fd,D⟩:=T.ee _ d;have i:ObAt K mg "Grower" g:=by
  obtain⟨c,o⟩:=T.dX;have:=o.mgx.symm.trans d;cases this;exact o
 have l:=T.dY _ d;refine D.can (D.fn.ok sc_Grower__put_tie (λvs H Q E h=>lenI h λA ss Q' q=>by obtain⟨C,n,a,b,es,z,rfl,rfl,r,j,y,G⟩:=q;rfl) (λcdv A outer s H vs Q E u h=>?_));have nd:=sc_Grower__put_tie.nd;refine⟨_,(I0 (O0 (s9 (TH T d) i.cl u (pv 0) (f0 (G0 (qC T) u (f0 (T8 (pv 0) rfl) (f0 (T3 (f0 (n3 (f0 (pv 1) (f0 (pv 2) i0))) i0)) i0))) i0)))),?_⟩;refine i7 h λR ss Q' q B O=>?_;obtain⟨C,n,a,b,es,z,rfl,rfl,r,j,y,G⟩:=q;show EvS B _ _ [some (.io (OI C (gF n es))),some (.st (.int a)),some (.st (.int b))];obtain rfl:g=C:=by have:=d.symm.trans z;cases this;rfl
 have hn:=r.lo;have N:=r.hi;have p:=j.inn (a,b) (by simp);simp only at p;repeat (first|(refine l8 (.inr rfl) i.cl l S8 ?_)|(refine Y8 (.inr rfl) (T5 (by decide +kernel)) ?_)|row_cond st)
 refine⟨n,es,[(a,b)],rfl,by lia,by simp,j,λF u x=>f7 ?_⟩;have v:=QH r (m:=n) (by lia) (by lia) y p.1 (by lia) (by lia) p.2.2 x;row_cond go;refine⟨_,_,rfl,.inr rfl,g,n,n,es,F,d,rfl,rfl,r,v,λI J M L=>?_⟩;exact⟨_,rfl,G F I J u x M L⟩
def HS(mg:Str->Option Value):VIo:=λA ss Q=>∃(C:Addr)(n:Int)(es:List (Int × Int)),mg "Grower" = some (.ref C)/\A=OI C (gF n es)/\ss=[]/\es.length<=10000/\Q (OI C (gF n es)) (.own (OW (.int n) (es.map prD)))
def iM(mg:Str->Option Value):VIo:=λA ss Q=>∃(C:Addr)(n:Int)(es:List (Int × Int)),mg "Grower" = some (.ref C)/\A=OI C (gF n es)/\ss=[]/\GW n es/\Joined n es/\∀ x a b,FarOk n es x a b->Q (OI C (gF n es)) (.st (.tuple [.int x,.int a,.int b]))
def IN(mg:Str->Option Value):VIo:=λA ss Q=>∃(C:Addr)(n a b:Int)(es:List (Int × Int)),mg "Grower" = some (.ref C)/\A=OI C (gF n es)/\ss=[.st (.int a),.st (.int b)]/\GW n es/\0<=a/\a<n/\0<=b/\b<n/\Q (OI C (gF n es)) (.st (oD (Gr.farO (Tied es) a b)))
theorem sc_Grower__web:FnScope ["self","n","ties"] ["self"] (S0 s_Grower__web):=by row_cond sc
theorem HD(T:Txt K mg)(a:mg "Grower" = some (.ref b)):CanM P w K mg base b "web" 1 ["self"] (spI K (HS mg)):=by
 obtain⟨f,fd,D⟩:=T.eg _ a;have d:ObAt K mg "Grower" b:=by
  obtain⟨c,o⟩:=T.dX;have:=o.mgx.symm.trans a;cases this;exact o
 have g:=T.dY _ a;refine D.can (D.fn.ok sc_Grower__web (λvs H Q E h=>lenI h λA ss Q' q=>by obtain⟨C,n,es,j,rfl,rfl,m,l⟩:=q;rfl) (λcdv A outer s H vs Q E r h=>?_));have nd:=sc_Grower__web.nd
 refine⟨_,(D0 (U4 (T8 (pv 0) rfl) (j5 rfl (X2 (T0 (i:=1) nd rfl ab) (X2 (T0 (i:=2) nd rfl ab) o5))))
  (I0 (O0 (n3 (f0 (pv 1) (f0 (J7 eE (by rfl) T.av k8 (f0 (pv 2) i0)) i0)))))),?_⟩
 refine i7 h λu ss Q' q B p=>?_;obtain⟨C,n,es,j,rfl,rfl,m,l⟩:=q;show EvS B _ _ [some (.io (OI C (gF n es))),none,none];obtain rfl:b=C:=by have:=a.symm.trans j;cases this;rfl
 repeat (first|(refine j3 (l8 (.inr rfl) d.cl g S8 ?_))|(refine vA ?_)|row_cond st)
 exact⟨_,rfl,_,rfl,l⟩
theorem sc_Grower__farthest:FnScope ["self"] ["self"] (S0 s_Grower__farthest):=by row_cond sc
theorem qE(T:Txt K mg)(d:mg "Grower" = some (.ref g)):CanM P w K mg base g "farthest" 10 ["self"] (spI K (iM mg)):=by
 obtain⟨f,fd,D⟩:=T.el _ d;have i:ObAt K mg "Grower" g:=by
  obtain⟨c,o⟩:=T.dX;have:=o.mgx.symm.trans d;cases this;exact o
 have j:=T.dY _ d;refine D.can (D.fn.ok sc_Grower__farthest (λvs H Q E h=>lenI h λA ss Q' q=>by obtain⟨C,n,es,p,rfl,rfl,l,r,u⟩:=q;rfl) (λcdv A outer s H vs Q E v h=>?_));have nd:=sc_Grower__farthest.nd;refine⟨_,(I0 (O0 (G0 (E7 T) v (f0 (T8 (pv 0) rfl) i0)))),?_⟩;refine i7 h λG ss Q' q B F=>?_;obtain⟨C,n,es,p,rfl,rfl,l,r,u⟩:=q;show EvS B _ _ [some (.io (OI C (gF n es)))];obtain rfl:g=C:=by have:=d.symm.trans p;cases this;rfl
 have hn:=l.lo;have z:=l.hi;have m:=l.len;repeat (first|(refine l8 (.inr rfl) i.cl j S8 ?_)|row_cond st)
 refine⟨n,es,rfl,hn,by lia,l.inn,by lia,r,λx a b y=>?_⟩;row_cond go;exact u x a b y
theorem sc_Grower__far:FnScope ["self","a","b"] ["self","a","b"] (S0 s_Grower__far):=by row_cond sc
theorem UH(T:Txt K mg)(d:mg "Grower" = some (.ref g)):CanM P w K mg base g "far" 7 ["self","a","b"] (spI K (IN mg)):=by
 obtain⟨f,fd,D⟩:=T.eo _ d;have i:ObAt K mg "Grower" g:=by
  obtain⟨c,o⟩:=T.dX;have:=o.mgx.symm.trans d;cases this;exact o
 have j:=T.dY _ d;refine D.can (D.fn.ok sc_Grower__far (λvs H Q E h=>lenI h λA ss Q' q=>by obtain⟨C,n,a,b,es,p,rfl,rfl,l,a0,a1,b0,b1,r⟩:=q;rfl) (λcdv A outer s H vs Q E u h=>?_));have nd:=sc_Grower__far.nd;refine⟨_,(I0 (O0 (G0 (hE T) u (f0 (T8 (pv 0) rfl) (f0 (pv 1) (f0 (pv 2) i0)))))),?_⟩;refine i7 h λy ss Q' q B x=>?_;obtain⟨C,n,a,b,es,p,rfl,rfl,l,a0,a1,b0,b1,r⟩:=q;show EvS B _ _ [some (.io (OI C (gF n es))),some (.st (.int a)),some (.st (.int b))];obtain rfl:g=C:=by have:=d.symm.trans p;cases this;rfl
 have v:=l.hi;have m:=l.len;repeat (first|(refine l8 (.inr rfl) i.cl j S8 ?_)|row_cond st)
 refine⟨n,a,b,es,rfl,by lia,l.inn,by lia,a0,a1,b0,b1,?_⟩;exact⟨_,rfl,r⟩
def DrawsOk(ds:List Int):Prop:=∀ x∈ds,0<=x/\x<10007
theorem DrawsOk.snoc(h:DrawsOk ds)(b:0<=x)(c:x<10007):DrawsOk (ds++[x]):=λy a=>by
 rcases Q1.mp a with a|a
 ·exact h y a
 ·have:y=x:=by simpa using a
  subst this;exact⟨b,c⟩
theorem SO(h:d∈cutD xs lo hi):d∈xs:=P4 (M4 h)
theorem gS:(cutD xs lo hi).length<=xs.length:=by unfold cutD;simp;lia
theorem gE(ds:List Int)(x:Int):ds.map PyData.int++[.int x]=(ds++[x]).map .int:=by simp
def hQ:VP:=λss Q=>∃(ns:List Int)(many:Int),ss=[.scr ns,.st (.int many)]/\ns.length<=63/\0<=many/\many<=1000/\∀ ds:List Int,many<=ds.length->ds.length<=3000->DrawsOk ds->Q (.own (OL (ds.map .int)))
theorem sc_law_draws:FnScope ["script","many","drawn","base","k","cell","number","one"] ["script","many"] (S0 s_law_draws):=by row_cond sc
theorem kQ (T:Txt K mg):Can P w K mg base "_law_draws" 1 ["script","many"] (spP K (hQ)):=by
 obtain⟨f,fd,D⟩:=T.dm;obtain⟨C,o⟩:=T.dX;have l:=o.mgx;have J:=T.dY _ l;refine D.can (D.fn.ok sc_law_draws (λvs H Q E h=>lenP h λss Q' q=>by obtain⟨ns,many,rfl,z,Y,Z,k⟩:=q;rfl) (λcdv A outer s H vs Q E hr h=>?_));have nd:=sc_law_draws.nd
 refine ⟨_,(D0 (U0 (i:=2) nd rfl ab (T3 i0))
  (D0 (U0 (i:=3) nd rfl ab t0)
  (D0  (J6 t5 rfl (cI rfl T.au (f0 (SQ CL (pv 0) GS (OO t0)) i0)) (j5 rfl (X2 (T0 (i:=4) nd rfl ab) (X2 (T0 (i:=5) nd rfl ab) o5)))
   (D0  (U0 (i:=6) nd rfl ab (Z0 XR (by rfl) T.aX PN (f0 (pv 5) i0)))
    (D0 (U0 (i:=3) nd rfl ab (K0 m4 (K0 R3 (K0 Q5 (pv 3) t0) (pv 6)) t0))
    (I0 (Z1 (R1 oE (pv 6) (ZP (n:=1000000000000000000) (by decide) (by refine⟨by decide,by decide,by decide⟩)) (C1 _))
     (I0 (OA t5 (PW.pt (P7 (R1 LB (pv 6) t0 (C1 _)) (T7 (R1 Y5 (Z0 E4 (by rfl) T.aV p4 (f0 (pv 2) i0)) (pv 1) (C1 _)))))
       (D0 (Z3 (X4 PySem.F.plainAttrs_list PySem.F.slot_list_append PySem.F.type_list_append L6 (pv 2) (f0 (K0 m4 (pv 6) t0) i0)))
        (I0 (U0 (i:=6) nd rfl ab (K0 R7 (pv 6) t0))))))
     (D0 (U0 (i:=7) nd rfl ab (K0 m4 (K0 Q5 (K0 R3 (K0 R3 (K0 m4 (pv 6) t0) (pv 4)) t0) t0) t0))
      (D0 (U0 (i:=7) nd rfl ab (K0 m4 (K0 Q5 (pv 7) (pv 7)) t0))
      (D0 (Z3 (X4 PySem.F.plainAttrs_list PySem.F.slot_list_append PySem.F.type_list_append L6 (pv 2) (f0 (K0 m4 (K0 R7 (pv 7) t0) t0) i0)))
      (D0 (U0 (i:=7) nd rfl ab (K0 m4 (K0 R3 (K0 R3 (K0 Q5 (pv 7) t0) (K0 Q5 t0 (pv 4))) t0) t0))
      (D0 (U0 (i:=7) nd rfl ab (K0 m4 (K0 Q5 (pv 7) (pv 7)) t0))
      (I0 (Z3 (X4 PySem.F.plainAttrs_list PySem.F.slot_list_append PySem.F.type_list_append L6 (pv 2) (f0 (K0 m4 (K0 R7 (pv 7) t0) t0) i0))))))))))))))
  (D0 (J6 t5 rfl (R5 rfl T.aq (f0 (K0 k6 (pv 1) (Z0 E4 (by rfl) T.aV p4 (f0 (pv 2) i0))) i0)) (T0 (i:=4) nd rfl ab)
   (D0 (U0 (i:=7) nd rfl ab (K0 m4 (K0 R3 (K0 R3 (pv 3) (K0 Q5 t0 (pv 4))) t0) t0))
    (D0 (U0 (i:=7) nd rfl ab (K0 m4 (K0 Q5 (pv 7) (pv 7)) t0))
    (D0 (U0 (i:=7) nd rfl ab (K0 m4 (K0 R3 (K0 Q5 (pv 7) t0) (pv 4)) t0))
    (I0 (Z3 (X4 PySem.F.plainAttrs_list PySem.F.slot_list_append PySem.F.type_list_append L6 (pv 2) (f0 (K0 m4 (K0 R7 (K0 m4 (K0 Q5 (pv 7) (pv 7)) t0) t0) t0) i0))))))))
  (I0 (O0 (pv 2))))))),?_⟩
 refine T1 h λss Q' q B hK=>?_;refine exS2 ss q λns many a=>?_;have z:=a.1;have Y:=a.2.1;have Z:=a.2.2.1;have k:=a.2.2.2;clear a q;show EvS B _ _ [some (.scr ns),some (.st (.int many)),none,none,none,none,none,none];row_cond go;have L:(cutD (ns.map PyData.int) none (some 63)).length<=63:=W1 gS (by simpa using z)
 refine⟨λi e=>∃ v u y p ds bs,e=[some (.scr ns),some (.st (.int many)),some (.own (OL (ds.map .int))),some (.st (.int bs)),v,u,y,p]/\0<=bs/\bs<2147483629/\DrawsOk ds/\(ds.length:Int)<=2 * i+many,
  ⟨none,none,none,none,[],7,rfl,by lia,by lia,λx I=>by simp at I,by simp;lia⟩,?_,?_⟩
 ·rintro i d e hd b;refine exS6 e b λv u y p ds bs a=>?_;have b0:=a.1;have b1:=a.2.1;have r:=a.2.2.1;have j:=a.2.2.2;clear a b;obtain⟨x,I,rfl⟩:=cE hd;have hi:i<63:=L4 (N1.mp I).1 L;obtain⟨c,_,rfl⟩:=X0.mp (SO (i3 I));row_cond go;have G:0<=(if c<0 then -c else c):=by split <;> lia
  generalize (if c<0 then -c else c)=num0 at G;refine L5 (λR=>?_) (λa0=>?_)
  ·row_cond go;refine OB (λm e=>∃ g ds,e=[some (.scr ns),some (.st (.int many)),some (.own (OL (ds.map .int))),some (.st (.int ((bs * 31+num0) % 2147483629))),some (.st (.int (i:Int))),some (.st (.int c)),some (.st (.int g)),p]/\0<=g/\DrawsOk ds/\(ds.length:Int)<=2 * i+many/\m=g.toNat) ⟨_,num0,ds,rfl,G,r,j,rfl⟩ ?_;rintro m e b;refine exS2 e b λg ds a=>?_;have n0:=a.1;have r:=a.2.1;have j:=a.2.2.1;have O:=a.2.2.2;clear a b;subst O;row_cond go;refine L5 (λW=>?_) (λW=>?_)
   ·row_cond go;rw[R0];refine L5 (λU=>?_) (λU=>?_)
    ·row_cond go;refine⟨(g / 10007).toNat,by lia,g / 10007,ds++[g % 10007],by simp,by lia,r.snoc (by lia) (by lia),by simp;lia,rfl⟩
    ·row_cond go;exact⟨_,_,_,_,ds,_,rfl,by lia,by lia,r,by push_cast;lia⟩
   ·row_cond go;exact⟨_,_,_,_,ds,_,rfl,by lia,by lia,r,by push_cast;lia⟩
  ·row_cond go;rw[gE,gE];refine⟨_,_,_,_,_,_,rfl,by lia,by lia,(r.snoc (by lia) (by lia)).snoc (by lia) (by lia),by simp;lia⟩
 ·rintro e b;refine exS6 e b λv u y p ds bs a=>?_;have b0:=a.1;have b1:=a.2.1;have r:=a.2.2.1;have j:=a.2.2.2;clear a b;rw[T9] at j;row_cond go;rw[R0];have S:(ds.length:Int)<=1126:=by lia
  row_cond go;refine Z8 (λi e=>∃ v u y p es,e=[some (.scr ns),some (.st (.int many)),some (.own (OL (es.map .int))),some (.st (.int bs)),v,u,y,p]/\DrawsOk es/\es.length=ds.length+i) ⟨_,_,_,_,ds,rfl,r,rfl⟩ ?_ ?_
  ·rintro i e hi b;refine exS5 e b λv u y p es a=>?_;have N:=a.1;have M:=a.2;clear a b;have X:(i:Int)<1000:=by lia
   row_cond go;rw[gE];exact⟨_,_,_,_,_,rfl,N.snoc (by lia) (by lia),by simp;lia⟩
  ·rintro e b;refine exS5 e b λv u y p es a=>?_;have N:=a.1;have M:=a.2;clear a b;row_cond go;exact k es (by lia) (by lia) N
def StQ:Type:={ q:List Int × Int // 1<=q.1.length/\q.1.length<=3000 }
def stD(q:StQ):List PyData:=[.list (q.1.1.map .int),.int q.1.2]
def qQ:VIo:=λA ss Q=>∃(q:StQ)(many:Int),A=OL (stD q)/\ss=[.st (.int many)]/\0<many/\many<1073741824/\∀(r:Int)(q':StQ),0<=r->r<many->Q (OL (stD q')) (.st (.int r))
theorem sc_law_take:FnScope ["store","many"] ["store","many"] (S0 s_law_take):=by row_cond sc
theorem HP(T:Txt K mg):Can P w K mg base "_law_take" 1 ["store","many"] (spI K (qQ)):=by
 obtain⟨f,fd,D⟩:=T.dq;refine D.can (D.fn.ok sc_law_take (λvs H Q E h=>lenI h λA ss Q' q=>by obtain⟨q,many,rfl,rfl,b,g,k⟩:=q;rfl) (λcdv A outer s H vs Q E m h=>?_));have nd:=sc_law_take.nd
 refine⟨_,(D0 (U4 (K0 R3 (P0 Q0 (pv 0) t0 (λ_ _=>rfl)) t0) (LE (pv 0) t0 OE))
  (I0 (O0 (K0 m4 (P0 Q0 (P0 Q0 (pv 0) t0 (λ_ _=>rfl)) (K0 m4 (K0 k6 (P0 Q0 (pv 0) t0 (λ_ _=>rfl)) t0) (Z0 E4 (by rfl) T.aV p4 (f0 (P0 Q0 (pv 0) t0 (λ_ _=>rfl)) i0))) (λ_ _=>rfl)) (pv 1))))),?_⟩
 refine i7 h λo ss Q' q B j=>?_;obtain⟨⟨⟨ds,t⟩,c,a⟩,many,rfl,rfl,b,g,k⟩:=q;show EvS B _ _ [some (.io (OL [.list (ds.map .int),.int t])),some (.st (.int many))];simp only at c a;obtain⟨x,l⟩:∃ x,M1 (ds.map PyData.int) ((t+1-1) % (((ds.map PyData.int).length:Nat):Int))=some (.int x):=by
  have d:=cA (t+1-1) (show((((ds.map PyData.int).length:Nat):Int)) ≠ 0 by rw[R0];lia);have e2:=yA (t+1-1) (show 0<((((ds.map PyData.int).length:Nat):Int)) by rw[R0];lia);obtain⟨y,i⟩:∃ y,ds[((t+1-1) % (((ds.map PyData.int).length:Nat):Int)).toNat]?=some y:=⟨_,Y0 (by rw[R0] at d e2 ⊢;lia)⟩
  exact⟨y,t6 d (by rw[L1,i];rfl)⟩
 have n:0<(((ds.map PyData.int).length:Nat):Int):=by rw[R0];lia
 row_cond go;exact k _ ⟨(ds,t+1),c,a⟩ (cA _ (by lia)) (yA _ b)
def OSt:Own:=exO λq:StQ=>OL (stD q)
theorem XJ(h:spI K (λA ss Q=>A=OSt/\∀ q,f (OL (stD q)) ss λA' s=>(∃ q,A'=OL (stD q))/\Q OSt s) vs H Q E):spI K f vs H Q E:=by
 obtain⟨v0,c,G,R,A,ss,F0,Q',rfl,gh,ft,d,ap,fg,fr,a,⟨rfl,hf⟩,g⟩:=h;obtain⟨q,ap⟩:=ap;refine⟨v0,c,G,R,OL (stD q),ss,F0,_,rfl,gh,ft,d,ap,fg,fr,a,hf q,λA' s b v G' H' F' Fv o=>?_⟩;obtain⟨⟨i,rfl⟩,z⟩:=b;exact g OSt s z v G' H' F' Fv { o with ap:=⟨i,o.ap⟩ }
theorem JO(c:Can P w K mg base x k ps sp)(h:∀ vs H Q E,a vs H Q E->sp vs H Q E):Can P w K mg base x k ps a:=by
 obtain⟨f,fd,ok,m,kp,b⟩:=c;exact⟨f,fd,ok.imp h,m,kp,b⟩
def CN:VIo:=λA ss Q=>∃ many:Int,A=OSt/\ss=[.st (.int many)]/\0<many/\many<1073741824/\∀ r:Int,0<=r->r<many->Q OSt (.st (.int r))
theorem eM(hf:∀ A ss Q',f A ss Q'->a A ss Q')(h:spI K f vs H Q E):spI K a vs H Q E:=by
 obtain⟨v0,c,G,R,A,ss,F0,Q',rfl,gh,ft,d,ap,fg,fr,b,q,g⟩:=h;exact⟨v0,c,G,R,A,ss,F0,Q',rfl,gh,ft,d,ap,fg,fr,b,hf _ _ _ q,g⟩
theorem WM{B:Bs}{t:TS}{D':VEnds}{env:En}{ds:List Int}{u:Int}(i:Nat)(b:1<=ds.length)(a:ds.length<=3000)(e:env[i]?=some (some (.own (OL [.list (ds.map .int),.int u]))))(q:EvS B t D' (env.set i (some (.own OSt)))):EvS B t D' env:=λσ G H F D I r=>q σ G H F D (I.weakO e λ_ _ _ _ h=>⟨⟨(ds,u),b,a⟩,h⟩) r
theorem Y4(T:Txt K mg):Can P w K mg base "_law_take" 1 ["store","many"] (spI K (CN)) :=
 JO (HP T) λvs H Q E h=>XJ (eM (λA ss Q' q=>by
  obtain⟨many,rfl,rfl,b,a,k⟩:=q;exact⟨rfl,λq=>⟨q,many,rfl,rfl,b,a,λr c r0 d=>⟨⟨c,rfl⟩,k r r0 d⟩⟩⟩) h)
structure TreeT(n:Int)(ps:List (Int × Int)):Prop where
 len:(ps.length:Int)=n-1
 at':∀(i:Nat) p,ps[i]?=some p->0<=p.1/\p.1<p.2/\p.2=(i:Int)+1
theorem XH{α β:Type}(f : α->β):∀(l:List α)(k:Nat),(l.map f).eraseIdx k=(l.eraseIdx k).map f
 |[],_=>rfl
 |_::_,0=>rfl
 |a::l,k+1=>by simp[XH f l k]
theorem PR{j:Int}{n:Nat}(b:0<=j)(a:j<n):seqIndex? j n=some j.toNat:=by unfold seqIndex?;simp;lia
theorem PJ{left:List Int}{k:Nat}{y:Int}(a:left[k]?=some y):(left.map PyData.int)[k]?=some (.int y):=by rw[L1,a];rfl
structure TreeW(n:Int)(es:List (Int × Int)):Prop where
 web:WebOk n es
 len:(es.length:Int)=n-1
 conn:Conn n (Tied es)
theorem TreeT.conn(h:TreeT n ps):Conn n (Tied ps):=Tr.conn λk c d=>by
 have a:(k-1).toNat<ps.length:=by have:=h.len;lia
 have b:=h.at' (k-1).toNat _ (Y0 a);refine⟨ps[(k-1).toNat].1,b.1,by lia,?_⟩;have:(ps[(k-1).toNat].1,k)=ps[(k-1).toNat]:=Prod.ext rfl (by simp only;lia);rw[this];exact U7 a
structure JWeb(n:Int)(es:List (Int × Int)):Prop where
 lo:1<=n
 hi:n<=60
 ps:PsOk n es
 conn:Conn n (Tied es)
theorem eH(h:PsOk n ps)(a:0<=p.1/\p.1<p.2/\p.2<n):PsOk n (addP ps p):=⟨vP h.nd,λx b=>by
 rcases addP_mem.mp b with z|rfl
 ·exact h.inn x z
 ·exact a⟩
theorem jS(d:Order n a)(b:0<=p.1/\p.1<p.2/\p.2<n):0<=(reP a p).1/\(reP a p).1<(reP a p).2/\(reP a p).2<n:=by
 have:PsOk n [p]:=⟨by simp,λr c=>by rw[O2.mp c];exact b⟩
 exact(this.re d).inn (reP a p) (by simp)
theorem DM(d:Order n c)(a0:0<=a)(a1:a<b)(b1:b<n):((if V2 c a<V2 c b then V2 c a else V2 c b),(if V2 c a > V2 c b then V2 c a else V2 c b))=reP c (a,b):=by
 have:=d.ne a0 (by lia) (by lia) b1 (show a ≠ b by lia);unfold reP;simp only;split <;> split <;> first|rfl|lia
def oT:VIo:=λA ss Q=>∃ most:Int,A=OSt/\ss=[.st (.int most)]/\1<=most/\most<=60/\∀(n:Int)(es:List (Int × Int)),JWeb n es->Rise es->n<=most->Q OSt (.st (webD n es))
theorem sc_law_web:FnScope ["store","most","x","n","way","row","left","ties","k","y","head","a","b"] ["store","most"] (S0 s_law_web):=by row_cond sc
theorem rL(T:Txt K mg):Can P w K mg base "_law_web" 2 ["store","most"] (spI K (oT)):=by
 obtain⟨f,fd,D⟩:=T.du;obtain⟨a3,S⟩:=T.dX;have O:=S.mgx;have a8:=T.dY _ O;refine D.can (D.fn.ok sc_law_web (λvs H Q E h=>lenI h λA ss Q' q=>by obtain⟨most,rfl,rfl,m0,m1,k⟩:=q;rfl) (λcdv A outer s H vs Q E W h=>?_));have nd:=sc_law_web.nd
 refine⟨_,(D0 (U0 (i:=2) nd rfl ab (G0 (Y4 T) W (f0 (pv 0) (f0 t0 i0))))
  (D0 (U0 (i:=3) nd rfl ab (K0 R3 t0 (K0 m4 (pv 2) (pv 1))))
  (D0 (U0 (i:=4) nd rfl ab (K0 m4 (K0 R7 (pv 2) (pv 1)) t0))
  (D0 (U0 (i:=5) nd rfl ab (EH rfl T.av rfl T.aq rfl (f0 (pv 3) i0)))
  (D0 (Z1 (R1 j6 (G0 (Y4 T) W (f0 (pv 0) (f0 t0 i0))) t0 (C1 _))
   (D0 (U0 (i:=6) nd rfl (Or.inr rfl) (EH rfl T.av rfl T.aq rfl (f0 (pv 3) i0)))
    (I0 (P9 (i:=5) nd rfl ab rfl (N:=["k","left","store"]) (src:=[none,some 6,some 0]) (by exact z3 rfl rfl rfl rfl rfl rfl) (R5 rfl T.aq (f0 (pv 3) i0)) (λ_ _ _ _=>(T0 (i:=0) (show List.Nodup (["k","left","store"]:List Str) by decide +kernel) rfl ab (hf:=Or.inr rfl))) (λ_ _ _ _=>v3) (λ_ _ _ _=>(show PE _ _ (tBM K "list" bC _ _) from(X4 PySem.F.plainAttrs_list PySem.F.slot_list_pop PySem.F.type_list_pop UT (pv 1) (f0 (G0 (Y4 T) W (f0 (pv 2) (f0 (Z0 (show C2 _ (.builtin "len") (rLen K) from E4) (by rfl) T.aV p4 (f0 (pv 1) i0)) i0))) i0)))))))
   A2)
  (D0 (U0 (i:=7) nd rfl ab JJ)
  (D0 (J6 t5 rfl (xD rfl T.aq (f0 t0 (f0 (pv 3) i0))) (T0 (i:=8) nd rfl ab)
   (D0 (U0 (i:=9) nd rfl ab (G0 (Y4 T) W (f0 (pv 0) (f0 t0 i0))))
    (D0 (U0 (i:=10) nd rfl ab (P0 Q0 (T3 (f0 (K0 k6 (pv 8) t0) (f0 t0 (f0 (K0 m4 (pv 9) (pv 8)) (f0 (Z0 (GC rfl) (by rfl) T.ag o6 (f0 t0 (f0 (K0 k6 (K0 k6 (pv 8) t0) (K0 m4 (pv 9) t0)) i0))) (f0 (K0 R7 (pv 8) t0) i0)))))) (pv 4) (λ_ _=>rfl)))
    (I0 (ZE (jD W) (pv 7) (n3 (f0 (Z0 (BD rfl) (by rfl) T.ah cC (f0 (P0 Q0 (pv 5) (pv 8) (λ_ _=>rfl)) (f0 (P0 Q0 (pv 5) (pv 10) (λ_ _=>rfl)) i0))) (f0 (Z0 (GC rfl) (by rfl) T.ag o6 (f0 (P0 Q0 (pv 5) (pv 8) (λ_ _=>rfl)) (f0 (P0 Q0 (pv 5) (pv 10) (λ_ _=>rfl)) i0))) i0))) t3 rfl)))))
  (D0 (J6 t5 rfl (R5 rfl T.aq (f0 (P0 Q0 (T3 (f0 t0 (f0 t0 (f0 t0 (f0 (K0 R7 (pv 3) t0) (f0 (pv 3) i0)))))) (G0 (Y4 T) W (f0 (pv 0) (f0 t0 i0))) (λ_ _=>rfl)) i0)) (T0 (i:=8) nd rfl ab)
   (D0 (U0 (i:=11) nd rfl ab (G0 (Y4 T) W (f0 (pv 0) (f0 (pv 3) i0))))
    (D0 (U0 (i:=12) nd rfl ab (G0 (Y4 T) W (f0 (pv 0) (f0 (pv 3) i0))))
    (I0 (Z1 (R1 zA (pv 11) (pv 12) (C1 _))
     (I0 (ZE (jD W) (pv 7) (n3 (f0 (Z0 (BD rfl) (by rfl) T.ah cC (f0 (pv 11) (f0 (pv 12) i0))) (f0 (Z0 (GC rfl) (by rfl) T.ag o6 (f0 (pv 11) (f0 (pv 12) i0))) i0))) t3 rfl))
     A2)))))
  (I0 (O0 (n3 (f0 (pv 3) (f0 (Z0 (dR rfl) (by rfl) T.aj hA (f0 (pv 7) i0)) i0))))))))))))),?_⟩
 refine i7 h λA0 ss Q' q B hK=>?_;obtain⟨most,rfl,rfl,m0,m1,k⟩:=q;show EvS B _ _ [some (.io OSt),some (.st (.int most)),none,none,none,none,none,none,none,none,none,none,none];row_cond go;refine⟨10007,rfl,rfl,by lia,by lia,λx x0 x1=>?_⟩;have v0:=cA x (show most ≠ 0 by lia);have v1:=yA x (show 0<most by lia);row_cond go;obtain⟨n,hn,n0,n1,n2⟩:∃ n,1+x % most=n/\1<=n/\n<=most/\n<=60:=⟨_,rfl,by lia,by lia,by lia⟩
 rw[hn];row_cond go;refine⟨2,rfl,rfl,by lia,by lia,λr2 c1 b9=>?_⟩
 rename_i c_ hc_
 refine' cutR (R:=∀(g:List Int) v6,Order n g->EvS B c_ { nx:=λe=>∃ A',e[0]?=some (some (Sl.io A'))/\Q' A' (Sl.st PyData.none),rt:=λs e=>∃ A',e[0]?=some (some (Sl.io A'))/\Q' A' s } [some (.io OSt),some (.st (.int most)),some (.st (.int x)),some (.st (.int n)),some (.st (.int (x / most % 5))),some (.st (.list (g.map .int))),v6,none,none,none,none,none,none]) (λR=>?K1) ?K2
 case K1 =>
  row_cond go;refine L5 (λh=>?_) (λh=>?_)
  ·row_cond go;refine⟨λj ys e=>∃(o:Option PyData)(g left:List Int),e=[stO o,some (.io (OL (left.map .int))),some (.io OSt)]/\ys=g.map .int/\g.length=j/\Order n (g++left),⟨none,[],(List.range n.toNat).map λ(i:Nat)=>(i:Int),by rw[← RG];rfl,rfl,rfl,Order.id n⟩,?_,?_,?_⟩
   ·rintro i ys e c;refine exS3 e c λo g left a=>?_;have b7:=a.1;have X:=a.2.1;have M:=a.2.2;clear a c;exact⟨⟨isIo_stO.symm,R8⟩,⟨rfl,rfl⟩,⟨rfl,rfl⟩,True.intro⟩
   ·rintro i d ys e hd ⟨o,g,left,rfl,rfl,X,M⟩ B' hB;obtain⟨hi,rfl⟩:=C9 hd;have a6:left.length=n.toNat-i:=by have:=M.len;simp at this;lia
    refine P3 (B8 ?_);rw[q0 rfl];show Ev B' _ [some (.st (.int (0+(i:Int)))),some (.io (OL (left.map .int))),some (.io OSt)] _;row_cond go;rw[R0];refine⟨(left.length:Int),rfl,rfl,by lia,by lia,λr r0 r1=>?_⟩;obtain⟨y,hy⟩:∃ y,left[r.toNat]?=some y:=⟨_,Y0 (show r.toNat<left.length by lia)⟩
    refine⟨_,left.map .int,r,r.toNat,.int y,rfl,rfl,.inr rfl,by lia,by lia,PR r0 (by rw[R0];exact r1),PJ hy,by rw[R0];lia,some (.int (0+(i:Int))),g++[y],left.eraseIdx r.toNat,?_,by rw[N4];rfl,by rw[f3,X];rfl,rO M hy⟩;rw[XH];rfl
   ·rintro ys e c;refine exS3 e c λo g left a=>?_;have a9:=a.1;have X:=a.2.1;have M:=a.2.2;clear a c;subst a9;have a6:left=[]:=by rw[M7] at X;have:=M.len;simp at this;exact List.length_eq_zero_iff.mp (by lia)
    subst a6;rw[m5] at M;refine n5 w4 ?_;repeat (first|exact R _ _ M|row_cond st)
  ·rw[RG];refine ED 5 rfl w4 ?_;row_cond qc;repeat (first|exact R _ _ (Order.id n)|row_cond st)
 case K2 =>
  intro g v6 M;have a4:∀ j:Int,0<=j->j<n->M1 (g.map PyData.int) j=some (.int (V2 g j)):=λj j0 j1=>t6 j0 (by rw[L1,(M.at j0 j1).1];rfl);have w0:=cA (x / most) (show(5:Int) ≠ 0 by lia);have w1:=yA (x / most) (show 0<(5:Int) by lia);generalize x / most % 5=way at w0 w1;row_cond go;rw[dS];refine Z8 (λi e=>∃ Z v9 J L I l ps,e=[some (.io OSt),some (.st (.int most)),some (.st (.int x)),some (.st (.int n)),some (.st (.int way)),some (.st (.list (g.map .int))),v6,some (.own (OT (kE ps))),Z,v9,J,L,I]/\PsOk n ps/\ps.length<=i/\l.length=i/\(∀(j:Nat) p,l[j]?=some p->0<=p.1/\p.1<p.2/\p.2=(j:Int)+1)/\∀ p∈l,reP g p∈ps) ⟨_,_,_,_,_,[],[],rfl,⟨List.nodup_nil,λp C=>by cases C⟩,M0 _,rfl,λj p h=>by simp at h,λp C=>by cases C⟩ ?_ ?_
  ·rintro i e hi c;refine exS7 e c λZ v9 J L I l ps a=>?_;have U:=a.1;have hL:=a.2.1;have a5:=a.2.2.1;have a2:=a.2.2.2.1;have G:=a.2.2.2.2;clear a c;have a0:1+(i:Int)<n:=by lia
   have ek:=a4 (1+(i:Int)) (by lia) a0;have b2:(kE ps).length<=999999:=by rw[RH];lia
   row_cond go;refine⟨10007,rfl,rfl,by lia,by lia,λy y0 y1=>?_⟩;have z0:=cA y (show 1+(i:Int) ≠ 0 by lia);have z1:=yA y (show 0<1+(i:Int) by lia);obtain⟨hd,b6,Y,a1⟩:∃ hd:Int,M1 [PyData.int (1+(i:Int)-1),PyData.int 0,PyData.int (y % (1+(i:Int))),PyData.int (if 1+(i:Int)-1-y % 3 > 0 then 1+(i:Int)-1-y % 3 else 0),PyData.int ((1+(i:Int)) / 2)] way=some (.int hd)/\0<=hd/\hd<1+(i:Int):=by
    rcases(show way=0\/way=1\/way=2\/way=3\/way=4 by lia) with rfl|rfl|rfl|rfl|rfl
    ·exact⟨_,rfl,by lia,by lia⟩
    ·exact⟨_,rfl,by lia,by lia⟩
    ·exact⟨_,rfl,by lia,by lia⟩
    ·exact⟨_,rfl,by split <;> lia,by split <;> lia⟩
    ·exact⟨_,rfl,by lia,by lia⟩
   have eh:=a4 hd Y (by lia);row_cond go;rw[DD,DM M Y a1 a0];refine⟨_,_,_,_,_,l++[(hd,1+(i:Int))],_,rfl,eH U (jS M ⟨Y,a1,a0⟩),W1 xH (by lia),by rw[f3,a5];rfl,λj p C=>?_,λp C=>?_⟩
   ·by_cases hj:j<l.length
    ·rw[f8 hj] at C;exact a2 j p C
    ·have b4:=(N1.mp C).1;simp at b4;have:j=l.length:=by lia
     subst this;rw[F7 (M0 _),dA] at C;cases C;exact⟨Y,a1,by simp only;lia⟩
   ·rcases Q1.mp C with z|z
    ·exact addP_mem.mpr (.inl (G p z))
    ·rw[O2.mp z];exact addP_mem.mpr (.inr rfl)
  ·rintro e c;refine exS7 e c λZ v9 J L I l ps a=>?_;have U:=a.1;have hL:=a.2.1;have a5:=a.2.2.1;have a2:=a.2.2.2.1;have G:=a.2.2.2.2;clear a c;have b3:TreeT n l:=⟨by lia,a2⟩
   have hC:=b3.conn.re M;row_cond go;refine⟨5,rfl,rfl,by lia,by lia,λb b0 b1=>?_⟩;obtain⟨m',c3,b8,c0⟩:∃ m:Int,M1 [PyData.int 0,PyData.int 1,PyData.int 2,PyData.int (n / 2),PyData.int n] b=some (.int m)/\0<=m/\m<=61:=by
    rcases(show b=0\/b=1\/b=2\/b=3\/b=4 by lia) with rfl|rfl|rfl|rfl|rfl <;> exact⟨_,rfl,by lia,by lia⟩
   row_cond go;refine Z8 (λi e=>∃ Z v9 J L I ps,e=[some (.io OSt),some (.st (.int most)),some (.st (.int x)),some (.st (.int n)),some (.st (.int way)),some (.st (.list (g.map .int))),v6,some (.own (OT (kE ps))),Z,v9,J,L,I]/\PsOk n ps/\ps.length<=60+i/\∀ p∈l,reP g p∈ps) ⟨_,_,_,_,_,ps,rfl,U,by lia,G⟩ ?_ ?_
   ·rintro i e hi c;refine exS6 e c λZ v9 J L I ps a=>?_;have U:=a.1;have hL:=a.2.1;have G:=a.2.2;clear a c;have b2:(kE ps).length<=999999:=by rw[RH];lia
    row_cond go;refine⟨n,rfl,rfl,by lia,by lia,λba c2 c4=>?_⟩;row_cond go;refine⟨n,rfl,rfl,by lia,by lia,λbb b5 c5=>?_⟩;row_cond go;refine DP (λh=>?_) (λh=>?_)
    ·row_cond go;rw[DD];exact⟨_,_,_,_,_,_,rfl,eH U (by simp only;split <;> split <;> lia),W1 xH (by lia),λp C=>addP_mem.mpr (.inl (G p C))⟩
    ·row_cond go;exact⟨_,_,_,_,_,ps,rfl,U,by lia,G⟩
   ·rintro e c;refine exS6 e c λZ v9 J L I ps a=>?_;have U:=a.1;have hL:=a.2.1;have G:=a.2.2;clear a c
    iterate 6 row_cond st
    refine U3 (ZO (.inl rfl) λqs C hs=>p5 ?_);row_cond go;refine k n qs ⟨n0,n2,⟨C.nodup_iff.mpr U.nd,λp a7=>U.inn p (C.mem_iff.mp a7)⟩,hC.mono λu v t=>?_⟩ (nB C U.nd hs) n1;refine t.imp (λz=>C.mem_iff.mpr ?_) (λz=>C.mem_iff.mpr ?_)
    ·obtain⟨q,hq,e⟩:=X0.mp z;rw[← e];exact G q hq
    ·obtain⟨q,hq,e⟩:=X0.mp z;rw[← e];exact G q hq
theorem cH:∀{es ps:List (Int × Int)},p∈es.foldl addP ps ↔ p∈ps\/p∈es
 |[],ps=>by simp
 | e::es,ps=>by
  rw[List.foldl_cons,cH,addP_mem,D1,or_assoc]
structure FreeL(n:Int)(es fs:List (Int × Int)):Prop where
 nd:fs.Nodup
 inn:∀ p∈fs,0<=p.1/\p.1<p.2/\p.2<n/\p ∉ es
def oM:VP:=λss Q=>∃(n:Int)(es:List (Int × Int)),ss=[.st (webD n es)]/\1<=n/\n<=60/\es.length<=5000/\∀ fs,FreeL n es fs->fs.length<=3600->Q (.own (OL (fs.map prD)))
theorem FreeL.len(h:FreeL n es fs)(c:1<=n)(d:n<=60):fs.length<=3600:=by
 have:=BS (n:=n.toNat) h.nd λp b=>by have:=h.inn p b;lia
 have a:n.toNat<=60:=by lia
 exact W1 this (Nat.mul_le_mul a a)
theorem sc_law_free:FnScope ["web","found","there","a"] ["web"] (S0 s_law_free):=by row_cond sc
theorem LO(T:Txt K mg):Can P w K mg base "_law_free" 1 ["web"] (spP K (oM)):=by
 obtain⟨f,fd,D⟩:=T.dv;obtain⟨u,g⟩:=T.dX;have d:=g.mgx;have x:=T.dY _ d;refine D.can (D.fn.ok sc_law_free (λvs H Q E h=>lenP h λss Q' q=>by obtain⟨n,es,rfl,G,I,v,k⟩:=q;rfl) (λcdv A outer s H vs Q E M h=>?_));have nd:=sc_law_free.nd
 refine⟨_,(D0 (U0 (i:=1) nd rfl ab (T3 i0))
  (D0 (U0 (i:=2) nd rfl (Or.inr rfl) (J7 (mQ rfl M.units) (by rfl) T.aw aP (f0 (Q4 rfl (N:=["tie"]) (src:=[none]) (by exact z3 rfl rfl rfl rfl rfl rfl) (S3 (P0 Q0 (pv 0) t0 (λ_ _=>rfl))) (λ_ _ _ _=>(T0 (i:=0) (show List.Nodup (["tie"]:List Str) by decide +kernel) rfl ab (hf:=Or.inr rfl))) (λ_ _ _ _=>v3) (λ_ _ _ _=>(n3 (f0 (pv 0) (f0 t3 i0))))) i0)))
  (D0 (J6 t5 rfl (R5 rfl T.aq (f0 (P0 Q0 (pv 0) t0 (λ_ _=>rfl)) i0)) (T0 (i:=3) nd rfl (Or.inr rfl))
   (I0 (Z3 (X4 PySem.F.plainAttrs_list PySem.F.slot_list_extend PySem.F.type_list_extend dM (pv 1) (f0 (Q4 rfl (N:=["b","a","there"]) (src:=[none,some 3,some 2]) (by exact z3 rfl rfl rfl rfl rfl rfl) (xD rfl T.aq (f0 (K0 R3 (pv 3) t0) (f0 (P0 Q0 (pv 0) t0 (λ_ _=>rfl)) i0))) (λ_ _ _ _=>(T0 (i:=0) (show List.Nodup (["b","a","there"]:List Str) by decide +kernel) rfl ab (hf:=Or.inr rfl))) (λ_ _ _ _=>bA (YJ (HQ (jD M) (n3 (f0 (pv 1) (f0 (pv 0) i0))) (pv 2)))) (λ_ _ _ _=>(n3 (f0 (pv 1) (f0 (pv 0) i0))))) i0)))))
  (I0 (O0 (pv 1)))))),?_⟩
 refine T1 h λss Q' q B X=>?_;refine exS2 ss q λn es c=>?_;have G:=c.1;have I:=c.2.1;have v:=c.2.2.1;have k:=c.2.2.2;clear c q;show EvS B _ _ [some (.st (webD n es)),none,none,none];row_cond go;refine gR ?_;row_cond go;refine⟨es,rfl,by lia,?_⟩;row_cond go;refine Z8 (λi e=>∃ y fs,e=[some (.st (webD n es)),some (.own (OL (fs.map prD))),some (.own (OT (kE (es.foldl addP [])))),y]/\FreeL n es fs/\∀ p∈fs,p.1<(i:Int)) ⟨_,[],rfl,⟨List.nodup_nil,λp m=>by cases m⟩,λp m=>by cases m⟩ ?_ ?_
 ·rintro i e hi l;refine exS2 e l λy fs c=>?_;have r:=c.1;have J:=c.2;clear c l;have W:=r.len G I;row_cond go;unfold rngD;refine ZK (xs:=List.range (n-(0+(i:Int)+1)).toNat) (f:=λj:Nat=>.int (0+(i:Int)+1+(j:Int))) (λj:Nat=>prD ((i:Int),(i:Int)+1+(j:Int))) (λj=>!decide (((i:Int),(i:Int)+1+(j:Int))∈es)) (λo=>rfl) (by simp;lia) (λj C Y S=>?_) ?_
  ·repeat (first|(refine YA (JH (.inr rfl) ?_))|(refine MC (JH (.inr rfl) ?_))|row_cond st)
   refine⟨_,[Sum.inl (0+(i:Int)),Sum.inl (0+(i:Int)+1+(j:Int))],.inr rfl,rfl,_,rfl,?_,rfl,λ_=>?_⟩
   ·rw[QK,u8];congr 2;rw[eq_iff_iff,cH];simp
   ·row_cond go;rw[u8];exact⟨rfl,rfl⟩
  ·row_cond go;refine⟨_,_,rfl,rfl,?_,?_⟩
   ·have:=X7 (λj:Nat=>!decide (((i:Int),(i:Int)+1+(j:Int))∈es)) (List.range (n-(0+(i:Int)+1)).toNat);rw[AB] at this;rw[R0,R0];lia
   ·refine⟨_,fs++((List.range (n-(0+(i:Int)+1)).toNat).filter λj:Nat=>!decide (((i:Int),(i:Int)+1+(j:Int))∈es)).map λj:Nat=>((i:Int),(i:Int)+1+(j:Int)),by rw[N4,v2];rfl,⟨?_,λp m=>?_⟩,λp m=>?_⟩
    ·rw[B7];refine⟨r.nd,List.Pairwise.map _ (λa b (L:a ≠ b) z=>L ?_) (List.Pairwise.filter _ List.nodup_range),λp m q U z=>?_⟩
     ·have:=congrArg Prod.snd z;simp only at this;lia
     ·obtain⟨j,_,rfl⟩:=X0.mp U;have:=J p m;rw[z] at this;simp only at this;lia
    ·rcases Q1.mp m with z|z
     ·exact r.inn p z
     ·obtain⟨j,C,rfl⟩:=X0.mp z;obtain⟨O,R⟩:=i6.mp C;have O:=U1.mp O;exact⟨by simp only;lia,by simp only;lia,by simp only;lia,by simpa using R⟩
    ·rcases Q1.mp m with z|z
     ·have:=J p z
      push_cast
      lia
     ·obtain⟨j,C,rfl⟩:=X0.mp z;show(i:Int)<_
      push_cast
      lia
 ·rintro e l;refine exS2 e l λy fs c=>?_;have r:=c.1;have J:=c.2;clear c l;row_cond go;exact k fs r (r.len G I)
theorem xI:∀{es:List (Int × Int)}{vs:List V},Rps G vs (es.map prD)->∀ n:Int,V.int n ∉ vs
 |[],_,.nil,_=>EA
 | p::es,_,.cons r t,n=>λh=>by
  rcases D1.mp h with h|h
  ·subst h;cases r
  ·exact xI t n h
theorem lR(s:G' i=some (.tup us))(p:G' l=some (.lst vs))(m:∀ n:Int,V.int n ∉ vs)(g:∀ a o,G' a=some o->a ≠ i->a ≠ l->c a=some o)(h:OSt.P G' H' v F):OSt.P c H' v F:=by
 obtain⟨⟨⟨ds,t⟩,j,q⟩,a,xs,e,u,r,f⟩:=h;refine⟨⟨⟨ds,t⟩,j,q⟩,a,xs,e,u,?_,f⟩;cases r with
 | cons r1 r2 =>
  cases r2 with
  | cons r2 r3 =>
   cases r3;cases r2;refine .cons ?_ (.cons (.int _) .nil);cases r1 with
   | @lst b ys _ hb rb =>
    obtain rfl:=Rps.ints_inv rb;refine .lst (g b _ hb ?_ ?_) (Rps.ints ds)
    ·rintro rfl;rw[s] at hb;cases hb
    ·rintro rfl;rw[p] at hb;cases hb;cases ds with
     |nil=>simp at j
     |cons d ds=>exact m d o3
theorem XM(a1:i ≠ j)(h0:∃ s,env[i]?=some (some s))(h1:∃ s,env[j]?=some (some s))(h:EvA B t env λds R=>∃ s0,R[i]?=some (some s0)/\(s0=.own OSt\/s0=.io OSt)/\Has R j (OW (.int n) (es.map prD)) /\
  f OSt (.st (webD n es)::ds.map Sl.st) λA' s=>A'=OSt/\∃ b:Bool,s=.st (.bool b)/\QO (.st (.bool b)) R):EvO B (M3 (spI K f) [] E (Y1 (tVar i) (Y1 (tVar j) t))) env QO:=λσ G H F Q I k=>by
 unfold M3;simp only[m5];obtain⟨s,e⟩:=h0;obtain⟨v0,hv,_⟩:=I.sl i _ e;obtain⟨s',e'⟩:=h1;obtain⟨w0,hw,_⟩:=I.sl j _ e';refine⟨v0,hv,w0,hw,h σ G H F _ I λvs N d C ds R p g1 r1 ⟨s0,W,hs,hj,q1⟩=>?_⟩;obtain⟨v',U,q⟩:=p.sl i _ W;rw[hv] at U;cases U;have ap:OSt.P N d v0 (C i):=by
  rcases hs with rfl|rfl
  ·exact q.1
  ·exact q.1
 obtain⟨w',T,wp⟩:=p.has hj;rw[hw] at T;cases T;have js:=V4 (H:=d) (p.fg j);have wr:=z9 _ _ _ _ wp (p.fg j) p.gh;obtain⟨tt,l,u,ws,rfl,k1,a3,k2,a2,kf⟩:=wp;let inv:Nat->Option Nat:=λm=>if m=i then some 0 else none
 have g:inv i=some 0:=q0 rfl;have r:∀ m,m ≠ i->inv m=none:=λm h=>o0 h;have c:∀ m l,inv m=some l->m=i/\l=0:=λm l h=>by
  by_cases hm:m=i
  ·subst hm;rw[g] at h;cases h;exact⟨rfl,rfl⟩
  ·rw[r m hm] at h;cases h
 have Z:∀ a,C i a->¬ C j a:=λa z y=>a1 (p.fd i j a z y);refine⟨v0,.ref tt::vs,jn N d (C j),u4 d C inv,OSt,_,C i,_,rfl,wA p.gh,λa ks e=>js _ _ (p.ft a ks e),D7,OSt.mono ap js λa o _ e=>e,λa z=>by rw[I7 (Z a z)];exact p.fg i a z,λa z=>JA g z,.cons (s:=.st (webD n es)) wr (ArgsOk.of (r1.same js)),q1,λA' s q v G' H' F' Fv o=>?_⟩;obtain⟨rfl,b,rfl,q⟩:=q;have rv:=o.ok.1;cases rv;have old:∀ a u,N a=some u->d a ≠ none:=λa u e z=>by rw[p.gh a u e] at z;cases z
 let M:Hp:=λa=>if d a=none then G' a else N a
 have O:∀ a,d a=none->M a=G' a:=λa h=>q0 h;have A:∀ a,d a ≠ none->M a=N a:=λa h=>o0 h;have Y:Same M H':=λa u e=>by
  by_cases h:d a=none
  ·rw[O a h] at e;exact o.gh a u e
  ·rw[A a h] at e;refine o.rs a u ?_;rw[K9 λm l hm z=>?_]
   ·exact p.gh a u e
   ·rw[(c m l hm).1] at z;rw[p.fg i a z] at e;cases e
 have gg:Same N M:=λa u e=>by rw[A a (old a u e)];exact e
 have gn:∀ a u,M a=some u->N a=some u\/d a=none:=λa u e=>by
  by_cases h:d a=none
  ·exact .inr h
  ·rw[A a h] at e;exact .inl e
 have a0:FT M H':=λa ks e=>by
  have e2:=o.ft a ks e;by_cases h:d a=none
  ·rw[O a h];exact e2
  ·rw[A a h];rcases o.gn a _ e2 with D|D
   ·by_cases hf:C j a
    ·rw[u6 hf] at D;exact p.ft a ks D
    ·rw[I7 hf] at D;exact D
   ·exact absurd D h
 have jt:(jn N d (C j)) tt=some (.tup [u,.ref l]):=by rw[u6 ((kf tt).mpr (.inl rfl))];exact k1
 have jl:(jn N d (C j)) l=some (.lst ws):=by rw[u6 ((kf l).mpr (.inr rfl))];exact k2
 have S:OSt.P M H' v0 F':=lR (o.gg _ _ jt) (o.gg _ _ jl) (xI a2) (λa w e n1 n2=>by
  by_cases h:d a=none
  ·rw[O a h];exact e
  ·rw[A a h];rcases o.gn a _ e with D|D
   ·rw[I7 (λz=>by rcases(kf a).mp z with z|z;exact n1 z;exact n2 z)] at D;exact D
   ·exact absurd D h) o.ap
 have X:∀ a,F' a->M a=none:=λa z=>by
  by_cases h:d a=none
  ·rw[O a h];exact o.fg a z
  ·rw[A a h];rcases o.fi a z with y|y
   ·exact p.fg i a y
   ·exact absurd y h
 have J:VI ⟨K,N,d,u4 d C inv,[some v0],λm a=>m=0/\C i a⟩ M H' [some v0] [some (.io OSt)] (λm a=>m=0/\F' a):=by
  refine⟨Y,gg,gn,o.rs,D7,o.bh,λm a z=>X a z.2,λm a z=>?_,λm l a y z=>by rw[y.1,z.1],λm a z=>OSt.dom S a z.2,λm s e=>?_,rfl,a0⟩
  ·rcases o.fi a z.2 with y|y
   ·exact JA g y
   ·cases e:u4 d C inv a with
    |none=>exact e
    |some u=>rw[D7 a u e] at y;cases y
  ·cases m with
   | zero =>
    simp at e;subst e;refine⟨v0,rfl,?_,λa z=>?_,rfl⟩
    ·have:(λa=>0=0/\F' a)=F':=by funext a;simp
     rw[this];exact S
    ·rcases o.fi a z.2 with y|y
     ·exact .inl ⟨rfl,y⟩
     ·exact .inr y
   |succ m=>simp at e
 have L:=p.leave (inv:=inv) (env2:=R) (λa b j ha hb=>by rw[(c a j ha).1,(c b j hb).1]) rfl rfl (λa u e n=>by show u4 d C inv a=_;rw[K9 n];exact e)
  (λa j ha x z=>by rw[(c a j ha).1];exact z.2) (λa j ha=>by rw[(c a j ha).1,(c a j ha).2,hv];rfl) J (λa j ha=>⟨OSt,by rw[(c a j ha).2];rfl⟩) rfl λm s' e5=>by
   by_cases hm:m=i
   ·rw[hm,W] at e5;cases e5;subst hm;refine .inr ⟨0,OSt,OSt,g,rfl,?_⟩;rcases hs with rfl|rfl
    ·exact .inl ⟨W,rfl⟩
    ·exact .inr ⟨W,rfl⟩
   ·exact .inl ⟨r m hm,e5⟩
 exact k _ M H' _ Fv (.st (.bool b)) R L (g1.trans gg) ⟨⟨.bl b,λa z=>o.ok.2 a z⟩,λa z=>absurd z (o.ok.2 a),λa z=>absurd z (o.ok.2 a),λa z=>absurd z (o.ok.2 a),λm a z=>absurd z (o.ok.2 a)⟩ q
theorem uO(c:i ≠ j)(o:∃ s,env[i]?=some (some s))(p:∃ s,env[j]?=some (some s))(h:EvA B t env λds a=>∃ s0,a[i]?=some (some s0)/\(s0=.own OSt\/s0=.io OSt)/\Has a j (OW (.int n) (es.map prD)) /\
  f OSt (.st (webD n es)::ds.map Sl.st) λA' s=>A'=OSt/\∃ b:Bool,s=.st (.bool b)/\Q' (.bool b) a):Ev B (M3 (spI K f) [] E (Y1 (tVar i) (Y1 (tVar j) t))) env Q':=U3 (XM c o p λσ G H F Q I k=>h σ G H F Q I λvs G' H' F' ds a q g r ⟨s0,a1,l,m,d⟩=>k vs G' H' F' ds a q g r ⟨s0,a1,l,m,d⟩)
theorem webP(n:Int)(es:List (Int × Int)):E1 (webD n es)=true:=by
 have:=EC es;simp only[webD,E1,plainDs,this,Bool.and_self]
theorem UA(n:Int)(es:List (Int × Int)):(webD n es).depth<=60:=by
 have h:PyData.depthAll (es.map prD)<=1:=V9 λd hd=>by
  obtain⟨p,_,rfl⟩:=X0.mp hd;exact RB p
 simp only[webD,PyData.depth,PyData.depthAll];lia
theorem MB(h:FarOk n es x a b)(g:FarOk n es d f c):d=x:=by
 have j:=h.top.2 f c g.a0 (by have:=g.a1;lia) g.b0 (by have:=g.b1;lia);have m:=g.eq;have l:=g.top.2 a b h.a0 (by have:=h.a1;lia) h.b0 (by have:=h.b1;lia);have i:=h.eq;lia
theorem ZD(h:FarOk n es x a b)(g:FarOk n es x d c):a=d/\b=c:=by
 have i:=h.fst d c g.a0 g.a1 g.b0 g.b1 g.eq;have f:=g.fst a b h.a0 h.a1 h.b0 h.b1 h.eq;lia
theorem gG(b:Joined n es)(a:0<=u)(c:u<n)(v0:0<=v)(d:v<n)(h:dsF es u v<=0):u=v:=by
 obtain⟨f,hd⟩:=BA b a c v0 d;rw[show(dsF es u v).toNat=0 by lia] at hd;cases hd.1;rfl
theorem wT(g:Joined n es)(a:InN n es)(j:0<=u)(i:u<n)(v0:0<=v)(b:v<n)(h:u ≠ v):∃ p,0<=p/\p<n/\Tied es u p/\dsF es p v=dsF es u v-1:=by
 obtain⟨w,hd⟩:=BA g v0 b j i;obtain⟨k,m⟩:∃ k,(dsF es v u).toNat=k+1:=by
  cases e:(dsF es v u).toNat with
  |zero=>exact absurd (gG g v0 b j i (by lia)).symm h
  |succ k=>exact⟨k,rfl⟩
 rw[m] at hd;have f:=hd.1;cases f with
 | @step _ p _ f t =>
  have r:=t.in a;obtain⟨d,l,c⟩:=Gr.Dist.of_walk f;have x:=XG c;have o:=bN g a v0 b t;have q:=QC es v p;have s:=QC es v u;exact⟨p,by lia,by lia,t.symm,by lia⟩
theorem kM{n:Nat}{m a:Int->Int->Int}(h:matD n m=matD n a){u v:Int}(b:0<=u)(d:u<n)(v0:0<=v)(g:v<n):m u v=a u v:=by
 have c:=m7 (m:=m) b d;rw[h,m7 b d] at c;have i:rowD n (a u)=rowD n (m u):=PyData.list.inj (u3 c);have f:=k9 (r:=m u) v0 g;rw[← i,k9 v0 g] at f;exact(PyData.int.inj (u3 f)).symm
theorem KH(j:Joined n es)(i:InN n es)(hm:matD n.toNat (dsF es)=matD n.toNat m)(s:1<=n):mG n es d m ↔ ∀ u v:Int,0<=u->u<n->0<=v->v<n->dsF es u v<=d:=by
 have e:∀ u v:Int,0<=u->u<n->0<=v->v<n->dsF es u v=m u v:=λu v c g v0 f=>kM hm c (by lia) v0 (by lia);constructor
 ·intro h u v c g v0 f;have l:=h.2 u v c g v0 f;have r:=e u v c g v0 f;by_cases z:u=v
  ·have:=l.1 z;have:=h.1;lia
  ·have:=(l.2 z).2.1;lia
 ·intro h;refine⟨?_,λa b a0 a1 b0 b1=>⟨λz=>?_,λz=>?_⟩⟩
  ·have:=h 0 0 (by lia) (by lia) (by lia) (by lia);rw[HH] at this;exact this
  ·rw[← e a b a0 a1 b0 b1,z,HH]
  ·obtain⟨p,p0,o,t,ep⟩:=wT j i a0 a1 b0 b1 z;rw[← e a b a0 a1 b0 b1];refine⟨?_,h a b a0 a1 b0 b1,p,t,by rw[← e p b p0 o b0 b1];exact ep⟩;have w:=(BA j a0 a1 b0 b1).1;by_cases q:1<=dsF es a b
   ·exact q
   ·exact absurd (gG j a0 a1 b0 b1 (by lia)) z
theorem NO(ns:List Int):plainDs (ns.map .int)=true:=(zC _).mpr λd hd=>by
 obtain⟨x,_,rfl⟩:=X0.mp hd;rfl
theorem eN(a:List (Int × Int))(x:Int):E1 (.tuple [.list (a.map prD),.int x])=true/\(PyData.tuple [.list (a.map prD),.int x]).depth<=60:=by
 constructor
 ·have:=EC a;simp only[E1,plainDs,this,Bool.and_self]
 ·have h:PyData.depthAll (a.map prD)<=1:=V9 λd hd=>by
   obtain⟨p,_,rfl⟩:=X0.mp hd;exact RB p
  simp only[PyData.depth,PyData.depthAll];lia
theorem NF(x:Int)(hs:List Int):E1 (.tuple [.int x,.list (hs.map .int)])=true/\(PyData.tuple [.int x,.list (hs.map .int)]).depth<=60:=by
 constructor
 ·have:=NO hs;simp only[E1,plainDs,this,Bool.and_self]
 ·have h:PyData.depthAll (hs.map PyData.int)<=1:=V9 λd hd=>by
   obtain⟨p,_,rfl⟩:=X0.mp hd;simp[PyData.depth]
  simp only[PyData.depth,PyData.depthAll];lia
theorem NK(ps:List Int):E1 (plD ps)=true:=by
 simp only[E1];rw[zC];intro d hd;obtain⟨x,_,rfl⟩:=X0.mp hd;rfl
theorem oSDp(o:Option (Int × List Int)):E1 (oSD o)=true/\(oSD o).depth<=60:=by
 cases o with
 |none=>exact⟨rfl,by simp[oSD,PyData.depth]⟩
 | some p =>
  refine⟨?_,?_⟩
  ·have:=NK p.2;simp only[E1] at this;simp only[oSD,plD,E1,plainDs,this,Bool.and_self]
  ·have:PyData.depthAll (p.2.map PyData.int)<=0:=V9 λd hd=>by
    obtain⟨x,_,rfl⟩:=X0.mp hd;simp[PyData.depth]
   simp only[oSD,plD,PyData.depth,PyData.depthAll];lia
structure W5(n:Int)(es:List (Int × Int)):Prop where
 web:WebOk n es
 join:Joined n es
 len:es.length<=2000
theorem CO(h:xA n es k d)(g:xA n es k us):d=us:=by
 obtain⟨p,l,a1,b1,j,rfl⟩:=h;obtain⟨m,o,c,f,i,rfl⟩:=g;rw[a1] at c;cases c;rw[(b1.trans f.symm).eq_of_pairwise (λa b _ _ h g=>Int.le_antisymm h g) j i]
theorem OJ(k0:0<=k)(h:StayOk n es k (some (r,ps))):ShowOk n es k r ps:=by
 obtain⟨r0,f,_⟩:=h;simp only at r0 f;obtain⟨b,p⟩:=(U8 _ ps).mp (List.mem_of_head? f);refine⟨k0,r0,by lia,λx o=>by have:=b.inn x o;lia,b.rise,λa ha c l m=>?_⟩;obtain⟨i,hi,rfl⟩:=r8.mp ha;obtain⟨j,g,rfl⟩:=r8.mp l;have d:i<j:=by
  rcases Nat.lt_trichotomy i j with z|z|z
  ·exact z
  ·subst z;lia
  ·have:=t7.mp b.rise j i g hi z;lia
 have:=t7.mp b.far i j hi g d;rw[QC];exact this
theorem xQ(h:StayOk n es k (some (r,ps))):ps.length=(2 * k+2).toNat:=((U8 _ ps).mp (List.mem_of_head? h.2.1)).2
theorem YR(h:ShowOk n es k r ps)(g:Y7 n.toNat (dsF es) x):2 * r+1<=x:=by
 have l:=h.k0;have j:=h.len;obtain⟨a,ha⟩:∃ a,ps[0]?=some a:=⟨_,Y0 (by lia)⟩
 obtain⟨b,hb⟩:∃ a,ps[1]?=some a:=⟨_,Y0 (by lia)⟩
 have c:a<b:=by
  obtain⟨i,rfl⟩:=N1.mp ha;obtain⟨f,rfl⟩:=N1.mp hb;exact t7.mp h.rise 0 1 i f (by lia)
 have d:=i3 ha;have mb:=i3 hb;have:=h.far a d b mb c;have ia:=h.inn a d;have ib:=h.inn b mb;have:=g.2 a b ia.1 (by lia) ib.1 (by lia);lia
def vS:VIo:=λA ss Q=>∃(n:Int)(es:List (Int × Int)),A=OSt/\ss=[.st (webD n es),.st (webD n es)]/\W5 n es/\Q OSt (.st (.bool true))
theorem sc_law_handed_right:FnScope ["store","told","web","k","far","paper","stay"] ["store","told","web"] (S0 s_law_handed_right):=by row_cond sc
theorem YP(T:Txt K mg):Can P w K mg base "_law_handed_right" 12 ["store","told","web"] (spI K (vS)):=by
 obtain⟨f,fd,D⟩:=T.dw;obtain⟨O,F⟩:=T.dX;have C:=F.mgx;have a6:=T.dY _ C;refine D.can (D.fn.ok sc_law_handed_right (λvs H Q E h=>lenI h λA ss Q' q=>by obtain⟨n,es,rfl,rfl,y,kk⟩:=q;rfl) (λcdv A outer s H vs Q E g h=>?_));have nd:=sc_law_handed_right.nd
 refine⟨_,(D0 (U0 (i:=3) nd rfl ab (G0 (Y4 T) g (f0 (pv 0) (f0 t0 i0))))
  (D0 (Z1 (PW.pt (T4 (R1 tD (G0 (bF T) g (f0 (pv 1) i0)) t3 (C1 _)) (T4 (R1 (Z5 g.units) (pv 1) (pv 2) (C1 _)) (J5 (R1 (Z5 g.units) (G0 (lG T) g (f0 (pv 1) i0)) (G0 (lG T) g (f0 (pv 2) i0)) (C1 _))))))
   (I0 (O0 t3))
   A2)
  (D0 (Z1 (PW.pt (T4 (R1 (Z5 g.units) (G0 (YC T) g (f0 (pv 1) (f0 (pv 3) i0))) (G0 (YC T) g (f0 (pv 2) (f0 (pv 3) i0))) (C1 _)) (J5 (R1 (Z5 g.units) (G0 (lH T) g (f0 (pv 1) (f0 (pv 3) i0))) (G0 (lH T) g (f0 (pv 2) (f0 (pv 3) i0))) (C1 _)))))
   (I0 (O0 t3))
   A2)
  (D0 (U0 (i:=4) nd rfl ab (G0 (E7 T) g (f0 (pv 1) i0)))
  (D0 (Z1 (PW.pt (T4 (R1 (Z5 g.units) (pv 4) (G0 (E7 T) g (f0 (pv 2) i0)) (C1 _)) (J5 (R1 zA (G0 (hE T) g (f0 (pv 1) (f0 (P0 Q0 (pv 4) t0 (λ_ _=>rfl)) (f0 (P0 Q0 (pv 4) t0 (λ_ _=>rfl)) i0)))) (P0 Q0 (pv 4) t0 (λ_ _=>rfl)) (C1 _)))))
   (I0 (O0 t3))
   A2)
  (D0 (U0 (i:=5) nd rfl ab (G0 (lL T) g (f0 (pv 1) i0)))
  (D0 (Z1 (R1 tD (G0 (jF T) g (f0 (pv 2) (f0 (P0 Q0 (pv 4) t0 (λ_ _=>rfl)) (f0 (pv 5) i0)))) t3 (C1 _))
   (I0 (O0 t3))
   A2)
  (D0 (Z1 (PW.pt (P7 (R1 LB (P0 Q0 (pv 4) t0 (λ_ _=>rfl)) t0 (C1 _)) (T7 (R1 tD (G0 (jF T) g (f0 (pv 2) (f0 (K0 k6 (P0 Q0 (pv 4) t0 (λ_ _=>rfl)) t0) (f0 (pv 5) i0)))) t3 (C1 _)))))
   (I0 (O0 t3))
   A2)
  (D0 (Z1 (PW.pt (P7 (R1 Y5 (Z0 E4 (by rfl) T.aV p4 (f0 (P0 Q0 (pv 2) t0 (λ_ _=>rfl)) i0)) t0 (C1 _)) (T7 (R1 (Z5 g.units) (G0 (bS T) g (f0 (G0 (LN T) g (f0 (pv 1) i0)) i0)) (pv 2) (C1 _)))))
   (I0 (O0 t3))
   A2)
  (D0 (Z1 (R1 LB (P0 Q0 (pv 2) t0 (λ_ _=>rfl)) t0 (C1 _))
   (I0 (O0 t3))
   A2)
  (D0 (U0 (i:=6) nd rfl ab (G0 (UG T) g (f0 (pv 1) (f0 (pv 3) i0))))
  (D0 (Z1 (R1 (Z5 g.units) (pv 6) (G0 (UG T) g (f0 (pv 2) (f0 (pv 3) i0))) (C1 _))
   (I0 (O0 t3))
   A2)
  (I0 (O0 (rT (S4 wD (pv 6) Z6 (C1 _)) (C6 (U5 (S4 wR (G0 (kP T) g (f0 (pv 2) (f0 (pv 3) (f0 (pv 6) i0)))) t3 (C1 _)) (C6 (S4 J9 (K0 R3 (K0 Q5 t0 (P0 Q0 (pv 6) t0 (λ_ _=>rfl))) t0) (Z0 (GC rfl) (by rfl) T.ag o6 (f0 t0 (f0 (P0 Q0 (pv 4) t0 (λ_ _=>rfl)) i0))) (C1 _)))))))))))))))))))),?_⟩
 refine i7 h λA0 ss Q' q B hK=>?_;obtain⟨n,es,rfl,rfl,y,kk⟩:=q;show EvS B _ _ [some (.io OSt),some (.st (webD n es)),some (.st (webD n es)),none,none,none,none];have hn:=y.web.lo;have N:=y.web.hi;have c:=y.web.in;have l:=y.join;have a8:=y.len;have b2:1<=n.toNat:=by lia
 row_cond go;refine⟨6,rfl,rfl,by lia,by lia,λk k0 k1=>?_⟩;row_cond go;refine⟨n,es,rfl,hn,N,y.web.ps,y.web.rise,by lia,?_⟩;row_cond go;refine zE ?_;row_cond go;refine S5 (webP n es) (webP n es) (UA n es) ?_;rw[X5 (webP n es)];row_cond go;refine⟨n,es,rfl,hn,by lia,c,by lia,l,λx1 ms h1=>f7 ?_⟩;row_cond go;refine⟨n,es,rfl,hn,by lia,c,by lia,l,λx2 ns h2=>f7 ?_⟩;obtain⟨rfl,rfl⟩:=h1.uniq h2;obtain⟨Z,q2⟩:=NF x1 ms;refine S5 Z Z q2 ?_;rw[X5 Z];obtain⟨hs,r,e2⟩:∃ hs r,hubN n.toNat (dsF es) k.toNat=(hs,r):=⟨_,_,rfl⟩
 row_cond go;refine⟨n,es,k,rfl,hn,by lia,c,by lia,l,k0,by lia,?_⟩;rw[WA e2];refine f7 ?_;row_cond go;refine⟨n,es,k,rfl,hn,by lia,c,by lia,l,k0,by lia,?_⟩;rw[WA e2];refine f7 ?_;obtain⟨Y,q4⟩:=NF (mxF n.toNat r) hs;refine S5 Y Y q4 ?_;rw[X5 Y];row_cond go;refine⟨n,es,k,rfl,hn,by lia,c,by lia,y.web.rise.nodup,l,k0,by lia,λts qs x a b hT S hR M j=>?_⟩;row_cond go;refine⟨n,es,k,rfl,hn,by lia,c,by lia,y.web.rise.nodup,l,k0,by lia,λa9 a3 x' a' b' W J X I G=>?_⟩;obtain rfl:=CO hT W;obtain rfl:a3=qs:=X.eq hR λp=>by rw[I.mem_iff,M.mem_iff]
 obtain rfl:=MB j G;obtain⟨q5,q6⟩:=eN ts x';refine S5 q5 q5 q6 ?_;rw[X5 q5];clear j G S J hR X M I hT W Z q2 Y q4 q5 q6;row_cond go;refine⟨n,es,rfl,hn,by lia,c,by lia,l,λx a b j=>?_⟩;row_cond go;refine⟨n,es,rfl,hn,by lia,c,by lia,l,λx' a' b' G=>?_⟩;obtain rfl:=MB j G;obtain⟨rfl,rfl⟩:=ZD j G;refine S5 rfl rfl (by simp[PyData.depth,PyData.depthAll]) ?_;rw[X5 (d:=.tuple [.int x',.int a,.int b]) rfl];obtain⟨d,hd⟩:=lA l j.a0 j.a1 j.b0 j.b1;obtain rfl:x'=(d:Int):=by
  rw[← j.eq];simp only[dsF,hd,Option.getD_some]
 row_cond go;refine⟨n,a,b,es,rfl,by lia,c,by lia,j.a0,j.a1,j.b0,j.b1,?_⟩;rw[hd,show oD (some d)=PyData.int (d:Int) from rfl];have L:=oR (n:=n) (by lia) (dsF es);row_cond go;refine⟨n,es,rfl,hn,by lia,c,by lia,l,n5 w4 ?_⟩;row_cond go;refine⟨n,(d:Int),es,.list (matD n.toNat (dsF es)),rfl,hn,by lia,c,by lia,l,(λz=>by rw[L] at z;cases z),λm hm bb a7=>?_⟩;obtain rfl:bb=true:=a7.mpr ((KH l c (PyData.list.inj hm) hn).mpr λu v u0 u1 v0 v1=>j.top.2 u v u0 (by lia) v0 (by lia));row_cond go;refine zE ?_;row_cond go
 rename_i c_ hc_
 refine' cutR (R:=EvS B c_ _ [some (.io OSt),some (.st (webD n es)),some (.st (webD n es)),some (.st (.int k)),some (.st (.tuple [.int (d:Int),.int a,.int b])),some (.st (.list (matD n.toNat (dsF es)))),none]) (λR=>?K1) ?K2
 case K1 =>
  by_cases h0:(0:Int)<(d:Int)
  ·rw[q0 (N3 h0)];row_cond go;refine⟨n,(d:Int)-1,es,.list (matD n.toNat (dsF es)),rfl,hn,by lia,c,by lia,l,(λz=>by rw[L] at z;cases z),λm2 a4 bb U=>?_⟩;obtain rfl:bb=false:=by
    cases bb with
    |false=>rfl
    | true =>
     have:=(KH l c (PyData.list.inj a4) hn).mp (U.mp rfl) a b j.a0 j.a1 j.b0 j.b1;have:=j.eq;lia
   repeat (first|exact R|(refine zE ?_)|row_cond st)
  ·rw[o0 (by simpa using h0)];repeat (first|exact R|row_cond st)
 case K2 =>
  row_cond go
  rename_i c2_ hc2_
  refine' cutR (R:=EvS B c2_ _ [some (.io OSt),some (.st (webD n es)),some (.st (webD n es)),some (.st (.int k)),some (.st (.tuple [.int (d:Int),.int a,.int b])),some (.st (.list (matD n.toNat (dsF es)))),none]) (λR=>?K1) ?K2
  case K1 =>
   by_cases h0:(((es.map prD).length:Nat):Int)<80
   ·rw[q0 (N3 h0)];row_cond go;refine⟨n,es,rfl,by lia,by lia,by lia,λp hp=>by have:=y.web.inn p hp;lia,?_⟩;row_cond go;refine⟨n,es,rfl,hn,N,y.web.ps,y.web.rise,by lia,f7 ?_⟩;row_cond go;refine S5 (webP n es) (webP n es) (UA n es) ?_;rw[show PyData.eqv (.tuple [.int n,.list (es.map prD)]) (webD n es)=true from X5 (webP n es)];repeat (first|exact R|(refine N7 ⟨_,rfl,?_⟩)|row_cond st)
   ·rw[o0 (by simpa using h0)];repeat (first|exact R|row_cond st)
  case K2 =>
   row_cond go;refine L5 (λa2=>?_) (λa2=>?_)
   ·row_cond go;exact kk
   ·row_cond go;refine⟨n,es,k,rfl,hn,by lia,c,by lia,l,k0,by lia,λo ho=>?_⟩;row_cond go;refine⟨n,es,k,rfl,hn,by lia,c,by lia,l,k0,by lia,λo' a5=>?_⟩;obtain rfl:=ho.uniq a5;obtain⟨p1,p2⟩:=oSDp o;refine S5 p1 p1 p2 ?_;rw[X5 p1];cases o with
    | none =>
     row_cond go;rw[q0 (show isNone (oSD none)=true from rfl)];exact⟨_,rfl,kk⟩
    | some p =>
     obtain⟨r2,ps⟩:=p;have hS:=OJ k0 ho;have h2:=YR hS j.top;have h3:=xQ ho;have h4:=JG l c j.a0 j.a1 j.b0 j.b1;rw[j.eq] at h4;have h5:=hS.r0;row_cond go;rw[o0 (show ¬ isNone (oSD (some (r2,ps)))=true from λz=>Bool.noConfusion z)];dsimp only[oSD];row_cond go;refine⟨n,es,k,r2,ps,rfl,hn,by lia,c,by lia,l,by lia,by lia,by lia,by lia,by lia,λb hb=>?_⟩;obtain rfl:b=true:=hb.mpr hS;row_cond go;refine eT ?_;row_cond go;rw[N3 (by split <;> lia)];exact kk
theorem OF(h:Joined n es)(a0:0<=a)(a1:a<n)(f:b.Perm (es++[(a,n)])):Joined (n+1) b:=λv v0 i=>by
 have g:∀ u v,Tied es u v->Tied b u v:=λu v t=>(Tied.perm f).mpr (t.imp (λz=>Q1.mpr (.inl z)) λz=>Q1.mpr (.inl z));by_cases hv:v<n
 ·obtain⟨d,hd⟩:=h v v0 hv;obtain⟨e,_,c⟩:=Gr.Dist.of_walk (sI g hd.1);exact⟨e,c⟩
 ·obtain rfl:v=n:=by lia
  obtain⟨d,hd⟩:=h a a0 a1;obtain⟨e,_,c⟩:=Gr.Dist.of_walk ((sI g hd.1).step (show Tied b a v from .inl (f.mem_iff.mpr (Q1.mpr (.inr (O2.mpr rfl))))));exact⟨e,c⟩
theorem W5.more(h:W5 n es)(hm:n<=m)(d:m<=60)(a0:0<=a)(l:a<b)(o:b<m)(g:Rise c)(f:c.Perm (es++[(a,b)]))(j:Joined m c)(q:es.length<2000):W5 m c :=
 ⟨⟨by have:=h.web.lo;lia,d,λp i=>by
  rcases Q1.mp (f.mem_iff.mp i) with z|z
  ·have:=h.web.inn p z;lia
  ·rw[O2.mp z];exact⟨a0,l,o⟩,g⟩,j,by rw[f.length_eq,f3,List.length_singleton];lia⟩
theorem XC(q:Joined n es)(i:Y7 n.toNat (dsF es) x)(h:FarN n es d):d=.int x:=by
 rcases h with ⟨_,z,g,rfl⟩|⟨h,_⟩
 ·obtain⟨u,v,p,o,v0,l,e⟩:=g.1;obtain⟨j,m,a,c,b,f,r⟩:=i.1;have:=i.2 u v p o v0 l;have:=g.2 j m a c b f;rw[show z=x by lia]
 ·exact absurd q h
theorem W5.gw(h:W5 n es):GW n es:=⟨h.web.lo,by have:=h.web.hi;lia,h.web.in,by have:=h.len;lia⟩
def hU(mg:Str->Option Value):VJ:=λss Q=>∃(C:Addr)(n x:Int)(es:List (Int × Int))(j:Nat),mg "Grower" = some (.ref C)/\ss=[.io OSt,.io (OI C (gF n es)),.st (webD n es),.st (.int x)]/\W5 n es/\es.length<=1900+j/\j<=50/\Y7 n.toNat (dsF es) x /\
 ∀ m qs,W5 m qs->qs.length<=1900+(j+1)->Q [some (.io OSt),some (.io (OI C (gF m qs))),none,none] (.st (webD m qs))
theorem sc_law_deed:FnScope ["store","grower","web","before","free","a","later","found","tie","b"] ["store","grower","web","before"] (S0 s_law_deed):=by row_cond sc
theorem yS(T:Txt K mg):Can P w K mg base "_law_deed" 13 ["store","grower","web","before"] (spJ K (hU mg)):=by
 obtain⟨f,fd,D⟩:=T.dy;obtain⟨g,l⟩:=T.dX;have c:=l.mgx;have a5:=T.dY _ c;refine D.can (D.fn.ok sc_law_deed (λvs H Q E h=>lenJ h λss Q' q=>by obtain⟨C,n,x,es,j,hC,rfl,J,hl,hj,hx,kk⟩:=q;rfl) (λcdv A outer s H vs Q E u h=>?_));have nd:=sc_law_deed.nd
 refine⟨_,(D0 (U0 (i:=4) nd rfl ab (G0 (LO T) u (f0 (pv 2) i0)))
  (D0 (Z1 (PW.pt (T4 (PW.pt (P7 (R1 Y5 (P0 Q0 (pv 2) t0 (λ_ _=>rfl)) t0 (C1 _)) (T7 (R1 j6 (G0 (Y4 T) u (f0 (pv 0) (f0 t0 i0))) t0 (C1 _))))) (J5 (PW.pt (P7 (R1 (qI u.units) (pv 4) (T3 i0) (C1 _)) (T7 (R1 Y5 (P0 Q0 (pv 2) t0 (λ_ _=>rfl)) t0 (C1 _))))))))
   (D0 (U0 (i:=5) nd rfl ab (G0 (Y4 T) u (f0 (pv 0) (f0 (P0 Q0 (pv 2) t0 (λ_ _=>rfl)) i0))))
    (D0 (U0 (i:=6) nd rfl ab (n3 (f0 (K0 R3 (P0 Q0 (pv 2) t0 (λ_ _=>rfl)) t0) (f0 (Z0 vE (by rfl) T.aj hA (f0 (K0 CA (P0 Q0 (pv 2) t0 (λ_ _=>rfl)) (T3 (f0 (n3 (f0 (pv 5) (f0 (P0 Q0 (pv 2) t0 (λ_ _=>rfl)) i0))) i0))) i0)) i0))))
    (I0 (U0 (i:=7) nd rfl ab (s9 (xP T c) l.cl u (pv 1) (f0 (pv 5) i0))))))
   (I0 (Z1 (R1 (qI u.units) (pv 4) (T3 i0) (C1 _))
     (I0 (O0 (pv 2)))
     (D0 (U0 (i:=8) nd rfl ab (P0 Q0 (pv 4) (G0 (Y4 T) u (f0 (pv 0) (f0 (Z0 E4 (by rfl) T.aV p4 (f0 (pv 4) i0)) i0))) (λ_ _=>rfl)))
      (D0 (U4 (pv 8) (j5 rfl (X2 (T0 (i:=5) nd rfl ab) (X2 (T0 (i:=9) nd rfl ab) o5))))
      (D0 (U0 (i:=6) nd rfl ab (G0 (qC T) u (f0 (pv 2) (f0 (T3 (f0 (pv 8) i0)) i0))))
      (I0 (U0 (i:=7) nd rfl ab (s9 (UR T c) l.cl u (pv 1) (f0 (pv 5) (f0 (pv 9) i0)))))))))))
  (D0 (Z1 (R1 (Z5 u.units) (pv 7) (n3 (f0 (pv 3) (f0 (P0 Q0 (G0 (E7 T) u (f0 (pv 6) i0)) t0 (λ_ _=>rfl)) i0))) (C1 _))
   (I0 (O0 Z6))
   A2)
  (I0 (O0 (pv 6)))))),?_⟩
 refine bH h λss Q' q B hK=>?_;obtain⟨C,n,x,es,j,hC,rfl,J,hl,hj,hx,kk⟩:=q;show EvS B _ _ [some (.io OSt),some (.io (OI C (gF n es))),some (.st (webD n es)),some (.st (.int x)),none,none,none,none,none,none];obtain rfl:g=C:=by have:=c.symm.trans hC;cases this;rfl
 have hn:=J.web.lo;have a2:=J.web.hi;have a7:=J.web.in;have hJ:=J.join;have hG:=J.gw;row_cond go;refine⟨n,es,rfl,hn,a2,by lia,λfs hF b0=>n5 w4 ?_⟩;have I:E1 (.list (fs.map prD))=true:=EC fs;have G:(PyData.list (fs.map prD)).depth<=60:=by
  have:=xT fs;simp only[PyData.depth];lia
 row_cond go
 rename_i c_ hc_
 have Z:PyData.eqv (.list (fs.map prD)) (.list [])=decide (fs=[]):=by cases fs <;> simp[PyData.eqv,PyData.eqvAll]
 have a3:es.length<2000:=by lia
 refine' cutR (R:=∀(m:Int)(L:List (Int × Int))(y:Int)(v5 v8 v9:Option Sl),W5 m L->L.length<=1900+(j+1)->Y7 m.toNat (dsF L) y->EvS B c_ _ [some (.io OSt),some (.io (OI g (gF m L))),some (.st (webD n es)),some (.st (.int x)),some (.st (.list (fs.map prD))),v5,some (.st (webD m L)),some (.st (.tuple [.int x,.int y])),v8,v9]) (λR=>?K1) ?K2
 case K1 =>
  refine' cutR (R:=n<60->EvS B ?c1 ?d1 [some (.io OSt),some (.io (OI g (gF n es))),some (.st (webD n es)),some (.st (.int x)),some (.st (.list (fs.map prD))),none,none,none,none,none]) (λRP=>?K3) ?K4
  case K3 =>
   refine' cutR (R:=(fs=[]->¬ n<60)->EvS B ?c2 ?d2 [some (.io OSt),some (.io (OI g (gF n es))),some (.st (webD n es)),some (.st (.int x)),some (.st (.list (fs.map prD))),none,none,none,none,none]) (λRT=>?K5) ?K6
   case K5 =>
    by_cases O:n<12
    ·rw[q0 (N3 O)];row_cond go;refine⟨2,rfl,rfl,by lia,by lia,λr r0 r1=>?_⟩;row_cond go;by_cases u:r=0
     ·repeat (first|exact RP (by lia)|row_cond st)
     ·by_cases hfe:fs=[]
      ·repeat (first|exact RP (by lia)|(refine p9 I rfl G ?_;rw[Z,N3 hfe];refine N7 ⟨_,rfl,?_⟩)|row_cond st)
      ·repeat (first|exact RT (λh=>absurd h hfe)|(refine p9 I rfl G ?_;rw[Z,D3 hfe];refine N7 ⟨_,rfl,?_⟩)|row_cond st)
    ·by_cases hfe:fs=[]
     ·by_cases X:n<60
      ·repeat (first|exact RP (by lia)|(refine p9 I rfl G ?_;rw[Z,N3 hfe];refine N7 ⟨_,rfl,?_⟩)|row_cond st)
      ·repeat (first|exact RT (λ_=>X)|(refine p9 I rfl G ?_;rw[Z,N3 hfe];refine N7 ⟨_,rfl,?_⟩)|row_cond st)
     ·repeat (first|exact RT (λh=>absurd h hfe)|(refine p9 I rfl G ?_;rw[Z,D3 hfe];refine N7 ⟨_,rfl,?_⟩)|row_cond st)
   case K6 =>
    intro b1;row_cond go;refine p9 I rfl G ?_;rw[Z];by_cases hfe:fs=[]
    ·rw[N3 hfe];row_cond go;exact kk n es J (by lia)
    ·rw[D3 hfe];have a4:=y6.mpr hfe;row_cond go;refine⟨_,rfl,rfl,by rw[R0];lia,by rw[R0];lia,λr r0 r1=>?_⟩;rw[R0] at r1;obtain⟨⟨a,b⟩,W⟩:∃ q,fs[r.toNat]?=some q:=⟨_,Y0 (by lia)⟩
     have v:=hF.inn _ (i3 W);simp only at v;have a9:M1 (fs.map prD) r=some (prD (a,b)):=K8 (f:=prD) (t6 r0 W);have S:PutOk n es [(a,b)]:=⟨λp O=>by rw[O2.mp O];exact⟨v.1,v.2.1,v.2.2.1⟩,B7.mpr ⟨J.web.rise.nodup,by simp,λx hx y U e=>by rw[O2.mp U] at e;exact v.2.2.2 (e ▸ hx)⟩⟩
     row_cond go;refine⟨n,es,[(a,b)],rfl,by lia,by simp,S,λL u O=>n5 z9 ?_⟩;(repeat (first|(refine Y8 (.inr rfl) (T5 (by decide +kernel)) ?_)|row_cond st));refine⟨_,_,rfl,.inr rfl,g,n,a,b,es,c,rfl,rfl,hG,S,by lia,λz d0 d1 Y F h0 h1=>?_⟩;obtain rfl:z=L:=Y.eq u λp=>by rw[F.mem_iff,O.mem_iff]
     have M:Joined n z:=UI hJ (by lia) O;have o:=J.more (Int.le_refl n) a2 v.1 v.2.1 v.2.2.1 u O M a3;have N:z.length<=1900+(j+1):=by rw[O.length_eq,f3,List.length_singleton];lia
     obtain rfl:=XC hJ hx h0;rcases h1 with ⟨_,y,U,rfl⟩|⟨h,_⟩
     ·repeat (first|exact R _ _ _ _ _ _ o N U|row_cond st)
     ·exact absurd M h
  case K4 =>
   intro X;row_cond go;refine⟨n,rfl,rfl,by lia,by lia,λa a0 a1=>?_⟩
   have a6:(es++[(a,n)]).Nodup:=B7.mpr ⟨J.web.rise.nodup,by simp,λp O q W e=>by
    rw[O2.mp W] at e;have:=J.web.inn p O;rw[e] at this;simp only at this;lia⟩
   row_cond go;refine NC (ps:=es++[(a,n)]) ?_;row_cond go;refine⟨by rw[N4];rfl,λL W hs=>p5 ?_⟩;have u:=nB W a6 hs;(repeat (first|(refine Y8 (.inr rfl) (T5 (by decide +kernel)) ?_)|row_cond st));refine⟨_,_,rfl,.inr rfl,g,n,a,es,c,rfl,rfl,hG,X,J.web.ps,by lia,a0,a1,λz d0 d1 Y F h0 h1=>?_⟩;obtain rfl:z=L:=Y.eq u λp=>by rw[F.mem_iff,W.mem_iff]
   have M:Joined (n+1) z:=OF hJ a0 a1 F;have o:=J.more (show n<=n+1 by lia) (by lia) a0 a1 (by lia) u F M a3;have N:z.length<=1900+(j+1):=by rw[F.length_eq,f3,List.length_singleton];lia
   obtain rfl:=XC hJ hx h0;rcases h1 with ⟨_,y,U,rfl⟩|⟨h,_⟩
   ·repeat (first|exact R _ _ _ _ _ _ o N U|row_cond st)
   ·exact absurd M h
 case K2 =>
  intro m L y v5 v8 v9 o N U;have hm:=o.web.lo;have a8:=o.web.hi;row_cond go;refine⟨m,L,rfl,hm,by lia,o.web.in,by lia,o.join,λy' a b hF=>?_⟩;obtain rfl:y'=y:=by
   have h:=XC o.join U (.inl ⟨o.join,y',hF.top,rfl⟩);cases h;rfl
  row_cond go;refine S5 rfl rfl (by simp[PyData.depth,PyData.depthAll]) ?_;rw[X5 (d:=.tuple [.int x,.int y']) rfl];row_cond go;exact kk m L o N
def GD(K:Frag):Sp:=λvs H Q _=>∃(a:Addr)(ns:List Int),vs=[.ref a]/\SqL K H a (ns.map V.int)/\ns.length<=63/\∀ H',Q (.bl true) H'
def hI:VP:=λss Q=>∃ ns:List Int,ss=[.scr ns]/\ns.length<=63/\Q (.st (.bool true))
theorem vK(h:GD K vs H Q E):spP K hI vs H Q E:=by
 obtain⟨a,ns,rfl,c,b,k⟩:=h;refine⟨H,[.scr ns],λs=>s=.st (.bool true),Same.refl _,λa ks h=>h,.cons ⟨a,rfl,c⟩ .nil,⟨ns,rfl,b,rfl⟩,λs e v G' H' Fv o=>?_⟩;subst e;have r:=o.ok.1;cases r;exact k _
theorem PsOk.len64(h:PsOk n es)(hn:n<=8):es.length<=64:=by
 have:=List.Nodup.length_le_of_subset (l₁:=es) (l₂:=(List.range 8).flatMap λ(i:Nat)=>(List.range 8).map λ(j:Nat)=>((i:Int),(j:Int))) h.nd λp a=>by
  have:=h.inn p a;exact List.mem_flatMap.mpr ⟨p.1.toNat,U1.mpr (by lia),X0.mpr ⟨p.2.toNat,U1.mpr (by lia),Prod.ext (by simp only;lia) (by simp only;lia)⟩⟩
 exact W1 this (by decide)
def lU(mg:Str->Option Value):VJ:=λss Q=>∃(C:Addr)(n:Int)(es:List (Int × Int)),mg "Grower" = some (.ref C)/\ss=[.io OSt,.io (OI C (gF n es)),.st (webD n es)]/\W5 n es/\Q [some (.io OSt),some (.io (OI C (gF n es))),none] (.st (.bool true))
theorem sc_law_stands:FnScope ["store","grower","web","told","anew","a","b","due"] ["store","grower","web"] (S0 s_law_stands):=by row_cond sc
theorem qF(T:Txt K mg):Can P w K mg base "_law_stands" 14 ["store","grower","web"] (spJ K (lU mg)):=by
 obtain⟨f,fd,D⟩:=T.dz;obtain⟨l,g⟩:=T.dX;have c:=g.mgx;have N:=T.dY _ c;refine D.can (D.fn.ok sc_law_stands (λvs H Q E h=>lenJ h λss Q' q=>by obtain⟨C,n,es,R,rfl,o,U⟩:=q;rfl) (λcdv A outer s H vs Q E m h=>?_));have nd:=sc_law_stands.nd
 refine⟨_,(D0 (U0 (i:=3) nd rfl ab (m9 (HD T c) g.cl m (pv 1)))
  (D0 (Z1 (PW.pt (T4 (B4 (n4 (G0 (YP T) m (f0 (pv 0) (f0 (pv 3) (f0 (pv 2) i0)))))) (J5 (R1 (Z5 m.units) (m9 (qE T c) g.cl m (pv 1)) (G0 (E7 T) m (f0 (pv 2) i0)) (C1 _)))))
   (I0 (O0 t3))
   A2)
  (D0 (U0 (i:=4) nd rfl ab (tF (LH T c) g m (f0 (pv 3) i0)))
  (D0 (Z3 (CI PySem.F.plainAttrs_list PySem.F.slot_list_clear PySem.F.type_list_clear WG (P0 Q0 (pv 3) t0 (λ_ _=>rfl))))
  (D0 (Z1 (PW.pt (T4 (R1 (Z5 m.units) (m9 (HD T c) g.cl m (pv 1)) (pv 2) (C1 _)) (T4 (R1 (Z5 m.units) (m9 (HD T c) g.cl m (pv 4)) (pv 2) (C1 _)) (J5 (R1 (Z5 m.units) (m9 (qE T c) g.cl m (pv 4)) (m9 (qE T c) g.cl m (pv 1)) (C1 _))))))
   (I0 (O0 t3))
   A2)
  (D0 (U0 (i:=5) nd rfl ab (G0 (Y4 T) m (f0 (pv 0) (f0 (P0 Q0 (pv 2) t0 (λ_ _=>rfl)) i0))))
  (D0 (U0 (i:=6) nd rfl ab (G0 (Y4 T) m (f0 (pv 0) (f0 (P0 Q0 (pv 2) t0 (λ_ _=>rfl)) i0))))
  (D0 (U0 (i:=7) nd rfl ab (G0 (hE T) m (f0 (pv 2) (f0 (pv 5) (f0 (pv 6) i0)))))
  (I0 (O0 (U5 (S4 j6 (s9 (UH T c) g.cl m (pv 1) (f0 (pv 5) (f0 (pv 6) i0))) (pv 7) (C1 _)) (C6 (S4 j6 (s9 (UH T c) g.cl m (pv 4) (f0 (pv 6) (f0 (pv 5) i0))) (pv 7) (C1 _)))))))))))))),?_⟩
 refine bH h λss Q' q B hK=>?_;obtain⟨C,n,es,R,rfl,o,U⟩:=q;show EvS B _ _ [some (.io OSt),some (.io (OI C (gF n es))),some (.st (webD n es)),none,none,none,none,none];obtain rfl:l=C:=by have:=c.symm.trans R;cases this;rfl
 have hn:=o.web.lo;have Y:=o.web.hi;have y:=o.web.in;have G:=o.join;have p:=o.gw;have O:=o.len;repeat (first|(refine Y8 (i:=1) (.inr rfl) (T5 (by decide +kernel)) ?_)|row_cond st)
 refine⟨_,_,rfl,.inr rfl,l,n,es,c,rfl,rfl,by lia,?_⟩;row_cond qa;repeat (first|(refine MC (uO (i:=0) (j:=3) (n:=n) (es:=es) (by decide) ⟨_,rfl⟩ ⟨_,rfl⟩ ?_))|row_cond st)
 refine⟨_,rfl,.inr rfl,.inl rfl,n,es,rfl,rfl,o,rfl,true,rfl,_,rfl,?_⟩;(repeat (first|(refine g8 (i:=1) (.inr rfl) (T5 (by decide +kernel)) ?_)|row_cond st));refine⟨_,_,rfl,.inr rfl,l,n,es,c,rfl,rfl,p,G,λx a b S=>?_⟩;row_cond qa;row_cond go;refine⟨n,es,rfl,hn,by lia,y,by lia,G,λW a' b' z=>?_⟩;obtain rfl:=MB S z;obtain⟨rfl,rfl⟩:=ZD S z;row_cond go;refine S5 rfl rfl (by simp[PyData.depth,PyData.depthAll]) ?_;rw[X5 (d:=.tuple [.int W,.int a,.int b]) rfl];repeat (first|(refine nI (i:=3) (.inl rfl) z9 ?_)|row_cond st)
 refine⟨l,n,es,c,rfl,rfl,rfl,nG,?_⟩;repeat (first|(refine ZG 4 rfl ?_;dsimp only[List.set_cons_zero,List.set_cons_succ])|(refine j3 (JI rfl ?_);dsimp only[List.set_cons_zero,List.set_cons_succ])|(refine g8 (i:=1) (.inr rfl) (T5 (by decide +kernel)) ?_)|row_cond st)
 refine⟨_,_,rfl,.inr rfl,l,n,es,c,rfl,rfl,by lia,f7 ?_⟩;row_cond qa;row_cond go;refine S5 (webP n es) (webP n es) (UA n es) ?_;rw[show PyData.eqv (.tuple [.int n,.list (es.map prD)]) (webD n es)=true from X5 (webP n es)];(repeat (first|(refine g8 (i:=4) (.inl rfl) (T5 (by decide +kernel)) ?_)|row_cond st));refine⟨_,_,rfl,.inl rfl,l,n,es,c,rfl,rfl,by lia,f7 ?_⟩;row_cond qa;row_cond go;refine S5 (webP n es) (webP n es) (UA n es) ?_;rw[show PyData.eqv (.tuple [.int n,.list (es.map prD)]) (webD n es)=true from X5 (webP n es)];(repeat (first|(refine g8 (i:=4) (.inl rfl) (T5 (by decide +kernel)) ?_)|row_cond st));refine⟨_,_,rfl,.inl rfl,l,n,es,c,rfl,rfl,p,G,λx1 a1 b1 I=>?_⟩;row_cond qa;(repeat (first|(refine g8 (i:=1) (.inr rfl) (T5 (by decide +kernel)) ?_)|row_cond st));refine⟨_,_,rfl,.inr rfl,l,n,es,c,rfl,rfl,p,G,λX Z b2 r=>?_⟩;row_cond qa;obtain rfl:=MB I r;obtain⟨rfl,rfl⟩:=ZD I r;row_cond go;refine S5 rfl rfl (by simp[PyData.depth,PyData.depthAll]) ?_;rw[X5 (d:=.tuple [.int X,.int a1,.int b1]) rfl];row_cond go;refine⟨n,rfl,rfl,by lia,by lia,λu M L=>?_⟩;row_cond go;refine⟨n,rfl,rfl,by lia,by lia,λv v0 J=>?_⟩;obtain⟨d,hd⟩:=lA G M L v0 J;row_cond go;refine⟨n,u,v,es,rfl,by lia,y,by lia,M,L,v0,J,?_⟩;rw[hd,show oD (some d)=PyData.int (d:Int) from rfl];(repeat (first|(refine g8 (i:=1) (.inr rfl) (T5 (by decide +kernel)) ?_)|row_cond st));refine⟨_,_,rfl,.inr rfl,l,n,u,v,es,c,rfl,rfl,p,M,L,v0,J,?_⟩;row_cond qa;rw[hd,show oD (some d)=PyData.int (d:Int) from rfl];(repeat (first|(refine g8 (i:=4) (.inl rfl) (T5 (by decide +kernel)) ?_)|row_cond st));refine⟨_,_,rfl,.inl rfl,l,n,v,u,es,c,rfl,rfl,p,v0,J,M,L,?_⟩;row_cond qa;rw[Gr.farO_comm (λ_ _ t=>t.symm) (T:=Tied es),hd,show oD (some d)=PyData.int (d:Int) from rfl];row_cond go;rw[N3 (rfl:(d:Int)=(d:Int))];exact U
theorem sc_law:FnScope ["script","store","wide","web","a","handed","grower","turn"] ["script"] (S0 s_law):=by row_cond sc
theorem BK(T:Txt K mg)(D:DefAt K mg "law" s_law ["script"] f fd):FnOk P w K mg base CX0 15 f fd ["script"] (spP K (hI)):=by
 obtain⟨d,o⟩:=T.dX;have c:=o.mgx;have W:=T.dY _ c;refine D.fn.ok sc_law (λvs H Q E h=>lenP h λss Q' q=>by obtain⟨ns,rfl,I,kk⟩:=q;rfl) (λcdv A outer s H vs Q E v h=>?_);have nd:=sc_law.nd
 refine⟨_,(D0 (U0 (i:=1) nd rfl ab (T3 (f0 (G0 (kQ T) v (f0 (pv 0) (f0 t0 i0))) (f0 t0 i0))))
  (D0 (U0 (i:=2) nd rfl ab (S4 j6 (G0 (Y4 T) v (f0 (pv 1) (f0 t0 i0))) t0 (C1 _)))
  (D0 (U0 (i:=3) nd rfl ab (G0 (rL T) v (f0 (pv 1) (f0 t0 i0))))
  (D0 (OA t5 (PW.pt (P7 (YB (pv 2)) (T7 (R1 Y5 (P0 Q0 (pv 3) t0 (λ_ _=>rfl)) t0 (C1 _)))))
   (D0 (U0 (i:=4) nd rfl ab (G0 (Y4 T) v (f0 (pv 1) (f0 (P0 Q0 (pv 3) t0 (λ_ _=>rfl)) i0))))
    (I0 (U0 (i:=3) nd rfl ab (n3 (f0 (K0 R3 (P0 Q0 (pv 3) t0 (λ_ _=>rfl)) t0) (f0 (Z0 vE (by rfl) T.aj hA (f0 (K0 CA (P0 Q0 (pv 3) t0 (λ_ _=>rfl)) (T3 (f0 (n3 (f0 (pv 4) (f0 (P0 Q0 (pv 3) t0 (λ_ _=>rfl)) i0))) i0))) i0)) i0)))))))
  (D0 (U0 (i:=5) nd rfl ab (n3 (f0 (P0 Q0 (pv 3) t0 (λ_ _=>rfl)) (f0 (J7 eE (by rfl) T.av k8 (f0 (P0 Q0 (pv 3) t0 (λ_ _=>rfl)) i0)) i0))))
  (D0 (U0 (i:=6) nd rfl ab (tF (LH T c) o v (f0 (pv 5) i0)))
  (D0 (Z3 (CI PySem.F.plainAttrs_list PySem.F.slot_list_clear PySem.F.type_list_clear WG (P0 Q0 (pv 5) t0 (λ_ _=>rfl))))
  (D0 (J6 t5 rfl (R5 rfl T.aq (f0 (P0 Q0 (T3 (f0 t0 (f0 t0 i0))) (J7 OP (by rfl) T.ak zD (f0 (pv 2) i0)) (λ_ _=>rfl)) i0)) (T0 (i:=7) nd rfl ab)
   (D0 (Z1 (B4 (n4 (G0 (qF T) v (f0 (pv 1) (f0 (pv 6) (f0 (pv 3) i0))))))
     (I0 (O0 t3))
     A2)
    (D0 (U0 (i:=3) nd rfl ab (G0 (yS T) v (f0 (pv 1) (f0 (pv 6) (f0 (pv 3) (f0 (P0 Q0 (G0 (E7 T) v (f0 (pv 3) i0)) t0 (λ_ _=>rfl)) i0))))))
    (I0 (Z1 (R1 wD (pv 3) Z6 (C1 _))
     (I0 (O0 t3))
     A2)))))
  (I0 (O0 (G0 (qF T) v (f0 (pv 1) (f0 (pv 6) (f0 (pv 3) i0)))))))))))))),?_⟩
 refine T1 h λss Q' q B hK=>?_;refine exS1 ss q λns g=>?_;have I:=g.1;have kk:=g.2;clear g q;show EvS B _ _ [some (.scr ns),none,none,none,none,none,none,none];row_cond go;refine⟨ns,600,rfl,I,by decide,by decide,λds a9 hl hD=>p5 ?_⟩;repeat (first|(refine WM 1 (by lia) (by lia) rfl ?_)|row_cond st)
 row_cond qc;row_cond go;refine⟨8,rfl,rfl,by lia,by lia,λr0 a8 a5=>?_⟩;row_cond go;refine⟨8,rfl,rfl,by lia,by lia,λZ z l N C=>?_⟩
 (generalize decide (r0=1)=wide)
 have y:W5 Z z:=⟨⟨l.lo,l.hi,l.ps.inn,N⟩,l.conn.joined (by have:=l.lo;lia),by
  have:=PsOk.len64 l.ps C;lia⟩
 have J:=PsOk.len64 l.ps C;row_cond go;refine OB (λmm e=>∃ n es O,e=[some (.scr ns),some (.own OSt),some (.st (.bool wide)),some (.st (webD n es)),O,none,none,none]/\W5 n es/\es.length<=64+n.toNat/\mm=(60-n).toNat) ⟨_,Z,z,_,rfl,y,by lia,rfl⟩ ?_;clear y l N J C z Z;rintro mm e r;refine exS3 e r λn es O g=>?_;have y:=g.1;have hl:=g.2.1;have a2:=g.2.2;clear g r;subst a2;have hn:=y.web.lo;have a7:=y.web.hi;have hJ:=y.join;row_cond go
 rename_i c_ hc_
 refine' cutR (R:=EvS B c_ ?d1 [some (.scr ns),some (.own OSt),some (.st (.bool wide)),some (.st (webD n es)),O,none,none,none]) (λR=>?K1) ?K2
 case K1 =>
  cases wide with
  | false =>
   rw[o0 X1];exact R
  | true =>
   rw[q0 rfl];by_cases h60:n<60
   ·row_cond go;refine⟨n,rfl,rfl,by lia,by lia,λa a0 a1=>?_⟩
    have X:(es++[(a,n)]).Nodup:=B7.mpr ⟨y.web.rise.nodup,by simp,λp hp q G e=>by
     rw[O2.mp G] at e;have:=y.web.inn p hp;rw[e] at this;simp only at this;lia⟩
    row_cond go;refine NC (ps:=es++[(a,n)]) ?_;row_cond go;refine⟨by rw[N4];rfl,λu G hs=>p5 ?_⟩;have v:=nB G X hs;row_cond go;refine⟨(60-(n+1)).toNat,by lia,n+1,u,_,rfl,y.more (show n<=n+1 by lia) (by lia) a0 a1 (by lia) v G (OF hJ a0 a1 G) (by lia),by rw[G.length_eq,f3,List.length_singleton];lia,rfl⟩
   ·repeat (first|exact R|row_cond st)
 case K2 =>
  obtain⟨tn,a6,a3⟩:∃ tn:Int,M1 [PyData.int 8,PyData.int 3] (if wide=true then 1 else 0)=some (.int tn)/\0<=tn/\tn<=8:=by
   cases wide
   ·exact⟨8,rfl,by lia,by lia⟩
   ·exact⟨3,rfl,by lia,by lia⟩
  repeat (first|(refine vA ?_)|row_cond st)
  refine⟨_,rfl,?_⟩;repeat (first|(refine nI (i:=5) (.inl rfl) z9 ?_)|row_cond st)
  refine⟨d,n,es,c,rfl,rfl,rfl,nG,?_⟩;repeat (first|(refine ZG 6 rfl ?_;dsimp only[List.set_cons_zero,List.set_cons_succ])|(refine j3 (JI rfl ?_);dsimp only[List.set_cons_zero,List.set_cons_succ])|row_cond st)
  refine Z8 (λi e=>∃ m u U,e=[some (.scr ns),some (.own OSt),some (.st (.bool wide)),some (.st (webD m u)),O,some (.own (OW (.int n) [])),some (.own (OI d (gF m u))),U]/\W5 m u/\u.length<=1900+i) ⟨n,es,_,rfl,y,by lia⟩ ?_ ?_
  ·rintro i e hi r;refine exS3 e r λm u U g=>?_;have j:=g.1;have M:=g.2;clear g r;have hm:=j.web.lo;have a4:=j.web.hi;(repeat (first|(refine U9 (by assumption) ?_)|(refine pB (by assumption) ?_)|(refine fB (s:=.own _) rfl ?_)|(refine oB ?_)|(refine NA ?_)|row_cond st));refine⟨_,.rf (.inl rfl) (.rf (.inl rfl) (.pl .nil)),(by show List.Nodup [1,6];decide),d,m,u,c,rfl,j,?_⟩;refine⟨_,.rf rfl (.inl rfl) (.rf rfl (.inl rfl) (.pl .nil)),N7 ?_⟩;row_cond qa;(repeat (first|(refine U9 (by assumption) ?_)|(refine pB (by assumption) ?_)|(refine fB (s:=.own _) rfl ?_)|(refine oB ?_)|(refine NA ?_)|row_cond st));refine⟨m,u,rfl,hm,by lia,j.web.in,by have:=j.len;lia,j.join,λx a b hF=>?_⟩;(repeat (first|(refine U9 (by assumption) ?_)|(refine pB (by assumption) ?_)|(refine fB (s:=.own _) rfl ?_)|(refine oB ?_)|(refine NA ?_)|row_cond st));refine⟨_,.rf (.inl rfl) (.rf (.inl rfl) (.pl (.pl .nil))),(by show List.Nodup [1,6];decide),d,m,x,u,i,c,rfl,j,M,by lia,hF.top,λm2 L Y S=>?_⟩;refine⟨_,.rf rfl (.inl rfl) (.rf rfl (.inl rfl) (.pl (.pl .nil))),?_⟩;row_cond qa;row_cond go;rw[o0 (show ¬ (isNone (webD m2 L)=true) from λh=>Bool.noConfusion h)];row_cond go;exact⟨m2,L,_,rfl,Y,S⟩
  ·rintro e r;refine exS3 e r λm u U g=>?_;have j:=g.1;have M:=g.2;clear g r;(repeat (first|(refine U9 (by assumption) ?_)|(refine pB (by assumption) ?_)|(refine fB (s:=.own _) rfl ?_)|(refine oB ?_)|(refine NA ?_)|row_cond st));refine⟨_,.rf (.inl rfl) (.rf (.inl rfl) (.pl .nil)),(by show List.Nodup [1,6];decide),d,m,u,c,rfl,j,?_⟩;refine⟨_,.rf rfl (.inl rfl) (.rf rfl (.inl rfl) (.pl .nil)),?_⟩;exact kk
theorem SJ(T:Txt K mg)(D:DefAt K mg "law" s_law ["script"] f fd):FnOk P w K mg base CX0 15 f fd ["script"] (GD K):=(BK T D).imp λ_ _ _ _ h=>vK h
theorem len0{α:Type}{us:List α}(h:us.length=0):us=[]:=gC h
theorem len1{α:Type}{us:List α}(h:us.length=1):∃ a0,us=[a0]:=by
 cases us with
 |nil=>cases h
 |cons a us=>exact⟨a,by rw[len0 (Nat.succ.inj h)]⟩
theorem len2{α:Type}{us:List α}(h:us.length=2):∃ a0 a1,us=[a0,a1]:=by
 cases us with
 |nil=>cases h
 |cons a us=>obtain⟨a1,e⟩:=len1 (Nat.succ.inj h);exact⟨a,a1,by rw[e]⟩
theorem len3{α:Type}{us:List α}(h:us.length=3):∃ a0 a1 b,us=[a0,a1,b]:=by
 cases us with
 |nil=>cases h
 |cons a us=>obtain⟨a1,b,e⟩:=len2 (Nat.succ.inj h);exact⟨a,a1,b,by rw[e]⟩
theorem len4{α:Type}{us:List α}(h:us.length=4):∃ a0 a1 c b,us=[a0,a1,c,b]:=by
 cases us with
 |nil=>cases h
 |cons a us=>obtain⟨a1,c,b,e⟩:=len3 (Nat.succ.inj h);exact⟨a,a1,c,b,by rw[e]⟩
theorem len5{α:Type}{us:List α}(h:us.length=5):∃ a0 a1 d b c,us=[a0,a1,d,b,c]:=by
 cases us with
 |nil=>cases h
 |cons a us=>obtain⟨a1,d,b,c,e⟩:=len4 (Nat.succ.inj h);exact⟨a,a1,d,b,c,by rw[e]⟩
def Bnd(x:Str)(st:Stmt)(ps:List Str):Prop:=∀(kV doc pm:Value)(an:Option Addr)(cdv ct:Value)(us:List Value),us.length=ps.length->bindArgs (fnOf x x (D4 st) (C4 st) (S0 st) .none kV doc pm an cdv ct) ⟨us,[]⟩=pure (ps.zip us)
def FnIn(K:Frag)(x:Str)(st:Stmt):Prop:=∃ f oc od kV dc pm an cd ct sl,nsIn K mainGlobals x=some (some (.ref f))/\K.lookup f=some ⟨oc,od,.func (fnOf x x (D4 st) (C4 st) (S0 st) .none kV dc pm an cd ct),sl⟩/\codeIn K cd x=true/\keepIn K (.ref f)=true
theorem fn_in{K:Frag}{x:Str}{st:Stmt}{f:Addr}{od an:Option Addr}{sl:Array (Option Value)}{oc kV d pm b ct:Value}(a:nsIn K mainGlobals x=some (some (.ref f)))(l:K.lookup f=some ⟨oc,od,.func (fnOf x x (D4 st) (C4 st) (S0 st) .none kV d pm an b ct),sl⟩)(c:codeIn K b x=true)(k:keepIn K (.ref f)=true):FnIn K x st:=⟨f,oc,od,kV,d,pm,an,b,ct,sl,a,l,c,k⟩
theorem bnd1(c:ps.length=1)(h:∀(kV doc pm:Value)(an:Option Addr)(cdv ct:Value)(b:Value),bindArgs (fnOf x x (D4 st) (C4 st) (S0 st) .none kV doc pm an cdv ct) ⟨[b],[]⟩=pure (ps.zip [b])):Bnd x st ps:=by
 intro kV doc pm an cdv ct us a;rw[c] at a;obtain⟨_,rfl⟩:=len1 a;exact h _ _ _ _ _ _ _
theorem bnd2(d:ps.length=2)(h:∀(kV doc pm:Value)(an:Option Addr)(cdv ct:Value)(b c:Value),bindArgs (fnOf x x (D4 st) (C4 st) (S0 st) .none kV doc pm an cdv ct) ⟨[b,c],[]⟩=pure (ps.zip [b,c])):Bnd x st ps:=by
 intro kV doc pm an cdv ct us a;rw[d] at a;obtain⟨_,_,rfl⟩:=len2 a;exact h _ _ _ _ _ _ _ _
theorem bnd3(f:ps.length=3)(h:∀(kV doc pm:Value)(an:Option Addr)(cdv ct:Value)(b d c:Value),bindArgs (fnOf x x (D4 st) (C4 st) (S0 st) .none kV doc pm an cdv ct) ⟨[b,d,c],[]⟩=pure (ps.zip [b,d,c])):Bnd x st ps:=by
 intro kV doc pm an cdv ct us a;rw[f] at a;obtain⟨_,_,_,rfl⟩:=len3 a;exact h _ _ _ _ _ _ _ _ _
theorem bnd4(g:ps.length=4)(h:∀(kV doc pm:Value)(an:Option Addr)(cdv ct:Value)(d b f a:Value),bindArgs (fnOf x x (D4 st) (C4 st) (S0 st) .none kV doc pm an cdv ct) ⟨[d,b,f,a],[]⟩=pure (ps.zip [d,b,f,a])):Bnd x st ps:=by
 intro kV doc pm an cdv ct us c;rw[g] at c;obtain⟨_,_,_,_,rfl⟩:=len4 c;exact h _ _ _ _ _ _ _ _ _ _
theorem bnd5(i:ps.length=5)(h:∀(kV doc pm:Value)(an:Option Addr)(cdv ct:Value)(f c g b a:Value),bindArgs (fnOf x x (D4 st) (C4 st) (S0 st) .none kV doc pm an cdv ct) ⟨[f,c,g,b,a],[]⟩=pure (ps.zip [f,c,g,b,a])):Bnd x st ps:=by
 intro kV doc pm an cdv ct us d;rw[i] at d;obtain⟨_,_,_,_,_,rfl⟩:=len5 d;exact h _ _ _ _ _ _ _ _ _ _ _
theorem P1(X:K.In h)(G:h.Ns mainGlobals mg)(q:FnIn K x st)
  (hb:Bnd x st ps):∃ f fd,DefAt K mg x st ps f fd:=by
 obtain⟨f,oc,od,kV,d,pm,an,b,ct,sl,a,l,c,k⟩:=q;exact⟨_,_,have F:=eF (st:=st) l c k;⟨F,mg_of X G a,F.binds hb⟩⟩
def MBnd(x y:Str)(st:Stmt)(ps:List Str):Prop:=∀(kV doc pm:Value)(an:Option Addr)(cdv ct:Value)(us:List Value),us.length=ps.length->bindArgs (fnOf x y (D4 st) (C4 st) (S0 st) .none kV doc pm an cdv ct) ⟨us,[]⟩=pure (ps.zip us)
def MeIn(K:Frag)(C:Addr)(x y:Str)(st:Stmt):Prop:=∃ f oc od kV dc pm an cd ct sl,PySem.W.findIn K (.ref C) x=some (some (.ref f))/\PySem.W.isFn K (.ref f)=true/\K.lookup f=some ⟨oc,od,.func (fnOf x y (D4 st) (C4 st) (S0 st) .none kV dc pm an cd ct),sl⟩/\codeIn K cd y=true/\keepIn K (.ref f)=true
theorem me_in{K:Frag}{C:Addr}{x y:Str}{st:Stmt}{f:Addr}{od an:Option Addr}{sl:Array (Option Value)}{oc kV d pm b ct:Value}(a:PySem.W.findIn K (.ref C) x=some (some (.ref f)))(i:PySem.W.isFn K (.ref f)=true)(l:K.lookup f=some ⟨oc,od,.func (fnOf x y (D4 st) (C4 st) (S0 st) .none kV d pm an b ct),sl⟩)(c:codeIn K b y=true)(k:keepIn K (.ref f)=true):MeIn K C x y st:=⟨f,oc,od,kV,d,pm,an,b,ct,sl,a,i,l,c,k⟩
theorem mbn1(c:ps.length=1)(h:∀(kV doc pm:Value)(an:Option Addr)(cdv ct:Value)(b:Value),bindArgs (fnOf x y (D4 st) (C4 st) (S0 st) .none kV doc pm an cdv ct) ⟨[b],[]⟩=pure (ps.zip [b])):MBnd x y st ps:=by
 intro kV doc pm an cdv ct us a;rw[c] at a;obtain⟨_,rfl⟩:=len1 a;exact h _ _ _ _ _ _ _
theorem mbn2(d:ps.length=2)(h:∀(kV doc pm:Value)(an:Option Addr)(cdv ct:Value)(b c:Value),bindArgs (fnOf x y (D4 st) (C4 st) (S0 st) .none kV doc pm an cdv ct) ⟨[b,c],[]⟩=pure (ps.zip [b,c])):MBnd x y st ps:=by
 intro kV doc pm an cdv ct us a;rw[d] at a;obtain⟨_,_,rfl⟩:=len2 a;exact h _ _ _ _ _ _ _ _
theorem mbn3(f:ps.length=3)(h:∀(kV doc pm:Value)(an:Option Addr)(cdv ct:Value)(c a d:Value),bindArgs (fnOf x y (D4 st) (C4 st) (S0 st) .none kV doc pm an cdv ct) ⟨[c,a,d],[]⟩=pure (ps.zip [c,a,d])):MBnd x y st ps:=by
 intro kV doc pm an cdv ct us b;rw[f] at b;obtain⟨_,_,_,rfl⟩:=len3 b;exact h _ _ _ _ _ _ _ _ _
theorem m8(q:MeIn K C x y st)(hb:MBnd x y st ps):∃ f fd,MeAt K C x y st ps f fd:=by
 obtain⟨f,oc,od,kV,d,pm,an,b,ct,sl,a,i,l,c,k⟩:=q;exact⟨_,_,have F:=eF (st:=st) l c k;⟨F,⟨a,i,k⟩,F.binds hb⟩⟩
theorem txt_mk{K:Frag}{h:Heap}{mg:Str->Option Value}(X:K.In h)(G:h.Ns mainGlobals mg)
  {r:Tok} {n:Tok} {B:Tok} {m:Tok} {c:Tok} {a:Addr} 
  (h0:FnIn K "is_whole" s_is_whole)
  (h1:FnIn K "is_between" s_is_between)
  (h2:FnIn K "need_number" s_need_number)
  (h3:FnIn K "is_place" s_is_place)
  (h4:FnIn K "is_tie" s_is_tie)
  (h5:FnIn K "are_ties" s_are_ties)
  (h6:FnIn K "is_rising" s_is_rising)
  (h7:FnIn K "is_web" s_is_web)
  (h8:FnIn K "tied_places" s_tied_places)
  (h9:FnIn K "far_from" s_far_from)
  (e0:FnIn K "need_place" s_need_place)
  (b3:FnIn K "all_far" s_all_far)
  (a6:FnIn K "how_far" s_how_far)
  (d9:FnIn K "is_joined" s_is_joined)
  (b9:FnIn K "need_joined" s_need_joined)
  (a8:FnIn K "far_rows" s_far_rows)
  (d4:FnIn K "most_far" s_most_far)
  (c4:FnIn K "farthest_two" s_farthest_two)
  (b1:FnIn K "middles" s_middles)
  (c6:FnIn K "far_paper" s_far_paper)
  (b0:FnIn K "far_shows" s_far_shows)
  (c1:FnIn K "is_square" s_is_square)
  (d8:FnIn K "is_long" s_is_long)
  (b5:FnIn K "number_holds" s_number_holds)
  (a4:FnIn K "with_ties" s_with_ties)
  (c5:FnIn K "far_or_none" s_far_or_none)
  (c0:FnIn K "hubs_for" s_hubs_for)
  (e3:FnIn K "hub_ties" s_hub_ties)
  (b4:FnIn K "show_tie" s_show_tie)
  (c3:FnIn K "show_web" s_show_web)
  (d0:FnIn K "number_of" s_number_of)
  (d1:FnIn K "tie_of" s_tie_of)
  (d5:FnIn K "read_web" s_read_web)
  (d2:FnIn K "stay_shows" s_stay_shows)
  (b7:FnIn K "is_pair" s_is_pair)
  (d7:FnIn K "need_places" s_need_places)
  (a5:FnIn K "need_far" s_need_far)
  (d3:FnIn K "are_apart" s_are_apart)
  (b2:FnIn K "best_stay" s_best_stay)
  (a9:FnIn K "apart_lists" s_apart_lists)
  (c7:FnIn K "places_after" s_places_after)
  (b8:FnIn K "_law_draws" s_law_draws)
  (c2:FnIn K "_law_take" s_law_take)
  (a7:FnIn K "_law_web" s_law_web)
  (d6:FnIn K "_law_free" s_law_free)
  (e2:FnIn K "_law_handed_right" s_law_handed_right)
  (b6:FnIn K "_law_deed" s_law_deed)
  (c8:FnIn K "_law_stands" s_law_stands)
  (c9:FnIn K "law" s_law)
  (y:nsIn K mainGlobals "ValueError" = some none)
  (Z:nsIn K mainGlobals "all" = some none)
  (a2:nsIn K mainGlobals "max" = some none)
  (a0:nsIn K mainGlobals "min" = some none)
  (S:nsIn K mainGlobals "any" = some none)
  (M:nsIn K mainGlobals "sorted" = some none)
  (a3:nsIn K mainGlobals "int" = some none)
  (O:nsIn K mainGlobals "tuple" = some none)
  (A:nsIn K mainGlobals "reversed" = some none)
  (N:nsIn K mainGlobals "range" = some none)
  (z:nsIn K mainGlobals "enumerate" = some none)
  (P:nsIn K mainGlobals "list" = some none)
  (Q:nsIn K mainGlobals "dict" = some none)
  (x:nsIn K mainGlobals "isinstance" = some none)
  (U:nsIn K mainGlobals "len" = some none)
  (Y:nsIn K mainGlobals "str" = some none)
  (T:nsIn K mainGlobals "abs" = some none)
  (R:nsIn K mainGlobals "bool" = some none)
  (a1:nsIn K mainGlobals "zip" = some none)
  (w:nsIn K mainGlobals "MOST_PLACES" = some (some (.int 60 r)))
  (p:nsIn K mainGlobals "MOST_HUB_TIES" = some (some (.int 20 n)))
  (F:nsIn K mainGlobals "FIGURES" = some (some (.str "0123456789" B)))
  (o:nsIn K mainGlobals "MOST_STAY_TIES" = some (some (.int 5 m)))
  (d:nsIn K mainGlobals "MOST_PLACES_FOR_STAY" = some (some (.int 12 c)))
  (b:nsIn K mainGlobals "Grower" = some (some (.ref a))) (J:PySem.W.plainGet K a Str.empty=true) (D:PySem.W.hasDictIn K a=true) (L:PySem.W.plainOver K a=true) (H:PySem.W.findIn K (.ref a) "__setattr__" = some (some (.builtin "object.__setattr__"))) (E:PySem.W.makesIn K a=true) (I:keepIn K (.ref a)=true)
  (u:PySem.W.findIn K (.ref a) "held" = some none)
  (g:MeIn K a "__init__" "Grower.__init__" s_Grower____init__)
  (f:MeIn K a "put_place" "Grower.put_place" s_Grower__put_place)
  (j:MeIn K a "put_tie" "Grower.put_tie" s_Grower__put_tie)
  (l:MeIn K a "become" "Grower.become" s_Grower__become)
  (s:MeIn K a "web" "Grower.web" s_Grower__web)
  (i:MeIn K a "farthest" "Grower.farthest" s_Grower__farthest)
  (q:MeIn K a "far" "Grower.far" s_Grower__far)
  : Txt K mg where
  dX:=⟨_,mg_of X G b,⟨J,D,L,H⟩,E,I⟩
  dY:=λC v=>by rw[mg_of X G b] at v;cases v;exact u
  dZ:=λC v=>by rw[mg_of X G b] at v;cases v;exact m8 g (mbn2 rfl λ_ _ _ _ _ _ _ _=>rfl)
  ec:=λC v=>by rw[mg_of X G b] at v;cases v;exact m8 f (mbn2 rfl λ_ _ _ _ _ _ _ _=>rfl)
  ee:=λC v=>by rw[mg_of X G b] at v;cases v;exact m8 j (mbn3 rfl λ_ _ _ _ _ _ _ _ _=>rfl)
  ef:=λC v=>by rw[mg_of X G b] at v;cases v;exact m8 l (mbn2 rfl λ_ _ _ _ _ _ _ _=>rfl)
  eg:=λC v=>by rw[mg_of X G b] at v;cases v;exact m8 s (mbn1 rfl λ_ _ _ _ _ _ _=>rfl)
  el:=λC v=>by rw[mg_of X G b] at v;cases v;exact m8 i (mbn1 rfl λ_ _ _ _ _ _ _=>rfl)
  eo:=λC v=>by rw[mg_of X G b] at v;cases v;exact m8 q (mbn3 rfl λ_ _ _ _ _ _ _ _ _=>rfl)
  ae:=mg_none_of X G y
  af:=mg_none_of X G Z
  ag:=mg_none_of X G a2
  ah:=mg_none_of X G a0
  ai:=mg_none_of X G S
  aj:=mg_none_of X G M
  ak:=mg_none_of X G a3
  am:=mg_none_of X G O
  ao:=mg_none_of X G A
  aq:=mg_none_of X G N
  au:=mg_none_of X G z
  av:=mg_none_of X G P
  aw:=mg_none_of X G Q
  az:=mg_none_of X G x
  aV:=mg_none_of X G U
  aW:=mg_none_of X G Y
  aX:=mg_none_of X G T
  aY:=mg_none_of X G R
  aZ:=mg_none_of X G a1
  bf:=⟨_,mg_of X G w⟩
  bg:=⟨_,mg_of X G p⟩
  bi:=⟨_,mg_of X G F⟩
  bj:=⟨_,mg_of X G o⟩
  bn:=⟨_,mg_of X G d⟩
  bo:=P1 X G h0 (bnd1 rfl λ_ _ _ _ _ _ _=>rfl)
  bp:=P1 X G h1 (bnd3 rfl λ_ _ _ _ _ _ _ _ _=>rfl)
  bq:=P1 X G h2 (bnd3 rfl λ_ _ _ _ _ _ _ _ _=>rfl)
  bu:=P1 X G h3 (bnd2 rfl λ_ _ _ _ _ _ _ _=>rfl)
  bv:=P1 X G h4 (bnd2 rfl λ_ _ _ _ _ _ _ _=>rfl)
  bw:=P1 X G h5 (bnd2 rfl λ_ _ _ _ _ _ _ _=>rfl)
  bx:=P1 X G h6 (bnd1 rfl λ_ _ _ _ _ _ _=>rfl)
  bz:=P1 X G h7 (bnd1 rfl λ_ _ _ _ _ _ _=>rfl)
  bV:=P1 X G h8 (bnd1 rfl λ_ _ _ _ _ _ _=>rfl)
  bW:=P1 X G h9 (bnd2 rfl λ_ _ _ _ _ _ _ _=>rfl)
  bX:=P1 X G e0 (bnd2 rfl λ_ _ _ _ _ _ _ _=>rfl)
  bY:=P1 X G b3 (bnd2 rfl λ_ _ _ _ _ _ _ _=>rfl)
  bZ:=P1 X G a6 (bnd3 rfl λ_ _ _ _ _ _ _ _ _=>rfl)
  cc:=P1 X G d9 (bnd1 rfl λ_ _ _ _ _ _ _=>rfl)
  ce:=P1 X G b9 (bnd1 rfl λ_ _ _ _ _ _ _=>rfl)
  cf:=P1 X G a8 (bnd1 rfl λ_ _ _ _ _ _ _=>rfl)
  cg:=P1 X G d4 (bnd1 rfl λ_ _ _ _ _ _ _=>rfl)
  ck:=P1 X G c4 (bnd1 rfl λ_ _ _ _ _ _ _=>rfl)
  cm:=P1 X G b1 (bnd1 rfl λ_ _ _ _ _ _ _=>rfl)
  cp:=P1 X G c6 (bnd1 rfl λ_ _ _ _ _ _ _=>rfl)
  cq:=P1 X G b0 (bnd3 rfl λ_ _ _ _ _ _ _ _ _=>rfl)
  cr:=P1 X G c1 (bnd2 rfl λ_ _ _ _ _ _ _ _=>rfl)
  cu:=P1 X G d8 (bnd2 rfl λ_ _ _ _ _ _ _ _=>rfl)
  cw:=P1 X G b5 (bnd5 rfl λ_ _ _ _ _ _ _ _ _ _ _=>rfl)
  cx:=P1 X G a4 (bnd2 rfl λ_ _ _ _ _ _ _ _=>rfl)
  cy:=P1 X G c5 (bnd1 rfl λ_ _ _ _ _ _ _=>rfl)
  cz:=P1 X G c0 (bnd2 rfl λ_ _ _ _ _ _ _ _=>rfl)
  cV:=P1 X G e3 (bnd2 rfl λ_ _ _ _ _ _ _ _=>rfl)
  cW:=P1 X G b4 (bnd1 rfl λ_ _ _ _ _ _ _=>rfl)
  cX:=P1 X G c3 (bnd1 rfl λ_ _ _ _ _ _ _=>rfl)
  cY:=P1 X G d0 (bnd1 rfl λ_ _ _ _ _ _ _=>rfl)
  cZ:=P1 X G d1 (bnd1 rfl λ_ _ _ _ _ _ _=>rfl)
  da:=P1 X G d5 (bnd1 rfl λ_ _ _ _ _ _ _=>rfl)
  db:=P1 X G d2 (bnd3 rfl λ_ _ _ _ _ _ _ _ _=>rfl)
  dd:=P1 X G b7 (bnd1 rfl λ_ _ _ _ _ _ _=>rfl)
  df:=P1 X G d7 (bnd1 rfl λ_ _ _ _ _ _ _=>rfl)
  dg:=P1 X G a5 (bnd1 rfl λ_ _ _ _ _ _ _=>rfl)
  dh:=P1 X G d3 (bnd3 rfl λ_ _ _ _ _ _ _ _ _=>rfl)
  di:=P1 X G b2 (bnd2 rfl λ_ _ _ _ _ _ _ _=>rfl)
  dj:=P1 X G a9 (bnd3 rfl λ_ _ _ _ _ _ _ _ _=>rfl)
  dl:=P1 X G c7 (bnd3 rfl λ_ _ _ _ _ _ _ _ _=>rfl)
  dm:=P1 X G b8 (bnd2 rfl λ_ _ _ _ _ _ _ _=>rfl)
  dq:=P1 X G c2 (bnd2 rfl λ_ _ _ _ _ _ _ _=>rfl)
  du:=P1 X G a7 (bnd2 rfl λ_ _ _ _ _ _ _ _=>rfl)
  dv:=P1 X G d6 (bnd1 rfl λ_ _ _ _ _ _ _=>rfl)
  dw:=P1 X G e2 (bnd3 rfl λ_ _ _ _ _ _ _ _ _=>rfl)
  dy:=P1 X G b6 (bnd4 rfl λ_ _ _ _ _ _ _ _ _ _=>rfl)
  dz:=P1 X G c8 (bnd3 rfl λ_ _ _ _ _ _ _ _ _=>rfl)
  dW:=P1 X G c9 (bnd1 rfl λ_ _ _ _ _ _ _=>rfl)
theorem walk{l:PySem.W.OpenLaw}{q:Program}{b:List Str}{v:(Str->Option Value)->Heap->Prop}{g:World->Heap->Prop}{d:DefRec}{K:Params->Frag}(hn:l.most=some 63)(m:d.params.defaults=[])(j:d.name = "law")
  (y:∀(w:World)(h:Heap),g w h->(K w.params).In h)
  (o:∀(w:World)(lo:List Str)(mg mb:Str->Option Value)(c:ExcName->Option Value)(h:Heap),PyProof.Rows.Top q lo c mg mb h->g w h->R9 (K w.params) h)
  (F:∀(w:World)(mg:Str->Option Value)(h:Heap),(K w.params).In h->h.Ns mainGlobals mg->Txt (K w.params) mg) :
  PySem.W.WalkO q b v g l.row.toRowW d [] (λf vs=>PySem.call f vs):=by
 refine L2.walk_of (n:=63) (k:=15) (x:="script") (CX:=λ_=>CX0) (sp:=λw=>GD (K w.params)) hn (by decide) m ⟨rfl,by decide,by decide,rfl⟩ y o (λw mg fa h X G e=>?_) (λ_ _ a ns p _ B=>⟨a,ns,rfl,B,p,λ_=>rfl⟩) λ_ _ _ _ _ z=>z;have T:=F w mg h X G;rw[j] at e;obtain⟨f1,i,D⟩:=T.dW;have A:=e.symm.trans D.mgx;cases A;refine⟨i,λs u=>?_,λbase _ _=>?_⟩
 ·obtain⟨oc,od,kV,doc,pm,an,cdv,ct,osl,rfl,C,r⟩:=D.fn.ex;exact .of_eq rfl
 ·exact SJ T D
end G
end
namespace PySem.W.Fast
theorem tw7763885235591780001:True:=⟨⟩
theorem tw14775610590138655654:True:=⟨⟩
theorem tw10824351074809970011:True:=⟨⟩
theorem tw7736687872230598187:True:=⟨⟩
theorem tw443810399711390212:True:=⟨⟩
theorem tw17699857459996844480:True:=⟨⟩
theorem tw10666763012185005626:True:=⟨⟩
theorem tw3952964359593975154:True:=⟨⟩
theorem tw11707530574056677038:True:=⟨⟩
theorem tw8410307610294412228:True:=⟨⟩
theorem tw16238461728296631136:True:=⟨⟩
theorem tw9864743143719391007:True:=⟨⟩
theorem tw9140319923411910128:True:=⟨⟩
theorem tw17850247598588822055:True:=⟨⟩
theorem tw8889214118438926578:True:=⟨⟩
theorem tw14018097672456909957:True:=⟨⟩
theorem tw15791051420600535995:True:=⟨⟩
theorem tw5254488872699294008:True:=⟨⟩
theorem tw7591428574765216154:True:=⟨⟩
theorem tw1911335183530987027:True:=⟨⟩
theorem tw4984959715198399963:True:=⟨⟩
theorem tw9324737104151503544:True:=⟨⟩
theorem tw10696499715913403295:True:=⟨⟩
theorem tw4692262745765677850:True:=⟨⟩
theorem tw18123003386621926160:True:=⟨⟩
theorem tw16250772055104646433:True:=⟨⟩
theorem tw6147786693490605936:True:=⟨⟩
theorem tw8364932145511073410:True:=⟨⟩
theorem tw10018678613335416700:True:=⟨⟩
theorem tw8117972999724906781:True:=⟨⟩
theorem tw2608664258637117814:True:=⟨⟩
theorem tw12663442952093254129:True:=⟨⟩
theorem tw11864916514295082315:True:=⟨⟩
theorem tw1847963648829111943:True:=⟨⟩
theorem tw4153139042297023924:True:=⟨⟩
theorem tw14337989895856147406:True:=⟨⟩
theorem tw9642882219951836882:True:=⟨⟩
theorem tw4570222728189857158:True:=⟨⟩
theorem tw13795165175270740904:True:=⟨⟩
theorem tw15260665627007327754:True:=⟨⟩
theorem tw12581550172777608884:True:=⟨⟩
theorem tw12522605109298893766:True:=⟨⟩
theorem tw14631535225401650467:True:=⟨⟩
theorem tw918034148976073218:True:=⟨⟩
theorem tw17882599096880913095:True:=⟨⟩
theorem tw9316057224633239853:True:=⟨⟩
theorem tw498017280701038307:True:=⟨⟩
theorem tw7607694997057327052:True:=⟨⟩
theorem tw7365032713163404113:True:=⟨⟩
theorem tw10447607508766692427:True:=⟨⟩
theorem tw591132266497728664:True:=⟨⟩
theorem tw4556348855032545658:True:=⟨⟩
theorem tw12799096209840913755:True:=⟨⟩
theorem tw16154575463038750879:True:=⟨⟩
theorem tw17062157996313883718:True:=⟨⟩
theorem tw883131441223698564:True:=⟨⟩
theorem tw17647825822239596524:True:=⟨⟩
theorem tw8841694984040872274:True:=⟨⟩
theorem tw9027091844393534825:True:=⟨⟩
theorem tw5526446050335230148:True:=⟨⟩
theorem tw17382466013585643572:True:=⟨⟩
theorem tw2561600675984031950:True:=⟨⟩
theorem tw18333951491068370161:True:=⟨⟩
theorem tw4839473965899337630:True:=⟨⟩
theorem tw9461435983611261585:True:=⟨⟩
theorem tw14122840729625083624:True:=⟨⟩
theorem tw13903827778649030580:True:=⟨⟩
theorem tw5208842505893471815:True:=⟨⟩
theorem tw16349463008596597833:True:=⟨⟩
theorem tw16147012746280502913:True:=⟨⟩
theorem tw14504650146095699761:True:=⟨⟩
theorem tw5871460389135463231:True:=⟨⟩
theorem tw7710520876084416208:True:=⟨⟩
theorem tw4264258863883817489:True:=⟨⟩
theorem tw17374188786373553522:True:=⟨⟩
theorem tw8892060507334189109:True:=⟨⟩
theorem tw14234528389811089196:True:=⟨⟩
theorem tw17098058037803218021:True:=⟨⟩
theorem tw6697985033454344891:True:=⟨⟩
theorem tw6274491902303888516:True:=⟨⟩
theorem tw10024661174267305337:True:=⟨⟩
theorem tw15233175069551301561:True:=⟨⟩
theorem tw2100442196569279342:True:=⟨⟩
theorem tw5273261426995217959:True:=⟨⟩
theorem tw12432352581864394807:True:=⟨⟩
theorem tw3851209940048387389:True:=⟨⟩
theorem tw8328653852373357189:True:=⟨⟩
theorem tw4962989271587583251:True:=⟨⟩
theorem tw1869567837106543258:True:=⟨⟩
theorem tw3017731150250469310:True:=⟨⟩
theorem tw17487524973020975181:True:=⟨⟩
theorem tw545989978382024025:True:=⟨⟩
theorem tw2017375369071343454:True:=⟨⟩
theorem tw16336946391565434071:True:=⟨⟩
theorem tw15458182435945698856:True:=⟨⟩
theorem tw9026888884337945293:True:=⟨⟩
theorem tw3272636297671923267:True:=⟨⟩
theorem tw2106051453032113030:True:=⟨⟩
theorem tw5133674024902654523:True:=⟨⟩
theorem tw5646782647087874788:True:=⟨⟩
theorem tw3996208978533921394:True:=⟨⟩
theorem tw7439610315947665818:True:=⟨⟩
theorem tw15457640620160561954:True:=⟨⟩
theorem tw12634258038134918300:True:=⟨⟩
theorem tw6969599038453121129:True:=⟨⟩
theorem tw11002976695206728262:True:=⟨⟩
theorem tw13648571235624582463:True:=⟨⟩
theorem tw11227373993095258859:True:=⟨⟩
theorem tw2391313987110906605:True:=⟨⟩
theorem tw13084544826672859406:True:=⟨⟩
theorem tw8020953233976756729:True:=⟨⟩
theorem tw14049917774451465637:True:=⟨⟩
theorem tw16578749611214505254:True:=⟨⟩
theorem tw7595248826736135624:True:=⟨⟩
theorem tw15286512015069972268:True:=⟨⟩
theorem tw5558731748535524300:True:=⟨⟩
theorem tw7107702650186070030:True:=⟨⟩
theorem tw14135198615826907414:True:=⟨⟩
theorem tw8548165709598700066:True:=⟨⟩
theorem tw11312306056949437756:True:=⟨⟩
theorem tw4596657649655397659:True:=⟨⟩
theorem tw16480513771741041570:True:=⟨⟩
theorem tw478327356362864317:True:=⟨⟩
theorem tw11830491461362708450:True:=⟨⟩
theorem tw10278314052454473229:True:=⟨⟩
theorem tw12670328653735928452:True:=⟨⟩
theorem tw1424231732773009824:True:=⟨⟩
theorem tw4544500568044947190:True:=⟨⟩
theorem tw5068610807154789355:True:=⟨⟩
theorem tw16393112775320065819:True:=⟨⟩
theorem tw2019333022348498129:True:=⟨⟩
theorem tw14427564818460636051:True:=⟨⟩
theorem tw1206425522254981313:True:=⟨⟩
theorem tw15271350034550275074:True:=⟨⟩
theorem tw16833810449253058967:True:=⟨⟩
theorem tw4339245207096570423:True:=⟨⟩
theorem tw13051776882523533654:True:=⟨⟩
theorem tw4793900036081587490:True:=⟨⟩
theorem tw10644632883060555519:True:=⟨⟩
theorem tw8735327071243764609:True:=⟨⟩
theorem tw18207058572701487187:True:=⟨⟩
theorem tw7392110340860656872:True:=⟨⟩
theorem tw16939826895642834898:True:=⟨⟩
theorem tw11859257125993706533:True:=⟨⟩
theorem tw2094332545159340816:True:=⟨⟩
theorem tw9696290171831534402:True:=⟨⟩
theorem tw451431040566174910:True:=⟨⟩
theorem tw9128813552733143462:True:=⟨⟩
theorem tw5378107346615383372:True:=⟨⟩
theorem tw17101817904349054934:True:=⟨⟩
theorem tw16501971825676185654:True:=⟨⟩
theorem tw147398726705542983:True:=⟨⟩
theorem tw9789783002030916347:True:=⟨⟩
theorem tw18234402952323090474:True:=⟨⟩
theorem tw17987864730352437133:True:=⟨⟩
theorem tw17400534017250121578:True:=⟨⟩
theorem tw16459130772832106829:True:=⟨⟩
theorem tw14201672602178554518:True:=⟨⟩
theorem tw1258637686411391195:True:=⟨⟩
theorem tw10966007447367950100:True:=⟨⟩
theorem tw752502382245393997:True:=⟨⟩
theorem tw9042516535218879766:True:=⟨⟩
theorem tw5883037972701724744:True:=⟨⟩
theorem tw5046939735921312703:True:=⟨⟩
theorem tw393882090640381403:True:=⟨⟩
theorem tw14238531868812204495:True:=⟨⟩
theorem tw4541030588453100855:True:=⟨⟩
theorem tw15432831371340035723:True:=⟨⟩
theorem tw11968887418460741147:True:=⟨⟩
theorem tw1183840114860394858:True:=⟨⟩
theorem tw16766903166019758454:True:=⟨⟩
theorem tw16353230212168295933:True:=⟨⟩
theorem tw289623483804095936:True:=⟨⟩
theorem tw11043841542232493161:True:=⟨⟩
theorem tw18169583948626044391:True:=⟨⟩
theorem tw15325930647407889306:True:=⟨⟩
theorem tw7380087321030005634:True:=⟨⟩
theorem tw5343003039442396043:True:=⟨⟩
theorem tw2976894803363231666:True:=⟨⟩
theorem tw18250966613617717927:True:=⟨⟩
theorem tw16096652531066730935:True:=⟨⟩
theorem tw4376844458212539050:True:=⟨⟩
theorem tw6660961234387117754:True:=⟨⟩
theorem tw2095303060773955056:True:=⟨⟩
theorem tw17348980357515433222:True:=⟨⟩
theorem tw13139070033515654183:True:=⟨⟩
theorem tw11730914203863354632:True:=⟨⟩
theorem tw14003798705619224251:True:=⟨⟩
theorem tw11818356290539042536:True:=⟨⟩
theorem tw16887345617081188912:True:=⟨⟩
theorem tw3632653426035281940:True:=⟨⟩
theorem tw15872867264565980313:True:=⟨⟩
theorem tw1309206112650562735:True:=⟨⟩
theorem tw10720064738016668552:True:=⟨⟩
theorem tw6145517242033247109:True:=⟨⟩
theorem tw14000845786518600184:True:=⟨⟩
theorem tw6834754265290099827:True:=⟨⟩
theorem tw286959314357131146:True:=⟨⟩
theorem tw2480572871403585177:True:=⟨⟩
theorem tw1954263548309326861:True:=⟨⟩
theorem tw17418601125033515030:True:=⟨⟩
theorem tw1094483677858350404:True:=⟨⟩
theorem tw6632726130925439714:True:=⟨⟩
theorem tw13948140222713186859:True:=⟨⟩
theorem tw3052777213216083404:True:=⟨⟩
theorem tw1753060867355098728:True:=⟨⟩
theorem tw14951865165227134047:True:=⟨⟩
theorem tw12915802287059850402:True:=⟨⟩
theorem tw1494846467446446258:True:=⟨⟩
theorem tw13238136934425747697:True:=⟨⟩
theorem tw5724115454607027689:True:=⟨⟩
theorem tw5654784401192859526:True:=⟨⟩
theorem tw6922765888920516796:True:=⟨⟩
theorem tw8958022684986905034:True:=⟨⟩
theorem tw17463339167842462311:True:=⟨⟩
theorem tw15757251438171474485:True:=⟨⟩
theorem tw14051387318860313877:True:=⟨⟩
theorem tw13823802917128181356:True:=⟨⟩
theorem tw10486953320228413533:True:=⟨⟩
theorem tw7276643336464656603:True:=⟨⟩
theorem tw1625812905590123060:True:=⟨⟩
theorem tw15323176589271071803:True:=⟨⟩
theorem tw1057464150375007919:True:=⟨⟩
theorem tw15939658437177556096:True:=⟨⟩
theorem tw15349851691375539201:True:=⟨⟩
theorem tw4178969504640612625:True:=⟨⟩
theorem tw17774067174164711559:True:=⟨⟩
theorem tw12125881783933312500:True:=⟨⟩
theorem tw2272816103960733144:True:=⟨⟩
theorem tw9192739576118449512:True:=⟨⟩
theorem tw13740392665501549636:True:=⟨⟩
theorem tw16155099281318019199:True:=⟨⟩
theorem tw17287158528154806962:True:=⟨⟩
theorem tw17752387306758762201:True:=⟨⟩
theorem tw1422405177163465433:True:=⟨⟩
theorem tw12146824723626900960:True:=⟨⟩
theorem tw16079501151612832820:True:=⟨⟩
theorem tw2561534076651416485:True:=⟨⟩
theorem tw13539736316553639414:True:=⟨⟩
theorem tw14009138912488025289:True:=⟨⟩
theorem tw1145805918795287299:True:=⟨⟩
theorem tw3821147643352717514:True:=⟨⟩
theorem tw3154378937179176437:True:=⟨⟩
theorem tw13818205041871417026:True:=⟨⟩
theorem tw6059944658826948912:True:=⟨⟩
theorem tw11629744546345836089:True:=⟨⟩
theorem tw7004136126766899503:True:=⟨⟩
theorem tw7488434609237671930:True:=⟨⟩
theorem tw16457355936002122408:True:=⟨⟩
theorem tw14910339758375447882:True:=⟨⟩
theorem tw6829372172458016781:True:=⟨⟩
theorem tw17992411633484900131:True:=⟨⟩
theorem tw17730201588473833814:True:=⟨⟩
theorem tw4907182484187950939:True:=⟨⟩
theorem tw1672581381138754870:True:=⟨⟩
theorem tw10961130628523815381:True:=⟨⟩
theorem tw7301360735170890798:True:=⟨⟩
theorem tw11108144024185929452:True:=⟨⟩
theorem tw16391400839504821071:True:=⟨⟩
theorem tw16335663042033700797:True:=⟨⟩
theorem tw17148025908966863845:True:=⟨⟩
theorem tw15184975402067903185:True:=⟨⟩
theorem tw11898362072743574856:True:=⟨⟩
theorem tw15277225651979363686:True:=⟨⟩
theorem tw14992089600575547211:True:=⟨⟩
theorem tw9489545541442313236:True:=⟨⟩
theorem tw3323778495259117157:True:=⟨⟩
theorem tw1665177634569792830:True:=⟨⟩
theorem tw15692549797221286528:True:=⟨⟩
theorem tw14339984854596158331:True:=⟨⟩
theorem tw11312862866565819555:True:=⟨⟩
theorem tw17636253058523430798:True:=⟨⟩
theorem tw11035934419059155915:True:=⟨⟩
theorem tw18134023659923610461:True:=⟨⟩
theorem tw16784657310888525430:True:=⟨⟩
theorem tw7505619288121097629:True:=⟨⟩
theorem tw18145703435579567526:True:=⟨⟩
theorem tw12059734217719287905:True:=⟨⟩
theorem tw11716402074553459451:True:=⟨⟩
theorem tw2743835106597828018:True:=⟨⟩
theorem tw16105596717533817293:True:=⟨⟩
theorem tw15433958026680482268:True:=⟨⟩
theorem tw8965591184604115212:True:=⟨⟩
theorem tw824050224756752833:True:=⟨⟩
theorem tw7491660306605388537:True:=⟨⟩
theorem tw17476535842051690028:True:=⟨⟩
theorem tw662510051709441843:True:=⟨⟩
theorem tw2852149359731264038:True:=⟨⟩
theorem tw5924509088348238112:True:=⟨⟩
theorem tw793354642980927232:True:=⟨⟩
theorem tw7100168486393434674:True:=⟨⟩
theorem tw5517352543302996660:True:=⟨⟩
theorem tw263463489833073675:True:=⟨⟩
theorem tw16994962715227365848:True:=⟨⟩
theorem tw16551242838304259795:True:=⟨⟩
theorem tw12999542658505860946:True:=⟨⟩
theorem tw7201423374138547780:True:=⟨⟩
theorem tw6474909631427133222:True:=⟨⟩
theorem tw17308371447559394098:True:=⟨⟩
theorem tw14399546740737174363:True:=⟨⟩
theorem tw13489950668497997981:True:=⟨⟩
theorem tw13420897212729969731:True:=⟨⟩
theorem tw12201037668319188620:True:=⟨⟩
theorem tw8977541077020766110:True:=⟨⟩
theorem tw625869742876958557:True:=⟨⟩
theorem tw5242097101608299221:True:=⟨⟩
theorem tw18129923573064733907:True:=⟨⟩
theorem tw15096343822835721650:True:=⟨⟩
theorem tw14197651138917369123:True:=⟨⟩
theorem tw964580901505332952:True:=⟨⟩
theorem tw6060147098061068314:True:=⟨⟩
theorem tw5267400168268159112:True:=⟨⟩
theorem tw4908532177585197928:True:=⟨⟩
theorem tw4524829121049651848:True:=⟨⟩
theorem tw4064109603793968052:True:=⟨⟩
theorem tw18355895883259057731:True:=⟨⟩
theorem tw9875515800616421416:True:=⟨⟩
theorem tw9710937380535064574:True:=⟨⟩
theorem tw9575366825702299451:True:=⟨⟩
theorem tw9407425309252512822:True:=⟨⟩
theorem tw9313676245773729635:True:=⟨⟩
theorem tw9255059768752495291:True:=⟨⟩
theorem tw9180802040253305405:True:=⟨⟩
theorem tw8996566899761292168:True:=⟨⟩
theorem tw8807978205382794164:True:=⟨⟩
theorem tw8705120671914660126:True:=⟨⟩
theorem tw8597870025679552168:True:=⟨⟩
theorem tw8130857939882434312:True:=⟨⟩
theorem tw7892604677962578852:True:=⟨⟩
theorem tw7794984392320813410:True:=⟨⟩
theorem tw7655624355284842265:True:=⟨⟩
theorem tw7384222390708820109:True:=⟨⟩
theorem tw7359200869412831075:True:=⟨⟩
theorem tw6907793123853202637:True:=⟨⟩
theorem tw6839892797085474842:True:=⟨⟩
theorem tw6512693982856779850:True:=⟨⟩
theorem tw6328575544903593591:True:=⟨⟩
theorem tw6118636452963815155:True:=⟨⟩
theorem tw5998913574667796563:True:=⟨⟩
theorem tw5984075028199969331:True:=⟨⟩
theorem tw5974759700409194151:True:=⟨⟩
theorem tw5874363479246888769:True:=⟨⟩
theorem tw5829074942631423466:True:=⟨⟩
theorem tw5789094421153173691:True:=⟨⟩
theorem tw5723953834570784397:True:=⟨⟩
theorem tw5639763441978532965:True:=⟨⟩
theorem tw5575547060725642979:True:=⟨⟩
theorem tw5489743814778437091:True:=⟨⟩
theorem tw5161480385742923200:True:=⟨⟩
theorem tw498859362227253575:True:=⟨⟩
theorem tw4826005081113165414:True:=⟨⟩
theorem tw4744688106042715510:True:=⟨⟩
theorem tw4584845322688935347:True:=⟨⟩
theorem tw4346961152258068412:True:=⟨⟩
theorem tw4059116165849735320:True:=⟨⟩
theorem tw3514406483611262064:True:=⟨⟩
theorem tw3327393890051545587:True:=⟨⟩
theorem tw3283960836492522784:True:=⟨⟩
theorem tw3272677283352021583:True:=⟨⟩
theorem tw3223366171392074947:True:=⟨⟩
theorem tw3212262907737674154:True:=⟨⟩
theorem tw3061536585638471738:True:=⟨⟩
theorem tw2795596525099628302:True:=⟨⟩
theorem tw2698270476031139147:True:=⟨⟩
theorem tw227603922487558109:True:=⟨⟩
theorem tw2009209801751209593:True:=⟨⟩
theorem tw2007873533025123846:True:=⟨⟩
theorem tw1843684903467401511:True:=⟨⟩
theorem tw18045590081695271207:True:=⟨⟩
end PySem.W.Fast
open PySem PySem.W PyProof.Rows
set_option maxRecDepth 100000 in
set_option maxHeartbeats 0 in
theorem PySem.Challenge.cw_fewties_k52_whole_growing_webs_handed_on_holds : PySem.Challenge.rw_fewties_k52_whole_growing_webs_handed_on.Holds := by
 w_on;o_law;k_head;(case hw=>w_witness2)
 k_fill
 refine G.walk (l:=PySem.Challenge.rw_fewties_k52_whole_growing_webs_handed_on) rfl rfl rfl (fun w h Y=>PySem.W.kIn_of Y) ?TB ?F
 case TB =>
  intro w lo mg mb mean h T Y;refine' L2.tabs0_none (L2.tab_no ?ht_)
  case ht_=>k_is
 case F =>
  intro w mg h KX GG;refine' G.txt_mk KX GG ..;all_goals try (refine' G.fn_in ?a_ ?l_ ?c_ ?k_;(case a_=>k_is);(case l_=>k_is);(case c_=>k_is);(case k_=>k_is))
  all_goals try k_is
  all_goals try (refine' G.me_in ?a_ ?i_ ?l_ ?c_ ?k_;(case a_=>k_is);(case i_=>k_is);(case l_=>k_is);(case c_=>k_is);(case k_=>k_is))
#print axioms PySem.Challenge.cw_fewties_k52_whole_growing_webs_handed_on_holds
