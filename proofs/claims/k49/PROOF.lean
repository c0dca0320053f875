import PyProof.Rows.All
import Wide.All
import OpenK.AllK
import Wide.FinOn
import PyProof.EqAt
import PyProof.EqKinds
import PyProof.TupleCall
import KE.KLam
import KE.KMinKey
import PyProof.NeData
import PyProof.P3In
import PyProof.WalkInts
import PyProof.Rows.SortWalk
import PyProof.SumWalkG
import PyProof.Rows.CallKwBuiltin
import KE.KDictList
import PyProof.WalksEnum
import PyProof.ZipIter
import PyProof.ConsumeWalk
import PyProof.ListRange
import PyProof.TupleOfSeq
import PyProof.Rows.RuleN_abs
import KE.KIntText
import PyProof.FString
import PyProof.StrWalks
import PyProof.StrLawsTight
import PyProof.StrLawsChain
import PyProof.ExcBaseAll.ValueError
import PyProof.ExcAttrAll.ValueError
import PyProof.StrCalls
import PyProof.Rows.StrCut
import PyProof.StrLawsIn
import KE.KUnpackStar
import PyProof.ReprRoads
import PyProof.Rows.SetFrom
import PyProof.Rows.SortStr
import KE.KDictOf
import PyProof.AttrMissHeap
import PySem.Challenge.RW_fewties_k49_rows_that_are_none
open PySem.W (Frag kitOne mg_of nsIn mg_none_of excIn fnOf mroIn keepIn codeIn)
set_option Elab.async false
set_option linter.all false
set_option compiler.extract_closed false
set_option maxRecDepth 100000
set_option maxHeartbeats 4000000
set_option autoImplicit true
set_option relaxedAutoImplicit true
noncomputable section
abbrev z1:=@List.getElem?_eq_getElem
abbrev R1:=@List.getElem?_eq_some_iff
abbrev u3:=@List.mem_of_getElem?
abbrev N1:=@List.length_map
abbrev S2:=@Array.getElem?_eq_getElem
abbrev v2:=@List.getElem?_map
abbrev Q0:=@Nat.le_refl
abbrev N2:=@List.mem_append
abbrev jA:=@Array.length_toList
abbrev V0:=@List.mem_cons
abbrev Y1:=@Bool.false_ne_true
abbrev M4:=@List.length_append
abbrev M3:=@List.size_toArray
abbrev P2:=@List.mem_append_right
abbrev V2:=@List.append_assoc
abbrev Q3:=@List.mem_cons_of_mem
abbrev U1:=@Nat.ne_of_lt
abbrev T1:=@List.mem_map
abbrev E4:=@List.mem_cons_self
abbrev X2:=@List.mem_range
abbrev V4:=@List.mem_of_mem_take
abbrev Q5:=@List.take_append_drop
abbrev O6:=@List.mem_singleton
abbrev XC:=@List.getElem?_append_left
abbrev Y4:=@List.mem_of_mem_drop
abbrev z4:=@Nat.lt_of_lt_of_le
abbrev W3:=@Option.some.inj
abbrev J5:=@List.mem_append_left
abbrev WB:=@List.getElem?_append_right
abbrev V3:=@List.pairwise_append
abbrev D2:=@Nat.le_trans
abbrev P0:=@List.map_cons
abbrev o5:=@List.getElem?_set
abbrev Q9:=@List.getD_eq_getElem?_getD
abbrev aC:=@Classical.byContradiction
abbrev t6:=@Array.getElem?_toList
abbrev Q1:=@decide_eq_false
abbrev D3:=@decide_eq_true
abbrev xC:=@List.getElem?_range
abbrev P4:=@List.map_map
abbrev v9:=@Nat.lt_of_le_of_lt
abbrev l8:=@List.map_append
abbrev v3:=@List.length_cons
abbrev W6:=@Nat.le_of_ble_eq_true
abbrev DA:=@List.map_congr_left
abbrev z5:=@List.append_nil
abbrev S7:=@List.take_of_length_le
abbrev VB:=@List.getElem_toArray
abbrev R3:=@List.all_eq_true
abbrev z0:=@if_pos
abbrev y0:=@if_neg
abbrev F7:=@List.getElem?_eq_none_iff
abbrev T9:=@Nat.lt_succ_of_lt
abbrev m8:=@List.length_pos_iff
abbrev R4:=@Nat.zero_le
abbrev m9:=@List.pairwise_map
abbrev y6:=@List.ext_getElem?
abbrev E1:=@beq_iff_eq
abbrev L3:=@Nat.lt_irrefl
abbrev V5:=@Nat.le_of_lt
abbrev O5:=@Array.toList_append
abbrev o9:=@List.pairwise_iff_getElem
abbrev v8:=@List.take_length
abbrev S4:=@List.lookup_cons
abbrev W7:=@List.length_take
abbrev N4:=@Bool.and_eq_true
abbrev CB:=@List.eq_nil_of_length_eq_zero
abbrev Y6:=@List.replicate_succ
abbrev Q7:=@List.take_add_one
abbrev L8:=@List.getElem?_take_of_lt
abbrev MB:=@List.mem_iff_getElem
abbrev iA:=@List.getElem?_replicate
abbrev R7:=@Bool.eq_iff_iff
abbrev D6:=@Array.size_push
abbrev P8:=@Option.map_some
abbrev zA:=@List.getElem?_drop
abbrev y7:=@List.not_mem_nil
abbrev LA:=@List.nodup_cons
abbrev w9:=@List.pairwise_cons
abbrev aB:=@Nat.lt_succ_self
abbrev T8:=@List.length_nil
open PySem PySem.Spec in
abbrev u0:=@wpAny_bind
open PySem PySem.Spec in
abbrev I0:=@wpAny_pure
open PySem PySem.Spec in
abbrev S1:=@Heap.get?_push_of_some
open PySem PySem.Spec in
abbrev M0:=@Heap.lt_size
open PySem PySem.Spec in
abbrev m3:=@Heap.get?_push_size
open PySem PySem.Spec in
abbrev K8:=@codeAny_mono
open PySem PySem.Spec in
abbrev U3:=@wpAny_holding
open PySem PySem.Spec in
abbrev D9:=@PassesOwn.never
open PySem PySem.Spec in
abbrev k7:=@Heap.get?_update_other
open PySem PySem.Spec in
abbrev Y2:=@wpAny_mono
open PySem PySem.Spec in
abbrev T7:=@wpAny_newObj_type
open PySem PySem.Spec in
abbrev aA:=@Around.under_plainId
open PySem PySem.Spec in
abbrev SA:=@Heap.size_push
open PySem PySem.Spec in
abbrev yA:=@wpAny_call_entry
open PySem PySem.Spec in
abbrev p7:=@wpAny_truthy_bool
open PySem PySem.Spec in
abbrev U8:=@wpAny_pyIter_list
open PySem PySem.Spec in
abbrev QB:=@Heap.get?_update_self
open PySem PySem.Spec in
abbrev X9:=@codeAny_builtin
theorem aa{α:Sort u}{a:α}{b:Prop}:a=a \/b:=.inl rfl
namespace L2
open PySem PySem.Spec PyProof.Rows
abbrev Key:=Sum Int Str
def M8:Key->Value->Bool
 | .inl k,v=>Value.isInt k v
 | .inr x,v=>Value.isStrOf x v
def keyH(w:World):Key->Int
 | .inl k=>hashInt k
 | .inr x=>hashStr w x
theorem M6:∀{k:Key}{v:Value},M8 k v=true->(∃ i t,k=Sum.inl i/\v=Value.int i t)\/(∃ x t,k=Sum.inr x/\v=Value.str x t)
 | .inl i,v,h=>by
  obtain⟨t,e⟩:=Value.isInt_shape (k:=i) (v:=v) h;exact .inl ⟨i,t,rfl,e⟩
 | .inr x,v,h=>by
  obtain⟨t,e⟩:=Value.isStrOf_shape (x:=x) (v:=v) h;exact .inr ⟨x,t,rfl,e⟩
theorem pN(i:Int)(t:Tok):M8 (.inl i) (.int i t)=true:=by simp[M8,Value.isInt]
theorem CD(x:Str)(t:Tok):M8 (.inr x) (.str x t)=true:=by simp[M8,Value.isStrOf]
theorem vJ(a b:Int):decide ((Sum.inl a:Key)=Sum.inl b)=(a == b):=by
 by_cases e:a=b
 ·subst e;simp
 ·have h:¬ (Sum.inl a:Key)=Sum.inl b:=λq=>e (Sum.inl.inj q);rw[Q1 h];exact(beq_eq_false_iff_ne.mpr e).symm
theorem vK(a b:Str):decide ((Sum.inr a:Key)=Sum.inr b)=decide (a=b):=by
 by_cases e:a=b
 ·subst e;simp
 ·have h:¬ (Sum.inr a:Key)=Sum.inr b:=λq=>e (Sum.inr.inj q);rw[Q1 h,Q1 e]
theorem KL(a:Int)(b:Str):decide ((Sum.inl a:Key)=Sum.inr b)=false:=Q1 (λq=>nomatch q)
theorem vM(a:Str)(b:Int):decide ((Sum.inr a:Key)=Sum.inl b)=false:=Q1 (λq=>nomatch q)
def J4(prog:Program)(w:World):PySem.KeyKind prog w Key where
 is:=M8
 hash:=keyH w
 inj:=λv a b ha hb=>by
  rcases M6 ha with ⟨i,t,rfl,rfl⟩|⟨x,t,rfl,rfl⟩
  ·rcases M6 hb with ⟨j,u,rfl,e⟩|⟨y,u,rfl,e⟩
   ·injection e with e1 _;rw[e1]
   ·exact nomatch e
  ·rcases M6 hb with ⟨j,u,rfl,e⟩|⟨y,u,rfl,e⟩
   ·exact nomatch e
   ·injection e with e1 _;rw[e1]
 byValue:=λk v h=>by
  rcases M6 h with ⟨i,t,rfl,rfl⟩|⟨x,t,rfl,rfl⟩ <;> rfl
 pyHash:=λhv h=>by
  rcases M6 hv with ⟨i,t,rfl,rfl⟩|⟨x,t,rfl,rfl⟩
  ·exact wpAny_pyHash_int h
  ·exact wpAny_pyHash_str h
 eqBool:=λhu hv h=>by
  rcases M6 hu with ⟨i,t,rfl,rfl⟩|⟨x,t,rfl,rfl⟩
  ·rcases M6 hv with ⟨j,u,rfl,rfl⟩|⟨y,u,rfl,rfl⟩
   ·rw[vJ] at h;exact wpAny_eqBool_int h
   ·rw[KL] at h;exact SeqAt.EqAt.int_str i t y u _ _ _ _ h
  ·rcases M6 hv with ⟨j,u,rfl,rfl⟩|⟨y,u,rfl,rfl⟩
   ·rw[vM] at h;exact SeqAt.EqAt.str_int x t j u _ _ _ _ h
   ·rw[vK] at h;exact wpAny_eqBool_str h
 «strs»:=λk x t v h=>by
  rcases M6 h with ⟨i,u,rfl,e⟩|⟨y,u,rfl,e⟩
  ·exact nomatch e
  ·injection e with e1 _;subst e1;cases v <;> rfl
theorem GQ(prog:Program)(w:World)(i:Int)(t:Tok):(J4 prog w).is (.inl i) (.int i t)=true:=pN i t
theorem IK(prog:Program)(w:World)(x:Str)(t:Tok):(J4 prog w).is (.inr x) (.str x t)=true:=CD x t
inductive V where
 |non|bl (b:Bool)|int (i:Int)|str (x:Str)|byt (b:Array UInt8)|flt (b:UInt64)|ref (a:Addr)|ty (n:String)
 deriving DecidableEq
def RelV:V->Value->Prop
 | .non,u=>u=Value.none
 | .bl b,u=>u=Value.bool b
 | .int i,u=>∃ t,u=Value.int i t
 | .str x,u=>∃ t,u=Value.str x t
 | .byt b,u=>∃ t,u=Value.bytes b t
 | .flt b,u=>∃ t,u=Value.float b t
 | .ref a,u=>u=Value.ref a
 | .ty n,u=>u=Value.type n
abbrev Vals:List V->List Value->Prop:=Paired RelV
theorem Vals.length{xs:List V}{us:List Value}(r:Vals xs us):xs.length=us.length:=Paired.length r
theorem Vals.get:∀{xs:List V}{us:List Value}{i:Nat}{x:V},Vals xs us->xs[i]?=some x->∃ u,us[i]?=some u/\RelV x u
 |_,_,_,_,.nil,e=>by simp at e
 |_,_,0,_,.cons r _,e=>by simp at e;subst e;exact⟨_,rfl,r⟩
 | _,_,i+1,x,.cons _ t,e=>by
  obtain⟨u,a,b⟩:=Vals.get (i:=i) (x:=x) t (by simpa using e);exact⟨u,by simpa using a,b⟩
theorem Vals.set(r:RelV x u):∀{xs:List V}{us:List Value}(i:Nat),Vals xs us->Vals (xs.set i x) (us.set i u)
 |_,_,_,.nil=>.nil
 |_,_,0,.cons _ t=>.cons r t
 |_,_,i+1,.cons q t=>.cons q (Vals.set r i t)
theorem Vals.append:∀{xs ys:List V}{us ws:List Value},Vals xs us->Vals ys ws->Vals (xs++ys) (us++ws)
 |_,_,_,_,.nil,s=>s
 |_,_,_,_,.cons r t,s=>.cons r (Vals.append t s)
def RelO:Option V->Option Value->Prop
 |some v,some u=>RelV v u
 |none,none=>True
 |_,_=>False
def KV{κ:Type}:List (κ × V)->List (κ × Value)->Prop:=Paired λ(p : κ × V)(q : κ × Value)=>p.1=q.1/\RelV p.2 q.2
def kV:Key->V
 | .inl i=>.int i
 | .inr x=>.str x
inductive HO where
 /-- a list -/
 |lst (xs:List V)
 /-- a tuple (never changes) -/
 |tup (xs:List V)
 /-- a dict whose keys are ints and texts; one whose keys are tuples of ints and texts (the empty one is both) -/
 |dK (kvs:List (Key × V))|dT (kvs:List (List Key × V))
 /-- a set of ints: its members, its size -/
 |set (S:Int->Bool) (n:Nat)
 /-- an instance of the class at C, its dict at dx, its attributes -/
 |ins (C dx:Addr) (fs:List (Str × V))
 /-- the dict of the instance at x -/
 |own (x:Addr)
 /-- the dict of an exception -/
 |xd (fs:List (Str × V))
 /-- a bound method, f of x -/
 |met (f x:Addr)
 /-- a range object lo, lo + 1, .. below hi -/
 |rng (lo hi:Int)
 /-- a thing that is known to the object (the script; a dict while a loop walks it): read, never written while it is so -/
 |frz (o:Obj) (u:HO)
 /-- a code object's table -/
 |tbl (ps:Array Value)
 /-- any other thing, by what is true of its one object (a def of one's own: SetO a S n:=HO.ext λh=>..) -/
 |ext (φ:Heap->Prop)
abbrev Hp:=Addr->Option HO
def upd(H:Hp)(a:Addr)(o:HO):Hp:=λb=>if b=a then some o else H b
theorem S0:upd H a o a=some o:=by unfold upd;rw[z0 rfl]
theorem G0(h:b ≠ a):upd H a o b=H b:=by unfold upd;rw[y0 h]
theorem x9{H:Hp}{a b:Addr}{o u:HO}(h:H a=some o)(h':H b=some u)(d:o ≠ u):a ≠ b:=by
 intro e;subst e;rw[h] at h';exact d (W3 h')
theorem z3{H:Hp}{a b:Addr}{o:HO}(h:H a=some o)(h':H b=none):a ≠ b:=by
 intro e;subst e;rw[h] at h';cases h'
section
variable(P:Program)(w:World)
def ObjOk(H:Hp)(h:Heap)(a:Addr):HO->Prop
 | .lst xs=>xs.length<=sizeLine/\∃(its:List Value)(n:Nat),Vals xs its/\h.get? a=some { cls:=.type "list",data:=.seq its.toArray n }
 | .tup xs=>xs.length<=sizeLine/\∃ its:List Value,Vals xs its/\IsTup h a its.toArray
 | .dK kvs=>kvs.length<=sizeLine/\(a == sysModules)=false/\∃ vs,KV kvs vs/\h.DictOf (J4 P w) a vs
 | .dT kvs=>kvs.length<=sizeLine/\(a == sysModules)=false/\∃ xs:List (List Key × Addr × Value),
   Paired (λ(p:List Key × V)(q:List Key × Addr × Value)=>p.1=q.1/\H q.2.1=some (.tup (p.1.map kV))/\RelV p.2 q.2.2) kvs xs /\
   ∃ o es ep,h.get? a=some o/\o.ExactDict/\o.data=.dict es ep/\es.toList=xs.map (entryOfKey (tupleKind (J4 P w)))/\(xs.map (·.1)).Nodup
 | .set S n=>h.SetOf (intKind P w) a S n
 | .ins C dx fs=>H dx=some (.own a)/\fs.length<=1000/\dx ≠ a/\h.get? a=some (PySem.W.instObj C dx) /\
   ∃ mA,h.Ns1 dx mA/\(∀ f,RelO (fs.lookup f) (mA f))/\PySem.Within mA (fs.map (·.1))
 | .own _=>∃ o,h.get? a=some o
 | .xd fs=>∃ mA,h.Ns1 a mA/\∀ f,RelO (fs.lookup f) (mA f)
 | .rng lo hi=>∃ t u v,h.get? a=some { cls:=.type "range",data:=.fields #[.int lo t,.int hi u,.int 1 v] }
 | .frz o u=>h.get? a=some o/\ObjOk H h a u
 | .tbl gs=>∃ ps:Array Value,h.get? a=some { cls:=.none,data:=.fields ps }/\TriplesOk ps.toList/\∀(pos:Pos)(cv:Value),codeAmong pos ps.toList=some cv->∃ c oc vs q t t',cv=.ref c/\H c=some (.own a)/\h.get? c=some oc/\oc.data=.fields vs/\vs[1]?=some (.str q t)/\gs[0]?=some (.str q t')
 | .met f x=>h.get? a=some (PySem.W.methodObj (.ref f) (.ref x))
 | .ext φ=>φ h/\(∃ o,h.get? a=some o)/\∀ h1 h2:Heap,φ h1->(∀ o,h1.get? a=some o->h2.get? a=some o)->φ h2
def HOk(H:Hp)(h:Heap):Prop:=∀ a o,H a=some o->ObjOk P w H h a o
end
theorem ObjOk.lt(x:ObjOk P w H h a o):a<h.objs.size:=by
 cases o with
 |lst xs=>obtain⟨_,_,_,_,e⟩:=x;exact M0 e
 |tup xs=>obtain⟨_,_,_,p⟩:=x;exact p.lt
 |dK kvs=>obtain⟨_,_,_,_,o,_,_,e,_⟩:=x;exact M0 e
 |dT kvs=>obtain⟨_,_,_,_,o,_,_,e,_⟩:=x;exact M0 e
 |set S n=>obtain⟨o,_,_,_,e,_⟩:=x;exact M0 e
 |ins C dx fs=>obtain⟨_,_,_,e,_⟩:=x;exact M0 e
 |own y=>obtain⟨_,e⟩:=x;exact M0 e
 |xd fs=>obtain⟨_,⟨_,_,_,e,_⟩,_⟩:=x;exact M0 e
 |rng lo hi=>obtain⟨_,_,_,e⟩:=x;exact M0 e
 |frz ob u=>obtain⟨e,_⟩:=x;exact M0 e
 |tbl ps=>obtain⟨_,e,_⟩:=x;exact M0 e
 |met f y=>exact M0 (show h.get? a=some _ from x)
 |ext φ=>obtain⟨_,⟨_,e⟩,_⟩:=x;exact M0 e
theorem Paired.mapP{α β:Type}{F G : α->β->Prop}:∀{d:List α}{c:List β},Paired F d c->(∀ a b,F a b->G a b)->Paired G d c
 |_,_,.nil,_=>.nil
 |_,_,.cons r t,f=>.cons (f _ _ r) (Paired.mapP t f)
theorem ObjOk.stay(x:ObjOk P w H h a o)(k:∀ b u,(b=a\/H b=some (.own a))->h.get? b=some u->h'.get? b=some u)
  (m:∀ b,H b=some (.own a)->H' b=some (.own a)) (B:∀ b xs,H b=some (.tup xs)->H' b=some (.tup xs)):ObjOk P w H' h' a o:=by
 induction o with
 |lst xs=>obtain⟨z,its,n,r,e⟩:=x;exact⟨z,its,n,r,k _ _ (.inl rfl) e⟩
 |tup xs=>obtain⟨z,its,r,g,e,c⟩:=x;exact⟨z,its,r,g,k _ _ (.inl rfl) e,c⟩
 |dK kvs=>obtain⟨z,y,vs,r,g,es,i,e,c⟩:=x;exact⟨z,y,vs,r,g,es,i,k _ _ (.inl rfl) e,c⟩
 | dT kvs =>
  obtain⟨z,y,xs,r,g,es,i,e,c⟩:=x;exact⟨z,y,xs,Paired.mapP r λp q z=>⟨z.1,B _ _ z.2.1,z.2.2⟩,g,es,i,k _ _ (.inl rfl) e,c⟩
 |set S n=>obtain⟨g,es,i,t,e,c⟩:=x;exact⟨g,es,i,t,k _ _ (.inl rfl) e,c⟩
 | ins C dx fs =>
  obtain⟨d,z,ne,e,mA,⟨od,es,i,j,c⟩,r⟩:=x;exact⟨m _ d,z,ne,k _ _ (.inl rfl) e,mA,⟨od,es,i,k _ _ (.inr d) j,c⟩,r⟩
 |own y=>obtain⟨g,e⟩:=x;exact⟨g,k _ _ (.inl rfl) e⟩
 |xd fs=>obtain⟨mA,⟨od,es,i,e,c⟩,r⟩:=x;exact⟨mA,⟨od,es,i,k _ _ (.inl rfl) e,c⟩,r⟩
 |rng lo hi=>obtain⟨t,u,v,e⟩:=x;exact⟨t,u,v,k _ _ (.inl rfl) e⟩
 |frz g u ih=>obtain⟨e,q⟩:=x;exact⟨k _ _ (.inl rfl) e,ih q⟩
 | tbl ps =>
  obtain⟨l,e,T,f⟩:=x;exact⟨l,k a _ (.inl rfl) e,T,λpos D z=>let ⟨c,oc,vs,q,t,t',A,j,s,r⟩:=f pos D z;⟨c,oc,vs,q,t,t',A,m c j,k c oc (.inr j) s,r⟩⟩
 | met f y =>
  have e:h.get? a=some (PySem.W.methodObj (.ref f) (.ref y)):=x;show h'.get? a=some (PySem.W.methodObj (.ref f) (.ref y));exact k a _ (.inl rfl) e
 |ext φ=>obtain⟨p,⟨o,e⟩,st⟩:=x;exact⟨st _ _ p λo q=>k _ _ (.inl rfl) q,⟨o,k _ _ (.inl rfl) e⟩,st⟩
theorem HOk.lt(x:HOk P w H h)(e:H a=some o):a<h.objs.size:=(x a o e).lt
theorem HOk.fresh(x:HOk P w H h)(e:h.objs.size<=a):H a=none:=by
 cases q:H a with
 |none=>rfl
 |some u=>exact absurd (z4 (x.lt q) e) (L3 _)
theorem HOk.kept(x:HOk P w H h)(k:∀ b u,h.get? b=some u->h'.get? b=some u):HOk P w H h':=λa o e =>
 (x a o e).stay (λb u _ q=>k b u q) (λ_ q=>q) λ_ _ q=>q
theorem HOk.laid(x:HOk P w H h)(k:∀ b u,h.get? b=some u->h'.get? b=some u)(d:h.objs.size<=a)(new:ObjOk P w (upd H a o) h' a o):HOk P w (upd H a o) h':=λb u e=>by
 have hn:=x.fresh d;by_cases hb:b=a
 ·subst hb;rw[S0] at e;cases e;exact new
 ·rw[G0 hb] at e;exact(x b u e).stay (λc v _ q=>k c v q) (λc q=>by rw[G0 (z3 q hn)];exact q) λc xs q=>by rw[G0 (z3 q hn)];exact q
def Rd(H:Hp)(a:Addr)(u:HO):Prop:=H a=some u\/∃ o,H a=some (.frz o u)
theorem Rd.ok(r:Rd H a u)(x:HOk P w H h):ObjOk P w H h a u:=by
 rcases r with r|⟨o,r⟩
 ·exact x a u r
 ·obtain⟨_,q⟩:=x a _ r;exact q
def Mut:Option HO->Prop
 |some (.lst _)=>True
 |some (.dK _)=>True
 |some (.dT _)=>True
 |some (.set _ _)=>True
 |some (.ins _ _ _)=>True
 |some (.ext _)=>True
 |_=>False
theorem HOk.write(ok:HOk P w H h)(f:Mut (H x))(l:e=x\/H e=some (.own x))(k:∀ b u,b ≠ e->h.get? b=some u->h'.get? b=some u)(i:∃ u,h'.get? e=some u)
  (new:ObjOk P w (upd H x o') h' x o'):HOk P w (upd H x o') h':=λb u q=>by
 have a:∀ c y,H c=some (.own y)->c ≠ x:=λc y r z=>by subst z;rw[r] at f;exact f
 have d:∀ c xs,H c=some (.tup xs)->c ≠ x:=λc xs r z=>by subst z;rw[r] at f;exact f
 by_cases hb:b=x
 ·subst hb;rw[S0] at q;cases q;exact new
 ·rw[G0 hb] at q;by_cases hbe:b=e
  ·have j:H b=some (.own x):=by
    rcases l with z|z
    ·exact absurd (hbe.trans z) hb
    ·rw[hbe];exact z
   rw[q] at j;cases j;obtain⟨v,m⟩:=i;exact⟨v,by rw[hbe];exact m⟩
  ·refine(ok b u q).stay (λc v g r=>k c v ?_ r) (λc r=>by rw[G0 (a c b r)];exact r) λc xs r=>by rw[G0 (d c xs r)];exact r
   rcases g with rfl|g
   ·exact hbe
   ·rintro rfl;rcases l with z|z
    ·exact a c b g z
    ·rw[g] at z;cases z;exact hb rfl
structure Un(fs ex:List Addr)(H H':Hp)(h h':Heap):Prop where
 keep:∀ b o,h.get? b=some o->H b=none->b ∉ fs->b ∉ ex->h'.get? b=some o
 slot:∀ b o,h.get? b=some o->H b=none->b∈fs->b ∉ ex->∃ sl,h'.get? b=some { o with slots:=sl }
 free:∀ b o,h.get? b=some o->H b=none->b ∉ ex->H' b=none
 there:∀ b o,h.get? b=some o->b ∉ ex->∃ o',h'.get? b=some o'
 tups:∀ b xs,H b=some (.tup xs)->H' b=some (.tup xs)
 frzs:∀ b o u,H b=some (.frz o u)->H' b=some (.frz o u)
 tbls:∀ b ps,H b=some (.tbl ps)->∃ more,H' b=some (.tbl (ps++more))
section
variable{fs fs' ex ex':List Addr}{H H1 H2:Hp}{h h1 h2 h':Heap}{a x e:Addr}{o:HO}
theorem Un.any(u:Un fs ex H H1 h h1){b:Addr}{a:Obj}(q:h.get? b=some a)(n:H b=none)(hx:b ∉ ex):∃ sl,h1.get? b=some { a with slots:=sl }:=by
 by_cases hb:b∈fs
 ·exact u.slot b a q n hb hx
 ·exact⟨a.slots,u.keep b a q n hb hx⟩
theorem Un.kept(k:∀ b u,h.get? b=some u->h'.get? b=some u):Un fs ex H H h h' :=
 ⟨λb a q _ _ _=>k b a q,λb a q _ _ _=>⟨a.slots,k b a q⟩,λ_ _ _ n _=>n,λb a q _=>⟨a,k b a q⟩,λ_ _ q=>q,λ_ _ _ q=>q,λ_ ps q=>⟨#[],by rw[q];simp⟩⟩
theorem Un.refl:Un fs ex H H h h:=Un.kept λ_ _ q=>q
theorem Un.laid(k:∀ b u,h.get? b=some u->h'.get? b=some u)(c:h.objs.size<=a)(hn:H a=none):Un fs ex H (upd H a o) h h' where
 keep:=λb u q _ _ _=>k b u q
 slot:=λb u q _ _ _=>⟨u.slots,k b u q⟩
 free:=λb u q n _=>by rw[G0 (U1 (z4 (M0 q) c))];exact n
 there:=λb u q _=>⟨u,k b u q⟩
 tups:=λb xs q=>by rw[G0 (z3 q hn)];exact q
 frzs:=λb u xs q=>by rw[G0 (z3 q hn)];exact q
 tbls:=λb ps q=>⟨#[],by rw[G0 (z3 q hn),q];simp⟩
theorem Un.write(a:Mut (H x))(d:e=x\/H e=some (.own x))(k:∀ b u,b ≠ e->h.get? b=some u->h'.get? b=some u)(c:∃ u,h'.get? e=some u):Un fs ex H (upd H x o) h h':=by
 have hx:∀ b,H b=none->b ≠ x:=λb n z=>by subst z;rw[n] at a;exact a
 have hb:∀ b,H b=none->b ≠ e:=λb n z=>by
  subst z;rcases d with r|r
  ·exact hx b n r
  ·rw[n] at r;cases r
 have hm:∀ b u,H b=some u->¬ Mut (some u)->b ≠ x:=λb u q nm z=>by subst z;rw[q] at a;exact nm a
 refine⟨λb u q n _ _=>k b u (hb b n) q,λb u q n _ _=>⟨u.slots,k b u (hb b n) q⟩,λb u q n _=>by rw[G0 (hx b n)];exact n,λb u q _=>?_,
  λb xs q=>by rw[G0 (hm b _ q λz=>z)];exact q,λb u xs q=>by rw[G0 (hm b _ q λz=>z)];exact q,λb ps q=>⟨#[],by rw[G0 (hm b _ q λz=>z),q];simp⟩⟩
 by_cases hbe:b=e
 ·subst hbe;exact c
 ·exact⟨u,k b u hbe q⟩
end
def trk(h:Heap)(H:Hp):List Addr:=(List.range h.objs.size).filter λa=>(H a).isSome
def hidT(h:Heap)(H:Hp):Heap:=PySem.W.hideAll h (trk h H)
theorem VQ(h:Heap)(H:Hp):(hidT h H).objs.size=h.objs.size:=PySem.W.hideAll_size _ _
theorem yQ(e:h.get? b=some o)(n:H b=none):(hidT h H).get? b=some o :=
 PySem.W.hideAll_get _ e λhm=>by
  have q:(H b).isSome=true:=(List.mem_filter.mp hm).2;rw[n] at q;simp at q
theorem vN(e:(hidT h H).get? b=some o):h.get? b=some o/\H b=none:=by
 have a:h.get? b=some o:=PySem.W.of_hideAll (trk h H) e;refine⟨a,?_⟩;cases q:H b with
 |none=>rfl
 | some x =>
  have hm:b∈trk h H:=List.mem_filter.mpr ⟨X2.mpr (M0 a),by simp[q]⟩;have z:(hidT h H).get? b=none:=PySem.W.hideAll_none (trk h H) hm;rw[z] at e;cases e
def xO(g h:Heap)(L:Addr):List (Addr × Obj):=(List.range h.objs.size).filterMap λa=>if a=L\/(g.get? a).isSome=true then none else (h.get? a).map λo=>(a,o)
def rest(g h:Heap)(L d:Addr):List (Addr × Obj):=(xO g h L).filter λp=>decide (p.1 ≠ d)
def lamN:Str:="best_few"
def lamQ:Str:="best_few.<locals>.<lambda>"
def SF(mg:Str->Option Value)(h:Heap):Prop:=∃ bm ob,mg "__builtins__" = some (.ref bm)/\bm ≠ builtinsNs/\h.get? bm=some ob/\ob.cls=.type "module"/\ob.dict=some builtinsNs/\ob.data=.plain
def TabsOk(K:Frag)(H:Hp):Prop:=∀ c P,PySem.W.tabIn K lamN=some (c,P)->∃ more,H P=some (.tbl (#[.str lamQ 0]++more))
structure Mod(K:Frag)(mg:Str->Option Value)(base:Heap):Prop where
 kin:K.In base
 glob:base.Ns mainGlobals mg
 blt:∃ mb,base.Ns builtinsNs mb/\∀ x:Str,x ≠ "__name__"->mb x=bootBuiltins x
 nolimit:base.NoLimit
 bmain:SF mg base
/-- the context: a def's body (or a comprehension's block) running. base: fixed through the whole law; s₀, H₀: the entry; outer: the frames whose slots others may change (a def's callers); stack: all frames that run;
  ex: iterators that were made ahead of the entry and are walked here (a comprehension's);fn: the names whose cells were made at the entry (a def: all;a comprehension's block: its own);calm: not within an except suite;pn: pins that every state bears;xe: what is wanted of an exception that leaves the code -/
structure Cx where
 prog:Program
 w:World
 K:Frag
 mg:Str->Option Value
 base:Heap
 A:Around
 N:List Str
 s₀:Shared
 H₀:Hp
 env:Env
 outer:List Env
 stack:List Env
 ex:List Addr
 fn:Str->Bool
 calm:Bool
 pn:List (Addr × Obj)
 xe:Value->Shared->Prop
def frs(l:List Env):List Addr:=l.filterMap (·.frame)
abbrev Cx.fs(X:Cx):List Addr:=frs X.outer
def Vis(sc:Scope)(x:Str):Prop:=sc.names.lookup x=some .local\/sc.names.lookup x=some .cell\/sc.names.lookup x=some .free
def Loc(sc:Scope)(x:Str):Prop:=sc.names.lookup x=some .local\/sc.names.lookup x=some .cell
def Look(env:Env)(h:Heap)(m:Str->Option Value)(x:Str)(u:Value):Prop :=
 (env.kindOf x=some .local/\m x=some u)\/((env.kindOf x=some .cell\/env.kindOf x=some .free)/\∃ c,env.cells.lookup x=some c/\h.IsCell c (some u))
structure Cx.Ok(X:Cx):Prop where
 mod:Mod X.K X.mg X.base
 kind:X.env.scope.kind=.function
 glob:X.env.globals=mainGlobals
 blt:X.env.builtins=builtinsNs
 above:X.s₀.heap.objs.size<=X.env.locals
 inj:∀ x y c,X.env.cells.lookup x=some c->X.env.cells.lookup y=some c->x=y
 has:∀ x,(X.env.kindOf x=some .cell\/X.env.kindOf x=some .free)->∃ c,X.env.cells.lookup x=some c
 cab:∀ x c,X.fn x=true->X.env.cells.lookup x=some c->X.s₀.heap.objs.size<=c
 hd:X.calm=true->X.A.handled=none
 frames:X.A.frames=some X.stack
 stk:X.stack=X.outer\/(X.stack=X.env::X.outer/\X.env.frame=some X.env.locals)
 exf:∀ b∈X.ex,b ≠ X.env.locals/\∀ x c,X.env.cells.lookup x=some c->c ≠ b
 bs:∀ b o,X.base.get? b=some o->X.s₀.heap.get? b=some o/\X.H₀ b=none
 bsz:X.base.objs.size<=X.s₀.heap.objs.size
 noex:∀ b o,X.base.get? b=some o->b ∉ X.ex
 exfs:∀ b∈X.ex,b ∉ X.fs
 funs:X.s₀.heap.FunFrames X.base X.outer
 frf:∀ b∈X.fs,X.H₀ b=none
 tab:TabsOk X.K X.H₀
structure Inv(X:Cx)(pins:List (Addr × Obj))(σ:List (Option V))(H:Hp)(s:Shared):Prop where
 ok:X.Ok
 os:s.os=X.s₀.os
 bare:AllBare s.gens
 base:Un X.fs X.ex X.H₀ H X.s₀.heap s.heap
 loc:∃ m,s.heap.Ns X.env.locals m/\∀(i:Nat)(x:Str)(v:V),X.N[i]?=some x->σ[i]?=some (some v)->Vis X.env.scope x->∃ u,RelV v u/\Look X.env s.heap m x u
 cell:∀ x c,X.env.cells.lookup x=some c->∃ v,s.heap.IsCell c v
 free:H X.env.locals=none
 freeC:∀ x c,X.env.cells.lookup x=some c->H c=none
 pin:∀ p∈X.pn++pins,s.heap.get? p.1=some p.2/\H p.1=none/\p.1 ≠ X.env.locals/\p.1 ∉ X.fs/\∀ v,p.2.data ≠ .cell v
 hok:HOk X.prog X.w H s.heap
 len : σ.length=X.N.length
section
variable{X:Cx}{pins:List (Addr × Obj)}{σ:List (Option V)}{H H':Hp}{s:Shared}{h':Heap}
theorem Cx.Ok.nofr(ok:X.Ok)(e:X.base.get? b=some o):b ∉ X.fs:=λhb=>by
 have:=(ok.funs.mem hb).1;rw[e] at this;cases this
theorem Inv.bs(I:Inv X pins σ H s):∀ b o,X.base.get? b=some o->s.heap.get? b=some o/\H b=none:=λb o e =>
 ⟨I.base.keep b o (I.ok.bs b o e).1 (I.ok.bs b o e).2 (I.ok.nofr e) (I.ok.noex b o e),I.base.free b o (I.ok.bs b o e).1 (I.ok.bs b o e).2 (I.ok.noex b o e)⟩
theorem Inv.bk(I:Inv X pins σ H s):∀ b o,X.base.get? b=some o->s.heap.get? b=some o:=λb o e=>(I.bs b o e).1
theorem Inv.mod(I:Inv X pins σ H s):Mod X.K X.mg X.base:=I.ok.mod
theorem Inv.kIn(I:Inv X pins σ H s):X.K.In s.heap:=I.ok.mod.kin.keeps I.bk
theorem Inv.lt(I:Inv X pins σ H s):X.env.locals<s.heap.objs.size:=let ⟨_,hn,_⟩:=I.loc;hn.lt
theorem Inv.sz(I:Inv X pins σ H s):X.s₀.heap.objs.size<=s.heap.objs.size:=D2 I.ok.above (V5 I.lt)
theorem Inv.nofs(I:Inv X pins σ H s)(h:s.heap.objs.size<=a):a ∉ X.fs:=λhb=>by
 obtain⟨_,o,b,_⟩:=I.ok.funs.mem hb;exact absurd (z4 (M0 b) (D2 I.sz h)) (L3 _)
theorem Inv.cne(I:Inv X pins σ H s):∀ x c,X.env.cells.lookup x=some c->c ≠ X.env.locals:=λx c e z=>by
 obtain⟨v,o,d,hd⟩:=I.cell x c e;obtain⟨m,⟨o',es,f,a,b,_⟩,_⟩:=I.loc;rw[z,a] at d;cases d;rw[b] at hd;cases hd
theorem Inv.funs(I:Inv X pins σ H s):s.heap.FunFrames X.base X.outer:=by
 have all:∀(l:List Env),(∀ b∈frs l,b∈X.fs)->X.s₀.heap.FunFrames X.base l->s.heap.FunFrames X.base l:=by
  intro l
  induction l with
  |nil=>intro _ _;trivial
  | cons env r ih =>
   intro hs d;obtain⟨f,⟨L,o,hf,hn,c,hd⟩,g⟩:=d;have a:L∈X.fs:=hs L (by unfold frs;rw[List.filterMap_cons,hf];exact E4);obtain⟨sl,e⟩:=I.base.slot L o c (I.ok.frf L a) a λz=>I.ok.exfs L z a;exact⟨f,⟨L,_,hf,hn,e,hd⟩,ih (λb hb=>hs b (by unfold frs;rw[List.filterMap_cons,hf];exact Q3 _ hb)) g⟩
 exact all X.outer (λ_ hb=>hb) I.ok.funs
theorem TabsOk.un{K:Frag}{fs ex:List Addr}{H H':Hp}{h h':Heap}(t:TabsOk K H)(u:Un fs ex H H' h h'):TabsOk K H':=λc P e =>
 let ⟨m,q⟩:=t c P e;let ⟨a,b⟩:=u.tbls P _ q
 ⟨m++a,by rw[b,Array.append_assoc]⟩
theorem Inv.tab(I:Inv X pins σ H s):TabsOk X.K H:=I.ok.tab.un I.base
theorem Inv.stack(I:Inv X pins σ H s):s.heap.FunFrames X.base X.stack:=by
 rcases I.ok.stk with e|⟨e,hf⟩
 ·rw[e];exact I.funs
 ·rw[e];obtain⟨m,hn,_⟩:=I.loc;refine .cons (by rw[I.ok.kind];decide) hf hn ?_ I.funs;exact Heap.get?_none_of_le (D2 I.ok.bsz I.ok.above)
theorem Inv.stkSub(I:Inv X pins σ H s):∀ b∈frs X.stack,b∈X.env.locals::X.fs:=λb hb=>by
 rcases I.ok.stk with e|⟨e,hf⟩
 ·rw[e] at hb;exact Q3 _ hb
 ·rw[e] at hb;unfold frs at hb;rw[List.filterMap_cons,hf] at hb;exact hb
theorem Inv.stkFree(I:Inv X pins σ H s):∀ b∈frs X.stack,H b=none:=λb hb=>by
 rcases V0.mp (I.stkSub b hb) with e|hb
 ·rw[e];exact I.free
 ·obtain⟨_,o,a,_⟩:=I.ok.funs.mem hb;exact I.base.free b o a (I.ok.frf b hb) λz=>I.ok.exfs b z hb
theorem Inv.step{g':Array GenState}{t':Nat}{d':Drawn}{ch:List Addr}(I:Inv X pins σ H s)
  (a:∀ b∈ch,(b∈X.ex\/X.s₀.heap.objs.size<=b)/\b ≠ X.env.locals/\(∀ x c,X.env.cells.lookup x=some c->c ≠ b)/\∀ p∈X.pn++pins,p.1 ≠ b)
  (keep:∀ b o,b ≠ X.env.locals->b ∉ X.fs->b ∉ ch->s.heap.get? b=some o->H b=none->h'.get? b=some o)
  (slot:∀ b o,b ≠ X.env.locals->b∈X.fs->b ∉ ch->s.heap.get? b=some o->H b=none->∃ sl,h'.get? b=some { o with slots:=sl }) (free:∀ b o,b ∉ ch->s.heap.get? b=some o->H b=none->H' b=none)
  (there:∀ b o,b ∉ ch->s.heap.get? b=some o->∃ o',h'.get? b=some o')
  (tups:∀ b xs,H b=some (.tup xs)->H' b=some (.tup xs)) (frzs:∀ b o u,H b=some (.frz o u)->H' b=some (.frz o u)) (tbls:∀ b ps,H b=some (.tbl ps)->∃ more,H' b=some (.tbl (ps++more)))
  (ns:∀ m,s.heap.Ns X.env.locals m->h'.Ns X.env.locals m) (hok:HOk X.prog X.w H' h') (G:AllBare g') :
  Inv X pins σ H' { s with heap:=h',gens:=g',drawn:=d',toks:=t' }:=by
 have A:∀ b o,X.s₀.heap.get? b=some o->b ≠ X.env.locals:=λb o e=>U1 (z4 (M0 e) I.ok.above);have h:∀ b o,X.s₀.heap.get? b=some o->b ∉ X.ex->b ∉ ch:=λb o e hx hb=>by
  rcases(a b hb).1 with z|z
  ·exact hx z
  ·exact absurd (z4 (M0 e) z) (L3 _)
 have f:∀ x c,X.env.cells.lookup x=some c->∀ v,s.heap.IsCell c v->h'.IsCell c v:=λx c e v E=>by
  obtain⟨o,t,hd⟩:=E;have g:c ∉ ch:=λz=>(a c z).2.2.1 x c e rfl;by_cases hc:c∈X.fs
  ·obtain⟨sl,q⟩:=slot c o (I.cne x c e) hc g t (I.freeC x c e);exact⟨_,q,hd⟩
  ·exact⟨o,keep c o (I.cne x c e) hc g t (I.freeC x c e),hd⟩
 refine⟨I.ok,I.os,G,⟨λb o e n hb hx=>?_,λb o e n hb hx=>?_,λb o e n hx=>?_,λb o e hx=>?_,λb xs e=>tups b xs (I.base.tups b xs e),λb o xs e=>frzs b o xs (I.base.frzs b o xs e),λb ps e=>?_⟩,?_,λx c e=>?_,?_,λx c e=>?_,λp D=>?_,hok,I.len⟩
 ·exact keep b o (A b o e) hb (h b o e hx) (I.base.keep b o e n hb hx) (I.base.free b o e n hx)
 ·obtain⟨sl,j⟩:=I.base.slot b o e n hb hx;obtain⟨B,y⟩:=slot b _ (A b o e) hb (h b o e hx) j (I.base.free b o e n hx);exact⟨B,y⟩
 ·obtain⟨o',j⟩:=I.base.there b o e hx;exact free b o' (h b o e hx) j (I.base.free b o e n hx)
 ·obtain⟨o',j⟩:=I.base.there b o e hx;exact there b o' (h b o e hx) j
 ·obtain⟨L,j⟩:=I.base.tbls b ps e;obtain⟨J,y⟩:=tbls b _ j;exact⟨L++J,by rw[y,Array.append_assoc]⟩
 ·obtain⟨m,hn,K⟩:=I.loc;refine⟨m,ns m hn,λi x v j y F=>?_⟩;obtain⟨u,r,l⟩:=K i x v j y F;refine⟨u,r,?_⟩;rcases l with l|⟨k,c,e,z⟩
  ·exact .inl l
  ·exact .inr ⟨k,c,e,f x c e _ z⟩
 ·obtain⟨v,z⟩:=I.cell x c e;exact⟨v,f x c e v z⟩
 ·obtain⟨m,⟨o,_,_,t,_⟩,_⟩:=I.loc;exact free _ o (λz=>(a _ z).2.1 rfl) t I.free
 ·obtain⟨v,o,t,hd⟩:=I.cell x c e;exact free c o (λz=>(a c z).2.2.1 x c e rfl) t (I.freeC x c e)
 ·obtain⟨e,n,ne,C,d⟩:=I.pin p D;have g:p.1 ∉ ch:=λz=>(a p.1 z).2.2.2 p D rfl;exact⟨keep p.1 p.2 ne C g e n,free p.1 p.2 g e n,ne,C,d⟩
theorem Inv.un(I:Inv X pins σ H s)(u:Un X.fs [] H H' s.heap h')(hok:HOk X.prog X.w H' h'):Inv X pins σ H' { s with heap:=h',toks:=t' }:=by
 obtain⟨m,⟨o,es,j,f,r⟩,_⟩:=id I.loc;obtain⟨sl,h⟩:=u.any f I.free (by simp)
 exact I.step (g':=s.gens) (d':=s.drawn) (ch:=[]) (λ_ z=>nomatch z) (λb o _ hb _ e n=>u.keep b o e n hb (by simp)) (λb o _ hb _ e n=>u.slot b o e n hb (by simp)) (λb o _ e n=>u.free b o e n (by simp)) (λb o _ e=>u.there b o e (by simp)) u.tups u.frzs u.tbls (λi hm=>by
  obtain⟨o',d,c,a,g⟩:=hm;rw[f] at a;cases a;exact⟨_,d,c,h,g⟩) hok I.bare
theorem Inv.call(I:Inv X pins σ H s)(u:Un (frs X.stack) ch H H' s.heap h')(hok:HOk X.prog X.w H' h')(l:AllBare g')
  (d:∀ b∈ch,(b∈X.ex\/X.s₀.heap.objs.size<=b)/\b ≠ X.env.locals/\(∀ x c,X.env.cells.lookup x=some c->c ≠ b)/\∀ p∈X.pn++pins,p.1 ≠ b) :
  Inv X pins σ H' { s with heap:=h',gens:=g',drawn:=d',toks:=t' }:=by
 obtain⟨m,⟨o,es,v,j,r⟩,_⟩:=id I.loc;obtain⟨sl,g⟩:=u.any j I.free λz=>(d _ z).2.1 rfl;exact I.step (ch:=ch) d (λb o g hb a e n=>u.keep b o e n (λz=>(V0.mp (I.stkSub b z)).elim g hb) a) (λb o _ _ a e n=>u.any e n a) (λb o a e n=>u.free b o e n a) (λb o a e=>u.there b o e a) u.tups u.frzs u.tbls (λt hm=>by
  obtain⟨o',i,h,f,q⟩:=hm;rw[j] at f;cases f;exact⟨_,i,h,g,q⟩) hok l
theorem Inv.turned(I:Inv X pins σ H s)(k:∀ b o,b ≠ it->s.heap.get? b=some o->h'.get? b=some o)(hn:H it=none)(f:it ≠ X.env.locals)
  (l:it∈X.ex\/X.s₀.heap.objs.size<=it) (h:∀ x c,X.env.cells.lookup x=some c->c ≠ it) (g:∀ p∈X.pn++pins,p.1 ≠ it):Inv X pins σ H { s with heap:=h',toks:=t' }:=by
 have d:∀ b u,H b=some u->b ≠ it:=λb u e z=>by rw[z,hn] at e;cases e
 refine I.step (g':=s.gens) (d':=s.drawn) (ch:=[it]) (λb hb=>?_) (λb o _ _ a e _=>k b o (λz=>a (by simp[z])) e) (λb o _ _ a e _=>⟨o.slots,k b o (λz=>a (by simp[z])) e⟩) (λ_ _ _ _ n=>n)
  (λb o a e=>⟨o,k b o (λz=>a (by simp[z])) e⟩) (λ_ _ e=>e) (λ_ _ _ e=>e) (λb ps e=>⟨#[],by rw[e];simp⟩) (λm hm=>?_) (λb u e=>?_) I.bare
 ·have e:b=it:=by simpa using hb
  subst e;exact⟨l,f,h,g⟩
 ·obtain⟨o,es,i,j,r⟩:=hm;exact⟨o,es,i,k _ o (Ne.symm f) j,r⟩
 ·refine(I.hok b u e).stay (λc v a q=>k c v ?_ q) (λ_ q=>q) λ_ _ q=>q;rcases a with z|z
  ·rw[z];exact d b u e
  ·exact d c _ z
theorem Inv.tok(I:Inv X pins σ H s)(t:Nat):Inv X pins σ H { s with toks:=t }:=I.un (h':=s.heap) (t':=t) Un.refl I.hok
theorem Inv.kept(I:Inv X pins σ H s)(k:∀ b u,s.heap.get? b=some u->h'.get? b=some u):Inv X pins σ H { s with heap:=h',toks:=t' }:=I.un (Un.kept k) (I.hok.kept k)
theorem Inv.laid(I:Inv X pins σ H s)(k:∀ b u,s.heap.get? b=some u->h'.get? b=some u)(c:s.heap.objs.size<=a)(new:ObjOk X.prog X.w (upd H a o) h' a o) :
  Inv X pins σ (upd H a o) { s with heap:=h',toks:=t' }:=I.un (Un.laid k c (I.hok.fresh c)) (I.hok.laid k c new)
theorem Inv.write(I:Inv X pins σ H s)(d:Mut (H x))(c:e=x\/H e=some (.own x))(k:∀ b u,b ≠ e->s.heap.get? b=some u->h'.get? b=some u)(a:∃ u,h'.get? e=some u)
  (new:ObjOk X.prog X.w (upd H x o) h' x o):Inv X pins σ (upd H x o) { s with heap:=h',toks:=t' }:=I.un (Un.write d c k a) (I.hok.write d c k a new)
theorem Inv.pins_of(I:Inv X pins σ H s)(h:∀ p∈a,s.heap.get? p.1=some p.2/\H p.1=none/\p.1 ≠ X.env.locals/\p.1 ∉ X.fs/\∀ v,p.2.data ≠ .cell v):Inv X a σ H s :=
 ⟨I.ok,I.os,I.bare,I.base,I.loc,I.cell,I.free,I.freeC,λp b=>(N2.mp b).elim (λz=>I.pin p (J5 _ z)) (h p),I.hok,I.len⟩
theorem nodup_ix{N:List Str}(d:N.Nodup){i j:Nat}{x:Str}(a:N[i]?=some x)(b:N[j]?=some x):i=j:=by
 obtain⟨g,f⟩:=R1.mp a;obtain⟨h,c⟩:=R1.mp b;exact(List.getElem_inj d).mp (f.trans c.symm)
theorem CH(I:Inv X pins σ H s)(hN:X.N.Nodup)(hi:X.N[i]?=some x)(hx:Loc X.env.scope x)(r:RelV v u)
  (h:∀ Z,Inv X pins (σ.set i (some v)) H Z->(∃ a,Heap.SameBut a s.heap Z.heap/\(a=X.env.locals\/X.env.cells.lookup x=some a))->Q () Z) (hf:X.fn x=true\/X.env.scope.names.lookup x=some .local:=by first|exact .inl rfl|exact .inr rfl|assumption):wpAny M A (storeName X.env x u) Q E s:=by
 obtain⟨m,hn,hl⟩:=id I.loc;have G:(X.env.scope.kind == .class || (X.env.scope.kind == .module && X.env.locals != X.env.globals))=false:=by rw[I.ok.kind];rfl
 have C:i<σ.length:=by rw[I.len];exact(R1.mp hi).1
 have cne:=I.cne;have f:∀{a:Addr}{h':Heap},(∃ o,s.heap.get? a=some o/\H a=none)->Heap.SameBut a s.heap h'->HOk X.prog X.w H h':=λ{a h'} ha hs b ob e=>by
  obtain⟨_,_,t⟩:=ha;refine(I.hok b ob e).stay (λc O l q=>(hs.2 c ?_).trans q) (λ_ q=>q) λ_ _ q=>q;rintro rfl;rcases l with rfl|l
  ·rw[t] at e;cases e
  ·rw[t] at l;cases l
 rcases hx with D|D
 ·refine wpAny_storeName_local D hn (λh' U hs=>?_) G;obtain⟨oL,_,_,Y,_⟩:=id hn;refine h _ ⟨I.ok,I.os,I.bare,⟨λb o e n hb hx=>?_,λb o e n hb hx=>?_,I.base.free,λb o e hx=>?_,I.base.tups,I.base.frzs,I.base.tbls⟩,⟨_,U,λj y S g B R=>?_⟩,λy c e=>?_,I.free,I.freeC,λp hp=>?_,f ⟨oL,Y,I.free⟩ hs,by simpa using I.len⟩ ⟨_,hs,.inl rfl⟩
  ·exact(hs.2 b (U1 (z4 (M0 e) I.ok.above))).trans (I.base.keep b o e n hb hx)
  ·obtain⟨sl,g⟩:=I.base.slot b o e n hb hx;exact⟨sl,(hs.2 b (U1 (z4 (M0 e) I.ok.above))).trans g⟩
  ·obtain⟨o',g⟩:=I.base.there b o e hx;exact⟨o',(hs.2 b (U1 (z4 (M0 e) I.ok.above))).trans g⟩
  ·by_cases hj:j=i
   ·subst hj;rw[hi] at g;cases g;rw[List.getElem?_set_self C] at B;cases B;exact⟨u,r,.inl ⟨D,by simp⟩⟩
   ·rw[List.getElem?_set_ne (Ne.symm hj)] at B;obtain⟨W,T,q⟩:=hl j y S g B R;refine⟨W,T,?_⟩;rcases q with ⟨k,e⟩|⟨k,c,e,z⟩
    ·refine .inl ⟨k,?_⟩;have:y ≠ x:=λe=>hj (nodup_ix hN g (e ▸ hi));simp[this,e]
    ·exact .inr ⟨k,c,e,z.sameBut hs (cne y c e)⟩
  ·obtain⟨O,z⟩:=I.cell y c e;exact⟨O,z.sameBut hs (cne y c e)⟩
  ·obtain⟨e,n,ne,nf,d⟩:=I.pin p hp;exact⟨(hs.2 p.1 ne).trans e,n,ne,nf,d⟩
 ·have F:X.fn x=true:=by
   rcases hf with z|z
   ·exact z
   ·rw[z] at D;cases D
  obtain⟨c,l⟩:=I.ok.has x (.inl D);obtain⟨O,z⟩:=I.cell x c l;refine wpAny_storeName_cell I.ok.kind D l z (λh' K hs=>?_);obtain⟨oc,J,L⟩:=id z;refine h { s with heap:=h' } ⟨I.ok,I.os,I.bare,⟨λb o e n hb hx=>?_,λb o e n hb hx=>?_,I.base.free,λb o e hx=>?_,I.base.tups,I.base.frzs,I.base.tbls⟩,⟨m,hn.sameBut hs (Ne.symm (cne x c l)),λj y S g B R=>?_⟩,λy P e=>?_,I.free,I.freeC,λp hp=>?_,f ⟨oc,J,I.freeC x c l⟩ hs,by simpa using I.len⟩ ⟨c,hs,.inr l⟩
  ·exact(hs.2 b (U1 (z4 (M0 e) (I.ok.cab x c F l)))).trans (I.base.keep b o e n hb hx)
  ·obtain⟨sl,g⟩:=I.base.slot b o e n hb hx;exact⟨sl,(hs.2 b (U1 (z4 (M0 e) (I.ok.cab x c F l)))).trans g⟩
  ·obtain⟨o',g⟩:=I.base.there b o e hx;exact⟨o',(hs.2 b (U1 (z4 (M0 e) (I.ok.cab x c F l)))).trans g⟩
  ·by_cases hj:j=i
   ·subst hj;rw[hi] at g;cases g;rw[List.getElem?_set_self C] at B;cases B;exact⟨u,r,.inr ⟨.inl D,c,l,K⟩⟩
   ·rw[List.getElem?_set_ne (Ne.symm hj)] at B;obtain⟨W,T,q⟩:=hl j y S g B R;refine⟨W,T,?_⟩;rcases q with q|⟨k,P,e,z'⟩
    ·exact .inl q
    ·refine .inr ⟨k,P,e,z'.sameBut hs ?_⟩;rintro rfl;exact hj (nodup_ix hN g (I.ok.inj _ _ _ e l ▸ hi))
  ·by_cases hcc:P=c
   ·subst hcc;exact⟨_,K⟩
   ·obtain⟨w2,z2⟩:=I.cell y P e;exact⟨w2,z2.sameBut hs hcc⟩
  ·obtain⟨e,n,ne,nf,d⟩:=I.pin p hp;refine⟨(hs.2 p.1 ?_).trans e,n,ne,nf,d⟩;intro q;rw[q,J] at e;have q':oc=p.2:=W3 e;exact d O (by rw[← q'];exact L)
theorem qD(I:Inv X pins σ H s)(c:X.N.Nodup)(hi:X.N[i]?=some x)(hx:Loc X.env.scope x)(r:RelV v u)
  (h:∀ a,Inv X pins (σ.set i (some v)) H a->Q () a) (hf:X.fn x=true\/X.env.scope.names.lookup x=some .local:=by first|exact .inl rfl|exact .inr rfl|assumption):wpAny M A (storeName X.env x u) Q E s :=
 CH I c hi hx r (λa b _=>h a b) hf
theorem Inv.call'(I:Inv X pins σ H s)(g:a.os=s.os)(u:Un (frs X.stack) ch H H' s.heap a.heap)(hok:HOk X.prog X.w H' a.heap)(f:AllBare a.gens)
  (d:∀ b∈ch,(b∈X.ex\/X.s₀.heap.objs.size<=b)/\b ≠ X.env.locals/\(∀ x c,X.env.cells.lookup x=some c->c ≠ b)/\∀ p∈X.pn++pins,p.1 ≠ b):Inv X pins σ H' a:=by
 obtain⟨h',g',d',t',o'⟩:=a;have e:o'=s.os:=g;subst e;exact I.call (g':=g') (t':=t') (d':=d') u hok f d
end
abbrev XK:=Value->Option Addr->Hp->Prop
abbrev St:=List (Option V)
abbrev VK:=V->Hp->Prop
abbrev TE:=St->Hp->VK->Prop
abbrev TT:=St->Hp->(Bool->Hp->Prop)->Prop
abbrev TA:=St->Hp->(List V->Hp->Prop)->Prop
structure Ends where
 nx:St->Hp->Prop
 rt:VK
 bk:St->Hp->Prop:=λ_ _=>False
 ct:St->Hp->Prop:=λ_ _=>False
abbrev TS:=Ends->St->Hp->Prop
def EP(X:Cx)(pins:List (Addr × Obj))(σ:St)(Q:VK)(u:Value)(s':Shared):Prop:=∃ v H',Inv X pins σ H' s'/\RelV v u/\Q v H'
def TP(X:Cx)(pins:List (Addr × Obj))(σ:St)(Q:Bool->Hp->Prop)(b:Bool)(s':Shared):Prop:=∃ H',Inv X pins σ H' s'/\Q b H'
def AP(X:Cx)(pins:List (Addr × Obj))(σ:St)(Q:List V->Hp->Prop)(us:List Value)(s':Shared):Prop:=∃ vs H',Inv X pins σ H' s'/\Vals vs us/\Q vs H'
def SP(X:Cx)(pins:List (Addr × Obj))(D:Ends)(f:Flow)(s':Shared):Prop :=
 match f with
 | .next=>∃ σ' H',Inv X pins σ' H' s'/\D.nx σ' H'
 | .brk=>∃ σ' H',Inv X pins σ' H' s'/\D.bk σ' H'
 | .cont=>∃ σ' H',Inv X pins σ' H' s'/\D.ct σ' H'
 | .ret u=>∃ v σ' H',Inv X pins σ' H' s'/\RelV v u/\D.rt v H'
def PE(X:Cx)(e:Expr)(t:TE):Prop :=
 ∀(pins:List (Addr × Obj))(s:Shared)(σ:St)(H:Hp)(Q:VK),Inv X pins σ H s->t σ H Q->wpAny (model X.prog X.w) X.A (eval e X.env) (EP X pins σ Q) X.xe s
def PT(X:Cx)(e:Expr)(t:TT):Prop :=
 ∀(pins:List (Addr × Obj))(s:Shared)(σ:St)(H:Hp)(Q:Bool->Hp->Prop),Inv X pins σ H s->t σ H Q->wpAny (model X.prog X.w) X.A (isTrue e X.env (eval e X.env)) (TP X pins σ Q) X.xe s
def PW(X:Cx)(e:Expr)(t:TT):Prop :=
 ∀(whole:Sem Value)(pins:List (Addr × Obj))(s:Shared)(σ:St)(H:Hp)(Q:Bool->Hp->Prop),Inv X pins σ H s->t σ H Q->wpAny (model X.prog X.w) X.A (isTrue e X.env whole) (TP X pins σ Q) X.xe s
theorem PW.pt(h:PW X e t):PT X e t:=h _
def PA(X:Cx)(es:List Expr)(t:TA):Prop :=
 ∀(pos:Pos)(pins:List (Addr × Obj))(s:Shared)(σ:St)(H:Hp)(Q:List V->Hp->Prop),Inv X pins σ H s->t σ H Q->wpAny (model X.prog X.w) X.A (spliced (backTo pos (starEach es X.env))) (AP X pins σ Q) X.xe s
def PS(X:Cx)(st:Stmt)(t:TS):Prop :=
 ∀(pins:List (Addr × Obj))(s:Shared)(σ:St)(H:Hp)(D:Ends),Inv X pins σ H s->t D σ H->wpAny (model X.prog X.w) X.A (exec st X.env) (SP X pins D) X.xe s
def PSs(X:Cx)(st:List Stmt)(t:TS):Prop :=
 ∀(pins:List (Addr × Obj))(s:Shared)(σ:St)(H:Hp)(D:Ends),Inv X pins σ H s->t D σ H->wpAny (model X.prog X.w) X.A (execs st X.env) (SP X pins D) X.xe s
theorem thn{α:Type}{t:Sem α}{Q b : α->Shared->Prop}{M:Model}{A:Around}{E:Value->Shared->Prop}{s:Shared}(h:wpAny M A t Q E s)(c:∀ a s,Q a s->b a s):wpAny M A t b E s:=Y2 h c λ_ _ x=>x
section
def tVar(i:Nat):TE:=λσ H Q=>∃ v,σ[i]?=some (some v)/\Q v H
def tC(v:V):TE:=λ_ H Q=>Q v H
theorem tT(n:X.N[i]?=some x)(g:Vis X.env.scope x)(hd:(x == ("__debug__" : Str))=false:=by decide)(d:(x == ("__classdict__" : Str))=false:=by decide):PE X (.Name x pos) (tVar i):=by
 intro pins s σ H Q I h;obtain⟨v,e,h⟩:=h;obtain⟨m,hn,j⟩:=I.loc;obtain⟨u,r,l⟩:=j i x v n e g;have fin:EP X pins σ Q u s:=⟨v,H,I,r,h⟩
 rcases l with ⟨b,hm⟩|⟨b,c,f,a⟩
 ·exact wpAny_Name (wpAny_loadName_local I.ok.kind b hn hm fin) hd
 ·rcases b with b|b
  ·exact wpAny_Name (wpAny_loadName_cell I.ok.kind b f a fin) hd
  ·exact wpAny_Name (wpAny_loadName_free I.ok.kind b f a fin d) hd
theorem O2{i j pos}:PE X (.Constant (.int i) j pos) (tC (.int i)):=λ_ _ _ H _ I h=>wpAny_Constant_int ⟨.int i,H,I.tok _,⟨_,rfl⟩,h⟩
theorem O7{b j pos}:PE X (.Constant (.bool b) j pos) (tC (.bl b)):=λ_ _ _ H _ I h=>Constant_bool ⟨.bl b,H,I,rfl,h⟩
theorem U6{j pos}:PE X (.Constant .none j pos) (tC .non):=λ_ _ _ H _ I h=>Constant_none ⟨.non,H,I,rfl,h⟩
theorem t0{x j pos}:PE X (.Constant (.str x) j pos) (tC (.str x)):=λ_ _ _ H _ I h=>Calls.Constant_str ⟨.str x,H,I.tok _,⟨_,rfl⟩,h⟩
def Gl(X:Cx)(x:Str):Prop:=X.env.kindOf x=some .globalImplicit
theorem Z7(I:Inv X pins σ H s)(a:Gl X x)(hm:X.mg x=some u)(h:Q u s)
  (hd:(x == ("__debug__" : Str))=false:=by decide):wpAny (model X.prog X.w) X.A (eval (.Name x pos) X.env) Q E s :=
 Calls.Name_function_global I.ok.kind a (Calls.loadGlobal_global (by rw[I.ok.glob];exact I.mod.glob.keeps I.bk) hm h) hd
theorem Y8{E:Value->Shared->Prop}{pins:List (Addr × Obj)}{s:Shared}{σ:St}{H:Hp}{x:Str}{u:Value}{pos:Pos}{Q:Value->Shared->Prop}(I:Inv X pins σ H s)(b:Gl X x)(hm:X.mg x=none)(a:bootBuiltins x=some u)(h:Q u s)
  (hn:x ≠ "__name__":=by decide) (hd:(x == ("__debug__" : Str))=false:=by decide):wpAny (model X.prog X.w) X.A (eval (.Name x pos) X.env) Q E s:=by
 obtain⟨mb,d,c⟩:=I.mod.blt;exact Calls.Name_function_global I.ok.kind b (Calls.loadGlobal_builtin (by rw[I.ok.glob];exact I.mod.glob.keeps I.bk) hm (by rw[I.ok.blt];exact d.keeps I.bk) ((c x hn).trans a) h) hd
theorem T5(a:Gl X x)(hm:X.mg x=some u)(r:RelV v u)(hd:(x == ("__debug__" : Str))=false:=by decide):PE X (.Name x pos) (tC v) :=
 λ_ _ _ H _ I h=>Z7 I a hm ⟨v,H,I,r,h⟩ hd
theorem T6(b:Gl X x)(hm:X.mg x=none)(a:bootBuiltins x=some u)(r:RelV v u)(hn:x ≠ "__name__":=by decide)(hd:(x == ("__debug__" : Str))=false:=by decide):PE X (.Name x pos) (tC v) :=
 λ_ _ _ H _ I h=>Y8 I b hm a ⟨v,H,I,r,h⟩ hn hd
variable{a b:Expr}{ta tb:TE}{pos:Pos}
def PC(X:Cx)(op:CmpOp)(a b:Expr)(t:TE):Prop :=
 ∀(pins:List (Addr × Obj))(s:Shared)(σ:St)(H:Hp)(Q:VK),Inv X pins σ H s->t σ H Q ->
  wpAny (model X.prog X.w) X.A (eval a X.env) (λv s₁=>wpAny (model X.prog X.w) X.A (eval b X.env) (λu s₂=>wpAny (model X.prog X.w) X.A (compareOp op v u) (EP X pins σ Q) X.xe s₂) X.xe s₁) X.xe s
def tB(t:TE):TT:=λσ H Q=>t σ H λx H1=>∃ c,x=.bl c/\Q c H1
theorem VF{op:CmpOp}{t:TE}(h:PC X op a b t)(f:behindInMarks op b=false:=by first|exact nobehind _ (by decide) (by decide)|rfl):PT X (.Compare a [op] [b] pos) (tB t):=by
 intro pins s σ H Q I n;refine wpAny_isTrue_Compare1 (thn (h pins s σ H _ I n) λv s1 f=>thn f λu s2 i=>thn i λc o ⟨x,m,j,l,g⟩=>?_) f;obtain⟨d,rfl,q⟩:=g;cases l;exact p7 ⟨m,j,q⟩
theorem Y3{e:Expr}{t:TE}(h:PE X e t)(f:∀ whole,isTrue e X.env whole=(do let v ← whole;standAt e.pos;holding [v] (truthy v)):=by intro _;rfl):PT X e (tB t):=by
 intro pins s σ H Q I i;refine isTrue_plain (thn (h pins s σ H _ I i) λv s1 ⟨x,g,b,c,a⟩=>?_) (f _);obtain⟨d,rfl,q⟩:=a;cases c;exact p7 ⟨g,b,q⟩
variable{tA tB':TT}{rest:List Expr}
def tAnd(t u:TT):TT:=λσ H Q=>t σ H λc H1=>if c=true then u σ H1 Q else Q false H1
def tOr(t u:TT):TT:=λσ H Q=>t σ H λc H1=>if c=true then Q true H1 else u σ H1 Q
def tNot(t:TT):TT:=λσ H Q=>t σ H λc H1=>Q (!c) H1
theorem II(ha:PT X a tA):PW X (.BoolOp .And [a] pos) tA:=by
 intro b pins s σ H Q I h;refine isTrue_and (thn (ha pins s σ H Q I h) λc s1 e=>?_);cases c with
 |true=>exact isTrue_and_nil e
 |false=>exact e
theorem E9(ha:PT X a tA):PW X (.BoolOp .Or [a] pos) tA:=by
 intro b pins s σ H Q I h;refine isTrue_or (thn (ha pins s σ H Q I h) λc s1 e=>?_);cases c with
 |false=>exact isTrue_or_nil e
 |true=>exact e
theorem yH(ha:PT X a tA)(hb:PW X (.BoolOp .And (b::rest) pos) tB'):PW X (.BoolOp .And (a::b::rest) pos) (tAnd tA tB'):=by
 intro i pins s σ H Q I h;refine isTrue_and (thn (ha pins s σ H _ I h) λc s1 ⟨f,g,d⟩=>?_);cases c with
 |true=>exact hb i pins s1 σ f Q g d
 |false=>exact⟨f,g,d⟩
theorem O8(ha:PT X a tA)(hb:PW X (.BoolOp .Or (b::rest) pos) tB'):PW X (.BoolOp .Or (a::b::rest) pos) (tOr tA tB'):=by
 intro i pins s σ H Q I h;refine isTrue_or (thn (ha pins s σ H _ I h) λc s1 ⟨f,g,d⟩=>?_);cases c with
 |true=>exact⟨f,g,d⟩
 |false=>exact hb i pins s1 σ f Q g d
theorem n4(ha:PT X a tA):PT X (.UnaryOp .Not a pos) (tNot tA):=by
 intro pins s σ H Q I h;exact isTrue_not (ha pins s σ H (λc b=>Q (!c) b) I h)
def YC(ta tb:TE):TE:=λσ H Q=>ta σ H λx H1=>∃ c,x=.bl c/\if c=true then tb σ H1 Q else Q (.bl false) H1
def AD(ta:TE):TE:=λσ H Q=>ta σ H λx H1=>∃ c,x=.bl c/\Q (.bl (!c)) H1
theorem j9{op}(h:PE X a t):PE X (.BoolOp op [a] pos) t:=λpins s σ H Q I b=>BoolOp_one (h pins s σ H Q I b)
theorem q7(ha:PE X a ta)(hb:PE X (.BoolOp .And (b::rest) pos) tb):PE X (.BoolOp .And (a::b::rest) pos) (YC ta tb):=by
 intro pins s σ H Q I h;refine BoolOp_and (thn (ha pins s σ H _ I h) λv s1 ⟨x,f,g,i,d⟩=>?_);obtain⟨c,rfl,d⟩:=d;cases i;refine p7 ?_;cases c with
 |true=>exact hb pins s1 σ f Q g d
 |false=>exact⟨.bl false,f,g,rfl,d⟩
theorem EJ(ha:PE X a ta):PE X (.UnaryOp .Not a pos) (AD ta):=by
 intro pins s σ H Q I h;refine UnaryOp_ (thn (ha pins s σ H _ I h) λv s1 ⟨x,f,g,d,b⟩=>?_);obtain⟨c,rfl,b⟩:=b;cases d;exact not_of (p7 ⟨.bl (!c),f,g,rfl,b⟩)
def tIf(t:TT)(ta tb:TE):TE:=λσ H Q=>t σ H λc H1=>if c=true then ta σ H1 Q else tb σ H1 Q
theorem CG{c:Expr}(j:PT X c tA)(ha:PE X a ta)(hb:PE X b tb):PE X (.IfExp c a b pos) (tIf tA ta tb):=by
 intro pins s σ H Q I h;refine wpAny_IfExp (thn (j pins s σ H _ I h) λd s1 ⟨g,i,f⟩=>?_);cases d with
 |true=>exact ha pins s1 σ g Q i f
 |false=>exact hb pins s1 σ g Q i f
end
def SqL(K:Frag)(H:Hp)(a:Addr)(xs:List V):Prop :=
 Rd H a (.lst xs) ∨
  ∃(o:Obj)(its:Array Value)(n:Nat),K.lookup a=some o/\o.cls=.type "list"/\o.dict=none/\o.data=.seq its n/\its.size<=sizeLine/\Vals xs its.toList
def SqT(K:Frag)(H:Hp)(a:Addr)(xs:List V):Prop :=
 Rd H a (.tup xs) ∨
  ∃(o:Obj)(its:Array Value)(n:Nat),K.lookup a=some o/\o.cls=.type "tuple"/\o.data=.seq its n/\its.size<=sizeLine/\Vals xs its.toList
def absV:Value->Option V
 | .none=>some .non
 | .bool b=>some (.bl b)
 | .int i _=>some (.int i)
 | .str x _=>some (.str x)
 | .bytes b _=>some (.byt b)
 | .float b _=>some (.flt b)
 | .ref a=>some (.ref a)
 | .type n=>some (.ty n)
 |_=>none
theorem RelV.abs(r:RelV x u):absV u=some x:=by
 cases x with
 |non=>cases r;rfl
 |bl _=>cases r;rfl
 |int _=>obtain⟨t,rfl⟩:=r;rfl
 |str _=>obtain⟨t,rfl⟩:=r;rfl
 |byt _=>obtain⟨t,rfl⟩:=r;rfl
 |flt _=>obtain⟨t,rfl⟩:=r;rfl
 |ref _=>cases r;rfl
 |ty _=>cases r;rfl
theorem RelV.inj(r:RelV x u)(q:RelV y u):x=y:=W3 (r.abs.symm.trans q.abs)
theorem Vals.inj:∀{xs ys:List V}{us:List Value},Vals xs us->Vals ys us->xs=ys
 |_,_,_,.nil,.nil=>rfl
 |_,_,_,.cons r t,.cons r' t'=>by rw[r.inj r',Vals.inj t t']
theorem SqL.of{K:Frag}(h:H a=some (.lst xs)):SqL K H a xs:=.inl (.inl h)
theorem SqT.of{K:Frag}(h:H a=some (.tup xs)):SqT K H a xs:=.inl (.inl h)
theorem Inv.list(I:Inv X pins σ H s)(h:SqL X.K H a xs):∃ its:List Value,Vals xs its/\PlainL s.heap a its.toArray/\xs.length<=sizeLine:=by
 rcases h with h|⟨o,its,n,b,c,hd,hs,d,r⟩
 ·obtain⟨z,its,n,r,e⟩:=h.ok I.hok;exact⟨its,r,⟨_,n,e,rfl,rfl,rfl⟩,z⟩
 ·refine⟨its.toList,r,⟨o,n,I.kIn a o b,c,hd,by simpa using hs⟩,?_⟩;have e:=r.length;simp only[jA] at e;lia
theorem Inv.tuple(I:Inv X pins σ H s)(h:SqT X.K H a xs):∃ its:List Value,Vals xs its/\IsTup s.heap a its.toArray/\xs.length<=sizeLine:=by
 rcases h with h|⟨o,its,n,b,c,hs,d,r⟩
 ·obtain⟨z,its,r,p⟩:=h.ok I.hok;exact⟨its,r,p,z⟩
 ·refine⟨its.toList,r,⟨o,I.kIn a o b,c,n,by simpa using hs⟩,?_⟩;have e:=r.length;simp only[jA] at e;lia
theorem Inv.list_inj(I:Inv X pins σ H s)(h:SqL X.K H a xs)(h':SqL X.K H a ys):xs=ys:=by
 obtain⟨its,r,⟨o,n,e,_,_,d⟩,_⟩:=I.list h;obtain⟨its',c,⟨o',g,b,_,_,d'⟩,_⟩:=I.list h';rw[e] at b;cases b;rw[d] at d';injection d' with f _;have:its=its':=by simpa using congrArg Array.toList f
 subst this;exact r.inj c
abbrev Cx.wish(X:Cx)(E:Value->Shared->Prop):Cx:={ X with xe:=E }
abbrev Cx.nox(X:Cx):Cx:=X.wish λ_ _=>False
theorem Cx.Ok.wish{X:Cx}(ok:X.Ok)(E:Value->Shared->Prop):(X.wish E).Ok :=
 ⟨ok.mod,ok.kind,ok.glob,ok.blt,ok.above,ok.inj,ok.has,ok.cab,ok.hd,ok.frames,ok.stk,ok.exf,ok.bs,ok.bsz,ok.noex,ok.exfs,ok.funs,ok.frf,ok.tab⟩
theorem Cx.Ok.unwish{X:Cx}{E:Value->Shared->Prop}(ok:(X.wish E).Ok):X.Ok :=
 ⟨ok.mod,ok.kind,ok.glob,ok.blt,ok.above,ok.inj,ok.has,ok.cab,ok.hd,ok.frames,ok.stk,ok.exf,ok.bs,ok.bsz,ok.noex,ok.exfs,ok.funs,ok.frf,ok.tab⟩
theorem Inv.wish(I:Inv X pins σ H s)(E:Value->Shared->Prop):Inv (X.wish E) pins σ H s:=⟨I.ok.wish E,I.os,I.bare,I.base,I.loc,I.cell,I.free,I.freeC,I.pin,I.hok,I.len⟩
theorem Inv.unwish(I:Inv (X.wish E) pins σ H s):Inv X pins σ H s:=⟨I.ok.unwish,I.os,I.bare,I.base,I.loc,I.cell,I.free,I.freeC,I.pin,I.hok,I.len⟩
theorem SP.unwish(h:SP (X.wish E) pins D f b):SP X pins D f b:=by
 cases f with
 |next=>obtain⟨a,H',I,q⟩:=h;exact⟨a,H',I.unwish,q⟩
 |brk=>obtain⟨a,H',I,q⟩:=h;exact⟨a,H',I.unwish,q⟩
 |cont=>obtain⟨a,H',I,q⟩:=h;exact⟨a,H',I.unwish,q⟩
 |ret u=>obtain⟨v,a,H',I,r,q⟩:=h;exact⟨v,a,H',I.unwish,r,q⟩
theorem PSs.nox{st:List Stmt}{t:TS}(h:PSs X.nox st t):PSs X st t:=λpins s σ H D I a =>
 Y2 (h pins s σ H D (I.wish _) a) (λ_ _ q=>q.unwish) λ_ _ z=>False.elim z
section
variable{X:Cx}{st:Stmt}{rest:List Stmt}{t u:TS}{e:Expr}{te:TE}{pos:Pos}
def UF:TS:=λD σ H=>D.nx σ H
def tSeq(t u:TS):TS:=λD σ H=>t { D with nx:=u D } σ H
theorem W1:PSs X [] UF:=λ_ _ σ H _ I h=>wpAny_execs_nil ⟨σ,H,I,h⟩
theorem C0(b:PS X st t)(d:PSs X rest u):PSs X (st::rest) (tSeq t u):=by
 intro pins s σ H D I h;refine wpAny_execs_cons (thn (b pins s σ H { D with nx:=u D } I h) λf s1 q=>?_);cases f with
 | next =>
  obtain⟨a,H',c,q⟩:=q;exact d pins s1 a H' D c q
 |ret v=>exact q
 |brk=>exact q
 |cont=>exact q
theorem L0(a:PS X st t):PSs X [st] t:=by
 intro pins s σ H D I h;refine wpAny_execs_cons (thn (a pins s σ H D I h) λf s1 q=>?_);cases f with
 |next=>exact wpAny_execs_nil q
 |ret v=>exact q
 |brk=>exact q
 |cont=>exact q
theorem Inv.quiet{pins:List (Addr × Obj)}{σ:St}{H:Hp}{s:Shared}(I:Inv X pins σ H s):interactive X.env=false:=by simp[interactive,I.ok.kind]
def UI(te:TE):TS:=λD σ H=>te σ H λ_ H1=>D.nx σ H1
theorem t5(b:PE X e te)(hs:swapsWith e none pos.line X.env=pure false:=by rfl):PS X (.Expr e pos) (UI te):=by
 intro pins s σ H D I h;exact wpAny_Expr_any (thn (b pins s σ H _ I h) λv s1 ⟨x,c,d,f,a⟩=>⟨σ,c,d,a⟩) I.quiet hs
def tRet(te:TE):TS:=λD σ H=>te σ H D.rt
theorem T0(c:PE X e te):PS X (.Return (some e) pos) (tRet te):=by
 intro pins s σ H D I h;exact wpAny_Return_some (thn (c pins s σ H _ I h) λv s1 ⟨x,d,f,b,a⟩=>⟨x,σ,d,f,b,a⟩)
def tIfS(c:TT)(t u:TS):TS:=λD σ H=>c σ H λb H1=>if b=true then t D σ H1 else u D σ H1
theorem X1{c:Expr}{a b:List Stmt}{i:TT}(l:PT X c i)(ha:PSs X a t)(hb:PSs X b u):PS X (.If c a b pos) (tIfS i t u):=by
 intro pins s σ H D I h;refine wpAny_If (thn (l pins s σ H _ I h) λd s1 ⟨j,g,f⟩=>?_);cases d with
 |true=>exact ha pins s1 σ j D g f
 |false=>exact hb pins s1 σ j D g f
def AH:TS:=λ_ _ _=>False
theorem t8:PS X st AH:=λ_ _ _ _ _ _ h=>h.elim
theorem U4:PSs X sts AH:=λ_ _ _ _ _ _ h=>h.elim
end
abbrev TG:=V->St->Hp->(St->Hp->Prop)->Prop
abbrev TGs:=List V->St->Hp->(St->Hp->Prop)->Prop
def PG(X:Cx)(target:Expr)(t:TG):Prop :=
 ∀(pins:List (Addr × Obj))(s:Shared)(σ:St)(H:Hp)(v:V)(u:Value)(Q:St->Hp->Prop),Inv X pins σ H s->RelV v u->t v σ H Q ->
  wpAny (model X.prog X.w) X.A (assign target X.env u) (λ_ s'=>∃ σ' H',Inv X pins σ' H' s'/\Q σ' H') X.xe s
def PGs(X:Cx)(ts:List Expr)(t:TGs):Prop :=
 ∀(pins:List (Addr × Obj))(s:Shared)(σ:St)(H:Hp)(vs:List V)(us:List Value)(Q:St->Hp->Prop),Inv X pins σ H s->Vals vs us->t vs σ H Q ->
  wpAny (model X.prog X.w) X.A (assignInOrder ((assignEach ts X.env).map (·.2)) us) (λ_ s'=>∃ σ' H',Inv X pins σ' H' s'/\Q σ' H') X.xe s
abbrev TSet:=V->V->V->Hp->(Hp->Prop)->Prop
def PSet(X:Cx)(t:TSet):Prop :=
 ∀(pins:List (Addr × Obj))(s:Shared)(σ:St)(H:Hp)(o i v:V)(ov iv u:Value)(Q:Hp->Prop),Inv X pins σ H s->RelV o ov->RelV i iv->RelV v u->t o i v H Q ->
  wpAny (model X.prog X.w) X.A (setItem ov iv u) (λ_ s'=>∃ H',Inv X pins σ H' s'/\Q H') X.xe s
section
variable{X:Cx}{pos:Pos}
def Z2(i:Nat):TG:=λv σ H Q=>Q (σ.set i (some v)) H
theorem K0(b:X.N.Nodup)(hi:X.N[i]?=some x)(hx:Loc X.env.scope x)(hf:X.fn x=true\/X.env.scope.names.lookup x=some .local:=by first|exact .inl rfl|exact .inr rfl|assumption):PG X (.Name x pos) (Z2 i):=by
 intro pins s σ H v u Q I r h;exact wpAny_assign_Name (qD I b hi hx r (λc a=>⟨_,H,a,h⟩) hf)
def gNil:TGs:=λvs σ H Q=>vs=[]/\Q σ H
def n9(t:TG)(u:TGs):TGs:=λvs σ H Q=>∃ v r,vs=v::r/\t v σ H λσ' H'=>u r σ' H' Q
theorem t4:PGs X [] gNil:=by
 intro pins s σ H vs us Q I r h;obtain⟨e,h⟩:=h;subst e;cases r;exact assignInOrder_nil ⟨σ,H,I,h⟩
theorem P1{e:Expr}{es:List Expr}{t:TG}{u:TGs}(f:PG X e t)(c:PGs X es u)
  (hs:(assignEach (e::es) X.env).map (·.2)=assign e X.env::(assignEach es X.env).map (·.2):=by rfl):PGs X (e::es) (n9 t u):=by
 intro pins s σ H vs us Q I r h;obtain⟨v,j,i,h⟩:=h;subst i;cases r with
 | cons r rr =>
  rw[hs];refine assignInOrder_cons (thn (f pins s σ H _ _ _ I r h) λ_ s1 ⟨a,g,d,b⟩=>?_);exact c pins s1 a g _ _ Q d rr b
def gTup(K:Frag)(n:Nat)(t:TGs):TG:=λv σ H Q=>∃ a xs,v=.ref a/\SqT K H a xs/\xs.length=n/\t xs σ H Q
theorem T4(m:X.calm=true)(h:PGs X es t)
  (hn:(assignEach es X.env).length=n:=by rfl) (c:(assignEach es X.env).findIdx? (·.1)=none:=by rfl):PG X (.Tuple es k pos) (gTup X.K n t):=by
 intro pins s σ H v u Q I r d;obtain⟨a,xs,p,g,i,d⟩:=d;subst p;cases r;obtain⟨its,f,l,q⟩:=I.tuple g;refine assign_Tuple_tuple (I.ok.hd m) l (by simp[hn,← i,f.length]) c λh' hx=>?_;have j:Inv X pins σ H { s with heap:=h' }:=I.kept (t':=s.toks) λb o e=>hx b o (U1 (M0 e)) e;exact h pins _ σ H xs _ Q j (by simpa using f) d
def gSub(to ti:TE)(t:TSet):TG:=λv σ H Q=>to σ H λo H1=>ti σ H1 λi H2=>t o i v H2 λH3=>Q σ H3
theorem cF{o i:Expr}{to c:TE}{t:TSet}(f:PE X o to)(hi:PE X i c)(hs:PSet X t)
  (ha:∀ v,assign (.Subscript o i pos) X.env v=(do
   let a ← holding [v] (eval o X.env);let b ← holding [v,a] (eval i X.env)
   standAt pos
   holding [v,a,b] (setItem a b v)
   release [v,a,b] []):=by intro _;rfl):PG X (.Subscript o i pos) (gSub to c t):=by
 intro pins s σ H v u Q I r h;rw[ha];refine u0 (U3 (thn (f pins s σ H _ I h) λa s1 ⟨x,q,m,n,d⟩=>?_));refine u0 (U3 (thn (hi pins s1 σ q _ m d) λb s2 ⟨y,H2,w,g,p⟩=>?_));refine u0 (wpAny_standAt (u0 (U3 (thn (hs pins s2 σ H2 x y v a b u _ w n g r p) λ_ z ⟨H3,j,l⟩=>?_))));exact wpAny_release ⟨σ,H3,j,l⟩
def tAsg(te:TE)(g:TG):TS:=λD σ H=>te σ H λx H1=>g x σ H1 D.nx
theorem t3{tg e:Expr}{te:TE}{g:TG}(i:PE X e te)(b:PG X tg g)(hs:swapsWithSole [tg] e pos.line X.env=pure false:=by rfl)(l:swappedStores [tg] e X.env=pure none:=by rfl)
  (d:(assignEach [tg] X.env).map (·.2)=[assign tg X.env]:=by rfl):PS X (.Assign [tg] e pos) (tAsg te g):=by
 intro pins s σ H D I h;refine wpAny_Assign_stores (thn (i pins s σ H _ I h) λv s1 ⟨x,j,c,f,a⟩=>?_) hs l;rw[d];exact thn (b pins s1 σ j x v _ c f a) λ_ s2 q=>q
theorem N0{i:Nat}{x:Str}{e:Expr}{te:TE}{a:Pos}(j:X.N.Nodup)(hi:X.N[i]?=some x)(hx:Loc X.env.scope x)(f:PE X e te)(hs:swapsWith e (some (.Name x a)) pos.line X.env=pure false:=by rfl)(hf:X.fn x=true\/X.env.scope.names.lookup x=some .local:=by first|exact .inl rfl|exact .inr rfl|assumption) :
  PS X (.Assign [.Name x a] e pos) (tAsg te (Z2 i)):=by
 intro pins s σ H D I h;refine wpAny_Assign_Name (thn (f pins s σ H _ I h) λv s1 ⟨y,g,c,d,b⟩=>?_) hs;exact qD c j hi hx d (λs2 l=>⟨_,g,l,b⟩) hf
end
def fF(c:TT)(tb:TS):TS:=λD σ H=>∃ W:Nat->St->Hp->Prop,(∃ m,W m σ H)/\∀ m σ H,W m σ H ->
 c σ H λb H1=>if b=true then ∃ N:St->Hp->Prop,(∀ σ' H',N σ' H'->∃ m',m'<m/\W m' σ' H')/\tb { D with nx:=N,ct:=N,bk:=D.nx } σ H1 else D.nx σ H1
theorem zK{c:Expr}{body:List Stmt}{r:TT}{x:TS}(u:PassesOwn (model X.prog X.w) X.A X.env X.xe)(F:PT X c r)(hb:PSs X body x):PS X (.While c body [] pos) (fF r x):=by
 intro pins s σ H D I h;obtain⟨W,⟨z,B⟩,g⟩:=h;refine wpAny_While (codeAny_whileLoop (λn E=>∃ i H',Inv X pins i H' E/\W n i H') ?_ z ⟨σ,H,I,B⟩);rintro n s1 ⟨d,t,C,w1⟩;refine wpAny_passesOwn u (thn (F pins s1 d t _ C (g n d t w1)) λb s2 ⟨H2,q,l⟩=>?_);cases b with
 | true =>
  obtain⟨N,y,l⟩:=l;rw[z0 rfl];refine wpAny_passesOwn u (thn (hb pins s2 d H2 _ q l) λf G j=>?_);cases f with
  | next =>
   obtain⟨a,H3,o,p⟩:=j;obtain⟨m,hm,w3⟩:=y a H3 p;exact⟨m,hm,a,H3,o,w3⟩
  | cont =>
   obtain⟨a,H3,o,p⟩:=j;obtain⟨m,hm,w3⟩:=y a H3 p;exact⟨m,hm,a,H3,o,w3⟩
  |brk=>exact j
  |ret v=>exact j
 | false =>
  rw[y0 Y1];exact wpAny_execs_nil ⟨d,H2,q,l⟩
structure It where
 go:Nat->Hp->Prop
 yld:Nat->Hp->V->Hp->Prop
 stop:Nat->Hp->Prop
def FpOk(X:Cx)(pins:List (Addr × Obj))(H:Hp)(b:Addr):Prop :=
 H b=none/\b ≠ X.env.locals/\b ∉ X.fs/\(b∈X.ex\/X.s₀.heap.objs.size<=b)/\(∀ x c,X.env.cells.lookup x=some c->c ≠ b)/\∀ p∈X.pn++pins,p.1 ≠ b
theorem Inv.fpOk(I:Inv X pins σ H s)(hb:s.heap.objs.size<=b)(hn:H' b=none):FpOk X pins H' b:=by
 refine⟨hn,Nat.ne_of_gt (z4 I.lt hb),I.nofs hb,.inr (D2 I.sz hb),λx c e z=>?_,λp a z=>?_⟩
 ·obtain⟨v,q⟩:=I.cell x c e;exact absurd (z4 q.lt (by rw[z];exact hb)) (L3 _)
 ·exact absurd (z4 (M0 (I.pin p a).1) (by rw[z];exact hb)) (L3 _)
structure Turn(P:Program)(w:World)(K:Frag)(tg:Expr)(J:It)(fp:List Addr)(it:Addr)(tn:Nat->Heap->Prop):Prop where
 mem:it∈fp
 obj:∀ i h,tn i h->∀ b∈fp,∃ o,h.get? b=some o/\∀ v,o.data ≠ .cell v
 keep:∀ i h h',tn i h->(∀ b∈fp,∀ o,h.get? b=some o->h'.get? b=some o)->tn i h'
 item:∀(X:Cx),X.prog=P->X.w=w->X.K=K->X.calm=true->∀(i:Nat)(pins:List (Addr × Obj))(s:Shared)(σ:St)(H:Hp)(E:Value->Shared->Prop),Inv X pins σ H s->(∀ b∈fp,FpOk X pins H b)->tn i s.heap->J.go i H ->
  wpAny (model P w) X.A (pyNext (.ref it)) (λr s1=>∃ u,r=some u /\
   wpAny (model P w) X.A (letOwnedTupleGo tg (.ref it) u) (λ_ s2=>∃ x H',Inv X pins σ H' s2/\RelV x u/\J.yld i H x H'/\tn (i+1) s2.heap/\∀ b∈fp,H' b=none) E s1) E s
 done:∀(X:Cx),X.prog=P->X.w=w->X.K=K->X.calm=true->∀(i:Nat)(pins:List (Addr × Obj))(s:Shared)(σ:St)(H:Hp)(E:Value->Shared->Prop),Inv X pins σ H s->(∀ b∈fp,FpOk X pins H b)->tn i s.heap->J.stop i H ->
  wpAny (model P w) X.A (pyNext (.ref it)) (λr s1=>r=none/\Inv X pins σ H s1) E s
 self:∀(A:Around)(i:Nat)(s:Shared)(Q:Value->Shared->Prop)(E:Value->Shared->Prop),tn i s.heap->Q (.ref it) s->wpAny (model P w) A (pyIter (.ref it)) Q E s
abbrev TI:=St->Hp->(It->Hp->Prop)->Prop
def PIE(X:Cx)(pins:List (Addr × Obj))(σ:St)(tg:Expr)(R:It->Hp->Prop)(itv:Value)(s2:Shared):Prop :=
 ∃(it:Addr)(fp:List Addr)(tn:Nat->Heap->Prop)(J:It)(H':Hp),itv=.ref it/\Inv X pins σ H' s2/\Turn X.prog X.w X.K tg J fp it tn/\tn 0 s2.heap/\(∀ b∈fp,FpOk X pins H' b)/\R J H'
def PI(X:Cx)(tg iter:Expr)(wi:TI):Prop :=
 ∀(pins:List (Addr × Obj))(s:Shared)(σ:St)(H:Hp)(R:It->Hp->Prop),Inv X pins σ H s->wi σ H R ->
  wpAny (model X.prog X.w) X.A (eval iter X.env) (λv s1=>wpAny (model X.prog X.w) X.A (pyIter v) (PIE X pins σ tg R) X.xe s1) X.xe s
theorem gE(c:s.heap.get? it=some o)(b:o.cls=.type n)(hd:o.data=.fields vs)
  (hn:["enumerate","zip","dict_itemiterator","dict_reverseitemiterator","odict_iterator","itertools.zip_longest","itertools.pairwise"].contains n=false) (a:Q () s):wpAny M A (letOwnedTupleGo tg (.ref it) u) Q E s:=by
 unfold letOwnedTupleGo
 cases tg <;> first
  |exact I0 a
  | (cases u <;> first
    |exact I0 a
    | (refine u0 (wpAny_load c ?_)
       rw[b,hd];show wpAny M A (if (["enumerate","zip","dict_itemiterator","dict_reverseitemiterator","odict_iterator","itertools.zip_longest","itertools.pairwise"].contains n && vs[0]? == some (rawInt _))=true then _ else _) Q E s;rw[y0 (by intro h;rw[hn,Bool.false_and] at h;cases h)];exact I0 a))
def Itl(K:Frag)(a:Addr):It :=
 ⟨λi H=>∃ xs x,SqL K H a xs/\xs[i]?=some x,λi H x H'=>H'=H/\∀ xs,SqL K H a xs->xs[i]?=some x,λi H=>∃ xs,SqL K H a xs/\xs.length<=i⟩
def Itr(lo:Int)(n:Nat):It:=⟨λi _=>i<n,λi H x H'=>H'=H/\x=.int (lo+i),λi _=>n<=i⟩
theorem aP{P:Program}{w:World}{K:Frag}{tg:Expr}(a it:Addr):Turn P w K tg (Itl K a) [it] it (λi h=>h.IsListIter it a i) where
 mem:=by simp
 obj:=λi h st b hb=>by
  have e:b=it:=by simpa using hb
  subst e;obtain⟨o,e,c,d⟩:=st;exact⟨o,e,λv z=>by rw[d] at z;cases z⟩
 keep:=λi h h' st k=>st.at λo e=>k it (by simp) o e
 item:=by
  intro X g t y A i pins s σ H E I hf st j;subst g t y;obtain⟨xs,x,f,hx⟩:=j;obtain⟨its,n,p,C⟩:=I.list f;obtain⟨u,B,J⟩:=n.get hx;obtain⟨q,f1,G,m,r,l⟩:=hf it (by simp);refine wpAny_pyNext_list_item st p.isList (x:=u) (by simpa using B) λh' st' sb=>?_;have D:Inv X pins σ H { s with heap:=h' }:=I.turned (t':=s.toks) (λb o hb e=>(sb.2 b hb).trans e) q f1 m r l;obtain⟨o,e,c,d⟩:=id st';exact⟨u,rfl,gE (s:={ s with heap:=h' }) e c d (by decide) ⟨x,H,D,J,⟨rfl,λys L=>by rw[I.list_inj L f];exact hx⟩,st',λb hb=>(hf b hb).1⟩⟩
 done:=by
  intro X g t y A i pins s σ H E I hf st j;subst g t y;obtain⟨xs,f,hx⟩:=j;obtain⟨its,n,p,C⟩:=I.list f;obtain⟨q,f1,G,m,r,l⟩:=hf it (by simp);have M:=n.length;exact wpAny_pyNext_list_end (I.ok.hd A) st p.isList (by simp;lia) λh' F=>⟨rfl,I.turned (t':=s.toks) (λb o hb e=>F b o hb e) q f1 m r l⟩
 self:=λ_ _ _ _ _ st h=>wpAny_pyIter_listiter st h
theorem xT{P:Program}{w:World}{K:Frag}{tg:Expr}(it:Addr)(lo:Int)(n:Nat):Turn P w K tg (Itr lo n) [it] it (λi h=>IsRangeIter h it (lo+(i:Nat) * 1) ((n:Int)-(i:Nat)) 1) where
 mem:=by simp
 obj:=λi h st b hb=>by
  have e:b=it:=by simpa using hb
  subst e;exact⟨_,st,λv z=>by
   have r:Data.fields _=Data.cell v:=z;cases r⟩
 keep:=λi h h' st k=>k it (by simp) _ st
 item:=by
  intro X a m p l i pins s σ H E I hf st c;subst a m p;obtain⟨g,f1,A,f,j,d⟩:=hf it (by simp);have W:=Walks.range (prog:=X.prog) (w:=X.w) (I.ok.hd l) it lo 1 n;refine W.item i s _ _ c st λv h' tk q st' y=>?_;obtain⟨t,rfl⟩:=q;have u:Inv X pins σ H { s with heap:=h',toks:=tk }:=I.turned (λb o hb e=>y b o (by simpa using hb) e) g f1 f j d;refine⟨_,rfl,gE (s:={ s with heap:=h',toks:=tk }) (n:="range_iterator") st' rfl rfl (by decide) ⟨.int (lo+i),H,u,⟨t,?_⟩,⟨rfl,rfl⟩,st',λb hb=>(hf b hb).1⟩⟩;rw[Int.mul_one]
 done:=by
  intro X a m p l i pins s σ H E I hf st c;subst a m p;obtain⟨g,f1,A,f,j,d⟩:=hf it (by simp);exact wpAny_pyNext_range_end (I.ok.hd l) st (by have:n<=i:=c;lia) λh' x=>⟨rfl,I.turned (t':=s.toks) (λb o hb e=>x b o hb e) g f1 f j d⟩
 self:=λ_ _ _ _ _ st h=>wpAny_pyIter_rangeiter st h
section
variable{X:Cx}{tg:Expr}
def KH(K:Frag)(tl:TE):TI:=λσ H R=>tl σ H λx H1=>∃ a,x=.ref a/\(∃ xs,SqL K H1 a xs)/\R (Itl K a) H1
theorem K4{l:Expr}{tl:TE}(g:PE X l tl):PI X tg l (KH X.K tl):=by
 intro pins s σ H R I h;refine thn (g pins s σ H _ I h) λv s1 ⟨x,j,c,i,d⟩=>?_;obtain⟨a,e,⟨xs,f⟩,q⟩:=d;subst e;cases i;obtain⟨its,n,p,m⟩:=c.list f;refine U8 p.isList ?_;refine⟨s1.heap.objs.size,[s1.heap.objs.size],_,_,j,rfl,c.kept (t':=s1.toks) λb o e=>S1 _ e,aP a _,⟨_,m3 _ rfl,rfl,rfl⟩,λb hb=>?_,q⟩;have e:b=s1.heap.objs.size:=by simpa using hb
 subst e;exact c.fpOk (Q0 _) (c.hok.fresh (Q0 _))
theorem SI{pins:List (Addr × Obj)}{σ:St}{H:Hp}{s:Shared}{R:It->Hp->Prop}{E:Value->Shared->Prop}{lo hi:Int}{t u v:Tok}{tk:Nat}(I:Inv X pins σ H s)(f : -(2 ^ 62)<=lo)(d:lo<2 ^ 62)(c : -(2 ^ 62)<=hi)(h:hi<2 ^ 62)
  (q:R (Itr lo (hi-lo).toNat) H):wpAny (model X.prog X.w) X.A (pyIter (.ref s.heap.objs.size)) (PIE X pins σ tg R) E { s with heap:=s.heap.push { cls:=.type "range",data:=.fields #[.int lo t,.int hi u,.int 1 v] },toks:=tk }:=by
 refine wpAny_pyIter_range (IsRange.new ..) (small_one f d c h) ?_;have a:Inv X pins σ H { s with heap:=s.heap.push { cls:=.type "range",data:=.fields #[.int lo t,.int hi u,.int 1 v] },toks:=tk }:=I.kept λb o e=>S1 _ e
 refine⟨(s.heap.push { cls:=.type "range",data:=.fields #[.int lo t,.int hi u,.int 1 v] }).objs.size,[(s.heap.push { cls:=.type "range",data:=.fields #[.int lo t,.int hi u,.int 1 v] }).objs.size],_,_,H,rfl,
  a.kept (t':=tk) λb o e=>S1 _ e,xT _ lo (hi-lo).toNat,?_,λb hb=>?_,q⟩
 ·have i:lo+((0:Nat):Int) * 1=lo:=by simp
  have g:(((hi-lo).toNat:Nat):Int)-((0:Nat):Int)=Builtin.Range.rangeSize lo hi 1:=by rw[rangeSize_one];split <;> lia
  show IsRangeIter _ _ (lo+((0:Nat):Int) * 1) ((((hi-lo).toNat:Nat):Int)-((0:Nat):Int)) 1;rw[i,g];exact m3 _ rfl
 ·have e:b=(s.heap.push { cls:=.type "range",data:=.fields #[.int lo t,.int hi u,.int 1 v] }).objs.size:=by simpa using hb
  subst e;exact a.fpOk (Q0 _) (a.hok.fresh (Q0 _))
def aI(ta:TA):TI:=λσ H R=>ta σ H λvs H1=>∃ j:Int,vs=[.int j]/\-(2 ^ 62)<=j/\j<2 ^ 62/\R (Itr 0 j.toNat) H1
def FI(ta:TA):TI:=λσ H R=>ta σ H λvs H1=>∃ i j:Int,vs=[.int i,.int j]/\(-(2 ^ 62)<=i/\i<2 ^ 62/\-(2 ^ 62)<=j/\j<2 ^ 62)/\R (Itr i (j-i).toNat) H1
theorem YA{a:Expr}{c:TA}{p pos:Pos}(d:Gl X "range")(hm:X.mg "range" = none)(ha:PA X [a] c)(hs:starEach [a] X.env=[(false,eval a X.env)]:=by rfl):PI X tg (.Call (.Name "range" p) [a] [] pos) (aI c):=by
 intro pins s σ H R I h;refine Call_ (Y8 I d hm boot_range (PyProof.Rows.callWith_type1 (thn (ha pos pins s σ H _ I h) λus s1 ⟨vs,l,f,g,b⟩=>?_) hs rfl));obtain⟨j,e,b,i,q⟩:=b;subst e;cases g with
 | cons r rr =>
  cases rr;obtain⟨t,rfl⟩:=r;exact call_range_1 (SI f (by lia) (by lia) b i (by simpa using q))
theorem gM{a b:Expr}{f:TA}{p pos:Pos}(l:Gl X "range")(hm:X.mg "range" = none)(ha:PA X [a,b] f)(hs:starEach [a,b] X.env=[(false,eval a X.env),(false,eval b X.env)]:=by rfl)(c:starEach [b] X.env=[(false,eval b X.env)]:=by rfl) :
  PI X tg (.Call (.Name "range" p) [a,b] [] pos) (FI f):=by
 intro pins s σ H R I h;refine Call_ (Y8 I l hm boot_range (PyProof.Rows.callWith_type1 (thn (ha pos pins s σ H _ I h) λus s1 ⟨vs,v,n,o,d⟩=>?_) (by rw[hs,c]) (by rw[c];rfl)));obtain⟨i,j,e,⟨d,u,m,g⟩,q⟩:=d;subst e;cases o with
 | cons r rr =>
  cases rr with
  | cons r' rr =>
   cases rr;obtain⟨t,rfl⟩:=r;obtain⟨t',rfl⟩:=r';exact call_range_2 (SI n d u m g q)
def tFor(wi:TI)(g:TG)(tb:TS):TS:=λD σ H=>wi σ H λJ H1=>∃ W:Nat->Nat->St->Hp->Prop,(∃ m,W 0 m σ H1)/\∀ i m σ H,W i m σ H ->
 (J.stop i H/\D.nx σ H)\/(J.go i H/\∃ N:St->Hp->Prop,(∀ σ' H',N σ' H'->∃ m',m'<m/\W (i+1) m' σ' H')/\∀ x H',J.yld i H x H'->g x σ H' λσ2 H2=>tb { D with nx:=N,ct:=N,bk:=D.nx } σ2 H2)
def S8(fp:List Addr)(h:Heap):List (Addr × Obj):=fp.filterMap λb=>(h.get? b).map λo=>(b,o)
theorem j8(hb:b∈fp)(e:h.get? b=some o):(b,o)∈S8 fp h:=List.mem_filterMap.mpr ⟨b,hb,by rw[e];rfl⟩
theorem ZO(a:p∈S8 fp h):p.1∈fp/\h.get? p.1=some p.2:=by
 obtain⟨b,hb,e⟩:=List.mem_filterMap.mp a;cases q:h.get? b with
 |none=>rw[q] at e;cases e
 | some o =>
  rw[q] at e;have c:(b,o)=p:=W3 e;subst c;exact⟨hb,q⟩
theorem Inv.pinned(I:Inv X pins σ H s)(hf:∀ b∈fp,FpOk X pins H b)(c:∀ b∈fp,∃ o,s.heap.get? b=some o/\∀ v,o.data ≠ .cell v):Inv X (pins++S8 fp s.heap) σ H s :=
 I.pins_of λp h=>(N2.mp h).elim (λz=>I.pin p (P2 _ z)) λz=>by
  obtain⟨hb,e⟩:=ZO z;obtain⟨g,f1,f,_⟩:=hf p.1 hb;obtain⟨o,a,d⟩:=c p.1 hb;rw[e] at a;cases a;exact⟨e,g,f1,f,d⟩
theorem Inv.unpinned(I:Inv X (pins++pl) σ H s):Inv X pins σ H s:=I.pins_of λp a=>I.pin p (P2 _ (J5 _ a))
theorem OA{iter:Expr}{body:List Stmt}{wi:TI}{g:TG}{U:TS}{pos:Pos}(G:PassesOwn (model X.prog X.w) X.A X.env X.xe)(hc:X.calm=true)(hi:PI X tg iter wi)(hg:PG X tg g)(hb:PSs X body U)
  (hs:∀ x,foldedSetIterable iter X.env x=pure x:=by intro _;rfl):PS X (.For tg iter body [] pos) (tFor wi g U):=by
 intro pins s σ H D I h;refine wpAny_For (thn (hi pins s σ H _ I h) λv s1 h1=>thn h1 λa0 s2 h2=>?_) hs;obtain⟨it,fp,tn,J,H2,e,I2,T,M,S,W,⟨m0,w0⟩,E⟩:=h2;subst e
 -- what stays true of the iterator's objects through the loop
 have q:∀{H':Hp},(∀ b∈fp,H' b=none)->∀ b∈fp,FpOk X pins H' b:=λhn b hb=>⟨hn b hb,(S b hb).2⟩
 refine codeAny_forLoop_any (λn s'=>∃ i j H',Inv X pins j H' s'/\tn i s'.heap/\(∀ b∈fp,H' b=none)/\W i n j H') ?_ m0 ⟨0,σ,H2,I2,M,λb hb=>(S b hb).1,w0⟩;rintro n s3 ⟨i,l,H3,Z,C,B,w3⟩;rcases E i n l H3 w3 with ⟨stop,qn⟩|⟨go,N,hN,step⟩
 ·refine wpAny_passesOwn G (thn (T.done X rfl rfl rfl hc i pins s3 l H3 X.xe Z (q B) C stop) λr s4 ⟨P,I4⟩=>?_);subst P;exact wpAny_execs_nil ⟨l,H3,I4,qn⟩
 ·refine wpAny_passesOwn G (thn (T.item X rfl rfl rfl hc i pins s3 l H3 X.xe Z (q B) C go) λr s4 ⟨u,P,h4⟩=>?_);subst P;refine wpAny_passesOwn G (thn h4 λ_ R ⟨x,Y,I5,r5,y5,z,K⟩=>?_);have Q:=I5.pinned (q K) (T.obj _ _ z);refine wpAny_passesOwn G (thn (hg _ R l Y x u _ Q r5 (step x Y y5)) λ_ s6 ⟨O,H6,I6,q6⟩=>?_);refine wpAny_passesOwn G (thn (hb _ s6 O H6 _ I6 q6) λf L y=>?_);have t:∀{a:St}{p:Hp},Inv X (pins++S8 fp R.heap) a p L->N a p->∃ m,m<n/\∃ i j H',Inv X pins j H' L/\tn i L.heap/\(∀ b∈fp,H' b=none)/\W i m j H':=λ{a p} c F=>by
   obtain⟨m',hm,w7⟩:=hN a p F;refine⟨m',hm,i+1,a,p,c.unpinned,T.keep _ _ _ z λb hb o e=>(c.pin (b,o) (P2 _ (P2 _ (j8 hb e)))).1,λb hb=>?_,w7⟩;obtain⟨o,e,d⟩:=T.obj _ _ z b hb;exact(c.pin (b,o) (P2 _ (P2 _ (j8 hb e)))).2.1
  cases f with
  |next=>obtain⟨a,p,c,F⟩:=y;exact t c F
  |cont=>obtain⟨a,p,c,F⟩:=y;exact t c F
  |brk=>obtain⟨a,p,c,y⟩:=y;exact⟨a,p,c.unpinned,y⟩
  |ret v=>obtain⟨x7,a,p,c,r7,y⟩:=y;exact⟨x7,a,p,c.unpinned,r7,y⟩
end
abbrev R2:=V->V->Hp->VK->Prop
def OpR(X:Cx)(f:Value->Value->Sem Value)(r:R2):Prop :=
 ∀(pins:List (Addr × Obj))(s:Shared)(σ:St)(H:Hp)(x y:V)(v u:Value)(Q:VK),Inv X pins σ H s->RelV x v->RelV y u->r x y H Q ->
  wpAny (model X.prog X.w) X.A (f v u) (EP X pins σ Q) X.xe s
def l2(X:Cx)(f:Value)(r:List V->Hp->VK->Prop):Prop :=
 ∀(pins:List (Addr × Obj))(s:Shared)(σ:St)(H:Hp)(xs:List V)(us:List Value)(Q:VK),Inv X pins σ H s->Vals xs us->r xs H Q ->
  wpAny (model X.prog X.w) X.A (call f us) (EP X pins σ Q) X.xe s
def TruR(X:Cx)(r:V->Hp->(Bool->Hp->Prop)->Prop):Prop :=
 ∀(pins:List (Addr × Obj))(s:Shared)(σ:St)(H:Hp)(x:V)(v:Value)(Q:Bool->Hp->Prop),Inv X pins σ H s->RelV x v->r x H Q ->
  wpAny (model X.prog X.w) X.A (truthy v) (TP X pins σ Q) X.xe s
def tOp(r:R2)(ta tb:TE):TE:=λσ H Q=>ta σ H λx H1=>tb σ H1 λy H2=>r x y H2 Q
def rI(C:Int->Int->Prop)(g:Int->Int->V):R2:=λx y H Q=>∃ i j,x=.int i/\y=.int j/\C i j/\Q (g i j) H
def rI0(g:Int->Int->V):R2:=λx y H Q=>∃ i j,x=.int i/\y=.int j/\Q (g i j) H
section
variable{X:Cx}{a b c:Expr}{ta tb tc:TE}{pos:Pos}
theorem binT(ha:PE X a ta)(hb:PE X b tb){pins:List (Addr × Obj)}{s:Shared}{σ:St}{H:Hp}{R:V->V->Hp->Prop}(I:Inv X pins σ H s)
  (h:ta σ H λx g=>tb σ g λy H2=>R x y H2) {Q:Value->Shared->Prop} {f:Value->Value->Sem Value}
  (hf:∀ v u s2 x y H2,Inv X pins σ H2 s2->RelV x v->RelV y u->R x y H2->wpAny (model X.prog X.w) X.A (f v u) Q X.xe s2) :
  wpAny (model X.prog X.w) X.A (eval a X.env) (λv c=>wpAny (model X.prog X.w) X.A (eval b X.env) (λu d=>wpAny (model X.prog X.w) X.A (f v u) Q X.xe d) X.xe c) X.xe s:=by
 refine thn (ha pins s σ H _ I h) λv s1 ⟨x,g,l,m,i⟩=>?_;refine thn (hb pins s1 σ g _ l i) λu s2 ⟨y,H2,o,j,n⟩=>?_;exact hf v u s2 x y H2 o m j n
theorem W0(d:OpR X (binaryOp op) r)(ha:PE X a ta)(hb:PE X b tb):PE X (.BinOp a op b pos) (tOp r ta tb):=by
 intro pins s σ H Q I h;exact wpAny_BinOp (binT ha hb I h λv u s2 x y H2 g c f q=>d pins s2 σ H2 x y v u Q g c f q)
theorem opI{f:Value->Value->Sem Value}{C:Int->Int->Prop}{g:Int->Int->Int}
  (a:∀(i j:Int)(t u:Tok)(s:Shared)(Q:Value->Shared->Prop)(E:Value->Shared->Prop),C i j->Q (.int (g i j) s.toks) { s with toks:=s.toks+1 }->wpAny (model X.prog X.w) X.A (f (.int i t) (.int j u)) Q E s) :
  OpR X f (rI C λi j=>.int (g i j)):=by
 intro pins s σ H x y v u Q I b c h;obtain⟨i,j,rfl,rfl,d,q⟩:=h;obtain⟨t,rfl⟩:=b;obtain⟨t',rfl⟩:=c;exact a i j t t' s _ _ d ⟨.int (g i j),H,I.tok _,⟨_,rfl⟩,q⟩
theorem opI0{f:Value->Value->Sem Value}{g:Int->Int->Int}
  (a:∀(i j:Int)(t u:Tok)(s:Shared)(Q:Value->Shared->Prop)(E:Value->Shared->Prop),Q (.int (g i j) s.toks) { s with toks:=s.toks+1 }->wpAny (model X.prog X.w) X.A (f (.int i t) (.int j u)) Q E s) :
  OpR X f (rI0 λi j=>.int (g i j)):=by
 intro pins s σ H x y v u Q I b c h;obtain⟨i,j,rfl,rfl,q⟩:=h;obtain⟨t,rfl⟩:=b;obtain⟨t',rfl⟩:=c;exact a i j t t' s _ _ ⟨.int (g i j),H,I.tok _,⟨_,rfl⟩,q⟩
theorem opB0{f:Value->Value->Sem Value}{g:Int->Int->Bool}
  (a:∀(i j:Int)(t u:Tok)(s:Shared)(Q:Value->Shared->Prop)(E:Value->Shared->Prop),Q (.bool (g i j)) s->wpAny (model X.prog X.w) X.A (f (.int i t) (.int j u)) Q E s) :
  OpR X f (rI0 λi j=>.bl (g i j)):=by
 intro pins s σ H x y v u Q I b c h;obtain⟨i,j,rfl,rfl,q⟩:=h;obtain⟨t,rfl⟩:=b;obtain⟨t',rfl⟩:=c;exact a i j t t' s _ _ ⟨.bl (g i j),H,I,rfl,q⟩
def CMul(i j:Int):Prop:=(-(2 ^ 64)<i/\i<2 ^ 64)\/(-(2 ^ 64)<j/\j<2 ^ 64)
theorem CMul.ok(h:CMul i j):IntMulOk i j:=by
 rcases h with ⟨a,b⟩|⟨a,b⟩
 ·exact .of_left (intBits_le_64 a b)
 ·exact .of_right (intBits_le_64 a b)
theorem D8:OpR X (binaryOp .Add) (rI0 λi j=>.int (i+j)):=opI0 λ_ _ _ _ _ _ _ q=>add_int q
theorem lF:OpR X (binaryOp .Sub) (rI0 λi j=>.int (i-j)):=opI0 λ_ _ _ _ _ _ _ q=>sub_int q
theorem QD:OpR X (binaryOp .Mult) (rI CMul λi j=>.int (i * j)):=opI λ_ _ _ _ _ _ _ a q=>mul_int q a.ok
theorem QK:OpR X (binaryOp .Mod) (rI (λ_ j=>0<j) λi j=>.int (i % j)):=opI λi j _ _ _ _ _ a q=>by
 have b:(0:Int)<j:=a;exact mod_int' (by lia) (by rw[Int.fmod_eq_emod_of_nonneg i (by lia)];exact q)
end
def scal:V->V->Bool
 | .non,.non=>true | .non,.int _=>true | .int _,.non=>true | .non,.bl _=>true | .bl _,.non=>true | .non,.str _=>true | .str _,.non=>true
 | .int _,.int _=>true | .bl _,.bl _=>true | .str _,.str _=>true | .byt _,.byt _=>true
 | .int _,.str _=>true | .str _,.int _=>true | .bl _,.str _=>true | .str _,.bl _=>true
 |_,_=>false
def rEq:R2:=λx y H Q=>scal x y=true/\Q (.bl (decide (x=y))) H
def rNe:R2:=λx y H Q=>scal x y=true/\Q (.bl (!decide (x=y))) H
theorem HC:decide (V.int i=V.int j)=(i == j):=by
 rw[R7];simp
theorem sI:decide (V.bl i=V.bl j)=(i == j):=by
 rw[R7];simp
theorem ZG:decide (V.str i=V.str j)=(i == j):=by
 rw[R7];simp
theorem LF:decide (V.byt i=V.byt j)=(i.toList == j.toList):=by
 rw[R7];cases i;cases j;simp
section
variable{X:Cx}{a b c:Expr}{ta tb tc:TE}{pos:Pos}
theorem E2{pins:List (Addr × Obj)}{σ:St}{H:Hp}{s:Shared}{Q:VK}{k a:Bool}(I:Inv X pins σ H s)(q:Q (.bl k) H)(e:k=a):EP X pins σ Q (.bool a) s:=by
 subst e;exact⟨.bl k,H,I,rfl,q⟩
theorem rE:OpR X (compareOp .Eq) rEq:=by
 intro pins s σ H x y v u Q I b a h;obtain⟨hs,q⟩:=h;cases x with
 | non =>
  cases b;cases y with
  |non=>cases a;exact PySem.EqNone.eq_none_none (E2 I q (by simp))
  |bl j=>cases a;exact PySem.EqNone.eq_none_bool (E2 I q (by simp))
  |int j=>obtain⟨t',rfl⟩:=a;exact PySem.EqNone.eq_none_int (E2 I q (by simp))
  |str j=>obtain⟨t',rfl⟩:=a;exact PySem.EqNone.eq_none_str (E2 I q (by simp))
  |_=>exact absurd (show false=true from hs) Y1
 | bl i =>
  cases b;cases y with
  |non=>cases a;exact PySem.EqNone.eq_bool_none (E2 I q (by simp))
  |bl j=>cases a;exact eq_bool (E2 I q sI)
  |str j=>obtain⟨t',rfl⟩:=a;exact PySem.EqMixed.eq_bool_str (E2 I q (by simp))
  |_=>exact absurd (show false=true from hs) Y1
 | int i =>
  obtain⟨t,rfl⟩:=b;cases y with
  |non=>cases a;exact PySem.EqNone.eq_int_none (E2 I q (by simp))
  |int j=>obtain⟨t',rfl⟩:=a;exact eq_int (E2 I q HC)
  |str j=>obtain⟨t',rfl⟩:=a;exact PySem.EqMixed.eq_int_str (E2 I q (by simp))
  |_=>exact absurd (show false=true from hs) Y1
 | str i =>
  obtain⟨t,rfl⟩:=b;cases y with
  |non=>cases a;exact PySem.EqNone.eq_str_none (E2 I q (by simp))
  |bl j=>cases a;exact PySem.EqMixed.eq_str_bool (E2 I q (by simp))
  |int j=>obtain⟨t',rfl⟩:=a;exact PySem.EqMixed.eq_str_int (E2 I q (by simp))
  |str j=>obtain⟨t',rfl⟩:=a;exact eq_str (E2 I q ZG)
  |_=>exact absurd (show false=true from hs) Y1
 | byt i =>
  obtain⟨t,rfl⟩:=b;cases y with
  |byt j=>obtain⟨t',rfl⟩:=a;exact PySem.W.eq_bytes (E2 I q LF)
  |_=>exact absurd (show false=true from hs) Y1
 |_=>cases y <;> exact absurd (show false=true from hs) Y1
theorem OH:OpR X (compareOp .NotEq) rNe:=by
 intro pins s σ H x y v u Q I b a h;obtain⟨hs,q⟩:=h;cases x with
 | non =>
  cases b;cases y with
  |non=>cases a;exact PySem.EqNone.ne_none_none (E2 I q (by simp))
  |bl j=>cases a;exact PySem.EqNone.ne_none_bool (E2 I q (by simp))
  |int j=>obtain⟨t',rfl⟩:=a;exact PySem.EqNone.ne_none_int (E2 I q (by simp))
  |str j=>obtain⟨t',rfl⟩:=a;exact PySem.EqNone.ne_none_str (E2 I q (by simp))
  |_=>exact absurd (show false=true from hs) Y1
 | bl i =>
  cases b;cases y with
  |non=>cases a;exact PySem.EqNone.ne_bool_none (E2 I q (by simp))
  |bl j=>cases a;exact ne_bool (E2 I q (congrArg not sI))
  |str j=>obtain⟨t',rfl⟩:=a;exact PySem.EqMixed.ne_bool_str (E2 I q (by simp))
  |_=>exact absurd (show false=true from hs) Y1
 | int i =>
  obtain⟨t,rfl⟩:=b;cases y with
  |non=>cases a;exact PySem.EqNone.ne_int_none (E2 I q (by simp))
  |int j=>obtain⟨t',rfl⟩:=a;exact ne_int (E2 I q (congrArg not HC))
  |str j=>obtain⟨t',rfl⟩:=a;exact PySem.EqMixed.ne_int_str (E2 I q (by simp))
  |_=>exact absurd (show false=true from hs) Y1
 | str i =>
  obtain⟨t,rfl⟩:=b;cases y with
  |non=>cases a;exact PySem.EqNone.ne_str_none (E2 I q (by simp))
  |bl j=>cases a;exact PySem.EqMixed.ne_str_bool (E2 I q (by simp))
  |int j=>obtain⟨t',rfl⟩:=a;exact PySem.EqMixed.ne_str_int (E2 I q (by simp))
  |str j=>obtain⟨t',rfl⟩:=a;exact ne_str (E2 I q (congrArg not ZG))
  |_=>exact absurd (show false=true from hs) Y1
 | byt i =>
  obtain⟨t,rfl⟩:=b;cases y with
  |byt j=>obtain⟨t',rfl⟩:=a;exact PySem.W.ne_bytes (E2 I q (congrArg not LF))
  |_=>exact absurd (show false=true from hs) Y1
 |_=>cases y <;> exact absurd (show false=true from hs) Y1
theorem fB:OpR X (compareOp .Lt) (rI0 λi j=>.bl (decide (i<j))):=opB0 λ_ _ _ _ _ _ _ q=>lt_int q
theorem uB:OpR X (compareOp .LtE) (rI0 λi j=>.bl (decide (i<=j))):=opB0 λ_ _ _ _ _ _ _ q=>le_int q
theorem SL:OpR X (compareOp .Gt) (rI0 λi j=>.bl (decide (j<i))):=opB0 λ_ _ _ _ _ _ _ q=>gt_int q
theorem gQ:OpR X (compareOp .In) (λx y H Q=>∃ i j,x=.str i/\y=.str j/\Q (.bl (!(Builtin.Str.occurrences j i 0 j.length 1).isEmpty)) H):=by
 intro pins s σ H x y v u Q I a b h;obtain⟨i,j,rfl,rfl,q⟩:=h;obtain⟨t,rfl⟩:=a;obtain⟨t',rfl⟩:=b;exact in_str (E2 I q rfl)
theorem kO:OpR X (compareOp .Is) (λx y H Q=>y=.non/\Q (.bl (decide (x=.non))) H):=by
 intro pins s σ H x y v u Q I a b h;obtain⟨rfl,q⟩:=h;cases b;refine is_none_gen (E2 I q ?_)
 cases x <;> first
  |(cases a;rfl)
  |(obtain⟨t,rfl⟩:=a;rfl)
theorem Q2(b:Expr)(h:op ≠ .In:=by decide)(c:op ≠ .NotIn:=by decide):behindInMarks op b=false:=by
 have d:(op == CmpOp.In)=false:=by cases op <;> first|rfl|exact absurd rfl h
 have a:(op == CmpOp.NotIn)=false:=by cases op <;> first|rfl|exact absurd rfl c
 cases b <;> simp[behindInMarks,d,a]
theorem m7(d:OpR X (compareOp op) r)(ha:PE X a ta)(hb:PE X b tb)(hm:behindInMarks op b=false):PE X (.Compare a [op] [b] pos) (tOp r ta tb):=by
 intro pins s σ H Q I h;exact wpAny_Compare1 (binT ha hb I h λv u s2 x y H2 g c f q=>d pins s2 σ H2 x y v u Q g c f q) hm
def nI(t:TE):TT:=λσ H Q=>t σ H λx H'=>∃ k,x=.bl k/\Q k H'
theorem o3{op:CmpOp}{r:R2}(i:OpR X (compareOp op) r)(ha:PE X a ta)(hb:PE X b tb)(hm:behindInMarks op b=false):PT X (.Compare a [op] [b] pos) (nI (tOp r ta tb)):=by
 intro pins s σ H Q I h;refine wpAny_isTrue_Compare1 (thn (ha pins s σ H _ I h) λv s1 ⟨x,q,n,o,d⟩=>thn (hb pins s1 σ q _ n d) λu s2 ⟨y,H2,g,j,p⟩ =>
  thn (i pins s2 σ H2 x y v u _ g o j p) λc t ⟨z,H3,l,f,k,e,m⟩=>?_) hm
 subst e;cases f;exact p7 ⟨H3,l,m⟩
def zE(r r':R2)(ta tb tc:TE):TE:=λσ H Q=>ta σ H λx H1=>tb σ H1 λy H2=>r x y H2 λz H3=>∃ k,z=.bl k /\
 (if k=true then tc σ H3 λw' H4=>r' y w' H4 Q else Q (.bl false) H3)
theorem eF{op f:CmpOp}{r i:R2}(C:OpR X (compareOp op) r)(g:OpR X (compareOp f) i)(ha:PE X a ta)(hb:PE X b tb)(M:PE X c tc)
  (hm:lastMarks [op,f] [b,c]=false:=by with_unfolding_all rfl):PE X (.Compare a [op,f] [b,c] pos) (zE r i ta tb tc):=by
 intro pins s σ H Q I h;refine Compare_chain (thn (ha pins s σ H _ I h) λv s1 ⟨x,K,F,G,p⟩=>chain_link (thn (hb pins s1 σ K _ F p) λu s2 ⟨y,H2,w,j,J⟩ =>
  thn (C pins s2 σ H2 x y v u _ w G j J) λd D ⟨z,H3,m,q,k,e,l⟩=>?_)) hm
 subst e;cases q;refine p7 ?_;cases k with
 |false=>exact ite_ff ⟨.bl false,H3,m,rfl,l⟩
 |true=>exact ite_tt (chain_last (thn (M pins D σ H3 _ m l) λo L ⟨B,E,A,n,t⟩=>g pins L σ E y B u o Q A j n t))
def TruV(K:Frag)(x:V)(H:Hp)(k:Bool):Prop :=
 match x with
 | .non=>k=false
 | .bl b=>k=b
 | .int i=>k=(i != 0)
 | .str y=>y.length<=sizeLine/\k=((y.length:Int) != 0)
 | .byt y=>y.size<=sizeLine/\k=((y.size:Int) != 0)
 | .ref p=>(∃ xs,SqL K H p xs/\k = !xs.isEmpty)\/(∃ xs,SqT K H p xs/\k = !xs.isEmpty)\/∃ kvs,H p=some (.dK kvs)/\k = !kvs.isEmpty
 |_=>False
theorem kQ{κ:Type}{kvs:List (κ × V)}{vs:List (κ × Value)}(r:KV kvs vs):(!vs.isEmpty) = !kvs.isEmpty:=by
 cases r <;> rfl
theorem rH{xs:List V}{its:List Value}(r:Vals xs its):(!its.toArray.isEmpty) = !xs.isEmpty:=by
 cases r <;> simp
theorem p8:(sizeLine:Nat)<2 ^ 63:=by rw[sizeLine_eq];decide
theorem zM:TruR X (λx H Q=>∃ k,TruV X.K x H k/\Q k H):=by
 intro pins s σ H x v Q I d h;obtain⟨k,e,q⟩:=h;have l:=p8;have hs:sizeLine=16777216:=sizeLine_eq;cases x with
 | non =>
  cases d;have a:k=false:=e;subst a;exact truthy_none ⟨H,I,q⟩
 | bl b =>
  cases d;have a:k=b:=e;subst a;exact p7 ⟨H,I,q⟩
 | int i =>
  obtain⟨t,rfl⟩:=d;have a:k=(i != 0):=e;subst a;exact PySem.P.truthy_int ⟨H,I,q⟩
 | str y =>
  obtain⟨t,rfl⟩:=d;obtain⟨j,a⟩:y.length<=sizeLine/\k=((y.length:Int) != 0):=e;subst a;exact PySem.P.truthy_str (by lia) ⟨H,I.tok _,q⟩
 | byt y =>
  obtain⟨t,rfl⟩:=d;obtain⟨j,a⟩:y.size<=sizeLine/\k=((y.size:Int) != 0):=e;subst a;exact PySem.W.truthy_bytes (by lia) ⟨H,I.tok _,q⟩
 | ref p =>
  cases d;have a:(∃ xs,SqL X.K H p xs/\k = !xs.isEmpty)\/(∃ xs,SqT X.K H p xs/\k = !xs.isEmpty)\/∃ kvs,H p=some (.dK kvs)/\k = !kvs.isEmpty:=e;rcases a with ⟨xs,hx,a⟩|⟨xs,hx,a⟩|⟨kvs,hx,a⟩
  ·subst a;obtain⟨its,r,pl,f⟩:=I.list hx;have c:=r.length;exact wpAny_truthy_list pl.isList (by simp only[M3];lia) ⟨H,I.tok _,by rw[rH r];exact q⟩
  ·subst a;obtain⟨its,r,pl,f⟩:=I.tuple hx;have c:=r.length;exact truthy_tuple pl (by simp only[M3];lia) ⟨H,I.tok _,by rw[rH r];exact q⟩
  ·subst a;obtain⟨f,g,vs,r,m⟩:kvs.length<=sizeLine/\(p == sysModules)=false/\∃ vs,KV kvs vs/\s.heap.DictOf (J4 X.prog X.w) p vs:=I.hok p _ hx;have c:kvs.length=vs.length:=Paired.length r;exact wpAny_truthy_dict g m (by lia) ⟨H,I.tok _,by rw[kQ r];exact q⟩
 |_=>exact(show False from e).elim
theorem NM(ha:PE X a ta)(f:∀ whole,isTrue a X.env whole=(do let v ← whole;standAt a.pos;holding [v] (truthy v))) :
  PT X a (λσ H Q=>ta σ H λx H'=>∃ k,TruV X.K x H' k/\Q k H'):=by
 intro pins s σ H Q I h;exact isTrue_plain (thn (ha pins s σ H _ I h) λv s1 ⟨x,g,c,d,b⟩=>zM pins s1 σ g x v Q c d b) (f _)
theorem S5(r:Vals [x] us):∃ u,us=[u]/\RelV x u:=by
 cases r with
 |cons r1 r2=>cases r2;exact⟨_,rfl,r1⟩
theorem WA(r:Vals [x,y] us):∃ u a,us=[u,a]/\RelV x u/\RelV y a:=by
 cases r with
 | cons r1 r2 =>
  cases r2 with
  |cons r3 r4=>cases r4;exact⟨_,_,rfl,r1,r3⟩
theorem bL(a:X.calm=true):l2 X (.builtin "max") (λxs H Q=>∃ i j,xs=[.int i,.int j]/\Q (.int (if j > i then j else i)) H):=by
 intro pins s σ H xs us Q I r h;obtain⟨i,j,rfl,q⟩:=h;obtain⟨u,b,rfl,⟨t,rfl⟩,⟨t',rfl⟩⟩:=WA r;refine max_two_ints (I.ok.hd a) λh' tk k=>⟨_,H,I.kept k,?_,q⟩
 by_cases hj:j > i
 ·rw[z0 hj,z0 hj];exact⟨_,rfl⟩
 ·rw[y0 hj,y0 hj];exact⟨_,rfl⟩
theorem DN(a:X.calm=true):l2 X (.builtin "min") (λxs H Q=>∃ i j,xs=[.int i,.int j]/\Q (.int (if j<i then j else i)) H):=by
 intro pins s σ H xs us Q I r h;obtain⟨i,j,rfl,q⟩:=h;obtain⟨u,b,rfl,⟨t,rfl⟩,⟨t',rfl⟩⟩:=WA r;refine min_two_ints (I.ok.hd a) λh' tk k=>⟨_,H,I.kept k,?_,q⟩
 by_cases hj:j<i
 ·rw[z0 hj,z0 hj];exact⟨_,rfl⟩
 ·rw[y0 hj,y0 hj];exact⟨_,rfl⟩
theorem RJ:l2 X (.type "str") (λxs H Q=>∃ i,xs=[.int i]/\i.natAbs.log2<1920/\Q (.str (toString i)) H):=by
 intro pins s σ H xs us Q I r h;obtain⟨i,rfl,a,q⟩:=h;obtain⟨u,rfl,t,rfl⟩:=S5 r;exact PySem.P.str_of_int a ⟨.str _,H,I.tok _,⟨_,rfl⟩,q⟩
end
structure ObjM(h:Heap)(x dx C:Addr)(mA:Str->Option Value):Prop where
 obj:h.get? x=some (PySem.W.instObj C dx)
 ns:h.Ns1 dx mA
 ne:dx ≠ x
theorem yP{h:Heap}{dx:Addr}{mA:Str->Option Value}(n:h.Ns1 dx mA):∃ od,h.get? dx=some od/\∀ name,PySem.W.lookIn name od=some (mA name):=by
 obtain⟨o,es,i,c,hd,d,_,hm⟩:=n;refine⟨o,c,λname=>?_⟩;have e:=hm name;unfold nsFind findBy at e;rw[← Array.find?_toList] at e;unfold PySem.W.lookIn;rw[hd];dsimp only;split
 ·rename_i y q
  rw[q] at e;exact congrArg some e
 ·rename_i q
  rw[q] at e;have a:es.toList.any (·.refKey)=false:=by
   rw[List.any_eq_false];intro y g;obtain⟨z,t,b⟩:=d y (Array.mem_toList_iff.mp g);simp[DictEntry.refKey,b]
  have f:¬ es.toList.any (·.refKey)=true:=by rw[a];exact Y1
  rw[y0 f];exact congrArg some e
theorem ObjM.look(I:ObjM h x dx C mA):∃ od,PySem.W.InstAt h x (PySem.W.instObj C dx) C (some od)/\∀ name,PySem.W.lookIn name od=some (mA name) :=
 let ⟨od,a,b⟩:=yP I.ns
 ⟨od,⟨I.obj,rfl,rfl,a⟩,b⟩
section
variable{prog:Program}{w:World}{A:Around}{E:Value->Shared->Prop}{s:Shared}{K:Frag}{x dx C f:Addr}{mA:Str->Option Value}{name:Str}{v:Value}
theorem mL(X:K.In s.heap)(I:ObjM s.heap x dx C mA)(d:PySem.W.plainGet K C name=true)(hh:PySem.W.hasDictIn K C=true)
  (ha:PySem.W.findIn K (.ref C) name=some none) (c:mA name=some v) (b:PySem.W.handedIn v=true) (h:Q v { s with toks:=s.toks+1 }) :
  wpAny (model prog w) A (getAttr (.ref x) name a) Q E s:=by
 obtain⟨od,J,f⟩:=I.look;exact PySem.W.get_value X J (PySem.W.plainGet_of d).1 (PySem.W.findObj_own hh ha rfl (by rw[f,c])) b h
theorem tM(X:K.In s.heap)(I:ObjM s.heap x dx C mA)(a:PySem.W.plainGet K C name=true)
  (hf:PySem.W.findIn K (.ref C) name=some (some (.ref f))) (b:PySem.W.isFn K (.ref f)=true) (c:mA name=none) (h:Q (.ref f,[.ref x]) s) :
  wpAny (model prog w) A (getMethod (.ref x) name pl) Q E s:=by
 obtain⟨od,J,d⟩:=I.look;exact PySem.W.method_fn X J (PySem.W.plainGet_of a).1 (PySem.W.plainGet_of a).2 hf (E1.mp b) (by show(PySem.W.lookIn name od).map (·.isSome)=some false;rw[d,c];rfl) h
theorem TJ(X:K.In s.heap)(I:ObjM s.heap x dx C mA)
  (hs:PySem.W.findIn K (.ref C) "__setattr__" = some (some (.builtin "object.__setattr__"))) (p:PySem.W.plainOver K C=true) (n:PySem.W.takerIn K C name=some none) (hh:PySem.W.hasDictIn K C=true)
  (l:PySem.Within mA ns) (hsz:ns.length<=sizeLine)
  (h:∀ h',ObjM h' x dx C (λy=>if y=name then some v else mA y)->Heap.SameBut dx s.heap h'->Q () { s with heap:=h',toks:=s.toks+2 }) :
  wpAny (model prog w) A (setAttr (.ref x) name v) Q E s:=by
 obtain⟨od,J,u⟩:=I.look;refine PySem.W.set_plain X J hs (PySem.W.osa_open (s:={ s with toks:=s.toks+1 }) (r:=none) X J p n λb=>?_);obtain⟨t,q,g⟩:=PySem.W.any_some hh;have hx:s.heap.get? x=some ⟨.ref C,some dx,.plain,#[]⟩:=I.obj;refine u0 (I0 (u0 (u0 (wpAny_loadPart hx (u0 (PySem.W.Looks.here (s:={ s with toks:=s.toks+1 }) (PySem.W.looks_clsIn X q) ?_))))));rw[g];refine I0 (a:=some dx) (u0 (I0 (u0 ?_)));refine wpAny_nsSet1 (s:={ s with toks:=s.toks+1 }) I.ns λh' d c=>?_;obtain⟨oD,m,o,f,i,j⟩:=d.count (PySem.Within.cons name v l);refine u0 (wpAny_lookBehind f (by rw[i];exact pastItsLine_dict (D2 j (by rw[v3];lia))) ?_);exact I0 (h _ ⟨(c.2 _ (Ne.symm I.ne)).trans I.obj,d,I.ne⟩ c)
theorem cR(X:K.In s.heap)(hm:PySem.W.makesIn K C=true)
  (hi:PySem.W.findIn K (.ref C) "__init__" = some (some (.ref f))) (hf:PySem.W.typeIn K (.ref f)=some (.type "function"))
  (h:codeAny (model prog w) (A.under (.builtin "type.__call__" ⟨.ref C::vs,a⟩)) (.call (.ref f) ⟨.ref (s.heap.objs.size+1)::vs,a⟩) (PySem.W.InitBack (s.heap.objs.size+1) R)
   { s with heap:=(s.heap.push PySem.W.emptyDict).push (PySem.W.instObj C s.heap.objs.size) }) :
  codeAny (model prog w) A (.call (.ref C) ⟨vs,a⟩) R s:=by
 obtain⟨hh,g,d,t,os⟩:=s;exact PySem.W.make_core (PySem.W.makes_of X hm) (PySem.W.looks_findIn X hi) (λself=>PySem.W.bind_fn X self hf) (.inl rfl) h
end
def putF(f:Str)(v:V):List (Str × V)->List (Str × V)
 |[]=>[(f,v)]
 |(g,x)::r=>if g=f then (g,v)::r else (g,x)::putF f v r
theorem bI(f g:Str)(v:V):∀ fs:List (Str × V),(putF f v fs).lookup g=if g=f then some v else fs.lookup g
 | []=>by
  show List.lookup g [(f,v)]=_;by_cases h:g=f
  ·have hb:(g == f)=true:=E1.mpr h;simp only[List.lookup,hb,z0 h]
  ·have hb:(g == f)=false:=beq_eq_false_iff_ne.mpr h;simp only[List.lookup,hb,y0 h]
 | (k,x)::r=>by
  have a:=bI f g v r;rw[show putF f v ((k,x)::r)=(if k=f then (k,v)::r else (k,x)::putF f v r) from rfl];by_cases hk:k=f
  ·rw[z0 hk];by_cases h:g=k
   ·have hb:(g == k)=true:=E1.mpr h;simp only[List.lookup,hb,z0 (h.trans hk)]
   ·have hb:(g == k)=false:=beq_eq_false_iff_ne.mpr h;simp only[List.lookup,hb,y0 (λe:g=f=>h (e.trans hk.symm))]
  ·rw[y0 hk];by_cases h:g=k
   ·have hb:(g == k)=true:=E1.mpr h;simp only[List.lookup,hb,y0 (λe:g=f=>hk (h.symm.trans e))]
   ·have hb:(g == k)=false:=beq_eq_false_iff_ne.mpr h;simp only[List.lookup,hb];exact a
theorem LE(f:Str)(v:V):∀ fs:List (Str × V),f∈(putF f v fs).map (·.1)/\∀ g,g∈fs.map (·.1)->g∈(putF f v fs).map (·.1)
 |[]=>⟨by simp[putF],λg h=>by simp at h⟩
 | (k,x)::r=>by
  obtain⟨i1,a⟩:=LE f v r;rw[show putF f v ((k,x)::r)=(if k=f then (k,v)::r else (k,x)::putF f v r) from rfl];by_cases hk:k=f
  ·rw[z0 hk];subst hk;exact⟨by simp,λg h=>by simpa using h⟩
  ·rw[y0 hk];refine⟨?_,λg h=>?_⟩
   ·rw[P0];exact Q3 _ i1
   ·rw[P0] at h ⊢;rcases V0.mp h with e|e
    ·exact V0.mpr (.inl e)
    ·exact Q3 _ (a g e)
theorem mG(f:Str)(v:V):∀ fs:List (Str × V),(putF f v fs).length<=fs.length+1
 |[]=>by simp[putF]
 | (k,x)::r=>by
  have a:=mG f v r;rw[show putF f v ((k,x)::r)=(if k=f then (k,v)::r else (k,x)::putF f v r) from rfl];by_cases hk:k=f
  ·rw[z0 hk,v3,v3];lia
  ·rw[y0 hk,v3,v3];lia
theorem RelO.some_of(r:RelO (some v) o):∃ u,o=some u/\RelV v u:=by
 cases o with
 |none=>exact(show False from r).elim
 |some u=>exact⟨u,rfl,r⟩
theorem RelO.none_of(r:RelO none o):o=none:=by
 cases o with
 |none=>rfl
 |some u=>exact(show False from r).elim
theorem BN(r:RelV v u):PySem.W.handedIn u=true:=by
 cases v with
 |non=>cases (show u=Value.none from r);rfl
 |bl b=>cases (show u=Value.bool b from r);rfl
 |int i=>obtain⟨t,e⟩:=(show ∃ t,u=Value.int i t from r);cases e;rfl
 |str x=>obtain⟨t,e⟩:=(show ∃ t,u=Value.str x t from r);cases e;rfl
 |byt b=>obtain⟨t,e⟩:=(show ∃ t,u=Value.bytes b t from r);cases e;rfl
 |flt b=>obtain⟨t,e⟩:=(show ∃ t,u=Value.float b t from r);cases e;rfl
 |ref a=>cases (show u=Value.ref a from r);rfl
 |ty n=>cases (show u=Value.type n from r);rfl
theorem qC(hok:HOk P w H h)(e:H a=some (.ins C dx fs)):∃ mA,ObjM h a dx C mA/\(∀ f,RelO (fs.lookup f) (mA f))/\PySem.Within mA (fs.map (·.1))/\fs.length<=1000/\H dx=some (.own a):=by
 obtain⟨d,z,ne,b,mA,n,r,q⟩:=(show ObjOk P w H h a (.ins C dx fs) from hok a _ e)
 exact⟨mA,⟨b,n,ne⟩,r,q,z,d⟩
structure Cls(K:Frag)(C:Addr):Prop where
 pg:PySem.W.plainGet K C Str.empty=true
 hd:PySem.W.hasDictIn K C=true
 po:PySem.W.plainOver K C=true
 sa:PySem.W.findIn K (.ref C) "__setattr__" = some (some (.builtin "object.__setattr__"))
theorem Cls.get{K:Frag}{C:Addr}(c:Cls K C)(f:Str):PySem.W.plainGet K C f=true:=c.pg
def NoAttr(K:Frag)(C:Addr)(f:Str):Prop:=PySem.W.findIn K (.ref C) f=some none
theorem NoAttr.taker{K:Frag}{C:Addr}{f:Str}(n:NoAttr K C f):PySem.W.takerIn K C f=some none:=by
 unfold PySem.W.takerIn;rw[show PySem.W.findIn K (.ref C) f=some none from n];rfl
structure Meth(K:Frag)(C:Addr)(m:Str)(f:Addr):Prop where
 at_:PySem.W.findIn K (.ref C) m=some (some (.ref f))
 fn:PySem.W.isFn K (.ref f)=true
 kp:keepIn K (.ref f)=true
theorem WP(I:Inv X pins σ H s)(e:H a=some (.ins C dx fs))(c:Cls X.K C)(n:NoAttr X.K C f)(l:fs.lookup f=some v)
  (h:∀ u g,Inv X pins σ H g->RelV v u->Q u g):wpAny (model X.prog X.w) A (getAttr (.ref a) f b) Q E s:=by
 obtain⟨mA,O,r,_,_,_⟩:=qC I.hok e;obtain⟨u,i,d⟩:=RelO.some_of (v:=v) (o:=mA f) (by rw[← l];exact r f);exact mL I.kIn O (c.get f) c.hd n i (BN d) (h u _ (I.tok _) d)
theorem uE(I:Inv X pins σ H s)(e:H a=some (.ins C dx fs))(c:Cls X.K C)(k:Meth X.K C m g)(l:fs.lookup m=none)
  (h:Q (.ref g,[.ref a]) s):wpAny (model X.prog X.w) A (getMethod (.ref a) m pl) Q E s:=by
 obtain⟨mA,O,r,_,_,_⟩:=qC I.hok e;have hn:mA m=none:=RelO.none_of (by rw[← l];exact r m);exact tM I.kIn O (c.get m) k.at_ k.fn hn h
theorem DT(I:Inv X pins σ H s)(e:H a=some (.ins C dx fs))(c:Cls X.K C)(n:NoAttr X.K C f)(B:fs.length<1000)(v:RelV y u)
  (h:∀ j,Inv X pins σ (upd H a (.ins C dx (putF f y fs))) j->Q () j):wpAny (model X.prog X.w) A (setAttr (.ref a) f u) Q E s:=by
 obtain⟨mA,O,r,l,_,i⟩:=qC I.hok e;have p:(fs.map (·.1)).length<=sizeLine:=by rw[N1,sizeLine_eq];lia
 refine TJ I.kIn O c.sa c.po n.taker c.hd l p λh' d sb=>h _ ?_;have hd:∃ o,h'.get? dx=some o:=let ⟨o,_,_,t,_⟩:=d.ns;⟨o,t⟩;refine I.write (x:=a) (e:=dx) (by rw[e];exact True.intro) (.inr i) (λb q hb z=>(sb.2 b hb).trans z) hd ?_;refine⟨by rw[G0 O.ne];exact i,?_,O.ne,d.obj,_,d.ns,λg=>?_,λg m=>?_⟩
 ·have:=mG f y fs;lia
 ·show RelO ((putF f y fs).lookup g) (if g=f then some u else mA g);rw[bI];by_cases q:g=f
  ·rw[z0 q,z0 q];exact v
  ·rw[y0 q,y0 q];exact r g
 ·by_cases q:g=f
  ·rw[q];exact(LE f y fs).1
  ·refine(LE f y fs).2 g (l g λz=>m ?_);show(if g=f then some u else mA g)=none;rw[y0 q];exact z
theorem Inv.made(I:Inv X pins σ H s):Inv X pins σ (upd (upd H s.heap.objs.size (.own (s.heap.objs.size+1))) (s.heap.objs.size+1) (.ins C s.heap.objs.size []))
  { s with heap:=(s.heap.push PySem.W.emptyDict).push (PySem.W.instObj C s.heap.objs.size) }:=by
 have c:(s.heap.push PySem.W.emptyDict).get? s.heap.objs.size=some PySem.W.emptyDict:=m3 s.heap rfl;have d:((s.heap.push PySem.W.emptyDict).push (PySem.W.instObj C s.heap.objs.size)).get? (s.heap.objs.size+1)=some (PySem.W.instObj C s.heap.objs.size):=by
  have:=m3 (s.heap.push PySem.W.emptyDict) (o:=PySem.W.instObj C s.heap.objs.size) rfl
  rwa [SA] at this
 have g:(s.heap.push PySem.W.emptyDict).Ns s.heap.objs.size (λ_=>none):=⟨PySem.W.emptyDict,#[],_,c,rfl,(λe h=>absurd h (by simp)),λ_=>rfl⟩
 have i:=I.laid (a:=s.heap.objs.size) (o:=.own (s.heap.objs.size+1)) (h':=s.heap.push PySem.W.emptyDict) (t':=s.toks) (λb u q=>S1 _ q) (Q0 _) ⟨_,c⟩;refine i.laid (a:=s.heap.objs.size+1) (o:=.ins C s.heap.objs.size []) (t':=s.toks) (λb u q=>S1 _ q) (Nat.le_of_eq (SA _ _)) ?_;have ne:s.heap.objs.size ≠ s.heap.objs.size+1:=U1 (aB _);refine⟨by rw[G0 ne,S0],R4 _,ne,d,λ_=>none,(Heap.Ns1.of_empty g).at λo q=>S1 _ q,λ_=>True.intro,λy f=>absurd rfl f⟩
theorem UL(hb:attributeBase e f env (eval e env)=eval e env)
  (h:wpAny (model prog w) A (eval e env) (λo a=>wpAny (model prog w) A (getAttr o f true) Q E a) E s):wpAny (model prog w) A (eval (.Attribute e f pos) env) Q E s :=
 Attribute_any_ h (by rw[arm_eval_Attribute,hb])
def tFld(K:Frag)(ta:TE)(f:Str):TE:=λσ H Q=>ta σ H λx H1=>∃ a C dx fs v,x=.ref a/\H1 a=some (.ins C dx fs)/\Cls K C/\NoAttr K C f/\fs.lookup f=some v/\Q v H1
def sFld(K:Frag)(ta tv:TE)(f:Str):TS:=λD σ H=>tv σ H λy H1=>ta σ H1 λx H2=>∃ a C dx fs,x=.ref a/\H2 a=some (.ins C dx fs)/\Cls K C/\NoAttr K C f/\fs.length<1000 /\
 D.nx σ (upd H2 a (.ins C dx (putF f y fs)))
section
variable{X:Cx}{o e value:Expr}{f:Str}{pos pos' tpos:Pos}{ta tv:TE}
theorem j7(i:PE X e ta)(hb:attributeBase e f X.env (eval e X.env)=eval e X.env):PE X (.Attribute e f pos) (tFld X.K ta f):=by
 intro pins s σ H Q I h;refine UL hb (thn (i pins s σ H _ I h) λu s1 ⟨x,j,g,b,a,C,dx,fs,v,ex,d,c,n,l,q⟩=>?_);subst ex;obtain rfl:u=Value.ref a:=b;exact WP g d c n l λp s2 o m=>⟨v,j,o,m,q⟩
theorem cN(ha:PE X o ta)(b:PE X value tv)(hs:swapsWith value (some (.Attribute o f pos')) pos.line X.env=pure false):PS X (.Assign [.Attribute o f pos'] value pos) (sFld X.K ta tv f):=by
 intro pins s σ H D I h;refine plainObj_wpAny_Assign_Attribute (thn (b pins s σ H _ I h) λu s1 ⟨y,r,m,t,q⟩=>thn (ha pins s1 σ r _ m q) λd s2 ⟨x,H2,v,g,a,C,dx,fs,ex,i,c,n,l,p⟩=>?_) hs;subst ex;obtain rfl:d=Value.ref a:=g;exact DT v i c n l t λw j=>⟨σ,_,j,p⟩
end
inductive TyOf(K:Frag)(H:Hp):V->Value->Prop where
 |non:TyOf K H .non (.type "NoneType")
 |bl (x:Bool):TyOf K H (.bl x) (.type "bool")
 |int (i:Int):TyOf K H (.int i) (.type "int")
 |str (x:Str):TyOf K H (.str x) (.type "str")
 |flt (x:UInt64):TyOf K H (.flt x) (.type "float")
 |lst {a:Addr} {xs:List V} (e:H a=some (.lst xs)):TyOf K H (.ref a) (.type "list")
 |frz {a:Addr} {o:Obj} {xs:List V} (e:H a=some (.frz o (.lst xs))):TyOf K H (.ref a) (.type "list")
 |tup {a:Addr} {xs:List V} (e:H a=some (.tup xs)):TyOf K H (.ref a) (.type "tuple")
 |dK {a:Addr} {kvs:List (Key × V)} (e:H a=some (.dK kvs)):TyOf K H (.ref a) (.type "dict")
 |dT {a:Addr} {kvs:List (List Key × V)} (e:H a=some (.dT kvs)):TyOf K H (.ref a) (.type "dict")
 | ins {a C dx:Addr} {fs:List (Str × V)} (e:H a=some (.ins C dx fs)) (cl:Cls K C) (ha:PySem.W.findIn K (.ref C) "__class__" = some (some (.builtin "object.__class__")))
   (hn:PySem.W.specialIn K (.builtin "object.__class__") "__get__" = some (some (.builtin "getset_descriptor.__get__"))) (htk:PySem.W.takesIn K (.builtin "object.__class__")=some true)
   (hm:mroIn K C (.type "object")=some true):TyOf K H (.ref a) (.ref C)
theorem uT(I:Inv X pins σ H s)(d:RelV x u)(ty:TyOf X.K H x t)(e:kitOne X.K t c=some b)(h:∀ tk,Q (.bool b) { s with toks:=tk }) :
  wpAny (model X.prog X.w) A (call (.builtin "isinstance") [u,c]) Q E s:=by
 cases ty with
 |non=>cases (show u=Value.none from d);exact PySem.W.kia_one PySem.W.kitx_none I.kIn True.intro e (λz=>nomatch z) h
 |bl y=>cases (show u=Value.bool y from d);exact PySem.W.kia_one PySem.W.kitx_bool I.kIn True.intro e (λz=>nomatch z) h
 |int i=>obtain⟨t,q⟩:=(show ∃ t,u=Value.int i t from d);cases q;exact PySem.W.kia_one PySem.W.kitx_int I.kIn True.intro e (λz=>nomatch z) h
 |str y=>obtain⟨t,q⟩:=(show ∃ t,u=Value.str y t from d);cases q;exact PySem.W.kia_one PySem.W.kitx_str I.kIn True.intro e (λz=>nomatch z) h
 |flt y=>obtain⟨t,q⟩:=(show ∃ t,u=Value.float y t from d);cases q;exact PySem.W.kia_one PySem.W.kitx_float I.kIn True.intro e (λz=>nomatch z) h
 | @lst a xs ea =>
  cases (show u=Value.ref a from d);obtain⟨_,_,n,_,f⟩:=(show ObjOk X.prog X.w H s.heap a (.lst xs) from I.hok a _ ea)
  exact PySem.W.kia_one PySem.W.kitx_list I.kIn ⟨_,f,rfl⟩ e (λz=>nomatch z) h
 | @frz a ob xs ea =>
  cases (show u=Value.ref a from d);obtain⟨_,_,_,n,_,f⟩:=(show ObjOk X.prog X.w H s.heap a (.frz ob (.lst xs)) from I.hok a _ ea)
  exact PySem.W.kia_one PySem.W.kitx_list I.kIn ⟨_,f,rfl⟩ e (λz=>nomatch z) h
 | @tup a xs ea =>
  cases (show u=Value.ref a from d);obtain⟨_,_,_,p⟩:=(show ObjOk X.prog X.w H s.heap a (.tup xs) from I.hok a _ ea)
  obtain⟨o,f,g,_⟩:=p;exact PySem.W.kia_one PySem.W.kitx_tuple I.kIn ⟨o,f,g⟩ e (λz=>nomatch z) h
 | @dK a kvs ea =>
  cases (show u=Value.ref a from d);obtain⟨_,_,vs,_,p⟩:=(show ObjOk X.prog X.w H s.heap a (.dK kvs) from I.hok a _ ea)
  obtain⟨o,es,j,f,g,_⟩:=p;exact PySem.W.kia_one PySem.W.kitx_dict I.kIn ⟨o,f,g.1⟩ e (λz=>nomatch z) h
 | @dT a kvs ea =>
  cases (show u=Value.ref a from d);obtain⟨_,_,xs,_,o,es,j,f,g,_⟩:=(show ObjOk X.prog X.w H s.heap a (.dT kvs) from I.hok a _ ea)
  exact PySem.W.kia_one PySem.W.kitx_dict I.kIn ⟨o,f,g.1⟩ e (λz=>nomatch z) h
 | @ins a C dx fs ea cl ha hn htk hm =>
  cases (show u=Value.ref a from d);obtain⟨mA,O,_⟩:=qC I.hok ea;obtain⟨od,J,_⟩:=O.look;exact PySem.W.kia_one (PySem.W.kitx_own (cl.get _) cl.hd ha hn htk hm) I.kIn J e (λz=>nomatch z) h
structure Room(k:Nat)(A:Around):Prop where
 hd:A.handled=none
 dp:A.depth+3 * k+5<recursionLimit
 un:A.units+16 * k+200<cLine
 gd:A.guards=some []
theorem Room.mono(r:Room k A)(h:j<=k):Room j A:=⟨r.hd,by have:=r.dp;lia,by have:=r.un;lia,r.gd⟩
theorem Room.deeper(r:Room (k+1) A)(env:Env):Room k (A.deeper env) :=
 ⟨r.hd,by have:=r.dp;show A.depth+1+3 * k+5<_;lia,by have:=r.un;show A.units+3+16 * k+200<_;lia,r.gd⟩
theorem OQ{A:Around}{C:Addr}{us:List Value}{a:List (Str × Value)}:(A.under (.builtin "type.__call__" ⟨.ref C::us,a⟩)).depth=A.depth+1:=by
 first|rfl|simp[Around.under,Code.weight,Code.isCreation,Code.isGuard,Code.isCaller,Code.frames,Code.isFrame,guardIds]
theorem ZP{A:Around}{C:Addr}{us:List Value}{a:List (Str × Value)}:(A.under (.builtin "type.__call__" ⟨.ref C::us,a⟩)).units=A.units+1:=by
 first|rfl|simp[Around.under,Code.cUnits,Code.frames,Code.isFrame]
theorem RQ{A:Around}{C:Addr}{us:List Value}{a:List (Str × Value)}:(A.under (.builtin "type.__call__" ⟨.ref C::us,a⟩)).guards=A.guards:=by
 cases hg:A.guards <;> simp[Around.under,hg,Code.guards,Code.isGuard,guardIds,pushGuards]
theorem Room.make(r:Room (k+1) A)(C:Addr)(us:List Value)(a:List (Str × Value)):Room k (A.under (.builtin "type.__call__" ⟨.ref C::us,a⟩)) :=
 ⟨r.hd,by have:=r.dp;rw[OQ];lia,by have:=r.un;rw[ZP];lia,by rw[RQ];exact r.gd⟩
theorem Room.depth(r:Room k A):A.depth<recursionLimit:=by have:=r.dp;lia
theorem Room.units(r:Room k A):A.units+64<cLine:=by have:=r.un;lia
theorem Room.units0(r:Room k A):A.units<cLine:=by have:=r.un;lia
def tNil:TA:=λ_ H Q=>Q [] H
def M2(ta:TE)(tr:TA):TA:=λσ H Q=>ta σ H λx H1=>tr σ H1 λxs H2=>Q (x::xs) H2
section
variable{X:Cx}{e:Expr}{es:List Expr}{te:TE}{t:TA}{pos:Pos}
theorem q0:PA X [] tNil:=λ_ _ _ _ H Q I h=>Calls.spliced_nil ⟨[],H,I,.nil,h⟩
theorem o0(ha:PE X e te)(i:PA X es t)(hs:starEach (e::es) X.env=(false,eval e X.env)::starEach es X.env:=by rfl):PA X (e::es) (M2 te t):=by
 intro pos pins s σ H Q I h;rw[hs];show wpAny _ _ (spliced ((false,eval e X.env)::backTo pos (starEach es X.env))) _ _ s;refine Calls.spliced_cons (thn (ha pins s σ H _ I h) λu s1 ⟨x,g,c,d,a⟩=>?_);exact thn (i pos pins s1 σ g _ c a) λus s2 ⟨xs,H2,j,b,f⟩=>⟨x::xs,H2,j,.cons d b,f⟩
def tTup(t:TA):TE:=λσ H Q=>t σ H λxs H1=>xs.length<=sizeLine/\∀ p,H1 p=none->Q (.ref p) (upd H1 p (.tup xs))
def tLst(t:TA):TE:=λσ H Q=>t σ H λxs H1=>xs.length<=sizeLine/\∀ p,H1 p=none->Q (.ref p) (upd H1 p (.lst xs))
theorem L1{x1}(h:PA X es t):PE X (.Tuple es x1 pos) (tTup t):=by
 intro pins s σ H Q I d;refine wpAny_Tuple_spliced (thn (h pos pins s σ H _ I d) λus s1 ⟨xs,c,a,r,z,q⟩=>⟨by rw[← r.length];exact z,?_⟩);have hf:c s1.heap.objs.size=none:=a.hok.fresh (Q0 _);refine⟨.ref s1.heap.objs.size,upd c s1.heap.objs.size (.tup xs),a.laid (t':=s1.toks) (λb u e=>S1 _ e) (Q0 _) ?_,rfl,q _ hf⟩;exact⟨z,us,r,⟨_,m3 _ rfl,rfl,_,rfl⟩⟩
theorem Z0(h:PA X es t):PE X (.List es pos) (tLst t):=by
 intro pins s σ H Q I d;refine wpAny_List_spliced (thn (h pos pins s σ H _ I d) λus s1 ⟨xs,c,a,r,z,q⟩=>⟨by rw[← r.length];exact z,?_⟩);have hf:c s1.heap.objs.size=none:=a.hok.fresh (Q0 _);refine⟨.ref s1.heap.objs.size,upd c s1.heap.objs.size (.lst xs),a.laid (t':=s1.toks) (λb u e=>S1 _ e) (Q0 _) ?_,rfl,q _ hf⟩;exact⟨z,us,0,r,m3 _ rfl⟩
end
abbrev Sp:=List V->Hp->VK->XK->Prop
abbrev CXT:=List Env->Hp->Shared->XK->Value->Shared->Prop
structure Env0(P:Program)(w:World)(K:Frag)(mg:Str->Option Value)(base:Heap)(A:Around)(outer:List Env)(s:Shared)(H:Hp):Prop where
 frames:A.frames=some outer
 mod:Mod K mg base
 bs:∀ b o,base.get? b=some o->s.heap.get? b=some o/\H b=none
 bsz:base.objs.size<=s.heap.objs.size
 funs:s.heap.FunFrames base outer
 frf:∀ b∈frs outer,H b=none
 tab:TabsOk K H
 hok:HOk P w H s.heap
 bare:AllBare s.gens
def CE(outer:List Env)(P:Program)(w:World)(H:Hp)(s:Shared)(Q:VK)(u:Value)(s':Shared):Prop :=
 ∃ v H',s'.os=s.os/\AllBare s'.gens/\Un (frs outer) [] H H' s.heap s'.heap/\HOk P w H' s'.heap/\RelV v u/\Q v H'
def CR(CX:CXT)(outer:List Env)(P:Program)(w:World)(H:Hp)(s:Shared)(Q:VK)(E:XK)(r:Result)(s':Shared):Prop :=
 match r with
 | .ok (.ret u)=>CE outer P w H s Q u s'
 | .ok _=>False
 | .error e=>CX outer H s E e s'
structure FnOk(P:Program)(w:World)(K:Frag)(mg:Str->Option Value)(base:Heap)(CX:CXT)(k:Nat)(f:Addr)(fd:FuncData)(ps:List Str)(sp:Sp):Prop where
 len:∀ vs H Q E,sp vs H Q E->vs.length=ps.length
 run:∀(A:Around)(outer:List Env)(s:Shared)(H:Hp)(args:Args)(us:List Value)(vs:List V)(Q:VK)(E:XK),Room k A->Env0 P w K mg base A outer s H->BindsTo s fd args (ps.zip us)->Vals vs us->sp vs H Q E ->
  codeAny (model P w) A (.call (.ref f) args) (CR CX outer P w H s Q E) s
theorem FnOk.imp{P:Program}{w:World}{K:Frag}{mg:Str->Option Value}{base:Heap}{CX:CXT}{k:Nat}{f:Addr}{fd:FuncData}{ps:List Str}{sp a:Sp}(F:FnOk P w K mg base CX k f fd ps sp)
  (h:∀ vs H Q E,a vs H Q E->sp vs H Q E):FnOk P w K mg base CX k f fd ps a :=
 ⟨λvs H Q E q=>F.len vs H Q E (h _ _ _ _ q),λA outer s H args us vs Q E d c hb b hs=>F.run A outer s H args us vs Q E d c hb b (h _ _ _ _ hs)⟩
theorem Env0.make{P:Program}{w:World}{K:Frag}{mg:Str->Option Value}{base:Heap}{A:Around}{outer:List Env}{s:Shared}{H:Hp}(e:Env0 P w K mg base A outer s H)(C:Addr)(us:List Value)(a:List (Str × Value)) :
  Env0 P w K mg base (A.under (.builtin "type.__call__" ⟨.ref C::us,a⟩)) outer s H:=⟨by first|exact e.frames|(simpa[Around.under,Code.envs,Code.isFrame,pushEnvs] using e.frames),e.mod,e.bs,e.bsz,e.funs,e.frf,e.tab,e.hok,e.bare⟩
theorem Inv.env0(I:Inv X pins σ H s):Env0 X.prog X.w X.K X.mg X.base X.A X.stack s H :=
 ⟨I.ok.frames,I.ok.mod,I.bs,D2 I.ok.bsz I.sz,I.stack,I.stkFree,I.tab,I.hok,I.bare⟩
theorem Inv.after(I:Inv X pins σ H s)(h:CE X.stack X.prog X.w H s Q u s'):EP X pins σ Q u s':=by
 obtain⟨v,H',os,bare,un,hok,r,q⟩:=h;obtain⟨hh,g,d,t,os'⟩:=s';obtain rfl:os'=s.os:=os;exact⟨v,H',I.call (h':=hh) (g':=g) (d':=d) (t':=t) (ch:=[]) un hok bare (λb z=>absurd z (by simp)),r,q⟩
def F3(sp:Sp)(dvs:List V)(E:XK)(t:TA):TE:=λσ H Q=>t σ H λvs H1=>sp (vs++dvs) H1 Q E
def L7(C:Addr)(m:Str)(sp:Sp)(dvs:List V)(E:XK)(ta:TE)(t:TA):TE:=λσ H Q=>ta σ H λx H1=>∃ a dx fs,x=.ref a/\H1 a=some (.ins C dx fs)/\fs.lookup m=none /\
 t σ H1 λvs H2=>sp (x::(vs++dvs)) H2 Q E
def LD(C:Addr)(sp:Sp)(dvs:List V)(E:XK)(t:TA):TE:=λσ H Q=>t σ H λvs H1=>∀ x dx,H1 x=none->H1 dx=none->dx ≠ x ->
 sp (.ref x::(vs++dvs)) (upd (upd H1 dx (.own x)) x (.ins C dx [])) (λv H2=>v=.non/\Q (.ref x) H2) E
def Binds(K:Frag)(fd:FuncData)(ps:List Str)(ds:List Value):Prop :=
 ∀(s:Shared)(us:List Value),K.In s.heap->(us++ds).length=ps.length->BindsTo s fd ⟨us,[]⟩ (ps.zip (us++ds))
theorem Binds.all{K:Frag}{fd:FuncData}{ps:List Str}(h:∀ us:List Value,us.length=ps.length->bindArgs fd ⟨us,[]⟩=pure (ps.zip us)):Binds K fd ps []:=λs us _ a=>by
 rw[z5] at a ⊢;exact .of_eq (h us a)
def D7(CX:CXT)(X:Cx)(E:XK):Prop:=∀(pins:List (Addr × Obj))(σ:St)(H:Hp)(s:Shared)(e:Value)(s':Shared),Inv X pins σ H s->CX X.stack H s E e s'->X.xe e s'
section
variable{X:Cx}{CX:CXT}{k:Nat}{f C:Addr}{fd:FuncData}{ps:List Str}{sp:Sp}{dvs:List V}{ds:List Value}{E:XK}{x m:Str}{p pos apos:Pos}{e o:Expr}{es:List Expr}{ta:TE}{t:TA}
theorem n8(F:FnOk X.prog X.w X.K X.mg X.base CX k f fd ps sp)(g:Room k X.A)(hb:Binds X.K fd ps ds)(hd:Vals dvs ds)(hx:D7 CX X E)
  (I:Inv X pins σ H s) (r:Vals vs us) (h:sp (vs++dvs) H Q E):wpAny (model X.prog X.w) X.A (call (.ref f) us) (EP X pins σ Q) X.xe s:=by
 have b:Vals (vs++dvs) (us++ds):=r.append hd;have c:(us++ds).length=ps.length:=by rw[← b.length];exact F.len _ _ _ _ h
 refine wpAny_call (K8 (F.run X.A X.stack s H ⟨us,[]⟩ (us++ds) (vs++dvs) Q E g I.env0 (hb s us I.kIn c) b h) λr d a=>?_);cases r with
 |error e=>exact hx pins σ H s e d I a
 | ok fl =>
  cases fl with
  |ret u=>exact I.after a
  |next=>exact False.elim a
  |brk=>exact False.elim a
  |cont=>exact False.elim a
theorem zI(F:FnOk X.prog X.w X.K X.mg X.base CX k f fd ps sp)(j:Room k X.A)(d:Gl X x)(hm:X.mg x=some (.ref f))(i:keepIn X.K (.ref f)=true)(hb:Binds X.K fd ps ds)(hd:Vals dvs ds)(hx:D7 CX X E)
  (ha:PA X (e::es) t) (b:(x == ("__debug__" : Str))=false:=by decide) (g:starEach (e::es) X.env=(false,eval e X.env)::starEach es X.env:=by rfl) (a:(backTo pos (starEach es X.env)).any (·.1)=false:=by rfl) :
  PE X (.Call (.Name x p) (e::es) [] pos) (F3 sp dvs E t):=by
 intro pins s σ H Q I h;refine wpAny_Call_Name_kw (Z7 I d hm ?_ b);refine PySem.W.callWith_K (h₀:=X.base) I.ok.mod.kin i (thn (ha pos pins s σ H _ I h) λus s1 ⟨vs,l,c,r,q⟩=>⟨c.kIn,?_⟩) g a;exact n8 F j hb hd hx c r q
theorem SK(F:FnOk X.prog X.w X.K X.mg X.base CX k f fd ps sp)(c:Room k X.A)(b:Gl X x)(hm:X.mg x=some (.ref f))(d:keepIn X.K (.ref f)=true)(hb:Binds X.K fd ps ds)(hd:Vals dvs ds)(hx:D7 CX X E)
  (a:(x == ("__debug__" : Str))=false:=by decide):PE X (.Call (.Name x p) [] [] pos) (F3 sp dvs E tNil):=by
 intro pins s σ H Q I h;refine wpAny_Call_Name_kw (Z7 I b hm ?_ a);exact PySem.W.callWith_K0 I.kIn d (n8 (us:=[]) F c hb hd hx I .nil h)
theorem jS{pl:Sem Bool}(y:PE X o ta)(c:Cls X.K C)(hm:Meth X.K C m f)(F:FnOk X.prog X.w X.K X.mg X.base CX k f fd ps sp)(B:Room k X.A)(hb:Binds X.K fd ps ds)(hd:Vals dvs ds)(hx:D7 CX X E)(ha:PA X (e::es) t)
  (d:starEach (e::es) X.env=(false,eval e X.env)::starEach es X.env:=by rfl) (b:(backTo pos (starEach es X.env)).any (·.1)=false:=by rfl)
  (p:eval (.Call (.Attribute o m apos) (e::es) [] pos) X.env=(do
   let ov ← eval o X.env
   standAt apos.atName
   let (f,first) ← holding [ov] (getMethod ov m pl)
   callWith pos f first (backTo pos (starEach (e::es) X.env)) (backToKw pos (keywordEach [] X.env))):=by rfl) :
  PE X (.Call (.Attribute o m apos) (e::es) [] pos) (L7 C m sp dvs E ta t):=by
 intro pins s σ H Q I h;refine PySem.W.methodCall_KW (pl:=pl) (thn (y pins s σ H _ I h) λu s1 ⟨x,z,g,j,a,dx,fs,ex,n,l,q⟩=>?_) p;subst ex;obtain rfl:u=Value.ref a:=j;refine uE g n c hm l ?_;refine PySem.W.callWith_K (first:=[.ref a]) (h₀:=X.base) I.ok.mod.kin hm.kp (thn (ha pos pins s1 σ z _ g q) λus s2 ⟨vs,H2,i,r,v⟩=>⟨i.kIn,?_⟩) d b;exact n8 (us:=.ref a::us) (vs:=.ref a::vs) F B hb hd hx i (.cons rfl r) v
theorem FS{pl:Sem Bool}(j:PE X o ta)(c:Cls X.K C)(hm:Meth X.K C m f)(F:FnOk X.prog X.w X.K X.mg X.base CX k f fd ps sp)(n:Room k X.A)(hb:Binds X.K fd ps ds)(hd:Vals dvs ds)(hx:D7 CX X E)
  (i:eval (.Call (.Attribute o m apos) [] [] pos) X.env=(do
   let ov ← eval o X.env
   standAt apos.atName
   let (f,first) ← holding [ov] (getMethod ov m pl)
   callWith pos f first (backTo pos (starEach [] X.env)) (backToKw pos (keywordEach [] X.env))):=by rfl) :
  PE X (.Call (.Attribute o m apos) [] [] pos) (L7 C m sp dvs E ta tNil):=by
 intro pins s σ H Q I h;refine PySem.W.methodCall_KW (pl:=pl) (thn (j pins s σ H _ I h) λu s1 ⟨x,p,b,d,a,dx,fs,ex,g,l,q⟩=>?_) i;subst ex;obtain rfl:u=Value.ref a:=d;refine uE b g c hm l ?_;exact PySem.W.callWith_K0 (first:=[.ref a]) b.kIn hm.kp (n8 (us:=[.ref a]) (vs:=[.ref a]) F n hb hd hx b (.cons rfl .nil) q)
structure Mk(K:Frag)(C f:Addr):Prop where
 makes:PySem.W.makesIn K C=true
 init:PySem.W.findIn K (.ref C) "__init__" = some (some (.ref f))
 fn:PySem.W.isFn K (.ref f)=true
 kp:keepIn K (.ref C)=true
theorem iO(M:Mk X.K C f)(F:FnOk X.prog X.w X.K X.mg X.base CX k f fd ps sp)(o:Room (k+1) X.A)(hb:Binds X.K fd ps ds)(hd:Vals dvs ds)
  (hx:D7 CX X E) (I:Inv X pins σ H s) (r:Vals vs us)
  (h:∀ x dx,H x=none->H dx=none->dx ≠ x->sp (.ref x::(vs++dvs)) (upd (upd H dx (.own x)) x (.ins C dx [])) (λv H2=>v=.non/\Q (.ref x) H2) E) :
  wpAny (model X.prog X.w) X.A (call (.ref C) us) (EP X pins σ Q) X.xe s:=by
 have d:=h (s.heap.objs.size+1) s.heap.objs.size (I.hok.fresh (Nat.le_succ _)) (I.hok.fresh (Q0 _)) (U1 (aB _));have b:=Inv.made (C:=C) I;have c:Vals (V.ref (s.heap.objs.size+1)::(vs++dvs)) (Value.ref (s.heap.objs.size+1)::(us++ds)):=.cons rfl (r.append hd);have l:(Value.ref (s.heap.objs.size+1)::us++ds).length=ps.length:=by
  have e:=c.length;rw[F.len _ _ _ _ d] at e;exact e.symm
 refine wpAny_call (cR (f:=f) I.kIn M.makes M.init (E1.mp M.fn) (K8 (F.run _ X.stack _ _ ⟨Value.ref (s.heap.objs.size+1)::us,[]⟩ (Value.ref (s.heap.objs.size+1)::(us++ds)) _ _ E (o.make C us [])
  (b.env0.make C us []) (hb _ (Value.ref (s.heap.objs.size+1)::us) b.kIn l) c d) λr n a=>?_))
 cases r with
 |error e=>exact hx pins σ _ _ e n b a
 | ok fl =>
  cases fl with
  | ret u =>
   obtain⟨v,H',i,m,g,j⟩:=b.after a;subst g;exact⟨m,⟨V.ref (s.heap.objs.size+1),H',i,rfl,j⟩⟩
  |next=>exact False.elim a
  |brk=>exact False.elim a
  |cont=>exact False.elim a
theorem AJ(M:Mk X.K C f)(F:FnOk X.prog X.w X.K X.mg X.base CX k f fd ps sp)(c:Room (k+1) X.A)(b:Gl X x)(hm:X.mg x=some (.ref C))(hb:Binds X.K fd ps ds)(hd:Vals dvs ds)(hx:D7 CX X E)
  (a:(x == ("__debug__" : Str))=false:=by decide):PE X (.Call (.Name x p) [] [] pos) (LD C sp dvs E tNil):=by
 intro pins s σ H Q I h;refine wpAny_Call_Name_kw (Z7 I b hm ?_ a);exact PySem.W.callWith_K0 I.kIn M.kp (iO (us:=[]) M F c hb hd hx I .nil h)
end
def PK(X:Cx)(kws:List Keyword)(t:TA):Prop :=
 ∀(pos:Pos)(pins:List (Addr × Obj))(s:Shared)(σ:St)(H:Hp)(Q:List V->Hp->Prop),Inv X pins σ H s->t σ H Q->wpAny (model X.prog X.w) X.A (evalAll ((backToKw pos (keywordEach kws X.env)).map (·.2))) (AP X pins σ Q) X.xe s
section
variable{X:Cx}{CX:CXT}{k:Nat}{f C:Addr}{fd:FuncData}{ps ks:List Str}{sp:Sp}{E:XK}{x m:Str}{p pos apos kpos:Pos}{e o:Expr}{es:List Expr}{kws:List Keyword}{te ta:TE}{t tk:TA}{nm:Option Str}
theorem KS:PK X [] tNil:=λ_ _ _ _ H Q I h=>wpAny_evalAll_nil ⟨[],H,I,.nil,h⟩
theorem cM(ha:PE X e te)(i:PK X kws t):PK X (⟨nm,e,kpos⟩::kws) (M2 te t):=by
 intro pos pins s σ H Q I h;show wpAny _ _ (evalAll ((do let v ← eval e X.env;standAt pos;pure v)::(backToKw pos (keywordEach kws X.env)).map (·.2))) _ _ s;refine wpAny_evalAll_cons (u0 (thn (ha pins s σ H _ I h) λu s1 ⟨x,g,c,d,a⟩=>u0 (wpAny_standAt (I0 ?_))));exact thn (i pos pins s1 σ g _ c a) λus s2 ⟨xs,H2,j,b,f⟩=>⟨x::xs,H2,j,.cons d b,f⟩
end
structure FnScope(N P:List Str)(sc:Scope):Prop where
 kind:sc.kind=.function
 co:sc.isCoroutine=false
 gen:sc.isGenerator=false
 nd:N.Nodup
 pre:N.take P.length=P
 par:∀ x∈P,sc.names.lookup x=some .local\/sc.names.lookup x=some .cell
 nofree:∀ y∈sc.names,y.2 ≠ .free
theorem pF{kindOf:Str->Option NameKind}{x:Str}:∀{binds:List (Str × Value)}{m:Str->Option Value},(∀ v,(x,v) ∉ binds)->bindL kindOf binds m x=m x
 |[],_,_=>rfl
 | (n,v)::r,m,h=>by
  unfold bindL;rw[pF λw a=>h w (Q3 _ a)];split
  ·have:x ≠ n:=by rintro rfl;exact h v E4
   simp[this]
  ·rfl
theorem lG{kindOf:Str->Option NameKind}{x:Str}:∀{binds:List (Str × Value)}{m:Str->Option Value},(∀ v,(x,v) ∉ binds)->bindC kindOf binds m x=m x
 |[],_,_=>rfl
 | (n,v)::r,m,h=>by
  unfold bindC;rw[lG λw a=>h w (Q3 _ a)];split
  ·rfl
  ·have:x ≠ n:=by rintro rfl;exact h v E4
   simp[this]
theorem SG{kindOf:Str->Option NameKind}{x:Str}{v:Value}:∀{P:List Str}{vs:List Value}{i:Nat}{m:Str->Option Value},P.Nodup->P[i]?=some x->vs[i]?=some v->kindOf x=some .local ->
  bindL kindOf (P.zip vs) m x=some v
 |[],_,_,_,_,h,_,_=>by simp at h
 |_::_,[],_,_,_,_,h,_=>by simp at h
 | p::P,w::vs,0,m,nd,h1,h2,hk=>by
  simp at h1 h2;subst h1;subst h2;show bindL kindOf ((p,w)::P.zip vs) m p=_;unfold bindL;rw[pF λv a=>(LA.mp nd).1 (List.of_mem_zip a).1,z0 hk];simp
 | p::P,w::vs,i+1,m,nd,h1,h2,hk=>by
  show bindL kindOf ((p,w)::P.zip vs) m x=_;unfold bindL;exact SG (i:=i) (LA.mp nd).2 (by simpa using h1) (by simpa using h2) hk
theorem eI{kindOf:Str->Option NameKind}{x:Str}{v:Value}:∀{P:List Str}{vs:List Value}{i:Nat}{m:Str->Option Value},P.Nodup->P[i]?=some x->vs[i]?=some v->kindOf x ≠ some .local ->
  bindC kindOf (P.zip vs) m x=some v
 |[],_,_,_,_,h,_,_=>by simp at h
 |_::_,[],_,_,_,_,h,_=>by simp at h
 | p::P,w::vs,0,m,nd,h1,h2,hk=>by
  simp at h1 h2;subst h1;subst h2;show bindC kindOf ((p,w)::P.zip vs) m p=_;unfold bindC;rw[lG λv a=>(LA.mp nd).1 (List.of_mem_zip a).1,y0 hk];simp
 | p::P,w::vs,i+1,m,nd,h1,h2,hk=>by
  show bindC kindOf ((p,w)::P.zip vs) m x=_;unfold bindC;exact eI (i:=i) (LA.mp nd).2 (by simpa using h1) (by simpa using h2) hk
def start(N:List Str)(vs:List V):St:=vs.map some++List.replicate (N.length-vs.length) none
def cxOf(CX:CXT)(P:Program)(w:World)(K:Frag)(mg:Str->Option Value)(base:Heap)(N:List Str)(qual:Str)(scope:Scope)(f:Addr)(cd:Value)(A:Around)(outer:List Env)(s:Shared)(H:Hp)(E:XK):Cx where
 prog:=P
 w:=w
 K:=K
 mg:=mg
 base:=base
 A:=A.deeper (envOfC qual scope s.heap.objs.size f cd)
 N:=N
 s₀:=s
 H₀:=H
 env:=envOfC qual scope s.heap.objs.size f cd
 outer:=outer
 stack:=envOfC qual scope s.heap.objs.size f cd::outer
 ex:=[]
 calm:=true
 fn:=λ_=>true
 pn:=[]
 xe:=λe s'=>wpAny (model P w) (A.deeper (envOfC qual scope s.heap.objs.size f cd)) (leaving (envOfC qual scope s.heap.objs.size f cd) e) (λ_ s''=>CX outer H s E e s'') (λe' s''=>CX outer H s E e' s'') s'
theorem GF{sc:Scope}{n:Nat}{x:Str}(h:sc.names.lookup x=some .cell):∃ c,(cellsFrom n sc.names []).lookup x=some c:=by
 have q:=PySem.W.cellsFrom_some sc.names n [] (.inl h);exact Option.isSome_iff_exists.mp q
theorem MT{CX:CXT}{P:Program}{w:World}{K:Frag}{mg:Str->Option Value}{base:Heap}{N ps:List Str}{qual:Str}{scope:Scope}{f:Addr}{B:Value}{A:Around}{outer:List Env}{s s1:Shared}{H:Hp}{E:XK}{us:List Value}{vs:List V}
  (S:FnScope N ps scope) (hd:A.handled=none) (g:Env0 P w K mg base A outer s H) (J:vs.length=ps.length) (r:Vals vs us)
  (x:InCallC s s.heap.objs.size (bindL (envOfC qual scope s.heap.objs.size f B).kindOf (ps.zip us) λ_=>none) (cellsFrom (s.heap.objs.size+1) scope.names []) (bindC (envOfC qual scope s.heap.objs.size f B).kindOf (ps.zip us) λ_=>none) s1) :
  Inv (cxOf CX P w K mg base N qual scope f B A outer s H E) [] (start N vs) H s1:=by
 have G:ps.length<=N.length:=by have:=congrArg List.length S.pre;rw[W7] at this;lia
 obtain⟨t,tk,rfl,C⟩:=x.done;have j:∀ b:Addr,b ∉ (cxOf CX P w K mg base N qual scope f B A outer s H E).ex:=λb z=>absurd (show b∈([]:List Addr) from z) (by simp)
 refine⟨⟨g.mod,S.kind,rfl,rfl,Q0 _,λy z c t d=>?_,λy l=>?_,λy c _ h=>?_,λ_=>hd,Around.frames_deeper g.frames,.inr ⟨rfl,rfl⟩,λb z=>absurd z (j b),g.bs,g.bsz,λb _ _=>j b,λb z=>absurd z (j b),g.funs,g.frf,g.tab⟩,
  rfl,g.bare,Un.kept C,⟨_,x.toInCall.ns,λi y v t d I=>?_⟩,λy c h=>⟨_,x.cell y c h⟩,g.hok.fresh (Q0 _),λy c h=>?_,λp o=>absurd (show p∈([]:List (Addr × Obj)) from o) (by simp),g.hok.kept C,?_⟩
 ·exact name_of_addr x.apart (PySem.mem_of_lookup t) (PySem.mem_of_lookup d)
 ·have l:scope.names.lookup y=some .cell\/scope.names.lookup y=some .free:=l;rcases l with l|l
  ·exact GF l
  ·exact absurd rfl (S.nofree _ (PySem.mem_of_lookup l))
 ·exact V5 (x.above y c (PySem.mem_of_lookup h))
 ·have hi:i<vs.length:=by
   unfold start at d;by_cases hi:i<vs.length
   ·exact hi
   ·rw[WB (by simpa using hi)] at d;rw[iA] at d;split at d <;> cases d
  have ha:vs[i]?=some v:=by
   unfold start at d;rw[XC (by simpa using hi),v2] at d;cases e:vs[i]? with
   |none=>rw[e] at d;cases d
   |some a=>rw[e] at d;cases d;rfl
  obtain⟨u,D,F⟩:=r.get ha;have o:ps[i]?=some y:=by
   rw[← S.pre,L8 (by lia)];exact t
  have m:ps.Nodup:=by rw[← S.pre];exact S.nd.sublist (List.take_sublist _ _)
  refine⟨u,F,?_⟩;rcases S.par y (u3 o) with k|k
  ·exact .inl ⟨k,SG m o D k⟩
  ·obtain⟨c,e⟩:=GF (n:=s.heap.objs.size+1) k;refine .inr ⟨.inl k,c,e,?_⟩;have q:=x.cell y c e;rw[eI m o D (by show scope.names.lookup y ≠ _;rw[k];decide)] at q;exact q
 ·exact g.hok.fresh (V5 (x.above y c (PySem.mem_of_lookup h)))
 ·unfold start;show _=N.length;rw[M4,N1,List.length_replicate];lia
theorem KI{CX:CXT}{P:Program}{w:World}{K:Frag}{mg:Str->Option Value}{base:Heap}{k:Nat}{f:Addr}{name qual:Str}{a:Arguments}{body:List Stmt}{scope:Scope}{C kV doc pm cdv ct oc:Value}{an od:Option Addr}
  {osl:Array (Option Value)} {N ps:List Str} {sp:Sp} (D:K.lookup f=some ⟨oc,od,.func (fnOf name qual a body scope C kV doc pm an cdv ct),osl⟩) (j:codeIn K cdv qual=true) (S:FnScope N ps scope)
  (len:∀ vs H Q E,sp vs H Q E->vs.length=ps.length)
  (d:∀(A:Around)(outer:List Env)(s:Shared)(H:Hp)(vs:List V)(Q:VK)(E:XK),Room k (A.deeper (envOfC qual scope s.heap.objs.size f cdv))->sp vs H Q E ->
   ∃ t,PSs (cxOf CX P w K mg base N qual scope f cdv A outer s H E) body t/\t { nx:=λ_ H'=>Q .non H',rt:=Q } (start N vs) H) :
  FnOk P w K mg base CX (k+1) f (fnOf name qual a body scope C kV doc pm an cdv ct) ps sp:=by
 refine⟨len,λA outer s H args us vs Q E z i hb r h=>?_⟩;have L:=len _ _ _ _ h;have B:K.In s.heap:=i.mod.kin.keeps λb o e=>(i.bs b o e).1;have l:s.heap.NoLimit:=i.mod.nolimit.keeps λb o e=>(i.bs b o e).1;have g:∀ y∈ps.zip us,scope.names.lookup y.1=some .local\/(scope.names.lookup y.1=some .cell/\((cellsFrom (s.heap.objs.size+1) scope.names []).lookup y.1).isSome=true):=λ⟨n,v⟩ R=>by
  rcases S.par n (List.of_mem_zip R).1 with q|q
  ·exact .inl q
  ·exact .inr ⟨q,PySem.W.cellsFrom_some _ _ _ (.inl q)⟩
 refine codeAny_call_function z.depth (B _ _ D) rfl S.co S.gen rfl (PySem.W.codeRec_of B j) (hb _ _ _ _ ?_);refine wpAny_newFunctionEnv_cells S.kind g λenv O s1 x=>?_;subst O;refine⟨l.keeps x.toInCall.keep,codeAny_func ?_⟩;obtain⟨t,M,G⟩:=d A outer s H vs Q E (z.deeper _) h;have I:Inv (cxOf CX P w K mg base N qual scope f cdv A outer s H E) [] (start N vs) H s1:=MT S z.hd i L r x;refine Y2 (M [] s1 (start N vs) H _ I G) (λF p hs=>?_) λe p hs=>hs;have fin:∀{c:St}{H':Hp}{v:V}{u:Value},Inv (cxOf CX P w K mg base N qual scope f cdv A outer s H E) [] c H' p->RelV v u->Q v H'->CE outer P w H s Q u p :=
  λ{c H' v u} J m q=>⟨v,H',J.os,J.bare,J.base,J.hok,m,q⟩
 cases F with
 | ret u =>
  obtain⟨v,c,H',J,m,q⟩:=hs;exact fin J m q
 | next =>
  obtain⟨c,H',J,q⟩:=hs;exact fin (v:=V.non) (u:=Value.none) J rfl q
 | brk =>
  obtain⟨_,_,_,q⟩:=hs;exact False.elim q
 | cont =>
  obtain⟨_,_,_,q⟩:=hs;exact False.elim q
section
variable{X:Cx}{x:Str}{p pos:Pos}{e:Expr}{es:List Expr}{t:TA}{id T:String}{r:List V->Hp->VK->Prop}
def tCB(r:List V->Hp->VK->Prop)(t:TA):TE:=λσ H Q=>t σ H λvs H1=>r vs H1 Q
theorem m1(m:l2 X (.builtin id) r)(f:Gl X x)(hm:X.mg x=none)(c:bootBuiltins x=some (.builtin id))(ha:PA X (e::es) t)(hn:x ≠ "__name__":=by decide)(b:(x == ("__debug__" : Str))=false:=by decide)
  (j:starEach (e::es) X.env=(false,eval e X.env)::starEach es X.env:=by rfl) (a:(backTo pos (starEach es X.env)).any (·.1)=false:=by rfl):PE X (.Call (.Name x p) (e::es) [] pos) (tCB r t):=by
 intro pins s σ H Q I h;refine wpAny_Call_Name_kw (Y8 I f hm c ?_ hn b);exact PyProof.Rows.callWith_builtin1 (thn (ha pos pins s σ H _ I h) λus s1 ⟨vs,l,g,i,d⟩=>m pins s1 σ l vs us Q g i d) j a
theorem BA(m:l2 X (.type T) r)(f:Gl X x)(hm:X.mg x=none)(c:bootBuiltins x=some (.type T))(ha:PA X (e::es) t)(hn:x ≠ "__name__":=by decide)(b:(x == ("__debug__" : Str))=false:=by decide)
  (j:starEach (e::es) X.env=(false,eval e X.env)::starEach es X.env:=by rfl) (a:(backTo pos (starEach es X.env)).any (·.1)=false:=by rfl):PE X (.Call (.Name x p) (e::es) [] pos) (tCB r t):=by
 intro pins s σ H Q I h;refine wpAny_Call_Name_kw (Y8 I f hm c ?_ hn b);exact PyProof.Rows.callWith_type1 (thn (ha pos pins s σ H _ I h) λus s1 ⟨vs,l,g,i,d⟩=>m pins s1 σ l vs us Q g i d) j a
end
end L2
namespace HT
open PySem PyProof.Rows
def lexLt:List Int->List Int->Bool
 |[],[]=>false
 |[],_::_=>true
 |_::_,[]=>false
 |x::xs,y::ys=>if x=y then lexLt xs ys else decide (x<y)
theorem lC(x y:Int)(xs ys:List Int):lexLt (x::xs) (y::ys)=if x=y then lexLt xs ys else decide (x<y):=rfl
theorem XT:lexLt [] []=false:=rfl
theorem AR(y:Int)(ys:List Int):lexLt [] (y::ys)=true:=rfl
theorem JN(x:Int)(xs:List Int):lexLt (x::xs) []=false:=rfl
theorem HL(A:Around)(s:Shared)(a:Int)(t:Tok)(c:Int)(u:Tok):∃ e,SeqAt.EqAt A s (.int a t) (.int c u) e/\(e=true ↔ a=c) :=
 ⟨(a == c),SeqAt.EqAt.int_int a t c u,by simp⟩
theorem pI(A:Around)(s:Shared)(a:Int)(t:Tok)(c:Int)(u:Tok)(prog:Program)(w:World)(E:Value->Shared->Prop)(Q:Value->Shared->Prop)(h:Q (.bool (decide (a<c))) s) :
  wpAny (model prog w) A (richCompare .Lt (.int a t) (.int c u)) Q E s :=
 (PyProof.Rows.lt_int h:wpAny (model prog w) A (compareOp .Lt (.int a t) (.int c u)) Q E s)
section
open PySem.SeqAt
open PySem.AutoSeq1 (wpAny_loadPart')
open PySem.MeetsSeq PySem.MeetsSeq2 PySem.MeetsSeq3
theorem LT(l b:Addr)(i f:Array Value)(n Q:Nat)(dd G:Option Addr)(sl I:Array (Option Value))(ns F:List Int)(hi:IntsAre i.toList ns)(M:IntsAre f.toList F) :
  Meets (Builtin.«tuple.__lt__» ⟨[.ref l,.ref b],[]⟩)
   (λ_ R s=>s.heap.get? l=some { cls:=.type "tuple",dict:=dd,data:=.seq i n,slots:=sl }/\s.heap.get? b=some { cls:=.type "tuple",dict:=G,data:=.seq f Q,slots:=I } /\
    R (.ok (.ret (.bool (lexLt ns F)))) s) :=
 .of_wp λprog w A R s h=>by
  obtain⟨E,g,d,tk,os⟩:=s;obtain⟨N,hb,h⟩:=h;have W:=AutoSeq1.sub_tuple_tuple;have U:i.size=ns.length:=by rw[← hi.length];simp
  have S:f.size=F.length:=by rw[← M.length];simp
  wp_walk using wpAny_loadPart' N,wpAny_loadPart' hb,wpAny_forIn_list _ (λrest b J=>b.1=none/\J=⟨E,g,d,tk,os⟩/\∃(vs ws:List Value)(m o:List Int),rest=vs.zip ws /\
   IntsAre vs m/\IntsAre ws o/\m.length+f.size=o.length+i.size/\R (.ok (.ret (.bool (lexLt m o)))) ⟨E,g,d,tk,os⟩) _
  case turn =>
   rintro⟨y,x⟩ rest b J ⟨C,rfl,vs,ws,m,o,r,B,p,j,v⟩;cases B with
   |nil=>rw[List.zip_nil_left] at r;cases r
   | cons a t hvi' =>
    cases p with
    |nil=>rw[List.zip_nil_right] at r;cases r
    | cons c u hwi' =>
     rw[List.zip_cons_cons] at r;injection r with H D;injection H with P hx;subst P hx;rw[lC] at v;simp only[v3] at j;obtain⟨e,O,z⟩:=HL A.in1 ⟨E,g,d,tk,os⟩ a t c u;refine u0 (O prog w _ _ ?_);cases e with
     | true =>
      rw[z0 (z.mp rfl)] at v
      wp_walk
      exact⟨rfl,rfl,_,_,_,_,D,hvi',hwi',by lia,v⟩
     | false =>
      rw[y0 (λq=>absurd (z.mpr q) Y1)] at v;have K:=pI A.in1 ⟨E,g,d,tk,os⟩ a t c u prog w
      wp_walk using K
      exact⟨_,rfl,by simpa using v⟩
  case fin =>
   rintro⟨b1,T⟩ J ⟨C,rfl,vs,ws,m,o,r,B,p,j,v⟩;simp only at C;subst C;have L:lexLt m o=decide (i.size<f.size):=by
    cases B with
    | nil =>
     cases p with
     | nil =>
      simp only[T8] at j;rw[XT];exact(Q1 (by lia)).symm
     | cons c u hw =>
      simp only[T8,v3] at j;rw[AR];exact(D3 (by lia)).symm
    | cons a t L =>
     cases p with
     | nil =>
      simp only[T8,v3] at j;rw[JN];exact(Q1 (by lia)).symm
     | cons c u hw =>
      rw[List.zip_cons_cons] at r;cases r
   rw[L] at v
   wp_walk
   exact⟨_,rfl,by simpa[Builtin.Tuple.tupleCompareSizes] using v⟩
  case h =>
   exact⟨rfl,rfl,i.toList,f.toList,ns,F,rfl,hi,M,by lia,h⟩
end
theorem lt_tupInts(v:IsTup s.heap l c)(hb:IsTup s.heap b a)(hi:IntsAre c.toList ns)(t:IntsAre a.toList i)
  (u:A.units<cLine) (h:Q (.bool (lexLt ns i)) s):wpAny (model prog w) A (compareOp .Lt (.ref l) (.ref b)) Q E s:=by
 obtain⟨⟨cls,dd,data,sl⟩,p,r,n,hd⟩:=id v;obtain⟨⟨q,j,o,m⟩,d,f,y,g⟩:=id hb;simp only at r hd f g;subst r hd f g
 exact richCompare_meets_room (op:=.Lt) ⟨_,p,rfl⟩ ⟨_,d,rfl⟩ PySem.F.slot_tuple_lt PySem.F.entry_tuple_lt (PySem.F.args_tuple_lt_2 _ _) (LT l b c a n y dd j sl m ns i hi t)
  ⟨p,d,show Value.bool (lexLt ns i) ≠ Value.notImplemented/\Q (.bool (lexLt ns i)) s from⟨(λx=>nomatch x),h⟩⟩ u
end HT
namespace L2
open PySem PySem.Spec PyProof.Rows
abbrev TO:=St->Hp->(Option Int->Hp->Prop)->Prop
theorem M9:∀{us:List Value},Vals (ns.map V.int) us->IntsAre us ns:=by
 induction ns with
 |nil=>intro us r;rw[List.map_nil] at r;cases r;exact .nil
 | cons n ns ih =>
  intro us r;rw[P0] at r;cases r with
  | cons r1 r2 =>
   obtain⟨t,e⟩:=r1;subst e;exact .cons n t (ih r2)
def SlR(X:Cx)(r:V->Option Int->Option Int->Hp->VK->Prop):Prop :=
 ∀(pins:List (Addr × Obj))(s:Shared)(σ:St)(H:Hp)(x:V)(v vl vu:Value)(lo hi:Option Int)(sl:Addr)(Q:VK),Inv X pins σ H s->RelV x v->s.heap.IsSliceOf sl vl vu .none->IsPart vl lo->IsPart vu hi->r x lo hi H Q ->
  ∃ T id,typeLookup (.type T) "__getitem__" = pure (some (.builtin id))/\s.TypeIs v T/\wpAny (model X.prog X.w) X.A (getItem v (.ref sl)) (EP X pins σ Q) X.xe s
def rLtT(K:Frag):R2:=λx y H Q=>∃ a b ns ms,x=.ref a/\y=.ref b/\SqT K H a (ns.map V.int)/\SqT K H b (ms.map V.int)/\Q (.bl (HT.lexLt ns ms)) H
theorem MR(j:X.A.units<cLine):OpR X (compareOp .Lt) (rLtT X.K):=by
 intro pins s σ H x y v u Q I g n h;obtain⟨a,b,ns,d,rfl,rfl,ha,hb,q⟩:=h;cases g;cases n;obtain⟨its,l,f,_⟩:=I.tuple ha;obtain⟨c,i,p2,_⟩:=I.tuple hb;have i1:IntsAre its.toArray.toList ns:=M9 l;have m:IntsAre c.toArray.toList d:=M9 i;exact HT.lt_tupInts f p2 i1 m j ⟨.bl (HT.lexLt ns d),H,I,rfl,q⟩
def ixN(n:Nat)(i:Int):Option Nat:=if 0<=i then (if i<n then some i.toNat else none) else if -(n:Int)<=i then some (i+n).toNat else none
def Y0{α:Type}(xs:List α)(i:Int):Option α:=(ixN xs.length i).bind λj=>xs[j]?
theorem EH(h:ixN n i=some j):seqIndex? i n=some j/\j<n/\-(n:Int)<=i/\i<n:=by
 unfold ixN at h;by_cases h0:0<=i
 ·rw[z0 h0] at h;by_cases h1:i<n
  ·rw[z0 h1] at h;have e:i.toNat=j:=W3 h;exact⟨by rw[seqIndex_of h0 h1,e],by lia,by lia,h1⟩
  ·rw[y0 h1] at h;cases h
 ·rw[y0 h0] at h;by_cases h1 : -(n:Int)<=i
  ·rw[z0 h1] at h;have e:(i+n).toNat=j:=W3 h;exact⟨by rw[seqIndex_neg (by lia) h1,e],by lia,h1,by lia⟩
  ·rw[y0 h1] at h;cases h
theorem tE{α:Type}{xs:List α}{i:Int}{v : α}(h:Y0 xs i=some v):∃ j,seqIndex? i xs.length=some j/\xs[j]?=some v/\j<xs.length/\-(xs.length:Int)<=i/\i<xs.length:=by
 unfold Y0 at h;cases e:ixN xs.length i with
 |none=>rw[e] at h;cases h
 | some j =>
  rw[e] at h;obtain⟨a,d,b,c⟩:=EH e;exact⟨j,a,h,d,b,c⟩
theorem P7{α:Type}{xs:List α}{j:Nat}{v : α}(h:xs[j]?=some v):Y0 xs (j:Int)=some v:=by
 have a:j<xs.length:=(R1.mp h).1;have e:ixN xs.length (j:Int)=some j:=by
  unfold ixN;rw[z0 (by lia),z0 (by lia)];simp
 unfold Y0;rw[e];exact h
def wK(b:Expr):Prop:=∀ o i,subscripted b false o i=operate [o,i] (getItem o i)
def IxR(X:Cx)(r:R2):Prop :=
 ∀(value slice:Expr)(pins:List (Addr × Obj))(s:Shared)(σ:St)(H:Hp)(x y:V)(v u:Value)(Q:VK),Inv X pins σ H s->RelV x v->RelV y u->r x y H Q ->
  subscripted slice false v u=operate [v,u] (getItem v u)->wpAny (model X.prog X.w) X.A (subscriptTail value slice v u) (EP X pins σ Q) X.xe s
def MtR(X:Cx)(id:String)(r:V->List V->Hp->VK->Prop):Prop :=
 ∀(pins:List (Addr × Obj))(s:Shared)(σ:St)(H:Hp)(x:V)(xs:List V)(v:Value)(us:List Value)(Q:VK),Inv X pins σ H s->RelV x v->Vals xs us->r x xs H Q ->
  wpAny (model X.prog X.w) X.A (call (.builtin id) (v::us)) (EP X pins σ Q) X.xe s
section
variable{X:Cx}{a b:Expr}{ta tb:TE}{pos:Pos}
theorem IxR.or(h:IxR X r)(h':IxR X d):IxR X (λx y H Q=>r x y H Q\/d x y H Q):=by
 intro b a pins s σ H x y v u Q I c f q hs;rcases q with q|q
 ·exact h b a pins s σ H x y v u Q I c f q hs
 ·exact h' b a pins s σ H x y v u Q I c f q hs
theorem P3(d:IxR X r)(ha:PE X a ta)(hb:PE X b tb)(hs:wK b):PE X (.Subscript a b pos) (tOp r ta tb):=by
 intro pins s σ H Q I h;exact Subscript_ (binT ha hb I h λv u s2 x y H2 g c f q=>d a b pins s2 σ H2 x y v u Q g c f q (hs _ _))
def rIxL(K:Frag):R2:=λx y H Q=>∃ p xs i v,x=.ref p/\y=.int i/\SqL K H p xs/\Y0 xs i=some v/\Q v H
def rIxT(K:Frag):R2:=λx y H Q=>∃ p xs i v,x=.ref p/\y=.int i/\SqT K H p xs/\Y0 xs i=some v/\Q v H
def rIxS:R2:=λx y H Q=>∃ z i c,x=.str z/\y=.int i/\z.length<=sizeLine/\Y0 z.cps.toList i=some c/\Q (.str ⟨#[c]⟩) H
theorem ix_list:IxR X (rIxL X.K):=by
 intro f b pins s σ H x y v u Q I l D h hs;obtain⟨p,xs,i,z,rfl,rfl,n,A,q⟩:=h;cases l;obtain⟨t,rfl⟩:=D;obtain⟨its,r,pl,G⟩:=I.list n;obtain⟨j,a,m,F,E,B⟩:=tE A;obtain⟨w,g,d⟩:=r.get m;have o:=r.length;have hn:=p8;have fin:EP X pins σ Q w s:=⟨z,H,I,d,q⟩
 by_cases h0:0<=i
 ·have c:i.toNat=j:=by
   rw[seqIndex_of h0 B] at a;exact W3 a
  exact item_listR pl.isList h0 (by lia) (by rw[c];simpa using g) fin hs
 ·have c:(i+(its.toArray.size:Int)).toNat=j:=by
   rw[seqIndex_neg (by lia) E] at a;rw[M3,← o];exact W3 a
  exact subscriptTail_builtinR (x:=w) pl.isList.typeIs slot_list_getitem.lookup
   (wpAny_getItem_list_neg (Q:=λr C=>r=w/\EP X pins σ Q r C) pl.isList (by lia) (by rw[M3] <;> lia) (by lia) (by rw[c];simpa using g) ⟨rfl,fin⟩) hs
theorem aL:IxR X (rIxT X.K):=by
 intro c a pins s σ H x y v u Q I d B h hs;obtain⟨p,xs,i,z,rfl,rfl,g,n,q⟩:=h;cases d;obtain⟨t,rfl⟩:=B;obtain⟨its,r,pl,D⟩:=I.tuple g;obtain⟨j,m,f,C,F,E⟩:=tE n;obtain⟨w,A,b⟩:=r.get f;have l:=r.length;have hn:=p8;have fin:EP X pins σ Q w s:=⟨z,H,I,b,q⟩
 exact subscriptTail_builtinR (x:=w) pl.typeIs slot_tuple_getitem.lookup
  (getItem_tuple (j:=j) (Q:=λr o=>r=w/\EP X pins σ Q r o) pl (by lia) (by lia) (by rw[M3,← l];exact m) (by simpa using A) ⟨rfl,fin⟩) hs
theorem aU:IxR X rIxS:=by
 intro b a pins s σ H x y v u Q I f p h hs;obtain⟨z,i,c,rfl,rfl,B,n,q⟩:=h;obtain⟨t,rfl⟩:=f;obtain⟨t',rfl⟩:=p;obtain⟨j,d,g,A,r,o⟩:=tE n;have l:z.cps.toList.length=z.length:=by simp[Str.length]
 rw[l] at d r o;have hn:=p8;exact tail_any (typeIs_str s z t) slot_str_getitem.lookup (getItem_str (c:=c) (by
  have w:decide (i < -(2 ^ 63:Int))=false:=Q1 (by lia);have m:decide (i ≥ 2 ^ 63)=false:=Q1 (by lia);rw[w,m,Bool.or_false]) (by rw[d];simpa using g) ⟨.str ⟨#[c]⟩,H,I.tok _,⟨_,rfl⟩,q⟩) hs
theorem kL(its:List Value)(n j:Nat)(u:Value):Obj.mapSeq (·.setIfInBounds j u) { cls:=.type "list",data:=.seq its.toArray n }={ cls:=.type "list",data:=.seq (its.set j u).toArray n }:=by
 simp[Obj.mapSeq]
theorem Inv.lst{pins:List (Addr × Obj)}{σ:St}{H:Hp}{s:Shared}{p:Addr}{xs:List V}(I:Inv X pins σ H s)(h:H p=some (.lst xs)) :
  ∃(its:List Value)(n:Nat),Vals xs its/\s.heap.get? p=some { cls:=.type "list",data:=.seq its.toArray n }/\xs.length<=sizeLine:=by
 obtain⟨z,its,n,r,e⟩:=I.hok p _ h;exact⟨its,n,r,e,z⟩
theorem Inv.lstUpd{pins:List (Addr × Obj)}{σ:St}{H:Hp}{s:Shared}{p:Addr}{xs ys:List V}{its its':List Value}{n a:Nat}{f:Obj->Obj}(I:Inv X pins σ H s)(h:H p=some (.lst xs))
  (c:s.heap.get? p=some { cls:=.type "list",data:=.seq its.toArray n }) (hf:f { cls:=.type "list",data:=.seq its.toArray n }={ cls:=.type "list",data:=.seq its'.toArray a }) (r:Vals ys its') (d:ys.length<=sizeLine) (t:Nat) :
  Inv X pins σ (upd H p (.lst ys)) { s with heap:=s.heap.update p f,toks:=t }:=by
 have e:(s.heap.update p f).get? p=some { cls:=.type "list",data:=.seq its'.toArray a }:=by
  rw[QB f c (by rw[hf] <;> rfl),hf]
 refine I.write (x:=p) (e:=p) (by rw[h];trivial) (.inl rfl) (λb u hb q=>(k7 _ _ (Ne.symm hb)).trans q) ⟨_,e⟩ ?_;exact⟨d,its',a,r,e⟩
def BE:V->V->V->Hp->(Hp->Prop)->Prop:=λo i v H Q=>∃ p xs k j,o=.ref p/\i=.int k/\H p=some (.lst xs)/\ixN xs.length k=some j/\Q (upd H p (.lst (xs.set j v)))
theorem KG:PSet X BE:=by
 intro pins s σ H o i v B D u Q I x z A h;obtain⟨p,xs,k,j,rfl,rfl,l,w,q⟩:=h;cases x;obtain⟨t,rfl⟩:=z;obtain⟨its,n,r,b,y⟩:=I.lst l;obtain⟨a,C,f,m⟩:=EH w;have c:=r.length;have hn:=p8;have g:Inv X pins σ (upd H p (.lst (xs.set j v))) { s with heap:=s.heap.update p (Obj.mapSeq (·.setIfInBounds j u)) } :=
  I.lstUpd l b (kL its n j u) (r.set A j) (by rw[List.length_set];exact y) s.toks
 by_cases h0:0<=k
 ·have d:k.toNat=j:=by
   rw[seqIndex_of h0 m] at a;exact W3 a
  exact PySem.W.ki_setAt b h0 (by lia) (by rw[M3,← c];exact m) (by rw[d];exact⟨_,g,q⟩)
 ·have d:(k+(its.toArray.size:Int)).toNat=j:=by
   rw[seqIndex_neg (by lia) f] at a;rw[M3,← c];exact W3 a
  exact PySem.W.ki_setBack b (by lia) (by rw[M3,← c];exact f) (by lia) (by rw[d];exact⟨_,g,q⟩)
theorem CS:l2 X (.builtin "len") (λxs H Q=>∃ p ys,xs=[.ref p]/\(SqL X.K H p ys\/SqT X.K H p ys)/\Q (.int ys.length) H):=by
 intro pins s σ H xs us Q I r h;obtain⟨p,ys,rfl,b,q⟩:=h;obtain⟨u,rfl,d⟩:=S5 r;cases d;have hn:=p8;rcases b with b|b
 ·obtain⟨its,c,pl,f⟩:=I.list b;have a:=c.length;exact Calls.call_len_list pl.isList (by simp only[M3] <;> lia) ⟨.int ys.length,H,I.tok _,⟨s.toks+1,by rw[M3,a]⟩,q⟩
 ·obtain⟨its,c,pl,f⟩:=I.tuple b;have a:=c.length;exact len_tuple pl (by simp only[M3] <;> lia) ⟨.int ys.length,H,I.tok _,⟨s.toks+1,by rw[M3,a]⟩,q⟩
theorem sK:l2 X (.builtin "len") (λxs H Q=>∃ z,xs=[.str z]/\z.length<=sizeLine/\Q (.int z.length) H):=by
 intro pins s σ H xs us Q I r h;obtain⟨z,rfl,a,q⟩:=h;obtain⟨u,rfl,t,rfl⟩:=S5 r;have hn:=p8;exact len_str (by lia) ⟨.int z.length,H,I.tok _,⟨_,rfl⟩,q⟩
theorem iL:l2 X (.type "tuple") (λxs H Q=>∃ p ys,xs=[.ref p]/\((SqL X.K H p ys/\∀ l,H l=none->Q (.ref l) (upd H l (.tup ys)))\/(SqT X.K H p ys/\Q (.ref p) H))):=by
 intro pins s σ H xs us Q I r h;obtain⟨p,ys,rfl,h⟩:=h;obtain⟨u,rfl,i⟩:=S5 r;cases i;rcases h with ⟨c,q⟩|⟨c,q⟩
 ·obtain⟨its,a,pl,d⟩:=I.list c;have g:=a.length;refine call_tuple_list pl.isList (λh' kp=>?_) (by simp only[M3] <;> lia);have f:Inv X pins σ H { s with heap:=h' }:=I.kept (t':=s.toks) kp;have j:Inv X pins σ (upd H h'.objs.size (.tup ys)) { s with heap:=h'.push { cls:=.type "tuple",data:=.seq its.toArray } } :=
   f.laid (t':=s.toks) (λb o e=>S1 _ e) (Q0 _) (show ObjOk X.prog X.w _ _ _ (.tup ys) from⟨d,its,a,IsTup.new _ _⟩)
  exact⟨.ref h'.objs.size,_,j,rfl,q _ (f.hok.fresh (Q0 _))⟩
 ·obtain⟨its,a,pl,d⟩:=I.tuple c;exact call_tuple_same pl ⟨.ref p,H,I,rfl,q⟩
def tyV(K:Frag)(T:String)(x:V)(H:Hp):Prop:=match x with
 | .str _=>T = "str"
 | .int _=>T = "int"
 | .ref p=>(T = "list"/\∃ xs,SqL K H p xs)\/(T = "tuple"/\∃ o,K.lookup p=some o/\o.cls=.type "tuple"/\o.dict=none) ∨
   (T = "dict"/\((∃ kvs,H p=some (.dK kvs))\/∃ kvs,H p=some (.dT kvs)))\/(T = "set"/\∃ S n,H p=some (.set S n))
 |_=>False
theorem AT(I:Inv X pins σ H s)(r:RelV x v)(ty:tyV X.K T x H) :
  s.TypeIs v T/\∀ a,v=.ref a->∃ f,s.heap.get? a=some f/\f.dict=none:=by
 cases x with
 | str z =>
  obtain⟨t,rfl⟩:=r;cases (show T = "str" from ty);exact⟨typeIs_str s z t,λ_ e=>nomatch e⟩
 | int i =>
  obtain⟨t,rfl⟩:=r;cases (show T = "int" from ty);exact⟨typeIs_int s i t,λ_ e=>nomatch e⟩
 | ref p =>
  cases r;rcases ty with ⟨rfl,xs,h⟩|⟨rfl,o,b,g,hd⟩|⟨rfl,b⟩|⟨rfl,S,n,b⟩
  ·obtain⟨its,_,pl,_⟩:=I.list h;refine⟨pl.isList.typeIs,λa e=>?_⟩;cases e;obtain⟨o,n,e,c,hd,_⟩:=pl;exact⟨o,e,hd⟩
  ·refine⟨⟨o,I.kIn p o b,g⟩,λa e=>?_⟩;cases e;exact⟨o,I.kIn _ o b,hd⟩
  ·have z:∃ o,s.heap.get? p=some o/\o.ExactDict:=by
    rcases b with ⟨kvs,b⟩|⟨kvs,b⟩
    ·obtain⟨_,_,_,_,o,_,_,e,ex,_⟩:=I.hok p _ b;exact⟨o,e,ex⟩
    ·obtain⟨_,_,_,_,o,_,_,e,ex,_⟩:=I.hok p _ b;exact⟨o,e,ex⟩
   obtain⟨o,e,ex⟩:=z;refine⟨⟨o,e,ex.1⟩,λa d=>?_⟩;cases d;exact⟨o,e,ex.2.1⟩
  ·obtain⟨o,_,_,_,e,ex,_⟩:=I.hok p _ b;refine⟨⟨o,e,ex.1⟩,λa d=>?_⟩;cases d;exact⟨o,e,ex.2.1⟩
 |_=>exact False.elim ty
def tBM(K:Frag)(T:String)(r:V->List V->Hp->VK->Prop)(to:TE)(t:TA):TE:=λσ H Q=>to σ H λx H1=>tyV K T x H1/\t σ H1 λxs H2=>r x xs H2 Q
variable{o e:Expr}{es:List Expr}{to:TE}{t:TA}{name:Str}{apos cpos:Pos}{T id:String}{r:V->List V->Hp->VK->Prop}
theorem O4(u:PlainAttrs T)(slot:Slot T name id)(g:typeOf (.builtin id)=pure (.type "method_descriptor"))(hm:MtR X id r)(p:PE X o to)(ha:PA X (e::es) t)
  (c:attributeBase o name X.env (eval o X.env)=eval o X.env:=by rfl)
  (f:((backTo cpos (starEach (e::es) X.env)).all (λx=>!x.1) && (backToKw cpos (keywordEach [] X.env)).all (λx=>x.1.isSome)
   && decide ((e::es).length+([]:List Keyword).length+(if ([]:List Keyword).isEmpty then 0 else 1)<30))=true:=by rfl)
  (d:(apos.endLine == cpos.line)=true:=by rfl) (hs:starEach (e::es) X.env=(false,eval e X.env)::starEach es X.env:=by rfl) (b:(backTo cpos (starEach es X.env)).any (·.1)=false:=by rfl) :
  PE X (.Call (.Attribute o name apos) (e::es) [] cpos) (tBM X.K T r to t):=by
 intro pins s σ H Q I h;refine wpAny_Call_method_late c f d rfl (thn (p pins s σ H _ I h) λv s1 ⟨x,z,i,l,ty,m⟩=>?_);obtain⟨w,n⟩:=AT i l ty;refine⟨T,id,u,slot,g,w,n,?_⟩;have j:=ha cpos pins s1 σ z _ i m;rw[hs] at j ⊢;refine Calls.callWith_builtin (by show(false || (backTo cpos (starEach es X.env)).any (·.1))=false;rw[b] <;> rfl) (Calls.evalArgs_plain ?_);exact thn j λus s2 ⟨vs,H2,A,q,y⟩=>hm pins s2 σ H2 x vs v us Q A l q y
/- xs.append(e), list.index on a module's tuple .. are MtR facts of 06m -/
end
def MtM(X:Cx)(id:String)(r:V->List V->Hp->VK->Prop):Prop :=
 ∀(pins:List (Addr × Obj))(s:Shared)(σ:St)(H:Hp)(x:V)(xs:List V)(v:Value)(us:List Value)(Q:VK),Inv X pins σ H s->RelV x v->Vals xs us->r x xs H Q ->
  wpAny (model X.prog X.w) X.A (call (.builtin id) (v::us)) (EP X pins σ Q) X.xe s
theorem Vals.one:∀{x:V}{us:List Value},Vals [x] us->∃ u,us=[u]/\RelV x u
 |_,_,.cons r .nil=>⟨_,rfl,r⟩
theorem Vals.rep(h:Vals xs us):∀ k:Nat,Vals (List.replicate k xs).flatten (List.replicate k us).flatten
 |0=>.nil
 | k+1=>by
  rw[Y6,Y6,List.flatten_cons,List.flatten_cons];exact Vals.append h (Vals.rep h k)
theorem GI(its:List Value):∀(k:Nat)(a:List Value),
  List.foldl (λd b=>d++b) a.toArray (List.replicate k its.toArray)=(a++(List.replicate k its).flatten).toArray
 |0,a=>by simp
 | k+1,a=>by
  have e:a.toArray++its.toArray=(a++its).toArray:=by simp
  have c:(a++its)++(List.replicate k its).flatten=a++(List.replicate (k+1) its).flatten:=by
   rw[Y6,List.flatten_cons,V2]
  rw[← c,← GI its k (a++its),← e,Y6,List.foldl_cons]
theorem Inv.lset{its its':List Value}{n:Nat}{f:Array Value->Array Value}{t':Nat}(I:Inv X pins σ H s)(c:H l=some (.lst xs))
  (e:s.heap.get? l=some { cls:=.type "list",data:=.seq its.toArray n }) (hf:f its.toArray=its'.toArray) (a:Vals ys its') (d:ys.length<=sizeLine) :
  Inv X pins σ (upd H l (.lst ys)) { s with heap:=s.heap.update l (Obj.mapSeq f),toks:=t' }:=by
 have q:=PySem.IsL.update e f;rw[hf] at q;refine I.write (x:=l) (e:=l) (by rw[c];exact trivial) (.inl rfl) (λg u hb b=>(k7 s.heap (Obj.mapSeq f) (Ne.symm hb)).trans b) ⟨_,q⟩ ?_;exact⟨d,its',_,a,q⟩
theorem Inv.lnew(I:Inv X pins σ H s)(a:Vals ys its)(b:ys.length<=sizeLine) :
  Inv X pins σ (upd H s.heap.objs.size (.lst ys)) { s with heap:=s.heap.push { cls:=.type "list",data:=.seq its.toArray },toks:=t' } :=
 I.laid (λ_ _ q=>S1 _ q) (Q0 _) ⟨b,its,0,a,m3 _ rfl⟩
theorem Inv.fresh(I:Inv X pins σ H s):H s.heap.objs.size=none:=I.hok.fresh (Q0 _)
theorem Inv.lstM(I:Inv X pins σ H s)(a:H l=some (.lst xs)):xs.length<=sizeLine/\∃(its:List Value)(n:Nat),Vals xs its/\xs.length=its.length/\s.heap.get? l=some { cls:=.type "list",data:=.seq its.toArray n }:=by
 obtain⟨z,its,n,r,e⟩:=I.hok l _ a;exact⟨z,its,n,r,r.length,e⟩
theorem WL(h:n<=sizeLine):Builtin.List.listTooLong n=false:=by
 unfold Builtin.List.listTooLong;exact Q1 (by lia)
def fA:V->List V->Hp->VK->Prop:=λx vs H Q=>∃ l xs y,x=.ref l/\vs=[y]/\H l=some (.lst xs)/\xs.length<sizeLine/\Q .non (upd H l (.lst (xs++[y])))
theorem Z8:MtM X "list.append" fA:=by
 intro pins s σ H x vs v us Q I b c h;obtain⟨l,xs,y,rfl,rfl,a,f,q⟩:=h;cases b;obtain⟨u,rfl,d⟩:=c.one;obtain⟨z,its,n,r,g,e⟩:=I.lstM a;refine call_meets F.slot_list_append ⟨_,e,rfl⟩ F.entry_list_append (F.args_list_append_2 _ _) (PySem.list_append l its.toArray n u (by rw[M3];lia)) ⟨e,?_⟩;refine⟨.non,_,I.lset (its':=its++[u]) a e (by simp) (r.append (.cons d .nil)) ?_,rfl,q⟩;rw[M4,List.length_singleton];lia
def rCat:R2:=λx y H Q=>∃ l b xs zs,x=.ref l/\y=.ref b/\H l=some (.lst xs)/\H b=some (.lst zs)/\xs.length+zs.length<=sizeLine/\∀ p,H p=none->Q (.ref p) (upd H p (.lst (xs++zs)))
theorem Z1:OpR X (binaryOp .Add) rCat:=by
 intro pins s σ H x y v u Q I c o h;obtain⟨l,b,xs,t,rfl,rfl,d,m,w,q⟩:=h;cases c;cases o;obtain⟨z,its,n,r,A,e⟩:=I.lstM d;obtain⟨p,a,B,f,i,j⟩:=I.lstM m;refine PySem.P.add_list e j ?_ (by rw[M3,M3];lia);have g:its.toArray++a.toArray=(its++a).toArray:=by simp
 rw[g];exact⟨.ref _,_,I.lnew (t':=s.toks) (r.append f) (by rw[M4];lia),rfl,q _ I.fresh⟩
def rRep:R2:=λx y H Q=>∃ l k xs,x=.ref l/\y=.int k/\H l=some (.lst xs)/\-(2 ^ 63)<=k/\k<2 ^ 63/\xs.length * k.toNat<=sizeLine /\
 ∀ p,H p=none->Q (.ref p) (upd H p (.lst (List.replicate k.toNat xs).flatten))
theorem ZH{α:Type}(xs:List α)(k:Nat):(List.replicate k xs).flatten.length=k * xs.length:=by
 induction k with
 |zero=>simp
 |succ k ih=>rw[Y6,List.flatten_cons,M4,ih,Nat.succ_mul,Nat.add_comm]
theorem IT:OpR X (binaryOp .Mult) rRep:=by
 intro pins s σ H x y v u Q I p G h;obtain⟨l,k,xs,rfl,rfl,w,C,A,o,q⟩:=h;cases p;obtain⟨t,rfl⟩:=G;obtain⟨z,its,n,r,B,e⟩:=I.lstM w;have d:its.toArray.size * k.toNat<=sizeLine:=by rw[M3,← B];exact o
 have f:¬ its.toArray.size * k.toNat > (2 ^ 63-1) / 8:=by
  have:(sizeLine:Nat)<=(2 ^ 63-1) / 8:=by decide
  lia
 have g:¬ (!Builtin.List.listFitsIndex k)=true:=by
  rw[fitsIndex_both C A];exact Y1
 have b:¬ Builtin.List.listTooLong (its.toArray.size * k.toNat)=true:=by
  rw[WL d];exact Y1
 have c:List.foldl (λi j=>i++j) #[] (List.replicate (if its.toArray.isEmpty=true then 0 else k.toNat) its.toArray)=(List.replicate k.toNat its).flatten.toArray:=by
  have E:∀ m:Nat,List.foldl (λi j=>i++j) #[] (List.replicate m its.toArray)=(List.replicate m its).flatten.toArray:=λm=>by
   have:=GI its m [];rw[List.nil_append] at this;exact this
  rw[E];cases its with
  |nil=>simp
  |cons a r'=>rw[y0 (by simp)]
 refine wpAny_binaryOp_repeat_ref (T:="list") (U:="int") (by decide) ⟨_,e,rfl⟩ (λD=>typeIs_int D k t) noFill_list_mul F.fills_int_mul F.slot_int_rmul repeat_list F.slot_int_index.lookup
  (call_meets F.slot_int_rmul (typeIs_int s k t) F.entry_int_rmul (F.args_int_rmul_2 _ _) (int___rmul___int_list k t l its.toArray n)
   ⟨e,rfl,⟨_,e,rfl⟩,call_meets F.slot_list_mul ⟨_,e,rfl⟩ F.entry_list_mul (F.args_list_mul_2 _ _) (AutoListH.list___mul___list_int_3 l its.toArray n k t g f b) ⟨e,?_⟩⟩)
 rw[c];exact⟨.ref _,_,I.lnew (t':=s.toks) (r.rep k.toNat) (by rw[ZH,Nat.mul_comm];exact o),rfl,q _ I.fresh⟩
section
variable{κ:Type} [DecidableEq κ]
def valV(kvs:List (κ × V))(k : κ):Option V:=(kvs.find? λkv=>decide (kv.1=k)).map (·.2)
def putK(kvs:List (κ × V))(k : κ)(v:V):List (κ × V) :=
 if (kvs.any λkv=>decide (kv.1=k))=true then kvs.map (λkv=>if kv.1=k then (kv.1,v) else kv) else kvs++[(k,v)]
def gU(kvs:List (κ × V))(k : κ):List (κ × V):=kvs.filter λkv=>decide (kv.1 ≠ k)
theorem oB{p : κ × V}{r:List (κ × V)}{k : κ}(e:p.1=k):valV (p::r) k=some p.2:=by simp[valV,List.find?_cons,e]
theorem vC{p : κ × V}{r:List (κ × V)}{k : κ}(e:¬ p.1=k):valV (p::r) k=valV r k:=by simp[valV,List.find?_cons,e]
theorem bH(k : κ):∀ kvs:List (κ × V),(kvs.any λa=>decide (a.1=k))=(valV kvs k).isSome
 |[]=>rfl
 | p::r=>by
  rw[List.any_cons];by_cases e:p.1=k
  ·simp only[oB e,D3 e,Bool.true_or,Option.isSome_some]
  ·rw[vC e,Q1 e,Bool.false_or];exact bH k r
theorem rG(kvs:List (κ × V))(k : κ)(v:V):(putK kvs k v).length<=kvs.length+1:=by
 unfold putK;split
 ·rw[N1];lia
 ·rw[M4,v3,T8];lia
theorem RelO.isSome_eq(r:RelO o u):o.isSome=u.isSome:=by
 cases o with
 | none=>cases u with
  |none=>rfl
  |some _=>exact(show False from r).elim
 | some _=>cases u with
  |none=>exact(show False from r).elim
  |some _=>rfl
theorem RelO.getD(r:RelO o u)(a:RelV d d'):RelV (o.getD d) (u.getD d'):=by
 cases o with
 | none=>cases u with
  |none=>exact a
  |some _=>exact(show False from r).elim
 | some _=>cases u with
  |none=>exact(show False from r).elim
  |some _=>exact r
theorem KV.val(r:KV kvs vs)(k : κ):RelO (valV kvs k) (valueAt vs k):=by
 unfold KV at r
 induction r with
 |nil=>exact True.intro
 | @cons p q ps qs h t ih =>
  obtain⟨c,d⟩:=h;by_cases e:p.1=k
  ·have a:q.1=k:=c.symm.trans e;have b:valueAt (q::qs) k=some q.2:=by simp[valueAt,List.find?_cons,a]
   rw[oB e,b];exact d
  ·have a:¬ q.1=k:=λz=>e (c.trans z);have b:valueAt (q::qs) k=valueAt qs k:=by simp[valueAt,List.find?_cons,a]
   rw[vC e,b];exact ih
theorem KV.any(r:KV kvs vs)(k : κ):(kvs.any λa=>decide (a.1=k))=vs.any λa=>decide (a.1=k):=by
 unfold KV at r
 induction r with
 |nil=>rfl
 |cons h t ih=>rw[List.any_cons,List.any_cons,ih,h.1]
theorem KV.repl(r:KV kvs vs)(k : κ)(c:RelV y u) :
  KV (kvs.map λa=>if a.1=k then (a.1,y) else a) (vs.map λa=>if a.1=k then (a.1,u) else a):=by
 unfold KV at r ⊢
 induction r with
 |nil=>exact .nil
 | @cons p q ps qs h t ih =>
  rw[P0,P0];refine .cons ?_ ih;obtain⟨b,d⟩:=h;by_cases e:p.1=k
  ·rw[z0 e,z0 (b.symm.trans e)];exact⟨b,c⟩
  ·rw[y0 e,y0 (λz=>e (b.trans z))];exact⟨b,d⟩
theorem KV.put(r:KV kvs vs)(k : κ)(a:RelV y u):KV (putK kvs k y) (stored vs k u):=by
 unfold putK stored;rw[r.any k];by_cases e:(vs.any λb=>decide (b.1=k))=true
 ·rw[z0 e,z0 e];exact r.repl k a
 ·rw[y0 e,y0 e];exact Paired.snoc r ⟨rfl,a⟩
theorem KV.length{kvs:List (κ × V)}{vs:List (κ × Value)}(r:KV kvs vs):kvs.length=vs.length:=Paired.length r
end
theorem t9(r:RelV (kV k) u):(J4 P w).is k u=true:=by
 cases k with
 |inl i=>obtain⟨t,e⟩:=(show ∃ t,u=Value.int i t from r);subst e;exact GQ P w i t
 |inr x=>obtain⟨t,e⟩:=(show ∃ t,u=Value.str x t from r);subst e;exact IK P w x t
theorem HG:∀{a:List Key}{us:List Value},Vals (a.map kV) us->ItemsAre (J4 P w) a us
 |[],_,r=>by rw[List.map_nil] at r;cases r;exact .nil
 | k::a,_,r=>by
  rw[P0] at r;cases r with
  |cons h t=>exact .cons (t9 h) (HG t)
abbrev KT(H:Hp):List (List Key × V)->List (List Key × Addr × Value)->Prop:=Paired λp q=>p.1=q.1/\H q.2.1=some (.tup (p.1.map kV))/\RelV p.2 q.2.2
theorem KT.val(r:KT H kvs xs)(k:List Key):RelO (valV kvs k) ((atKey xs k).map (·.2)):=by
 induction r with
 |nil=>exact True.intro
 | @cons p q ps qs h t ih =>
  obtain⟨c,_,d⟩:=h;by_cases e:p.1=k
  ·have a:q.1=k:=c.symm.trans e;have b:atKey (q::qs) k=some q.2:=by simp[atKey,List.find?_cons,a]
   rw[oB e,b];exact d
  ·have a:¬ q.1=k:=λz=>e (c.trans z);have b:atKey (q::qs) k=atKey qs k:=by simp[atKey,List.find?_cons,a]
   rw[vC e,b];exact ih
theorem KT.repl(r:KT H kvs xs)(k:List Key)(f:RelV y u) :
  KT H (kvs.map λb=>if b.1=k then (b.1,y) else b) (xs.map (putAt k u)):=by
 induction r with
 |nil=>exact .nil
 | @cons p q ps qs h t ih =>
  rw[P0,P0];refine .cons ?_ ih;obtain⟨a,c,d⟩:=h;unfold putAt;by_cases e:p.1=k
  ·rw[z0 e,z0 (a.symm.trans e)];exact⟨a,c,f⟩
  ·rw[y0 e,y0 (λz=>e (a.trans z))];exact⟨a,c,d⟩
theorem KT.put(r:KT H kvs xs)(k:List Key)(hb:H b=some (.tup (k.map kV)))(a:RelV y u) :
  KT H (putK kvs k y) (storedH xs k b u):=by
 have e:(kvs.any λc=>decide (c.1=k))=(atKey xs k).isSome:=by
  rw[bH,(r.val k).isSome_eq,Option.isSome_map]
 unfold putK storedH;rw[e];by_cases q:(atKey xs k).isSome=true
 ·rw[z0 q,z0 q];exact r.repl k a
 ·rw[y0 q,y0 q];exact Paired.snoc r ⟨rfl,hb,a⟩
theorem KT.keeps(r:KT H kvs xs)(a:∀ b ys,H b=some (.tup ys)->H' b=some (.tup ys)):KT H' kvs xs :=
 Paired.mapP r λ_ _ z=>⟨z.1,a _ _ z.2.1,z.2.2⟩
theorem xH(ok:HOk P w H h)(e:Rd H a u):ObjOk P w H h a u:=e.ok ok
theorem rC(ok:HOk P w H h)(e:Rd H a (.dK kvs)):kvs.length<=sizeLine/\(a == sysModules)=false/\∃ vs,KV kvs vs/\h.DictOf (J4 P w) a vs :=
 show ObjOk P w H h a (.dK kvs) from xH ok e
theorem uG(ok:HOk P w H h)(e:H a=some (.dK kvs)):kvs.length<=sizeLine/\(a == sysModules)=false/\∃ vs,KV kvs vs/\h.DictOf (J4 P w) a vs:=rC ok (.inl e)
theorem LB(ok:HOk P w H h)(e:H a=some (.tup (b.map kV))):(tupleKind (J4 P w)).is h b a:=by
 obtain⟨_,its,r,o,c,f,n,d⟩:=(show ObjOk P w H h a (.tup (b.map kV)) from ok a _ e)
 exact⟨o,its.toArray,n,c,f,d,by simpa using HG r⟩
theorem fC(ok:HOk P w H h)(e:Rd H a (.dT kvs)):kvs.length<=sizeLine/\(a == sysModules)=false /\
  ∃ xs,KT H kvs xs/\h.DictOfH (tupleKind (J4 P w)) a xs:=by
 obtain⟨z,y,xs,r,o,es,d,f,c,b,i,g⟩:=(show ObjOk P w H h a (.dT kvs) from xH ok e)
 refine⟨z,y,xs,r,o,es,d,f,c,b,i,λx hx=>?_,g⟩;have all:∀{l:List (List Key × V)}{m:List (List Key × Addr × Value)},KT H l m->∀ x∈m,(tupleKind (J4 P w)).is h x.1 x.2.1:=by
  intro l m q
  induction q with
  |nil=>intro x hx;exact nomatch hx
  | @cons p q ps qs hq t ih =>
   intro x hx;rcases V0.mp hx with e|hx
   ·subst e;exact LB ok (by rw[← hq.1];exact hq.2.1)
   ·exact ih x hx
 exact all r x hx
theorem TN(ok:HOk P w H h)(e:H a=some (.dT kvs)):kvs.length<=sizeLine/\(a == sysModules)=false /\
  ∃ xs,KT H kvs xs/\h.DictOfH (tupleKind (J4 P w)) a xs:=fC ok (.inl e)
def DGet(H:Hp)(a:Addr)(y:V)(r:Option V):Prop :=
 (∃ kvs k,Rd H a (.dK kvs)/\y=kV k/\r=valV kvs k)\/∃ kvs k b,Rd H a (.dT kvs)/\y=.ref b/\H b=some (.tup (k.map kV))/\r=valV kvs k
def DPut(H:Hp)(a:Addr)(y v:V)(H':Hp):Prop :=
 (∃ kvs k,H a=some (.dK kvs)/\y=kV k/\kvs.length<sizeLine/\H'=upd H a (.dK (putK kvs k v))) ∨
 ∃ kvs k b,H a=some (.dT kvs)/\y=.ref b/\H b=some (.tup (k.map kV))/\kvs.length<sizeLine/\H'=upd H a (.dT (putK kvs k v))
theorem DPut.k{H:Hp}{a:Addr}{kvs:List (Key × V)}{k:Key}{v:V}(e:H a=some (.dK kvs))(b:kvs.length<sizeLine):DPut H a (kV k) v (upd H a (.dK (putK kvs k v))):=.inl ⟨kvs,k,e,rfl,b,rfl⟩
theorem Inv.big(I:Inv X pins σ H s):sysModules<s.heap.objs.size:=by
 have h:mainGlobals<s.heap.objs.size:=(I.mod.glob.keeps I.bk).lt;exact Nat.lt_trans (by decide) h
theorem QM(r:A.units+1<cLine)(I:Inv X pins σ H s)(g:DGet H a y (some v))(q:RelV y u)(h:∀ f n,Inv X pins σ H n->RelV v f->Q f n) :
  wpAny (model X.prog X.w) A (getItem (.ref a) u) Q E s:=by
 rcases g with ⟨kvs,k,e,j,l⟩|⟨kvs,k,b,e,j,t,l⟩
 ·subst j;obtain⟨z,hd,vs,c,dd⟩:=rC I.hok e;obtain⟨f,m,d⟩:=RelO.some_of (v:=v) (o:=valueAt vs k) (by rw[l];exact c.val k);exact wpAny_getItem_of (t9 q) dd.mapOf m (h f _ (I.tok _) d)
 ·subst j;cases (show u=Value.ref b from q);obtain⟨z,hd,xs,c,dd⟩:=fC I.hok e;obtain⟨f,m,d⟩:=RelO.some_of (v:=v) (o:=(atKey xs k).map (·.2)) (by rw[l];exact c.val k);obtain⟨p,x,i⟩:=Option.map_eq_some_iff.mp m;refine wpAny_getItem_heap (tupleKind_room_in1 r) (LB I.hok t) dd x ?_;rw[i];exact h f _ (I.tok _) d
theorem xM(j:A.units+1<cLine)(I:Inv X pins σ H s)(g:DGet H a y o)(i:RelV y u)(h:∀ f,Inv X pins σ H f->Q (.bool (!o.isSome)) f) :
  wpAny (model X.prog X.w) A (compareOp .NotIn u (.ref a)) Q E s:=by
 rcases g with ⟨kvs,k,e,d,l⟩|⟨kvs,k,b,e,d,m,l⟩
 ·subst d;obtain⟨z,hd,vs,c,dd⟩:=rC I.hok e;refine wpAny_notIn_of (t9 i) hd dd.mapOf ?_;rw[← (c.val k).isSome_eq,← l];exact h _ (I.tok _)
 ·subst d;cases (show u=Value.ref b from i);obtain⟨z,hd,xs,c,dd⟩:=fC I.hok e;refine wpAny_notIn_heap (tupleKind_room_in1 j) (LB I.hok m) hd dd ?_;have q:=(c.val k).isSome_eq;rw[Option.isSome_map] at q;rw[← q,← l];exact h _ (I.tok _)
theorem yG(I:Inv X pins σ H s)(f:Mut (H a))(hs:Heap.SameBut a s.heap h')(d:∃ q,h'.get? a=some q)(new:ObjOk X.prog X.w (upd H a c) h' a c) :
  Inv X pins σ (upd H a c) { s with heap:=h',toks:=t' } :=
 I.write (x:=a) (e:=a) f (.inl rfl) (λb q hb z=>(hs.2 b hb).trans z) d new
theorem IN(z:kvs.length<=sizeLine)(hd:(a == sysModules)=false)(b:KV kvs vs)(dd:h'.DictOf (J4 P w) a vs) :
  ObjOk P w H' h' a (.dK kvs):=⟨z,hd,vs,b,dd⟩
theorem oR(J:A.units+1<cLine)(I:Inv X pins σ H s)(g:DPut H a y v H')(C:RelV y u)(x:RelV v r)(h:∀ B,Inv X pins σ H' B->Q () B) :
  wpAny (model X.prog X.w) A (setItem (.ref a) u r) Q E s:=by
 rcases g with ⟨kvs,k,e,o,l,j⟩|⟨kvs,k,b,e,o,t,l,j⟩
 ·subst o j;obtain⟨z,hd,vs,d,dd⟩:=uG I.hok e;have m:vs.length<=sizeLine:=by rw[← d.length];exact z
  have n:(putK kvs k v).length<=sizeLine:=by have:=rG kvs k v;lia
  refine wpAny_setItem_pairs (hsz:=m) (t9 C) dd λh' f hs=>h _ ?_;have K:∃ q,h'.get? a=some q:=let ⟨q,_,_,i,_⟩:=f;⟨q,i⟩;exact yG I (by rw[e];exact True.intro) hs K (IN n hd (d.put k x) f)
 ·subst o j;cases (show u=Value.ref b from C);obtain⟨z,hd,xs,d,dd⟩:=TN I.hok e;have m:xs.length<=sizeLine:=by rw[← Paired.length d];exact z
  have n:(putK kvs k v).length<=sizeLine:=by have:=rG kvs k v;lia
  refine wpAny_setItem_heap (hsz:=m) (tupleKind_room_in1 J) (LB I.hok t) dd λh' f hs=>h _ ?_;obtain⟨q,es,G,i,F,D,M,_,L⟩:=f;refine yG I (by rw[e];exact True.intro) hs ⟨q,i⟩ ⟨n,hd,_,(d.put k t x).keeps λc ys p=>?_,q,es,G,i,F,D,M,L⟩;rw[G0 (x9 p e (λz=>nomatch z))];exact p
def NoSl(i:Expr):Prop:=∀ ov iv,subscripted i false ov iv=operate [ov,iv] (getItem ov iv)
theorem uF          
  (n:typeLookup (.type T) "__getitem__" = pure (some (.builtin p))) (hs:NoSl a)
  (h:wpAny (model prog w) A (eval b env) (λo f=>wpAny (model prog w) A (eval a env) (λi c=>c.TypeIs o T/\wpAny (model prog w) A (getItem o i) Q E c) E f) E s) :
  wpAny (model prog w) A (eval (.Subscript b a pos) env) Q E s:=by
 refine Subscript_ (Y2 h (λo f j=>Y2 j (λi c d=>?_) λ_ _ x=>x) λ_ _ x=>x);obtain⟨m,d⟩:=d;unfold subscriptTail;refine u0 ?_;rw[getitemInPython_of_ne m.not_modules];refine u0 (wpAny_specialOf m n ?_);have fin:wpAny (model prog w) A (subscripted a false o i) (λr g=>wpAny (model prog w) A (letTemporaryGo b o r >>= λ_=>pure r) Q E g) E c:=by
  rw[hs o i];exact wpAny_operating (Y2 d (λr g l=>u0 (wpAny_letTemporaryGo (I0 l))) λ_ _ x=>x)
 first
  |exact I0 (u0 fin)
  |exact u0 (I0 (u0 fin))
  |exact u0 fin
theorem yO(I:Inv X pins σ H s)(g:DGet H a y o):s.TypeIs (.ref a) "dict":=by
 rcases g with ⟨kvs,k,e,_,_⟩|⟨kvs,k,b,e,_,_,_⟩
 ·obtain⟨_,_,vs,_,dd⟩:=rC I.hok e;exact dd.typeIs
 ·obtain⟨_,_,xs,_,dd⟩:=fC I.hok e;exact dd.typeIs
def ZC(td ty:TE):TE:=λσ H Q=>td σ H λx H1=>ty σ H1 λy H2=>∃ a v,x=.ref a/\DGet H2 a y (some v)/\Q v H2
def VC(ty td:TE):TE:=λσ H Q=>ty σ H λy H1=>td σ H1 λx H2=>∃ a o,x=.ref a/\DGet H2 a y o/\Q (.bl (!o.isSome)) H2
def EE(td ty tv:TE):TS:=λD σ H=>tv σ H λv H1=>td σ H1 λx H2=>ty σ H2 λy H3=>∃ a H4,x=.ref a/\DPut H3 a y v H4/\D.nx σ H4
theorem JE(l:X.A.units+1<cLine)(j:PE X o td)(hi:PE X i ty)(hs:NoSl i):PE X (.Subscript o i pos) (ZC td ty):=by
 intro pins s σ H Q I h;refine uF PySem.F.slot_dict_getitem.lookup hs (thn (j pins s σ H _ I h) λu s1 ⟨x,q,n,f,d⟩=>thn (hi pins s1 σ q _ n d) λz s2 ⟨y,H2,c,r,a,v,ex,g,p⟩=>?_);subst ex;obtain rfl:u=Value.ref a:=f;exact⟨yO c g,QM l c g r λt w m b=>⟨v,H2,m,b,p⟩⟩
theorem MH(j:X.A.units+1<cLine)(hi:PE X i ty)(f:PE X o td):PC X .NotIn i o (VC ty td):=by
 intro pins s σ H Q I h;refine thn (hi pins s σ H _ I h) λv s1 ⟨y,p,m,q,b⟩=>thn (f pins s1 σ p _ m b) λu s2 ⟨x,H2,r,d,a,c,ex,g,n⟩=>?_;subst ex;obtain rfl:u=Value.ref a:=d;exact xM j r g q λt l=>⟨.bl (!c.isSome),H2,l,rfl,n⟩
theorem bD(l:X.A.units+1<cLine)(j:PE X o td)(hi:PE X i ty)(b:PE X value tv)(hs:swapsWith value (some (.Subscript o i pos')) pos.line X.env=pure false) :
  PS X (.Assign [.Subscript o i pos'] value pos) (EE td ty tv):=by
 intro pins s σ H D I h;refine wpAny_Assign_Subscript (thn (b pins s σ H _ I h) λr s1 ⟨v,w,q,z,c⟩=>thn (j pins s1 σ w _ q c) λu s2 ⟨x,H2,C,d,t⟩=>thn (hi pins s2 σ H2 _ C t) λF E ⟨y,H3,m,B,a,p,ex,g,n⟩=>?_) hs;subst ex;obtain rfl:u=Value.ref a:=d;exact oR l m g B z λG f=>⟨σ,p,f,n⟩
theorem BK(h:Heap)(hb:sysModules<h.objs.size):ObjOk P w H (h.push { cls:=.type "dict",data:=.dict #[] }) h.objs.size (.dK []) :=
 ⟨R4 _,beq_eq_false_iff_ne.mpr (Ne.symm (U1 hb)),[],.nil,Heap.DictOf.new h⟩
def QH:TE:=λ_ H Q=>∀ p,H p=none->Q (.ref p) (upd H p (.dK []))
theorem TF:PE X (.Dict [] [] pos) QH:=λpins s σ H Q I h =>
 wpAny_Dict_empty ⟨.ref s.heap.objs.size,_,I.laid (a:=s.heap.objs.size) (o:=.dK []) (t':=s.toks) (λ_ _ q=>S1 _ q) (Q0 _) (BK s.heap I.big),rfl,h _ (I.hok.fresh (Q0 _))⟩
structure M1(X:Cx)(o:Expr)(m:Str)(apos:Pos)(e:Expr)(cpos:Pos):Prop where
 base:attributeBase o m X.env (eval o X.env)=eval o X.env
 few:((backTo cpos (starEach [e] X.env)).all (λx=>!x.1) && (backToKw cpos (keywordEach [] X.env)).all (λx=>x.1.isSome)
  && decide (([e]:List Expr).length+([]:List Keyword).length+(if ([]:List Keyword).isEmpty then 0 else 1)<30))=true
 line:(apos.endLine == cpos.line)=true
 trees:backTo cpos (starEach [e] X.env)=[(false,eval e X.env)]
end L2
namespace Att
open PySem PySem.W PySem.Calls PyProof.Rows
theorem rT:∀(ns:List Int)(vs:List Value),WellAll P h vs (ns.map WData.int)->IntsAre vs ns:=by
 intro ns
 induction ns with
 | nil =>
  intro vs w;rw[List.map_nil] at w;cases w;exact .nil
 | cons n ns ih =>
  intro vs w;rw[P0] at w;cases w with
  | cons a b =>
   cases a;exact .cons _ _ (ih _ b)
theorem aK{l:OpenLaw}{n:Nat}(hn:l.most=some n){P:Params}{h:Heap}{args:List WData}{c:List Value}
  (b:l.row.toRowW.claim.pre args=true) (m:WellAll P h c args) :
  ∃ a vs ns,c=[Value.ref a]/\args=[WData.list (ns.map WData.int)]/\h.get? a=some { cls:=.type "list",data:=.seq vs.toArray }/\IntsAre vs ns/\ns.length<=n:=by
 have j:WShape.hasAll [] args [.list .int]=true:=(pre_splitW b).1;have o:l.pre.holds [] { args:=args }=true:=(pre_splitW b).2;obtain⟨d,r,rfl,t,s⟩:=hasAllW_cons j;obtain rfl:=hasAllW_nil s;obtain⟨xs,rfl,p⟩:=hasW_list t;obtain⟨ns,rfl⟩:=items_int p;have f:ns.length<=n:=by
  unfold OpenLaw.pre at o;have i:(WTm.not (.lt (.lit (.int (n:Int))) (.len (.arg 0)))).holds [] { args:=[.list (ns.map .int)] }=true:=by
   have i:=(holds_andW o).1;rw[hn] at i;exact i
  have g:=condW_of i (w_not (w_lt w_lit (w_len_list (w_arg rfl))));rw[N1] at g;refine Nat.le_of_not_lt λq=>?_;have u:(n:Int)<((ns.length:Nat):Int):=by lia
  first
   |(rw[D3 u] at g;exact absurd g (by decide))
   |(simp at g;lia)
 cases m with
 | cons w1 w2 =>
  cases w2;cases w1 with
  |list ho hall=>exact⟨_,_,ns,rfl,rfl,ho,rT ns _ hall,f⟩
theorem TL(l:OpenLaw)(args:List WData):l.row.toRowW.claim.post args (.bool true) args=true :=
 postW_of (r:=l.row.toRowW) (X:=(true == true))
  (show WShape.has [] (.bool true) .bool=true by first|rfl|decide|simp[WShape.has,WShape.arms,WShape.armsAll])
  (show(WTm.eq .res (.lit (.bool true))).value [] { args:=args,res:=some (.bool true),after:=args }=some (.bool (true == true)) from w_eq_bool (w_res rfl) w_lit) rfl
theorem attach_call{l:OpenLaw}{n:Nat}{q:Program}{c:List Str}{XP:(Str->Option Value)->Heap->Prop}{x:World->Heap->Prop}{d:DefRec}
  (hn:l.most=some n) (t:d.params.defaults=[])
  (call:∀(w:World)(s₀ b:Shared)(mg mb:Str->Option Value)(fa:Addr)(o:Obj)(pm m doc:Value)(a:Addr)(vs:List Value)(ns:List Int),
   Ground q c [] XP w s₀ mg mb b.heap->x w b.heap ->
   b.heap.get? fa=some o->o.data=.func (docDef d.name d.params d.body d.scope pm m doc)->b.heap.CodeRec m d.name->mg d.name=some (.ref fa) ->
   b.heap.get? a=some { cls:=.type "list",data:=.seq vs.toArray }->IntsAre vs ns->ns.length<=n->b.gens = #[] ->
   codeAny (model l.prog w) callerA (.call (.ref fa) ⟨[.ref a],[]⟩) (λr p=>r=.ok (.ret (.bool true))/\OldK b.heap p.heap/\p.os=b.os/\AllBare p.gens) b) :
  WalkO q c XP x l.row.toRowW d [] (λf vs=>PySem.call f vs):=by
 intro w s₀ b mg mb G Y fa o pm m doc J kV E hd u A s C args z as h y H v I;obtain rfl:J=.none:=Dflts.none A t;obtain rfl:kV=.none:=Dflts.noKw A;obtain⟨a,vs,ns,rfl,rfl,i,g,j⟩:=aK hn h v;refine enter_call (K8 (call w s₀ b mg mb fa o pm m doc a vs ns G Y E (fd_plain hd) u s i g j C) λr p F=>?_);obtain⟨rfl,D,B,K⟩:=F;exact⟨.inl ⟨.bool true,.bool true,[],rfl,λ_=>rfl,.bool true,TL l _,λ_=>⟨List.Pairwise.nil,λ_ hm=>(nomatch hm)⟩⟩,D,B,K⟩
end Att
namespace L2
open PySem PySem.Spec PyProof.Rows
theorem NC:∀{vs:List Value}{ns:List Int},IntsAre vs ns->Vals (ns.map V.int) vs
 |_,_,.nil=>.nil
 |_,_,.cons n t h=>.cons ⟨t,rfl⟩ (NC h)
def Only(H:Hp):Prop:=∀ b,H b=none\/(∃ o xs,H b=some (.frz o (.lst xs)))\/∃ gs,H b=some (.tbl gs)
def ZA(K:Frag)(h:Heap):Prop:=∀ c P,PySem.W.tabIn K lamN=some (c,P)->PySem.W.CodeHd h c P/\h.get? P=some (PySem.W.tabObj #[])/\K.lookup P=none
theorem XM{P:Program}{w:World}{K:Frag}{h:Heap}{H:Hp}{a:Addr}{xs:List V}{l:Obj}(s:ZA K h)(ha:h.get? a=some l)(p:l.cls ≠ .none)(m:∀ b,H b=none\/∃ o xs,H b=some (.frz o (.lst xs)))(j:SqL K H a xs)(hok:HOk P w H h)(f:∀ b,H b ≠ none->b=a)(n:H a ≠ none->K.lookup a=none) :
  ∃ H':Hp,Only H'/\SqL K H' a xs/\HOk P w H' h/\(∀ b,H' b ≠ none->(b=a/\K.lookup a=none)\/∃ c,PySem.W.tabIn K lamN=some (c,b))/\TabsOk K H':=by
 cases q:PySem.W.tabIn K lamN with
 | none =>
  refine⟨H,λb=>(m b).elim .inl λz=>.inr (.inl z),j,hok,λb z=>.inl ⟨f b z,n ?_⟩,λc P e=>by rw[q] at e;cases e⟩;have:=f b z;subst this;exact z
 | some cP =>
  obtain⟨c,T⟩:=cP;obtain⟨_,g,t⟩:=s c T q;have i:T ≠ a:=λz=>by subst z;rw[ha] at g;cases g;exact p rfl
  have hn:H T=none:=by
   cases e:H T with
   |none=>rfl
   |some u=>exact absurd (f T (by rw[e];simp)) i
  refine⟨upd H T (.tbl #[.str lamQ 0]),λb=>?_,?_,λb u z=>?_,λb z=>?_,λv x e=>?_⟩
  ·by_cases hb:b=T
   ·subst hb;exact .inr (.inr ⟨_,S0⟩)
   ·rw[G0 hb];exact(m b).elim .inl λz=>.inr (.inl z)
  ·rcases j with (r|⟨o,r⟩)|r
   ·exact .inl (.inl (by rw[G0 (Ne.symm i)];exact r))
   ·exact .inl (.inr ⟨o,by rw[G0 (Ne.symm i)];exact r⟩)
   ·exact .inr r
  ·by_cases hb:b=T
   ·subst hb;rw[S0] at z;cases z;exact⟨#[],g,trivial,λpos y e=>by simp[codeAmong] at e⟩
   ·rw[G0 hb] at z;exact(hok b u z).stay (λ_ _ _ r=>r) (λd r=>by rw[G0 (z3 r hn)];exact r) λd ys r=>by rw[G0 (z3 r hn)];exact r
  ·by_cases hb:b=T
   ·subst hb;exact .inr ⟨c,rfl⟩
   ·rw[G0 hb] at z;have:=f b z;subst this;exact .inl ⟨rfl,n z⟩
  ·rw[q] at e;cases e;exact⟨#[],by rw[S0];rfl⟩
theorem vT{P:Program}{w:World}{K:Frag}{mg mb:Str->Option Value}{CX:CXT}{k:Nat}{fa a:Addr}{fd:FuncData}{x:Str}{sp:Sp}{f:Shared}{vs:List Value}{ns:List Int}
  (KX:K.In f.heap) (I:f.heap.Ns mainGlobals mg) (hb:f.heap.Ns builtinsNs mb) (X:∀ x:Str,x ≠ "__name__"->mb x=bootBuiltins x) (L:f.heap.NoLimit) (hg:f.gens = #[])
  (ha:f.heap.get? a=some { cls:=.type "list",data:=.seq vs.toArray }) (hi:IntsAre vs ns) (hl:ns.length<=sizeLine) (hr:Room k callerA) (i:ZA K f.heap) (S:SF mg f.heap)
  (F:∀ base:Heap,K.In base->base.Ns mainGlobals mg->FnOk P w K mg base CX k fa fd [x] sp) (A:∀(s:Shared)(u:Value),BindsTo s fd ⟨[u],[]⟩ [(x,u)])
  (Y:∀ H:Hp,Only H->SqL K H a (ns.map V.int)->sp [.ref a] H (λv _=>v=.bl true) λ_ _ _=>False)
  (R:∀ H e l,CX [] H f (λ_ _ _=>False) e l->False) :
  codeAny (model P w) callerA (.call (.ref fa) ⟨[.ref a],[]⟩) (λr l=>r=.ok (.ret (.bool true))/\OldK f.heap l.heap/\l.os=f.os/\AllBare l.gens) f:=by
 have rv:=NC hi;have J:=hi.length
 -- from an abstract heap in which nothing but the script may be tracked
 have t:∀ H:Hp,(∀ b,H b=none\/∃ o xs,H b=some (.frz o (.lst xs)))->SqL K H a (ns.map V.int)->HOk P w H f.heap->(∀ b,H b ≠ none->b=a)->(H a ≠ none->K.lookup a=none) ->
   codeAny (model P w) callerA (.call (.ref fa) ⟨[.ref a],[]⟩) (λr l=>r=.ok (.ret (.bool true))/\OldK f.heap l.heap/\l.os=f.os/\AllBare l.gens) f:=by
  intro H Q Z hok B hK;obtain⟨H,Q,Z,hok,B,hT⟩:=XM i ha (by intro z;cases z) Q Z hok B hK;have g:∀{b:Addr}{o:Obj},f.heap.get? b=some o->H b=none->(hidT f.heap H).get? b=some o:=λe n=>yQ e n;have U:∀{b:Addr}{o:Obj}{es:Array DictEntry}{E:Nat},f.heap.get? b=some o->o.data=.dict es E->H b=none:=λ{b o es E} e d=>by
   cases q:H b with
   |none=>rfl
   | some u =>
    rcases B b (by rw[q];simp) with ⟨j,_⟩|⟨c,j⟩
    ·subst j;rw[ha] at e;cases e;have d':Data.seq vs.toArray _=Data.dict es E:=d;cases d'
    ·have M:=(i c b j).2.1;rw[M] at e;cases e;cases d
  have p:∀{b:Addr}{m:Str->Option Value},f.heap.Ns b m->(hidT f.heap H).Ns b m:=λ{b m} ⟨o,es,E,e,d,r⟩=>⟨o,es,E,g e (U e d),d,r⟩
  have N:K.In (hidT f.heap H):=λb o e=>g (KX b o e) (by
   cases q:H b with
   |none=>rfl
   | some u =>
    rcases B b (by rw[q];simp) with ⟨j,G⟩|⟨c,j⟩
    ·subst j;rw[G] at e;cases e
    ·rw[(i c b j).2.2] at e;cases e)
  have hM:Mod K mg (hidT f.heap H):=⟨N,p I,⟨mb,p hb,X⟩,let ⟨mc,h1,h2⟩:=L;⟨mc,p h1,h2⟩,by
   obtain⟨bm,ob,b1,b2,D,W,b5⟩:=S;refine⟨bm,ob,b1,b2,g D ?_,W,b5⟩;cases q:H bm with
   |none=>rfl
   | some u =>
    rcases B bm (by rw[q];simp) with ⟨j,_⟩|⟨c,j⟩
    ·subst j;rw[ha] at D;cases D;have b6:Value.type "list" = Value.type "module":=W;injection b6 with z;exact absurd z (by decide)
    ·rw[(i c bm j).2.1] at D;cases D;cases W⟩
  have e0:Env0 P w K mg (hidT f.heap H) callerA [] f H:=⟨rfl,hM,λb o e=>vN e,Nat.le_of_eq (VQ _ _),trivial,λb hb=>absurd (show b∈([]:List Addr) from hb) (by simp),hT,hok,.of_eq hg⟩
  refine K8 ((F _ N (p I)).run callerA [] f H ⟨[.ref a],[]⟩ [.ref a] [.ref a] _ _ hr e0 (A f (.ref a)) (.cons rfl .nil) (Y H Q Z)) λr l h=>?_;cases r with
  |error e=>exact(R H e l h).elim
  | ok fl =>
   cases fl with
   |next=>exact False.elim h
   |brk=>exact False.elim h
   |cont=>exact False.elim h
   | ret u =>
    obtain⟨v,H',os,bare,un,y,r',q⟩:=h;have q':v=.bl true:=q;subst q';obtain rfl:u=Value.bool true:=r';refine⟨rfl,⟨λb o e=>?_,λb o e=>un.there b o e (by simp)⟩,os,bare⟩;cases q:H b with
    |none=>exact .inl (un.keep b o e q (by intro z;exact absurd (show b∈([]:List Addr) from z) (by simp)) (by simp))
    | some u =>
     rcases Q b with z|⟨ob,xs,z⟩|⟨gs,z⟩
     ·rw[q] at z;cases z
     ·refine .inl ?_;have T:=un.frzs b ob _ z;obtain⟨e1,_⟩:=hok b _ z;obtain⟨M,_⟩:=y b _ T;rw[e] at e1;cases e1;exact M
     ·obtain⟨m,T⟩:=un.tbls b gs z;obtain⟨ps,M,_⟩:=y b _ T;rcases B b (by rw[q];simp) with ⟨j,_⟩|⟨c,j⟩
      ·subst j;obtain⟨a0,C,_⟩:=hok b _ z;rw[ha] at C;cases C
      ·have C:=(i c b j).2.1;rw[C] at e;cases e;refine .inr (.inl ⟨((i c b j).1.tab C).isCodeTable,rfl,#[],ps,rfl,?_⟩);rw[M];simp
 cases G:K.lookup a with
 | some o =>
  -- the script is one of the module's own objects
  have e:=KX a o G;rw[ha] at e;cases e;refine t (λ_=>none) (λ_=>.inl rfl) (.inr ⟨_,vs.toArray,_,G,rfl,rfl,rfl,by rw[M3,J];exact hl,by simpa using rv⟩) (λb u z=>by have O:(none:Option HO)=some u:=z;cases O) (λb z=>absurd rfl z) λz=>absurd rfl z
 | none =>
  refine t (λb=>if b=a then some (.frz { cls:=.type "list",data:=.seq vs.toArray } (.lst (ns.map V.int))) else none) (λb=>?_) (.inl (.inr ⟨{ cls:=.type "list",data:=.seq vs.toArray },z0 rfl⟩)) (λb u z=>?_) (λb z=>?_) λ_=>G
  ·by_cases hb:b=a
   ·exact .inr ⟨_,_,z0 hb⟩
   ·exact .inl (y0 hb)
  ·by_cases hb:b=a
   ·have O:=(z0 hb).symm.trans z;cases O;subst hb;exact⟨ha,by rw[N1];exact hl,vs,_,rv,ha⟩
   ·have O:=(y0 hb).symm.trans z;cases O
  ·by_cases hb:b=a
   ·exact hb
   ·exact absurd (y0 hb) z
abbrev KOf{K:Frag}{h:Heap}(_:K.In h):Frag:=K
theorem walk_of{l:PySem.W.OpenLaw}{n k:Nat}{q:Program}{i:List Str}{XP:(Str->Option Value)->Heap->Prop}{z:World->Heap->Prop}{d:DefRec}{K:Params->Frag}{CX:World->CXT}{sp:World->Sp}{x:Str}
  (hn:l.most=some n) (B:n<=sizeLine) (A:d.params.defaults=[]) (Q:Room k callerA)
  (M:∀(w:World)(h:Heap),z w h->(K w.params).In h)
  (E:∀(w:World)(lo:List Str)(mg mb:Str->Option Value)(p:ExcName->Option Value)(h:Heap),PyProof.Rows.Top q lo p mg mb h->z w h->ZA (K w.params) h)
  (F:∀(w:World)(mg:Str->Option Value)(fa:Addr)(h:Heap),(K w.params).In h->h.Ns mainGlobals mg->mg d.name=some (.ref fa) ->
   ∃ fd:FuncData,(∀(s:Shared)(u:Value),BindsTo s fd ⟨[u],[]⟩ [(x,u)]) /\
    ∀ base:Heap,(K w.params).In base->base.Ns mainGlobals mg->FnOk l.prog w (K w.params) mg base (CX w) k fa fd [x] (sp w))
  (y:∀(w:World)(H:Hp)(a:Addr)(ns:List Int),ns.length<=n->Only H->SqL (K w.params) H a (ns.map V.int)->sp w [.ref a] H (λv _=>v=.bl true) λ_ _ _=>False)
  (C:∀(w:World)(H:Hp)(s:Shared)(e:Value)(D:Shared),CX w [] H s (λ_ _ _=>False) e D->False) :
  PySem.W.WalkO q i XP z l.row.toRowW d [] (λf vs=>PySem.call f vs):=by
 refine Att.attach_call hn A λw s₀ m mg mb fa o pm S doc a vs ns G Y R hd N t r j c J=>?_;have I:=M w _ Y;obtain⟨fd,hb,L⟩:=F w mg fa _ I G.T.g t;exact vT I G.T.g G.T.b G.T.builtins G.T.nolimit J r j (D2 c B) Q (E w _ _ _ _ _ G.T Y) G.T.bmain L hb (λH P O=>y w H a ns c P O) λH e D=>C w H m e D
end L2
/- THE LAST THEOREM (shape; LID, My.* are yours):
  My.Adr: a structure of the addresses that your layer names (classes,functions);My.Txt K t: a structure (Prop) of the equations over K;
  My.txt_mk:{K} {implicit addresses ..} (e1:nsIn K mainGlobals "law" = some (some (.ref f))) (e2:K.lookup f=some ⟨oc,od,.func (fnOf "law" "law" params body scope dV kV doc pm an cdv ct),sl⟩) (e3:codeIn K cdv "law" = true) .. : ∃ t,My.Txt K t
set_option maxRecDepth 100000 in
set_option maxHeartbeats 0 in
theorem PySem.Challenge.cw_LID_holds : PySem.Challenge.rw_LID.Holds := by
 w_on;o_law;k_head;(case hw=>w_witness2)
 k_fill
 refine L2.walk_of (l:=PySem.Challenge.rw_LID) (n:=63) (k:=40) (x:="script") (CX:=λw=>..) (sp:=λ_=>My.sp_law) rfl (by decide) rfl ⟨rfl,by decide,by decide⟩ (λw h Y=>PySem.W.kIn_of Y) ?F ?S ?C
 case F =>
  intro w mg fa h KX G hmg;have T:∃ t,My.Txt (L2.KOf KX) t:=by
   dsimp only[L2.KOf]                          -- K must stand as «<heap const> w.params» for k_is;refine' My.txt_mk ?e1 ?e2 ?e3 ..
   (case e1=>PySem.W.k_is)                    -- in the order: a name -> its address -> its object -> its parts
   (case e2=>PySem.W.k_is)
   ..
  obtain⟨t,T⟩:=T;have e0:=hmg.symm.trans (mg_of KX G T.law);cases e0                                       -- fa is the law's own address;exact⟨_,λs u=>.of_eq rfl,λbase kb nb=>My.law_fn T kb nb⟩     -- if «.of_eq rfl» comes too early: refine'⟨_,?b,λbase kb nb=>My.law_fn T kb nb⟩;exact λs u=>.of_eq rfl
 case S=>exact λw H a ns hl hO hS=>..
 case C=>exact ..
(the tactic k_is has no namespace: write k_is) -/
namespace L2
open PySem PySem.Spec PyProof.Rows
def yE(s:Stmt)(j:Nat):Stmt:=match s with
 | .ClassDef _ _ _ body _ _ _ _ _ _ _=>body.getD j (.Pass ⟨0,0,0,0⟩)
 |_=>.Pass ⟨0,0,0,0⟩
def X4(s:Stmt):Arguments:=match s with
 | .FunctionDef _ a _ _ _ _ _ _ _ _=>a
 |_=>{ posonlyargs:=[],args:=[],vararg:=none,kwonlyargs:=[],kw_defaults:=[],kwarg:=none,defaults:=[] }
def u4(s:Stmt):List Stmt:=match s with
 | .FunctionDef _ _ b _ _ _ _ _ _ _=>b
 |_=>[]
def J0(s:Stmt):Scope:=match s with
 | .FunctionDef _ _ _ _ _ _ sc _ _ _=>sc
 |_=>{ kind:=.function,names:=[],isGenerator:=false,isCoroutine:=false }
abbrev CX0:CXT:=λ_ _ _ _ _ _=>False
abbrev E0:XK:=λ_ _ _=>False
theorem O9:D7 CX0 X E0:=λ_ _ _ _ _ _ _ h=>h.elim
structure Fun(K:Frag)(x qual:Str)(st:Stmt)(f:Addr)(fd:FuncData):Prop where
 ex:∃(oc:Value)(od:Option Addr)(kV doc pm:Value)(an:Option Addr)(cdv ct:Value)(osl:Array (Option Value)),
  fd=fnOf x qual (X4 st) (u4 st) (J0 st) .none kV doc pm an cdv ct/\K.lookup f=some ⟨oc,od,.func fd,osl⟩/\codeIn K cdv qual=true
 kp:keepIn K (.ref f)=true
section
variable{P:Program}{w:World}{K:Frag}{mg:Str->Option Value}{base:Heap}
theorem Fun.ok{x qual:Str}{st:Stmt}{f:Addr}{fd:FuncData}{N ps:List Str}{k:Nat}{sp:Sp}(F:Fun K x qual st f fd)(S:FnScope N ps (J0 st))(len:∀ vs H Q E,sp vs H Q E->vs.length=ps.length)
  (a:∀(cdv:Value)(A:Around)(outer:List Env)(s:Shared)(H:Hp)(vs:List V)(Q:VK)(E:XK),Room k (A.deeper (envOfC qual (J0 st) s.heap.objs.size f cdv))->sp vs H Q E ->
   ∃ t,PSs (cxOf CX0 P w K mg base N qual (J0 st) f cdv A outer s H E).nox (u4 st) t/\t { nx:=λ_ H'=>Q .non H',rt:=Q } (start N vs) H):FnOk P w K mg base CX0 (k+1) f fd ps sp:=by
 obtain⟨oc,od,kV,doc,pm,an,cdv,ct,osl,rfl,d,c⟩:=F.ex;refine KI d c S len λA outer s H vs Q E g b=>?_;obtain⟨t,h,q⟩:=a cdv A outer s H vs Q E g b;exact⟨t,h.nox,q⟩
theorem Fun.binds{x qual:Str}{st:Stmt}{f:Addr}{fd:FuncData}{ps:List Str}(F:Fun K x qual st f fd)
  (h:∀(kV doc pm:Value)(an:Option Addr)(cdv ct:Value)(us:List Value),us.length=ps.length->bindArgs (fnOf x qual (X4 st) (u4 st) (J0 st) .none kV doc pm an cdv ct) ⟨us,[]⟩=pure (ps.zip us)):Binds K fd ps []:=by
 obtain⟨oc,od,kV,doc,pm,an,cdv,ct,osl,rfl,b,a⟩:=F.ex;exact .all (h kV doc pm an cdv ct)
theorem JH{x qual:Str}{st:Stmt}{f:Addr}{oc:Value}{od an:Option Addr}{osl:Array (Option Value)}{kV doc pm cdv ct:Value}(l:K.lookup f=some ⟨oc,od,.func (fnOf x qual (X4 st) (u4 st) (J0 st) .none kV doc pm an cdv ct),osl⟩)
  (c:codeIn K cdv qual=true) (k:keepIn K (.ref f)=true):Fun K x qual st f (fnOf x qual (X4 st) (u4 st) (J0 st) .none kV doc pm an cdv ct):=⟨⟨oc,od,kV,doc,pm,an,cdv,ct,osl,rfl,l,c⟩,k⟩
end
theorem k8(a:Room k A):A.units+1<cLine:=v9 (Nat.add_le_add_left (by decide:1<=64) _) a.units
theorem mB(h:n<=1000):n<sizeLine:=v9 h (by decide)
section
variable{X:Cx}
theorem pv(i:Nat)(c:X.N[i]?=some x:=by rfl)(b:Vis X.env.scope x:=by first|exact Or.inl rfl|exact Or.inr aa|exact Or.inr (Or.inr rfl))(hd:(x == ("__debug__" : Str))=false:=by decide)
  (a:(x == ("__classdict__" : Str))=false:=by decide):PE X (.Name x pos) (tVar i):=tT c b hd a
end
theorem iteF{A B:Prop}(h:B):if false=true then A else B:=by
 rw[y0 Y1];exact h
theorem iteT{A B:Prop}(h:A):if true=true then A else B:=by
 rw[z0 rfl];exact h
def Same(H H':Hp):Prop:=∀ b o,H b=some o->H' b=some o
theorem Same.refl(H:Hp):Same H H:=λ_ _ h=>h
theorem Same.trans(a:Same H d)(b:Same d H2):Same H H2:=λc o h=>b c o (a c o h)
theorem Same.seq{K:Frag}{H H':Hp}{a:Addr}{xs:List V}(e:Same H H')(h:SqL K H a xs):SqL K H' a xs:=by
 rcases h with (h|⟨o,h⟩)|h
 ·exact .inl (.inl (e _ _ h))
 ·exact .inl (.inr ⟨o,e _ _ h⟩)
 ·exact .inr h
section
variable{X:Cx}
end
section
variable{κ:Type} [DecidableEq κ]
end
def clos(env:Env):List (Str × NameKind)->List (Str × Addr)->List (Str × Addr)
 |[],cs=>cs
 |(n,k)::r,cs=>if k == NameKind.free then (match env.cells.lookup n with|some a=>clos env r ((n,a)::cs)|none=>clos env r cs) else clos env r cs
theorem BP(h:∀ n,(n,NameKind.free)∈sc.names->∃ a,env.cells.lookup n=some a):closureFor sc env=pure (clos env sc.names []):=by
 have all:∀(l:List (Str × NameKind))(cs:List (Str × Addr)),(∀ n,(n,NameKind.free)∈l->∃ a,env.cells.lookup n=some a) ->
   (forIn l cs λ(x:Str × NameKind)(cs:List (Str × Addr))=>match x with|(name,kind)=>if kind == NameKind.free then (do let a ← cellOf env name;pure (ForInStep.yield ((name,a)::cs))) else pure (ForInStep.yield cs))=(pure (clos env l cs):Sem _):=by
  intro l
  induction l with
  |nil=>intro cs _;rfl
  | cons p r ih =>
   intro cs c;obtain⟨n,k⟩:=p;rw[List.forIn_cons];unfold clos;dsimp only;cases hk:(k == NameKind.free) with
   | false =>
    simp only[Bool.false_eq_true,if_false,pure_bind];exact ih cs λm hm=>c m (Q3 _ hm)
   | true =>
    have f:k=NameKind.free:=by simpa using hk
    subst f;obtain⟨a,ha⟩:=c n E4;have d:cellOf env n=pure a:=by unfold cellOf;rw[ha]
    simp only[if_true,d,pure_bind,ha];exact ih _ λm hm=>c m (Q3 _ hm)
 have e:=all sc.names [] h;unfold closureFor;refine Eq.trans (b:=(pure (clos env sc.names []):Sem _) >>= λcs=>pure cs) ?_ (pure_bind _ _);exact congrArg (λz:Sem (List (Str × Addr))=>z >>= λcs=>pure cs) e
theorem yC:∀{l:List (Str × NameKind)}{cs:List (Str × Addr)},(clos env l cs).lookup x=some c->env.cells.lookup x=some c\/cs.lookup x=some c
 |[],cs,h=>.inr h
 | (n,k)::r,cs,h=>by
  unfold clos at h;by_cases hk:(k == NameKind.free)=true
  ·rw [z0 hk] at h;cases ha:env.cells.lookup n with
   |none=>rw[ha] at h;exact yC h
   | some a =>
    rw[ha] at h;rcases yC h with e|e
    ·exact .inl e
    ·rw[S4] at e;cases hx:(x == n) with
     | true =>
      rw[hx] at e;have:x=n:=by simpa using hx
      subst this;cases e;exact .inl ha
     |false=>rw[hx] at e;exact .inr e
  ·rw[y0 hk] at h;exact yC h
theorem YB:∀{l:List (Str × NameKind)}{cs:List (Str × Addr)},(∃ c,cs.lookup x=some c)->∃ c,(clos env l cs).lookup x=some c
 |[],cs,h=>h
 | (n,k)::r,cs,h=>by
  unfold clos;by_cases hk:(k == NameKind.free)=true
  ·rw[z0 hk];cases ha:env.cells.lookup n with
   |none=>exact YB h
   | some a =>
    refine YB ?_;rw[S4];cases hx:(x == n) with
    |true=>exact⟨_,rfl⟩
    |false=>exact h
  ·rw[y0 hk];exact YB h
theorem wA(h:∃ a,env.cells.lookup x=some a):∀{l:List (Str × NameKind)}{cs:List (Str × Addr)},(x,NameKind.free)∈l->∃ c,(clos env l cs).lookup x=some c
 |[],_,hm=>absurd hm (by simp)
 | (n,k)::r,cs,hm=>by
  rcases V0.mp hm with e|hm
  ·cases e;obtain⟨a,ha⟩:=h;unfold clos;rw[z0 (by rfl),ha];refine YB ⟨a,?_⟩;rw[S4];simp
  ·unfold clos;by_cases hk:(k == NameKind.free)=true
   ·rw[z0 hk];cases ha:env.cells.lookup n with
    |none=>exact wA h hm
    |some a=>exact wA h hm
   ·rw[y0 hk];exact wA h hm
theorem wI{env:Env}{x:Str}:∀{names:List (Str × NameKind)},(∀ y∈names,y.2 ≠ .cell) ->
  ((names.map λ(n,k)=>if (k == NameKind.free && env.scope.kind == .function && env.kindOf n == some .cell) then (n,NameKind.cell) else (n,k)).lookup x=some .cell ∨
   (names.map λ(n,k)=>if (k == NameKind.free && env.scope.kind == .function && env.kindOf n == some .cell) then (n,NameKind.cell) else (n,k)).lookup x=some .free)->names.lookup x=some .free
 |[],_,h=>by rcases h with h|h <;> simp at h
 | (n,k)::r,hc,h=>by
  have a:=@wI env x r λy b=>hc y (Q3 _ b);rw[S4];simp only[P0] at h;by_cases hq:(k == NameKind.free && env.scope.kind == .function && env.kindOf n == some .cell)=true
  ·rw[z0 hq] at h;have c:k=NameKind.free:=by
    have:=hq;simp only[N4] at this;simpa using this.1.1
   subst c;cases hx:(x == n) with
   |true=>rfl
   |false=>simp only[S4,hx] at h;exact a h
  ·rw[y0 hq] at h;cases hx:(x == n) with
   | true =>
    simp only[S4,hx] at h;rcases h with h|h
    ·cases h;exact absurd rfl (hc (n,NameKind.cell) E4)
    ·exact h
   |false=>simp only[S4,hx] at h;exact a h
theorem sH{env:Env}{x:Str}:∀{names:List (Str × NameKind)},names.lookup x=some .free ->
  ((names.map λ(n,k)=>if (k == NameKind.free && env.scope.kind == .function && env.kindOf n == some .cell) then (n,NameKind.cell) else (n,k)).lookup x=some .cell ∨
   (names.map λ(n,k)=>if (k == NameKind.free && env.scope.kind == .function && env.kindOf n == some .cell) then (n,NameKind.cell) else (n,k)).lookup x=some .free)
 |[],h=>by simp at h
 | (n,k)::r,h=>by
  have a:=@sH env x r;rw[S4] at h;simp only[P0];by_cases hq:(k == NameKind.free && env.scope.kind == .function && env.kindOf n == some .cell)=true
  ·rw[z0 hq];cases hx:(x == n) with
   |true=>left;simp[S4,hx]
   |false=>rw[hx] at h;simp only[S4,hx];exact a h
  ·rw[y0 hq];cases hx:(x == n) with
   |true=>rw[hx] at h;right;simp only[S4,hx];exact h
   |false=>rw[hx] at h;simp only[S4,hx];exact a h
def Cx.comp(X:Cx)(N:List Str)(sc:Scope)(C:Addr)(s0:Shared)(H0:Hp)(ex:List Addr):Cx where
 prog:=X.prog
 w:=X.w
 K:=X.K
 mg:=X.mg
 base:=X.base
 A:=X.A
 N:=N
 s₀:=s0
 H₀:=H0
 env:=compEnvC sc (clos X.env sc.names []) C X.env
 outer:=X.stack
 stack:=X.stack
 ex:=ex
 fn:=λ_=>false
 calm:=X.calm
 pn:=[]
 xe:=λ_ _=>False
def pick(src:List (Option Nat))(σ:St):St:=src.map λo=>match o with|some j=>(σ[j]?).getD none|none=>none
structure LcOk(X:Cx)(N:List Str)(sc:Scope)(src:List (Option Nat)):Prop where
 kind:sc.kind=.function
 nocell:∀ y∈sc.names,y.2 ≠ .cell
 own:∀ y∈sc.names,y.2=.local->sc.names.lookup y.1=some .local
 outs:∀ y∈sc.names,y.2=.free->X.env.kindOf y.1=some .cell\/X.env.kindOf y.1=some .free
 len:src.length=N.length
 from':∀(i j:Nat),src[i]?=some (some j)->∃ x,N[i]?=some x/\X.N[j]?=some x/\sc.names.lookup x=some .free
theorem LcOk.clo(L:LcOk X N sc src)(ok:X.Ok):closureFor sc X.env=pure (clos X.env sc.names []) :=
 BP λn hn=>ok.has n (L.outs (n,.free) hn rfl)
theorem fG           
  (L:LcOk X N sc src) (I:Inv X pins σ H s) (hf:∀ b∈fp,FpOk X pins H b) (f:∀ b∈fp,b<s.heap.objs.size)
  (hn:n.Ns s.heap.objs.size λ_=>none) (g:∀ b o,s.heap.get? b=some o->n.get? b=some o) :
  Inv (X.comp N sc s.heap.objs.size s H fp) [] (pick src σ) H { s with heap:=n,toks:=t' }:=by
 have look:∀{x c},(clos X.env sc.names []).lookup x=some c->X.env.cells.lookup x=some c:=λ{x c} e=>by
  rcases yC e with z|z
  ·exact z
  ·simp at z
 refine⟨⟨I.ok.mod,L.kind,I.ok.glob,I.ok.blt,Q0 _,λx y c A a=>?_,λx hx=>?_,λx c z _=>?_,I.ok.hd,I.ok.frames,.inl rfl,λb hb=>⟨?_,λx c e=>?_⟩,I.bs,D2 I.ok.bsz I.sz,λb o e hb=>?_,λb hb z=>?_,I.stack,I.stkFree,I.tab⟩,
  rfl,I.bare,Un.kept g,⟨_,hn,λi x v A a M=>?_⟩,λx c e=>?_,I.hok.fresh (Q0 _),λx c e=>I.freeC x c (look e),λp J=>?_,I.hok.kept g,?_⟩
 ·exact I.ok.inj x y c (look A) (look a)
 ·have q:=wI (env:=X.env) (x:=x) L.nocell hx;exact wA (I.ok.has x (L.outs (x,.free) (PySem.mem_of_lookup q) rfl)) (PySem.mem_of_lookup q)
 ·exact Bool.noConfusion z
 ·exact U1 (f b hb)
 ·exact(hf b hb).2.2.2.2.1 x c (look e)
 ·rcases(hf b hb).2.2.2.1 with z|z
  ·exact I.ok.noex b o e z
  ·exact absurd (z4 (M0 e) (D2 I.ok.bsz z)) (L3 _)
 ·rcases V0.mp (I.stkSub b z) with q|q
  ·exact(hf b hb).2.1 q
  ·exact(hf b hb).2.2.1 q
 ·unfold pick at a;rw[v2] at a;cases q:src[i]? with
  |none=>rw[q] at a;cases a
  | some o =>
   rw[q] at a;cases o with
   |none=>cases a
   | some j =>
    obtain⟨y,D,K,t⟩:=L.from' i j q;have w:N[i]?=some x:=A;rw[w] at D;cases D;have G : σ[j]?=some (some v):=by
     cases q2 : σ[j]? with
     |none=>simp[q2] at a
     |some z=>simp[q2] at a;rw[a]
    have f:=L.outs (x,.free) (PySem.mem_of_lookup t) rfl;have h:Vis X.env.scope x:=by
     rcases f with z|z
     ·exact .inr (.inl z)
     ·exact .inr (.inr z)
    obtain⟨m,_,F⟩:=I.loc;obtain⟨u,r,l⟩:=F j x v K G h;refine⟨u,r,.inr ⟨?_,?_⟩⟩
    ·exact sH (env:=X.env) t
    ·rcases l with ⟨z,_⟩|⟨_,c,E,oc,d,hd⟩
     ·rcases f with B|B <;> (rw[B] at z;cases z)
     ·obtain⟨O,C⟩:=wA (env:=X.env) ⟨c,E⟩ (PySem.mem_of_lookup t) (cs:=[]);have:=look C;rw[E] at this;cases this;exact⟨c,C,oc,g c oc d,hd⟩
 ·obtain⟨v,oc,d,hd⟩:=I.cell x c (look e);exact⟨v,oc,g c oc d,hd⟩
 ·exact absurd (show p∈([]:List (Addr × Obj)) from J) (by simp)
 ·show(pick src σ).length=N.length;unfold pick;rw[N1];exact L.len
def PIf(X:Cx)(ifs:List Expr)(t:TT):Prop :=
 ∀(pins:List (Addr × Obj))(s:Shared)(σ:St)(H:Hp)(Q:Bool->Hp->Prop),Inv X pins σ H s->t σ H Q ->
  wpAny (model X.prog X.w) X.A (forIn ifs true λc r=>if r=true then do let ok ← isTrue c X.env (eval c X.env);pure (ForInStep.yield ok) else pure (ForInStep.yield r)) (TP X pins σ Q) X.xe s
def tYes:TT:=λ_ H Q=>Q true H
theorem O3:PIf X [] tYes:=λ_ _ _ H _ I h=>wpAny_tests_nil ⟨H,I,h⟩
theorem UT(h:PT X c t):PIf X [c] t:=λpins s σ H Q I q=>wpAny_tests_one (h pins s σ H Q I q)
abbrev LW:=Nat->Nat->List V->St->Hp->Prop
def xE(J:It)(g:TG)(tif:TT)(te:TE)(acc:Addr)(Qd:List V->Hp->Prop)(W:LW):Prop:=∀(i m:Nat)(ys:List V)(σ:St)(H:Hp),W i m ys σ H->H acc=some (.lst ys)/\((J.stop i H/\Qd ys H)\/(J.go i H /\
 ∃ Nx:List V->St->Hp->Prop,(∀ ys' σ' H',Nx ys' σ' H'->∃ m',m'<m/\W (i+1) m' ys' σ' H')/\∀ x H2,J.yld i H x H2 ->
 g x σ H2 λσ3 H3=>tif σ3 H3 λb H4=>if b=true then te σ3 H4 λy H5=>H5 acc=some (.lst ys)/\ys.length<sizeLine/\Nx (ys++[y]) σ3 (upd H5 acc (.lst (ys++[y]))) else Nx ys σ3 H4))
theorem qT                
  (T:Turn X.prog X.w X.K tg J fp it tn) (hc:X.calm=true) (l:∀ e s,¬ X.xe e s) (hg:PG X tg g) (Z:PIf X B D) (he:PE X t te)
  (L:xE J g D te a Qd W) (hR:∀ ys σ H s,Inv X [] σ H s->Qd ys H->R (.ok .next) s)
       (I:Inv X [] σ H s) (st:tn i s.heap) (hf:∀ b∈fp,FpOk X [] H b) (w:W i m ys σ H) :
  codeAny (model X.prog X.w) X.A (.compLoop (.ListComp t [⟨tg,iter,B,0⟩] sc pos) 0 (.ref it) (.ref a) X.env) R s:=by
 have h:∀{H':Hp},(∀ b∈fp,H' b=none)->∀ b∈fp,FpOk X [] H' b:=λhn b hb=>⟨hn b hb,(hf b hb).2⟩
 refine codeAny_loop rfl (λn j=>∃ i ys c H',Inv X [] c H' j/\tn i j.heap/\(∀ b∈fp,H' b=none)/\W i n ys c H') ?_ m ⟨i,ys,σ,H,I,st,λb hb=>(hf b hb).1,w⟩;rintro n s1 ⟨i,ys,f,Q,I1,M,N,w1⟩;show wpAny _ X.A ((compTurn (.ListComp t [⟨tg,iter,B,0⟩] sc pos) 0 (.ref it) (.ref a) X.env).onRaise (λx=>do noteFrame x X.env;theTreesLotGoes x)) _ _ s1;refine wpAny_noted ?_;rw[compTurn_list];refine u0 (wpAny_standAt (u0 ?_));obtain⟨a0,⟨stop,qd⟩|⟨go,Nx,E,step⟩⟩:=L i n ys f Q w1
 ·refine thn (T.done X rfl rfl rfl hc i [] s1 f Q _ I1 (h N) M stop) λr s2 ⟨hr,I2⟩=>?_;subst hr;exact I0 (hR ys f Q s2 I2 qd)
 ·refine thn (T.item X rfl rfl rfl hc i [] s1 f Q _ I1 (h N) M go) λr s2 ⟨u,hr,h2⟩=>?_;subst hr;refine u0 (thn h2 λ_ s3 ⟨x,H3,I3,r3,y3,q,Y⟩=>?_);have U:=I3.pinned (h Y) (T.obj _ _ q);refine u0 (Y2 (hg _ s3 f H3 x u _ U r3 (step x H3 y3)) (λ_ s4 ⟨v,H4,I4,q4⟩=>?_) λe j z=>(l e j z).elim);have back:∀{p:St}{G:Hp}{F:Shared}{zs:List V},Inv X ([]++S8 fp s3.heap) p G F->(∃ O,O<n/\W (i+1) O zs p G)->∃ m,m<n/\∃ i ys c H',Inv X [] c H' F/\tn i F.heap/\(∀ b∈fp,H' b=none)/\W i m ys c H':=λ{p G F zs} C S=>by
   obtain⟨O,hm,S⟩:=S;refine⟨O,hm,i+1,zs,p,G,C.unpinned,T.keep _ _ _ q λb hb o e=>(C.pin (b,o) (P2 _ (P2 _ (j8 hb e)))).1,λb hb=>?_,S⟩;obtain⟨o,e,d⟩:=T.obj _ _ q b hb;exact(C.pin (b,o) (P2 _ (P2 _ (j8 hb e)))).2.1
  refine u0 (Y2 (Z _ s4 v H4 _ I4 q4) (λb s5 ⟨H5,I5,P⟩=>?_) λe j z=>(l e j z).elim);cases b with
  | false =>
   rw[y0 Y1] at P;exact I0 ⟨rfl,back I5 (E _ _ _ P)⟩
  | true =>
   rw[z0 rfl] at P;refine u0 (u0 (Y2 (he _ s5 v H5 _ I5 P) (λyv s6 ⟨y,H6,I6,r6,a6,l6,w6⟩=>?_) λe j z=>(l e j z).elim));have ap:=Z8 (X:=X) _ s6 v H6 (.ref a) [y] (.ref a) [yv] (λ_ H'=>H'=upd H6 a (.lst (ys++[y]))) I6 rfl (.cons r6 .nil) ⟨a,ys,y,rfl,rfl,a6,l6,rfl⟩;refine u0 (Y2 ap (λ_ F ⟨v7,G,C,_,e7⟩=>?_) λe j z=>(l e j z).elim);subst e7;exact I0 (I0 ⟨rfl,back C (E _ _ _ w6)⟩)
def tLC(src:List (Option Nat))(wi:TI)(g:TG)(tif:TT)(te:TE):TE:=λσ H Q=>wi σ H λJ H1=>∀ acc,H1 acc=none->∃ W:LW,(∃ m,W 0 m [] (pick src σ) (upd H1 acc (.lst [])))/\xE J g tif te acc (λ_ H'=>Q (.ref acc) H') W
section
variable{X:Cx}{N:List Str}{tg iter elt:Expr}{ifs:List Expr}{sc:Scope}{src:List (Option Nat)}{wi:TI}{g:TG}{tif:TT}{te:TE}{pos:Pos}
theorem lS(hc:X.calm=true)(L:LcOk X N sc src)(U:∀ C t q ex,PG (X.comp N sc C t q ex) tg g)(H:∀ C t q ex,PIf (X.comp N sc C t q ex) ifs tif)(he:∀ C t q ex,PE (X.comp N sc C t q ex) elt te)
  {pins:List (Addr × Obj)} {d:Shared} {σ:St} {H3:Hp} {Q:VK} (j:Inv X pins σ H3 d) {it a:Addr} {fp:List Addr} {J:It} {tn:Nat->Heap->Prop} (T:Turn X.prog X.w X.K tg J fp it tn) (s:tn 0 d.heap) (l:∀ b∈fp,FpOk X pins H3 b)
  {W:LW} {Y:Nat} (Z:W 0 Y [] (pick src σ) H3) (E:xE J g tif te a (λ_ H'=>Q (.ref a) H') W) (use:Option (Value->Sem Unit)) (P:Value->Shared->Prop)
  (S:∀ C H' f m,Inv X pins σ H' f->Q (.ref a) H'->f.heap.Ns C m->H' C=none->C ≠ X.env.locals->(C∈X.ex\/X.s₀.heap.objs.size<=C)->(∀ x c,X.env.cells.lookup x=some c->c ≠ C)->(∀ p∈X.pn++pins,p.1 ≠ C) ->
   compPost (model X.prog X.w) X.A X.xe use P (.ref a) C (.ok .next) f) :
  wpAny (model X.prog X.w) X.A (newFunctionEnv sc X.env.globals (clos X.env sc.names []) [] X.env.qual none .none (some X.env)) (λh F =>
    codeAny (model X.prog X.w) X.A (.compStart (.ListComp elt [⟨tg,iter,ifs,0⟩] sc pos) 0 (.ref it) (.ref a) { h with scope:=relabel sc X.env }) (compPost (model X.prog X.w) X.A X.xe use P (.ref a) h.locals) F) X.xe d:=by
 refine wpAny_newFunctionEnv L.nocell (by intro y hy;simp at hy) (λI n r=>?_) L.kind;have O:∀ b∈fp,b<d.heap.objs.size:=λb hb=>by
  obtain⟨o,M,_⟩:=T.obj _ _ s b hb;exact M0 M
 have D:∀ b o,d.heap.get? b=some o->I.get? b=some o:=λb o e=>r.extBut b o (U1 (M0 e)) (S1 _ e);have G:=fG (t':=d.toks+([]:List (Str × Value)).length) L j l O (by simpa using n) D;have B:tn 0 I:=T.keep _ _ _ s λb _ o e=>D b o e;have f4:∀ b∈fp,FpOk (X.comp N sc d.heap.objs.size d H3 fp) [] H3 b:=λb hb =>
  ⟨(l b hb).1,(G.ok.exf b hb).1,G.ok.exfs b hb,.inl hb,(G.ok.exf b hb).2,λp R=>absurd (show p∈([]:List (Addr × Obj)) from R) (by simp)⟩
 have fin:∀(ys:List V) u H' f,Inv (X.comp N sc d.heap.objs.size d H3 fp) [] u H' f->Q (.ref a) H'->compPost (model X.prog X.w) X.A X.xe use P (.ref a) d.heap.objs.size (.ok .next) f:=λys u H' f i q'=>by
  have Jo:Inv X pins σ H' f:=j.call' (ch:=fp) i.os i.base i.hok i.bare λb hb=>⟨(l b hb).2.2.2.1,(l b hb).2.1,(l b hb).2.2.2.2.1,(l b hb).2.2.2.2.2⟩
  obtain⟨m,hn,_⟩:=i.loc;refine S _ H' f m Jo q' hn i.free (Nat.ne_of_gt j.lt) (.inr j.sz) (λx c e z=>?_) λp R z=>?_
  ·obtain⟨v,o,M,_⟩:=j.cell x c e;exact absurd (M0 M) (by rw[z];exact L3 _)
  ·exact absurd (M0 (j.pin p R).1) (by rw[z];exact L3 _)
 have loop:codeAny (model X.prog X.w) X.A (.compLoop (.ListComp elt [⟨tg,iter,ifs,0⟩] sc pos) 0 (.ref it) (.ref a) (X.comp N sc d.heap.objs.size d H3 fp).env)
   (compPost (model X.prog X.w) X.A X.xe use P (.ref a) d.heap.objs.size) { d with heap:=I,toks:=d.toks+([]:List (Str × Value)).length } :=
  qT (X:=X.comp N sc d.heap.objs.size d H3 fp) T hc (λ_ _ z=>z) (U _ _ _ _) (H _ _ _ _) (he _ _ _ _) E fin G B f4 Z
 exact codeAny_compStart_list loop (T.self _ 0 _ _ _ B loop)
theorem QG(G:X.calm=true)(L:LcOk X N sc src)(hi:PI X tg iter wi)(B:∀ C l f ex,PG (X.comp N sc C l f ex) tg g)(r:∀ C l f ex,PIf (X.comp N sc C l f ex) ifs tif)(O:∀ C l f ex,PE (X.comp N sc C l f ex) elt te)
       (I:Inv X pins σ H s) (h:tLC src wi g tif te σ H Q) (use:Option (Value->Sem Unit)) (P:Value->Shared->Prop)
  (z:∀ j C H' n m,Inv X pins σ H' n->Q (.ref j) H'->n.heap.Ns C m->H' C=none->C ≠ X.env.locals->(C∈X.ex\/X.s₀.heap.objs.size<=C)->(∀ x c,X.env.cells.lookup x=some c->c ≠ C)->(∀ p∈X.pn++pins,p.1 ≠ C) ->
   compPost (model X.prog X.w) X.A X.xe use P (.ref j) C (.ok .next) n)
  (hs:∀ x,foldedSetIterable iter X.env x=pure x) :
  wpAny (model X.prog X.w) X.A (comprehension (.ListComp elt [⟨tg,iter,ifs,0⟩] sc pos) sc X.env (firstIterPos [⟨tg,iter,ifs,0⟩] pos) (newList []) false (eval iter X.env) use) P X.xe s:=by
 refine wpAny_comprehension_free rfl hs (L.clo I.ok) L.kind L.own (thn (hi pins s σ H _ I h) λv s1 K=>thn K λR s2 E=>?_);obtain⟨it,fp,tn,J,H2,e,y,T,d,t,M⟩:=E;subst e;have a:H2 s2.heap.objs.size=none:=y.hok.fresh (Q0 _);obtain⟨W,⟨S,D⟩,i⟩:=M s2.heap.objs.size a;have q:∀ b∈fp,b<s2.heap.objs.size:=λb hb=>by
  obtain⟨o,F,_⟩:=T.obj _ _ d b hb;exact M0 F
 refine T7 ?_;refine lS G L B r O (H3:=upd H2 s2.heap.objs.size (.lst [])) ?_ T ?_ ?_ D i use P (z _)
 ·exact y.laid (t':=s2.toks) (λb u e=>S1 _ e) (Q0 _) ⟨R4 _,[],0,.nil,m3 _ rfl⟩
 ·exact T.keep _ _ _ d λb _ o e=>S1 _ e
 ·exact λb hb=>⟨by rw[G0 (U1 (q b hb))];exact(t b hb).1,(t b hb).2⟩
theorem W4(u:X.calm=true)(L:LcOk X N sc src)(hi:PI X tg iter wi)(j:∀ C c a ex,PG (X.comp N sc C c a ex) tg g)(i:∀ C c a ex,PIf (X.comp N sc C c a ex) ifs tif)(n:∀ C c a ex,PE (X.comp N sc C c a ex) elt te)
  (hs:∀ x,foldedSetIterable iter X.env x=pure x:=by intro _;rfl):PE X (.ListComp elt [⟨tg,iter,ifs,0⟩] sc pos) (tLC src wi g tif te):=by
 intro pins s σ H Q I h;rw[eval_ListComp];refine QG u L hi j i n I h none _ (λf C H' p m J q hn t l hx d r=>?_) hs;refine⟨m,hn,λh' sb=>⟨.ref f,H',?_,rfl,q⟩⟩;exact J.turned (t':=p.toks) (λb o hb e=>sb.extBut b o hb e) t l hx d r
end
section
variable{X:Cx}{N:List Str}{tg iter elt:Expr}{ifs:List Expr}{sc:Scope}{src:List (Option Nat)}{wi:TI}{g:TG}{tif:TT}{te:TE}{pos spos px:Pos}
theorem AC(M:X.N.Nodup)(n:X.N[i]?=some x)(hx:Loc X.env.scope x)(P:X.calm=true)(L:LcOk X N sc src)(hi:PI X tg iter wi)(B:∀ C j c ex,PG (X.comp N sc C j c ex) tg g)
  (u:∀ C j c ex,PIf (X.comp N sc C j c ex) ifs tif) (F:∀ C j c ex,PE (X.comp N sc C j c ex) elt te)
  (l:swapsWith (.ListComp elt [⟨tg,iter,ifs,0⟩] sc pos) (some (.Name x px)) spos.line X.env=pure true:=by rfl)
  (hf:X.fn x=true\/X.env.scope.names.lookup x=some .local:=by first|exact .inl rfl|exact .inr rfl|assumption)
  (hs:∀ x,foldedSetIterable iter X.env x=pure x:=by intro _;rfl):PS X (.Assign [.Name x px] (.ListComp elt [⟨tg,iter,ifs,0⟩] sc pos) spos) (tAsg (tLC src wi g tif te) (Z2 i)):=by
 intro pins s σ H D I h;rw[exec_Assign_Name_used _ _ _ _ l];refine u0 (wpAny_standAt (u0 ?_));show wpAny _ X.A (do let _ ← comprehension (.ListComp elt [⟨tg,iter,ifs,0⟩] sc pos) sc X.env _ (newList []) false (eval iter X.env) (some (assign (.Name x px) X.env))) _ _ s;refine u0 (Y2 (QG P L hi B u F I h (some (assign (.Name x px) X.env)) (λ_ r=>SP X pins D .next r) (λf C H' r m J q hn O y t d K=>?_) hs) (λ_ r E=>I0 (I0 E)) λ_ _ e=>e);show wpAny _ X.A (assign (.Name x px) X.env (.ref f)) _ _ _;refine wpAny_assign_Name (CH J M n hx (v:=.ref f) rfl (λs2 G ⟨a,sb,ha⟩=>?_) hf);have p:C ≠ a:=by
  rcases ha with z|z
  ·rw[z];exact y
  ·exact(d x a z).symm
 refine⟨m,hn.sameBut sb p,λh' w=>⟨_,H',?_,q⟩⟩;exact G.turned (t':=s2.toks) (λb o hb e=>w.extBut b o hb e) O y t d K
end
section
variable{g:TG}{tif:TT}{te:TE}{acc:Addr}{Qd:List V->Hp->Prop}{σ0:St}{H0:Hp}
end
def jI(J:It)(g:TG)(tif:TT)(te:TE)(acc:Addr)(Qd:List V->St->Hp->Prop)(W:LW):Prop:=∀(i m:Nat)(ys:List V)(σ:St)(H:Hp),W i m ys σ H->H acc=some (.lst ys)/\((J.stop i H/\Qd ys σ H)\/(J.go i H /\
 ∃ Nx:List V->St->Hp->Prop,(∀ ys' σ' H',Nx ys' σ' H'->∃ m',m'<m/\W (i+1) m' ys' σ' H')/\∀ x H2,J.yld i H x H2 ->
 g x σ H2 λσ3 H3=>tif σ3 H3 λb H4=>if b=true then te σ3 H4 λy H5=>H5 acc=some (.lst ys)/\ys.length<sizeLine/\Nx (ys++[y]) σ3 (upd H5 acc (.lst (ys++[y]))) else Nx ys σ3 H4))
def RC(J:It)(g:TG)(tif:TT)(wi2:TI)(g2:TG)(tif2:TT)(te:TE)(acc:Addr)(Qd:List V->Hp->Prop)(W:LW):Prop:=∀(i m:Nat)(ys:List V)(σ:St)(H:Hp),W i m ys σ H->((J.stop i H/\Qd ys H)\/(J.go i H /\
 ∃ Nx:List V->St->Hp->Prop,(∀ ys' σ' H',Nx ys' σ' H'->∃ m',m'<m/\W (i+1) m' ys' σ' H')/\∀ x H2,J.yld i H x H2 ->
 g x σ H2 λσ3 H3=>tif σ3 H3 λb H4=>if b=true then wi2 σ3 H4 λJ2 H5=>∃ W2:LW,(∃ m2,W2 0 m2 ys σ3 H5)/\jI J2 g2 tif2 te acc Nx W2 else Nx ys σ3 H4))
theorem SN(a t1 i1 f d:Expr)(f1 g:List Expr)(sc:Scope)(pos:Pos)(it b:Value)(env:Env) :
  compTurn (.ListComp a [⟨t1,i1,f1,0⟩,⟨f,d,g,0⟩] sc pos) 0 it b env=(do
   standAt i1.pos
   match ← pyNext it with
   |none=>pure (.done .next)
   | some v =>
    letOwnedTupleGo t1 it v
    assign t1 env v
    let mut ok:=true
    for c in f1 do
     if ok then ok ← isTrue c env (eval c env)
    if ok then
     let x ← eval d env
     standAt d.pos
     let x ← foldedSetIterable d env x;let _ ← runOwn (.compStart (.ListComp a [⟨t1,i1,f1,0⟩,⟨f,d,g,0⟩] sc pos) 1 (← holding [x] (pyIter x)) b env) env
    again (.compLoop (.ListComp a [⟨t1,i1,f1,0⟩,⟨f,d,g,0⟩] sc pos) 0 it b env)):=by rfl
theorem kS(a t1 i1 d f:Expr)(f1 g:List Expr)(sc:Scope)(pos:Pos)(it b:Value)(env:Env) :
  compTurn (.ListComp a [⟨t1,i1,f1,0⟩,⟨d,f,g,0⟩] sc pos) 1 it b env=(do
   standAt f.pos
   match ← pyNext it with
   |none=>pure (.done .next)
   | some v =>
    letOwnedTupleGo d it v
    assign d env v
    let mut ok:=true
    for c in g do
     if ok then ok ← isTrue c env (eval c env)
    if ok then
     (do let _ ← call (.builtin "list.append") [b,← eval a env])
    again (.compLoop (.ListComp a [⟨t1,i1,f1,0⟩,⟨d,f,g,0⟩] sc pos) 1 it b env)):=by rfl
theorem fM           
  (l:codeAny (model prog w) A (.compLoop (.ListComp d [⟨t1,i1,f1,0⟩,⟨i,g,j,0⟩] sc pos) 1 it c env) R s)
  (h:wpAny (model prog w) A (pyIter it) (λa b=>codeAny (model prog w) A (.compLoop (.ListComp d [⟨t1,i1,f1,0⟩,⟨i,g,j,0⟩] sc pos) 1 a c env) R b) (notedBy (model prog w) A env λx b=>R (.error x) b) s) :
  codeAny (model prog w) A (.compStart (.ListComp d [⟨t1,i1,f1,0⟩,⟨i,g,j,0⟩] sc pos) 1 it c env) R s:=by
 refine codeAny_of_tree ?_;show wpAny _ _ ((compStart (.ListComp d [⟨t1,i1,f1,0⟩,⟨i,g,j,0⟩] sc pos) 1 it c env).onRaise (λx=>do noteFrame x env;standAt theWindowsPlace)) _ _ s;refine wpAny_notedAt ?_;unfold compStart;show wpAny _ _ (ask >>= _) _ _ s;apply u0;apply wpAny_askSetting;apply wpAny_ite;split
 ·first|exact u0 (I0 (I0 ⟨rfl,l⟩))|exact I0 ⟨rfl,l⟩
 ·have q:wpAny (model prog w) A (pyIter it >>= λa=>again (.compLoop (.ListComp d [⟨t1,i1,f1,0⟩,⟨i,g,j,0⟩] sc pos) 1 a c env)) (λfin b=>match fin with | .done f=>R (.ok f) b | .again c'=>c'.quiet=true/\codeAny (model prog w) A c' R b) (notedBy (model prog w) A env λx b=>R (.error x) b) s :=
   u0 (Y2 h (λa b h'=>I0 ⟨rfl,h'⟩) λ_ _ x=>x)
  first
   |exact u0 (wpAny_rule (u0 (wpAny_standAt (u0 (Y2 h (λa b h'=>I0 ⟨rfl,h'⟩) λ_ _ x=>x)))))
   |(apply u0;apply wpAny_rule;show wpAny _ _ (standAt g.pos >>= _) _ _ s;exact u0 (wpAny_standAt (u0 (Y2 h (λa b h'=>I0 ⟨rfl,h'⟩) λ_ _ x=>x))))
theorem NP                 
  (T:Turn X.prog X.w X.K tg J fp it tn) (hc:X.calm=true) (l:∀ e s,¬ X.xe e s) (hg:PG X tg g) (Z:PIf X B D) (he:PE X t te)
  (L:jI J g D te a Qd W) (hR:∀ ys σ H s,Inv X pins σ H s->Qd ys σ H->R (.ok .next) s)
       (I:Inv X pins σ H s) (st:tn i s.heap) (hf:∀ b∈fp,FpOk X pins H b) (w:W i m ys σ H) :
  codeAny (model X.prog X.w) X.A (.compLoop (.ListComp t [⟨t1,i1,f1,0⟩,⟨tg,iter,B,0⟩] sc pos) 1 (.ref it) (.ref a) X.env) R s:=by
 have h:∀{H':Hp},(∀ b∈fp,H' b=none)->∀ b∈fp,FpOk X pins H' b:=λhn b hb=>⟨hn b hb,(hf b hb).2⟩
 refine codeAny_loop rfl (λn j=>∃ i ys c H',Inv X pins c H' j/\tn i j.heap/\(∀ b∈fp,H' b=none)/\W i n ys c H') ?_ m ⟨i,ys,σ,H,I,st,λb hb=>(hf b hb).1,w⟩;rintro n s1 ⟨i,ys,f,Q,I1,M,N,w1⟩;show wpAny _ X.A ((compTurn (.ListComp t [⟨t1,i1,f1,0⟩,⟨tg,iter,B,0⟩] sc pos) 1 (.ref it) (.ref a) X.env).onRaise (λx=>do noteFrame x X.env;theTreesLotGoes x)) _ _ s1;refine wpAny_noted ?_;rw[kS];refine u0 (wpAny_standAt (u0 ?_));obtain⟨a0,⟨stop,qd⟩|⟨go,Nx,E,step⟩⟩:=L i n ys f Q w1
 ·refine thn (T.done X rfl rfl rfl hc i pins s1 f Q _ I1 (h N) M stop) λr s2 ⟨hr,I2⟩=>?_;subst hr;exact I0 (hR ys f Q s2 I2 qd)
 ·refine thn (T.item X rfl rfl rfl hc i pins s1 f Q _ I1 (h N) M go) λr s2 ⟨u,hr,h2⟩=>?_;subst hr;refine u0 (thn h2 λ_ s3 ⟨x,H3,I3,r3,y3,q,Y⟩=>?_);have U:=I3.pinned (h Y) (T.obj _ _ q);refine u0 (Y2 (hg _ s3 f H3 x u _ U r3 (step x H3 y3)) (λ_ s4 ⟨v,H4,I4,q4⟩=>?_) λe j z=>(l e j z).elim);have back:∀{p:St}{G:Hp}{F:Shared}{zs:List V},Inv X (pins++S8 fp s3.heap) p G F->(∃ O,O<n/\W (i+1) O zs p G)->∃ m,m<n/\∃ i ys c H',Inv X pins c H' F/\tn i F.heap/\(∀ b∈fp,H' b=none)/\W i m ys c H':=λ{p G F zs} C S=>by
   obtain⟨O,hm,S⟩:=S;refine⟨O,hm,i+1,zs,p,G,C.unpinned,T.keep _ _ _ q λb hb o e=>(C.pin (b,o) (P2 _ (P2 _ (j8 hb e)))).1,λb hb=>?_,S⟩;obtain⟨o,e,d⟩:=T.obj _ _ q b hb;exact(C.pin (b,o) (P2 _ (P2 _ (j8 hb e)))).2.1
  refine u0 (Y2 (Z _ s4 v H4 _ I4 q4) (λb s5 ⟨H5,I5,P⟩=>?_) λe j z=>(l e j z).elim);cases b with
  | false =>
   rw[y0 Y1] at P;exact I0 ⟨rfl,back I5 (E _ _ _ P)⟩
  | true =>
   rw[z0 rfl] at P;refine u0 (u0 (Y2 (he _ s5 v H5 _ I5 P) (λyv s6 ⟨y,H6,I6,r6,a6,l6,w6⟩=>?_) λe j z=>(l e j z).elim));have ap:=Z8 (X:=X) _ s6 v H6 (.ref a) [y] (.ref a) [yv] (λ_ H'=>H'=upd H6 a (.lst (ys++[y]))) I6 rfl (.cons r6 .nil) ⟨a,ys,y,rfl,rfl,a6,l6,rfl⟩;refine u0 (Y2 ap (λ_ F ⟨v7,G,C,_,e7⟩=>?_) λe j z=>(l e j z).elim);subst e7;exact I0 (I0 ⟨rfl,back C (E _ _ _ w6)⟩)
theorem PR                   
  (T:Turn X.prog X.w X.K t1 J fp it tn) (hc:X.calm=true) (j:∀ e s,¬ X.xe e s) (hg:PG X t1 g) (a2:PIf X f1 F) (a4:PI X Z L O) (a6:PG X Z g2) (E:PIf X f2 t) (he:PE X y te)
  (a3:∀ x,foldedSetIterable L X.env x=pure x)
  (S:RC J g F O g2 t te C Qd W) (hR:∀ ys σ H s,Inv X [] σ H s->Qd ys H->R (.ok .next) s)
       (I:Inv X [] σ H s) (st:tn i s.heap) (hf:∀ b∈fp,FpOk X [] H b) (w:W i m ys σ H) :
  codeAny (model X.prog X.w) X.A (.compLoop (.ListComp y [⟨t1,i1,f1,0⟩,⟨Z,L,f2,0⟩] sc pos) 0 (.ref it) (.ref C) X.env) R s:=by
 have p:∀{H':Hp},(∀ b∈fp,H' b=none)->∀ b∈fp,FpOk X [] H' b:=λhn b hb=>⟨hn b hb,(hf b hb).2⟩
 refine codeAny_loop rfl (λn c=>∃ i ys a H',Inv X [] a H' c/\tn i c.heap/\(∀ b∈fp,H' b=none)/\W i n ys a H') ?_ m ⟨i,ys,σ,H,I,st,λb hb=>(hf b hb).1,w⟩;rintro n s1 ⟨i,ys,l,H1,I1,U,Y,w1⟩;show wpAny _ X.A ((compTurn (.ListComp y [⟨t1,i1,f1,0⟩,⟨Z,L,f2,0⟩] sc pos) 0 (.ref it) (.ref C) X.env).onRaise (λx=>do noteFrame x X.env;theTreesLotGoes x)) _ _ s1;refine wpAny_noted ?_;rw[SN];refine u0 (wpAny_standAt (u0 ?_));obtain⟨stop,qd⟩|⟨go,Nx,G,step⟩:=S i n ys l H1 w1
 ·refine thn (T.done X rfl rfl rfl hc i [] s1 l H1 _ I1 (p Y) U stop) λr s2 ⟨hr,I2⟩=>?_;subst hr;exact I0 (hR ys l H1 s2 I2 qd)
 ·refine thn (T.item X rfl rfl rfl hc i [] s1 l H1 _ I1 (p Y) U go) λr s2 ⟨u,hr,h2⟩=>?_;subst hr;refine u0 (thn h2 λ_ s3 ⟨x,H3,I3,r3,y3,v,a1⟩=>?_);have a0:=I3.pinned (p a1) (T.obj _ _ v);refine u0 (Y2 (hg _ s3 l H3 x u _ a0 r3 (step x H3 y3)) (λ_ s4 ⟨P,H4,I4,q4⟩=>?_) λe c z=>(j e c z).elim);have back:∀{q:St}{Q:Hp}{M:Shared}{zs:List V},Inv X ([]++S8 fp s3.heap) q Q M->(∃ m',m'<n/\W (i+1) m' zs q Q)->∃ m,m<n/\∃ i ys a H',Inv X [] a H' M/\tn i M.heap/\(∀ b∈fp,H' b=none)/\W i m ys a H':=λ{q Q M zs} D w7=>by
   obtain⟨m',hm,w7⟩:=w7;refine⟨m',hm,i+1,zs,q,Q,D.unpinned,T.keep _ _ _ v λb hb o e=>(D.pin (b,o) (P2 _ (P2 _ (j8 hb e)))).1,λb hb=>?_,w7⟩;obtain⟨o,e,d⟩:=T.obj _ _ v b hb;exact(D.pin (b,o) (P2 _ (P2 _ (j8 hb e)))).2.1
  refine u0 (Y2 (a2 _ s4 P H4 _ I4 q4) (λb s5 ⟨H5,I5,q5⟩=>?_) λe c z=>(j e c z).elim);cases b with
  | false =>
   rw[y0 Y1] at q5;exact I0 ⟨rfl,back I5 (G _ _ _ q5)⟩
  | true =>
   rw[z0 rfl] at q5;refine u0 (Y2 (a4 _ s5 P H5 _ I5 q5) (λxv s6 h6=>?_) λe c z=>(j e c z).elim);refine u0 (wpAny_standAt (u0 ?_));rw[a3 xv];refine I0 (u0 (U3 (Y2 h6 (λa8 M h7=>?_) λe c z=>(j e c z).elim)));obtain⟨a7,a9,b2,J2,Q,e,D,T2,N,a5,W2,⟨m2,w2⟩,B⟩:=h7;subst e;refine u0 (wpAny_runOwn ?_);have loop:=NP (R:=λr c=>match r with | .ok f=>(∃ m,m<n/\∃ i ys a H',Inv X [] a H' c/\tn i c.heap/\(∀ b∈fp,H' b=none)/\W i m ys a H') | .error e=>False) (t1:=t1) (i1:=i1) (f1:=f1) (iter:=L) (sc:=sc) (pos:=pos) T2 hc j a6 E he B (λb1 b0 H8 s8 I8 q8=>back I8 (G _ _ _ q8)) D N a5 w2;have st:=fM loop (T2.self _ 0 _ _ _ N loop);refine K8 st λr c h=>?_;cases r with
   |error e=>exact h.elim
   |ok f=>exact I0 ⟨rfl,h⟩
def tLC2(src:List (Option Nat))(wi:TI)(g:TG)(tif:TT)(wi2:TI)(g2:TG)(tif2:TT)(te:TE):TE:=λσ H Q=>wi σ H λJ H1=>∀ acc,H1 acc=none->∃ W:LW,(∃ m,W 0 m [] (pick src σ) (upd H1 acc (.lst [])))/\RC J g tif wi2 g2 tif2 te acc (λ_ H'=>Q (.ref acc) H') W
section
variable{X:Cx}{N:List Str}{t1 i1 t2 i2 elt:Expr}{f1 f2:List Expr}{sc:Scope}{src:List (Option Nat)}{wi wi2:TI}{g g2:TG}{tif tif2:TT}{te:TE}{pos:Pos}
theorem wQ(hc:X.calm=true)(L:LcOk X N sc src)(hg:∀ C h f ex,PG (X.comp N sc C h f ex) t1 g)(I:∀ C h f ex,PIf (X.comp N sc C h f ex) f1 tif)(S:∀ C h f ex,PI (X.comp N sc C h f ex) t2 i2 wi2)(Z:∀ C h f ex,PG (X.comp N sc C h f ex) t2 g2)(t:∀ C h f ex,PIf (X.comp N sc C h f ex) f2 tif2)(he:∀ C h f ex,PE (X.comp N sc C h f ex) elt te)
  (R:∀ C h f ex x,foldedSetIterable i2 (X.comp N sc C h f ex).env x=pure x)
  {pins:List (Addr × Obj)} {d:Shared} {σ:St} {H3:Hp} {Q:VK} (n:Inv X pins σ H3 d) {it a:Addr} {fp:List Addr} {J:It} {tn:Nat->Heap->Prop} (T:Turn X.prog X.w X.K t1 J fp it tn) (u:tn 0 d.heap) (q:∀ b∈fp,FpOk X pins H3 b)
  {W:LW} {m0:Nat} (w0:W 0 m0 [] (pick src σ) H3) (F:RC J g tif wi2 g2 tif2 te a (λ_ H'=>Q (.ref a) H') W) (use:Option (Value->Sem Unit)) (P:Value->Shared->Prop)
  (hP:∀ C H' i m,Inv X pins σ H' i->Q (.ref a) H'->i.heap.Ns C m->H' C=none->C ≠ X.env.locals->(C∈X.ex\/X.s₀.heap.objs.size<=C)->(∀ x c,X.env.cells.lookup x=some c->c ≠ C)->(∀ p∈X.pn++pins,p.1 ≠ C) ->
   compPost (model X.prog X.w) X.A X.xe use P (.ref a) C (.ok .next) i) :
  wpAny (model X.prog X.w) X.A (newFunctionEnv sc X.env.globals (clos X.env sc.names []) [] X.env.qual none .none (some X.env)) (λj G =>
    codeAny (model X.prog X.w) X.A (.compStart (.ListComp elt [⟨t1,i1,f1,0⟩,⟨t2,i2,f2,0⟩] sc pos) 0 (.ref it) (.ref a) { j with scope:=relabel sc X.env }) (compPost (model X.prog X.w) X.A X.xe use P (.ref a) j.locals) G) X.xe d:=by
 refine wpAny_newFunctionEnv L.nocell (by intro y hy;simp at hy) (λM r s=>?_) L.kind;have U:∀ b∈fp,b<d.heap.objs.size:=λb hb=>by
  obtain⟨o,O,_⟩:=T.obj _ _ u b hb;exact M0 O
 have E:∀ b o,d.heap.get? b=some o->M.get? b=some o:=λb o e=>s.extBut b o (U1 (M0 e)) (S1 _ e);have H:=fG (t':=d.toks+([]:List (Str × Value)).length) L n q U (by simpa using r) E;have D:tn 0 M:=T.keep _ _ _ u λb _ o e=>E b o e;have f4:∀ b∈fp,FpOk (X.comp N sc d.heap.objs.size d H3 fp) [] H3 b:=λb hb =>
  ⟨(q b hb).1,(H.ok.exf b hb).1,H.ok.exfs b hb,.inl hb,(H.ok.exf b hb).2,λp Y=>absurd (show p∈([]:List (Addr × Obj)) from Y) (by simp)⟩
 have fin:∀(ys:List V) B H' i,Inv (X.comp N sc d.heap.objs.size d H3 fp) [] B H' i->Q (.ref a) H'->compPost (model X.prog X.w) X.A X.xe use P (.ref a) d.heap.objs.size (.ok .next) i:=λys B H' i l q'=>by
  have Jo:Inv X pins σ H' i:=n.call' (ch:=fp) l.os l.base l.hok l.bare λb hb=>⟨(q b hb).2.2.2.1,(q b hb).2.1,(q b hb).2.2.2.2.1,(q b hb).2.2.2.2.2⟩
  obtain⟨m,hn,_⟩:=l.loc;refine hP _ H' i m Jo q' hn l.free (Nat.ne_of_gt n.lt) (.inr n.sz) (λx c e z=>?_) λp Y z=>?_
  ·obtain⟨v,o,O,_⟩:=n.cell x c e;exact absurd (M0 O) (by rw[z];exact L3 _)
  ·exact absurd (M0 (n.pin p Y).1) (by rw[z];exact L3 _)
 have loop:codeAny (model X.prog X.w) X.A (.compLoop (.ListComp elt [⟨t1,i1,f1,0⟩,⟨t2,i2,f2,0⟩] sc pos) 0 (.ref it) (.ref a) (X.comp N sc d.heap.objs.size d H3 fp).env)
   (compPost (model X.prog X.w) X.A X.xe use P (.ref a) d.heap.objs.size) { d with heap:=M,toks:=d.toks+([]:List (Str × Value)).length } :=
  PR (X:=X.comp N sc d.heap.objs.size d H3 fp) T hc (λ_ _ z=>z) (hg _ _ _ _) (I _ _ _ _) (S _ _ _ _) (Z _ _ _ _) (t _ _ _ _) (he _ _ _ _) (R _ _ _ _) F fin H D f4 w0
 exact codeAny_compStart_list loop (T.self _ 0 _ _ _ D loop)
theorem RN(F:X.calm=true)(L:LcOk X N sc src)(hi:PI X t1 i1 wi)(A:∀ C c a ex,PG (X.comp N sc C c a ex) t1 g)(w:∀ C c a ex,PIf (X.comp N sc C c a ex) f1 tif)(p:∀ C c a ex,PI (X.comp N sc C c a ex) t2 i2 wi2)(y:∀ C c a ex,PG (X.comp N sc C c a ex) t2 g2)(j:∀ C c a ex,PIf (X.comp N sc C c a ex) f2 tif2)(O:∀ C c a ex,PE (X.comp N sc C c a ex) elt te)
  (hs:∀ x,foldedSetIterable i1 X.env x=pure x:=by intro _;rfl) (n:∀ C c a ex x,foldedSetIterable i2 (X.comp N sc C c a ex).env x=pure x:=by intros;rfl):PE X (.ListComp elt [⟨t1,i1,f1,0⟩,⟨t2,i2,f2,0⟩] sc pos) (tLC2 src wi g tif wi2 g2 tif2 te):=by
 intro pins s σ H Q I h;rw[eval_ListComp];refine wpAny_comprehension_free rfl hs (L.clo I.ok) L.kind L.own (thn (hi pins s σ H _ I h) λv s1 K=>thn K λU s2 D=>?_);obtain⟨it,fp,tn,J,H2,e,z,T,f,l,M⟩:=D;subst e;have d:H2 s2.heap.objs.size=none:=z.hok.fresh (Q0 _);obtain⟨W,⟨Y,B⟩,i⟩:=M s2.heap.objs.size d;have t:∀ b∈fp,b<s2.heap.objs.size:=λb hb=>by
  obtain⟨o,E,_⟩:=T.obj _ _ f b hb;exact M0 E
 refine T7 ?_;refine wQ (pins:=pins) F L A w p y j O n (H3:=upd H2 s2.heap.objs.size (.lst [])) ?_ T ?_ ?_ B i none _ ?_
 ·exact z.laid (t':=s2.toks) (λb u e=>S1 _ e) (Q0 _) ⟨R4 _,[],0,.nil,m3 _ rfl⟩
 ·exact T.keep _ _ _ f λb _ o e=>S1 _ e
 ·exact λb hb=>⟨by rw[G0 (U1 (t b hb))];exact(l b hb).1,(l b hb).2⟩
 ·intro C H' P m J q hn S G hx r R;refine⟨m,hn,λh' sb=>⟨.ref s2.heap.objs.size,H',?_,rfl,q⟩⟩;exact J.turned (t':=P.toks) (λb o hb e=>sb.extBut b o hb e) S G hx r R
end
def rLen(K:Frag):List V->Hp->VK->Prop:=λxs H Q=>∃ p ys,xs=[.ref p]/\(SqL K H p ys\/SqT K H p ys)/\Q (.int ys.length) H
theorem u6:l2 X (.builtin "len") (rLen X.K):=CS
def SB:List V->Hp->VK->Prop:=λxs H Q=>∃ i j,xs=[.int i,.int j]/\Q (.int (if j > i then j else i)) H
def kB:List V->Hp->VK->Prop:=λxs H Q=>∃ i j,xs=[.int i,.int j]/\Q (.int (if j<i then j else i)) H
theorem iM(a:X.calm=true):l2 X (.builtin "max") SB:=bL a
theorem aG(a:X.calm=true):l2 X (.builtin "min") kB:=DN a
section
variable{σ:St}{H:Hp}{D:Ends}{K:Frag}
theorem AG(h:Q (σ.set i (some v)) H):Z2 i v σ H Q:=h
theorem VG(h:Q [] H):tNil σ H Q:=h
theorem xK(h:t σ H λxs a=>xs.length<=sizeLine/\∀ p,a p=none->Q (.ref p) (upd a p (.lst xs))):tLst t σ H Q:=h
theorem RE(h:Q (.bl (decide (i=j))) H):rEq (.int i) (.int j) H Q:=by
 have e:decide (V.int i=V.int j)=decide (i=j):=by rw[HC];exact Bool.beq_eq_decide_eq i j
 exact⟨rfl,by rw[e];exact h⟩
theorem AK(h:Q (.bl (!decide (i=j))) H):rNe (.int i) (.int j) H Q:=by
 have e:decide (V.int i=V.int j)=decide (i=j):=by rw[HC];exact Bool.beq_eq_decide_eq i j
 exact⟨rfl,by rw[e];exact h⟩
theorem LO(ha:H a=some (.lst xs))(b:Y0 xs i=some v)(h:Q v H):rIxL K (.ref a) (.int i) H Q:=⟨a,xs,i,v,rfl,rfl,SqL.of ha,b,h⟩
theorem bM(ha:H a=some (.tup xs))(b:Y0 xs i=some v)(h:Q v H):rIxT K (.ref a) (.int i) H Q:=⟨a,xs,i,v,rfl,rfl,SqT.of ha,b,h⟩
theorem hH(ha:H a=some (.lst xs))(b:ixN xs.length k=some j)(h:Q (upd H a (.lst (xs.set j v)))):BE (.ref a) (.int k) v H Q:=⟨a,xs,k,j,rfl,rfl,ha,b,h⟩
theorem gD(ha:H a=some (.lst xs))(b:xs.length<sizeLine)(h:Q .non (upd H a (.lst (xs++[y])))):fA (.ref a) [y] H Q:=⟨a,xs,y,rfl,rfl,ha,b,h⟩
theorem gS(ha:H a=some (.lst xs))(hb:H b=some (.lst c))(d:xs.length+c.length<=sizeLine)(h:∀ p,H p=none->Q (.ref p) (upd H p (.lst (xs++c)))):rCat (.ref a) (.ref b) H Q:=⟨a,b,xs,c,rfl,rfl,ha,hb,d,h⟩
theorem hI(ha:H a=some (.lst xs))(h:Q (.int xs.length) H):rLen K [.ref a] H Q:=⟨a,xs,rfl,.inl (SqL.of ha),h⟩
theorem MJ(ha:H a=some (.tup xs))(h:Q (.int xs.length) H):rLen K [.ref a] H Q:=⟨a,xs,rfl,.inr (SqT.of ha),h⟩
theorem xI(h:Q (.int (if j > i then j else i)) H):SB [.int i,.int j] H Q:=⟨i,j,rfl,h⟩
theorem mI(h:Q (.int (if j<i then j else i)) H):kB [.int i,.int j] H Q:=⟨i,j,rfl,h⟩
theorem vE{c:Prop} [Decidable c] {A B:Prop} (a:c) (h:A):if decide c=true then A else B:=by rw[D3 a];exact iteT h
theorem eD{c:Prop} [Decidable c] {A B:Prop} (a:¬ c) (h:B):if decide c=true then A else B:=by rw[Q1 a];exact iteF h
theorem v6{c:Prop} [Decidable c] {A B:Prop} (a:c->A) (b:¬ c->B):if decide c=true then A else B:=by
 by_cases hc:c
 ·exact vE hc (a hc)
 ·exact eD hc (b hc)
end
structure CallOk(P:Program)(w:World)(K:Frag)(mg:Str->Option Value)(base:Heap)(x:Str)(k:Nat)(ps:List Str)(sp:Sp)(f:Addr)(fd:FuncData):Prop where
 ok:FnOk P w K mg base CX0 k f fd ps sp
 mgx:mg x=some (.ref f)
 kp:keepIn K (.ref f)=true
 bd:Binds K fd ps []
def Can(P:Program)(w:World)(K:Frag)(mg:Str->Option Value)(base:Heap)(x:Str)(k:Nat)(ps:List Str)(sp:Sp):Prop:=∃ f fd,CallOk P w K mg base x k ps sp f fd
structure DefAt(K:Frag)(mg:Str->Option Value)(x:Str)(st:Stmt)(ps:List Str)(f:Addr)(fd:FuncData):Prop where
 fn:Fun K x x st f fd
 mgx:mg x=some (.ref f)
 bd:Binds K fd ps []
theorem DefAt.can{P:Program}{w:World}{K:Frag}{mg:Str->Option Value}{base:Heap}{x:Str}{st:Stmt}{k:Nat}{ps:List Str}{sp:Sp}{f:Addr}{fd:FuncData}(D:DefAt K mg x st ps f fd)(ok:FnOk P w K mg base CX0 k f fd ps sp):Can P w K mg base x k ps sp :=
 ⟨f,fd,ok,D.mgx,D.fn.kp,D.bd⟩
section
variable{X:Cx}{k j:Nat}{ps:List Str}{sp:Sp}{x:Str}{p pos:Pos}{e:Expr}{es:List Expr}{t:TA}
theorem R0(F:Can X.prog X.w X.K X.mg X.base x k ps sp)(g:Room j X.A)(ha:PA X (e::es) t)(c:k<=j:=by decide)(h:Gl X x:=by rfl)(a:(x == ("__debug__" : Str))=false:=by decide)
  (d:starEach (e::es) X.env=(false,eval e X.env)::starEach es X.env:=by rfl) (b:(backTo pos (starEach es X.env)).any (·.1)=false:=by rfl) :
  PE X (.Call (.Name x p) (e::es) [] pos) (F3 sp [] E0 t):=by
 obtain⟨f,fd,C⟩:=F;exact zI C.ok (g.mono c) h C.mgx C.kp C.bd .nil O9 ha a d b
end
theorem N3(b:sc.kind=.function)(g:sc.names.all (λy=>y.2 != .cell)=true)(c:sc.names.all (λy=>y.2 != .local || sc.names.lookup y.1 == some .local)=true)
  (h:sc.names.all (λy=>y.2 != .free || X.env.kindOf y.1 == some .cell || X.env.kindOf y.1 == some .free)=true) (d:src.length=N.length)
  (f:(List.range src.length).all (λi=>match src[i]? with|some (some j)=>(match N[i]?,X.N[j]? with|some x,some y=>x == y && sc.names.lookup x == some .free|_,_=>false)|_=>true)=true):LcOk X N sc src:=by
 refine⟨b,λy a e=>?_,λy a e=>?_,λy a e=>?_,d,λi j e=>?_⟩
 ·have:=R3.mp g y a;rw[e] at this;exact absurd this (by decide)
 ·have:=R3.mp c y a;rw[e] at this;simpa using this
 ·have:=R3.mp h y a;rw[e] at this;simpa using this
 ·have hi:i<src.length:=(R1.mp e).1;have:=R3.mp f i (X2.mpr hi);rw[e] at this;dsimp only at this;cases h7:N[i]? with
  |none=>rw[h7] at this;cases this
  | some x =>
   cases h8:X.N[j]? with
   |none=>rw[h7,h8] at this;cases this
   | some y =>
    rw[h7,h8] at this;simp only[N4] at this;have l:x=y:=by simpa using this.1
    subst l;exact⟨x,rfl,rfl,by simpa using this.2⟩
section
variable{σ:St}{H:Hp}{D:Ends}{K:Frag}
theorem kT(ha:SqL K H a xs)(b:Y0 xs i=some v)(h:Q v H):rIxL K (.ref a) (.int i) H Q:=⟨a,xs,i,v,rfl,rfl,ha,b,h⟩
theorem fO(ha:SqL K H a xs)(h:Q (.int xs.length) H):rLen K [.ref a] H Q:=⟨a,xs,rfl,.inl ha,h⟩
theorem JF(h:Q true H):tYes σ H Q:=h
end
end L2
namespace L2
open PySem
theorem M5:bootBuiltins "len" = some (.builtin "len"):=by decide +kernel
theorem VA:bootBuiltins "max" = some (.builtin "max"):=by decide +kernel
theorem HI:bootBuiltins "min" = some (.builtin "min"):=by decide +kernel
theorem lE:bootBuiltins "sorted" = some (.builtin "sorted"):=by decide +kernel
theorem y4:bootBuiltins "isinstance" = some (.builtin "isinstance"):=by decide +kernel
theorem nC:bootBuiltins "all" = some (.builtin "all"):=by decide +kernel
theorem vH:bootBuiltins "int" = some (.type "int"):=by decide +kernel
theorem WK:bootBuiltins "list" = some (.type "list"):=by decide +kernel
theorem RB:bootBuiltins "tuple" = some (.type "tuple"):=by decide +kernel
theorem mQ:bootBuiltins "bool" = some (.type "bool"):=by decide +kernel
theorem p9:bootBuiltins "str" = some (.type "str"):=by decide +kernel
theorem FJ:bootBuiltins "zip" = some (.type "zip"):=by decide +kernel
end L2
namespace TS
open PySem PyProof.Rows
def uD:Bool->Keyed->Array Keyed->Nat->Nat->Nat->StateT SortSt Sem (Option Nat):=sortPriv% PySem.Builtin.gallop
def VS:Array Keyed->Array Keyed->StateT SortSt Sem (Array Keyed):=sortPriv% PySem.Builtin.mergeLo
def CP:Array Keyed->Array Keyed->StateT SortSt Sem (Array Keyed):=sortPriv% PySem.Builtin.mergeHi
def bG:Nat->StateT SortSt Sem Bool:=sortPriv% PySem.Builtin.mergeAt
def XN:Nat->Nat->StateT SortSt Sem (Option Nat):=sortPriv% PySem.Builtin.countRun
def LS:Nat->Nat->Nat->StateT SortSt Sem Bool:=sortPriv% PySem.Builtin.binarySort
def sT:StateT SortSt Sem Unit:=sortPriv% PySem.Builtin.sortRuns
structure Cmp(M:Model)(A:Around)(E:Value->Shared->Prop)(s:Shared)(κ:SortKind)(S:Keyed->Prop)(R:Keyed->Keyed->Bool):Prop where
 ask:∀ x y,S x->S y->∀(Q:Option Bool->SortSt->Prop)(st:SortSt),kindOf st = κ->Q (some (R x y)) st->wpS M A E s (lt' x y) Q st
 asy:∀ x y,S x->S y->R x y=true->R y x=false
 tr:∀ x y z,S x->S y->S z->R y x=false->R z y=false->R z x=false
theorem J3{arr:Array Keyed}{i:Nat}{x:Keyed}{Q:Keyed->SortSt->Prop}{st:SortSt}(hx:arr[i]?=some x)(h:Q x st):wpS M A E s (elem' arr i) Q st:=by
 rw[elem'_eq,hx];exact wpS_pure h
theorem S9{x:String}{Q:Unit->SortSt->Prop}{st:SortSt}(h:Q () st):wpS M A E s (liftM (PySem.rule x):StateT SortSt Sem Unit) Q st :=
 wpS_lift (wpAny_rule ⟨rfl,h⟩)
def bey(left:Bool)(key:Keyed)(arr:Array Keyed)(base i:Nat):StateT SortSt Sem (Option Bool):=do
 let x ← elem' arr (base+i)
 if left=true then lt' x key else do
  let r ← lt' key x
  pure (Option.map (λb=>!b) r)
theorem LG{left:Bool}{p:Keyed}{arr:Array Keyed}{base n a:Nat}{B:Nat->Bool}
  (hb:∀ i,i<n->∀(Q:Option Bool->SortSt->Prop)(st:SortSt),kindOf st = κ->Q (some (B i)) st->wpS M A E s (bey left p arr base i) Q st)
  (mono:∀ i j,i<j->j<n->B j=true->B i=true) (hh:a<n) {Q:Option Nat->SortSt->Prop} {st:SortSt} (x:kindOf st = κ)
  (h:∀ k,k<=n->(∀ i,i<k->B i=true)->(∀ i,k<=i->i<n->B i=false)->Q (some k) st):wpS M A E s (uD left p arr base n a) Q st:=by
 have c:∀ i j,i<j->j<n->B i=false->B j=false:=λi j y H hi=>by
  cases e:B j with
  |false=>rfl
  |true=>rw[mono i j y H e] at hi;cases hi
 -- the last loop
 have last:∀(lo hi:Nat)(F:Option (Option Nat) × Nat × Nat->StateT SortSt Sem (Option Nat)),lo<=hi->hi<=n->(∀ i,i<lo->B i=true)->(∀ i,hi<=i->i<n->B i=false) ->
   (∀ lo hi,F (none,lo,hi)=pure (some hi)) ->
   wpS M A E s (forIn [:n] ((none,lo,hi):Option (Option Nat) × Nat × Nat) (λ(_:Nat) z=>if z.2.1 ≥ z.2.2 then pure (ForInStep.done (none,z.2.1,z.2.2)) else bey left p arr base (z.2.1+(z.2.2-z.2.1) / 2) >>= λr=>match r with
    |some more=>if more=true then pure (ForInStep.yield (none,z.2.1+(z.2.2-z.2.1) / 2+1,z.2.2)) else pure (ForInStep.yield (none,z.2.1,z.2.1+(z.2.2-z.2.1) / 2))
    |_=>pure (ForInStep.done (some none,z.2.1,z.2.2))) >>= F) Q st:=by
  intro lo hi F J I G L C;refine wpS_bind (wpS_forRange (λt z st'=>st'=st/\z.1=none/\z.2.1<=z.2.2/\z.2.2<=n/\z.2.2-z.2.1+t<=n/\(∀ i,i<z.2.1->B i=true)/\(∀ i,z.2.2<=i->i<n->B i=false)) ?_ ?_ ⟨rfl,rfl,J,I,by dsimp only;lia,G,L⟩)
  ·rintro t ⟨o,l,u⟩ st' _ D ⟨rfl,e,q,d,b,g,w⟩;dsimp only at e q d b g w ⊢;subst e;by_cases hlu:l ≥ u
   ·rw[z0 hlu];have:l=u:=by lia
    subst this;exact wpS_pure (by dsimp only;rw[C];exact wpS_pure (h l d g w))
   ·rw[y0 hlu];have hm:l+(u-l) / 2<u:=by lia
    refine wpS_bind (hb _ (by lia) _ _ x ?_);dsimp only;cases e:B (l+(u-l) / 2) with
    | true =>
     rw[z0 rfl];refine wpS_pure ⟨rfl,rfl,by dsimp only;lia,d,by dsimp only;lia,λi hi=>?_,w⟩;dsimp only at hi;by_cases hi2:i=l+(u-l) / 2
     ·rw[hi2];exact e
     ·exact mono i _ (by lia) (by lia) e
    | false =>
     rw[y0 (by simp)];refine wpS_pure ⟨rfl,rfl,by dsimp only;lia,by dsimp only;lia,by dsimp only;lia,g,λi hi hn=>?_⟩;dsimp only at hi;by_cases hi2:i=l+(u-l) / 2
     ·rw[hi2];exact e
     ·exact c _ i (by lia) hn e
  ·rintro ⟨o,l,u⟩ st' ⟨rfl,e,q,d,b,g,w⟩;dsimp only at e q d b g w ⊢;subst e
   have : l = u := by have:n ≤ max 0 n := by lia
                      lia
   subst this;rw[C];exact wpS_pure (h l d g w)
 refine wpS_bind (f:=λK=>_) (m:=bey left p arr base a) (hb a hh _ st x ?_);dsimp only;cases e0:B a with
 | true =>
  rw[z0 rfl];refine wpS_bind ?_;refine wpS_forRange (λt (z:Option (Option Nat) × Nat × Nat) st'=>st'=st/\z.1=none/\z.2.1<z.2.2/\a+z.2.1<n/\B (a+z.2.1)=true/\t+1<=z.2.2) ?_ ?_ ⟨rfl,rfl,by decide,by dsimp only;lia,e0,Nat.le_refl _⟩
  ·rintro t ⟨o,l,u⟩ st' _ D ⟨rfl,e,q,d,b,g⟩;dsimp only at e q d b g ⊢;subst e;by_cases hu:u ≥ n-a
   ·rw[z0 hu];refine wpS_pure ?_;dsimp only;refine last _ _ _ (by lia) (by lia) (λi hi=>?_) (λi hi hn=>by lia) (λ_ _=>rfl);by_cases hi2:i=a+l
    ·rw[hi2];exact b
    ·exact mono i _ (by lia) d b
   ·rw[y0 hu];refine wpS_bind (m:=bey left p arr base (a+u)) (hb _ (by lia) _ _ x ?_);dsimp only;cases e1:B (a+u) with
    | true =>
     rw[y0 (by decide)];exact wpS_pure ⟨rfl,rfl,by dsimp only;lia,by dsimp only;lia,e1,by dsimp only;lia⟩
    | false =>
     rw[z0 (by decide)];refine wpS_pure ?_;dsimp only;refine last _ _ _ (by lia) (by lia) (λi hi=>?_) (λi hi hn=>?_) (λ_ _=>rfl)
     ·by_cases hi2:i=a+l
      ·rw[hi2];exact b
      ·exact mono i _ (by lia) d b
     ·by_cases hi2:i=a+u
      ·rw[hi2];exact e1
      ·exact c _ i (by lia) hn e1
  ·rintro⟨o,l,u⟩ st' ⟨rfl,e,q,d,b,g⟩;dsimp only at e q d b g ⊢;subst e;dsimp only;refine last _ _ _ (by lia) (by lia) (λi hi=>?_) (λi hi hn=>by lia) (λ_ _=>rfl);by_cases hi2:i=a+l
   ·rw[hi2];exact b
   ·exact mono i _ (by lia) d b
 | false =>
  rw[y0 (by decide)];refine wpS_bind ?_;refine wpS_forRange (λt (z:Option (Option Nat) × Nat × Nat) st'=>st'=st/\z.1=none/\z.2.1<z.2.2/\z.2.1<=a/\B (a-z.2.1)=false/\t+1<=z.2.2) ?_ ?_ ⟨rfl,rfl,by decide,R4 _,e0,Q0 _⟩
  ·rintro t ⟨o,l,u⟩ st' _ D ⟨rfl,e,q,d,b,g⟩;dsimp only at e q d b g ⊢;subst e;have v:∀ i,a-l<=i->i<n->B i=false:=λi hi hn=>by
    by_cases hi2:i=a-l
    ·rw[hi2];exact b
    ·exact c _ i (by lia) hn b
   by_cases hu:u ≥ a+1
   ·rw[z0 hu];refine wpS_pure ?_;dsimp only;exact last _ _ _ (by lia) (by lia) (λi hi=>by lia) v (λ_ _=>rfl)
   ·rw[y0 hu];refine wpS_bind (m:=bey left p arr base (a-u)) (hb _ (by lia) _ _ x ?_);dsimp only;cases e1:B (a-u) with
    | true =>
     rw[z0 rfl];refine wpS_pure ?_;dsimp only;refine last _ _ _ (by lia) (by lia) (λi hi=>?_) v (λ_ _=>rfl);by_cases hi2:i=a-u
     ·rw[hi2];exact e1
     ·exact mono i _ (by lia) (by lia) e1
    | false =>
     rw[y0 (by decide)];exact wpS_pure ⟨rfl,rfl,by dsimp only;lia,by dsimp only;lia,e1,by dsimp only;lia⟩
  ·rintro⟨o,l,u⟩ st' ⟨rfl,e,q,d,b,g⟩;dsimp only at e q d b g ⊢;subst e;dsimp only;refine last _ _ _ (by lia) (by lia) (λi hi=>by lia) (λi hi hn=>?_) (λ_ _=>rfl);by_cases hi2:i=a-l
   ·rw[hi2];exact b
   ·exact c _ i (by lia) hn b
def Srt(R:Keyed->Keyed->Bool)(l:List Keyed):Prop:=l.Pairwise λx y=>R y x=false
structure Mid(R:Keyed->Keyed->Bool)(L out a b:List Keyed):Prop where
 perm:(out++a++b).Perm L
 so:Srt R out
 le:∀ x∈out,∀ y∈a++b,R y x=false
 sa:Srt R a
 sb:Srt R b
theorem Mid.takeA(m:Mid R L out (p++a) b)(h:∀ x∈p,∀ y∈b,R y x=false):Mid R L (out++p) a b:=by
 have sp:=V3.mp m.sa;refine⟨by have:=m.perm;rw[← V2] at this;exact this,V3.mpr ⟨m.so,sp.1,λx hx y c=>m.le x hx y (J5 _ (J5 _ c))⟩,λx hx y c=>?_,sp.2.1,m.sb⟩;rcases N2.mp hx with hx|hx
 ·refine m.le x hx y ?_;rcases N2.mp c with c|c
  ·exact J5 _ (P2 _ c)
  ·exact P2 _ c
 ·rcases N2.mp c with c|c
  ·exact sp.2.2 x hx y c
  ·exact h x hx y c
theorem Mid.takeB(m:Mid R L out a (p++b))(h:∀ x∈p,∀ y∈a,R y x=false):Mid R L (out++p) a b:=by
 have sp:=V3.mp m.sb;refine⟨List.Perm.trans ?_ m.perm,V3.mpr ⟨m.so,sp.1,λx hx y c=>m.le x hx y (P2 _ (J5 _ c))⟩,λx hx y c=>?_,m.sa,sp.2.1⟩
 ·rw[← V2 (out++a) p b];refine List.Perm.append_right b ?_;rw[V2,V2];exact List.Perm.append_left out List.perm_append_comm
 ·rcases N2.mp hx with hx|hx
  ·refine m.le x hx y ?_;rcases N2.mp c with c|c
   ·exact J5 _ c
   ·exact P2 _ (P2 _ c)
  ·rcases N2.mp c with c|c
   ·exact h x hx y c
   ·exact sp.2.2 x hx y c
theorem Mid.done(m:Mid R L out a b)(h:a=[]\/b=[]):(out++a++b).Perm L/\Srt R (out++a++b):=by
 refine⟨m.perm,?_⟩;rw[V2];refine V3.mpr ⟨m.so,?_,m.le⟩;rcases h with h|h
 ·subst h;exact m.sb
 ·subst h;rw[z5];exact m.sa
theorem Mid.last(m:Mid R L out a b)(h:∀ y∈b,∀ x∈a,R x y=false):(out++b++a).Perm L/\Srt R (out++b++a):=by
 refine⟨List.Perm.trans ?_ m.perm,?_⟩
 ·rw[V2,V2];exact List.Perm.append_left out List.perm_append_comm
 ·rw[V2];refine V3.mpr ⟨m.so,V3.mpr ⟨m.sb,m.sa,h⟩,λx hx y c=>m.le x hx y ?_⟩;rcases N2.mp c with c|c
  ·exact P2 _ c
  ·exact J5 _ c
structure Eqv(st st':SortSt):Prop where
 k:kindOf st'=kindOf st
 a:arrOf st'=arrOf st
 p:pendingOf st'=pendingOf st
 f:failedOf st'=failedOf st
theorem Eqv.refl(st:SortSt):Eqv st st:=⟨rfl,rfl,rfl,rfl⟩
theorem Eqv.trans{a b c:SortSt}(h:Eqv a b)(g:Eqv b c):Eqv a c:=⟨g.k.trans h.k,g.a.trans h.a,g.p.trans h.p,g.f.trans h.f⟩
theorem mC(a:Array Keyed)(i:Nat):(a.extract i a.size).toList=a.toList.drop i:=by
 rw[Array.toList_extract];simp only[List.extract_eq_take_drop];exact S7 (by simp)
theorem ID(a:Array Keyed)(i k:Nat):(a.extract i (i+k)).toList=(a.toList.drop i).take k:=by
 rw[Array.toList_extract];simp[List.extract]
theorem v5{a:Array Keyed}{i:Nat}(h:i<a.size):a.toList.drop i=a[i]::a.toList.drop (i+1):=by
 rw[List.drop_eq_getElem_cons (by simpa using h)];simp
theorem Cmp.irr(C:Cmp M A E s κ S R)(hx:S x):R x x=false:=by
 cases e:R x x with
 |false=>rfl
 |true=>have:=C.asy x x hx hx e;rw[e] at this;cases this
theorem jE(C:Cmp M A E s κ S R){a:Keyed}{arr:Array Keyed}{base n l:Nat}(g:S a)(L:∀ x∈arr.toList,S x)(hn:base+n<=arr.size)(hs:Srt R ((arr.toList.drop base).take n))(hh:l<n)
  {Q:Option Nat->SortSt->Prop} {st:SortSt} (O:kindOf st = κ)
  (h:∀ k,k<=n->(∀ x∈(arr.toList.drop base).take k,R a x=false)->(∀ x∈((arr.toList.drop base).take n).drop k,R a x=true)->Q (some k) st) :
  wpS M A E s (uD false a arr base n l) Q st:=by
 have b:∀ i,i<n->∃ x,arr[base+i]?=some x/\S x/\((arr.toList.drop base).take n)[i]?=some x:=λi hi=>by
  have q:base+i<arr.size:=by lia
  refine⟨arr[base+i],S2 q,L _ (by simp),?_⟩;rw[L8 hi,zA];simp[q]
 have o:∀ i j x y,i<j->j<n->arr[base+i]?=some x->arr[base+j]?=some y->R y x=false:=λi j x y m r ex P=>by
  obtain⟨T,d,_,c⟩:=b i (by lia);obtain⟨W,z,_,u⟩:=b j r;rw[ex] at d;cases d;rw[P] at z;cases z;obtain⟨F,c⟩:=R1.mp c;obtain⟨N,u⟩:=R1.mp u;have:=o9.mp hs i j F N m;rw[c,u] at this;exact this
 refine LG (κ:=κ) (B:=λi=>match arr[base+i]? with|some x=>!(R a x)|none=>false) (λi hi U st' t D=>?_) (λi j m r p=>?_) hh O λk v J G=>h k v (λx hx=>?_) λx hx=>?_
 ·obtain⟨x,d,w,_⟩:=b i hi;unfold bey;refine wpS_bind (J3 d ?_);rw[y0 (by decide)];refine wpS_bind (C.ask _ _ g w _ _ t ?_);refine wpS_pure ?_;simp only[d] at D;exact D
 ·obtain⟨x,d,w,_⟩:=b i (by lia);obtain⟨y,c,I,_⟩:=b j r;simp only[d,c] at p ⊢;have K:=o i j x y m r d c;have H:R a y=false:=by simpa using p
  have:=C.tr x y a w I g K H;simp[this]
 ·obtain⟨i,hi,e⟩:=List.getElem_of_mem hx;have f:i<k:=by rw[W7] at hi;lia
  obtain⟨y,d,_,c⟩:=b i (by lia);have hb:=J i f;simp only[d] at hb;have ex:x=y:=by
   have:((arr.toList.drop base).take k)[i]?=some x:=by rw[z1 hi,e]
   rw[L8 f] at this;rw[L8 (by lia)] at c;rw[this] at c;exact W3 c
  subst ex;simpa using hb
 ·obtain⟨i,hi,e⟩:=List.getElem_of_mem hx;have f:k+i<n:=by rw[List.length_drop,W7] at hi;lia
  obtain⟨y,d,_,c⟩:=b (k+i) f;have hb:=G (k+i) (by lia) f;simp only[d] at hb;have ex:x=y:=by
   have:(((arr.toList.drop base).take n).drop k)[i]?=some x:=by rw[z1 hi,e]
   rw[zA] at this;rw[this] at c;exact W3 c
  subst ex;simpa using hb
theorem sD(C:Cmp M A E s κ S R){a:Keyed}{arr:Array Keyed}{base n l:Nat}(g:S a)(K:∀ x∈arr.toList,S x)(hn:base+n<=arr.size)(hs:Srt R ((arr.toList.drop base).take n))(hh:l<n)
  {Q:Option Nat->SortSt->Prop} {st:SortSt} (N:kindOf st = κ)
  (h:∀ k,k<=n->(∀ x∈(arr.toList.drop base).take k,R x a=true)->(∀ x∈((arr.toList.drop base).take n).drop k,R x a=false)->Q (some k) st) :
  wpS M A E s (uD true a arr base n l) Q st:=by
 have b:∀ i,i<n->∃ x,arr[base+i]?=some x/\S x/\((arr.toList.drop base).take n)[i]?=some x:=λi hi=>by
  have q:base+i<arr.size:=by lia
  refine⟨arr[base+i],S2 q,K _ (by simp),?_⟩;rw[L8 hi,zA];simp[q]
 have p:∀ i j x y,i<j->j<n->arr[base+i]?=some x->arr[base+j]?=some y->R y x=false:=λi j x y m r ex O=>by
  obtain⟨P,d,_,c⟩:=b i (by lia);obtain⟨U,z,_,u⟩:=b j r;rw[ex] at d;cases d;rw[O] at z;cases z;obtain⟨F,c⟩:=R1.mp c;obtain⟨L,u⟩:=R1.mp u;have:=o9.mp hs i j F L m;rw[c,u] at this;exact this
 refine LG (κ:=κ) (B:=λi=>match arr[base+i]? with|some x=>R x a|none=>false) (λi hi T st' t D=>?_) (λi j m r o=>?_) hh N λk v I G=>h k v (λx hx=>?_) λx hx=>?_
 ·obtain⟨x,d,w,_⟩:=b i hi;unfold bey;refine wpS_bind (J3 d ?_);rw[z0 rfl];simp only[d] at D;exact C.ask _ _ w g _ _ t D
 ·obtain⟨x,d,w,_⟩:=b i (by lia);obtain⟨y,c,H,_⟩:=b j r;simp only[d,c] at o ⊢;have J:=p i j x y m r d c;cases e:R x a with
  |true=>rfl
  | false =>
   have:=C.tr a x y g w H e J;rw[this] at o;cases o
 ·obtain⟨i,hi,e⟩:=List.getElem_of_mem hx;have f:i<k:=by rw[W7] at hi;lia
  obtain⟨y,d,_,c⟩:=b i (by lia);have hb:=I i f;simp only[d] at hb;have ex:x=y:=by
   have:((arr.toList.drop base).take k)[i]?=some x:=by rw[z1 hi,e]
   rw[L8 f] at this;rw[L8 (by lia)] at c;rw[this] at c;exact W3 c
  subst ex;exact hb
 ·obtain⟨i,hi,e⟩:=List.getElem_of_mem hx;have f:k+i<n:=by rw[List.length_drop,W7] at hi;lia
  obtain⟨y,d,_,c⟩:=b (k+i) f;have hb:=G (k+i) (by lia) f;simp only[d] at hb;have ex:x=y:=by
   have:(((arr.toList.drop base).take n).drop k)[i]?=some x:=by rw[z1 hi,e]
   rw[zA] at this;rw[this] at c;exact W3 c
  subst ex;exact hb
structure Two(S:Keyed->Prop)(R:Keyed->Keyed->Bool)(a b:Array Keyed):Prop where
 ha:∀ x∈a.toList,S x
 hb:∀ x∈b.toList,S x
 sa:Srt R a.toList
 sb:Srt R b.toList
 a0:0<a.size
 b0:0<b.size
 first:∀ x∈a.toList,∀ y,b[0]?=some y->R x y=false
 last:∀ y∈b.toList,∀ x,a[a.size-1]?=some x->R x y=false
def Fin2(R:Keyed->Keyed->Bool)(a b m:Array Keyed):Prop:=m.toList.Perm (a.toList++b.toList)/\Srt R m.toList
structure Lo(S:Keyed->Prop)(R:Keyed->Keyed->Bool)(a b out:Array Keyed)(ia ib:Nat):Prop where
 mid:Mid R (a.toList++b.toList) out.toList (a.toList.drop ia) (b.toList.drop ib)
 ia:ia<=a.size
 ib:ib<=b.size
theorem Lo.len{a b out:Array Keyed}{ia ib:Nat}(l:Lo S R a b out ia ib):out.size+(a.size-ia)+(b.size-ib)=a.size+b.size:=by
 have:=l.mid.perm.length_eq;simp at this;lia
theorem Lo.doneA{a b out:Array Keyed}{ia ib:Nat}(l:Lo S R a b out ia ib)(h:ib=b.size\/ia=a.size):Fin2 R a b (out++a.extract ia++b.extract ib):=by
 have:=l.mid.done (by
  rcases h with h|h
  ·right;rw[h];simp
  ·left;rw[h];simp)
 unfold Fin2;rw[O5,O5,mC,mC];exact this
theorem nK{a:Array Keyed}{i:Nat}(h:i+1=a.size):a.toList.drop i=[a[a.size-1]'(by lia)]:=by
 have hi:i<a.size:=by lia
 rw[v5 hi];have:i=a.size-1:=by lia
 subst this;have e:a.toList.drop (a.size-1+1)=[]:=by
  apply List.drop_eq_nil_of_le;simp;lia
 rw[e]
theorem Lo.lastA{a b out:Array Keyed}{ia ib:Nat}(T:Two S R a b)(l:Lo S R a b out ia ib)(h:ia+1=a.size):Fin2 R a b (out++b.extract ib++a.extract ia):=by
 have:=l.mid.last (by
  intro y c x hx;rw[nK h] at hx;have ex:x=a[a.size-1]'(by lia):=by simpa using hx
  refine T.last y (Y4 c) x ?_;rw[ex];exact S2 _)
 unfold Fin2;rw[O5,O5,mC,mC];exact this
theorem EA(C:Cmp M A E s κ S R)(h:Srt R (x::l))(hx:S x):∀ y∈x::l,R y x=false:=by
 intro y a;rcases V0.mp a with e|a
 ·rw[e];exact C.irr hx
 ·exact(w9.mp h).1 y a
theorem Lo.pushB{a b out:Array Keyed}{ia ib:Nat}(C:Cmp M A E s κ S R)(T:Two S R a b)(l:Lo S R a b out ia ib)(hb:ib<b.size)(h:∀ x∈a.toList.drop ia,R x b[ib]=false):Lo S R a b (out.push b[ib]) ia (ib+1):=by
 refine⟨?_,l.ia,hb⟩;have m:=l.mid;rw[v5 hb] at m;rw[Array.toList_push];exact m.takeB (p:=[b[ib]]) (λx hx y c=>by
  have:x=b[ib]:=by simpa using hx
  rw[this];exact h y c)
theorem Lo.pushA{a b out:Array Keyed}{ia ib:Nat}(l:Lo S R a b out ia ib)(ha:ia<a.size)(h:∀ y∈b.toList.drop ib,R y a[ia]=false):Lo S R a b (out.push a[ia]) (ia+1) ib:=by
 refine⟨?_,ha,l.ib⟩;have m:=l.mid;rw[v5 ha] at m;rw[Array.toList_push];exact m.takeA (p:=[a[ia]]) (λx hx y c=>by
  have:x=a[ia]:=by simpa using hx
  rw[this];exact h y c)
theorem Lo.runA{a b out:Array Keyed}{ia ib k:Nat}(l:Lo S R a b out ia ib)(d:ia+k<=a.size)(h:∀ x∈(a.toList.drop ia).take k,∀ y∈b.toList.drop ib,R y x=false):Lo S R a b (out++a.extract ia (ia+k)) (ia+k) ib:=by
 refine⟨?_,d,l.ib⟩;have m:=l.mid;rw[← Q5 k (a.toList.drop ia)] at m;rw[O5,ID];have c:=m.takeA h;rw[List.drop_drop] at c;exact c
theorem Lo.runB{a b out:Array Keyed}{ia ib k:Nat}(l:Lo S R a b out ia ib)(d:ib+k<=b.size)(h:∀ x∈(b.toList.drop ib).take k,∀ y∈a.toList.drop ia,R y x=false):Lo S R a b (out++b.extract ib (ib+k)) ia (ib+k):=by
 refine⟨?_,l.ia,d⟩;have m:=l.mid;rw[← Q5 k (b.toList.drop ib)] at m;rw[O5,ID];have c:=m.takeB h;rw[List.drop_drop] at c;exact c
theorem N7(h:Srt R l):Srt R (l.drop i):=List.Pairwise.sublist (List.drop_sublist i l) h
theorem jpn{α β:Type}{prog : β->StateT SortSt Sem α}{P : β->Prop}{Q : α->SortSt->Prop}{st:SortSt}{G:Prop}(use:(∀ m,P m->wpS M A E s (prog m) Q st)->G)(a:∀ m,P m->wpS M A E s (prog m) Q st):G:=use a
theorem jpn2{α:Type}{prog:Array Keyed->Nat->StateT SortSt Sem α}{P:Array Keyed->Nat->Prop}{Q : α->SortSt->Prop}{st:SortSt}{G:Prop}(use:(∀ o i,P o i->wpS M A E s (prog o i) Q st)->G)(a:∀ o i,P o i->wpS M A E s (prog o i) Q st):G:=use a
section
variable{ρ β γ δ ε ζ η:Type}
@[elab_as_elim] theorem un5 {J : β->γ->δ->ε->Prop} {G:Option ρ × β × γ × δ × ε->Prop} (z:Option ρ × β × γ × δ × ε) (h:z.1=none/\J z.2.1 z.2.2.1 z.2.2.2.1 z.2.2.2.2) (k:∀ x y u v,J x y u v->G (none,x,y,u,v)):G z:=by
 have e:z=(none,z.2.1,z.2.2.1,z.2.2.2.1,z.2.2.2.2):=by rw[← h.1]
 rw[e];exact k _ _ _ _ h.2
@[elab_as_elim] theorem un6 {J : β->γ->δ->ε->ζ->Prop} {G:Option ρ × β × γ × δ × ε × ζ->Prop} (z:Option ρ × β × γ × δ × ε × ζ) (h:z.1=none/\J z.2.1 z.2.2.1 z.2.2.2.1 z.2.2.2.2.1 z.2.2.2.2.2) (k:∀ x y u v a,J x y u v a->G (none,x,y,u,v,a)):G z:=by
 have e:z=(none,z.2.1,z.2.2.1,z.2.2.2.1,z.2.2.2.2.1,z.2.2.2.2.2):=by rw[← h.1]
 rw[e];exact k _ _ _ _ _ h.2
@[elab_as_elim] theorem un7 {J : β->γ->δ->ε->ζ->η->Prop} {G:Option ρ × β × γ × δ × ε × ζ × η->Prop} (z:Option ρ × β × γ × δ × ε × ζ × η) (h:z.1=none/\J z.2.1 z.2.2.1 z.2.2.2.1 z.2.2.2.2.1 z.2.2.2.2.2.1 z.2.2.2.2.2.2) (k:∀ x y u v a b,J x y u v a b->G (none,x,y,u,v,a,b)):G z:=by
 have e:z=(none,z.2.1,z.2.2.1,z.2.2.2.1,z.2.2.2.2.1,z.2.2.2.2.2.1,z.2.2.2.2.2.2):=by rw[← h.1]
 rw[e];exact k _ _ _ _ _ _ h.2
@[elab_as_elim] theorem unR {κ:Type} {F : ρ->Prop} {J : κ->Prop} {G:Option ρ × κ->Prop} (z:Option ρ × κ) (h:(∃ r,z.1=some r/\F r)\/(z.1=none/\J z.2)) (k1:∀ r x,F r->G (some r,x)) (k2:z.1=none/\J z.2->G z):G z:=by
 rcases h with ⟨r,e,a⟩|h
 ·have e:z=(some r,z.2):=by rw[← e]
  rw[e];exact k1 _ _ a
 ·exact k2 h
end
theorem J1{c:Prop} [Decidable c] {α:Type} {a b:StateT SortSt Sem α} {Q : α->SortSt->Prop} {st:SortSt} (d:c->wpS M A E s a Q st) (f:¬ c->wpS M A E s b Q st):wpS M A E s (if c then a else b) Q st:=by
 by_cases h:c
 ·rw[z0 h];exact d h
 ·rw[y0 h];exact f h
theorem zL (C:Cmp M A E s κ S R) {a b:Array Keyed} (T:Two S R a b) {Q:Array Keyed->SortSt->Prop} {st:SortSt} (hk:kindOf st = κ)
  (h:∀ m st',Eqv st st'->Fin2 R a b m->Q m st'):wpS M A E s (VS a b) Q st:=by
 have K:∀ i (h:i<a.size),S a[i]:=λi h=>T.ha _ (by simp);have L:∀ i (h:i<b.size),S b[i]:=λi h=>T.hb _ (by simp);have b0:=T.b0;have a0:=T.a0;refine wpS_bind (S9 ?_);refine wpS_bind (J3 (x:=b[0]'b0) (S2 b0) ?_);have l1:Lo S R a b #[b[0]'b0] 0 1:=by
  have l0:Lo S R a b #[] 0 0:=⟨⟨by simp,List.Pairwise.nil,λx hx=>by simp at hx,T.sa,T.sb⟩,R4 _,R4 _⟩
  exact l0.pushB C T b0 λx hx=>T.first x (by simpa using hx) _ (S2 b0)
 refine J1 (λe1=>wpS_pure (h _ _ (Eqv.refl _) (l1.doneA (.inl (E1.mp e1))))) (λe1=>?_);refine J1 (λe2=>wpS_pure (h _ _ (Eqv.refl _) (l1.lastA T (E1.mp e2)))) (λe2=>?_)
 replace e1:1 ≠ b.size:=λq=>e1 (E1.mpr q)
 replace e2:0+1 ≠ a.size:=λq=>e2 (E1.mpr q)
 refine wpS_bind (wpS_get ?_);refine wpS_bind (wpS_mono (Q:=λ(z:Option (Array Keyed) × Array Keyed × Nat × Nat × Nat) st'=>Eqv st st'/\∃ r,z.1=some r/\Fin2 R a b r) ?_ ?_)
 ·refine wpS_forRange (λt (z:Option (Array Keyed) × Array Keyed × Nat × Nat × Nat) st'=>Eqv st st'/\z.1=none/\Lo S R a b z.2.1 z.2.2.1 z.2.2.2.1/\z.2.2.1+1<a.size/\z.2.2.2.1<b.size/\t+1<=z.2.1.size) ?_ ?_ ⟨Eqv.refl _,rfl,l1,by dsimp only;lia,by dsimp only;lia,by simp⟩
  ·intro t z a8 _ ht n;have q1:=n.1;refine un5 (J:=λout ia ib _=>Lo S R a b out ia ib/\ia+1<a.size/\ib<b.size/\t+1<=out.size) z n.2 λout ia ib mg v=>?_;dsimp only;refine wpS_bind (wpS_mono (Q:=λ(z:Option (Array Keyed) × Array Keyed × Nat × Nat × Nat × Nat) st'=>Eqv st st'/\((∃ r,z.1=some r/\Fin2 R a b r)\/(z.1=none/\Lo S R a b z.2.1 z.2.2.1 z.2.2.2.1/\z.2.2.1+1<a.size/\z.2.2.2.1<b.size/\t+2<=z.2.1.size))) ?_ ?_)
   ·refine wpS_forRange (λi (z:Option (Array Keyed) × Array Keyed × Nat × Nat × Nat × Nat) st'=>Eqv st st'/\z.1=none/\Lo S R a b z.2.1 z.2.2.1 z.2.2.2.1/\z.2.2.1+1<a.size/\z.2.2.2.1<b.size/\t+1+min i 1<=z.2.1.size) ?_ ?_ ⟨q1,rfl,v.1,v.2.1,v.2.2.1,v.2.2.2⟩
    ·intro i z o _ hi n;have q:=n.1;refine un6 (J:=λout ia ib _ _=>Lo S R a b out ia ib/\ia+1<a.size/\ib<b.size/\t+1+min i 1<=out.size) z n.2 λout ia ib ac bc v=>?_;have l:=v.1;have H:=v.2.1;have d:=v.2.2.1;have hsz:=v.2.2.2;have g:ia<a.size:=Nat.lt_of_succ_lt H;refine wpS_bind (J3 (x:=b[ib]) (S2 d) ?_);refine wpS_bind (J3 (x:=a[ia]) (S2 g) ?_);refine wpS_bind (C.ask _ _ (L ib d) (K ia g) _ _ (q.k.trans hk) ?_);dsimp only;refine J1 (λer=>?_) (λer=>?_)
     ·refine wpS_bind (J3 (x:=b[ib]) (S2 d) ?_);have D:Lo S R a b (out.push b[ib]) ia (ib+1):=l.pushB C T d λx hx=>by
       rw[v5 g] at hx;have hd:Srt R (a[ia]::a.toList.drop (ia+1)):=by rw[← v5 g];exact N7 T.sa
       have sx:S x:=T.ha x (Y4 (i:=ia) (by rw[v5 g];exact hx));exact C.tr _ _ _ (L ib d) (K ia g) sx (C.asy _ _ (L ib d) (K ia g) er) (EA C hd (K ia g) x hx)
      refine J1 (λB=>wpS_pure ⟨q,.inl ⟨_,rfl,D.doneA (.inl (E1.mp B))⟩⟩) (λB=>?_);have hf:ib+1<b.size/\t+2<=(out.push b[ib]).size:=by
       have W:ib+1 ≠ b.size:=λq=>B (E1.mpr q);rw[D6];lia
      refine J1 (λ_=>wpS_pure ⟨q,.inr ⟨rfl,D,H,hf⟩⟩) (λ_=>wpS_pure ⟨q,rfl,D,H,hf.1,D2 (by lia) hf.2⟩)
     ·refine wpS_bind (J3 (x:=a[ia]) (S2 g) ?_);have D:Lo S R a b (out.push a[ia]) (ia+1) ib:=l.pushA g λy F=>by
       rw[v5 d] at F;have hd:Srt R (b[ib]::b.toList.drop (ib+1)):=by rw[← v5 d];exact N7 T.sb
       have Z:S y:=T.hb y (Y4 (i:=ib) (by rw[v5 d];exact F));exact C.tr _ _ _ (K ia g) (L ib d) Z (eq_false_of_ne_true er) (EA C hd (L ib d) y F)
      refine J1 (λB=>wpS_pure ⟨q,.inl ⟨_,rfl,D.lastA T (E1.mp B)⟩⟩) (λB=>?_);have hf:ia+1+1<a.size/\ib<b.size/\t+2<=(out.push a[ia]).size:=by
       have W:ia+1+1 ≠ a.size:=λq=>B (E1.mpr q);rw[D6];lia
      refine J1 (λ_=>wpS_pure ⟨q,.inr ⟨rfl,D,hf⟩⟩) (λ_=>wpS_pure ⟨q,rfl,D,hf.1,d,D2 (by lia) hf.2.2⟩)
    ·exact λz o n=>⟨n.1,.inr ⟨n.2.1,n.2.2.1,n.2.2.2.1,n.2.2.2.2.1,D2 (by lia) n.2.2.2.2.2⟩⟩
   ·intro z o n;have O:=n.1;refine unR (J:=λy:Array Keyed × Nat × Nat × Nat × Nat=>Lo S R a b y.1 y.2.1 y.2.2.1/\y.2.1+1<a.size/\y.2.2.1<b.size/\t+2<=y.1.size) z n.2 (λr x X=>wpS_pure ⟨O,r,rfl,X⟩) λhN=>?_;refine un6 (J:=λout ia ib _ _=>Lo S R a b out ia ib/\ia+1<a.size/\ib<b.size/\t+2<=out.size) z hN λout ia ib ac bc v=>?_;dsimp only;refine wpS_bind (S9 ?_);refine wpS_bind (wpS_mono (Q:=λ(z:Option (Array Keyed) × Array Keyed × Nat × Nat × Nat × Nat × Nat) st'=>Eqv st st'/\((∃ r,z.1=some r/\Fin2 R a b r)\/(z.1=none/\Lo S R a b z.2.1 z.2.2.1 z.2.2.2.1/\z.2.2.1+1<a.size/\z.2.2.2.1<b.size/\t+2<=z.2.1.size))) ?_ ?_)
    ·refine wpS_forRange (λi (z:Option (Array Keyed) × Array Keyed × Nat × Nat × Nat × Nat × Nat) st'=>Eqv st st'/\z.1=none/\Lo S R a b z.2.1 z.2.2.1 z.2.2.2.1/\z.2.2.1+1<a.size/\z.2.2.2.1<b.size/\t+2<=z.2.1.size) ?_ (λz o n=>⟨n.1,.inr n.2⟩) ⟨O,rfl,v⟩;intro i z o _ hi n;have q:=n.1;refine un7 (J:=λout ia ib _ _ _=>Lo S R a b out ia ib/\ia+1<a.size/\ib<b.size/\t+2<=out.size) z n.2 λout ia ib mg ac bc v=>?_;have l:=v.1;have H:=v.2.1;have d:=v.2.2.1;have hsz:=v.2.2.2;dsimp only;refine' jpn (M:=M) (A:=A) (E:=E) (s:=s) (st:=o) (β:=Nat) (P:=λ_=>True) (prog:=?prog) (λN=>?use) (λa4 _=>?pf)
     case use =>
      refine J1 (λhm=>?_) (λhm=>?_)
      ·generalize mg-1=m;exact N m trivial
      ·exact N mg trivial
     refine wpS_bind (wpS_mono (Q:=λ_ I=>Eqv o I) (wpS_modify ⟨rfl,rfl,rfl,rfl⟩) λ_ I G=>?_)
     replace G:=q.trans G
     refine wpS_bind (J3 (x:=b[ib]) (S2 d) ?_);refine wpS_bind (jE C (L ib d) T.ha (by lia) (by rw[S7 (by simp)];exact N7 T.sa) (by lia) (G.k.trans hk) λk a9 h1 h2=>?_);rw[S7 (by simp),List.drop_drop] at h2;dsimp only;refine' jpn2 (M:=M) (A:=A) (E:=E) (s:=s) (st:=I) (P:=λj c=>Lo S R a b j c ib/\c+1<a.size/\(∀ x∈a.toList.drop c,R x b[ib]=false)/\t+2<=j.size) (prog:=?prog2) (λN=>?use2) (λj c h5=>?pf2)
     case use2 =>
      have u:∀ x∈a.toList.drop (ia+k),R x b[ib]=false:=λx hx=>C.asy _ _ (L ib d) (T.ha x (Y4 hx)) (h2 x hx);refine J1 (λk0=>?_) (λk0=>?_)
      ·have D:Lo S R a b (out++a.extract ia (ia+k)) (ia+k) ib:=l.runA (by lia) λx hx y F=>by
        rw[v5 d] at F;have hd:Srt R (b[ib]::b.toList.drop (ib+1)):=by rw[← v5 d];exact N7 T.sb
        have Z:S y:=T.hb y (Y4 (i:=ib) (by rw[v5 d];exact F));exact C.tr _ _ _ (T.ha x (Y4 (V4 hx))) (L ib d) Z (h1 x hx) (EA C hd (L ib d) y F)
       refine J1 (λB=>wpS_pure ⟨G,.inl ⟨_,rfl,D.lastA T (E1.mp B)⟩⟩) (λB=>?_);refine J1 (λe4=>wpS_pure ⟨G,.inl ⟨_,rfl,D.doneA (.inr (E1.mp e4))⟩⟩) (λe4=>?_);have U:Lo S R a b (out++a.extract ia (ia+k)) (ia+k) ib/\ia+k+1<a.size/\(∀ x∈a.toList.drop (ia+k),R x b[ib]=false)/\t+2<=(out++a.extract ia (ia+k)).size:=by
        have W:ia+k+1 ≠ a.size:=λq=>B (E1.mpr q);have a3:ia+k ≠ a.size:=λq=>e4 (E1.mpr q);exact⟨D,by lia,u,by rw[Array.size_append];lia⟩
       revert U;clear B e4 D u;generalize out++a.extract ia (ia+k)=j;generalize ia+k=c;intro U;exact N j c U
      ·have:k=0:=by lia
       rw[this] at u;exact N out ia ⟨l,H,u,hsz⟩
     have l3:=h5.1;have Y:=h5.2.1;have a1:=h5.2.2.1;have a2:=h5.2.2.2;have f:c<a.size:=Nat.lt_of_succ_lt Y;refine wpS_bind (J3 (x:=b[ib]) (S2 d) ?_);have l4:=l3.pushB C T d a1;refine J1 (λe5=>wpS_pure ⟨G,.inl ⟨_,rfl,l4.doneA (.inl (E1.mp e5))⟩⟩) (λe5=>?_)
     replace e5:ib+1 ≠ b.size:=λq=>e5 (E1.mpr q)
     refine wpS_bind (J3 (x:=a[c]) (S2 f) ?_);refine wpS_bind (sD C (K c f) T.hb (by lia) (by rw[S7 (by simp)];exact N7 T.sb) (by lia) (G.k.trans hk) λk2 a6 h3 h4=>?_);rw[S7 (by simp),List.drop_drop] at h4;dsimp only;refine' jpn2 (M:=M) (A:=A) (E:=E) (s:=s) (st:=I) (P:=λp w=>Lo S R a b p c w/\w<b.size/\(∀ y∈b.toList.drop w,R y a[c]=false)/\t+2<=p.size) (prog:=?prog3) (λN=>?use3) (λp w h6=>?pf3)
     case use3 =>
      refine J1 (λk0=>?_) (λk0=>?_)
      ·have hd:Srt R (a[c]::a.toList.drop (c+1)):=by rw[← v5 f];exact N7 T.sa
       have l5:Lo S R a b (j.push b[ib]++b.extract (ib+1) (ib+1+k2)) c (ib+1+k2):=l4.runB (by lia) λx hx y F=>by
        rw[v5 f] at F;have Z:S y:=T.ha y (Y4 (i:=c) (by rw[v5 f];exact F));have sx:S x:=T.hb x (Y4 (V4 hx));exact C.tr _ _ _ sx (K c f) Z (C.asy _ _ sx (K c f) (h3 x hx)) (EA C hd (K c f) y F)
       refine J1 (λe6=>wpS_pure ⟨G,.inl ⟨_,rfl,l5.doneA (.inl (E1.mp e6))⟩⟩) (λe6=>?_);have U:Lo S R a b (j.push b[ib]++b.extract (ib+1) (ib+1+k2)) c (ib+1+k2)/\ib+1+k2<b.size/\(∀ y∈b.toList.drop (ib+1+k2),R y a[c]=false)/\t+2<=(j.push b[ib]++b.extract (ib+1) (ib+1+k2)).size:=by
        have a5:ib+1+k2 ≠ b.size:=λq=>e6 (E1.mpr q);exact⟨l5,by lia,h4,by rw[Array.size_append,D6];lia⟩
       revert U;clear e6 l5 hd;generalize j.push b[ib]++b.extract (ib+1) (ib+1+k2)=p;generalize ib+1+k2=w;intro U;exact N p w U
      ·have:k2=0:=by lia
       rw[this] at h4;exact N (j.push b[ib]) (ib+1) ⟨l4,by lia,h4,by rw[D6];lia⟩
     refine wpS_bind (J3 (x:=a[c]) (S2 f) ?_);have l7:=h6.1.pushA f h6.2.2.1;refine J1 (λe7=>wpS_pure ⟨G,.inl ⟨_,rfl,l7.lastA T (E1.mp e7)⟩⟩) (λe7=>?_);have hf:c+1+1<a.size/\w<b.size/\t+2<=(p.push a[c]).size:=by
      have a7:c+1+1 ≠ a.size:=λq=>e7 (E1.mpr q);have h7:=h6.2.2.2;exact⟨by lia,h6.2.1,by rw[D6];lia⟩
     exact J1 (λ_=>wpS_pure ⟨G,.inr ⟨rfl,l7,hf⟩⟩) (λ_=>wpS_pure ⟨G,rfl,l7,hf⟩)
    ·intro z o n;have O:=n.1;refine unR (J:=λy:Array Keyed × Nat × Nat × Nat × Nat × Nat=>Lo S R a b y.1 y.2.1 y.2.2.1/\y.2.1+1<a.size/\y.2.2.1<b.size/\t+2<=y.1.size) z n.2 (λr x X=>wpS_pure ⟨O,r,rfl,X⟩) λhN=>?_;refine un7 (J:=λout ia ib _ _ _=>Lo S R a b out ia ib/\ia+1<a.size/\ib<b.size/\t+2<=out.size) z hN λout ia ib mg ac bc v=>?_;dsimp only;refine wpS_bind (wpS_modify ?_);exact wpS_pure ⟨O.trans ⟨rfl,rfl,rfl,rfl⟩,rfl,v⟩
  ·intro z o n;exfalso;have h1:=n.2.2.1.len;have h2:=n.2.2.2;have:a.size+b.size<=max 0 (a.size+b.size):=by lia
   lia
 ·intro z o n;have O:=n.1;exact unR (J:=λ_=>False) z (.inl n.2) (λr x X=>wpS_pure (h r o O X)) λhN=>hN.2.elim
structure MidH(R:Keyed->Keyed->Bool)(L a b tl:List Keyed):Prop where
 perm:(a++b++tl).Perm L
 so:Srt R tl
 le:∀ x∈a++b,∀ y∈tl,R y x=false
 sa:Srt R a
 sb:Srt R b
theorem MidH.takeA(m:MidH R L (a++p) b tl)(h:∀ x∈b,∀ y∈p,R y x=false):MidH R L a b (p++tl):=by
 have sp:=V3.mp m.sa;refine⟨List.Perm.trans ?_ m.perm,V3.mpr ⟨sp.2.1,m.so,λx hx y c=>m.le x (J5 _ (P2 _ hx)) y c⟩,λx hx y c=>?_,sp.1,m.sb⟩
 ·rw[← V2,V2 a p b,V2 a b p];exact List.Perm.append_right tl (List.Perm.append_left a List.perm_append_comm)
 ·rcases N2.mp c with c|c
  ·rcases N2.mp hx with hx|hx
   ·exact sp.2.2 x hx y c
   ·exact h x hx y c
  ·refine m.le x ?_ y c;rcases N2.mp hx with hx|hx
   ·exact J5 _ (J5 _ hx)
   ·exact P2 _ hx
theorem MidH.takeB(m:MidH R L a (b++p) tl)(h:∀ x∈a,∀ y∈p,R y x=false):MidH R L a b (p++tl):=by
 have sp:=V3.mp m.sb;refine⟨by have:=m.perm;simp only[V2] at this ⊢;exact this,V3.mpr ⟨sp.2.1,m.so,λx hx y c=>m.le x (P2 _ (P2 _ hx)) y c⟩,λx hx y c=>?_,m.sa,sp.1⟩;rcases N2.mp c with c|c
 ·rcases N2.mp hx with hx|hx
  ·exact h x hx y c
  ·exact sp.2.2 x hx y c
 ·refine m.le x ?_ y c;rcases N2.mp hx with hx|hx
  ·exact J5 _ hx
  ·exact P2 _ (J5 _ hx)
theorem MidH.done(m:MidH R L a b tl)(h:a=[]\/b=[]):(a++b++tl).Perm L/\Srt R (a++b++tl):=by
 refine⟨m.perm,V3.mpr ⟨?_,m.so,m.le⟩⟩;rcases h with h|h
 ·subst h;exact m.sb
 ·subst h;rw[z5];exact m.sa
theorem MidH.first(m:MidH R L a b tl)(h:∀ y∈b,∀ x∈a,R x y=false):(b++a++tl).Perm L/\Srt R (b++a++tl):=by
 refine⟨List.Perm.trans (List.Perm.append_right tl List.perm_append_comm) m.perm,V3.mpr ⟨V3.mpr ⟨m.sb,m.sa,h⟩,m.so,λx hx y c=>m.le x ?_ y c⟩⟩;rcases N2.mp hx with hx|hx
 ·exact P2 _ hx
 ·exact J5 _ hx
theorem o6{a:Array Keyed}{i:Nat}(c:0<i)(h:i<=a.size):a.toList.take i=a.toList.take (i-1)++[a[i-1]'(by lia)]:=by
 obtain⟨j,rfl⟩:∃ j,i=j+1:=⟨i-1,by lia⟩
 rw[List.take_succ];have b:j<a.size:=by lia
 simp[b]
theorem AB(a:Array Keyed)(k:Nat):(a.extract 0 k).toList=a.toList.take k:=by
 rw[Array.toList_extract];simp[List.extract]
theorem VD(a:Array Keyed)(k n:Nat):(a.extract k n).toList=(a.toList.take n).drop k:=by
 rw[Array.toList_extract];simp[List.extract,List.drop_take]
structure Hi(S:Keyed->Prop)(R:Keyed->Keyed->Bool)(a b out:Array Keyed)(na nb:Nat):Prop where
 mid:MidH R (a.toList++b.toList) (a.toList.take na) (b.toList.take nb) out.toList.reverse
 na:na<=a.size
 nb:nb<=b.size
theorem Hi.len{a b out:Array Keyed}{na nb:Nat}(l:Hi S R a b out na nb):out.size+na+nb=a.size+b.size:=by
 have:=l.mid.perm.length_eq;have c:=l.na;have d:=l.nb;simp at this;lia
theorem Hi.doneA{a b out:Array Keyed}{na nb:Nat}(l:Hi S R a b out na nb)(h:na=0\/nb=0):Fin2 R a b (a.extract 0 na++b.extract 0 nb++out.reverse):=by
 have:=l.mid.done (by
  rcases h with h|h
  ·left;rw[h];simp
  ·right;rw[h];simp)
 unfold Fin2;rw[O5,O5,AB,AB,Array.toList_reverse];exact this
theorem Hi.firstB{a b out:Array Keyed}{na nb:Nat}(T:Two S R a b)(l:Hi S R a b out na nb)(h:nb=1):Fin2 R a b (b.extract 0 nb++a.extract 0 na++out.reverse):=by
 subst h;have:=l.mid.first (by
  intro y c x hx;rw[o6 (by decide) l.nb] at c;have d:y=b[0]'T.b0:=by simpa using c
  exact T.first x (V4 hx) y (by rw[d];exact S2 _))
 unfold Fin2;rw[O5,O5,AB,AB,Array.toList_reverse];exact this
theorem E6(h:Srt R l):Srt R (l.take i):=List.Pairwise.sublist (List.take_sublist i l) h
theorem uA(C:Cmp M A E s κ S R)(h:Srt R (l++[x]))(hx:S x):∀ y∈l++[x],R x y=false:=by
 intro y a;rcases N2.mp a with a|a
 ·exact(V3.mp h).2.2 y a x (by simp)
 ·have:y=x:=by simpa using a
  rw[this];exact C.irr hx
theorem Hi.pushA{a b out:Array Keyed}{na nb:Nat}(l:Hi S R a b out na nb)(c:0<na)(h:∀ x∈b.toList.take nb,R (a[na-1]'(by have:=l.na;lia)) x=false):Hi S R a b (out.push (a[na-1]'(by have:=l.na;lia))) (na-1) nb:=by
 refine⟨?_,by have:=l.na;lia,l.nb⟩;have m:=l.mid;rw[o6 c l.na] at m;rw[Array.toList_push,List.reverse_append];exact m.takeA (p:=[_]) (λx hx y d=>by
  rw[O6.mp d];exact h x hx)
theorem Hi.pushB{a b out:Array Keyed}{na nb:Nat}(l:Hi S R a b out na nb)(c:0<nb)(h:∀ x∈a.toList.take na,R (b[nb-1]'(by have:=l.nb;lia)) x=false):Hi S R a b (out.push (b[nb-1]'(by have:=l.nb;lia))) na (nb-1):=by
 refine⟨?_,l.na,by have:=l.nb;lia⟩;have m:=l.mid;rw[o6 c l.nb] at m;rw[Array.toList_push,List.reverse_append];exact m.takeB (p:=[_]) (λx hx y d=>by
  rw[O6.mp d];exact h x hx)
theorem Hi.runA{a b out:Array Keyed}{na nb k:Nat}(l:Hi S R a b out na nb)(d:k<=na)(h:∀ x∈b.toList.take nb,∀ y∈(a.toList.take na).drop k,R y x=false):Hi S R a b (out++(a.extract k na).reverse) k nb:=by
 refine⟨?_,by have:=l.na;lia,l.nb⟩;have m:=l.mid;rw[← Q5 k (a.toList.take na)] at m;rw[O5,Array.toList_reverse,VD,List.reverse_append,List.reverse_reverse];have c:=m.takeA h;rw[List.take_take,Nat.min_eq_left d] at c;exact c
theorem Hi.runB{a b out:Array Keyed}{na nb k:Nat}(l:Hi S R a b out na nb)(d:k<=nb)(h:∀ x∈a.toList.take na,∀ y∈(b.toList.take nb).drop k,R y x=false):Hi S R a b (out++(b.extract k nb).reverse) na k:=by
 refine⟨?_,l.na,by have:=l.nb;lia⟩;have m:=l.mid;rw[← Q5 k (b.toList.take nb)] at m;rw[O5,Array.toList_reverse,VD,List.reverse_append,List.reverse_reverse];have c:=m.takeB h;rw[List.take_take,Nat.min_eq_left d] at c;exact c
theorem CM (C:Cmp M A E s κ S R) {a b:Array Keyed} (T:Two S R a b) {Q:Array Keyed->SortSt->Prop} {st:SortSt} (hk:kindOf st = κ)
  (h:∀ m st',Eqv st st'->Fin2 R a b m->Q m st'):wpS M A E s (CP a b) Q st:=by
 have H:∀ i (h:i<a.size),S a[i]:=λi h=>T.ha _ (by simp);have K:∀ i (h:i<b.size),S b[i]:=λi h=>T.hb _ (by simp);have b0:=T.b0;have a0:=T.a0;have la:a.size-1<a.size:=by lia
 refine wpS_bind (S9 ?_);refine wpS_bind (J3 (x:=a[a.size-1]'la) (S2 la) ?_);have l1:Hi S R a b #[a[a.size-1]'la] (a.size-1) b.size:=by
  have l0:Hi S R a b #[] a.size b.size:=⟨⟨by simp[S7],List.Pairwise.nil,λx hx y Y=>by simp at Y,E6 T.sa,E6 T.sb⟩,Q0 _,Q0 _⟩
  exact l0.pushA a0 λx hx=>T.last x (V4 hx) _ (S2 la)
 refine J1 (λe1=>wpS_pure (h _ _ (Eqv.refl _) (l1.doneA (.inl (E1.mp e1))))) (λe1=>?_);refine J1 (λe2=>wpS_pure (h _ _ (Eqv.refl _) (l1.firstB T (E1.mp e2)))) (λe2=>?_)
 replace e1:a.size-1 ≠ 0:=λq=>e1 (E1.mpr q)
 replace e2:b.size ≠ 1:=λq=>e2 (E1.mpr q)
 refine wpS_bind (wpS_get ?_)
 have a3:∀{na nb:Nat}(B:0<na)(I:na<=a.size)(L:0<nb)(O:nb<=b.size),R (b[nb-1]'(by lia)) (a[na-1]'(by lia))=true->∀ x∈b.toList.take nb,R (a[na-1]'(by lia)) x=false:=λ{na nb} B I L O er x hx=>by
  have sx:S x:=T.hb x (V4 hx);have hs:Srt R (b.toList.take (nb-1)++[b[nb-1]'(by lia)]):=by rw[← o6 L O];exact E6 T.sb
  rw[o6 L O] at hx;exact C.tr _ _ _ sx (K _ _) (H _ _) (uA C hs (K _ _) x hx) (C.asy _ _ (K _ _) (H _ _) er)
 have a6:∀{na nb:Nat}(B:0<na)(I:na<=a.size)(L:0<nb)(O:nb<=b.size),R (b[nb-1]'(by lia)) (a[na-1]'(by lia))=false->∀ x∈a.toList.take na,R (b[nb-1]'(by lia)) x=false:=λ{na nb} B I L O er x hx=>by
  have sx:S x:=T.ha x (V4 hx);have hs:Srt R (a.toList.take (na-1)++[a[na-1]'(by lia)]):=by rw[← o6 B I];exact E6 T.sa
  rw[o6 B I] at hx;exact C.tr _ _ _ sx (H _ _) (K _ _) (uA C hs (H _ _) x hx) er
 refine wpS_bind (wpS_mono (Q:=λ(z:Option (Array Keyed) × Nat × Nat × Array Keyed × Nat) st'=>Eqv st st'/\∃ r,z.1=some r/\Fin2 R a b r) ?_ ?_)
 ·refine wpS_forRange (λt (z:Option (Array Keyed) × Nat × Nat × Array Keyed × Nat) st'=>Eqv st st'/\z.1=none/\Hi S R a b z.2.2.2.1 z.2.1 z.2.2.1/\0<z.2.1/\1<z.2.2.1/\t+1<=z.2.2.2.1.size) ?_ ?_ ⟨Eqv.refl _,rfl,l1,by dsimp only;lia,by dsimp only;lia,by simp⟩
  ·intro t z b6 _ ht f;have q1:=f.1;refine un5 (J:=λna nb out _=>Hi S R a b out na nb/\0<na/\1<nb/\t+1<=out.size) z f.2 λna nb out mg n=>?_;dsimp only;refine wpS_bind (wpS_mono (Q:=λ(z:Option (Array Keyed) × Nat × Nat × Array Keyed × Nat × Nat) st'=>Eqv st st'/\((∃ r,z.1=some r/\Fin2 R a b r)\/(z.1=none/\Hi S R a b z.2.2.2.1 z.2.1 z.2.2.1/\0<z.2.1/\1<z.2.2.1/\t+2<=z.2.2.2.1.size))) ?_ ?_)
   ·refine wpS_forRange (λi (z:Option (Array Keyed) × Nat × Nat × Array Keyed × Nat × Nat) st'=>Eqv st st'/\z.1=none/\Hi S R a b z.2.2.2.1 z.2.1 z.2.2.1/\0<z.2.1/\1<z.2.2.1/\t+1+min i 1<=z.2.2.2.1.size) ?_ ?_ ⟨q1,rfl,n.1,n.2.1,n.2.2.1,n.2.2.2⟩
    ·intro i z g _ hi f;have q:=f.1;refine un6 (J:=λna nb out _ _=>Hi S R a b out na nb/\0<na/\1<nb/\t+1+min i 1<=out.size) z f.2 λna nb out ac bc n=>?_;have l:=n.1;have p:=n.2.1;have a1:=n.2.2.1;have hsz:=n.2.2.2;have ia:na-1<a.size:=by have:=l.na;lia
     have ib:nb-1<b.size:=by have:=l.nb;lia
     refine wpS_bind (J3 (x:=b[nb-1]) (S2 ib) ?_);refine wpS_bind (J3 (x:=a[na-1]) (S2 ia) ?_);refine wpS_bind (C.ask _ _ (K _ ib) (H _ ia) _ _ (q.k.trans hk) ?_);dsimp only;refine J1 (λer=>?_) (λer=>?_)
     ·refine wpS_bind (J3 (x:=a[na-1]) (S2 ia) ?_);have w:=l.pushA p (a3 p l.na (by lia) l.nb er);refine J1 (λu=>wpS_pure ⟨q,.inl ⟨_,rfl,w.doneA (.inl (E1.mp u))⟩⟩) (λu=>?_);have hf:0<na-1/\1<nb/\t+2<=(out.push a[na-1]).size:=by
       have a2:na-1 ≠ 0:=λq=>u (E1.mpr q);rw[D6];lia
      exact J1 (λ_=>wpS_pure ⟨q,.inr ⟨rfl,w,hf⟩⟩) (λ_=>wpS_pure ⟨q,rfl,w,hf.1,a1,D2 (by lia) hf.2.2⟩)
     ·refine wpS_bind (J3 (x:=b[nb-1]) (S2 ib) ?_);have w:=l.pushB (by lia) (a6 p l.na (by lia) l.nb (eq_false_of_ne_true er));refine J1 (λu=>wpS_pure ⟨q,.inl ⟨_,rfl,w.firstB T (E1.mp u)⟩⟩) (λu=>?_);have hf:1<nb-1/\t+2<=(out.push b[nb-1]).size:=by
       have a2:nb-1 ≠ 1:=λq=>u (E1.mpr q);rw[D6];lia
      exact J1 (λ_=>wpS_pure ⟨q,.inr ⟨rfl,w,p,hf⟩⟩) (λ_=>wpS_pure ⟨q,rfl,w,p,hf.1,D2 (by lia) hf.2⟩)
    ·exact λz g f=>⟨f.1,.inr ⟨f.2.1,f.2.2.1,f.2.2.2.1,f.2.2.2.2.1,D2 (by lia) f.2.2.2.2.2⟩⟩
   ·intro z g f;have Z:=f.1;refine unR (J:=λy:Nat × Nat × Array Keyed × Nat × Nat=>Hi S R a b y.2.2.1 y.1 y.2.1/\0<y.1/\1<y.2.1/\t+2<=y.2.2.1.size) z f.2 (λr x hr=>wpS_pure ⟨Z,r,rfl,hr⟩) λhN=>?_;refine un6 (J:=λna nb out _ _=>Hi S R a b out na nb/\0<na/\1<nb/\t+2<=out.size) z hN λna nb out ac bc n=>?_;dsimp only;refine wpS_bind (S9 ?_);refine wpS_bind (wpS_mono (Q:=λ(z:Option (Array Keyed) × Nat × Nat × Array Keyed × Nat × Nat × Nat) st'=>Eqv st st'/\((∃ r,z.1=some r/\Fin2 R a b r)\/(z.1=none/\Hi S R a b z.2.2.2.1 z.2.1 z.2.2.1/\0<z.2.1/\1<z.2.2.1/\t+2<=z.2.2.2.1.size))) ?_ ?_)
    ·refine wpS_forRange (λi (z:Option (Array Keyed) × Nat × Nat × Array Keyed × Nat × Nat × Nat) st'=>Eqv st st'/\z.1=none/\Hi S R a b z.2.2.2.1 z.2.1 z.2.2.1/\0<z.2.1/\1<z.2.2.1/\t+2<=z.2.2.2.1.size) ?_ (λz g f=>⟨f.1,.inr f.2⟩) ⟨Z,rfl,n⟩;intro i z g _ hi f;have q:=f.1;refine un7 (J:=λna nb out _ _ _=>Hi S R a b out na nb/\0<na/\1<nb/\t+2<=out.size) z f.2 λna nb out mg ac bc n=>?_;have l:=n.1;have p:=n.2.1;have a1:=n.2.2.1;have hsz:=n.2.2.2;have b2:=l.na;have W:=l.nb;have ib:nb-1<b.size:=by lia
     dsimp only;refine' jpn (M:=M) (A:=A) (E:=E) (s:=s) (st:=g) (β:=Nat) (P:=λ_=>True) (prog:=?prog) (λN=>?use) (λb4 _=>?pf)
     case use =>
      refine J1 (λhm=>?_) (λhm=>?_)
      ·generalize mg-1=m;exact N m trivial
      ·exact N mg trivial
     refine wpS_bind (wpS_mono (Q:=λ_ G=>Eqv g G) (wpS_modify ⟨rfl,rfl,rfl,rfl⟩) λ_ G F=>?_)
     replace F:=q.trans F
     refine wpS_bind (J3 (x:=b[nb-1]) (S2 ib) ?_);refine wpS_bind (jE C (K _ ib) T.ha (by lia) (by rw[List.drop_zero];exact E6 T.sa) (by lia) (F.k.trans hk) λk b1 B I=>?_);rw[List.drop_zero] at B I;dsimp only;generalize hac:na-k=ac2;refine' jpn2 (M:=M) (A:=A) (E:=E) (s:=s) (st:=G) (P:=λd c=>Hi S R a b d c nb/\0<c/\(∀ x∈a.toList.take c,R b[nb-1] x=false)/\t+2<=d.size) (prog:=?prog2) (λN=>?use2) (λd c h5=>?pf2)
     case use2 =>
      refine J1 (λk0=>?_) (λk0=>?_)
      ·have a5:Srt R (b.toList.take (nb-1)++[b[nb-1]]):=by rw[← o6 (by lia) W];exact E6 T.sb
       have w:Hi S R a b (out++(a.extract k na).reverse) k nb:=l.runA b1 λx hx y Y=>by
        have sx:S x:=T.hb x (V4 hx);have sy:S y:=T.ha y (V4 (Y4 Y));rw[o6 (by lia) W] at hx;exact C.tr _ _ _ sx (K _ ib) sy (uA C a5 (K _ ib) x hx) (C.asy _ _ (K _ ib) sy (I y Y))
       refine J1 (λu=>wpS_pure ⟨F,.inl ⟨_,rfl,w.doneA (.inl (E1.mp u))⟩⟩) (λu=>?_);have hP:Hi S R a b (out++(a.extract k na).reverse) k nb/\0<k/\(∀ x∈a.toList.take k,R b[nb-1] x=false)/\t+2<=(out++(a.extract k na).reverse).size:=by
        have a2:k ≠ 0:=λq=>u (E1.mpr q);exact⟨w,by lia,B,by rw[Array.size_append];lia⟩
       revert hP;clear u w;generalize out++(a.extract k na).reverse=d;generalize k=c;intro hP;exact N d c hP
      ·have:k=na:=by lia
       rw[this] at B;exact N out na ⟨l,p,B,hsz⟩
     have l3:=h5.1;have v:=h5.2.1;have a4:=h5.2.2.1;have b3:=h5.2.2.2;have D:=l3.na;have ia:c-1<a.size:=by lia
     refine wpS_bind (J3 (x:=b[nb-1]) (S2 ib) ?_);have l4:=l3.pushB (by lia) a4;refine J1 (λe5=>wpS_pure ⟨F,.inl ⟨_,rfl,l4.firstB T (E1.mp e5)⟩⟩) (λe5=>?_)
     replace e5:nb-1 ≠ 1:=λq=>e5 (E1.mpr q)
     refine wpS_bind (J3 (x:=a[c-1]) (S2 ia) ?_);refine wpS_bind (sD C (H _ ia) T.hb (by lia) (by rw[List.drop_zero];exact E6 T.sb) (by lia) (F.k.trans hk) λk2 a7 L O=>?_);rw[List.drop_zero] at L O;dsimp only;generalize hbc:nb-1-k2=bc2;refine' jpn2 (M:=M) (A:=A) (E:=E) (s:=s) (st:=G) (P:=λj o=>Hi S R a b j c o/\1<o/\(∀ x∈b.toList.take o,R a[c-1] x=false)/\t+2<=j.size) (prog:=?prog3) (λN=>?use3) (λj o h6=>?pf3)
     case use3 =>
      have X:∀ x∈b.toList.take k2,R a[c-1] x=false:=λx hx=>C.asy _ _ (T.hb x (V4 hx)) (H _ ia) (L x hx);refine J1 (λk0=>?_) (λk0=>?_)
      ·have a9:Srt R (a.toList.take (c-1)++[a[c-1]]):=by rw[← o6 v D];exact E6 T.sa
       have l5:Hi S R a b (d.push b[nb-1]++(b.extract k2 (nb-1)).reverse) c k2:=l4.runB a7 λx hx y Y=>by
        have sx:S x:=T.ha x (V4 hx);have sy:S y:=T.hb y (V4 (Y4 Y));rw[o6 v D] at hx;exact C.tr _ _ _ sx (H _ ia) sy (uA C a9 (H _ ia) x hx) (O y Y)
       refine J1 (λe6=>wpS_pure ⟨F,.inl ⟨_,rfl,l5.firstB T (E1.mp e6)⟩⟩) (λe6=>?_);refine J1 (λU=>wpS_pure ⟨F,.inl ⟨_,rfl,l5.doneA (.inr (E1.mp U))⟩⟩) (λU=>?_);have hP:Hi S R a b (d.push b[nb-1]++(b.extract k2 (nb-1)).reverse) c k2/\1<k2/\(∀ x∈b.toList.take k2,R a[c-1] x=false)/\t+2<=(d.push b[nb-1]++(b.extract k2 (nb-1)).reverse).size:=by
        have b5:k2 ≠ 1:=λq=>e6 (E1.mpr q);have a8:k2 ≠ 0:=λq=>U (E1.mpr q);exact⟨l5,by lia,X,by rw[Array.size_append,D6];lia⟩
       revert hP;clear e6 U l5;generalize d.push b[nb-1]++(b.extract k2 (nb-1)).reverse=j;generalize k2=o;intro hP;exact N j o hP
      ·have:k2=nb-1:=by lia
       rw[this] at X;exact N (d.push b[nb-1]) (nb-1) ⟨l4,by lia,X,by rw[D6];lia⟩
     refine wpS_bind (J3 (x:=a[c-1]) (S2 ia) ?_);have l7:=h6.1.pushA v h6.2.2.1;refine J1 (λU=>wpS_pure ⟨F,.inl ⟨_,rfl,l7.doneA (.inl (E1.mp U))⟩⟩) (λU=>?_);have hf:0<c-1/\1<o/\t+2<=(j.push a[c-1]).size:=by
      have a8:c-1 ≠ 0:=λq=>U (E1.mpr q);have h7:=h6.2.2.2;exact⟨by lia,h6.2.1,by rw[D6];lia⟩
     exact J1 (λ_=>wpS_pure ⟨F,.inr ⟨rfl,l7,hf⟩⟩) (λ_=>wpS_pure ⟨F,rfl,l7,hf⟩)
    ·intro z g f;have Z:=f.1;refine unR (J:=λy:Nat × Nat × Array Keyed × Nat × Nat × Nat=>Hi S R a b y.2.2.1 y.1 y.2.1/\0<y.1/\1<y.2.1/\t+2<=y.2.2.1.size) z f.2 (λr x hr=>wpS_pure ⟨Z,r,rfl,hr⟩) λhN=>?_;refine un7 (J:=λna nb out _ _ _=>Hi S R a b out na nb/\0<na/\1<nb/\t+2<=out.size) z hN λna nb out mg ac bc n=>?_;dsimp only;refine wpS_bind (wpS_modify ?_);exact wpS_pure ⟨Z.trans ⟨rfl,rfl,rfl,rfl⟩,rfl,n⟩
  ·intro z g f;exfalso;have B:=f.2.2.1.len;have I:=f.2.2.2;have:a.size+b.size<=max 0 (a.size+b.size):=by lia
   lia
 ·intro z g f;have Z:=f.1;exact unR (J:=λ_=>False) z (.inl f.2) (λr x hr=>wpS_pure (h r g Z hr)) λhN=>hN.2.elim
theorem oH(base:Nat):∀(b v u w:List Keyed)(j:Nat)(xs:Array Keyed),xs.toList=u++v++w->v.length=b.length->u.length=base+j ->
  ((b.zipIdx j).foldl (λa x=>match x with|(p,j)=>a.setIfInBounds (base+j) p) xs).toList=u++b++w
 | [],v,u,w,j,xs,h1,h2,h3=>by
  have:v=[]:=CB h2;subst this;exact h1
 | m::b,v,u,w,j,xs,h1,h2,h3=>by
  cases v with
  |nil=>cases h2
  | cons y v =>
   rw[List.zipIdx_cons,List.foldl_cons];have c:=oH base b v (u++[m]) w (j+1) (xs.setIfInBounds (base+j) m) (by
    rw[Array.toList_setIfInBounds,h1,← h3];simp[List.set_append]) (by simpa using h2) (by simp[h3];lia)
   rw[c];simp
theorem MN{σ:Type}{st st' : σ}{Q:PUnit->σ->Prop}(h:Q ⟨⟩ st'):wpS M A E s (set st':StateT σ Sem PUnit) Q st:=by
 unfold wpS;rw[StateT.run_set];exact I0 ⟨rfl,h⟩
theorem WT(C:Cmp M A E s κ S R){st:SortSt}{i pw pw2:Nat}{pre a b g:List Keyed}(hx:(arrOf st).toList=pre++a++b++g)(Z:∀ x∈(arrOf st).toList,S x)
  (a4:(pendingOf st)[i]?=some (pre.length,a.length,pw)) (a3:(pendingOf st)[i+1]?=some (pre.length+a.length,b.length,pw2)) (na:a ≠ []) (nb:b ≠ []) (O:Srt R a) (N:Srt R b) (hk:kindOf st = κ) (hf:failedOf st=none)
  {Q:Bool->SortSt->Prop}
  (h:∀ st' m,kindOf st' = κ->failedOf st'=none->pendingOf st'=((pendingOf st).setIfInBounds i (pre.length,a.length+b.length,pw)).eraseIdxIfInBounds (i+1)->(arrOf st').toList=pre++m++g->m.Perm (a++b)->Srt R m->Q true st') :
  wpS M A E s (bG i) Q st:=by
 have la:0<a.length:=m8.mpr na;have lb:0<b.length:=m8.mpr nb;have G:∀ x∈a,S x:=λx c=>Z x (by rw[hx];simp[c]);have L:∀ x∈b,S x:=λx c=>Z x (by rw[hx];simp[c]);have lx:(arrOf st).size=pre.length+a.length+b.length+g.length:=by
  have:=congrArg List.length hx;simp at this;lia
 have B:((arrOf st).toList.drop pre.length).take a.length=a:=by rw[hx];simp[V2]
 have v:((arrOf st).toList.drop (pre.length+a.length)).take b.length=b:=by
  rw[show pre.length+a.length=(pre++a).length by simp,hx,V2 (pre++a),List.drop_left,List.take_left]
 refine wpS_bind (wpS_get ?_);rw[a4,a3];refine wpS_bind (wpS_mono (Q:=λ_ o=>kindOf o = κ/\failedOf o=none/\arrOf o=arrOf st/\pendingOf o=((pendingOf st).setIfInBounds i (pre.length,a.length+b.length,pw)).eraseIdxIfInBounds (i+1)) (MN ⟨hk,hf,rfl,rfl⟩) λ_ o ⟨k1,f1,a1,p1⟩=>?_);obtain⟨b0,bt,W⟩:∃ b0 bt,b=b0::bt:=by cases b with|nil=>exact absurd rfl nb|cons x r=>exact⟨x,r,rfl⟩
 have a5:(arrOf st)[pre.length+a.length]?=some b0:=by
  rw[← t6,hx,W];simp[List.getElem?_append]
 have u:S b0:=L b0 (by rw[W];simp);have w:∀ y∈b,R y b0=false:=λy d=>by rw[W] at d N;exact EA C N u y d
 -- nothing is laid together: the two stand in order already
 have plain:(∀ x∈a,∀ y∈b,R y x=false)->∀ st',Eqv o st'->Q true st':=λhc st' q=>by
  refine h st' (a++b) (q.k.trans k1) (q.f.trans f1) (q.p.trans p1) ?_ (List.Perm.refl _) (V3.mpr ⟨O,N,hc⟩);rw[q.a,a1,hx];simp[V2]
 refine wpS_bind (J3 a5 ?_);refine wpS_bind (jE C u Z (by lia) (by rw[B];exact O) la k1 λk a7 h1 h2=>?_);rw[B] at h2;have D:∀ x∈a.take k,R b0 x=false:=λx c=>h1 x (by
  have:((arrOf st).toList.drop pre.length).take k=a.take k:=by rw[← B,List.take_take,Nat.min_eq_left a7]
  rw[this];exact c)
 dsimp only;refine J1 (λe=>?_) (λe=>?_)
 ·have e':a.length-k=0:=by simpa using e
  refine wpS_pure (plain (λx c y d=>?_) o (Eqv.refl _));have:a.take k=a:=S7 (by lia);rw[this] at D;exact C.tr x b0 y (G x c) u (L y d) (D x c) (w y d)
 ·have e':a.length-k ≠ 0:=by simpa using e
  -- the last of a
  have K:pre.length+k+(a.length-k)-1=pre.length+(a.length-1):=by lia
  have n:a.length-1<a.length:=by lia
  have a2:(arrOf st)[pre.length+k+(a.length-k)-1]?=some (a[a.length-1]'n):=by
   rw[← t6,hx,K];simp[List.getElem?_append,n,V2]
  have Sl:S (a[a.length-1]'n):=G _ (List.getElem_mem n);have t:a=a.take (a.length-1)++[a[a.length-1]'n]:=by
   have:=List.take_succ (l:=a) (i:=a.length-1);rw[show a.length-1+1=a.length by lia,v8] at this;simpa[n] using this
  have I:∀ x∈a,R (a[a.length-1]'n) x=false:=λx c=>by
   have hs:Srt R (a.take (a.length-1)++[a[a.length-1]'n]):=by rw[← t];exact O
   exact uA C hs Sl x (by rw[← t];exact c)
  refine wpS_bind (J3 a2 ?_);refine wpS_bind (sD C Sl Z (by lia) (by rw[v];exact N) (by lia) k1 λj a0 h3 h4=>?_);rw[v] at h4;have P:((arrOf st).toList.drop (pre.length+a.length)).take j=b.take j:=by rw[← v,List.take_take,Nat.min_eq_left a0]
  rw[P] at h3;dsimp only;refine J1 (λe2=>?_) (λe2=>?_)
  ·have U:j=0:=by simpa using e2
   subst U;refine wpS_pure (plain (λx c y d=>?_) o (Eqv.refl _));exact C.tr x _ y (G x c) Sl (L y d) (I x c) (h4 y (by simpa using d))
  ·have U:j ≠ 0:=by simpa using e2
   have ex:((arrOf st).extract (pre.length+k) (pre.length+a.length)).toList=a.drop k:=by
    rw[VD,hx];simp[V2,List.take_append,List.drop_append]
   have J:((arrOf st).extract (pre.length+a.length) (pre.length+a.length+j)).toList=b.take j:=by
    rw[ID,P]
   generalize hX:(arrOf st).extract (pre.length+k) (pre.length+a.length)=X at ex;generalize hY:(arrOf st).extract (pre.length+a.length) (pre.length+a.length+j)=Y at J;have sX:X.size=a.length-k:=by have:=congrArg List.length ex;simpa using this
   have sY:Y.size=j:=by have:=congrArg List.length J;simp at this;lia
   have T:Two S R X Y:=by
    refine⟨λx c=>G x (Y4 (by rw[← ex];exact c)),λx c=>L x (V4 (by rw[← J];exact c)),by rw[ex];exact N7 O,by rw[J];exact E6 N,by lia,by lia,λx c y d=>?_,λy d x c=>?_⟩
    ·rw[← t6,J,W] at d;have:y=b0:=by
      obtain⟨j',rfl⟩:∃ j',j=j'+1:=⟨j-1,by lia⟩
      simpa using d.symm
     rw[this];rw[ex] at c;exact C.asy _ _ u (G x (Y4 c)) (h2 x c)
    ·rw[← t6,ex,sX] at c;rw[zA,show k+(a.length-k-1)=a.length-1 by lia,z1 n] at c;cases c;rw[J] at d;exact C.asy _ _ (L y (V4 d)) Sl (h3 y d)
   have fin:∀(m:Array Keyed)(st':SortSt),Eqv o st'->Fin2 R X Y m->wpS M A E s (do
     modify λ(z:SortSt)=>setArr z (List.foldl (λa x=>match x with|(p,j)=>a.setIfInBounds (pre.length+k+j) p) (arrOf z) m.toList.zipIdx)
     let z ← get
     pure (failedOf z).isNone) Q st':=by
    intro m st' q ⟨F,ms⟩;rw[ex,J] at F;refine wpS_bind (wpS_modify ?_);refine wpS_bind (wpS_get ?_);refine wpS_pure ?_;show Q (failedOf st').isNone _;rw[q.f,f1];have lm:m.toList.length=(a.drop k).length+(b.take j).length:=by rw[F.length_eq,M4]
    have H:∀ z∈m.toList,z∈a.drop k\/z∈b.take j:=λz hz=>N2.mp (F.mem_iff.mp hz);refine h _ (a.take k++m.toList++b.drop j) (q.k.trans k1) (q.f.trans f1) (q.p.trans p1) ?_ ?_ ?_
    ·show(List.foldl _ (arrOf st') m.toList.zipIdx).toList=_;have base:(arrOf st').toList=(pre++a.take k)++(a.drop k++b.take j)++(b.drop j++g):=by
      rw[q.a,a1,hx];have t1:=Q5 k a;have t2:=Q5 j b
      calc pre++a++b++g=pre++(a.take k++a.drop k)++(b.take j++b.drop j)++g:=by rw[t1,t2]
       _=_:=by simp only[V2]
     have:=oH (pre.length+k) m.toList (a.drop k++b.take j) (pre++a.take k) (b.drop j++g) 0 (arrOf st') base (by rw[M4,lm]) (by rw[M4,W7];lia);rw[this];simp only[V2]
    ·have t1:=Q5 k a;have t2:=Q5 j b
     calc (a.take k++m.toList++b.drop j).Perm (a.take k++(a.drop k++b.take j)++b.drop j):=List.Perm.append_right _ (List.Perm.append_left _ F)
      _ = a++b:=by
       simp only[V2];rw[t2,← V2,t1]
    ·have a6:Srt R (a.take k++a.drop k):=by rw[Q5];exact O
     have a8:Srt R (b.take j++b.drop j):=by rw[Q5];exact N
     have ca:=(V3.mp a6).2.2;have cb:=(V3.mp a8).2.2;refine V3.mpr ⟨V3.mpr ⟨E6 O,ms,λx c y d=>?_⟩,N7 N,λx c y d=>?_⟩
     ·rcases H y d with d|d
      ·exact ca x c y d
      ·exact C.tr x b0 y (G x (V4 c)) u (L y (V4 d)) (D x c) (w y (V4 d))
     ·have Sy:=L y (Y4 d);rcases N2.mp c with c|c
      ·exact C.tr x b0 y (G x (V4 c)) u Sy (D x c) (w y (Y4 d))
      ·rcases H x c with c|c
       ·exact C.tr x _ y (G x (Y4 c)) Sl Sy (I x (Y4 c)) (h4 y d)
       ·exact cb x c y d
   refine J1 (λe3=>?_) (λe3=>?_)
   ·exact wpS_bind (zL C T k1 λm st' q fm=>fin m st' q fm)
   ·exact wpS_bind (CM C T k1 λm st' q fm=>fin m st' q fm)
def e(xs:Array Keyed)(k:Nat):Keyed:=(xs[k]?).getD (.none,.none)
theorem eC(h:k<xs.size):xs[k]?=some (e xs k):=by
 unfold e;rw[S2 h];rfl
def Asc(R:Keyed->Keyed->Bool)(xs:Array Keyed)(l h:Nat):Prop:=∀ i j,l<=i->i<=j->j<h->R (e xs j) (e xs i)=false
def Des(R:Keyed->Keyed->Bool)(xs:Array Keyed)(l h:Nat):Prop:=∀ i j,l<=i->i<=j->j<h->R (e xs i) (e xs j)=false
structure Bs(κ:SortKind)(p0:Array (Nat × Nat × Nat))(a0:Array Keyed)(lo:Nat)(st:SortSt):Prop where
 k:kindOf st = κ
 f:failedOf st=none
 p:pendingOf st=p0
 perm:(arrOf st).toList.Perm a0.toList
 pre:∀ k,k<lo->(arrOf st)[k]?=a0[k]?
theorem LM(hs:src<xs.size)(hd:d<=src)(k:Nat):e (bubble xs src d) k=if k=src-d then e xs src else if src-d<k/\k<=src then e xs (k-1) else e xs k:=by
 unfold e;rw[getElem?_bubble hs d hd]
 repeat' split
 all_goals rfl
theorem R8(a:j<=xs.size)(k:Nat):e (mirror xs i j ((j-i) / 2)) k=if i<=k/\k<j then e xs (i+j-1-k) else e xs k:=by
 unfold e;rw[getElem?_mirror_all a];split <;> rfl
section
variable{M:Model}{A:Around}{E:Value->Shared->Prop}{s:Shared}{κ:SortKind}{S:Keyed->Prop}{R:Keyed->Keyed->Bool}{p0:Array (Nat × Nat × Nat)}{a0:Array Keyed}{lo:Nat}
theorem Bs.size{st:SortSt}(B:Bs κ p0 a0 lo st):(arrOf st).size=a0.size:=by
 have:=B.perm.length_eq;simpa using this
theorem Bs.sat{st:SortSt}(B:Bs κ p0 a0 lo st)(a:∀ x∈a0.toList,S x){k:Nat}(b:k<a0.size):S (e (arrOf st) k):=by
 have h:=eC (xs:=arrOf st) (k:=k) (by rw[B.size];exact b);refine a _ (B.perm.mem_iff.mp ?_);rw[← t6] at h;exact u3 h
theorem oA(C:Cmp M A E s κ S R)(b:∀ x∈a0.toList,S x){st:SortSt}(B:Bs κ p0 a0 lo st){i j:Nat}(hi:i<a0.size)(a:j<a0.size){Q:Option Bool->SortSt->Prop}(h:Q (some (R (e (arrOf st) i) (e (arrOf st) j))) st) :
  wpS M A E s (ltAt' i j) Q st:=by
 rw[ltAt'_eq];refine wpS_bind (wpS_get ?_);refine wpS_bind (J3 (eC (by rw[B.size];exact hi)) ?_);refine wpS_bind (J3 (eC (by rw[B.size];exact a)) ?_);exact C.ask _ _ (B.sat b hi) (B.sat b a) _ _ B.k h
theorem DQ(C:Cmp M A E s κ S R)(b:∀ k,k<=h->S (e xs k))(g:l<h)(a:Asc R xs l h)(n:R (e xs h) (e xs (h-1))=false):Asc R xs l (h+1):=by
 intro i j c d f;by_cases hj:j=h
 ·subst hj;by_cases hi:i=j
  ·subst hi;exact C.irr (b _ (Q0 _))
  ·exact C.tr _ (e xs (j-1)) _ (b _ (by lia)) (b _ (by lia)) (b _ (by lia)) (a i (j-1) c (by lia) (by lia)) n
 ·exact a i j c d (by lia)
theorem DC(C:Cmp M A E s κ S R)(b:∀ k,k<=h->S (e xs k))(g:l<h)(a:Des R xs l h)(n:R (e xs (h-1)) (e xs h)=false):Des R xs l (h+1):=by
 intro i j c d f;by_cases hj:j=h
 ·subst hj;by_cases hi:i=j
  ·subst hi;exact C.irr (b _ (Q0 _))
  ·exact C.tr _ (e xs (j-1)) _ (b _ (by lia)) (b _ (by lia)) (b _ (by lia)) n (a i (j-1) c (by lia) (by lia))
 ·exact a i j c d (by lia)
theorem Bs.set{st:SortSt}(B:Bs κ p0 a0 lo st){xs:Array Keyed}(b:xs.Perm (arrOf st))(c:∀ k,k<lo->xs[k]?=(arrOf st)[k]?):Bs κ p0 a0 lo (setArr st xs) :=
 ⟨B.k,B.f,B.p,b.toList.trans B.perm,λk a=>(c k a).trans (B.pre k a)⟩
theorem xS (C:Cmp M A E s κ S R) (y:∀ x∈a0.toList,S x) {st:SortSt} (B:Bs κ p0 a0 lo st) {n ok:Nat} (hn:lo+n<=a0.size) (hok:ok<=n) (N:1<=n) (hs:Asc R (arrOf st) lo (lo+ok)) {Q:Bool->SortSt->Prop}
  (h:∀ st',Bs κ p0 a0 lo st'->Asc R (arrOf st') lo (lo+n)->Q true st'):wpS M A E s (LS lo n ok) Q st:=by
 refine wpS_bind (wpS_mono (Q:=λ(z:Option Bool × Unit) st'=>z.1=none/\Bs κ p0 a0 lo st'/\Asc R (arrOf st') lo (lo+n)) ?_ ?_)
 ·refine wpS_forRange (λk (z:Option Bool × Unit) st'=>z.1=none/\Bs κ p0 a0 lo st'/\Asc R (arrOf st') lo (lo+k)) ?_ ?_ ⟨rfl,B,λi j f p u=>?_⟩
  ·rintro k ⟨o,_⟩ b L I ⟨rfl,q,as⟩;have d:∀ j,j<lo+n->S (e (arrOf b) j):=λj v=>q.sat y (by lia);refine wpS_bind (wpS_mono (Q:=λ(z:Option Bool × Nat × Nat) st'=>st'=b/\z.1=none/\z.2.1<=k/\(∀ i,i<z.2.1->R (e (arrOf b) (lo+k)) (e (arrOf b) (lo+i))=false)/\(∀ i,z.2.1<=i->i<k->R (e (arrOf b) (lo+k)) (e (arrOf b) (lo+i))=true)) ?_ ?_)
   ·refine wpS_forRange (λt (z:Option Bool × Nat × Nat) st'=>st'=b/\z.1=none/\z.2.1<=z.2.2/\z.2.2<=k/\z.2.2-z.2.1+t<=k/\(∀ i,i<z.2.1->R (e (arrOf b) (lo+k)) (e (arrOf b) (lo+i))=false)/\(∀ i,z.2.2<=i->i<k->R (e (arrOf b) (lo+k)) (e (arrOf b) (lo+i))=true)) ?_ ?_
     ⟨rfl,rfl,Nat.zero_le _,Nat.le_refl _,by dsimp only;lia,λi hi=>absurd hi (Nat.not_lt_zero _),λi f p=>by dsimp only at f;lia⟩
    ·rintro t ⟨o,l,r⟩ a _ O ⟨rfl,c,f,p,u,g,m⟩;dsimp only at c f p u g m ⊢;subst c;refine J1 (λw=>?_) (λw=>?_)
     ·have:l=r:=by lia
      subst this;exact wpS_pure ⟨rfl,rfl,p,g,m⟩
     ·have hm:(l+r) / 2<r:=by lia
      have D:l<=(l+r) / 2:=by lia
      refine wpS_bind (oA C y q (by lia) (by lia) ?_);dsimp only;cases er:R (e (arrOf a) (lo+k)) (e (arrOf a) (lo+(l+r) / 2)) with
      | true =>
       rw[z0 rfl];refine wpS_pure ⟨rfl,rfl,D,by dsimp only;lia,by dsimp only;lia,g,λi i1 F=>?_⟩;dsimp only at i1;cases e2:R (e (arrOf a) (lo+k)) (e (arrOf a) (lo+i)) with
       |true=>rfl
       | false =>
        have:=C.tr _ _ _ (d _ (by lia)) (d _ (by lia)) (d _ (by lia)) (as (lo+(l+r) / 2) (lo+i) (by lia) (by lia) (by lia)) e2;rw[this] at er;cases er
      | false =>
       rw[y0 (by decide)];refine wpS_pure ⟨rfl,rfl,by dsimp only;lia,p,by dsimp only;lia,λi i1=>?_,m⟩;dsimp only at i1;exact C.tr _ _ _ (d _ (by lia)) (d _ (by lia)) (d _ (by lia)) (as (lo+i) (lo+(l+r) / 2) (by lia) (by lia) (by lia)) er
    ·rintro⟨o,l,r⟩ a ⟨rfl,c,f,p,u,g,m⟩;dsimp only at c f p u g m ⊢
     have : l = r := by have:k ≤ max 0 k := by lia
                        lia
     subst this;exact⟨rfl,c,p,g,m⟩
   ·rintro⟨o,l,r⟩ a ⟨rfl,c,f,g,m⟩;dsimp only at c f g m ⊢;subst c;dsimp only;have hsz:lo+k<(arrOf a).size:=by rw[q.size];lia
    have hd:(lo+k)-(lo+l)=k-l:=by lia
    refine wpS_bind (wpS_modify ?_);have H:∀ j,e (bubble (arrOf a) (lo+k) (lo+k-(lo+l))) j=if j=lo+l then e (arrOf a) (lo+k) else if lo+l<j/\j<=lo+k then e (arrOf a) (j-1) else e (arrOf a) j:=λj=>by
     rw[LM hsz (by lia),show lo+k-(lo+k-(lo+l))=lo+l by lia]
    refine wpS_pure ⟨rfl,q.set (bubble_perm _ _ _) (λj v=>?_),λi j i1 F J=>?_⟩
    ·show(bubble (arrOf a) (lo+k) (lo+k-(lo+l)))[j]?=_;rw[getElem?_bubble hsz _ (by lia),y0 (by lia),y0 (by lia)]
    ·show R (e (bubble (arrOf a) (lo+k) (lo+k-(lo+l))) j) (e (bubble (arrOf a) (lo+k) (lo+k-(lo+l))) i)=false;rw[H,H];have K:∀ j,j<lo+n->S (e (arrOf a) j):=d;by_cases j1:j=lo+l
     ·rw[z0 j1];by_cases i4:i=lo+l
      ·rw[z0 i4];exact C.irr (d _ (by lia))
      ·rw[y0 i4,y0 (by lia)];have:=g (i-lo) (by lia);rw[show lo+(i-lo)=i by lia] at this;exact this
     ·rw[y0 j1];by_cases j2:lo+l<j/\j<=lo+k
      ·rw[z0 j2];have G:=m (j-1-lo) (by lia) (by lia);rw[show lo+(j-1-lo)=j-1 by lia] at G;by_cases i4:i=lo+l
       ·rw[z0 i4];exact C.asy _ _ (d _ (by lia)) (d _ (by lia)) G
       ·rw[y0 i4];by_cases i5:lo+l<i/\i<=lo+k
        ·rw[z0 i5];exact as (i-1) (j-1) (by lia) (by lia) (by lia)
        ·rw[y0 i5];exact as i (j-1) (by lia) (by lia) (by lia)
      ·rw[y0 j2,y0 (by lia),y0 (by lia)];exact as i j (by lia) (by lia) (by lia)
  ·rintro⟨o,_⟩ b ⟨c,q,as⟩;exact⟨c,q,λi j i1 F J=>as i j i1 F (by lia)⟩
  ·by_cases v:j<lo+ok
   ·exact hs i j f p v
   ·have:i=j:=by lia
    subst this;exact C.irr (B.sat y (by lia))
 ·rintro⟨o,_⟩ b ⟨c,q,as⟩;dsimp only at c ⊢;subst c;exact wpS_pure (h b q as)
end
def Eqb(R:Keyed->Keyed->Bool)(xs:Array Keyed)(l h:Nat):Prop:=∀ i j,l<=i->i<h->l<=j->j<h->R (e xs i) (e xs j)=false
section
variable{M:Model}{A:Around}{E:Value->Shared->Prop}{s:Shared}{κ:SortKind}{S:Keyed->Prop}{R:Keyed->Keyed->Bool}{p0:Array (Nat × Nat × Nat)}{a0:Array Keyed}{lo:Nat}
theorem DF{α:Type}{prog:StateT SortSt Sem α}{P:SortSt->Prop}{Q : α->SortSt->Prop}{G:Prop}(use:(∀ st,P st->wpS M A E s prog Q st)->G)(a:∀ st,P st->wpS M A E s prog Q st):G:=use a
theorem XF(C:Cmp M A E s κ S R)(f:∀ x∈a0.toList,S x){st:SortSt}(B:Bs κ p0 a0 lo st){a nrem:Nat}(j:1<=a)(g:a<=nrem)(hn:lo+nrem<=a0.size)(as:Asc R (arrOf st) lo (lo+a)){Q:Option (Option Nat) × Nat->SortSt->Prop}
  (h:∀ n,a<=n->n<=nrem->Asc R (arrOf st) lo (lo+n)->(n<nrem->R (e (arrOf st) (lo+n)) (e (arrOf st) (lo+n-1))=true)->Q (none,n) st) :
  wpS M A E s (forIn [a:nrem] ((none,a):Option (Option Nat) × Nat) (λ(_:Nat) z=>ltAt' (lo+z.2) (lo+z.2-1) >>= λx=>match x with
   |some smaller=>if smaller=true then pure (ForInStep.done (none,z.2)) else pure (ForInStep.yield (none,z.2+1))
   |_=>pure (ForInStep.done (some none,z.2)))) Q st:=by
 refine wpS_forRange (λt (z:Option (Option Nat) × Nat) st'=>st'=st/\z=(none,t)/\Asc R (arrOf st) lo (lo+t)) ?_ ?_ ⟨rfl,rfl,as⟩
 ·rintro t ⟨o,n⟩ c t1 i ⟨rfl,d,b⟩;cases d;dsimp only;refine wpS_bind (oA C f B (by lia) (by lia) ?_);dsimp only;cases er:R (e (arrOf c) (lo+t)) (e (arrOf c) (lo+t-1)) with
  | true =>
   rw[z0 rfl];exact wpS_pure (h t t1 (by lia) b λ_=>er)
  | false =>
   rw[y0 (by decide)];exact wpS_pure ⟨rfl,rfl,DQ C (h:=lo+t) (λk l=>B.sat f (by lia)) (by lia) b er⟩
 ·rintro⟨o,n⟩ c ⟨rfl,d,b⟩;cases d;rw[show max a nrem=nrem by lia] at b ⊢;exact h nrem g (Q0 _) b λz=>absurd z (L3 _)
theorem cK(C:Cmp M A E s κ S R){st:SortSt}(B:Bs κ p0 a0 lo st){n:Nat}(hn:lo+n<=a0.size)(b:Des R (arrOf st) lo (lo+n)) :
  Bs κ p0 a0 lo (setArr st (mirror (arrOf st) lo (lo+n) ((lo+n-lo) / 2)))/\Asc R (mirror (arrOf st) lo (lo+n) ((lo+n-lo) / 2)) lo (lo+n):=by
 have a:lo+n<=(arrOf st).size:=by rw[B.size];exact hn
 refine⟨B.set (mirror_perm _ _ _ _) (λk f=>by rw[getElem?_mirror_all a,y0 (by lia)]),λi j c g d=>?_⟩;rw[R8 a,R8 a,z0 (by lia),z0 (by lia)];exact b _ _ (by lia) (by lia) (by lia)
theorem OC(C:Cmp M A E s κ S R)(c:∀ x∈a0.toList,S x){st:SortSt}(B:Bs κ p0 a0 lo st){l h m:Nat}(o:lo<=l)(hh:h<=a0.size)(hm:h<=m)(f:m<=a0.size)(b:Des R (arrOf st) lo m)(eq:Eqb R (arrOf st) l h) :
  Bs κ p0 a0 lo (setArr st (mirror (arrOf st) l h ((h-l) / 2)))/\Des R (mirror (arrOf st) l h ((h-l) / 2)) lo m:=by
 have a:h<=(arrOf st).size:=by rw[B.size];exact hh
 refine⟨B.set (mirror_perm _ _ _ _) (λk d=>by rw[getElem?_mirror_all a,y0 (by lia)]),λi j p n g=>?_⟩;rw[R8 a,R8 a];have q:∀ k,k<m->S (e (arrOf st) k):=λk d=>B.sat c (by lia);by_cases c1:l<=i/\i<h
 ·rw[z0 c1];by_cases c2:l<=j/\j<h
  ·rw[z0 c2];exact eq _ _ (by lia) (by lia) (by lia) (by lia)
  ·rw[y0 c2];exact b _ _ (by lia) (by lia) (by lia)
 ·rw[y0 c1];by_cases c2:l<=j/\j<h
  ·rw[z0 c2];exact b _ _ (by lia) (by lia) (by lia)
  ·rw[y0 c2];exact b _ _ (by lia) (by lia) (by lia)
theorem CL (C:Cmp M A E s κ S R) (p:∀ x∈a0.toList,S x) {st:SortSt} (B:Bs κ p0 a0 lo st) {nrem:Nat} (h1:1<=nrem) (hn:lo+nrem<=a0.size) {Q:Option Nat->SortSt->Prop}
  (h:∀ st' n,Bs κ p0 a0 lo st'->1<=n->n<=nrem->Asc R (arrOf st') lo (lo+n)->Q (some n) st'):wpS M A E s (XN lo nrem) Q st:=by
 refine wpS_bind (XF C p B (Q0 1) h1 hn (λi j i1 r W=>?_) λn n1 n2 as br=>?_)
 ·have:i=j:=by lia
  subst this;exact C.irr (B.sat p (by lia))
 dsimp only;refine J1 (λen=>wpS_pure (h st n B n1 n2 as)) (λen=>?_);have a5:n ≠ nrem:=by simpa using en
 have X:n<nrem:=by lia
 have H:=br X;refine DF (M:=M) (A:=A) (E:=E) (s:=s) (α:=Option Nat) (Q:=Q) (P:=λu=>Bs κ p0 a0 lo u/\Des R (arrOf u) lo (lo+n)/\R (e (arrOf u) (lo+n)) (e (arrOf u) (lo+n-1))=true) (prog:=?prog) (λN=>?use) (λu ⟨L,de,Y⟩=>?pf)
 case use =>
  refine J1 (λg1=>?_) (λg1=>?_)
  ·refine wpS_bind (oA C p B (by lia) (by lia) ?_);dsimp only;cases er:R (e (arrOf st) lo) (e (arrOf st) (lo+n-1)) with
   |true=>rw[z0 rfl];exact wpS_pure (h st n B n1 n2 as)
   | false =>
    rw[y0 (by decide)]
    -- all of them are equal
    have c:∀ k,k<lo+n->S (e (arrOf st) k):=λk J=>B.sat p (by lia);have all:Eqb R (arrOf st) lo (lo+n):=λi j i1 r y w=>by
     -- j<=last<=first<=i
     have a1:=as j (lo+n-1) y (by lia) (by lia);have a2:=as lo i (Q0 _) i1 r;exact C.tr _ _ _ (c j w) (c lo (by lia)) (c i r) (C.tr _ _ _ (c j w) (c (lo+n-1) (by lia)) (c lo (by lia)) a1 er) a2
    have de:Des R (arrOf st) lo (lo+n):=λi j i1 r W=>all i j i1 (by lia) (by lia) W;have T:lo+n<=(arrOf st).size:=by rw[B.size];lia
    obtain⟨q,a⟩:=OC C p B (Q0 lo) (show lo+n<=a0.size by lia) (Q0 _) (by lia) de all;refine wpS_bind (wpS_modify ?_);refine N _ ⟨q,a,?_⟩;show R (e (mirror (arrOf st) lo (lo+n) ((lo+n-lo) / 2)) (lo+n)) (e (mirror (arrOf st) lo (lo+n) ((lo+n-lo) / 2)) (lo+n-1))=true;rw[R8 T,R8 T,y0 (by lia),z0 (by lia)];rw[show lo+(lo+n)-1-(lo+n-1)=lo by lia];cases e2:R (e (arrOf st) (lo+n)) (e (arrOf st) lo) with
    |true=>rfl
    | false =>
     have:=C.tr _ _ _ (c (lo+n-1) (by lia)) (c lo (by lia)) (B.sat p (show lo+n<a0.size by lia)) er e2;rw[this] at H;cases H
  ·have:n=1:=by lia
   subst this;refine N st ⟨B,λi j i1 r W=>?_,H⟩;have:i=j:=by lia
   subst this;exact C.irr (B.sat p (by lia))
 case pf =>
  -- the falling part
  refine wpS_bind (S9 ?_);refine wpS_bind (wpS_mono (Q:=λ(z:Option (Option Nat) × Nat × Nat) st'=>z.1=none/\Bs κ p0 a0 lo st'/\z.2.1<=nrem/\z.2.2+1<=z.2.1/\Des R (arrOf st') lo (lo+z.2.1)/\Eqb R (arrOf st') (lo+z.2.1-(z.2.2+1)) (lo+z.2.1)) ?_ ?_)
  ·refine wpS_forRange (λt (z:Option (Option Nat) × Nat × Nat) st'=>z.1=none/\z.2.1=t/\Bs κ p0 a0 lo st'/\z.2.2+1<=z.2.1/\Des R (arrOf st') lo (lo+z.2.1)/\Eqb R (arrOf st') (lo+z.2.1-(z.2.2+1)) (lo+z.2.1)) ?_ ?_ ⟨rfl,rfl,L,by dsimp only;lia,?_,λi j i1 r y w=>?_⟩
   ·rintro t ⟨o,m,b⟩ f t1 t2 ⟨D,O,q,F,a,d⟩;dsimp only at D O F a d ⊢;subst D O;have c:∀ k,k<a0.size->S (e (arrOf f) k):=λk J=>q.sat p J;refine wpS_bind (oA C p q (by lia) (by lia) ?_);dsimp only;cases er:R (e (arrOf f) (lo+m)) (e (arrOf f) (lo+m-1)) with
    | true =>
     rw[z0 rfl];refine J1 (λg=>?_) (λg=>?_)
     ·have T:lo+m<=(arrOf f).size:=by rw[q.size];lia
      obtain⟨G,v⟩:=OC C p q (l:=lo+m-(b+1)) (h:=lo+m) (by lia) (by lia) (Q0 _) (by lia) a d;have K:∀ k,e (mirror (arrOf f) (lo+m-(b+1)) (lo+m) ((lo+m-(lo+m-(b+1))) / 2)) k=if lo+m-(b+1)<=k/\k<lo+m then e (arrOf f) (lo+m-(b+1)+(lo+m)-1-k) else e (arrOf f) k:=λk=>R8 T k
      refine wpS_bind (wpS_modify ?_);refine wpS_pure ⟨rfl,rfl,G,by dsimp only;lia,?_,λi j i1 r y w=>?_⟩
      ·show Des R (mirror (arrOf f) (lo+m-(b+1)) (lo+m) ((lo+m-(lo+m-(b+1))) / 2)) lo (lo+(m+1));refine DC C (h:=lo+m) (λk J=>G.sat p (by lia)) (by lia) v ?_;rw[K,K,z0 (by lia),y0 (by lia)];rw[show lo+m-(b+1)+(lo+m)-1-(lo+m-1)=lo+m-(b+1) by lia];exact C.tr _ _ _ (c _ (by lia)) (c (lo+m-1) (by lia)) (c _ (by lia)) (C.asy _ _ (c _ (by lia)) (c _ (by lia)) er) (a _ _ (by lia) (by lia) (by lia))
      ·dsimp only at i1 r y w;have:i=j:=by lia
       subst this;exact C.irr (G.sat p (by lia))
     ·have:b=0:=by lia
      subst this;refine wpS_pure ⟨rfl,rfl,q,by dsimp only;lia,DC C (h:=lo+m) (λk J=>c k (by lia)) (by lia) a (C.asy _ _ (c _ (by lia)) (c _ (by lia)) er),λi j i1 r y w=>?_⟩;dsimp only at i1 r y w;have:i=j:=by lia
      subst this;exact C.irr (c _ (by lia))
    | false =>
     rw[y0 (by decide)];refine wpS_bind (oA C p q (by lia) (by lia) ?_);dsimp only;cases er2:R (e (arrOf f) (lo+m-1)) (e (arrOf f) (lo+m)) with
     | true =>
      rw[z0 rfl];exact wpS_pure ⟨rfl,q,by dsimp only;lia,F,a,d⟩
     | false =>
      rw[y0 (by decide)];refine wpS_pure ⟨rfl,rfl,q,by dsimp only;lia,DC C (h:=lo+m) (λk J=>c k (by lia)) (by lia) a er2,λi j i1 r y w=>?_⟩;dsimp only at i1 r y w;by_cases ci:i=lo+m
      ·by_cases cj:j=lo+m
       ·rw[ci,cj];exact C.irr (c _ (by lia))
       ·rw[ci];exact C.tr _ _ _ (c j (by lia)) (c (lo+m-1) (by lia)) (c _ (by lia)) (d (lo+m-1) j (by lia) (by lia) (by lia) (by lia)) er
      ·by_cases cj:j=lo+m
       ·rw[cj];exact C.tr _ _ _ (c _ (by lia)) (c (lo+m-1) (by lia)) (c i (by lia)) er2 (d i (lo+m-1) (by lia) (by lia) (by lia) (by lia))
       ·exact d i j (by lia) (by lia) (by lia) (by lia)
   ·rintro⟨o,m,b⟩ f ⟨D,O,q,F,a,d⟩;dsimp only at D O F a d ⊢;exact⟨D,q,by lia,F,a,d⟩
   ·exact DC C (h:=lo+n) (λk J=>L.sat p (by lia)) (by lia) de (C.asy _ _ (L.sat p (by lia)) (L.sat p (by lia)) Y)
   ·dsimp only at i1 r y w;have:i=j:=by lia
    subst this;exact C.irr (L.sat p (by lia))
  ·rintro⟨o,m,b⟩ f ⟨D,q,hm,F,a,d⟩;dsimp only at D hm F a d ⊢;subst D;dsimp only;refine DF (M:=M) (A:=A) (E:=E) (s:=s) (α:=Option Nat) (Q:=Q) (P:=λI=>Bs κ p0 a0 lo I/\Des R (arrOf I) lo (lo+m)) (prog:=?prog2) (λN=>?use2) (λI ⟨G,v⟩=>?pf2)
   case use2 =>
    refine J1 (λg=>?_) (λg=>?_)
    ·obtain⟨G,v⟩:=OC C p q (l:=lo+m-(b+1)) (h:=lo+m) (by lia) (by lia) (Q0 _) (by lia) a d;refine wpS_bind (wpS_modify ?_);exact N _ ⟨G,v⟩
    ·exact N _ ⟨q,a⟩
   case pf2 =>
    obtain⟨B5,U⟩:=cK C G (n:=m) (by lia) v;refine wpS_bind (wpS_modify ?_);refine wpS_bind (XF C p B5 (by lia) hm hn U λn' a4 a3 Z _=>?_);exact wpS_pure (h _ n' B5 (by lia) a3 Z)
end
def flat(rs:List (List Keyed × Nat)):List Keyed:=(rs.map (·.1)).flatten
def pend:Nat->List (List Keyed × Nat)->List (Nat × Nat × Nat)
 |_,[]=>[]
 |k,(r,pw)::t=>(k,r.length,pw)::pend (k+r.length) t
theorem xD:flat []=[]:=rfl
theorem Q6(r:List Keyed × Nat)(t:List (List Keyed × Nat)):flat (r::t)=r.1++flat t:=rfl
theorem z7(p q:List (List Keyed × Nat)):flat (p++q)=flat p++flat q:=by simp[flat]
theorem u8:∀(k:Nat)(p q:List (List Keyed × Nat)),pend k (p++q)=pend k p++pend (k+(flat p).length) q
 |k,[],q=>by simp[pend,xD]
 | k,(r,pw)::t,q=>by
  simp only[List.cons_append,pend,Q6,M4,List.cons.injEq,true_and];rw[u8 (k+r.length) t q,Nat.add_assoc]
theorem dC:∀(k:Nat)(p:List (List Keyed × Nat)),(pend k p).length=p.length
 |_,[]=>rfl
 |k,(r,pw)::t=>by simp[pend,dC _ t]
structure Rn(κ:SortKind)(R:Keyed->Keyed->Bool)(a0:Array Keyed)(rs:List (List Keyed × Nat))(rest:List Keyed)(st:SortSt):Prop where
 k:kindOf st = κ
 f:failedOf st=none
 arr:(arrOf st).toList=flat rs++rest
 pn:(pendingOf st).toList=pend 0 rs
 ok:∀ r∈rs,r.1 ≠ []/\Srt R r.1
 perm:(arrOf st).toList.Perm a0.toList
theorem cT{α:Type}(a c:List α)(x b y : α):((a++x::y::c).set a.length b).eraseIdx (a.length+1)=a++b::c:=by
 rw[List.set_append_right _ _ (Q0 _),Nat.sub_self,List.set_cons_zero,List.eraseIdx_append_of_length_le (by lia)];rw[show a.length+1-a.length=1 by lia];rfl
theorem uH(C:Cmp M A E s κ S R)(y:∀ x∈a0.toList,S x){st:SortSt}{rs:List (List Keyed × Nat)}{rest:List Keyed}(N:Rn κ R a0 rs rest st){i:Nat}(hi:i+1<rs.length){Q:Bool->SortSt->Prop}
  (h:∀ st' n,Rn κ R a0 n rest st'->n.length+1=rs.length->(flat n).length=(flat rs).length->Q true st'):wpS M A E s (bG i) Q st:=by
 obtain⟨p,a,pw,b,pw2,q,e,D⟩:∃ p a pw b pw2 q,rs=p++(a,pw)::(b,pw2)::q/\p.length=i:=by
  have G:rs=rs.take i++rs.drop i:=(Q5 i rs).symm;have hd:rs.drop i=rs[i]::rs[i+1]::rs.drop (i+2):=by
   rw[List.drop_eq_getElem_cons (by lia),List.drop_eq_getElem_cons hi]
  exact⟨rs.take i,rs[i].1,rs[i].2,rs[i+1].1,rs[i+1].2,rs.drop (i+2),by rw[← hd];exact G,by simp;lia⟩
 subst D;have d:=N.ok (a,pw) (by rw[e];simp);have j:=N.ok (b,pw2) (by rw[e];simp);have l:(pendingOf st).toList=pend 0 p++((flat p).length,a.length,pw)::((flat p).length+a.length,b.length,pw2)::pend ((flat p).length+a.length+b.length) q:=by
  rw[N.pn,e,u8];simp[pend]
 have c:(pend 0 p).length=p.length:=dC 0 p;have g:(arrOf st).toList=flat p++a++b++(flat q++rest):=by
  rw[N.arr,e,z7,Q6,Q6];simp[V2]
 refine WT C (i:=p.length) (pw:=pw) (pw2:=pw2) g (λx hx=>y x (N.perm.mem_iff.mp hx)) ?_ ?_ d.1 j.1 d.2 j.2 N.k N.f λst' m w F B t pm u=>?_
 ·rw[← t6,l,WB (by lia),c,Nat.sub_self];rfl
 ·rw[← t6,l,WB (by lia),c,show p.length+1-p.length=1 by lia];rfl
 ·refine h st' (p++(m,pw)::q) ⟨w,F,?_,?_,λr o=>?_,?_⟩ (by rw[e];simp;lia) ?_
  ·rw[t,z7,Q6];simp[V2]
  ·rw[B,Array.toList_eraseIdxIfInBounds,Array.toList_setIfInBounds,l,← c,cT,u8];simp[pend,pm.length_eq,Nat.add_assoc]
  ·rcases N2.mp o with o|o
   ·exact N.ok r (by rw[e];simp[o])
   ·rcases V0.mp o with rfl|o
    ·refine⟨?_,u⟩;intro z;have:=pm.length_eq;have v:m=[]:=z;rw[v] at this;have:=m8.mpr d.1;simp at *;lia
    ·exact N.ok r (by rw[e];simp[o])
  ·rw[t];refine List.Perm.trans ?_ N.perm;rw[g];have:(flat p++a++b++(flat q++rest))=flat p++(a++b)++(flat q++rest):=by simp[V2]
   rw[this];exact(pm.append_left (flat p)).append_right _
  ·rw[e,z7,z7,Q6,Q6,Q6];simp[pm.length_eq];lia
theorem Rn.run{rs:List (List Keyed × Nat)}{rest:List Keyed}{st st':SortSt}{n:Nat}(N:Rn κ R a0 rs rest st)(B:Bs κ (pendingOf st) (arrOf st) (flat rs).length st')(t:1<=n)(hn:(flat rs).length+n<=(arrOf st).size)(as:Asc R (arrOf st') (flat rs).length ((flat rs).length+n)) :
  ∃ r a,r.length=n/\r ≠ []/\Srt R r/\Rn κ R a0 rs (r++a) st':=by
 have hsz:=B.size;have b:(arrOf st').toList.take (flat rs).length=flat rs:=by
  have s:(arrOf st').toList.take (flat rs).length=(arrOf st).toList.take (flat rs).length:=by
   apply y6;intro k;rw[List.getElem?_take,List.getElem?_take];split
   ·rename_i d
    have:=B.pre k d;simpa using this
   ·rfl
  rw[s,N.arr,List.take_left]
 refine⟨((arrOf st').toList.drop (flat rs).length).take n,((arrOf st').toList.drop (flat rs).length).drop n,?_,?_,?_,B.k,B.f,?_,?_,N.ok,B.perm.trans N.perm⟩
 ·simp;lia
 ·intro z;have:=congrArg List.length z;simp at this;lia
 ·unfold Srt;rw[o9];intro i j hi g m;have c:j<n:=by simp at g;lia
  have get:∀ k,k<n->∀(d:k<(((arrOf st').toList.drop (flat rs).length).take n).length),(((arrOf st').toList.drop (flat rs).length).take n)[k]=e (arrOf st') ((flat rs).length+k):=by
   intro k d o;rw[List.getElem_take,List.getElem_drop];have l:=eC (xs:=arrOf st') (k:=(flat rs).length+k) (by lia);have q:(flat rs).length+k<(arrOf st').toList.length:=by simp;lia
   have h:(arrOf st').toList[(flat rs).length+k]?=some (e (arrOf st') ((flat rs).length+k)):=by simpa using l
   rw[z1 q] at h;exact W3 h
  rw[get i (by lia) hi,get j c g];exact as _ _ (by lia) (by lia) (by lia)
 ·rw[Q5]
  conv=>lhs;rw[← Q5 (flat rs).length (arrOf st').toList,b]
 ·rw[B.p];exact N.pn
theorem Rn.bs{rs:List (List Keyed × Nat)}{rest:List Keyed}{st:SortSt}(N:Rn κ R a0 rs rest st):Bs κ (pendingOf st) (arrOf st) (flat rs).length st:=⟨N.k,N.f,rfl,List.Perm.refl _,λ_ _=>rfl⟩
theorem Rn.size{rs:List (List Keyed × Nat)}{rest:List Keyed}{st:SortSt}(N:Rn κ R a0 rs rest st):(arrOf st).size=a0.size:=by
 have:=N.perm.length_eq;simpa using this
theorem Rn.len{rs:List (List Keyed × Nat)}{rest:List Keyed}{st:SortSt}(N:Rn κ R a0 rs rest st):(flat rs).length+rest.length=a0.size:=by
 have:=congrArg List.length N.arr;have a:=N.size;simp at this;lia
theorem YN(h:∀ r∈rs,r.1 ≠ []):rs.length<=(flat rs).length:=by
 induction rs with
 |nil=>simp[flat]
 | cons r t ih =>
  rw[Q6,M4,v3];have:=ih λq a=>h q (Q3 _ a);have:=m8.mpr (h r E4);lia
theorem dG{α:Type}(f : α->α):∀(l:List α)(x : α),(l++[x]).modify l.length f=l++[f x]
 |[],x=>rfl
 | y::l,x=>by
  show(y::(l++[x])).modify (l.length+1) f=_;rw[List.modify_succ_cons,dG f l x];rfl
theorem VT{α:Type}(arr:Array α)(f : α->α){l:List α}{x : α}(h:arr.toList=l++[x]):(arr.modify (arr.size-1) f).toList=l++[f x]:=by
 have hs:arr.size=l.length+1:=by have:=congrArg List.length h;simpa using this
 rw[Array.toList_modify,h,hs,show l.length+1-1=l.length by lia];exact dG f l x
theorem gT{α:Type}(arr:Array α){l:List α}{x : α}(h:arr.toList=l++[x]):arr.back?=some x:=by
 have hs:arr.size=l.length+1:=by have:=congrArg List.length h;simpa using this
 rw[Array.back?_eq_getElem?,← t6,h,hs];simp
theorem DG:∀(rs:List (List Keyed × Nat)),rs ≠ []->∃ p x,rs=p++[x]
 |rs,h=>⟨rs.dropLast,rs.getLast h,(List.dropLast_concat_getLast h).symm⟩
theorem Rn.push{rs:List (List Keyed × Nat)}{r rest:List Keyed}{st st':SortSt}(N:Rn κ R a0 rs (r++rest) st)(c:r ≠ [])(hs:Srt R r)(k:kindOf st'=kindOf st)(f:failedOf st'=failedOf st)(a:arrOf st'=arrOf st)
  (p:pendingOf st'=(pendingOf st).push ((flat rs).length,r.length,0)):Rn κ R a0 (rs++[(r,0)]) rest st':=by
 refine⟨k.trans N.k,f.trans N.f,?_,?_,λq b=>?_,by rw[a];exact N.perm⟩
 ·rw[a,N.arr,z7];simp[flat,V2]
 ·rw[p,Array.toList_push,N.pn,u8];simp[pend]
 ·rcases N2.mp b with b|b
  ·exact N.ok q b
  ·have:q=(r,0):=by simpa using b
   subst this;exact⟨c,hs⟩
theorem Rn.pow{rs:List (List Keyed × Nat)}{rest:List Keyed}{st st':SortSt}{pw:Nat}(N:Rn κ R a0 rs rest st)(h:rs ≠ [])(k:kindOf st'=kindOf st)(f:failedOf st'=failedOf st)(a:arrOf st'=arrOf st)
  (p:pendingOf st'=(pendingOf st).modify ((pendingOf st).size-1) λx=>(x.1,x.2.1,pw)):∃ c,Rn κ R a0 c rest st'/\(flat c).length=(flat rs).length:=by
 obtain⟨q,⟨b,d⟩,e⟩:=DG rs h;subst e;have g:(pendingOf st).toList=pend 0 q++[((flat q).length,b.length,d)]:=by rw[N.pn,u8];simp[pend]
 refine⟨q++[(b,pw)],⟨k.trans N.k,f.trans N.f,?_,?_,λx hx=>?_,by rw[a];exact N.perm⟩,by simp[z7,Q6,xD]⟩
 ·rw[a,N.arr];simp[z7,Q6,xD]
 ·rw[p,VT _ _ g,u8];simp[pend]
 ·rcases N2.mp hx with hx|hx
  ·exact N.ok x (by simp[hx])
  ·have:x=(b,pw):=by simpa using hx
   subst this;exact N.ok (b,d) (by simp)
theorem pR [Decidable c]  (a:x+1<z) (b:y+1<z):(if c then x else y)+1<z:=by
 split
 ·exact a
 ·exact b
theorem Rn.powK{rs:List (List Keyed × Nat)}{rest:List Keyed}{st st':SortSt}{pw:Nat}{G:SortSt->Prop}(N:Rn κ R a0 rs rest st)(g:rs ≠ [])(h:∀ b,Rn κ R a0 b rest st'->(flat b).length=(flat rs).length->G st')(k:kindOf st'=kindOf st)(f:failedOf st'=failedOf st)(a:arrOf st'=arrOf st)
  (p:pendingOf st'=(pendingOf st).modify ((pendingOf st).size-1) λx=>(x.1,x.2.1,pw)):G st':=by
 obtain⟨b,d,c⟩:=N.pow g k f a p;exact h b d c
theorem nT (C:Cmp M A E s κ S R) (hS:∀ x∈a0.toList,S x) {st:SortSt} (h0:arrOf st=a0) (hk:kindOf st = κ) (hf:failedOf st=none) (hp:pendingOf st = #[]) {Q:Unit->SortSt->Prop}
  (h:∀ st',failedOf st'=none->(arrOf st').toList.Perm a0.toList->Srt R (arrOf st').toList->Q () st'):wpS M A E s sT Q st:=by
 have o:(arrOf st).size=a0.size:=by rw[h0]
 refine wpS_bind (wpS_get ?_);dsimp only;refine wpS_bind (wpS_mono (Q:=λ(c:Option Unit × Nat) u=>c.1=none/\∃ rs,Rn κ R a0 rs [] u) ?_ ?_)
 ·refine wpS_forRange (λi (c:Option Unit × Nat) u=>c.1=none/\∃ rs rest,Rn κ R a0 rs rest u/\c.2=(flat rs).length/\i<=c.2) ?_ ?_ ⟨rfl,[],a0.toList,⟨hk,hf,by rw[h0];rfl,by rw[hp];rfl,λr I=>(by cases I),by rw[h0]⟩,rfl,Q0 _⟩
  ·rintro i ⟨c1,lo⟩ u _ hi ⟨D,rs,rest,N,Y,B⟩;dsimp only at D Y B ⊢;subst D Y;have O:=N.len;have b4:i<a0.size:=by rw[← o];exact hi
   refine J1 (λa5=>?_) (λa1=>?_)
   ·have b0:a0.size<=(flat rs).length:=by rw[← o];exact a5
    refine wpS_pure ⟨rfl,rs,?_⟩;have:rest=[]:=CB (by lia);subst this;exact N
   ·have a9:(flat rs).length<a0.size:=by
     have:¬ (flat rs).length ≥ (arrOf st).size:=a1;lia
    refine wpS_bind (CL C (λx hx=>hS x (N.perm.mem_iff.mp hx)) N.bs (nrem:=(arrOf st).size-(flat rs).length) (by lia) (by rw[N.size];lia) λb3 n B2 n1 n2 L=>?_);dsimp only;have y:=N.size;refine J1 (λm=>?g1) (λm=>?g2)
    case' g1 =>
     refine wpS_bind (S9 ?_);generalize hmr:min (_:Nat) _=nn;refine wpS_bind (xS C (λx hx=>hS x (N.perm.mem_iff.mp hx)) B2 (n:=nn) (ok:=n) ?_ ?_ ?_ L λb1 B3 a3=>?_)
     ·have:nn<=(arrOf st).size-(flat rs).length:=by rw[← hmr];exact Nat.min_le_left _ _
      rw[y];lia
     ·rw[← hmr];exact Nat.le_min.mpr ⟨n2,V5 m⟩
     ·have:n<=nn:=by rw[← hmr];exact Nat.le_min.mpr ⟨n2,V5 m⟩
      lia
     rw[y0 (by decide)];have P:1<=nn:=by
      have:n<=nn:=by rw[← hmr];exact Nat.le_min.mpr ⟨n2,V5 m⟩
      lia
     have a8:nn<=(arrOf st).size-(flat rs).length:=by rw[← hmr];exact Nat.min_le_left _ _
     obtain⟨r,g,I,v,F,K⟩:=N.run B3 P (by rw[y];lia) a3;clear hmr;subst I
    case' g2 =>
     obtain⟨r,g,I,v,F,K⟩:=N.run B2 n1 (by rw[y];lia) L;clear m;subst I
    all_goals
     refine wpS_bind (wpS_get ?_);rcases Classical.em (rs=[]) with W|W
     ·have w:=K.pn;rw[W] at w;have hb:=Array.back?_eq_none_iff.mpr (Array.toList_eq_nil_iff.mp w);rw[hb];dsimp only;refine wpS_bind (wpS_modify (wpS_pure ⟨rfl,rs++[(r,0)],g,K.push v F rfl rfl rfl rfl,?_,?_⟩))
      ·rw[z7,M4];simp[flat]
      ·have:=m8.mpr v;show i+1<=(flat rs).length+r.length;lia
     ·obtain⟨q,⟨b,T⟩,eq⟩:=DG rs W;have w:=K.pn;rw[eq,u8,show pend (0+(flat q).length) [(b,T)]=[((flat q).length,b.length,T)] by simp[pend]] at w;have hb:=gT _ w;rw[hb];dsimp only;refine wpS_bind (wpS_mono (Q:=λ(c:Option Unit × Unit) d=>c.1=none/\∃ a,Rn κ R a0 a (r++g) d/\a ≠ []/\(flat a).length=(flat rs).length) ?_ ?_)
      ·refine wpS_forRange (λ_ (c:Option Unit × Unit) d=>c.1=none/\∃ a,Rn κ R a0 a (r++g) d/\a ≠ []/\(flat a).length=(flat rs).length) ?_ (λc d h4=>h4) ⟨rfl,rs,K,W,rfl⟩;rintro i4 ⟨c4,X⟩ d _ _ ⟨t,a,l,Z,p⟩;dsimp only at t;subst t;refine wpS_bind (wpS_get ?_);have U:(pendingOf d).size=a.length:=by
        have:=congrArg List.length l.pn;rw[dC] at this;simpa using this
       by_cases J:(pendingOf d).size > 1
       ·rw[z0 J];obtain⟨x4,a2⟩:∃ x4,(pendingOf d)[(pendingOf d).size-2]?=some x4:=⟨_,S2 (by lia)⟩
        obtain⟨y1,y2,y3⟩:=x4;rw[a2];dsimp only;refine J1 (λ_=>wpS_pure ⟨rfl,a,l,Z,p⟩) (λ_=>?_);rw[U];refine wpS_bind (uH C hS l (i:=a.length-2) (by lia) λa7 H N5 l5 f5=>?_);rw[y0 (by decide)];refine wpS_pure ⟨rfl,H,N5,?_,by lia⟩;rintro rfl;simp at l5;lia
       ·rw[y0 J];exact wpS_pure ⟨rfl,a,l,Z,p⟩
      ·rintro⟨c4,X⟩ d ⟨t,a,l,Z,p⟩;dsimp only at t ⊢;subst t;dsimp only;refine wpS_bind (wpS_modify ?_);refine l.powK (G:=λz=>wpS M A E s _ _ z) Z (λa6 N6 l6=>?_) rfl rfl rfl rfl;refine wpS_bind (wpS_modify (wpS_pure ⟨rfl,a6++[(r,0)],g,N6.push v F rfl rfl rfl ?_,?_,?_⟩))
       ·rw[l6,p]
       ·rw[z7,M4,l6,p];simp[flat]
       ·have:=m8.mpr v;show i+1<=(flat rs).length+r.length;lia
  ·rintro⟨c1,lo⟩ u ⟨D,rs,rest,N,Y,B⟩;dsimp only at D Y B ⊢;refine⟨D,rs,?_⟩;have O:=N.len;have a4:(arrOf st).size<=lo:=D2 (Nat.le_max_right 0 _) B;have:rest=[]:=CB (by rw[o] at a4;lia);subst this;exact N
 ·rintro⟨c1,lo⟩ u ⟨D,rs,N⟩;dsimp only at D ⊢;subst D;dsimp only;refine wpS_bind (wpS_mono (Q:=λ(c:Option Unit × Unit) d=>c.1=none/\∃ a,Rn κ R a0 a [] d/\a.length<=1) ?_ ?_)
  ·refine wpS_forRange (λj (c:Option Unit × Unit) d=>c.1=none/\∃ a,Rn κ R a0 a [] d/\(a.length<=1\/a.length+j<=a0.size)) ?_ ?_ ⟨rfl,rs,N,.inr ?_⟩
   ·rintro j ⟨c4,X⟩ d _ _ ⟨t,a,l,p⟩;dsimp only at t;subst t;refine wpS_bind (wpS_get ?_);have U:(pendingOf d).size=a.length:=by
     have:=congrArg List.length l.pn;rw[dC] at this;simpa using this
    refine J1 (λJ=>wpS_pure ⟨rfl,a,l,?_⟩) (λJ=>?_)
    ·have:(pendingOf d).size<=1:=J;lia
    ·have b2:¬ (pendingOf d).size<=1:=J;refine wpS_bind (uH C hS l (i:=_) ?_ λa7 H N5 l5 f5=>?_)
     ·refine pR ?_ ?_
      ·show(pendingOf d).size-2-1+1<a.length;lia
      ·show(pendingOf d).size-2+1<a.length;lia
     rw[y0 (by decide)];exact wpS_pure ⟨rfl,H,N5,by lia⟩
   ·rintro⟨c4,X⟩ d ⟨t,a,l,p⟩;refine⟨t,a,l,?_⟩;rcases p with p|p
    ·exact p
    ·have:(arrOf st).size<=max 0 (arrOf st).size:=Nat.le_max_right _ _;have h3:a.length+max 0 (arrOf st).size<=a0.size:=p;lia
   ·have:=YN λr I=>(N.ok r I).1;have:=N.len;lia
  ·rintro⟨c4,X⟩ d ⟨t,a,l,p⟩;dsimp only at t ⊢;subst t;dsimp only;refine wpS_pure (h d l.f l.perm ?_);rw[l.arr]
   match a,p with
   |[],_=>exact List.Pairwise.nil
   |[x],_=>simpa[flat] using (l.ok x (by simp)).2
end TS
namespace L2
open PySem PySem.Spec PyProof.Rows
mutual
inductive Rep(H:Hp):V->PyData->Prop
 |non:Rep H .non .none
 |bl (b:Bool):Rep H (.bl b) (.bool b)
 |int (i:Int):Rep H (.int i) (.int i)
 |str (x:Str):Rep H (.str x) (.str x)
 |lst {a:Addr} {xs:List V} {ds:List PyData}:H a=some (.lst xs)->Reps H xs ds->Rep H (.ref a) (.list ds)
 |tup {a:Addr} {xs:List V} {ds:List PyData}:H a=some (.tup xs)->Reps H xs ds->Rep H (.ref a) (.tuple ds)
inductive Reps(H:Hp):List V->List PyData->Prop
 |nil:Reps H [] []
 |cons {v:V} {vs:List V} {d:PyData} {ds:List PyData}:Rep H v d->Reps H vs ds->Reps H (v::vs) (d::ds)
end
mutual
theorem Rep.same(s:Same H H'):∀{v:V}{d:PyData},Rep H v d->Rep H' v d
 |_,_,.non=>.non
 |_,_,.bl b=>.bl b
 |_,_,.int i=>.int i
 |_,_,.str x=>.str x
 |_,_,.lst h r=>.lst (s _ _ h) (Reps.same s r)
 |_,_,.tup h r=>.tup (s _ _ h) (Reps.same s r)
theorem Reps.same(s:Same H H'):∀{vs:List V}{ds:List PyData},Reps H vs ds->Reps H' vs ds
 |_,_,.nil=>.nil
 |_,_,.cons r t=>.cons (Rep.same s r) (Reps.same s t)
end
section
variable{X:Cx}{pins:List (Addr × Obj)}{σ:St}{H:Hp}{s:Shared}
mutual
theorem Rep.reads(I:Inv X pins σ H s):∀{v:V}{d:PyData}{u:Value},Rep H v d->RelV v u->∃ as,Reads s.heap u d as
 |_,_,_,.non,r=>by cases r;exact⟨_,.none⟩
 |_,_,_,.bl b,r=>by cases r;exact⟨_,.bool b⟩
 |_,_,_,.int i,r=>by obtain⟨t,rfl⟩:=r;exact⟨_,.int i t⟩
 |_,_,_,.str x,r=>by obtain⟨t,rfl⟩:=r;exact⟨_,.str x t⟩
 | _,_,_,.lst (a:=a) (xs:=xs) h q,r=>by
  cases r;obtain⟨_,its,n,g,e⟩:=(show ObjOk X.prog X.w H s.heap a (.lst xs) from I.hok a _ h)
  obtain⟨as,f⟩:=Reps.reads I q g;exact⟨_,.list e rfl rfl (by simpa using f)⟩
 | _,_,_,.tup (a:=a) (xs:=xs) h q,r=>by
  cases r;obtain⟨_,its,g,o,e,c,n,dd⟩:=(show ObjOk X.prog X.w H s.heap a (.tup xs) from I.hok a _ h)
  obtain⟨as,f⟩:=Reps.reads I q g;exact⟨_,.tuple e c dd (by simpa using f)⟩
theorem Reps.reads(I:Inv X pins σ H s):∀{vs:List V}{ds:List PyData}{us:List Value},Reps H vs ds->Vals vs us->∃ as,ReadsAll s.heap us ds as
 |_,_,_,.nil,.nil=>⟨_,.nil⟩
 | _,_,_,.cons r t,.cons q qs=>by
  obtain⟨as,a⟩:=Rep.reads I r q;obtain⟨bs,rb⟩:=Reps.reads I t qs;exact⟨_,.cons a rb⟩
end
end
mutual
def X0:PyData->Bool
 | .none | .int _=>true
 | .list xs | .tuple xs=>plainDs xs
 |_=>false
def plainDs:List PyData->Bool
 |[]=>true
 |x::xs=>X0 x && plainDs xs
end
mutual
theorem V8:∀(d:PyData),X0 d=true->d.canLay0=true
 | .none,_=>by simp[PyData.canLay0]
 | .int _,_=>by simp[PyData.canLay0]
 | .list xs,h=>by simp only[PyData.canLay0];exact plain_lays xs (by simpa[X0] using h)
 | .tuple xs,h=>by simp only[PyData.canLay0];exact plain_lays xs (by simpa[X0] using h)
 | .bool _,h=>by simp[X0] at h
 | .str _,h=>by simp[X0] at h
 | .dict _,h=>by simp[X0] at h
theorem plain_lays:∀(ds:List PyData),plainDs ds=true->PyData.canLayAll0 ds=true
 |[],_=>by simp[PyData.canLayAll0]
 | x::xs,h=>by
  have h':X0 x=true/\plainDs xs=true:=by simpa[plainDs] using h
  simp only[PyData.canLayAll0,V8 x h'.1,plain_lays xs h'.2,Bool.and_self]
end
mutual
theorem wC:∀(d e:PyData),X0 d=true->X0 e=true->(PyData.eqv d e=true ↔ d=e)
 | .none,e,_,h=>by cases e <;> simp_all [X0,PyData.eqv]
 | .int i,e,_,h=>by cases e <;> simp_all [X0,PyData.eqv]
 | .list xs,e,g,h=>by
  cases e with
  |list ys=>simp only[PyData.eqv,PyData.list.injEq];exact eqvAll_plain xs ys (by simpa[X0] using g) (by simpa[X0] using h)
  |_=>simp_all [X0,PyData.eqv]
 | .tuple xs,e,g,h=>by
  cases e with
  |tuple ys=>simp only[PyData.eqv,PyData.tuple.injEq];exact eqvAll_plain xs ys (by simpa[X0] using g) (by simpa[X0] using h)
  |_=>simp_all [X0,PyData.eqv]
 | .bool _,_,h,_=>by simp[X0] at h
 | .str _,_,h,_=>by simp[X0] at h
 | .dict _,_,h,_=>by simp[X0] at h
theorem eqvAll_plain:∀(ds es:List PyData),plainDs ds=true->plainDs es=true->(PyData.eqvAll ds es=true ↔ ds=es)
 |[],[],_,_=>by simp[PyData.eqvAll]
 |[],_::_,_,_=>by simp[PyData.eqvAll]
 |_::_,[],_,_=>by simp[PyData.eqvAll]
 | x::xs,y::ys,g,h=>by
  have g':X0 x=true/\plainDs xs=true:=by simpa[plainDs] using g
  have h':X0 y=true/\plainDs ys=true:=by simpa[plainDs] using h
  simp only[PyData.eqvAll,N4,List.cons.injEq,wC x y g'.1 h'.1,eqvAll_plain xs ys g'.2 h'.2]
end
theorem XI(ds:List PyData):plainDs ds=true ↔ ∀ d∈ds,X0 d=true:=by
 induction ds with
 |nil=>simp[plainDs]
 |cons d ds ih=>simp[plainDs,ih]
def rEqD:R2:=λx y H Q=>∃ d e,Rep H x d/\Rep H y e/\X0 d=true/\X0 e=true/\d.depth<=60/\Q (.bl (PyData.eqv d e)) H
section
variable{X:Cx}
theorem uN(j:X.A.units+64<cLine):OpR X (compareOp .Eq) rEqD:=by
 intro pins s σ H x y v u Q I c i h;obtain⟨d,e,b,f,hd,g,l,q⟩:=h;obtain⟨as,a⟩:=b.reads I c;obtain⟨bs,rb⟩:=f.reads I i;refine SeqAt.compareEq_reads a rb (V8 _ hd) (V8 _ g) ?_ ⟨.bl _,H,I,rfl,q⟩;have:=Nat.min_le_left d.depth e.depth;lia
def rInD(neg:Bool):R2:=λx y H Q=>∃ d es,Rep H x d/\(Rep H y (.list es)\/Rep H y (.tuple es))/\X0 d=true/\plainDs es=true/\d.depth<=60/\Q (.bl (if neg then !es.any (λz=>PyData.eqv z d) else es.any (λz=>PyData.eqv z d))) H
theorem JC(j:X.A.units+64<cLine):OpR X (compareOp .NotIn) (rInD true):=by
 intro pins s σ H x y v u Q I i f h;obtain⟨d,es,g,a,hd,c,l,q⟩:=h;obtain⟨as,b⟩:=g.reads I i;have hm:=Nat.min_le_right (PyData.depthAll es) d.depth;rcases a with a|a
 ·obtain⟨bs,rb⟩:=a.reads I f;exact SeqAt.notIn_list_reads rb b (plain_lays _ c) (V8 _ hd) (by lia) ⟨.bl _,H,I,rfl,q⟩
 ·obtain⟨bs,rb⟩:=a.reads I f;exact SeqAt.notIn_tuple_reads rb b (plain_lays _ c) (V8 _ hd) (by lia) ⟨.bl _,H,I,rfl,q⟩
def rIsi(K:Frag):List V->Hp->VK->Prop:=λxs H Q=>∃(x:V)(T:String)(t:Value)(b:Bool),xs=[x,.ty T]/\TyOf K H x t/\kitOne K t (.type T)=some b/\Q (.bl b) H
theorem n7:l2 X (.builtin "isinstance") (rIsi X.K):=by
 intro pins s σ H xs us Q I r h;obtain⟨x,T,t,b,rfl,ty,e,q⟩:=h;obtain⟨u,c,rfl,a,d⟩:=WA r;cases d;exact uT I a ty e λtk=>⟨.bl b,H,I.tok _,rfl,q⟩
end
end L2
namespace HT
open PySem PyProof.Rows
section
open PySem.SeqAt
open PySem.AutoSeq1 (wpAny_loadPart')
open PySem.MeetsSeq PySem.MeetsSeq2 PySem.MeetsSeq3
end
section
variable{prog:Program}{w:World}{A:Around}{E:Value->Shared->Prop}{s:Shared}
theorem cI(g:t ≠ it):∀(n i:Nat)(s:Shared)(Q:List Value->Shared->Prop),s.heap.IsListIter it t i->s.heap.IsList t a->i+n<=a.size ->
  (∀ h',h'.IsListIter it t (i+n)->Heap.SameBut it s.heap h'->Q ((a.toList.drop i).take n) { s with heap:=h' })->wpAny (model prog w) A (draw (.ref it) n) Q E s
 | 0,i,s,Q,hit,_,_,hQ=>by
  show wpAny _ _ (pure []) Q E s;exact I0 (by simpa using hQ s.heap hit (Heap.SameBut.refl ..))
 | n+1,i,s,Q,hit,ht,hle,hQ=>by
  have j:i<a.size:=by lia
  show wpAny _ _ (pyNext (.ref it) >>= _) Q E s;refine u0 (wpAny_pyNext_list_item hit ht (x:=a[i]) (by simp[j]) λl c b=>?_);refine u0 (U3 (cI g n (i+1) _ _ c (ht.extBut b.extBut g) (by lia) λh d f=>I0 ?_));have hd:a.toList.drop i=a[i]::a.toList.drop (i+1):=by simp[List.drop_eq_getElem_cons,j]
  have:=hQ h (by rw[show i+(n+1)=i+1+n by lia];exact d) (b.trans f);rw[hd,List.take_succ_cons] at this;exact this
theorem JP(hh:A.handled=none)(l:s.heap.IsList t a)
  (p:∀ h',Heap.ExtBut s.heap.objs.size s.heap h'->Q a.toList { s with heap:=h' }):wpAny (model prog w) A (unpackItems (.ref t) a.size none) Q E s:=by
 have i:t ≠ s.heap.objs.size:=by obtain⟨o,n,_⟩:=l;exact U1 (M0 n)
 unfold unpackItems;refine u0 ?_
 ·unfold notIterableAtAll;refine u0 (wpAny_specialOf l.typeIs slot_list_iter.lookup ?_);refine I0 ?_;simp only[Bool.false_eq_true,if_false];refine u0 (U3 (U8 l ?_));refine u0 (U3 (cI i a.size 0 _ _ ⟨_,m3 _ rfl,rfl,rfl⟩ (l.push _) (by lia) λm d c=>?_));have j:List.take a.size (List.drop 0 a.toList)=a.toList:=by
   rw[List.drop_zero];exact S7 (by simp)
  rw[j];rw[y0 (by simp)];have g:m.IsList t a:=(l.push _).extBut c.extBut i;refine u0 (U3 (wpAny_pyNext_list_end hh d g (by simp) λh f=>?_));simp only[Option.isSome_none,Bool.false_eq_true,if_false];refine I0 (p h λb o hb e=>f b o hb (c.extBut b o hb (S1 _ e)))
theorem assign_Tuple_list{x1}(hh:A.handled=none)(d:s.heap.IsList t a)
  (hn:(assignEach b env).length=a.size) (c:(assignEach b env).findIdx? (·.1)=none)
  (h:∀ h',Heap.ExtBut s.heap.objs.size s.heap h'->wpAny (model prog w) A (assignInOrder ((assignEach b env).map (·.2)) a.toList) Q E { s with heap:=h' }) :
  wpAny (model prog w) A (assign (.Tuple b x1 pos) env (.ref t)) Q E s:=by
 rw[assign_Tuple];refine u0 (wpAny_standAt ?_);unfold unpack;rw[hn,c];exact u0 (U3 (JP hh d h))
end
end HT
namespace L2
open PySem PySem.Spec PyProof.Rows
section
variable{X:Cx}
def gLst(K:Frag)(n:Nat)(t:TGs):TG:=λv σ H Q=>∃ a xs,v=.ref a/\SqL K H a xs/\xs.length=n/\t xs σ H Q
theorem mF(m:X.calm=true)(h:PGs X es t)
  (hn:(assignEach es X.env).length=n:=by rfl) (c:(assignEach es X.env).findIdx? (·.1)=none:=by rfl):PG X (.Tuple es k pos) (gLst X.K n t):=by
 intro pins s σ H v u Q I r d;obtain⟨a,xs,p,g,i,d⟩:=d;subst p;cases r;obtain⟨its,f,l,q⟩:=I.list g;refine HT.assign_Tuple_list (I.ok.hd m) l.isList (by simp[hn,← i,f.length]) c λh' hx=>?_;have j:Inv X pins σ H { s with heap:=h' }:=I.kept (t':=s.toks) λb o e=>hx b o (U1 (M0 e)) e;exact h pins _ σ H xs _ Q j (by simpa using f) d
def MC(K:Frag):List V->Hp->VK->Prop:=λxs H Q=>∃(a:Addr)(ns:List Int),xs=[.ref a]/\SqL K H a (ns.map V.int)/\ns.length<64/\∀(ns':List Int)(p:Addr),ns'.Perm ns->ns'.Pairwise (·<=·)->H p=none->Q (.ref p) (upd H p (.lst (ns'.map V.int)))
theorem lL:l2 X (.builtin "sorted") (MC X.K):=by
 intro pins s σ H xs us Q I r h;obtain⟨a,ns,rfl,ha,f,q⟩:=h;obtain⟨u,rfl,p⟩:=S5 r;cases p;obtain⟨its,m,j,t⟩:=I.list ha;have i1:IntsAre its.toArray.toList ns:=M9 m;have i:IntsAre its ns:=by simpa using i1
 refine sorted_ints (vs:=its) j.isList i (by rw[i.length];exact f) λout d b1 g l=>?_;obtain⟨e,n⟩:=sortedAll_at s.heap its out;have c:H (s.heap.objs.size+1)=none:=I.hok.fresh (Nat.le_succ _);refine⟨.ref (s.heap.objs.size+1),_,I.laid (t':=s.toks) (o:=.lst (d.map V.int)) (λb v q=>sortedAll_old q) (Nat.le_succ _) ?_,rfl,q d _ g l c⟩;refine⟨?_,out.toList,e,NC b1,by rw[n]⟩;rw[N1,g.length_eq];exact V5 (mB (by lia))
end
end L2
namespace HT
open PySem PyProof.Rows
theorem RD  (val:Nat->Int):∀ k,argBest (λi j=>decide (val i > val j)) k<=k/\∀ i,i<=k->val i<=val (argBest (λi j=>decide (val i > val j)) k)
 | 0 => ⟨Nat.le_refl _, fun i hi => by have:i=0 := by lia
                                       subst this;exact Int.le_refl _⟩
 | k+1=>by
  obtain⟨b,a⟩:=RD val k;unfold argBest;by_cases hc:val (k+1) > val (argBest (λi j=>decide (val i > val j)) k)
  ·rw[z0 (D3 hc)];refine⟨Q0 _,λi hi=>?_⟩;by_cases e:i=k+1
   ·subst e;exact Int.le_refl _
   ·have:=a i (by lia);exact Int.le_trans this (Int.le_of_lt hc)
  ·rw[y0 (by simpa using hc)];refine⟨by lia,λi hi=>?_⟩;by_cases e:i=k+1
   ·subst e;lia
   ·exact a i (by lia)
def val(ns:List Int)(i:Nat):Int:=(ns[i]?).getD 0
theorem KC(hi:IntsAre us ns)(i:Nat)(v:Value)(h:us.toArray[i]?=some v):∃ t,v=.int (val ns i) t:=by
 induction hi generalizing i with
 |nil=>simp at h
 | cons n t r ih =>
  cases i with
  |zero=>simp at h;subst h;exact⟨t,by simp[val]⟩
  | succ i =>
   obtain⟨t',e⟩:=ih i (by simpa using h);exact⟨t',by simpa[val] using e⟩
theorem qG(h:i<ns.length):val ns i∈ns:=by
 unfold val;rw[z1 h];exact List.getElem_mem h
theorem dH(h:x∈ns):∃ i,i<ns.length/\val ns i=x:=by
 obtain⟨i,hi,e⟩:=MB.mp h;exact⟨i,hi,by unfold val;rw[z1 hi];exact e⟩
section
variable{prog:Program}{w:World}{A:Around}{E:Value->Shared->Prop}{s:Shared}
theorem max_list(hh:A.handled=none)(c:s.heap.IsList l us.toArray)(hi:IntsAre us ns)(d:ns ≠ [])
  (h:∀ m t h' tk,m∈ns->(∀ x∈ns,x<=m)->(∀ b o,s.heap.get? b=some o->h'.get? b=some o)->Q (.int m t) { s with heap:=h',toks:=tk }) :
  wpAny (model prog w) A (call (.builtin "max") [.ref l]) Q E s:=by
 have a:l<s.heap.objs.size:=by obtain⟨_,e,_⟩:=c;exact M0 e
 have n:us.length=ns.length:=hi.length;have r:0<ns.length:=m8.mpr d;refine call_max_walk (U8 c ?_);refine⟨_,[s.heap.objs.size,l],_,_,_,_,_,rfl,Walks.list (A:=A.in1) hh _ l (U1 a) us.toArray,⟨⟨_,m3 _ rfl,rfl,rfl⟩,c.push _⟩,λb hb=>?_,by simp;lia,CmpOf.ints_gt (val ns) (λi v=>KC hi i v),λv h' tk g p=>?_⟩
 ·show b<(s.heap.push _).objs.size;rw[SA];rcases V0.mp hb with rfl|hb
  ·exact aB _
  ·rcases V0.mp hb with rfl|hb
   ·exact T9 a
   ·cases hb
 ·obtain⟨t,e⟩:=KC hi _ _ g;obtain⟨b1,f⟩:=RD (val ns) (us.toArray.size-1);have hs:us.toArray.size=ns.length:=by simp[n]
  rw[hs] at b1 f;subst e;refine h _ t h' tk (qG (by rw[hs];lia)) (λx hx=>?_) λb o e=>?_
  ·obtain⟨i,j,e⟩:=dH hx;have:=f i (by lia);rw[e] at this;rw[hs];exact this
  ·refine p b o (λhm=>?_) (S1 _ e);rcases V0.mp hm with q|hm
   ·exact absurd (q ▸ M0 e) (L3 _)
   ·cases hm
theorem max_tup{l:Addr}{us:List Value}{ns:List Int}{Q:Value->Shared->Prop}(hh:A.handled=none)(d:s.heap.IsTuple l us.toArray)(hi:IntsAre us ns)(f:ns ≠ [])
  (h:∀ m t h' tk,m∈ns->(∀ x∈ns,x<=m)->(∀ b o,s.heap.get? b=some o->h'.get? b=some o)->Q (.int m t) { s with heap:=h',toks:=tk }) :
  wpAny (model prog w) A.in1 (pyIter (.ref l)) (λit a=>∃ I fp j n P St bt,it=.ref I/\Walks prog w A.in1 I fp j n P St/\St 0 a.heap/\(∀ b∈fp,b<a.heap.objs.size)/\0<n/\CmpOf prog w A.in1 .Gt P bt /\
   ∀ v h' tk,P (argBest bt (n-1)) v->(∀ b o,b ∉ j->a.heap.get? b=some o->h'.get? b=some o)->Q v { a with heap:=h',toks:=tk }) E s:=by
 have c:l<s.heap.objs.size:=by obtain⟨_,e,_⟩:=d;exact M0 e
 have r:us.length=ns.length:=hi.length;have z:0<ns.length:=m8.mpr f;refine wpAny_pyIter_tuple d ?_;refine⟨_,[s.heap.objs.size,l],[_],_,_,_,_,rfl,Walks.tuple (A:=A.in1) hh _ l (U1 c) us.toArray,⟨⟨_,m3 _ rfl,rfl,rfl⟩,d.push _⟩,λb hb=>?_,by simp;lia,CmpOf.ints_gt (val ns) (λi v=>KC hi i v),λv h' tk p u=>?_⟩
 ·show b<(s.heap.push _).objs.size;rw[SA];rcases V0.mp hb with rfl|hb
  ·exact aB _
  ·rcases V0.mp hb with rfl|hb
   ·exact T9 c
   ·cases hb
 ·obtain⟨t,e⟩:=KC hi _ _ p;obtain⟨b1,g⟩:=RD (val ns) (us.toArray.size-1);have hs:us.toArray.size=ns.length:=by simp[r]
  rw[hs] at b1 g;subst e;refine h _ t h' tk (qG (by rw[hs];lia)) (λx hx=>?_) λb o e=>?_
  ·obtain⟨i,q,e⟩:=dH hx;have:=g i (by lia);rw[e] at this;rw[hs];exact this
  ·refine u b o (λhm=>?_) (S1 _ e);rcases V0.mp hm with y|hm
   ·exact absurd (y ▸ M0 e) (L3 _)
   ·cases hm
end
end HT
namespace L2
open PySem PySem.Spec PyProof.Rows
section
variable{X:Cx}
def r8(ns:List Int)(m:Int):Prop:=m∈ns/\∀ x∈ns,x<=m
def K9(K:Frag):List V->Hp->VK->Prop:=λxs H Q=>∃(a:Addr)(ns:List Int),xs=[.ref a]/\(SqL K H a (ns.map V.int)\/SqT K H a (ns.map V.int))/\ns ≠ []/\∀ m,r8 ns m->Q (.int m) H
theorem wB(i:X.calm=true):l2 X (.builtin "max") (K9 X.K):=by
 intro pins s σ H xs us Q I r h;obtain⟨a,ns,rfl,ha,b,q⟩:=h;obtain⟨u,rfl,j⟩:=S5 r;cases j;rcases ha with ha|ha
 ·obtain⟨its,f,c,_⟩:=I.list ha;have i1:IntsAre its.toArray.toList ns:=M9 f;exact HT.max_list (I.ok.hd i) c.isList (by simpa using i1) b λm t h' tk g d kp=>⟨.int m,H,I.kept kp,⟨_,rfl⟩,q m ⟨g,d⟩⟩
 ·obtain⟨its,f,c,_⟩:=I.tuple ha;have i1:IntsAre its.toArray.toList ns:=M9 f;refine call_max_walk (HT.max_tup (I.ok.hd i) c (by simpa using i1) b λm t h' tk g d kp=>⟨.int m,H,I.kept kp,⟨_,rfl⟩,q m ⟨g,d⟩⟩)
end
def tTru(K:Frag)(ta:TE):TT:=λσ H Q=>ta σ H λx H'=>∃ k,TruV K x H' k/\Q k H'
def rIsN:R2:=λx y H Q=>y=.non/\Q (.bl (decide (x=.non))) H
section
variable{X:Cx}{a:Expr}{ta:TE}
theorem KM(ha:PE X a ta)(b:∀ whole,isTrue a X.env whole=(do let v ← whole;standAt a.pos;holding [v] (truthy v)):=by intro _;rfl):PT X a (tTru X.K ta):=NM ha b
def Y5(K:Frag):R2:=λx y H Q=>rIxL K x y H Q\/rIxT K x y H Q
theorem T3:IxR X (Y5 X.K):=ix_list.or aL
theorem WC:OpR X (compareOp .Is) rIsN:=kO
end
section
variable{σ:St}{H:Hp}{D:Ends}{K:Frag}
theorem uC(ha:H a=some (.lst xs))(b:Y0 xs i=some v)(h:Q v H):Y5 K (.ref a) (.int i) H Q:=.inl (LO ha b h)
theorem HN(ha:H a=some (.tup xs))(b:Y0 xs i=some v)(h:Q v H):Y5 K (.ref a) (.int i) H Q:=.inr (bM ha b h)
theorem uP(ha:SqL K H a xs)(b:Y0 xs i=some v)(h:Q v H):Y5 K (.ref a) (.int i) H Q:=.inl (kT ha b h)
theorem U5{A B:Prop}(h:A):if true=true then A else B:=by rw[z0 rfl];exact h
theorem u7{A B:Prop}(h:B):if false=true then A else B:=by rw[y0 Y1];exact h
theorem oE{A B:Prop}(h:B):if (!true)=true then A else B:=by rw[y0 (by decide)];exact h
theorem cD{A B:Prop}(h:A):if (!false)=true then A else B:=by rw[z0 (by decide)];exact h
theorem VO{c:Prop} [Decidable c] {A B:Prop} (a:c) (h:B):if (!decide c)=true then A else B:=by rw[D3 a];exact oE h
theorem OO{c:Prop} [Decidable c] {A B:Prop} (a:¬ c) (h:A):if (!decide c)=true then A else B:=by rw[Q1 a];exact cD h
theorem kR:kitOne K (.type "NoneType") (.type "int")=some false:=by first|rfl|decide
theorem DS:kitOne K (.type "NoneType") (.type "bool")=some false:=by first|rfl|decide
theorem DK:kitOne K (.type "NoneType") (.type "tuple")=some false:=by first|rfl|decide
theorem FM:kitOne K (.type "NoneType") (.type "list")=some false:=by first|rfl|decide
theorem OM:kitOne K (.type "NoneType") (.type "str")=some false:=by first|rfl|decide
theorem rS:kitOne K (.type "NoneType") (.type "dict")=some false:=by first|rfl|decide
theorem lR:kitOne K (.type "bool") (.type "int")=some true:=by first|rfl|decide
theorem BQ:kitOne K (.type "bool") (.type "bool")=some true:=by first|rfl|decide
theorem JO:kitOne K (.type "bool") (.type "tuple")=some false:=by first|rfl|decide
theorem ZR:kitOne K (.type "bool") (.type "list")=some false:=by first|rfl|decide
theorem tN:kitOne K (.type "bool") (.type "str")=some false:=by first|rfl|decide
theorem iP:kitOne K (.type "bool") (.type "dict")=some false:=by first|rfl|decide
theorem FK:kitOne K (.type "int") (.type "int")=some true:=by first|rfl|decide
theorem nJ:kitOne K (.type "int") (.type "bool")=some false:=by first|rfl|decide
theorem zN:kitOne K (.type "int") (.type "tuple")=some false:=by first|rfl|decide
theorem IR:kitOne K (.type "int") (.type "list")=some false:=by first|rfl|decide
theorem jJ:kitOne K (.type "int") (.type "str")=some false:=by first|rfl|decide
theorem IM:kitOne K (.type "int") (.type "dict")=some false:=by first|rfl|decide
theorem fL:kitOne K (.type "str") (.type "int")=some false:=by first|rfl|decide
theorem mO:kitOne K (.type "str") (.type "bool")=some false:=by first|rfl|decide
theorem GM:kitOne K (.type "str") (.type "tuple")=some false:=by first|rfl|decide
theorem wJ:kitOne K (.type "str") (.type "list")=some false:=by first|rfl|decide
theorem WM:kitOne K (.type "str") (.type "str")=some true:=by first|rfl|decide
theorem pJ:kitOne K (.type "str") (.type "dict")=some false:=by first|rfl|decide
theorem EN:kitOne K (.type "list") (.type "int")=some false:=by first|rfl|decide
theorem xJ:kitOne K (.type "list") (.type "bool")=some false:=by first|rfl|decide
theorem vQ:kitOne K (.type "list") (.type "tuple")=some false:=by first|rfl|decide
theorem zQ:kitOne K (.type "list") (.type "list")=some true:=by first|rfl|decide
theorem lK:kitOne K (.type "list") (.type "str")=some false:=by first|rfl|decide
theorem ZM:kitOne K (.type "list") (.type "dict")=some false:=by first|rfl|decide
theorem JJ:kitOne K (.type "tuple") (.type "int")=some false:=by first|rfl|decide
theorem UO:kitOne K (.type "tuple") (.type "bool")=some false:=by first|rfl|decide
theorem PM:kitOne K (.type "tuple") (.type "tuple")=some true:=by first|rfl|decide
theorem YM:kitOne K (.type "tuple") (.type "list")=some false:=by first|rfl|decide
theorem ST:kitOne K (.type "tuple") (.type "str")=some false:=by first|rfl|decide
theorem CJ:kitOne K (.type "tuple") (.type "dict")=some false:=by first|rfl|decide
theorem gN:kitOne K (.type "dict") (.type "int")=some false:=by first|rfl|decide
theorem LL:kitOne K (.type "dict") (.type "bool")=some false:=by first|rfl|decide
theorem oS:kitOne K (.type "dict") (.type "tuple")=some false:=by first|rfl|decide
theorem NT:kitOne K (.type "dict") (.type "list")=some false:=by first|rfl|decide
theorem OR:kitOne K (.type "dict") (.type "str")=some false:=by first|rfl|decide
theorem CO:kitOne K (.type "dict") (.type "dict")=some true:=by first|rfl|decide
end
end L2
namespace L2
open PySem
section
variable{σ:St}{H:Hp}{K:Frag}
theorem p6(a:H p=none):Same H (upd H p o):=λb u e=>by rw[G0 (z3 e a)];exact e
theorem Same.at(s:Same H H')(h:H b=some o):H' b=some o:=s b o h
end
section
variable{σ:St}{H:Hp}{K:Frag}
end
end L2
namespace Gr
inductive Walk(T:Int->Int->Prop)(u:Int):Nat->Int->Prop
 |refl:Walk T u 0 u
 |step {k:Nat} {v w:Int}:Walk T u k v->T v w->Walk T u (k+1) w
def Dist(T:Int->Int->Prop)(u v:Int)(d:Nat):Prop:=Walk T u d v/\∀ k,Walk T u k v->d<=k
theorem Dist.uniq(h:Dist T u v d)(g:Dist T u v e):d=e:=Nat.le_antisymm (h.2 _ g.1) (g.2 _ h.1)
theorem Dist.self(T:Int->Int->Prop)(u:Int):Dist T u u 0:=⟨.refl,λ_ _=>R4 _⟩
theorem Dist.of_walk(h:Walk T u k v):∃ d,d<=k/\Dist T u v d:=by
 induction k using Nat.strongRecOn with
 | ind k ih =>
  by_cases hx:∃ j,j<k/\Walk T u j v
  ·obtain⟨j,a,w⟩:=hx;obtain⟨d,hd,e⟩:=ih j a w;exact⟨d,by lia,e⟩
  ·refine⟨k,Q0 _,h,λj w=>?_⟩;by_cases a:j<k
   ·exact absurd ⟨j,a,w⟩ hx
   ·lia
theorem Dist.pred(h:Dist T u w (d+1)):∃ v,T v w/\Dist T u v d:=by
 obtain⟨b,hm⟩:=h;cases b with
 | step hv ht =>
  rename_i v
  refine⟨v,ht,hv,λk a=>?_⟩;have:=hm (k+1) (.step a ht);lia
theorem Dist.next(h:Dist T u v d)(t:T v w):∃ e,e<=d+1/\Dist T u w e:=Dist.of_walk (.step h.1 t)
structure Bfs(T:Int->Int->Prop)(a:Int)(line:List Int)(ds:List Nat)(at_:Nat):Prop where
 len:ds.length=line.length
 fst:line[0]?=some a
 nd:line.Nodup
 le:at_<=line.length
 dist:∀(i:Nat) v d,line[i]?=some v->ds[i]?=some d->Dist T a v d
 mono:∀(i j:Nat) d e,i<=j->ds[i]?=some d->ds[j]?=some e->d<=e
 near:∀(i j:Nat) d e,at_<=i->ds[i]?=some d->ds[j]?=some e->e<=d+1
 done:∀(i:Nat) v w,i<at_->line[i]?=some v->T v w->w∈line
end Gr
namespace L2
open PySem PySem.Spec PyProof.Rows
section
variable{σ:St}{H:Hp}{D:Ends}{K:Frag}
end
theorem few_places:∀(n:Nat)(l:List Int),l.Nodup->(∀ v∈l,0<=v/\v<(n:Int))->l.length<=n
 | 0,l,_,h=>by
  cases l with
  |nil=>simp
  |cons v r=>have:=h v (by simp);lia
 | n+1,l,hn,h=>by
  have c:=few_places n (l.erase (n:Int)) (hn.erase _) λv a=>by
   have hm:=List.mem_of_mem_erase a;have hb:=h v hm;have b:v ≠ (n:Int):=by
    rintro rfl;exact absurd a (List.Nodup.not_mem_erase hn)
   lia
  have d:l.length<=(l.erase (n:Int)).length+1:=by
   rw[List.length_erase];split <;> lia
  lia
end L2
namespace L2
open PySem
end L2
namespace HT
open PySem PyProof.Rows
section
variable{prog:Program}{w:World}{A:Around}{E:Value->Shared->Prop}{s:Shared}
end
end HT
namespace L2
open PySem PySem.Spec PyProof.Rows
section
variable{X:Cx}
end
section
variable{X:Cx}{pins:List (Addr × Obj)}{σ:St}{H:Hp}{s:Shared}{A:Around}{E:Value->Shared->Prop}{Q:Value->Shared->Prop}{b:Bool}
end
section
variable{X:Cx}
end
mutual
def ltv:PyData->PyData->Bool
 | .int a,.int b=>decide (a<b)
 | .tuple xs,.tuple ys=>ltvs xs ys
 |_,_=>false
def ltvs:List PyData->List PyData->Bool
 |[],[]=>false
 |[],_::_=>true
 |_::_,[]=>false
 |x::xs,y::ys=>if PyData.eqv x y then ltvs xs ys else ltv x y
end
mutual
def cmpD:PyData->PyData->Bool
 | .int _,.int _=>true
 | .tuple xs,.tuple ys=>cmpDs xs ys
 |_,_=>false
def cmpDs:List PyData->List PyData->Bool
 |x::xs,y::ys=>cmpD x y && cmpDs xs ys
 |_,_=>true
end
end L2
namespace HT
open PySem PyProof.Rows L2
def LtAt(A:Around)(s:Shared)(y x:Value)(b:Bool):Prop :=
 ∀(prog:Program)(w:World)(E:Value->Shared->Prop)(Q:Value->Shared->Prop),Q (.bool b) s->wpAny (model prog w) A (richCompare .Lt y x) Q E s
section
open PySem.SeqAt
open PySem.AutoSeq1 (wpAny_loadPart')
open PySem.MeetsSeq PySem.MeetsSeq2 PySem.MeetsSeq3
inductive Its(A:Around)(s:Shared):List Value->List Value->Bool->Prop
 |nn:Its A s [] [] false
 |nc {x:Value} {ys:List Value}:Its A s [] (x::ys) true
 |cn {x:Value} {xs:List Value}:Its A s (x::xs) [] false
 |eq {x y:Value} {xs ys:List Value} {b:Bool}:EqAt A s x y true->Its A s xs ys b->Its A s (x::xs) (y::ys) b
 |ne {x y:Value} {xs ys:List Value} {b:Bool}:EqAt A s x y false->LtAt A s x y b->Its A s (x::xs) (y::ys) b
theorem aN(l b:Addr)(c a:Array Value)(n E:Nat)(dd p:Option Addr)(sl q:Array (Option Value))(r:Bool) :
  Meets (Builtin.«tuple.__lt__» ⟨[.ref l,.ref b],[]⟩)
   (λA R s=>s.heap.get? l=some { cls:=.type "tuple",dict:=dd,data:=.seq c n,slots:=sl }/\s.heap.get? b=some { cls:=.type "tuple",dict:=p,data:=.seq a E,slots:=q } /\
    Its A.in1 s c.toList a.toList r/\R (.ok (.ret (.bool r))) s) :=
 .of_wp λprog w A R s h=>by
  obtain⟨B,g,d,tk,os⟩:=s;obtain⟨D,hb,hi,h⟩:=h;have G:=AutoSeq1.sub_tuple_tuple
  wp_walk using wpAny_loadPart' D,wpAny_loadPart' hb,wpAny_forIn_list _ (λrest b t=>b.1=none/\t=⟨B,g,d,tk,os⟩/\∃(vs ws:List Value),rest=vs.zip ws /\
   vs.length+a.size=ws.length+c.size/\Its A.in1 ⟨B,g,d,tk,os⟩ vs ws r) _
  case turn =>
   rintro⟨y,x⟩ rest b t ⟨o,rfl,vs,ws,j,f,u⟩;cases u with
   |nn=>cases j
   |nc=>cases j
   |cn=>cases j
   | eq he hI' =>
    rw[List.zip_cons_cons] at j;injection j with m i;injection m with v hx;subst v hx;simp only[v3] at f;refine u0 (he prog w _ _ ?_)
    wp_walk
    exact⟨rfl,rfl,_,_,i,by lia,hI'⟩
   | ne he hlt =>
    rw[List.zip_cons_cons] at j;injection j with m i;injection m with v hx;subst v hx;refine u0 (he prog w _ _ ?_);have z:=hlt prog w
    wp_walk using z
    exact⟨_,rfl,by simpa using h⟩
  case fin =>
   rintro⟨b1,F⟩ t ⟨o,rfl,vs,ws,j,f,u⟩;simp only at o;subst o;have C:r=decide (c.size<a.size):=by
    cases u with
    | nn =>
     simp only[T8] at f;exact(Q1 (by lia)).symm
    | nc =>
     simp only[T8,v3] at f;exact(D3 (by lia)).symm
    | cn =>
     simp only[T8,v3] at f;exact(Q1 (by lia)).symm
    |eq=>cases j
    |ne=>cases j
   rw[C] at h
   wp_walk
   exact⟨_,rfl,by simpa[Builtin.Tuple.tupleCompareSizes] using h⟩
  case h =>
   exact⟨rfl,rfl,c.toList,a.toList,rfl,by simp;lia,hi⟩
end
section
variable{A:Around}{s:Shared}
theorem LtAt.tup{l b:Addr}{o g:Obj}{c a:Array Value}{n u:Nat}{r:Bool}(m:s.heap.get? l=some o)(t:o.cls=.type "tuple")(hd:o.data=.seq c n)(hb:s.heap.get? b=some g)(d:g.cls=.type "tuple")(f:g.data=.seq a u)
  (v:A.units<cLine) (hi:Its A.in1 s c.toList a.toList r):LtAt A s (.ref l) (.ref b) r:=by
 intro prog w E Q q;obtain⟨cls,dd,data,sl⟩:=o;obtain⟨p,h,j,i⟩:=g;simp only at t hd d f;subst t hd d f
 exact richCompare_meets_room (op:=.Lt) ⟨_,m,rfl⟩ ⟨_,hb,rfl⟩ PySem.F.slot_tuple_lt PySem.F.entry_tuple_lt (PySem.F.args_tuple_lt_2 _ _) (aN l b c a n u dd h sl i r)
  ⟨m,hb,hi,show Value.bool r ≠ Value.notImplemented/\Q (.bool r) s from⟨(λx=>nomatch x),q⟩⟩ v
mutual
theorem ZI:∀(c d:PyData)(A:Around)(s:Shared)(a b:Value)(as bs:List Addr),Reads s.heap a c as->Reads s.heap b d bs->cmpD c d=true->X0 c=true->X0 d=true ->
  A.units+c.depth<cLine->LtAt A s a b (ltv c d)
 | .int i,.int j,A,s,_,_,_,_,.int _ t,.int _ u,_,_,_,_=>λprog w E Q q=>pI A s i t j u prog w E Q (by simpa[ltv] using q)
 | .tuple xs,.tuple ys,A,s,_,_,_,_,.tuple h1 h2 h3 h4,.tuple k1 k2 k3 k4,hc,pa,pb,hu=>by
  have f:A.units+(PyData.depthAll xs+1)<cLine:=hu;have e:ltv (.tuple xs) (.tuple ys)=ltvs xs ys:=by simp[ltv]
  rw[e];exact LtAt.tup h1 h2 h3 k1 k2 k3 (by lia) (its_reads xs ys A.in1 s _ _ _ _ h4 k4 (by simpa[cmpD] using hc) (by simpa[X0] using pa) (by simpa[X0] using pb) (by show A.units+1+_<_;lia))
 | .int _,.none,_,_,_,_,_,_,_,_,hc,_,_,_=>by simp[cmpD] at hc
 | .int _,.bool _,_,_,_,_,_,_,_,_,hc,_,_,_=>by simp[cmpD] at hc
 | .int _,.str _,_,_,_,_,_,_,_,_,hc,_,_,_=>by simp[cmpD] at hc
 | .int _,.list _,_,_,_,_,_,_,_,_,hc,_,_,_=>by simp[cmpD] at hc
 | .int _,.tuple _,_,_,_,_,_,_,_,_,hc,_,_,_=>by simp[cmpD] at hc
 | .int _,.dict _,_,_,_,_,_,_,_,_,hc,_,_,_=>by simp[cmpD] at hc
 | .tuple _,.none,_,_,_,_,_,_,_,_,hc,_,_,_=>by simp[cmpD] at hc
 | .tuple _,.bool _,_,_,_,_,_,_,_,_,hc,_,_,_=>by simp[cmpD] at hc
 | .tuple _,.str _,_,_,_,_,_,_,_,_,hc,_,_,_=>by simp[cmpD] at hc
 | .tuple _,.list _,_,_,_,_,_,_,_,_,hc,_,_,_=>by simp[cmpD] at hc
 | .tuple _,.int _,_,_,_,_,_,_,_,_,hc,_,_,_=>by simp[cmpD] at hc
 | .tuple _,.dict _,_,_,_,_,_,_,_,_,hc,_,_,_=>by simp[cmpD] at hc
 | .none,_,_,_,_,_,_,_,_,_,hc,_,_,_=>by simp[cmpD] at hc
 | .bool _,_,_,_,_,_,_,_,_,_,hc,_,_,_=>by simp[cmpD] at hc
 | .str _,_,_,_,_,_,_,_,_,_,hc,_,_,_=>by simp[cmpD] at hc
 | .list _,_,_,_,_,_,_,_,_,_,hc,_,_,_=>by simp[cmpD] at hc
 | .dict _,_,_,_,_,_,_,_,_,_,hc,_,_,_=>by simp[cmpD] at hc
theorem its_reads:∀(xs ys:List PyData)(A:Around)(s:Shared)(vs ws:List Value)(as bs:List Addr),ReadsAll s.heap vs xs as->ReadsAll s.heap ws ys bs->cmpDs xs ys=true->plainDs xs=true->plainDs ys=true ->
  A.units+PyData.depthAll xs<cLine->Its A s vs ws (ltvs xs ys)
 |[],[],_,_,_,_,_,_,.nil,.nil,_,_,_,_=>by simp only[ltvs];exact .nn
 |[],_::_,_,_,_,_,_,_,.nil,.cons _ _,_,_,_,_=>by simp only[ltvs];exact .nc
 |_::_,[],_,_,_,_,_,_,.cons _ _,.nil,_,_,_,_=>by simp only[ltvs];exact .cn
 | x::xs,y::ys,A,s,_,_,_,_,.cons r1 r2,.cons q1 q2,hc,pa,pb,hu=>by
  have c:cmpD x y=true/\cmpDs xs ys=true:=by simpa[cmpDs] using hc
  have b:X0 x=true/\plainDs xs=true:=by simpa[plainDs] using pa
  have a:X0 y=true/\plainDs ys=true:=by simpa[plainDs] using pb
  have hd:PyData.depthAll (x::xs)=max x.depth (PyData.depthAll xs):=by simp[PyData.depthAll]
  have f:=Nat.min_le_left x.depth y.depth;have d:=SeqAt.eqAt_reads x y A s _ _ _ _ r1 q1 (V8 _ b.1) (V8 _ a.1) (by lia);cases hq:PyData.eqv x y with
  | true =>
   rw[hq] at d;have e:ltvs (x::xs) (y::ys)=ltvs xs ys:=by simp[ltvs,hq]
   rw[e];exact .eq d (its_reads xs ys A s _ _ _ _ r2 q2 c.2 b.2 a.2 (by lia))
  | false =>
   rw[hq] at d;have e:ltvs (x::xs) (y::ys)=ltv x y:=by simp[ltvs,hq]
   rw[e];exact .ne d (ZI x y A s _ _ _ _ r1 q1 c.1 b.1 a.1 (by lia))
end
end
end HT
namespace L2
open PySem PySem.Spec PyProof.Rows
section
variable{X:Cx}
end
end L2
namespace L2
open PySem
end L2
namespace TS
open PySem PyProof.Rows HT
theorem wF:∀ x y:List Int,HT.lexLt x y=true->HT.lexLt y x=false
 |[],[],h=>by simp[HT.lexLt] at h
 |[],_::_,_=>rfl
 |_::_,[],h=>by simp[HT.lexLt] at h
 | a::x,b::y,h=>by
  rw[lC] at h ⊢;by_cases e:a=b
  ·subst e;rw[z0 rfl] at h ⊢;exact wF x y h
  ·rw[y0 e] at h;rw[y0 (λz=>e z.symm)];have:=of_decide_eq_true h;exact Q1 (by lia)
theorem FF:∀ x y z:List Int,HT.lexLt y x=false->HT.lexLt z y=false->HT.lexLt z x=false
 |_,[],[],h,_=>h
 |[],[],_::_,_,_=>rfl
 |_::_,[],_::_,h,_=>by simp[HT.lexLt] at h
 |_,_::_,[],_,h=>by simp[HT.lexLt] at h
 |[],_::_,_::_,_,_=>rfl
 | a::x,b::y,c::z,h,g=>by
  rw[lC] at h g ⊢;by_cases e:b=a
  ·subst e;rw[z0 rfl] at h;by_cases e2:c=b
   ·subst e2;rw[z0 rfl] at g ⊢;exact FF x y z h g
   ·rw[y0 e2] at g ⊢;exact g
  ·rw[y0 e] at h;have h':=of_decide_eq_false h;by_cases e2:c=b
   ·subst e2;rw[y0 e];exact h
   ·rw[y0 e2] at g;have g':=of_decide_eq_false g;rw[y0 (by lia)];exact Q1 (by lia)
def TI(h:Heap)(a:Addr)(ns:List Int):Prop:=∃ o xs n,h.get? a=some o/\o.cls=.type "tuple"/\o.data=.seq xs n/\IntsAre xs.toList ns
def kfV(kf:Addr->List Int):Value->List Int
 | .ref a=>kf a
 |_=>[]
section
variable{prog:Program}{w:World}{A:Around}{E:Value->Shared->Prop}{s:Shared}
theorem jG:∀{xs ys:List Value}{ns c:List Int}(i:Nat),IntsAre xs ns->IntsAre ys c->(ns.length<c.length->fin=true)->(c.length<=ns.length->fin=false)->Q (HT.lexLt ns c) s ->
  PySem.W.KatLex prog w A true fin Q (xs.zip ys) i s
 | _,_,_,_,i,.nil,.nil,_,h2,q=>by
  rw[h2 (Q0 _)];exact q
 | _,_,_,_,i,.nil,.cons b u r,h1,_,q=>by
  rw[h1 (by simp)];exact q
 | _,_,_,_,i,.cons a t r,.nil,_,h2,q=>by
  rw[List.zip_nil_right,h2 (by simp)];exact q
 | _,_,_,_,i,.cons a t r,.cons b u r2,h1,h2,q=>by
  rw[List.zip_cons_cons];refine PySem.W.kat_cons (SeqAt.EqAt.int_int a t b u prog w _ _ ?_);rw[lC] at q;by_cases e:a=b
  ·subst e;rw[z0 rfl] at q;rw[show(a == a)=true by simp];exact PySem.W.kat_yes (jG (i+1) r r2 (λz=>h1 (by simpa using z)) (λz=>h2 (by simpa using z)) q)
  ·rw[y0 e] at q;rw[show(a == b)=false by simpa using e];refine PySem.W.kat_no ?_;by_cases hi:i=0
   ·subst hi;exact oneLt_int q
   ·rw[show(true && i == 0)=false by simpa using hi];exact PySem.W.kat_one _ _ (PyProof.Rows.lt_int q)
def tS(h:Heap)(kf:Addr->List Int)(x:Keyed):Prop:=x.1=x.2/\∃ a,x.1=.ref a/\TI h a (kf a)
def tR(kf:Addr->List Int)(x y:Keyed):Bool:=HT.lexLt (kfV kf x.1) (kfV kf y.1)
theorem cmp_tups(h:Addr->List Int):Cmp (model prog w) A E s (tuples' true) (tS s.heap h) (tR h):=by
 refine⟨λx y hx r Q st p q=>?_,λx y _ _=>wF _ _,λx y z _ _ _=>FF _ _ _⟩;obtain⟨v,D⟩:=x;obtain⟨G,C⟩:=y;obtain⟨_,a,i,o,xs,n,u,B,l,g⟩:=hx;obtain⟨_,b,j,o',ys,F,m,H,t,c⟩:=r;dsimp only at i j;subst i j;rw[lt'_eq];refine wpS_bind (wpS_get ?_);rw[p];refine wpS_bind (wpS_lift (wpAny_attempt (PySem.W.kat_lt u l m t (jG 0 g c (λz=>?_) (λz=>?_) ⟨rfl,?_⟩))))
 ·have f:=g.length;have d:=c.length;simp at f d;exact D3 (by lia)
 ·have f:=g.length;have d:=c.length;simp at f d;exact Q1 (by lia)
 ·exact wpS_pure q
theorem eJ{vs:List Value}{ps:List Keyed}(h:ps.Perm (vs.zip vs)):(∀ p∈ps,p.1=p.2/\p.1∈vs)/\(ps.map (·.2)).Perm vs:=by
 refine⟨λp b=>mem_zip_self (h.mem_iff.mp b),?_⟩;have a:=h.map (λp=>p.2);have e:(vs.zip vs).map (λp=>p.2)=vs:=List.map_snd_zip (Q0 _)
 rwa [e] at a
theorem EO(j:s.heap.get? a=some (seqObj "list" vs.toArray n))(c:vs.length<=sizeLine)
  (p:2<=vs.length->∀ h',(∀ b o,b ≠ a->s.heap.get? b=some o->h'.get? b=some o)->∃ κ S R,(∀(Q:SortKind->Shared->Prop),Q κ { s with heap:=h' }->wpAny (model prog w) A (keyKind' vs.toArray) Q E { s with heap:=h' })/\Cmp (model prog w) A E { s with heap:=h' } κ S R/\(∀ v∈vs,S (v,v)) /\
   ∀ out:List Value,out.Perm vs->out.Pairwise (λx y=>R (y,y) (x,x)=false)->P (.done (.ret .none)) { s with heap:=sortedHeap s.heap a vs out.toArray })
  (z:vs.length<2->P (.done (.ret .none)) { s with heap:=sortedHeap s.heap a vs vs.toArray }) :
  wpAny (model prog w) A (Builtin.«list.sort» ⟨[.ref a],[]⟩) P E s:=by
 rw[list_sort_plain];have ha:a<s.heap.objs.size:=M0 j;refine u0 (listItems_at j rfl ?_);refine u0 (listUpdate_at j rfl ?_ (by rw[M3];exact c) (R4 _));obtain⟨q,g⟩:∃ q,(s.heap.update a (Obj.mapSeq λ_=>#[])).get? a=some (seqObj "list" #[] q):=⟨_,get?_update_seq j (λ_=>#[])⟩
 refine u0 (seqEpoch_at g rfl ?_);refine u0 (wpAny_newTuple ?_ (by show vs.length<=_;exact c));refine u0 (wpAny_newList ?_ (R4 _));refine U3 ?_;have d:(((s.heap.update a (Obj.mapSeq λ_=>#[])).push (seqObj "tuple" vs.toArray 0)).push (seqObj "list" #[] 0)).get? a=some (seqObj "list" #[] q):=by
  rw[Heap.get?_push_ne _ _ _ (by rw[size_push',Heap.size_update];exact U1 (T9 ha)),Heap.get?_push_ne _ _ _ (by rw[Heap.size_update];exact U1 ha)];exact g
 show wpAny (model prog w) A _ P E { s with heap:=((s.heap.update a (Obj.mapSeq λ_=>#[])).push (seqObj "tuple" vs.toArray 0)).push (seqObj "list" #[] 0) };dsimp only;have hsz:vs.toArray.size=vs.length:=by simp
 have kp:∀ b o,b ≠ a->s.heap.get? b=some o->(((s.heap.update a (Obj.mapSeq λ_=>#[])).push (seqObj "tuple" vs.toArray 0)).push (seqObj "list" #[] 0)).get? b=some o:=λb o hb e=>by
  refine S1 _ (S1 _ ?_);rw[Heap.get?_update_ne _ _ _ _ hb];exact e
 by_cases h2:vs.toArray.size<2
 ·rw[z0 h2,z0 h2];refine u0 (I0 ?_);rw[StateT.run_pure];refine u0 (I0 ?_);dsimp only;have l:(arrOf (SortSt.mk' general' (vs.toArray.zip vs.toArray) #[] 7 none)).map (·.2)=vs.toArray:=by
   show(vs.toArray.zip vs.toArray).map (·.2)=vs.toArray;apply Array.toList_inj.mp;rw[Array.toList_map,Array.toList_zip];exact List.map_snd_zip (Q0 _)
  rw[l];refine u0 (seqEpoch_at d rfl ?_);refine u0 (listUpdate_at d rfl ?_ (R4 _) (by rw[M3];exact Nat.le_succ_of_le c));simp only[bne_self_eq_false,Bool.false_eq_true,if_false];exact I0 (z (by lia))
 ·rw[y0 h2,y0 h2];obtain⟨κ,S,R,F,C,D,i⟩:=p (by lia) _ kp;refine u0 (F _ ?_);refine u0 (Y2 (nT C (a0:=vs.toArray.zip vs.toArray) (st:=SortSt.mk' κ (vs.toArray.zip vs.toArray) #[] 7 none) (Q:=λ_ st'=>failedOf st'=none/\(arrOf st').toList.Perm (vs.zip vs)/\Srt R (arrOf st').toList) (λx hx=>?_) rfl rfl rfl rfl λst' B H r=>⟨B,by simpa using H,r⟩) ?_ λ_ _ e=>e)
  ·have:x∈vs.zip vs:=by simpa using hx
   obtain⟨f,h⟩:=mem_zip_self this;obtain⟨u,G⟩:=x;dsimp only at f h;subst f;exact D _ h
  rintro⟨⟨⟩,st'⟩ r ⟨rfl,hf,I,hs⟩;dsimp only;obtain⟨f,h⟩:=eJ I;have l:(arrOf st').map (·.2)=(((arrOf st').toList.map (·.2)).toArray):=by
   apply Array.toList_inj.mp;simp
  rw[l];have m:((arrOf st').toList.map (·.2)).length=vs.length:=h.length_eq;refine u0 (seqEpoch_at d rfl ?_);refine u0 (listUpdate_at d rfl ?_ (R4 _) (by rw[M3,m];exact Nat.le_succ_of_le c));rw[hf];simp only[bne_self_eq_false,Bool.false_eq_true,if_false];refine I0 (i _ h ?_);rw[m9];refine List.Pairwise.imp_of_mem ?_ hs;intro x y hx J K;have ex:=(f x hx).1;have t:=(f y J).1;obtain⟨u,G⟩:=x;obtain⟨M,L⟩:=y;dsimp only at ex t;subst ex t;exact K
theorem sorted_any(j:s.heap.IsList l vs.toArray)(c:vs.length<=sizeLine)
  (h:2<=vs.length->∀ h',(∀ b o,s.heap.get? b=some o->h'.get? b=some o)->∃ κ S R,(∀(Q:SortKind->Shared->Prop),Q κ { s with heap:=h' }->wpAny (model prog w) A.in1.in1 (keyKind' vs.toArray) Q E { s with heap:=h' })/\Cmp (model prog w) A.in1.in1 E { s with heap:=h' } κ S R/\(∀ v∈vs,S (v,v)) /\
   ∀ out:List Value,out.Perm vs->out.Pairwise (λx y=>R (y,y) (x,x)=false)->Q (.ref (s.heap.objs.size+1)) { s with heap:=sortedAll s.heap vs out.toArray })
  (n:vs.length<2->Q (.ref (s.heap.objs.size+1)) { s with heap:=sortedAll s.heap vs vs.toArray }) :
  wpAny (model prog w) A (call (.builtin "sorted") [.ref l]) Q E s:=by
 refine Calls.call_function_entry kind_sorted plain_sorted entry_sorted (args_sorted1 _) ?_;unfold Builtin.«sorted»;refine u0 (m:=checkCount "sorted" 1 1 _) (I0 ?_);refine u0 (collect_list j ?_ c);refine u0 (wpAny_newList ?_ c);have hsz:((s.heap.push (seqObj "list" #[] 0)).update s.heap.objs.size (Obj.mapSeq (· ++ vs.toArray))).objs.size=s.heap.objs.size+1:=by
  rw[Heap.size_update,size_push']
 have d:(((s.heap.push (seqObj "list" #[] 0)).update s.heap.objs.size (Obj.mapSeq (· ++ vs.toArray))).push (seqObj "list" vs.toArray 0)).get? (s.heap.objs.size+1)=some (seqObj "list" vs.toArray 0):=by
  rw[← hsz];exact m3 _ rfl
 have keep:∀ b o,s.heap.get? b=some o->(((s.heap.push (seqObj "list" #[] 0)).update s.heap.objs.size (Obj.mapSeq (· ++ vs.toArray))).push (seqObj "list" vs.toArray 0)).get? b=some o:=λb o q=>by
  have a:b<s.heap.objs.size:=M0 q;rw[Heap.get?_push_ne _ _ _ (by rw[hsz];exact U1 (T9 a)),Heap.get?_update_ne _ _ _ _ (U1 a),Heap.get?_push_ne _ _ _ (U1 a)];exact q
 show wpAny _ _ _ _ _ { s with heap:=((s.heap.push (seqObj "list" #[] 0)).update s.heap.objs.size (Obj.mapSeq (· ++ vs.toArray))).push (seqObj "list" vs.toArray 0) };rw[hsz];refine u0 (U3 (yA slot_list_sort ⟨_,d,rfl⟩ entry_list_sort ?body (args_list_sort _)))
 case body =>
  refine EO (s:={ s with heap:=((s.heap.push (seqObj "list" #[] 0)).update s.heap.objs.size (Obj.mapSeq (· ++ vs.toArray))).push (seqObj "list" vs.toArray 0) }) d c (λg h' kp=>?_) λa=>?_
  ·obtain⟨κ,S,R,t,C,r,f⟩:=h g h' λb o e=>kp b o (U1 (T9 (M0 e))) (keep b o e);exact⟨κ,S,R,t,C,r,λout i p=>⟨_,rfl,I0 ⟨_,rfl,f out i p⟩⟩⟩
  ·exact⟨_,rfl,I0 ⟨_,rfl,n a⟩⟩
end
end TS
namespace L2
open PySem PySem.Spec PyProof.Rows
def toI:V->Int
 | .int i=>i
 |_=>0
def kH(H:Hp):V->List Int
 | .ref t=>match H t with
  |some (.tup xs)=>xs.map toI
  |_=>[]
 |_=>[]
theorem iJ(ns:List Int):(ns.map V.int).map toI=ns:=by
 rw[P4];have:(toI ∘ V.int)=id:=by funext i;rfl
 rw[this,List.map_id]
theorem yD(h:H t=some (.tup (ns.map V.int))):kH H (.ref t)=ns:=by
 simp only[kH,h];exact iJ ns
def TupI(H:Hp)(v:V):Prop:=∃ t ns,v=.ref t/\H t=some (.tup (ns.map V.int))/\ns ≠ []
def Y9:Value->V
 | .ref a=>.ref a
 |_=>.non
theorem FG:∀{us:List Value},(∀ u∈us,∃ a,u=.ref a)->Vals (us.map Y9) us
 |[],_=>.nil
 | u::us,h=>by
  obtain⟨a,e⟩:=h u E4;subst e;exact .cons rfl (FG λv b=>h v (Q3 _ b))
theorem EF:∀{vs:List V}{us:List Value},Vals vs us->(∀ v∈vs,TupI H v)->(∀ u∈us,∃ a,u=.ref a)/\us.map Y9=vs
 |_,_,.nil,_=>⟨λu d=>(by cases d),rfl⟩
 | v::vs,u::us,.cons r t,h=>by
  obtain⟨a,ns,rfl,_,_⟩:=h v E4;cases r;obtain⟨b,f⟩:=EF t λv c=>h v (Q3 _ c);refine⟨λx hx=>?_,by rw[P0,f];rfl⟩;rcases V0.mp hx with rfl|hx
  ·exact⟨_,rfl⟩
  ·exact b x hx
section
variable{X:Cx}
def xB(K:Frag):List V->Hp->VK->Prop:=λxs H Q=>∃(a:Addr)(vs:List V),xs=[.ref a]/\SqL K H a vs/\(∀ v∈vs,TupI H v) /\
 ∀(vs':List V)(p:Addr),vs'.Perm vs->vs'.Pairwise (λx y=>HT.lexLt (kH H y) (kH H x)=false)->H p=none->Q (.ref p) (upd H p (.lst vs'))
theorem wG(I:Inv X pins σ H s)(kp:∀ b o,s.heap.get? b=some o->h'.get? b=some o):∀{vs:List V}{us:List Value},Vals vs us->(∀ v∈vs,TupI H v) ->
  (∃ fs,PySem.W.KatTups h' us fs/\fs.length=us.length/\∀ f∈fs,∃ i t,f=.int i t)/\∀ u∈us,∃ a,u=.ref a/\TS.TI h' a (kH H (.ref a))
 |_,_,.nil,_=>⟨⟨[],trivial,rfl,λf hf=>by cases hf⟩,λu z=>by cases z⟩
 | v::vs,u::us,.cons r t,h=>by
  obtain⟨a,ns,rfl,e,c⟩:=h v E4;cases r;obtain⟨⟨fs,k1,k2,k3⟩,A⟩:=wG I kp t λv p=>h v (Q3 _ p);obtain⟨_,its,q,o,m,j,n,l⟩:=(show ObjOk X.prog X.w H s.heap a (.tup (ns.map V.int)) from I.hok a _ e)
  have hi:IntsAre its ns:=by simpa using (M9 q:IntsAre its.toArray.toList ns)
  have B:TS.TI h' a (kH H (.ref a)):=⟨o,its.toArray,n,kp _ _ m,j,l,by rw[yD e];simpa using hi⟩
  obtain⟨f,hf,i,tk,y⟩:∃ f,its.toArray[0]?=some f/\∃ i t,f=.int i t:=by
   cases hi with
   |nil=>exact absurd rfl c
   |cons i tk _=>exact⟨_,by simp,i,tk,rfl⟩
  refine⟨⟨f::fs,PySem.W.KatTups.cons (kp _ _ m) j l hf k1,by simp[k2],λg d=>?_⟩,λx hx=>?_⟩
  ·rcases V0.mp d with rfl|d
   ·exact⟨i,tk,y⟩
   ·exact k3 g d
  ·rcases V0.mp hx with rfl|hx
   ·exact⟨a,rfl,B⟩
   ·exact A x hx
theorem nL{α:Type}{R : α->α->Prop}:∀{l:List α},l.length<2->l.Pairwise R
 |[],_=>List.Pairwise.nil
 |[_],_=>List.pairwise_singleton _ _
 |_::_::_,h=>absurd h (by simp)
theorem lJ:l2 X (.builtin "sorted") (xB X.K):=by
 intro pins s σ H xs us Q I r h;obtain⟨a,vs,rfl,ha,n,q⟩:=h;obtain⟨u,rfl,F⟩:=S5 r;cases F;obtain⟨its,m,p,C⟩:=I.list ha;obtain⟨b1,w⟩:=EF m n;have c:its.length<=sizeLine:=by rw[← m.length];exact C
 have d:H (s.heap.objs.size+1)=none:=I.hok.fresh (Nat.le_succ _);have fin:∀ out:List Value,out.Perm its->(out.map Y9).Pairwise (λx y=>HT.lexLt (kH H y) (kH H x)=false)->EP X pins σ Q (.ref (s.heap.objs.size+1)) { s with heap:=sortedAll s.heap its out.toArray }:=by
  intro out f hs;obtain⟨e,E⟩:=sortedAll_at s.heap its out.toArray;have g:Vals (out.map Y9) out:=FG λu z=>b1 u (f.mem_iff.mp z);refine⟨.ref (s.heap.objs.size+1),_,I.laid (t':=s.toks) (o:=.lst (out.map Y9)) (λb P q=>sortedAll_old q) (Nat.le_succ _) ?_,rfl,q _ _ ?_ hs d⟩
  ·refine⟨by rw[N1,f.length_eq];exact c,out,e,g,by rw[E]⟩
  ·rw[← w];exact f.map Y9
 refine TS.sorted_any p.isList c (λB h' kp=>?_) λj=>?_
 ·obtain⟨⟨fs,k1,k2,k3⟩,L⟩:=wG I kp m n;have l:(Value.type "int" != Value.type "tuple")=true:=by rfl
  refine⟨tuples' true,TS.tS h' (λa=>kH H (.ref a)),TS.tR (λa=>kH H (.ref a)),λM A=>?_,TS.cmp_tups (s:={ s with heap:=h' }) (λa=>kH H (.ref a)),λv g=>?_,λout f hs=>fin out f ?_⟩
  ·refine PySem.W.kat_kind (T:=.type "int") (s:={ s with heap:=h' }) k1 (by lia) (λv g=>?_) (by rfl) ?_
   ·obtain⟨i,t,rfl⟩:=k3 v g;exact .now
   ·rw[l];exact A
  ·obtain⟨a,e,D⟩:=L v g;exact⟨rfl,a,e,D⟩
  ·rw[m9];refine List.Pairwise.imp_of_mem ?_ hs;intro x y hx G J;obtain⟨N,rfl⟩:=b1 x (f.mem_iff.mp hx);obtain⟨O,rfl⟩:=b1 y (f.mem_iff.mp G);exact J
 ·refine fin its (List.Perm.refl _) ?_;exact nL (by rw[N1];exact j)
end
end L2
namespace HT
open PySem PySem.Spec PyProof.Rows L2
section
variable{prog:Program}{w:World}{A:Around}{kw:List (Str × Value)}{R:Result->Shared->Prop}{I S:Addr}{fp wr:List Addr}{n:Nat}{P:Nat->Value->Prop}{St:Nat->Heap->Prop}{Hd:Heap->Prop}
theorem qO(W:Walks prog w A.in1 I fp wr n P St)(bt:Nat->Nat->Bool)
  (J:∀ i j T O (s:Shared) (Q:Value->Shared->Prop) (E:Value->Shared->Prop),Hd s.heap->P i T->P j O->Q (.bool (bt i j)) s->wpAny (model prog w) A.in1 (richCompare .Lt T O) Q E s)
  (hd:∀ h h':Heap,Hd h->(∀ b o,b ∉ wr->b ≠ S->h.get? b=some o->h'.get? b=some o)->Hd h') (C:S ∉ fp) :
  ∀(k j:Nat)(s:Shared)(r:Value)(c:Nat),n-(j+1)=k->j+1<=n->St (j+1) s.heap->Hd s.heap->P (argBest bt j) r ->
  s.heap.get? S=some { cls:=.type "list",dict:=none,data:=.seq #[r,r] c,slots:=#[] } ->
  (∀ v h' tk,P (argBest bt (n-1)) v->(∀ b o,b ∉ wr->b ≠ S->s.heap.get? b=some o->h'.get? b=some o)->R (.ok (.ret v)) { s with heap:=h',toks:=tk }) ->
  codeAny (model prog w) A (.builtin "min.loop" ⟨[.ref I,.none,.ref S],kw⟩) R s:=by
 have H:S ∉ wr:=λh=>C (W.sub _ h);have l:(toString "min" ++ toString ".loop" : String) = "min.loop":=by decide
 intro k
 induction k with
 | zero =>
  intro j s r c X U B hh q G K;have D:j+1=n:=by lia
  apply X9 F.entry_min_loop;rw[aA F.plain_min_loop (⟨[.ref I,.none,.ref S],kw⟩:Args)];show wpAny (model prog w) A.in1 (seqItems? (.ref S) >>= _) _ _ s;apply u0;apply wpAny_seqItems G rfl;show wpAny (model prog w) A.in1 (tryCatch (pyNext (.ref I)) _ >>= _) _ _ s;apply u0;apply wpAny_tryCatch;refine W.done s _ _ (D ▸ B) (λh' tk f=>?_);have p:=f S _ H G;show wpAny (model prog w) A.in1 (updateSeq S (λ_=>#[]) >>= _) _ _ _;apply u0;refine(wpAny_updateSeq p rfl (u0 (wpAny_letGo (I0 ?_))));exact K r _ tk (by rw[← D];exact q) (λb o a d e=>(k7 _ _ (Ne.symm d)).trans (f b o a e))
 | succ k ih =>
  intro j s r c X U B hh q G K;have u:j+1<n:=by lia
  apply X9 F.entry_min_loop;rw[aA F.plain_min_loop (⟨[.ref I,.none,.ref S],kw⟩:Args)];show wpAny (model prog w) A.in1 (seqItems? (.ref S) >>= _) _ _ s;apply u0;apply wpAny_seqItems G rfl;show wpAny (model prog w) A.in1 (tryCatch (pyNext (.ref I)) _ >>= _) _ _ s;apply u0;apply wpAny_tryCatch;refine W.item (j+1) s _ _ u B (λv h' tk N t f=>?_);have p:=f S _ H G;have x:Hd h':=hd _ _ hh λb o a _ e=>f b o a e;show wpAny (model prog w) A.in1 (tryCatch (holding [v,v] (richCompare .Lt v r >>= _)) _ >>= _) _ _ _;apply u0;apply wpAny_tryCatch;apply U3;apply u0;refine J (j+1) (argBest bt j) v r _ _ _ x N q ?_;apply u0;apply U3;apply p7;apply u0;apply wpAny_letGo;apply I0;cases hb:bt (j+1) (argBest bt j) with
  | true =>
   simp only[if_true];apply u0;refine(wpAny_updateSeq p rfl (u0 (wpAny_letGo ?_)));rw[l];refine I0 ⟨plainId_quiet F.plain_min_loop _,?_⟩;refine ih (j+1) _ v _ (by lia) u (W.frame _ _ _ t λb M o e=>?_) (hd _ _ x λb o a d e=>(k7 _ _ (Ne.symm d)).trans e) (by simp only[argBest,hb,if_true];exact N) (QB _ p rfl) (λL z g y m=>?_)
   ·exact(k7 _ _ (λh:S=b=>C (h ▸ M))).trans e
   ·exact(K L z g y λb o a d e=>m b o a d ((k7 _ _ (Ne.symm d)).trans (f b o a e)))
  | false =>
   simp only[Bool.false_eq_true,if_false];apply u0;apply wpAny_letGo;rw[l];refine I0 ⟨plainId_quiet F.plain_min_loop _,?_⟩;refine ih (j+1) _ r c (by lia) u t x (by simp only[argBest,hb,Bool.false_eq_true,if_false];exact q) p (λL z g y m=>?_);exact(K L z g y λb o a d e=>m b o a d (f b o a e))
theorem uQ(W:Walks prog w A.in1 I fp wr n P St)(bt:Nat->Nat->Bool)
  (t:∀ i j K H (s:Shared) (Q:Value->Shared->Prop) (E:Value->Shared->Prop),Hd s.heap->P i K->P j H->Q (.bool (bt i j)) s->wpAny (model prog w) A.in1 (richCompare .Lt K H) Q E s)
  (hd:∀ h h':Heap,Hd h->(∀ b o,b ∉ wr->b ≠ S->h.get? b=some o->h'.get? b=some o)->Hd h') (l:S ∉ fp)   (q:St 0 s.heap) (hh:Hd s.heap)
  (J:s.heap.get? S=some { cls:=.type "list",dict:=none,data:=.seq #[] c,slots:=#[] })
  (L:n=0->kw=([("default",.none)]:List (Str × Value))/\∀ h' tk,(∀ b o,b ∉ wr->b ≠ S->s.heap.get? b=some o->h'.get? b=some o)->R (.ok (.ret .none)) { s with heap:=h',toks:=tk })
  (O:0<n->∀ v h' tk,P (argBest bt (n-1)) v->(∀ b o,b ∉ wr->b ≠ S->s.heap.get? b=some o->h'.get? b=some o)->R (.ok (.ret v)) { s with heap:=h',toks:=tk }) :
  codeAny (model prog w) A (.builtin "min.loop" ⟨[.ref I,.none,.ref S],kw⟩) R s:=by
 have C:S ∉ wr:=λh=>l (W.sub _ h);have g:(toString "min" ++ toString ".loop" : String) = "min.loop":=by decide
 apply X9 F.entry_min_loop;rw[aA F.plain_min_loop (⟨[.ref I,.none,.ref S],kw⟩:Args)];show wpAny (model prog w) A.in1 (seqItems? (.ref S) >>= _) _ _ s;apply u0;apply wpAny_seqItems J rfl;show wpAny (model prog w) A.in1 (tryCatch (pyNext (.ref I)) _ >>= _) _ _ s;apply u0;apply wpAny_tryCatch;by_cases hn:0<n
 ·refine W.item 0 s _ _ hn q (λv h' tk M p d=>?_);have u:=d S _ C J;have x:Hd h':=hd _ _ hh λb o a _ e=>d b o a e;show wpAny (model prog w) A.in1 (updateSeq S (λ_=>#[v,v]) >>= _) _ _ _;apply u0;refine(wpAny_updateSeq u rfl ?_);rw[g];refine I0 ⟨plainId_quiet F.plain_min_loop _,?_⟩;refine qO (Hd:=Hd) W bt t hd l _ 0 _ v _ rfl hn (W.frame _ _ _ p λb D o e=>?_) (hd _ _ x λb o a f e=>(k7 _ _ (Ne.symm f)).trans e) M (QB _ u rfl) (λN B m z r=>?_)
  ·exact(k7 _ _ (λh:S=b=>l (h ▸ D))).trans e
  ·exact(O hn N B m z λb o a f e=>r b o a f ((k7 _ _ (Ne.symm f)).trans (d b o a e)))
 ·have G:n=0:=by lia
  obtain⟨rfl,y⟩:=L G;refine W.done s _ _ (by rw[G];exact q) (λh' tk d=>?_);show wpAny (model prog w) A.in1 (rule _ >>= _) _ _ _;refine u0 (wpAny_rule (I0 ?_));exact y h' tk λb o a _ e=>d b o a e
end
section
variable{prog:Program}{w:World}{A:Around}{E:Value->Shared->Prop}{s:Shared}
theorem ZL(i:builtinKind a=none)(h:plainId a=true)(hb:entryFor table a=some b)(ha:argsOk a ⟨args,d⟩)
  (g:wpAny (model prog w) A.in1 (b ⟨args,d⟩) (λfin c=>match fin with
   | .done f=>(match (Except.ok f:Result) with | .ok (.ret v)=>Q v c | .ok _=>False | .error e=>E e c) | .again c'=>c'.quiet=true/\codeAny (model prog w) A c' (λr c=>match r with | .ok (.ret v)=>Q v c | .ok _=>False | .error e=>E e c) c) E s) :
  wpAny (model prog w) A (call (.builtin a) args d) Q E s:=by
 apply wpAny_call;apply codeAny_call_builtin h hb;simp only[checkBuiltinCall,i];cases hsig:Manifest.signature? a with
 |none=>exact I0 g
 | some sig =>
  have j:Bind.checkArgs a sig ⟨args,d⟩=pure ():=by simp only[argsOk,hsig] at ha;exact ha
  simp only[j];exact I0 g
theorem oQ(a:Value):argsOk "min" ⟨[a],[("default",.none)]⟩:=by unfold argsOk;kernel_rfl
theorem XJ(a:Value):argsOk "min" ⟨[a],[]⟩:=by unfold argsOk;kernel_rfl
def btD(ds:List PyData)(i j:Nat):Bool:=ltv (ds.getD i .none) (ds.getD j .none)
theorem min_dft(n:q=[]\/q=([("default",.none)]:List (Str × Value)))(hh:A.handled=none)(x:s.heap.IsList l us.toArray)(M:∀(i:Nat) v,us[i]?=some v->∃ d as,ds[i]?=some d/\Reads s.heap v d as)
  (hc:∀ d∈ds,∀ e∈ds,cmpD d e=true) (K:∀ d∈ds,X0 d=true) (T:∀ d∈ds,A.in1.units+d.depth<cLine)
  (B:us=[]->q=([("default",.none)]:List (Str × Value))/\∀ h' tk,(∀ b o,s.heap.get? b=some o->h'.get? b=some o)->Q .none { s with heap:=h',toks:=tk })
  (Y:∀ v h' tk,us[argBest (btD ds) (us.length-1)]?=some v->(∀ b o,s.heap.get? b=some o->h'.get? b=some o)->Q v { s with heap:=h',toks:=tk }) :
  wpAny (model prog w) A (call (.builtin "min") [.ref l] q) Q E s:=by
 have p:l<s.heap.objs.size:=by obtain⟨_,e,_⟩:=x;exact M0 e
 have a:(toString "min" ++ toString ".loop" : String) = "min.loop":=by decide
 refine ZL F.kind_min F.plain_min F.entry_min (by rcases n with rfl|rfl;exact XJ _;exact oQ _) ?_;have g:codeAny (model prog w) A (.builtin "min.loop" ⟨[.ref s.heap.objs.size,.none,.ref (s.heap.push { cls:=.type "list_iterator",data:=.fields #[.ref l,.int 0 0] }).objs.size],q⟩) (λr y=>match r with | .ok (.ret v)=>Q v y | .ok _=>False | .error e=>E e y) { s with heap:=(s.heap.push { cls:=.type "list_iterator",data:=.fields #[.ref l,.int 0 0] }).push { cls:=.type "list",dict:=none,data:=.seq #[] 0,slots:=#[] } }:=by
  have W:=Walks.list (prog:=prog) (w:=w) (A:=A.in1) hh s.heap.objs.size l (U1 p) us.toArray;have f:s.heap.objs.size<(s.heap.push { cls:=.type "list_iterator",data:=.fields #[.ref l,.int 0 0] }).objs.size:=by rw[SA];exact aB _
  refine uQ (Hd:=λh=>∀ b o,s.heap.get? b=some o->h.get? b=some o) W (btD ds) (c:=0) ?_ ?_ ?_ ?_ ?_ ?_ ?_ ?_
  ·intro i j I C y R E' u hi O U;obtain⟨L,P,J,X⟩:=M i I (by simpa using hi);obtain⟨G,S,H,Z⟩:=M j C (by simpa using O);have z:=u3 J;have D:=u3 H;refine ZI L G A.in1 y I C P S (PyProof.Rows.Reads.keeps u X) (PyProof.Rows.Reads.keeps u Z) (hc _ z _ D) (K _ z) (K _ D) (T _ z) prog w E' R ?_;have:btD ds i j=ltv L G:=by simp[btD,List.getD,J,H]
   rw[← this];exact U
  ·intro h h' u t b o e;have hb:=M0 e;refine t b o (λhm=>?_) (λhm=>?_) (u b o e)
   ·have:b=s.heap.objs.size:=by simpa using hm
    rw[this] at hb;exact L3 _ hb
   ·rw[hm] at hb;exact L3 _ (Nat.lt_trans f hb)
  ·intro hm;rcases V0.mp hm with e|hm
   ·exact L3 _ (e ▸ f)
   ·have e:=O6.mp hm;exact L3 _ (Nat.lt_trans p (e ▸ f))
  ·exact⟨⟨_,S1 _ (m3 _ rfl),rfl,rfl⟩,(x.push _).push _⟩
  ·exact λb o e=>S1 _ (S1 _ e)
  ·exact m3 _ rfl
  ·intro hn;have m:us=[]:=by
    have:us.length=0:=by simpa using hn
    exact List.length_eq_zero_iff.mp this
   refine⟨(B m).1,λh' tk t=>(B m).2 h' tk λb o e=>?_⟩;have hb:=M0 e;refine t b o (λhm=>?_) (λhm=>?_) (S1 _ (S1 _ e))
   ·have:b=s.heap.objs.size:=by simpa using hm
    rw[this] at hb;exact L3 _ hb
   ·rw[hm] at hb;exact L3 _ (Nat.lt_trans f hb)
  ·intro hn v h' tk N t;refine Y v h' tk (by simpa using N) λb o e=>?_;have hb:=M0 e;refine t b o (λhm=>?_) (λhm=>?_) (S1 _ (S1 _ e))
   ·have:b=s.heap.objs.size:=by simpa using hm
    rw[this] at hb;exact L3 _ hb
   ·rw[hm] at hb;exact L3 _ (Nat.lt_trans f hb)
 rcases n with rfl|rfl
 ·show wpAny _ A.in1 (Builtin.Builtins.bindParams "min" ["key","default"] 0 ⟨[],[]⟩ >>= _) _ _ s;refine u0 (wpAny_of_eq (show Builtin.Builtins.bindParams "min" ["key","default"] 0 ⟨[],[]⟩=pure [none,none] from rfl) ?_);apply u0;apply I0;apply u0;refine U8 x ?_;refine(u0 (T7 ?_));rw[a];exact I0 ⟨plainId_quiet F.plain_min_loop _,g⟩
 ·show wpAny _ A.in1 (Builtin.Builtins.bindParams "min" ["key","default"] 0 ⟨[],[("default",.none)]⟩ >>= _) _ _ s;refine u0 (wpAny_of_eq (show Builtin.Builtins.bindParams "min" ["key","default"] 0 ⟨[],[("default",.none)]⟩=pure [none,some .none] from rfl) ?_);apply u0;apply I0;apply u0;refine U8 x ?_;refine(u0 (T7 ?_));rw[a];exact I0 ⟨plainId_quiet F.plain_min_loop _,g⟩
end
end HT
namespace L2
open PySem PySem.Spec PyProof.Rows
def vD(K:Frag):List V->Hp->VK->Prop:=λxs H Q=>∃(a:Addr)(vs:List V)(ds:List PyData),xs=[.ref a]/\SqL K H a vs/\vs.length=ds.length/\(∀(i:Nat) v d,vs[i]?=some v->ds[i]?=some d->Rep H v d)/\(∀ d∈ds,∀ e∈ds,cmpD d e=true)/\(∀ d∈ds,X0 d=true/\d.depth<=60) /\
 (vs=[]->Q .non H)/\∀ v,vs[argBest (HT.btD ds) (vs.length-1)]?=some v->Q v H
section
variable{X:Cx}{x:Str}{p pos kpos:Pos}{e en:Expr}{t:TA}
theorem nQ(Z:X.A.units+64<cLine)(W:X.calm=true)(J:Gl X "min")(hm:X.mg "min" = none)(ha:PA X [e] t)(y:PE X en (tC .non))
  (b:bootBuiltins "min" = some (.builtin "min"):=by decide +kernel)
  (T:backTo pos (starEach [e] X.env)=(false,eval e X.env)::backTo pos (starEach [] X.env):=by rfl)
  (q:(backTo pos (starEach [e] X.env)).any (·.1)=false:=by rfl) :
  PE X (.Call (.Name "min" p) [e] [⟨some "default",en,kpos⟩] pos) (tCB (vD X.K) t):=by
 intro pins s σ H Q I h;refine wpAny_Call_Name_kw (Y8 I J hm b ?_ (by decide) (by decide));refine PyProof.Rows.callWith_kw (thn (ha pos pins s σ H _ I h) λus s1 ⟨vs,C,P,R,G⟩=>?_) T q;refine thn (cM (nm:=some "default") (kpos:=kpos) y KS pos pins s1 σ C (λB H2=>B=[.non]/\H2=C) P ⟨rfl,rfl⟩) λws s2 ⟨B,H2,j,O,L,M⟩=>?_;subst L M;obtain⟨a,xs,ds,rfl,S,D,m,n,c,x,w⟩:=G;obtain⟨u,rfl,U⟩:=S5 R;cases U;obtain⟨Y,rfl,r⟩:=S5 O;cases r;show wpAny _ X.A (call (.builtin "min") [.ref a] [("default",.none)]) _ _ s2;obtain⟨its,o,E,_⟩:=j.list S;have f:its.length=xs.length:=o.length.symm;refine HT.min_dft (.inr rfl) (us:=its) (ds:=ds) (j.ok.hd W) (by simpa using E.isList) (λi v b=>?_) n (λd hd=>(c d hd).1) (λd hd=>?_) (λN=>⟨rfl,λh' tk kp=>?_⟩) λv h' tk b kp=>?_
 ·have hi:i<xs.length:=by rw[← f];exact(R1.mp b).1
  have ex:xs[i]?=some xs[i]:=z1 hi;have z:ds[i]?=some (ds[i]'(by lia)):=z1 (by lia);obtain⟨u,l,g⟩:=o.get ex;rw[b] at l;cases l;obtain⟨as,F⟩:=(m i _ _ ex z).reads j g;exact⟨_,as,z,F⟩
 ·have:=(c d hd).2;show X.A.units+1+d.depth<cLine;lia
 ·exact⟨.non,H2,j.kept kp,rfl,x (by have:=congrArg List.length N;exact List.length_eq_zero_iff.mp (by rw[← f];simpa using this))⟩
 ·rw[f] at b;have hi:argBest (HT.btD ds) (xs.length-1)<xs.length:=by have:=(R1.mp b).1;lia
  have ex:xs[argBest (HT.btD ds) (xs.length-1)]?=some xs[argBest (HT.btD ds) (xs.length-1)]:=z1 hi;obtain⟨u,l,g⟩:=o.get ex;rw[b] at l;cases l;exact⟨_,H2,j.kept kp,g,w _ ex⟩
end
end L2
namespace HT
open PySem PySem.Spec PyProof.Rows
section
variable{prog:Program}{w:World}{A:Around}{E:Value->Shared->Prop}{s:Shared}
end
end HT
namespace L2
open PySem PySem.Spec PyProof.Rows
section
variable{X:Cx}
end
end L2
namespace VL
open PySem PySem.Spec L2
def kD:Key->PyData
 | .inl i=>.int i
 | .inr x=>.str x
mutual
inductive Rp(G:Hp):V->PyData->Prop
 |non:Rp G .non .none
 |bl (b:Bool):Rp G (.bl b) (.bool b)
 |int (i:Int):Rp G (.int i) (.int i)
 |str (x:Str):Rp G (.str x) (.str x)
 |lst {a:Addr} {xs:List V} {ds:List PyData}:G a=some (.lst xs)->Rps G xs ds->Rp G (.ref a) (.list ds)
 |tup {a:Addr} {xs:List V} {ds:List PyData}:G a=some (.tup xs)->Rps G xs ds->Rp G (.ref a) (.tuple ds)
 |dk {a:Addr} {kvs:List (Key × V)} {es:List (Key × PyData)} {ds:List (PyData × PyData)}:G a=some (.dK kvs)->RpK G kvs es->ds=es.map (λp=>(kD p.1,p.2))->Rp G (.ref a) (.dict ds)
 |dt {a:Addr} {kvs:List (List Key × V)} {es:List (List Key × PyData)} {ds:List (PyData × PyData)}:G a=some (.dT kvs)->RpT G kvs es->ds=es.map (λp=>(.tuple (p.1.map kD),p.2))->Rp G (.ref a) (.dict ds)
inductive Rps(G:Hp):List V->List PyData->Prop
 |nil:Rps G [] []
 |cons {v:V} {vs:List V} {d:PyData} {ds:List PyData}:Rp G v d->Rps G vs ds->Rps G (v::vs) (d::ds)
inductive RpK(G:Hp):List (Key × V)->List (Key × PyData)->Prop
 |nil:RpK G [] []
 |cons {k:Key} {v:V} {d:PyData} {r:List (Key × V)} {s:List (Key × PyData)}:Rp G v d->RpK G r s->RpK G ((k,v)::r) ((k,d)::s)
inductive RpT(G:Hp):List (List Key × V)->List (List Key × PyData)->Prop
 |nil:RpT G [] []
 |cons {k:List Key} {v:V} {d:PyData} {r:List (List Key × V)} {s:List (List Key × PyData)}:Rp G v d->RpT G r s->RpT G ((k,v)::r) ((k,d)::s)
end
mutual
theorem Rp.same(s:Same G G'):∀{v:V}{d:PyData},Rp G v d->Rp G' v d
 |_,_,.non=>.non
 |_,_,.bl b=>.bl b
 |_,_,.int i=>.int i
 |_,_,.str x=>.str x
 |_,_,.lst h r=>.lst (s _ _ h) (Rps.same s r)
 |_,_,.tup h r=>.tup (s _ _ h) (Rps.same s r)
 |_,_,.dk h r e=>.dk (s _ _ h) (RpK.same s r) e
 |_,_,.dt h r e=>.dt (s _ _ h) (RpT.same s r) e
theorem Rps.same(s:Same G G'):∀{vs:List V}{ds:List PyData},Rps G vs ds->Rps G' vs ds
 |_,_,.nil=>.nil
 |_,_,.cons r t=>.cons (Rp.same s r) (Rps.same s t)
theorem RpK.same(s:Same G G'):∀{vs:List (Key × V)}{ds:List (Key × PyData)},RpK G vs ds->RpK G' vs ds
 |_,_,.nil=>.nil
 |_,_,.cons r t=>.cons (Rp.same s r) (RpK.same s t)
theorem RpT.same(s:Same G G'):∀{vs:List (List Key × V)}{ds:List (List Key × PyData)},RpT G vs ds->RpT G' vs ds
 |_,_,.nil=>.nil
 |_,_,.cons r t=>.cons (Rp.same s r) (RpT.same s t)
end
theorem Rps.length:∀{vs:List V}{ds:List PyData},Rps G vs ds->vs.length=ds.length
 |_,_,.nil=>rfl
 |_,_,.cons _ t=>by simp[Rps.length t]
theorem Rps.get:∀{vs:List V}{ds:List PyData}{i:Nat}{d:PyData},Rps G vs ds->ds[i]?=some d->∃ v,vs[i]?=some v/\Rp G v d
 |_,_,_,_,.nil,e=>by simp at e
 |_,_,0,_,.cons r _,e=>by simp at e;subst e;exact⟨_,rfl,r⟩
 | _,_,i+1,d,.cons _ t,e=>by
  obtain⟨u,a,b⟩:=Rps.get (i:=i) (d:=d) t (by simpa using e);exact⟨u,by simpa using a,b⟩
theorem Rps.append:∀{vs ws:List V}{ds es:List PyData},Rps G vs ds->Rps G ws es->Rps G (vs++ws) (ds++es)
 |_,_,_,_,.nil,s=>s
 |_,_,_,_,.cons r t,s=>.cons r (Rps.append t s)
theorem Rps.set(h:Rp G v d):∀{vs:List V}{ds:List PyData}(i:Nat),Rps G vs ds->Rps G (vs.set i v) (ds.set i d)
 |_,_,_,.nil=>.nil
 |_,_,0,.cons _ t=>.cons h t
 |_,_,i+1,.cons r t=>.cons r (Rps.set h i t)
theorem Rps.rep(h:Rps G vs ds):∀(k:Nat),Rps G (List.replicate k vs).flatten (List.replicate k ds).flatten
 |0=>.nil
 | k+1=>by
  rw[Y6,Y6,List.flatten_cons,List.flatten_cons];exact h.append (Rps.rep h k)
theorem Rps.ints:∀(ns:List Int),Rps G (ns.map V.int) (ns.map PyData.int)
 |[]=>.nil
 |n::ns=>.cons (.int n) (Rps.ints ns)
theorem Rps.ints_inv:∀{ns:List Int}{vs:List V},Rps G vs (ns.map PyData.int)->vs=ns.map V.int
 |[],_,.nil=>rfl
 | n::ns,_,.cons r t=>by
  cases r;rw[Rps.ints_inv t];rfl
mutual
theorem Rp.rep:∀{v:V}{d:PyData},Rp G v d->X0 d=true->Rep G v d
 |_,_,.non,_=>.non
 |_,_,.bl b,_=>.bl b
 |_,_,.int i,_=>.int i
 |_,_,.str x,_=>.str x
 |_,_,.lst h r,p=>.lst h (Rps.reps r (by simpa[X0] using p))
 |_,_,.tup h r,p=>.tup h (Rps.reps r (by simpa[X0] using p))
 |_,_,.dk h r e,p=>by simp[X0] at p
 |_,_,.dt h r e,p=>by simp[X0] at p
theorem Rps.reps:∀{vs:List V}{ds:List PyData},Rps G vs ds->plainDs ds=true->Reps G vs ds
 |_,_,.nil,_=>.nil
 | _,_,.cons r t,p=>by
  simp only[plainDs,N4] at p;exact .cons (Rp.rep r p.1) (Rps.reps t p.2)
end
structure Own where
 P:Hp->Hp->V->(Addr->Prop)->Prop
 mono:∀{G H G' H':Hp}{v:V}{F:Addr->Prop},P G H v F->Same G G'->(∀ a o,F a->H a=some o->H' a=some o)->P G' H' v F
 dom:∀{G H:Hp}{v:V}{F:Addr->Prop},P G H v F->∀ a,F a->∃ o,H a=some o
inductive Sl where
 |st (d:PyData)|own (A:Own)|io (A:Own)|scr (ns:List Int)
abbrev En:=List (Option Sl)
structure Bs where
 K:Frag
 G:Hp
 H:Hp
 R:Hp
 S:St
 F:Nat->Addr->Prop
def SlOk(B:Bs)(G H:Hp)(i:Nat)(v:V)(F:Addr->Prop):Sl->Prop
 | .st d=>Rp G v d/\∀ a,¬ F a
 | .own A=>A.P G H v F/\∀ a,F a->B.H a=none
 | .io A=>A.P G H v F/\(∀ a,F a->B.F i a\/B.H a=none)/\B.S[i]?=some (some v)
 | .scr ns=>(∃ a,v=.ref a/\SqL B.K G a (ns.map V.int))/\∀ a,¬ F a
def FT(G H:Hp):Prop:=∀(a:Addr)(ks:List Key),H a=some (.tup (ks.map kV))->G a=some (.tup (ks.map kV))
structure VI(B:Bs)(G H:Hp)(σ:St)(env:En)(F:Nat->Addr->Prop):Prop where
 gh:Same G H
 g0:Same B.G G
 gn:∀ a o,G a=some o->B.G a=some o\/B.H a=none
 rs:Same B.R H
 rb:Same B.R B.H
 bh:∀ a o,B.H a=some o->∃ o',H a=some o'
 fg:∀ i a,F i a->G a=none
 fr:∀ i a,F i a->B.R a=none
 fd:∀ i j a,F i a->F j a->i=j
 fo:∀ i a,F i a->∃ o,H a=some o
 sl:∀ i s,env[i]?=some (some s)->∃ v,σ[i]?=some (some v)/\SlOk B G H i v (F i) s
 ln : σ.length=env.length
 ft:FT G H
def RsOk(G H:Hp)(v:V)(F:Addr->Prop):Sl->Prop
 | .st d=>Rp G v d/\∀ a,¬ F a
 | .own A=>A.P G H v F
 |_=>False
structure RsX(B:Bs)(G H:Hp)(v:V)(Fv:Addr->Prop)(s:Sl)(F:Nat->Addr->Prop):Prop where
 ok:RsOk G H v Fv s
 fb:∀ a,Fv a->B.H a=none
 fg:∀ a,Fv a->G a=none
 fo:∀ a,Fv a->∃ o,H a=some o
 fd:∀ j a,Fv a->¬ F j a
structure Out(G H:Hp)(v:V)(G' H':Hp)(s:Sl)(Fv:Addr->Prop):Prop where
 gg:Same G G'
 gh:Same G' H'
 hh:Same H H'
 gn:∀ a o,G' a=some o->G a=some o\/H a=none
 fn:∀ a,Fv a->H a=none
 fg:∀ a,Fv a->G' a=none
 fo:∀ a,Fv a->∃ o,H' a=some o
 ok:RsOk G' H' v Fv s
 ft:FT G H->FT G' H'
theorem KP{α:Type}{o:Option α}(h:o ≠ none):∃ x,o=some x:=by
 cases o with
 |none=>exact absurd rfl h
 |some x=>exact⟨x,rfl⟩
theorem SlOk.mono(h:SlOk B G H i v F s)(g:Same G G')(hh:∀ a o,F a->H a=some o->H' a=some o):SlOk B G' H' i v F s:=by
 cases s with
 |st d=>exact⟨h.1.same g,h.2⟩
 |own A=>exact⟨A.mono h.1 g hh,h.2⟩
 |io A=>exact⟨A.mono h.1 g hh,h.2⟩
 | scr ns =>
  obtain⟨⟨a,e,q⟩,n⟩:=h;exact⟨⟨a,e,g.seq q⟩,n⟩
section
variable{B:Bs}{G H G' H':Hp}{σ:St}{env:En}{F:Nat->Addr->Prop}{v:V}{s:Sl}{Fv:Addr->Prop}
theorem VI.no_r(I:VI B G H σ env F)(h:H a=none):B.R a=none:=by
 cases e:B.R a with
 |none=>rfl
 |some o=>rw[I.rs a o e] at h;cases h
theorem VI.no_b(I:VI B G H σ env F)(h:H a=none):B.H a=none:=by
 cases e:B.H a with
 |none=>rfl
 |some o=>obtain⟨o',b⟩:=I.bh a o e;rw[b] at h;cases h
theorem VI.no_g(I:VI B G H σ env F)(h:H a=none):G a=none:=by
 cases e:G a with
 |none=>rfl
 |some o=>rw[I.gh a o e] at h;cases h
theorem VI.no_f(I:VI B G H σ env F)(h:H a=none)(i:Nat):¬ F i a:=λz=>by
 obtain⟨o,e⟩:=I.fo i a z;rw[e] at h;cases h
theorem VI.grow(I:VI B G H σ env F)(gg:Same G G')(gh:Same G' H')(hh:Same H H')(gn:∀ a o,G' a=some o->G a=some o\/H a=none)(ft:FT G' H'):VI B G' H' σ env F where
 gh:=gh
 g0:=I.g0.trans gg
 gn:=λa o e=>by
  rcases gn a o e with e|e
  ·exact I.gn a o e
  ·exact .inr (I.no_b e)
 rs:=I.rs.trans hh
 rb:=I.rb
 bh:=λa o e=>by obtain⟨o',c⟩:=I.bh a o e;exact⟨o',hh _ _ c⟩
 fg:=λi a z=>by
  cases e:G' a with
  |none=>rfl
  | some o =>
   rcases gn a o e with e|e
   ·rw[I.fg i a z] at e;cases e
   ·exact absurd z (I.no_f e i)
 fr:=I.fr
 fd:=I.fd
 fo:=λi a z=>by obtain⟨o,e⟩:=I.fo i a z;exact⟨o,hh _ _ e⟩
 sl:=λi s e=>by
  obtain⟨v,d,b⟩:=I.sl i s e;exact⟨v,d,b.mono gg λa o _ q=>hh _ _ q⟩
 ln:=I.ln
 ft:=ft
theorem VI.out(I:VI B G H σ env F)(o:Out G H v G' H' s Fv):VI B G' H' σ env F/\RsX B G' H' v Fv s F :=
 ⟨I.grow o.gg o.gh o.hh o.gn (o.ft I.ft),o.ok,λa z=>I.no_b (o.fn a z),o.fg,o.fo,λj a z y=>I.no_f (o.fn a z) j y⟩
theorem VI.b_r(I:VI B G H σ env F)(h:B.H a=none):B.R a=none:=by
 cases e:B.R a with
 |none=>rfl
 |some o=>rw[I.rb a o e] at h;cases h
def putF(F:Nat->Addr->Prop)(i:Nat)(Fv:Addr->Prop):Nat->Addr->Prop:=λj a=>if j=i then Fv a else F j a
theorem putF_same:putF F i Fv i a ↔ Fv a:=by unfold putF;rw[z0 rfl]
theorem bB:putF F i Fv i=Fv:=by funext a;unfold putF;rw[z0 rfl]
theorem S3(h:j ≠ i):putF F i Fv j=F j:=by funext a;unfold putF;rw[y0 h]
theorem VI.slot(I:VI B G H σ env F)(i:Nat)(o:Option V)(os:Option Sl)(fg:∀ a,Fv a->G a=none)(fr:∀ a,Fv a->B.R a=none)(fo:∀ a,Fv a->∃ o,H a=some o)(fd:∀ j a,j ≠ i->Fv a->¬ F j a)
  (ok:∀ s,os=some s->∃ v,o=some v/\SlOk B G H i v Fv s):VI B G H (σ.set i o) (env.set i os) (putF F i Fv) where
 gh:=I.gh
 g0:=I.g0
 gn:=I.gn
 rs:=I.rs
 rb:=I.rb
 bh:=I.bh
 fg:=λj a z=>by
  by_cases h:j=i
  ·subst h;exact fg a (putF_same.mp z)
  ·rw[S3 h] at z;exact I.fg j a z
 fr:=λj a z=>by
  by_cases h:j=i
  ·subst h;exact fr a (putF_same.mp z)
  ·rw[S3 h] at z;exact I.fr j a z
 fd:=λj k a y z=>by
  by_cases h:j=i
  ·by_cases g:k=i
   ·rw[h,g]
   ·subst h;rw[S3 g] at z;exact absurd z (fd k a g (putF_same.mp y))
  ·by_cases g:k=i
   ·subst g;rw[S3 h] at y;exact absurd y (fd j a h (putF_same.mp z))
   ·rw[S3 h] at y;rw[S3 g] at z;exact I.fd j k a y z
 fo:=λj a z=>by
  by_cases h:j=i
  ·subst h;exact fo a (putF_same.mp z)
  ·rw[S3 h] at z;exact I.fo j a z
 sl:=λj t e=>by
  by_cases h:j=i
  ·subst h;rw[o5,z0 rfl] at e;by_cases hl:j<env.length
   ·rw[z0 hl] at e;obtain⟨v,b,q⟩:=ok t (W3 e);refine⟨v,by rw[o5,z0 rfl,z0 (by rw[I.ln];exact hl),b],?_⟩;rw[bB];exact q
   ·rw[y0 hl] at e;cases e
  ·rw[o5,y0 (λz=>h z.symm)] at e;obtain⟨v,b,q⟩:=I.sl j t e;refine⟨v,by rw[o5,y0 (λz=>h z.symm)];exact b,?_⟩;rw[S3 h];exact q
 ln:=by simp[I.ln]
 ft:=I.ft
theorem VI.store(I:VI B G H σ env F)(r:RsX B G H v Fv s F)(i:Nat):VI B G H (σ.set i (some v)) (env.set i (some s)) (putF F i Fv):=by
 refine I.slot i (some v) (some s) r.fg (λa z=>I.b_r (r.fb a z)) r.fo (λj a _ z=>r.fd j a z) λt e=>?_;cases e;refine⟨v,rfl,?_⟩;have:=r.ok;cases s with
 |st d=>exact this
 |own A=>exact⟨this,r.fb⟩
 |io A=>exact this.elim
 |scr ns=>exact this.elim
theorem VI.drop(I:VI B G H σ env F)(i:Nat):VI B G H σ (env.set i none) (putF F i λ_=>False):=by
 have:=I.slot (Fv:=λ_=>False) i ((σ[i]?).getD none) none (λa z=>z.elim) (λa z=>z.elim) (λa z=>z.elim) (λj a _ z=>z.elim) (λs e=>by cases e)
 rwa [show σ.set i ((σ[i]?).getD none) = σ from ?_] at this
 apply y6;intro j;rw[o5];by_cases h:i=j
 ·subst h;rw[z0 rfl];by_cases hl:i<σ.length
  ·rw[z0 hl,z1 hl];rfl
  ·rw[y0 hl,F7.mpr (by lia)]
 ·rw[y0 h]
theorem VI.change{A:Own}(I:VI B G H σ env F)(i:Nat){H2:Hp}{F2:Addr->Prop}{os os':Sl}(e:env[i]?=some (some os))(g : σ[i]?=some (some v))
  (keep:∀ a o,¬ F i a->H a=some o->H2 a=some o) (l:∀ a o,H a=some o->∃ o',H2 a=some o') (c:∀ a,F2 a->(F i a\/H a=none)/\∃ o,H2 a=some o) (p:A.P G H2 v F2) (L:FT G H2)
  (hs:(os'=.own A/\∃ f,os=.own f)\/(os'=.io A/\∃ f,os=.io f)):VI B G H2 σ (env.set i (some os')) (putF F i F2):=by
 obtain⟨Q,d,q⟩:=I.sl i os e;rw[g] at d;cases d;have n:∀ j a,j ≠ i->F j a->¬ F i a:=λj a b y z=>b (I.fd j i a y z);have N:∀ a,F2 a->G a=none:=λa z=>by
  rcases(c a z).1 with y|y
  ·exact I.fg i a y
  ·exact I.no_g y
 have J:VI B G H2 σ (env.set i none) (putF F i λ_=>False):=by
  have D:=I.drop i;refine⟨λa o x=>keep a o (λz=>by rw[I.fg i a z] at x;cases x) (I.gh a o x),D.g0,D.gn,λa o x=>keep a o (λz=>by rw[I.fr i a z] at x;cases x) (I.rs a o x),D.rb,λa o x=>?_,D.fg,D.fr,D.fd,λj a z=>?_,λj s x=>?_,D.ln,L⟩
  ·obtain⟨o',w⟩:=I.bh a o x;exact l a o' w
  ·obtain⟨o,x⟩:=D.fo j a z;exact l a o x
  ·obtain⟨u,K,E⟩:=D.sl j s x;refine⟨u,K,E.mono (Same.refl G) λa o z y=>?_⟩;by_cases b:j=i
   ·subst b;exact(putF_same.mp z).elim
   ·rw[S3 b] at z;exact keep a o (n j a b z) y
 have m:=J.slot (Fv:=F2) i (some v) (some os') N (λa z=>by
   rcases(c a z).1 with y|y
   ·exact I.fr i a y
   ·exact I.no_r y) (λa z=>(c a z).2) (λj a b z y=>by
   rw[S3 b] at y;rcases(c a z).1 with x|x
   ·exact n j a b y x
   ·exact I.no_f x j y) λt r=>by
   cases r;refine⟨v,rfl,?_⟩;rcases hs with ⟨rfl,f,rfl⟩|⟨rfl,f,rfl⟩
   ·refine⟨p,λa z=>?_⟩;rcases(c a z).1 with y|y
    ·exact q.2 a y
    ·exact I.no_b y
   ·refine⟨p,λa z=>?_,q.2.2⟩;rcases(c a z).1 with y|y
    ·exact q.2.1 a y
    ·exact .inr (I.no_b y)
 have O : σ.set i (some v) = σ:=by
  apply y6;intro j;rw[o5];by_cases h:i=j
  ·subst h;rw[z0 rfl,g,z0 (R1.mp g).1]
  ·rw[y0 h]
 have M:(env.set i none).set i (some os')=env.set i (some os'):=by simp
 have C:putF (putF F i λ_=>False) i F2=putF F i F2:=by
  funext j a
  by_cases h:j=i
  ·subst h;rw[bB,bB]
  ·rw[S3 h,S3 h,S3 h]
 rw[O,M,C] at m;exact m
end
open Classical in
def jn(G H:Hp)(F:Addr->Prop):Hp:=λa=>if F a then H a else G a
theorem L6(h:F a):jn G H F a=H a:=z0 h
theorem DB(h:¬ F a):jn G H F a=G a:=y0 h
theorem m4(h:∀ a,F a->G a=none):Same G (jn G H F):=λa o e=>by
 rw[DB (λz=>by rw[h a z] at e;cases e)];exact e
theorem R9(h:Same G H):Same (jn G H F) H:=λa o e=>by
 by_cases z:F a
 ·rw[L6 z] at e;exact e
 ·rw[DB z] at e;exact h a o e
def Frz(A:Own)(d:PyData):Prop:=∀(G H:Hp)(v:V)(F:Addr->Prop),A.P G H v F->(∀ a,F a->G a=none)->Same G H->Rp (jn G H F) v d
def FQ:Sl->(PyData->Prop)->Prop
 | .st d,R=>R d
 | .own A,R=>∃ d,Frz A d/\R d
 |_,_=>False
def OL(ds:List PyData):Own where
 P:=λG H v F=>∃ a vs,v=.ref a/\H a=some (.lst vs)/\Rps G vs ds/\∀ b,F b ↔ b=a
 mono:=λ⟨a,vs,e,h,r,f⟩ g hh=>⟨a,vs,e,hh a _ ((f a).mpr rfl) h,r.same g,f⟩
 dom:=λ⟨a,vs,e,h,r,f⟩ b z=>by rw[(f b).mp z];exact⟨_,h⟩
def OD(es:List (Key × PyData)):Own where
 P:=λG H v F=>∃ a kvs,v=.ref a/\H a=some (.dK kvs)/\RpK G kvs es/\∀ b,F b ↔ b=a
 mono:=λ⟨a,vs,e,h,r,f⟩ g hh=>⟨a,vs,e,hh a _ ((f a).mpr rfl) h,r.same g,f⟩
 dom:=λ⟨a,vs,e,h,r,f⟩ b z=>by rw[(f b).mp z];exact⟨_,h⟩
theorem L4:Frz (OL ds) (.list ds):=λG H v F ⟨a,vs,e,h,r,f⟩ n g=>by
 subst e;exact .lst (by rw[L6 ((f a).mpr rfl)];exact h) (r.same (m4 n))
theorem cG:Frz (OD es) (.dict (es.map λp=>(kD p.1,p.2))):=λG H v F ⟨a,vs,e,h,r,f⟩ n g=>by
 subst e;exact .dk (by rw[L6 ((f a).mpr rfl)];exact h) (r.same (m4 n)) rfl
theorem WF(h:R d):FQ (.st d) R:=h
theorem k6(h:R (.list ds)):FQ (.own (OL ds)) R:=⟨_,L4,h⟩
theorem AF(h:R (.dict (es.map λp=>(kD p.1,p.2)))):FQ (.own (OD es)) R:=⟨_,cG,h⟩
section
variable{B:Bs}{G H G' H':Hp}{σ:St}{env:En}{F:Nat->Addr->Prop}{v:V}{s:Sl}{Fv:Addr->Prop}
theorem VI.freeze(I:VI B G H σ env F)(fb:∀ a,Fv a->B.H a=none)(fd:∀ j a,Fv a->¬ F j a)(fg:∀ a,Fv a->G a=none):VI B (jn G H Fv) H σ env F where
 gh:=R9 I.gh
 g0:=I.g0.trans (m4 fg)
 gn:=λa o e=>by
  by_cases z:Fv a
  ·exact .inr (fb a z)
  ·rw[DB z] at e;exact I.gn a o e
 rs:=I.rs
 rb:=I.rb
 bh:=I.bh
 fg:=λi a z=>by
  rw[DB (λy=>fd i a y z)];exact I.fg i a z
 fr:=I.fr
 fd:=I.fd
 fo:=I.fo
 sl:=λi s e=>by
  obtain⟨v,d,b⟩:=I.sl i s e;exact⟨v,d,b.mono (m4 fg) λa o _ q=>q⟩
 ln:=I.ln
 ft:=λa c e=>m4 fg _ _ (I.ft a c e)
theorem VI.frz{A:Own}{d:PyData}{i:Nat}(I:VI B G H σ env F)(e:env[i]?=some (some (.own A)))(f:Frz A d) :
  ∃ v,σ[i]?=some (some v)/\Rp (jn G H (F i)) v d/\Same G (jn G H (F i))/\VI B (jn G H (F i)) H σ (env.set i (some (.st d))) (putF F i λ_=>False):=by
 obtain⟨v,b,q⟩:=I.sl i _ e;have c:=f G H v (F i) q.1 (I.fg i) I.gh;refine⟨v,b,c,m4 (I.fg i),?_⟩;have D:=(I.drop i).freeze (Fv:=F i) q.2 (λj a z y=>by
  by_cases h:j=i
  ·subst h;exact(putF_same.mp y).elim
  ·rw[S3 h] at y;exact h (I.fd j i a y z)) (I.fg i)
 have J:=D.slot (Fv:=λ_=>False) i (some v) (some (.st d)) (λa z=>z.elim) (λa z=>z.elim) (λa z=>z.elim) (λj a _ z=>z.elim) (λt g=>by cases g;exact⟨v,rfl,c,λa z=>z⟩);have m : σ.set i (some v) = σ:=by
  apply y6;intro j;rw[o5];by_cases h:i=j
  ·subst h;rw[z0 rfl,b,z0 (R1.mp b).1]
  ·rw[y0 h]
 have l:putF (putF F i λ_=>False) i (λ_=>False)=putF F i λ_=>False:=by
  funext j a
  by_cases h:j=i
  ·subst h;rw[bB,bB]
  ·rw[S3 h,S3 h]
 rw[m,l,List.set_set] at J;exact J
theorem Out.refl(g:Same G H)(r:Rp G v d):Out G H v G H (.st d) (λ_=>False):=⟨Same.refl _,g,Same.refl _,λa o e=>.inl e,λa z=>z.elim,λa z=>z.elim,λa z=>z.elim,⟨r,λa z=>z⟩,λt=>t⟩
theorem yR(g:Same G H)(h:H p=none):Same (upd G p o) (upd H p o):=λa u e=>by
 by_cases z:a=p
 ·subst z;rw[S0] at e ⊢;exact e
 ·rw[G0 z] at e ⊢;exact g a u e
theorem l9(g:Same G H)(h:H p=none):G p=none:=by
 cases e:G p with
 |none=>rfl
 |some o=>rw[g p o e] at h;cases h
theorem Out.newT{p:Addr}{xs:List V}{ds:List PyData}(g:Same G H)(h:H p=none)(r:Rps G xs ds):Out G H (.ref p) (upd G p (.tup xs)) (upd H p (.tup xs)) (.st (.tuple ds)) (λ_=>False) where
 gg:=p6 (l9 g h)
 gh:=yR g h
 hh:=p6 h
 gn:=λa o e=>by
  by_cases z:a=p
  ·subst z;exact .inr h
  ·rw[G0 z] at e;exact .inl e
 fn:=λa z=>z.elim
 fg:=λa z=>z.elim
 fo:=λa z=>z.elim
 ok:=⟨.tup S0 (r.same (p6 (l9 g h))),λa z=>z⟩
 ft:=λt a b e=>by
  by_cases z:a=p
  ·subst z;rw[S0] at e ⊢;exact e
  ·rw[G0 z] at e ⊢;exact t a b e
theorem Out.newO{p:Addr}{o:HO}{A:Own}(g:Same G H)(h:H p=none)(b:∀ xs,o ≠ .tup xs)(r:A.P G (upd H p o) (.ref p) (· = p)):Out G H (.ref p) G (upd H p o) (.own A) (· = p) where
 gg:=Same.refl _
 gh:=g.trans (p6 h)
 hh:=p6 h
 gn:=λa o e=>.inl e
 fn:=λa z=>by rw[z];exact h
 fg:=λa z=>by rw[z];exact l9 g h
 fo:=λa z=>by rw[z];exact⟨_,S0⟩
 ok:=r
 ft:=λt a c e=>by
  by_cases z:a=p
  ·subst z;rw[S0] at e;exact absurd (W3 e) (b _)
  ·rw[G0 z] at e;exact t a c e
theorem Out.newL(g:Same G H)(h:H p=none)(r:Rps G xs ds):Out G H (.ref p) G (upd H p (.lst xs)) (.own (OL ds)) (· = p) :=
 .newO g h (λ_ z=>nomatch z) ⟨p,xs,rfl,S0,r,λb=>Iff.rfl⟩
theorem Out.newD(g:Same G H)(h:H p=none)(r:RpK G xs ds):Out G H (.ref p) G (upd H p (.dK xs)) (.own (OD ds)) (· = p) :=
 .newO g h (λ_ z=>nomatch z) ⟨p,xs,rfl,S0,r,λb=>Iff.rfl⟩
end
def EvO(B:Bs)(te:TE)(env:En)(Q':Sl->En->Prop):Prop:=∀(σ:St)(G H:Hp)(F:Nat->Addr->Prop)(Q:VK),VI B G H σ env F ->
 (∀ v G' H' F' Fv s env',VI B G' H' σ env' F'->Same G G'->RsX B G' H' v Fv s F'->Q' s env'->Q v H')->te σ H Q
def Ev(B:Bs)(te:TE)(env:En)(Q':PyData->En->Prop):Prop:=∀(σ:St)(G H:Hp)(F:Nat->Addr->Prop)(Q:VK),VI B G H σ env F ->
 (∀ v G' H' F' d env',VI B G' H' σ env' F'->Same G G'->Rp G' v d->Q' d env'->Q v H')->te σ H Q
def EvT(B:Bs)(tt:TT)(env:En)(Q':Bool->En->Prop):Prop:=∀(σ:St)(G H:Hp)(F:Nat->Addr->Prop)(Q:Bool->Hp->Prop),VI B G H σ env F ->
 (∀ b G' H' F' env',VI B G' H' σ env' F'->Same G G'->Q' b env'->Q b H')->tt σ H Q
def EvA(B:Bs)(ta:TA)(env:En)(Q':List PyData->En->Prop):Prop:=∀(σ:St)(G H:Hp)(F:Nat->Addr->Prop)(Q:List V->Hp->Prop),VI B G H σ env F ->
 (∀ vs G' H' F' ds env',VI B G' H' σ env' F'->Same G G'->Rps G' vs ds->Q' ds env'->Q vs H')->ta σ H Q
structure ItOk(G:Hp)(J:It)(ds:List PyData):Prop where
 go:∀ i G' H',Same G G'->Same G' H'->i<ds.length->J.go i H'
 stop:∀ i G' H',Same G G'->Same G' H'->i=ds.length->J.stop i H'
 yld:∀ i G' H' x H'' d,Same G G'->Same G' H'->FT G' H'->ds[i]?=some d->J.yld i H' x H''->∃ G'',Out G' H' x G'' H'' (.st d) (λ_=>False)
def EvI(B:Bs)(ti:TI)(env:En)(Q':List PyData->En->Prop):Prop:=∀(σ:St)(G H:Hp)(F:Nat->Addr->Prop)(R:It->Hp->Prop),VI B G H σ env F ->
 (∀ J G' H' F' ds env',VI B G' H' σ env' F'->Same G G'->ItOk G' J ds->Q' ds env'->R J H')->ti σ H R
def EvG(B:Bs)(g:TG)(s:Sl)(env:En)(Q':En->Prop):Prop:=∀(σ:St)(G H:Hp)(F:Nat->Addr->Prop)(v:V)(Fv:Addr->Prop)(Q:St->Hp->Prop),VI B G H σ env F->RsX B G H v Fv s F ->
 (∀ σ' G' H' F' env',VI B G' H' σ' env' F'->Same G G'->Q' env'->Q σ' H')->g v σ H Q
def EvGs(B:Bs)(g:TGs)(ds:List PyData)(env:En)(Q':En->Prop):Prop:=∀(σ:St)(G H:Hp)(F:Nat->Addr->Prop)(vs:List V)(Q:St->Hp->Prop),VI B G H σ env F->Rps G vs ds ->
 (∀ σ' G' H' F' env',VI B G' H' σ' env' F'->Same G G'->Q' env'->Q σ' H')->g vs σ H Q
structure VEnds where
 nx:En->Prop
 rt:Sl->En->Prop
 bk:En->Prop:=λ_=>False
 ct:En->Prop:=λ_=>False
structure RelE(B:Bs)(G:Hp)(D:Ends)(D':VEnds):Prop where
 nx:∀ σ G' H F env,VI B G' H σ env F->Same G G'->D'.nx env->D.nx σ H
 rt:∀ σ G' H F env v Fv s,VI B G' H σ env F->Same G G'->RsX B G' H v Fv s F->D'.rt s env->D.rt v H
 bk:∀ σ G' H F env,VI B G' H σ env F->Same G G'->D'.bk env->D.bk σ H
 ct:∀ σ G' H F env,VI B G' H σ env F->Same G G'->D'.ct env->D.ct σ H
def EvS(B:Bs)(ts:TS)(D':VEnds)(env:En):Prop:=∀(σ:St)(G H:Hp)(F:Nat->Addr->Prop)(D:Ends),VI B G H σ env F->RelE B G D D'->ts D σ H
theorem RelE.later(r:RelE B G D D')(g:Same G G'):RelE B G' D D' :=
 ⟨λσ a H F env I q=>r.nx σ a H F env I (g.trans q),λσ a H F env v Fv s I q=>r.rt σ a H F env v Fv s I (g.trans q),λσ a H F env I q=>r.bk σ a H F env I (g.trans q),λσ a H F env I q=>r.ct σ a H F env I (g.trans q)⟩
section
variable{B:Bs}{env:En}{Q':PyData->En->Prop}{QO:Sl->En->Prop}{QT:Bool->En->Prop}{QA:List PyData->En->Prop}{te ta tb:TE}
theorem R5(r:Rp G v d):RsX B G H v (λ_=>False) (.st d) F:=⟨⟨r,λa z=>z⟩,λa z=>z.elim,λa z=>z.elim,λa z=>z.elim,λj a z=>z.elim⟩
theorem K3(h:Ev B te env λd e=>QO (.st d) e):EvO B te env QO:=λσ G H F Q I k =>
 h σ G H F Q I λv G' H' F' d a b g r q=>k v G' H' F' _ (.st d) a b g (R5 r) q
theorem P5(h:EvO B te env λs e=>FQ s λd=>Q' d e):Ev B te env Q':=λσ G H F Q I k =>
 h σ G H F Q I λv G' H' F' Fv s a b g r q=>by
  cases s with
  |st d=>exact k v G' H' F' d a b g r.ok.1 q
  | own A =>
   obtain⟨d,f,q⟩:=q;exact k v _ H' F' d a (b.freeze r.fb r.fd r.fg) (g.trans (m4 r.fg)) (f G' H' v Fv r.ok r.fg b.gh) q
  |io A=>exact q.elim
  |scr ns=>exact q.elim
theorem MF(e:env[i]?=some (some (.st d)))(q:Q' d env):Ev B (tVar i) env Q':=λσ G H F Q I k=>by
 obtain⟨v,a,r⟩:=I.sl i _ e;exact⟨v,a,k v G H F d env I (Same.refl _) r.1 q⟩
theorem PO(e:env[i]?=some (some (.own A)))(f:Frz A d)(q:Q' d (env.set i (some (.st d)))):Ev B (tVar i) env Q':=λσ G H F Q I k=>by
 obtain⟨v,a,r,g,J⟩:=I.frz e f;exact⟨v,a,k v _ H _ d _ J g r q⟩
theorem uK(e:env[i]?=some (some (.own A)))(q:QO (.own A) (env.set i none)):EvO B (tVar i) env QO:=λσ G H F Q I k=>by
 obtain⟨v,b,r⟩:=I.sl i _ e;refine⟨v,b,k v G H _ (F i) (.own A) _ (I.drop i) (Same.refl _) ⟨r.1,r.2,I.fg i,I.fo i,λj a z y=>?_⟩ q⟩;by_cases h:j=i
 ·subst h;exact putF_same.mp y
 ·rw[S3 h] at y;exact h (I.fd j i a y z)
theorem lM(q:Q' (.int i) env):Ev B (tC (.int i)) env Q':=λσ G H F Q I k=>k _ G H F _ env I (Same.refl _) (.int i) q
theorem kM(q:Q' (.bool b) env):Ev B (tC (.bl b)) env Q':=λσ G H F Q I k=>k _ G H F _ env I (Same.refl _) (.bl b) q
theorem aJ(q:Q' .none env):Ev B (tC .non) env Q':=λσ G H F Q I k=>k _ G H F _ env I (Same.refl _) .non q
theorem DR(q:Q' (.str x) env):Ev B (tC (.str x)) env Q':=λσ G H F Q I k=>k _ G H F _ env I (Same.refl _) (.str x) q
def Op2(r:R2)(x y:PyData)(R:Sl->Prop):Prop:=∀(G H:Hp)(vx vy:V)(Q:VK),Same G H->Rp G vx x->Rp G vy y->(∀ v G' H' s Fv,Out G H v G' H' s Fv->R s->Q v H')->r vx vy H Q
def OpA(r:List V->Hp->VK->Prop)(ds:List PyData)(R:Sl->Prop):Prop:=∀(G H:Hp)(vs:List V)(Q:VK),Same G H->Rps G vs ds->(∀ v G' H' s Fv,Out G H v G' H' s Fv->R s->Q v H')->r vs H Q
theorem iE(h:Ev B ta env λx d=>Ev B tb d λy a=>Op2 r x y λs=>QO s a):EvO B (tOp r ta tb) env QO:=λσ G H F Q I k =>
 h σ G H F _ I λj i w z x d p t q f=>f σ i w z _ p λg A H2 F2 y a b c m u =>
  u A H2 j g Q b.gh (q.same c) m λv l H3 s Fv o n=>k v l H3 F2 Fv s a (b.out o).1 (t.trans (c.trans o.gg)) (b.out o).2 n
theorem YT(h:Ev B ta env λx b=>Ev B tb b λy a=>Op2 r x y λs=>FQ s λd=>Q' d a):Ev B (tOp r ta tb) env Q':=P5 (iE h)
theorem uI(q:QA [] env):EvA B tNil env QA:=λσ G H F Q I k=>k [] G H F [] env I (Same.refl _) .nil q
theorem vL(h:Ev B ta env λx c=>EvA B tr c λxs a=>QA (x::xs) a):EvA B (M2 ta tr) env QA:=λσ G H F Q I k =>
 h σ G H F _ I λr f n o x c i l j d=>d σ f n o _ i λvs p H2 F2 ds a q b g m=>k _ p H2 F2 _ a q (l.trans b) (.cons (j.same b) g) m
theorem XQ(h:EvA B t env λds b=>OpA r ds λs=>QO s b):EvO B (tCB r t) env QO:=λσ G H F Q I k =>
 h σ G H F _ I λvs d l m ds b a i j c=>c d l vs Q a.gh j λv f H3 s Fv o g=>k v f H3 m Fv s b (a.out o).1 (i.trans o.gg) (a.out o).2 g
theorem vB(h:EvA B t env λds a=>OpA r ds λs=>FQ s λd=>Q' d a):Ev B (tCB r t) env Q':=P5 (XQ h)
theorem GH(h:EvA B t env λds b=>ds.length<=1000/\QO (.st (.tuple ds)) b):EvO B (tTup t) env QO:=λσ G H F Q I k =>
 h σ G H F _ I λvs j l g ds b a f d c=>⟨by rw[d.length];exact V5 (mB c.1),λp i=>by
  have o:=Out.newT a.gh i d;exact k _ _ _ g _ _ b (a.out o).1 (f.trans o.gg) (a.out o).2 c.2⟩
theorem XL(h:EvA B t env λds a=>ds.length<=1000/\Q' (.tuple ds) a):Ev B (tTup t) env Q':=P5 (GH h)
theorem iH(h:EvA B t env λds b=>ds.length<=1000/\QO (.own (OL ds)) b):EvO B (tLst t) env QO:=λσ G H F Q I k =>
 h σ G H F _ I λvs j l g ds b a f d c=>⟨by rw[d.length];exact V5 (mB c.1),λp i=>by
  have o:=Out.newL a.gh i d;exact k _ _ _ g _ _ b (a.out o).1 (f.trans o.gg) (a.out o).2 c.2⟩
theorem GP(h:EvA B t env λds a=>ds.length<=1000/\Q' (.list ds) a):Ev B (tLst t) env Q':=P5 (iH λσ G H F Q I k=>h σ G H F Q I λvs G' H' F' ds a b g r q=>k vs G' H' F' ds a b g r ⟨q.1,k6 q.2⟩)
theorem FD(h:Ev B te env λx a=>∃ b,x=.bool b/\QT b a):EvT B (nI te) env QT:=λσ G H F Q I k =>
 h σ G H F _ I λv d j l x a f g i c=>by
  obtain⟨b,e,q⟩:=c;subst e;cases i;exact⟨b,rfl,k b d j l a f g q⟩
theorem lO(h:Ev B te env λx a=>∃ b,x=.bool b/\QT b a):EvT B (tB te) env QT:=FD h
theorem x_bl{b:Bool}{R:Bool->Prop}(h:R b):∃ c,PyData.bool b=.bool c/\R c:=⟨b,rfl,h⟩
theorem pT(h:EvT B t env λc a=>if c=true then EvT B u a QT else QT false a):EvT B (tAnd t u) env QT:=λσ G H F Q I k =>
 h σ G H F _ I λb d i j a f g q=>by
  cases b with
  |true=>rw[z0 rfl] at q ⊢;exact q σ d i j Q f λc n H2 F2 l p o m=>k c n H2 F2 l p (g.trans o) m
  |false=>rw[y0 Y1] at q ⊢;exact k false d i j a f g q
theorem IJ(h:EvT B t env λc a=>if c=true then QT true a else EvT B u a QT):EvT B (tOr t u) env QT:=λσ G H F Q I k =>
 h σ G H F _ I λb d i j a f g q=>by
  cases b with
  |false=>rw[y0 Y1] at q ⊢;exact q σ d i j Q f λc n H2 F2 l p o m=>k c n H2 F2 l p (g.trans o) m
  |true=>rw[z0 rfl] at q ⊢;exact k true d i j a f g q
theorem MG(h:EvT B t env λc a=>QT (!c) a):EvT B (tNot t) env QT:=λσ G H F Q I k =>
 h σ G H F _ I λb g f i a j d q=>k (!b) g f i a j d q
theorem L9(q:QT true env):EvT B tYes env QT:=λσ G H F Q I k=>k true G H F env I (Same.refl _) q
def TruD:PyData->Bool->Prop
 | .bool b,k=>k=b
 | .list ds,k=>k = !ds.isEmpty
 |_,_=>False
theorem qR(h:Ev B te env λx a=>∃ b,TruD x b/\QT b a):EvT B (tTru K te) env QT:=λσ G H F Q I k =>
 h σ G H F _ I λv f i j x a d g m l=>by
  obtain⟨b,e,q⟩:=l;cases m with
  |bl c=>cases e;exact⟨_,rfl,k _ f i j a d g q⟩
  | lst ha rs =>
   refine⟨b,.inl ⟨_,SqL.of (d.gh _ _ ha),?_⟩,k _ f i j a d g q⟩;have n:b = !_:=e;rw[n];cases rs <;> rfl
  |_=>exact e.elim
theorem ON(h:Ev B ta env λx a=>∃ b,x=.bool b/\if b=true then Ev B tb a Q' else Q' (.bool false) a):Ev B (YC ta tb) env Q':=λσ G H F Q I k =>
 h σ G H F _ I λv c i j x a f g n l=>by
  obtain⟨b,e,q⟩:=l;subst e;cases n;refine⟨b,rfl,?_⟩;cases b with
  |true=>rw[z0 rfl] at q ⊢;exact q σ c i j Q f λv r H2 F2 d o t s m p=>k v r H2 F2 d o t (g.trans s) m p
  |false=>rw[y0 Y1] at q ⊢;exact k _ c i j _ a f g (.bl false) q
theorem IQ(h:Ev B ta env λx a=>∃ b,x=.bool b/\Q' (.bool (!b)) a):Ev B (AD ta) env Q':=λσ G H F Q I k =>
 h σ G H F _ I λv d j l x a f g i c=>by
  obtain⟨b,e,q⟩:=c;subst e;cases i;exact⟨b,rfl,k _ d j l _ a f g (.bl _) q⟩
theorem qJ(h:Ev B ta env λx S=>Ev B tb S λy g=>Op2 r x y λs=>∃ b,s=.st (.bool b)/\if b=true then Ev B M g λz Y=>Op2 D y z λs'=>FQ s' λd=>Q' d Y else Q' (.bool false) g):Ev B (zE r D ta tb M) env Q':=λσ G H F Q I k =>
 h σ G H F _ I λv1 G1 H1 F1 x S I1 N r1 W=>W σ G1 H1 F1 _ I1 λu G2 H2 F2 y g R p E q2 =>
  q2 G2 H2 v1 u _ R.gh (r1.same p) E λv C H3 s Fv o U=>by
   obtain⟨b,es,c⟩:=U;have L:=(R.out o).1;have j:=o.ok;subst es;obtain⟨j,_⟩:=j;cases j;refine⟨b,rfl,?_⟩;cases b with
   |false=>rw[y0 Y1] at c ⊢;exact k _ C H3 F2 _ g L (N.trans (p.trans o.gg)) (.bl _) c
   | true =>
    rw[z0 rfl] at c ⊢;refine c σ C H3 F2 _ L λZ G4 H4 K z O w t T X=>X G4 H4 u Z Q w.gh (E.same (o.gg.trans t)) T λi P m s5 n l a=>?_;have J:=w.out l;have gg:=N.trans (p.trans (o.gg.trans (t.trans l.gg)));cases s5 with
    |st d=>exact k i P m K d O J.1 gg l.ok.1 a
    | own A =>
     obtain⟨d,f,q⟩:=a;exact k i _ m K d O (J.1.freeze J.2.fb J.2.fd J.2.fg) (gg.trans (m4 J.2.fg)) (f P m i n J.2.ok J.2.fg J.1.gh) q
    |io A=>exact a.elim
    |scr ns=>exact a.elim
end
section
variable{B:Bs}{env:En}{D':VEnds}{t u tb:TS}{te:TE}{g:TG}{c:TT}{QE:En->Prop}
theorem MI(h:EvS B t { D' with nx:=λe=>EvS B u D' e } env):EvS B (tSeq t u) D' env:=λσ G H F D I r =>
 h σ G H F { D with nx:=u D } I ⟨λσ G' H F env a g q=>q σ G' H F D a (r.later g),r.rt,r.bk,r.ct⟩
theorem BB(h:D'.nx env):EvS B UF D' env:=λσ G H F D I r=>r.nx σ G H F env I (Same.refl _) h
theorem KN(h:EvO B te env λs e=>EvG B g s e D'.nx):EvS B (tAsg te g) D' env:=λσ G H F D I r =>
 h σ G H F _ I λv c m n Fv s t f i d b=>b σ c m n v Fv D.nx f d λa o H2 F2 j q p l=>r.nx a o H2 F2 j q (i.trans p) l
theorem U2(h:QE (env.set i (some s))):EvG B (Z2 i) s env QE:=λσ G H F v Fv Q I x k=>k _ G H _ _ (I.store x i) (Same.refl _) h
theorem tH(h:QE env):EvGs B gNil [] env QE:=λσ G H F vs Q I x k=>by cases x;exact⟨rfl,k σ G H F env I (Same.refl _) h⟩
theorem fD{c:TGs}{d:PyData}{ds:List PyData}(h:EvG B g (.st d) env λe=>EvGs B c ds e QE):EvGs B (n9 g c) (d::ds) env QE:=λσ G H F vs Q I x k=>by
 cases x with
 | cons r rs =>
  refine⟨_,_,rfl,h σ G H F _ _ _ I (R5 r) λa j o p u l f i=>i a j o p _ Q l (rs.same f) λb q H2 F2 m t s n=>k b q H2 F2 m t (f.trans s) n⟩
theorem BI(b:ds.length=n)(h:EvGs B a ds env QE):EvG B (gTup K n a) (.st (.tuple ds)) env QE:=λσ G H F v Fv Q I x k=>by
 obtain⟨r,_⟩:=x.ok;cases r with
 |tup ha rs=>exact⟨_,_,rfl,SqT.of (I.gh _ _ ha),by rw[rs.length,b],h σ G H F _ Q I rs k⟩
theorem W5(h:EvO B te env λs e=>D'.rt s e):EvS B (tRet te) D' env:=λσ G H F D I r =>
 h σ G H F _ I λv b g i Fv s j d f c a=>r.rt σ b g i j v Fv s d f c a
theorem xQ(h:EvO B te env λ_ e=>D'.nx e):EvS B (UI te) D' env:=λσ G H F D I r =>
 h σ G H F _ I λv b f g Fv s i c d j a=>r.nx σ b f g i c d a
theorem jH(h:EvT B c env λb e=>if b=true then EvS B t D' e else EvS B u D' e):EvS B (tIfS c t u) D' env:=λσ G H F D I r =>
 h σ G H F _ I λb f d g j i a q=>by
  cases b with
  |true=>rw[z0 rfl] at q ⊢;exact q σ f d g D i (r.later a)
  |false=>rw[y0 Y1] at q ⊢;exact q σ f d g D i (r.later a)
def ForV(B:Bs)(g:TG)(tb:TS)(D':VEnds)(ds:List PyData)(e1:En):Prop:=∃ J:Nat->En->Prop,J 0 e1/\(∀ i d e,ds[i]?=some d->J i e->EvG B g (.st d) e λe2=>EvS B tb { D' with nx:=J (i+1),ct:=J (i+1),bk:=D'.nx } e2)/\∀ e,J ds.length e->D'.nx e
theorem yJ(h:EvI B N env λds C=>ForV B g tb D' ds C):EvS B (tFor N g tb) D' env:=λσ G H F D I r =>
 h σ G H F _ I λJ v H1 F1 ds C Y w it O=>by
  obtain⟨L,j0,U,jd⟩:=O;refine⟨λi m σ H=>m=ds.length-i/\i<=ds.length/\∃ f F2 n,VI B f H σ n F2/\Same v f/\L i n,⟨ds.length,by simp,R4 _,v,F1,C,Y,Same.refl _,j0⟩,?_⟩;rintro i m σ H ⟨rfl,hi,f,F2,n,p,s,M⟩;by_cases hlt:i<ds.length
  ·refine .inr ⟨it.go i f H s p.gh hlt,λσ H=>∃ t Q E,VI B t H σ E Q/\Same v t/\L (i+1) E,λa0 H' h'=>⟨ds.length-(i+1),by lia,rfl,hlt,h'⟩,λx H' y=>?_⟩;obtain⟨t,o⟩:=it.yld i f H x H' _ s p.gh p.ft (z1 hlt) y;have K:=p.out o;refine U i _ n (z1 hlt) M σ t H' F2 x _ _ K.1 K.2 λz G4 X W e4 T P R=>?_;have gg:=s.trans (o.gg.trans P);refine R z G4 X W _ T ⟨λa j q c l b d u=>⟨j,c,l,b,gg.trans d,u⟩,λa j q c l S A Z b d=>r.rt a j q c l S A Z b (w.trans (gg.trans d)),λa j q c l b d=>r.nx a j q c l b (w.trans (gg.trans d)),λa j q c l b d u=>⟨j,c,l,b,gg.trans d,u⟩⟩
  ·have e:i=ds.length:=by lia
   subst e;exact .inl ⟨it.stop _ f H s p.gh rfl,r.nx σ f H F2 n p (w.trans s) (jd n M)⟩
theorem GT(J:Nat->En->Prop)(u:∃ m,J m env)(h:∀ m e,J m e->EvT B c e λb C=>if b=true then EvS B tb { D' with nx:=λf=>∃ d,d<m/\J d f,ct:=λf=>∃ d,d<m/\J d f,bk:=D'.nx } C else D'.nx C):EvS B (fF c tb) D' env:=λσ G H F D I r=>by
 obtain⟨L,u⟩:=u;refine⟨λm σ H=>∃ t F2 f,VI B t H σ f F2/\Same G t/\J m f,⟨L,G,F,env,I,Same.refl _,u⟩,?_⟩;rintro m σ H ⟨t,F2,f,U,S,T⟩;refine h m f T σ t H F2 _ U λb z H3 y M A Q p=>?_;have gg:=S.trans Q;cases b with
 |false=>rw[y0 Y1] at p ⊢;exact r.nx σ z H3 y M A gg p
 | true =>
  rw[z0 rfl] at p ⊢;refine⟨λσ H=>∃ s w q,VI B s H σ q w/\Same G s/\∃ d,d<m/\J d q,λR H' ⟨s,w,q,N,E,d,hm,O⟩=>⟨d,hm,s,w,q,N,E,O⟩,?_⟩;exact p σ z H3 y _ A ⟨λa l o i n g j v=>⟨l,i,n,g,gg.trans j,v⟩,λa l o i n K x P g j=>r.rt a l o i n K x P g (gg.trans j),λa l o i n g j=>r.nx a l o i n g (gg.trans j),λa l o i n g j v=>⟨l,i,n,g,gg.trans j,v⟩⟩
variable{QI:List PyData->En->Prop}
theorem jM(h:Ev B te env λd e=>∃ ds,d=.list ds/\QI ds e):EvI B (KH K te) env QI:=λσ G H F R I k =>
 h σ G H F _ I λv m p r d s b n o c=>by
  obtain⟨ds,l,j⟩:=c;subst l;cases o with
  | @lst a vs ds ha rs =>
   refine⟨a,rfl,⟨vs,SqL.of (b.gh _ _ ha)⟩,k _ m p r ds s b n ⟨λi G' H' g h hi=>?_,λi G' H' g h hi=>?_,λi G' H' x H'' d g h ft hd y=>?_⟩ j⟩
   ·have:i<vs.length:=by rw[rs.length];exact hi
    exact⟨vs,vs[i],SqL.of (h _ _ (g _ _ ha)),z1 this⟩
   ·exact⟨vs,SqL.of (h _ _ (g _ _ ha)),by rw[rs.length];exact Nat.le_of_eq hi.symm⟩
   ·obtain⟨e,y⟩:=y;subst e;obtain⟨v,f,q⟩:=rs.get hd;have:=y vs (SqL.of (h _ _ (g _ _ ha)));rw[f] at this;cases this;exact⟨G',Out.refl h (q.same g)⟩
theorem pS{ds:List PyData}{R:List PyData->Prop}(h:R ds):∃ xs,PyData.list ds=.list xs/\R xs:=⟨ds,rfl,h⟩
def rngD(lo:Int)(n:Nat):List PyData:=(List.range n).map λ(i:Nat)=>.int (lo+(i:Int))
theorem kA:(rngD lo n).length=n:=by simp[rngD]
theorem DD(h:(rngD lo n)[i]?=some d):i<n/\d=.int (lo+(i:Int)):=by
 unfold rngD at h;rw[v2] at h;have hi:i<n:=by
  have:=(R1 (l:=(List.range n).map λ(i:Nat)=>PyData.int (lo+(i:Int)))).mp (by rw[v2];exact h);obtain⟨q,_⟩:=this;simpa using q
 rw[z1 (by simpa using hi)] at h;simp at h;exact⟨hi,h.symm⟩
theorem WE:ItOk G (Itr lo n) (rngD lo n):=by
 refine⟨λi G' H' g h hi=>?_,λi G' H' g h hi=>?_,λi G' H' x H'' d g h ft hd y=>?_⟩
 ·rw[kA] at hi;exact hi
 ·rw[kA] at hi;exact Nat.le_of_eq hi.symm
 ·obtain⟨e,y⟩:=y;subst e y;rw[(DD hd).2];exact⟨G',Out.refl h (.int _)⟩
def iC(ds:List PyData)(R:List PyData->Prop):Prop:=∃ j:Int,ds=[.int j]/\-(2 ^ 62)<=j/\j<2 ^ 62/\R (rngD 0 j.toNat)
def zB(ds:List PyData)(R:List PyData->Prop):Prop:=∃ i j:Int,ds=[.int i,.int j]/\(-(2 ^ 62)<=i/\i<2 ^ 62/\-(2 ^ 62)<=j/\j<2 ^ 62)/\R (rngD i (j-i).toNat)
theorem UJ(h:EvA B a env λds e=>iC ds λxs=>QI xs e):EvI B (aI a) env QI:=λσ G H F R I k =>
 h σ G H F _ I λvs g n o ds p i l m b=>by
  obtain⟨j,d,b1,f,c⟩:=b;subst d;obtain rfl:vs=[V.int j]:=Rps.ints_inv (ns:=[j]) m;exact⟨j,rfl,b1,f,k _ g n o _ p i l WE c⟩
theorem WS(h:EvA B a env λds e=>zB ds λxs=>QI xs e):EvI B (FI a) env QI:=λσ G H F R I k =>
 h σ G H F _ I λvs f n o ds p g l m b=>by
  obtain⟨i,j,d,b1,c⟩:=b;subst d;obtain rfl:vs=[V.int i,V.int j]:=Rps.ints_inv (ns:=[i,j]) m;exact⟨i,j,rfl,b1,k _ f n o _ p g l WE c⟩
theorem mR(a : -4611686018427387904<=j)(b:j<4611686018427387904)(h:R (rngD 0 j.toNat)):iC [.int j] R:=⟨j,rfl,by lia,by lia,h⟩
theorem VJ(c : -4611686018427387904<=a/\a<4611686018427387904/\-4611686018427387904<=b/\b<4611686018427387904)(h:R (rngD a (b-a).toNat)):zB [.int a,.int b] R:=⟨a,b,rfl,by lia,h⟩
theorem GJ(J:Nat->En->Prop)(a:J 0 env)(hs:∀ i e,i<n->J i e->EvG B g (.st (.int (lo+(i:Int)))) e λb=>EvS B tb { D' with nx:=J (i+1),ct:=J (i+1),bk:=D'.nx } b)(hd:∀ e,J n e->D'.nx e):ForV B g tb D' (rngD lo n) env :=
 ⟨J,a,λi d e h j=>by obtain⟨hi,rfl⟩:=DD h;exact hs i e hi j,λe j=>hd e (by rw[kA] at j;exact j)⟩
theorem ZD{α:Type}{f : α->PyData}{xs:List α}(J:Nat->En->Prop)(a:J 0 env)(hs:∀ i x e,xs[i]?=some x->J i e->EvG B g (.st (f x)) e λb=>EvS B tb { D' with nx:=J (i+1),ct:=J (i+1),bk:=D'.nx } b)(hd:∀ e,J xs.length e->D'.nx e):ForV B g tb D' (xs.map f) env :=
 ⟨J,a,λi d e h j=>by
  rw[v2] at h;cases hx:xs[i]? with
  |none=>rw[hx] at h;cases h
  |some x=>rw[hx] at h;cases h;exact hs i x e hx j,λe j=>hd e (by rw[N1] at j;exact j)⟩
end
theorem rQ(h:∀ c:TS,c=b->EvS B a { D' with nx:=λe=>EvS B c D' e } env):EvS B (tSeq a b) D' env:=MI (h b rfl)
theorem Z4(e:c=b)(h:EvS B b D' env):EvS B c D' env:=by rw[e];exact h
@[elab_as_elim] theorem exS0  {σ:Type} {f : σ} {p:Prop} {a : σ->Prop} (s : σ) (h:s=f /\p ) (k:p ->a (f )):a s:=by
 obtain⟨e,h⟩:=h;rw[e];exact k  h
@[elab_as_elim] theorem exS1 {c:Type} {σ:Type} {f : c->σ} {p : c->Prop} {a : σ->Prop} (s : σ) (h:∃ b,s=f b/\p b) (k:∀ b,p b->a (f b)):a s:=by
 obtain⟨b,e,h⟩:=h;rw[e];exact k _ h
@[elab_as_elim] theorem exE1 {c:Type} {σ:Type} {f : c->σ} {a : σ->Prop} (s : σ) (h:∃ b,s=f b) (k:∀ b,a (f b)):a s:=by
 obtain⟨b,e⟩:=h;rw[e];exact k _
@[elab_as_elim] theorem exS2 {d:Type} {g:Type} {σ:Type} {f : d->g->σ} {p : d->g->Prop} {a : σ->Prop} (s : σ) (h:∃ c b,s=f c b/\p c b) (k:∀ c b,p c b->a (f c b)):a s:=by
 obtain⟨c,b,e,h⟩:=h;rw[e];exact k _ _ h
@[elab_as_elim] theorem exS3 {g:Type} {j:Type} {i:Type} {σ:Type} {f : g->j->i->σ} {p : g->j->i->Prop} {a : σ->Prop} (s : σ) (h:∃ d c b,s=f d c b/\p d c b) (k:∀ d c b,p d c b->a (f d c b)):a s:=by
 obtain⟨d,c,b,e,h⟩:=h;rw[e];exact k _ _ _ h
@[elab_as_elim] theorem exS4 {i:Type} {m:Type} {l:Type} {j:Type} {σ:Type} {f : i->m->l->j->σ} {p : i->m->l->j->Prop} {a : σ->Prop} (s : σ) (h:∃ d c b g,s=f d c b g/\p d c b g) (k:∀ d c b g,p d c b g->a (f d c b g)):a s:=by
 obtain⟨d,c,b,g,e,h⟩:=h;rw[e];exact k _ _ _ _ h
@[elab_as_elim] theorem exS5 {j:Type} {o:Type} {n:Type} {l:Type} {m:Type} {σ:Type} {f : j->o->n->l->m->σ} {p : j->o->n->l->m->Prop} {a : σ->Prop} (s : σ) (h:∃ g d b i c,s=f g d b i c/\p g d b i c) (k:∀ g d b i c,p g d b i c->a (f g d b i c)):a s:=by
 obtain⟨g,d,b,i,c,e,h⟩:=h;rw[e];exact k _ _ _ _ _ h
@[elab_as_elim] theorem exE5 {j:Type} {o:Type} {n:Type} {l:Type} {m:Type} {σ:Type} {f : j->o->n->l->m->σ} {a : σ->Prop} (s : σ) (h:∃ c d b i g,s=f c d b i g) (k:∀ c d b i g,a (f c d b i g)):a s:=by
 obtain⟨c,d,b,i,g,e⟩:=h;rw[e];exact k _ _ _ _ _
@[elab_as_elim] theorem exS6 {q:Type} {m:Type} {r:Type} {l:Type} {n:Type} {o:Type} {σ:Type} {f : q->m->r->l->n->o->σ} {p : q->m->r->l->n->o->Prop} {a : σ->Prop} (s : σ) (h:∃ i c j b g d,s=f i c j b g d/\p i c j b g d) (k:∀ i c j b g d,p i c j b g d->a (f i c j b g d)):a s:=by
 obtain⟨i,c,j,b,g,d,e,h⟩:=h;rw[e];exact k _ _ _ _ _ _ h
theorem big(h:n<=1000000):n<sizeLine:=v9 h (by decide)
section
variable{B B1:Bs}{G H G' H':Hp}{σ σI:St}{env envI:En}{F F':Nat->Addr->Prop}{v:V}{s:Sl}{Fv:Addr->Prop}{inv:Nat->Option Nat}
open Classical in
def L5(H:Hp)(F:Nat->Addr->Prop)(inv:Nat->Option Nat):Hp:=λa=>if ∃ i j,inv i=some j/\F i a then none else H a
theorem aE(h:inv i=some j)(f:F i a):L5 H F inv a=none:=z0 ⟨i,j,h,f⟩
theorem AE(h:∀ i j,inv i=some j->¬ F i a):L5 H F inv a=H a:=y0 λ⟨i,j,x,y⟩=>h i j x y
theorem lA:Same (L5 H F inv) H:=λa o e=>by
 unfold L5 at e;split at e
 ·cases e
 ·exact e
theorem VI.enter(I:VI B G H σ env F)(inj:∀ i b j,inv i=some j->inv b=some j->i=b)(ln : σI.length=envI.length)
  (sl:∀ j s,envI[j]?=some (some s)->∃ v,σI[j]?=some (some v)/\((∃ d,s=.st d/\Rp G v d/\∀ i,inv i ≠ some j)\/(∃ ns a,s=.scr ns/\v=.ref a/\SqL B.K G a (ns.map V.int)/\∀ i,inv i ≠ some j) ∨
   ∃ i A,inv i=some j/\s=.io A/\σ[i]?=some (some v)/\(env[i]?=some (some (.own A))\/env[i]?=some (some (.io A))))) :
  VI ⟨B.K,G,H,L5 H F inv,σI,λj a=>∃ i,inv i=some j/\F i a⟩ G H σI envI (λj a=>∃ i,inv i=some j/\F i a) where
 gh:=I.gh
 g0:=Same.refl _
 gn:=λa o e=>.inl e
 rs:=lA
 rb:=lA
 bh:=λa o e=>⟨o,e⟩
 fg:=λj a ⟨i,_,z⟩=>I.fg i a z
 fr:=λj a ⟨i,h,z⟩=>aE h z
 fd:=λj k a ⟨i,h,z⟩ ⟨b,h',p⟩=>by
  have:=I.fd i b a z p;subst this;rw[h] at h';cases h';rfl
 fo:=λj a ⟨i,h,z⟩=>I.fo i a z
 sl:=λj s e=>by
  obtain⟨v,l,q⟩:=sl j s e;refine⟨v,l,?_⟩;rcases q with ⟨d,rfl,r,n⟩|⟨ns,a,rfl,rfl,q,n⟩|⟨i,A,hi,rfl,hs,c⟩
  ·exact⟨r,λa ⟨i,h,_⟩=>n i h⟩
  ·exact⟨⟨a,rfl,q⟩,λa ⟨i,h,_⟩=>n i h⟩
  ·refine⟨?_,λa z=>.inl z,l⟩;have t:(λa=>∃ b,inv b=some j/\F b a)=F i:=by
    funext a
    exact propext ⟨λ⟨b,h,z⟩=>by rw[inj i b j hi h];exact z,λz=>⟨i,hi,z⟩⟩
   show A.P G H v (λa=>∃ b,inv b=some j/\F b a);rw[t];rcases c with c|c
   ·obtain⟨m,f,g⟩:=I.sl i _ c;rw[hs] at f;cases f;exact g.1
   ·obtain⟨m,f,g⟩:=I.sl i _ c;rw[hs] at f;cases f;exact g.1
 ln:=ln
 ft:=I.ft
theorem VI.leave(I:VI B G H σ env F)(inj:∀ i h j,inv i=some j->inv h=some j->i=h)(r:B1.G=G)(p:B1.H=H)(L:∀ a o,H a=some o->(∀ i j,inv i=some j->¬ F i a)->B1.R a=some o)
  (C:∀ i j,inv i=some j->∀ a,B1.F j a->F i a) (M:∀ i j,inv i=some j->B1.S[j]? = σ[i]?) (J:VI B1 G' H' σI envI F') (io:∀ i j,inv i=some j->∃ A',envI[j]?=some (some (.io A')))  (N:env2.length=env.length)
  (E:∀ i s,env2[i]?=some (some s)->(inv i=none/\env[i]?=some (some s))\/∃ j A A',inv i=some j/\envI[j]?=some (some (.io A'))/\((env[i]?=some (some (.own A))/\s=.own A')\/(env[i]?=some (some (.io A))/\s=.io A'))) :
  VI B G' H' σ env2 (λi a=>match inv i with|some j=>F' j a|none=>F i a):=by
 have f:∀ a o,G' a=some o->G a=some o\/H a=none:=λa o e=>by
  have:=J.gn a o e;rw[r,p] at this;exact this
 have fi:∀ i j a,inv i=some j->F' j a->F i a\/H a=none:=λi j a hi z=>by
  obtain⟨A',e⟩:=io i j hi;obtain⟨v,_,q⟩:=J.sl j _ e;rcases q.2.1 a z with y|y
  ·exact .inl (C i j hi a y)
  ·rw[p] at y;exact .inr y
 have kp:∀ a o,H a=some o->(∀ i j,inv i=some j->¬ F i a)->H' a=some o:=λa o e n=>J.rs a o (L a o e n);refine⟨J.gh,I.g0.trans (r ▸ J.g0),λa o e=>?_,λa o e=>?_,I.rb,λa o e=>?_,λi a z=>?_,λi a z=>?_,λi k a y z=>?_,λi a z=>?_,λi t e=>?_,by rw[N];exact I.ln,J.ft⟩
 ·rcases f a o e with e|e
  ·exact I.gn a o e
  ·exact .inr (I.no_b e)
 ·refine kp a o (I.rs a o e) λi j _ z=>?_;rw[I.fr i a z] at e;cases e
 ·obtain⟨O,g⟩:=I.bh a o e;exact J.bh a O (by rw[p];exact g)
 ·cases hi:inv i with
  |some j=>rw[hi] at z;exact J.fg j a z
  | none =>
   rw[hi] at z;cases e:G' a with
   |none=>rfl
   | some o =>
    rcases f a o e with e|e
    ·rw[I.fg i a z] at e;cases e
    ·exact absurd z (I.no_f e i)
 ·cases hi:inv i with
  | some j =>
   rw[hi] at z;rcases fi i j a hi z with y|y
   ·exact I.fr i a y
   ·exact I.no_r y
  |none=>rw[hi] at z;exact I.fr i a z
 ·cases hi:inv i with
  | some j =>
   rw[hi] at y;cases hk:inv k with
   | some l =>
    rw[hk] at z;have:=J.fd j l a y z;subst this;exact inj i k j hi hk
   | none =>
    rw[hk] at z;rcases fi i j a hi y with x|x
    ·exact I.fd i k a x z
    ·exact absurd z (I.no_f x k)
  | none =>
   rw[hi] at y;cases hk:inv k with
   | some l =>
    rw[hk] at z;rcases fi k l a hk z with x|x
    ·exact I.fd i k a y x
    ·exact absurd y (I.no_f x i)
   |none=>rw[hk] at z;exact I.fd i k a y z
 ·cases hi:inv i with
  |some j=>rw[hi] at z;exact J.fo j a z
  | none =>
   rw[hi] at z;obtain⟨o,e⟩:=I.fo i a z;exact J.bh a o (by rw[p];exact e)
 ·rcases E i t e with ⟨hi,g⟩|⟨j,A,A',hi,g,d⟩
  ·obtain⟨v,u,q⟩:=I.sl i t g;refine⟨v,u,?_⟩;simp only[hi];refine q.mono (r ▸ J.g0) λa o z y=>kp a o y λh P c K=>?_;have:=I.fd i h a z K;subst this;rw[hi] at c;cases c
  ·obtain⟨v,u,q⟩:=J.sl j _ g;have w : σ[i]?=some (some v):=by rw[← M i j hi];exact q.2.2
   refine⟨v,w,?_⟩;simp only[hi];rcases d with ⟨d,rfl⟩|⟨d,rfl⟩
   ·obtain⟨D,_,m⟩:=I.sl i _ d;refine⟨q.1,λa z=>?_⟩;rcases fi i j a hi z with y|y
    ·exact m.2 a y
    ·exact I.no_b y
   ·obtain⟨D,b,m⟩:=I.sl i _ d;rw[w] at b;cases b;refine⟨q.1,λa z=>?_,m.2.2⟩;rcases fi i j a hi z with y|y
    ·exact m.2.1 a y
    ·exact .inr (I.no_b y)
theorem RsX.leave(I:VI B G H σ env F)(b:B1.H=H)(r:RsX B1 G' H' v Fv s F'):RsX B G' H' v Fv s (λi a=>match inv i with|some j=>F' j a|none=>F i a):=by
 have hn:∀ a,Fv a->H a=none:=λa z=>b ▸ r.fb a z;refine⟨r.ok,λa z=>I.no_b (hn a z),r.fg,r.fo,λi a z y=>?_⟩;cases hi:inv i with
 |some j=>rw[hi] at y;exact r.fd j a z y
 |none=>rw[hi] at y;exact I.no_f (hn a z) i y
end
abbrev VP:=List Sl->(Sl->Prop)->Prop
abbrev VIo:=Own->List Sl->(Own->Sl->Prop)->Prop
def noF:Nat->Addr->Prop:=λ_ _=>False
def bsP(K:Frag)(G H:Hp)(vs:List V):Bs:=⟨K,G,H,H,vs.map some,noF⟩
def NF(K:Frag)(G:Hp):V->Sl->Prop
 |v,.st d=>Rp G v d
 |v,.scr ns=>∃ a,v=.ref a/\SqL K G a (ns.map V.int)
 |_,_=>False
inductive ArgsOk(K:Frag)(G:Hp):List V->List Sl->Prop
 |nil:ArgsOk K G [] []
 |cons {v:V} {s:Sl} {vs:List V} {ss:List Sl}:NF K G v s->ArgsOk K G vs ss->ArgsOk K G (v::vs) (s::ss)
theorem ArgsOk.length:∀{vs:List V}{ss:List Sl},ArgsOk K G vs ss->vs.length=ss.length
 |_,_,.nil=>rfl
 |_,_,.cons _ t=>by simp[ArgsOk.length t]
theorem ArgsOk.get:∀{vs:List V}{ss:List Sl}{i:Nat}{s:Sl},ArgsOk K G vs ss->ss[i]?=some s->∃ v,vs[i]?=some v/\NF K G v s
 |_,_,_,_,.nil,e=>by simp at e
 |_,_,0,_,.cons r _,e=>by simp at e;subst e;exact⟨_,rfl,r⟩
 | _,_,i+1,s,.cons _ t,e=>by
  obtain⟨u,a,b⟩:=ArgsOk.get (i:=i) (s:=s) t (by simpa using e);exact⟨u,by simpa using a,b⟩
theorem ArgsOk.of:∀{vs:List V}{ds:List PyData},Rps G vs ds->ArgsOk K G vs (ds.map Sl.st)
 |_,_,.nil=>.nil
 |_,_,.cons r t=>.cons r (ArgsOk.of t)
theorem bA{α:Type}{xs:List α}{n i:Nat}{s : α}(e:(xs.map some++List.replicate n none)[i]?=some (some s)):xs[i]?=some s:=by
 by_cases h:i<xs.length
 ·rw[XC (by simpa using h),v2] at e;rw[z1 h] at e ⊢;simpa using e
 ·rw[WB (by simpa using h),iA] at e;split at e <;> cases e
theorem RA{α:Type}{xs:List α}{n i:Nat}{s : α}(e:xs[i]?=some s):(xs.map some++List.replicate n none)[i]?=some (some s):=by
 have h:i<xs.length:=(R1.mp e).1;rw[XC (by simpa using h),v2,e];rfl
def spP(K:Frag)(f:VP):Sp:=λvs H Q _=>∃ G ss Q',Same G H/\FT G H/\ArgsOk K G vs ss/\f ss Q'/\∀ s,Q' s->∀ v G' H' Fv,Out G H v G' H' s Fv->Q v H'
structure OutI(G H R:Hp)(F0:Addr->Prop)(v0:V)(A':Own)(s:Sl)(v:V)(G' H':Hp)(F' Fv:Addr->Prop):Prop where
 gg:Same G G'
 gh:Same G' H'
 ft:FT G' H'
 gn:∀ a o,G' a=some o->G a=some o\/H a=none
 rs:Same R H'
 bh:∀ a o,H a=some o->∃ o',H' a=some o'
 ap:A'.P G' H' v0 F'
 fi:∀ a,F' a->F0 a\/H a=none
 fg:∀ a,F' a->G' a=none
 ok:RsOk G' H' v Fv s
 fv:∀ a,Fv a->H a=none/\G' a=none/\(∃ o,H' a=some o)/\¬ F' a
def spI(K:Frag)(f:VIo):Sp:=λvs H Q _=>∃ v0 vr G R A ss F0 Q',vs=v0::vr/\Same G H/\FT G H/\Same R H/\A.P G H v0 F0/\(∀ a,F0 a->G a=none)/\(∀ a,F0 a->R a=none)/\ArgsOk K G vr ss /\
 f A ss Q'/\∀ A' s,Q' A' s->∀ v G' H' F' Fv,OutI G H R F0 v0 A' s v G' H' F' Fv->Q v H'
theorem V1(h:spP K f vs H Q E)
  (hb:∀ ss b,f ss b->∀ B,B.K=K->EvS B ts { nx:=λ_=>b (.st .none),rt:=λs _=>b s } (ss.map some++List.replicate (N.length-ss.length) none)):ts { nx:=λ_ H'=>Q .non H',rt:=Q } (L2.start N vs) H:=by
 obtain⟨G,ss,b,gh,ft,c,hf,l⟩:=h;have fin:∀{σ G' H' F env v Fv s},VI (bsP K G H vs) G' H' σ env F->RsX (bsP K G H vs) G' H' v Fv s F->Out G H v G' H' s Fv:=λI r =>
  ⟨I.g0,I.gh,I.rs,I.gn,r.fb,r.fg,r.fo,r.ok,λ_=>I.ft⟩
 refine hb ss _ hf (bsP K G H vs) rfl (L2.start N vs) G H noF _ ?_ ⟨λσ G' H' F env I g q=>l _ q _ _ _ _ (fin I (R5 .non)),λσ G' H' F env v Fv s I g r q=>l _ q v G' H' Fv (fin I r),λ_ _ _ _ _ _ _ q=>q,λ_ _ _ _ _ _ _ q=>q⟩;refine⟨gh,Same.refl _,λa o e=>.inl e,Same.refl _,Same.refl _,λa o e=>⟨o,e⟩,λi a z=>z.elim,λi a z=>z.elim,λi j a z=>z.elim,λi a z=>z.elim,λi s e=>?_,?_,ft⟩
 ·obtain⟨v,m,q⟩:=c.get (bA e);refine⟨v,by unfold L2.start;exact RA m,?_⟩;cases s with
  |st d=>exact⟨q,λa z=>z⟩
  |scr ns=>exact⟨q,λa z=>z⟩
  |own A=>exact q.elim
  |io A=>exact q.elim
 ·unfold L2.start;simp[c.length]
theorem cC(h:spI K f vs H Q E)
  (hb:∀ A ss c,f A ss c->∀ B,B.K=K->EvS B ts { nx:=λe=>∃ A',e[0]?=some (some (.io A'))/\c A' (.st .none),rt:=λs e=>∃ A',e[0]?=some (some (.io A'))/\c A' s } (some (.io A)::(ss.map some++List.replicate (N.length-(ss.length+1)) none))):ts { nx:=λ_ H'=>Q .non H',rt:=Q } (L2.start N vs) H:=by
 obtain⟨v0,b,G,R,A,ss,F0,c,rfl,gh,ft,p,ap,fg,fr,l,hf,D⟩:=h;have L:(v0::b).length=ss.length+1:=by simp[l.length]
 refine hb A ss _ hf ⟨K,G,H,R,(v0::b).map some,λi a=>i=0/\F0 a⟩ rfl (L2.start N (v0::b)) G H (λi a=>i=0/\F0 a) _ ?_ ?_
 ·refine⟨gh,Same.refl _,λa o e=>.inl e,p,p,λa o e=>⟨o,e⟩,λi a z=>fg a z.2,λi a z=>fr a z.2,λi j a z y=>by rw[z.1,y.1],λi a z=>A.dom ap a z.2,λi s e=>?_,?_,ft⟩
  ·cases i with
   | zero =>
    simp at e;subst e;refine⟨v0,rfl,?_,λa z=>.inl z,rfl⟩;have:(λa=>0=0/\F0 a)=F0:=by funext a;simp
    rw[this];exact ap
   | succ i =>
    have C:(ss.map some++List.replicate (N.length-(ss.length+1)) none)[i]?=some (some s):=by simpa using e
    obtain⟨v,u,q⟩:=l.get (bA C);refine⟨v,?_,?_⟩
    ·unfold L2.start;exact RA (by simpa using u)
    ·cases s with
     |st d=>exact⟨q,λa z=>by cases z.1⟩
     |scr ns=>exact⟨q,λa z=>by cases z.1⟩
     |own A=>exact q.elim
     |io A=>exact q.elim
  ·unfold L2.start;simp[l.length]
 ·have fin:∀ σ G' H' F env v Fv s,VI ⟨K,G,H,R,(v0::b).map some,λi a=>i=0/\F0 a⟩ G' H' σ env F->RsX ⟨K,G,H,R,(v0::b).map some,λi a=>i=0/\F0 a⟩ G' H' v Fv s F->(∃ A',env[0]?=some (some (.io A'))/\c A' s)->Q v H':=by
   intro σ G' H' F env v Fv s I r ⟨A',e,q⟩;obtain⟨n,t,w,x,J⟩:=I.sl 0 _ e;have:n=v0:=by
    have m:((v0::b).map some)[0]?=some (some n):=J;simpa using m.symm
   subst this;exact D A' s q v G' H' (F 0) Fv ⟨I.g0,I.gh,I.ft,I.gn,I.rs,I.bh,w,λa z=>by
    rcases x a z with y|y
    ·exact .inl y.2
    ·exact .inr y,I.fg 0,r.ok,λa z=>⟨r.fb a z,r.fg a z,r.fo a z,r.fd 0 a z⟩⟩
  refine⟨λσ G' H' F env I g q=>fin σ G' H' F env .non _ (.st .none) I (R5 .non) q,λσ G' H' F env v Fv s I g r q=>fin σ G' H' F env v Fv s I r q,λ_ _ _ _ _ _ _ q=>q,λ_ _ _ _ _ _ _ q=>q⟩
section
variable{B:Bs}{env:En}{Q':PyData->En->Prop}{QO:Sl->En->Prop}{K:Frag}{E:XK}
theorem XG(h:EvA B t env λds b=>f (ds.map Sl.st) λs=>QO s b):EvO B (F3 (spP K f) [] E t) env QO:=λσ G H F Q I k=>by
 unfold F3;simp only[z5];exact h σ G H F _ I λvs d l j ds b a g i c=>⟨d,_,_,a.gh,a.ft,ArgsOk.of i,c,λs q v G' H' Fv o=>k v G' H' j Fv s b (a.out o).1 (g.trans o.gg) (a.out o).2 q⟩
theorem HK(h:EvA B t env λds a=>f (ds.map Sl.st) λs=>FQ s λd=>Q' d a):Ev B (F3 (spP K f) [] E t) env Q':=P5 (XG h)
theorem fI(e:env[i]?=some (some (.scr ns)))(u:B.K=K)(h:EvA B t env λds c=>f (.scr ns::ds.map Sl.st) λs=>QO s c):EvO B (F3 (spP K f) [] E (M2 (tVar i) t)) env QO:=λσ G H F Q I k=>by
 subst u;unfold F3;simp only[z5];obtain⟨v0,g,⟨a,m,p⟩,_⟩:=I.sl i _ e;refine⟨v0,g,h σ G H F _ I λvs l w r ds c b d n j=>⟨l,_,_,b.gh,b.ft,.cons (s:=.scr ns) ⟨a,m,d.seq p⟩ (ArgsOk.of n),j,λs q v G' H' Fv o=>k v G' H' r Fv s c (b.out o).1 (d.trans o.gg) (b.out o).2 q⟩⟩
theorem bN(e:env[i]?=some (some (.scr ns)))(a:B.K=K)(h:EvA B t env λds b=>f (.scr ns::ds.map Sl.st) λs=>FQ s λd=>Q' d b):Ev B (F3 (spP K f) [] E (M2 (tVar i) t)) env Q':=P5 (fI e a h)
def reS:Sl->Own->Sl
 | .io _,A=>.io A
 |_,A=>.own A
theorem eH(R:∃ s,env[i]?=some (some s))(h:EvA B t env λds D=>∃ w A,D[i]?=some (some w)/\(w=.own A\/w=.io A)/\f A (ds.map Sl.st) λA' s=>QO s (D.set i (some (reS w A')))):EvO B (F3 (spI K f) [] E (M2 (tVar i) t)) env QO:=λσ G H F Q I k=>by
 unfold F3;simp only[z5];obtain⟨s,e⟩:=R;obtain⟨v0,O,_⟩:=I.sl i _ e;refine⟨v0,O,h σ G H F _ I λvs M p m ds D r T U ⟨w,A,N,hs,S⟩=>?_⟩;obtain⟨W,C,q⟩:=r.sl i _ N;rw[O] at C;cases C;have ap:A.P M p v0 (m i):=by
  rcases hs with rfl|rfl
  ·exact q.1
  ·exact q.1
 let inv:Nat->Option Nat:=λj=>if j=i then some 0 else none
 have d:inv i=some 0:=z0 rfl;have g:∀ j,j ≠ i->inv j=none:=λj h=>y0 h;have c:∀ j l,inv j=some l->j=i/\l=0:=λj l h=>by
  by_cases hj:j=i
  ·subst hj;rw[d] at h;cases h;exact⟨rfl,rfl⟩
  ·rw[g j hj] at h;cases h
 refine⟨v0,vs,M,L5 p m inv,A,_,m i,_,rfl,r.gh,r.ft,lA,ap,r.fg i,λa z=>aE d z,ArgsOk.of U,S,λA' s q v G' H' F' Fv o=>?_⟩;have hi:i<D.length:=(R1.mp N).1;have J:VI ⟨K,M,p,L5 p m inv,[some v0],λj a=>j=0/\m i a⟩ G' H' [some v0] [some (.io A')] (λj a=>j=0/\F' a):=by
  refine⟨o.gh,o.gg,o.gn,o.rs,lA,o.bh,λj a z=>o.fg a z.2,λj a z=>?_,λj l a y z=>by rw[y.1,z.1],λj a z=>A'.dom o.ap a z.2,λj s e=>?_,rfl,o.ft⟩
  ·rcases o.fi a z.2 with y|y
   ·exact aE d y
   ·cases e:L5 p m inv a with
    |none=>exact e
    |some u=>rw[lA a u e] at y;cases y
  ·cases j with
   | zero =>
    simp at e;subst e;refine⟨v0,rfl,?_,λa z=>?_,rfl⟩
    ·have:(λa=>0=0/\F' a)=F':=by funext a;simp
     rw[this];exact o.ap
    ·rcases o.fi a z.2 with y|y
     ·exact .inl ⟨rfl,y⟩
     ·exact .inr y
   |succ j=>simp at e
 have L:=r.leave (inv:=inv) (env2:=D.set i (some (reS w A'))) (λa b j ha hb=>by rw[(c a j ha).1,(c b j hb).1]) rfl rfl (λa u e n=>by show L5 p m inv a=_;rw[AE n];exact e)
  (λa j ha x z=>by rw[(c a j ha).1];exact z.2) (λa j ha=>by rw[(c a j ha).1,(c a j ha).2,O];rfl) J (λa j ha=>⟨A',by rw[(c a j ha).2];rfl⟩) (by simp) λj Y e=>by
   by_cases hj:j=i
   ·subst hj;rw[o5,z0 rfl,z0 hi] at e;cases e;refine .inr ⟨0,A,A',d,rfl,?_⟩;rcases hs with rfl|rfl
    ·exact .inl ⟨N,rfl⟩
    ·exact .inr ⟨N,rfl⟩
   ·rw[o5,y0 (λz=>hj z.symm)] at e;exact .inl ⟨g j hj,e⟩
 have X:RsX ⟨K,M,p,L5 p m inv,[some v0],λj a=>j=0/\m i a⟩ G' H' v Fv s (λj a=>j=0/\F' a):=⟨o.ok,λa z=>(o.fv a z).1,λa z=>(o.fv a z).2.1,λa z=>(o.fv a z).2.2.1,λj a z y=>(o.fv a z).2.2.2 y.2⟩
 exact k v G' H' _ Fv s _ L (T.trans o.gg) (X.leave (inv:=inv) r rfl) q
end
def MA:Option Sl->Option Sl
 |some (.own A)=>some (.io A)
 |s=>s
def U0(src:List (Option Nat))(env:En):En:=src.map λo=>match o with|some j=>MA ((env[j]?).getD none)|none=>none
def isIo:Option Sl->Bool
 |some (.io _)=>true
 |_=>false
def idxE(i:Nat):List (Option Nat)->Nat->Option Nat
 |[],_=>none
 |o::r,k=>if o=some i then some k else idxE i r (k+1)
def U9(src:List (Option Nat))(e:En)(i:Nat)(s:Option Sl):Option Sl :=
 match s with
 |some (.own A)=>(match idxE i src 0 with|some j=>(match e[j]? with|some (some (.io A'))=>some (.own A')|_=>none)|none=>some (.own A))
 |some (.io A)=>(match idxE i src 0 with|some j=>(match e[j]? with|some (some (.io A'))=>some (.io A')|_=>none)|none=>some (.io A))
 |s=>s
def J9(src:List (Option Nat))(e:En):Nat->En->En
 |_,[]=>[]
 |k,s::r=>U9 src e k s::J9 src e (k+1) r
def dA(src:List (Option Nat))(e1 e:En):En:=J9 src e 0 e1
theorem pD(src:List (Option Nat))(e:En):∀(k:Nat)(l:En)(i:Nat),(J9 src e k l)[i]?=(l[i]?).map (U9 src e (k+i))
 |_,[],i=>by simp[J9]
 |k,s::r,0=>by simp[J9]
 | k,s::r,i+1=>by
  have:=pD src e (k+1) r i;simp only[J9,List.getElem?_cons_succ,this];rw[show k+1+i=k+(i+1) by lia]
theorem XB:∀{src:List (Option Nat)}{k j:Nat},idxE i src k=some j->k<=j/\src[j-k]?=some (some i)
 |[],_,_,h=>by cases h
 | o::r,k,j,h=>by
  unfold idxE at h;by_cases e:o=some i
  ·rw[z0 e] at h;cases h;exact⟨Q0 _,by simp[e]⟩
  ·rw[y0 e] at h;obtain⟨b,a⟩:=XB h;refine⟨by lia,?_⟩;rw[show j-k=(j-(k+1))+1 by lia];simpa using a
theorem wH:∀{src:List (Option Nat)}{k:Nat},idxE i src k=none->∀ j:Nat,src[j]? ≠ some (some i)
 |[],_,_,j=>by simp
 | o::r,k,h,j=>by
  unfold idxE at h;by_cases e:o=some i
  ·rw[z0 e] at h;cases h
  ·rw[y0 e] at h;cases j with
   |zero=>simpa using e
   |succ j=>simpa using wH h j
theorem hE:∀(src:List (Option Nat)),(src.filterMap id).Nodup->∀ j a i:Nat,src[j]?=some (some i)->src[a]?=some (some i)->j=a
 |[],_,j,_,_,h,_=>by simp at h
 | none::r,h,j,a,i,h1,h2=>by
  cases j with
  |zero=>simp at h1
  | succ j =>
   cases a with
   |zero=>simp at h2
   |succ a=>rw[hE r (by simpa using h) j a i (by simpa using h1) (by simpa using h2)]
 | some x::r,h,j,a,i,h1,h2=>by
  have h':=LA.mp (show(x::r.filterMap id).Nodup by simpa using h);have nm:∀ k,r[k]?=some (some x)->False:=λk b=>h'.1 (List.mem_filterMap.mpr ⟨some x,u3 b,rfl⟩);cases j with
  | zero =>
   have hx:x=i:=by simpa using h1
   subst hx;cases a with
   |zero=>rfl
   |succ a=>exact(nm a (by simpa using h2)).elim
  | succ j =>
   cases a with
   | zero =>
    have hx:x=i:=by simpa using h2
    subst hx;exact(nm j (by simpa using h1)).elim
   |succ a=>rw[hE r h'.2 j a i (by simpa using h1) (by simpa using h2)]
def W9:Option Sl->Bool
 |some (.own _)=>true
 |_=>false
def ioLe:En->En->Prop
 |a::r,b::s=>(isIo a=isIo b/\W9 b=false)/\ioLe r s
 |[],[]=>True
 |_,_=>False
theorem NE(h:isIo x=true):∃ A,x=some (.io A):=by
 cases x with
 |none=>simp[isIo] at h
 | some y =>
  cases y with
  |io A=>exact⟨A,rfl⟩
  |_=>simp[isIo] at h
theorem ioLe.get:∀{a b:En}{j:Nat}{x:Option Sl},ioLe a b->a[j]?=some x->isIo x=true->∃ A,b[j]?=some (some (.io A))
 |[],_,_,_,_,e,_=>by simp at e
 |x::r,[],_,_,h,_,_=>h.elim
 | x::r,y::s,0,z,h,e,p=>by
  simp at e;subst e;have:=h.1.1;rw[p] at this;obtain⟨A,q⟩:=NE this.symm;exact⟨A,by simp[q]⟩
 | x::r,y::s,j+1,z,h,e,p=>by
  obtain⟨A,q⟩:=ioLe.get (j:=j) h.2 (by simpa using e) p;exact⟨A,by simpa using q⟩
theorem ioLe.got:∀{a b:En}{j:Nat}{x:Option Sl},ioLe a b->b[j]?=some x->(isIo x=true->∃ A,a[j]?=some (some (.io A)))/\W9 x=false
 |[],[],_,_,_,e=>by simp at e
 |[],_::_,_,_,h,e=>h.elim
 |x::r,[],_,_,h,_=>h.elim
 | x::r,y::s,0,z,h,e=>by
  simp at e;subst e;refine⟨λp=>?_,h.1.2⟩;have:=h.1.1;rw[p] at this;obtain⟨A,q⟩:=NE this;exact⟨A,by simp[q]⟩
 | x::r,y::s,j+1,z,h,e=>by
  obtain⟨p,q⟩:=ioLe.got (j:=j) (x:=z) h.2 (by simpa using e);exact⟨λt=>by obtain⟨A,u⟩:=p t;exact⟨A,by simpa using u⟩,q⟩
section
variable{B:Bs}{G H:Hp}{σ:St}{env:En}{F:Nat->Addr->Prop}
theorem VI.aside(I:VI B G H σ env F){p:Addr}{o:HO}(d:∀ xs,o ≠ .tup xs)(c:G p=none)(hf:∀ j,¬ F j p)(hb:B.H p=none):VI B G (upd H p o) σ env F where
 gh:=λa u e=>by rw[G0 (z3 e c)];exact I.gh a u e
 g0:=I.g0
 gn:=I.gn
 rs:=λa u e=>by rw[G0 (z3 e (I.b_r hb))];exact I.rs a u e
 rb:=I.rb
 bh:=λa u e=>by rw[G0 (z3 e hb)];exact I.bh a u e
 fg:=I.fg
 fr:=I.fr
 fd:=I.fd
 fo:=λj a z=>by rw[G0 (λe:a=p=>hf j (e ▸ z))];exact I.fo j a z
 sl:=λi s e=>by
  obtain⟨v,b,q⟩:=I.sl i s e;exact⟨v,b,q.mono (Same.refl _) λa u z y=>by rw[G0 (λe:a=p=>hf i (e ▸ z))];exact y⟩
 ln:=I.ln
 ft:=λa f e=>by
  by_cases z:a=p
  ·subst z;rw[S0] at e;exact absurd (W3 e) (d _)
  ·rw[G0 z] at e;exact I.ft a f e
def LcV(K:Frag)(src:List (Option Nat))(g:TG)(tif:TT)(te:TE)(ds:List PyData)(e1:En)(R:List PyData->En->Prop):Prop:=∃ J:Nat->List PyData->En->Prop,J 0 [] (U0 src e1)/\(∀ i ys e,J i ys e->ioLe (U0 src e1) e) /\
 (∀ i d ys e,ds[i]?=some d->J i ys e->∀ B':Bs,B'.K=K->EvG B' g (.st d) e λe2=>EvT B' tif e2 λb e3=>if b=true then Ev B' te e3 λy e4=>ys.length<=999999/\J (i+1) (ys++[y]) e4 else J (i+1) ys e3)/\∀ ys e,J ds.length ys e->R ys (dA src e1 e)
theorem cE{src:List (Option Nat)}{j:Nat}{s:Sl}(h:(U0 src env)[j]?=some (some s)):∃ i t,src[j]?=some (some i)/\env[i]?=some (some t)/\MA (some t)=some s:=by
 unfold U0 at h;rw[v2] at h;cases e:src[j]? with
 |none=>rw[e] at h;cases h
 | some o =>
  rw[e] at h;cases o with
  |none=>cases h
  | some i =>
   simp only[P8,Option.some.injEq] at h;cases e2:env[i]? with
   |none=>rw[e2] at h;cases h
   | some o2 =>
    rw[e2] at h;cases o2 with
    |none=>cases h
    |some t=>exact⟨i,t,rfl,e2,h⟩
theorem XE{src:List (Option Nat)}{i j:Nat}{v:V}(h:src[j]?=some (some i))(a : σ[i]?=some (some v)):(pick src σ)[j]?=some (some v):=by
 unfold pick;rw[v2,h];simp[a]
theorem IF (nd:(src.filterMap id).Nodup) (h:EvI B wi env λds W=>LcV B.K src g b2 te ds W λys X=>QO (.own (OL ys)) X):EvO B (tLC src wi g b2 te) env QO:=λσ G H F Q I k=>by
 refine h σ G H F _ I λJ G1 H1 F1 ds W I1 g1 it ⟨Jv,j0,a9,js,jd⟩ p S=>?_;let M:Nat->Bool:=λi=>match W[i]? with|some (some (.own _))=>true|some (some (.io _))=>true|_=>false
 let inv:Nat->Option Nat:=λi=>if M i=true then idxE i src 0 else none
 have D:∀ i j,inv i=some j->src[j]?=some (some i)/\M i=true:=λi j hi=>by
  by_cases hm:M i=true
  ·have f:idxE i src 0=some j:=by simpa[inv,hm] using hi
   have:=(XB f).2;exact⟨by simpa using this,hm⟩
  ·simp[inv,hm] at hi
 have a1:∀ i j,src[j]?=some (some i)->M i=true->inv i=some j:=λi j hs hm=>by
  have e0:inv i=idxE i src 0:=by simp[inv,hm]
  cases e:idxE i src 0 with
  |none=>exact absurd hs (wH e j)
  | some j' =>
   have:=(XB e).2;rw[e0,e,hE src nd j j' i hs (by simpa using this)]
 have inj:∀ i c j,inv i=some j->inv c=some j->i=c:=λi c j Y C=>by
  have a:=(D i j Y).1;rw[(D c j C).1] at a;simpa using a.symm
 have b5:∀ i,M i=true->∃ A,W[i]?=some (some (.own A))\/W[i]?=some (some (.io A)):=λi hm=>by
  cases e:W[i]? with
  |none=>simp[M,e] at hm
  | some o =>
   cases o with
   |none=>simp[M,e] at hm
   | some s =>
    cases s with
    |own A=>exact⟨A,.inl rfl⟩
    |io A=>exact⟨A,.inr rfl⟩
    |st d=>simp[M,e] at hm
    |scr ns=>simp[M,e] at hm
 have b1:∀ i ys e,Jv i ys e->∀ c j,inv c=some j->∃ A,e[j]?=some (some (.io A)):=λi ys e hj c j hi=>by
  obtain⟨hs,hm⟩:=D c j hi;obtain⟨A,N⟩:=b5 c hm;refine(a9 i ys e hj).get (x:=some (.io A)) ?_ rfl;unfold U0;rw[v2,hs];rcases N with N|N <;> simp[N,MA]
 -- between two turns
 let Wv:Nat->List V->St->Hp->Prop:=λi ys σI H=>∃ G2 F2 e env2 yd,VI B G2 H σ env2 F2/\Same G1 G2/\H p=some (.lst ys)/\Rps G2 ys yd/\G2 p=none/\(∀ j,¬ F2 j p)/\Jv i yd e/\σI.length=e.length/\env2.length=W.length /\
  (∀ j s,e[j]?=some (some s)->∃ v,σI[j]?=some (some v)/\((∃ d,s=.st d/\Rp G2 v d/\∀ i,inv i ≠ some j)\/(∃ ns a,s=.scr ns/\v=.ref a/\SqL B.K G2 a (ns.map V.int)/\∀ i,inv i ≠ some j) ∨
   ∃ i A,inv i=some j/\s=.io A/\σ[i]?=some (some v)/\(env2[i]?=some (some (.own A))\/env2[i]?=some (some (.io A))))) /\
  (∀ i,inv i=none->env2[i]?=W[i]?)/\(∀ i j,inv i=some j->∃ A0 A,e[j]?=some (some (.io A))/\((W[i]?=some (some (.own A0))/\env2[i]?=some (some (.own A)))\/(W[i]?=some (some (.io A0))/\env2[i]?=some (some (.io A)))))
 have hb:B.H p=none:=I1.no_b S;refine⟨λi m ys σI H=>m=ds.length-i/\i<=ds.length/\Wv i ys σI H,⟨ds.length,by simp,R4 _,?_⟩,?_⟩
 ·refine⟨G1,F1,U0 src W,W,[],I1.aside (λ_ z=>nomatch z) (I1.no_g S) (I1.no_f S) hb,Same.refl _,S0,.nil,I1.no_g S,I1.no_f S,j0,by simp[pick,U0],rfl,λj s e=>?_,λ_ _=>rfl,λi j hi=>?_⟩
  ·obtain⟨i,t,hs,ht,hp⟩:=cE e;obtain⟨v,hv,q⟩:=I1.sl i t ht;refine⟨v,XE hs hv,?_⟩;cases t with
   | st d =>
    cases hp;refine .inl ⟨d,rfl,q.1,λc f=>?_⟩;have a:=(D c j f).1;rw[hs] at a;have:i=c:=by simpa using a
    subst this;have:=(D i j f).2;simp[M,ht] at this
   | scr ns =>
    cases hp;obtain⟨⟨a,ea,sq⟩,_⟩:=q;refine .inr (.inl ⟨ns,a,rfl,ea,sq,λc f=>?_⟩);have a:=(D c j f).1;rw[hs] at a;have:i=c:=by simpa using a
    subst this;have:=(D i j f).2;simp[M,ht] at this
   |own A=>cases hp;exact .inr (.inr ⟨i,A,a1 i j hs (by simp[M,ht]),rfl,hv,.inl ht⟩)
   |io A=>cases hp;exact .inr (.inr ⟨i,A,a1 i j hs (by simp[M,ht]),rfl,hv,.inr ht⟩)
  ·obtain⟨hs,hm⟩:=D i j hi;obtain⟨A,N⟩:=b5 i hm;refine⟨A,A,?_,?_⟩
   ·unfold U0;rw[v2,hs];rcases N with N|N <;> simp[N,MA]
   ·rcases N with N|N
    ·exact .inl ⟨N,N⟩
    ·exact .inr ⟨N,N⟩
 ·rintro i m ys σI H2 ⟨rfl,hi,G2,F2,e,env2,yd,I2,g2,a5,ry,ga,fa,jv,ln,b9,sl,un,mv⟩;refine⟨a5,?_⟩;by_cases hlt:i<ds.length
  ·refine .inr ⟨it.go i G2 H2 g2 I2.gh hlt,Wv (i+1),λa4 c3 H' hw=>⟨ds.length-(i+1),by lia,rfl,hlt,hw⟩,λx H3 y=>?_⟩;obtain⟨G3,o⟩:=it.yld i G2 H2 x H3 _ g2 I2.gh I2.ft (z1 hlt) y;obtain⟨I3,X3⟩:=I2.out o;have a8:=o.hh _ _ a5;have b0:=fa;have c0:G3 p=none:=by
    cases e':G3 p with
    |none=>rfl
    | some u =>
     rcases o.gn p u e' with q|q
     ·rw[ga] at q;cases q
     ·rw[a5] at q;cases q
   have c1:∀ j s,e[j]?=some (some s)->∃ v,σI[j]?=some (some v)/\((∃ d,s=.st d/\Rp G3 v d/\∀ i,inv i ≠ some j)\/(∃ ns a,s=.scr ns/\v=.ref a/\SqL B.K G3 a (ns.map V.int)/\∀ i,inv i ≠ some j) ∨
     ∃ i A,inv i=some j/\s=.io A/\σ[i]?=some (some v)/\(env2[i]?=some (some (.own A))\/env2[i]?=some (some (.io A)))):=λj s es=>by
    obtain⟨v,hv,q⟩:=sl j s es;refine⟨v,hv,?_⟩;rcases q with ⟨d,a7,r,n⟩|⟨ns,a,a7,b6,r,n⟩|q
    ·exact .inl ⟨d,a7,r.same o.gg,n⟩
    ·exact .inr (.inl ⟨ns,a,a7,b6,o.gg.seq r,n⟩)
    ·exact .inr (.inr q)
   have E3:=I3.enter (inv:=inv) (σI:=σI) (envI:=e) inj ln c1
   -- back from the turn
   have fin:∀(T:St)(G4 H4:Hp)(F4:Nat->Addr->Prop)(e4:En)(a2:List PyData)(a4:List V)(o4:HO),VI ⟨B.K,G3,H3,L5 H3 F2 inv,σI,λj a=>∃ i,inv i=some j/\F2 i a⟩ G4 H4 T e4 F4->Jv (i+1) a2 e4->Rps G4 a4 a2 ->
     Wv (i+1) a4 T (upd H4 p (.lst a4))/\H4 p=some (.lst ys):=by
    intro T G4 H4 F4 e4 a2 a4 o4 I4 j4 r4;have a0:=b1 (i+1) a2 e4 j4;have c2:H4 p=some (.lst ys):=I4.rs p _ (by show L5 H3 F2 inv p=_;rw[AE (λc _ _=>b0 c)];exact a8);have b4:G4 p=none:=by
     cases e':G4 p with
     |none=>rfl
     | some u =>
      rcases I4.gn p u e' with q|q
      ·change G3 p=_ at q;rw[c0] at q;cases q
      ·change H3 p=_ at q;rw[a8] at q;cases q
    -- the slots of the outer frame
    let E:En:=(List.range env2.length).map λc=>match inv c with
     |some j=>(match env2[c]?,e4[j]? with|some (some (.own _)),some (some (.io A))=>some (.own A)|some (some (.io _)),some (some (.io A))=>some (.io A)|_,_=>none)
     |none=>(env2[c]?).getD none
    have O:∀ c,c<env2.length->E[c]?=some (match inv c with
     |some j=>(match env2[c]?,e4[j]? with|some (some (.own _)),some (some (.io A))=>some (.own A)|some (some (.io _)),some (some (.io A))=>some (.io A)|_,_=>none)
     |none=>(env2[c]?).getD none):=λc hl=>by
     simp only[E,v2];rw[z1 (by simpa using hl)];simp
    have L:=I3.leave (inv:=inv) (env2:=E) inj rfl rfl (λa u q n=>by show L5 H3 F2 inv a=_;rw[AE n];exact q) (λc j f a z=>by obtain⟨U,Y,C⟩:=z;rw[inj c U j f Y];exact C)
     (λc j f=>by
      obtain⟨A0,A,Y,C⟩:=mv c j f;obtain⟨v,hv,q⟩:=sl j _ Y;rcases q with ⟨d,q,_⟩|⟨ns,a,q,_⟩|⟨U,b7,q1,q2,q3,_⟩
      ·cases q
      ·cases q
      ·rw[inj c U j f q1];show σI[j]?=_;rw[hv,q3]) I4 a0 (by simp[E]) (λc s es=>by
      have hl:c<env2.length:=by
       have:=(R1.mp es).1;simpa[E] using this
      rw[O c hl] at es;cases f:inv c with
      | none =>
       refine .inl ⟨rfl,?_⟩;rw[f] at es;simp only[Option.some.injEq] at es;cases q:env2[c]? with
       |none=>rw[q] at es;cases es
       |some u=>rw[q] at es;simp at es;rw[es]
      | some j =>
       rw[f] at es;obtain⟨A',R⟩:=a0 c j f;obtain⟨A0,A,Y,C⟩:=mv c j f;simp only[R] at es;rcases C with ⟨_,C⟩|⟨_,C⟩
       ·rw[C] at es;simp only[Option.some.injEq] at es;exact .inr ⟨j,A,A',rfl,R,.inl ⟨C,es.symm⟩⟩
       ·rw[C] at es;simp only[Option.some.injEq] at es;exact .inr ⟨j,A,A',rfl,R,.inr ⟨C,es.symm⟩⟩)
    have b3:∀ j,¬ (match inv j with|some j=>F4 j p|none=>F2 j p):=λj z=>by
     cases hj:inv j with
     |none=>rw[hj] at z;exact b0 j z
     | some l =>
      rw[hj] at z;obtain⟨A',R⟩:=a0 j l hj;obtain⟨v,_,q⟩:=I4.sl l _ R;rcases q.2.1 p z with ⟨U,_,q⟩|q
      ·exact b0 U q
      ·change H3 p=_ at q;rw[a8] at q;cases q
    refine⟨⟨G4,_,e4,E,a2,L.aside (λ_ z=>nomatch z) b4 b3 hb,g2.trans (o.gg.trans I4.g0),S0,r4,b4,b3,j4,I4.ln,by simp[E,b9],λj s es=>?_,λc f=>?_,λc j f=>?_⟩,c2⟩
    ·obtain⟨v,hv,q⟩:=I4.sl j s es;refine⟨v,hv,?_⟩;have a3:(∀ A,s ≠ .io A)->∀ c,inv c ≠ some j:=λhn c f=>by
      obtain⟨A,N⟩:=a0 c j f;rw[es] at N;exact hn A (by simpa using N)
     cases s with
     |st d=>exact .inl ⟨d,rfl,q.1,a3 (by intro A z;cases z)⟩
     | scr ns =>
      obtain⟨⟨a,ea,sq⟩,_⟩:=q;exact .inr (.inl ⟨ns,a,rfl,ea,sq,a3 (by intro A z;cases z)⟩)
     | own A =>
      have:=((a9 _ _ _ j4).got es).2;simp[W9] at this
     | io A =>
      obtain⟨A0,h0⟩:=((a9 _ _ _ j4).got es).1 rfl;obtain⟨c,t,hs,ht,hp⟩:=cE h0;have hm:M c=true:=by
       cases t with
       |own A=>simp[M,ht]
       |io A=>simp[M,ht]
       |st d=>cases hp
       |scr ns=>cases hp
      have f:=a1 c j hs hm;obtain⟨B0,A1,Y,C⟩:=mv c j f;have hl:c<env2.length:=by
       rcases C with ⟨_,C⟩|⟨_,C⟩ <;> exact(R1.mp C).1
      refine .inr (.inr ⟨c,A,f,rfl,?_,?_⟩)
      ·have hS : σI[j]?=some (some v):=q.2.2;obtain⟨v',b8,q'⟩:=sl j _ Y;rcases q' with ⟨d,q',_⟩|⟨ns,a,q',_⟩|⟨U,b7,q1,q2,q3,_⟩
       ·cases q'
       ·cases q'
       ·rw[inj c U j f q1,q3,← b8,hS]
      ·rw[O c hl,f];simp only[es];rcases C with ⟨_,C⟩|⟨_,C⟩
       ·rw[C];exact .inl rfl
       ·rw[C];exact .inr rfl
    ·by_cases hl:c<env2.length
     ·rw[O c hl,f];simp only;rw[← un c f];rw[z1 hl];rfl
     ·rw[F7.mpr (by simp[E];lia),← un c f,F7.mpr (by lia)]
    ·obtain⟨A',R⟩:=a0 c j f;obtain⟨A0,A,Y,C⟩:=mv c j f;have hl:c<env2.length:=by
      rcases C with ⟨_,C⟩|⟨_,C⟩ <;> exact(R1.mp C).1
     refine⟨A0,A',R,?_⟩;rw[O c hl,f];simp only[R];rcases C with ⟨Z,C⟩|⟨Z,C⟩
     ·rw[C];exact .inl ⟨Z,rfl⟩
     ·rw[C];exact .inr ⟨Z,rfl⟩
   have hd:ds[i]?=some ds[i]:=z1 hlt;refine js i _ yd e hd jv ⟨B.K,G3,H3,L5 H3 F2 inv,σI,λj a=>∃ i,inv i=some j/\F2 i a⟩ rfl σI G3 H3 _ x _ _ E3 (R5 o.ok.1) λT G4 H4 F4 e4 I4 g4 q4=>?_;refine q4 T G4 H4 F4 _ I4 λb G5 H5 F5 e5 I5 g5 q5=>?_;cases b with
   | false =>
    rw[y0 Y1] at q5 ⊢;obtain⟨w,ac⟩:=fin T G5 H5 F5 e5 yd ys (.lst ys) I5 q5 (ry.same (o.gg.trans (g4.trans g5)));have:upd H5 p (.lst ys)=H5:=by
     funext b
     unfold upd;split
     ·rename_i hb';rw[hb'];exact ac.symm
     ·rfl
    rw[this] at w;exact w
   | true =>
    rw[z0 rfl] at q5 ⊢;refine q5 T G5 H5 F5 _ I5 λy G6 H6 F6 d6 e6 I6 g6 r6 q6=>?_;obtain⟨w,ac⟩:=fin T G6 H6 F6 e6 (yd++[d6]) (ys++[y]) (.lst ys) I6 q6.2 ((ry.same (o.gg.trans (g4.trans (g5.trans g6)))).append (.cons r6 .nil));exact⟨ac,by rw[ry.length];exact big (by have:=q6.1;lia),w⟩
  ·have ei:i=ds.length:=by lia
   subst ei;refine .inl ⟨it.stop _ G2 H2 g2 I2.gh rfl,?_⟩;have q:=jd yd e jv;have eb:dA src W e=env2:=by
    apply y6;intro c;unfold dA;rw[pD,Nat.zero_add];have P:M c=false->env2[c]?=W[c]?:=λhm=>un c (by simp[inv,hm]);cases X:W[c]? with
    | none =>
     rw[P (by simp[M,X]),X];rfl
    | some o =>
     cases o with
     |none=>rw[P (by simp[M,X]),X];rfl
     | some t =>
      have a6:∀ A,(t=.own A\/t=.io A)->M c=true:=λA h=>by rcases h with rfl|rfl <;> simp[M,X]
      cases t with
      |st d=>rw[P (by simp[M,X]),X];rfl
      |scr ns=>rw[P (by simp[M,X]),X];rfl
      | own A =>
       have hm:=a6 A (.inl rfl);simp only[P8,U9];cases e3:idxE c src 0 with
       | none =>
        have:inv c=none:=by simp[inv,e3]
        rw[un c this,X]
       | some j =>
        have f:inv c=some j:=by simp[inv,hm,e3]
        obtain⟨A0,A1,Y,C⟩:=mv c j f;simp only[Y];rcases C with ⟨Z,C⟩|⟨Z,C⟩
        ·rw[C]
        ·rw[X] at Z;cases Z
      | io A =>
       have hm:=a6 A (.inr rfl);simp only[P8,U9];cases e3:idxE c src 0 with
       | none =>
        have:inv c=none:=by simp[inv,e3]
        rw[un c this,X]
       | some j =>
        have f:inv c=some j:=by simp[inv,hm,e3]
        obtain⟨A0,A1,Y,C⟩:=mv c j f;simp only[Y];rcases C with ⟨Z,C⟩|⟨Z,C⟩
        ·rw[X] at Z;cases Z
        ·rw[C]
   rw[eb] at q;refine k (.ref p) G2 H2 F2 (· = p) (.own (OL yd)) env2 I2 (g1.trans g2) ⟨⟨p,ys,rfl,a5,ry,λb=>Iff.rfl⟩,λa z=>by rw[z];exact hb,λa z=>by rw[z];exact ga,λa z=>by rw[z];exact⟨_,a5⟩,λj a z=>by rw[z];exact fa j⟩ q
end
def noIo(e:En):Bool:=e.all λs=>!isIo s
theorem QN{e:En}{j:Nat}{x:Option Sl}(h:noIo e=true)(hx:e[j]?=some x):isIo x=false:=by
 have:=R3.mp h x (u3 hx);simpa using this
theorem jD(h:noIo (U0 src b)=true):dA src b e=b:=by
 apply y6;intro i;unfold dA;rw[pD,Nat.zero_add];cases e2:b[i]? with
 |none=>rfl
 | some o =>
  have a:∀ A,(o=some (.own A)\/o=some (.io A))->idxE i src 0=none:=λA c=>by
   cases e3:idxE i src 0 with
   |none=>rfl
   | some j =>
    have hs:=(XB e3).2;have:(U0 src b)[j]?=some (some (.io A)):=by
     unfold U0;rw[v2,show src[j]?=some (some i) by simpa using hs];rcases c with rfl|rfl <;> simp[e2,MA]
    have:=QN h this;simp[isIo] at this
  cases o with
  |none=>rfl
  | some t =>
   cases t with
   |st d=>rfl
   |scr ns=>rfl
   |own A=>simp only[P8,U9,a A (.inl rfl)]
   |io A=>simp only[P8,U9,a A (.inr rfl)]
def stO:Option PyData->Option Sl:=Option.map Sl.st
theorem isIo_stO:isIo (stO o)=false:=by cases o <;> rfl
theorem cB:W9 (stO o)=false:=by cases o <;> rfl
theorem dE:∀ x∈U0 src a,W9 x=false:=by
 intro x hx;unfold U0 at hx;obtain⟨o,_,rfl⟩:=T1.mp hx;cases o with
 |none=>rfl
 | some j =>
  dsimp only;cases (a[j]?).getD none with
  |none=>rfl
  |some t=>cases t <;> rfl
theorem pC:∀{e:En},(∀ x∈e,W9 x=false)->ioLe e e
 |[],_=>True.intro
 |x::r,h=>⟨⟨rfl,h x E4⟩,pC λy a=>h y (Q3 _ a)⟩
section
variable{B:Bs}{env:En}{g:TG}{tif:TT}{te:TE}{K:Frag}{src:List (Option Nat)}{ds:List PyData}{e1:En}{R:List PyData->En->Prop}
theorem tL(f:PyData->PyData)(p:PyData->Bool)(m:noIo (U0 src e1)=true)(B:ds.length<=999999)
  (h:∀ d∈ds,∀ a:Bs,a.K=K->EvT a tif (some (.st d)::U0 src e1) λb l=>b=p d/\l=some (.st d)::U0 src e1/\(b=true->Ev a te (some (.st d)::U0 src e1) λy n=>y=f d/\n=some (.st d)::U0 src e1))
  (r:R ((ds.filter p).map f) e1):LcV K (none::src) (Z2 0) tif te ds e1 R:=by
 have c:noIo (U0 (none::src) e1)=true:=by
  show((none::U0 src e1).all λs=>!isIo s)=true;rw[List.all_cons];exact(N4 _ _).mpr ⟨rfl,m⟩
 refine⟨λi ys e=>ys=((ds.take i).filter p).map f/\∃ o,e=stO o::U0 src e1,⟨by simp,none,rfl⟩,?_,?_,?_⟩
 ·rintro i ys e ⟨_,o,rfl⟩;exact⟨⟨isIo_stO.symm,cB⟩,pC dE⟩
 ·rintro i d ys e hd ⟨rfl,o,rfl⟩ a x;have hi:i<ds.length:=(R1.mp hd).1;have q:ds.take (i+1)=ds.take i++[d]:=by rw[Q7,hd];rfl
  refine U2 ?_;show EvT a tif (some (.st d)::U0 src e1) _;intro σ G H F Q I k;refine h d (u3 hd) a x σ G H F Q I λb G' H' F' l g g' ⟨hb,w,u⟩=>k b G' H' F' l g g' ?_;subst w;by_cases hp:b=true
  ·rw[z0 hp];intro σ G H F Q I k;refine u hp σ G H F Q I λv G' H' F' d' n g g' t ⟨z,j⟩=>k v G' H' F' d' n g g' t ?_;subst z j;refine⟨?_,?_,some d,rfl⟩
   ·have:=List.length_filter_le p (ds.take i);simp only[N1];have A:(ds.take i).length<=i:=by simp;lia
    lia
   ·rw[q,List.filter_append,l8];have:p d=true:=by rw[← hb];exact hp
    simp[this]
  ·rw[y0 hp];refine⟨?_,some d,rfl⟩;rw[q,List.filter_append,l8];have:p d=false:=by rw[← hb];simpa using hp
   simp[this]
 ·rintro ys e ⟨rfl,o,rfl⟩;rw[jD c,v8];exact r
theorem UD{α:Type}(xs:List α):xs.filter (λ_=>true)=xs:=by simp
theorem aF(f:PyData->PyData)(b:noIo (U0 src e1)=true)(j:ds.length<=999999)
  (h:∀ d∈ds,∀ a:Bs,a.K=K->Ev a te (some (.st d)::U0 src e1) λy c=>y=f d/\c=some (.st d)::U0 src e1)
  (g:R (ds.map f) e1):LcV K (none::src) (Z2 0) tYes te ds e1 R :=
 tL f (λ_=>true) b j (λd hd a i=>L9 ⟨rfl,rfl,λ_=>h d hd a i⟩) (by rw[UD];exact g)
theorem jF{w:Frag}{α:Type}{xs:List α}{fa fb : α->PyData}(f : α->PyData)(p : α->Bool)(m:noIo (U0 src e1)=true)(D:xs.length<=999999)
  (h:∀ x∈xs,∀ a:Bs,a.K=K->EvT a tif (some (.st (fa x))::some (.st (fb x))::U0 src e1) λb l=>b=p x/\l=some (.st (fa x))::some (.st (fb x))::U0 src e1/\(b=true->Ev a te (some (.st (fa x))::some (.st (fb x))::U0 src e1) λy n=>y=f x/\n=some (.st (fa x))::some (.st (fb x))::U0 src e1))
  (r:R ((xs.filter p).map f) e1):LcV K (none::none::src) (gTup w 2 (n9 (Z2 0) (n9 (Z2 1) gNil))) tif te (xs.map λx=>.tuple [fa x,fb x]) e1 R:=by
 have c:noIo (U0 (none::none::src) e1)=true:=by
  show((none::none::U0 src e1).all λs=>!isIo s)=true;rw[List.all_cons,List.all_cons];exact(N4 _ _).mpr ⟨rfl,(N4 _ _).mpr ⟨rfl,m⟩⟩
 refine⟨λi ys e=>ys=((xs.take i).filter p).map f/\∃ o o',e=stO o::stO o'::U0 src e1,⟨by simp,none,none,rfl⟩,?_,?_,?_⟩
 ·rintro i ys e ⟨_,o,o',rfl⟩;exact⟨⟨isIo_stO.symm,cB⟩,⟨isIo_stO.symm,cB⟩,pC dE⟩
 ·rintro i d ys e hd ⟨rfl,o,o',rfl⟩ a A;rw[v2] at hd;cases hx:xs[i]? with
  |none=>rw[hx] at hd;cases hd
  | some x =>
   rw[hx] at hd;cases hd;have hi:i<xs.length:=(R1.mp hx).1;have q:xs.take (i+1)=xs.take i++[x]:=by rw[Q7,hx];rfl
   refine BI rfl (fD (U2 (fD (U2 (tH ?_)))));show EvT a tif (some (.st (fa x))::some (.st (fb x))::U0 src e1) _;intro σ G H F Q I k;refine h x (u3 hx) a A σ G H F Q I λb G' H' F' l g g' ⟨hb,z,u⟩=>k b G' H' F' l g g' ?_;subst z;by_cases hp:b=true
   ·rw[z0 hp];intro σ G H F Q I k;refine u hp σ G H F Q I λv G' H' F' d' n g g' t ⟨B,j⟩=>k v G' H' F' d' n g g' t ?_;subst B j;refine⟨?_,?_,some _,some _,rfl⟩
    ·have:=List.length_filter_le p (xs.take i);simp only[N1];have C:(xs.take i).length<=i:=by simp;lia
     lia
    ·rw[q,List.filter_append,l8];have:p x=true:=by rw[← hb];exact hp
     simp[this]
   ·rw[y0 hp];refine⟨?_,some _,some _,rfl⟩;rw[q,List.filter_append,l8];have:p x=false:=by rw[← hb];simpa using hp
    simp[this]
 ·rintro ys e ⟨rfl,o,o',rfl⟩;rw[jD c];simpa using r
end
section
variable{R:Sl->Prop}
theorem rR{g:Int->Int->Int}{i j:Int}(h:R (.st (.int (g i j)))):Op2 (rI0 λi j=>.int (g i j)) (.int i) (.int j) R:=λG H c d Q gh a b k=>by
 cases a;cases b;exact⟨i,j,rfl,rfl,k _ _ _ _ _ (Out.refl gh (.int _)) h⟩
theorem KQ{g:Int->Int->Bool}{i j:Int}(h:R (.st (.bool (g i j)))):Op2 (rI0 λi j=>.bl (g i j)) (.int i) (.int j) R:=λG H c d Q gh a b k=>by
 cases a;cases b;exact⟨i,j,rfl,rfl,k _ _ _ _ _ (Out.refl gh (.bl _)) h⟩
theorem wT{C:Int->Int->Prop}{g:Int->Int->Int}{i j:Int}(c:C i j)(h:R (.st (.int (g i j)))):Op2 (rI C λi j=>.int (g i j)) (.int i) (.int j) R:=λG H d f Q gh a b k=>by
 cases a;cases b;exact⟨i,j,rfl,rfl,c,k _ _ _ _ _ (Out.refl gh (.int _)) h⟩
theorem aO(h:R (.st (.bool (decide (i=j))))):Op2 rEq (.int i) (.int j) R:=λG H c d Q gh a b k=>by
 cases a;cases b;exact RE (k _ _ _ _ _ (Out.refl gh (.bl _)) h)
theorem lP(h:R (.st (.bool (!decide (i=j))))):Op2 rNe (.int i) (.int j) R:=λG H c d Q gh a b k=>by
 cases a;cases b;exact AK (k _ _ _ _ _ (Out.refl gh (.bl _)) h)
theorem yK(i j:Str):decide (V.str i=V.str j)=decide (i=j):=by
 by_cases h:i=j
 ·subst h;simp
 ·simp[h]
theorem vP(h:R (.st (.bool (decide (i=j))))):Op2 rEq (.str i) (.str j) R:=λG H c d Q gh a b k=>by
 cases a;cases b;refine⟨rfl,?_⟩;rw[yK];exact k _ _ _ _ _ (Out.refl gh (.bl _)) h
theorem rF(a:X0 x=true)(b:X0 y=true)(hd:x.depth<=60)(h:R (.st (.bool (PyData.eqv x y)))):Op2 rEqD x y R:=λG H f g Q gh c d k =>
 ⟨x,y,(c.rep a).same gh,(d.rep b).same gh,a,b,hd,k _ _ _ _ _ (Out.refl gh (.bl _)) h⟩
theorem TC(b:X0 x=true)(c:plainDs es=true)(hd:x.depth<=60)(h:R (.st (.bool (if a then !es.any (λz=>PyData.eqv z x) else es.any (λz=>PyData.eqv z x))))):Op2 (rInD a) x (.list es) R:=λG H g i Q gh d f k =>
 ⟨x,es,(d.rep b).same gh,.inl ((f.rep (by simpa[X0] using c)).same gh),b,c,hd,k _ _ _ _ _ (Out.refl gh (.bl _)) h⟩
theorem GS(b:X0 x=true)(c:plainDs es=true)(hd:x.depth<=60)(h:R (.st (.bool (if a then !es.any (λz=>PyData.eqv z x) else es.any (λz=>PyData.eqv z x))))):Op2 (rInD a) x (.tuple es) R:=λG H g i Q gh d f k =>
 ⟨x,es,(d.rep b).same gh,.inr ((f.rep (by simpa[X0] using c)).same gh),b,c,hd,k _ _ _ _ _ (Out.refl gh (.bl _)) h⟩
theorem Rps.at(r:Rps G vs ds)(h:Y0 ds i=some d):∃ v,Y0 vs i=some v/\Rp G v d:=by
 unfold Y0 at h ⊢;rw[r.length];cases e:ixN ds.length i with
 |none=>rw[e] at h;cases h
 | some j =>
  rw[e] at h;exact r.get h
theorem mK(hd:Y0 ds i=some d)(h:R (.st d)):Op2 (Y5 K) (.list ds) (.int i) R:=λG H g j Q gh b c k=>by
 cases c;cases b with
 | lst ha rs =>
  obtain⟨v,a,f⟩:=rs.at hd;exact uC (gh _ _ ha) a (k _ _ _ _ _ (Out.refl gh f) h)
theorem MM(hd:Y0 ds i=some d)(h:R (.st d)):Op2 (Y5 K) (.tuple ds) (.int i) R:=λG H g j Q gh b c k=>by
 cases c;cases b with
 | tup ha rs =>
  obtain⟨v,a,f⟩:=rs.at hd;exact HN (gh _ _ ha) a (k _ _ _ _ _ (Out.refl gh f) h)
def isNone:PyData->Bool
 | .none=>true
 |_=>false
theorem kK(r:Rp G v x):decide (v=.non)=isNone x:=by cases r <;> rfl
theorem sR(h:R (.st (.bool (isNone x)))):Op2 rIsN x .none R:=λG H c d Q gh a b k=>by
 cases b;refine⟨rfl,?_⟩;rw[kK a];exact k _ _ _ _ _ (Out.refl gh (.bl _)) h
theorem IE(d:xs.length+ys.length<=1000000)(h:R (.own (OL (xs++ys)))):Op2 rCat (.list xs) (.list ys) R:=λG H f g Q gh b c k=>by
 cases b with
 | lst ha ra =>
  cases c with
  | lst hb rb =>
   refine gS (gh _ _ ha) (gh _ _ hb) ?_ λp a=>k _ _ _ _ _ (Out.newL gh a (ra.append rb)) h;rw[ra.length,rb.length];exact V5 (big d)
theorem nM(a : -(2 ^ 63)<=n)(c:n<2 ^ 63)(g:xs.length * n.toNat<=1000000)(h:R (.own (OL (List.replicate n.toNat xs).flatten))):Op2 rRep (.list xs) (.int n) R:=λG H j i Q gh b f k=>by
 cases f;cases b with
 | lst ha ra =>
  refine⟨_,n,_,rfl,rfl,gh _ _ ha,a,c,?_,λp d=>k _ _ _ _ _ (Out.newL gh d (ra.rep _)) h⟩;rw[ra.length];exact V5 (big g)
theorem TR(h:R (.st (.int xs.length))):OpA (rLen K) [.list xs] R:=λG H vs Q gh rs k=>by
 cases rs with
 | cons r t =>
  cases t;cases r with
  | lst ha ra =>
   refine hI (gh _ _ ha) ?_;rw[ra.length];exact k _ _ _ _ _ (Out.refl gh (.int _)) h
theorem qS(h:R (.st (.int xs.length))):OpA (rLen K) [.tuple xs] R:=λG H vs Q gh rs k=>by
 cases rs with
 | cons r t =>
  cases t;cases r with
  | tup ha ra =>
   refine MJ (gh _ _ ha) ?_;rw[ra.length];exact k _ _ _ _ _ (Out.refl gh (.int _)) h
theorem iS(h:R (.st (.int (if j > i then j else i)))):OpA SB [.int i,.int j] R:=λG H vs Q gh rs k=>by
 obtain rfl:vs=[V.int i,V.int j]:=Rps.ints_inv (ns:=[i,j]) rs;exact xI (k _ _ _ _ _ (Out.refl gh (.int _)) h)
theorem aQ(h:R (.st (.int (if j<i then j else i)))):OpA kB [.int i,.int j] R:=λG H vs Q gh rs k=>by
 obtain rfl:vs=[V.int i,V.int j]:=Rps.ints_inv (ns:=[i,j]) rs;exact mI (k _ _ _ _ _ (Out.refl gh (.int _)) h)
theorem MD(a:ns ≠ [])(h:∀ m,r8 ns m->R (.st (.int m))):OpA (K9 K) [.list (ns.map .int)] R:=λG H vs Q gh rs k=>by
 cases rs with
 | cons r t =>
  cases t;cases r with
  | lst ha ra =>
   have:=Rps.ints_inv ra;subst this;exact⟨_,ns,rfl,.inl (SqL.of (gh _ _ ha)),a,λm hm=>k _ _ _ _ _ (Out.refl gh (.int _)) (h m hm)⟩
end
section
variable{B:Bs}{env:En}{QO:Sl->En->Prop}{Q':PyData->En->Prop}{te tl th:TE}{K:Frag}
theorem WJ{i:Int}{R:Int->Prop}(h:R i):∃ j,PyData.int i=.int j/\R j:=⟨i,rfl,h⟩
end
def U7:PyData->Bool
 | .none | .bool _ | .int _ | .str _=>true
 |_=>false
theorem bC(r:Rp G v d)(h:U7 d=true):Rp G' v d:=by
 cases r with
 |non=>exact .non
 |bl b=>exact .bl b
 |int i=>exact .int i
 |str x=>exact .str x
 |_=>simp[U7] at h
def Has(env:En)(i:Nat)(A:Own):Prop:=env[i]?=some (some (.own A))\/env[i]?=some (some (.io A))
section
variable{B:Bs}{env:En}{QO:Sl->En->Prop}{Q':PyData->En->Prop}{QT:Bool->En->Prop}{QE:En->Prop}{te ta tb tk:TE}{K:Frag}{i:Nat}
theorem VI.has(I:VI B G H σ env F)(h:Has env i A):∃ v,σ[i]?=some (some v)/\A.P G H v (F i):=by
 rcases h with h|h
 ·obtain⟨v,a,q⟩:=I.sl i _ h;exact⟨v,a,q.1⟩
 ·obtain⟨v,a,q⟩:=I.sl i _ h;exact⟨v,a,q.1⟩
theorem VI.moment(I:VI B G H σ env F)(i:Same G c)(o:Out c H v d H3 s Fv):∃ g,Same G g/\VI B g H3 σ env F:=by
 refine⟨λa=>if H a=none then d a else G a,λa u e=>?_,I.grow (λa u e=>?_) (λa u e=>?_) o.hh (λa u e=>?_) λa b e=>?_⟩
 ·show(if H a=none then d a else G a)=some u;rw[y0 (by rw[I.gh a u e];simp)];exact e
 ·rw[y0 (by rw[I.gh a u e];simp)];exact e
 ·by_cases h:H a=none
  ·rw[z0 h] at e;exact o.gh a u e
  ·rw[y0 h] at e;exact o.hh _ _ (I.gh a u e)
 ·by_cases h:H a=none
  ·exact .inr h
  ·rw[y0 h] at e;exact .inl e
 ·have f1:FT c H:=λa b e=>i _ _ (I.ft a b e);by_cases h:H a=none
  ·rw[z0 h];exact o.ft f1 a b e
  ·rw[y0 h];obtain⟨u,f⟩:=KP h;have:=o.hh _ _ f;rw[e] at this;exact I.ft a b (by rw[f,← this])
theorem bK(g:Has env i D)(h:Ev B tb env λy c=>∃ A dx,Has c i A/\Frz A dx/\Op2 r dx y λs=>∃ d,s=.st d/\U7 d=true/\Q' d c):Ev B (tOp r (tVar i) tb) env Q':=λσ G H F Q I k=>by
 obtain⟨v,f,_⟩:=I.has g;refine⟨v,f,h σ G H F _ I λu z H2 F2 y c a C m ⟨A,dx,p,t,q⟩=>?_⟩;obtain⟨E,b,ap⟩:=a.has p;rw[f] at b;cases b;refine q (jn z H2 (F2 i)) H2 v u Q (R9 a.gh) (t _ _ _ _ ap (a.fg i) a.gh) (m.same (m4 (a.fg i))) λw J H3 s Fv o ⟨d,es,hs,n⟩=>?_;subst es;obtain⟨x,j,l⟩:=a.moment (m4 (a.fg i)) o;exact k w x H3 F2 d c l (C.trans j) (bC o.ok.1 hs) n
theorem ES(g:Has env i A)(j:Frz A dx)(h:OpA r [dx] λs=>∃ d,s=.st d/\U7 d=true/\Q' d env):Ev B (tCB r (M2 (tVar i) tNil)) env Q':=λσ G H F Q I k=>by
 obtain⟨v,a,ap⟩:=I.has g;refine⟨v,a,h (jn G H (F i)) H [v] Q (R9 I.gh) (.cons (j _ _ _ _ ap (I.fg i) I.gh) .nil) λw m H3 s Fv o ⟨d,es,hs,f⟩=>?_⟩;subst es;obtain⟨l,b,c⟩:=I.moment (m4 (I.fg i)) o;exact k w l H3 F d env c b (bC o.ok.1 hs) f
theorem x_sc{d:PyData}{R:PyData->Prop}(a:U7 d=true)(h:R d):∃ d',Sl.st d=.st d'/\U7 d'=true/\R d':=⟨d,rfl,a,h⟩
theorem OP(o:Has env i (OL f))(h:Ev B tb env λy c=>∃ ds k d,Has c i (OL ds)/\y=.int k/\Y0 ds k=some d/\Q' d c):Ev B (tOp (Y5 K) (tVar i) tb) env Q':=λσ G H F Q I k=>by
 obtain⟨v,m,_⟩:=I.has o;refine⟨v,m,h σ G H F _ I λu t H2 F2 y c n z p ⟨ds,j,d,s,x,g,q⟩=>?_⟩;subst x;cases p;obtain⟨C,b,a,vs,r,ha,rs,_⟩:=n.has s;rw[m] at b;cases b;subst r;obtain⟨w,A,l⟩:=rs.at g;exact uC ha A (k w t H2 F2 d c n z l q)
theorem fN(e:env[i]?=some (some (.scr ns)))(f:B.K=K)(q:Q' (.int ns.length) env):Ev B (tCB (rLen K) (M2 (tVar i) tNil)) env Q':=λσ G H F Q I k=>by
 subst f;obtain⟨v0,b,⟨a,c,d⟩,_⟩:=I.sl i _ e;subst c;refine⟨_,b,fO (I.gh.seq d) ?_⟩;rw[N1];exact k _ G H F _ env I (Same.refl _) (.int _) q
theorem tP(e:env[i]?=some (some (.scr ns)))(t:B.K=K)(h:Ev B tb env λy c=>∃ j n,y=.int j/\Y0 ns j=some n/\Q' (.int n) c):Ev B (tOp (Y5 K) (tVar i) tb) env Q':=λσ G H F Q I k=>by
 subst t;obtain⟨v0,g,⟨a,o,p⟩,_⟩:=I.sl i _ e;subst o;refine⟨_,g,h σ G H F _ I λu r H2 F2 y c f d m ⟨j,n,s,b,q⟩=>?_⟩;subst s;cases m;refine uP (f.gh.seq (d.seq p)) (v:=.int n) ?_ (k _ r H2 F2 _ c f d (.int _) q);unfold Y0 at b ⊢;rw[N1];cases e:ixN ns.length j with
 |none=>rw[e] at b;cases b
 |some l=>rw[e] at b;simp at b ⊢;exact b
theorem VI.upd1(I:VI B G H σ env F)(e:env[i]?=some (some s))(hs:s=.own A\/s=.io A)(d : σ[i]?=some (some (.ref a)))(hf:∀ b,F i b ↔ b=a)(h:A'.P G (upd H a o) (.ref a) (· = a))(f:∀ xs,o ≠ .tup xs:=by intro _ z;cases z) :
  VI B G (upd H a o) σ (env.set i (some (reS s A'))) (putF F i (· = a)):=by
 refine I.change (A:=A') i e d (λb u hb c=>by rw[G0 (λz=>hb ((hf b).mpr z))];exact c) (λb u c=>?_) (λb z=>⟨.inl ((hf b).mpr z),by rw[z];exact⟨_,S0⟩⟩) h (λb g e=>?_) ?_
 ·by_cases z:b=a
  ·rw[z];exact⟨_,S0⟩
  ·rw[G0 z];exact⟨u,c⟩
 ·by_cases z:b=a
  ·subst z;rw[S0] at e;exact absurd (W3 e) (f _)
  ·rw[G0 z] at e;exact I.ft b g e
 ·rcases hs with rfl|rfl
  ·exact .inl ⟨rfl,A,rfl⟩
  ·exact .inr ⟨rfl,A,rfl⟩
theorem DL(o:Has env i (OL l))(h:Ev B te env λy f=>∃ s ds,f[i]?=some (some s)/\(s=.own (OL ds)\/s=.io (OL ds))/\ds.length<=999999/\Q' .none (f.set i (some (reS s (OL (ds++[y])))))):Ev B (tBM K "list" fA (tVar i) (M2 te tNil)) env Q':=λσ G H F Q I k=>by
 obtain⟨v,g,a,vs,t,ha,rs,_⟩:=I.has o;subst t;refine⟨_,g,.inl ⟨rfl,_,SqL.of ha⟩,h σ G H F _ I λu x H2 F2 y f n z r ⟨s,ds,es,hs,C,q⟩=>?_⟩;have w:Has f i (OL ds):=by rcases hs with rfl|rfl;exact .inl es;exact .inr es
 obtain⟨A,c,D,p,j,m,d,hf⟩:=n.has w;rw[g] at c;cases c;cases j;refine gD m (by rw[d.length];exact big (by lia)) ?_;exact k _ x _ _ _ _ (n.upd1 (A':=OL (ds++[y])) es hs g hf ⟨a,_,rfl,S0,d.append (.cons r .nil),λb=>Iff.rfl⟩) z .non q
theorem uO(c:Has env i (OL a))(h:Ev B te env λy b=>∃ ds,b[i]?=some (some (.own (OL ds)))/\ds.length<=999999/\Q' .none (b.set i (some (.own (OL (ds++[y])))))):Ev B (tBM K "list" fA (tVar i) (M2 te tNil)) env Q' :=
 DL c λσ G H F Q I k=>h σ G H F Q I λv G' H' F' d e f g r ⟨ds,l,j,q⟩=>k v G' H' F' d e f g r ⟨_,ds,l,.inl rfl,j,q⟩
theorem iQ(w:Has env i (OL o))(h:Ev B tk env λy g=>∃ s ds k j,y=.int k/\g[i]?=some (some s)/\(s=.own (OL ds)\/s=.io (OL ds))/\ixN ds.length k=some j/\QE (g.set i (some (reS s (OL (ds.set j d)))))):EvG B (gSub (tVar i) tk BE) (.st d) env QE:=λσ G H F v Fv Q I x k=>by
 obtain⟨J,_⟩:=x.ok;obtain⟨N,l,a,vs,D,ha,rs,_⟩:=I.has w;subst D;refine⟨_,l,h σ G H F _ I λu K H2 F2 y g t r C ⟨s,ds,n,j,L,es,hs,A,q⟩=>?_⟩;subst L;cases C;have E:Has g i (OL ds):=by rcases hs with rfl|rfl;exact .inl es;exact .inr es
 obtain⟨M,c,O,z,m,p,f,hf⟩:=t.has E;rw[l] at c;cases c;cases m;refine hH p (by rw[f.length];exact A) ?_;exact k _ K _ _ _ (t.upd1 (A':=OL (ds.set j d)) es hs l hf ⟨a,_,rfl,S0,f.set (J.same r) j,λb=>Iff.rfl⟩) r q
theorem DM(i:Nat)(e:env[i]?=some (some (.own A)))(f:Frz A d)(h:EvS B t D' (env.set i (some (.st d)))):EvS B t D' env:=λσ G H F D I r=>by
 obtain⟨v,a,b,g,J⟩:=I.frz e f;exact h σ _ H _ D J (r.later g)
end
def tyD:PyData->String
 | .none=>"NoneType" | .bool _=>"bool" | .int _=>"int" | .str _=>"str" | .list _=>"list" | .tuple _=>"tuple" | .dict _=>"dict"
def N8(T:String):Prop:=T = "int"\/T = "bool"\/T = "tuple"\/T = "list"\/T = "str"\/T = "dict"
def isiD(T:String)(d:PyData):Bool:=tyD d == T || (T == "int" && tyD d == "bool")
theorem HR(r:Rp H v d):TyOf K H v (.type (tyD d)):=by
 cases r with
 |non=>exact .non
 |bl b=>exact .bl b
 |int i=>exact .int i
 |str x=>exact .str x
 |lst h _=>exact .lst h
 |tup h _=>exact .tup h
 |dk h _ _=>exact .dK h
 |dt h _ _=>exact .dT h
theorem mT(h:N8 T)(d:PyData):kitOne K (.type (tyD d)) (.type T)=some (isiD T d):=by
 rcases h with rfl|rfl|rfl|rfl|rfl|rfl
 ·cases d with
  |none=>exact kR
  |bool _=>exact lR
  |int _=>exact FK
  |str _=>exact fL
  |list _=>exact EN
  |tuple _=>exact JJ
  |dict _=>exact gN
 ·cases d with
  |none=>exact DS
  |bool _=>exact BQ
  |int _=>exact nJ
  |str _=>exact mO
  |list _=>exact xJ
  |tuple _=>exact UO
  |dict _=>exact LL
 ·cases d with
  |none=>exact DK
  |bool _=>exact JO
  |int _=>exact zN
  |str _=>exact GM
  |list _=>exact vQ
  |tuple _=>exact PM
  |dict _=>exact oS
 ·cases d with
  |none=>exact FM
  |bool _=>exact ZR
  |int _=>exact IR
  |str _=>exact wJ
  |list _=>exact zQ
  |tuple _=>exact YM
  |dict _=>exact NT
 ·cases d with
  |none=>exact OM
  |bool _=>exact tN
  |int _=>exact jJ
  |str _=>exact WM
  |list _=>exact lK
  |tuple _=>exact ST
  |dict _=>exact OR
 ·cases d with
  |none=>exact rS
  |bool _=>exact iP
  |int _=>exact IM
  |str _=>exact pJ
  |list _=>exact ZM
  |tuple _=>exact CJ
  |dict _=>exact CO
section
variable{B:Bs}{env:En}{QO:Sl->En->Prop}{Q':PyData->En->Prop}{QT:Bool->En->Prop}{QE:En->Prop}{te ta tb tk:TE}{K:Frag}{i:Nat}
theorem bQ(f:N8 T)(h:Ev B te env λd e=>Q' (.bool (isiD T d)) e):Ev B (tCB (rIsi K) (M2 te (M2 (tC (.ty T)) tNil))) env Q':=λσ G H F Q I k =>
 h σ G H F _ I λv c j l d m a g i b=>⟨v,T,_,_,rfl,HR (i.same a.gh),mT f d,k _ c j l _ m a g (.bl _) b⟩
theorem uR:N8 "int":=.inl rfl
theorem ZT:N8 "bool":=.inr (.inl rfl)
theorem sN:N8 "tuple":=.inr (.inr (.inl rfl))
theorem AO:N8 "list":=.inr (.inr (.inr (.inl rfl)))
theorem KJ:N8 "str":=.inr (.inr (.inr (.inr (.inl rfl))))
theorem EL(e:env[i]?=some (some (.own A)))(q:D'.rt (.own A) (env.set i none)):EvS B (tRet (tVar i)) D' env:=W5 (uK e q)
theorem HQ{n m:Nat}{P:Prop}(h:n<=m)(q:P):n<=m/\P:=⟨h,q⟩
theorem MP{ds:List PyData}{a:En}{R:List PyData->Prop}(e:a[i]?=some (some (.own (OL ds))))(b:ds.length<=999999)(q:R ds):∃ ds,a[i]?=some (some (.own (OL ds)))/\ds.length<=999999/\R ds:=⟨ds,e,b,q⟩
theorem zT{ds:List PyData}{d:PyData}{k:Int}{a:En}{R:PyData->Prop}(c:Has a i (OL ds))(h:Y0 ds k=some d)(q:R d):∃ ds b d,Has a i (OL ds)/\PyData.int k=.int b/\Y0 ds b=some d/\R d:=⟨ds,k,d,c,rfl,h,q⟩
theorem ZN{ns:List Int}{n k:Int}{R:Int->Prop}(h:Y0 ns k=some n)(q:R n):∃ j n,PyData.int k=.int j/\Y0 ns j=some n/\R n:=⟨k,n,rfl,h,q⟩
theorem QC{ds:List PyData}{k:Int}{j:Nat}{a:En}{R:Sl->List PyData->Nat->Prop}(e:a[i]?=some (some (.own (OL ds))))(c:ixN ds.length k=some j)(q:R (.own (OL ds)) ds j):∃ s ds b j,PyData.int k=.int b/\a[i]?=some (some s)/\(s=.own (OL ds)\/s=.io (OL ds))/\ixN ds.length b=some j/\R s ds j:=⟨_,ds,k,j,rfl,e,.inl rfl,c,q⟩
theorem xN{A:Own}{dx:PyData}{a:En}{P:PyData->Prop}(b:Has a i A)(c:Frz A dx)(q:P dx):∃ A dx,Has a i A/\Frz A dx/\P dx:=⟨A,dx,b,c,q⟩
theorem x_rt{A:Own}{a:En}{R:Own->Prop}(e:a[0]?=some (some (.io A)))(q:R A):∃ A',a[0]?=some (some (.io A'))/\R A':=⟨A,e,q⟩
theorem x_st{b:Bool}{R:Bool->Prop}(h:R b):∃ c,Sl.st (.bool b)=.st (.bool c)/\R c:=⟨b,rfl,h⟩
theorem XS{ds:List PyData}{R:Bool->Prop}(h:R (!ds.isEmpty)):∃ k,TruD (.list ds) k/\R k:=⟨_,rfl,h⟩
theorem lenP(h:spP K f vs H Q E)(hf:∀ ss a,f ss a->ss.length=n):vs.length=n:=by
 obtain⟨G,ss,a,_,_,b,q,_⟩:=h;rw[b.length];exact hf ss a q
theorem lenI(h:spI K f vs H Q E)(hf:∀ A ss a,f A ss a->ss.length+1=n):vs.length=n:=by
 obtain⟨v0,c,G,R,A,ss,F0,a,rfl,_,_,_,_,_,_,b,q,_⟩:=h;rw[v3,b.length];exact hf A ss a q
theorem HH(b:env[i]?=some (some (.own A)))(h:EvA B t env λds a=>a[i]?=some (some (.own A))/\f A (ds.map Sl.st) λA' s=>QO s (a.set i (some (.own A')))):EvO B (F3 (spI K f) [] E (M2 (tVar i) t)) env QO :=
 eH ⟨_,b⟩ λσ G H F Q I k=>h σ G H F Q I λvs G' H' F' ds a c g r ⟨d,q⟩=>k vs G' H' F' ds a c g r ⟨_,A,d,.inl rfl,q⟩
theorem HJ(b:env[i]?=some (some (.own A)))(h:EvA B t env λds a=>a[i]?=some (some (.own A))/\f A (ds.map Sl.st) λA' s=>FQ s λd=>Q' d (a.set i (some (.own A')))):Ev B (F3 (spI K f) [] E (M2 (tVar i) t)) env Q':=P5 (HH b h)
theorem iK(h:P)(q:Q):P/\Q:=⟨h,q⟩
theorem GN(nd:(src.filterMap id).Nodup)(h:EvI B j env λds i=>LcV B.K src g f te ds i λys m=>Q' (.list ys) m):Ev B (tLC src j g f te) env Q':=P5 (IF nd λσ G H F R I k=>h σ G H F R I λJ G' H' F' ds i l g' it ⟨n,a,b,c,d⟩=>k J G' H' F' ds i l g' it ⟨n,a,b,c,λys e q=>k6 (d ys e q)⟩)
end
end VL
namespace VL
open PySem L2
theorem oM(h:QE (some s::r)):EvG B (Z2 0) s (x0::r) QE:=U2 h
theorem GK(h:QE (x0::some s::r)):EvG B (Z2 1) s (x0::x1::r) QE:=U2 h
theorem eP(h:QE (x0::x1::some s::r)):EvG B (Z2 2) s (x0::x1::x2::r) QE:=U2 h
theorem vO(h:QE (x0::x1::x2::some s::r)):EvG B (Z2 3) s (x0::x1::x2::x3::r) QE:=U2 h
theorem MK(h:QE (x0::x1::x2::x3::some s::r)):EvG B (Z2 4) s (x0::x1::x2::x3::x4::r) QE:=U2 h
theorem gR(h:QE (x0::x1::x2::x3::x4::some s::r)):EvG B (Z2 5) s (x0::x1::x2::x3::x4::x5::r) QE:=U2 h
theorem GO(h:QE (x0::x1::x2::x3::x4::x5::some s::r)):EvG B (Z2 6) s (x0::x1::x2::x3::x4::x5::x6::r) QE:=U2 h
theorem cQ(h:QE (x0::x1::x2::x3::x4::x5::x6::some s::r)):EvG B (Z2 7) s (x0::x1::x2::x3::x4::x5::x6::x7::r) QE:=U2 h
theorem VN(h:QE (x0::x1::x2::x3::x4::x5::x6::x7::some s::r)):EvG B (Z2 8) s (x0::x1::x2::x3::x4::x5::x6::x7::x8::r) QE:=U2 h
end VL
namespace Gr
structure Ring(T:Int->Int->Prop)(a:Int)(k:Nat)(far:Int->Option Nat)(edge:List Int):Prop where
 lab:∀ v d,far v=some d ↔ (Dist T a v d/\d<=k)
 edg:∀ v,v∈edge ↔ Dist T a v k
structure Mid(T:Int->Int->Prop)(k:Nat)(far0:Int->Option Nat)(edge:List Int)(done:Int->Prop)(far:Int->Option Nat)(beyond:List Int):Prop where
 old:∀ v d,far0 v=some d->far v=some d
 new:∀ v,v∈beyond ↔ (far0 v=none/\far v ≠ none)
 val:∀ v d,far0 v=none->far v=some d->d=k+1/\∃ u,u∈edge/\T u v
 dn:∀ u w,done u->T u w->far w ≠ none
def label(far:Int->Option Nat)(w:Int)(d:Nat):Int->Option Nat:=λv=>if v=w then some d else far v
theorem label_same:label far w d w=some d:=z0 rfl
theorem label_ne(h:v ≠ w):label far w d v=far v:=y0 h
theorem Ring.start:Ring T a 0 (label (λ_=>none) a 0) [a]:=by
 refine⟨λv d=>?_,λv=>?_⟩
 ·by_cases h:v=a
  ·subst h;rw[label_same];constructor
   ·intro e;cases e;exact⟨Dist.self T v,Q0 _⟩
   ·rintro⟨h,_⟩;rw[h.uniq (Dist.self T v)]
  ·rw[label_ne h];constructor
   ·intro e;cases e
   ·rintro⟨b,c⟩;have:d=0:=by lia
    subst this;cases b.1;exact absurd rfl h
 ·simp only[O6];constructor
  ·rintro rfl;exact Dist.self T v
  ·intro h;cases h.1;rfl
theorem Mid.start:Mid T k far0 edge (λ_=>False) far0 [] :=
 ⟨λv d h=>h,λv=>⟨λh=>by simp at h,λh=>absurd h.1 h.2⟩,λv d h g=>(by rw[h] at g;cases g),λu w h=>h.elim⟩
theorem Mid.add(m:Mid T k far0 edge done far beyond)(f:u∈edge)(t:T u w)(b:far w=none):Mid T k far0 edge done (label far w (k+1)) (beyond++[w]):=by
 have a:far0 w=none:=by
  cases e:far0 w with
  |none=>rfl
  |some d=>rw[m.old w d e] at b;cases b
 refine⟨λv d h=>?_,λv=>?_,λv d h g=>?_,λx y hx c=>?_⟩
 ·rw[label_ne (by rintro rfl;rw[a] at h;cases h)];exact m.old v d h
 ·by_cases hv:v=w
  ·subst hv;simp[label_same,a]
  ·rw[label_ne hv];simp only[N2,O6,hv,or_false];exact m.new v
 ·by_cases hv:v=w
  ·subst hv;rw[label_same] at g;cases g;exact⟨rfl,u,f,t⟩
  ·rw[label_ne hv] at g;exact m.val v d h g
 ·by_cases hv:y=w
  ·subst hv;rw[label_same];simp
  ·rw[label_ne hv];exact m.dn x y hx c
theorem Mid.did(m:Mid T k far0 edge done far beyond)(h:∀ w,T u w->far w ≠ none):Mid T k far0 edge (λx=>done x\/x=u) far beyond :=
 ⟨m.old,m.new,m.val,λx w hx t=>by rcases hx with hx|rfl;exact m.dn x w hx t;exact h w t⟩
theorem Mid.imp{a:Int->Prop}(m:Mid T k far0 edge done far beyond)(h:∀ u,a u->done u):Mid T k far0 edge a far beyond :=
 ⟨m.old,m.new,m.val,λx w hx t=>m.dn x w (h x hx) t⟩
theorem Ring.next(r:Ring T a k far0 edge)(m:Mid T k far0 edge done far beyond)(hd:∀ u∈edge,done u):Ring T a (k+1) far beyond:=by
 have f:∀ v,far0 v=none->far v ≠ none->Dist T a v (k+1):=λv c b=>by
  cases e:far v with
  |none=>exact absurd e b
  | some d =>
   obtain⟨rfl,u,i,t⟩:=m.val v d c e;obtain⟨j,o,h⟩:=((r.edg u).mp i).next t;by_cases g:j<=k
   ·rw[(r.lab v j).mpr ⟨h,g⟩] at c;cases c
   ·have:j=k+1:=by lia
    rw[← this];exact h
 have back:∀ v,Dist T a v (k+1)->far0 v=none/\far v ≠ none:=λv h=>by
  refine⟨?_,?_⟩
  ·cases e:far0 v with
   |none=>rfl
   | some d =>
    obtain⟨b,l⟩:=(r.lab v d).mp e;have:=b.uniq h;lia
  ·obtain⟨u,t,i⟩:=h.pred;exact m.dn u v (hd u ((r.edg u).mpr i)) t
 refine⟨λv d=>?_,λv=>⟨λh=>?_,λh=>(m.new v).mpr (back v h)⟩⟩
 ·constructor
  ·intro e;cases e0:far0 v with
   | some d0 =>
    rw[m.old v d0 e0] at e;cases e;obtain⟨b,l⟩:=(r.lab v d).mp e0;exact⟨b,by lia⟩
   | none =>
    have g:=(m.val v d e0 e).1;subst g;exact⟨f v e0 (by rw[e];simp),Q0 _⟩
  ·rintro⟨h,g⟩;by_cases hd':d<=k
   ·exact m.old v d ((r.lab v d).mpr ⟨h,hd'⟩)
   ·have n:d=k+1:=by lia
    subst n;obtain⟨c,b⟩:=back v h;cases e:far v with
    |none=>exact absurd e b
    |some d=>rw[(m.val v d c e).1]
 ·obtain⟨c,b⟩:=(m.new v).mp h;exact f v c b
theorem Dist.down:∀{d:Nat},Dist T a v d->∀ j,j<=d->∃ u,Dist T a u j
 |0,h,j,hj=>⟨v,by rw[show j=0 by lia];exact h⟩
 | d+1,h,j,hj=>by
  by_cases e:j=d+1
  ·rw[e];exact⟨v,h⟩
  ·obtain⟨u,_,b⟩:=h.pred;exact Dist.down b j (by lia)
def farO(T:Int->Int->Prop)(a v:Int):Option Nat:=open Classical in if h:∃ d,Dist T a v d then some (Classical.choose h) else none
theorem farO_some:farO T a v=some d ↔ Dist T a v d:=by
 unfold farO;constructor
 ·intro h;split at h
  ·rename_i hx
   cases h;exact Classical.choose_spec hx
  ·cases h
 ·intro h;have hx:∃ d,Dist T a v d:=⟨d,h⟩
  rw[dif_pos hx,(Classical.choose_spec hx).uniq h]
theorem farO_none:farO T a v=none ↔ ∀ d,¬ Dist T a v d:=by
 constructor
 ·intro h d hd;rw[farO_some.mpr hd] at h;cases h
 ·intro h;cases e:farO T a v with
  |none=>rfl
  |some d=>exact absurd (farO_some.mp e) (h d)
theorem gP(h:∀ d,o=some d ↔ Dist T a v d):o=farO T a v:=by
 cases o with
 |some d=>exact(farO_some.mpr ((h d).mp rfl)).symm
 |none=>exact(farO_none.mpr λd hd=>by cases (h d).mpr hd).symm
theorem Ring.fin(r:Ring T a k far0 [])(v:Int):far0 v=farO T a v:=by
 refine gP λd=>?_;rw[r.lab];refine⟨λh=>h.1,λh=>⟨h,?_⟩⟩;apply aC;intro c;obtain⟨u,b⟩:=h.down k (by lia);have:=(r.edg u).mpr b;simp at this
theorem Walk.app(h:Walk T u i v)(g:Walk T v j w):Walk T u (i+j) w:=by
 induction g with
 |refl=>exact h
 |step _ t ih=>exact .step ih t
theorem Walk.rev(hs:∀ u v,T u v->T v u)(h:Walk T u i v):Walk T v i u:=by
 induction h with
 |refl=>exact .refl
 | @step j x y _ t ih =>
  have:=(Walk.step (T:=T) (u:=y) .refl (hs _ _ t)).app ih;rw[Nat.add_comm] at this;exact this
end Gr
namespace VL
open PySem PySem.Spec L2
theorem nodup_ix{α:Type}{xs:List α}(h:xs.Nodup){i j:Nat}(hi:i<xs.length)(a:j<xs.length)(e:xs[i]=xs[j]):i=j:=by
 have p:=o9.mp h;rcases Nat.lt_trichotomy i j with q|q|q
 ·exact absurd e (p i j hi a q)
 ·exact q
 ·exact absurd e.symm (p j i a hi q)
def OLL(dss:List (List PyData)):Own where
 P:=λG H v F=>∃(a:Addr)(as:List Addr),v=.ref a/\H a=some (.lst (as.map V.ref))/\as.Nodup/\a ∉ as/\as.length=dss.length/\(∀(i:Nat) b ds,as[i]?=some b->dss[i]?=some ds->∃ vs,H b=some (.lst vs)/\Rps G vs ds)/\∀ b,F b ↔ b=a\/b∈as
 mono:=λ⟨a,as,e,h,n1,n2,l,r,f⟩ g hh=>⟨a,as,e,hh a _ ((f a).mpr (.inl rfl)) h,n1,n2,l,λi b ds hb hd=>by
  obtain⟨vs,h1,h2⟩:=r i b ds hb hd;exact⟨vs,hh b _ ((f b).mpr (.inr (u3 hb))) h1,h2.same g⟩,f⟩
 dom:=λ⟨a,as,e,h,n1,n2,l,r,f⟩ b z=>by
  rcases(f b).mp z with rfl|z
  ·exact⟨_,h⟩
  ·obtain⟨i,hi,e⟩:=MB.mp z;have hb:as[i]?=some b:=by rw[z1 hi,e]
   obtain⟨vs,h1,_⟩:=r i b _ hb (z1 (by rw[← l];exact hi));exact⟨_,h1⟩
theorem hF:∀{vs:List V}{ds:List PyData},vs.length=ds.length->(∀(i:Nat) v d,vs[i]?=some v->ds[i]?=some d->Rp G v d)->Rps G vs ds
 |[],[],_,_=>.nil
 |[],_::_,h,_=>by simp at h
 |_::_,[],h,_=>by simp at h
 |v::vs,d::ds,h,k=>.cons (k 0 v d rfl rfl) (hF (by simpa using h) λi v d a b=>k (i+1) v d (by simpa using a) (by simpa using b))
theorem ND:Frz (OLL c) (.list (c.map .list)):=λG H v F ⟨a,as,e,h,p,q,l,r,f⟩ n g=>by
 subst e;refine .lst (by rw[L6 ((f a).mpr (.inl rfl))];exact h) (hF (by simp[l]) λi u d j hd=>?_);rw[v2] at j hd;cases hb:as[i]? with
 |none=>rw[hb] at j;cases j
 | some b =>
  cases hds:c[i]? with
  |none=>rw[hds] at hd;cases hd
  | some ds =>
   rw[hb] at j;rw[hds] at hd;cases j;cases hd;obtain⟨vs,o,m⟩:=r i b ds hb hds;exact .lst (by rw[L6 ((f b).mpr (.inr (u3 hb)))];exact o) (m.same (m4 n))
theorem PQ(h:R (.list (a.map .list))):FQ (.own (OLL a)) R:=⟨_,ND,h⟩
theorem iT(h:EvI B wi env λds T=>ds.length<=1000000/\QO (.own (OLL (List.replicate ds.length []))) T):EvO B (tLC src wi (Z2 j) tYes (tLst tNil)) env QO:=λσ G H F Q I k=>by
 refine h σ G H F _ I λJ P L F1 ds T s g1 it ⟨a0,q⟩ c d=>?_;let W:Nat->List V->Hp->Prop:=λn ys H=>∃(as:List Addr)(g:Hp),ys=as.map V.ref/\as.length=n/\as.Nodup/\c ∉ as/\(∀ b∈as,L b=none/\g b=none/\H b=some (.lst []))/\H c=some (.lst ys)/\g c=none/\Same P g/\Same g H/\Same L H/\(∀ a o,g a=some o->P a=some o\/L a=none)/\FT g H;refine⟨λn m ys σI H=>m=ds.length-n/\n<=ds.length/\W n ys H,⟨ds.length,by simp,R4 _,[],P,rfl,rfl,List.nodup_nil,by simp,λb hb=>by simp at hb,S0,s.no_g d,Same.refl _,s.gh.trans (p6 d),p6 d,λa o e=>.inl e,λa S e=>?_⟩,?_⟩
 ·by_cases z:a=c
  ·subst z;rw[S0] at e;cases e
  ·rw[G0 z] at e;exact s.ft a S e
 rintro n m ys σI H2 ⟨rfl,hn,as,g,rfl,X,nd,na,all,f,ga,v,l,r,C,t⟩;refine⟨f,?_⟩;by_cases hlt:n<ds.length
 ·refine .inr ⟨it.go n g H2 v l hlt,λD O H'=>W (n+1) D H',λD O H' hw=>⟨ds.length-(n+1),by lia,rfl,hlt,hw⟩,λx H3 y=>?_⟩;obtain⟨K,o⟩:=it.yld n g H2 x H3 _ v l t (z1 hlt) y;refine AG (JF (U5 (xK (VG ⟨by decide,λp A=>?_⟩))));have n2:H2 p=none:=l9 o.hh A;have n1:L p=none:=l9 r n2;have N:p ≠ c:=(z3 (o.hh _ _ f) A).symm;have E:p ∉ as:=λz=>by
   have:=o.hh _ _ (all p z).2.2;rw[this] at A;cases A
  refine⟨by rw[G0 N.symm];exact o.hh _ _ f,by rw[N1,X];exact big (by lia),as++[p],K,by simp,by simp[X],?_,?_,λb hb=>?_,S0,?_,v.trans o.gg,λa u e=>?_,λa u e=>?_,λa u e=>?_,λa S e=>?_⟩
  ·rw[List.nodup_append];exact⟨nd,by simp,λx hx y Z=>by simp at Z;subst Z;intro e;subst e;exact E hx⟩
  ·intro z;rcases N2.mp z with z|z
   ·exact na z
   ·exact N (O6.mp z).symm
  ·have gb:∀ b,g b=none->(∃ u,H2 b=some u)->K b=none:=λb R z_=>by
    obtain⟨u,U⟩:=z_;cases e:K b with
    |none=>rfl
    | some w =>
     rcases o.gn b w e with e|e
     ·rw[R] at e;cases e
     ·rw[U] at e;cases e
   rcases N2.mp hb with hb|hb
   ·obtain⟨R,U,Y⟩:=all b hb;refine⟨R,gb b U ⟨_,Y⟩,?_⟩;rw[G0 (λz:b=c=>na (by rw[← z];exact hb)),G0 (λz:b=p=>E (by rw[← z];exact hb))];exact o.hh _ _ Y
   ·have e:b=p:=by simpa using hb
    subst e;exact⟨n1,l9 o.gh A,by rw[G0 N,S0]⟩
  ·cases e:K c with
   |none=>rfl
   | some w =>
    rcases o.gn c w e with e|e
    ·rw[ga] at e;cases e
    ·rw[f] at e;cases e
  ·have ap:a ≠ p:=z3 (o.gh a u e) A;have M:a ≠ c:=by
    rintro rfl;rcases o.gn _ u e with e|e
    ·rw[ga] at e;cases e
    ·rw[f] at e;cases e
   rw[G0 M,G0 ap];exact o.gh a u e
  ·have ap:a ≠ p:=z3 e n1;have M:a ≠ c:=z3 e d;rw[G0 M,G0 ap];exact o.hh _ _ (r a u e)
  ·rcases o.gn a u e with e|e
   ·exact C a u e
   ·exact .inr (l9 r e)
  ·by_cases z:a=c
   ·subst z;rw[S0] at e;cases e
   ·rw[G0 z] at e;by_cases y:a=p
    ·subst y;rw[S0] at e;cases e
    ·rw[G0 y] at e;exact o.ft t a S e
 ·have e:n=ds.length:=by lia
  subst e;refine .inl ⟨it.stop _ g H2 v l rfl,?_⟩;have I2:=s.grow v l r C t;refine k (.ref c) g H2 F1 (λb=>b=c\/b∈as) (.own (OLL (List.replicate ds.length []))) T I2 (g1.trans v) ⟨⟨c,as,rfl,f,nd,na,by simp[X],λi b a1 hb hd=>?_,λb=>Iff.rfl⟩,λb z=>?_,λb z=>?_,λb z=>?_,λj b z y=>?_⟩ q
  ·rw[iA] at hd;split at hd
   ·cases hd;exact⟨[],(all b (u3 hb)).2.2,.nil⟩
   ·cases hd
  ·rcases z with rfl|z
   ·exact s.no_b d
   ·exact s.no_b (all b z).1
  ·rcases z with rfl|z
   ·exact ga
   ·exact(all b z).2.1
  ·rcases z with rfl|z
   ·exact⟨_,f⟩
   ·exact⟨_,(all b z).2.2⟩
  ·rcases z with rfl|z
   ·exact s.no_f d j y
   ·exact s.no_f (all b z).1 j y
theorem UG(e:env[i]?=some (some (.own (OLL d))))(S:env[l]?=some (some (.st (.int k))))(ey:env[j]?=some (some (.st y)))
  (Y:ixN d.length k=some n) (hd:d[n]?=some ds) (hl:ds.length<=999999) (q:Q' .none (env.set i (some (.own (OLL (d.set n (ds++[y]))))))):Ev B (tBM K "list" fA (tOp (Y5 K) (tVar i) (tVar l)) (M2 (tVar j) tNil)) env Q':=λσ G H F Q I Z=>by
 obtain⟨v,D,⟨a,as,rfl,h,M,N,ln,r,f⟩,_⟩:=I.sl i _ e;obtain⟨vk,u,rk,_⟩:=I.sl l _ S;obtain⟨R,w,ry,_⟩:=I.sl j _ ey;cases rk;have hn:n<d.length:=(R1.mp hd).1;have hb:as[n]?=some (as[n]'(by lia)):=z1 _;generalize as[n]'(by lia)=b at hb;have s:b∈as:=u3 hb;obtain⟨vs,L,E⟩:=r n b ds hb hd;have C:Y0 (as.map V.ref) k=some (.ref b):=by
  unfold Y0;rw[N1,ln,Y];simp[hb]
 refine⟨_,D,_,u,uC h C ⟨.inl ⟨rfl,_,SqL.of L⟩,_,w,gD L (by rw[E.length];exact big (by lia)) ?_⟩⟩;have x:a ≠ b:=λz=>N (z ▸ s)
 have J:=I.change (A:=OLL (d.set n (ds++[y]))) (H2:=upd H b (.lst (vs++[R]))) (F2:=F i) (os':=.own (OLL (d.set n (ds++[y])))) i e D (λc o p t=>by rw[G0 (λz:c=b=>p ((f c).mpr (.inr (by rw[z];exact s))))];exact t)
  (λc o t=>by
   by_cases z:c=b
   ·rw[z];exact⟨_,S0⟩
   ·rw[G0 z];exact⟨o,t⟩)
  (λc z=>⟨.inl z,by
   by_cases y:c=b
   ·rw[y];exact⟨_,S0⟩
   ·rw[G0 y];exact I.fo i c z⟩) ?_ (λc X e=>by
   by_cases z:c=b
   ·subst z;rw[S0] at e;cases e
   ·rw[G0 z] at e;exact I.ft c X e) (.inl ⟨rfl,_,rfl⟩)
 ·exact Z _ G _ _ _ _ J (Same.refl _) .non q
 ·refine⟨a,as,rfl,by rw[G0 x];exact h,M,N,by simp[ln],λm c es p g=>?_,f⟩;by_cases hm:m=n
  ·subst hm;rw[hb] at p;cases p;rw[o5,z0 rfl,z0 hn] at g;cases g;exact⟨_,S0,E.append (.cons ry .nil)⟩
  ·rw[o5,y0 (λz=>hm z.symm)] at g;obtain⟨us,P,W⟩:=r m c es p g;refine⟨us,?_,W⟩;rw[G0]
   ·exact P
   ·rintro rfl;have i1:=(R1.mp hb)
    have i2:=(R1.mp p)
    obtain⟨O,e1⟩:=i1;obtain⟨U,T⟩:=i2;exact hm (nodup_ix M U O (T.trans e1.symm))
@[reducible] def prD (p:Int × Int):PyData:=.tuple [.int p.1,.int p.2]
@[reducible] def webD (n:Int) (es:List (Int × Int)):PyData:=.tuple [.int n,.list (es.map prD)]
def Tied(es:List (Int × Int))(u v:Int):Prop:=(u,v)∈es\/(v,u)∈es
theorem Tied.symm(h:Tied es u v):Tied es v u:=h.elim .inr .inl
def InN(n:Int)(es:List (Int × Int)):Prop:=∀ p∈es,0<=p.1/\p.1<n/\0<=p.2/\p.2<n
theorem Tied.in(hi:InN n es)(h:Tied es u v):(0<=u/\u<n)/\0<=v/\v<n:=by
 rcases h with h|h
 ·have:=hi _ h;exact⟨⟨this.1,this.2.1⟩,this.2.2⟩
 ·have:=hi _ h;exact⟨⟨this.2.2.1,this.2.2.2⟩,this.1,this.2.1⟩
theorem Tied.snoc{es:List (Int × Int)}{i:Nat}{a b:Int}(h:es[i]?=some (a,b))(u v:Int):Tied (es.take (i+1)) u v ↔ (Tied (es.take i) u v\/(u=a/\v=b))\/(u=b/\v=a):=by
 have e:es.take (i+1)=es.take i++[(a,b)]:=by rw[Q7,h];rfl
 unfold Tied;rw[e];simp only[N2,O6,Prod.mk.injEq];constructor
 ·rintro((h|⟨rfl,rfl⟩)|(h|⟨rfl,rfl⟩))
  ·exact .inl (.inl (.inl h))
  ·exact .inl (.inr ⟨rfl,rfl⟩)
  ·exact .inl (.inl (.inr h))
  ·exact .inr ⟨rfl,rfl⟩
 ·rintro(((h|h)|⟨rfl,rfl⟩)|⟨rfl,rfl⟩)
  ·exact .inl (.inl h)
  ·exact .inr (.inl h)
  ·exact .inl (.inr ⟨rfl,rfl⟩)
  ·exact .inr (.inr ⟨rfl,rfl⟩)
def TiedL(n:Int)(T:Int->Int->Prop)(tl:List (List Int)):Prop:=(tl.length:Int)=n/\∀(i:Nat) ws,tl[i]?=some ws->∀ w,w∈ws ↔ T i w
def oD:Option Nat->PyData
 |none=>.none
 |some d=>.int d
def lab(n:Nat)(far:Int->Option Nat):List PyData:=(List.range n).map λ(i:Nat)=>oD (far (i:Int))
theorem N9:(lab n far).length=n:=by simp[lab]
theorem r9(h:i<n):(lab n far)[i]?=some (oD (far i)):=by
 unfold lab;rw[v2,z1 (by simpa using h)];simp
theorem mD{n:Nat}{far:Int->Option Nat}{v:Int}(a:0<=v)(h:v<n):Y0 (lab n far) v=some (oD (far v)):=by
 have:=P7 (xs:=lab n far) (j:=v.toNat) (r9 (by lia))
 rwa [show((v.toNat:Nat):Int)=v by lia] at this
theorem ZB{n:Nat}{v:Int}(a:0<=v)(h:v<n):ixN n v=some v.toNat:=by
 unfold ixN;rw[z0 a,z0 h]
theorem zH{n:Nat}{far:Int->Option Nat}{v:Int}{d:Nat}(a:0<=v)(h:v<n):(lab n far).set v.toNat (.int d)=lab n (Gr.label far v d):=by
 apply y6;intro i;rw[o5];by_cases e:v.toNat=i
 ·rw[z0 e,z0 (by rw[N9];lia),r9 (by lia)];have:(i:Int)=v:=by lia
  rw[this,Gr.label_same];rfl
 ·rw[y0 e];by_cases hi:i<n
  ·rw[r9 hi,r9 hi,Gr.label_ne (by lia)]
  ·rw[F7.mpr (by rw[N9];lia),F7.mpr (by rw[N9];lia)]
theorem sP{n:Nat}{f g:Int->Option Nat}(h:∀ v,0<=v->v<(n:Int)->f v=g v):lab n f=lab n g:=by
 unfold lab;apply DA;intro i hi;rw[h i (by lia) (by have:=X2.mp hi;lia)]
theorem QL:isNone (oD o)=o.isNone:=by cases o <;> rfl
theorem PD{α:Type}{f : α->PyData}{xs:List α}{i:Int}{x : α}(h:Y0 xs i=some x):Y0 (xs.map f) i=some (f x):=by
 unfold Y0 at h ⊢;rw[N1];cases e:ixN xs.length i with
 |none=>rw[e] at h;cases h
 |some j=>rw[e] at h;simp at h ⊢;exact⟨_,h,rfl⟩
theorem vA(a:0<=i)(h:xs[i.toNat]?=some x):Y0 xs i=some x:=by
 have:=P7 (xs:=xs) (j:=i.toNat) h
 rwa [show((i.toNat:Nat):Int)=i by lia] at this
@[reducible] def tlD (tl:List (List Int)):List (List PyData):=tl.map λws=>ws.map .int
theorem TiedL.get(h:TiedL n T tl)(b:0<=v)(c:v<n):∃ ws,tl[v.toNat]?=some ws/\∀ w,w∈ws ↔ T v w:=by
 have a:v.toNat<tl.length:=by have:=h.1;lia
 refine⟨tl[v.toNat],z1 a,λw=>?_⟩;rw[h.2 _ _ (z1 a) w,show((v.toNat:Nat):Int)=v by lia]
theorem tD{tl:List (List Int)}{i:Nat}{ws:List Int}(h:tl[i]?=some ws):(tlD tl)[i]?=some (ws.map .int):=by
 rw[v2,h];rfl
theorem TiedL.put(h:TiedL n T tl)(f:0<=v)(j:v<n)(c:tl[v.toNat]?=some ws):TiedL n (λa b=>T a b\/(a=v/\b=q)) (tl.set v.toNat (ws++[q])):=by
 refine⟨by rw[List.length_set];exact h.1,λi us hi w=>?_⟩;rw[o5] at hi;by_cases e:v.toNat=i
 ·rw[z0 e] at hi;have g:v.toNat<tl.length:=(R1.mp c).1;rw[z0 (by lia)] at hi;cases hi;have d:(i:Int)=v:=by lia
  rw[N2,O6,h.2 i ws (by rw[← e];exact c) w,d];simp
 ·rw[y0 e] at hi;rw[h.2 i us hi w];exact⟨.inl,λz=>z.elim id λz=>by lia⟩
theorem dI:(tlD tl).set i (ws.map .int)=tlD (tl.set i ws):=by
 unfold tlD;rw[List.map_set]
theorem TiedL.iff(h:TiedL n T tl)(e:∀ u v,T u v ↔ a u v):TiedL n a tl:=⟨h.1,λi ws hi w=>(h.2 i ws hi w).trans (e _ _)⟩
end VL
namespace VL
open PySem L2
def cnt(far:Int->Option Nat):Nat->Nat
 |0=>0
 |n+1=>cnt far n+(if far (n:Int)=none then 1 else 0)
theorem vF:∀{n:Nat},(w:Int) ≥ n->cnt (Gr.label far w d) n=cnt far n
 |0,_=>rfl
 | n+1,h=>by
  unfold cnt;rw[vF (by lia),Gr.label_ne (by lia)]
theorem iG(b:0<=w)(a:far w=none):∀{n:Nat},w<(n:Int)->cnt (Gr.label far w d) n+1=cnt far n
 |0,h=>by lia
 | n+1,h=>by
  unfold cnt;by_cases e:w=n
  ·subst e;rw[vF (by lia),Gr.label_same,a];simp
  ·rw[Gr.label_ne (by lia)];have:=iG b a (n:=n) (d:=d) (by lia);lia
theorem NR(n:Nat):(List.replicate n [PyData.none]).flatten=lab n (λ_=>none):=by
 apply y6;intro i;by_cases hi:i<n
 ·rw[r9 hi];have:(List.replicate n [PyData.none]).flatten=List.replicate n PyData.none:=by
   clear hi
   induction n with
   |zero=>rfl
   |succ n ih=>rw[Y6,List.flatten_cons,ih,Y6];rfl
  rw[this,iA,z0 hi];rfl
 ·rw[F7.mpr (by rw[ZH];simp;lia),F7.mpr (by rw[N9];lia)]
theorem wL{α:Type}{f : α->PyData}{xs:List α}:(xs.map f).isEmpty=xs.isEmpty:=by cases xs <;> rfl
theorem lD{xs:List Int}{j:Nat}{u w:Int}(a:xs[j]?=some u)(hm:w∈xs.take (j+1)):w∈xs.take j\/w=u:=by
 rw[Q7,a] at hm;rcases N2.mp hm with q|q
 ·exact .inl q
 ·exact .inr (by simpa using q)
theorem fQ:plainDs (lab n far)=true:=by
 rw[XI];intro d hd;obtain⟨i,_,rfl⟩:=T1.mp hd;cases far (i:Int) <;> rfl
theorem ET:((lab n far).any λz=>PyData.eqv z .none)=true ↔ ∃ v:Int,0<=v/\v<n/\far v=none:=by
 rw[List.any_eq_true];constructor
 ·rintro⟨d,hd,e⟩;obtain⟨i,hi,rfl⟩:=T1.mp hd;refine⟨i,by lia,by have:=X2.mp hi;lia,?_⟩;cases h:far (i:Int) with
  |none=>rfl
  |some d=>rw[h] at e;simp[oD,PyData.eqv] at e
 ·rintro⟨v,a,b,h⟩;refine⟨oD (far v),?_,by rw[h];rfl⟩;have:=r9 (far:=far) (show v.toNat<n by lia);rw[show((v.toNat:Nat):Int)=v by lia] at this;exact u3 this
def Joined(n:Int)(es:List (Int × Int)):Prop:=∀ v,0<=v->v<n->∃ d,Gr.Dist (Tied es) 0 v d
end VL
namespace DI
open PySem PySem.W
def Raw(h:Heap)(d:Addr)(es:Array DictEntry)(ep:Nat):Prop:=∃ o,h.get? d=some o/\o.ExactDict/\o.data=.dict es ep
theorem Raw.keep(r:Raw h d es a)(k:∀ o,h.get? d=some o->h'.get? d=some o):Raw h' d es a:=let ⟨o,e,x⟩:=r;⟨o,k o e,x⟩
theorem Raw.ty{s:Shared}{d:Addr}{es:Array DictEntry}{a:Nat}(r:Raw s.heap d es a):s.TypeIs (.ref d) "dict":=let ⟨o,e,x,_⟩:=r;⟨o,e,x.1⟩
theorem kP(hd:(d == sysModules)=false)(r:Raw s.heap d es ep)
  (c:Q (.ref s.heap.objs.size) { s with heap:=s.heap.push { cls:=.type "dict_keyiterator",data:=.fields #[.ref d,.int 0 0,.int es.size 0,.int ep 0] } }):wpAny (model prog w) A (pyIter (.ref d)) Q E s:=by
 obtain⟨o,b,hx,a⟩:=id r;refine wpAny_pyIter_slot r.ty PySem.F.slot_dict_iter (yA PySem.F.slot_dict_iter r.ty PySem.F.entry_dict_iter ?body (PySem.F.args_dict_iter_1 _))
 case body =>
  unfold Builtin.«dict.__iter__»;refine u0 ?slot
  case slot =>
   unfold Builtin.Dict.dictSlotNone;refine u0 (wpAny_notOrdered_dict r.ty ?pl)
   case pl =>
    show wpAny _ _ (pure (Value.ref d)) _ _ s;refine I0 ?rest
    case rest =>
     show wpAny _ _ (Builtin.Dict.showsAll d >>= _) _ _ s;unfold Builtin.Dict.showsAll;rw[y0 (by rw[hd];exact Y1)];refine u0 (I0 (u0 (wpAny_dictEntries b a (u0 (wpAny_dictEpoch b a (u0 (T7 (I0 ⟨_,rfl,"dict_keyiterator",_,⟨_,m3 _ rfl,rfl⟩,PySem.F.slot_dict_keyiterator_next.lookup,?fin⟩))))))))
     case fin=>simpa[rawInt] using c
theorem RM (a:s.heap.IsKeyIter it d i es.size ep) (r:Raw s.heap d es ep) (hi:i<es.size)
  (u:∀ h',h'.IsKeyIter it d (i+1) es.size ep->Heap.SameBut it s.heap h'->Q (some es[i].key) { s with heap:=h' }):wpAny (model prog w) A (pyNext (.ref it)) Q E s:=by
 obtain⟨o,q,v,hd⟩:=id a;obtain⟨od,n,t,p⟩:=r;unfold pyNext;refine u0 (wpAny_attempt (wpAny_callSpecial?_slot (name:=Str.ofString "__next__") a.typeIs PySem.F.slot_dict_keyiterator_next (yA PySem.F.slot_dict_keyiterator_next a.typeIs PySem.F.entry_dict_keyiterator_next ?b (PySem.F.args_dict_keyiterator_next_1 _))))
 case b =>
  refine u0 (I0 (u0 (u0 ?c)))
  case c =>
   first|refine u0 (wpAny_typeNameOfWhole_keyiter a.typeIs (I0 (u0 (wpAny_fieldsOf q hd ?e))))|refine u0 (wpAny_typeNameOf_keyiter a.typeIs (I0 (u0 (wpAny_fieldsOf q hd ?e))))
   case e =>
    simp only[show Builtin.Dict_items.ownsTuple "dict_keyiterator" = false by decide,Bool.false_eq_true,if_false];show wpAny _ _ (if (Value.ref d == Value.none)=true then _ else _) _ _ s;rw[y0 (show ¬ ((Value.ref d == Value.none)=true) from Y1)];refine u0 (I0 (u0 (wpAny_dictEntries n p ?f)))
    case f =>
     rw[y0 (by simp)];refine u0 (I0 (u0 (wpAny_dictEpoch n p ?g)))
     case g =>
      rw[y0 (by simp)];refine I0 ?h
      case h =>
       simp only[show ¬ ((i:Int)<0) by lia,if_false,Int.toNat_natCast,S2 hi];refine u0 ?j
       case j =>
        first|refine u0 (wpAny_typeNameOfWhole_keyiter a.typeIs (I0 (u0 (wpAny_isOneOf_keyiter a.typeIs ?k))))|refine u0 (wpAny_typeNameOf_keyiter a.typeIs (I0 (u0 (wpAny_isOneOf_keyiter a.typeIs ?k))))
        case k =>
         show wpAny _ _ (setField (.ref it) 1 (rawInt ((i:Int)+1)) >>= _) _ _ s;refine u0 (wpAny_setField q hd (by simp) ?l)
         case l =>
          have nx:(s.heap.update it (Obj.mapFields (·.setIfInBounds 1 (rawInt ((i:Int)+1))))).IsKeyIter it d (i+1) es.size ep:=⟨_,QB _ q (Obj.isFreed_of_fields (Obj.data_mapFields hd _)),(Obj.cls_mapFields ..).trans v,by rw[Obj.data_mapFields hd];simp[rawInt]⟩
          refine u0 (U3 (u0 (wpAny_isOneOf_keyiter (s:={ s with heap:=s.heap.update it (Obj.mapFields (·.setIfInBounds 1 (rawInt ((i:Int)+1)))) }) nx.typeIs ?m)))
          case m=>show wpAny _ _ (pure es[i].key) _ _ _;exact I0 (I0 ⟨_,rfl,I0 (u _ nx (Heap.SameBut.update ..))⟩)
theorem eS  (hh:A.handled=none) (i:s.heap.IsKeyIter it d es.size es.size ep) (r:Raw s.heap d es ep) (v:∀ h',Heap.ExtBut it s.heap h'->Q none { s with heap:=h' }):wpAny (model prog w) A (pyNext (.ref it)) Q E s:=by
 obtain⟨o,t,x,hd⟩:=id i;obtain⟨od,n,u,p⟩:=r;unfold pyNext;refine u0 (wpAny_attempt (wpAny_callSpecial?_slot (name:=Str.ofString "__next__") i.typeIs PySem.F.slot_dict_keyiterator_next (yA PySem.F.slot_dict_keyiterator_next i.typeIs PySem.F.entry_dict_keyiterator_next ?b (PySem.F.args_dict_keyiterator_next_1 _))))
 case b =>
  refine u0 (I0 (u0 (u0 ?c)))
  case c =>
   first|refine u0 (wpAny_typeNameOfWhole_keyiter i.typeIs (I0 (u0 (wpAny_fieldsOf t hd ?e))))|refine u0 (wpAny_typeNameOf_keyiter i.typeIs (I0 (u0 (wpAny_fieldsOf t hd ?e))))
   case e =>
    simp only[show Builtin.Dict_items.ownsTuple "dict_keyiterator" = false by decide,Bool.false_eq_true,if_false];show wpAny _ _ (if (Value.ref d == Value.none)=true then _ else _) _ _ s;rw[y0 (show ¬ ((Value.ref d == Value.none)=true) from Y1)];refine u0 (I0 (u0 (wpAny_dictEntries n p ?f)))
    case f =>
     rw[y0 (by simp)];refine u0 (I0 (u0 (wpAny_dictEpoch n p ?g)))
     case g =>
      rw[y0 (by simp)];refine I0 ?h
      case h =>
       simp only[show ¬ ((es.size:Int)<0) by lia,if_false,Int.toNat_natCast,Array.getElem?_eq_none (Q0 es.size)];refine u0 ?j
       case j =>
        first|refine u0 (wpAny_typeNameOfWhole_keyiter i.typeIs (I0 ?k))|refine u0 (wpAny_typeNameOf_keyiter i.typeIs (I0 ?k))
        case k =>
         show wpAny _ _ (setField (.ref it) 0 .none >>= _) _ _ s;refine u0 (wpAny_setField t hd (by simp) ?l)
         case l =>
          show wpAny _ _ (newExc (.type "StopIteration") [] >>= _) _ _ _;refine u0 ?m
          case m =>
           simp only[newExc,newTuple];refine u0 (T7 ?zz2 (by size_fits))
           case zz2 =>
            refine u0 (m:=firstArgMember _ _) (wpAny_of_eq (a:=Value.none) (by first|rfl|(simp only[firstArgMember];rfl)) (T7 ?zz1 (by size_fits)))
            case zz1 =>
             simp only[raiseNew];refine u0 (wpAny_handled ?q)
             case q =>
              rw[show A.in1.handled=none from hh];refine u0 (I0 (wpAny_throw ?u1))
              case u1=>refine u0 (wpAny_isInstance (T:="StopIteration") (b:=true) ⟨_,m3 _ rfl,rfl⟩ isSubtype_stop ?u2);exact I0 (v _ (((Heap.SameBut.update ..).extBut.push _).push _))
theorem walks{prog:Program}{w:World}{A:Around}(hh:A.handled=none)(I d:Addr)(c:d ≠ I)(es:Array DictEntry)(f:Nat) :
  Walks prog w A I [I,d] [I] es.size (λi v=>(es[i]?).map (·.key)=some v) (λi h=>h.IsKeyIter I d i es.size f/\Raw h d es f) where
 sub:=λb hb=>by simp at hb;simp[hb]
 frame:=λ_ _ _ st g=>⟨st.1.at λo e=>g I (by simp) o e,st.2.keep λo e=>g d (by simp) o e⟩
 item:=λi s Q E hi st a=>RM st.1 st.2 hi λh' nx sb=>a _ h' s.toks (by rw[S2 hi];rfl) ⟨nx,st.2.keep λo e=>sb.extBut d o c e⟩ λb o hb e=>sb.extBut b o (λz=>hb (by simp[z])) e
 done:=λs Q E st a=>eS hh st.1 st.2 λh' j=>a h' s.toks λb o hb e=>j b o (λz=>hb (by simp[z])) e
 self:=λ_ _ _ _ st a=>wpAny_pyIter_keyiter st.1 a
end DI
namespace DI
open PySem PySem.W PyProof.Rows
section
variable{prog:Program}{w:World}{A:Around}{E:Value->Shared->Prop}{s:Shared}
theorem src(d:Addr)(es:Array DictEntry)(a:Nat)(hd:(d == sysModules)=false):KdlSrc prog w "dict" d d es.size (λi v=>(es[i]?).map (·.key)=some v) (λh=>Raw h d es a) where
 type:=λs r=>r.ty
 there:=λh r=>let ⟨o,e,_⟩:=r;⟨M0 e,M0 e⟩
 keep:=λh h' r k=>r.keep λo e=>k d (.inl rfl) o e
 notList:=by decide
 notTuple:=by decide
 hint:=λA E s Q r q=>kdl_hint_dict r.ty q
 iter:=λA s hh r=>⟨{ cls:=.type "dict_keyiterator",data:=.fields #[.ref d,.int 0 0,.int es.size 0,.int a 0] },λi h=>h.IsKeyIter s.heap.objs.size d i es.size a/\Raw h d es a,λE Q q=>kP hd r q,
  walks hh s.heap.objs.size d (by obtain⟨o,e,_⟩:=r;exact U1 (M0 e)) es a,⟨_,m3 _ rfl,rfl,rfl⟩,r.keep λo e=>S1 _ e⟩
theorem collect_src(K:KdlSrc prog w T r d n P i)(hh:A.handled=none)(hok:i s.heap)(hn:n<=sizeLine)
  (q:∀ h' tk (f:Array Value),(∀ b o,s.heap.get? b=some o->h'.get? b=some o)->s.heap.objs.size<=h'.objs.size->ItemsOf P f n->Q f.toList { s with heap:=h',toks:=tk }):wpAny (model prog w) A (collect (.ref r)) Q E s:=by
 unfold collect;refine u0 (wpAny_runValue (X9 PySem.F.entry_proto_collect ?a1))
 case a1 =>
  rw[aA PySem.F.plain_proto_collect _];show wpAny _ A.in1 (newList [] >>= λl=>again (.builtin "list.__iadd__" ⟨[l,.ref r],[]⟩)) _ _ s;refine u0 (T7 (I0 ⟨plainId_quiet PySem.F.plain_list_iadd _,X9 PySem.F.entry_list_iadd ?a2⟩))
  case a2 =>
   rw[aA PySem.F.plain_list_iadd _];show wpAny _ A.in1 (Builtin.List.listExtendWith (.ref s.heap.objs.size) (.ref r) (.ref s.heap.objs.size)) _ _ _;have m:(s.heap.push { cls:=.type "list",data:=.seq ([]:List Value).toArray }).get? s.heap.objs.size=some { cls:=.type "list",data:=.seq #[] 0 }:=m3 _ rfl;obtain⟨t1,j⟩:=K.there _ hok;refine kdl_extend (R:=wants (λv p=>wpAny (model prog w) A (match v with | .ref a=>(do match (← load a).data with | .seq xs _=>pure xs.toList|_=>unsupported "internal:collect")|_=>unsupported "internal:collect") Q E p) E) (s:={ s with heap:=s.heap.push { cls:=.type "list",data:=.seq ([]:List Value).toArray } }) K hh (K.keep _ _ hok λb _ o e=>S1 _ e) s.heap.objs.size (Nat.ne_of_gt t1) (Nat.ne_of_gt j) _ 0 m (λh' tk f c k h g=>?a3) hn
   case a3 =>
    show wpAny (model prog w) A _ Q E _;refine u0 (wpAny_load h ?a4)
    case a4=>exact I0 (q h' tk f (λb o e=>k b o (U1 (M0 e)) (S1 _ e)) (V5 (M0 h)) g)
end
end DI
namespace TS
open PySem PySem.W PyProof.Rows
end TS
namespace L2
open PySem PySem.Spec PyProof.Rows
theorem Inv.turnNew{t':Nat}{ch:List Addr}{T:Addr}{o:HO}(I:Inv X pins σ H s)(f:∀ b∈ch,FpOk X pins H b)(k:∀ b u,b ∉ ch->s.heap.get? b=some u->h'.get? b=some u)(g:s.heap.objs.size<=T)(new:ObjOk X.prog X.w (upd H T o) h' T o) :
  Inv X pins σ (upd H T o) { s with heap:=h',toks:=t' }:=by
 have hn:H T=none:=I.hok.fresh g;have d:∀ b u,H b=some u->b ∉ ch:=λb u e z=>by rw[(f b z).1] at e;cases e
 refine I.step (g':=s.gens) (d':=s.drawn) (ch:=ch) (λb hb=>⟨(f b hb).2.2.2.1,(f b hb).2.1,(f b hb).2.2.2.2.1,(f b hb).2.2.2.2.2⟩) (λb u _ _ a e _=>k b u a e) (λb u _ _ a e _=>⟨u.slots,k b u a e⟩)
  (λb u _ e n=>by rw[G0 (U1 (z4 (M0 e) g))];exact n) (λb u a e=>⟨u,k b u a e⟩) (λb xs e=>by rw[G0 (z3 e hn)];exact e) (λb u v e=>by rw[G0 (z3 e hn)];exact e)
  (λb ps e=>⟨#[],by rw[G0 (z3 e hn),e];simp⟩) (λm hm=>?_) (λb u e=>?_) I.bare
 ·obtain⟨u,es,h,i,r⟩:=hm;exact⟨u,es,h,k _ u (λz=>(f _ z).2.1 rfl) i,r⟩
 ·by_cases hb:b=T
  ·subst hb;rw[S0] at e;cases e;exact new
  ·rw[G0 hb] at e;refine(I.hok b u e).stay (λc v a q=>k c v ?_ q) (λc q=>by rw[G0 (z3 q hn)];exact q) λc xs q=>by rw[G0 (z3 q hn)];exact q
   rcases a with z|z
   ·rw[z];exact d b u e
   ·exact d c _ z
theorem Inv.turnedL{t':Nat}{ch:List Addr}(I:Inv X pins σ H s)(f:∀ b∈ch,FpOk X pins H b)(k:∀ b u,b ∉ ch->s.heap.get? b=some u->h'.get? b=some u):Inv X pins σ H { s with heap:=h',toks:=t' }:=by
 have d:∀ b u,H b=some u->b ∉ ch:=λb u e z=>by rw[(f b z).1] at e;cases e
 refine I.step (g':=s.gens) (d':=s.drawn) (ch:=ch) (λb hb=>⟨(f b hb).2.2.2.1,(f b hb).2.1,(f b hb).2.2.2.2.1,(f b hb).2.2.2.2.2⟩) (λb u _ _ a e _=>k b u a e) (λb u _ _ a e _=>⟨u.slots,k b u a e⟩) (λ_ _ _ _ n=>n)
  (λb u a e=>⟨u,k b u a e⟩) (λ_ _ e=>e) (λ_ _ _ e=>e) (λb ps e=>⟨#[],by rw[e];simp⟩) (λm hm=>?_) (λb u e=>?_) I.bare
 ·obtain⟨u,es,g,h,r⟩:=hm;exact⟨u,es,g,k _ u (λz=>(f _ z).2.1 rfl) h,r⟩
 ·refine(I.hok b u e).stay (λc v a q=>k c v ?_ q) (λ_ q=>q) λ_ _ q=>q;rcases a with z|z
  ·rw[z];exact d b u e
  ·exact d c _ z
def Itz(K:Frag)(a b:Addr):It :=
 ⟨λi H=>∃ xs ys x y,SqL K H a xs/\SqL K H b ys/\xs[i]?=some x/\ys[i]?=some y,λi H v H'=>∃ p x y,v=.ref p/\H p=none/\H'=upd H p (.tup [x,y])/\(∀ xs,SqL K H a xs->xs[i]?=some x)/\∀ ys,SqL K H b ys->ys[i]?=some y,
  λi H=>∃ xs ys,SqL K H a xs/\SqL K H b ys/\min xs.length ys.length=i⟩
theorem sL{P:Program}{w:World}{K:Frag}{m:List Expr}{k:Nat}{pos:Pos}(z TI TO i1 f G J:Addr)(D:ZipApart z TI TO i1 f G J) :
  Turn P w K (.Tuple m k pos) (Itz K G J) [z,TI,TO,i1,f] z (λi h=>IsZip h z TI TO .none/\IsPair h TI (.ref i1) (.ref f)/\(∃ a b,IsPair h TO a b)/\h.IsListIter i1 G i/\h.IsListIter f J i) where
 mem:=by simp
 obj:=λi h st b hb=>by
  obtain⟨r,c,⟨a,b',d⟩,⟨o1,e1,c1,d1⟩,⟨o2,e2,c2,d2⟩⟩:=st;simp only[V0,y7,or_false] at hb;rcases hb with rfl|rfl|rfl|rfl|rfl
  ·exact⟨_,r,λv y=>by simp at y⟩
  ·exact⟨_,c,λv y=>by simp at y⟩
  ·exact⟨_,d,λv y=>by simp at y⟩
  ·exact⟨o1,e1,λv y=>by rw[d1] at y;cases y⟩
  ·exact⟨o2,e2,λv y=>by rw[d2] at y;cases y⟩
 keep:=λi h h' st q=>by
  obtain⟨r,c,⟨a,b',d⟩,C,F⟩:=st;exact⟨q z (by simp) _ r,q TI (by simp) _ c,⟨a,b',q TO (by simp) _ d⟩,C.at λo x=>q i1 (by simp) o x,F.at λo x=>q f (by simp) o x⟩
 item:=by
  intro X L hw hK hc i pins s σ H E I hf st U;subst L hw hK;obtain⟨xs,ys,x,y,l,j,hx,hy⟩:=U;obtain⟨us,p,p1,_⟩:=I.list l;obtain⟨vs,t,p2,_⟩:=I.list j;obtain⟨u,hu,ru⟩:=p.get hx;obtain⟨v,hv,rv⟩:=t.get hy;have hi:i<min us.toArray.size vs.toArray.size:=by
   have a1:=(R1.mp hu).1;have a2:=(R1.mp hv).1;simp;lia
  obtain⟨r,c,d,C,F⟩:=st;have W:=WalksT.zip2 (prog:=X.prog) (w:=X.w) (I.ok.hd hc) z TI TO i1 f G J D us.toArray vs.toArray;refine W.item i s _ _ hi ⟨r,c,d,C,F,p1.isList,p2.isList⟩ λT a3 h3 tk L hT O mid Z=>⟨_,rfl,?_⟩
  obtain⟨S,R,a0,Y,rfl⟩:=L;have ex:S=u:=by
   have:us[i]?=some S:=by simpa using a0
   rw[hu] at this;cases this;rfl
  have ey:R=v:=by
   have:vs[i]?=some R:=by simpa using Y
   rw[hv] at this;cases this;rfl
  subst ex ey;have M:=W.apart i T _ mid;have sub:∀ b,b ∉ [z,TI,TO,i1,f]->b ∉ [z,TO,i1,f]:=λb hb y=>hb (by simp at y ⊢;rcases y with y|y|y|y <;> simp[y]);have Tt:T ∉ [z,TI,TO,i1,f]:=λy=>by
   have:=(hf T y).1;obtain⟨o,e,_⟩:=O;simp only[V0,y7,or_false] at y;rcases y with rfl|rfl|rfl|rfl|rfl
   ·exact M (by simp)
   ·exact absurd (M0 c) (Nat.not_lt.mpr hT)
   ·exact M (by simp)
   ·exact M (by simp)
   ·exact M (by simp)
  refine W.go m k pos i T { s with heap:=h3,toks:=tk } _ _ mid λh4 g k4=>?_;have N:IsTup h4 T #[S,R]:=by
   obtain⟨o,e1,e2,n,e3⟩:=O;exact⟨o,k4 T o M e1,e2,n,e3⟩
  refine⟨.ref T,upd H T (.tup [x,y]),I.turnNew hf (λb o hb q=>k4 b o (sub b hb) (Z b o (sub b hb) q)) hT ?_,rfl,⟨T,x,y,rfl,I.hok.fresh hT,rfl,λzs B=>by rw[I.list_inj B l];exact hx,λzs B=>by rw[I.list_inj B j];exact hy⟩,⟨g.1,g.2.1,g.2.2.1,g.2.2.2.1,g.2.2.2.2.1⟩,λb hb=>?_⟩
  ·exact⟨by show(2:Nat)<=sizeLine;decide,[S,R],.cons ru (.cons rv .nil),N⟩
  ·rw[G0]
   ·exact(hf b hb).1
   ·rintro rfl;exact Tt hb
 done:=by
  intro X L hw hK hc i pins s σ H E I hf st U;subst L hw hK;obtain⟨xs,ys,l,j,hx⟩:=U;obtain⟨us,p,p1,_⟩:=I.list l;obtain⟨vs,t,p2,_⟩:=I.list j;obtain⟨r,c,d,C,F⟩:=st;have W:=WalksT.zip2 (prog:=X.prog) (w:=X.w) (I.ok.hd hc) z TI TO i1 f G J D us.toArray vs.toArray;have ei:min us.toArray.size vs.toArray.size=i:=by
   rw[← hx,p.length,t.length];simp
  have sub:∀ b,b ∉ [z,TI,TO,i1,f]->b ∉ [z,TO,i1,f]:=λb hb y=>hb (by simp at y ⊢;rcases y with y|y|y|y <;> simp[y]);rw[← ei] at C F;exact W.done s _ _ ⟨r,c,d,C,F,p1.isList,p2.isList⟩ λh3 tk Z=>⟨rfl,I.turnedL (t':=tk) hf λb o hb q=>Z b o (sub b hb) q⟩
 self:=λA i s Q E st h=>wpAny_pyIter_zip st.1 h
theorem hL(c:a<n)(d:b<n):ZipApart (n+4) (n+2) (n+3) n (n+1) a b:=by constructor <;> (show(_:Nat) ≠ _;lia)
def iZip(K:Frag)(ta:TA):TI:=λσ H R=>ta σ H λvs H1=>∃ a b xs ys,vs=[.ref a,.ref b]/\SqL K H1 a xs/\SqL K H1 b ys/\R (Itz K a b) H1
theorem ER(z:Gl X "zip")(hm:X.mg "zip" = none)(ha:PA X [a,b] v)(hs:starEach [a,b] X.env=[(false,eval a X.env),(false,eval b X.env)]:=by rfl)(d:starEach [b] X.env=[(false,eval b X.env)]:=by rfl):PI X (.Tuple elts k tpos) (.Call (.Name "zip" p) [a,b] [] pos) (iZip X.K v):=by
 intro pins s σ H R I h;refine Call_ (Y8 I z hm FJ (PyProof.Rows.callWith_type1 (thn (ha pos pins s σ H _ I h) λus s1 ⟨vs,D,f,B,a,b,xs,ys,y,l,j,q⟩=>?_) (by rw[hs,d]) (by rw[d];rfl)));subst y;obtain⟨u,c,rfl,E,F⟩:=WA B;cases E;cases F;obtain⟨_,_,r,_⟩:=f.list l;obtain⟨_,_,p2,_⟩:=f.list j;have G:a<s1.heap.objs.size:=by obtain⟨o,n,e,_⟩:=r;exact M0 e
 have C:b<s1.heap.objs.size:=by obtain⟨o,n,e,_⟩:=p2;exact M0 e
 refine call_zip_2 r.isList p2.isList λJ t i m A x hsz kp=>?_;refine wpAny_pyIter_zip t ⟨s1.heap.objs.size+4,[s1.heap.objs.size+4,s1.heap.objs.size+2,s1.heap.objs.size+3,s1.heap.objs.size,s1.heap.objs.size+1],_,_,D,rfl,f.kept (t':=s1.toks) kp,sL _ _ _ _ _ a b (hL G C),⟨t,i,⟨_,_,m⟩,A,x⟩,λc w=>?_,q⟩;have g:s1.heap.objs.size<=c:=by
  simp only[V0,y7,or_false] at w;rcases w with rfl|rfl|rfl|rfl|rfl
  ·exact Nat.le_add_right _ 4
  ·exact Nat.le_add_right _ 2
  ·exact Nat.le_add_right _ 3
  ·exact Q0 _
  ·exact Nat.le_add_right _ 1
 exact f.fpOk g (f.hok.fresh g)
theorem YL(prog:Program)(w:World)(A:Around){bs:List Bool}{us:List Value}(r:Vals (bs.map V.bl) us):TruthOf prog w A (λi v=>us.toArray[i]?=some v) (λi=>bs.getD i false):=by
 intro i v s Q E c h;have a:us[i]?=some v:=by simpa using c
 have hi:i<us.length:=(R1.mp a).1;have hb:i<bs.length:=by have:=r.length;simp at this;lia
 obtain⟨u,b,d⟩:=r.get (i:=i) (x:=.bl bs[i]) (by simp[hb]);rw[a] at b;cases b;cases (show v=Value.bool bs[i] from d);have e:bs.getD i false=bs[i]:=by simp[List.getD,hb]
 have h':Q (bs.getD i false) s:=h;rw[e] at h';exact p7 h'
theorem YJ(bs:List Bool):((List.range bs.length).all λi=>bs.getD i false)=bs.all id:=by
 rw[R7,R3,R3];constructor
 ·intro h b hb;obtain⟨i,hi,e⟩:=MB.mp hb;have:=h i (X2.mpr hi);simp[List.getD,hi,e] at this;exact this
 ·intro h i hi;have a:=X2.mp hi;have:=h bs[i] (List.getElem_mem a);simp[List.getD,a];exact this
def rAll(K:Frag):List V->Hp->VK->Prop:=λxs H Q=>∃(a:Addr)(bs:List Bool),xs=[.ref a]/\SqL K H a (bs.map V.bl)/\Q (.bl (bs.all id)) H
theorem jC(j:X.calm=true):l2 X (.builtin "all") (rAll X.K):=by
 intro pins s σ H xs us Q I r h;obtain⟨a,bs,rfl,ha,q⟩:=h;obtain⟨u,rfl,i⟩:=S5 r;cases i;obtain⟨its,d,c,_⟩:=I.list ha;have g:a<s.heap.objs.size:=by obtain⟨o,n,e,_⟩:=c;exact M0 e
 have f:its.toArray.size=bs.length:=by have:=d.length;simp at this;simp[this]
 refine call_all_walk (U8 c.isList ⟨_,[s.heap.objs.size,a],_,_,_,_,_,rfl,Walks.list (A:=X.A.in1) (I.ok.hd j) _ a (U1 g) its.toArray,⟨⟨_,m3 _ rfl,rfl,rfl⟩,c.isList.push _⟩,YL _ _ _ d,λl tk kp=>?_⟩);rw[f,YJ];refine⟨.bl _,H,I.kept λb o e=>kp b o (λz=>?_) (S1 _ e),rfl,q⟩;exact absurd (M0 e) (by rw[O6.mp z];exact L3 _)
end L2
namespace VL
open PySem PySem.Spec L2
def zipD(xs ys:List PyData):List PyData:=(xs.zip ys).map λp=>.tuple [p.1,p.2]
theorem JR{xs ys:List PyData}{i:Nat}{d:PyData}(h:(zipD xs ys)[i]?=some d):∃ x y,xs[i]?=some x/\ys[i]?=some y/\d=.tuple [x,y]:=by
 unfold zipD at h;rw[v2] at h;cases e:(xs.zip ys)[i]? with
 |none=>rw[e] at h;cases h
 | some p =>
  rw[e] at h;cases h;obtain⟨a,b⟩:=List.getElem?_zip_eq_some.mp e;exact⟨p.1,p.2,a,b,rfl⟩
theorem Out.tup2(g:Same G H)(h:H p=none)(a:Rp G x d)(b:Rp G y e):Out G H (.ref p) (upd G p (.tup [x,y])) (upd H p (.tup [x,y])) (.st (.tuple [d,e])) (λ_=>False):=Out.newT g h (.cons a (.cons b .nil))
theorem YR(h:EvA B ta env λvs e=>∃ xs ys,vs=[.list xs,.list ys]/\QI (zipD xs ys) e):EvI B (iZip K ta) env QI:=λσ G H F R I k =>
 h σ G H F _ I λvs A M N ds c j J L n=>by
  obtain⟨xs,ys,s,q⟩:=n;subst s;cases L with
  | cons r t =>
   cases t with
   | cons r2 t =>
    cases t;cases r with
    | @lst a us _ ha rs =>
     cases r2 with
     | @lst b ws _ hb rs2 =>
      have D:(zipD xs ys).length=min us.length ws.length:=by simp[zipD,rs.length,rs2.length]
      refine⟨a,b,us,ws,rfl,SqL.of (j.gh _ _ ha),SqL.of (j.gh _ _ hb),k _ A M N _ c j J ⟨λi G' H' g h hi=>?_,λi G' H' g h hi=>?_,λi G' H' x H'' d g h ft hd y=>?_⟩ q⟩
      ·have E:i<us.length:=by lia
       have z:i<ws.length:=by lia
       exact⟨us,ws,us[i],ws[i],SqL.of (h _ _ (g _ _ ha)),SqL.of (h _ _ (g _ _ hb)),z1 E,z1 z⟩
      ·exact⟨us,ws,SqL.of (h _ _ (g _ _ ha)),SqL.of (h _ _ (g _ _ hb)),by rw[← D];exact hi.symm⟩
      ·obtain⟨p,v,w,rfl,P,rfl,o,S⟩:=y;obtain⟨dx,U,hx,Q,rfl⟩:=JR hd;obtain⟨u,C,O⟩:=rs.get hx;obtain⟨T,l,f⟩:=rs2.get Q;have c:=o us (SqL.of (h _ _ (g _ _ ha)));have m:=S ws (SqL.of (h _ _ (g _ _ hb)));rw[C] at c;cases c;rw[l] at m;cases m;exact⟨_,Out.tup2 h P (O.same g) (f.same g)⟩
@[reducible] def tiD (ns:List Int):PyData:=.tuple (ns.map .int)
def lexS(pss:List (List Int)):Prop:=pss.Pairwise λx y=>HT.lexLt y x=false
theorem gH(ft:FT G H):∀{vs:List V},(∀ v∈vs,TupI H v)->Rps G vs ((vs.map (kH H)).map tiD)
 |[],_=>.nil
 | v::vs,h=>by
  obtain⟨t,ns,rfl,e,_⟩:=h v E4;rw[P0,P0,yD e];have:(ns.map V.int)=(ns.map (λi=>(Sum.inl i:Key))).map kV:=by rw[P4];rfl
  refine .cons (.tup ?_ (Rps.ints ns)) (gH ft λu a=>h u (Q3 _ a));rw[this];exact ft t _ (by rw[← this];exact e)
theorem PF(gh:Same G H):∀{vs:List V}{pss:List (List Int)},Rps G vs (pss.map tiD)->(∀ ns∈pss,ns ≠ [])->(∀ v∈vs,TupI H v)/\vs.map (kH H)=pss
 |_,[],.nil,_=>⟨λv b=>by simp at b,rfl⟩
 | v::vs,ns::pss,.cons r t,hn=>by
  obtain⟨i1,c⟩:=PF gh t λd hm=>hn d (Q3 _ hm);cases r with
  | tup h rs =>
   have:=Rps.ints_inv rs;subst this;have e:=gh _ _ h;refine⟨λu a=>?_,by rw[P0,yD e,c]⟩;rcases V0.mp a with rfl|a
   ·exact⟨_,ns,rfl,e,hn ns E4⟩
   ·exact i1 u a
theorem NS(hn:∀ ns∈pss,ns ≠ [])(h:EvA B ta env λds e=>ds=[.list (pss.map tiD)]/\∀ b:List (List Int),b.Perm pss->lexS b->QO (.own (OL (b.map tiD))) e):EvO B (tCB (xB K) ta) env QO:=λσ G H F Q I k =>
 h σ G H F _ I λvs x d u ds w c q s g=>by
  obtain⟨l,j⟩:=g;subst l;cases s with
  | cons r t =>
   cases t;cases r with
   | @lst a us _ ha rs =>
    obtain⟨t1,m⟩:=PF c.gh rs hn;refine⟨a,us,rfl,SqL.of (c.gh _ _ ha),t1,λws p f hs hf=>?_⟩;have n:∀ v∈ws,TupI d v:=λv i=>t1 v (f.mem_iff.mp i);have o:=Out.newL c.gh hf (gH c.ft n);refine k _ _ _ u _ _ w (c.out o).1 (q.trans o.gg) (c.out o).2 (j _ ?_ ?_)
    ·have:=f.map (kH d);rw[m] at this;exact this
    ·unfold lexS;rw[m9];exact hs
theorem Rps.bools_inv:∀{bs:List Bool}{vs:List V},Rps G vs (bs.map PyData.bool)->vs=bs.map V.bl
 |[],_,.nil=>rfl
 | b::bs,_,.cons r t=>by
  cases r;rw[Rps.bools_inv t];rfl
theorem NB{bs:List Bool}(h:R (.st (.bool (bs.all id)))):OpA (rAll K) [.list (bs.map .bool)] R:=λG H vs Q gh rs k=>by
 cases rs with
 | cons r t =>
  cases t;cases r with
  | lst ha ra =>
   have:=Rps.bools_inv ra;subst this;exact⟨_,bs,rfl,SqL.of (gh _ _ ha),k _ _ _ _ _ (Out.refl gh (.bl _)) h⟩
section
variable{κ:Type} [DecidableEq κ] {α:Type}
def valD(es:List (κ × α))(k : κ):Option α:=(es.find? λe=>decide (e.1=k)).map (·.2)
def putD(es:List (κ × α))(k : κ)(d : α):List (κ × α):=if (es.any λe=>decide (e.1=k))=true then es.map (λe=>if e.1=k then (e.1,d) else e) else es++[(k,d)]
end
theorem RpK.val:∀{kvs:List (Key × V)}{es:List (Key × PyData)},RpK G kvs es->(valD es k=none->valV kvs k=none)/\∀ d,valD es k=some d->∃ v,valV kvs k=some v/\Rp G v d
 |_,_,.nil=>⟨λ_=>rfl,λd h=>by cases h⟩
 | _,_,.cons (k:=k') r t=>by
  obtain⟨i1,c⟩:=RpK.val (k:=k) t;by_cases e:k'=k
  ·refine⟨λh=>by simp[valD,e] at h,λd h=>?_⟩;simp[valD,e] at h;subst h;exact⟨_,by simp[valV,e],r⟩
  ·refine⟨λh=>?_,λd h=>?_⟩
   ·simp[valV,e];simp[valD,e] at h;have:=i1 (by simp[valD];exact h);simpa[valV] using this
   ·obtain⟨v,a,b⟩:=c d (by simpa[valD,e] using h);exact⟨v,by simpa[valV,e] using a,b⟩
theorem RpK.any:∀{kvs:List (Key × V)}{es:List (Key × PyData)},RpK G kvs es->(kvs.any λe=>decide (e.1=k))=es.any λe=>decide (e.1=k)
 |_,_,.nil=>rfl
 |_,_,.cons r t=>by simp[RpK.any t]
theorem RpK.map(h:Rp G v d):∀{kvs:List (Key × V)}{es:List (Key × PyData)},RpK G kvs es->RpK G (kvs.map λe=>if e.1=k then (e.1,v) else e) (es.map λe=>if e.1=k then (e.1,d) else e)
 |_,_,.nil=>.nil
 | _,_,.cons (k:=k') r t=>by
  by_cases e:k'=k
  ·simp only[P0,e,if_true];exact .cons h (RpK.map h t)
  ·simp only[P0,e,if_false];exact .cons r (RpK.map h t)
theorem RpK.append:∀{a b:List (Key × V)}{c d:List (Key × PyData)},RpK G a c->RpK G b d->RpK G (a++b) (c++d)
 |_,_,_,_,.nil,s=>s
 |_,_,_,_,.cons r t,s=>.cons r (RpK.append t s)
theorem RpK.put(h:Rp G v d)(r:RpK G kvs es):RpK G (putK kvs k v) (putD es k d):=by
 unfold putK putD;rw[r.any];split
 ·exact r.map h
 ·exact r.append (.cons h .nil)
theorem RpK.length:∀{kvs:List (Key × V)}{es:List (Key × PyData)},RpK G kvs es->kvs.length=es.length
 |_,_,.nil=>rfl
 |_,_,.cons _ t=>by simp[RpK.length t]
theorem UC(r:Rp G v (kD k)):v=kV k:=by
 cases k with
 |inl i=>cases r;rfl
 |inr x=>cases r;rfl
theorem pH(q:QO (.own (OD [])) env):EvO B QH env QO:=λσ G H F Q I k p a=>by
 have o:=Out.newD (ds:=[]) I.gh a .nil;exact k _ _ _ F _ _ env (I.out o).1 o.gg (I.out o).2 q
theorem OT(b:ds.length=n)(h:EvGs B a ds env QE):EvG B (gLst K n a) (.st (.list ds)) env QE:=λσ G H F v Fv Q I x k=>by
 obtain⟨r,_⟩:=x.ok;cases r with
 |lst ha rs=>exact⟨_,_,rfl,SqL.of (I.gh _ _ ha),by rw[rs.length,b],h σ G H F _ Q I rs k⟩
theorem QS(h:EvA B ta env λds e=>∃ ns:List Int,ds=[.list (ns.map .int)]/\ns.length<64/\∀ b:List Int,b.Perm ns->b.Pairwise (·<=·)->QO (.own (OL (b.map .int))) e):EvO B (tCB (MC K) ta) env QO:=λσ G H F Q I k =>
 h σ G H F _ I λvs s u m ds q c j l d=>by
  obtain⟨ns,g,i,f⟩:=d;subst g;cases l with
  | cons r t =>
   cases t;cases r with
   | @lst a us _ ha rs =>
    have:=Rps.ints_inv rs;subst this;refine⟨a,ns,rfl,SqL.of (c.gh _ _ ha),i,λb p n hs hf=>?_⟩;have o:=Out.newL c.gh hf (Rps.ints b);exact k _ _ _ m _ _ q (c.out o).1 (j.trans o.gg) (c.out o).2 (f _ n hs)
theorem DP{xs ys:List PyData}{R:List PyData->List PyData->Prop}(h:R xs ys):∃ us vs,[PyData.list xs,.list ys]=[.list us,.list vs]/\R us vs:=⟨xs,ys,rfl,h⟩
def ltP(p q:Int × Int):Prop:=p.1<q.1\/(p.1=q.1/\p.2<q.2)
@[reducible] def p2 (p:Int × Int):List Int:=[p.1,p.2]
theorem lex2(p q:Int × Int):HT.lexLt (p2 p) (p2 q)=true ↔ ltP p q:=by
 obtain⟨a,b⟩:=p;obtain⟨c,d⟩:=q;simp[p2,HT.lexLt,ltP];split <;> lia
theorem yL(h:a.Perm (ps.map p2)):∃ b:List (Int × Int),a=b.map p2/\b.Perm ps:=by
 refine⟨a.map λl=>(l.getD 0 0,l.getD 1 0),?_,?_⟩
 ·rw[P4]
  symm
  conv=>rhs;rw[← List.map_id a]
  apply DA;intro l c;obtain⟨p,_,rfl⟩:=T1.mp (h.mem_iff.mp c);rfl
 ·have:=h.map λl=>(l.getD 0 0,l.getD 1 0)
  rw[P4] at this;have e:((λl:List Int=>(l.getD 0 0,l.getD 1 0)) ∘ p2)=id:=by funext p;rfl
  rw[e,List.map_id] at this;exact this
def Rise(es:List (Int × Int)):Prop:=es.Pairwise ltP
theorem Z9(p:Int × Int):¬ ltP p p:=by unfold ltP;lia
theorem CK(p q:Int × Int):ltP p q\/p=q\/ltP q p:=by
 obtain⟨a,b⟩:=p;obtain⟨c,d⟩:=q;unfold ltP;simp only[Prod.mk.injEq];lia
theorem yB(h:ltP p q)(g:ltP q r):ltP p r:=by unfold ltP at *;lia
theorem Rise.nodup(h:Rise es):es.Nodup:=h.imp λ{p q} z (e:p=q)=>Z9 q (by rw[e] at z;exact z)
theorem Rise.eq:∀{as bs:List (Int × Int)},Rise as->Rise bs->(∀ p,p∈as ↔ p∈bs)->as=bs
 |[],[],_,_,_=>rfl
 |[],b::_,_,_,h=>by have:=(h b).mpr E4;simp at this
 |a::_,[],_,_,h=>by have:=(h a).mp E4;simp at this
 | a::as,b::bs,ha,hb,h=>by
  obtain⟨c,j⟩:=w9.mp ha;obtain⟨d,i⟩:=w9.mp hb;have e:a=b:=by
   rcases V0.mp ((h a).mp E4) with e|e
   ·exact e
   ·rcases V0.mp ((h b).mpr E4) with f|f
    ·exact f.symm
    ·exact absurd (yB (c b f) (d a e)) (Z9 a)
  subst e;have:=Rise.eq j i λp=>by
   have g:=h p;simp only[V0] at g;constructor
   ·intro m;rcases g.mp (.inr m) with e|e
    ·subst e;exact absurd (c p m) (Z9 p)
    ·exact e
   ·intro m;rcases g.mpr (.inr m) with e|e
    ·subst e;exact absurd (d p m) (Z9 p)
    ·exact e
  rw[this]
structure WebOk(n:Int)(es:List (Int × Int)):Prop where
 lo:1<=n
 hi:n<=60
 inn:∀ p∈es,0<=p.1/\p.1<p.2/\p.2<n
 rise:Rise es
theorem WN{n:Nat}{es:List (Int × Int)}(hn:es.Nodup)(hi:∀ p∈es,0<=p.1/\p.1<(n:Int)/\0<=p.2/\p.2<(n:Int)):es.length<=n * n:=by
 have j:(es.map λ(p:Int × Int)=>p.1 * (n:Int)+p.2).Nodup:=by
  unfold List.Nodup;rw[m9];refine List.Pairwise.imp_of_mem ?_ hn;intro p q d i c e;have a:=hi p d;have b:=hi q i;apply c;have f:p.1=q.1:=by
   rcases Int.lt_trichotomy p.1 q.1 with z|z|z
   ·have:(p.1+1) * n<=q.1 * n:=Int.mul_le_mul_of_nonneg_right (by lia) (by lia);rw[Int.add_mul] at this;lia
   ·exact z
   ·have:(q.1+1) * n<=p.1 * n:=Int.mul_le_mul_of_nonneg_right (by lia) (by lia);rw[Int.add_mul] at this;lia
  rw[f] at e;exact Prod.ext f (by lia)
 have:=L2.few_places (n * n) _ j λv h=>by
  obtain⟨p,d,rfl⟩:=T1.mp h;have a:=hi p d;have l:0<=p.1 * (n:Int):=Int.mul_nonneg a.1 (by lia);have g:(p.1+1) * (n:Int)<=n * n:=Int.mul_le_mul_of_nonneg_right (by lia) (by lia);rw[Int.add_mul] at g
  push_cast
  lia
 simpa using this
def kE(ps:List (Int × Int)):List (List Key × PyData):=ps.map λp=>([Sum.inl p.1,Sum.inl p.2],.bool true)
def addP(ps:List (Int × Int))(p:Int × Int):List (Int × Int):=if p∈ps then ps else ps++[p]
theorem CF(ps:List (Int × Int)):(ps.map p2).map tiD=ps.map prD:=by rw[P4];rfl
theorem NK{ps:List (Int × Int)}:∀ ns∈ps.map p2,ns ≠ []:=λns h=>by
 obtain⟨p,_,rfl⟩:=T1.mp h;simp
theorem CN(h:EvA B ta env λds e=>ds=[.list (ps.map prD)]/\∀ a:List (Int × Int),a.Perm ps->lexS (a.map p2)->QO (.own (OL (a.map prD))) e):EvO B (tCB (xB K) ta) env QO :=
 NS (pss:=ps.map p2) NK λσ G H F Q I k=>h σ G H F Q I λvs G' H' F' ds e b g r ⟨f,q⟩=>k vs G' H' F' ds e b g r ⟨by rw[CF];exact f,λc i hs=>by
  obtain⟨a,rfl,d⟩:=yL i;rw[CF];exact q a d hs⟩
def OW(d:PyData)(ds:List PyData):Own where
 P:=λG H v F=>∃ t l u vs,v=.ref t/\H t=some (.tup [u,.ref l])/\Rp G u d/\H l=some (.lst vs)/\Rps G vs ds/\∀ b,F b ↔ b=t\/b=l
 mono:=λ⟨t,l,u,vs,e,h1,r1,h2,r2,f⟩ g hh=>⟨t,l,u,vs,e,hh t _ ((f t).mpr (.inl rfl)) h1,r1.same g,hh l _ ((f l).mpr (.inr rfl)) h2,r2.same g,f⟩
 dom:=λ⟨t,l,u,vs,e,h1,r1,h2,r2,f⟩ b z=>by
  rcases(f b).mp z with rfl|rfl
  ·exact⟨_,h1⟩
  ·exact⟨_,h2⟩
theorem SE:Frz (OW d ds) (.tuple [d,.list ds]):=λG H v F ⟨t,l,u,vs,e,a,b,h,c,f⟩ n g=>by
 subst e;exact .tup (by rw[L6 ((f t).mpr (.inl rfl))];exact a) (.cons (b.same (m4 n)) (.cons (.lst (by rw[L6 ((f l).mpr (.inr rfl))];exact h) (c.same (m4 n))) .nil))
theorem fH(h:R (.tuple [d,.list ds])):FQ (.own (OW d ds)) R:=⟨_,SE,h⟩
section
variable{B:Bs}{env:En}{QO:Sl->En->Prop}{Q':PyData->En->Prop}{K:Frag}{i j:Nat}{ta te:TE}
theorem US{u:V}{l:Addr}{a:List Key}:HO.tup [u,.ref l] ≠ .tup (a.map kV):=by
 intro z;injection z with z
 match a,z with
 |[],z=>cases z
 |[_],z=>cases z
 | [_,k],z =>
  simp at z;cases k <;> simp[kV] at z
 |_::_::_::_,z=>simp at z
theorem x_ow{ds:List PyData}{a:En}{R:List PyData->Prop}(e:a[j]?=some (some (.own (OL ds))))(q:R ds):∃ ds,a[j]?=some (some (.own (OL ds)))/\R ds:=⟨ds,e,q⟩
end
theorem UP(h:R (.st (.bool (HT.lexLt (p2 p) (p2 q))))):Op2 (rLtT K) (prD p) (prD q) R:=λG H f g Q gh b c k=>by
 cases b with
 | tup ha ra =>
  cases c with
  | tup hb rb =>
   have d:=Rps.ints_inv (ns:=p2 p) ra;have a:=Rps.ints_inv (ns:=p2 q) rb;subst d a;exact⟨_,_,p2 p,p2 q,rfl,rfl,SqT.of (gh _ _ ha),SqT.of (gh _ _ hb),k _ _ _ _ _ (Out.refl gh (.bl _)) h⟩
theorem UM(p:Int × Int):X0 (prD p)=true:=rfl
theorem uL(ps:List (Int × Int)):plainDs (ps.map prD)=true:=by
 rw[XI];intro d hd;obtain⟨p,_,rfl⟩:=T1.mp hd;rfl
theorem BG(p q:Int × Int):PyData.eqv (prD p) (prD q)=decide (p=q):=by
 rw[R7,wC _ _ rfl rfl,decide_eq_true_iff];constructor
 ·intro h;simp[prD] at h;exact Prod.ext h.1 h.2
 ·rintro rfl;rfl
theorem rO(ps:List (Int × Int))(q:Int × Int):((ps.map prD).any λz=>PyData.eqv z (prD q))=decide (q∈ps):=by
 rw[R7,List.any_eq_true,decide_eq_true_iff];constructor
 ·rintro⟨d,hd,e⟩;obtain⟨p,a,rfl⟩:=T1.mp hd;rw[BG] at e;rw[← of_decide_eq_true e];exact a
 ·intro h;exact⟨prD q,T1.mpr ⟨q,h,rfl⟩,by rw[BG];exact D3 rfl⟩
theorem MS(p:Int × Int):(prD p).depth<=1:=by simp[prD,PyData.depth,PyData.depthAll]
theorem dR{α:Type}(R : α->α->Prop)(tr:∀{a b c},R a b->R b c->R a c){xs:List α}:xs.Pairwise R ↔ ∀ i (h:i+1<xs.length),R (xs[i]'(by lia)) xs[i+1]:=by
 constructor
 ·intro h i hi;exact o9.mp h i (i+1) (by lia) hi (by lia)
 ·intro h;rw[o9];intro i j hi d f
  induction j with
  |zero=>lia
  | succ j ih =>
   by_cases e:i=j
   ·subst e;exact h i d
   ·exact tr (ih (by lia) (by lia)) (h j d)
theorem pE(p:Has env i N)(h:EvA B t env λds g=>∃ A d,Has g i A/\Frz A d/\f (.st d::ds.map Sl.st) λs=>∃ d',s=.st d'/\U7 d'=true/\Q' d' g):Ev B (F3 (spP K f) [] E (M2 (tVar i) t)) env Q':=λσ G H F Q I k=>by
 unfold F3;simp only[z5];obtain⟨v,l,_⟩:=I.has p;refine⟨v,l,h σ G H F _ I λvs x m n ds g b C D ⟨A,d,z,L,w⟩=>?_⟩;obtain⟨O,c,ap⟩:=b.has z;rw[l] at c;cases c;have j:=m4 (H:=m) (b.fg i);refine⟨jn x m (n i),_,_,R9 b.gh,λa J e=>j _ _ (b.ft a J e),.cons (s:=.st d) (L _ _ _ _ ap (b.fg i) b.gh) (ArgsOk.of (D.same j)),w,λs q u G' H' Fv o=>?_⟩;obtain⟨d',rfl,hs,q⟩:=q;obtain⟨M,r,y⟩:=b.moment j o;exact k u M H' n d' g y (C.trans r) (bC o.ok.1 hs) q
end VL
namespace VL
open PySem L2
theorem sS(h:EvS B t D' e):EvS B t D' e:=h
theorem zR(h:EvG B g s e Q):EvG B g s e Q:=h
theorem BR(h:EvGs B g s e Q):EvGs B g s e Q:=h
theorem g_Ev(h:Ev B t e Q):Ev B t e Q:=h
theorem AM(h:EvO B t e Q):EvO B t e Q:=h
theorem xL(h:EvT B t e Q):EvT B t e Q:=h
theorem BL(h:EvA B t e Q):EvA B t e Q:=h
theorem nN(h:EvI B t e Q):EvI B t e Q:=h
theorem YO(h:Op2 r x y R):Op2 r x y R:=h
theorem qN(h:OpA r x R):OpA r x R:=h
theorem g_FQ(h:FQ s R):FQ s R:=h
theorem FR(h:iC ds R):iC ds R:=h
theorem oO(h:zB ds R):zB ds R:=h
structure PsOk(n:Int)(ps:List (Int × Int)):Prop where
 nd:ps.Nodup
 inn:∀ p∈ps,0<=p.1/\p.1<p.2/\p.2<n
theorem PsOk.len(h:PsOk n ps)(hn:n<=100):ps.length<=10000:=by
 by_cases h0:0<=n
 ·have:=WN (n:=n.toNat) h.nd λp b=>by have:=h.inn p b;lia
  have a:n.toNat<=100:=by lia
  exact D2 this (Nat.mul_le_mul a a)
 ·cases ps with
  |nil=>simp
  |cons p r=>have:=h.inn p E4;lia
def Tr(n:Int)(ps:List (Int × Int)):Prop:=∀ k,1<=k->k<n->∃ h,0<=h/\h<k/\(h,k)∈ps
def Conn(n:Int)(T:Int->Int->Prop):Prop:=∀ u v,0<=u->u<n->0<=v->v<n->∃ k,Gr.Walk T u k v
theorem Joined.conn(h:Joined n es):Conn n (Tied es):=λu v a b v0 f=>by
 obtain⟨d,hd⟩:=h u a b;obtain⟨e,c⟩:=h v v0 f;exact⟨d+e,(hd.1.rev λ_ _ t=>t.symm).app c.1⟩
def Order(n:Int)(row:List Int):Prop:=row.Perm ((List.range n.toNat).map λ(i:Nat)=>(i:Int))
def fU(row:List Int)(a:Int):Int:=row.getD a.toNat 0
theorem u5(f:Frz A d)(h:EvG B g (.st d) env b):EvG B g (.own A) env b:=λσ G H F v Fv Q I x k =>
 h σ _ H F v _ Q (I.freeze x.fb x.fd x.fg) (R5 (f G H v Fv x.ok x.fg I.gh)) λa G' H' F' i c g' q=>k a G' H' F' i c ((m4 x.fg).trans g') q
theorem cutR{R X:Prop}(h:R->X)(r:R):X:=h r
end VL
namespace VL
open PySem PySem.Spec L2
def X8(e:En):Prop:=∀(j:Nat)(s:Sl),e[j]?=some (some s)->(∃ d,s=.st d)\/∃ ns:List Int,s=.scr ns
def Sls(K:Frag)(G:Hp)(σ:St)(e:En):Prop:=∀(j:Nat)(s:Sl),e[j]?=some (some s)->∃ v,σ[j]?=some (some v)/\((∃ d,s=.st d/\Rp G v d)\/∃(ns:List Int)(a:Addr),s=.scr ns/\v=.ref a/\SqL K G a (ns.map V.int))
theorem Sls.same(h:Sls K G σ e)(g:Same G G'):Sls K G' σ e:=λj s es=>by
 obtain⟨v,c,q⟩:=h j s es;refine⟨v,c,?_⟩;rcases q with ⟨d,b,r⟩|⟨ns,a,b,f,r⟩
 ·exact .inl ⟨d,b,r.same g⟩
 ·exact .inr ⟨ns,a,b,f,g.seq r⟩
def bsC(K:Frag)(G H:Hp)(σ:St):Bs:=⟨K,G,H,H,σ,noF⟩
theorem pG(gh:Same G H)(ft:FT G H)(ln : σ.length=e.length)(sl:Sls K G σ e):VI (bsC K G H σ) G H σ e noF:=by
 refine⟨gh,Same.refl _,λa o e=>.inl e,Same.refl _,Same.refl _,λa o e=>⟨o,e⟩,λi a z=>z.elim,λi a z=>z.elim,λi j a z=>z.elim,λi a z=>z.elim,λi s es=>?_,ln,ft⟩;obtain⟨v,c,q⟩:=sl i s es;refine⟨v,c,?_⟩;rcases q with ⟨d,b,r⟩|⟨ns,a,b,f,r⟩
 ·subst b;exact⟨r,λa z=>z⟩
 ·subst b;exact⟨⟨a,f,r⟩,λa z=>z⟩
theorem LC(I:VI B G H σ e F)(c:X8 e)(h:B.K=K:=by rfl):Sls K G σ e:=λj s es=>by
 subst h;obtain⟨v,b,q⟩:=I.sl j s es;refine⟨v,b,?_⟩;rcases c j s es with ⟨d,rfl⟩|⟨ns,rfl⟩
 ·exact .inl ⟨d,rfl,q.1⟩
 ·obtain⟨⟨a,f,g⟩,_⟩:=q;exact .inr ⟨ns,a,rfl,f,g⟩
def LcV2(K:Frag)(src:List (Option Nat))(g:TG)(tif:TT)(wi2:TI)(g2:TG)(tif2:TT)(te:TE)(ds:List PyData)(e1:En)(R:List PyData->Prop):Prop:=∃ J:Nat->List PyData->En->Prop,J 0 [] (U0 src e1)/\(∀ i ys e,J i ys e->X8 e) /\
 (∀ i d ys e,ds[i]?=some d->J i ys e->∀ B':Bs,B'.K=K->EvG B' g (.st d) e λe2=>EvT B' tif e2 λb e3=>if b=true then EvI B' wi2 e3 λds2 e4=>∃ J2:Nat->List PyData->En->Prop,J2 0 ys e4/\(∀ j ys e,J2 j ys e->X8 e) /\
  (∀ j d2 ys2 e,ds2[j]?=some d2->J2 j ys2 e->∀ B2:Bs,B2.K=K->EvG B2 g2 (.st d2) e λe5=>EvT B2 tif2 e5 λb e6=>if b=true then Ev B2 te e6 λy e7=>ys2.length<=999999/\J2 (j+1) (ys2++[y]) e7 else J2 (j+1) ys2 e6)/\(∀ ys2 e,J2 ds2.length ys2 e->J (i+1) ys2 e) else J (i+1) ys e3)/\∀ ys e,J ds.length ys e->R ys
theorem NL(h:EvI B wi env λds r=>LcV2 B.K src g a4 a8 g2 M te ds r λys=>QO (.own (OL ys)) r):EvO B (tLC2 src wi g a4 a8 g2 M te) env QO:=λσ G H F Q I k=>by
 refine h σ G H F _ I λJ G1 H1 L ds r X g1 it ⟨Jv,j0,jc,js,jd⟩ c n=>?_;have fa:∀ j,¬ L j c:=X.no_f n;have hb:B.H c=none:=X.no_b n
 -- between two turns
 let Wv:(List PyData->En->Prop)->List V->St->Hp->Prop:=λJ ys σI H=>∃ f e D,VI B f H σ r L/\Same G1 f/\H c=some (.lst ys)/\Rps f ys D/\f c=none/\J D e/\σI.length=e.length/\Sls B.K f σI e
 -- out of a frame within
 have leave:∀{l H3:Hp}{σI:St}{ys:List V},VI B l H3 σ r L->l c=none->H3 c=some (.lst ys)->∀{P Y:Hp}{C:St}{F4:Nat->Addr->Prop}{e4:En},VI (bsC B.K l H3 σI) P Y C e4 F4->VI B P Y σ r L/\P c=none/\Y c=some (.lst ys):=by
  intro l H3 σI ys W ga ac P Y C F4 e4 E;refine⟨W.grow E.g0 E.gh E.rs E.gn E.ft,?_,E.rs _ _ ac⟩;cases e':P c with
  |none=>rfl
  | some u =>
   rcases E.gn c u e' with q|q
   ·change l c=_ at q;rw[ga] at q;cases q
   ·change H3 c=_ at q;rw[ac] at q;cases q
 have step:∀{f H2:Hp}{ys:List V}{x:V}{l H3:Hp}{d:PyData},VI B f H2 σ r L->f c=none->H2 c=some (.lst ys)->Out f H2 x l H3 (.st d) (λ_=>False)->VI B l H3 σ r L/\l c=none/\H3 c=some (.lst ys):=by
  intro f H2 ys x l H3 d N ga ac o;refine⟨(N.out o).1,?_,o.hh _ _ ac⟩;cases e':l c with
  |none=>rfl
  | some u =>
   rcases o.gn c u e' with q|q
   ·rw[ga] at q;cases q
   ·rw[ac] at q;cases q
 refine⟨λi m ys σI H=>m=ds.length-i/\i<=ds.length/\Wv (Jv i) ys σI H,⟨ds.length,by simp,R4 _,?_⟩,?_⟩
 ·refine⟨G1,U0 src r,[],X.aside (λ_ z=>nomatch z) (X.no_g n) fa hb,Same.refl _,S0,.nil,X.no_g n,j0,by simp[pick,U0],λj s e=>?_⟩;obtain⟨i,t,hs,ht,hp⟩:=cE e;obtain⟨v,hv,q⟩:=X.sl i t ht;refine⟨v,XE hs hv,?_⟩;cases t with
  |st d=>cases hp;exact .inl ⟨d,rfl,q.1⟩
  | scr ns =>
   cases hp;obtain⟨⟨a,ea,sq⟩,_⟩:=q;exact .inr ⟨ns,a,rfl,ea,sq⟩
  |own A=>cases hp;rcases jc _ _ _ j0 j _ e with ⟨d,z⟩|⟨ns,z⟩ <;> cases z
  |io A=>cases hp;rcases jc _ _ _ j0 j _ e with ⟨d,z⟩|⟨ns,z⟩ <;> cases z
 ·rintro i m ys σI H2 ⟨rfl,hi,f,e,D,N,w,S,ry,ga,jv,ln,sl⟩;by_cases hlt:i<ds.length
  ·refine .inr ⟨it.go i f H2 w N.gh hlt,Wv (Jv (i+1)),λb8 b5 H' hw=>⟨ds.length-(i+1),by lia,rfl,hlt,hw⟩,λx H3 y=>?_⟩;obtain⟨l,o⟩:=it.yld i f H2 x H3 _ w N.gh N.ft (z1 hlt) y;obtain⟨W,b0,a3⟩:=step N ga S o;have E3:=pG (K:=B.K) W.gh W.ft ln (sl.same o.gg);refine js i _ D e (z1 hlt) jv (bsC B.K l H3 σI) rfl σI l H3 _ x _ _ E3 (R5 o.ok.1) λC P Y F4 e4 E g4 q4=>?_;refine q4 C P Y F4 _ E λb G5 H5 F5 e5 I5 g5 q5=>?_;have a5:=ry.same (o.gg.trans (g4.trans g5));have s5:=w.trans (o.gg.trans (g4.trans g5));cases b with
   | false =>
    rw[y0 Y1] at q5 ⊢;obtain⟨K5,b6,b3⟩:=leave W b0 a3 I5;exact⟨G5,e5,D,K5,s5,b3,a5,b6,q5,I5.ln,LC I5 (jc _ _ _ q5)⟩
   | true =>
    rw[z0 rfl] at q5 ⊢;refine q5 C G5 H5 F5 _ I5 λJ2 G6 H6 F6 p e6 I6 g6 O ⟨Jw,w0,wc,ws,wd⟩=>?_;obtain⟨K6,b7,b9⟩:=leave W b0 a3 I6;have s6:=s5.trans g6;let Wi:Nat->List V->St->Hp->Prop:=λj ys σI H=>∃ f e D,VI B f H σ r L/\Same G6 f/\H c=some (.lst ys)/\Rps f ys D/\f c=none/\Jw j D e/\σI.length=e.length/\Sls B.K f σI e;refine⟨λj m ys σI H=>m=p.length-j/\j<=p.length/\Wi j ys σI H,⟨p.length,by simp,R4 _,G6,e6,D,K6,Same.refl _,b9,a5.same g6,b7,w0,I6.ln,LC I6 (wc _ _ _ w0)⟩,?_⟩;rintro j m zs Z H7 ⟨rfl,hj,G7,e7,zd,T,U,R,rz,a7,jw,b2,a0⟩;refine⟨R,?_⟩;by_cases hlt2:j<p.length
    ·refine .inr ⟨O.go j G7 H7 U T.gh hlt2,Wi (j+1),λb8 b5 H' hw=>⟨p.length-(j+1),by lia,rfl,hlt2,hw⟩,λx2 H8 y2=>?_⟩;obtain⟨G8,o2⟩:=O.yld j G7 H7 x2 H8 _ U T.gh T.ft (z1 hlt2) y2;obtain⟨I8,b1,a2⟩:=step T a7 R o2;have E8:=pG (K:=B.K) I8.gh I8.ft b2 (a0.same o2.gg);refine ws j _ zd e7 (z1 hlt2) jw (bsC B.K G8 H8 Z) rfl Z G8 H8 _ x2 _ _ E8 (R5 o2.ok.1) λa6 G9 H9 F9 e9 I9 g9 q9=>?_;refine q9 a6 G9 H9 F9 _ I9 λb GA HA FA eA IA gA qA=>?_;cases b with
     | false =>
      rw[y0 Y1] at qA ⊢;obtain⟨KA,b4,c1⟩:=leave I8 b1 a2 IA;have sA:=o2.gg.trans (g9.trans gA);exact⟨GA,eA,zd,KA,U.trans sA,c1,rz.same sA,b4,qA,IA.ln,LC IA (wc _ _ _ qA)⟩
     | true =>
      rw[z0 rfl] at qA ⊢;refine qA a6 GA HA FA _ IA λyv GB HB FB dB eB IB gB rB ⟨lB,qB⟩=>?_;obtain⟨KB,a1,c0⟩:=leave I8 b1 a2 IB;have sB:=o2.gg.trans (g9.trans (gA.trans gB));have a9:=rz.same sB;refine⟨c0,by rw[a9.length];exact v9 lB (by decide),GB,eB,zd++[dB],KB.aside (λ_ z=>nomatch z) a1 fa hb,U.trans sB,S0,a9.append (.cons rB .nil),a1,qB,IB.ln,LC IB (wc _ _ _ qB)⟩
    ·have ej:j=p.length:=by lia
     subst ej;refine .inl ⟨O.stop _ G7 H7 U T.gh rfl,G7,e7,zd,T,s6.trans U,R,rz,a7,wd _ _ jw,b2,a0⟩
  ·have ei:i=ds.length:=by lia
   subst ei;refine .inl ⟨it.stop _ f H2 w N.gh rfl,?_⟩;refine k (.ref c) f H2 L (· = c) (.own (OL D)) r N (g1.trans w) ⟨⟨c,ys,rfl,S,ry,λb=>Iff.rfl⟩,λa z=>by rw[z];exact hb,λa z=>by rw[z];exact ga,λa z=>by rw[z];exact⟨_,S⟩,λj a z=>by rw[z];exact fa j⟩ (jd _ _ jv)
theorem iB(h:X8 e):X8 (stO o::e):=λj s es=>by
 cases j with
 | zero =>
  cases o with
  |none=>simp[stO] at es
  | some d =>
   have:s=.st d:=by simpa[stO] using es.symm
   exact .inl ⟨d,this⟩
 |succ j=>exact h j s (by simpa using es)
theorem eT{α β:Type}{K:Frag}{src:List (Option Nat)}{g:En}{t:TI}{l:TT}{te:TE}{R:List PyData->Prop}{xs:List α}{c : α->PyData}(a : α->List β)(p : β->PyData)(f : α->β->PyData)(q : α->β->Bool)(T:X8 (U0 src g))
  (hl:(xs.flatMap λx=>((a x).filter (q x)).map (f x)).length<=999999)
  (h1:∀ x∈xs,∀ n:Bs,n.K=K->∀ o,EvI n t (some (.st (c x))::stO o::U0 src g) λs A=>s=(a x).map p/\A=some (.st (c x))::stO o::U0 src g)
  (Y:∀ x∈xs,∀ y∈a x,∀ n:Bs,n.K=K->EvT n l (some (.st (c x))::some (.st (p y))::U0 src g) λb W=>b=q x y/\W=some (.st (c x))::some (.st (p y))::U0 src g/\(b=true->Ev n te (some (.st (c x))::some (.st (p y))::U0 src g) λz Z=>z=f x y/\Z=some (.st (c x))::some (.st (p y))::U0 src g))
  (hR:R (xs.flatMap λx=>((a x).filter (q x)).map (f x))):LcV2 K (none::none::src) (Z2 0) tYes t (Z2 1) l te (xs.map c) g R:=by
 refine⟨λi ys e=>ys=(xs.take i).flatMap (λx=>((a x).filter (q x)).map (f x))/\∃ o o',e=stO o::stO o'::U0 src g,⟨by simp,none,none,rfl⟩,?_,?_,?_⟩
 ·rintro i ys e ⟨_,o,o',rfl⟩;exact iB (iB T)
 ·rintro i d ys e hd ⟨rfl,o,o',rfl⟩ n hB;rw[v2] at hd;cases hx:xs[i]? with
  |none=>rw[hx] at hd;cases hd
  | some x =>
   rw[hx] at hd;cases hd;have B:=u3 hx;have S:xs.take (i+1)=xs.take i++[x]:=by rw[Q7,hx];rfl
   have N:((xs.take (i+1)).flatMap (λx=>((a x).filter (q x)).map (f x))).length<=999999:=by
    refine D2 ?_ hl
    conv=>rhs;rw[← Q5 (i+1) xs,List.flatMap_append,M4]
    exact Nat.le_add_right _ _
   refine U2 (L9 ?_);rw[z0 rfl];show EvI n t (some (.st (c x))::stO o'::U0 src g) _;intro σ G H F Q I k;refine h1 x B n hB o' σ G H F Q I λJ G' H' F' s A w g' E ⟨P,r⟩=>k J G' H' F' s A w g' E ?_;subst P r;refine⟨λj m e=>m=(xs.take i).flatMap (λx=>((a x).filter (q x)).map (f x))++(((a x).take j).filter (q x)).map (f x)/\∃ o',e=some (.st (c x))::stO o'::U0 src g,⟨by simp,o',rfl⟩,?_,?_,?_⟩
   ·rintro j m e ⟨_,u,rfl⟩;exact iB (o:=some (c x)) (iB T)
   ·rintro j d2 m e h ⟨rfl,u,rfl⟩ U L;rw[v2] at h;cases hy:(a x)[j]? with
    |none=>rw[hy] at h;cases h
    | some y =>
     rw[hy] at h;cases h;have C:(a x).take (j+1)=(a x).take j++[y]:=by rw[Q7,hy];rfl
     refine U2 ?_;show EvT U l (some (.st (c x))::some (.st (p y))::U0 src g) _;intro σ G H F Q I k;refine Y x B y (u3 hy) U L σ G H F Q I λb G' H' F' X w g' ⟨hb,he,hq⟩=>k b G' H' F' X w g' ?_;subst he;by_cases hp:b=true
     ·rw[z0 hp];intro σ G H F Q I k;refine hq hp σ G H F Q I λv G' H' F' d' A w g' r' ⟨O,r⟩=>k v G' H' F' d' A w g' r' ?_;subst O r;have D:q x y=true:=by rw[← hb];exact hp
      refine⟨?_,?_,some (p y),rfl⟩
      ·refine D2 ?_ N;rw[S,List.flatMap_append,M4,M4];refine Nat.add_le_add_left ?_ _;simp only[List.flatMap_cons,List.flatMap_nil,z5,N1];exact(List.Sublist.filter (q x) (List.take_sublist j (a x))).length_le
      ·rw[C,List.filter_append,l8,← V2];simp[D]
     ·rw[y0 hp];have M:q x y=false:=by rw[← hb];simpa using hp
      refine⟨?_,some (p y),rfl⟩;rw[C,List.filter_append,l8];simp[M]
   ·rintro m e ⟨rfl,u,rfl⟩;refine⟨?_,some (c x),u,rfl⟩;rw[S,List.flatMap_append];simp
 ·rintro ys e ⟨rfl,o,o',rfl⟩;rw[N1,v8];exact hR
theorem DO(h:EvT B c env λb e=>if b=true then EvO B ta e QO else EvO B tb e QO):EvO B (tIf c ta tb) env QO:=λσ G H F Q I k =>
 h σ G H F _ I λb f l m n i j q=>by
  cases b with
  |true=>rw[z0 rfl] at q ⊢;exact q σ f l m Q i λv G' H' F' Fv d e a g r z=>k v G' H' F' Fv d e a (j.trans g) r z
  |false=>rw[y0 Y1] at q ⊢;exact q σ f l m Q i λv G' H' F' Fv d e a g r z=>k v G' H' F' Fv d e a (j.trans g) r z
def qL(e:En):Bool:=e.all λo=>match o with|some (.own _)=>false|some (.io _)=>false|_=>true
theorem mS(h:qL e=true):X8 e:=λj s es=>by
 have:=R3.mp h (some s) (u3 es);cases s with
 |st d=>exact .inl ⟨d,rfl⟩
 |scr ns=>exact .inr ⟨ns,rfl⟩
 |own A=>simp at this
 |io A=>simp at this
end VL
namespace VL
open PySem PySem.Spec L2 PyProof.Rows
theorem wD:∀{vs:List V}{ds:List PyData}{i:Nat}{v:V}{d:PyData},Rps G vs ds->vs[i]?=some v->ds[i]?=some d->Rp G v d
 |_,_,0,_,_,.cons r _,e1,e2=>by simp at e1 e2;subst e1 e2;exact r
 |_,_,i+1,_,_,.cons _ t,e1,e2=>wD t (i:=i) (by simpa using e1) (by simpa using e2)
theorem cJ{K:Frag}{ds:List PyData}{R:Sl->Prop}(l:∀ d∈ds,∀ e∈ds,cmpD d e=true)(g:∀ d∈ds,X0 d=true/\d.depth<=60)(h:ds=[]->R (.st .none))(j:∀ d,ds[argBest (HT.btD ds) (ds.length-1)]?=some d->R (.st d)):OpA (vD K) [.list ds] R:=λG H vs Q gh rs k=>by
 cases rs with
 | cons r t =>
  cases t;cases r with
  | @lst a xs ds ha ra =>
   have f:=ra.length;refine⟨a,xs,ds,rfl,SqL.of (gh _ _ ha),f,λi v d c b=>((wD ra c b).rep (g d (u3 b)).1).same gh,l,g,λe=>?_,λv c=>?_⟩
   ·exact k _ _ _ _ _ (Out.refl gh .non) (h (List.length_eq_zero_iff.mp (by rw[← f,e];rfl)))
   ·rw[f] at c;have hi:=(R1.mp c).1;have b:ds[argBest (HT.btD ds) (ds.length-1)]?=some (ds[argBest (HT.btD ds) (ds.length-1)]'(by lia)):=z1 (by lia);exact k _ _ _ _ _ (Out.refl gh (wD ra c b)) (j _ b)
theorem TH:∀(m:Nat),argBest bt m<=m
 |0=>Q0 _
 | m+1=>by
  have:=TH (bt:=bt) m;simp only[argBest];split <;> lia
theorem ZF{bt:Nat->Nat->Bool}{n:Nat}(a:∀ i,i<n->bt i i=false)(tr:∀ i j k,i<n->j<n->k<n->bt i j=true->bt j k=true->bt i k=true):∀(m:Nat),m<n->∀ i,i<=m->bt i (argBest bt m)=false
 | 0,hm,i,hi=>by
  have:i=0:=by lia
  subst this;exact a 0 hm
 | m+1,hm,i,hi=>by
  have b:=ZF a tr m (by lia);have hb:=TH (bt:=bt) m;simp only[argBest];by_cases h:bt (m+1) (argBest bt m)=true
  ·rw[z0 h];by_cases hi':i=m+1
   ·subst hi';exact a _ hm
   ·cases e:bt i (m+1) with
    |false=>rfl
    | true =>
     have:=tr i (m+1) (argBest bt m) (by lia) hm (by lia) e h;rw[b i (by lia)] at this;cases this
  ·rw[y0 h];by_cases hi':i=m+1
   ·subst hi';simpa using h
   ·exact b i (by lia)
abbrev Z3:=Int × (Int × Int)
@[reducible] def z3D (z:Z3):PyData:=.tuple [.int z.1,prD z.2]
def lt3(y z:Z3):Prop:=y.1<z.1\/(y.1=z.1/\ltP y.2 z.2)
theorem qQ(z:Z3):¬ lt3 z z:=by
 rintro(h|⟨_,h⟩)
 ·lia
 ·exact Z9 _ h
theorem HS(h:lt3 x y)(g:lt3 y z):lt3 x z:=by
 rcases h with h|⟨h,h'⟩ <;> rcases g with g|⟨g,g'⟩
 ·exact .inl (by lia)
 ·exact .inl (by lia)
 ·exact .inl (by lia)
 ·exact .inr ⟨by lia,yB h' g'⟩
theorem bJ(y z:Z3):lt3 y z\/y=z\/lt3 z y:=by
 rcases Int.lt_trichotomy y.1 z.1 with h|h|h
 ·exact .inl (.inl h)
 ·rcases CK y.2 z.2 with g|g|g
  ·exact .inl (.inr ⟨h,g⟩)
  ·exact .inr (.inl (Prod.ext h g))
  ·exact .inr (.inr (.inr ⟨h.symm,g⟩))
 ·exact .inr (.inr (.inl h))
theorem AQ(y z:Z3):ltv (z3D y) (z3D z)=true ↔ lt3 y z:=by
 obtain⟨a,b,c⟩:=y;obtain⟨d,e,f⟩:=z;simp only[z3D,prD,ltv,ltvs,PyData.eqv,lt3,ltP];by_cases h1:a=d <;> by_cases h2:b=e <;> by_cases h3:c=f <;> simp[h1,h2,h3,ltv,ltvs,PyData.eqv,PyData.eqvAll] <;> lia
theorem z3_ok{a:List Z3}:(∀ d∈a.map z3D,∀ e∈a.map z3D,cmpD d e=true)/\∀ d∈a.map z3D,X0 d=true/\d.depth<=60:=by
 refine⟨λd hd e b=>?_,λd hd=>?_⟩
 ·obtain⟨y,_,rfl⟩:=T1.mp hd;obtain⟨z,_,rfl⟩:=T1.mp b;simp[cmpD,cmpDs]
 ·obtain⟨y,_,rfl⟩:=T1.mp hd;exact⟨rfl,by simp[PyData.depth,PyData.depthAll]⟩
theorem gL{c:List Z3}{d:PyData}(f:(c.map z3D)[argBest (HT.btD (c.map z3D)) ((c.map z3D).length-1)]?=some d):∃ z∈c,d=z3D z/\∀ y∈c,¬ lt3 y z:=by
 have g:∀ i j,i<c.length->j<c.length->(HT.btD (c.map z3D) i j=true ↔ lt3 (c.getD i (0,0,0)) (c.getD j (0,0,0))):=λi j hi m=>by
  rw[← AQ];unfold HT.btD;rw[Q9,Q9,Q9,Q9,v2,v2,z1 hi,z1 m];simp
 rw[N1] at f;generalize hk:argBest (HT.btD (c.map z3D)) (c.length-1)=b at f;rw[v2] at f;cases ez:c[b]? with
 |none=>rw[ez] at f;cases f
 | some z =>
  rw[ez] at f;cases f;have hb:=(R1.mp ez).1;refine⟨z,u3 ez,rfl,λy q o=>?_⟩;obtain⟨i,hi,p⟩:=MB.mp q;have l:=ZF (bt:=HT.btD (c.map z3D)) (n:=c.length) (λi hi=>by
    cases e:HT.btD (c.map z3D) i i with
    |false=>rfl
    |true=>exact absurd ((g i i hi hi).mp e) (qQ _)) (λi j k hi m h a b=>(g i k hi h).mpr (HS ((g i j hi m).mp a) ((g j k m h).mp b))) (c.length-1) (by lia) i (by lia)
  rw[hk] at l;have:HT.btD (c.map z3D) i b=true:=(g i b hi hb).mpr (by
   rw[Q9,Q9,ez,z1 hi];simpa[p] using o)
  rw[l] at this;cases this
theorem AN{K:Frag}{a:List Z3}{R:Sl->Prop}(b:a=[]->R (.st .none))(c:∀ z∈a,(∀ y∈a,¬ lt3 y z)->R (.st (z3D z))):OpA (vD K) [.list (a.map z3D)] R :=
 cJ z3_ok.1 z3_ok.2 (λe=>b (by simpa using e)) λd f=>by
  obtain⟨z,g,rfl,hm⟩:=gL f;exact c z g hm
end VL
namespace VL
open PySem PySem.Spec L2
mutual
theorem Rp.repL:∀{v:V}{d:PyData},Rp G v d->d.canLay0=true->Rep G v d
 |_,_,.non,_=>.non
 |_,_,.bl b,_=>.bl b
 |_,_,.int i,_=>.int i
 |_,_,.str x,_=>.str x
 |_,_,.lst h r,p=>.lst h (Rps.repsL r (by simpa[PyData.canLay0] using p))
 |_,_,.tup h r,p=>.tup h (Rps.repsL r (by simpa[PyData.canLay0] using p))
 |_,_,.dk h r e,p=>by simp[PyData.canLay0] at p
 |_,_,.dt h r e,p=>by simp[PyData.canLay0] at p
theorem Rps.repsL:∀{vs:List V}{ds:List PyData},Rps G vs ds->PyData.canLayAll0 ds=true->Reps G vs ds
 |_,_,.nil,_=>.nil
 | _,_,.cons r t,p=>by
  simp only[PyData.canLayAll0,N4] at p;exact .cons (Rp.repL r p.1) (Rps.repsL t p.2)
end
def rEqL:R2:=λx y H Q=>∃ d e,Rep H x d/\Rep H y e/\d.canLay0=true/\e.canLay0=true/\d.depth<=60/\Q (.bl (PyData.eqv d e)) H
def rNeL:R2:=λx y H Q=>∃ d e,Rep H x d/\Rep H y e/\d.canLay0=true/\e.canLay0=true/\d.depth<=60/\Q (.bl (!PyData.eqv d e)) H
theorem X6(l:X.A.units+64<cLine):OpR X (compareOp .Eq) rEqL:=λpins s σ H x y v u Q I c j h=>by
 obtain⟨d,e,b,f,hd,i,g,q⟩:=h;obtain⟨as,a⟩:=b.reads I c;obtain⟨bs,rb⟩:=f.reads I j;refine SeqAt.compareEq_reads a rb hd i ?_ ⟨.bl _,H,I,rfl,q⟩;exact v9 (Nat.add_le_add_left (D2 (Nat.min_le_left ..) g) _) (by lia)
theorem NA(l:X.A.units+64<cLine):OpR X (compareOp .NotEq) rNeL:=λpins s σ H x y v u Q I c j h=>by
 obtain⟨d,e,b,f,hd,i,g,q⟩:=h;obtain⟨as,a⟩:=b.reads I c;obtain⟨bs,rb⟩:=f.reads I j;refine SeqAt.compareNe_reads a rb hd i ?_ ⟨.bl _,H,I,rfl,q⟩;exact v9 (Nat.add_le_add_left (D2 (Nat.min_le_left ..) g) _) (by lia)
theorem o7(a:x.canLay0=true)(b:y.canLay0=true)(hd:x.depth<=60)(h:R (.st (.bool (PyData.eqv x y)))):Op2 rEqL x y R:=λG H f g Q gh c d k =>
 ⟨x,y,(c.repL a).same gh,(d.repL b).same gh,a,b,hd,k _ _ _ _ _ (Out.refl gh (.bl _)) h⟩
theorem pA(a:x.canLay0=true)(b:y.canLay0=true)(hd:x.depth<=60)(h:R (.st (.bool (!PyData.eqv x y)))):Op2 rNeL x y R:=λG H f g Q gh c d k =>
 ⟨x,y,(c.repL a).same gh,(d.repL b).same gh,a,b,hd,k _ _ _ _ _ (Out.refl gh (.bl _)) h⟩
end VL
namespace L2
open PySem PySem.Spec PyProof.Rows
def isV(k:Int):Value->Bool
 | .int a _=>decide (a=k)
 |_=>false
theorem qI{ns:List Int}{us:List Value}(r:Vals (ns.map V.int) us)(k:Int):∀ i (h:i<us.length) (h':i<ns.length),isV k us[i]=decide (ns[i]=k):=by
 induction ns generalizing us with
 |nil=>intro i h h';simp at h'
 | cons n ns ih =>
  rw[P0] at r;cases r with
  | cons r1 r2 =>
   obtain⟨t,e⟩:=r1;subst e;intro i h h';cases i with
   |zero=>rfl
   |succ i=>exact ih r2 i (by simpa using h) (by simpa using h')
theorem YS{ns:List Int}{us:List Value}(r:Vals (ns.map V.int) us)(k:Int)(t:Tok):∀ y∈us,MeetsSeq.EqGives y (.int k t) (isV k y):=by
 induction ns generalizing us with
 |nil=>rw[List.map_nil] at r;cases r;intro y a;simp at a
 | cons n ns ih =>
  rw[P0] at r;cases r with
  | cons r1 r2 =>
   obtain⟨u,e⟩:=r1;subst e;intro y a;rcases V0.mp a with rfl|a
   ·exact MeetsSeq.EqGives.int n k u t
   ·exact ih r2 y a
def yI:V->List V->Hp->VK->Prop:=λx vs H Q=>∃(l:Addr)(ns:List Int)(k:Int)(j:Nat),x=.ref l/\vs=[.int k]/\H l=some (.lst (ns.map V.int))/\ns[j]?=some k/\(∀ m,m<j->ns[m]? ≠ some k)/\Q (.int j) H
theorem tG:MtM X "list.index" yI:=by
 intro pins s σ H x vs v us Q I i w h;obtain⟨l,ns,k,j,rfl,rfl,o,g,f,q⟩:=h;cases i;obtain⟨u,rfl,A⟩:=w.one;obtain⟨t,rfl⟩:=A;obtain⟨z,its,n,r,p,e⟩:=I.lstM o;rw[N1] at p z;obtain⟨b,c⟩:=R1.mp g;have C:sizeLine<2 ^ 62:=by decide
 refine call_meets F.slot_list_index ⟨_,e,rfl⟩ F.entry_list_index (F.args_list_index_2 _ _)
  (MeetsSeq.list_index l its.toArray n (.int k t) (isV k) (λy B=>YS r k t y (by simpa using B)) j (by rw[M3];lia) (by lia) ?_ (λm hm d=>?_)) ⟨e,?_⟩
 ·rw[VB,qI r k j (by lia) b,D3 c]
 ·have a:m<ns.length:=by lia
  rw[VB,qI r k m (by lia) a];exact Q1 λe=>f m d (by rw[z1 a,e])
 ·exact⟨.int j,H,I.tok _,⟨_,rfl⟩,q⟩
end L2
namespace VL
open PySem PySem.Spec L2
theorem iN(h:Ev B tl env λx l=>∃ ns:List Int,x=.list (ns.map .int)/\Ev B te l λy b=>∃(k:Int)(j:Nat),y=.int k/\ns[j]?=some k/\(∀ m,m<j->ns[m]? ≠ some k)/\Q' (.int j) b):Ev B (tBM K "list" yI tl (M2 te tNil)) env Q':=λσ G H F Q I k =>
 h σ G H F _ I λv t D E d l f A C n=>by
  obtain⟨ns,p,o⟩:=n;subst p;cases C with
  | @lst a vs _ ha rs =>
   have r:vs=ns.map V.int:=rs.ints_inv;subst r;refine⟨.inl ⟨rfl,_,SqL.of (f.gh _ _ ha)⟩,o σ t D E _ f λu J H2 F2 y b i g w ⟨c,j,L,z,s,q⟩=>?_⟩;subst L;cases w;exact⟨a,ns,c,j,rfl,rfl,i.gh _ _ (g _ _ ha),z,s,k _ J H2 F2 _ b i (A.trans g) (.int _) q⟩
structure But(n:Int)(es rem:List (Int × Int)):Prop where
 rise:Rise es
 inn:∀ p∈es,0<=p.1/\p.1<p.2/\p.2<n
 all:∀ p:Int × Int,0<=p.1->p.1<p.2->p.2<n->p∈es\/p∈rem
end VL
namespace HT
open PySem PySem.Spec PyProof.Rows PySem.Builtin PySem.Builtin.Str
theorem split_push(a:(y.length == 0)=false)(hsz:x.length+2<=sizeLine)
  (h:∀ l k,l.map (·.1)=Txt.split x y->Q (.ref s.heap.objs.size) { s with heap:=s.heap.push { cls:=.type "list",data:=.seq (strValues l).toArray },toks:=k }) :
  wpAny (model prog w) A (call (.builtin "str.split") [.str x t,.str y u]) Q E s:=by
 have hn:(partsBetween x (occurrences x y 0 x.length (x.length+1)) y.length).length<=sizeLine:=by
  have b:=StrLaws.occ_length_le x y 0 x.length (x.length+1);rw[length_partsBetween];lia
 cases h1:(decide (x.length<y.length) || decide (strKind x<strKind y))
 ·cases hf:(occurrences x y 0 x.length (x.length+1)).isEmpty
  ·refine call_meets F.slot_str_split (typeIs_str _ _ _) F.entry_str_split (F.args_str_split_2 _ _) (meets_str_split_sep x y t u h1 a hf (by lia) hn) ?_;show wants Q E _ { s with toks:=_,heap:=s.heap.push { cls:=.type "list",data:=.seq (strsFrom s.toks (partsBetween x (occurrences x y 0 x.length (x.length+1)) y.length)).toArray } };rw[strsFrom_eq];exact h (numbered s.toks _) _ ((numbered_texts _ _).trans ((y0 (ne_true_of_eq_false h1)).trans (y0 (ne_true_of_eq_false hf))).symm)
  ·exact call_meets F.slot_str_split (typeIs_str _ _ _) F.entry_str_split (F.args_str_split_2 _ _) (meets_str_split_not_found x y t u h1 a hf)
    (h [(x,t)] s.toks ((y0 (ne_true_of_eq_false h1)).trans (z0 hf)).symm)
 ·exact call_meets F.slot_str_split (typeIs_str _ _ _) F.entry_str_split (F.args_str_split_2 _ _) (meets_str_split_cannot_occur x y t u h1)
   (h [(x,t)] s.toks (z0 h1).symm)
end HT
namespace L2
open PySem PySem.Spec PyProof.Rows
theorem SH:∀{l:List (Str × Tok)},Vals ((l.map (·.1)).map V.str) (strValues l)
 |[]=>.nil
 |p::r=>.cons ⟨p.2,rfl⟩ (SH (l:=r))
theorem xF:∀{ys:List Str}{us:List Value},Vals (ys.map V.str) us->StrsAre us ys
 |[],[],_=>.nil
 |[],_::_,r=>by cases r
 |_::_,[],r=>by cases r
 | y::ys,u::us,r=>by
  cases r with
  | cons r1 r2 =>
   obtain⟨t,rfl⟩:=r1;exact .cons y t (xF r2)
def vG:V->List V->Hp->VK->Prop:=λx vs H Q=>∃ z y:Str,x=.str z/\vs=[.str y]/\(y.length == 0)=false/\z.length+2<=sizeLine/\(Txt.split z y).length<=sizeLine/\∀ p,H p=none->Q (.ref p) (upd H p (.lst ((Txt.split z y).map V.str)))
theorem AA:MtR X "str.split" vG:=by
 intro pins s σ H x xs v us Q I r rs h;obtain⟨z,y,rfl,rfl,f,a,c,q⟩:=h;obtain⟨t,rfl⟩:=r;obtain⟨u,rfl,d⟩:=S5 rs;obtain⟨g,rfl⟩:=d;refine HT.split_push f a λl k e=>?_;refine⟨.ref s.heap.objs.size,_,I.laid (t':=k) (o:=.lst ((Txt.split z y).map V.str)) (λb u e=>S1 _ e) (Q0 _) ⟨by rw[N1];exact c,strValues l,0,?_,m3 _ rfl⟩,rfl,q _ (I.hok.fresh (Q0 _))⟩;rw[← e];exact SH
def RI(K:Frag):V->List V->Hp->VK->Prop:=λx vs H Q=>∃(z:Str)(a:Addr)(ys:List Str),x=.str z/\vs=[.ref a]/\SqL K H a (ys.map V.str)/\(ys.map (·.length)).sum+ys.length * z.length<=16777216/\Q (.str (Txt.join z ys)) H
theorem ME:MtR X "str.join" (RI X.K):=by
 intro pins s σ H x xs v us Q I r rs h;obtain⟨z,a,ys,rfl,rfl,ha,d,q⟩:=h;obtain⟨t,rfl⟩:=r;obtain⟨u,rfl,f⟩:=S5 rs;cases f;obtain⟨its,c,b,_⟩:=I.list ha;exact join_list b.isList (xF (by simpa using c)) d λt' k=>⟨.str _,H,I.tok k,⟨t',rfl⟩,q⟩
def aH:List V->Hp->VK->Prop:=λxs H Q=>∃ i,xs=[.int i]/\i.natAbs.log2<1920/\Q (.str (toString i)) H
theorem EI:l2 X (.type "str") aH:=RJ
def Its(x:Str):It:=⟨λi _=>i<x.cps.size,λi H v H'=>H'=H/\∃ c,x.cps[i]?=some c/\v=.str ⟨#[c]⟩,λi _=>i=x.cps.size⟩
theorem LN{P:Program}{w:World}{K:Frag}{tg:Expr}(it:Addr)(x:Str)(t:Tok){T:String}(f:T = "str_ascii_iterator"\/T = "str_iterator"):Turn P w K tg (Its x) [it] it (λi h=>h.IsStrIter it T x t i) where
 mem:=by simp
 obj:=λi h st b hb=>by
  have e:b=it:=by simpa using hb
  subst e;obtain⟨o,e,c,d⟩:=st;exact⟨o,e,λv z=>by rw[d] at z;cases z⟩
 keep:=λi h h' st k=>let ⟨o,e,r⟩:=st;⟨o,k it (by simp) o e,r⟩
 item:=by
  intro X g C D a i pins s σ H E I hf st j;subst g C D;obtain⟨q,f1,J,m,B,l⟩:=hf it (by simp);have W:Walks X.prog X.w X.A it [it] [it] x.cps.size (SignAt x) (λi h=>h.IsStrIter it T x t i):=by
   rcases f with rfl|rfl
   ·exact Walks.strAscii (I.ok.hd a) it x t
   ·exact Walks.strWide (I.ok.hd a) it x t
  refine W.item i s _ _ j st λv h' tk F st' n=>?_;obtain⟨c,u,p,rfl⟩:=F;have G:Inv X pins σ H { s with heap:=h',toks:=tk }:=I.turned (λb o hb e=>n b o (by simpa using hb) e) q f1 m B l;obtain⟨o,e,cl,d⟩:=id st';exact⟨_,rfl,gE (s:={ s with heap:=h',toks:=tk }) e cl d (by rcases f with rfl|rfl <;> decide) ⟨.str ⟨#[c]⟩,H,G,⟨u,rfl⟩,⟨rfl,c,p,rfl⟩,st',λb hb=>(hf b hb).1⟩⟩
 done:=by
  intro X g C D a i pins s σ H E I hf st j;subst g C D;obtain⟨q,f1,J,m,B,l⟩:=hf it (by simp);have W:Walks X.prog X.w X.A it [it] [it] x.cps.size (SignAt x) (λi h=>h.IsStrIter it T x t i):=by
   rcases f with rfl|rfl
   ·exact Walks.strAscii (I.ok.hd a) it x t
   ·exact Walks.strWide (I.ok.hd a) it x t
  have y:i=x.cps.size:=j;subst y;exact W.done s _ _ st λh' tk n=>⟨rfl,I.turned (λb o hb e=>n b o (by simpa using hb) e) q f1 m B l⟩
 self:=λA i s Q E st h=>by
  rcases f with rfl|rfl
  ·exact wpAny_pyIter_striter_ascii st h
  ·exact wpAny_pyIter_striter_wide st h
def iStr(tl:TE):TI:=λσ H R=>tl σ H λx H1=>∃ z,x=.str z/\R (Its z) H1
theorem YH(d:PE X l tl):PI X tg l (iStr tl):=by
 intro pins s σ H R I h;refine thn (d pins s σ H _ I h) λv s1 ⟨x,g,a,f,c⟩=>?_;obtain⟨z,e,q⟩:=c;subst e;obtain⟨t,rfl⟩:=f;refine wpAny_pyIter_strU ?_;refine⟨s1.heap.objs.size,[s1.heap.objs.size],_,_,g,rfl,a.kept (t':=s1.toks) λb o e=>S1 _ e,LN (T:=strIterType z) _ z t (by unfold strIterType;split <;> simp),⟨_,m3 _ rfl,rfl,rfl⟩,λb hb=>?_,q⟩;have e:b=s1.heap.objs.size:=by simpa using hb
 subst e;exact a.fpOk (Q0 _) (a.hok.fresh (Q0 _))
def tF2(m:Str)(ta tb:TE):TE:=λσ H Q=>ta σ H λx H1=>∃ i,x=.int i/\(0<=i/\i<1000000)/\tb σ H1 λy H2=>∃ k,y=.int k/\(0<=k/\k<1000000)/\Q (.str (Str.ofString (toString i)++m++Str.ofString (toString k))) H2
theorem PJ(h:n<1000000):n.log2<1920:=by
 by_cases h0:n=0
 ·subst h0;decide
 ·have:=(Nat.log2_lt h0 (k:=20)).mpr (by lia);lia
theorem V9{i:Int}(h:0<=i/\i<1000000):(Str.ofString (toString i)).length<=10:=PySem.W.KT.len_num h.1 (by lia)
theorem W8{i:Int}(h:0<=i/\i<1000000):i.natAbs.log2<1920:=PJ (by lia)
theorem RR(hm:m.length<=1000)(ha:PE X a ta)(hb:PE X b tb):PE X (.JoinedStr [.FormattedValue a (-1) none p1,.Constant (.str m) j p2,.FormattedValue b (-1) none p3] pos) (tF2 m ta tb):=by
 intro pins s σ H Q I h;refine JoinedStr_many ?_;refine joinParts_cons (FormattedValue_plain (thn (ha pins s σ H _ I h) λv s1 ⟨x,p,g,n,i,q,hi,d⟩=>?_));subst q;obtain⟨t,rfl⟩:=n;have u:=V9 hi;have sz:(20000:Nat)<=sizeLine:=by decide
 refine wpAny_formatField_int (W8 hi) ⟨by rw[Str.empty_append];lia,?_⟩;rw[Str.empty_append];refine joinParts_cons (Calls.Constant_str ⟨by rw[strLen_append];lia,?_⟩);show wpAny _ _ (joinParts _ [eval (.FormattedValue b (-1) none p3) X.env]) _ _ _;refine joinParts_cons (FormattedValue_plain (thn (hb pins _ σ p _ (g.tok _) d) λz s2 ⟨y,H2,r,f,k,l,c,o⟩=>?_));subst l;obtain⟨w,rfl⟩:=f;have A:=V9 c;refine wpAny_formatField_int (W8 c) ⟨by rw[strLen_append,strLen_append];lia,?_⟩;exact joinParts_nil ⟨.str _,H2,r.tok _,⟨_,rfl⟩,o⟩ (by rw[strLen_append,strLen_append];lia)
def rInS:R2:=λx y H Q=>∃ i j,x=.str i/\y=.str j/\Q (.bl (!(Builtin.Str.occurrences j i 0 j.length 1).isEmpty)) H
theorem nF:OpR X (compareOp .In) rInS:=gQ
def BH:List V->Hp->VK->Prop:=λxs H Q=>∃ z,xs=[.str z]/\z.length<=sizeLine/\Q (.int z.length) H
theorem mE:l2 X (.builtin "len") BH:=sK
def EG:List V->Hp->VK->Prop:=λxs H Q=>∃(z:Str)(n:Int),xs=[.str z]/\PySem.intText? z=some n/\z.length<=640/\Q (.int n) H
theorem FP:l2 X (.type "int") EG:=by
 intro pins s σ H xs us Q I r h;obtain⟨z,n,rfl,hn,a,q⟩:=h;obtain⟨u,rfl,b⟩:=S5 r;obtain⟨t,rfl⟩:=b;exact PySem.W.KIN.call_text hn a ⟨.int n,H,I.tok _,⟨_,rfl⟩,q⟩
end L2
namespace VL
open PySem PySem.Spec L2
def sgnD(x:Str):List PyData:=x.cps.toList.map λc=>.str ⟨#[c]⟩
theorem IH(h:Ev B te env λd e=>∃ z,d=.str z/\QI (sgnD z) e):EvI B (iStr te) env QI:=λσ G H F R I k =>
 h σ G H F _ I λv j o p d r l m n a=>by
  obtain⟨z,f,b⟩:=a;subst f;cases n;refine⟨z,rfl,k _ j o p (sgnD z) r l m ⟨λi G' H' g h hi=>?_,λi G' H' g h hi=>?_,λi G' H' x H'' d g h ft hd y=>?_⟩ b⟩
  ·have:i<(sgnD z).length:=hi;show i<z.cps.size;simpa[sgnD] using this
  ·have:i=(sgnD z).length:=hi;show i=z.cps.size;simpa[sgnD] using this
  ·obtain⟨e,c,q,ex⟩:=y;subst e ex;have:d=.str ⟨#[c]⟩:=by
    unfold sgnD at hd;rw[v2,t6,q] at hd;cases hd;rfl
   subst this;exact⟨G',Out.refl h (.str _)⟩
theorem JQ(h:Ev B ta env λx b=>∃ i,x=.int i/\(0<=i/\i<1000000)/\Ev B tb b λy a=>∃ k,y=.int k/\(0<=k/\k<1000000)/\Q' (.str (Str.ofString (toString i)++m++Str.ofString (toString k))) a):Ev B (tF2 m ta tb) env Q':=λσ G H F Q I k =>
 h σ G H F _ I λC g s t x b n o p c=>by
  obtain⟨i,u,hi,d⟩:=c;subst u;cases p;refine⟨i,rfl,hi,d σ g s t _ n λA v H2 F2 y a z w l ⟨j,r,f,q⟩=>?_⟩;subst r;cases l;exact⟨j,rfl,f,k _ v H2 F2 _ a z (o.trans w) (.str _) q⟩
theorem FL(hi:0<=i/\i<1000000)(h:R (.st (.str (Str.ofString (toString i))))):OpA aH [.int i] R:=λG H vs Q gh rs k=>by
 cases rs with
 |cons r t=>cases t;cases r;exact⟨i,rfl,W8 hi,k _ _ _ _ _ (Out.refl gh (.str _)) h⟩
theorem nP(hn:PySem.intText? z=some n)(a:z.length<=640)(h:R (.st (.int n))):OpA EG [.str z] R:=λG H vs Q gh rs k=>by
 cases rs with
 |cons r t=>cases t;cases r;exact⟨z,n,rfl,hn,a,k _ _ _ _ _ (Out.refl gh (.int _)) h⟩
theorem zD(a:z.length<=1000000)(h:R (.st (.int z.length))):OpA BH [.str z] R:=λG H vs Q gh rs k=>by
 cases rs with
 |cons r t=>cases t;cases r;exact⟨z,rfl,D2 a (by decide),k _ _ _ _ _ (Out.refl gh (.int _)) h⟩
theorem NH(h:R (.st (.bool (!(Builtin.Str.occurrences y x 0 y.length 1).isEmpty)))):Op2 rInS (.str x) (.str y) R:=λG H c d Q gh a b k=>by
 cases a;cases b;exact⟨x,y,rfl,rfl,k _ _ _ _ _ (Out.refl gh (.bl _)) h⟩
theorem tK(f:x.length<=1000000)(d:Y0 x.cps.toList i=some c)(h:R (.st (.str ⟨#[c]⟩))):Op2 rIxS (.str x) (.int i) R:=λG H g j Q gh a b k=>by
 cases a;cases b;exact⟨x,i,c,rfl,rfl,D2 f (by decide),d,k _ _ _ _ _ (Out.refl gh (.str _)) h⟩
theorem Rps.strs:∀(ys:List Str),Rps G (ys.map V.str) (ys.map PyData.str)
 |[]=>.nil
 |y::ys=>.cons (.str y) (Rps.strs ys)
theorem Rps.strs_inv:∀{ys:List Str}{vs:List V},Rps G vs (ys.map PyData.str)->vs=ys.map V.str
 |[],_,.nil=>rfl
 | y::ys,_,.cons r t=>by
  cases r;rw[Rps.strs_inv t];rfl
theorem JA(h:Ev B ta env λd c=>∃ z,d=.str z/\EvA B (M2 tb tNil) c λds a=>∃ y,ds=[.str y]/\(y.length == 0)=false/\z.length<=1000000/\(Txt.split z y).length<=1000000/\QO (.own (OL ((Txt.split z y).map .str))) a):EvO B (tBM K "str" vG ta (M2 tb tNil)) env QO:=λσ G H F Q I k =>
 h σ G H F _ I λL j w A x c q s u f=>by
  obtain⟨z,i,g⟩:=f;subst i;cases u;refine⟨rfl,g σ j w A _ q λvs M H2 F2 ds a b J l ⟨y,C,E,m,n,v⟩=>?_⟩;subst C;cases l with
  | cons r t =>
   cases t;cases r;refine⟨z,y,rfl,rfl,E,D2 (Nat.add_le_add_right m 2) (by decide),D2 n (by decide),λp D=>?_⟩;have o:=Out.newL (xs:=(Txt.split z y).map V.str) (ds:=(Txt.split z y).map .str) b.gh D (Rps.strs _);exact k _ _ _ F2 _ _ a (b.out o).1 (s.trans (J.trans o.gg)) (b.out o).2 v
theorem dD(h:Ev B ta env λd c=>∃ z,d=.str z/\EvA B (M2 tb tNil) c λds a=>∃ ys:List Str,ds=[.list (ys.map .str)]/\(ys.map (·.length)).sum+ys.length * z.length<=16777216/\Q' (.str (Txt.join z ys)) a):Ev B (tBM K "str" (RI K) ta (M2 tb tNil)) env Q':=λσ G H F Q I k =>
 h σ G H F _ I λA j q s x c m n o f=>by
  obtain⟨z,i,g⟩:=f;subst i;cases o;refine⟨rfl,g σ j q s _ m λvs u H2 F2 ds a b y l ⟨ys,v,w,p⟩=>?_⟩;subst v;cases l with
  | cons r t =>
   cases t;cases r with
   | lst ha ra =>
    have:=Rps.strs_inv ra;subst this;exact⟨z,_,ys,rfl,rfl,SqL.of (b.gh _ _ ha),w,k _ u H2 F2 _ a b (n.trans y) (.str _) p⟩
end VL
namespace Tx
open PySem PySem.StrLaws
def gl(c:Nat):List (List Nat)->List Nat
 |[]=>[]
 |[w]=>w
 |w::v::r=>w++c::gl c (v::r)
theorem JG(c:Nat):∀(ws:List Str),(Str.join ⟨#[c]⟩ ws).cps.toList=gl c (ws.map (·.cps.toList))
 |[]=>rfl
 |[w]=>rfl
 | w::v::r=>by
  show(w ++ ⟨#[c]⟩ ++ Str.join ⟨#[c]⟩ (v::r)).cps.toList=_;rw[Str.cps_append,Str.cps_append,O5,O5,JG c (v::r)];simp[gl]
theorem JI(x y:Str):Txt.split x y ≠ []:=by
 unfold Txt.split;split
 ·simp
 ·split
  ·simp
  ·rw[partsBetween_eq];obtain⟨p,r,e⟩:=partsFrom_ne x y.length 0 _;rw[e];simp
def nS(i:Int):Str:=Str.ofString (toString i)
def figs:Str:="0123456789"
def okN(i:Nat):Bool:=((nS i).length == 1 || (nS i).length == 2) && ((nS i).cps.toList.all λc=>!(Builtin.Str.occurrences figs ⟨#[c]⟩ 0 figs.length 1).isEmpty && c != 45 && c != 32) && ((nS i).length != 2 || (nS i).cps.toList.head? != some 48)
theorem sO:(List.range 100).all okN=true:=by decide +kernel
theorem UK{i:Int}(a:0<=i)(b:i<100):okN i.toNat=true:=R3.mp sO _ (X2.mpr (by lia))
end Tx
namespace L2
open PySem PySem.Spec PyProof.Rows
structure FlyT(base:Heap)(l:List Env)(e T:Addr)(cls:Value)(h:Heap):Prop where
 stay:base.StaysIn h
 new:base.get? e=none
 newT:base.get? T=none
 funs:h.FunFrames base l
 tr:∃ oe vs oT ts a0,h.get? e=some oe/\(oe.cls=cls/\vs[0]?=some a0)/\oe.data=.fields vs/\vs[1]?=some (.ref T)/\T ≠ e/\h.get? T=some oT/\oT.data=.fields ts/\ts[3]?=some .none
theorem FlyT.of(x:Heap.FlyingW (PySem.W.hideAll a as) l e cls a0 h')(j:a.UpToSlots h')(st:base.StaysIn a)(ha:∀ b∈as,base.get? b=none)(fn:a.FunFrames base l)(ne:base.get? e=none) :
  ∃ T,FlyT base l e T cls h'/\(T∈as\/a.get? T=none):=by
 obtain⟨k1,k2,k3,oe,vs,T,oT,ts,p,r,hd,n,h,f,d,g,i⟩:=x;have c:T∈as\/a.get? T=none:=by
  by_cases m:T∈as
  ·exact .inl m
  ·cases q:a.get? T with
   |none=>exact .inr rfl
   |some o=>rw[PySem.W.hideAll_get as q m] at h;cases h
 refine⟨T,⟨λb o q=>k1 b o (PySem.W.hideAll_get as (st b o q) λm=>by rw[ha b m] at q;cases q),ne,?_,fn.of_keeps λb o hb hn=>?_,oe,vs,oT,ts,a0,p,r,hd,n,f,d,g,i⟩,c⟩
 ·rcases c with m|m
  ·exact ha T m
  ·exact PySem.W.fresh_of_stays st m
 ·obtain⟨sl,q⟩:=j b o hb hn;exact⟨_,q,rfl⟩
theorem YG{base c h':Heap}{l g:List Env}{e T:Addr}{cls:Value}(fn:c.FunFrames base l)(f:c.UpToSlots h')(y:FlyT base g e T cls h'):T ∉ frs l:=λm=>by
 obtain⟨_,o,d,hn⟩:=fn.mem m;obtain⟨sl,q⟩:=f T o d hn;obtain⟨oe,vs,oT,ts,a0,_,_,_,_,_,a,b,_⟩:=y.tr;rw[q] at a;cases a;exact hn ts b
theorem fE:∀ env∈l,∀ a,env.frame=some a->a∈frs l:=λenv b a ha=>List.mem_filterMap.mpr ⟨env,b,ha⟩
theorem QQ(l:A.frames=some (env::outer))(hf:env.frame=some L)(x:FlyT base (env::outer) e T cls s.heap)
  (v:∀ h' c,FlyT base outer e c cls h'->(c=T\/s.heap.get? c=none)->(∀ b o,s.heap.get? b=some o->b ≠ e->b ≠ T->b ∉ frs (env::outer)->h'.get? b=some o)->s.heap.UpToSlots h'->Q () { s with heap:=h' }):wpAny M A (leaving env (.ref e)) Q E s:=by
 obtain⟨oe,vs,oT,ts,a0,u,B,hd,p,i,d,j,m⟩:=id x.tr
 refine wpAny_leaves_onW (base:=PySem.W.hideAll s.heap (e::T::frs (env::outer))) l hf ⟨λb o q=>PySem.W.of_hideAll _ q,PySem.W.hideAll_none _ (.head _),PySem.W.funFrames_hide x.funs λr hn a ha=>.tail _ (.tail _ (fE r hn a ha)),
  oe,vs,T,oT,ts,u,B,hd,p,PySem.W.hideAll_none _ (.tail _ (.head _)),i,d,j,m⟩ λh' f g=>?_
 obtain⟨c,y,h⟩:=FlyT.of (base:=base) f g x.stay (λb hb=>by
  rcases V0.mp hb with z|hb
  ·rw[z];exact x.new
  ·rcases V0.mp hb with z|hb
   ·rw[z];exact x.newT
   ·exact(x.funs.mem hb).1) x.funs.2.2 x.new
 refine v h' c y ?_ (λb o q w C t=>f.1 b o (PySem.W.hideAll_get _ q λz=>?_)) g
 ·rcases h with z|z
  ·rcases V0.mp z with z|z
   ·obtain⟨_,_,_,_,_,_,_,_,_,n,_⟩:=y.tr;exact absurd z n
   ·rcases V0.mp z with z|z
    ·exact .inl z
    ·exact absurd z (YG x.funs g y)
  ·exact .inr z
 ·rcases V0.mp z with z|z
  ·exact w z
  ·rcases V0.mp z with z|z
   ·exact C z
   ·exact t z
theorem IP(g:A.frames=some (env::outer))(hf:env.frame=some L)(st:base.StaysIn h)(fn:h.FunFrames base (env::outer))(hx:Heap.MadeExcOf h s.heap e cls args)
  (j:∀ h' c,FlyT base outer e c cls h'->h.get? c=none->(∀ b o,h.get? b=some o->b ∉ frs (env::outer)->h'.get? b=some o)->h.UpToSlots h'->Q () { s with heap:=h' }):wpAny M A (leaving env (.ref e)) Q E s:=by
 refine wpAny_leaves_madeW (base:=PySem.W.hideAll h (frs (env::outer))) g hf (λb o q=>PySem.W.of_hideAll _ q) (PySem.W.funFrames_hide fn fE) hx λh' t f _ _ i=>?_;have a:h.UpToSlots h':=(Heap.UpToSlots.of_keeps hx.keeps).trans i;obtain⟨c,y,d⟩:=FlyT.of (base:=base) f a st (λb hb=>(fn.mem hb).1) fn.2.2 (PySem.W.fresh_of_stays st hx.new);refine j h' c y ?_ (λb o q n=>f.1 b o (PySem.W.hideAll_get _ q n)) a;rcases d with z|z
 ·exact absurd z (YG fn a y)
 ·exact z
theorem ObjOk.has(x:ObjOk P w H h a o):∃ b,h.get? a=some b:=by
 cases o with
 |lst xs=>obtain⟨_,_,_,_,e⟩:=x;exact⟨_,e⟩
 |tup xs=>obtain⟨_,_,_,b,e,_⟩:=x;exact⟨_,e⟩
 |dK kvs=>obtain⟨_,_,_,_,o,_,_,e,_⟩:=x;exact⟨_,e⟩
 |dT kvs=>obtain⟨_,_,_,_,o,_,_,e,_⟩:=x;exact⟨_,e⟩
 |set S n=>obtain⟨o,_,_,_,e,_⟩:=x;exact⟨_,e⟩
 |ins C dx fs=>obtain⟨_,_,_,e,_⟩:=x;exact⟨_,e⟩
 |own y=>exact x
 |xd fs=>obtain⟨_,⟨_,_,_,e,_⟩,_⟩:=x;exact⟨_,e⟩
 |rng lo hi=>obtain⟨_,_,_,e⟩:=x;exact⟨_,e⟩
 |frz b u=>obtain⟨e,_⟩:=x;exact⟨_,e⟩
 |tbl ps=>obtain⟨_,e,_⟩:=x;exact⟨_,e⟩
 |met f y=>exact⟨_,show h.get? a=some _ from x⟩
 |ext φ=>obtain⟨_,e,_⟩:=x;exact e
theorem HOk.no(x:HOk P w H h)(e:h.get? a=none):H a=none:=by
 cases q:H a with
 |none=>rfl
 |some o=>obtain⟨b,z⟩:=(x a o q).has;rw[e] at z;cases z
def CXE(P:Program)(w:World)(base:Heap):CXT:=λouter H s E e s'=>∃ ea T C H',e=.ref ea/\s'.os=s.os/\AllBare s'.gens/\Un (frs outer) [] H H' s.heap s'.heap/\HOk P w H' s'.heap /\
 FlyT base outer ea T (.ref C) s'.heap/\s.heap.get? ea=none/\s.heap.get? T=none/\H' ea=none/\H' T=none/\E (.ref C) none H'
section
variable{P:Program}{w:World}{K:Frag}{mg:Str->Option Value}{base:Heap}{N:List Str}{qual:Str}{scope:Scope}{f:Addr}{cd:Value}{A:Around}{outer:List Env}{s0:Shared}{H0:Hp}{E:XK}
theorem Un.back(I:Inv X pins σ H s)(hx:X.ex=[])(keep:∀ b o,X.s₀.heap.get? b=some o->s.heap.get? b=some o->b ∉ frs X.stack->h'.get? b=some o)
  (a:∀ b o o',X.s₀.heap.get? b=some o->s.heap.get? b=some o'->∃ g,h'.get? b=some g) (h:s.heap.UpToSlots h'):Un X.fs [] X.H₀ H X.s₀.heap h':=by
 have f:∀ b o,X.s₀.heap.get? b=some o->b ∉ X.fs->b ∉ frs X.stack:=λb o q j m=>by
  rcases V0.mp (I.stkSub b m) with z|z
  ·exact absurd (z4 (M0 q) (z ▸ I.ok.above)) (L3 _)
  ·exact j z
 have nx:∀ b:Addr,b ∉ X.ex:=λb z=>by rw[hx] at z;cases z
 refine⟨λb o q n hb _=>keep b o q (I.base.keep b o q n hb (nx b)) (f b o q hb),λb o q n hb _=>?_,λb o q n _=>I.base.free b o q n (nx b),λb o q _=>?_,I.base.tups,I.base.frzs,I.base.tbls⟩
 ·obtain⟨sl,e⟩:=I.base.slot b o q n hb (nx b);obtain⟨_,o',d,hn⟩:=I.funs.mem hb;rw[e] at d;cases d;obtain⟨c,i⟩:=h b _ e hn;exact⟨c,i⟩
 ·obtain⟨o',e⟩:=I.base.there b o q (nx b);exact a b o o' q e
theorem PB:D7 (CXE P w base) (cxOf (CXE P w base) P w K mg base N qual scope f cd A outer s0 H0 E) E:=by
 intro pins σ H s e M I h;obtain⟨g,T,C,H',rfl,p,n,un,hok,t,ne,G,B,y,O⟩:=h;have J:=I.call' p un hok n (λb z=>absurd z (by simp));have pre:∀ b o,s0.heap.get? b=some o->∃ o',s.heap.get? b=some o':=λb o q=>I.base.there b o q (λz=>absurd (show b∈([]:List Addr) from z) (by simp));have j:∀ b o,s0.heap.get? b=some o->b ≠ g:=λb o q z=>by obtain⟨o',r⟩:=pre b o q;rw[z,ne] at r;cases r
 have l:∀ b o,s0.heap.get? b=some o->b ≠ T:=λb o q z=>by obtain⟨o',r⟩:=pre b o q;rw[z,G] at r;cases r
 refine QQ I.ok.frames rfl t λh' d i a keep x=>?_;have U:=Un.back J rfl (h':=h') (λb o q r m=>keep b o r (j b o q) (l b o q) m) (λb o o' q r=>by
  by_cases m:b∈frs (envOfC qual scope s0.heap.objs.size f cd::outer)
  ·obtain⟨_,F,L,hn⟩:=t.funs.mem m;obtain⟨sl,D⟩:=x b F L hn;exact⟨_,D⟩
  ·exact⟨o',keep b o' r (j b o q) (l b o q) m⟩) x
 have tr:∀ b u,H' b=some u->∀ v,M.heap.get? b=some v->h'.get? b=some v:=λb u q v r=>keep b v r (λz=>by rw[z,B] at q;cases q) (λz=>by rw[z,y] at q;cases q) (λm=>by rw[J.stkFree b m] at q;cases q);refine⟨g,d,C,H',rfl,p.trans I.os,n,U,λb u q=>(hok b u q).stay (λc v Q r=>?_) (λ_ q=>q) (λ_ _ q=>q),i,?_,?_,B,?_,O⟩
 ·rcases Q with z|z
  ·rw[z] at r ⊢;exact tr b u q v r
  ·exact tr c _ z v r
 ·cases q:s0.heap.get? g with
  |none=>rfl
  |some o=>exact absurd rfl (j g o q)
 ·cases q:s0.heap.get? d with
  |none=>rfl
  | some o =>
   rcases a with z|z
   ·exact absurd z (l d o q)
   ·obtain⟨o',r⟩:=J.base.there d o q (λz=>absurd (show d∈([]:List Addr) from z) (by simp));rw[z] at r;cases r
 ·rcases a with z|z
  ·rw[z];exact y
  ·exact hok.no z
theorem PP(I:Inv (cxOf (CXE P w base) P w K mg base N qual scope f cd A outer s0 H0 E) pins σ H s)(m:Heap.MadeExcOf s.heap g e (.ref C) args)
  (p:E (.ref C) none H):(cxOf (CXE P w base) P w K mg base N qual scope f cd A outer s0 H0 E).xe (.ref e) { s with heap:=g }:=by
 have pre:∀ b o,s0.heap.get? b=some o->∃ o',s.heap.get? b=some o':=λb o q=>I.base.there b o q (λz=>absurd (show b∈([]:List Addr) from z) (by simp));refine IP (s:={ s with heap:=g }) I.ok.frames rfl I.bk I.stack m λh' h d a keep i=>?_;have U:=Un.back I rfl (h':=h') (λb o q r m=>keep b o r m) (λb o o' q r=>by
  by_cases m:b∈frs (envOfC qual scope s0.heap.objs.size f cd::outer)
  ·obtain⟨_,l,n,hn⟩:=I.stack.mem m;obtain⟨sl,j⟩:=i b l n hn;exact⟨_,j⟩
  ·exact⟨o',keep b o' r m⟩) i
 have tr:∀ b u,H b=some u->∀ v,s.heap.get? b=some v->h'.get? b=some v:=λb u q v r=>keep b v r (λm=>by rw[I.stkFree b m] at q;cases q);refine⟨e,h,C,H,rfl,I.os,I.bare,U,λb u q=>(I.hok b u q).stay (λc v t r=>?_) (λ_ q=>q) (λ_ _ q=>q),d,?_,?_,I.hok.no m.new,I.hok.no a,p⟩
 ·rcases t with z|z
  ·rw[z] at r ⊢;exact tr b u q v r
  ·exact tr c _ z v r
 ·cases q:s0.heap.get? e with
  |none=>rfl
  |some o=>obtain⟨o',r⟩:=pre e o q;rw[m.new] at r;cases r
 ·cases q:s0.heap.get? h with
  |none=>rfl
  |some o=>obtain⟨o',r⟩:=pre h o q;rw[a] at r;cases r
end
theorem oK{h:Heap}{g:Array GenState}{d:Drawn}{t:Nat}{os:OsState}{e:Addr}{oe:Obj}{Q:Bool->Shared->Prop}
  (m:h.get? C=some (excClassObj nm q C N bs bm hdct sn sub ab col dd k0 k1 k2 k3 k5 newId)) (j:h.get? D=some (excClassObj nm' q' D N' bs' bm' hdct' sn' sub' ab' col' dd' j0 j1 j2 j3 j5 newId')) (l:h.get? e=some oe) (b:oe.cls=.ref C)
  (a:bm'.contains (.type "BaseException")=true) (i:(Value.ref C::bm).contains (.ref D)=true) (n:Q true ⟨h,g,d,t,os⟩):wpAny M A (excMatches (.ref e) (.ref D)) Q E ⟨h,g,d,t,os⟩:=by
 have c:(Value.ref D::bm').contains (.type "BaseException")=true:=by rw[List.contains_cons,a,Bool.or_true]
 have f:=tc_notTuple;unfold excMatches;repeat (first|(with_reducible refine wpAny_loadPart_at l ?_;rw[b])|with_reducible refine wpAny_loadPart_at j ?_|(with_reducible refine wpAny_isSubtype_exc j ?_;rw[c])|(with_reducible refine wpAny_isSubtype_exc m ?_;rw[i])|wp_step)
 exact n
abbrev bmV:List Value:=[.type "ValueError",.type "Exception",.type "BaseException",.type "object"]
abbrev XOk(K:Frag)(mg:Str->Option Value)(x:Str)(C:Addr):Prop:=∀ h:Heap,K.In h->OwnCls x C bmV "ValueError.__new__" mg h
def XSub(K:Frag)(C D:Addr):Prop:=∀ h:Heap,K.In h->∃ nm q N bs bm hdct sn sub ab col dd k0 k1 k2 k3 k5 newId,
 h.get? C=some (excClassObj nm q C N bs bm hdct sn sub ab col dd k0 k1 k2 k3 k5 newId)/\(Value.ref C::bm).contains (.ref D)=true
theorem GR{x:Str}{C:Addr}{y cpos pos:Pos}{a:Expr}{es:List Expr}{l:TA}{W:Hp->Prop}(c:XOk X.K X.mg x C)(o:Gl X x)(v:X.calm=true)(ha:PA X (a::es) l)
  (hx:∀(pins:List (Addr × Obj))(σ:St)(H:Hp)(s:Shared)(j:Heap)(e:Addr)(args:List Value),Inv X pins σ H s->Heap.MadeExcOf s.heap j e (.ref C) args->W H->X.xe (.ref e) { s with heap:=j })
  (i:(x == ("__debug__" : Str))=false:=by decide) (n:starEach (a::es) X.env=(false,eval a X.env)::starEach es X.env:=by rfl) (d:(backTo cpos (starEach es X.env)).any (·.1)=false:=by rfl) :
  PS X (.Raise (some (.Call (.Name x y) (a::es) [] cpos)) none pos) (λ_ σ H=>l σ H λvs f=>vs.length<=sizeLine/\W f):=by
 intro pins s σ H D I h;obtain⟨tl,N,nm,q,bs,hdct,sn,sub,ab,col,dd,k0,k1,k2,k3,k5,mN,t,u,g,T⟩:=(c X.base I.mod.kin).obj
 refine wpAny_Raise_call_subT (C:=C) (nm:=nm) (q:=q) (N:=N) (bs:=bs) (bm:=tl) (hdct:=hdct) (sn:=sn) (sub:=sub) (ab:=ab) (col:=col) (dd:=dd) (k0:=k0) (k1:=k1) (k2:=k2) (k3:=k3) (k5:=k5)
  PySem.F.excBase_ValueError (mN:=mN) (T.hasType PySem.F.excBase_ValueError.hasBase) (I.ok.hd v) (by rw[n];show(false || (backTo cpos (starEach es X.env)).any (·.1))=false;rw[d];rfl) g (Z7 I o (c X.base I.mod.kin).bound ⟨rfl,?_⟩ i)
 have hh:=ha cpos pins s σ H _ I h;rw[n] at hh ⊢;refine Calls.evalArgs_plain (thn hh λus s2 z=>?_);obtain⟨vs,f,b,r,p,w⟩:=z;exact⟨rfl,by rw[← r.length];exact p,b.bk _ _ t,u.keeps b.bk,T.keeps b.bk,λh' e m=>hx pins σ f s2 h' e us b m w⟩
def z9(X:Cx)(pins:List (Addr × Obj))(b:Addr):Prop:=X.s₀.heap.get? b=none/\b ≠ X.env.locals/\(∀ x c,X.env.cells.lookup x=some c->c ≠ b)/\∀ p∈X.pn++pins,p.1 ≠ b
theorem eG(I:Inv X pins σ H s)(hx:X.ex=[])(e:s.heap.get? b=none):z9 X pins b:=by
 refine⟨?_,λz=>?_,λx c d z=>?_,λp f z=>?_⟩
 ·cases q:X.s₀.heap.get? b with
  |none=>rfl
  |some o=>obtain⟨o',r⟩:=I.base.there b o q (by rw[hx];simp);rw[e] at r;cases r
 ·obtain⟨m,⟨o,_,_,a,_⟩,_⟩:=I.loc;rw[← z,e] at a;cases a
 ·obtain⟨v,o,a,_⟩:=I.cell x c d;rw[z,e] at a;cases a
 ·have:=(I.pin p f).1;rw[z,e] at this;cases this
theorem Inv.flew(J:Inv X pins σ H s)(hx:X.ex=[])(ne:z9 X pins e)(w:z9 X pins T)(G:H e=none)(E:H T=none)
  (keep:∀ b o,s.heap.get? b=some o->b ≠ e->b ≠ T->b ∉ frs X.stack->h'.get? b=some o) (g:s.heap.UpToSlots h'):Inv X pins σ H { s with heap:=h' }:=by
 have y:∀ b o,X.s₀.heap.get? b=some o->b ≠ e:=λb o q z=>by rw[z,ne.1] at q;cases q
 have A:∀ b o,X.s₀.heap.get? b=some o->b ≠ T:=λb o q z=>by rw[z,w.1] at q;cases q
 have U:=Un.back J hx (h':=h') (λb o q r m=>keep b o r (y b o q) (A b o q) m) (λb o o' q r=>by
  by_cases m:b∈frs X.stack
  ·obtain⟨_,C,j,hn⟩:=J.stack.mem m;obtain⟨sl,h⟩:=g b C j hn;exact⟨_,h⟩
  ·exact⟨o',keep b o' r (y b o q) (A b o q) m⟩) g
 have tr:∀ b u,H b=some u->∀ v,s.heap.get? b=some v->h'.get? b=some v:=λb u q v r=>keep b v r (λz=>by rw[z,G] at q;cases q) (λz=>by rw[z,E] at q;cases q) (λm=>by rw[J.stkFree b m] at q;cases q);have t:∀ c v,s.heap.IsCell c v->h'.IsCell c v:=λc v B=>by
  obtain⟨o,D,hd⟩:=B;obtain⟨sl,z⟩:=g c o D (λvs q=>by rw[hd] at q;cases q);exact⟨_,z,hd⟩
 refine⟨J.ok,J.os,J.bare,by rw[hx];exact U,?_,λx c z=>?_,J.free,J.freeC,λp n=>?_,λb u q=>(J.hok b u q).stay (λc v I r=>?_) (λ_ q=>q) (λ_ _ q=>q),J.len⟩
 ·obtain⟨m,hn,F⟩:=J.loc;refine⟨m,g.ns hn,λi x v K j h=>?_⟩;obtain⟨u,r,l⟩:=F i x v K j h;refine⟨u,r,?_⟩;rcases l with l|⟨k,c,e,z⟩
  ·exact .inl l
  ·exact .inr ⟨k,c,e,t c _ z⟩
 ·obtain⟨v,q⟩:=J.cell x c z;exact⟨v,t c v q⟩
 ·obtain⟨a,b,c,d,f⟩:=J.pin p n;refine⟨keep p.1 p.2 a (ne.2.2.2 p n) (w.2.2.2 p n) (λm=>?_),b,c,d,f⟩;rcases V0.mp (J.stkSub _ m) with z|z
  ·exact c z
  ·exact d z
 ·rcases I with z|z
  ·rw[z] at r ⊢;exact tr b u q v r
  ·exact tr c _ z v r
def ExAt(e C:Addr)(h:Heap):Prop:=∃ ob,h.get? e=some ob/\ob.cls=.ref C
theorem Inv.track(J:Inv X pins σ H s)(hx:X.ex=[])(ne:z9 X pins e)(h:H e=none)(hf:e ∉ X.fs)(x:ExAt e C s.heap):Inv X pins σ (upd H e (.ext (ExAt e C))) s:=by
 have nn:∀ b u,H b=some u->b ≠ e:=λb u q z=>by rw[z,h] at q;cases q
 have j:∀ b o,X.s₀.heap.get? b=some o->b ≠ e:=λb o q z=>by rw[z,ne.1] at q;cases q
 refine⟨J.ok,J.os,J.bare,⟨J.base.keep,J.base.slot,λb o q n hb=>?_,J.base.there,λb xs q=>?_,λb o u q=>?_,λb ps q=>?_⟩,J.loc,J.cell,?_,λy c z=>?_,λp g=>?_,λb u q=>?_,J.len⟩
 ·rw[G0 (j b o q)];exact J.base.free b o q n hb
 ·have:=J.base.tups b xs q;rw[G0 (nn b _ this)];exact this
 ·have:=J.base.frzs b o u q;rw[G0 (nn b _ this)];exact this
 ·obtain⟨more,this⟩:=J.base.tbls b ps q;exact⟨more,by rw[G0 (nn b _ this)];exact this⟩
 ·rw[G0 (Ne.symm ne.2.1)];exact J.free
 ·rw[G0 (ne.2.2.1 y c z)];exact J.freeC y c z
 ·obtain⟨a,b,c,d,f⟩:=J.pin p g;exact⟨a,by rw[G0 (ne.2.2.2 p g)];exact b,c,d,f⟩
 ·by_cases z:b=e
  ·subst z;rw[S0] at q;cases q;obtain⟨i,l,t⟩:=id x;exact⟨x,⟨i,l⟩,λm v ⟨o,a,c⟩ k=>⟨o,k o a,c⟩⟩
  ·rw[G0 z] at q;exact(J.hok b u q).stay (λ_ _ _ r=>r) (λc r=>by rw[G0 (nn c _ r)];exact r) (λc xs r=>by rw[G0 (nn c _ r)];exact r)
theorem EB(I:Inv X pins σ H s)(P:X.N.Nodup)(hi:X.N[i]?=some n)(K:X.env.kindOf n=some .local)
  (h:∀ B,Inv X pins (σ.set i none) H B->Q () B):wpAny M A (do bindName X.env n .none;unbindBehindTheSuite X.env n pos) Q E s:=by
 obtain⟨m,hn,G⟩:=id I.loc;have g:(X.env.scope.kind == .class || (X.env.scope.kind == .module && X.env.locals != X.env.globals))=false:=by rw[I.ok.kind];rfl
 have l:i<σ.length:=by rw[I.len];exact(R1.mp hi).1
 refine wpAny_nameGoes_keeps K hn g λh' v x hs=>h _ ?_;have a:∀ b o,X.s₀.heap.get? b=some o->b ≠ X.env.locals:=λb o e=>U1 (z4 (M0 e) I.ok.above);refine⟨I.ok,I.os,I.bare,⟨λb o e n hb hx=>(hs.2 b (a b o e)).trans (I.base.keep b o e n hb hx),λb o e n hb hx=>?_,I.base.free,λb o e hx=>?_,I.base.tups,I.base.frzs,I.base.tbls⟩,⟨_,x,λj y u f t D=>?_⟩,λy c e=>?_,I.free,I.freeC,λp O=>?_,λb u q=>(I.hok b u q).stay (λc w R r=>(hs.2 c (λz=>?_)).trans r) (λ_ q=>q) (λ_ _ q=>q),by simpa using I.len⟩
 ·obtain⟨sl,f⟩:=I.base.slot b o e n hb hx;exact⟨sl,(hs.2 b (a b o e)).trans f⟩
 ·obtain⟨o',f⟩:=I.base.there b o e hx;exact⟨o',(hs.2 b (a b o e)).trans f⟩
 ·by_cases hj:j=i
  ·subst hj;rw[List.getElem?_set_self l] at t;cases t
  ·rw[List.getElem?_set_ne (Ne.symm hj)] at t;obtain⟨J,F,q⟩:=G j y u f t D;refine⟨J,F,?_⟩;rcases q with ⟨k,e⟩|⟨k,c,e,z⟩
   ·refine .inl ⟨k,?_⟩;have:y ≠ n:=λe=>hj (nodup_ix P f (e ▸ hi));simp[this,e]
   ·exact .inr ⟨k,c,e,z.sameBut hs (I.cne y c e)⟩
 ·obtain⟨C,z⟩:=I.cell y c e;exact⟨C,z.sameBut hs (I.cne y c e)⟩
 ·obtain⟨e,n,ne,L,d⟩:=I.pin p O;exact⟨(hs.2 p.1 ne).trans e,n,ne,L,d⟩
 ·rcases R with y|y
  ·rw[← y,z,I.free] at q;cases q
  ·rw[z,I.free] at y;cases y
abbrev Cx.marked(X:Cx)(ea:Addr):Cx:={ X with A:=X.A.mark (some (.ref ea)),calm:=false }
theorem Inv.mark(I:Inv X pins σ H s)(a:Addr):Inv (X.marked a) pins σ H s :=
 ⟨⟨I.ok.mod,I.ok.kind,I.ok.glob,I.ok.blt,I.ok.above,I.ok.inj,I.ok.has,I.ok.cab,λz=>(by cases z),I.ok.frames,I.ok.stk,I.ok.exf,I.ok.bs,I.ok.bsz,I.ok.noex,I.ok.exfs,I.ok.funs,I.ok.frf,I.ok.tab⟩,I.os,I.bare,I.base,I.loc,I.cell,I.free,I.freeC,I.pin,I.hok,I.len⟩
theorem Inv.unmark(ok:X.Ok)(I:Inv (X.marked a) pins σ H s):Inv X pins σ H s :=
 ⟨ok,I.os,I.bare,I.base,I.loc,I.cell,I.free,I.freeC,I.pin,I.hok,I.len⟩
abbrev XW:=Value->St->Hp->Prop
def XP(X:Cx)(pins:List (Addr × Obj))(W:XW)(e:Value)(s':Shared):Prop:=∃ σ ea T C H',e=.ref ea/\Inv X pins σ H' s'/\FlyT X.base X.stack ea T (.ref C) s'.heap/\z9 X pins ea/\z9 X pins T/\H' ea=none/\H' T=none/\W (.ref C) σ H'
def PXs(X:Cx)(st:List Stmt)(t:XW->TS):Prop :=
 ∀(pins:List (Addr × Obj))(s:Shared)(σ:St)(H:Hp)(D:Ends)(W:XW),Inv X pins σ H s->t W D σ H->wpAny (model X.prog X.w) X.A (execs st X.env) (SP X pins D) (XP X pins W) s
def tTry(K:Frag)(D0:Addr)(i:Nat)(tb:XW->TS)(ts:TS):TS:=λD σ H=>tb (λcls σ1 H1=>∃ C,cls=.ref C/\XSub K C D0/\∀ ea,H1 ea=none ->
 ts { nx:=λσ2 H2=>D.nx (σ2.set i none) H2,rt:=D.rt,bk:=λσ2 H2=>D.bk (σ2.set i none) H2,ct:=λσ2 H2=>D.ct (σ2.set i none) H2 } (σ1.set i (some (.ref ea))) (upd H1 ea (.ext (ExAt ea C)))) D σ H
theorem zJ(j:X.stack=X.env::X.outer/\X.env.frame=some X.env.locals)(hx:X.ex=[])(c:XOk X.K X.mg x D0)(hg:Gl X x)(G:X.N.Nodup)(hi:X.N[i]?=some n)(m:X.env.kindOf n=some .local)
  (hb:PXs X body tb) (hs:∀ d,PSs (X.marked d).nox (b0::suite) ts) (a4:(x == ("__debug__" : Str))=false:=by decide) :
  PS X (.Try body [.ExceptHandler (some (.Name x np)) (some n) (b0::suite) w] [] [] pos) (tTry X.K D0 i tb ts):=by
 intro pins s σ H D I h;refine wpAny_Try_except (Y2 (hb pins s σ H D _ I h) (λf s1 q=>?_) λe s1 q=>?_)
 ·cases f with
  |next=>exact wpAny_execs_nil q
  |ret v=>exact q
  |brk=>exact q
  |cont=>exact q
 ·obtain⟨a3,d,T,C,H1,rfl,J,B,y,L,P,hT,C',Y,E,U⟩:=q;cases Y;obtain⟨oe,vs,oT,a2,a0,g1,g2,g3,g4,g5,g6,g7,g8⟩:=id B.tr;have S:X.A.frames=some (X.env::X.outer):=J.ok.frames.trans (congrArg some j.1);have fw:Heap.FlyingW (PySem.W.hideAll s1.heap (d::T::frs X.stack)) (X.env::X.outer) d (.ref C) a0 s1.heap:=by
   rw[← j.1];exact⟨λb o q=>PySem.W.of_hideAll _ q,PySem.W.hideAll_none _ (.head _),PySem.W.funFrames_hide B.funs λen hn a ha=>.tail _ (.tail _ (fE en hn a ha)),oe,vs,T,oT,a2,g1,g2,g3,g4,PySem.W.hideAll_none _ (.tail _ (.head _)),g5,g6,g7,g8⟩
  have kp:∀{h':Heap},(PySem.W.hideAll s1.heap (d::T::frs X.stack)).StaysIn h'->∀ b o,s1.heap.get? b=some o->b ≠ d->b ≠ T->b ∉ frs X.stack->h'.get? b=some o:=λ{h'} k b o q n1 n2 n3=>k b o (PySem.W.hideAll_get _ q λz=>by
   rcases V0.mp z with z|z
   ·exact n1 z
   ·rcases V0.mp z with z|z
    ·exact n2 z
    ·exact n3 z)
  have bs:∀{h':Heap},(PySem.W.hideAll s1.heap (d::T::frs X.stack)).StaysIn h'->∀ b o,X.base.get? b=some o->h'.get? b=some o:=λ{h'} k b o q=>kp k b o (J.bk b o q) (λz=>by rw[z,B.new] at q;cases q) (λz=>by rw[z,B.newT] at q;cases q) (λz=>by rw[(B.funs.mem z).1] at q;cases q);refine wpAny_looks_onW S j.2 fw λh4 f4 M=>?_;refine wpAny_landsW f4 λQ p a5=>?_;obtain⟨nm,q,N,b2,bm,hdct,sn,sub,ab,col,dd,k0,k1,k2,k3,k5,newId,hC,Z⟩:=E Q (J.mod.kin.keeps (bs p.1));obtain⟨tl,N',a8,q',b1,a1,b4,a7,b6,a6,b3,j0,j1,j2,j3,j5,mN,hD,a9,b5,Tl⟩:=(c Q (J.mod.kin.keeps (bs p.1))).obj;obtain⟨ob,R,t⟩:=p.there;refine wpAny_handleBy_cons (codeAny_handlers_test ?_) (by intro q;cases q);refine Calls.Name_function_global J.ok.kind hg (Calls.loadGlobal_global (by rw[J.ok.glob];exact J.mod.glob.keeps (bs p.1)) (c Q (J.mod.kin.keeps (bs p.1))).bound ?_) a4;refine oK hC hD R t (Tl.hasType PySem.F.excBase_ValueError.hasBase) Z ?_;refine codeAny_handlers_suite_as ?_;refine lands_againW p λh6 f6 O=>?_;have J6:Inv X pins a3 H1 { s1 with heap:=h6 }:=J.flew hx y L P hT (kp f6.1) ((M.trans a5).trans O);have J7:=J6.track hx y P (λz=>?nf) f6.there
  case nf =>
   obtain⟨_,o,ho,hn⟩:=J.funs.mem z;rw[g1] at ho;cases ho;exact hn vs g3
  refine qD J7 G hi (.inl m) (show RelV (.ref d) (.ref d) from rfl) (λs7 I7=>?_) (.inr m);refine Y2 (hs d pins s7 _ _ _ ((I7.mark d).wish _) (U d P)) (λf s8 q=>?_) λ_ _ z=>False.elim z;have ok:=I.ok;cases f with
  | next =>
   obtain⟨g,H',K,q⟩:=q;exact EB (Inv.unmark ok K.unwish) G hi m λs9 l=>⟨_,_,l,q⟩
  | brk =>
   obtain⟨g,H',K,q⟩:=q;exact EB (Inv.unmark ok K.unwish) G hi m λs9 l=>⟨_,_,l,q⟩
  | cont =>
   obtain⟨g,H',K,q⟩:=q;exact EB (Inv.unmark ok K.unwish) G hi m λs9 l=>⟨_,_,l,q⟩
  | ret u =>
   obtain⟨v,g,H',K,r,q⟩:=q;exact EB (Inv.unmark ok K.unwish) G hi m λs9 l=>⟨v,_,_,l,r,q⟩
end L2
namespace VL
open PySem PySem.Spec L2
abbrev VPX:=List Sl->(Sl->Prop)->(Addr->Prop)->Prop
def spX(K:Frag)(f:VPX):Sp:=λvs H Q E=>∃ G ss Q' R',Same G H/\FT G H/\ArgsOk K G vs ss/\f ss Q' R'/\(∀ s,Q' s->∀ v G' H' Fv,Out G H v G' H' s Fv->Q v H') /\
 ∀ C,R' C->∀ G' H',Out G H .non G' H' (.st .none) (λ_=>False)->E (.ref C) none H'
theorem lenX(h:spX K f vs H Q E)(d:∀ ss a b,f ss a b->ss.length=n):vs.length=n:=by
 obtain⟨G,ss,a,b,_,_,c,hf,_⟩:=h;rw[c.length];exact d ss a b hf
def EvE(B:Bs)(E:XK)(R:Addr->Prop):Prop:=∀ C,R C->∀(σ:St)(G H:Hp)(F:Nat->Addr->Prop)(env:En),VI B G H σ env F->E (.ref C) none H
theorem Q4(h:spX K f vs H Q E)
  (hb:∀ ss b c,f ss b c->∀ B,B.K=K->EvE B E c->EvS B ts { nx:=λ_=>b (.st .none),rt:=λs _=>b s } (ss.map some++List.replicate (N.length-ss.length) none)):ts { nx:=λ_ H'=>Q .non H',rt:=Q } (L2.start N vs) H:=by
 obtain⟨G,ss,b,c,gh,ft,l,hf,m,p⟩:=h;have fin:∀{σ G' H' F env v Fv s},VI (bsP K G H vs) G' H' σ env F->RsX (bsP K G H vs) G' H' v Fv s F->Out G H v G' H' s Fv:=λI r =>
  ⟨I.g0,I.gh,I.rs,I.gn,r.fb,r.fg,r.fo,r.ok,λ_=>I.ft⟩
 refine hb ss _ _ hf (bsP K G H vs) rfl (λC t σ G' H' F env I=>p C t G' H' (fin I (R5 .non))) (L2.start N vs) G H noF _ ?_ ⟨λσ G' H' F env I g q=>m _ q _ _ _ _ (fin I (R5 .non)),λσ G' H' F env v Fv s I g r q=>m _ q v G' H' Fv (fin I r),λ_ _ _ _ _ _ _ q=>q,λ_ _ _ _ _ _ _ q=>q⟩;refine⟨gh,Same.refl _,λa o e=>.inl e,Same.refl _,Same.refl _,λa o e=>⟨o,e⟩,λi a z=>z.elim,λi a z=>z.elim,λi j a z=>z.elim,λi a z=>z.elim,λi s e=>?_,?_,ft⟩
 ·obtain⟨v,n,q⟩:=l.get (bA e);refine⟨v,by unfold L2.start;exact RA n,?_⟩;cases s with
  |st d=>exact⟨q,λa z=>z⟩
  |scr ns=>exact⟨q,λa z=>z⟩
  |own A=>exact q.elim
  |io A=>exact q.elim
 ·unfold L2.start;simp[l.length]
theorem X5(m:EvE B E R)(h:EvA B t env λds b=>f (ds.map Sl.st) (λs=>QO s b) R):EvO B (F3 (spX K f) [] E t) env QO:=λσ G H F Q I k=>by
 unfold F3;simp only[z5];exact h σ G H F _ I λvs g n c ds b a i j d=>⟨g,_,_,R,a.gh,a.ft,ArgsOk.of j,d,λs q v G' H' Fv o=>k v G' H' c Fv s b (a.out o).1 (i.trans o.gg) (a.out o).2 q,λC l G' H' o=>m C l σ G' H' c b (a.out o).1⟩
theorem HD(a:EvE B E R)(h:EvA B t env λds b=>f (ds.map Sl.st) (λs=>FQ s λd=>Q' d b) R):Ev B (F3 (spX K f) [] E t) env Q':=P5 (X5 a h)
theorem R6(j:EvE B E R)(i:R C)(h:EvA B b env λds _=>ds.length<=1000):EvS B (λ_ σ H=>b σ H λvs a=>vs.length<=sizeLine/\E (.ref C) none a) D' env:=λσ G H F D I r =>
 h σ G H F _ I λvs c a g ds l d m f q=>⟨by rw[f.length];exact V5 (big (D2 q (by decide))),j C i σ c a g l d⟩
def OE(C:Addr):Own where
 P:=λG H v F=>∃ a,v=.ref a/\H a=some (.ext (ExAt a C))/\∀ b,F b ↔ b=a
 mono:=λ⟨a,e,h,f⟩ g hh=>⟨a,e,hh a _ ((f a).mpr rfl) h,f⟩
 dom:=λ⟨a,e,h,f⟩ b z=>by rw[(f b).mp z];exact⟨_,h⟩
def EvXs(B:Bs)(tb:XW->TS)(D':VEnds)(RX:Addr->En->Prop)(env:En):Prop:=∀(σ:St)(G H:Hp)(F:Nat->Addr->Prop)(D:Ends)(W:XW),VI B G H σ env F->RelE B G D D' ->
 (∀ C σ' G' H' F' env',VI B G' H' σ' env' F'->Same G G'->RX C env'->W (.ref C) σ' H')->tb W D σ H
theorem wN(h:EvXs B w D' (λC P=>XSub K C A/\EvS B ts { nx:=λe=>D'.nx (e.set i none),rt:=D'.rt,bk:=λe=>D'.bk (e.set i none),ct:=λe=>D'.ct (e.set i none) } (P.set i (some (.own (OE C))))) env):EvS B (tTry K A i w ts) D' env:=λσ G H F D I r=>by
 refine h σ G H F D _ I r λC u G' H' F' p n g' q=>⟨C,rfl,q.1,λd t=>?_⟩
 have E:G' d=none:=n.no_g t;have L:VI B G' (upd H' d (.ext (ExAt d C))) u p F':=n.grow (Same.refl _) (n.gh.trans (p6 t)) (p6 t) (λa o e=>.inl e) (λa M e=>by
  by_cases z:a=d
  ·subst z;rw[S0] at e;cases e
  ·rw[G0 z] at e;exact n.ft a M e)
 have N:RsX B G' (upd H' d (.ext (ExAt d C))) (.ref d) (λa=>a=d) (.own (OE C)) F':=⟨⟨d,rfl,S0,λb=>Iff.rfl⟩,λa z=>z ▸ n.no_b t,λa z=>z ▸ E,λa z=>⟨.ext (ExAt d C),by rw[z];exact S0⟩,λj a z y=>n.no_f (z ▸ t) j y⟩
 have O:=L.store N i;have dn:∀{c:St}{f H2:Hp}{F2:Nat->Addr->Prop}{l:En},VI B f H2 c l F2->VI B f H2 (c.set i none) (l.set i none) (putF F2 i λ_=>False):=λJ=>J.slot (Fv:=λ_=>False) i none none (λa z=>z.elim) (λa z=>z.elim) (λa z=>z.elim) (λj a _ z=>z.elim) (λs e=>by cases e);refine q.2 (u.set i (some (.ref d))) G' _ _ _ O ⟨λc f H2 F2 l J g m=>r.nx _ f H2 _ _ (dn J) (g'.trans g) m,λc f H2 F2 l v Fv s J g x m=>r.rt c f H2 F2 l v Fv s J (g'.trans g) x m,λc f H2 F2 l J g m=>r.bk _ f H2 _ _ (dn J) (g'.trans g) m,λc f H2 F2 l J g m=>r.ct _ f H2 _ _ (dn J) (g'.trans g) m⟩
end VL
namespace L2
open PySem PySem.Spec PyProof.Rows
section
open PySem PySem.Calls PyProof.Rows Builtin Builtin.ObjectAttr Builtin.Getset_descriptor
variable{prog:Program}{w:World}{A:Around}{E:Value->Shared->Prop}{K:Frag}{h:Heap}{g:Array GenState}{d:Drawn}{t:Nat}{os:OsState}{x C:Addr}{o:Obj}
theorem JD(hx:h.get? x=some o)(a:o.cls=.ref C):PySem.W.Looks M h (typeOf (.ref x)) (.ref C):=a ▸ (PySem.W.Looks.ld hx).andThen .now
structure XIn(K:Frag)(C:Addr):Prop where
 cl:(PySem.W.clsIn K C).isSome=true
 ga:PySem.W.findIn K (.ref C) "__getattribute__" = some (some (.builtin "BaseException.__getattribute__"))
 gn:PySem.W.findIn K (.ref C) "__getattr__" = some none
 cs:PySem.W.findIn K (.ref C) "__class__" = some (some (.builtin "object.__class__"))
 mo:mroIn K C (.type "object")=some true
 mb:mroIn K C (.type "BaseException")=some true
theorem uS(X:K.In h)(c:XIn K C)(hx:h.get? x=some o)(f:o.cls=.ref C)(i:R (.ok (.ret (.ref C))) ⟨h,g,d,t,os⟩) :
  codeAny (model prog w) A (.call (.builtin "getset_descriptor.__get__") ⟨[.builtin "object.__class__",.ref x,j],[]⟩) R ⟨h,g,d,t,os⟩:=by
 have a:=JD (M:=model prog w) hx f;have b:=PySem.W.looks_mroIn (M:=model prog w) X c.mo;refine codeAny_call_builtin PySem.W.KF.slot_gs.plain PySem.W.KF.entry_gs (PySem.W.KF.slot_gs.check _ _ _ _ _ _ _ _ PySem.W.KF.type_class (PySem.W.KF.args_gs _ _ _) ?_);unfold Builtin.«getset_descriptor.__get__» descrGet;rw[PySem.W.dga_obj];refine u0 (I0 ?_);unfold descrGetter descrCheckInstance descrNameAndClass isInstance;simp only[PySem.W.KF.owner_class];repeat (first|(with_reducible refine a.at ?_)|(with_reducible refine b.at ?_)|wp_step)
 refine⟨Code.quiet_builtin _ (by decide +kernel),X9 PySem.W.KF.entry_class ?_⟩;unfold Builtin.«object.__class__» shownTypeOf;repeat (first|(with_reducible refine a.at ?_)|(with_reducible refine b.at ?_)|wp_step)
 exact i
theorem FO(X:K.In h)(c:XIn K C)(hx:h.get? x=some o)(i:o.cls=.ref C)(l:Q () ⟨h,g,d,t,os⟩):wpAny M A (checkBuiltinCall "BaseException.__getattribute__" ⟨[.ref x,a],[]⟩) Q E ⟨h,g,d,t,os⟩:=by
 have m:builtinKind "BaseException.__getattribute__" = some .slot:=by decide +kernel
 have b:splitId "BaseException.__getattribute__" = some ("BaseException","__getattribute__"):=by decide +kernel
 have ha:=F.args_bexc_ga (.ref x) a;have f:=JD (M:=M) hx i;have j:=PySem.W.looks_mroIn (M:=M) X c.mb;simp only[checkBuiltinCall,m,b];refine u0 ?_
 ·unfold isInstance;refine u0 (f.at (j.at ?_));repeat (first|wp_step)
  exact l
theorem TK(X:K.In h)(c:XIn K C)(hx:h.get? x=some o)(a:o.cls=.ref C)(i:Q (.done (.ret (.ref C))) ⟨h,g,d,t,os⟩) :
  wpAny (model prog w) A (Builtin.«object.__getattribute__» ⟨[.ref x,.str "__class__" tk],[]⟩) Q E ⟨h,g,d,t,os⟩:=by
 have b:=PySem.W.looks_findIn (M:=model prog w) X c.cs;have l:typeOf (.builtin "object.__class__")=pure (.type "getset_descriptor"):=PySem.W.KF.type_class;have j:=F.slot_gs_get.lookup;have f:=F.slot_gs_set.lookup;repeat (any_goals (first|assumption|(with_reducible refine wpAny_loadPart_at hx ?_;rw[a])|with_reducible refine b.at ?_|wp_step))
 refine uS X c hx a ?_;repeat (any_goals (first|assumption|wp_step))
theorem jP(X:K.In h)(c:XIn K C)(hx:h.get? x=some o)(a:o.cls=.ref C)(b:R (.ok (.ret (.ref C))) ⟨h,g,d,t,os⟩) :
  codeAny (model prog w) A (.call (.builtin "BaseException.__getattribute__") ⟨[.ref x,.str "__class__" tk],[]⟩) R ⟨h,g,d,t,os⟩ :=
 codeAny_call_builtin PySem.F.attrBase_ValueError.ga.plain F.entry_bexc_ga (FO X c hx a (TK X c hx a b))
theorem UN(X:K.In h)(c:XIn K C)(hx:h.get? x=some o)(b:o.cls=.ref C)(l:Q (some (.ref C)) ⟨h,g,d,t+1,os⟩) :
  wpAny (model prog w) A (getAttr? (.ref x) "__class__") Q E ⟨h,g,d,t,os⟩:=by
 have m:=PySem.F.attrBase_ValueError.ga.bind (.ref x);have a:(Value.builtin "BaseException.__getattribute__" == Value.builtin "object.__getattribute__")=false:=by decide +kernel
 have f:(onTheHeap (Value.ref C) && Value.builtin "BaseException.__getattribute__" == Value.builtin "object.__getattribute__")=false:=by rw[a];rfl
 have j:=PySem.W.looks_findIn (M:=model prog w) X c.ga;have i:=PySem.W.looks_findIn (M:=model prog w) X c.gn;unfold getAttr? getAttrBy? getAttrBy;repeat (any_goals (first|assumption|(with_reducible refine wpAny_loadPart_at hx ?_;rw[b])|with_reducible refine j.at ?_|with_reducible refine i.at ?_|wp_step))
 refine jP X c hx b ?_;repeat (any_goals (first|assumption|wp_step))
end
theorem pK{K:Frag}{x C:Addr}(c:XIn K C):PySem.W.KitX K (.ref x) (.ref C) (ExAt x C) where
 ty:=λM h _ ⟨o,f,b⟩=>JD f b
 it:=λ_ _ X _=>by
  obtain⟨j,a⟩:=Option.isSome_iff_exists.mp c.cl;unfold PySem.W.clsIn at a;split at a
  ·rename_i c' d' cd' sl' ho
   intro A' m u r k q;unfold isType loadHead;exact u0 (wpAny_loadPart (k _ _ (X _ _ ho)) (I0 q))
  ·cases a
 ne:=λh l dd its n sl X i=>by
  obtain⟨j,a⟩:=Option.isSome_iff_exists.mp c.cl;refine Bool.eq_false_iff.mpr λq=>?_;have e:C=l:=Value.ref.inj (E1.mp q);subst e;unfold PySem.W.clsIn at a;split at a
  ·rename_i c' d' cd' sl' ho
   have z:=(X _ _ ho).symm.trans i;cases z
  ·cases a
 ca:=λ{prog w A E Q s} X p k=>by
  obtain⟨h,g,d,t,os⟩:=s;obtain⟨o,f,b⟩:=p;exact UN X c f b k
def Z5(K:Frag):List V->Hp->VK->Prop:=λxs H Q=>∃(a C:Addr)(y:V)(u:Value)(b:Bool),xs=[.ref a,y]/\((∃ D,y=.ref D/\u=.ref D)\/∃ T,y=.ty T/\u=.type T)/\H a=some (.ext (ExAt a C))/\XIn K C/\kitOne K (.ref C) u=some b/\Q (.bl b) H
theorem t7:l2 X (.builtin "isinstance") (Z5 X.K):=by
 intro pins s σ H xs us Q I r h;obtain⟨a,C,y,u,b,rfl,l,ha,c,e,q⟩:=h;obtain⟨j,f,rfl,i,d⟩:=WA r;cases (show j=Value.ref a from i);have g:f=u:=by
  rcases l with ⟨D,rfl,rfl⟩|⟨T,rfl,rfl⟩
  ·exact d
  ·exact d
 subst g;exact PySem.W.kia_one (pK c) I.kIn (show ExAt a C s.heap from(I.hok a _ ha).1) e (λz=>nomatch z) λtk=>⟨.bl b,H,I.tok _,rfl,q⟩
section
variable{P:Program}{w:World}{K:Frag}{mg:Str->Option Value}{base:Heap}{x:Str}{k:Nat}{ps:List Str}{sp:Sp}
def CanX(P:Program)(w:World)(K:Frag)(mg:Str->Option Value)(base:Heap)(x:Str)(k:Nat)(ps:List Str)(sp:Sp):Prop :=
 ∃ f fd,FnOk P w K mg base (CXE P w base) k f fd ps sp/\mg x=some (.ref f)/\keepIn K (.ref f)=true/\Binds K fd ps []
theorem DefAt.canX{st:Stmt}{f:Addr}{fd:FuncData}(D:DefAt K mg x st ps f fd)(ok:FnOk P w K mg base (CXE P w base) k f fd ps sp):CanX P w K mg base x k ps sp:=⟨f,fd,ok,D.mgx,D.fn.kp,D.bd⟩
theorem Fun.okX{qual:Str}{st:Stmt}{f:Addr}{fd:FuncData}{N:List Str}(F:Fun K x qual st f fd)(S:FnScope N ps (J0 st))(len:∀ vs H Q E,sp vs H Q E->vs.length=ps.length)
  (a:∀(cdv:Value)(A:Around)(outer:List Env)(s:Shared)(H:Hp)(vs:List V)(Q:VK)(E:XK),Room k (A.deeper (envOfC qual (J0 st) s.heap.objs.size f cdv))->sp vs H Q E ->
   ∃ t,PSs (cxOf (CXE P w base) P w K mg base N qual (J0 st) f cdv A outer s H E) (u4 st) t/\t { nx:=λ_ H'=>Q .non H',rt:=Q } (start N vs) H):FnOk P w K mg base (CXE P w base) (k+1) f fd ps sp:=by
 obtain⟨oc,od,kV,doc,pm,an,cdv,ct,osl,rfl,d,c⟩:=F.ex;exact KI d c S len λA outer s H vs Q E g b=>a cdv A outer s H vs Q E g b
variable{N:List Str}{qual:Str}{scope:Scope}{f:Addr}{cd:Value}{A:Around}{outer:List Env}{s0:Shared}{H0:Hp}{E:XK}{j:Nat}{p pos ep np cpos:Pos}{e:Expr}{es:List Expr}{t:TA}
theorem n5(F:CanX P w K mg base x k ps sp)(i:Room j (cxOf (CXE P w base) P w K mg base N qual scope f cd A outer s0 H0 E).A)(ha:PA (cxOf (CXE P w base) P w K mg base N qual scope f cd A outer s0 H0 E) (e::es) t)(g:k<=j:=by decide)
  (l:Gl (cxOf (CXE P w base) P w K mg base N qual scope f cd A outer s0 H0 E) x:=by rfl) (a:(x == ("__debug__" : Str))=false:=by decide)
  (h:starEach (e::es) (cxOf (CXE P w base) P w K mg base N qual scope f cd A outer s0 H0 E).env=(false,eval e (cxOf (CXE P w base) P w K mg base N qual scope f cd A outer s0 H0 E).env)::starEach es (cxOf (CXE P w base) P w K mg base N qual scope f cd A outer s0 H0 E).env:=by rfl)
  (b:(backTo pos (starEach es (cxOf (CXE P w base) P w K mg base N qual scope f cd A outer s0 H0 E).env)).any (·.1)=false:=by rfl) :
  PE (cxOf (CXE P w base) P w K mg base N qual scope f cd A outer s0 H0 E) (.Call (.Name x p) (e::es) [] pos) (F3 sp [] E t):=by
 obtain⟨o,fd,m,n,d,c⟩:=F;exact zI m (i.mono g) l n d c .nil PB ha a h b
theorem z6(c:XOk K mg x C)(b:Gl (cxOf (CXE P w base) P w K mg base N qual scope f cd A outer s0 H0 E) x:=by rfl)(a:(x == ("__debug__" : Str))=false:=by decide) :
  PS (cxOf (CXE P w base) P w K mg base N qual scope f cd A outer s0 H0 E) (.Raise (some (.Call (.Name x np) [.Constant (.str m) j ep] [] cpos)) none pos) (λ_ σ H=>M2 (tC (.str m)) tNil σ H λvs d=>vs.length<=sizeLine/\E (.ref C) none d) :=
 GR (W:=λH=>E (.ref C) none H) c b rfl (o0 t0 q0) (λpins σ H s g e args I m w=>PP I m w) a
end
end L2
namespace VL
open PySem PySem.Spec L2
theorem X7(g:Has env i (OE C))(c:XIn K C)(e:kitOne K (.ref C) (.ref D)=some b)(q:Q' (.bool b) env):Ev B (tCB (Z5 K) (M2 (tVar i) (M2 (tC (.ref D)) tNil))) env Q':=λσ G H F Q I k=>by
 obtain⟨v,d,a,rfl,ha,f⟩:=I.has g;exact⟨_,d,a,C,_,_,b,rfl,.inl ⟨D,rfl,rfl⟩,ha,c,e,k _ G H F _ env I (Same.refl _) (.bl _) q⟩
theorem eU(g:Has env i (OE C))(c:XIn K C)(e:kitOne K (.ref C) (.type T)=some b)(q:Q' (.bool b) env):Ev B (tCB (Z5 K) (M2 (tVar i) (M2 (tC (.ty T)) tNil))) env Q':=λσ G H F Q I k=>by
 obtain⟨v,d,a,rfl,ha,f⟩:=I.has g;exact⟨_,d,a,C,_,_,b,rfl,.inr ⟨T,rfl,rfl⟩,ha,c,e,k _ G H F _ env I (Same.refl _) (.bl _) q⟩
end VL
namespace L2
open PySem PySem.Spec PyProof.Rows
theorem HE{K:Frag}{C:Addr}{bmB:List Value}{newId:String}(q:excIn K C bmB newId=true):∃ bm N nm qn bs hdct sn sub ab col dd k0 k1 k2 k3 k5,
  K.lookup C=some (excClassObj nm qn C N bs bm hdct sn sub ab col dd k0 k1 k2 k3 k5 newId)/\PySem.W.tailIn K bmB bm=true/\PySem.W.nsOkIn K N=true/\nsIn K N "__init__" = some none:=by
 unfold excIn at q;split at q
 ·rename_i dd cd sl ho
  split at q
  ·rename_i C' bm k0 k1 k2 k3 n k5 hm hs
   simp only[N4,E1,Bool.not_eq_true'] at q;obtain⟨⟨⟨⟨⟨rfl,rfl⟩,a⟩,f⟩,hok⟩,b⟩:=q;obtain⟨nm,bs,d,ns,qn,hd,sn,sub,ab,col,g⟩:=cd;dsimp only at hm a hok b;subst hm a;have c:sl = #[k0,k1,k2,k3,some (.builtin n),k5]:=by
    obtain⟨l⟩:=sl;simp only at hs;rw[hs]
   subst c;exact⟨bm,ns,nm,qn,bs,hd,sn,sub,ab,col,dd,k0,k1,k2,k3,k5,ho,f,hok,b⟩
  ·cases q
 ·cases q
theorem RT{K:Frag}{mg:Str->Option Value}{x:Str}{C:Addr}(m:mg x=some (.ref C))(q:excIn K C bmV "ValueError.__new__" = true):XOk K mg x C:=λh X=>by
 obtain⟨bm,N,nm,qn,bs,hdct,sn,sub,ab,col,dd,k0,k1,k2,k3,k5,b,c,hok,a⟩:=HE q;exact⟨m,bm,N,nm,qn,bs,hdct,sn,sub,ab,col,dd,k0,k1,k2,k3,k5,_,X _ _ b,.of_isNs (PySem.W.isNs_of_in X hok),PySem.W.nsMap_none_of_in X hok a,PySem.W.tail_of_in X c⟩
theorem F8{K:Frag}{C D:Addr}(q:excIn K C bmV "ValueError.__new__" = true)(m:mroIn K C (.ref D)=some true):XSub K C D:=λh X=>by
 obtain⟨bm,N,nm,qn,bs,hdct,sn,sub,ab,col,dd,k0,k1,k2,k3,k5,a,c,hok,b⟩:=HE q;refine⟨nm,qn,N,bs,bm,hdct,sn,sub,ab,col,dd,k0,k1,k2,k3,k5,_,X _ _ a,?_⟩;unfold mroIn PySem.W.clsIn at m;rw[a] at m;simpa[excClassObj] using m
theorem cl_of{K:Frag}{C:Addr}{bmB:List Value}{newId:String}(q:excIn K C bmB newId=true):(PySem.W.clsIn K C).isSome=true:=by
 obtain⟨bm,N,nm,qn,bs,hdct,sn,sub,ab,col,dd,k0,k1,k2,k3,k5,a,c,hok,b⟩:=HE q;unfold PySem.W.clsIn;rw[a];rfl
structure XCls(K:Frag)(mg:Str->Option Value)(x:Str)(C:Addr):Prop where
 mgx:mg x=some (.ref C)
 exc:excIn K C bmV "ValueError.__new__" = true
 xin:XIn K C
theorem XCls.ok{K:Frag}{mg:Str->Option Value}{x:Str}{C:Addr}(c:XCls K mg x C):XOk K mg x C:=RT c.mgx c.exc
section
variable{P:Program}{w:World}{K:Frag}{mg:Str->Option Value}{base:Heap}{x:Str}{k k2:Nat}{ps:List Str}{sp sp2:Sp}
theorem Can.lift(F:Can P w K mg base x k ps sp)(h:∀ vs H Q E,sp2 vs H Q E->sp vs H Q E):CanX P w K mg base x k ps sp2:=by
 obtain⟨f,fd,F⟩:=F;refine⟨f,fd,⟨λvs H Q E q=>F.ok.len vs H Q E (h _ _ _ _ q),λA outer s H args us vs Q E c b hb a hs=>K8 (F.ok.run A outer s H args us vs Q E c b hb a (h _ _ _ _ hs)) λr d q=>?_⟩,F.mgx,F.kp,F.bd⟩;cases r with
 |error e=>exact False.elim q
 | ok fl =>
  cases fl with
  |ret u=>exact q
  |next=>exact q
  |brk=>exact q
  |cont=>exact q
end
end L2
namespace VL
open PySem PySem.Spec L2
theorem aS(F:Can P w K mg base x k ps (spP K f)):CanX P w K mg base x k ps (spX K λss Q _=>f ss Q) :=
 F.lift λvs H Q E ⟨G,ss,b,i,a,h,c,g,d,_⟩=>⟨G,ss,b,a,h,c,g,d⟩
end VL
namespace L2
open PySem PySem.Spec PyProof.Rows
end L2
namespace VL
open PySem PySem.Spec L2
end VL
namespace Tx
open PySem PySem.StrLaws PySem.Builtin PySem.Builtin.Str
def numL:List Nat->Option Int
 |[c]=>if 48<=c/\c<=57 then some ((c:Int)-48) else none
 |[c,d]=>if 49<=c/\c<=57/\48<=d/\d<=57 then some (10 * ((c:Int)-48)+((d:Int)-48)) else none
 |_=>none
def numV(w:Str):Option Int:=numL w.cps.toList
theorem wP:(List.range 100).all (λ(i:Nat)=>numL (nS i).cps.toList == some (i:Int))=true:=by decide +kernel
theorem BT(b:0<=i)(c:i<100):numL (nS i).cps.toList=some i:=by
 have a:=R3.mp wP i.toNat (X2.mpr (by lia))
 rw[show((i.toNat:Nat):Int)=i by lia] at a;exact eq_of_beq a
theorem UB(h:numL cs=some i):(∃ c,cs=[c]/\48<=c/\c<=57/\i=(c:Int)-48)\/(∃ c d,cs=[c,d]/\49<=c/\c<=57/\48<=d/\d<=57/\i=10 * ((c:Int)-48)+((d:Int)-48)):=by
 unfold numL at h;split at h
 ·split at h
  ·cases h;exact .inl ⟨_,rfl,by lia,by lia,rfl⟩
  ·cases h
 ·split at h
  ·cases h;exact .inr ⟨_,_,rfl,by lia,by lia,by lia,by lia,rfl⟩
  ·cases h
 ·cases h
theorem fT(h:numL cs=some i)(g:numL ds=some i):cs=ds:=by
 rcases UB h with ⟨c,rfl,f,b,e⟩|⟨c,d,rfl,f,b,n,q,e⟩ <;> rcases UB g with ⟨a,rfl,j,m,l⟩|⟨a,d',rfl,j,m,p,o,l⟩
 ·rw[show c=a by lia]
 ·lia
 ·lia
 ·rw[show c=a by lia,show d=d' by lia]
theorem w8(h:numV w=some i):0<=i/\i<100:=by
 rcases UB h with ⟨c,_,a,b,e⟩|⟨c,d,_,a,b,f,g,e⟩ <;> lia
theorem jK{x y:Str}(h:x.cps.toList=y.cps.toList):x=y:=by
 cases x;cases y;congr 1;exact Array.toList_inj.mp h
theorem sQ(h:numV w=some i):w=nS i:=by
 have a:=w8 h;exact jK (fT h (BT a.1 a.2))
def figC(c:Nat):Bool:=decide (48<=c/\c<=57)
theorem vR:figs.cps.toList=[48,49,50,51,52,53,54,55,56,57]:=by decide +kernel
theorem cL(c:Nat):c∈figs.cps.toList ↔ 48<=c/\c<=57:=by
 rw[vR];simp only[V0,y7,or_false];omega
theorem SR(c:Nat):(!(Builtin.Str.occurrences figs ⟨#[c]⟩ 0 figs.length 1).isEmpty)=figC c:=by
 rw[found_one];unfold figC;exact decide_eq_decide.mpr (cL c)
theorem CQ(w:Str):numV w=if (w.length=1\/w.length=2)/\w.cps.toList.all figC=true/\¬ (w.length=2/\w.cps.toList.head?=some 48) then numV w else none:=by
 split
 ·rfl
 ·rename_i hn
  cases e:numV w with
  |none=>rfl
  | some i =>
   refine absurd ?_ hn;have g:w.length=w.cps.toList.length:=rfl;rcases UB e with ⟨c,b,a,f,_⟩|⟨c,d,b,a,f,h,j,_⟩
   ·rw[g,b];refine⟨.inl rfl,?_,λz=>by simp at z⟩;simp[figC,a,f]
   ·rw[g,b];refine⟨.inr rfl,?_,λz=>by simp at z;lia⟩;simp[figC,a,f,h,j];lia
theorem pP(b:w.length=1\/w.length=2)(a:w.cps.toList.all figC=true)(f:¬ (w.length=2/\w.cps.toList.head?=some 48)):∃ i,numV w=some i:=by
 unfold numV;have g:w.length=w.cps.toList.length:=rfl;rw[g] at b f;revert b a f;generalize w.cps.toList=cs;intro b a f
 match cs,b with
 | [c],_ =>
  simp[figC] at a;exact⟨_,z0 a⟩
 | [c,d],_ =>
  simp[figC] at a f;exact⟨_,z0 ⟨by lia,by lia,a.2⟩⟩
 |[],h=>simp at h
 |_::_::_::_,h=>simp at h
end Tx
namespace HT
open PySem PySem.Spec PySem.Calls PyProof.Rows PySem.W
theorem unpack_star(v:s.heap.IsList l a)(hh:A.handled=none)(hi:i<=a.size)(D:a.size<=sizeLine)
  (h:∀ h' tk,Heap.ExtBut s.heap.objs.size s.heap h'->Q (a.toList.take i++[.ref h'.objs.size]) { s with heap:=h'.push { cls:=.type "list",data:=.seq (a.toList.drop i).toArray },toks:=tk }):wpAny (model prog w) A (unpackItems (.ref l) (i+1) (some i)) Q E s:=by
 have r:l ≠ s.heap.objs.size:=by obtain⟨o,C,_⟩:=v;exact U1 (M0 C)
 unfold unpackItems;refine u0 ?_;unfold notIterableAtAll;refine u0 (wpAny_specialOf v.typeIs slot_list_iter.lookup ?_);refine I0 ?_;simp only[Bool.false_eq_true,if_false];refine u0 (U3 (U8 v ?_));refine u0 (U3 (kun_draw r i 0 _ _ ⟨_,m3 _ rfl,rfl,rfl⟩ (v.push _) (by lia) λq c f=>?_));have g:q.IsList l a:=(v.push _).extBut f.extBut r;rw[Nat.zero_add] at c;have m:=c;obtain⟨I,y,_⟩:=m;have n:=g;obtain⟨H,B,_⟩:=n;rw[List.drop_zero];have x:(a.toList.take i).length=i:=by rw[W7,jA];lia
 rw[y0 (show ¬ ((a.toList.take i).length<i) by rw[x];lia)];refine u0 (U3 (kun_collect (s:={ s with heap:=q }) (T:="list_iterator") (.inr (.inr (.inl rfl))) (Walks.list (A:=A.in1) hh s.heap.objs.size l r a) (λj u st=>st.1.typeIs) (k:=i) (by lia) ⟨c,g⟩ (M0 y) (M0 B) (λp tk G=>?_) D));have z:(a.toList.drop i).length=a.size-i:=by rw[List.length_drop,jA]
 have t:(a.toList.drop i).length-(i+1-1-i)=(a.toList.drop i).length:=by lia
 show wpAny _ _ (if (a.toList.drop i).length<i+1-1-i then _ else _) _ _ _;rw[y0 (by lia)];show wpAny _ _ (newList ((a.toList.drop i).take ((a.toList.drop i).length-(i+1-1-i))) >>= λd=>pure (a.toList.take i++[d]++(a.toList.drop i).drop ((a.toList.drop i).length-(i+1-1-i)))) _ _ _;rw[t,v8,List.drop_length];have F:Heap.ExtBut s.heap.objs.size s.heap p:=λb o hb e=>G b o hb (f.extBut b o hb (S1 _ e));refine u0 (wpAny_newList ?_ (by rw[z];lia));refine I0 ?_;rw[z5];exact h p tk F
end HT
namespace L2
open PySem PySem.Spec PyProof.Rows
def bF(K:Frag)(g1 g2:TG):TG:=λv σ H Q=>∃ a x xs,v=.ref a/\SqL K H a (x::xs)/\∀ p,H p=none->g1 x σ (upd H p (.lst xs)) λσ1 H1=>g2 (.ref p) σ1 H1 Q
theorem nH(y:X.calm=true)(C:PG X d m)(q:PG X c n)
  (hn:(assignEach [d,.Starred c sp] X.env).length=1+1:=by rfl) (j:(assignEach [d,.Starred c sp] X.env).findIdx? (·.1)=some 1:=by rfl) (hm:(assignEach [d,.Starred c sp] X.env).map (·.2)=[assign d X.env,assign c X.env]:=by rfl) :
  PG X (.Tuple [d,.Starred c sp] k pos) (bF X.K m n):=by
 intro pins s σ H v u Q I r g;obtain⟨a,x,xs,t,z,g⟩:=g;subst t;cases r;obtain⟨its,G,D,B⟩:=I.list z;cases G with
 | @cons _ v0 _ vr r0 rr =>
  rw[assign_Tuple];refine u0 (wpAny_standAt ?_);unfold unpack;rw[hn,j,hm];have J:=rr.length;have f:(v0::vr).length<=sizeLine:=by simp at B ⊢;lia
  refine u0 (U3 (HT.unpack_star D.isList (I.ok.hd y) (by simp) (by simpa using f) λh' tk hx=>?_));have l:Inv X pins σ H { s with heap:=h',toks:=tk }:=I.kept (t':=tk) λb o e=>hx b o (U1 (M0 e)) e;have hf:H h'.objs.size=none:=l.hok.fresh (Q0 _);have L:=l.laid (t':=tk) (o:=.lst xs) (h':=h'.push { cls:=.type "list",data:=.seq vr.toArray }) (λb u e=>S1 _ e) (Q0 h'.objs.size) ⟨by simp at f;lia,vr,0,rr,m3 _ rfl⟩;show wpAny _ _ (assignInOrder [assign d X.env,assign c X.env] [v0,.ref h'.objs.size]) _ _ _;refine assignInOrder_cons (thn (C pins _ σ _ _ _ _ L r0 (g _ hf)) λ_ s1 ⟨h,F,A,p⟩=>?_);refine assignInOrder_cons (thn (q pins s1 h F _ _ _ A (show RelV (.ref h'.objs.size) (.ref h'.objs.size) from rfl) p) λ_ s2 ⟨i,H2,w,E⟩=>?_);exact assignInOrder_nil ⟨i,H2,w,E⟩
end L2
namespace VL
open PySem PySem.Spec L2
theorem DH(h:EvG B c (.own (OL ds)) (env.set i (some (.st d))) QE):EvG B (bF K (Z2 i) c) (.st (.list (d::ds))) env QE:=λσ G H F v Fv Q I x k=>by
 obtain⟨r,_⟩:=x.ok;cases r with
 | lst ha rs =>
  cases rs with
  | cons r0 rr =>
   refine⟨_,_,_,rfl,SqL.of (I.gh _ _ ha),λp g=>?_⟩;have o:=Out.newL I.gh g rr;have l:=(I.out o).1;have b:=(I.out o).2;have f:=l.store (R5 r0) i;refine h _ _ _ _ _ _ _ f ⟨b.ok,b.fb,b.fg,b.fo,λj a z y=>?_⟩ k;by_cases hj:j=i
   ·subst hj;exact(putF_same.mp y).elim
   ·rw[S3 hj] at y;exact b.fd j a z y
end VL
namespace L2
open PySem PySem.Spec PyProof.Rows
end L2
namespace VL
open PySem PySem.Spec L2
end VL
namespace L2
open PySem PySem.Spec PyProof.Rows
end L2
namespace VL
open PySem PySem.Spec L2
end VL
namespace L2
open PySem PySem.Spec PyProof.Rows
def WI(K:Frag):List V->Hp->VK->Prop:=λxs H Q=>∃ p ys,xs=[.ref p]/\SqL K H p ys/\∀ l,H l=none->Q (.ref l) (upd H l (.tup ys))
theorem sF:l2 X (.type "tuple") (WI X.K):=by
 intro pins s σ H xs us Q I r h;obtain⟨p,ys,e,hs,q⟩:=h;exact iL pins s σ H xs us Q I r ⟨p,ys,e,.inl ⟨hs,q⟩⟩
end L2
namespace VL
open PySem PySem.Spec L2
theorem NG(h:R (.st (.tuple ds))):OpA (WI K) [.list ds] R:=λG H vs Q gh rs k=>by
 cases rs with
 | cons r t =>
  cases t;cases r with
  | lst ha ra =>
   refine⟨_,_,rfl,SqL.of (gh _ _ ha),λp a=>?_⟩;exact k _ _ _ _ _ (Out.newT gh a ra) h
structure Sm(b k:Nat)(d:PyData):Prop where
 lay:d.canLay0=true
 sh:d.showable=true/\d.shown.length<=b
 dp:d.depth<=k
end VL
namespace L2
open PySem PySem.Spec PyProof.Rows
def isB(k:Bool):Value->Bool
 | .bool a=>a == k
 |_=>false
theorem SD:∀{bs:List Bool}{us:List Value},Vals (bs.map V.bl) us->us=bs.map Value.bool
 |[],_,.nil=>rfl
 | b::bs,_,.cons r t=>by
  rw[P0,← SD t,show _=Value.bool b from r]
def WD:V->List V->Hp->VK->Prop:=λx vs H Q=>∃(l:Addr)(bs:List Bool)(k:Bool)(j:Nat),x=.ref l/\vs=[.bl k]/\H l=some (.lst (bs.map V.bl))/\bs[j]?=some k/\(∀ m,m<j->bs[m]? ≠ some k)/\Q (.int j) H
theorem OK:MtM X "list.index" WD:=by
 intro pins s σ H x vs v us Q I i w h;obtain⟨l,bs,k,j,rfl,rfl,p,g,d,q⟩:=h;cases i;obtain⟨u,rfl,A⟩:=w.one;cases (show u=Value.bool k from A);obtain⟨z,its,n,r,t,e⟩:=I.lstM p;have hi:=SD r;subst hi;rw[N1] at t z;obtain⟨o,a⟩:=R1.mp g;have C:sizeLine<2 ^ 62:=by decide
 refine call_meets F.slot_list_index ⟨_,e,rfl⟩ F.entry_list_index (F.args_list_index_2 _ _)
  (SeqAt.list_indexAt l (bs.map Value.bool).toArray n none #[] (.bool k) (isB k) j (by simp;lia) (by lia) ?_ (λm hm c=>?_)) ⟨e,λy B=>?_,?_⟩
 ·rw[VB,List.getElem_map];simp[isB,a]
 ·have f:m<bs.length:=by lia
  rw[VB,List.getElem_map];have:=d m c;rw[z1 f] at this;simp only[isB,beq_eq_false_iff_ne,ne_eq];exact λe=>this (by rw[e])
 ·obtain⟨b,_,rfl⟩:=T1.mp (List.mem_toArray.mp B);exact SeqAt.EqAt.bool_bool b k
 ·exact⟨.int j,H,I.tok _,⟨_,rfl⟩,q⟩
def eE:V->List V->Hp->VK->Prop:=λx vs H Q=>∃(l:Addr)(bs:List Bool)(k:Bool),x=.ref l/\vs=[.bl k]/\H l=some (.lst (bs.map V.bl))/\Q (.int (bs.count k:Nat)) H
theorem YQ:MtM X "list.count" eE:=by
 intro pins s σ H x vs v us Q I a f h;obtain⟨l,bs,k,rfl,rfl,c,q⟩:=h;cases a;obtain⟨u,rfl,g⟩:=f.one;cases (show u=Value.bool k from g);obtain⟨z,its,n,r,j,e⟩:=I.lstM c;have hi:=SD r;subst hi
 refine call_meets F.slot_list_count ⟨_,e,rfl⟩ F.entry_list_count (F.args_list_count_2 _ _)
  (SeqAt.list_countAt l (bs.map Value.bool).toArray n none #[] (.bool k) (isB k)) ⟨e,λy i=>?_,?_⟩
 ·obtain⟨b,_,rfl⟩:=T1.mp (List.mem_toArray.mp i);exact SeqAt.EqAt.bool_bool b k
 ·have d:((bs.map Value.bool).toArray.toList.countP (isB k):Nat)=bs.count k:=by
   rw[show(bs.map Value.bool).toArray.toList=bs.map Value.bool from rfl,List.countP_map];rfl
  rw[d];exact⟨.int (bs.count k:Nat),H,I.tok _,⟨_,rfl⟩,q⟩
end L2
namespace VL
open PySem PySem.Spec L2
theorem Rps.bls_inv:∀{bs:List Bool}{vs:List V},Rps G vs (bs.map PyData.bool)->vs=bs.map V.bl
 |[],_,.nil=>rfl
 | n::ns,_,.cons r t=>by
  cases r;rw[Rps.bls_inv t];rfl
theorem RO{bs:List Bool}{k:Bool}{j:Nat}(h:Ev B tl env λx c=>x=.list (bs.map .bool)/\bs[j]?=some k/\(∀ m,m<j->bs[m]? ≠ some k)/\Q' (.int j) c):Ev B (tBM K "list" WD tl (M2 (tC (.bl k)) tNil)) env Q':=λσ G H F Q I o =>
 h σ G H F _ I λv n t u d c b r s f=>by
  obtain⟨g,p,l,q⟩:=f;subst g;cases s with
  | @lst a vs _ ha rs =>
   have i:vs=bs.map V.bl:=rs.bls_inv;subst i;exact⟨.inl ⟨rfl,_,SqL.of (b.gh _ _ ha)⟩,a,bs,k,j,rfl,rfl,b.gh _ _ ha,p,l,o _ n t u _ c b r (.int _) q⟩
theorem wO{bs:List Bool}{k:Bool}(h:Ev B tl env λx c=>x=.list (bs.map .bool)/\Q' (.int (bs.count k:Nat)) c):Ev B (tBM K "list" eE tl (M2 (tC (.bl k)) tNil)) env Q':=λσ G H F Q I l =>
 h σ G H F _ I λv j o p d c b m n f=>by
  obtain⟨g,q⟩:=f;subst g;cases n with
  | @lst a vs _ ha rs =>
   have i:vs=bs.map V.bl:=rs.bls_inv;subst i;exact⟨.inl ⟨rfl,_,SqL.of (b.gh _ _ ha)⟩,a,bs,k,rfl,rfl,b.gh _ _ ha,l _ j o p _ c b m (.int _) q⟩
end VL
namespace L2
open PySem PySem.Spec PyProof.Rows
section
variable{P:Program}{w:World}{K:Frag}{mg:Str->Option Value}{base:Heap}{x:Str}{k k2:Nat}{ps:List Str}{sp sp2:Sp}
variable{N:List Str}{qual:Str}{scope:Scope}{f:Addr}{cd:Value}{A:Around}{outer:List Env}{s0:Shared}{H0:Hp}{E:XK}{j:Nat}{p pos:Pos}{e:Expr}{es:List Expr}{t:TA}
theorem YK(F:CanX P w K mg base x k ps sp)(F2:CanX P w K mg base x k2 ps sp2)(i:Room j (cxOf (CXE P w base) P w K mg base N qual scope f cd A outer s0 H0 E).A)(ha:PA (cxOf (CXE P w base) P w K mg base N qual scope f cd A outer s0 H0 E) (e::es) t)(m:k<=j:=by decide)(b:k2<=j:=by decide)
  (n:Gl (cxOf (CXE P w base) P w K mg base N qual scope f cd A outer s0 H0 E) x:=by rfl) (d:(x == ("__debug__" : Str))=false:=by decide)
  (B:starEach (e::es) (cxOf (CXE P w base) P w K mg base N qual scope f cd A outer s0 H0 E).env=(false,eval e (cxOf (CXE P w base) P w K mg base N qual scope f cd A outer s0 H0 E).env)::starEach es (cxOf (CXE P w base) P w K mg base N qual scope f cd A outer s0 H0 E).env:=by rfl)
  (a:(backTo pos (starEach es (cxOf (CXE P w base) P w K mg base N qual scope f cd A outer s0 H0 E).env)).any (·.1)=false:=by rfl) :
  PE (cxOf (CXE P w base) P w K mg base N qual scope f cd A outer s0 H0 E) (.Call (.Name x p) (e::es) [] pos) (F3 (λvs H Q E=>sp vs H Q E\/sp2 vs H Q E) [] E t):=by
 obtain⟨f1,y,G,g,l,z⟩:=F;obtain⟨L,D,v,C,M,o⟩:=F2;have u:=g.symm.trans C;cases u;intro pins s σ H Q I h;refine wpAny_Call_Name_kw (Z7 I n g ?_ d);refine PySem.W.callWith_K (h₀:=base) I.ok.mod.kin l (thn (ha pos pins s σ H _ I h) λus s1 ⟨vs,J,c,r,q⟩=>⟨c.kIn,?_⟩) B a;rcases q with q|q
 ·exact n8 G (i.mono m) z .nil PB c r q
 ·exact n8 v (i.mono b) o .nil PB c r q
end
end L2
namespace VL
open PySem PySem.Spec L2
theorem yN{f:VPX}{g:VP}{t:TA}(n:EvE B E R)(h:EvA B t env λds b=>f (ds.map Sl.st) (λs=>QO s b) R\/g (ds.map Sl.st) (λs=>QO s b)) :
  EvO B (F3 (λvs H Q E=>spX K f vs H Q E\/spX K (λss Q _=>g ss Q) vs H Q E) [] E t) env QO:=λσ G H F Q I k=>by
 unfold F3;simp only[z5];exact h σ G H F _ I λvs j p d ds b a l m c=>by
  rcases c with c|c
  ·exact .inl ⟨j,_,_,R,a.gh,a.ft,ArgsOk.of m,c,λs q v G' H' Fv o=>k v G' H' d Fv s b (a.out o).1 (l.trans o.gg) (a.out o).2 q,λC i G' H' o=>n C i σ G' H' d b (a.out o).1⟩
  ·exact .inr ⟨j,_,_,R,a.gh,a.ft,ArgsOk.of m,c,λs q v G' H' Fv o=>k v G' H' d Fv s b (a.out o).1 (l.trans o.gg) (a.out o).2 q,λC i G' H' o=>n C i σ G' H' d b (a.out o).1⟩
end VL
namespace PopT
open PySem PyProof.Rows
section
variable{prog:Program}{w:World}{K:Type} [DecidableEq K] {knd:HeapKind prog w K} {A:Around} {E:Value->Shared->Prop} {s:Shared}
end
end PopT
namespace L2
open PySem PySem.Spec PySem.W PyProof.Rows
end L2
namespace DNe
open PySem PyProof.Rows
end DNe
namespace L2
open PySem PySem.Spec PySem.W PyProof.Rows
end L2
namespace DNe
open PySem PyProof.Rows
end DNe
namespace L2
open PySem PySem.Spec PySem.W PyProof.Rows
end L2
namespace VL
open PySem PySem.Spec L2
@[reducible] def aez (es:List (Key × PyData)):PyData:=.dict (es.map λp=>(kD p.1,p.2))
theorem NN(h:kD a=kD b):a=b:=by
 cases a <;> cases b <;> simp[kD] at h <;> rw[h]
theorem yF:∀{es fs:List (Key × PyData)},es.map (λp=>(kD p.1,p.2))=fs.map (λp=>(kD p.1,p.2))->es=fs
 |[],[],_=>rfl
 |[],_::_,h=>by simp at h
 |_::_,[],h=>by simp at h
 | (a,x)::es,(b,y)::fs,h=>by
  simp only[P0,List.cons.injEq,Prod.mk.injEq] at h;rw[NN h.1.1,h.1.2,yF h.2]
theorem kI(r:Rp G v (aez es))(b:es ≠ []):∃ a kvs,v=.ref a/\G a=some (.dK kvs)/\RpK G kvs es:=by
 cases r with
 |dk h rk e=>exact⟨_,_,rfl,h,by rw[yF e];exact rk⟩
 | @dt a kvs es' ds h rt e =>
  cases es with
  |nil=>exact absurd rfl b
  | cons p es =>
   cases es' with
   |nil=>simp at e
   | cons q es' =>
    simp only[P0,List.cons.injEq,Prod.mk.injEq] at e;have:=e.1.1;obtain⟨k,x⟩:=p;cases k <;> simp[kD] at this
theorem S6(h:Ev B g env λx l=>Ev B ty l λy b=>∃ es k d,x=aez es/\es ≠ []/\y=kD k/\valD es k=some d/\Q' d b):Ev B (ZC g ty) env Q':=λσ G H F Q I C =>
 h σ G H F _ I λv o A D x l r t z s=>s σ o A D _ r λu E H2 F2 y b j i p m=>by
  obtain⟨es,k,d,ex,c,J,n,q⟩:=m;subst ex J;obtain⟨a,kvs,rfl,ha,K⟩:=kI (z.same i) c;obtain⟨w,L,f⟩:=(RpK.val K).2 d n;have:=UC p;subst this;exact⟨a,w,rfl,.inl ⟨kvs,k,.inl (j.gh _ _ ha),rfl,L.symm⟩,C _ E H2 F2 _ b j (t.trans i) f q⟩
theorem oF(h:Ev B ty env λy p=>Ev B l p λx c=>∃ es k,x=aez es/\es ≠ []/\y=kD k/\Q' (.bool (!(valD es k).isSome)) c):Ev B (VC ty l) env Q':=λσ G H F Q I j =>
 h σ G H F _ I λv s D E y p z i C A=>A σ s D E _ z λu m H2 F2 x c g o t r=>by
  obtain⟨es,k,ex,f,J,q⟩:=r;subst ex J;obtain⟨a,kvs,rfl,ha,n⟩:=kI t f;have:=UC C;subst this;have b:=g.gh _ _ ha;cases hv:valD es k with
  | none =>
   rw[hv] at q;exact⟨a,none,rfl,.inl ⟨kvs,k,.inl b,rfl,((RpK.val n).1 hv).symm⟩,j _ m H2 F2 _ c g (i.trans o) (.bl _) q⟩
  | some d =>
   rw[hv] at q;obtain⟨w,L,K⟩:=(RpK.val n).2 d hv;exact⟨a,some w,rfl,.inl ⟨kvs,k,.inl b,rfl,L.symm⟩,j _ m H2 F2 _ c g (i.trans o) (.bl _) q⟩
theorem NI(h:Ev B j env λd u=>EvO B r u λs i=>∃ ds,s=.own (OL ds)/\QO (.own (OW d ds)) i):EvO B (tTup (M2 j (M2 r tNil))) env QO:=λσ G H F Q I k =>
 h σ G H F _ I λv A M N d u D E K C=>C σ A M N _ D λw n H2 F2 Fv s i f t x y=>by
  obtain⟨ds,es,q⟩:=y;subst es;obtain⟨l,vs,rfl,g,rs,hf⟩:=x.ok;refine⟨show(2:Nat)<=sizeLine by rw[sizeLine_eq];decide,λp c=>?_⟩;have pl:p ≠ l:=(z3 g c).symm;have J:VI B n (upd H2 p (.tup [v,.ref l])) σ i F2:=f.grow (Same.refl _) (f.gh.trans (p6 c)) (p6 c) (λa o e=>.inl e) λa L e=>by
   by_cases z:a=p
   ·subst z;rw[S0] at e;exact absurd (W3 e) US
   ·rw[G0 z] at e;exact f.ft a L e
  refine k _ n _ _ (λa=>a=p\/a=l) (.own (OW d ds)) _ J (E.trans t) ⟨⟨p,l,v,vs,rfl,S0,K.same t,by rw[G0 pl.symm];exact g,rs,λb=>Iff.rfl⟩,λa z=>?_,λa z=>?_,λa z=>?_,λm a z=>?_⟩ q
  ·rcases z with rfl|rfl
   ·exact f.no_b c
   ·exact x.fb a ((hf a).mpr rfl)
  ·rcases z with rfl|rfl
   ·exact f.no_g c
   ·exact x.fg a ((hf a).mpr rfl)
  ·rcases z with rfl|rfl
   ·exact⟨_,S0⟩
   ·exact⟨_,by rw[G0 pl.symm];exact g⟩
  ·rcases z with rfl|rfl
   ·exact f.no_f c m
   ·exact x.fd m a ((hf a).mpr rfl)
inductive RpF(G:Hp):List (Str × V)->List (Str × PyData)->Prop
 |nil:RpF G [] []
 |cons {x:Str} {u:V} {d:PyData} {us:List (Str × V)} {fs:List (Str × PyData)}:Rp G u d->RpF G us fs->RpF G ((x,u)::us) ((x,d)::fs)
def putP(x:Str)(d:PyData):List (Str × PyData)->List (Str × PyData)
 |[]=>[(x,d)]
 |(y,e)::fs=>if y=x then (y,d)::fs else (y,e)::putP x d fs
theorem RpF.same(h:RpF G us fs)(g:Same G G'):RpF G' us fs:=by
 induction h with
 |nil=>exact .nil
 |cons r _ ih=>exact .cons (r.same g) ih
theorem RpF.get(h:RpF G us fs)(e:fs.lookup x=some d):∃ u,us.lookup x=some u/\Rp G u d:=by
 induction h with
 |nil=>cases e
 | @cons y u d' us fs r _ ih =>
  rw[S4] at e ⊢;cases hx:x == y with
  |true=>rw[hx] at e;cases e;exact⟨u,rfl,r⟩
  |false=>rw[hx] at e;exact ih e
def OI(C:Addr)(fs:List (Str × PyData)):Own where
 P:=λG H v F=>∃ a dx us,v=.ref a/\H a=some (.ins C dx us)/\H dx=some (.own a)/\RpF G us fs/\∀ b,F b ↔ b=a\/b=dx
 mono:=λ⟨a,dx,us,e,h1,h2,r,f⟩ g hh=>⟨a,dx,us,e,hh a _ ((f a).mpr (.inl rfl)) h1,hh dx _ ((f dx).mpr (.inr rfl)) h2,r.same g,f⟩
 dom:=λ⟨a,dx,us,e,h1,h2,r,f⟩ b z=>by
  rcases(f b).mp z with rfl|rfl
  ·exact⟨_,h1⟩
  ·exact⟨_,h2⟩
theorem UH(N:B.K=K)(h:EvA B t env λds i=>f (OI C []) (ds.map Sl.st) λA' s=>s=.st .none/\QO (.own A') i):EvO B (LD C (spI K f) [] E t) env QO:=λσ G H F Q I k =>
 h σ G H F _ I λvs n d M ds i g u D A=>by
  intro x dx nx c m;simp only[z5];have hs:Same d (upd (upd d dx (.own x)) x (.ins C dx [])):=λa o e=>by rw[G0 (z3 e nx),G0 (z3 e c)];exact e
  have l:FT n (upd (upd d dx (.own x)) x (.ins C dx [])):=λa L e=>by
   by_cases z:a=x
   ·subst z;rw[S0] at e;cases e
   ·rw[G0 z] at e;by_cases z2:a=dx
    ·subst z2;rw[S0] at e;cases e
    ·rw[G0 z2] at e;exact g.ft a L e
  refine⟨.ref x,vs,n,d,OI C [],_,λb=>b=x\/b=dx,_,rfl,g.gh.trans hs,l,hs,⟨x,dx,[],rfl,S0,by rw[G0 m,S0],.nil,λb=>Iff.rfl⟩,λa z=>?_,λa z=>?_,ArgsOk.of D,A,λA' s ⟨es,q⟩ v G' H' F' Fv o=>?_⟩
  ·rcases z with rfl|rfl
   ·exact g.no_g nx
   ·exact g.no_g c
  ·rcases z with rfl|rfl
   ·exact nx
   ·exact c
  ·subst es;have p:v=.non:=by
    obtain⟨r,_⟩:=o.ok;cases r;rfl
   have hh:Same d H':=o.rs;have J:=g.grow o.gg o.gh hh (λa w e=>by
    rcases o.gn a w e with z|z
    ·exact .inl z
    ·refine .inr ?_;cases i:d a with
     |none=>rfl
     |some w1=>rw[hs a w1 i] at z;cases z) o.ft
   have hn:∀ a,F' a->d a=none:=λa z=>by
    rcases o.fi a z with y|y
    ·rcases y with rfl|rfl
     ·exact nx
     ·exact c
    ·cases i:d a with
     |none=>rfl
     |some w1=>rw[hs a w1 i] at y;cases y
   exact⟨p,k (.ref x) G' H' M F' (.own A') i J (u.trans o.gg) ⟨o.ap,λa z=>g.no_b (hn a z),λa z=>o.fg a z,λa z=>A'.dom o.ap a z,λj a z=>g.no_f (hn a z) j⟩ q⟩
theorem m6{x:Str}{d:PyData}:List.lookup x [(x,d)]=some d:=by rw[S4,beq_self_eq_true]
end VL
namespace L2
open PySem PySem.Spec
structure ObAt(K:Frag)(mg:Str->Option Value)(x:Str)(C:Addr):Prop where
 mgx:mg x=some (.ref C)
 cl:Cls K C
 mks:PySem.W.makesIn K C=true
 kp:keepIn K (.ref C)=true
structure MeAt(K:Frag)(C:Addr)(m qn:Str)(st:Stmt)(ps:List Str)(f:Addr)(fd:FuncData):Prop where
 fn:Fun K m qn st f fd
 me:Meth K C m f
 bd:Binds K fd ps []
structure MeOk(P:Program)(w:World)(K:Frag)(mg:Str->Option Value)(base:Heap)(C:Addr)(m:Str)(k:Nat)(ps:List Str)(sp:Sp)(f:Addr)(fd:FuncData):Prop where
 me:Meth K C m f
 ok:FnOk P w K mg base CX0 k f fd ps sp
 bd:Binds K fd ps []
def CanM(P:Program)(w:World)(K:Frag)(mg:Str->Option Value)(base:Heap)(C:Addr)(m:Str)(k:Nat)(ps:List Str)(sp:Sp):Prop:=∃ f fd,MeOk P w K mg base C m k ps sp f fd
theorem MeAt.can(D:MeAt K C m qn st ps f fd)(ok:FnOk P w K mg base CX0 k f fd ps sp):CanM P w K mg base C m k ps sp:=⟨f,fd,D.me,ok,D.bd⟩
theorem J8(F:CanM X.prog X.w X.K X.mg X.base C m k ps sp)(c:Cls X.K C)(i:Room j X.A)(h:PE X o ta)(ha:PA X (e::es) t)(g:k<=j:=by decide)
  (b:starEach (e::es) X.env=(false,eval e X.env)::starEach es X.env:=by rfl) (a:(backTo pos (starEach es X.env)).any (·.1)=false:=by rfl)
  (d:eval (.Call (.Attribute o m apos) (e::es) [] pos) X.env=(do
   let ov ← eval o X.env
   standAt apos.atName
   let (f,first) ← holding [ov] (getMethod ov m pl)
   callWith pos f first (backTo pos (starEach (e::es) X.env)) (backToKw pos (keywordEach [] X.env))):=by rfl) :
  PE X (.Call (.Attribute o m apos) (e::es) [] pos) (L7 C m sp [] E0 ta t):=by
 obtain⟨f,fd,M⟩:=F;exact jS h c M.me M.ok (i.mono g) M.bd .nil O9 ha b a d
theorem dF(F:CanM X.prog X.w X.K X.mg X.base C m k ps sp)(c:Cls X.K C)(g:Room j X.A)(d:PE X o ta)(b:k<=j:=by decide)
  (a:eval (.Call (.Attribute o m apos) [] [] pos) X.env=(do
   let ov ← eval o X.env
   standAt apos.atName
   let (f,first) ← holding [ov] (getMethod ov m pl)
   callWith pos f first (backTo pos (starEach [] X.env)) (backToKw pos (keywordEach [] X.env))):=by rfl) :
  PE X (.Call (.Attribute o m apos) [] [] pos) (L7 C m sp [] E0 ta tNil):=by
 obtain⟨f,fd,M⟩:=F;exact FS d c M.me M.ok (g.mono b) M.bd .nil O9 a
end L2
namespace L2
open PySem PySem.Spec PyProof.Rows
def GD(P:Program)(w:World)(K:Frag)(a:Addr)(kvs:List (Key × V)):Prop:=(a == sysModules)=false/\∀ h:Heap,K.In h->∃ vs,KV kvs vs/\h.DictOf (J4 P w) a vs
def gG(kvs:List (Key × V))(ty:TE):TE:=λσ H Q=>ty σ H λy H1=>∃ k,y=kV k/\Q ((valV kvs k).getD .non) H1
def tGIx(kvs:List (Key × V))(ty:TE):TE:=λσ H Q=>ty σ H λy H1=>∃ k v,y=kV k/\valV kvs k=some v/\Q v H1
theorem WQ(g:GD X.prog X.w X.K a kvs)(hm:X.mg x=some (.ref a))(p:PE X e ty)(m:M1 X (.Name x npos) "get" apos e cpos)(j:Gl X x:=by rfl)(f:(x == ("__debug__" : Str))=false:=by decide):PE X (.Call (.Attribute (.Name x npos) "get" apos) [e] [] cpos) (gG kvs ty):=by
 intro pins s σ H Q I h;refine wpAny_Call_method m.base m.few m.line PySem.F.plainAttrs_dict PySem.F.slot_dict_get PySem.F.type_dict_get (Z7 I j hm ?_ f);obtain⟨vs,u,dd⟩:=g.2 _ I.kIn;refine⟨dd.typeIs,λb q=>(by cases q;obtain⟨r,_,_,n,l,_⟩:=id dd;exact⟨r,n,l.2.1⟩),?_⟩;rw[m.trees];refine Calls.callWith_builtin rfl (Calls.evalArgs_plain (Calls.spliced_cons (thn (p pins s σ H _ I h) λA s2 ⟨y,H2,i,z,k,v,o⟩=>Calls.spliced_nil ?_)));subst v;obtain⟨t,c,d⟩:=g.2 _ i.kIn;exact call_meetsIn PySem.F.slot_dict_get d.typeIs PySem.F.entry_dict_get (PySem.F.args_dict_get_2 _ _) (meets_dict_get (J4 X.prog X.w) a (t9 z) g.1) ⟨_,d.mapOf,⟨(valV kvs k).getD .non,H2,i.tok _,(c.val k).getD (show RelV .non Value.none from rfl),o⟩⟩
theorem QF(g:GD X.prog X.w X.K a kvs)(hm:X.mg x=some (.ref a))(hi:PE X e ty)(hs:NoSl e)(m:Gl X x:=by rfl)(d:(x == ("__debug__" : Str))=false:=by decide):PE X (.Subscript (.Name x npos) e pos) (tGIx kvs ty):=by
 intro pins s σ H Q I h;refine uF PySem.F.slot_dict_getitem.lookup hs (Z7 I m hm (thn (hi pins s σ H _ I h) λu s2 ⟨y,H2,j,q,k,v,p,l,n⟩=>?_) d);subst p;obtain⟨f,b,c⟩:=g.2 _ j.kIn;obtain⟨t,r,i⟩:=RelO.some_of (v:=v) (o:=valueAt f k) (by rw[← l];exact b.val k);exact⟨c.typeIs,wpAny_getItem_of (t9 q) c.mapOf r ⟨v,H2,j.tok _,i,n⟩⟩
def sC(cs:Addr->Sp->Prop)(i:Nat)(E:XK)(t:TA):TE:=λσ H Q=>tVar i σ H λy H1=>∃ f sp,y=.ref f/\cs f sp/\t σ H1 λvs H2=>sp vs H2 Q E
section
variable{P:Program}{w:World}{K:Frag}{mg:Str->Option Value}{base:Heap}{x:Str}{k:Nat}{ps:List Str}{cs:Addr->Sp->Prop}{i:Nat}{pos:Pos}{es:List Expr}{e:Expr}{t:TA}
variable{N:List Str}{qual:Str}{scope:Scope}{f:Addr}{cd:Value}{A:Around}{outer:List Env}{s0:Shared}{H0:Hp}{E:XK}{j:Nat}{p:Pos}
theorem gO(F:∀ g sp,cs g sp->∃ fd k ps,k<=j/\FnOk P w K mg base (CXE P w base) k g fd ps sp/\keepIn K (.ref g)=true/\Binds K fd ps [])
  (c:PE (cxOf (CXE P w base) P w K mg base N qual scope f cd A outer s0 H0 E) (.Name x p) (tVar i)) (z:Room j (cxOf (CXE P w base) P w K mg base N qual scope f cd A outer s0 H0 E).A) (ha:PA (cxOf (CXE P w base) P w K mg base N qual scope f cd A outer s0 H0 E) (e::es) t)
  (m:starEach (e::es) (cxOf (CXE P w base) P w K mg base N qual scope f cd A outer s0 H0 E).env=(false,eval e (cxOf (CXE P w base) P w K mg base N qual scope f cd A outer s0 H0 E).env)::starEach es (cxOf (CXE P w base) P w K mg base N qual scope f cd A outer s0 H0 E).env:=by rfl)
  (a:(backTo pos (starEach es (cxOf (CXE P w base) P w K mg base N qual scope f cd A outer s0 H0 E).env)).any (·.1)=false:=by rfl) :
  PE (cxOf (CXE P w base) P w K mg base N qual scope f cd A outer s0 H0 E) (.Call (.Name x p) (e::es) [] pos) (sC cs i E t):=by
 intro pins s σ H Q I h;refine wpAny_Call_Name_kw (thn (c pins s σ H _ I h) λu s1 ⟨y,n,l,B,g,sp,v,d,q⟩=>?_);subst v;obtain rfl:u=Value.ref g:=B;obtain⟨fd,k,ps,o,ok,kp,bd⟩:=F g sp d;refine PySem.W.callWith_K (h₀:=base) I.ok.mod.kin kp (thn (ha pos pins s1 σ n _ l q) λus s2 ⟨vs,H2,b,r,q⟩=>⟨b.kIn,?_⟩) m a;exact n8 ok (z.mono o) bd .nil PB b r (by simpa using q)
end
inductive EntOk(w:World):List DictEntry->List (Key × V)->Prop
 |nil:EntOk w [] []
 |cons {h:Int} {tk:Tok} {x:Str} {v:V} {u:Value} {es:List DictEntry} {kvs:List (Key × V)}:h=hashStr w x->RelV v u->EntOk w es kvs->EntOk w (⟨h,.str x tk,u⟩::es) ((.inr x,v)::kvs)
theorem EntOk.keys:∀{es:List DictEntry}{kvs:List (Key × V)},EntOk w es kvs->∀ e∈es,∃ k:Key,M8 k e.key=true/\e.hash=keyH w k
 |_,_,.nil,e,h=>by cases h
 | _,_,.cons (x:=x) (tk:=tk) hh _ t,e,h=>by
  rcases V0.mp h with rfl|h
  ·exact⟨.inr x,CD x tk,hh⟩
  ·exact t.keys e h
theorem EntOk.pairs:∀{es:List DictEntry}{kvs:List (Key × V)},EntOk w es kvs->∃ vs,KV kvs vs/\Pairs (J4 P w) es vs
 |_,_,.nil=>⟨[],.nil,.nil⟩
 | _,_,.cons (x:=x) (tk:=tk) (u:=u) hh r t=>by
  obtain⟨vs,k,p⟩:=t.pairs;exact⟨(.inr x,u)::vs,.cons ⟨rfl,r⟩ k,.cons (CD x tk) rfl p⟩
theorem YE:∀{kvs:List (Key × V)}{vs:List (Key × Value)},KV kvs vs->vs.map (·.1)=kvs.map (·.1)
 |_,_,.nil=>rfl
 |_,_,.cons r t=>by rw[P0,P0,YE t,r.1]
theorem gd_mk{P:Program}{w:World}{K:Frag}{a:Addr}{kvs:List (Key × V)}{es:Array DictEntry}{c:Nat}(l:K.lookup a=some ⟨.type "dict",none,.dict es c,#[]⟩)(hs:(a == sysModules)=false)(e:EntOk w es.toList kvs)(n:(kvs.map (·.1)).Nodup):GD P w K a kvs:=by
 refine⟨hs,λh X=>?_⟩;obtain⟨vs,b,d⟩:=e.pairs (P:=P);exact⟨vs,b,_,es,c,X _ _ l,⟨rfl,rfl,rfl⟩,rfl,λx hx=>e.keys x (by simpa using hx),d,by rw[YE b];exact n⟩
theorem dU(F:∀ g sp,cs g sp->∃ fd k ps,k<=j/\FnOk X.prog X.w X.K X.mg X.base CX0 k g fd ps sp/\keepIn X.K (.ref g)=true/\Binds X.K fd ps [])
  (c:PE X (.Name x p) (tVar i)) (v:Room j X.A) (ha:PA X (e::es) t)
  (l:starEach (e::es) X.env=(false,eval e X.env)::starEach es X.env:=by rfl)
  (a:(backTo pos (starEach es X.env)).any (·.1)=false:=by rfl) :
  PE X (.Call (.Name x p) (e::es) [] pos) (sC cs i E0 t):=by
 intro pins s σ H Q I h;refine wpAny_Call_Name_kw (thn (c pins s σ H _ I h) λu s1 ⟨y,m,f,z,g,sp,o,d,q⟩=>?_);subst o;obtain rfl:u=Value.ref g:=z;obtain⟨fd,k,ps,n,ok,kp,bd⟩:=F g sp d;refine PySem.W.callWith_K (h₀:=X.base) I.ok.mod.kin kp (thn (ha pos pins s1 σ m _ f q) λus s2 ⟨vs,H2,b,r,q⟩=>⟨b.kIn,?_⟩) l a;exact n8 ok (v.mono n) bd .nil O9 b r (by simpa using q)
def BF(K:Frag)(g1 g2 g3:TG):TG:=λv σ H Q=>∃ a x y xs,v=.ref a/\SqL K H a (x::y::xs)/\∀ p,H p=none->g1 x σ (upd H p (.lst xs)) λσ1 H1=>g2 y σ1 H1 λσ2 H2=>g3 (.ref p) σ2 H2 Q
theorem GC{f d c:Expr}{k:Nat}{p t q:TG}{pos sp:Pos}(E:X.calm=true)(M:PG X f p)(A:PG X d t)(w:PG X c q)
  (hn:(assignEach [f,d,.Starred c sp] X.env).length=2+1:=by rfl) (m:(assignEach [f,d,.Starred c sp] X.env).findIdx? (·.1)=some 2:=by rfl) (hm:(assignEach [f,d,.Starred c sp] X.env).map (·.2)=[assign f X.env,assign d X.env,assign c X.env]:=by rfl) :
  PG X (.Tuple [f,d,.Starred c sp] k pos) (BF X.K p t q):=by
 intro pins s σ H v u Q I r h;obtain⟨a,x,y,xs,B,F,h⟩:=h;subst B;cases r;obtain⟨its,R,N,J⟩:=I.list F;cases R with
 | @cons _ v0 _ vr r0 rr =>
  cases rr with
  | @cons _ v1 _ vr r1 rr =>
   rw[assign_Tuple];refine u0 (wpAny_standAt ?_);unfold unpack;rw[hn,m,hm];have S:=rr.length;have g:(v0::v1::vr).length<=sizeLine:=by simp at J ⊢;lia
   refine u0 (U3 (HT.unpack_star N.isList (I.ok.hd E) (by simp) (by simpa using g) λh' tk hx=>?_));have n:Inv X pins σ H { s with heap:=h',toks:=tk }:=I.kept (t':=tk) λb o e=>hx b o (U1 (M0 e)) e;have hf:H h'.objs.size=none:=n.hok.fresh (Q0 _);have T:=n.laid (t':=tk) (o:=.lst xs) (h':=h'.push { cls:=.type "list",data:=.seq vr.toArray }) (λb u e=>S1 _ e) (Q0 h'.objs.size) ⟨by simp at g;lia,vr,0,rr,m3 _ rfl⟩;show wpAny _ _ (assignInOrder [assign f X.env,assign d X.env,assign c X.env] [v0,v1,.ref h'.objs.size]) _ _ _;refine assignInOrder_cons (thn (M pins _ σ _ _ _ _ T r0 (h _ hf)) λ_ s1 ⟨j,P,G,z⟩=>?_);refine assignInOrder_cons (thn (A pins s1 j P _ _ _ G r1 z) λ_ s2 ⟨l,H2,C,O⟩=>?_);refine assignInOrder_cons (thn (w pins s2 l H2 _ _ _ C (show RelV (.ref h'.objs.size) (.ref h'.objs.size) from rfl) O) λ_ U ⟨i,H3,D,L⟩=>?_);exact assignInOrder_nil ⟨i,H3,D,L⟩
theorem WH(F:CanM X.prog X.w X.K X.mg X.base C "__init__" k ps sp)(O:ObAt X.K X.mg x C)(d:Room j X.A)(b:k+1<=j:=by decide)(c:Gl X x:=by rfl)(a:(x == ("__debug__" : Str))=false:=by decide) :
  PE X (.Call (.Name x p) [] [] pos) (LD C sp [] E0 tNil):=by
 obtain⟨f,fd,M⟩:=F;exact AJ ⟨O.mks,M.me.at_,M.me.fn,O.kp⟩ M.ok (d.mono b) c O.mgx M.bd .nil O9 a
end L2
namespace VL
open PySem PySem.Spec L2
def OF(g:Addr):Own where
 P:=λ_ _ v F=>v=.ref g/\∀ b,¬ F b
 mono:=λh _ _=>h
 dom:=λh b z=>absurd z (h.2 b)
def optI:Option Int->PyData
 |some n=>.int n
 |none=>.none
theorem rJ(a:Str->Option Int)(hn:∀ x,valV kvs (.inr x)=(a x).map V.int)(h:Ev B ty env λy b=>∃ x,y=.str x/\Q' (optI (a x)) b):Ev B (gG kvs ty) env Q':=λσ G H F Q I k =>
 h σ G H F _ I λv c g i y b d f l j=>by
  obtain⟨x,m,q⟩:=j;subst m;cases l;refine⟨.inr x,rfl,?_⟩;rw[hn x];cases e:a x with
  |none=>rw[e] at q;exact k _ c g i _ b d f .non q
  |some n=>rw[e] at q;exact k _ c g i _ b d f (.int n) q
theorem K7(h:Ev B ty env λy c=>∃ x g,y=.str x/\valV kvs (.inr x)=some (.ref g)/\QO (.own (OF g)) c):EvO B (tGIx kvs ty) env QO:=λσ G H F Q I k =>
 h σ G H F _ I λv i o p y c l m n d=>by
  obtain⟨x,g,r,f,q⟩:=d;subst r;cases n;exact⟨.inr x,_,rfl,f,k _ i o p (λ_=>False) (.own (OF g)) c l m ⟨⟨rfl,λb z=>z⟩,λa z=>z.elim,λa z=>z.elim,λa z=>z.elim,λj a z=>z.elim⟩ q⟩
theorem nB(l:Has env i (OF g))(r:cs g (spP K q))(h:EvA B t env λds b=>q (ds.map Sl.st) λs=>QO s b):EvO B (sC cs i E t) env QO:=λσ G H F Q I k=>by
 obtain⟨v,c,f,_⟩:=I.has l;subst f;exact⟨_,c,g,_,rfl,r,h σ G H F _ I λvs j u p ds b a m n d=>⟨j,_,_,a.gh,a.ft,ArgsOk.of n,d,λs q v G' H' Fv o=>k v G' H' p Fv s b (a.out o).1 (m.trans o.gg) (a.out o).2 q⟩⟩
theorem cA(u:EvE B E R)(m:Has env i (OF g))(w:cs g (spX K q))(h:EvA B t env λds b=>q (ds.map Sl.st) (λs=>QO s b) R):EvO B (sC cs i E t) env QO:=λσ G H F Q I k=>by
 obtain⟨v,d,j,_⟩:=I.has m;subst j;exact⟨_,d,g,_,rfl,w,h σ G H F _ I λvs l x c ds b a n p f=>⟨l,_,_,R,a.gh,a.ft,ArgsOk.of p,f,λs q v G' H' Fv o=>k v G' H' c Fv s b (a.out o).1 (n.trans o.gg) (a.out o).2 q,λC r G' H' o=>u C r σ G' H' c b (a.out o).1⟩⟩
theorem CC(h:EvG B f (.own (OL ds)) ((env.set i (some (.st d))).set j (some (.st c))) QE):EvG B (BF K (Z2 i) (Z2 j) f) (.st (.list (d::c::ds))) env QE:=λσ G H F v Fv Q I x k=>by
 obtain⟨r,_⟩:=x.ok;cases r with
 | lst ha rs =>
  cases rs with
  | cons r0 rr =>
   cases rr with
   | cons r1 rr =>
    refine⟨_,_,_,_,rfl,SqL.of (I.gh _ _ ha),λp m=>?_⟩;have o:=Out.newL I.gh m rr;have n:=(I.out o).1;have b:=(I.out o).2;have g:=(n.store (R5 r0) i).store (R5 r1) j;refine h _ _ _ _ _ _ _ g ⟨b.ok,b.fb,b.fg,b.fo,λl a z y=>?_⟩ k;by_cases hl:l=j
    ·subst hl;exact(putF_same.mp y).elim
    ·rw[S3 hl] at y;by_cases hl2:l=i
     ·subst hl2;exact(putF_same.mp y).elim
     ·rw[S3 hl2] at y;exact b.fd l a z y
end VL
namespace L2
open PySem PySem.Spec PyProof.Rows
def ED(P:Program)(w:World)(K:Frag)(mg:Str->Option Value)(base:Heap)(C:Addr)(m:Str)(k:Nat)(ps:List Str)(sp:Sp):Prop:=∃ f fd,Meth K C m f/\FnOk P w K mg base (CXE P w base) k f fd ps sp/\Binds K fd ps []
theorem MeAt.canX{P:Program}{w:World}{K:Frag}{mg:Str->Option Value}{base:Heap}{C:Addr}{m qn:Str}{st:Stmt}{k:Nat}{ps:List Str}{sp:Sp}{f:Addr}{fd:FuncData}(D:MeAt K C m qn st ps f fd)(ok:FnOk P w K mg base (CXE P w base) k f fd ps sp):ED P w K mg base C m k ps sp:=⟨f,fd,D.me,ok,D.bd⟩
def iI(C:Addr)(m:Str)(sp:Sp)(ta:TE)(t:TA):XW->TS:=λW D σ H=>ta σ H λx H1=>∃ a dx fs,x=.ref a/\H1 a=some (.ins C dx fs)/\fs.lookup m=none/\t σ H1 λvs H2=>sp (x::vs) H2 (λ_ H3=>D.nx σ H3) (λc _ H3=>W c σ H3)
theorem CT(F:FnOk X.prog X.w X.K X.mg X.base (CXE X.prog X.w X.base) k f fd ps sp)(t:Room k X.A)(hx:X.ex=[])(hb:Binds X.K fd ps [])(a:Inv X pins σ h s1)(r:Vals vs us)(q:sp vs h (λ_ H2=>D.nx σ H2) (λc _ H2=>W c σ H2)) :
  wpAny (model X.prog X.w) X.A (call (.ref f) us) (λ_ i=>SP X pins D .next i) (XP X pins W) s1:=by
 have o:us.length=ps.length:=by rw[← r.length];exact F.len _ _ _ _ q
 refine wpAny_call (K8 (F.run X.A X.stack s1 h ⟨us,[]⟩ us vs _ _ t a.env0 (by have:=hb s1 us a.kIn (by simpa using o);simpa using this) r q) λr i d=>?_);cases r with
 | error e =>
  obtain⟨m,T,C,H',rfl,l,j,un,hok,g,ne,p,s,n,x⟩:=d;exact⟨σ,m,T,C,H',rfl,a.call' l un hok j (λb z=>absurd z (by simp)),g,eG a hx ne,eG a hx p,s,n,x⟩
 | ok g =>
  cases g with
  | ret u =>
   obtain⟨v,H2,J,_,q⟩:=a.after d;exact⟨σ,H2,J,q⟩
  |next=>exact False.elim d
  |brk=>exact False.elim d
  |cont=>exact False.elim d
theorem KK(F:ED X.prog X.w X.K X.mg X.base C m k ps sp)(c:Cls X.K C)(J:Room j X.A)(E:PE X.nox o ta)(ha:PA X.nox (e::es) t)(hx:X.ex=[]:=by rfl)(p:k<=j:=by decide)
  (g:starEach (e::es) X.env=(false,eval e X.env)::starEach es X.env:=by rfl) (d:(backTo pos (starEach es X.env)).any (·.1)=false:=by rfl)
  (n:eval (.Call (.Attribute o m apos) (e::es) [] pos) X.env=(do
   let ov ← eval o X.env
   standAt apos.atName
   let (f,first) ← holding [ov] (getMethod ov m pl)
   callWith pos f first (backTo pos (starEach (e::es) X.env)) (backToKw pos (keywordEach [] X.env))):=by rfl)
  (hs:swapsWith (.Call (.Attribute o m apos) (e::es) [] pos) none ep.line X.env=pure false:=by rfl) :
  PXs X [.Expr (.Call (.Attribute o m apos) (e::es) [] pos) ep] (iI C m sp ta t):=by
 obtain⟨f,fd,hm,ok,hb⟩:=F;intro pins s σ H D W I h;refine wpAny_execs_cons (thn (Q:=SP X pins D) (wpAny_Expr_any (Q:=SP X pins D) ?_ I.quiet hs) λf s1 q=>?_)
 ·refine PySem.W.methodCall_KW (pl:=pl) (Y2 (E pins s σ H _ (I.wish _) h) (λu s1 ⟨x,G,b,B,a,dx,fs,ex,L,l,q⟩=>?_) λ_ _ z=>False.elim z) n;subst ex;obtain rfl:u=Value.ref a:=B;have b:=b.unwish;refine uE b L c hm l ?_;refine PySem.W.callWith_K (first:=[.ref a]) (h₀:=X.base) I.ok.mod.kin hm.kp (Y2 (ha pos pins s1 σ G _ (b.wish _) q) (λus s2 ⟨vs,H2,i,r,y⟩=>⟨i.kIn,?_⟩) λ_ _ z=>False.elim z) g d;exact CT (us:=.ref a::us) (vs:=.ref a::vs) ok (J.mono p) hx hb i.unwish (.cons rfl r) y
 ·cases f with
  |next=>exact wpAny_execs_nil q
  |ret v=>exact q
  |brk=>exact q
  |cont=>exact q
end L2
namespace VL
open PySem PySem.Spec L2
def OIr(C:Addr)(fs:List (Str × PyData)):Own where
 P:=λG _ v F=>∃ a dx us,v=.ref a/\G a=some (.ins C dx us)/\G dx=some (.own a)/\RpF G us fs/\∀ b,¬ F b
 mono:=λ⟨a,dx,us,e,h1,h2,r,f⟩ g _=>⟨a,dx,us,e,g _ _ h1,g _ _ h2,r.same g,f⟩
 dom:=λ⟨a,dx,us,e,h1,h2,r,f⟩ b z=>absurd z (f b)
abbrev VMX:=List (Str × PyData)->List Sl->(Addr->Prop)->Prop
def spM(K:Frag)(C:Addr)(f:VMX):Sp:=λvs H _ E=>∃ a dx us vr G ss fs R',vs=.ref a::vr/\G a=some (.ins C dx us)/\G dx=some (.own a)/\RpF G us fs/\Same G H/\FT G H/\ArgsOk K G vr ss/\f fs ss R' /\
 ∀ C',R' C'->∀ G' H',Out G H .non G' H' (.st .none) (λ_=>False)->E (.ref C') none H'
theorem lenM(h:spM K C f vs H Q E)(c:∀ fs ss b,f fs ss b->ss.length+1=n):vs.length=n:=by
 obtain⟨a,dx,us,g,G,ss,fs,b,rfl,_,_,_,_,_,d,hf,_⟩:=h;rw[v3,d.length];exact c fs ss b hf
theorem yM(h:spM K C f vs H Q E)
  (hb:∀ fs ss b,f fs ss b->∀ B,B.K=K->EvE B E b->EvS B ts { nx:=λ_=>False,rt:=λ_ _=>False } (some (.own (OIr C fs))::(ss.map some++List.replicate (N.length-(ss.length+1)) none))):ts { nx:=λ_ H'=>Q .non H',rt:=Q } (L2.start N vs) H:=by
 obtain⟨a,dx,us,g,G,ss,fs,b,rfl,l,t,n,gh,ft,c,hf,p⟩:=h;refine hb fs ss _ hf (bsP K G H (.ref a::g)) rfl (λu w σ G' H' F env I=>p u w G' H' ⟨I.g0,I.gh,I.rs,I.gn,λ_ z=>z.elim,λ_ z=>z.elim,λ_ z=>z.elim,⟨.non,λ_ z=>z⟩,λ_=>I.ft⟩) (L2.start N (.ref a::g)) G H noF _ ?_ ⟨λ_ _ _ _ _ _ _ q=>q.elim,λ_ _ _ _ _ _ _ _ _ _ _ q=>q.elim,λ_ _ _ _ _ _ _ q=>q,λ_ _ _ _ _ _ _ q=>q⟩;refine⟨gh,Same.refl _,λa o e=>.inl e,Same.refl _,Same.refl _,λa o e=>⟨o,e⟩,λi a z=>z.elim,λi a z=>z.elim,λi j a z=>z.elim,λi a z=>z.elim,λi s e=>?_,?_,ft⟩
 ·cases i with
  | zero =>
   simp at e;subst e;exact⟨.ref a,rfl,⟨a,dx,us,rfl,l,t,n,λ_ z=>z⟩,λ_ z=>z.elim⟩
  | succ i =>
   have r:(ss.map some++List.replicate (N.length-(ss.length+1)) none)[i]?=some (some s):=by simpa using e
   obtain⟨v,m,q⟩:=c.get (bA r);refine⟨v,?_,?_⟩
   ·unfold L2.start;exact RA (by simpa using m)
   ·cases s with
    |st d=>exact⟨q,λa z=>z⟩
    |scr ns=>exact⟨q,λa z=>z⟩
    |own A=>exact q.elim
    |io A=>exact q.elim
 ·unfold L2.start;simp[c.length]
theorem j6(h:env[i]?=some (some (.own (OIr C fs))))(c:Cls K C)(n:NoAttr K C x)(hd:fs.lookup x=some d)(q:Q' d env):Ev B (tFld K (tVar i) x) env Q':=λσ G H F Q I k=>by
 obtain⟨v,b,⟨a,dx,us,rfl,j,m,r,f⟩,_⟩:=I.sl i _ h;obtain⟨u,g,l⟩:=r.get hd;exact⟨_,b,a,C,dx,us,u,rfl,I.gh _ _ j,c,n,g,k u G H F d env I (Same.refl _) l q⟩
end VL
namespace HT
open PySem PyProof.Rows
section
open PySem.SeqAt
open PySem.AutoSeq1 (wpAny_loadPart')
open PySem.MeetsSeq PySem.MeetsSeq2 PySem.MeetsSeq3
end
end HT
namespace HT
open PySem PySem.Spec PyProof.Rows
end HT
namespace L2
open PySem PySem.Spec PyProof.Rows
end L2
namespace VL
open PySem PySem.Spec L2
end VL
namespace L2
open PySem PySem.Spec PyProof.Rows
end L2
namespace VL
open PySem PySem.Spec L2
end VL
namespace SS
open PySem
structure TbI(bt:Bool)(t:SetTable):Prop where
 led:bt=false->t.led=true
 dum:t.dummies = #[]
 ris:t.plain=true->t.place.toList.Pairwise (· < ·)
end SS
namespace SS
open PySem PySem.W PyProof.Rows
def bt(w:World):Bool:=w.params.followText "set-order"
def kE(e:Int × Value):Int:=match e.2 with | .int k _=>k|_=>0
def BO(prog:Program)(w:World)(e:Int × Value):Prop:=e.1=(intKind prog w).hash (kE e)/\∃ t,e.2=.int (kE e) t
def SetR(prog:Program)(w:World)(a:Addr)(es:Array (Int × Value))(ep:Nat)(t:SetTable)(h:Heap):Prop :=
 ∃ o,h.get? a=some o/\o.ExactSet/\o.data=.set es ep t/\t.fits es.size=true/\TbI (bt w) t
def SetI(prog:Program)(w:World)(a:Addr)(L:List Int)(h:Heap):Prop:=∃ es ep t,SetR prog w a es ep t h/\(∀ e∈es.toList,BO prog w e)/\(es.toList.map kE).Perm L
def IsIt(h:Heap)(I:Addr)(vs:Array Value):Prop:=∃ o,h.get? I=some o/\o.cls=.type "set_iterator"/\o.data=.fields vs
def dr(w:World)(es:Array (Int × Value))(t:SetTable):Bool:=!bt w && (!t.plain && decide (es.size > 1))
def ord(w:World)(a:Addr)(es:Array (Int × Value))(ep:Nat):List (Int × Value):=if bt w=true then (pickOrder (w.params.setOrder a ep) es).toList else es.toList
def sl(t:SetTable):Nat->Nat
 |0=>0
 |i+1=>t.place.getD i 0+1
end SS
namespace L2
open PySem PySem.W PyProof.Rows
end L2
namespace VL
open PySem PySem.Spec L2
end VL
namespace L2
open PySem PySem.W PyProof.Rows
end L2
namespace VL
open PySem PySem.Spec L2
theorem RH:∀{kvs:List (Key × V)}{es:List (Key × PyData)},RpK G kvs es->kvs.map (·.1)=es.map (·.1)
 |_,_,.nil=>rfl
 |_,_,.cons _ t=>by rw[P0,P0,RH t]
end VL
namespace L2
open PySem PySem.W PyProof.Rows
theorem XH:∀{es:List DictEntry}{vs:List (Key × Value)}{kvs:List (Key × V)}{ns:List Str},Pairs (J4 P w) es vs->KV kvs vs->kvs.map (·.1)=ns.map Sum.inr->StrsAre (es.map (·.key)) ns
 |_,_,_,[],.nil,_,_=>.nil
 |_,_,_,_::_,.nil,.nil,h=>by simp at h
 |_,_,_,[],.cons _ _ _,.cons _ _,h=>by simp at h
 | _,_,_,n::ns,.cons hk _ t,.cons r rt,h=>by
  simp only[P0,List.cons.injEq] at h;have d:=XH t rt h.2;rcases M6 hk with ⟨i,tk,b,c⟩|⟨x,tk,b,c⟩
  ·have a:=r.1;rw[h.1,b] at a;cases a
  ·rw[P0,c];have:x=n:=by
    have a:=r.1;rw[h.1,b] at a;cases a;rfl
   subst this;exact .cons x tk d
def HF:List V->Hp->VK->Prop:=λxs H Q=>∃(a:Addr)(kvs:List (Key × V))(ns:List Str),xs=[.ref a]/\H a=some (.dK kvs)/\kvs.map (·.1)=ns.map Sum.inr/\ns.length<64/\∀(ns':List Str)(p:Addr),ns'.Perm ns->sortedS ns'=true->H p=none->Q (.ref p) (upd H p (.lst (ns'.map V.str)))
theorem iF:∀{us:List Value}{ns:List Str},StrsAre us ns->Vals (ns.map V.str) us
 |_,_,.nil=>.nil
 |_,_,.cons x t h=>.cons ⟨t,rfl⟩ (iF h)
theorem kG:∀{us:List Value}{ns:List Str},StrsAre us ns->us.length=ns.length
 |_,_,.nil=>rfl
 |_,_,.cons x t h=>by simp[kG h]
theorem bU(U:X.calm=true):l2 X (.builtin "sorted") HF:=by
 intro pins s σ H xs us Q I r h;obtain⟨a,kvs,ns,rfl,ha,O,M,q⟩:=h;obtain⟨u,rfl,P⟩:=S5 r;cases P;obtain⟨z,hd,vs,y,o,es,J,W,L,F,Z,T,Y⟩:=uG I.hok ha;have v:StrsAre (es.toList.map (·.key)) ns:=XH T y O;have hsz:es.size=ns.length:=by have:=kG v;simpa using this
 have c:es.size<=sizeLine:=by rw[sizeLine_eq];lia
 refine Calls.call_function_entry kind_sorted plain_sorted entry_sorted (args_sorted1 _) ?_;unfold Builtin.«sorted»;refine u0 (m:=checkCount "sorted" 1 1 _) (I0 (u0 (DI.collect_src (A:=X.A.in1) (DI.src a es J hd) (I.ok.hd U) ⟨o,W,L,F⟩ c λg tk d kp hs f=>?_)));have p:d.toList=es.toList.map (·.key):=by
  obtain⟨i1,S⟩:=f;refine y6 λi=>?_;by_cases hi:i<es.size
  ·have t:d[i]?=some d[i]:=S2 (by lia);have E:(es[i]?).map (·.key)=some d[i]:=S i _ t;rw[t6,t,← E,v2,t6]
  ·rw[F7.mpr (by simp;lia),F7.mpr (by simp;lia)]
 rw[p];refine u0 (wpAny_newList ?_ (by rw[N1,jA];exact c));have j:(g.push (seqObj "list" (es.toList.map (·.key)).toArray 0)).get? g.objs.size=some (seqObj "list" (es.toList.map (·.key)).toArray 0):=m3 _ rfl;refine u0 (U3 (yA slot_list_sort ⟨_,j,rfl⟩ entry_list_sort (list_sort_treeK strKind_oneLt (s:={ s with heap:=g.push (seqObj "list" (es.toList.map (·.key)).toArray 0),toks:=tk }) j v.keysOf (λC B rest e=>keyKind_strs (by rw[← e];exact v)) (by simp;lia) λst' R w=>⟨_,rfl,?_⟩) (args_list_sort _)));obtain⟨l,a1,D,G⟩:=sorted_out_str v R w;generalize Array.map (λx=>x.2) (arrOf st')=out at a1;obtain⟨e,N⟩:=sortedHeap_at (vs:=es.toList.map (·.key)) (out:=out) (n:=0) j;have K:∀ b o,s.heap.get? b=some o->(sortedHeap (g.push (seqObj "list" (es.toList.map (·.key)).toArray 0)) g.objs.size (es.toList.map (·.key)) out).get? b=some o:=λb o q=>by
  have lt:=M0 (kp b o q);rw[sortedHeap_old (U1 lt) (by rw[size_push'];exact T9 lt)];exact S1 _ (kp b o q)
 refine I0 ⟨_,rfl,.ref g.objs.size,_,I.laid (t':=tk) (o:=.lst (l.map V.str)) K hs ⟨by rw[N1,D.length_eq,sizeLine_eq];lia,out.toList,e,iF a1,by rw[Array.toArray_toList];exact N⟩,rfl,q l _ D G (I.hok.fresh hs)⟩
end L2
namespace DictL
open PySem PyProof.Rows
section
variable{prog:Program}{w:World}{A:Around}{R:Result->Shared->Prop}{I:Addr}{fp wr:List Addr}{n:Nat}{P:Nat->Value->Prop}{St:Nat->Heap->Prop}{K:Type} [DecidableEq K] {knd:KeyKind prog w K}
end
section
variable{prog:Program}{w:World}{A:Around}{E:Value->Shared->Prop}{s:Shared}{K:Type} [DecidableEq K] {knd:KeyKind prog w K}
end
end DictL
namespace L2
open PySem PySem.W PyProof.Rows
section
variable{K:Type} [DecidableEq K]
end
end L2
namespace VL
open PySem PySem.Spec L2
def OGD(C:Addr)(x:Str)(es:List (Key × PyData)):Own where
 P:=λG H v F=>∃ a dx dd kvs,v=.ref a/\H a=some (.ins C dx [(x,.ref dd)])/\H dx=some (.own a)/\H dd=some (.dK kvs)/\RpK G kvs es/\∀ b,F b ↔ b=a\/b=dx\/b=dd
 mono:=λ⟨a,dx,dd,kvs,e,h1,h2,h3,r,f⟩ g hh=>⟨a,dx,dd,kvs,e,hh a _ ((f a).mpr (.inl rfl)) h1,hh dx _ ((f dx).mpr (.inr (.inl rfl))) h2,hh dd _ ((f dd).mpr (.inr (.inr rfl))) h3,r.same g,f⟩
 dom:=λ⟨a,dx,dd,kvs,e,h1,h2,h3,r,f⟩ b z=>by
  rcases(f b).mp z with rfl|rfl|rfl
  ·exact⟨_,h1⟩
  ·exact⟨_,h2⟩
  ·exact⟨_,h3⟩
def xA(A:Own)(C:Addr)(m:Str):Prop:=∀ G H v F,A.P G H v F->∃ a dx us,v=.ref a/\H a=some (.ins C dx us)/\us.lookup m=none
theorem V6(h:(m == x)=false):xA (OGD C x es) C m:=λG H v F ⟨a,dx,dd,kvs,e,b,_⟩=>⟨a,dx,_,e,b,by rw[S4,h];rfl⟩
def FrzI(A:Own)(C:Addr)(fs:List (Str × PyData)):Prop:=∀ G H v F,A.P G H v F->(∀ a,F a->G a=none)->Same G H->∃ a dx us,v=.ref a/\jn G H F a=some (.ins C dx us)/\jn G H F dx=some (.own a)/\RpF (jn G H F) us fs
theorem P9:FrzI (OGD C x es) C [(x,aez es)]:=λG H v F ⟨a,dx,dd,kvs,e,d,c,b,r,f⟩ fg gh =>
 ⟨a,dx,_,e,by rw[L6 ((f a).mpr (.inl rfl))];exact d,by rw[L6 ((f dx).mpr (.inr (.inl rfl)))];exact c,.cons (.dk (by rw[L6 ((f dd).mpr (.inr (.inr rfl)))];exact b) (r.same (m4 fg)) rfl) .nil⟩
abbrev VMT:=List (Str × PyData)->List Sl->(Sl->Prop)->Prop
def spMT(K:Frag)(C:Addr)(f:VMT):Sp:=λvs H Q _=>∃ a dx us vr G ss fs Q',vs=.ref a::vr/\G a=some (.ins C dx us)/\G dx=some (.own a)/\RpF G us fs/\Same G H/\FT G H/\ArgsOk K G vr ss/\f fs ss Q' /\
 ∀ s,Q' s->∀ v G' H' Fv,Out G H v G' H' s Fv->Q v H'
theorem PN(h:spMT K C f vs H Q E)(c:∀ fs ss b,f fs ss b->ss.length+1=n):vs.length=n:=by
 obtain⟨a,dx,us,g,G,ss,fs,b,rfl,_,_,_,_,_,d,hf,_⟩:=h;rw[v3,d.length];exact c fs ss b hf
theorem aM(h:spMT K C f vs H Q E)
  (hb:∀ fs ss b,f fs ss b->∀ B,B.K=K->EvS B ts { nx:=λ_=>b (.st .none),rt:=λs _=>b s } (some (.own (OIr C fs))::(ss.map some++List.replicate (N.length-(ss.length+1)) none))):ts { nx:=λ_ H'=>Q .non H',rt:=Q } (L2.start N vs) H:=by
 obtain⟨a,dx,us,c,G,ss,fs,b,rfl,n,w,t,gh,ft,l,hf,m⟩:=h;have fin:∀{σ G' H' F env v Fv s},VI (bsP K G H (.ref a::c)) G' H' σ env F->RsX (bsP K G H (.ref a::c)) G' H' v Fv s F->Out G H v G' H' s Fv:=λI r =>
  ⟨I.g0,I.gh,I.rs,I.gn,r.fb,r.fg,r.fo,r.ok,λ_=>I.ft⟩
 refine hb fs ss _ hf (bsP K G H (.ref a::c)) rfl (L2.start N (.ref a::c)) G H noF _ ?_ ⟨λσ G' H' F env I g q=>m _ q _ _ _ _ (fin I (R5 .non)),λσ G' H' F env v Fv s I g r q=>m _ q v G' H' Fv (fin I r),λ_ _ _ _ _ _ _ q=>q,λ_ _ _ _ _ _ _ q=>q⟩;refine⟨gh,Same.refl _,λa o e=>.inl e,Same.refl _,Same.refl _,λa o e=>⟨o,e⟩,λi a z=>z.elim,λi a z=>z.elim,λi j a z=>z.elim,λi a z=>z.elim,λi s e=>?_,?_,ft⟩
 ·cases i with
  | zero =>
   simp at e;subst e;exact⟨.ref a,rfl,⟨a,dx,us,rfl,n,w,t,λ_ z=>z⟩,λ_ z=>z.elim⟩
  | succ i =>
   have u:(ss.map some++List.replicate (N.length-(ss.length+1)) none)[i]?=some (some s):=by simpa using e
   obtain⟨v,p,q⟩:=l.get (bA u);refine⟨v,?_,?_⟩
   ·unfold L2.start;exact RA (by simpa using p)
   ·cases s with
    |st d=>exact⟨q,λa z=>z⟩
    |scr ns=>exact⟨q,λa z=>z⟩
    |own A=>exact q.elim
    |io A=>exact q.elim
 ·unfold L2.start;simp[l.length]
def OGB(C:Addr)(es:List (Key × PyData)):Own where
 P:=λG H v F=>∃ a dx dd kvs,v=.ref a/\H a=some (.ins C dx [])/\H dx=some (.own a)/\H dd=some (.dK kvs)/\RpK G kvs es/\∀ b,F b ↔ b=a\/b=dx\/b=dd
 mono:=λ⟨a,dx,dd,kvs,e,h1,h2,h3,r,f⟩ g hh=>⟨a,dx,dd,kvs,e,hh a _ ((f a).mpr (.inl rfl)) h1,hh dx _ ((f dx).mpr (.inr (.inl rfl))) h2,hh dd _ ((f dd).mpr (.inr (.inr rfl))) h3,r.same g,f⟩
 dom:=λ⟨a,dx,dd,kvs,e,h1,h2,h3,r,f⟩ b z=>by
  rcases(f b).mp z with rfl|rfl|rfl
  ·exact⟨_,h1⟩
  ·exact⟨_,h2⟩
  ·exact⟨_,h3⟩
theorem oC(g:Has env i A0)(d:xA A0 C m)(h:EvA B t env λds l=>∃ c A,l[i]?=some (some c)/\(c=.own A\/c=.io A)/\f A (ds.map Sl.st) λA' s=>QO s (l.set i (some (reS c A')))):EvO B (L7 C m (spI K f) [] E (tVar i) t) env QO:=λσ G H F Q I k=>by
 obtain⟨v,j,ap⟩:=I.has g;obtain⟨a,dx,us,rfl,o,n⟩:=d _ _ _ _ ap;have hx:∃ s,env[i]?=some (some s):=by rcases g with e|e <;> exact⟨_,e⟩
 have:=eH (K:=K) (E:=E) hx h σ G H F Q I k;unfold F3 at this;simp only[z5] at this;obtain⟨p,b,q⟩:=this;rw[j] at b;cases b;unfold L7;simp only[z5];exact⟨_,j,a,dx,us,rfl,o,n,q⟩
theorem YP(g:Has env i A0)(b:xA A0 C m)(h:EvA B t env λds c=>∃ a A,c[i]?=some (some a)/\(a=.own A\/a=.io A)/\f A (ds.map Sl.st) λA' s=>FQ s λd=>Q' d (c.set i (some (reS a A')))):Ev B (L7 C m (spI K f) [] E (tVar i) t) env Q':=P5 (oC g b h)
theorem rA(J:Has env i A0)(p:xA A0 C m)(y:FrzI A0 C fs)(h:EvA B t env λds j=>Has j i A0/\f fs (ds.map Sl.st) λs=>∃ d,s=.st d/\U7 d=true/\Q' d j):Ev B (L7 C m (spMT K C f) [] E (tVar i) t) env Q':=λσ G H F Q I k=>by
 obtain⟨v,z,ap⟩:=I.has J;obtain⟨a,dx,us,rfl,R,N⟩:=p _ _ _ _ ap;unfold L7;simp only[z5];refine⟨_,z,a,dx,us,rfl,R,N,h σ G H F _ I λvs O A D ds j c S T ⟨r,M⟩=>?_⟩;obtain⟨Z,g,l⟩:=c.has r;rw[z] at g;cases g;obtain⟨a',u,x,X,k1,k2,W⟩:=y _ _ _ _ l (c.fg i) c.gh;cases X;have n:=m4 (H:=A) (c.fg i);refine⟨a,u,x,vs,jn O A (D i),_,fs,_,rfl,k1,k2,W,R9 c.gh,λb U e=>n _ _ (c.ft b U e),ArgsOk.of (T.same n),M,λs ⟨d,es,hs,q⟩ w G' H' Fv o=>?_⟩;subst es;obtain⟨Y,L,P⟩:=c.moment n o;exact k w Y H' D d j P (S.trans L) (bC o.ok.1 hs) q
theorem fJ(E:Has env i A0)(p:xA A0 C m)(x:FrzI A0 C fs)(h:EvA B t env λds g=>Has g i A0/\f fs (ds.map Sl.st) (λn=>RX n g)):EvXs B (iI C m (spM K C f) (tVar i) t) D' RX env:=λσ G H F D W I r w=>by
 obtain⟨v,y,ap⟩:=I.has E;obtain⟨a,dx,us,rfl,P,M⟩:=p _ _ _ _ ap;refine⟨_,y,a,dx,us,rfl,P,M,h σ G H F _ I λvs N z A ds g c Q R ⟨q,J⟩=>?_⟩;obtain⟨Z,d,j⟩:=c.has q;rw[y] at d;cases d;obtain⟨a',s,u,U,k1,k2,T⟩:=x _ _ _ _ j (c.fg i) c.gh;cases U;have l:=m4 (H:=z) (c.fg i);refine⟨a,s,u,vs,jn N z (A i),_,fs,_,rfl,k1,k2,T,R9 c.gh,λb S e=>l _ _ (c.ft b S e),ArgsOk.of (R.same l),J,λn Y G' H' o=>?_⟩;obtain⟨X,L,O⟩:=c.moment l o;exact w n σ X H' A g O (Q.trans L) Y
theorem QJ(l:Has env i (OGD C x es))(c:Cls K C)(n:NoAttr K C x)(s:es.map (·.1)=ns.map Sum.inr)(j:ns.length<64)(q:∀ b:List Str,b.Perm ns->PyProof.Rows.sortedS b=true->QO (.own (OL (b.map .str))) env):EvO B (tCB HF (M2 (tFld K (tVar i) x) tNil)) env QO:=λσ G H F Q I k=>by
 obtain⟨v,h,a,dx,dd,kvs,rfl,m,u,g,r,f⟩:=I.has l;have d:kvs.map (·.1)=ns.map Sum.inr:=by rw[← s];exact RH r
 refine⟨_,h,a,C,dx,_,.ref dd,rfl,m,c,n,by rw[S4,beq_self_eq_true],dd,kvs,ns,rfl,g,d,j,λb p t hs hf=>?_⟩;have rs:∀ b:List Str,Rps G (b.map V.str) (b.map PyData.str):=λb=>by
  induction b with
  |nil=>exact .nil
  |cons y b ih=>exact .cons (.str y) ih
 have o:=Out.newL I.gh hf (rs b);exact k _ _ _ F _ _ env (I.out o).1 o.gg (I.out o).2 (q b t hs)
theorem eK(c:Cls K C)(n:NoAttr K C x)(h:Ev B tv env λd s=>∃ l es k,s[i]?=some (some l)/\(l=.own (OGD C x es)\/l=.io (OGD C x es))/\s[j]?=some (some (.st (kD k)))/\es.length<=999999/\D'.nx (s.set i (some (reS l (OGD C x (putD es k d)))))):EvS B (EE (tFld K (tVar i) x) (tVar j) tv) D' env:=λσ G H F D I r =>
 h σ G H F _ I λv Q L M d s o R S O=>by
  obtain⟨l,es,k,N,hs,U,hl,q⟩:=O;obtain⟨v0,E,m⟩:=o.sl i _ N;have ap:(OGD C x es).P Q L v0 (M i):=by
   rcases hs with rfl|rfl
   ·exact m.1
   ·exact m.1
  obtain⟨a,dx,dd,kvs,rfl,ha,p,g,rt,f⟩:=ap;obtain⟨Z,t,W,_⟩:=o.sl j _ U;have:=UC W;subst this;refine⟨_,E,a,C,dx,_,.ref dd,rfl,ha,c,n,by rw[S4,beq_self_eq_true],_,t,dd,_,rfl,DPut.k g (by rw[rt.length];exact big (by lia)),?_⟩;have X:a ≠ dd:=x9 ha g (by intro z;cases z);have Y:dx ≠ dd:=x9 p g (by intro z;cases z)
  have J:=o.change (A:=OGD C x (putD es k d)) (H2:=upd L dd (.dK (putK kvs k v))) (F2:=M i) (os':=reS l (OGD C x (putD es k d))) i N E (λb w hb u=>by rw[G0 (λz:b=dd=>hb ((f b).mpr (.inr (.inr z))))];exact u)
   (λb w u=>by
    by_cases z:b=dd
    ·rw[z];exact⟨_,S0⟩
    ·rw[G0 z];exact⟨w,u⟩)
   (λb z=>⟨.inl z,by
    by_cases y:b=dd
    ·rw[y];exact⟨_,S0⟩
    ·rw[G0 y];exact o.fo i b z⟩) ⟨a,dx,dd,_,rfl,by rw[G0 X];exact ha,by rw[G0 Y];exact p,S0,rt.put S,f⟩ (λb T e=>by
    by_cases z:b=dd
    ·subst z;rw[S0] at e;cases e
    ·rw[G0 z] at e;exact o.ft b T e) (by
    rcases hs with rfl|rfl
    ·exact .inl ⟨rfl,_,rfl⟩
    ·exact .inr ⟨rfl,_,rfl⟩)
  exact r.nx _ _ _ _ _ J R q
theorem IL(c:Cls K C)(n:NoAttr K C x)(h:EvO B tv env λs L=>∃ es m,s=.own (OD es)/\L[i]?=some (some m)/\(m=.own (OI C [])\/m=.io (OI C []))/\D'.nx (L.set i (some (reS m (OGD C x es))))):EvS B (sFld K (tVar i) tv x) D' env:=λσ G H F D I r =>
 h σ G H F _ I λy U O Q Fv s L l g1 X Z=>by
  obtain⟨es,m,R,W,hs,q⟩:=Z;subst R;obtain⟨dd,kvs,rfl,g,rt,fd⟩:=X.ok;obtain⟨v,p,d⟩:=l.sl i _ W;have ap:(OI C []).P U O v (Q i):=by
   rcases hs with rfl|rfl
   ·exact d.1
   ·exact d.1
  obtain⟨a,dx,us,rfl,E,u,rf,f⟩:=ap;cases rf;have S:=(fd dd).mpr rfl;have nd:∀ j,¬ Q j dd:=λj=>X.fd j dd S;have ad:a ≠ dx:=x9 E u (by intro z;cases z);have n1:a ≠ dd:=x9 E g (by intro z;cases z);have n2:dx ≠ dd:=x9 u g (by intro z;cases z);refine⟨_,p,a,C,dx,[],rfl,E,c,n,by decide,?_⟩;let F2:Addr->Prop:=λb=>b=a\/b=dx\/b=dd;have o:∀ b,F2 b->Q i b\/Fv b:=λb z=>by
   rcases z with z|z|z
   ·exact .inl ((f b).mpr (.inl z))
   ·exact .inl ((f b).mpr (.inr z))
   ·exact .inr ((fd b).mpr z)
  have T:(OGB C es).P U O (.ref a) F2:=⟨a,dx,dd,kvs,rfl,E,u,g,rt,λb=>Iff.rfl⟩
  have J:=l.slot (Fv:=F2) i (some (.ref a)) (some (reS m (OGB C es))) (λb z=>by
    rcases o b z with z|z
    ·exact l.fg i b z
    ·exact X.fg b z) (λb z=>by
    rcases o b z with z|z
    ·exact l.fr i b z
    ·exact l.b_r (X.fb b z)) (λb z=>by
    rcases o b z with z|z
    ·exact l.fo i b z
    ·exact X.fo b z) (λj b hj z y=>by
    rcases o b z with z|z
    ·exact hj (l.fd j i b y z)
    ·exact X.fd j b z y) λt et=>by
   cases et;refine⟨_,rfl,?_⟩;rcases hs with rfl|rfl
   ·exact⟨T,λb z=>by
     rcases o b z with z|z
     ·exact d.2 b z
     ·exact X.fb b z⟩
   ·exact⟨T,λb z=>by
     rcases o b z with z|z
     ·exact d.2.1 b z
     ·exact .inr (X.fb b z),d.2.2⟩
  have M : σ.set i (some (.ref a)) = σ:=by
   apply y6;intro j;rw[o5];by_cases h:i=j
   ·subst h;rw[z0 rfl,p,z0 (R1.mp p).1]
   ·rw[y0 h]
  rw[M] at J;have hi:i<L.length:=(R1.mp W).1
  have Y:=J.change (A:=OGD C x es) (H2:=upd O a (.ins C dx (L2.putF x (.ref dd) []))) (F2:=F2) (os':=reS m (OGD C x es)) i (by rw[o5,z0 rfl,z0 hi]) p (λb w hb N=>by rw[G0 (λz:b=a=>hb (putF_same.mpr (.inl z)))];exact N)
   (λb w N=>by
    by_cases z:b=a
    ·rw[z];exact⟨_,S0⟩
    ·rw[G0 z];exact⟨w,N⟩)
   (λb z=>⟨.inl (putF_same.mpr z),by
    by_cases y:b=a
    ·rw[y];exact⟨_,S0⟩
    ·rw[G0 y];exact J.fo i b (putF_same.mpr z)⟩) ⟨a,dx,dd,kvs,rfl,S0,by rw[G0 ad.symm];exact u,by rw[G0 n1.symm];exact g,rt,λb=>Iff.rfl⟩ (λb ks e=>by
    by_cases z:b=a
    ·subst z;rw[S0] at e;cases e
    ·rw[G0 z] at e;exact l.ft b ks e) (by
    rcases hs with rfl|rfl
    ·exact .inl ⟨rfl,_,rfl⟩
    ·exact .inr ⟨rfl,_,rfl⟩)
  rw[List.set_set] at Y;exact r.nx _ _ _ _ _ Y g1 q
end VL
namespace L2
open PySem PySem.Spec PyProof.Rows
def tF3(m n:Str)(ta tb tc:TE):TE:=λσ H Q=>ta σ H λx H1=>∃ i,x=.int i/\(0<=i/\i<1000000)/\tb σ H1 λy H2=>∃ k,y=.int k/\(0<=k/\k<1000000)/\tc σ H2 λz H3=>∃ l,z=.int l/\(0<=l/\l<1000000) /\
 Q (.str (Str.ofString (toString i)++m++Str.ofString (toString k)++n++Str.ofString (toString l))) H3
def tFS(m:Str)(ta tb:TE):TE:=λσ H Q=>ta σ H λx H1=>∃ i,x=.int i/\(0<=i/\i<1000000)/\tb σ H1 λy H2=>∃ k,y=.str k/\k.length<=1000/\Q (.str (Str.ofString (toString i)++m++k)) H2
theorem yT(hm:m.length<=1000)(hn:n.length<=1000)(ha:PE X a ta)(hb:PE X b tb)(G:PE X c tc):PE X (.JoinedStr [.FormattedValue a (-1) none p1,.Constant (.str m) j p2,.FormattedValue b (-1) none p3,.Constant (.str n) j2 p4,.FormattedValue c (-1) none p5] pos) (tF3 m n ta tb tc):=by
 intro pins s σ H Q I h;refine JoinedStr_many ?_;refine joinParts_cons (FormattedValue_plain (thn (ha pins s σ H _ I h) λv s1 ⟨x,D,w,B,i,F,hi,g⟩=>?_));subst F;obtain⟨t,rfl⟩:=B;have J:=V9 hi;have sz:(20000:Nat)<=sizeLine:=by decide
 refine wpAny_formatField_int (W8 hi) ⟨by rw[Str.empty_append];lia,?_⟩;rw[Str.empty_append];refine joinParts_cons (Calls.Constant_str ⟨by rw[strLen_append];lia,?_⟩);show wpAny _ _ (joinParts _ (eval (.FormattedValue b (-1) none p3) X.env::_)) _ _ _;refine joinParts_cons (FormattedValue_plain (thn (hb pins _ σ D _ (w.tok _) g) λM s2 ⟨y,H2,p,q,k,A,f,C⟩=>?_));subst A;obtain⟨L,rfl⟩:=q;have P:=V9 f;refine wpAny_formatField_int (W8 f) ⟨by rw[strLen_append,strLen_append];lia,?_⟩;refine joinParts_cons (Calls.Constant_str ⟨by rw[strLen_append,strLen_append,strLen_append];lia,?_⟩);show wpAny _ _ (joinParts _ [eval (.FormattedValue c (-1) none p5) X.env]) _ _ _;refine joinParts_cons (FormattedValue_plain (thn (G pins _ σ H2 _ (p.tok _) C) λK N ⟨z,H3,u,o,l,E,d,r⟩=>?_));subst E;obtain⟨R,rfl⟩:=o;have O:=V9 d;refine wpAny_formatField_int (W8 d) ⟨by rw[strLen_append,strLen_append,strLen_append,strLen_append];lia,?_⟩;exact joinParts_nil ⟨.str _,H3,u.tok _,⟨_,rfl⟩,r⟩ (by rw[strLen_append,strLen_append,strLen_append,strLen_append];lia)
theorem ZK(hm:m.length<=1000)(ha:PE X a ta)(hb:PE X b tb):PE X (.JoinedStr [.FormattedValue a (-1) none p1,.Constant (.str m) j p2,.FormattedValue b (-1) none p3] pos) (tFS m ta tb):=by
 intro pins s σ H Q I h;refine JoinedStr_many ?_;refine joinParts_cons (FormattedValue_plain (thn (ha pins s σ H _ I h) λv s1 ⟨x,p,l,o,i,q,hi,f⟩=>?_));subst q;obtain⟨t,rfl⟩:=o;have r:=V9 hi;have sz:(20000:Nat)<=sizeLine:=by decide
 refine wpAny_formatField_int (W8 hi) ⟨by rw[Str.empty_append];lia,?_⟩;rw[Str.empty_append];refine joinParts_cons (Calls.Constant_str ⟨by rw[strLen_append];lia,?_⟩);show wpAny _ _ (joinParts _ [eval (.FormattedValue b (-1) none p3) X.env]) _ _ _;refine joinParts_cons (FormattedValue_plain (thn (hb pins _ σ p _ (l.tok _) f) λw s2 ⟨y,H2,d,g,k,n,z,c⟩=>?_));subst n;obtain⟨u,rfl⟩:=g;refine wpAny_formatField_str (x:=k) (hx:=by lia) ⟨by rw[strLen_append,strLen_append];lia,?_⟩ ⟨by rw[strLen_append,strLen_append];lia,?_⟩
 ·exact joinParts_nil ⟨.str _,H2,d.tok _,⟨_,rfl⟩,c⟩ (by rw[strLen_append,strLen_append];lia)
 ·exact joinParts_nil ⟨.str _,H2,(d.tok _).tok _,⟨_,rfl⟩,c⟩ (by rw[strLen_append,strLen_append];lia)
end L2
namespace VL
open PySem PySem.Spec L2
theorem eN(h:Ev B ta env λx c=>∃ i,x=.int i/\(0<=i/\i<1000000)/\Ev B tb c λy b=>∃ k,y=.int k/\(0<=k/\k<1000000)/\Ev B tc b λz a=>∃ l,z=.int l/\(0<=l/\l<1000000)/\Q' (.str (Str.ofString (toString i)++m++Str.ofString (toString k)++n++Str.ofString (toString l))) a):Ev B (tF3 m n ta tb tc) env Q':=λσ G H F Q I k =>
 h σ G H F _ I λU q J L x c w A C d=>by
  obtain⟨i,M,hi,g⟩:=d;subst M;cases C;refine⟨i,rfl,hi,g σ q J L _ w λT N H2 F2 y b R P s ⟨j,E,p,D⟩=>?_⟩;subst E;cases s;refine⟨j,rfl,p,D σ N H2 F2 _ R λS r H3 f z a u O o ⟨l,K,v,t⟩=>?_⟩;subst K;cases o;exact⟨l,rfl,v,k _ r H3 f _ a u ((A.trans P).trans O) (.str _) t⟩
theorem qK(h:Ev B ta env λx b=>∃ i,x=.int i/\(0<=i/\i<1000000)/\Ev B tb b λy a=>∃ k,y=.str k/\k.length<=1000/\Q' (.str (Str.ofString (toString i)++m++k)) a):Ev B (tFS m ta tb) env Q':=λσ G H F Q I k =>
 h σ G H F _ I λC g s t x b n o p c=>by
  obtain⟨i,u,hi,d⟩:=c;subst u;cases p;refine⟨i,rfl,hi,d σ g s t _ n λA v H2 F2 y a z w l ⟨j,r,f,q⟩=>?_⟩;subst r;cases l;exact⟨j,rfl,f,k _ v H2 F2 _ a z (o.trans w) (.str _) q⟩
end VL
namespace L2
open PySem PySem.W PyProof.Rows
end L2
namespace VL
open PySem PySem.Spec L2
end VL
namespace L2
open PySem PySem.Spec
structure PSq(X:Cx)(sts:List Stmt)(t:TS):Prop where
 out:PSs X sts t
theorem O1{X:Cx}{st:Stmt}{rest:List Stmt}{t u:TS}(a:PS X st t)(b:PSq X rest u):PSq X (st::rest) (tSeq t u):=⟨C0 a b.out⟩
theorem k9(h:PS X st t):PSq X [st] t:=⟨L0 h⟩
end L2
namespace L2
open PySem PySem.Spec PyProof.Rows
theorem VH(F:Can X.prog X.w X.K X.mg X.base x k ps sp)(d:Room j X.A)(b:k<=j:=by decide)(c:Gl X x:=by rfl)(a:(x == ("__debug__" : Str))=false:=by decide) :
  PE X (.Call (.Name x p) [] [] pos) (F3 sp [] E0 tNil):=by
 obtain⟨f,fd,C⟩:=F;exact SK C.ok (d.mono b) c C.mgx C.kp C.bd .nil O9 a
end L2
namespace L2
open PySem PySem.Spec PyProof.Rows PySem.W
def LamH(P:Addr)(H H':Hp):Prop:=H'=H\/∃ c,H c=none/\H'=upd H c (.own P)
def LamAt(K:Frag)(mg:Str->Option Value):Prop:=∃ f c P,mg lamN=some (.ref f)/\tabIn K lamN=some (c,P)/\codeHdIn K c P=true/\∀ oc od fd sl,K.lookup f=some ⟨oc,od,.func fd,sl⟩->fd.code=.ref c
theorem tabs0_none{K:Frag}{h:Heap}(e:tabIn K lamN=none):ZA K h:=λc P q=>by rw[e] at q;cases q
end L2
namespace L2
open PySem PySem.W
theorem tab_no(a:nsIn K mainGlobals lamN=some none):tabIn K lamN=none:=by
 unfold tabIn;rw[a]
end L2
namespace G
open PySem L2 VL
def top(i:Nat):Stmt:=PySem.Challenge.pw_fewties_k49_rows_that_are_none.main.body.getD i (.Pass ⟨0,0,0,0⟩)
abbrev s_is_whole:Stmt:=top 12
abbrev s_is_between:Stmt:=top 13
abbrev s_need_number:Stmt:=top 14
abbrev s_is_place:Stmt:=top 15
abbrev s_is_tie:Stmt:=top 16
abbrev s_are_ties:Stmt:=top 17
abbrev s_is_rising:Stmt:=top 18
abbrev s_is_web:Stmt:=top 19
abbrev s_tied_places:Stmt:=top 20
abbrev s_far_from:Stmt:=top 21
abbrev s_need_place:Stmt:=top 22
abbrev s_all_far:Stmt:=top 23
abbrev s_how_far:Stmt:=top 24
abbrev s_is_joined:Stmt:=top 25
abbrev s_need_joined:Stmt:=top 27
abbrev s_far_rows:Stmt:=top 28
abbrev s_most_far:Stmt:=top 29
abbrev s_farthest_two:Stmt:=top 30
abbrev s_middles:Stmt:=top 31
abbrev s_with_ties:Stmt:=top 33
abbrev s_free_ties:Stmt:=top 34
abbrev s_rows_with:Stmt:=top 35
abbrev s_row_with:Stmt:=top 36
abbrev s_best_tie:Stmt:=top 37
abbrev s_hubs_for:Stmt:=top 40
abbrev s_show_tie:Stmt:=top 43
abbrev s_show_web:Stmt:=top 44
abbrev s_number_of:Stmt:=top 45
abbrev s_tie_of:Stmt:=top 46
abbrev s_read_web:Stmt:=top 47
abbrev s_is_name:Stmt:=top 52
abbrev s_is_row:Stmt:=top 53
abbrev s_row_words:Stmt:=top 54
abbrev s_show_places:Stmt:=top 55
abbrev s_tell_far:Stmt:=top 56
abbrev s_tell_farthest:Stmt:=top 57
abbrev s_tell_middles:Stmt:=top 58
abbrev s_tell_best:Stmt:=top 59
abbrev s_tell_hubs:Stmt:=top 60
abbrev s_tell_writing:Stmt:=top 61
abbrev s_law_cell:Stmt:=top 65
abbrev s_law_word:Stmt:=top 66
abbrev s_law_none:Stmt:=top 67
abbrev s_law_others:Stmt:=top 68
abbrev s_law:Stmt:=top 69
abbrev s_Desk____init__:Stmt:=yE (top 63) 0
abbrev s_Desk__say:Stmt:=yE (top 63) 1
abbrev s_Desk__names:Stmt:=yE (top 63) 2
def YF(K:Frag)(mg:Str->Option Value)(r c:Str)(b:Bool):Prop:=∀ C D,mg r=some (.ref C)->mg c=some (.ref D)->kitOne K (.ref C) (.ref D)=some b
structure Txt(w:World)(K:Frag)(mg:Str->Option Value):Prop where
 b_ValueError:mg "ValueError" = none
 b_all:mg "all" = none
 b_max:mg "max" = none
 b_min:mg "min" = none
 b_sorted:mg "sorted" = none
 b_int:mg "int" = none
 b_tuple:mg "tuple" = none
 b_range:mg "range" = none
 b_isinstance:mg "isinstance" = none
 b_list:mg "list" = none
 b_len:mg "len" = none
 b_str:mg "str" = none
 b_bool:mg "bool" = none
 b_zip:mg "zip" = none
 b_enumerate:mg "enumerate" = none
 v_MOST_PLACES:∃ t,mg "MOST_PLACES" = some (.int 60 t)
 v_MOST_HUB_TIES:∃ t,mg "MOST_HUB_TIES" = some (.int 20 t)
 v_FIGURES:∃ t,mg "FIGURES" = some (.str "0123456789" t)
 v_LETTERS:∃ t,mg "LETTERS" = some (.str "abcdefghijklmnopqrstuvwxyz" t)
 v_MOST_LETTERS:∃ t,mg "MOST_LETTERS" = some (.int 8 t)
 v_NUMBERS:∃(aNUMBERS:Addr),mg "NUMBERS" = some (.ref aNUMBERS)/\(∀ P,GD P w K aNUMBERS [(.inr "tie",.int 2),(.inr "drop",.int 0),(.inr "far",.int 2),(.inr "farthest",.int 0),(.inr "middles",.int 0),(.inr "best",.int 0),(.inr "hubs",.int 1),(.inr "show",.int 0)])
 v_TELLERS:∃(aTELLERS:Addr)(f_tell_far:Addr)(f_tell_farthest:Addr)(f_tell_middles:Addr)(f_tell_best:Addr)(f_tell_hubs:Addr)(f_tell_writing:Addr),mg "TELLERS" = some (.ref aTELLERS)/\(∀ P,GD P w K aTELLERS [(.inr "far",.ref f_tell_far),(.inr "farthest",.ref f_tell_farthest),(.inr "middles",.ref f_tell_middles),(.inr "best",.ref f_tell_best),(.inr "hubs",.ref f_tell_hubs),(.inr "show",.ref f_tell_writing)])/\mg "tell_far" = some (.ref f_tell_far)/\mg "tell_farthest" = some (.ref f_tell_farthest)/\mg "tell_middles" = some (.ref f_tell_middles)/\mg "tell_best" = some (.ref f_tell_best)/\mg "tell_hubs" = some (.ref f_tell_hubs)/\mg "tell_writing" = some (.ref f_tell_writing)
 d_is_whole:∃ f fd,DefAt K mg "is_whole" s_is_whole ["thing"] f fd
 d_is_between:∃ f fd,DefAt K mg "is_between" s_is_between ["least","most","thing"] f fd
 d_need_number:∃ f fd,DefAt K mg "need_number" s_need_number ["least","most","thing"] f fd
 d_is_place:∃ f fd,DefAt K mg "is_place" s_is_place ["n","thing"] f fd
 d_is_tie:∃ f fd,DefAt K mg "is_tie" s_is_tie ["n","thing"] f fd
 d_are_ties:∃ f fd,DefAt K mg "are_ties" s_are_ties ["n","thing"] f fd
 d_is_rising:∃ f fd,DefAt K mg "is_rising" s_is_rising ["things"] f fd
 d_is_web:∃ f fd,DefAt K mg "is_web" s_is_web ["thing"] f fd
 d_tied_places:∃ f fd,DefAt K mg "tied_places" s_tied_places ["web"] f fd
 d_far_from:∃ f fd,DefAt K mg "far_from" s_far_from ["tied","start"] f fd
 d_need_place:∃ f fd,DefAt K mg "need_place" s_need_place ["web","thing"] f fd
 d_all_far:∃ f fd,DefAt K mg "all_far" s_all_far ["web","a"] f fd
 d_how_far:∃ f fd,DefAt K mg "how_far" s_how_far ["web","a","b"] f fd
 d_is_joined:∃ f fd,DefAt K mg "is_joined" s_is_joined ["web"] f fd
 d_need_joined:∃ f fd,DefAt K mg "need_joined" s_need_joined ["web"] f fd
 d_far_rows:∃ f fd,DefAt K mg "far_rows" s_far_rows ["web"] f fd
 d_most_far:∃ f fd,DefAt K mg "most_far" s_most_far ["rows"] f fd
 d_farthest_two:∃ f fd,DefAt K mg "farthest_two" s_farthest_two ["web"] f fd
 d_middles:∃ f fd,DefAt K mg "middles" s_middles ["web"] f fd
 d_with_ties:∃ f fd,DefAt K mg "with_ties" s_with_ties ["web","ties"] f fd
 d_free_ties:∃ f fd,DefAt K mg "free_ties" s_free_ties ["web"] f fd
 d_rows_with:∃ f fd,DefAt K mg "rows_with" s_rows_with ["rows","tie"] f fd
 d_row_with:∃ f fd,DefAt K mg "row_with" s_row_with ["rows","row","tie"] f fd
 d_best_tie:∃ f fd,DefAt K mg "best_tie" s_best_tie ["web"] f fd
 d_hubs_for:∃ f fd,DefAt K mg "hubs_for" s_hubs_for ["web","k"] f fd
 d_show_tie:∃ f fd,DefAt K mg "show_tie" s_show_tie ["tie"] f fd
 d_show_web:∃ f fd,DefAt K mg "show_web" s_show_web ["web"] f fd
 d_number_of:∃ f fd,DefAt K mg "number_of" s_number_of ["word"] f fd
 d_tie_of:∃ f fd,DefAt K mg "tie_of" s_tie_of ["word"] f fd
 d_read_web:∃ f fd,DefAt K mg "read_web" s_read_web ["text"] f fd
 d_is_name:∃ f fd,DefAt K mg "is_name" s_is_name ["word"] f fd
 d_is_row:∃ f fd,DefAt K mg "is_row" s_is_row ["words"] f fd
 d_row_words:∃ f fd,DefAt K mg "row_words" s_row_words ["row"] f fd
 d_show_places:∃ f fd,DefAt K mg "show_places" s_show_places ["wide","places"] f fd
 d_tell_far:∃ f fd,DefAt K mg "tell_far" s_tell_far ["web","numbers"] f fd
 d_tell_farthest:∃ f fd,DefAt K mg "tell_farthest" s_tell_farthest ["web","numbers"] f fd
 d_tell_middles:∃ f fd,DefAt K mg "tell_middles" s_tell_middles ["web","numbers"] f fd
 d_tell_best:∃ f fd,DefAt K mg "tell_best" s_tell_best ["web","numbers"] f fd
 d_tell_hubs:∃ f fd,DefAt K mg "tell_hubs" s_tell_hubs ["web","numbers"] f fd
 d_tell_writing:∃ f fd,DefAt K mg "tell_writing" s_tell_writing ["web","numbers"] f fd
 d_law_cell:∃ f fd,DefAt K mg "_law_cell" s_law_cell ["script","k"] f fd
 d_law_word:∃ f fd,DefAt K mg "_law_word" s_law_word ["desk","row"] f fd
 d_law_none:∃ f fd,DefAt K mg "_law_none" s_law_none [] f fd
 d_law_others:∃ f fd,DefAt K mg "_law_others" s_law_others [] f fd
 d_law:∃ f fd,DefAt K mg "law" s_law ["script"] f fd
 o_Desk:∃ C,ObAt K mg "Desk" C
 n_Desk_webs:∀ C,mg "Desk" = some (.ref C)->NoAttr K C "webs"
 m_Desk____init__:∀ C,mg "Desk" = some (.ref C)->∃ f fd,MeAt K C "__init__" "Desk.__init__" s_Desk____init__ ["self"] f fd
 m_Desk__say:∀ C,mg "Desk" = some (.ref C)->∃ f fd,MeAt K C "say" "Desk.say" s_Desk__say ["self","row"] f fd
 m_Desk__names:∀ C,mg "Desk" = some (.ref C)->∃ f fd,MeAt K C "names" "Desk.names" s_Desk__names ["self"] f fd
 x_TieError:∃ C,XCls K mg "TieError" C
 x_NoPlace:∃ C,XCls K mg "NoPlace" C
 x_NoJoin:∃ C,XCls K mg "NoJoin" C
 x_NoTie:∃ C,XCls K mg "NoTie" C
 x_NoTree:∃ C,XCls K mg "NoTree" C
 x_NoNumber:∃ C,XCls K mg "NoNumber" C
 x_NoText:∃ C,XCls K mg "NoText" C
 x_NoName:∃ C,XCls K mg "NoName" C
 x_NoRow:∃ C,XCls K mg "NoRow" C
 y_NoPlace_TieError:YF K mg "NoPlace" "TieError" true
 y_NoPlace_NoPlace:YF K mg "NoPlace" "NoPlace" true
 y_NoPlace_NoJoin:YF K mg "NoPlace" "NoJoin" false
 y_NoPlace_NoTie:YF K mg "NoPlace" "NoTie" false
 y_NoPlace_NoTree:YF K mg "NoPlace" "NoTree" false
 y_NoPlace_NoNumber:YF K mg "NoPlace" "NoNumber" false
 y_NoPlace_NoText:YF K mg "NoPlace" "NoText" false
 y_NoPlace_NoName:YF K mg "NoPlace" "NoName" false
 y_NoPlace_NoRow:YF K mg "NoPlace" "NoRow" false
 y_NoPlace_ValueError:∀ C,mg "NoPlace" = some (.ref C)->kitOne K (.ref C) (.type "ValueError")=some true
 s_NoPlace_TieError:∀ C D,mg "NoPlace" = some (.ref C)->mg "TieError" = some (.ref D)->mroIn K C (.ref D)=some true
 y_NoJoin_TieError:YF K mg "NoJoin" "TieError" true
 y_NoJoin_NoPlace:YF K mg "NoJoin" "NoPlace" false
 y_NoJoin_NoJoin:YF K mg "NoJoin" "NoJoin" true
 y_NoJoin_NoTie:YF K mg "NoJoin" "NoTie" false
 y_NoJoin_NoTree:YF K mg "NoJoin" "NoTree" false
 y_NoJoin_NoNumber:YF K mg "NoJoin" "NoNumber" false
 y_NoJoin_NoText:YF K mg "NoJoin" "NoText" false
 y_NoJoin_NoName:YF K mg "NoJoin" "NoName" false
 y_NoJoin_NoRow:YF K mg "NoJoin" "NoRow" false
 y_NoJoin_ValueError:∀ C,mg "NoJoin" = some (.ref C)->kitOne K (.ref C) (.type "ValueError")=some true
 s_NoJoin_TieError:∀ C D,mg "NoJoin" = some (.ref C)->mg "TieError" = some (.ref D)->mroIn K C (.ref D)=some true
 y_NoTie_TieError:YF K mg "NoTie" "TieError" true
 y_NoTie_NoPlace:YF K mg "NoTie" "NoPlace" false
 y_NoTie_NoJoin:YF K mg "NoTie" "NoJoin" false
 y_NoTie_NoTie:YF K mg "NoTie" "NoTie" true
 y_NoTie_NoTree:YF K mg "NoTie" "NoTree" false
 y_NoTie_NoNumber:YF K mg "NoTie" "NoNumber" false
 y_NoTie_NoText:YF K mg "NoTie" "NoText" false
 y_NoTie_NoName:YF K mg "NoTie" "NoName" false
 y_NoTie_NoRow:YF K mg "NoTie" "NoRow" false
 y_NoTie_ValueError:∀ C,mg "NoTie" = some (.ref C)->kitOne K (.ref C) (.type "ValueError")=some true
 s_NoTie_TieError:∀ C D,mg "NoTie" = some (.ref C)->mg "TieError" = some (.ref D)->mroIn K C (.ref D)=some true
 y_NoNumber_TieError:YF K mg "NoNumber" "TieError" true
 y_NoNumber_NoPlace:YF K mg "NoNumber" "NoPlace" false
 y_NoNumber_NoJoin:YF K mg "NoNumber" "NoJoin" false
 y_NoNumber_NoTie:YF K mg "NoNumber" "NoTie" false
 y_NoNumber_NoTree:YF K mg "NoNumber" "NoTree" false
 y_NoNumber_NoNumber:YF K mg "NoNumber" "NoNumber" true
 y_NoNumber_NoText:YF K mg "NoNumber" "NoText" false
 y_NoNumber_NoName:YF K mg "NoNumber" "NoName" false
 y_NoNumber_NoRow:YF K mg "NoNumber" "NoRow" false
 y_NoNumber_ValueError:∀ C,mg "NoNumber" = some (.ref C)->kitOne K (.ref C) (.type "ValueError")=some true
 s_NoNumber_TieError:∀ C D,mg "NoNumber" = some (.ref C)->mg "TieError" = some (.ref D)->mroIn K C (.ref D)=some true
 y_NoText_TieError:YF K mg "NoText" "TieError" true
 y_NoText_NoPlace:YF K mg "NoText" "NoPlace" false
 y_NoText_NoJoin:YF K mg "NoText" "NoJoin" false
 y_NoText_NoTie:YF K mg "NoText" "NoTie" false
 y_NoText_NoTree:YF K mg "NoText" "NoTree" false
 y_NoText_NoNumber:YF K mg "NoText" "NoNumber" false
 y_NoText_NoText:YF K mg "NoText" "NoText" true
 y_NoText_NoName:YF K mg "NoText" "NoName" false
 y_NoText_NoRow:YF K mg "NoText" "NoRow" false
 y_NoText_ValueError:∀ C,mg "NoText" = some (.ref C)->kitOne K (.ref C) (.type "ValueError")=some true
 s_NoText_TieError:∀ C D,mg "NoText" = some (.ref C)->mg "TieError" = some (.ref D)->mroIn K C (.ref D)=some true
 y_NoName_TieError:YF K mg "NoName" "TieError" true
 y_NoName_NoPlace:YF K mg "NoName" "NoPlace" false
 y_NoName_NoJoin:YF K mg "NoName" "NoJoin" false
 y_NoName_NoTie:YF K mg "NoName" "NoTie" false
 y_NoName_NoTree:YF K mg "NoName" "NoTree" false
 y_NoName_NoNumber:YF K mg "NoName" "NoNumber" false
 y_NoName_NoText:YF K mg "NoName" "NoText" false
 y_NoName_NoName:YF K mg "NoName" "NoName" true
 y_NoName_NoRow:YF K mg "NoName" "NoRow" false
 y_NoName_ValueError:∀ C,mg "NoName" = some (.ref C)->kitOne K (.ref C) (.type "ValueError")=some true
 s_NoName_TieError:∀ C D,mg "NoName" = some (.ref C)->mg "TieError" = some (.ref D)->mroIn K C (.ref D)=some true
 y_NoRow_TieError:YF K mg "NoRow" "TieError" true
 y_NoRow_NoPlace:YF K mg "NoRow" "NoPlace" false
 y_NoRow_NoJoin:YF K mg "NoRow" "NoJoin" false
 y_NoRow_NoTie:YF K mg "NoRow" "NoTie" false
 y_NoRow_NoTree:YF K mg "NoRow" "NoTree" false
 y_NoRow_NoNumber:YF K mg "NoRow" "NoNumber" false
 y_NoRow_NoText:YF K mg "NoRow" "NoText" false
 y_NoRow_NoName:YF K mg "NoRow" "NoName" false
 y_NoRow_NoRow:YF K mg "NoRow" "NoRow" true
 y_NoRow_ValueError:∀ C,mg "NoRow" = some (.ref C)->kitOne K (.ref C) (.type "ValueError")=some true
 s_NoRow_TieError:∀ C D,mg "NoRow" = some (.ref C)->mg "TieError" = some (.ref D)->mroIn K C (.ref D)=some true
local macro_rules|`(tactic|clear 0 $e*)=>`(tactic|with_reducible first $[|refine $e ?_]*)|`(tactic|clear 1 $e*)=>`(tactic|first $[|((with_reducible refine' $e ?h ?_);(case h=>exact rfl))]*)|`(tactic|clear 2 $e*)=>`(tactic|first $[|((with_reducible refine' $e ?h ?_);(case h=>row_cond hs))]*)|`(tactic|clear 3 $e*)=>`(tactic|first $[|((with_reducible refine' $e ?h ?_);(case h=>row_cond dc))]*)|`(tactic|clear 5 $e*)=>`(tactic|first $[|((with_reducible refine' $e ?h ?k ?_);(case h=>exact rfl);(case k=>assumption))]*)|`(tactic|clear 9 $e*)=>`(tactic|with_reducible first $[|refine $e]*)|`(tactic|clear 7 $a $b:ident)=>`(tactic|((with_reducible refine $a ?_);row_cond $b))
local macro_rules|`(tactic|row_cond sc)=>`(tactic|exact ⟨rfl,rfl,rfl,by decide +kernel,rfl,by decide +kernel,by decide +kernel⟩)
local macro_rules|`(tactic|row_cond gn)=>`(tactic|first|clear 0 oM GK eP vO MK gR GO cQ VN evg_n9 evg_n10 evg_n11 evg_n12 evg_n13 evg_n14 evg_n15 evg_n16 evg_n17 evg_n18 evg_n19 evg_n20 evg_n21 evg_n22 evg_n23 evg_n24 evg_n25|((with_reducible refine U2 ?_); dsimp only [List.set_cons_zero, List.set_cons_succ]))
local macro_rules|`(tactic|row_cond dc)=>`(tactic|first|assumption|lia|(with_reducible rfl))
local macro_rules|`(tactic|row_cond ar)=>`(tactic|first|assumption|(refine ⟨?_, ?_, ?_⟩ <;> decide)|(constructor <;> first | assumption | lia)|(show (0 : Int) < _; first | assumption | lia)|(left; constructor <;> first | assumption | lia)|(right; constructor <;> first | assumption | lia))
local macro_rules|`(tactic|row_cond hs)=>`(tactic|first|exact Or.inl rfl|exact Or.inr rfl)
local macro_rules|`(tactic|row_cond fz)=>`(tactic|first|exact L4|exact cG|exact frz_OT|exact SE|exact ND|assumption)
local macro_rules|`(tactic|row_cond le)=>`(tactic|first|exact Nat.le_of_ble_eq_true rfl|assumption|lia|(simp only [List.length_append, List.length_map, List.length_cons, List.length_nil, List.length_set, List.length_replicate]; lia))
local macro_rules|`(tactic|row_cond ia)=>`(tactic|first|assumption|exact at0|exact at1|exact at2|exact rfl)
local macro_rules|`(tactic|row_cond ty)=>`(tactic|first|exact uR|exact ZT|exact sN|exact AO|exact KJ|exact ty_dict)
local macro_rules|`(tactic|row_cond sEvS)=>`(tactic|first|clear 9 (rQ (fun c_ hc_ => ?_))|clear 0 KN jH xQ|clear 1 EL|clear 0 W5 yJ BB|((with_reducible refine' Z4 ?h ?_);(case h=>assumption)))
local macro_rules|`(tactic|row_cond sEvG)=>`(tactic|first|row_cond gn|clear 1 BI|clear 2 iQ|clear 1 OT|clear 0 evg_st)
local macro_rules|`(tactic|row_cond sEv)=>`(tactic|first|clear 1 MF|clear 0 lM|clear 2 OP|clear 5 tP|clear 2 bK|clear 0 YT|clear 5 fN|((with_reducible refine' bQ ?h0 ?_); (case h0 => row_cond ty))|((with_reducible refine' ES ?h0 ?h1 ?_); (case h0 => row_cond hs); (case h1 => row_cond fz))|clear 1 HJ|clear 5 bN|clear 0 HK|((with_reducible refine' PO ?h0 ?h1 ?_); (case h0 => exact rfl); (case h1 => row_cond fz); dsimp only [List.set_cons_zero, List.set_cons_succ])|clear 0 XL GP kM aJ DR ON IQ qJ|clear 9 (P5 (te:=tCB (xB _) _) ?_) (P5 (te:=tCB (MC _) _) ?_)|clear 0 vB|clear 2 uO|clear 0 ev_listR|((with_reducible refine' GN ?h0 ?_); (case h0 => decide))|clear 0 iN)
local macro_rules|`(tactic|row_cond sEvO)=>`(tactic|first|clear 9 (iE (r:=rCat) ?_) (iE (r:=rRep) ?_) (K3 (te:=tOp _ _ _) ?_) (K3 (te:=tVar _) ?_) (K3 (te:=tC _) ?_)|clear 0 iH GH|clear 1 HH|clear 5 fI|clear 0 XG iT|((with_reducible refine' IF ?h0 ?_); (case h0 => decide))|clear 0 NL DO pH|clear 9 (K3 (te:=tIf _ _ _) ?_) (K3 (te:=YC _ _) ?_) (K3 (te:=AD _) ?_) (K3 (te:=zE _ _ _ _ _) ?_) (K3 (te:=ZC _ _) ?_) (K3 (te:=VC _ _) ?_) (K3 (te:=tCB (rLen _) _) ?_) (K3 (te:=tCB (rIsi _) _) ?_) (K3 (te:=tCB SB _) ?_) (K3 (te:=tCB kB _) ?_) (K3 (te:=tCB (K9 _) _) ?_) (K3 (te:=tCB (rAll _) _) ?_) (K3 (te:=tBM _ _ _ _ _) ?_))
local macro_rules|`(tactic|row_cond sEvI)=>`(tactic|clear 0 UJ WS evi_down jM YR evi_tup)
local macro_rules|`(tactic|row_cond sOp2)=>`(tactic|first|clear 0 rR KQ|((with_reducible refine' wT ?h0 ?_); (case h0 => row_cond ar))|clear 0 aO lP|((with_reducible refine' mK ?h ?_);(case h=>row_cond ia))|((with_reducible refine' MM ?h ?_);(case h=>row_cond ia))|clear 0 vP sR|((with_reducible refine' IE ?h ?_);(case h=>row_cond le)))
local macro_rules|`(tactic|row_cond sRest)=>`(tactic|first|clear 0 x_bl x_st pS WJ|((with_reducible refine' zT ?h0 ?h1 ?_); (case h0 => row_cond hs); (case h1 => row_cond ia))|((with_reducible refine' ZN ?h ?_);(case h=>row_cond ia))|((with_reducible refine' xN ?h0 ?h1 ?_); (case h0 => row_cond hs); (case h1 => row_cond fz))|clear 1 x_sc|((with_reducible refine' HQ ?h ?_);(case h=>row_cond le))|clear 0 U5 u7 oE cD|clear 3 vE eD VO OO|((with_reducible refine' iK ?h0 ?_); (case h0 => first | exact rfl | row_cond hs))|clear 1 x_rt|((with_reducible refine' MP ?h0 ?h1 ?_); (case h0 => exact rfl); (case h1 => row_cond le); dsimp only [List.set_cons_zero, List.set_cons_succ])|((with_reducible refine' QC ?h0 ?h1 ?_); (case h0 => exact rfl); (case h1 => first | exact ixN0 | exact ixN1 | exact ixN2 | assumption); dsimp only [List.set_cons_zero, List.set_cons_succ, reS])|clear 0 XS DP|((with_reducible refine' x_ow ?h0 ?_); (case h0 => exact rfl); dsimp only [List.set_cons_zero, List.set_cons_succ]))
local macro_rules|`(tactic|row_cond st)=>`(tactic|first|clear 7 sS sEvS|clear 7 zR sEvG|((with_reducible refine BR ?_);clear 0 fD tH)|clear 7 g_Ev sEv|clear 7 AM sEvO|((with_reducible refine xL ?_);clear 0 FD lO pT IJ MG L9 qR)|((with_reducible refine BL ?_);clear 0 vL uI)|clear 7 nN sEvI|clear 7 g_EvOp sEvOp|clear 7 YO sOp2|((with_reducible refine g_Op1 ?_);clear 0 op1_Ui)|((with_reducible refine qN ?_);clear 0 TR qS iS aQ)|((with_reducible refine g_FQ ?_);clear 0 WF k6 AF fH)|((with_reducible refine FR ?_);((with_reducible refine' mR ?h ?k ?_);(case h=>lia);(case k=>lia)))|((with_reducible refine oO ?_);((with_reducible refine' VJ ?h0 ?_); (case h0 => lia)))|row_cond sRest)
local macro_rules|`(tactic|row_cond go)=>`(tactic|repeat row_cond st)
def isInt:PyData->Bool
 | .int _=>true
 |_=>false
def btwD(a b:Int):PyData->Bool
 | .int i=>decide (a<=i/\i<=b)
 |_=>false
def MQ:VP:=λss Q=>∃ d,ss=[.st d]/\Q (.st (.bool (isInt d)))
def RK:VP:=λss Q=>∃(a b:Int)(d:PyData),ss=[.st (.int a),.st (.int b),.st d]/\Q (.st (.bool (btwD a b d)))
def pM:VP:=λss Q=>∃(n:Int)(d:PyData),ss=[.st (.int n),.st d]/\Q (.st (.bool (btwD 0 (n-1) d)))
theorem sc_is_whole:FnScope ["thing"] ["thing"] (J0 s_is_whole):=by row_cond sc
theorem KO(T:Txt w K mg):Can P w K mg base "is_whole" 1 ["thing"] (spP K (MQ)):=by
 obtain⟨f,fd,D⟩:=T.d_is_whole;obtain⟨l,c⟩:=T.o_Desk;have a:=c.mgx;have j:=T.n_Desk_webs _ a;refine D.can (D.fn.ok sc_is_whole (λvs H Q E h=>lenP h λss m q=>by obtain⟨d,rfl,k⟩:=q;rfl) (λcdv A outer s H vs Q E n h=>?_));have nd:=sc_is_whole.nd;refine⟨_,(L0 (T0 (q7 (m1 n7 (by rfl) T.b_isinstance y4 (o0 (pv 0) (o0 (T6 (v:=.ty "int") rfl T.b_int vH rfl) q0))) (j9 (EJ (m1 n7 (by rfl) T.b_isinstance y4 (o0 (pv 0) (o0 (T6 (v:=.ty "bool") rfl T.b_bool mQ rfl) q0)))))))),?_⟩;refine V1 h λss m q B o=>?_;refine exS1 ss q λd g=>?_;have k:=g;clear g q;show EvS B _ _ [some (.st d)];row_cond go;cases d with
 |int i=>refine U5 ?_; row_cond go; exact k
 |bool b=>refine U5 ?_; row_cond go; exact k
 |_=>refine u7 ?_;exact k
theorem sc_is_between:FnScope ["least","most","thing"] ["least","most","thing"] (J0 s_is_between):=by row_cond sc
theorem GE(T:Txt w K mg):Can P w K mg base "is_between" 2 ["least","most","thing"] (spP K (RK)):=by
 obtain⟨f,fd,D⟩:=T.d_is_between;obtain⟨l,g⟩:=T.o_Desk;have c:=g.mgx;have m:=T.n_Desk_webs _ c;refine D.can (D.fn.ok sc_is_between (λvs H Q E h=>lenP h λss o q=>by obtain⟨a,b,d,rfl,k⟩:=q;rfl) (λcdv A outer s H vs Q E p h=>?_));have nd:=sc_is_between.nd;refine⟨_,(L0 (T0 (q7 (R0 (KO T) p (o0 (pv 2) q0)) (j9 (eF uB uB (pv 0) (pv 2) (pv 1)))))),?_⟩;refine V1 h λss o q B r=>?_;refine exS3 ss q λa b d j=>?_;have k:=j;clear j q;show EvS B _ _ [some (.st (.int a)),some (.st (.int b)),some (.st d)];row_cond go;refine⟨d,rfl,?_⟩;row_cond go;cases d with
 | int i =>
  refine U5 ?_;row_cond go;refine v6 (λn=>?_) (λn=>?_)
  ·row_cond go;have e:decide (i<=b)=btwD a b (.int i):=by
    show _=decide (a<=i/\i<=b);rw[R7];simp[n]
   rw[e];exact k
  ·have e:false=btwD a b (.int i):=by
    show _=decide (a<=i/\i<=b);exact(Q1 (λz=>n z.1)).symm
   rw[e];exact k
 |_=>exact u7 k
theorem sc_is_place:FnScope ["n","thing"] ["n","thing"] (J0 s_is_place):=by row_cond sc
theorem gC(T:Txt w K mg):Can P w K mg base "is_place" 3 ["n","thing"] (spP K (pM)):=by
 obtain⟨f,fd,D⟩:=T.d_is_place;obtain⟨i,b⟩:=T.o_Desk;have a:=b.mgx;have g:=T.n_Desk_webs _ a;refine D.can (D.fn.ok sc_is_place (λvs H Q E h=>lenP h λss j q=>by obtain⟨n,d,rfl,k⟩:=q;rfl) (λcdv A outer s H vs Q E l h=>?_));have nd:=sc_is_place.nd;refine⟨_,(L0 (T0 (R0 (GE T) l (o0 O2 (o0 (W0 lF (pv 0) O2) (o0 (pv 1) q0)))))),?_⟩;refine V1 h λss j q B m=>?_;refine exS2 ss q λn d c=>?_;have k:=c;clear c q;show EvS B _ _ [some (.st (.int n)),some (.st d)];row_cond go;exact⟨_,_,_,rfl,k⟩
def rM:VP:=λss Q=>∃(n:Int)(es:List (Int × Int)),ss=[.st (webD n es)]/\0<=n/\n<=100/\InN n es/\es.length<=10000/\∀ tl,TiedL n (Tied es) tl->(∀ us∈tl,us.length<=20000)->Q (.own (OLL (tlD tl)))
theorem sc_tied_places:FnScope ["web","n","ties","tied","a","b"] ["web"] (J0 s_tied_places):=by row_cond sc
theorem ZE(T:Txt w K mg):Can P w K mg base "tied_places" 1 ["web"] (spP K (rM)):=by
 obtain⟨f,fd,D⟩:=T.d_tied_places;obtain⟨z,o⟩:=T.o_Desk;have m:=o.mgx;have y:=T.n_Desk_webs _ m;refine D.can (D.fn.ok sc_tied_places (λvs H Q E h=>lenP h λss L q=>by obtain⟨n,es,rfl,M,O,t,I,k⟩:=q;rfl) (λcdv A outer s H vs Q E S h=>?_));have nd:=sc_tied_places.nd
 refine⟨_,(C0 (t3 (pv 0) (T4 rfl (P1 (K0 (i:=1) nd rfl aa) (P1 (K0 (i:=2) nd rfl aa) t4))))
  (C0 (AC (i:=3) nd rfl aa rfl (N:=["place"]) (src:=[none]) (by exact N3 rfl rfl rfl rfl rfl rfl) (YA rfl T.b_range (o0 (pv 1) q0)) (λ_ _ _ _=>(K0 (i:=0) (show List.Nodup (["place"]:List Str) by decide +kernel) rfl aa (hf:=Or.inr rfl))) (λ_ _ _ _=>O3) (λ_ _ _ _=>(Z0 q0)))
  (C0 (OA D9 rfl (K4 (pv 2)) (T4 rfl (P1 (K0 (i:=4) nd rfl aa) (P1 (K0 (i:=5) nd rfl aa) t4)))
   (C0 (t5 (O4 PySem.F.plainAttrs_list PySem.F.slot_list_append PySem.F.type_list_append Z8 (P3 T3 (pv 3) (pv 4) (λ_ _=>rfl)) (o0 (pv 5) q0)))
    (L0 (t5 (O4 PySem.F.plainAttrs_list PySem.F.slot_list_append PySem.F.type_list_append Z8 (P3 T3 (pv 3) (pv 5) (λ_ _=>rfl)) (o0 (pv 4) q0))))))
  (L0 (T0 (pv 3)))))),?_⟩
 refine V1 h λss L q B U=>?_;refine exS2 ss q λn es c=>?_;have M:=c.1;have O:=c.2.1;have t:=c.2.2.1;have I:=c.2.2.2.1;have k:=c.2.2.2.2;clear c q;show EvS B _ _ [some (.st (webD n es)),none,none,none,none,none];row_cond go;rw[kA];refine⟨by lia,?_⟩;row_cond go
 refine ZD (λi e=>∃ G C tl,e=[some (.st (webD n es)),some (.st (.int n)),some (.st (.list (es.map prD))),some (.own (OLL (tlD tl))),G,C]/\TiedL n (Tied (es.take i)) tl/\∀ ws∈tl,ws.length<=2 * i)
  ⟨none,none,List.replicate n.toNat [],by simp[tlD],⟨by simp;lia,λi ws hi w=>?_⟩,λws R=>?_⟩ ?_ ?_
 ·rw[iA] at hi;split at hi
  ·cases hi;simp[Tied]
  ·cases hi
 ·have:=List.eq_of_mem_replicate R;subst this;simp
 ·rintro i ⟨a,b⟩ e hx l;refine exS3 e l λG C tl c=>?_;have p:=c.1;have j:=c.2;clear c l;have hi:i<es.length:=(R1.mp hx).1;obtain⟨a0,a1,b0,b1⟩:=t _ (u3 hx);dsimp only at a0 a1 b0 b1;row_cond go;obtain⟨ws,g,_⟩:=p.get a0 a1;have J:=j ws (u3 g);refine UG (n:=a.toNat) (ds:=ws.map .int) rfl rfl rfl (by rw[N1];exact ZB a0 (by rw[p.1];exact a1)) (tD g) (by rw[N1];lia) ?_;dsimp only[List.set_cons_zero,List.set_cons_succ];have x:=p.put (q:=b) a0 a1 g;rw[show ws.map PyData.int++[.int b]=(ws++[b]).map .int by simp,dI];have d:∀ us∈tl.set a.toNat (ws++[b]),us.length<=2 * i+1:=λus r=>by
   rcases List.mem_or_eq_of_mem_set r with h|h
   ·have:=j us h;lia
   ·subst h;simp;lia
  generalize tl.set a.toNat (ws++[b])=tl2 at x d;row_cond go;obtain⟨ws,g,_⟩:=x.get b0 b1;have J:=d ws (u3 g);refine UG (n:=b.toNat) (ds:=ws.map .int) rfl rfl rfl (by rw[N1];exact ZB b0 (by rw[x.1];exact b1)) (tD g) (by rw[N1];lia) ?_;dsimp only[List.set_cons_zero,List.set_cons_succ];rw[show ws.map PyData.int++[.int a]=(ws++[a]).map .int by simp,dI];refine⟨_,_,_,rfl,(x.put (q:=a) b0 b1 g).iff λu v=>(Tied.snoc hx u v).symm,λus r=>?_⟩;rcases List.mem_or_eq_of_mem_set r with h|h
  ·have:=d us h;lia
  ·subst h;simp;lia
 ·rintro e l;refine exS3 e l λG C tl c=>?_;have p:=c.1;have j:=c.2;clear c l;rw[v8] at p;row_cond go;exact k tl p λus r=>by have:=j us r;lia
@[reducible] def tlV (tl:List (List Int)):PyData:=.list ((tlD tl).map .list)
def tO:VP:=λss Q=>∃(n a:Int)(T:Int->Int->Prop)(tl:List (List Int)),ss=[.st (tlV tl),.st (.int a)]/\n<=100/\TiedL n T tl/\(∀ u v,T u v->0<=v/\v<n)/\0<=a/\a<n/\Q (.own (OL (lab n.toNat (Gr.farO T a))))
theorem sc_far_from:FnScope ["tied","start","far","edge","beyond","place","other"] ["tied","start"] (J0 s_far_from):=by row_cond sc
theorem IG(T:Txt w K mg):Can P w K mg base "far_from" 1 ["tied","start"] (spP K (tO)):=by
 obtain⟨f,fd,D⟩:=T.d_far_from
 obtain⟨W,I⟩:=T.o_Desk;have J:=I.mgx;have U:=T.n_Desk_webs _ J;refine D.can (D.fn.ok sc_far_from (λvs H Q E h=>lenP h λss Q' q=>by obtain⟨n,a,T,tl,rfl,n1,ht,hT,a0,a1,k⟩:=q;rfl) (λcdv A outer s H vs Q E hr h=>?_));have nd:=sc_far_from.nd
 refine ⟨_,(C0 (N0 (i:=2) nd rfl aa (W0 IT (Z0 (o0 U6 q0)) (m1 u6 (by rfl) T.b_len M5 (o0 (pv 0) q0))))
  (C0 (t3 O2 (cF (pv 2) (pv 1) KG))
  (C0 (N0 (i:=3) nd rfl aa (Z0 (o0 (pv 1) q0)))
  (C0  (zK D9 (KM (pv 3))
   (C0  (N0 (i:=4) nd rfl aa (Z0 q0))
    (C0  (OA D9 rfl (K4 (pv 3)) (K0 (i:=5) nd rfl aa)
     (L0  (OA D9 rfl (K4 (P3 T3 (pv 0) (pv 5) (λ_ _=>rfl))) (K0 (i:=6) nd rfl aa)
       (L0 (X1 (o3 WC (P3 T3 (pv 2) (pv 6) (λ_ _=>rfl)) U6 (Q2 _))
         (C0 (t3 (W0 D8 (P3 T3 (pv 2) (pv 5) (λ_ _=>rfl)) O2) (cF (pv 2) (pv 6) KG))
          (L0 (t5 (O4 PySem.F.plainAttrs_list PySem.F.slot_list_append PySem.F.type_list_append Z8 (pv 4) (o0 (pv 6) q0)))))
         W1)))))
    (L0 (N0 (i:=3) nd rfl aa (pv 4))))))
  (L0 (T0 (pv 2))))))),?_⟩
 refine V1 h λss Q' q B hK=>?_;refine exS4 ss q λn a T tl b=>?_;have n1:=b.1;have ht:=b.2.1;have hT:=b.2.2.1;have a0:=b.2.2.2.1;have a1:=b.2.2.2.2.1;have k:=b.2.2.2.2.2;clear b q;show EvS B _ _ [some (.st (tlV tl)),some (.st (.int a)),none,none,none,none,none];have hl:tl.length=n.toNat:=by have:=ht.1;lia
 row_cond go;refine nM (by first|lia|(simp;done)|(simp;lia)) (by first|lia|(simp;done)|(simp;lia)) (by first|lia|(simp;done)|(simp;lia)) ?_;simp only[N1,hl];rw[show((n.toNat:Nat):Int).toNat=n.toNat by lia,NR];row_cond go;refine QC (j:=a.toNat) rfl (by rw[N9];exact ZB a0 (by lia)) ?_;dsimp only[List.set_cons_zero,List.set_cons_succ,reS];rw[show(PyData.int 0)=.int ((0:Nat):Int) from rfl,zH a0 (by lia)];row_cond go;refine DM 3 rfl L4 ?_;dsimp only[List.set_cons_zero,List.set_cons_succ]
 refine GT (λm e=>∃ v4 G t far edge r,e=[some (.st (tlV tl)),some (.st (.int a)),some (.own (OL (lab n.toNat far))),some (.st (.list (edge.map .int))),v4,G,t]/\Gr.Ring T a r far edge/\(∀ v∈edge,0<=v/\v<n)/\m=2 * cnt far n.toNat+(if edge=[] then 0 else 1))
  ⟨_,none,none,none,_,[a],0,rfl,Gr.Ring.start,λv N=>by simp at N;subst N;exact⟨a0,a1⟩,rfl⟩ ?_
 rintro m e l;refine exS6 e l λv4 G t far edge r b=>?_;have R:=b.1;have hb:=b.2.1;have Z:=b.2.2;clear b l;subst Z;row_cond go;rw[wL];cases hedge:edge with
 | nil =>
  subst hedge;refine u7 ?_;row_cond go;rw[sP (g:=Gr.farO T a) λv _ _=>R.fin v];exact k
 | cons e0 er =>
  refine U5 ?_;rw[← hedge];have X:edge ≠ []:=by rw[hedge];simp
  row_cond go
  refine ZD (λi e=>∃ G t c beyond,e=[some (.st (tlV tl)),some (.st (.int a)),some (.own (OL (lab n.toNat c))),some (.st (.list (edge.map .int))),some (.own (OL (beyond.map .int))),G,t]/\Gr.Mid T r far edge (λu=>u∈edge.take i) c beyond/\cnt c n.toNat+beyond.length=cnt far n.toNat/\∀ v∈beyond,0<=v/\v<n)
   ⟨G,t,far,[],rfl,Gr.Mid.start.imp λu M=>by simp at M,rfl,λv N=>by simp at N⟩ ?_ ?_
  ·rintro i p e hp l;refine exS4 e l λG t c beyond b=>?_;have z:=b.1;have C:=b.2.1;have o:=b.2.2;clear b l;have L:=u3 hp;obtain⟨p0,p1⟩:=hb p L;obtain⟨ws,a2,hw⟩:=ht.get p0 p1;have a4:Y0 ((tlD tl).map PyData.list) p=some (.list (ws.map .int)):=PD (f:=PyData.list) (vA p0 (tD a2));row_cond go;have Y:far p=some r:=(R.lab p r).mpr ⟨(R.edg p).mp L,Q0 _⟩
   refine ZD (λj e=>∃ t c beyond,e=[some (.st (tlV tl)),some (.st (.int a)),some (.own (OL (lab n.toNat c))),some (.st (.list (edge.map .int))),some (.own (OL (beyond.map .int))),some (.st (.int p)),t]/\Gr.Mid T r far edge (λu=>u∈edge.take i) c beyond/\cnt c n.toNat+beyond.length=cnt far n.toNat/\(∀ v∈beyond,0<=v/\v<n)/\∀ x∈ws.take j,c x ≠ none)
    ⟨t,c,beyond,rfl,z,C,o,λx hx=>by simp at hx⟩ ?_ ?_
   ·rintro j u e M l;refine exS3 e l λt c beyond b=>?_;have z:=b.1;have C:=b.2.1;have o:=b.2.2.1;have y:=b.2.2.2;clear b l;have tu:T p u:=(hw u).mp (u3 M);obtain⟨O,u1⟩:=hT _ _ tu;have a5:Y0 (lab n.toNat c) u=some (oD (c u)):=mD O (by lia);have a6:Y0 (lab n.toNat c) p=some (.int (r:Int)):=by
     rw[mD p0 (by lia),z.old p r Y];rfl
    row_cond go;rw[QL];cases hf:c u with
    | none =>
     refine U5 ?_;row_cond go;refine QC (j:=u.toNat) rfl (by rw[N9];exact ZB O (by lia)) ?_;dsimp only[List.set_cons_zero,List.set_cons_succ,reS];rw[show(PyData.int ((r:Int)+1))=.int ((r+1:Nat):Int) by simp,zH O (by lia)];have a7:=iG (d:=r+1) O hf (n:=n.toNat) (by lia);have a3:beyond.length<=cnt far n.toNat:=by lia
     have S:∀ m,cnt far m<=m:=λm=>by
      induction m with
      |zero=>exact Q0 _
      |succ m ih=>unfold cnt;split <;> lia
     have:=S n.toNat
     row_cond go;refine⟨some (.st (.int u)),Gr.label c u (r+1),beyond++[u],by simp,z.add L tu hf,by simp;lia,λv N=>?_,λx hx=>?_⟩
     ·rcases N2.mp N with h|h
      ·exact o v h
      ·have:v=u:=by simpa using h
       subst this;exact⟨O,u1⟩
     ·by_cases hx2:x=u
      ·subst hx2;rw[Gr.label_same];simp
      ·rw[Gr.label_ne hx2];rcases lD M hx with h|h
       ·exact y x h
       ·exact absurd h hx2
    | some d =>
     refine u7 ?_;row_cond go;refine⟨_,c,beyond,rfl,z,C,o,λx hx=>?_⟩;rcases lD M hx with h|h
     ·exact y x h
     ·subst h;rw[hf];simp
   ·rintro e l;refine exS3 e l λt c beyond b=>?_;have z:=b.1;have C:=b.2.1;have o:=b.2.2.1;have y:=b.2.2.2;clear b l;rw[v8] at y;refine⟨_,_,c,beyond,rfl,?_,C,o⟩;refine(z.did (u:=p) λx tx=>y x ((hw x).mpr tx)).imp λx hx=>?_;exact lD hp hx
  ·rintro e l;refine exS4 e l λG t c beyond b=>?_;have z:=b.1;have C:=b.2.1;have o:=b.2.2;clear b l;row_cond go;refine⟨_,?_,_,_,_,c,beyond,r+1,rfl,R.next z λu M=>by rw[v8];exact M,o,rfl⟩;rw[y0 X];cases beyond with
   |nil=>rw[z0 rfl];simp at C;lia
   |cons b0 br=>rw[y0 (by simp)];simp at C;lia
def LQ:VP:=λss Q=>∃(n a:Int)(es:List (Int × Int)),ss=[.st (webD n es),.st (.int a)]/\0<=a/\a<n/\Q (.st .none)
def lN:VP:=λss Q=>∃(n a:Int)(es:List (Int × Int)),ss=[.st (webD n es),.st (.int a)]/\n<=100/\InN n es/\es.length<=10000/\0<=a/\a<n/\Q (.own (OL (lab n.toNat (Gr.farO (Tied es) a))))
def KR:VP:=λss Q=>∃(n a b:Int)(es:List (Int × Int)),ss=[.st (webD n es),.st (.int a),.st (.int b)]/\n<=100/\InN n es/\es.length<=10000/\0<=a/\a<n/\0<=b/\b<n/\Q (.st (oD (Gr.farO (Tied es) a b)))
def SM:VP:=λss Q=>∃(n:Int)(es:List (Int × Int)),ss=[.st (webD n es)]/\1<=n/\n<=100/\InN n es/\es.length<=10000/\∀ b:Bool,(b=true ↔ Joined n es)->Q (.st (.bool b))
theorem sc_need_place:FnScope ["web","thing"] ["web","thing"] (J0 s_need_place):=by row_cond sc
theorem nD(T:Txt w K mg):Can P w K mg base "need_place" 4 ["web","thing"] (spP K (LQ)):=by
 obtain⟨f,fd,D⟩:=T.d_need_place;obtain⟨i,d⟩:=T.o_Desk;have c:=d.mgx;have g:=T.n_Desk_webs _ c;refine D.can (D.fn.ok sc_need_place (λvs H Q E h=>lenP h λss j q=>by obtain⟨n,a,es,rfl,a0,a1,k⟩:=q;rfl) (λcdv A outer s H vs Q E l h=>?_));have nd:=sc_need_place.nd
 refine⟨_,(L0 (X1 (n4 (Y3 (R0 (gC T) l (o0 (P3 T3 (pv 0) O2 (λ_ _=>rfl)) (o0 (pv 1) q0)))))
   (L0 t8)
   W1)),?_⟩
 refine V1 h λss j q B m=>?_;refine exS3 ss q λn a es b=>?_;have a0:=b.1;have a1:=b.2.1;have k:=b.2.2;clear b q;show EvS B _ _ [some (.st (webD n es)),some (.st (.int a))];row_cond go;refine⟨_,_,rfl,?_⟩;row_cond go;have e:btwD 0 (n-1) (.int a)=true:=D3 ⟨a0,by lia⟩;rw[e];row_cond go;exact k
theorem sc_all_far:FnScope ["web","a"] ["web","a"] (J0 s_all_far):=by row_cond sc
theorem oG(T:Txt w K mg):Can P w K mg base "all_far" 5 ["web","a"] (spP K (lN)):=by
 obtain⟨f,fd,D⟩:=T.d_all_far;obtain⟨l,d⟩:=T.o_Desk;have c:=d.mgx;have j:=T.n_Desk_webs _ c;refine D.can (D.fn.ok sc_all_far (λvs H Q E h=>lenP h λss p q=>by obtain⟨n,a,es,rfl,o,g,i,a0,a1,k⟩:=q;rfl) (λcdv A outer s H vs Q E m h=>?_));have nd:=sc_all_far.nd
 refine⟨_,(C0 (t5 (R0 (nD T) m (o0 (pv 0) (o0 (pv 1) q0))))
  (L0 (T0 (R0 (IG T) m (o0 (R0 (ZE T) m (o0 (pv 0) q0)) (o0 (pv 1) q0)))))),?_⟩
 refine V1 h λss p q B t=>?_;refine exS3 ss q λn a es b=>?_;have o:=b.1;have g:=b.2.1;have i:=b.2.2.1;have a0:=b.2.2.2.1;have a1:=b.2.2.2.2.1;have k:=b.2.2.2.2.2;clear b q;show EvS B _ _ [some (.st (webD n es)),some (.st (.int a))];row_cond go;refine⟨n,a,es,rfl,a0,a1,?_⟩;row_cond go;refine⟨n,es,rfl,by lia,o,g,i,λtl r _=>?_⟩;refine PQ ?_;row_cond go;exact⟨n,a,Tied es,tl,rfl,o,r,λu v h=>(h.in g).2,a0,a1,k⟩
theorem sc_how_far:FnScope ["web","a","b"] ["web","a","b"] (J0 s_how_far):=by row_cond sc
theorem XR(T:Txt w K mg):Can P w K mg base "how_far" 6 ["web","a","b"] (spP K (KR)):=by
 obtain⟨f,fd,D⟩:=T.d_how_far;obtain⟨m,g⟩:=T.o_Desk;have d:=g.mgx;have l:=T.n_Desk_webs _ d;refine D.can (D.fn.ok sc_how_far (λvs H Q E h=>lenP h λss r q=>by obtain⟨n,a,b,es,rfl,p,i,j,a0,a1,b0,b1,k⟩:=q;rfl) (λcdv A outer s H vs Q E o h=>?_));have nd:=sc_how_far.nd
 refine⟨_,(C0 (t5 (R0 (nD T) o (o0 (pv 0) (o0 (pv 1) q0))))
  (C0 (t5 (R0 (nD T) o (o0 (pv 0) (o0 (pv 2) q0))))
  (L0 (T0 (P3 T3 (R0 (oG T) o (o0 (pv 0) (o0 (pv 1) q0))) (pv 2) (λ_ _=>rfl)))))),?_⟩
 refine V1 h λss r q B u=>?_;refine exS4 ss q λn a b es c=>?_;have p:=c.1;have i:=c.2.1;have j:=c.2.2.1;have a0:=c.2.2.2.1;have a1:=c.2.2.2.2.1;have b0:=c.2.2.2.2.2.1;have b1:=c.2.2.2.2.2.2.1;have k:=c.2.2.2.2.2.2.2;clear c q;show EvS B _ _ [some (.st (webD n es)),some (.st (.int a)),some (.st (.int b))];row_cond go;refine⟨n,a,es,rfl,a0,a1,?_⟩;row_cond go;refine⟨n,b,es,rfl,b0,b1,?_⟩;row_cond go;refine⟨n,a,es,rfl,p,i,j,a0,a1,?_⟩;have t:Y0 (lab n.toNat (Gr.farO (Tied es) a)) b=some (oD (Gr.farO (Tied es) a b)):=mD b0 (by lia);row_cond go;exact k
theorem sc_is_joined:FnScope ["web"] ["web"] (J0 s_is_joined):=by row_cond sc
theorem YI(T:Txt w K mg):Can P w K mg base "is_joined" 6 ["web"] (spP K (SM)):=by
 obtain⟨f,fd,D⟩:=T.d_is_joined;obtain⟨l,c⟩:=T.o_Desk;have b:=c.mgx;have j:=T.n_Desk_webs _ b;refine D.can (D.fn.ok sc_is_joined (λvs H Q E h=>lenP h λss r q=>by obtain⟨n,es,rfl,t,o,g,i,k⟩:=q;rfl) (λcdv A outer s H vs Q E m h=>?_));have nd:=sc_is_joined.nd;refine⟨_,(L0 (T0 (m7 (JC m.units) U6 (R0 (oG T) m (o0 (pv 0) (o0 O2 q0))) rfl))),?_⟩;refine V1 h λss r q B u=>?_;refine exS2 ss q λn es a=>?_;have t:=a.1;have o:=a.2.1;have g:=a.2.2.1;have i:=a.2.2.2.1;have k:=a.2.2.2.2;clear a q;show EvS B _ _ [some (.st (webD n es))];row_cond go;refine⟨n,0,es,rfl,o,g,i,by lia,by lia,?_⟩;row_cond go;refine TC rfl fQ (by simp[PyData.depth]) ?_;row_cond go;refine k _ ?_;rw[z0 rfl,Bool.not_eq_true',← Bool.not_eq_true,ET];constructor
 ·intro h v v0 p;cases e:Gr.farO (Tied es) 0 v with
  |some d=>exact⟨d,Gr.farO_some.mp e⟩
  |none=>exact absurd ⟨v,v0,by lia,e⟩ h
 ·rintro h ⟨v,v0,p,e⟩;obtain⟨d,hd⟩:=h v v0 (by lia);exact Gr.farO_none.mp e d hd
def dsF(es:List (Int × Int))(u v:Int):Int:=(((Gr.farO (Tied es) u v).getD 0:Nat):Int)
def rowD(n:Nat)(r:Int->Int):List PyData:=(List.range n).map λ(i:Nat)=>.int (r (i:Int))
def matD(n:Nat)(m:Int->Int->Int):List PyData:=(List.range n).map λ(u:Nat)=>.list (rowD n (m (u:Int)))
theorem tF{n:Nat}{r:Int->Int}{x:Int}(a:0<=x)(b:x<n):Y0 (rowD n r) x=some (.int (r x)):=by
 have:=P7 (xs:=rowD n r) (j:=x.toNat) (v:=.int (r x)) (by
  unfold rowD;rw[v2,z1 (by simp;lia)];simp[Int.max_eq_left a])
 rwa [show((x.toNat:Nat):Int)=x by lia] at this
theorem TD{n:Nat}{m:Int->Int->Int}{x:Int}(a:0<=x)(b:x<n):Y0 (matD n m) x=some (.list (rowD n (m x))):=by
 have:=P7 (xs:=matD n m) (j:=x.toNat) (v:=.list (rowD n (m x))) (by
  unfold matD;rw[v2,z1 (by simp;lia)];simp[Int.max_eq_left a])
 rwa [show((x.toNat:Nat):Int)=x by lia] at this
theorem XD:rowD n r=((List.range n).map λ(i:Nat)=>r (i:Int)).map .int:=by simp[rowD]
theorem ZJ(c:Joined n es)(a:0<=u)(b:u<n)(v0:0<=v)(g:v<n):∃ d,Gr.farO (Tied es) u v=some d:=by
 cases e:Gr.farO (Tied es) u v with
 |some d=>exact⟨d,rfl⟩
 | none =>
  obtain⟨k,f⟩:=c.conn u v a b v0 g;obtain⟨d,_,hd⟩:=Gr.Dist.of_walk f;exact absurd hd (Gr.farO_none.mp e d)
theorem PL(c:Joined n es)(a:0<=u)(b:u<n):lab n.toNat (Gr.farO (Tied es) u)=rowD n.toNat (dsF es u):=by
 unfold lab rowD;refine DA λi hi=>?_;obtain⟨d,e⟩:=ZJ c a b (show 0<=(i:Int) by lia) (by have:=X2.mp hi;lia);simp only[dsF,e,oD,Option.getD_some]
theorem D5{α:Type}{K:Frag}{src:List (Option Nat)}{a:En}{te:TE}{R:List PyData->En->Prop}{xs:List α}{f : α->PyData}(g : α->PyData)(j:noIo (U0 src a)=true)(w:xs.length<=999999)
  (h:∀ x∈xs,∀ c:Bs,c.K=K->Ev c te (some (.st (f x))::U0 src a) λy m=>y=g x/\m=some (.st (f x))::U0 src a)
  (q:R (xs.map g) a):LcV K (none::src) (Z2 0) tYes te (xs.map f) a R:=by
 have b:noIo (U0 (none::src) a)=true:=by
  show((none::U0 src a).all λs=>!isIo s)=true;rw[List.all_cons];exact(N4 _ _).mpr ⟨rfl,j⟩
 refine⟨λi ys e=>ys=(xs.take i).map g/\∃ o,e=stO o::U0 src a,⟨by simp,none,rfl⟩,?_,?_,?_⟩
 ·rintro i ys e ⟨_,o,rfl⟩;exact⟨⟨isIo_stO.symm,cB⟩,pC dE⟩
 ·rintro i d ys e hd ⟨rfl,o,rfl⟩ c r;rw[v2] at hd;cases hx:xs[i]? with
  |none=>rw[hx] at hd;cases hd
  | some x =>
   rw[hx] at hd;cases hd;have hi:i<xs.length:=(R1.mp hx).1;have n:xs.take (i+1)=xs.take i++[x]:=by rw[Q7,hx];rfl
   refine U2 (L9 ?_);rw[z0 rfl];intro σ G H F Q I k;refine h x (u3 hx) c r σ G H F Q I λv G' H' F' d' m p g' t ⟨u,l⟩=>k v G' H' F' d' m p g' t ?_;subst u l;refine⟨by simp;lia,by rw[n];simp,some _,rfl⟩
 ·rintro ys e ⟨rfl,o,rfl⟩;rw[jD b];simpa using q
theorem CI(h:r8 ns x)(g:r8 ns y):x=y:=Int.le_antisymm (g.2 x h.1) (h.2 y g.1)
theorem pB:∀{ns:List Int},ns ≠ []->∃ x,r8 ns x
 |[a],_=>⟨a,by simp[r8]⟩
 | a::b::r,_=>by
  obtain⟨x,hx,hm⟩:=pB (ns:=b::r) (by simp);by_cases h:a<=x
  ·exact⟨x,Q3 _ hx,λy c=>by
    rcases V0.mp c with rfl|c
    ·exact h
    ·exact hm y c⟩
  ·exact⟨a,E4,λy c=>by
    rcases V0.mp c with rfl|c
    ·exact Int.le_refl _
    ·have:=hm y c;lia⟩
theorem wE(b:1<=n)(m:Int->Int->Int):∃ a:Nat->Int,∀ u:Nat,r8 ((List.range n).map λ(i:Nat)=>m (u:Int) (i:Int)) (a u) :=
 ⟨λu=>Classical.choose (pB (ns:=(List.range n).map λ(i:Nat)=>m (u:Int) (i:Int)) (by simp;lia)),λu=>Classical.choose_spec (pB (ns:=(List.range n).map λ(i:Nat)=>m (u:Int) (i:Int)) (by simp;lia))⟩
theorem VE:zipD (rowD n r) (rowD n q)=(List.range n).map λ(i:Nat)=>.tuple [.int (r (i:Int)),.int (q (i:Int))]:=by
 unfold zipD rowD;rw[List.zip_map',P4];rfl
def pO:VP:=λss Q=>∃(n:Int)(es:List (Int × Int)),ss=[.st (webD n es)]/\1<=n/\n<=100/\InN n es/\es.length<=10000/\Joined n es/\Q (.st .none)
def XO:VP:=λss Q=>∃(n:Int)(es:List (Int × Int)),ss=[.st (webD n es)]/\1<=n/\n<=100/\InN n es/\es.length<=10000/\Joined n es/\Q (.own (OL (matD n.toNat (dsF es))))
def P6(n:Nat)(m:Int->Int->Int)(x:Int):Prop:=(∃ u v:Int,0<=u/\u<n/\0<=v/\v<n/\m u v=x)/\∀ u v:Int,0<=u->u<n->0<=v->v<n->m u v<=x
def FN:VP:=λss Q=>∃(n:Nat)(m:Int->Int->Int),ss=[.st (.list (matD n m))]/\1<=n/\n<=1000/\∀ x,P6 n m x->Q (.st (.int x))
def rwF(m:Int->Int->Int)(r:Int->Int)(a b x:Int):Int:=if r a<r b then (if r a+1+m b x<r x then r a+1+m b x else r x) else (if r b+1+m a x<r x then r b+1+m a x else r x)
def RP:VP:=λss Q=>∃(n:Nat)(m:Int->Int->Int)(r:Int->Int)(a b:Int),ss=[.st (.list (matD n m)),.st (.list (rowD n r)),.st (prD (a,b))]/\n<=1000/\0<=a/\a<n/\0<=b/\b<n/\Q (.own (OL (rowD n (rwF m r a b))))
def wR:VP:=λss Q=>∃(n:Nat)(m:Int->Int->Int)(a b:Int),ss=[.st (.list (matD n m)),.st (prD (a,b))]/\n<=1000/\0<=a/\a<n/\0<=b/\b<n/\Q (.own (OL (matD n λu=>rwF m (m u) a b)))
structure FreeAll(n:Int)(es fs:List (Int × Int)):Prop where
 mem:∀ p:Int × Int,p∈fs ↔ (0<=p.1/\p.1<p.2/\p.2<n/\p ∉ es)
 rise:Rise fs
theorem FreeAll.eq(h:FreeAll n es fs)(g:FreeAll n es a):fs=a:=h.rise.eq g.rise λp=>by rw[h.mem,g.mem]
def yfF(n:Int)(x:Nat):List Int:=(List.range (n-(0+(x:Int)+1)).toNat).map λ(j:Nat)=>0+(x:Int)+1+(j:Int)
theorem lQ:y∈yfF n x ↔ (x:Int)<y/\y<n:=by
 unfold yfF;simp only[T1,X2];constructor
 ·rintro⟨j,a,rfl⟩;lia
 ·intro h;exact⟨(y-x-1).toNat,by lia,by lia⟩
theorem yfF_lt:(yfF n x).Pairwise (· < ·):=by
 unfold yfF;rw[m9];exact List.pairwise_lt_range.imp λ{a b} h=>by lia
def CA(n:Int)(es:List (Int × Int)):List (Int × Int):=(List.range n.toNat).flatMap λx=>((yfF n x).filter λy=>!decide (((x:Int),y)∈es)).map λy=>((x:Int),y)
theorem nE(n:Int)(es:List (Int × Int)):FreeAll n es (CA n es):=by
 refine⟨λp=>?_,?_⟩
 ·unfold CA;simp only[List.mem_flatMap,X2,T1,List.mem_filter,lQ];constructor
  ·rintro⟨x,hx,y,⟨⟨f,d⟩,c⟩,rfl⟩;refine⟨by simp only;lia,f,d,by simpa using c⟩
  ·rintro⟨j,f,d,c⟩;refine⟨p.1.toNat,by lia,p.2,⟨⟨by lia,d⟩,?_⟩,?_⟩
   ·rw[show((p.1.toNat:Nat):Int)=p.1 by lia];simpa using c
   ·rw[show((p.1.toNat:Nat):Int)=p.1 by lia]
 ·unfold CA Rise;rw[List.pairwise_flatMap];refine⟨λx hx=>?_,?_⟩
  ·rw[m9];exact(yfF_lt.filter _).imp λ{a b} h=>.inr ⟨rfl,h⟩
  ·refine List.pairwise_lt_range.imp λ{a b} h p g q i=>?_;obtain⟨_,_,rfl⟩:=T1.mp g;obtain⟨_,_,rfl⟩:=T1.mp i;exact .inl (by simp only;lia)
theorem FreeAll.len(h:FreeAll n es fs)(a:n<=100):fs.length<=10000:=PsOk.len ⟨h.rise.nodup,λp b=>by have:=(h.mem p).mp b;lia⟩ a
def ZS:VP:=λss Q=>∃(n:Int)(es:List (Int × Int)),ss=[.st (webD n es)]/\0<=n/\n<=100/\∀ fs,FreeAll n es fs->Q (.own (OL (fs.map prD)))
theorem sc_need_joined:FnScope ["web"] ["web"] (J0 s_need_joined):=by row_cond sc
theorem fP(T:Txt w K mg):Can P w K mg base "need_joined" 7 ["web"] (spP K (pO)):=by
 obtain⟨f,fd,D⟩:=T.d_need_joined;obtain⟨l,d⟩:=T.o_Desk;have c:=d.mgx;have j:=T.n_Desk_webs _ c;refine D.can (D.fn.ok sc_need_joined (λvs H Q E h=>lenP h λss r q=>by obtain⟨n,es,rfl,o,p,g,i,m,k⟩:=q;rfl) (λcdv A outer s H vs Q E t h=>?_));have nd:=sc_need_joined.nd
 refine⟨_,(L0 (X1 (n4 (Y3 (R0 (YI T) t (o0 (pv 0) q0))))
   (L0 t8)
   W1)),?_⟩
 refine V1 h λss r q B u=>?_;refine exS2 ss q λn es a=>?_;have o:=a.1;have p:=a.2.1;have g:=a.2.2.1;have i:=a.2.2.2.1;have m:=a.2.2.2.2.1;have k:=a.2.2.2.2.2;clear a q;show EvS B _ _ [some (.st (webD n es))];row_cond go;refine⟨n,es,rfl,o,p,g,i,λb hb=>?_⟩;have:b=true:=hb.mpr m;subst this;row_cond go;exact k
theorem sc_far_rows:FnScope ["web","tied"] ["web"] (J0 s_far_rows):=by row_cond sc
theorem rD(T:Txt w K mg):Can P w K mg base "far_rows" 8 ["web"] (spP K (XO)):=by
 obtain⟨f,fd,D⟩:=T.d_far_rows;obtain⟨m,d⟩:=T.o_Desk;have c:=d.mgx;have l:=T.n_Desk_webs _ c;refine D.can (D.fn.ok sc_far_rows (λvs H Q E h=>lenP h λss z q=>by obtain⟨n,es,rfl,y,j,b,g,p,k⟩:=q;rfl) (λcdv A outer s H vs Q E t h=>?_));have nd:=sc_far_rows.nd
 refine⟨_,(C0 (t5 (R0 (fP T) t (o0 (pv 0) q0)))
  (C0 (N0 (i:=1) nd rfl (Or.inr rfl) (R0 (ZE T) t (o0 (pv 0) q0)))
  (L0 (T0 (W4 rfl (N:=["place","tied"]) (src:=[none,some 1]) (by exact N3 rfl rfl rfl rfl rfl rfl) (YA rfl T.b_range (o0 (m1 u6 (by rfl) T.b_len M5 (o0 (pv 1) q0)) q0)) (λ_ _ _ _=>(K0 (i:=0) (show List.Nodup (["place","tied"]:List Str) by decide +kernel) rfl aa (hf:=Or.inr rfl))) (λ_ _ _ _=>O3) (λ_ _ _ _=>(R0 (IG T) t (o0 (pv 1) (o0 (pv 0) q0))))))))),?_⟩
 refine V1 h λss z q B J=>?_;refine exS2 ss q λn es a=>?_;have y:=a.1;have j:=a.2.1;have b:=a.2.2.1;have g:=a.2.2.2.1;have p:=a.2.2.2.2.1;have k:=a.2.2.2.2.2;clear a q;show EvS B _ _ [some (.st (webD n es)),none];row_cond go;refine⟨n,es,rfl,y,j,b,g,p,?_⟩;row_cond go;refine⟨n,es,rfl,by lia,j,b,g,λtl x _=>?_⟩;refine u5 ND ?_;have F:tl.length=n.toNat:=by have:=x.1;lia
 have r:((tlD tl).map PyData.list).length=n.toNat:=by simp[tlD,F]
 row_cond go;rw[r,show(((n.toNat:Nat):Int)).toNat=n.toNat by lia];unfold rngD;refine D5 (λu:Nat=>.list (rowD n.toNat (dsF es (u:Int)))) rfl (by simp;lia) (λu C G I=>?_) ?_
 ·have o:(u:Int)<n:=by have:=X2.mp C;lia
  row_cond go;refine⟨n,0+(u:Int),Tied es,tl,rfl,j,x,λu v h=>(h.in b).2,by lia,by lia,k6 ⟨?_,rfl⟩⟩;rw[Int.zero_add,PL p (by lia) o]
 ·row_cond go;exact k
theorem sc_most_far:FnScope ["rows"] ["rows"] (J0 s_most_far):=by row_cond sc
theorem RF(T:Txt w K mg):Can P w K mg base "most_far" 1 ["rows"] (spP K (FN)):=by
 obtain⟨f,fd,D⟩:=T.d_most_far;obtain⟨o,c⟩:=T.o_Desk;have b:=c.mgx;have l:=T.n_Desk_webs _ b;refine D.can (D.fn.ok sc_most_far (λvs H Q E h=>lenP h λss t q=>by obtain⟨n,m,rfl,p,C,k⟩:=q;rfl) (λcdv A outer s H vs Q E R h=>?_));have nd:=sc_most_far.nd;refine⟨_,(L0 (T0 (m1 (wB rfl) (by rfl) T.b_max VA (o0 (W4 rfl (N:=["row"]) (src:=[none]) (by exact N3 rfl rfl rfl rfl rfl rfl) (K4 (pv 0)) (λ_ _ _ _=>(K0 (i:=0) (show List.Nodup (["row"]:List Str) by decide +kernel) rfl aa (hf:=Or.inr rfl))) (λ_ _ _ _=>O3) (λ_ _ _ _=>(m1 (show l2 _ (.builtin "max") (K9 K) from(wB rfl)) (by rfl) T.b_max VA (o0 (pv 0) q0)))) q0)))),?_⟩;refine V1 h λss t q B S=>?_;refine exS2 ss q λn m a=>?_;have p:=a.1;have C:=a.2.1;have k:=a.2.2;clear a q;show EvS B _ _ [some (.st (.list (matD n m)))];obtain⟨g,d⟩:=wE p m;row_cond go;unfold matD;refine D5 (λu:Nat=>.int (g u)) rfl (by simp;lia) (λu L I M=>?_) ?_
 ·row_cond go;rw[XD];exact MD (by simp;lia) λx hx=>⟨by rw[CI hx (d u)],rfl⟩
 ·row_cond go;rw[show(List.range n).map (λu:Nat=>PyData.int (g u))=((List.range n).map g).map .int by rw[P4];rfl];refine MD (by simp;lia) λx hx=>?_;row_cond go;refine k x ⟨?_,λu v J O v0 G=>?_⟩
  ·obtain⟨i,hi,e⟩:=T1.mp hx.1;obtain⟨j,r,z⟩:=T1.mp (d i).1;exact⟨i,j,by lia,by have:=X2.mp hi;lia,by lia,by have:=X2.mp r;lia,z.trans e⟩
  ·have y:=(d u.toNat).2 (m ((u.toNat:Nat):Int) ((v.toNat:Nat):Int)) (T1.mpr ⟨v.toNat,X2.mpr (by lia),rfl⟩);have F:=hx.2 (g u.toNat) (T1.mpr ⟨u.toNat,X2.mpr (by lia),rfl⟩);rw[show((u.toNat:Nat):Int)=u by lia,show((v.toNat:Nat):Int)=v by lia] at y;lia
theorem sc_row_with:FnScope ["rows","row","tie","a","b","near","beyond","over"] ["rows","row","tie"] (J0 s_row_with):=by row_cond sc
theorem AS(T:Txt w K mg):Can P w K mg base "row_with" 1 ["rows","row","tie"] (spP K (RP)):=by
 obtain⟨f,fd,D⟩:=T.d_row_with
 obtain⟨o,g⟩:=T.o_Desk;have d:=g.mgx;have l:=T.n_Desk_webs _ d;refine D.can (D.fn.ok sc_row_with (λvs H Q E h=>lenP h λss t q=>by obtain⟨n,m,r,a,b,rfl,v,a0,a1,b0,b1,k⟩:=q;rfl) (λcdv A outer s H vs Q E z h=>?_));have nd:=sc_row_with.nd
 refine⟨_,(C0 (t3 (pv 2) (T4 rfl (P1 (K0 (i:=3) nd rfl aa) (P1 (K0 (i:=4) nd rfl aa) t4))))
  (C0 (t3 (CG (o3 fB (P3 T3 (pv 1) (pv 3) (λ_ _=>rfl)) (P3 T3 (pv 1) (pv 4) (λ_ _=>rfl)) (Q2 _)) (L1 (o0 (pv 3) (o0 (pv 4) q0))) (L1 (o0 (pv 4) (o0 (pv 3) q0)))) (T4 rfl (P1 (K0 (i:=5) nd rfl aa) (P1 (K0 (i:=6) nd rfl aa) t4))))
  (C0 (N0 (i:=7) nd rfl (Or.inr rfl) (W0 D8 (P3 T3 (pv 1) (pv 5) (λ_ _=>rfl)) O2))
  (L0 (T0 (W4 rfl (N:=["far","rest","over"]) (src:=[none,none,some 7]) (by exact N3 rfl rfl rfl rfl rfl rfl) (ER rfl T.b_zip (o0 (pv 1) (o0 (P3 T3 (pv 0) (pv 6) (λ_ _=>rfl)) q0))) (λ_ _ _ _=>(show PG _ _ (gTup K 2 (n9 (Z2 0) (n9 (Z2 1) gNil))) from(T4 rfl (P1 (K0 (i:=0) (show List.Nodup (["far","rest","over"]:List Str) by decide +kernel) rfl aa (hf:=Or.inr rfl)) (P1 (K0 (i:=1) (show List.Nodup (["far","rest","over"]:List Str) by decide +kernel) rfl aa (hf:=Or.inr rfl)) t4))))) (λ_ _ _ _=>O3) (λ_ _ _ _=>(m1 (aG rfl) (by rfl) T.b_min HI (o0 (pv 0) (o0 (W0 D8 (pv 2) (pv 1)) q0)))))))))),?_⟩
 refine V1 h λss t q B C=>?_;refine exS5 ss q λn m r a b c=>?_;have v:=c.1;have a0:=c.2.1;have a1:=c.2.2.1;have b0:=c.2.2.2.1;have b1:=c.2.2.2.2.1;have k:=c.2.2.2.2.2;clear c q;show EvS B _ _ [some (.st (.list (matD n m))),some (.st (.list (rowD n r))),some (.st (prD (a,b))),none,none,none,none,none];have x:=tF (r:=r) a0 a1;have rb:=tF (r:=r) b0 b1;have y:=TD (m:=m) a0 a1;have mb:=TD (m:=m) b0 b1;row_cond go;refine v6 (λj=>?_) (λj=>?_)
 ·row_cond go;rw[VE];refine jF (xs:=List.range n) (fa:=λi:Nat=>.int (r (i:Int))) (fb:=λi:Nat=>.int (m b (i:Int))) (λi:Nat=>.int (rwF m r a b (i:Int))) (λ_=>true) rfl (by simp;lia) (λi hi u p=>?_) ?_
  ·refine L9 ⟨rfl,rfl,λ_=>?_⟩;row_cond go;unfold rwF;rw[z0 j];exact⟨rfl,rfl⟩
  ·rw[UD];row_cond go;exact k
 ·row_cond go;rw[VE];refine jF (xs:=List.range n) (fa:=λi:Nat=>.int (r (i:Int))) (fb:=λi:Nat=>.int (m a (i:Int))) (λi:Nat=>.int (rwF m r a b (i:Int))) (λ_=>true) rfl (by simp;lia) (λi hi u p=>?_) ?_
  ·refine L9 ⟨rfl,rfl,λ_=>?_⟩;row_cond go;unfold rwF;rw[y0 j];exact⟨rfl,rfl⟩
  ·rw[UD];row_cond go;exact k
theorem sc_rows_with:FnScope ["rows","tie"] ["rows","tie"] (J0 s_rows_with):=by row_cond sc
theorem ZQ(T:Txt w K mg):Can P w K mg base "rows_with" 2 ["rows","tie"] (spP K (wR)):=by
 obtain⟨f,fd,D⟩:=T.d_rows_with
 obtain⟨l,g⟩:=T.o_Desk;have d:=g.mgx;have j:=T.n_Desk_webs _ d;refine D.can (D.fn.ok sc_rows_with (λvs H Q E h=>lenP h λss p q=>by obtain⟨n,m,a,b,rfl,o,a0,a1,b0,b1,k⟩:=q;rfl) (λcdv A outer s H vs Q E r h=>?_));have nd:=sc_rows_with.nd;refine⟨_,(L0 (T0 (W4 rfl (N:=["row","rows","tie"]) (src:=[none,some 0,some 1]) (by exact N3 rfl rfl rfl rfl rfl rfl) (K4 (pv 0)) (λ_ _ _ _=>(K0 (i:=0) (show List.Nodup (["row","rows","tie"]:List Str) by decide +kernel) rfl aa (hf:=Or.inr rfl))) (λ_ _ _ _=>O3) (λ_ _ _ _=>(R0 (AS T) r (o0 (pv 1) (o0 (pv 0) (o0 (pv 2) q0)))))))),?_⟩;refine V1 h λss p q B y=>?_;refine exS4 ss q λn m a b c=>?_;have o:=c.1;have a0:=c.2.1;have a1:=c.2.2.1;have b0:=c.2.2.2.1;have b1:=c.2.2.2.2.1;have k:=c.2.2.2.2.2;clear c q;show EvS B _ _ [some (.st (.list (matD n m))),some (.st (prD (a,b)))];row_cond go;unfold matD;refine D5 (f:=λu:Nat=>.list (rowD n (m (u:Int)))) (λu:Nat=>.list (rowD n (rwF m (m (u:Int)) a b))) rfl (by simp;lia) (λu v t x=>?_) ?_
 ·row_cond go;refine⟨n,m,m (u:Int),a,b,rfl,o,a0,a1,b0,b1,k6 ⟨rfl,rfl⟩⟩
 ·row_cond go;exact k
theorem sc_free_ties:FnScope ["web","n","ties"] ["web"] (J0 s_free_ties):=by row_cond sc
theorem rK(T:Txt w K mg):Can P w K mg base "free_ties" 1 ["web"] (spP K (ZS)):=by
 obtain⟨f,fd,D⟩:=T.d_free_ties;obtain⟨g,c⟩:=T.o_Desk;have b:=c.mgx;have d:=T.n_Desk_webs _ b;refine D.can (D.fn.ok sc_free_ties (λvs H Q E h=>lenP h λss r q=>by obtain⟨n,es,rfl,v,p,k⟩:=q;rfl) (λcdv A outer s H vs Q E C h=>?_));have nd:=sc_free_ties.nd
 refine⟨_,(C0 (t3 (pv 0) (T4 rfl (P1 (K0 (i:=1) nd rfl (Or.inr rfl)) (P1 (K0 (i:=2) nd rfl (Or.inr rfl)) t4))))
  (L0 (T0 (RN rfl (N:=["a","b","n","ties"]) (src:=[none,none,some 1,some 2]) (by exact N3 rfl rfl rfl rfl rfl rfl) (YA rfl T.b_range (o0 (pv 1) q0)) (λ_ _ _ _=>(K0 (i:=0) (show List.Nodup (["a","b","n","ties"]:List Str) by decide +kernel) rfl aa (hf:=Or.inr rfl))) (λ_ _ _ _=>O3) (λ_ _ _ _=>(gM rfl T.b_range (o0 (W0 D8 (pv 0) O2) (o0 (pv 2) q0)))) (λ_ _ _ _=>(K0 (i:=1) (show List.Nodup (["a","b","n","ties"]:List Str) by decide +kernel) rfl aa (hf:=Or.inr rfl))) (λ_ _ _ _=>UT (o3 (JC C.units) (L1 (o0 (pv 0) (o0 (pv 1) q0))) (pv 3) rfl)) (λ_ _ _ _=>(L1 (o0 (pv 0) (o0 (pv 1) q0)))))))),?_⟩
 refine V1 h λss r q B G=>?_;refine exS2 ss q λn es a=>?_;have v:=a.1;have p:=a.2.1;have k:=a.2.2;clear a q;show EvS B _ _ [some (.st (webD n es)),none,none];row_cond go;have j:=nE n es;have m:=j.len p;have l:((List.range n.toNat).flatMap λx=>((yfF n x).filter λy=>!decide (((x:Int),y)∈es)).map λy=>PyData.tuple [.int (0+(x:Int)),.int y])=(CA n es).map prD:=by
  unfold CA;rw[List.map_flatMap];congr 1
  funext x
  rw[P4];refine DA λy _=>?_;simp[prD]
 unfold rngD;refine eT (xs:=List.range n.toNat) (yfF n) .int (λx y=>.tuple [.int (0+(x:Int)),.int y]) (λx y=>!decide (((x:Int),y)∈es)) ?_ ?_ ?_ ?_ ?_
 ·exact mS rfl
 ·rw[l,N1];lia
 ·intro x hx t u o;have z:(x:Int)<n:=by have:=X2.mp hx;lia
  row_cond go;unfold yfF rngD;rw[P4];exact⟨rfl,rfl⟩
 ·intro x hx y F t u;row_cond go;refine TC (UM (_,_)) (uL es) (D2 (MS (_,_)) (by decide)) ?_;rw[z0 rfl,show PyData.tuple [PyData.int (0+(x:Int)),PyData.int y]=prD (0+(x:Int),y) from rfl,rO];refine⟨_,rfl,by rw[Int.zero_add],rfl,λ_=>?_⟩;row_cond go;exact rfl
 ·rw[l];exact k _ j
structure FarOk(n:Int)(es:List (Int × Int))(x a b:Int):Prop where
 top:P6 n.toNat (dsF es) x
 a0:0<=a
 a1:a<n
 b0:0<=b
 b1:b<n
 eq:dsF es a b=x
 fst:∀ u v:Int,0<=u->u<n->0<=v->v<n->dsF es u v=x->a<u\/(a=u/\b<=v)
def LR:VP:=λss Q=>∃(n:Int)(es:List (Int × Int)),ss=[.st (webD n es)]/\1<=n/\n<=100/\InN n es/\es.length<=10000/\Joined n es/\∀ x a b,FarOk n es x a b->Q (.st (.tuple [.int x,.int a,.int b]))
theorem RG{ns:List Int}{k:Int}(h:k∈ns):∃ j:Nat,ns[j]?=some k/\∀ m:Nat,m<j->ns[m]? ≠ some k:=by
 induction ns with
 |nil=>simp at h
 | cons n ns ih =>
  by_cases e:n=k
  ·exact⟨0,by rw[e];rfl,λm hm=>by lia⟩
  ·obtain⟨j,a,b⟩:=ih ((V0.mp h).resolve_left λz=>e z.symm);refine⟨j+1,a,λm hm=>?_⟩;cases m with
   |zero=>simpa using e
   |succ m=>exact b m (by lia)
theorem sc_farthest_two:FnScope ["web","rows","far","a"] ["web"] (J0 s_farthest_two):=by row_cond sc
theorem bP(T:Txt w K mg):Can P w K mg base "farthest_two" 9 ["web"] (spP K (LR)):=by
 obtain⟨f,fd,D⟩:=T.d_farthest_two;obtain⟨R,l⟩:=T.o_Desk;have m:=l.mgx;have O:=T.n_Desk_webs _ m;refine D.can (D.fn.ok sc_farthest_two (λvs H Q E h=>lenP h λss Q' q=>by obtain⟨n,es,rfl,n0,n1,o,p,hJ,k⟩:=q;rfl) (λcdv A outer s H vs Q E Z h=>?_));have nd:=sc_farthest_two.nd
 refine⟨_,(C0 (N0 (i:=1) nd rfl aa (R0 (rD T) Z (o0 (pv 0) q0)))
  (C0 (N0 (i:=2) nd rfl aa (R0 (RF T) Z (o0 (pv 1) q0)))
  (C0 (N0 (i:=3) nd rfl aa (O4 PySem.F.plainAttrs_list PySem.F.slot_list_index PySem.F.type_list_index tG (W4 rfl (N:=["row"]) (src:=[none]) (by exact N3 rfl rfl rfl rfl rfl rfl) (K4 (pv 1)) (λ_ _ _ _=>(K0 (i:=0) (show List.Nodup (["row"]:List Str) by decide +kernel) rfl aa (hf:=Or.inr rfl))) (λ_ _ _ _=>O3) (λ_ _ _ _=>(m1 (show l2 _ (.builtin "max") (K9 K) from(wB rfl)) (by rfl) T.b_max VA (o0 (pv 0) q0)))) (o0 (pv 2) q0)))
  (L0 (T0 (L1 (o0 (pv 2) (o0 (pv 3) (o0 (O4 PySem.F.plainAttrs_list PySem.F.slot_list_index PySem.F.type_list_index tG (P3 T3 (pv 1) (pv 3) (λ_ _=>rfl)) (o0 (pv 2) q0)) q0))))))))),?_⟩
 refine V1 h λss Q' q B hK=>?_;refine exS2 ss q λn es c=>?_;have n0:=c.1;have n1:=c.2.1;have o:=c.2.2.1;have p:=c.2.2.2.1;have hJ:=c.2.2.2.2.1;have k:=c.2.2.2.2.2;clear c q;show EvS B _ _ [some (.st (webD n es)),none,none,none];have hn:1<=n.toNat:=by lia
 obtain⟨y,d⟩:=wE hn (dsF es);row_cond go;refine⟨n,es,rfl,n0,n1,o,p,hJ,u5 L4 ?_⟩;row_cond go;refine⟨n.toNat,dsF es,rfl,hn,by lia,λx hx=>?_⟩;have L:x∈(List.range n.toNat).map y:=by
  obtain⟨⟨u,v,U,Y,v0,v1,e⟩,g⟩:=hx;refine T1.mpr ⟨u.toNat,X2.mpr (by lia),?_⟩;have X:=(d u.toNat).2 (dsF es ((u.toNat:Nat):Int) ((v.toNat:Nat):Int)) (T1.mpr ⟨v.toNat,X2.mpr (by lia),rfl⟩);rw[show((u.toNat:Nat):Int)=u by lia,show((v.toNat:Nat):Int)=v by lia,e] at X;obtain⟨j,S,I⟩:=T1.mp (d u.toNat).1;have:=g u j U Y (by lia) (by have:=X2.mp S;lia);rw[show((u.toNat:Nat):Int)=u by lia] at I;lia
 obtain⟨a,ha,r⟩:=RG L;have W:a<n.toNat:=by have:=(R1.mp ha).1;simpa using this
 have J:y a=x:=by
  rw[v2,xC W] at ha;simpa using ha
 have M:x∈(List.range n.toNat).map λ(i:Nat)=>dsF es (a:Int) (i:Int):=by rw[← J];exact(d a).1
 obtain⟨b,hb,t⟩:=RG M;have C:b<n.toNat:=by have:=(R1.mp hb).1;simpa using this
 have G:dsF es (a:Int) (b:Int)=x:=by
  rw[v2,xC C] at hb;simpa using hb
 have a0:Y0 (matD n.toNat (dsF es)) (a:Int)=some (.list (rowD n.toNat (dsF es (a:Int)))):=TD (by lia) (by lia);row_cond go;unfold matD;refine D5 (λu:Nat=>.int (y u)) rfl (by simp;lia) (λu hu B' hB=>?_) ?_
 ·row_cond go;rw[XD];exact MD (by simp;lia) λx hx=>⟨by rw[CI hx (d u)],rfl⟩
 ·refine⟨(List.range n.toNat).map y,by rw[P4];rfl,?_⟩;row_cond go;refine⟨x,a,rfl,ha,r,?_⟩;row_cond go;refine⟨(List.range n.toNat).map λ(i:Nat)=>dsF es (a:Int) (i:Int),by rw[XD],?_⟩;row_cond go;refine⟨x,b,rfl,hb,t,?_⟩;row_cond go;refine k x a b ⟨hx,by lia,by lia,by lia,by lia,G,λu v U Y v0 v1 e=>?_⟩;have hu:(a:Int)<=u:=by
   apply aC;intro z;refine r u.toNat (by lia) ?_;rw[v2,xC (by lia)];have X:=(d u.toNat).2 (dsF es ((u.toNat:Nat):Int) ((v.toNat:Nat):Int)) (T1.mpr ⟨v.toNat,X2.mpr (by lia),rfl⟩);rw[show((u.toNat:Nat):Int)=u by lia,show((v.toNat:Nat):Int)=v by lia,e] at X;obtain⟨j,S,I⟩:=T1.mp (d u.toNat).1;have:=hx.2 u j U (by lia) (by lia) (by have:=X2.mp S;lia);rw[show((u.toNat:Nat):Int)=u by lia] at I;simp only[P8,Option.some.injEq];lia
  by_cases hau:(a:Int)<u
  ·exact .inl hau
  ·refine .inr ⟨by lia,?_⟩;apply aC;intro z;refine t v.toNat (by lia) ?_;rw[v2,xC (by lia)];simp only[P8,Option.some.injEq];rw[show((v.toNat:Nat):Int)=v by lia,show(a:Int)=u by lia];exact e
def mW(es:List (Int × Int))(p:Int × Int):Int->Int->Int:=λu=>rwF (dsF es) (dsF es u) p.1 p.2
theorem lH(g:1<=n)(m:Int->Int->Int):∃ x,P6 n m x:=by
 obtain⟨b,a⟩:=wE g m;obtain⟨x,hx⟩:=pB (ns:=(List.range n).map b) (by simp;lia);refine⟨x,?_,λu v o p v0 l=>?_⟩
 ·obtain⟨i,hi,e⟩:=T1.mp hx.1;obtain⟨j,c,f⟩:=T1.mp (a i).1;exact⟨i,j,by lia,by have:=X2.mp hi;lia,by lia,by have:=X2.mp c;lia,f.trans e⟩
 ·have d:=(a u.toNat).2 (m ((u.toNat:Nat):Int) ((v.toNat:Nat):Int)) (T1.mpr ⟨v.toNat,X2.mpr (by lia),rfl⟩);have h:=hx.2 (b u.toNat) (T1.mpr ⟨u.toNat,X2.mpr (by lia),rfl⟩);rw[show((u.toNat:Nat):Int)=u by lia,show((v.toNat:Nat):Int)=v by lia] at d;lia
theorem aD(h:P6 n m x)(g:P6 n m y):x=y:=by
 obtain⟨u,v,a,b,c,d,e⟩:=h.1;obtain⟨l,f,o,j,i,d',p⟩:=g.1;have:=g.2 u v a b c d;have:=h.2 l f o j i d';lia
def tpF(n:Nat)(n0:1<=n)(es:List (Int × Int))(p:Int × Int):Int:=Classical.choose (lH n0 (mW es p))
theorem SC(a:1<=n)(es:List (Int × Int))(p:Int × Int):P6 n (mW es p) (tpF n a es p):=Classical.choose_spec (lH a (mW es p))
def o3D:Option Z3->PyData
 |none=>.none
 |some z=>z3D z
def BestOk(n:Int)(es:List (Int × Int))(o:Option Z3):Prop:=∀ fs,FreeAll n es fs->match o with
 |none=>fs=[]
 |some z=>z.2∈fs/\P6 n.toNat (mW es z.2) z.1/\∀ y:Z3,y.2∈fs->P6 n.toNat (mW es y.2) y.1->¬ lt3 y z
theorem BestOk.uniq(h:BestOk n es o)(g:BestOk n es q):o=q:=by
 have h:=h _ (nE n es);have g:=g _ (nE n es);cases o with
 | none =>
  cases q with
  |none=>rfl
  |some z=>simp only at h g;rw[h] at g;simp at g
 | some y =>
  cases q with
  |none=>simp only at h g;rw[g] at h;simp at h
  | some z =>
   obtain⟨a,i,b⟩:=h;obtain⟨c,f,d⟩:=g;rcases bJ y z with e|e|e
   ·exact absurd e (d y a i)
   ·rw[e]
   ·exact absurd e (b z c f)
def jL:VP:=λss Q=>∃(n:Int)(es:List (Int × Int)),ss=[.st (webD n es)]/\1<=n/\n<=100/\InN n es/\es.length<=10000/\Joined n es/\∀ o,BestOk n es o->Q (.st (o3D o))
theorem sc_best_tie:FnScope ["web","rows"] ["web"] (J0 s_best_tie):=by row_cond sc
theorem HP(T:Txt w K mg):Can P w K mg base "best_tie" 9 ["web"] (spP K (jL)):=by
 obtain⟨f,fd,D⟩:=T.d_best_tie;obtain⟨t,c⟩:=T.o_Desk;have b:=c.mgx;have r:=T.n_Desk_webs _ b;refine D.can (D.fn.ok sc_best_tie (λvs H Q E h=>lenP h λss L q=>by obtain⟨n,es,rfl,G,o,g,j,F,k⟩:=q;rfl) (λcdv A outer s H vs Q E l h=>?_));have nd:=sc_best_tie.nd
 refine⟨_,(C0 (N0 (i:=1) nd rfl (Or.inr rfl) (R0 (rD T) l (o0 (pv 0) q0)))
  (L0 (T0 (nQ l.units rfl (by rfl) T.b_min (o0 (W4 rfl (N:=["tie","rows"]) (src:=[none,some 1]) (by exact N3 rfl rfl rfl rfl rfl rfl) (K4 (R0 (rK T) l (o0 (pv 0) q0))) (λ_ _ _ _=>(K0 (i:=0) (show List.Nodup (["tie","rows"]:List Str) by decide +kernel) rfl aa (hf:=Or.inr rfl))) (λ_ _ _ _=>O3) (λ_ _ _ _=>(L1 (o0 (R0 (RF T) l (o0 (R0 (ZQ T) l (o0 (pv 1) (o0 (pv 0) q0))) q0)) (o0 (pv 0) q0))))) q0) U6)))),?_⟩
 refine V1 h λss L q B W=>?_;refine exS2 ss q λn es a=>?_;have G:=a.1;have o:=a.2.1;have g:=a.2.2.1;have j:=a.2.2.2.1;have F:=a.2.2.2.2.1;have k:=a.2.2.2.2.2;clear a q;show EvS B _ _ [some (.st (webD n es)),none];row_cond go;refine⟨n,es,rfl,G,o,g,j,F,u5 L4 ?_⟩;row_cond go;refine K3 (vB ?_);row_cond go;refine⟨n,es,rfl,by lia,o,λfs m=>k6 ?_⟩;have I:=m.len o;have hn:1<=n.toNat:=by lia
 row_cond go;refine D5 (f:=prD) (λp=>z3D (tpF n.toNat hn es p,p)) rfl (by lia) (λp C S U=>?_) ?_
 ·have hm:=(m.mem p).mp C;row_cond go;refine⟨n.toNat,dsF es,p.1,p.2,rfl,by lia,by lia,by lia,by lia,by lia,k6 ?_⟩;row_cond go;refine⟨n.toNat,mW es p,rfl,hn,by lia,λx hx=>?_⟩;row_cond go;exact⟨by rw[aD hx (SC hn es p)],rfl⟩
 ·row_cond go;rw[show(fs.map λp=>z3D (tpF n.toNat hn es p,p))=(fs.map λp=>((tpF n.toNat hn es p,p):Z3)).map z3D by rw[P4];rfl];refine AN (λe=>?_) λz M d=>?_
  ·refine k none λJ v=>?_;have:fs=[]:=by simpa using e
   rw[← m.eq v];exact this
  ·obtain⟨p,C,rfl⟩:=T1.mp M;refine k (some (tpF n.toNat hn es p,p)) λJ v=>?_;rw[← m.eq v];refine⟨C,SC hn es p,λy R O u=>d y (T1.mpr ⟨y.2,R,?_⟩) u⟩;exact Prod.ext (aD (SC hn es y.2) O) rfl
def D4(n:Int):PyData->Bool
 | .tuple [.int a,.int b]=>decide (0<=a/\a<=n-1) && decide (0<=b/\b<=n-1) && decide (a<b)
 |_=>false
def M7(n:Int):PyData->Bool
 | .list ds=>ds.all (D4 n)
 |_=>false
def JK:VP:=λss Q=>∃(n:Int)(d:PyData),ss=[.st (.int n),.st d]/\Q (.st (.bool (D4 n d)))
def NJ:VP:=λss Q=>∃(n:Int)(d:PyData),ss=[.st (.int n),.st d]/\(∀ ds,d=.list ds->ds.length<=100000)/\Q (.st (.bool (M7 n d)))
def rL:VP:=λss Q=>∃(ps:List (Int × Int)),ss=[.st (.list (ps.map prD))]/\ps.length<=100000/\∀ b:Bool,(b=true ↔ Rise ps)->Q (.st (.bool b))
theorem sc_is_tie:FnScope ["n","thing","a","b"] ["n","thing"] (J0 s_is_tie):=by row_cond sc
theorem SJ (T:Txt w K mg):Can P w K mg base "is_tie" 4 ["n","thing"] (spP K (JK)):=by
 obtain⟨f,fd,D⟩:=T.d_is_tie;obtain⟨o,j⟩:=T.o_Desk;have g:=j.mgx;have m:=T.n_Desk_webs _ g;refine D.can (D.fn.ok sc_is_tie (λvs H Q E h=>lenP h λss t q=>by obtain⟨n,d,rfl,k⟩:=q;rfl) (λcdv A outer s H vs Q E r h=>?_));have nd:=sc_is_tie.nd
 refine⟨_,(C0 (X1 (PW.pt (O8 (n4 (Y3 (m1 n7 (by rfl) T.b_isinstance y4 (o0 (pv 1) (o0 (T6 (v:=.ty "tuple") rfl T.b_tuple RB rfl) q0))))) (E9 (o3 OH (m1 u6 (by rfl) T.b_len M5 (o0 (pv 1) q0)) O2 (Q2 _)))))
   (L0 (T0 O7))
   W1)
  (C0 (t3 (pv 1) (T4 rfl (P1 (K0 (i:=2) nd rfl aa) (P1 (K0 (i:=3) nd rfl aa) t4))))
  (L0 (T0 (q7 (R0 (gC T) r (o0 (pv 0) (o0 (pv 2) q0))) (q7 (R0 (gC T) r (o0 (pv 0) (o0 (pv 3) q0))) (j9 (m7 fB (pv 2) (pv 3) (Q2 _))))))))),?_⟩
 refine V1 h λss t q B u=>?_;refine exS2 ss q λn d l=>?_;have k:=l;clear l q;show EvS B _ _ [some (.st (.int n)),some (.st d),none,none];row_cond go;cases d with
 | tuple xs =>
  refine oE ?_;row_cond go;rcases(show xs.length=2\/xs.length ≠ 2 by lia) with p|p
  ·match xs,p with
   | [x,y],_ =>
    row_cond go;refine⟨n,x,rfl,?_⟩;row_cond go;have c:D4 n (.tuple [x,y])=(btwD 0 (n-1) x && (btwD 0 (n-1) y && match x,y with | .int a,.int b=>decide (a<b)|_,_=>false)):=by
     cases x <;> cases y <;> simp[D4,btwD,Bool.and_assoc]
    cases hx:btwD 0 (n-1) x with
    | false =>
     rw[hx,Bool.false_and] at c;refine u7 ?_;rw[← c];exact k
    | true =>
     refine U5 ?_;row_cond go;refine⟨n,y,rfl,?_⟩;row_cond go;cases hy:btwD 0 (n-1) y with
     | false =>
      rw[hx,hy] at c;refine u7 ?_;rw[show false=D4 n (.tuple [x,y]) by rw[c];rfl];exact k
     | true =>
      refine U5 ?_;cases x with
      | int a =>
       cases y with
       | int b =>
        row_cond go;rw[hx,hy] at c;rw[show decide (a<b)=D4 n (.tuple [.int a,.int b]) by rw[c];rfl];exact k
       |_=>simp[btwD] at hy
      |_=>simp[btwD] at hx
  ·row_cond go;have:D4 n (.tuple xs)=false:=by
    match xs,p with
    |[],_=>rfl
    |[x],_=>cases x <;> rfl
    |[_,_],h=>exact absurd rfl h
    |x::y::_::_,_=>cases x <;> cases y <;> rfl
   rw[← this];exact k
 | _ =>
  refine cD ?_;row_cond go;exact k
theorem sc_are_ties:FnScope ["n","thing"] ["n","thing"] (J0 s_are_ties):=by row_cond sc
theorem gF(T:Txt w K mg):Can P w K mg base "are_ties" 5 ["n","thing"] (spP K (NJ)):=by
 obtain⟨f,fd,D⟩:=T.d_are_ties;obtain⟨j,b⟩:=T.o_Desk;have a:=b.mgx;have g:=T.n_Desk_webs _ a;refine D.can (D.fn.ok sc_are_ties (λvs H Q E h=>lenP h λss m q=>by obtain⟨n,d,rfl,l,k⟩:=q;rfl) (λcdv A outer s H vs Q E o h=>?_));have nd:=sc_are_ties.nd;refine⟨_,(L0 (T0 (q7 (m1 n7 (by rfl) T.b_isinstance y4 (o0 (pv 1) (o0 (T6 (v:=.ty "list") rfl T.b_list WK rfl) q0))) (j9 (m1 (jC rfl) (by rfl) T.b_all nC (o0 (W4 rfl (N:=["tie","n"]) (src:=[none,some 0]) (by exact N3 rfl rfl rfl rfl rfl rfl) (K4 (pv 1)) (λ_ _ _ _=>(K0 (i:=0) (show List.Nodup (["tie","n"]:List Str) by decide +kernel) rfl aa (hf:=Or.inr rfl))) (λ_ _ _ _=>O3) (λ_ _ _ _=>(R0 (SJ T) o (o0 (pv 1) (o0 (pv 0) q0))))) q0)))))),?_⟩;refine V1 h λss m q B u=>?_;refine exS2 ss q λn d c=>?_;have l:=c.1;have k:=c.2;clear c q;show EvS B _ _ [some (.st (.int n)),some (.st d)];row_cond go;cases d with
 | list ds =>
  have l:=l ds rfl;refine U5 ?_;row_cond go;refine aF (λt=>.bool (D4 n t)) rfl (by lia) (λt _ p r=>?_) ?_
  ·row_cond go;exact⟨n,t,rfl,rfl,rfl⟩
  ·row_cond go;rw[show(ds.map λt=>PyData.bool (D4 n t))=(ds.map (D4 n)).map .bool by rw[P4];rfl];refine NB ?_;row_cond go;rw[show(ds.map (D4 n)).all id=M7 n (.list ds) by simp[M7,List.all_map]];exact k
 | _ =>
  refine u7 ?_;exact k
theorem sc_is_rising:FnScope ["things"] ["things"] (J0 s_is_rising):=by row_cond sc
theorem vI(T:Txt w K mg):Can P w K mg base "is_rising" 1 ["things"] (spP K (rL)):=by
 obtain⟨f,fd,D⟩:=T.d_is_rising;obtain⟨m,b⟩:=T.o_Desk;have a:=b.mgx;have l:=T.n_Desk_webs _ a;refine D.can (D.fn.ok sc_is_rising (λvs H Q E h=>lenP h λss r q=>by obtain⟨ps,rfl,t,k⟩:=q;rfl) (λcdv A outer s H vs Q E u h=>?_));have nd:=sc_is_rising.nd;refine⟨_,(L0 (T0 (m1 (jC rfl) (by rfl) T.b_all nC (o0 (W4 rfl (N:=["at","things"]) (src:=[none,some 0]) (by exact N3 rfl rfl rfl rfl rfl rfl) (YA rfl T.b_range (o0 (W0 lF (m1 u6 (by rfl) T.b_len M5 (o0 (pv 0) q0)) O2) q0)) (λ_ _ _ _=>(K0 (i:=0) (show List.Nodup (["at","things"]:List Str) by decide +kernel) rfl aa (hf:=Or.inr rfl))) (λ_ _ _ _=>O3) (λ_ _ _ _=>(m7 (show OpR _ (compareOp .Lt) (rLtT K) from MR u.units0) (P3 (show IxR _ (Y5 K) from T3) (pv 1) (pv 0) (λ_ _=>rfl)) (P3 (show IxR _ (Y5 K) from T3) (pv 1) (W0 D8 (pv 0) O2) (λ_ _=>rfl)) (Q2 _)))) q0)))),?_⟩;refine V1 h λss r q B z=>?_;refine exS1 ss q λps c=>?_;have t:=c.1;have k:=c.2;clear c q;show EvS B _ _ [some (.st (.list (ps.map prD)))];row_cond go;rw[N1];row_cond go;refine aF (λd=>match d with | .int i=>.bool (match ps[i.toNat]?,ps[i.toNat+1]? with|some p,some q=>HT.lexLt (p2 p) (p2 q)|_,_=>false)|_=>.none) rfl (by rw[kA];lia) (λd hd v x=>?_) ?_
 ·obtain⟨i,hi⟩:=List.mem_iff_getElem?.mp hd;obtain⟨hi,rfl⟩:=DD hi;have o:i<ps.length:=by lia
  have n:i+1<ps.length:=by lia
  have a1:Y0 (ps.map prD) (0+(i:Int))=some (prD ps[i]):=PD (f:=prD) (vA (by lia) (by rw[show(0+(i:Int)).toNat=i by lia];exact z1 o));have y:Y0 (ps.map prD) (0+(i:Int)+1)=some (prD ps[i+1]):=PD (f:=prD) (vA (by lia) (by rw[show(0+(i:Int)+1).toNat=i+1 by lia];exact z1 n));row_cond go;refine UP ?_;row_cond go;refine⟨?_,rfl⟩;simp[o,n]
 ·row_cond go;have e:(rngD 0 ((ps.length:Int)-1).toNat).map (λd=>match d with | .int i=>PyData.bool (match ps[i.toNat]?,ps[i.toNat+1]? with|some p,some q=>HT.lexLt (p2 p) (p2 q)|_,_=>false)|_=>.none)=((List.range (ps.length-1)).map λi=>match ps[i]?,ps[i+1]? with|some p,some q=>HT.lexLt (p2 p) (p2 q)|_,_=>false).map .bool:=by
   unfold rngD;rw[P4,P4,show((ps.length:Int)-1).toNat=ps.length-1 by lia];apply DA;intro i _;simp
  rw[e];refine NB ?_;row_cond go;refine k _ ?_;rw[List.all_map,R3];unfold Rise;rw[dR ltP (λh g=>yB h g)];constructor
  ·intro h i hi;have:=h i (X2.mpr (by lia));simp[show i<ps.length by lia,hi] at this;exact(lex2 _ _).mp this
  ·intro h i hi;have j:i+1<ps.length:=by have:=X2.mp hi;lia
   have:=(lex2 _ _).mpr (h i j);simp[show i<ps.length by lia,j,this]
def IsW(d0:PyData)(ds:List PyData)(n:Int)(es:List (Int × Int)):Prop:=d0=.int n/\1<=n/\n<=60/\ds=es.map prD/\(∀ p∈es,0<=p.1/\p.1<p.2/\p.2<n)/\Rise es
def vS:VP:=λss Q=>∃(d0:PyData)(ds:List PyData),ss=[.st (.tuple [d0,.list ds])]/\ds.length<=100000/\((∃ n es,IsW d0 ds n es)->Q (.st (.bool true)))/\((¬ ∃ n es,IsW d0 ds n es)->Q (.st (.bool false)))
theorem rN(h:btwD a b d=true):∃ n,d=.int n/\a<=n/\n<=b:=by
 cases d with
 |int n=>exact⟨n,rfl,(of_decide_eq_true h).1,(of_decide_eq_true h).2⟩
 |_=>cases h
theorem xP(h:D4 n d=true):∃ p:Int × Int,d=prD p/\0<=p.1/\p.1<p.2/\p.2<n:=by
 unfold D4 at h;split at h
 ·rename_i a b
  simp only[N4,decide_eq_true_eq] at h;exact⟨(a,b),rfl,by simp only;lia,by simp only;lia,by simp only;lia⟩
 ·cases h
theorem LH:∀{ds:List PyData},ds.all (D4 n)=true->∃ es:List (Int × Int),ds=es.map prD/\∀ p∈es,0<=p.1/\p.1<p.2/\p.2<n
 |[],_=>⟨[],rfl,by simp⟩
 | d::ds,h=>by
  rw[List.all_cons,N4] at h;obtain⟨p,rfl,b⟩:=xP h.1;obtain⟨es,rfl,c⟩:=LH h.2;refine⟨p::es,rfl,λq a=>?_⟩;rcases V0.mp a with rfl|a
  ·exact b
  ·exact c q a
theorem dQ{n:Int}{es:List (Int × Int)}(h:∀ p∈es,0<=p.1/\p.1<p.2/\p.2<n):(es.map prD).all (D4 n)=true:=by
 rw[List.all_map,R3];intro p a;have:=h p a;simp[D4,prD];lia
theorem pQ(h:prD p=prD q):p=q:=by
 obtain⟨a,b⟩:=p;obtain⟨c,d⟩:=q;simp only[prD,PyData.tuple.injEq,List.cons.injEq,PyData.int.injEq,and_true] at h;rw[h.1,h.2]
theorem bO{as bs:List (Int × Int)}(h:as.map prD=bs.map prD):as=bs:=(List.map_inj_right (f:=prD) λx y e=>pQ e).mp h
theorem sc_is_web:FnScope ["thing","n","ties"] ["thing"] (J0 s_is_web):=by row_cond sc
theorem cH(T:Txt w K mg):Can P w K mg base "is_web" 6 ["thing"] (spP K (vS)):=by
 obtain⟨f,fd,D⟩:=T.d_is_web;obtain⟨c,a⟩:=T.v_MOST_PLACES;obtain⟨o,j⟩:=T.o_Desk;have g:=j.mgx;have p:=T.n_Desk_webs _ g;refine D.can (D.fn.ok sc_is_web (λvs H Q E h=>lenP h λss G q=>by obtain⟨m,ds,rfl,r,k1,k2⟩:=q;rfl) (λcdv A outer s H vs Q E t h=>?_));have nd:=sc_is_web.nd
 refine⟨_,(C0 (X1 (PW.pt (O8 (n4 (Y3 (m1 n7 (by rfl) T.b_isinstance y4 (o0 (pv 0) (o0 (T6 (v:=.ty "tuple") rfl T.b_tuple RB rfl) q0))))) (E9 (o3 OH (m1 u6 (by rfl) T.b_len M5 (o0 (pv 0) q0)) O2 (Q2 _)))))
   (L0 (T0 O7))
   W1)
  (C0 (t3 (pv 0) (T4 rfl (P1 (K0 (i:=1) nd rfl aa) (P1 (K0 (i:=2) nd rfl aa) t4))))
  (L0 (T0 (q7 (R0 (GE T) t (o0 O2 (o0 (T5 (v:=.int 60) rfl a ⟨_,rfl⟩) (o0 (pv 1) q0)))) (q7 (R0 (gF T) t (o0 (pv 1) (o0 (pv 2) q0))) (j9 (R0 (vI T) t (o0 (pv 2) q0))))))))),?_⟩
 refine V1 h λss G q B R=>?_;refine exS2 ss q λm ds d=>?_;have r:=d.1;have k1:=d.2.1;have k2:=d.2.2;clear d q;show EvS B _ _ [some (.st (.tuple [m,.list ds])),none,none];row_cond go;rw[show isiD "tuple" (.tuple [m,.list ds])=true from rfl];row_cond go;refine BB ?_;row_cond go;refine⟨1,60,_,rfl,?_⟩;cases e:btwD 1 60 m with
 | false =>
  row_cond go;refine k2 ?_;rintro⟨n,es,rfl,y,x,_⟩;simp[btwD] at e;lia
 | true =>
  obtain⟨n,rfl,N,O⟩:=rN e;row_cond go;refine⟨n,_,rfl,λI J=>by cases J;exact r,?_⟩;cases e2:M7 n (.list ds) with
  | false =>
   row_cond go;refine k2 ?_;rintro⟨M,es,u,y,x,rfl,l,_⟩;cases u;have:M7 n (.list (es.map prD))=true:=dQ l;rw[this] at e2;cases e2
  | true =>
   obtain⟨es,rfl,l⟩:=LH (show ds.all (D4 n)=true from e2);row_cond go;refine⟨es,rfl,by rw[N1] at r;lia,λb hb=>?_⟩;cases b with
   | true =>
    row_cond go;exact k1 ⟨n,es,rfl,N,O,rfl,l,hb.mp rfl⟩
   | false =>
    row_cond go;refine k2 ?_;rintro⟨M,L,u,y,x,C,z,F⟩;obtain rfl:=bO C;have:=hb.mpr F;cases this
open Tx
def tS(p:Int × Int):Str:=nS p.1 ++ "-" ++ nS p.2
def wS(n:Int)(es:List (Int × Int)):Str:=Txt.join " " (nS n::es.map tS)
open Tx
def numD(w:Str):PyData:=match numV w with|some i=>.int i|none=>.none
def tieD(w:Str):PyData:=.tuple ((Txt.split w "-").map numD)
theorem KD(h:¬ ((w.length=1\/w.length=2)/\w.cps.toList.all figC=true/\¬ (w.length=2/\w.cps.toList.head?=some 48))):numD w=.none:=by
 unfold numD;rw[CQ,y0 h]
theorem UR(a:w.length=1\/w.length=2)(c:w.cps.toList.all figC=true)(b:¬ (w.length=2/\w.cps.toList.head?=some 48)):∃ i,numD w=.int i/\0<=i/\i<100/\w=nS i:=by
 obtain⟨i,hi⟩:=pP a c b;refine⟨i,?_,(w8 hi).1,(w8 hi).2,sQ hi⟩;unfold numD;rw[hi]
theorem YD(h:numD w=.int i):numV w=some i:=by
 unfold numD at h;split at h
 ·cases h;assumption
 ·cases h
theorem Y7(x y:Str):(Txt.split x y).length<=x.length+2:=by
 unfold Txt.split;split
 ·simp
 ·split
  ·simp
  ·have a:=StrLaws.occ_length_le x y 0 x.length (x.length+1);rw[PySem.length_partsBetween];lia
theorem zG(c:Nat):∀{ws:List (List Nat)}{w:List Nat},w∈ws->w.length<=(gl c ws).length
 |[w'],w,h=>by rw[O6.mp h];exact Q0 _
 | w'::v::r,w,h=>by
  show _<=(w'++c::gl c (v::r)).length;rw[M4,v3];rcases V0.mp h with rfl|h
  ·lia
  ·have:=zG c h;lia
theorem V7(h:w∈Txt.split x ⟨#[c]⟩):w.length<=x.length:=by
 have a:=StrLaws.join_split x ⟨#[c]⟩;have b:=congrArg (λs:Str=>s.cps.toList.length) a;simp only[JG] at b;have:=zG c (ws:=(Txt.split x ⟨#[c]⟩).map (·.cps.toList)) (w:=w.cps.toList) (T1.mpr ⟨w,h,rfl⟩);have d:x.length=x.cps.toList.length:=rfl;have f:w.length=w.cps.toList.length:=rfl;lia
def IsT(t:Str)(n:Int)(es:List (Int × Int)):Prop:=∃ w ws,Txt.split t " " = w::ws/\IsW (numD w) (ws.map tieD) n es
def IsTD(d:PyData)(n:Int)(es:List (Int × Int)):Prop:=∃ t,d=.str t/\IsT t n es
def tieV(w:Str):Option (Int × Int) :=
 match Txt.split w "-" with
 | [a,b]=>match numV a,numV b with
  |some x,some y=>some (x,y)
  |_,_=>none
 |_=>none
theorem tieV_iff:tieD w=prD p ↔ tieV w=some p:=by
 unfold tieD tieV prD;rcases e:Txt.split w "-" with _|⟨a,_|⟨b,_|⟨c,r⟩⟩⟩
 ·simp
 ·simp
 ·simp only[P0,List.map_nil,PyData.tuple.injEq,List.cons.injEq,and_true];constructor
  ·rintro⟨d,f⟩;rw[YD d,YD f]
  ·intro h;split at h
   ·rename_i x y d f
    cases h;unfold numD;rw[d,f];exact⟨rfl,rfl⟩
   ·cases h
 ·simp
def wrF(n:Int):Int × Int->List Str->Bool
 |_,[]=>true
 | last,w::ws=>match tieV w with
  |some p=>if (last.1<p.1\/(last.1=p.1/\last.2<p.2))/\p.1<p.2/\p.2<n then wrF n p ws else false
  |none=>false
theorem jR(h:tieV w=some p):0<=p.1/\p.1<100/\0<=p.2/\p.2<100:=by
 unfold tieV at h;split at h
 ·split at h
  ·rename_i x y h1 h2
   cases h;exact⟨(w8 h1).1,(w8 h1).2,(w8 h2).1,(w8 h2).2⟩
  ·cases h
 ·cases h
theorem wrF_iff:∀{ws:List Str}{last:Int × Int},wrF n last ws=true ↔ ∃ es:List (Int × Int),ws.map tieD=es.map prD/\(∀ p∈es,0<=p.1/\p.1<p.2/\p.2<n)/\Rise es/\∀ p∈es,ltP last p
 |[],last=>⟨λ_=>⟨[],rfl,by simp,List.Pairwise.nil,by simp⟩,λ_=>rfl⟩
 | w :: ws,last=>by
  unfold wrF;cases e:tieV w with
  | none =>
   refine⟨(λh=>by cases h),?_⟩;rintro⟨es,a,_⟩;cases es with
   |nil=>cases a
   | cons p es =>
    rw[P0,P0] at a;injection a with a _;rw[tieV_iff.mp a] at e;cases e
  | some p =>
   have i:=jR e;by_cases hc:(last.1<p.1\/(last.1=p.1/\last.2<p.2))/\p.1<p.2/\p.2<n
   ·dsimp only;rw[z0 hc,wrF_iff (ws:=ws) (last:=p)];constructor
    ·rintro⟨es,a,f,c,d⟩;refine⟨p::es,by rw[P0,P0,a,tieV_iff.mpr e],λq b=>?_,w9.mpr ⟨d,c⟩,λq b=>?_⟩
     ·rcases V0.mp b with rfl|b
      ·exact⟨i.1,hc.2.1,hc.2.2⟩
      ·exact f q b
     ·rcases V0.mp b with rfl|b
      ·exact hc.1
      ·exact yB hc.1 (d q b)
    ·rintro⟨es,a,f,c,d⟩;cases es with
     |nil=>cases a
     | cons q es =>
      rw[P0,P0] at a;injection a with g a;rw[tieV_iff.mp g] at e;cases e;exact⟨es,a,λx hx=>f x (Q3 _ hx),(w9.mp c).2,(w9.mp c).1⟩
   ·dsimp only;rw[y0 hc];refine⟨(λh=>by cases h),?_⟩;rintro⟨es,a,f,c,d⟩;cases es with
    |nil=>cases a
    | cons q es =>
     rw[P0,P0] at a;injection a with g a;rw[tieV_iff.mp g] at e;cases e;exact absurd ⟨d _ (by simp),(f _ (by simp)).2⟩ hc
theorem JM(h:Txt.split t " " = w::ws):(∃ n es,IsT t n es) ↔ ∃ n,numD w=.int n/\1<=n/\n<=60/\wrF n (-1,-1) ws=true:=by
 constructor
 ·rintro⟨n,es,q,j,e,b,f,d,c,a,g⟩;rw[h] at e;injection e with o i;subst o i;exact⟨n,b,f,d,wrF_iff.mpr ⟨es,c,a,g,λp l=>by have:=a p l;exact .inl (by simp only;lia)⟩⟩
 ·rintro⟨n,b,f,d,m⟩;obtain⟨es,c,a,g,_⟩:=wrF_iff.mp m;exact⟨n,es,w,ws,h,b,f,d,c,a,g⟩
def kJ:VP:=λss Q=>∃ w:Str,ss=[.st (.str w)]/\w.length<=1000000/\Q (.st (numD w))
def IO:VP:=λss Q=>∃ w:Str,ss=[.st (.str w)]/\w.length<=500000/\Q (.st (tieD w))
def pL(mg:Str->Option Value):VPX:=λss Q R=>∃ d:PyData,ss=[.st d]/\(∀ t,d=.str t->t.length<=50000)/\(∀ n es,IsTD d n es->Q (.own (OW (.int n) (es.map prD))))/\((∀ n es,¬ IsTD d n es)->∀ C,mg "NoText" = some (.ref C)->R C)
theorem EC:∀{ws:List Str},(∀ s∈ws,s.length<=c)->(ws.map (·.length)).sum<=ws.length * c
 |[],_=>by simp
 | w::ws,h=>by
  have a:=h w (by simp);have b:=EC (ws:=ws) λs hs=>h s (Q3 _ hs);rw[P0,List.sum_cons,v3,Nat.add_mul];lia
theorem sc_number_of:FnScope ["word"] ["word"] (J0 s_number_of):=by row_cond sc
theorem y9 (T:Txt w K mg):Can P w K mg base "number_of" 1 ["word"] (spP K (kJ)):=by
 obtain⟨f,fd,D⟩:=T.d_number_of;obtain⟨g,a⟩:=T.v_FIGURES;obtain⟨u,m⟩:=T.o_Desk;have l:=m.mgx;have t:=T.n_Desk_webs _ l;refine D.can (D.fn.ok sc_number_of (λvs H Q E h=>lenP h λss M q=>by obtain⟨w,rfl,x,k⟩:=q;rfl) (λcdv A outer s H vs Q E Y h=>?_));have nd:=sc_number_of.nd
 refine⟨_,(C0 (X1 (PW.pt (O8 (o3 (JC Y.units) (m1 mE (by rfl) T.b_len M5 (o0 (pv 0) q0)) (L1 (o0 O2 (o0 O2 q0))) rfl) (E9 (n4 (Y3 (m1 (jC rfl) (by rfl) T.b_all nC (o0 (W4 rfl (N:=["sign"]) (src:=[none]) (by exact N3 rfl rfl rfl rfl rfl rfl) (YH (pv 0)) (λ_ _ _ _=>(K0 (i:=0) (show List.Nodup (["sign"]:List Str) by decide +kernel) rfl aa (hf:=Or.inr rfl))) (λ_ _ _ _=>O3) (λ_ _ _ _=>(m7 nF (pv 0) (T5 (v:=.str "0123456789") rfl a ⟨_,rfl⟩) rfl))) q0)))))))
   (L0 (T0 U6))
   W1)
  (C0 (X1 (PW.pt (yH (o3 rE (m1 mE (by rfl) T.b_len M5 (o0 (pv 0) q0)) O2 (Q2 _)) (II (o3 rE (P3 aU (pv 0) O2 (λ_ _=>rfl)) t0 (Q2 _)))))
   (L0 (T0 U6))
   W1)
  (L0 (T0 (BA FP (by rfl) T.b_int vH (o0 (pv 0) q0)))))),?_⟩
 refine V1 h λss M q B hK=>?_;refine exS1 ss q λw o=>?_;have x:=o.1;have k:=o.2;clear o q;show EvS B _ _ [some (.st (.str w))];row_cond go;refine zD x ?_;row_cond go;refine GS rfl rfl (by simp[PyData.depth]) ?_;by_cases h12:w.length=1\/w.length=2
 ·rw [show(if true=true then !([PyData.int 1,.int 2].any λz=>PyData.eqv z (.int (w.length:Int))) else ([PyData.int 1,.int 2].any λz=>PyData.eqv z (.int (w.length:Int))))=false by
   rcases h12 with e|e <;> rw[e] <;> rfl]
  row_cond go;refine IH ?_;row_cond go;refine⟨_,rfl,?_⟩;unfold sgnD;refine D5 (f:=λc=>PyData.str ⟨#[c]⟩) (λc=>.bool (figC c)) rfl (by show w.cps.toList.length<=_;have:w.cps.toList.length=w.length:=rfl;lia) (λc p Z hB=>?_) ?_
  ·row_cond go;refine NH ?_;rw[show("0123456789" : Str)=figs from rfl,SR];row_cond go;exact rfl
  ·row_cond go;rw[show(w.cps.toList.map λc=>PyData.bool (figC c))=(w.cps.toList.map figC).map .bool by rw[P4];rfl];refine NB ?_;rw[show(w.cps.toList.map figC).all id=w.cps.toList.all figC by rw[List.all_map];rfl];cases ha:w.cps.toList.all figC with
   | false =>
    row_cond go;have b:=k;rw[KD (λz=>by rw[ha] at z;cases z.2.1)] at b;exact b
   | true =>
    row_cond go;refine zD x ?_;row_cond go;refine' cutR (R:=¬ (w.length=2/\w.cps.toList.head?=some 48)->EvS B ?c1 ?d1 [some (.st (.str w))]) (λR=>?K1) ?K2
    case K1 =>
     refine v6 (λd=>?_) (λd=>?_)
     ·have C:w.length=2:=by lia
      obtain⟨c,r,p⟩:∃ c r,w.cps.toList=c::r:=by
       cases e:w.cps.toList with
       | nil =>
        have:w.cps.toList.length=w.length:=rfl;rw[e] at this;simp at this;lia
       |cons c r=>exact⟨c,r,rfl⟩
      have F:Y0 w.cps.toList 0=some c:=by rw[p];exact P7 (j:=0) rfl
      row_cond go;refine tK (by lia) F ?_;row_cond go;refine v6 (λe=>?_) (λe=>?_)
      ·have O:=congrArg (λs:Str=>s.cps.toList) e;have L:[c]=[48]:=O;row_cond go;have b:=k;rw[KD (λz=>z.2.2 ⟨C,by rw[p,List.cons.inj L |>.1];rfl⟩)] at b;exact b
      ·have y:=R (λz=>e (by
        rw[p] at z;have G:=z.2;simp at G;rw[G];rfl))
       repeat (first|exact y|row_cond st)
     ·have y:=R (λz=>d (by lia));repeat (first|exact y|row_cond st)
    case K2 =>
     intro J;obtain⟨i,U,S,i1,X⟩:=UR h12 ha J;row_cond go;refine K3 (vB ?_);row_cond go;refine nP (n:=i) (by rw[X];exact PySem.W.KIN.num_reads S (by lia)) (by lia) ?_;row_cond go;have b:=k;rw[U] at b;exact b
 ·rw[show(if true=true then !([PyData.int 1,.int 2].any λz=>PyData.eqv z (.int (w.length:Int))) else ([PyData.int 1,.int 2].any λz=>PyData.eqv z (.int (w.length:Int))))=true by
   rw[z0 rfl,Bool.not_eq_true',List.any_eq_false];intro z I;simp only[V0,y7,or_false] at I;rcases I with rfl|rfl
   ·intro hh;have d:=(wC (.int 1) (.int _) (by rfl) (by rfl)).mp hh;injection d with d;lia
   ·intro hh;have d:=(wC (.int 2) (.int _) (by rfl) (by rfl)).mp hh;injection d with d;lia]
  row_cond go;have b:=k;rw[KD (λz=>h12 z.1)] at b;exact b
theorem sc_tie_of:FnScope ["word"] ["word"] (J0 s_tie_of):=by row_cond sc
theorem nG(T:Txt w K mg):Can P w K mg base "tie_of" 2 ["word"] (spP K (IO)):=by
 obtain⟨f,fd,D⟩:=T.d_tie_of;obtain⟨j,b⟩:=T.o_Desk;have a:=b.mgx;have g:=T.n_Desk_webs _ a;refine D.can (D.fn.ok sc_tie_of (λvs H Q E h=>lenP h λss m q=>by obtain⟨w,rfl,n,k⟩:=q;rfl) (λcdv A outer s H vs Q E p h=>?_));have nd:=sc_tie_of.nd;refine⟨_,(L0 (T0 (BA sF (by rfl) T.b_tuple RB (o0 (W4 rfl (N:=["part"]) (src:=[none]) (by exact N3 rfl rfl rfl rfl rfl rfl) (K4 (O4 PySem.F.plainAttrs_str PySem.F.slot_str_split PySem.F.type_str_split AA (pv 0) (o0 t0 q0))) (λ_ _ _ _=>(K0 (i:=0) (show List.Nodup (["part"]:List Str) by decide +kernel) rfl aa (hf:=Or.inr rfl))) (λ_ _ _ _=>O3) (λ_ _ _ _=>(R0 (y9 T) p (o0 (pv 0) q0)))) q0)))),?_⟩;refine V1 h λss m q B u=>?_;refine exS1 ss q λw d=>?_;have n:=d.1;have k:=d.2;clear d q;show EvS B _ _ [some (.st (.str w))];have o:=Y7 w "-";refine W5 ?_;refine K3 (vB ?_);repeat (first|(refine P5 (JA ?_))|row_cond st)
 refine⟨_,rfl,?_⟩;row_cond go;refine⟨_,rfl,rfl,by lia,by lia,k6 ?_⟩;row_cond go;show LcV _ _ _ _ _ ((Txt.split w "-").map λs=>PyData.str s) _ _;refine D5 (xs:=Txt.split w "-") (f:=λs=>PyData.str s) numD rfl (by lia) (λs hs r t=>?_) ?_
 ·have l:=V7 (c:=45) hs;row_cond go;refine⟨s,rfl,by lia,?_⟩;row_cond go;exact rfl
 ·row_cond go;refine NG ?_;row_cond go;exact k
theorem scX_read_web:FnScope ["text","first","others","web"] ["text"] (J0 s_read_web):=by row_cond sc
theorem yS(T:Txt w K mg):CanX P w K mg base "read_web" 7 ["text"] (spX K (pL mg)):=by
 obtain⟨f,fd,D⟩:=T.d_read_web;obtain⟨j,a⟩:=T.x_NoText;refine D.canX (D.fn.okX scX_read_web (λvs H Q E h=>lenX h λss J M q=>by obtain⟨d,rfl,m,k1,k2⟩:=q;rfl) (λcdv A outer s H vs Q E o h=>?_));have nd:=scX_read_web.nd
 refine⟨_,(C0 (X1 (n4 (Y3 (m1 n7 (by rfl) T.b_isinstance y4 (o0 (pv 0) (o0 (T6 (v:=.ty "str") rfl T.b_str p9 rfl) q0)))))
   (L0 (z6 a.ok))
   W1)
  (C0 (t3 (O4 PySem.F.plainAttrs_str PySem.F.slot_str_split PySem.F.type_str_split AA (pv 0) (o0 t0 q0)) (nH rfl (K0 (i:=1) nd rfl aa) (K0 (i:=2) nd rfl aa)))
  (C0 (N0 (i:=3) nd rfl aa (L1 (o0 (R0 (y9 T) o (o0 (pv 1) q0)) (o0 (W4 rfl (N:=["word"]) (src:=[none]) (by exact N3 rfl rfl rfl rfl rfl rfl) (K4 (pv 2)) (λ_ _ _ _=>(K0 (i:=0) (show List.Nodup (["word"]:List Str) by decide +kernel) rfl aa (hf:=Or.inr rfl))) (λ_ _ _ _=>O3) (λ_ _ _ _=>(R0 (nG T) o (o0 (pv 0) q0)))) q0))))
  (C0 (X1 (n4 (Y3 (R0 (cH T) o (o0 (pv 3) q0))))
   (L0 (z6 a.ok))
   W1)
  (L0 (T0 (pv 3))))))),?_⟩
 refine Q4 h λss J M q B U x=>?_;obtain⟨d,rfl,m,k1,k2⟩:=q;show EvS B _ _ [some (.st d),none,none,none];row_cond go;cases d with
 | str t =>
  have m:=m t rfl;have l:=Y7 t " ";rw[show isiD "str" (.str t)=true from rfl];repeat (first|(refine JA ?_)|row_cond st)
  refine⟨_,rfl,?_⟩;row_cond go;refine⟨_,rfl,rfl,by lia,by lia,?_⟩;have b:∀ v∈Txt.split t " ",v.length<=50000:=λv C=>D2 (V7 (c:=32) C) m;obtain⟨v,vs,es⟩:∃ v vs,Txt.split t " " = v::vs:=by
   cases e:Txt.split t " " with
   |nil=>exact absurd e (JI t " ")
   |cons v vs=>exact⟨v,vs,rfl⟩
  have r:∀ n fs,IsTD (.str t) n fs ↔ IsW (numD v) (vs.map tieD) n fs:=λn fs=>by
   constructor
   ·rintro⟨t',p,O,y,u,h⟩;cases p;rw[es] at u;injection u with G L;subst G L;exact h
   ·exact λh=>⟨t,rfl,v,vs,es,h⟩
  rw[es] at l b ⊢;rw[v3] at l;refine u5 L4 ?_;rw[P0];refine DH (u5 L4 ?_);repeat (first|(refine NI ?_)|row_cond st)
  refine⟨v,rfl,by have:=b v (by simp);lia,?_⟩;row_cond go;refine D5 (f:=λs=>PyData.str s) tieD rfl (by lia) (λs hs R S=>?_) ?_
  ·have:=b s (Q3 _ hs);row_cond go;refine⟨s,rfl,by lia,?_⟩;row_cond go;exact rfl
  ·refine⟨_,rfl,?_⟩;repeat (first|(refine pE (i:=3) (.inl rfl) ?_)|row_cond st)
   refine⟨_,_,rfl,by rw[N1];lia,λg=>?_,λg=>?_⟩
   ·obtain⟨n,fs,g⟩:=g;row_cond go;have:=k1 n fs ((r n fs).mpr g);obtain⟨I,_,_,p,_⟩:=g;rw[I,p];exact this
   ·row_cond go;refine R6 x (k2 (λn fs z=>g ⟨n,fs,(r n fs).mp z⟩) _ a.mgx) ?_;row_cond go;exact W6 rfl
 | _ =>
  refine U5 ?_;row_cond go;refine R6 x (k2 (λn fs z=>by obtain⟨t,e,_⟩:=z;cases e) _ a.mgx) ?_;row_cond go;exact W6 rfl
def noPl(n:Int)(d:PyData):Prop:=btwD 0 (n-1) d=false
def dS(mg:Str->Option Value):VPX:=λss Q R=>∃(n:Int)(es:List (Int × Int))(d:PyData),ss=[.st (webD n es),.st d]/\(btwD 0 (n-1) d=true->Q (.st .none))/\(noPl n d->∀ C,mg "NoPlace" = some (.ref C)->R C)
def iR(mg:Str->Option Value):VPX:=λss Q R=>∃(n:Int)(es:List (Int × Int))(d1 d2:PyData),ss=[.st (webD n es),.st d1,.st d2]/\(noPl n d1\/noPl n d2)/\∀ C,mg "NoPlace" = some (.ref C)->R C
def vpNJ(mg:Str->Option Value):VPX:=λss Q R=>∃(n:Int)(es:List (Int × Int)),ss=[.st (webD n es)]/\1<=n/\n<=100/\InN n es/\es.length<=10000/\¬ Joined n es/\∀ C,mg "NoJoin" = some (.ref C)->R C
def SQ(mg:Str->Option Value):VPX:=λss Q R=>∃(a b:Int)(d:PyData),ss=[.st (.int a),.st (.int b),.st d]/\btwD a b d=false/\∀ C,mg "NoNumber" = some (.ref C)->R C
def mM(mg:Str->Option Value):VPX:=λss Q R=>∃(n:Int)(es:List (Int × Int))(d:PyData),ss=[.st (webD n es),.st d]/\1<=n/\n<=100/\InN n es/\es.length<=10000/\(Joined n es->btwD 0 20 d=false)/\(¬ Joined n es->∀ C,mg "NoJoin" = some (.ref C)->R C)/\(Joined n es->∀ C,mg "NoNumber" = some (.ref C)->R C)
def BadT(n:Int)(es:List (Int × Int))(d:PyData):Prop:=(∀ ds,d=.list ds->ds.length<=10000)/\(M7 n d=true->∃ fs:List (Int × Int),d=.list (fs.map prD)/\¬ (es++fs).Nodup)
def vpWX(mg:Str->Option Value):VPX:=λss Q R=>∃(n:Int)(es:List (Int × Int))(d:PyData),ss=[.st (webD n es),.st d]/\es.length<=10000/\BadT n es d/\∀ C,mg "NoTie" = some (.ref C)->R C
theorem scX_need_place:FnScope ["web","thing"] ["web","thing"] (J0 s_need_place):=by row_cond sc
theorem zF(T:Txt w K mg):CanX P w K mg base "need_place" 4 ["web","thing"] (spX K (dS mg)):=by
 obtain⟨f,fd,D⟩:=T.d_need_place;obtain⟨b,a⟩:=T.x_NoPlace;refine D.canX (D.fn.okX scX_need_place (λvs H Q E h=>lenX h λss c g q=>by obtain⟨n,es,d,rfl,k1,k2⟩:=q;rfl) (λcdv A outer s H vs Q E i h=>?_));have nd:=scX_need_place.nd
 refine⟨_,(L0 (X1 (n4 (Y3 (R0 (gC T) i (o0 (P3 T3 (pv 0) O2 (λ_ _=>rfl)) (o0 (pv 1) q0)))))
   (L0 (z6 a.ok))
   W1)),?_⟩
 refine Q4 h λss c g q B l j=>?_;obtain⟨n,es,d,rfl,k1,k2⟩:=q;show EvS B _ _ [some (.st (webD n es)),some (.st d)];row_cond go;refine⟨_,_,rfl,?_⟩;row_cond go;cases e:btwD 0 (n-1) d with
 | true =>
  row_cond go;exact k1 e
 | false =>
  row_cond go;refine R6 j (k2 e _ a.mgx) ?_;row_cond go;exact W6 rfl
theorem scX_how_far:FnScope ["web","a","b"] ["web","a","b"] (J0 s_how_far):=by row_cond sc
theorem TQ(T:Txt w K mg):CanX P w K mg base "how_far" 6 ["web","a","b"] (spX K (iR mg)):=by
 obtain⟨f,fd,D⟩:=T.d_how_far;refine D.canX (D.fn.okX scX_how_far (λvs H Q E h=>lenX h λss g j q=>by obtain⟨n,es,a,b,rfl,hd,k⟩:=q;rfl) (λcdv A outer s H vs Q E c h=>?_));have nd:=scX_how_far.nd;refine⟨_,(C0 (t5 (n5 (zF T) c (o0 (pv 0) (o0 (pv 1) q0)))) (C0 (t5 (n5 (zF T) c (o0 (pv 0) (o0 (pv 2) q0)))) U4)),?_⟩;refine Q4 h λss g j q B l d=>?_;obtain⟨n,es,a,b,rfl,hd,k⟩:=q;show EvS B _ _ [some (.st (webD n es)),some (.st a),some (.st b)];row_cond go;refine X5 d ?_;row_cond go;refine⟨n,es,a,rfl,λe=>?_,λ_=>k⟩;row_cond go;refine X5 d ?_;row_cond go;refine⟨n,es,b,rfl,λi=>?_,λ_=>k⟩;rcases hd with hd|hd
 ·rw[noPl,e] at hd;cases hd
 ·rw[noPl,i] at hd;cases hd
theorem scX_need_number:FnScope ["least","most","thing"] ["least","most","thing"] (J0 s_need_number):=by row_cond sc
theorem HM(T:Txt w K mg):CanX P w K mg base "need_number" 3 ["least","most","thing"] (spX K (SQ mg)):=by
 obtain⟨f,fd,D⟩:=T.d_need_number;obtain⟨g,c⟩:=T.x_NoNumber;refine D.canX (D.fn.okX scX_need_number (λvs H Q E h=>lenX h λss i j q=>by obtain⟨a,b,d,rfl,hd,k⟩:=q;rfl) (λcdv A outer s H vs Q E l h=>?_));have nd:=scX_need_number.nd
 refine⟨_,(L0 (X1 (n4 (Y3 (R0 (GE T) l (o0 (pv 0) (o0 (pv 1) (o0 (pv 2) q0))))))
   (L0 (z6 c.ok))
   W1)),?_⟩
 refine Q4 h λss i j q B n m=>?_;obtain⟨a,b,d,rfl,hd,k⟩:=q;show EvS B _ _ [some (.st (.int a)),some (.st (.int b)),some (.st d)];row_cond go;refine⟨_,_,_,rfl,?_⟩;rw[hd];row_cond go;refine R6 m (k _ c.mgx) ?_;row_cond go;exact W6 rfl
theorem scX_need_joined:FnScope ["web"] ["web"] (J0 s_need_joined):=by row_cond sc
theorem aR(T:Txt w K mg):CanX P w K mg base "need_joined" 7 ["web"] (spX K (vpNJ mg)):=by
 obtain⟨f,fd,D⟩:=T.d_need_joined;obtain⟨g,a⟩:=T.x_NoJoin;refine D.canX (D.fn.okX scX_need_joined (λvs H Q E h=>lenX h λss m o q=>by obtain⟨n,es,rfl,j,l,c,d,i,k⟩:=q;rfl) (λcdv A outer s H vs Q E p h=>?_));have nd:=scX_need_joined.nd
 refine⟨_,(L0 (X1 (n4 (Y3 (R0 (YI T) p (o0 (pv 0) q0))))
   (L0 (z6 a.ok))
   W1)),?_⟩
 refine Q4 h λss m o q B t r=>?_;obtain⟨n,es,rfl,j,l,c,d,i,k⟩:=q;show EvS B _ _ [some (.st (webD n es))];row_cond go;refine⟨n,es,rfl,j,l,c,d,λb hb=>?_⟩;cases b with
 |true=>exact absurd (hb.mp rfl) i
 | false =>
  row_cond go;refine R6 r (k _ a.mgx) ?_;row_cond go;exact W6 rfl
theorem scX_far_rows:FnScope ["web","tied"] ["web"] (J0 s_far_rows):=by row_cond sc
theorem OB(T:Txt w K mg):CanX P w K mg base "far_rows" 8 ["web"] (spX K (vpNJ mg)):=by
 obtain⟨f,fd,D⟩:=T.d_far_rows;refine D.canX (D.fn.okX scX_far_rows (λvs H Q E h=>lenX h λss i j q=>by obtain⟨n,es,rfl,d,g,a,b,c,k⟩:=q;rfl) (λcdv A outer s H vs Q E l h=>?_));have nd:=scX_far_rows.nd;refine⟨_,(C0 (t5 (n5 (aR T) l (o0 (pv 0) q0))) U4),?_⟩;refine Q4 h λss i j q B o m=>?_;obtain⟨n,es,rfl,d,g,a,b,c,k⟩:=q;show EvS B _ _ [some (.st (webD n es)),none];row_cond go;refine X5 m ?_;row_cond go;exact⟨n,es,rfl,d,g,a,b,c,k⟩
theorem scX_hubs_for:FnScope ["web","k","rows","hubs","near","hub"] ["web","k"] (J0 s_hubs_for):=by row_cond sc
theorem RS(T:Txt w K mg):CanX P w K mg base "hubs_for" 9 ["web","k"] (spX K (mM mg)):=by
 obtain⟨f,fd,D⟩:=T.d_hubs_for;obtain⟨b,a⟩:=T.v_MOST_HUB_TIES;refine D.canX (D.fn.okX scX_hubs_for (λvs H Q E h=>lenX h λss p r q=>by obtain⟨n,es,d,rfl,j,l,c,g,hd,k1,k2⟩:=q;rfl) (λcdv A outer s H vs Q E m h=>?_));have nd:=scX_hubs_for.nd;refine⟨_,(C0 (N0 (i:=2) nd rfl aa (YK (OB T) (aS (rD T)) m (o0 (pv 0) q0))) (C0 (t5 (n5 (HM T) m (o0 O2 (o0 (T5 (v:=.int 20) rfl a ⟨_,rfl⟩) (o0 (pv 1) q0))))) U4)),?_⟩;refine Q4 h λss p r q B t o=>?_;obtain⟨n,es,d,rfl,j,l,c,g,hd,k1,k2⟩:=q;show EvS B _ _ [some (.st (webD n es)),some (.st d),none,none,none,none];row_cond go;refine yN o ?_;row_cond go;by_cases hJ:Joined n es
 ·refine .inr ⟨n,es,rfl,j,l,c,g,hJ,u5 L4 ?_⟩;row_cond go;refine X5 o ?_;row_cond go;exact⟨_,_,_,rfl,hd hJ,k2 hJ⟩
 ·exact .inl ⟨n,es,rfl,j,l,c,g,hJ,k1 hJ⟩
theorem scX_farthest_two:FnScope ["web","rows","far","a"] ["web"] (J0 s_farthest_two):=by row_cond sc
theorem ML(T:Txt w K mg):CanX P w K mg base "farthest_two" 9 ["web"] (spX K (vpNJ mg)):=by
 obtain⟨f,fd,D⟩:=T.d_farthest_two;refine D.canX (D.fn.okX scX_farthest_two (λvs H Q E h=>lenX h λss j l q=>by obtain⟨n,es,rfl,d,g,a,b,c,k⟩:=q;rfl) (λcdv A outer s H vs Q E m h=>?_));have nd:=scX_farthest_two.nd;refine⟨_,(C0 (N0 (i:=1) nd rfl aa (n5 (OB T) m (o0 (pv 0) q0))) U4),?_⟩;refine Q4 h λss j l q B p o=>?_;obtain⟨n,es,rfl,d,g,a,b,c,k⟩:=q;show EvS B _ _ [some (.st (webD n es)),none,none,none];row_cond go;refine X5 o ?_;row_cond go;exact⟨n,es,rfl,d,g,a,b,c,k⟩
theorem scX_middles:FnScope ["web","wides","wide"] ["web"] (J0 s_middles):=by row_cond sc
theorem jQ(T:Txt w K mg):CanX P w K mg base "middles" 9 ["web"] (spX K (vpNJ mg)):=by
 obtain⟨f,fd,D⟩:=T.d_middles;refine D.canX (D.fn.okX scX_middles (λvs H Q E h=>lenX h λss j l q=>by obtain⟨n,es,rfl,d,g,a,b,c,k⟩:=q;rfl) (λcdv A outer s H vs Q E m h=>?_));have nd:=scX_middles.nd;refine⟨_,(C0 (AC (i:=1) nd rfl aa rfl (N:=["row"]) (src:=[none]) (by exact N3 rfl rfl rfl rfl rfl rfl) (K4 (n5 (OB T) m (o0 (pv 0) q0))) (λ_ _ _ _=>(K0 (i:=0) (show List.Nodup (["row"]:List Str) by decide +kernel) rfl aa (hf:=Or.inr rfl))) (λ_ _ _ _=>O3) (λ_ _ _ _=>(m1 (show l2 _ (.builtin "max") (K9 K) from(wB rfl)) (by rfl) T.b_max VA (o0 (pv 0) q0)))) U4),?_⟩;refine Q4 h λss j l q B p o=>?_;obtain⟨n,es,rfl,d,g,a,b,c,k⟩:=q;show EvS B _ _ [some (.st (webD n es)),none,none];repeat (first|(refine HD o ?_)|row_cond st)
 exact⟨n,es,rfl,d,g,a,b,c,k⟩
theorem scX_with_ties:FnScope ["web","ties","n","there","every"] ["web","ties"] (J0 s_with_ties):=by row_cond sc
theorem lT(T:Txt w K mg):CanX P w K mg base "with_ties" 6 ["web","ties"] (spX K (vpWX mg)):=by
 obtain⟨f,fd,D⟩:=T.d_with_ties;obtain⟨c,a⟩:=T.x_NoTie;refine D.canX (D.fn.okX scX_with_ties (λvs H Q E h=>lenX h λss t u q=>by obtain⟨n,es,d,rfl,r,g,k⟩:=q;rfl) (λcdv A outer s H vs Q E j h=>?_));have nd:=scX_with_ties.nd
 refine⟨_,(C0 (t3 (pv 0) (T4 rfl (P1 (K0 (i:=2) nd rfl aa) (P1 (K0 (i:=3) nd rfl aa) t4)))) (C0 (X1 (n4 (Y3 (R0 (gF T) j (o0 (pv 2) (o0 (pv 1) q0)))))
   (L0 (z6 a.ok))
   W1) (C0 (N0 (i:=4) nd rfl aa (m1 lJ (by rfl) T.b_sorted lE (o0 (W0 Z1 (pv 3) (pv 1)) q0))) (C0 (X1 (n4 (Y3 (R0 (vI T) j (o0 (pv 4) q0))))
   (L0 (z6 a.ok))
   W1) U4)))),?_⟩
 refine Q4 h λss t u q B v p=>?_;obtain⟨n,es,d,rfl,r,g,k⟩:=q;show EvS B _ _ [some (.st (webD n es)),some (.st d),none,none,none];row_cond go;refine⟨n,d,rfl,λds e=>by have:=g.1 ds e;lia,?_⟩;cases hb:M7 n d with
 | false =>
  row_cond go;refine R6 p (k _ a.mgx) ?_;row_cond go;exact W6 rfl
 | true =>
  obtain⟨fs,rfl,hn⟩:=g.2 hb;have l:=g.1 _ rfl;rw[N1] at l;row_cond go;refine CN (ps:=es++fs) ?_;row_cond go;rw[← l8];refine⟨rfl,λm o hs=>?_⟩;have j:¬ Rise m:=λh=>hn (o.nodup_iff.mp h.nodup);refine U2 ?_;dsimp only[List.set_cons_zero,List.set_cons_succ];try refine' Z4 (by assumption) ?_
  refine MI (jH (MG (FD (pE (.inl rfl) (uI ⟨_,_,.inl rfl,L4,m,rfl,by rw[o.length_eq,M4];lia,λb hb=>?_⟩)))));row_cond go;cases b with
  |true=>exact absurd (hb.mp rfl) j
  | false =>
   row_cond go;refine R6 p (k _ a.mgx) ?_;row_cond go;exact W6 rfl
theorem scX_best_tie:FnScope ["web","rows"] ["web"] (J0 s_best_tie):=by row_cond sc
theorem eM(T:Txt w K mg):CanX P w K mg base "best_tie" 9 ["web"] (spX K (vpNJ mg)):=by
 obtain⟨f,fd,D⟩:=T.d_best_tie;refine D.canX (D.fn.okX scX_best_tie (λvs H Q E h=>lenX h λss j l q=>by obtain⟨n,es,rfl,d,g,a,b,c,k⟩:=q;rfl) (λcdv A outer s H vs Q E m h=>?_));have nd:=scX_best_tie.nd;refine⟨_,(C0 (N0 (i:=1) nd rfl (Or.inr rfl) (n5 (OB T) m (o0 (pv 0) q0))) U4),?_⟩;refine Q4 h λss j l q B p o=>?_;obtain⟨n,es,rfl,d,g,a,b,c,k⟩:=q;show EvS B _ _ [some (.st (webD n es)),none];row_cond go;refine X5 o ?_;row_cond go;exact⟨n,es,rfl,d,g,a,b,c,k⟩
open Tx
def lets:Str:="abcdefghijklmnopqrstuvwxyz"
def letC(c:Nat):Bool:=decide (97<=c/\c<=122)
theorem uM:lets.cps.toList=[97,98,99,100,101,102,103,104,105,106,107,108,109,110,111,112,113,114,115,116,117,118,119,120,121,122]:=by decide +kernel
theorem MO(c:Nat):(!(Builtin.Str.occurrences lets ⟨#[c]⟩ 0 lets.length 1).isEmpty)=letC c:=by
 rw[StrLaws.found_one,uM];unfold letC;refine decide_eq_decide.mpr ?_;simp only[V0,y7,or_false];omega
theorem n6(a b:Str):PyData.eqv (.str a) (.str b)=decide (a=b):=by
 unfold PyData.eqv;by_cases h:a=b
 ·subst h;simp
 ·simp[h]
theorem NO(a b:Int):PyData.eqv (optI (some a)) (.int b)=decide (a=b):=by
 unfold optI PyData.eqv;by_cases h:a=b
 ·subst h;simp
 ·simp[h]
theorem WG:∀ ws:List Str,plainDs (ws.map numD)=true
 |[]=>rfl
 | w::ws=>by
  rw[P0];unfold plainDs;rw[WG ws];unfold numD;cases numV w <;> rfl
theorem sJ(ws:List Str):(if true=true then !((ws.map numD).any λz=>PyData.eqv z .none) else (ws.map numD).any λz=>PyData.eqv z .none)=ws.all λe=>(numV e).isSome:=by
 rw[z0 rfl]
 induction ws with
 |nil=>rfl
 | cons w ws ih =>
  rw[P0,List.any_cons,List.all_cons,Bool.not_or,ih];unfold numD;cases numV w <;> rfl
def isNm(w:Str):Bool:=decide (1<=w.length) && (decide (w.length<=8) && w.cps.toList.all letC)
def numsV:List (Str × Int):=[("tie",2),("drop",0),("far",2),("farthest",0),("middles",0),("best",0),("hubs",1),("show",0)]
def numN(x:Str):Option Int:=(numsV.find? λp=>decide (p.1=x)).map (·.2)
theorem tI(x:Str):∀ l:List (Str × Int),valV (l.map λp=>((Sum.inr p.1:Key),V.int p.2)) (.inr x)=((l.find? λp=>decide (p.1=x)).map (·.2)).map V.int
 |[]=>rfl
 | p::l=>by
  by_cases h:p.1=x
  ·rw[P0,oB (by rw[h]),List.find?_cons,D3 h];rfl
  ·rw[P0,vC (λz=>h (Sum.inr.inj z)),List.find?_cons,Q1 h,tI x l]
def m5:List Str->Bool
 |word::name::rest=>isNm name && (if word = "web" then !rest.isEmpty else (match numN word with|some n=>decide (n=(rest.length:Int))|none=>false) && rest.all λe=>(numV e).isSome)
 |_=>false
def E5(w:Str):Bool:=(PyData.str w).canLay0
def AL:VP:=λss Q=>∃ w:Str,ss=[.st (.str w)]/\w.length<=1000000/\Q (.st (.bool (isNm w)))
def jO:VP:=λss Q=>∃ ws:List Str,ss=[.st (.list (ws.map .str))]/\ws.length<=10000/\(∀ w∈ws,w.length<=10000/\E5 w=true)/\Q (.st (.bool (m5 ws)))
def rP(mg:Str->Option Value):VPX:=λss Q R=>∃ d:PyData,ss=[.st d]/\(∀ t,d=.str t->t.length<=5000/\∀ w∈Txt.split t " ",E5 w=true)/\(∀ t,d=.str t->m5 (Txt.split t " ")=true->Q (.st (.list ((Txt.split t " ").map .str)))) /\
 ((∀ t,d=.str t->m5 (Txt.split t " ")=false)->∀ C,mg "NoRow" = some (.ref C)->R C)
theorem sc_is_name:FnScope ["word"] ["word"] (J0 s_is_name):=by row_cond sc
theorem VM(T:Txt w K mg):Can P w K mg base "is_name" 1 ["word"] (spP K (AL)):=by
 obtain⟨f,fd,D⟩:=T.d_is_name;obtain⟨g,b⟩:=T.v_LETTERS;obtain⟨d,a⟩:=T.v_MOST_LETTERS;obtain⟨p,l⟩:=T.o_Desk;have j:=l.mgx;have o:=T.n_Desk_webs _ j;refine D.can (D.fn.ok sc_is_name (λvs H Q E h=>lenP h λss u q=>by obtain⟨w,rfl,t,k⟩:=q;rfl) (λcdv A outer s H vs Q E z h=>?_));have nd:=sc_is_name.nd;refine⟨_,(L0 (T0 (q7 (eF uB uB O2 (m1 mE (by rfl) T.b_len M5 (o0 (pv 0) q0)) (T5 (v:=.int 8) rfl a ⟨_,rfl⟩)) (j9 (m1 (jC rfl) (by rfl) T.b_all nC (o0 (W4 rfl (N:=["sign"]) (src:=[none]) (by exact N3 rfl rfl rfl rfl rfl rfl) (YH (pv 0)) (λ_ _ _ _=>(K0 (i:=0) (show List.Nodup (["sign"]:List Str) by decide +kernel) rfl aa (hf:=Or.inr rfl))) (λ_ _ _ _=>O3) (λ_ _ _ _=>(m7 nF (pv 0) (T5 (v:=.str "abcdefghijklmnopqrstuvwxyz") rfl b ⟨_,rfl⟩) rfl))) q0)))))),?_⟩;refine V1 h λss u q B F=>?_;refine exS1 ss q λw m=>?_;have t:=m.1;have k:=m.2;clear m q;show EvS B _ _ [some (.st (.str w))];row_cond go;refine zD t ?_;row_cond go;unfold isNm at k;refine v6 (λn=>?_) (λn=>?_)
 ·have n:1<=w.length:=by lia
  row_cond go;refine v6 (λr=>?_) (λr=>?_)
  ·have r:w.length<=8:=by lia
   rw[D3 n,D3 r,Bool.true_and,Bool.true_and] at k;row_cond go;refine IH ?_;row_cond go;refine⟨_,rfl,?_⟩;unfold sgnD;refine D5 (f:=λc=>PyData.str ⟨#[c]⟩) (λc=>.bool (letC c)) rfl (by show w.cps.toList.length<=_;have:w.cps.toList.length=w.length:=rfl;lia) (λc C x y=>?_) ?_
   ·row_cond go;refine NH ?_;rw[show("abcdefghijklmnopqrstuvwxyz" : Str)=lets from rfl,MO];row_cond go;exact rfl
   ·row_cond go;rw[show(w.cps.toList.map λc=>PyData.bool (letC c))=(w.cps.toList.map letC).map .bool by rw[P4];rfl];refine NB ?_;rw[show(w.cps.toList.map letC).all id=w.cps.toList.all letC by rw[List.all_map];rfl];row_cond go;exact k
  ·rw[D3 n,Q1 (show ¬ w.length<=8 by lia)] at k;row_cond go;exact k
 ·rw[Q1 (show ¬ 1<=w.length by lia)] at k;row_cond go;exact k
theorem sc_is_row:FnScope ["words","word","name","rest"] ["words"] (J0 s_is_row):=by row_cond sc
theorem kF(T:Txt w K mg):Can P w K mg base "is_row" 2 ["words"] (spP K (jO)):=by
 obtain⟨f,fd,D⟩:=T.d_is_row;obtain⟨aNUMBERS,b,a⟩:=T.v_NUMBERS;obtain⟨t,l⟩:=T.o_Desk;have d:=l.mgx;have p:=T.n_Desk_webs _ d;refine D.can (D.fn.ok sc_is_row (λvs H Q E h=>lenP h λss v q=>by obtain⟨ws,rfl,u,o,k⟩:=q;rfl) (λcdv A outer s H vs Q E m h=>?_));have nd:=sc_is_row.nd
 refine⟨_,(C0 (X1 (PW.pt (O8 (o3 fB (m1 u6 (by rfl) T.b_len M5 (o0 (pv 0) q0)) O2 (Q2 _)) (E9 (n4 (Y3 (R0 (VM T) m (o0 (P3 T3 (pv 0) O2 (λ_ _=>rfl)) q0)))))))
   (L0 (T0 O7))
   W1)
  (C0 (t3 (pv 0) (GC rfl (K0 (i:=1) nd rfl aa) (K0 (i:=2) nd rfl aa) (K0 (i:=3) nd rfl aa)))
  (C0 (X1 (o3 (X6 m.units) (pv 1) t0 (Q2 _))
   (L0 (T0 (m7 SL (m1 u6 (by rfl) T.b_len M5 (o0 (pv 3) q0)) O2 (Q2 _))))
   W1)
  (L0 (T0 (q7 (m7 (uN m.units) (WQ (a _) b (pv 1) ⟨rfl,rfl,rfl,rfl⟩) (m1 u6 (by rfl) T.b_len M5 (o0 (pv 3) q0)) (Q2 _)) (j9 (m7 (JC m.units) U6 (W4 rfl (N:=["each"]) (src:=[none]) (by exact N3 rfl rfl rfl rfl rfl rfl) (K4 (pv 3)) (λ_ _ _ _=>(K0 (i:=0) (show List.Nodup (["each"]:List Str) by decide +kernel) rfl aa (hf:=Or.inr rfl))) (λ_ _ _ _=>O3) (λ_ _ _ _=>(R0 (y9 T) m (o0 (pv 0) q0)))) rfl)))))))),?_⟩
 refine V1 h λss v q B F=>?_;refine exS1 ss q λws c=>?_;have u:=c.1;have o:=c.2.1;have k:=c.2.2;clear c q;show EvS B _ _ [some (.st (.list (ws.map .str))),none,none,none];row_cond go;cases ws with
 | nil =>
  refine v6 (λh=>?_) (λh=>absurd (by decide) h);row_cond go;exact k
 | cons word ws =>
  cases ws with
  | nil =>
   refine v6 (λh=>?_) (λh=>absurd (by simp) h);row_cond go;exact k
  | cons name rest =>
   refine v6 (λh=>absurd h (by simp;lia)) (λh=>?_);rw[P0,P0];have y:Y0 (PyData.str word::PyData.str name::rest.map PyData.str) 1=some (.str name):=P7 (j:=1) rfl;row_cond go;refine⟨name,rfl,by have:=(o name (by simp)).1;lia,?_⟩;rw[show m5 (word::name::rest)=(isNm name && (if word = "web" then !rest.isEmpty else (match numN word with|some n=>decide (n=(rest.length:Int))|none=>false) && rest.all λe=>(numV e).isSome)) from rfl] at k;cases hn:isNm name with
   | false =>
    rw[hn] at k;row_cond go;exact k
   | true =>
    rw[hn,Bool.true_and] at k;row_cond st;row_cond st;row_cond st;refine BB ?_;refine' Z4 (by assumption) ?_;row_cond st;row_cond st;refine K3 (MF rfl ?_);refine CC ?_;refine U2 ?_;dsimp only[List.set_cons_zero,List.set_cons_succ];row_cond go;refine o7 (o word (by simp)).2 (by first|rfl|decide +kernel) (by simp[PyData.depth]) ?_;rw[n6];row_cond go;refine v6 (λg=>?_) (λg=>?_)
    ·row_cond go;rw[z0 g] at k;cases rest with
     |nil=>exact k
     | cons x r =>
      rw[show decide ((0:Int)<(((x::r).map PyData.str).length:Int))=true from D3 (by simp)];exact k
    rw[y0 g] at k;row_cond go;refine rJ numN (λx=>tI x numsV) ?_;row_cond go;refine⟨word,rfl,?_⟩;row_cond go;cases hN:numN word with
    | none =>
     rw[hN] at k;refine rF rfl rfl (by simp[optI,PyData.depth]) ?_;rw[show(optI none).eqv (.int (((rest.map PyData.str).length:Nat):Int))=false from rfl];row_cond go;exact k
    | some n =>
     rw[hN] at k;refine rF rfl rfl (by simp[optI,PyData.depth]) ?_;rw[NO,N1];by_cases hl2:n=(rest.length:Int)
     ·rw[D3 hl2];simp only[D3 hl2,Bool.true_and] at k;row_cond go;refine D5 (f:=λs=>PyData.str s) numD rfl (by simp at u;lia) (λs hs z C=>?_) ?_
      ·have:=(o s (by simp[hs])).1;row_cond go;refine⟨s,rfl,by lia,?_⟩;row_cond go;exact rfl
      ·row_cond go;refine TC rfl (WG rest) (by simp[PyData.depth]) ?_;rw[sJ];row_cond go;exact k
     ·rw[Q1 hl2];simp only[Q1 hl2,Bool.false_and] at k;row_cond go;exact k
theorem scX_row_words:FnScope ["row","words"] ["row"] (J0 s_row_words):=by row_cond sc
theorem qM(T:Txt w K mg):CanX P w K mg base "row_words" 3 ["row"] (spX K (rP mg)):=by
 obtain⟨f,fd,D⟩:=T.d_row_words;obtain⟨b,a⟩:=T.x_NoRow;refine D.canX (D.fn.okX scX_row_words (λvs H Q E h=>lenX h λss n p q=>by obtain⟨d,rfl,j,k1,k2⟩:=q;rfl) (λcdv A outer s H vs Q E g h=>?_));have nd:=scX_row_words.nd
 refine⟨_,(C0 (X1 (n4 (Y3 (m1 n7 (by rfl) T.b_isinstance y4 (o0 (pv 0) (o0 (T6 (v:=.ty "str") rfl T.b_str p9 rfl) q0)))))
   (L0 (z6 a.ok))
   W1)
  (C0 (N0 (i:=1) nd rfl aa (O4 PySem.F.plainAttrs_str PySem.F.slot_str_split PySem.F.type_str_split AA (pv 0) (o0 t0 q0)))
  (C0 (X1 (n4 (Y3 (R0 (kF T) g (o0 (pv 1) q0))))
   (L0 (z6 a.ok))
   W1)
  (L0 (T0 (pv 1)))))),?_⟩
 refine Q4 h λss n p q B r l=>?_;obtain⟨d,rfl,j,k1,k2⟩:=q;show EvS B _ _ [some (.st d),none];row_cond go;cases d with
 | str t =>
  rw[show isiD "str" (.str t)=true from rfl];obtain⟨j,hok⟩:=j t rfl;have o:=Y7 t " ";repeat (first|(refine JA ?_)|row_cond st)
  refine⟨_,rfl,?_⟩;row_cond go;refine⟨_,rfl,rfl,by lia,by lia,?_⟩;refine u5 L4 ?_;row_cond go;refine⟨_,rfl,by lia,λw m=>⟨by have:=V7 (c:=32) m;lia,hok w m⟩,?_⟩;cases g:m5 (Txt.split t " ") with
  | true =>
   row_cond go;exact k1 t rfl g
  | false =>
   row_cond go;refine R6 l (k2 (λt' e=>by cases e;exact g) _ a.mgx) ?_;row_cond go;exact W6 rfl
 | _ =>
  refine U5 ?_;row_cond go;refine R6 l (k2 (λt z=>by cases z) _ a.mgx) ?_;row_cond go;exact W6 rfl
open Tx
def OS:VP:=λss Q=>∃ p:Int × Int,ss=[.st (prD p)]/\0<=p.1/\p.1<100/\0<=p.2/\p.2<100/\Q (.st (.str (tS p)))
def xR:VP:=λss Q=>∃(n:Int)(es:List (Int × Int)),ss=[.st (webD n es)]/\0<=n/\n<100/\es.length<=10000/\(∀ p∈es,0<=p.1/\p.1<100/\0<=p.2/\p.2<100)/\Q (.st (.str (wS n es)))
theorem iD(a:0<=i)(b:i<100):((nS i).length=1\/(nS i).length=2)/\(∀ c∈(nS i).cps.toList,(!(Builtin.Str.occurrences figs ⟨#[c]⟩ 0 figs.length 1).isEmpty)=true/\c ≠ 45/\c ≠ 32)/\((nS i).length=2->(nS i).cps.toList.head? ≠ some 48):=by
 have h:=UK a b;unfold okN at h;rw[show((i.toNat:Nat):Int)=i by lia] at h;simp only[N4,Bool.or_eq_true,E1,bne_iff_ne,R3] at h;refine⟨h.1.1,λc d=>?_,λf=>?_⟩
 ·have:=h.1.2 c d;exact⟨this.1.1,this.1.2,this.2⟩
 ·rcases h.2 with z|z
  ·exact absurd f z
  ·exact z
theorem lI(h:0<=p.1/\p.1<100/\0<=p.2/\p.2<100):(tS p).length<=5:=by
 have a:=(iD h.1 h.2.1).1;have b:=(iD h.2.2.1 h.2.2.2).1;unfold tS;rw[strLen_append,strLen_append];have:(("-" : Str)).length=1:=rfl;lia
def kC:VP:=λss Q=>∃(n:Int)(es:List (Int × Int))(a b:Int),ss=[.st (webD n es),.st (.list [.int a,.int b])]/\n<=100/\InN n es/\es.length<=10000/\0<=a/\a<n/\0<=b/\b<n/\Gr.farO (Tied es) a b=none/\Q (.st (.str "none"))
def jB:VP:=λss Q=>∃(n:Int)(es:List (Int × Int))(ds:List PyData)(x a b:Int),ss=[.st (webD n es),.st (.list ds)]/\1<=n/\n<=100/\InN n es/\es.length<=10000/\Joined n es/\FarOk n es x a b/\0<=x/\x<100/\Q (.st (.str (nS x ++ " " ++ nS a ++ " " ++ nS b)))
def FC:VP:=λss Q=>∃(n:Int)(es:List (Int × Int))(ds:List PyData)(z:Z3),ss=[.st (webD n es),.st (.list ds)]/\1<=n/\n<=100/\InN n es/\es.length<=10000/\Joined n es/\BestOk n es (some z)/\0<=z.1/\z.1<100/\0<=z.2.1/\z.2.1<100/\0<=z.2.2/\z.2.2<100/\Q (.st (.str (nS z.1 ++ " " ++ tS z.2)))
def IC:VP:=λss Q=>∃(n:Int)(es:List (Int × Int))(ds:List PyData),ss=[.st (webD n es),.st (.list ds)]/\0<=n/\n<100/\es.length<=10000/\(∀ p∈es,0<=p.1/\p.1<100/\0<=p.2/\p.2<100)/\Q (.st (.str (wS n es)))
def zC(mg:Str->Option Value):VPX:=λss Q R=>∃(n:Int)(es:List (Int × Int))(d1 d2:PyData),ss=[.st (webD n es),.st (.list [d1,d2])]/\(noPl n d1\/noPl n d2)/\∀ C,mg "NoPlace" = some (.ref C)->R C
def Z6(mg:Str->Option Value):VPX:=λss Q R=>∃(n:Int)(es:List (Int × Int))(ds:List PyData),ss=[.st (webD n es),.st (.list ds)]/\1<=n/\n<=100/\InN n es/\es.length<=10000/\¬ Joined n es/\∀ C,mg "NoJoin" = some (.ref C)->R C
def BC(mg:Str->Option Value):VPX:=λss Q R=>∃(n:Int)(es:List (Int × Int))(d:PyData),ss=[.st (webD n es),.st (.list [d])]/\1<=n/\n<=100/\InN n es/\es.length<=10000/\(Joined n es->btwD 0 20 d=false)/\(¬ Joined n es->∀ C,mg "NoJoin" = some (.ref C)->R C)/\(Joined n es->∀ C,mg "NoNumber" = some (.ref C)->R C)
theorem FarOk.uniq(h:FarOk n es x a b)(g:FarOk n es y c d):x=y/\a=c/\b=d:=by
 have e:=aD h.top g.top;subst e;have f:=h.fst _ _ g.a0 g.a1 g.b0 g.b1 g.eq;have i:=g.fst _ _ h.a0 h.a1 h.b0 h.b1 h.eq;lia
theorem sc_show_tie:FnScope ["tie","a","b"] ["tie"] (J0 s_show_tie):=by row_cond sc
theorem AI(T:Txt w K mg):Can P w K mg base "show_tie" 1 ["tie"] (spP K (OS)):=by
 obtain⟨f,fd,D⟩:=T.d_show_tie;obtain⟨g,c⟩:=T.o_Desk;have b:=c.mgx;have d:=T.n_Desk_webs _ b;refine D.can (D.fn.ok sc_show_tie (λvs H Q E h=>lenP h λss j q=>by obtain⟨p,rfl,a0,a1,b0,b1,k⟩:=q;rfl) (λcdv A outer s H vs Q E l h=>?_));have nd:=sc_show_tie.nd
 refine⟨_,(C0 (t3 (pv 0) (T4 rfl (P1 (K0 (i:=1) nd rfl aa) (P1 (K0 (i:=2) nd rfl aa) t4))))
  (L0 (T0 (RR (by decide) (pv 1) (pv 2))))),?_⟩
 refine V1 h λss j q B m=>?_;refine exS1 ss q λp a=>?_;have a0:=a.1;have a1:=a.2.1;have b0:=a.2.2.1;have b1:=a.2.2.2.1;have k:=a.2.2.2.2;clear a q;show EvS B _ _ [some (.st (prD p)),none,none];row_cond go;refine K3 (JQ ?_);row_cond go;refine⟨⟨a0,by lia⟩,?_⟩;row_cond go;exact⟨⟨b0,by lia⟩,k⟩
theorem sc_show_web:FnScope ["web","n","ties"] ["web"] (J0 s_show_web):=by row_cond sc
theorem WR(T:Txt w K mg):Can P w K mg base "show_web" 2 ["web"] (spP K (xR)):=by
 obtain⟨f,fd,D⟩:=T.d_show_web;obtain⟨l,c⟩:=T.o_Desk;have b:=c.mgx;have j:=T.n_Desk_webs _ b;refine D.can (D.fn.ok sc_show_web (λvs H Q E h=>lenP h λss t q=>by obtain⟨n,es,rfl,m,r,u,d,k⟩:=q;rfl) (λcdv A outer s H vs Q E v h=>?_));have nd:=sc_show_web.nd
 refine⟨_,(C0 (t3 (pv 0) (T4 rfl (P1 (K0 (i:=1) nd rfl aa) (P1 (K0 (i:=2) nd rfl aa) t4))))
  (L0 (T0 (O4 PySem.F.plainAttrs_str PySem.F.slot_str_join PySem.F.type_str_join ME t0 (o0 (W0 Z1 (Z0 (o0 (BA EI (by rfl) T.b_str p9 (o0 (pv 1) q0)) q0)) (W4 rfl (N:=["tie"]) (src:=[none]) (by exact N3 rfl rfl rfl rfl rfl rfl) (K4 (pv 2)) (λ_ _ _ _=>(K0 (i:=0) (show List.Nodup (["tie"]:List Str) by decide +kernel) rfl aa (hf:=Or.inr rfl))) (λ_ _ _ _=>O3) (λ_ _ _ _=>(R0 (AI T) v (o0 (pv 0) q0))))) q0))))),?_⟩
 refine V1 h λss t q B z=>?_;refine exS2 ss q λn es a=>?_;have m:=a.1;have r:=a.2.1;have u:=a.2.2.1;have d:=a.2.2.2.1;have k:=a.2.2.2.2;clear a q;show EvS B _ _ [some (.st (webD n es)),none,none];row_cond go;refine dD ?_;row_cond go;refine⟨_,rfl,?_⟩;row_cond go;refine FL ⟨m,by lia⟩ ?_;row_cond go;refine D5 (f:=prD) (λp=>.str (tS p)) rfl (by lia) (λp o x y=>?_) ?_
 ·have g:=d p o;row_cond go;refine⟨p,rfl,g.1,g.2.1,g.2.2.1,g.2.2.2,?_⟩;row_cond go;exact rfl
 ·refine IE (by rw[N1];simp;lia) (k6 ?_);row_cond go;refine⟨nS n::es.map tS,by rw[P0,P4];rfl,?_,k⟩;have hs:=EC (λs hs=>?_:∀ s∈nS n::es.map tS,Str.length s<=5)
  ·have:(("" ++ " " : Str)).length=1:=rfl;rw[show((" " : Str)).length=1 from rfl,v3,N1];rw[v3,N1] at hs;lia
  ·rcases V0.mp hs with e|h
   ·have:=(iD m r).1;rw[e];lia
   ·obtain⟨p,o,rfl⟩:=T1.mp h;exact lI (d p o)
theorem sc_tell_far:FnScope ["web","numbers","a","b","far"] ["web","numbers"] (J0 s_tell_far):=by row_cond sc
theorem aT(T:Txt w K mg):Can P w K mg base "tell_far" 7 ["web","numbers"] (spP K (kC)):=by
 obtain⟨f,fd,D⟩:=T.d_tell_far;obtain⟨o,g⟩:=T.o_Desk;have d:=g.mgx;have m:=T.n_Desk_webs _ d;refine D.can (D.fn.ok sc_tell_far (λvs H Q E h=>lenP h λss r q=>by obtain⟨n,es,a,b,rfl,p,j,l,a0,a1,b0,b1,hf,k⟩:=q;rfl) (λcdv A outer s H vs Q E t h=>?_));have nd:=sc_tell_far.nd
 refine⟨_,(C0 (t3 (pv 1) (mF rfl (P1 (K0 (i:=2) nd rfl aa) (P1 (K0 (i:=3) nd rfl aa) t4))))
  (C0 (N0 (i:=4) nd rfl aa (R0 (XR T) t (o0 (pv 0) (o0 (pv 2) (o0 (pv 3) q0)))))
  (L0 (T0 (CG (o3 WC (pv 4) U6 (Q2 _)) t0 (BA EI (by rfl) T.b_str p9 (o0 (pv 4) q0))))))),?_⟩
 refine V1 h λss r q B u=>?_;refine exS4 ss q λn es a b c=>?_;have p:=c.1;have j:=c.2.1;have l:=c.2.2.1;have a0:=c.2.2.2.1;have a1:=c.2.2.2.2.1;have b0:=c.2.2.2.2.2.1;have b1:=c.2.2.2.2.2.2.1;have hf:=c.2.2.2.2.2.2.2.1;have k:=c.2.2.2.2.2.2.2.2;clear c q;show EvS B _ _ [some (.st (webD n es)),some (.st (.list [.int a,.int b])),none,none,none];row_cond go;refine⟨n,a,b,es,rfl,p,j,l,a0,a1,b0,b1,?_⟩;rw[hf];row_cond go;rw[z0 (show isNone (oD none)=true from rfl)];row_cond go;exact k
theorem sc_tell_farthest:FnScope ["web","numbers","far","a","b"] ["web","numbers"] (J0 s_tell_farthest):=by row_cond sc
theorem eQ(T:Txt w K mg):Can P w K mg base "tell_farthest" 10 ["web","numbers"] (spP K (jB)):=by
 obtain⟨f,fd,D⟩:=T.d_tell_farthest;obtain⟨p,j⟩:=T.o_Desk;have g:=j.mgx;have o:=T.n_Desk_webs _ g;refine D.can (D.fn.ok sc_tell_farthest (λvs H Q E h=>lenP h λss F q=>by obtain⟨n,es,ds,x,a,b,rfl,y,z,l,m,u,t,v,G,k⟩:=q;rfl) (λcdv A outer s H vs Q E J h=>?_));have nd:=sc_tell_farthest.nd
 refine⟨_,(C0 (t3 (R0 (bP T) J (o0 (pv 0) q0)) (T4 rfl (P1 (K0 (i:=2) nd rfl aa) (P1 (K0 (i:=3) nd rfl aa) (P1 (K0 (i:=4) nd rfl aa) t4)))))
  (L0 (T0 (yT (by decide) (by decide) (pv 2) (pv 3) (pv 4))))),?_⟩
 refine V1 h λss F q B O=>?_;refine exS6 ss q λn es ds x a b c=>?_;have y:=c.1;have z:=c.2.1;have l:=c.2.2.1;have m:=c.2.2.2.1;have u:=c.2.2.2.2.1;have t:=c.2.2.2.2.2.1;have v:=c.2.2.2.2.2.2.1;have G:=c.2.2.2.2.2.2.2.1;have k:=c.2.2.2.2.2.2.2.2;clear c q;show EvS B _ _ [some (.st (webD n es)),some (.st (.list ds)),none,none,none];row_cond go;refine⟨n,es,rfl,y,z,l,m,u,λL N M d=>?_⟩;obtain⟨rfl,rfl,rfl⟩:=d.uniq t;have hh:=d.a0;have C:=d.a1;have r:=d.b0;have I:=d.b1;row_cond go;refine K3 (eN ?_);row_cond go;refine⟨⟨v,by lia⟩,?_⟩;row_cond go;refine⟨⟨hh,by lia⟩,?_⟩;row_cond go;exact⟨⟨r,by lia⟩,k⟩
theorem sc_tell_best:FnScope ["web","numbers","best","far","tie"] ["web","numbers"] (J0 s_tell_best):=by row_cond sc
theorem LJ(T:Txt w K mg):Can P w K mg base "tell_best" 10 ["web","numbers"] (spP K (FC)):=by
 obtain⟨f,fd,D⟩:=T.d_tell_best;obtain⟨r,g⟩:=T.o_Desk;have d:=g.mgx;have m:=T.n_Desk_webs _ d;refine D.can (D.fn.ok sc_tell_best (λvs H Q E h=>lenP h λss I q=>by obtain⟨n,es,ds,z,rfl,C,G,j,l,v,y,u,J,a0,a1,b0,b1,k⟩:=q;rfl) (λcdv A outer s H vs Q E F h=>?_));have nd:=sc_tell_best.nd
 refine⟨_,(C0 (N0 (i:=2) nd rfl aa (R0 (HP T) F (o0 (pv 0) q0)))
  (C0 (X1 (o3 WC (pv 2) U6 (Q2 _))
   (L0 (T0 t0))
   W1)
  (C0 (t3 (pv 2) (T4 rfl (P1 (K0 (i:=3) nd rfl aa) (P1 (K0 (i:=4) nd rfl aa) t4))))
  (L0 (T0 (ZK (by decide) (pv 3) (R0 (AI T) F (o0 (pv 4) q0)))))))),?_⟩
 refine V1 h λss I q B M=>?_;refine exS4 ss q λn es ds z c=>?_;have C:=c.1;have G:=c.2.1;have j:=c.2.2.1;have l:=c.2.2.2.1;have v:=c.2.2.2.2.1;have y:=c.2.2.2.2.2.1;have u:=c.2.2.2.2.2.2.1;have J:=c.2.2.2.2.2.2.2.1;have a0:=c.2.2.2.2.2.2.2.2.1;have a1:=c.2.2.2.2.2.2.2.2.2.1;have b0:=c.2.2.2.2.2.2.2.2.2.2.1;have b1:=c.2.2.2.2.2.2.2.2.2.2.2.1;have k:=c.2.2.2.2.2.2.2.2.2.2.2.2;clear c q;show EvS B _ _ [some (.st (webD n es)),some (.st (.list ds)),none,none,none];row_cond go;refine⟨n,es,rfl,C,G,j,l,v,λo t=>?_⟩;cases t.uniq y;obtain⟨x,a,b⟩:=z;show EvG B _ (.st (.tuple [.int x,prD (a,b)])) _ _;row_cond go;rw[y0 (show ¬ (isNone (PyData.tuple [PyData.int x,prD (a,b)])=true) from λh=>Bool.noConfusion h)];refine BB ?_;refine' Z4 (by assumption) ?_;row_cond st;row_cond st;row_cond st;row_cond st;row_cond st;row_cond st;row_cond st;row_cond st;refine U2 ?_;dsimp only[List.set_cons_zero,List.set_cons_succ];row_cond st;refine' Z4 (by assumption) ?_;refine W5 (K3 (qK ?_));row_cond go;refine⟨⟨u,by lia⟩,?_⟩;row_cond go;refine⟨(a,b),rfl,a0,a1,b0,b1,?_⟩;have L:=lI (p:=(a,b)) ⟨a0,a1,b0,b1⟩;row_cond go;exact⟨_,rfl,by lia,k⟩
theorem sc_tell_writing:FnScope ["web","numbers"] ["web","numbers"] (J0 s_tell_writing):=by row_cond sc
theorem nR(T:Txt w K mg):Can P w K mg base "tell_writing" 3 ["web","numbers"] (spP K (IC)):=by
 obtain⟨f,fd,D⟩:=T.d_tell_writing;obtain⟨i,c⟩:=T.o_Desk;have b:=c.mgx;have g:=T.n_Desk_webs _ b;refine D.can (D.fn.ok sc_tell_writing (λvs H Q E h=>lenP h λss o q=>by obtain⟨n,es,ds,rfl,l,m,j,d,k⟩:=q;rfl) (λcdv A outer s H vs Q E p h=>?_));have nd:=sc_tell_writing.nd;refine⟨_,(L0 (T0 (R0 (WR T) p (o0 (pv 0) q0)))),?_⟩;refine V1 h λss o q B r=>?_;refine exS3 ss q λn es ds a=>?_;have l:=a.1;have m:=a.2.1;have j:=a.2.2.1;have d:=a.2.2.2.1;have k:=a.2.2.2.2;clear a q;show EvS B _ _ [some (.st (webD n es)),some (.st (.list ds))];row_cond go;exact⟨n,es,rfl,l,m,j,d,k⟩
theorem scX_tell_far:FnScope ["web","numbers","a","b","far"] ["web","numbers"] (J0 s_tell_far):=by row_cond sc
theorem LP(T:Txt w K mg):CanX P w K mg base "tell_far" 7 ["web","numbers"] (spX K (zC mg)):=by
 obtain⟨f,fd,D⟩:=T.d_tell_far;refine D.canX (D.fn.okX scX_tell_far (λvs H Q E h=>lenX h λss c d q=>by obtain⟨n,es,a,b,rfl,hd,k⟩:=q;rfl) (λcdv A outer s H vs Q E g h=>?_));have nd:=scX_tell_far.nd;refine⟨_,(C0 (t3 (pv 1) (mF rfl (P1 (K0 (i:=2) nd rfl aa) (P1 (K0 (i:=3) nd rfl aa) t4)))) (C0 (N0 (i:=4) nd rfl aa (n5 (TQ T) g (o0 (pv 0) (o0 (pv 2) (o0 (pv 3) q0))))) U4)),?_⟩;refine Q4 h λss c d q B l j=>?_;obtain⟨n,es,a,b,rfl,hd,k⟩:=q;show EvS B _ _ [some (.st (webD n es)),some (.st (.list [a,b])),none,none,none];row_cond go;refine X5 j ?_;row_cond go;exact⟨n,es,a,b,rfl,hd,k⟩
theorem scX_tell_farthest:FnScope ["web","numbers","far","a","b"] ["web","numbers"] (J0 s_tell_farthest):=by row_cond sc
theorem JT(T:Txt w K mg):CanX P w K mg base "tell_farthest" 10 ["web","numbers"] (spX K (Z6 mg)):=by
 obtain⟨f,fd,D⟩:=T.d_tell_farthest;refine D.canX (D.fn.okX scX_tell_farthest (λvs H Q E h=>lenX h λss j l q=>by obtain⟨n,es,ds,rfl,d,g,a,b,c,k⟩:=q;rfl) (λcdv A outer s H vs Q E m h=>?_));have nd:=scX_tell_farthest.nd;refine⟨_,(C0 (t3 (n5 (ML T) m (o0 (pv 0) q0)) (T4 rfl (P1 (K0 (i:=2) nd rfl aa) (P1 (K0 (i:=3) nd rfl aa) (P1 (K0 (i:=4) nd rfl aa) t4))))) U4),?_⟩;refine Q4 h λss j l q B p o=>?_;obtain⟨n,es,ds,rfl,d,g,a,b,c,k⟩:=q;show EvS B _ _ [some (.st (webD n es)),some (.st (.list ds)),none,none,none];row_cond go;refine X5 o ?_;row_cond go;exact⟨n,es,rfl,d,g,a,b,c,k⟩
theorem scX_tell_middles:FnScope ["web","numbers","wide","places"] ["web","numbers"] (J0 s_tell_middles):=by row_cond sc
theorem fS(T:Txt w K mg):CanX P w K mg base "tell_middles" 10 ["web","numbers"] (spX K (Z6 mg)):=by
 obtain⟨f,fd,D⟩:=T.d_tell_middles;refine D.canX (D.fn.okX scX_tell_middles (λvs H Q E h=>lenX h λss j l q=>by obtain⟨n,es,ds,rfl,d,g,a,b,c,k⟩:=q;rfl) (λcdv A outer s H vs Q E m h=>?_));have nd:=scX_tell_middles.nd;refine⟨_,(C0 (t3 (n5 (jQ T) m (o0 (pv 0) q0)) (T4 rfl (P1 (K0 (i:=2) nd rfl aa) (P1 (K0 (i:=3) nd rfl aa) t4)))) U4),?_⟩;refine Q4 h λss j l q B p o=>?_;obtain⟨n,es,ds,rfl,d,g,a,b,c,k⟩:=q;show EvS B _ _ [some (.st (webD n es)),some (.st (.list ds)),none,none];row_cond go;refine X5 o ?_;row_cond go;exact⟨n,es,rfl,d,g,a,b,c,k⟩
theorem scX_tell_best:FnScope ["web","numbers","best","far","tie"] ["web","numbers"] (J0 s_tell_best):=by row_cond sc
theorem UQ(T:Txt w K mg):CanX P w K mg base "tell_best" 10 ["web","numbers"] (spX K (Z6 mg)):=by
 obtain⟨f,fd,D⟩:=T.d_tell_best;refine D.canX (D.fn.okX scX_tell_best (λvs H Q E h=>lenX h λss j l q=>by obtain⟨n,es,ds,rfl,d,g,a,b,c,k⟩:=q;rfl) (λcdv A outer s H vs Q E m h=>?_));have nd:=scX_tell_best.nd;refine⟨_,(C0 (N0 (i:=2) nd rfl aa (n5 (eM T) m (o0 (pv 0) q0))) U4),?_⟩;refine Q4 h λss j l q B p o=>?_;obtain⟨n,es,ds,rfl,d,g,a,b,c,k⟩:=q;show EvS B _ _ [some (.st (webD n es)),some (.st (.list ds)),none,none,none];row_cond go;refine X5 o ?_;row_cond go;exact⟨n,es,rfl,d,g,a,b,c,k⟩
theorem scX_tell_hubs:FnScope ["web","numbers","wide","places"] ["web","numbers"] (J0 s_tell_hubs):=by row_cond sc
theorem mP(T:Txt w K mg):CanX P w K mg base "tell_hubs" 10 ["web","numbers"] (spX K (BC mg)):=by
 obtain⟨f,fd,D⟩:=T.d_tell_hubs;refine D.canX (D.fn.okX scX_tell_hubs (λvs H Q E h=>lenX h λss l o q=>by obtain⟨n,es,d,rfl,c,g,a,b,hd,k1,k2⟩:=q;rfl) (λcdv A outer s H vs Q E p h=>?_));have nd:=scX_tell_hubs.nd;refine⟨_,(C0 (t3 (n5 (RS T) p (o0 (pv 0) (o0 (P3 T3 (pv 1) O2 (λ_ _=>rfl)) q0))) (T4 rfl (P1 (K0 (i:=2) nd rfl aa) (P1 (K0 (i:=3) nd rfl aa) t4)))) U4),?_⟩;refine Q4 h λss l o q B t r=>?_;obtain⟨n,es,d,rfl,c,g,a,b,hd,k1,k2⟩:=q;show EvS B _ _ [some (.st (webD n es)),some (.st (.list [d])),none,none];have m:Y0 [d] 0=some d:=P7 (j:=0) rfl;row_cond go;refine X5 r ?_;row_cond go;exact⟨n,es,d,rfl,c,g,a,b,hd,k1,k2⟩
open Tx
def QR:VP:=λss Q=>∃ t:Str,ss=[.st (.str t)]/\(t.length<=5000/\∀ w∈Txt.split t " ",E5 w=true)/\m5 (Txt.split t " ")=true/\Q (.st (.list ((Txt.split t " ").map .str)))
def SO:VP:=λss Q=>∃(t:Str)(n:Int)(es:List (Int × Int)),ss=[.st (.str t)]/\t.length<=50000/\IsT t n es/\Q (.own (OW (.int n) (es.map prD)))
theorem sc_row_words:FnScope ["row","words"] ["row"] (J0 s_row_words):=by row_cond sc
theorem UE(T:Txt w K mg):Can P w K mg base "row_words" 3 ["row"] (spP K (QR)):=by
 obtain⟨f,fd,D⟩:=T.d_row_words;obtain⟨l,d⟩:=T.o_Desk;have b:=d.mgx;have j:=T.n_Desk_webs _ b;refine D.can (D.fn.ok sc_row_words (λvs H Q E h=>lenP h λss o q=>by obtain⟨t,rfl,m,g,k1⟩:=q;rfl) (λcdv A outer s H vs Q E g h=>?_));have nd:=sc_row_words.nd
 refine⟨_,(C0 (X1 (n4 (Y3 (m1 n7 (by rfl) T.b_isinstance y4 (o0 (pv 0) (o0 (T6 (v:=.ty "str") rfl T.b_str p9 rfl) q0)))))
   (L0 t8)
   W1)
  (C0 (N0 (i:=1) nd rfl aa (O4 PySem.F.plainAttrs_str PySem.F.slot_str_split PySem.F.type_str_split AA (pv 0) (o0 t0 q0)))
  (C0 (X1 (n4 (Y3 (R0 (kF T) g (o0 (pv 1) q0))))
   (L0 t8)
   W1)
  (L0 (T0 (pv 1)))))),?_⟩
 refine V1 h λss o q B r=>?_;refine exS1 ss q λt a=>?_;have m:=a.1;have g:=a.2.1;have k1:=a.2.2;clear a q;show EvS B _ _ [some (.st (.str t)),none];row_cond go;rw[show isiD "str" (.str t)=true from rfl];obtain⟨m,hok⟩:=m;have p:=Y7 t " ";repeat (first|(refine JA ?_)|row_cond st)
 refine⟨_,rfl,?_⟩;row_cond go;refine⟨_,rfl,rfl,by lia,by lia,?_⟩;refine u5 L4 ?_;row_cond go;refine⟨_,rfl,by lia,λw n=>⟨by have:=V7 (c:=32) n;lia,hok w n⟩,?_⟩;rw[g];row_cond go;exact k1
theorem sc_read_web:FnScope ["text","first","others","web"] ["text"] (J0 s_read_web):=by row_cond sc
theorem cS(T:Txt w K mg):Can P w K mg base "read_web" 7 ["text"] (spP K (SO)):=by
 obtain⟨f,fd,D⟩:=T.d_read_web;obtain⟨o,j⟩:=T.o_Desk;have d:=j.mgx;have n:=T.n_Desk_webs _ d;refine D.can (D.fn.ok sc_read_web (λvs H Q E h=>lenP h λss L q=>by obtain⟨t,p,g,rfl,y,l,k1⟩:=q;rfl) (λcdv A outer s H vs Q E r h=>?_));have nd:=sc_read_web.nd
 refine⟨_,(C0 (X1 (n4 (Y3 (m1 n7 (by rfl) T.b_isinstance y4 (o0 (pv 0) (o0 (T6 (v:=.ty "str") rfl T.b_str p9 rfl) q0)))))
   (L0 t8)
   W1)
  (C0 (t3 (O4 PySem.F.plainAttrs_str PySem.F.slot_str_split PySem.F.type_str_split AA (pv 0) (o0 t0 q0)) (nH rfl (K0 (i:=1) nd rfl aa) (K0 (i:=2) nd rfl aa)))
  (C0 (N0 (i:=3) nd rfl aa (L1 (o0 (R0 (y9 T) r (o0 (pv 1) q0)) (o0 (W4 rfl (N:=["word"]) (src:=[none]) (by exact N3 rfl rfl rfl rfl rfl rfl) (K4 (pv 2)) (λ_ _ _ _=>(K0 (i:=0) (show List.Nodup (["word"]:List Str) by decide +kernel) rfl aa (hf:=Or.inr rfl))) (λ_ _ _ _=>O3) (λ_ _ _ _=>(R0 (nG T) r (o0 (pv 0) q0)))) q0))))
  (C0 (X1 (n4 (Y3 (R0 (cH T) r (o0 (pv 3) q0))))
   (L0 t8)
   W1)
  (L0 (T0 (pv 3))))))),?_⟩
 refine V1 h λss L q B W=>?_;refine exS3 ss q λt p g b=>?_;have y:=b.1;have l:=b.2.1;have k1:=b.2.2;clear b q;show EvS B _ _ [some (.st (.str t)),none,none,none];row_cond go;rw[show isiD "str" (.str t)=true from rfl];have m:=Y7 t " ";repeat (first|(refine JA ?_)|row_cond st)
 refine⟨_,rfl,?_⟩;row_cond go;refine⟨_,rfl,rfl,by lia,by lia,?_⟩;have a:∀ v∈Txt.split t " ",v.length<=50000:=λv G=>D2 (V7 (c:=32) G) y;obtain⟨v,vs,es⟩:∃ v vs,Txt.split t " " = v::vs:=by
  cases e:Txt.split t " " with
  |nil=>exact absurd e (JI t " ")
  |cons v vs=>exact⟨v,vs,rfl⟩
 have x:IsW (numD v) (vs.map tieD) p g:=by
  obtain⟨R,C,z,h⟩:=l;rw[es] at z;injection z with I M;subst I M;exact h
 rw[es] at m a ⊢;rw[v3] at m;refine u5 L4 ?_;rw[P0];refine DH (u5 L4 ?_);repeat (first|(refine NI ?_)|row_cond st)
 refine⟨v,rfl,by have:=a v (by simp);lia,?_⟩;row_cond go;refine D5 (f:=λs=>PyData.str s) tieD rfl (by lia) (λs hs S U=>?_) ?_
 ·have:=a s (Q3 _ hs);row_cond go;refine⟨s,rfl,by lia,?_⟩;row_cond go;exact rfl
 ·refine⟨_,rfl,?_⟩;repeat (first|(refine pE (i:=3) (.inl rfl) ?_)|row_cond st)
  refine⟨_,_,rfl,by rw[N1];lia,λu=>?_,λu=>absurd ⟨p,g,x⟩ u⟩;row_cond go;obtain⟨J,_,_,O,_⟩:=x;rw[J,O];exact k1
open Tx
def BJ(C:Addr):VIo:=λA ss Q=>A=OI C []/\ss=[]/\Q (OGD C "webs" []) (.st .none)
def sM(C:Addr):VIo:=λA ss Q=>∃(es:List (Key × PyData))(ns:List Str),A=OGD C "webs" es/\ss=[]/\es.map (·.1)=ns.map Sum.inr/\ns.length<64/\∀ ms:List Str,ms.Perm ns->PyProof.Rows.sortedS ms=true->Q (OGD C "webs" es) (.own (OL (ms.map .str)))
def oP(C:Addr):VIo:=λA ss Q=>∃(es:List (Key × PyData))(t nm:Str)(rest:List Str)(n:Int)(ts:List (Int × Int)),A=OGD C "webs" es/\ss=[.st (.str t)]/\(t.length<=1000/\∀ w∈Txt.split t " ",E5 w=true)/\Txt.split t " " = (("web" : Str)::nm::rest)/\m5 (("web" : Str)::nm::rest)=true /\
 IsT (Txt.join " " rest) n ts/\(Txt.join " " rest).length<=50000/\es.length<=100/\Q (OGD C "webs" (putD es (.inr nm) (webD n ts))) (.st (.str "ok"))
theorem sc_Desk____init__:FnScope ["self"] ["self"] (J0 s_Desk____init__):=by row_cond sc
theorem xG(T:Txt w K mg)(b:mg "Desk" = some (.ref a)):CanM P w K mg base a "__init__" 1 ["self"] (spI K (BJ a)):=by
 obtain⟨f,fd,D⟩:=T.m_Desk____init__ _ b;have g:ObAt K mg "Desk" a:=by
  obtain⟨c,o⟩:=T.o_Desk;have:=o.mgx.symm.trans b;cases this;exact o
 have d:=T.n_Desk_webs _ b;refine D.can (D.fn.ok sc_Desk____init__ (λvs H Q E h=>lenI h λA ss i q=>by obtain⟨rfl,rfl,k⟩:=q;rfl) (λcdv A outer s H vs Q E j h=>?_));have nd:=sc_Desk____init__.nd;refine⟨_,(L0 (cN (pv 0) TF rfl)),?_⟩;refine cC h λl ss i q B m=>?_;obtain⟨rfl,rfl,k⟩:=q;show EvS B _ _ [some (.io (OI a []))];row_cond go;refine IL g.cl d ?_;row_cond go;exact⟨_,_,rfl,rfl,.inr rfl,_,rfl,k⟩
theorem sc_Desk__names:FnScope ["self"] ["self"] (J0 s_Desk__names):=by row_cond sc
theorem hG(T:Txt w K mg)(b:mg "Desk" = some (.ref a)):CanM P w K mg base a "names" 1 ["self"] (spI K (sM a)):=by
 obtain⟨f,fd,D⟩:=T.m_Desk__names _ b;have g:ObAt K mg "Desk" a:=by
  obtain⟨c,o⟩:=T.o_Desk;have:=o.mgx.symm.trans b;cases this;exact o
 have d:=T.n_Desk_webs _ b;refine D.can (D.fn.ok sc_Desk__names (λvs H Q E h=>lenI h λA ss l q=>by obtain⟨es,ns,rfl,rfl,j,i,k⟩:=q;rfl) (λcdv A outer s H vs Q E p h=>?_));have nd:=sc_Desk__names.nd;refine⟨_,(L0 (T0 (m1 (bU rfl) (by rfl) T.b_sorted lE (o0 (j7 (pv 0) rfl) q0)))),?_⟩;refine cC h λr ss l q B t=>?_;obtain⟨es,ns,rfl,rfl,j,i,k⟩:=q;show EvS B _ _ [some (.io (OGD a "webs" es))];row_cond go;refine QJ (.inr rfl) g.cl d j i λn m hs=>?_;exact⟨_,rfl,k n m hs⟩
theorem sc_Desk__say:FnScope ["self","row","word","name","rest","numbers","teller"] ["self","row"] (J0 s_Desk__say):=by row_cond sc
theorem sG(T:Txt w K mg)(b:mg "Desk" = some (.ref a)):CanM P w K mg base a "say" 11 ["self","row"] (spI K (oP a)):=by
 obtain⟨f,fd,D⟩:=T.m_Desk__say _ b;obtain⟨aTELLERS,f_tell_far,f_tell_farthest,f_tell_middles,f_tell_best,f_tell_hubs,f_tell_writing,I,G,p,d,j,l,m,g⟩:=T.v_TELLERS;have u:ObAt K mg "Desk" a:=by
  obtain⟨c,o⟩:=T.o_Desk;have:=o.mgx.symm.trans b;cases this;exact o
 have r:=T.n_Desk_webs _ b;refine D.can (D.fn.ok sc_Desk__say (λvs H Q E h=>lenI h λA ss R q=>by obtain⟨es,t,nm,rest,n,ts,rfl,rfl,C,hs,z,N,J,M,k⟩:=q;rfl) (λcdv A outer s H vs Q E z h=>?_));have nd:=sc_Desk__say.nd
 refine⟨_,(C0 (t3 (R0 (UE T) z (o0 (pv 1) q0)) (GC rfl (K0 (i:=2) nd rfl aa) (K0 (i:=3) nd rfl aa) (K0 (i:=4) nd rfl aa))) (C0 (X1 (o3 (X6 z.units) (pv 2) t0 (Q2 _))
   (C0 (bD (k8 z) (j7 (pv 0) rfl) (pv 3) (R0 (cS T) z (o0 (O4 PySem.F.plainAttrs_str PySem.F.slot_str_join PySem.F.type_str_join ME t0 (o0 (pv 4) q0)) q0)) rfl)
    (L0 (T0 t0)))
   W1) U4)),?_⟩
 refine cC h λW ss R q B X=>?_;obtain⟨es,t,nm,rest,n,ts,rfl,rfl,C,hs,z,N,J,M,k⟩:=q;show EvS B _ _ [some (.io (OGD a "webs" es)),some (.st (.str t)),none,none,none,none,none];row_cond go;refine⟨t,rfl,⟨by have:=C.1;lia,C.2⟩,by rw[hs];exact z,?_⟩;have U:(PyData.str nm).canLay0=true:=C.2 nm (by rw[hs];simp);rw[hs,P0,P0];have L:=Y7 t " ";rw[hs] at L;simp only[v3] at L;have y:∀ v∈rest,v.length<=1000:=λv O=>D2 (V7 (c:=32) (x:=t) (by show v∈Txt.split t " ";rw[hs];simp[O])) C.1;refine CC (u5 L4 ?_);row_cond go;refine o7 (by first|rfl|decide +kernel) (by first|rfl|decide +kernel) (by simp[PyData.depth]) ?_;rw[n6,D3 rfl];row_cond go;refine eK u.cl r ?_;row_cond go;refine dD ?_;row_cond go;refine⟨_,rfl,?_⟩;row_cond go;refine⟨rest,rfl,?_,?_⟩
 ·have:=EC y;rw[show((" " : Str)).length=1 from rfl];have:=C.1;have S:rest.length * 1000<=1001 * 1000:=Nat.mul_le_mul_right _ (by lia);lia
 row_cond go;refine⟨_,n,ts,rfl,J,N,fH ?_⟩;refine⟨_,es,.inr nm,rfl,.inr rfl,rfl,by lia,?_⟩;dsimp only[List.set_cons_zero,List.set_cons_succ,reS];refine' Z4 (by assumption) ?_;row_cond go;exact k
open Tx
def JB(q:VP):Prop:=∀ ss Q Q',q ss Q->(∀ s,Q s->Q' s)->q ss Q'
theorem zP:JB kC:=λ_ _ _ ⟨n,es,a,b,e,c,j,g,m,h,i,d,l,k⟩ f=>⟨n,es,a,b,e,c,j,g,m,h,i,d,l,f _ k⟩
theorem DJ:JB jB:=λ_ _ _ ⟨n,es,ds,x,a,b,e,c,j,g,m,h,i,d,l,k⟩ f=>⟨n,es,ds,x,a,b,e,c,j,g,m,h,i,d,l,f _ k⟩
theorem bS:JB FC:=λ_ _ _ ⟨n,es,ds,z,e,m,i,g,p,o,h,d,l,j,c,a,b,k⟩ f=>⟨n,es,ds,z,e,m,i,g,p,o,h,d,l,j,c,a,b,f _ k⟩
theorem dM:JB IC:=λ_ _ _ ⟨n,es,ds,e,a,d,b,c,k⟩ f=>⟨n,es,ds,e,a,d,b,c,f _ k⟩
def o8(word:Str)(n:Int)(ts:List (Int × Int))(ds:List PyData)(r:Str):Prop :=
 (word = "far"/\kC [.st (webD n ts),.st (.list ds)] (· = .st (.str r)))\/(word = "farthest"/\jB [.st (webD n ts),.st (.list ds)] (· = .st (.str r))) ∨
 (word = "best"/\FC [.st (webD n ts),.st (.list ds)] (· = .st (.str r)))\/(word = "show"/\IC [.st (webD n ts),.st (.list ds)] (· = .st (.str r)))
def FH:VMT:=λfs ss Q=>∃(es:List (Key × PyData))(t word nm:Str)(rest:List Str)(n:Int)(ts:List (Int × Int))(r:Str),fs=[(("webs" : Str),aez es)]/\es ≠ []/\ss=[.st (.str t)]/\(t.length<=1000/\∀ w∈Txt.split t " ",E5 w=true)/\Txt.split t " " = word::nm::rest/\m5 (word::nm::rest)=true /\
 valD es (.inr nm)=some (webD n ts)/\o8 word n ts (rest.map numD) r/\Q (.st (.str r))
def mH(K:Frag)(mg:Str->Option Value):Addr->Sp->Prop:=λg sp =>
 (mg "tell_far" = some (.ref g)/\sp=spP K kC)\/(mg "tell_farthest" = some (.ref g)/\sp=spP K jB)\/(mg "tell_best" = some (.ref g)/\sp=spP K FC)\/(mg "tell_writing" = some (.ref g)/\sp=spP K IC)
theorem held(c:Can P w K mg base x k ps sp)(b:mg x=some (.ref g))(a:k<=j):∃ fd k ps,k<=j/\FnOk P w K mg base CX0 k g fd ps sp/\keepIn K (.ref g)=true/\Binds K fd ps []:=by
 obtain⟨f,fd,C⟩:=c;have e:=C.mgx.symm.trans b;cases e;exact⟨fd,k,ps,a,C.ok,C.kp,C.bd⟩
theorem zS(T:Txt w K mg)(a:10<=j):∀ g sp,mH K mg g sp->∃ fd k ps,k<=j/\FnOk P w K mg base CX0 k g fd ps sp/\keepIn K (.ref g)=true/\Binds K fd ps []:=by
 rintro g sp (⟨hm,rfl⟩|⟨hm,rfl⟩|⟨hm,rfl⟩|⟨hm,rfl⟩)
 ·exact held (aT T) hm (by lia)
 ·exact held (eQ T) hm (by lia)
 ·exact held (LJ T) hm (by lia)
 ·exact held (nR T) hm (by lia)
theorem scT_Desk__say:FnScope ["self","row","word","name","rest","numbers","teller"] ["self","row"] (J0 s_Desk__say):=by row_cond sc
theorem XA(T:Txt w K mg)(p:mg "Desk" = some (.ref d)):CanM P w K mg base d "say" 11 ["self","row"] (spMT K d (FH)):=by
 obtain⟨f,fd,D⟩:=T.m_Desk__say _ p;obtain⟨aTELLERS,f_tell_far,f_tell_farthest,f_tell_middles,f_tell_best,f_tell_hubs,f_tell_writing,C,z,m,a,y,l,G,b⟩:=T.v_TELLERS;have j:ObAt K mg "Desk" d:=by
  obtain⟨c,o⟩:=T.o_Desk;have:=o.mgx.symm.trans p;cases this;exact o
 have g:=T.n_Desk_webs _ p;refine D.can (D.fn.ok scT_Desk__say (λvs H Q E h=>PN h λfs ss X q=>by obtain⟨es,t,word,nm,rest,n,ts,r,rfl,u,rfl,O,hs,F,I,U,k⟩:=q;rfl) (λcdv A outer s H vs Q E F h=>?_));have nd:=scT_Desk__say.nd
 refine⟨_,(C0 (t3 (R0 (UE T) F (o0 (pv 1) q0)) (GC rfl (K0 (i:=2) nd rfl aa) (K0 (i:=3) nd rfl aa) (K0 (i:=4) nd rfl aa)))
  (C0 (X1 (o3 (X6 F.units) (pv 2) t0 (Q2 _))
   U4
   W1)
  (C0 (X1 (VF (MH (k8 F) (pv 3) (j7 (pv 0) rfl)))
   (L0 t8)
   W1)
  (C0 (AC (i:=5) nd rfl aa rfl (N:=["each"]) (src:=[none]) (by exact N3 rfl rfl rfl rfl rfl rfl) (K4 (pv 4)) (λ_ _ _ _=>(K0 (i:=0) (show List.Nodup (["each"]:List Str) by decide +kernel) rfl aa (hf:=Or.inr rfl))) (λ_ _ _ _=>O3) (λ_ _ _ _=>(R0 (y9 T) F (o0 (pv 0) q0))))
  (C0 (X1 (o3 (X6 F.units) (pv 2) t0 (Q2 _))
   U4
   W1)
  (C0 (X1 (o3 (X6 F.units) (pv 2) t0 (Q2 _))
   U4
   W1)
  (C0 (N0 (i:=6) nd rfl aa (QF (z _) C (pv 2) (λ_ _=>rfl)))
  (L0 (T0 (dU (cs:=mH K mg) (zS T (by decide)) (pv 6) F (o0 (JE (k8 F) (j7 (pv 0) rfl) (pv 3) (λ_ _=>rfl)) (o0 (pv 5) q0)))))))))))),?_⟩
 refine aM h λfs ss X q B hK=>?_;obtain⟨es,t,word,nm,rest,n,ts,r,rfl,u,rfl,O,hs,F,I,U,k⟩:=q;show EvS B _ _ [some (.own (OIr d [(("webs" : Str),aez es)])),some (.st (.str t)),none,none,none,none,none];row_cond go;refine⟨t,rfl,⟨by have:=O.1;lia,O.2⟩,by rw[hs];exact F,?_⟩;have W:E5 word=true:=O.2 word (by rw[hs];simp);have R:=Y7 t " ";rw[hs] at R;simp only[v3] at R;have L:∀ v∈rest,v.length<=1000:=λv I=>D2 (V7 (c:=32) (x:=t) (by show v∈Txt.split t " ";rw[hs];simp[I])) O.1;rw[hs,P0,P0];refine CC (u5 L4 ?_);have M:word ≠ "web"/\word ≠ "drop"/\word ≠ "tie":=by
  rcases U with ⟨rfl,_⟩|⟨rfl,_⟩|⟨rfl,_⟩|⟨rfl,_⟩ <;> decide
 row_cond go;refine o7 W (by first|rfl|decide +kernel) (by simp[PyData.depth]) ?_;rw[n6,Q1 M.1];row_cond go;refine oF ?_;row_cond go;refine j6 rfl j.cl g m6 ?_;refine⟨es,.inr nm,rfl,u,rfl,?_⟩;rw[I,show(!(some (webD n ts)).isSome)=false from rfl];row_cond go;refine D5 (xs:=rest) (f:=λs=>PyData.str s) numD rfl (by lia) (λs S Y Z=>?_) ?_
 ·have:=L s S;row_cond go;refine⟨s,rfl,by lia,?_⟩;row_cond go;exact rfl
 ·refine u5 L4 ?_;row_cond go;refine o7 W (by first|rfl|decide +kernel) (by simp[PyData.depth]) ?_;rw[n6,Q1 M.2.1];row_cond go;refine o7 W (by first|rfl|decide +kernel) (by simp[PyData.depth]) ?_;rw[n6,Q1 M.2.2];row_cond go;rcases U with ⟨rfl,J⟩|⟨rfl,J⟩|⟨rfl,J⟩|⟨rfl,J⟩
  ·refine K7 ?_;row_cond go;refine⟨_,f_tell_far,rfl,by first|rfl|simp[valV],?_⟩;refine U2 ?_;dsimp only[List.set_cons_zero,List.set_cons_succ];refine' Z4 (by assumption) ?_;refine W5 (nB (.inl rfl) (.inl ⟨m,rfl⟩) ?_);row_cond go;refine S6 ?_;row_cond go;refine j6 rfl j.cl g m6 ?_;row_cond go;refine⟨es,.inr nm,_,rfl,u,rfl,I,?_⟩;row_cond go;exact zP _ _ _ J λs e=>by rw[e];exact k
  ·refine K7 ?_;row_cond go;refine⟨_,f_tell_farthest,rfl,by first|rfl|simp[valV],?_⟩;refine U2 ?_;dsimp only[List.set_cons_zero,List.set_cons_succ];refine' Z4 (by assumption) ?_;refine W5 (nB (.inl rfl) (.inr (.inl ⟨a,rfl⟩)) ?_);row_cond go;refine S6 ?_;row_cond go;refine j6 rfl j.cl g m6 ?_;row_cond go;refine⟨es,.inr nm,_,rfl,u,rfl,I,?_⟩;row_cond go;exact DJ _ _ _ J λs e=>by rw[e];exact k
  ·refine K7 ?_;row_cond go;refine⟨_,f_tell_best,rfl,by first|rfl|simp[valV],?_⟩;refine U2 ?_;dsimp only[List.set_cons_zero,List.set_cons_succ];refine' Z4 (by assumption) ?_;refine W5 (nB (.inl rfl) (.inr (.inr (.inl ⟨l,rfl⟩))) ?_);row_cond go;refine S6 ?_;row_cond go;refine j6 rfl j.cl g m6 ?_;row_cond go;refine⟨es,.inr nm,_,rfl,u,rfl,I,?_⟩;row_cond go;exact bS _ _ _ J λs e=>by rw[e];exact k
  ·refine K7 ?_;row_cond go;refine⟨_,f_tell_writing,rfl,by first|rfl|simp[valV],?_⟩;refine U2 ?_;dsimp only[List.set_cons_zero,List.set_cons_succ];refine' Z4 (by assumption) ?_;refine W5 (nB (.inl rfl) (.inr (.inr (.inr ⟨b,rfl⟩))) ?_);row_cond go;refine S6 ?_;row_cond go;refine j6 rfl j.cl g m6 ?_;row_cond go;refine⟨es,.inr nm,_,rfl,u,rfl,I,?_⟩;row_cond go;exact dM _ _ _ J λs e=>by rw[e];exact k
open Tx
def E7 (mg:Str->Option Value) (es:List (Key × PyData)) (d:PyData) (R:Addr->Prop):Prop :=
 ((∀ t,d=.str t->m5 (Txt.split t " ")=false)/\∀ C,mg "NoRow" = some (.ref C)->R C) ∨
 ∃ (t word nm:Str) (rest:List Str),d=.str t/\Txt.split t " " = word::nm::rest/\m5 (word::nm::rest)=true /\
  ((word = "web" ∧ (∀ n fs,¬ IsT (Txt.join " " rest) n fs) ∧ (Txt.join " " rest).length ≤ 50000 ∧ ∀ C,mg "NoText" = some (.ref C) → R C) ∨
   (word ≠ "web"/\valD es (.inr nm)=none/\∀ C,mg "NoName" = some (.ref C)->R C) ∨
   ∃ (n:Int) (ts:List (Int × Int)),valD es (.inr nm)=some (webD n ts) /\
    ((word = "tie" ∧ ∃ a b:Int,rest.map numD=[.int a,.int b] ∧ ts.length ≤ 10000 ∧ (∀ x y:Int,[x,y].Perm [a,b] → x ≤ y → BadT n ts (.list [prD (x,y)])) ∧ ∀ C,mg "NoTie" = some (.ref C) → R C) ∨
     (word = "far"/\zC mg [.st (webD n ts),.st (.list (rest.map numD))] (λ_=>False) R) ∨
     (word = "farthest"/\Z6 mg [.st (webD n ts),.st (.list (rest.map numD))] (λ_=>False) R) ∨
     (word = "middles"/\Z6 mg [.st (webD n ts),.st (.list (rest.map numD))] (λ_=>False) R) ∨
     (word = "best"/\Z6 mg [.st (webD n ts),.st (.list (rest.map numD))] (λ_=>False) R) ∨
     (word = "hubs"/\BC mg [.st (webD n ts),.st (.list (rest.map numD))] (λ_=>False) R)))
def uJ(mg:Str->Option Value):VMX:=λfs ss R=>∃(es:List (Key × PyData))(d:PyData),fs=[(("webs" : Str),aez es)]/\es ≠ []/\ss=[.st d]/\(∀ t,d=.str t->t.length<=1000/\∀ w∈Txt.split t " ",E5 w=true)/\E7 mg es d R
def PH(K:Frag)(mg:Str->Option Value):Addr->Sp->Prop:=λg sp =>
 (mg "tell_far" = some (.ref g)/\sp=spX K (zC mg))\/((mg "tell_farthest" = some (.ref g)\/mg "tell_middles" = some (.ref g)\/mg "tell_best" = some (.ref g))/\sp=spX K (Z6 mg))\/(mg "tell_hubs" = some (.ref g)/\sp=spX K (BC mg))
def FE(q:VPX):Prop:=∀ ss Q R Q',q ss Q R->q ss Q' R
theorem fK:FE (zC mg):=λ_ _ _ _ h=>h
theorem BD:FE (Z6 mg):=λ_ _ _ _ h=>h
theorem eL:FE (BC mg):=λ_ _ _ _ h=>h
theorem oI(h:Ev B a env λ_ _=>False):EvS B (EE b ty a) D' env:=λσ G H F D I r=>h σ G H F _ I λ_ _ _ _ _ _ _ _ _ q=>q.elim
theorem hA(c:CanX P w K mg base x k ps sp)(b:mg x=some (.ref g))(a:k<=j):∃ fd k ps,k<=j/\FnOk P w K mg base (CXE P w base) k g fd ps sp/\keepIn K (.ref g)=true/\Binds K fd ps []:=by
 obtain⟨f,fd,ok,mgx,kp,bd⟩:=c;have e:=mgx.symm.trans b;cases e;exact⟨fd,k,ps,a,ok,kp,bd⟩
theorem TM(T:Txt w K mg)(a:10<=j):∀ g sp,PH K mg g sp->∃ fd k ps,k<=j/\FnOk P w K mg base (CXE P w base) k g fd ps sp/\keepIn K (.ref g)=true/\Binds K fd ps []:=by
 rintro g sp (⟨hm,rfl⟩|⟨hm|hm|hm,rfl⟩|⟨hm,rfl⟩)
 ·exact hA (LP T) hm (by lia)
 ·exact hA (JT T) hm (by lia)
 ·exact hA (fS T) hm (by lia)
 ·exact hA (UQ T) hm (by lia)
 ·exact hA (mP T) hm (by lia)
theorem scX_Desk__say:FnScope ["self","row","word","name","rest","numbers","teller"] ["self","row"] (J0 s_Desk__say):=by row_cond sc
theorem eR(T:Txt w K mg)(M:mg "Desk" = some (.ref p)):ED P w K mg base p "say" 11 ["self","row"] (spM K p (uJ mg)):=by
 obtain⟨f,fd,D⟩:=T.m_Desk__say _ M;obtain⟨aTELLERS,f_tell_far,f_tell_farthest,f_tell_middles,f_tell_best,f_tell_hubs,f_tell_writing,S,R,G,l,m,r,u,O⟩:=T.v_TELLERS;have g:ObAt K mg "Desk" p:=by
  obtain⟨c,o⟩:=T.o_Desk;have:=o.mgx.symm.trans M;cases this;exact o
 have j:=T.n_Desk_webs _ M;obtain⟨a3,L⟩:=T.x_NoName;refine D.canX (D.fn.okX scX_Desk__say (λvs H Q E h=>lenM h λfs ss R' q=>by obtain⟨es,d,rfl,J,rfl,Z,hR⟩:=q;rfl) (λcdv A outer s H vs Q E I h=>?_));have nd:=scX_Desk__say.nd
 refine⟨_,(C0 (t3 (n5 (qM T) I (o0 (pv 1) q0)) (GC rfl (K0 (i:=2) nd rfl aa) (K0 (i:=3) nd rfl aa) (K0 (i:=4) nd rfl aa)))
  (C0 (X1 (o3 (X6 I.units) (pv 2) t0 (Q2 _))
   (C0 (bD (k8 I) (j7 (pv 0) rfl) (pv 3) (n5 (yS T) I (o0 (O4 PySem.F.plainAttrs_str PySem.F.slot_str_join PySem.F.type_str_join ME t0 (o0 (pv 4) q0)) q0)) rfl)
    (L0 (T0 t0)))
   W1)
  (C0 (X1 (VF (MH (k8 I) (pv 3) (j7 (pv 0) rfl)))
   (L0 (z6 L.ok))
   W1)
  (C0 (AC (i:=5) nd rfl aa rfl (N:=["each"]) (src:=[none]) (by exact N3 rfl rfl rfl rfl rfl rfl) (K4 (pv 4)) (λ_ _ _ _=>(K0 (i:=0) (show List.Nodup (["each"]:List Str) by decide +kernel) rfl aa (hf:=Or.inr rfl))) (λ_ _ _ _=>O3) (λ_ _ _ _=>(R0 (y9 T) I (o0 (pv 0) q0))))
  (C0 (X1 (o3 (X6 I.units) (pv 2) t0 (Q2 _))
   U4
   W1)
  (C0 (X1 (o3 (X6 I.units) (pv 2) t0 (Q2 _))
   (C0 (bD (k8 I) (j7 (pv 0) rfl) (pv 3) (n5 (lT T) I (o0 (JE (k8 I) (j7 (pv 0) rfl) (pv 3) (λ_ _=>rfl)) (o0 (Z0 (o0 (BA sF (by rfl) T.b_tuple RB (o0 (m1 lL (by rfl) T.b_sorted lE (o0 (pv 5) q0)) q0)) q0)) q0))) rfl)
    (L0 (T0 t0)))
   W1)
  (C0 (N0 (i:=6) nd rfl aa (QF (R _) S (pv 2) (λ_ _=>rfl)))
  (L0 (T0 (gO (cs:=PH K mg) (TM T (by decide)) (pv 6) I (o0 (JE (k8 I) (j7 (pv 0) rfl) (pv 3) (λ_ _=>rfl)) (o0 (pv 5) q0)))))))))))),?_⟩
 refine yM h λfs ss R' q B hK Y=>?_;obtain⟨es,d,rfl,J,rfl,Z,hR⟩:=q;show EvS B _ _ [some (.own (OIr p [(("webs" : Str),aez es)])),some (.st d),none,none,none,none,none];row_cond go;refine X5 Y ?_;row_cond go;refine⟨d,rfl,λt e=>⟨by have:=(Z t e).1;lia,(Z t e).2⟩,?_,?_⟩
 ·rintro t rfl I;rcases hR with ⟨h,_⟩|⟨t',word,nm,rest,e,hs,_,hR⟩
  ·rw[h t rfl] at I;cases I
  cases e;have Z:=Z t rfl;have hw:E5 word=true:=Z.2 word (by rw[hs];simp);have a4:=Y7 t " ";rw[hs] at a4;simp only[v3] at a4;have W:∀ v∈rest,v.length<=1000:=λv U=>D2 (V7 (c:=32) (x:=t) (by show v∈Txt.split t " ";rw[hs];simp[U])) Z.1;rw[hs,P0,P0];refine CC (u5 L4 ?_);row_cond go;refine o7 hw (by first|rfl|decide +kernel) (by simp[PyData.depth]) ?_;rw[n6];by_cases hwb:word = "web"
  ·rw[D3 hwb];rcases hR with ⟨_,a9,a6,hC⟩|⟨hx,_⟩|⟨n,ts,U,h⟩
   ·row_cond go;refine oI (HD Y ?_);row_cond go;refine dD ?_;row_cond go;refine⟨_,rfl,?_⟩;row_cond go;refine⟨rest,rfl,?_,?_⟩
    ·have:=EC W;rw[show((" " : Str)).length=1 from rfl];have:=Z.1;have h3:rest.length * 1000<=1001 * 1000:=Nat.mul_le_mul_right _ (by lia);lia
    row_cond go;exact⟨_,rfl,λt' e=>by cases e;exact a6,λn fs h=>by obtain⟨t',e,h⟩:=h;cases e;exact absurd h (a9 n fs),λ_=>hC⟩
   ·exact absurd hwb hx
   ·rw[hwb] at h;rcases h with ⟨z,_⟩|⟨z,_⟩|⟨z,_⟩|⟨z,_⟩|⟨z,_⟩|⟨z,_⟩ <;> exact absurd z (by decide)
  rw[Q1 hwb];row_cond go;refine oF ?_;row_cond go;refine j6 rfl g.cl j m6 ?_;refine⟨es,.inr nm,rfl,J,rfl,?_⟩;rcases hR with ⟨z,_⟩|⟨_,U,hC⟩|⟨n,ts,U,h⟩
  ·exact absurd z hwb
  ·rw[U,show(!(none:Option PyData).isSome)=true from rfl];row_cond go;refine R6 Y (hC _ L.mgx) ?_;row_cond go;exact W6 rfl
  rw[U,show(!(some (webD n ts)).isSome)=false from rfl];row_cond go;refine D5 (xs:=rest) (f:=λs=>PyData.str s) numD rfl (by lia) (λs a7 B' hB=>?_) ?_
  ·have:=W s a7;row_cond go;refine⟨s,rfl,by lia,?_⟩;row_cond go;exact rfl
  refine u5 L4 ?_;row_cond go;refine o7 hw (by first|rfl|decide +kernel) (by simp[PyData.depth]) ?_;have a8:word ≠ "drop":=by
   rcases h with ⟨rfl,_⟩|⟨rfl,_⟩|⟨rfl,_⟩|⟨rfl,_⟩|⟨rfl,_⟩|⟨rfl,_⟩ <;> decide
  rw[n6,Q1 a8];row_cond go;refine o7 hw (by first|rfl|decide +kernel) (by simp[PyData.depth]) ?_;rw[n6];rcases h with ⟨rfl,a,b,a1,a5,hB,hC⟩|⟨rfl,X⟩|⟨rfl,X⟩|⟨rfl,X⟩|⟨rfl,X⟩|⟨rfl,X⟩
  ·rw[D3 rfl,a1];row_cond go;refine oI (HD Y ?_);row_cond go;refine S6 ?_;row_cond go;refine j6 rfl g.cl j m6 ?_;row_cond go;refine⟨es,.inr nm,_,rfl,J,rfl,U,?_⟩;row_cond go;refine QS ?_;row_cond go;refine⟨[a,b],rfl,by simp,λa0 hp hs=>k6 ?_⟩;have a2:=hp.length_eq;obtain⟨x,y,rfl⟩:∃ x y,a0=[x,y]:=by
    match a0,a2 with
    |[x,y],_=>exact⟨x,y,rfl⟩
   have b0:x<=y:=by simpa using hs
   row_cond go;refine NG (WF ?_);row_cond go;exact⟨n,ts,_,rfl,a5,hB x y hp b0,hC⟩
  ·rw[Q1 (show ¬ (("far" : Str) = "tie") by decide)];row_cond go;refine K7 ?_;row_cond go;refine⟨_,f_tell_far,rfl,by first|rfl|simp[valV],?_⟩;refine U2 ?_;dsimp only[List.set_cons_zero,List.set_cons_succ];refine' Z4 (by assumption) ?_;refine W5 (cA Y (.inl rfl) (.inl ⟨G,rfl⟩) ?_);row_cond go;refine S6 ?_;row_cond go;refine j6 rfl g.cl j m6 ?_;row_cond go;refine⟨es,.inr nm,_,rfl,J,rfl,U,?_⟩;row_cond go;exact fK _ _ _ _ X
  ·rw[Q1 (show ¬ (("farthest" : Str) = "tie") by decide)];row_cond go;refine K7 ?_;row_cond go;refine⟨_,f_tell_farthest,rfl,by first|rfl|simp[valV],?_⟩;refine U2 ?_;dsimp only[List.set_cons_zero,List.set_cons_succ];refine' Z4 (by assumption) ?_;refine W5 (cA Y (.inl rfl) (.inr (.inl ⟨.inl l,rfl⟩)) ?_);row_cond go;refine S6 ?_;row_cond go;refine j6 rfl g.cl j m6 ?_;row_cond go;refine⟨es,.inr nm,_,rfl,J,rfl,U,?_⟩;row_cond go;exact BD _ _ _ _ X
  ·rw[Q1 (show ¬ (("middles" : Str) = "tie") by decide)];row_cond go;refine K7 ?_;row_cond go;refine⟨_,f_tell_middles,rfl,by first|rfl|simp[valV],?_⟩;refine U2 ?_;dsimp only[List.set_cons_zero,List.set_cons_succ];refine' Z4 (by assumption) ?_;refine W5 (cA Y (.inl rfl) (.inr (.inl ⟨.inr (.inl m),rfl⟩)) ?_);row_cond go;refine S6 ?_;row_cond go;refine j6 rfl g.cl j m6 ?_;row_cond go;refine⟨es,.inr nm,_,rfl,J,rfl,U,?_⟩;row_cond go;exact BD _ _ _ _ X
  ·rw[Q1 (show ¬ (("best" : Str) = "tie") by decide)];row_cond go;refine K7 ?_;row_cond go;refine⟨_,f_tell_best,rfl,by first|rfl|simp[valV],?_⟩;refine U2 ?_;dsimp only[List.set_cons_zero,List.set_cons_succ];refine' Z4 (by assumption) ?_;refine W5 (cA Y (.inl rfl) (.inr (.inl ⟨.inr (.inr r),rfl⟩)) ?_);row_cond go;refine S6 ?_;row_cond go;refine j6 rfl g.cl j m6 ?_;row_cond go;refine⟨es,.inr nm,_,rfl,J,rfl,U,?_⟩;row_cond go;exact BD _ _ _ _ X
  ·rw[Q1 (show ¬ (("hubs" : Str) = "tie") by decide)];row_cond go;refine K7 ?_;row_cond go;refine⟨_,f_tell_hubs,rfl,by first|rfl|simp[valV],?_⟩;refine U2 ?_;dsimp only[List.set_cons_zero,List.set_cons_succ];refine' Z4 (by assumption) ?_;refine W5 (cA Y (.inl rfl) (.inr (.inr ⟨u,rfl⟩)) ?_);row_cond go;refine S6 ?_;row_cond go;refine j6 rfl g.cl j m6 ?_;row_cond go;refine⟨es,.inr nm,_,rfl,J,rfl,U,?_⟩;row_cond go;exact eL _ _ _ _ X
 ·intro hn C hC;rcases hR with ⟨_,h⟩|⟨t,word,nm,rest,rfl,hs,I,_⟩
  ·exact h C hC
  ·have:=hn t rfl;rw[hs,I] at this;cases this
open Tx
theorem OJ:bootBuiltins "ValueError" = some (.type "ValueError"):=by decide +kernel
def z8(mg:Str->Option Value)(C:Addr)(due:Str):Prop:=(mg "NoJoin" = some (.ref C)/\due = "join")\/(mg "NoName" = some (.ref C)/\due = "name")\/(mg "NoNumber" = some (.ref C)/\due = "number")\/(mg "NoPlace" = some (.ref C)/\due = "place")\/(mg "NoRow" = some (.ref C)/\due = "row")\/(mg "NoText" = some (.ref C)/\due = "text")\/(mg "NoTie" = some (.ref C)/\due = "tie")
def tQ(mg:Str->Option Value):VIo:=λA ss Q=>∃(D:Addr)(es:List (Key × PyData))(d:PyData)(due:Str),mg "Desk" = some (.ref D)/\A=OGD D "webs" es/\es ≠ []/\ss=[.st d]/\(∀ t,d=.str t->t.length<=1000/\∀ w∈Txt.split t " ",E5 w=true)/\E7 mg es d (λC=>z8 mg C due)/\Q (OGD D "webs" es) (.st (.str due))
def wordsL:List Str:=["join","name","number","place","row","text","tie","tree"]
theorem RL(h:E7 mg es d R)(f:∀ C,R C->s C):E7 mg es d s:=by
 rcases h with ⟨h,k⟩|⟨t,word,nm,rest,D,A,v,h⟩
 ·exact .inl ⟨h,λC j=>f C (k C j)⟩
 refine .inr ⟨t,word,nm,rest,D,A,v,?_⟩;rcases h with ⟨a,b,c,k⟩|⟨a,b,k⟩|⟨n,ts,u,h⟩
 ·exact .inl ⟨a,b,c,λC j=>f C (k C j)⟩
 ·exact .inr (.inl ⟨a,b,λC j=>f C (k C j)⟩)
 refine .inr (.inr ⟨n,ts,u,?_⟩);rcases h with ⟨a,x,y,b,c,g,k⟩|⟨a,l,i,w,B,b,c,k⟩|⟨a,l,i,ds,b,r,p,o,q,m,k⟩|⟨a,l,i,ds,b,r,p,o,q,m,k⟩|⟨a,l,i,ds,b,r,p,o,q,m,k⟩|⟨a,l,i,ds,b,r,p,o,q,m,k1,k2⟩
 ·exact .inl ⟨a,x,y,b,c,g,λC j=>f C (k C j)⟩
 ·exact .inr (.inl ⟨a,l,i,w,B,b,c,λC j=>f C (k C j)⟩)
 ·exact .inr (.inr (.inl ⟨a,l,i,ds,b,r,p,o,q,m,λC j=>f C (k C j)⟩))
 ·exact .inr (.inr (.inr (.inl ⟨a,l,i,ds,b,r,p,o,q,m,λC j=>f C (k C j)⟩)))
 ·exact .inr (.inr (.inr (.inr (.inl ⟨a,l,i,ds,b,r,p,o,q,m,λC j=>f C (k C j)⟩))))
 ·exact .inr (.inr (.inr (.inr (.inr ⟨a,l,i,ds,b,r,p,o,q,m,λz C j=>f C (k1 z C j),λz C j=>f C (k2 z C j)⟩))))
theorem sc_law_word:FnScope ["desk","row","e","word","kinds"] ["desk","row"] (J0 s_law_word):=by row_cond sc
theorem zO(T:Txt w K mg):Can P w K mg base "_law_word" 12 ["desk","row"] (spI K (tQ mg)):=by
 obtain⟨f,fd,D⟩:=T.d_law_word;obtain⟨M,c⟩:=T.x_TieError;obtain⟨G,n⟩:=T.x_NoJoin;obtain⟨I,p⟩:=T.x_NoName;obtain⟨u,b⟩:=T.x_NoNumber;obtain⟨y,g⟩:=T.x_NoPlace;obtain⟨S,t⟩:=T.x_NoRow;obtain⟨z,o⟩:=T.x_NoText;obtain⟨R,r⟩:=T.x_NoTie;obtain⟨J,l⟩:=T.x_NoTree;obtain⟨a2,Y⟩:=T.o_Desk;have O:=Y.mgx;have a9:=T.n_Desk_webs _ O;refine D.can (D.fn.ok sc_law_word (λvs H Q E h=>lenI h λA ss Q' q=>by obtain⟨D0,es,d,a1,a6,rfl,a3,rfl,hl,hR,kk⟩:=q;rfl) (λcdv A outer s H vs Q E hr h=>?_));have nd:=sc_law_word.nd
 refine⟨_,(C0 (N0 (i:=3) nd rfl aa t0)
  (C0 (zJ (i:=2) ⟨rfl,rfl⟩ rfl c.ok rfl nd rfl rfl (KK (eR T O) Y.cl hr (pv 0) (o0 (pv 1) q0))
   (λea=>(C0 (N0 (i:=4) nd rfl aa (Z0 (o0 (m1 (show l2 _ (.builtin "isinstance") (Z5 K) from t7) (by rfl) T.b_isinstance y4 (o0 (pv 2) (o0 (T5 (v:=.ref G) rfl n.mgx rfl) q0))) (o0 (m1 (show l2 _ (.builtin "isinstance") (Z5 K) from t7) (by rfl) T.b_isinstance y4 (o0 (pv 2) (o0 (T5 (v:=.ref I) rfl p.mgx rfl) q0))) (o0 (m1 (show l2 _ (.builtin "isinstance") (Z5 K) from t7) (by rfl) T.b_isinstance y4 (o0 (pv 2) (o0 (T5 (v:=.ref u) rfl b.mgx rfl) q0))) (o0 (m1 (show l2 _ (.builtin "isinstance") (Z5 K) from t7) (by rfl) T.b_isinstance y4 (o0 (pv 2) (o0 (T5 (v:=.ref y) rfl g.mgx rfl) q0))) q0))))))
    (C0 (N0 (i:=4) nd rfl aa (W0 Z1 (pv 4) (Z0 (o0 (m1 (show l2 _ (.builtin "isinstance") (Z5 K) from t7) (by rfl) T.b_isinstance y4 (o0 (pv 2) (o0 (T5 (v:=.ref S) rfl t.mgx rfl) q0))) (o0 (m1 (show l2 _ (.builtin "isinstance") (Z5 K) from t7) (by rfl) T.b_isinstance y4 (o0 (pv 2) (o0 (T5 (v:=.ref z) rfl o.mgx rfl) q0))) q0)))))
    (C0 (N0 (i:=4) nd rfl aa (W0 Z1 (pv 4) (Z0 (o0 (m1 (show l2 _ (.builtin "isinstance") (Z5 K) from t7) (by rfl) T.b_isinstance y4 (o0 (pv 2) (o0 (T5 (v:=.ref R) rfl r.mgx rfl) q0))) (o0 (m1 (show l2 _ (.builtin "isinstance") (Z5 K) from t7) (by rfl) T.b_isinstance y4 (o0 (pv 2) (o0 (T5 (v:=.ref J) rfl l.mgx rfl) q0))) q0)))))
    (C0 (N0 (i:=3) nd rfl aa t0)
    (L0 (X1 (PW.pt (yH (Y3 (m1 (show l2 _ (.builtin "isinstance") (Z5 K) from t7) (by rfl) T.b_isinstance y4 (o0 (pv 2) (o0 (T6 (v:=.ty "ValueError") rfl T.b_ValueError OJ rfl) q0)))) (II (o3 rE (show PE _ _ (tBM K "list" eE _ _) from O4 PySem.F.plainAttrs_list PySem.F.slot_list_count PySem.F.type_list_count YQ (pv 4) (o0 O7 q0)) O2 (Q2 _)))))
     (L0 (N0 (i:=3) nd rfl aa (P3 (show IxR _ (Y5 K) from T3) (Z0 (o0 t0 (o0 t0 (o0 t0 (o0 t0 (o0 t0 (o0 t0 (o0 t0 (o0 t0 q0))))))))) (show PE _ _ (tBM K "list" WD _ _) from O4 PySem.F.plainAttrs_list PySem.F.slot_list_index PySem.F.type_list_index OK (pv 4) (o0 O7 q0)) (λ_ _=>rfl))))
     W1))))))))
  (L0 (T0 (pv 3))))),?_⟩
 refine cC h λA0 ss Q' q B hK=>?_;obtain⟨D0,es,d,a1,a6,rfl,a3,rfl,hl,hR,kk⟩:=q;show EvS B _ _ [some (.io (OGD D0 "webs" es)),some (.st d),none,none,none];obtain rfl:D0=a2:=by have:=a6.symm.trans O;cases this;rfl
 row_cond go;refine wN ?_;refine fJ (.inr rfl) (V6 rfl) P9 ?_;row_cond go;refine⟨es,d,rfl,a3,rfl,hl,?_⟩;refine RL hR λC a=>?_;obtain⟨j,hj,hx,a5,hV,hw,h0,h1,h2,h3,h4,h5,h6,h7⟩:∃ j:Nat,j<7/\XIn K C/\XSub K C M/\kitOne K (.ref C) (.type "ValueError")=some true/\wordsL[j]?=some a1/\kitOne K (.ref C) (.ref G)=some (decide (0=j))/\kitOne K (.ref C) (.ref I)=some (decide (1=j))/\kitOne K (.ref C) (.ref u)=some (decide (2=j))/\kitOne K (.ref C) (.ref y)=some (decide (3=j))/\kitOne K (.ref C) (.ref S)=some (decide (4=j))/\kitOne K (.ref C) (.ref z)=some (decide (5=j))/\kitOne K (.ref C) (.ref R)=some (decide (6=j))/\kitOne K (.ref C) (.ref J)=some (decide (7=j)):=by
  rcases a with ⟨a,rfl⟩|⟨a,rfl⟩|⟨a,rfl⟩|⟨a,rfl⟩|⟨a,rfl⟩|⟨a,rfl⟩|⟨a,rfl⟩
  ·obtain⟨X,x⟩:=T.x_NoJoin;obtain rfl:X=C:=by have:=x.mgx.symm.trans a;cases this;rfl
   exact⟨0,by lia,x.xin,F8 x.exc (T.s_NoJoin_TieError _ _ a c.mgx),T.y_NoJoin_ValueError _ a,rfl,T.y_NoJoin_NoJoin _ _ a n.mgx,T.y_NoJoin_NoName _ _ a p.mgx,T.y_NoJoin_NoNumber _ _ a b.mgx,T.y_NoJoin_NoPlace _ _ a g.mgx,T.y_NoJoin_NoRow _ _ a t.mgx,T.y_NoJoin_NoText _ _ a o.mgx,T.y_NoJoin_NoTie _ _ a r.mgx,T.y_NoJoin_NoTree _ _ a l.mgx⟩
  ·obtain⟨W,x⟩:=T.x_NoName;obtain rfl:W=C:=by have:=x.mgx.symm.trans a;cases this;rfl
   exact⟨1,by lia,x.xin,F8 x.exc (T.s_NoName_TieError _ _ a c.mgx),T.y_NoName_ValueError _ a,rfl,T.y_NoName_NoJoin _ _ a n.mgx,T.y_NoName_NoName _ _ a p.mgx,T.y_NoName_NoNumber _ _ a b.mgx,T.y_NoName_NoPlace _ _ a g.mgx,T.y_NoName_NoRow _ _ a t.mgx,T.y_NoName_NoText _ _ a o.mgx,T.y_NoName_NoTie _ _ a r.mgx,T.y_NoName_NoTree _ _ a l.mgx⟩
  ·obtain⟨L,x⟩:=T.x_NoNumber;obtain rfl:L=C:=by have:=x.mgx.symm.trans a;cases this;rfl
   exact⟨2,by lia,x.xin,F8 x.exc (T.s_NoNumber_TieError _ _ a c.mgx),T.y_NoNumber_ValueError _ a,rfl,T.y_NoNumber_NoJoin _ _ a n.mgx,T.y_NoNumber_NoName _ _ a p.mgx,T.y_NoNumber_NoNumber _ _ a b.mgx,T.y_NoNumber_NoPlace _ _ a g.mgx,T.y_NoNumber_NoRow _ _ a t.mgx,T.y_NoNumber_NoText _ _ a o.mgx,T.y_NoNumber_NoTie _ _ a r.mgx,T.y_NoNumber_NoTree _ _ a l.mgx⟩
  ·obtain⟨N,x⟩:=T.x_NoPlace;obtain rfl:N=C:=by have:=x.mgx.symm.trans a;cases this;rfl
   exact⟨3,by lia,x.xin,F8 x.exc (T.s_NoPlace_TieError _ _ a c.mgx),T.y_NoPlace_ValueError _ a,rfl,T.y_NoPlace_NoJoin _ _ a n.mgx,T.y_NoPlace_NoName _ _ a p.mgx,T.y_NoPlace_NoNumber _ _ a b.mgx,T.y_NoPlace_NoPlace _ _ a g.mgx,T.y_NoPlace_NoRow _ _ a t.mgx,T.y_NoPlace_NoText _ _ a o.mgx,T.y_NoPlace_NoTie _ _ a r.mgx,T.y_NoPlace_NoTree _ _ a l.mgx⟩
  ·obtain⟨Z,x⟩:=T.x_NoRow;obtain rfl:Z=C:=by have:=x.mgx.symm.trans a;cases this;rfl
   exact⟨4,by lia,x.xin,F8 x.exc (T.s_NoRow_TieError _ _ a c.mgx),T.y_NoRow_ValueError _ a,rfl,T.y_NoRow_NoJoin _ _ a n.mgx,T.y_NoRow_NoName _ _ a p.mgx,T.y_NoRow_NoNumber _ _ a b.mgx,T.y_NoRow_NoPlace _ _ a g.mgx,T.y_NoRow_NoRow _ _ a t.mgx,T.y_NoRow_NoText _ _ a o.mgx,T.y_NoRow_NoTie _ _ a r.mgx,T.y_NoRow_NoTree _ _ a l.mgx⟩
  ·obtain⟨U,x⟩:=T.x_NoText;obtain rfl:U=C:=by have:=x.mgx.symm.trans a;cases this;rfl
   exact⟨5,by lia,x.xin,F8 x.exc (T.s_NoText_TieError _ _ a c.mgx),T.y_NoText_ValueError _ a,rfl,T.y_NoText_NoJoin _ _ a n.mgx,T.y_NoText_NoName _ _ a p.mgx,T.y_NoText_NoNumber _ _ a b.mgx,T.y_NoText_NoPlace _ _ a g.mgx,T.y_NoText_NoRow _ _ a t.mgx,T.y_NoText_NoText _ _ a o.mgx,T.y_NoText_NoTie _ _ a r.mgx,T.y_NoText_NoTree _ _ a l.mgx⟩
  ·obtain⟨a0,x⟩:=T.x_NoTie;obtain rfl:a0=C:=by have:=x.mgx.symm.trans a;cases this;rfl
   exact⟨6,by lia,x.xin,F8 x.exc (T.s_NoTie_TieError _ _ a c.mgx),T.y_NoTie_ValueError _ a,rfl,T.y_NoTie_NoJoin _ _ a n.mgx,T.y_NoTie_NoName _ _ a p.mgx,T.y_NoTie_NoNumber _ _ a b.mgx,T.y_NoTie_NoPlace _ _ a g.mgx,T.y_NoTie_NoRow _ _ a t.mgx,T.y_NoTie_NoText _ _ a o.mgx,T.y_NoTie_NoTie _ _ a r.mgx,T.y_NoTie_NoTree _ _ a l.mgx⟩
 have a4:j=0\/j=1\/j=2\/j=3\/j=4\/j=5\/j=6:=by lia
 have hc:List.count true [decide (0=j),decide (1=j),decide (2=j),decide (3=j),decide (4=j),decide (5=j),decide (6=j),decide (7=j)]=1:=by rcases a4 with rfl|rfl|rfl|rfl|rfl|rfl|rfl <;> decide
 have a8:([decide (0=j),decide (1=j),decide (2=j),decide (3=j),decide (4=j),decide (5=j),decide (6=j),decide (7=j)]:List Bool)[j]?=some true:=by rcases a4 with rfl|rfl|rfl|rfl|rfl|rfl|rfl <;> rfl
 have b0:∀ m,m<j->([decide (0=j),decide (1=j),decide (2=j),decide (3=j),decide (4=j),decide (5=j),decide (6=j),decide (7=j)]:List Bool)[m]? ≠ some true:=by
  intro m hm;have b1:m=0\/m=1\/m=2\/m=3\/m=4\/m=5:=by lia
  rcases b1 with rfl|rfl|rfl|rfl|rfl|rfl <;> (simp;lia)
 have a7:Y0 (wordsL.map PyData.str) (j:Int)=some (.str a1):=P7 (by rw[v2,hw];rfl);have b2:Y0 [PyData.str "join",PyData.str "name",PyData.str "number",PyData.str "place",PyData.str "row",PyData.str "text",PyData.str "tie",PyData.str "tree"] (j:Int)=some (.str a1):=a7;refine⟨a5,?_⟩;dsimp only[List.set_cons_zero,List.set_cons_succ]
 repeat (first
  |(refine X7 (.inl rfl) hx h0 ?_)
  |(refine X7 (.inl rfl) hx h1 ?_)
  |(refine X7 (.inl rfl) hx h2 ?_)
  |(refine X7 (.inl rfl) hx h3 ?_)
  |(refine X7 (.inl rfl) hx h4 ?_)
  |(refine X7 (.inl rfl) hx h5 ?_)
  |(refine X7 (.inl rfl) hx h6 ?_)
  |(refine X7 (.inl rfl) hx h7 ?_)
  |(refine eU (.inl rfl) hx hV ?_)
  |row_cond st)
 refine wO (bs:=[decide (0=j),decide (1=j),decide (2=j),decide (3=j),decide (4=j),decide (5=j),decide (6=j),decide (7=j)]) ?_;row_cond go;refine RO (bs:=[decide (0=j),decide (1=j),decide (2=j),decide (3=j),decide (4=j),decide (5=j),decide (6=j),decide (7=j)]) (j:=j) ?_;row_cond go;refine⟨a8,b0,?_⟩;row_cond go;exact kk
def noneL:List Str:=([""," ","web","web a","web A 1","web abcdefghi 1","web a1 1","web  1","Web a 1","webs a 1","tie","tie a","tie a 0","tie a 0 1 2","tie a 0 01","tie a x 1","tie a 0 -1","tie A 0 1","tie a 0  1","tie a 100 1","tie a 0-1","tie a 0 1 ","drop","drop a b","drop A","drop a ","far","far a","far a 0","far a 0 1 2","far a 0 ","far a  0","tie a 0 ","tie a  1","hubs a ","hubs  1","far  0 1","tie abcdefghi 0 1","far abcdefghi 0 1","hubs abcdefghi 1","show abcdefghi","drop abcdefghi","best abcdefghi","far a 0 01","far a 0 x","far A 0 1","far a1 0 1","far a 0 1.0","far a +0 1","far a 0 100","farthest","farthest a b","farthest A","farthest a ","middles","middles a 1","middles abcdefghi","best","best a 1","best A","hubs","hubs a","hubs a 1 2","hubs a 01","hubs a x","hubs A 1","hubs a -1","hubs a 100","show","show a b","show A","names","far zz 0 x","tie zz 00 1","hubs zz 100","drop zz zz"," show a","show  a","SHOW a","show a\n","far a 0\t1","best zz zz","middles Zz","web a1 x","tie zz 1","best a "]:List String).map Str.ofString
def othersL:List (Str × Str):=([("tie zz 0 1","name"),("drop zz","name"),("far zz 0 9","name"),("farthest zz","name"),("best zz","name"),("middles zz","name"),("hubs zz 99","name"),("show zz","name"),("web a ","text"),("web b 2 1-0","text"),("web zz x","text"),("web a 3 0-1 ","text"),("web a  3","text"),("far a 0 4","place"),("far b 9 0","place"),("far a 99 99","place"),("tie a 0 0","tie"),("tie a 1 0","tie"),("tie a 0 4","tie"),("tie b 60 1","tie"),("farthest b","join"),("middles b","join"),("best b","join"),("hubs b 1","join"),("hubs b 99","join"),("hubs a 21","number"),("hubs a 99","number"),("tie a 3 3","tie"),("tie a 2 1","tie"),("far a 4 0","place")]:List (String × String)).map λp=>(Str.ofString p.1,Str.ofString p.2)
def prS(p:Str × Str):PyData:=.tuple [.str p.1,.str p.2]
def mJ:VP:=λss Q=>ss=[]/\Q (.own (OL (noneL.map .str)))
def kN:VP:=λss Q=>ss=[]/\Q (.own (OL (othersL.map prS)))
theorem sc_law_none:FnScope ["some"] [] (J0 s_law_none):=by row_cond sc
theorem oN(T:Txt w K mg):Can P w K mg base "_law_none" 1 [] (spP K (mJ)):=by
 obtain⟨f,fd,D⟩:=T.d_law_none;obtain⟨g,b⟩:=T.o_Desk;have a:=b.mgx;have d:=T.n_Desk_webs _ a;refine D.can (D.fn.ok sc_law_none (λvs H Q E h=>lenP h λss i q=>by obtain⟨rfl,k⟩:=q;rfl) (λcdv A outer s H vs Q E j h=>?_));have nd:=sc_law_none.nd;refine⟨_,(PSq.out (O1 (@N0 _ _ 0 _ _ _ _ nd rfl aa (@Z0 _ _ _ _ (by (refine' o0 (hs:=?C86) ?A86 ?B86;(case C86=>exact rfl);(case A86=>exact t0);(case B86=>refine' o0 (hs:=?C85) ?A85 ?B85;(case C85=>exact rfl);(case A85=>exact t0);(case B85=>refine' o0 (hs:=?C84) ?A84 ?B84;(case C84=>exact rfl);(case A84=>exact t0);(case B84=>refine' o0 (hs:=?C83) ?A83 ?B83;(case C83=>exact rfl);(case A83=>exact t0);(case B83=>refine' o0 (hs:=?C82) ?A82 ?B82;(case C82=>exact rfl);(case A82=>exact t0);(case B82=>refine' o0 (hs:=?C81) ?A81 ?B81;(case C81=>exact rfl);(case A81=>exact t0);(case B81=>exact q0))))))))) rfl (by first|exact .inl rfl|exact .inr rfl)) (O1 (@N0 _ _ 0 _ _ _ _ nd rfl aa (W0 Z1 (pv 0) (@Z0 _ _ _ _ (by (refine' o0 (hs:=?C80) ?A80 ?B80;(case C80=>exact rfl);(case A80=>exact t0);(case B80=>refine' o0 (hs:=?C79) ?A79 ?B79;(case C79=>exact rfl);(case A79=>exact t0);(case B79=>refine' o0 (hs:=?C78) ?A78 ?B78;(case C78=>exact rfl);(case A78=>exact t0);(case B78=>refine' o0 (hs:=?C77) ?A77 ?B77;(case C77=>exact rfl);(case A77=>exact t0);(case B77=>refine' o0 (hs:=?C76) ?A76 ?B76;(case C76=>exact rfl);(case A76=>exact t0);(case B76=>refine' o0 (hs:=?C75) ?A75 ?B75;(case C75=>exact rfl);(case A75=>exact t0);(case B75=>exact q0)))))))))) rfl (by first|exact .inl rfl|exact .inr rfl)) (O1 (@N0 _ _ 0 _ _ _ _ nd rfl aa (W0 Z1 (pv 0) (@Z0 _ _ _ _ (by (refine' o0 (hs:=?C74) ?A74 ?B74;(case C74=>exact rfl);(case A74=>exact t0);(case B74=>refine' o0 (hs:=?C73) ?A73 ?B73;(case C73=>exact rfl);(case A73=>exact t0);(case B73=>refine' o0 (hs:=?C72) ?A72 ?B72;(case C72=>exact rfl);(case A72=>exact t0);(case B72=>refine' o0 (hs:=?C71) ?A71 ?B71;(case C71=>exact rfl);(case A71=>exact t0);(case B71=>exact q0)))))))) rfl (by first|exact .inl rfl|exact .inr rfl)) (O1 (@N0 _ _ 0 _ _ _ _ nd rfl aa (W0 Z1 (pv 0) (@Z0 _ _ _ _ (by (refine' o0 (hs:=?C70) ?A70 ?B70;(case C70=>exact rfl);(case A70=>exact t0);(case B70=>refine' o0 (hs:=?C69) ?A69 ?B69;(case C69=>exact rfl);(case A69=>exact t0);(case B69=>refine' o0 (hs:=?C68) ?A68 ?B68;(case C68=>exact rfl);(case A68=>exact t0);(case B68=>refine' o0 (hs:=?C67) ?A67 ?B67;(case C67=>exact rfl);(case A67=>exact t0);(case B67=>exact q0)))))))) rfl (by first|exact .inl rfl|exact .inr rfl)) (O1 (@N0 _ _ 0 _ _ _ _ nd rfl aa (W0 Z1 (pv 0) (@Z0 _ _ _ _ (by (refine' o0 (hs:=?C66) ?A66 ?B66;(case C66=>exact rfl);(case A66=>exact t0);(case B66=>refine' o0 (hs:=?C65) ?A65 ?B65;(case C65=>exact rfl);(case A65=>exact t0);(case B65=>refine' o0 (hs:=?C64) ?A64 ?B64;(case C64=>exact rfl);(case A64=>exact t0);(case B64=>refine' o0 (hs:=?C63) ?A63 ?B63;(case C63=>exact rfl);(case A63=>exact t0);(case B63=>refine' o0 (hs:=?C62) ?A62 ?B62;(case C62=>exact rfl);(case A62=>exact t0);(case B62=>exact q0))))))))) rfl (by first|exact .inl rfl|exact .inr rfl)) (O1 (@N0 _ _ 0 _ _ _ _ nd rfl aa (W0 Z1 (pv 0) (@Z0 _ _ _ _ (by (refine' o0 (hs:=?C61) ?A61 ?B61;(case C61=>exact rfl);(case A61=>exact t0);(case B61=>refine' o0 (hs:=?C60) ?A60 ?B60;(case C60=>exact rfl);(case A60=>exact t0);(case B60=>refine' o0 (hs:=?C59) ?A59 ?B59;(case C59=>exact rfl);(case A59=>exact t0);(case B59=>refine' o0 (hs:=?C58) ?A58 ?B58;(case C58=>exact rfl);(case A58=>exact t0);(case B58=>refine' o0 (hs:=?C57) ?A57 ?B57;(case C57=>exact rfl);(case A57=>exact t0);(case B57=>exact q0))))))))) rfl (by first|exact .inl rfl|exact .inr rfl)) (O1 (@N0 _ _ 0 _ _ _ _ nd rfl aa (W0 Z1 (pv 0) (@Z0 _ _ _ _ (by (refine' o0 (hs:=?C56) ?A56 ?B56;(case C56=>exact rfl);(case A56=>exact t0);(case B56=>refine' o0 (hs:=?C55) ?A55 ?B55;(case C55=>exact rfl);(case A55=>exact t0);(case B55=>refine' o0 (hs:=?C54) ?A54 ?B54;(case C54=>exact rfl);(case A54=>exact t0);(case B54=>refine' o0 (hs:=?C53) ?A53 ?B53;(case C53=>exact rfl);(case A53=>exact t0);(case B53=>exact q0)))))))) rfl (by first|exact .inl rfl|exact .inr rfl)) (O1 (@N0 _ _ 0 _ _ _ _ nd rfl aa (W0 Z1 (pv 0) (@Z0 _ _ _ _ (by (refine' o0 (hs:=?C52) ?A52 ?B52;(case C52=>exact rfl);(case A52=>exact t0);(case B52=>refine' o0 (hs:=?C51) ?A51 ?B51;(case C51=>exact rfl);(case A51=>exact t0);(case B51=>refine' o0 (hs:=?C50) ?A50 ?B50;(case C50=>exact rfl);(case A50=>exact t0);(case B50=>refine' o0 (hs:=?C49) ?A49 ?B49;(case C49=>exact rfl);(case A49=>exact t0);(case B49=>exact q0)))))))) rfl (by first|exact .inl rfl|exact .inr rfl)) (O1 (@N0 _ _ 0 _ _ _ _ nd rfl aa (W0 Z1 (pv 0) (@Z0 _ _ _ _ (by (refine' o0 (hs:=?C48) ?A48 ?B48;(case C48=>exact rfl);(case A48=>exact t0);(case B48=>refine' o0 (hs:=?C47) ?A47 ?B47;(case C47=>exact rfl);(case A47=>exact t0);(case B47=>refine' o0 (hs:=?C46) ?A46 ?B46;(case C46=>exact rfl);(case A46=>exact t0);(case B46=>exact q0))))))) rfl (by first|exact .inl rfl|exact .inr rfl)) (O1 (@N0 _ _ 0 _ _ _ _ nd rfl aa (W0 Z1 (pv 0) (@Z0 _ _ _ _ (by (refine' o0 (hs:=?C45) ?A45 ?B45;(case C45=>exact rfl);(case A45=>exact t0);(case B45=>refine' o0 (hs:=?C44) ?A44 ?B44;(case C44=>exact rfl);(case A44=>exact t0);(case B44=>exact q0)))))) rfl (by first|exact .inl rfl|exact .inr rfl)) (O1 (@N0 _ _ 0 _ _ _ _ nd rfl aa (W0 Z1 (pv 0) (@Z0 _ _ _ _ (by (refine' o0 (hs:=?C43) ?A43 ?B43;(case C43=>exact rfl);(case A43=>exact t0);(case B43=>refine' o0 (hs:=?C42) ?A42 ?B42;(case C42=>exact rfl);(case A42=>exact t0);(case B42=>refine' o0 (hs:=?C41) ?A41 ?B41;(case C41=>exact rfl);(case A41=>exact t0);(case B41=>refine' o0 (hs:=?C40) ?A40 ?B40;(case C40=>exact rfl);(case A40=>exact t0);(case B40=>exact q0)))))))) rfl (by first|exact .inl rfl|exact .inr rfl)) (O1 (@N0 _ _ 0 _ _ _ _ nd rfl aa (W0 Z1 (pv 0) (@Z0 _ _ _ _ (by (refine' o0 (hs:=?C39) ?A39 ?B39;(case C39=>exact rfl);(case A39=>exact t0);(case B39=>refine' o0 (hs:=?C38) ?A38 ?B38;(case C38=>exact rfl);(case A38=>exact t0);(case B38=>refine' o0 (hs:=?C37) ?A37 ?B37;(case C37=>exact rfl);(case A37=>exact t0);(case B37=>refine' o0 (hs:=?C36) ?A36 ?B36;(case C36=>exact rfl);(case A36=>exact t0);(case B36=>exact q0)))))))) rfl (by first|exact .inl rfl|exact .inr rfl)) (O1 (@N0 _ _ 0 _ _ _ _ nd rfl aa (W0 Z1 (pv 0) (@Z0 _ _ _ _ (by (refine' o0 (hs:=?C35) ?A35 ?B35;(case C35=>exact rfl);(case A35=>exact t0);(case B35=>refine' o0 (hs:=?C34) ?A34 ?B34;(case C34=>exact rfl);(case A34=>exact t0);(case B34=>refine' o0 (hs:=?C33) ?A33 ?B33;(case C33=>exact rfl);(case A33=>exact t0);(case B33=>refine' o0 (hs:=?C32) ?A32 ?B32;(case C32=>exact rfl);(case A32=>exact t0);(case B32=>exact q0)))))))) rfl (by first|exact .inl rfl|exact .inr rfl)) (O1 (@N0 _ _ 0 _ _ _ _ nd rfl aa (W0 Z1 (pv 0) (@Z0 _ _ _ _ (by (refine' o0 (hs:=?C31) ?A31 ?B31;(case C31=>exact rfl);(case A31=>exact t0);(case B31=>refine' o0 (hs:=?C30) ?A30 ?B30;(case C30=>exact rfl);(case A30=>exact t0);(case B30=>refine' o0 (hs:=?C29) ?A29 ?B29;(case C29=>exact rfl);(case A29=>exact t0);(case B29=>refine' o0 (hs:=?C28) ?A28 ?B28;(case C28=>exact rfl);(case A28=>exact t0);(case B28=>exact q0)))))))) rfl (by first|exact .inl rfl|exact .inr rfl)) (O1 (@N0 _ _ 0 _ _ _ _ nd rfl aa (W0 Z1 (pv 0) (@Z0 _ _ _ _ (by (refine' o0 (hs:=?C27) ?A27 ?B27;(case C27=>exact rfl);(case A27=>exact t0);(case B27=>refine' o0 (hs:=?C26) ?A26 ?B26;(case C26=>exact rfl);(case A26=>exact t0);(case B26=>refine' o0 (hs:=?C25) ?A25 ?B25;(case C25=>exact rfl);(case A25=>exact t0);(case B25=>refine' o0 (hs:=?C24) ?A24 ?B24;(case C24=>exact rfl);(case A24=>exact t0);(case B24=>refine' o0 (hs:=?C23) ?A23 ?B23;(case C23=>exact rfl);(case A23=>exact t0);(case B23=>exact q0))))))))) rfl (by first|exact .inl rfl|exact .inr rfl)) (O1 (@N0 _ _ 0 _ _ _ _ nd rfl aa (W0 Z1 (pv 0) (@Z0 _ _ _ _ (by (refine' o0 (hs:=?C22) ?A22 ?B22;(case C22=>exact rfl);(case A22=>exact t0);(case B22=>refine' o0 (hs:=?C21) ?A21 ?B21;(case C21=>exact rfl);(case A21=>exact t0);(case B21=>refine' o0 (hs:=?C20) ?A20 ?B20;(case C20=>exact rfl);(case A20=>exact t0);(case B20=>refine' o0 (hs:=?C19) ?A19 ?B19;(case C19=>exact rfl);(case A19=>exact t0);(case B19=>exact q0)))))))) rfl (by first|exact .inl rfl|exact .inr rfl)) (O1 (@N0 _ _ 0 _ _ _ _ nd rfl aa (W0 Z1 (pv 0) (@Z0 _ _ _ _ (by (refine' o0 (hs:=?C18) ?A18 ?B18;(case C18=>exact rfl);(case A18=>exact t0);(case B18=>refine' o0 (hs:=?C17) ?A17 ?B17;(case C17=>exact rfl);(case A17=>exact t0);(case B17=>refine' o0 (hs:=?C16) ?A16 ?B16;(case C16=>exact rfl);(case A16=>exact t0);(case B16=>refine' o0 (hs:=?C15) ?A15 ?B15;(case C15=>exact rfl);(case A15=>exact t0);(case B15=>refine' o0 (hs:=?C14) ?A14 ?B14;(case C14=>exact rfl);(case A14=>exact t0);(case B14=>exact q0))))))))) rfl (by first|exact .inl rfl|exact .inr rfl)) (O1 (@N0 _ _ 0 _ _ _ _ nd rfl aa (W0 Z1 (pv 0) (@Z0 _ _ _ _ (by (refine' o0 (hs:=?C13) ?A13 ?B13;(case C13=>exact rfl);(case A13=>exact t0);(case B13=>refine' o0 (hs:=?C12) ?A12 ?B12;(case C12=>exact rfl);(case A12=>exact t0);(case B12=>refine' o0 (hs:=?C11) ?A11 ?B11;(case C11=>exact rfl);(case A11=>exact t0);(case B11=>refine' o0 (hs:=?C10) ?A10 ?B10;(case C10=>exact rfl);(case A10=>exact t0);(case B10=>exact q0)))))))) rfl (by first|exact .inl rfl|exact .inr rfl)) (O1 (@N0 _ _ 0 _ _ _ _ nd rfl aa (W0 Z1 (pv 0) (@Z0 _ _ _ _ (by (refine' o0 (hs:=?C9) ?A9 ?B9;(case C9=>exact rfl);(case A9=>exact t0);(case B9=>refine' o0 (hs:=?C8) ?A8 ?B8;(case C8=>exact rfl);(case A8=>exact t0);(case B8=>refine' o0 (hs:=?C7) ?A7 ?B7;(case C7=>exact rfl);(case A7=>exact t0);(case B7=>refine' o0 (hs:=?C6) ?A6 ?B6;(case C6=>exact rfl);(case A6=>exact t0);(case B6=>refine' o0 (hs:=?C5) ?A5 ?B5;(case C5=>exact rfl);(case A5=>exact t0);(case B5=>exact q0))))))))) rfl (by first|exact .inl rfl|exact .inr rfl)) (k9 (T0 (W0 Z1 (pv 0) (@Z0 _ _ _ _ (by (refine' o0 (hs:=?C4) ?A4 ?B4;(case C4=>exact rfl);(case A4=>exact t0);(case B4=>refine' o0 (hs:=?C3) ?A3 ?B3;(case C3=>exact rfl);(case A3=>exact t0);(case B3=>refine' o0 (hs:=?C2) ?A2 ?B2;(case C2=>exact rfl);(case A2=>exact t0);(case B2=>refine' o0 (hs:=?C1) ?A1 ?B1;(case C1=>exact rfl);(case A1=>exact t0);(case B1=>exact q0)))))))))))))))))))))))))))))),?_⟩;refine V1 h λss i q B l=>?_;refine exS0 ss q λc=>?_;have k:=c;clear c q;show EvS B _ _ [none];row_cond go;exact k
theorem sc_law_others:FnScope ["some"] [] (J0 s_law_others):=by row_cond sc
theorem VR(T:Txt w K mg):Can P w K mg base "_law_others" 1 [] (spP K (kN)):=by
 obtain⟨f,fd,D⟩:=T.d_law_others;obtain⟨g,b⟩:=T.o_Desk;have a:=b.mgx;have d:=T.n_Desk_webs _ a;refine D.can (D.fn.ok sc_law_others (λvs H Q E h=>lenP h λss i q=>by obtain⟨rfl,k⟩:=q;rfl) (λcdv A outer s H vs Q E j h=>?_));have nd:=sc_law_others.nd;refine⟨_,(PSq.out (O1 (@N0 _ _ 0 _ _ _ _ nd rfl aa (@Z0 _ _ _ _ (by (refine' o0 (hs:=?C174) ?A174 ?B174;(case C174=>exact rfl);(case A174=>exact(@L1 _ _ _ _ _ (by (refine' o0 (hs:=?C176) ?A176 ?B176;(case C176=>exact rfl);(case A176=>exact t0);(case B176=>refine' o0 (hs:=?C175) ?A175 ?B175;(case C175=>exact rfl);(case A175=>exact t0);(case B175=>exact q0))))));(case B174=>refine' o0 (hs:=?C171) ?A171 ?B171;(case C171=>exact rfl);(case A171=>exact(@L1 _ _ _ _ _ (by (refine' o0 (hs:=?C173) ?A173 ?B173;(case C173=>exact rfl);(case A173=>exact t0);(case B173=>refine' o0 (hs:=?C172) ?A172 ?B172;(case C172=>exact rfl);(case A172=>exact t0);(case B172=>exact q0))))));(case B171=>refine' o0 (hs:=?C168) ?A168 ?B168;(case C168=>exact rfl);(case A168=>exact(@L1 _ _ _ _ _ (by (refine' o0 (hs:=?C170) ?A170 ?B170;(case C170=>exact rfl);(case A170=>exact t0);(case B170=>refine' o0 (hs:=?C169) ?A169 ?B169;(case C169=>exact rfl);(case A169=>exact t0);(case B169=>exact q0))))));(case B168=>exact q0)))))) rfl (by first|exact .inl rfl|exact .inr rfl)) (O1 (@N0 _ _ 0 _ _ _ _ nd rfl aa (W0 Z1 (pv 0) (@Z0 _ _ _ _ (by (refine' o0 (hs:=?C165) ?A165 ?B165;(case C165=>exact rfl);(case A165=>exact(@L1 _ _ _ _ _ (by (refine' o0 (hs:=?C167) ?A167 ?B167;(case C167=>exact rfl);(case A167=>exact t0);(case B167=>refine' o0 (hs:=?C166) ?A166 ?B166;(case C166=>exact rfl);(case A166=>exact t0);(case B166=>exact q0))))));(case B165=>refine' o0 (hs:=?C162) ?A162 ?B162;(case C162=>exact rfl);(case A162=>exact(@L1 _ _ _ _ _ (by (refine' o0 (hs:=?C164) ?A164 ?B164;(case C164=>exact rfl);(case A164=>exact t0);(case B164=>refine' o0 (hs:=?C163) ?A163 ?B163;(case C163=>exact rfl);(case A163=>exact t0);(case B163=>exact q0))))));(case B162=>exact q0)))))) rfl (by first|exact .inl rfl|exact .inr rfl)) (O1 (@N0 _ _ 0 _ _ _ _ nd rfl aa (W0 Z1 (pv 0) (@Z0 _ _ _ _ (by (refine' o0 (hs:=?C159) ?A159 ?B159;(case C159=>exact rfl);(case A159=>exact(@L1 _ _ _ _ _ (by (refine' o0 (hs:=?C161) ?A161 ?B161;(case C161=>exact rfl);(case A161=>exact t0);(case B161=>refine' o0 (hs:=?C160) ?A160 ?B160;(case C160=>exact rfl);(case A160=>exact t0);(case B160=>exact q0))))));(case B159=>refine' o0 (hs:=?C156) ?A156 ?B156;(case C156=>exact rfl);(case A156=>exact(@L1 _ _ _ _ _ (by (refine' o0 (hs:=?C158) ?A158 ?B158;(case C158=>exact rfl);(case A158=>exact t0);(case B158=>refine' o0 (hs:=?C157) ?A157 ?B157;(case C157=>exact rfl);(case A157=>exact t0);(case B157=>exact q0))))));(case B156=>refine' o0 (hs:=?C153) ?A153 ?B153;(case C153=>exact rfl);(case A153=>exact(@L1 _ _ _ _ _ (by (refine' o0 (hs:=?C155) ?A155 ?B155;(case C155=>exact rfl);(case A155=>exact t0);(case B155=>refine' o0 (hs:=?C154) ?A154 ?B154;(case C154=>exact rfl);(case A154=>exact t0);(case B154=>exact q0))))));(case B153=>exact q0))))))) rfl (by first|exact .inl rfl|exact .inr rfl)) (O1 (@N0 _ _ 0 _ _ _ _ nd rfl aa (W0 Z1 (pv 0) (@Z0 _ _ _ _ (by (refine' o0 (hs:=?C150) ?A150 ?B150;(case C150=>exact rfl);(case A150=>exact(@L1 _ _ _ _ _ (by (refine' o0 (hs:=?C152) ?A152 ?B152;(case C152=>exact rfl);(case A152=>exact t0);(case B152=>refine' o0 (hs:=?C151) ?A151 ?B151;(case C151=>exact rfl);(case A151=>exact t0);(case B151=>exact q0))))));(case B150=>refine' o0 (hs:=?C147) ?A147 ?B147;(case C147=>exact rfl);(case A147=>exact(@L1 _ _ _ _ _ (by (refine' o0 (hs:=?C149) ?A149 ?B149;(case C149=>exact rfl);(case A149=>exact t0);(case B149=>refine' o0 (hs:=?C148) ?A148 ?B148;(case C148=>exact rfl);(case A148=>exact t0);(case B148=>exact q0))))));(case B147=>exact q0)))))) rfl (by first|exact .inl rfl|exact .inr rfl)) (O1 (@N0 _ _ 0 _ _ _ _ nd rfl aa (W0 Z1 (pv 0) (@Z0 _ _ _ _ (by (refine' o0 (hs:=?C144) ?A144 ?B144;(case C144=>exact rfl);(case A144=>exact(@L1 _ _ _ _ _ (by (refine' o0 (hs:=?C146) ?A146 ?B146;(case C146=>exact rfl);(case A146=>exact t0);(case B146=>refine' o0 (hs:=?C145) ?A145 ?B145;(case C145=>exact rfl);(case A145=>exact t0);(case B145=>exact q0))))));(case B144=>refine' o0 (hs:=?C141) ?A141 ?B141;(case C141=>exact rfl);(case A141=>exact(@L1 _ _ _ _ _ (by (refine' o0 (hs:=?C143) ?A143 ?B143;(case C143=>exact rfl);(case A143=>exact t0);(case B143=>refine' o0 (hs:=?C142) ?A142 ?B142;(case C142=>exact rfl);(case A142=>exact t0);(case B142=>exact q0))))));(case B141=>refine' o0 (hs:=?C138) ?A138 ?B138;(case C138=>exact rfl);(case A138=>exact(@L1 _ _ _ _ _ (by (refine' o0 (hs:=?C140) ?A140 ?B140;(case C140=>exact rfl);(case A140=>exact t0);(case B140=>refine' o0 (hs:=?C139) ?A139 ?B139;(case C139=>exact rfl);(case A139=>exact t0);(case B139=>exact q0))))));(case B138=>exact q0))))))) rfl (by first|exact .inl rfl|exact .inr rfl)) (O1 (@N0 _ _ 0 _ _ _ _ nd rfl aa (W0 Z1 (pv 0) (@Z0 _ _ _ _ (by (refine' o0 (hs:=?C135) ?A135 ?B135;(case C135=>exact rfl);(case A135=>exact(@L1 _ _ _ _ _ (by (refine' o0 (hs:=?C137) ?A137 ?B137;(case C137=>exact rfl);(case A137=>exact t0);(case B137=>refine' o0 (hs:=?C136) ?A136 ?B136;(case C136=>exact rfl);(case A136=>exact t0);(case B136=>exact q0))))));(case B135=>refine' o0 (hs:=?C132) ?A132 ?B132;(case C132=>exact rfl);(case A132=>exact(@L1 _ _ _ _ _ (by (refine' o0 (hs:=?C134) ?A134 ?B134;(case C134=>exact rfl);(case A134=>exact t0);(case B134=>refine' o0 (hs:=?C133) ?A133 ?B133;(case C133=>exact rfl);(case A133=>exact t0);(case B133=>exact q0))))));(case B132=>exact q0)))))) rfl (by first|exact .inl rfl|exact .inr rfl)) (O1 (@N0 _ _ 0 _ _ _ _ nd rfl aa (W0 Z1 (pv 0) (@Z0 _ _ _ _ (by (refine' o0 (hs:=?C129) ?A129 ?B129;(case C129=>exact rfl);(case A129=>exact(@L1 _ _ _ _ _ (by (refine' o0 (hs:=?C131) ?A131 ?B131;(case C131=>exact rfl);(case A131=>exact t0);(case B131=>refine' o0 (hs:=?C130) ?A130 ?B130;(case C130=>exact rfl);(case A130=>exact t0);(case B130=>exact q0))))));(case B129=>refine' o0 (hs:=?C126) ?A126 ?B126;(case C126=>exact rfl);(case A126=>exact(@L1 _ _ _ _ _ (by (refine' o0 (hs:=?C128) ?A128 ?B128;(case C128=>exact rfl);(case A128=>exact t0);(case B128=>refine' o0 (hs:=?C127) ?A127 ?B127;(case C127=>exact rfl);(case A127=>exact t0);(case B127=>exact q0))))));(case B126=>refine' o0 (hs:=?C123) ?A123 ?B123;(case C123=>exact rfl);(case A123=>exact(@L1 _ _ _ _ _ (by (refine' o0 (hs:=?C125) ?A125 ?B125;(case C125=>exact rfl);(case A125=>exact t0);(case B125=>refine' o0 (hs:=?C124) ?A124 ?B124;(case C124=>exact rfl);(case A124=>exact t0);(case B124=>exact q0))))));(case B123=>exact q0))))))) rfl (by first|exact .inl rfl|exact .inr rfl)) (O1 (@N0 _ _ 0 _ _ _ _ nd rfl aa (W0 Z1 (pv 0) (@Z0 _ _ _ _ (by (refine' o0 (hs:=?C120) ?A120 ?B120;(case C120=>exact rfl);(case A120=>exact(@L1 _ _ _ _ _ (by (refine' o0 (hs:=?C122) ?A122 ?B122;(case C122=>exact rfl);(case A122=>exact t0);(case B122=>refine' o0 (hs:=?C121) ?A121 ?B121;(case C121=>exact rfl);(case A121=>exact t0);(case B121=>exact q0))))));(case B120=>refine' o0 (hs:=?C117) ?A117 ?B117;(case C117=>exact rfl);(case A117=>exact(@L1 _ _ _ _ _ (by (refine' o0 (hs:=?C119) ?A119 ?B119;(case C119=>exact rfl);(case A119=>exact t0);(case B119=>refine' o0 (hs:=?C118) ?A118 ?B118;(case C118=>exact rfl);(case A118=>exact t0);(case B118=>exact q0))))));(case B117=>exact q0)))))) rfl (by first|exact .inl rfl|exact .inr rfl)) (O1 (@N0 _ _ 0 _ _ _ _ nd rfl aa (W0 Z1 (pv 0) (@Z0 _ _ _ _ (by (refine' o0 (hs:=?C114) ?A114 ?B114;(case C114=>exact rfl);(case A114=>exact(@L1 _ _ _ _ _ (by (refine' o0 (hs:=?C116) ?A116 ?B116;(case C116=>exact rfl);(case A116=>exact t0);(case B116=>refine' o0 (hs:=?C115) ?A115 ?B115;(case C115=>exact rfl);(case A115=>exact t0);(case B115=>exact q0))))));(case B114=>refine' o0 (hs:=?C111) ?A111 ?B111;(case C111=>exact rfl);(case A111=>exact(@L1 _ _ _ _ _ (by (refine' o0 (hs:=?C113) ?A113 ?B113;(case C113=>exact rfl);(case A113=>exact t0);(case B113=>refine' o0 (hs:=?C112) ?A112 ?B112;(case C112=>exact rfl);(case A112=>exact t0);(case B112=>exact q0))))));(case B111=>refine' o0 (hs:=?C108) ?A108 ?B108;(case C108=>exact rfl);(case A108=>exact(@L1 _ _ _ _ _ (by (refine' o0 (hs:=?C110) ?A110 ?B110;(case C110=>exact rfl);(case A110=>exact t0);(case B110=>refine' o0 (hs:=?C109) ?A109 ?B109;(case C109=>exact rfl);(case A109=>exact t0);(case B109=>exact q0))))));(case B108=>exact q0))))))) rfl (by first|exact .inl rfl|exact .inr rfl)) (O1 (@N0 _ _ 0 _ _ _ _ nd rfl aa (W0 Z1 (pv 0) (@Z0 _ _ _ _ (by (refine' o0 (hs:=?C105) ?A105 ?B105;(case C105=>exact rfl);(case A105=>exact(@L1 _ _ _ _ _ (by (refine' o0 (hs:=?C107) ?A107 ?B107;(case C107=>exact rfl);(case A107=>exact t0);(case B107=>refine' o0 (hs:=?C106) ?A106 ?B106;(case C106=>exact rfl);(case A106=>exact t0);(case B106=>exact q0))))));(case B105=>refine' o0 (hs:=?C102) ?A102 ?B102;(case C102=>exact rfl);(case A102=>exact(@L1 _ _ _ _ _ (by (refine' o0 (hs:=?C104) ?A104 ?B104;(case C104=>exact rfl);(case A104=>exact t0);(case B104=>refine' o0 (hs:=?C103) ?A103 ?B103;(case C103=>exact rfl);(case A103=>exact t0);(case B103=>exact q0))))));(case B102=>exact q0)))))) rfl (by first|exact .inl rfl|exact .inr rfl)) (O1 (@N0 _ _ 0 _ _ _ _ nd rfl aa (W0 Z1 (pv 0) (@Z0 _ _ _ _ (by (refine' o0 (hs:=?C99) ?A99 ?B99;(case C99=>exact rfl);(case A99=>exact(@L1 _ _ _ _ _ (by (refine' o0 (hs:=?C101) ?A101 ?B101;(case C101=>exact rfl);(case A101=>exact t0);(case B101=>refine' o0 (hs:=?C100) ?A100 ?B100;(case C100=>exact rfl);(case A100=>exact t0);(case B100=>exact q0))))));(case B99=>refine' o0 (hs:=?C96) ?A96 ?B96;(case C96=>exact rfl);(case A96=>exact(@L1 _ _ _ _ _ (by (refine' o0 (hs:=?C98) ?A98 ?B98;(case C98=>exact rfl);(case A98=>exact t0);(case B98=>refine' o0 (hs:=?C97) ?A97 ?B97;(case C97=>exact rfl);(case A97=>exact t0);(case B97=>exact q0))))));(case B96=>refine' o0 (hs:=?C93) ?A93 ?B93;(case C93=>exact rfl);(case A93=>exact(@L1 _ _ _ _ _ (by (refine' o0 (hs:=?C95) ?A95 ?B95;(case C95=>exact rfl);(case A95=>exact t0);(case B95=>refine' o0 (hs:=?C94) ?A94 ?B94;(case C94=>exact rfl);(case A94=>exact t0);(case B94=>exact q0))))));(case B93=>exact q0))))))) rfl (by first|exact .inl rfl|exact .inr rfl)) (k9 (T0 (W0 Z1 (pv 0) (@Z0 _ _ _ _ (by (refine' o0 (hs:=?C90) ?A90 ?B90;(case C90=>exact rfl);(case A90=>exact(@L1 _ _ _ _ _ (by (refine' o0 (hs:=?C92) ?A92 ?B92;(case C92=>exact rfl);(case A92=>exact t0);(case B92=>refine' o0 (hs:=?C91) ?A91 ?B91;(case C91=>exact rfl);(case A91=>exact t0);(case B91=>exact q0))))));(case B90=>refine' o0 (hs:=?C87) ?A87 ?B87;(case C87=>exact rfl);(case A87=>exact(@L1 _ _ _ _ _ (by (refine' o0 (hs:=?C89) ?A89 ?B89;(case C89=>exact rfl);(case A89=>exact t0);(case B89=>refine' o0 (hs:=?C88) ?A88 ?B88;(case C88=>exact rfl);(case A88=>exact t0);(case B88=>exact q0))))));(case B87=>exact q0)))))))))))))))))))),?_⟩;refine V1 h λss i q B l=>?_;refine exS0 ss q λc=>?_;have k:=c;clear c q;show EvS B _ _ [none];row_cond go;exact k
open Tx
def y8(t:Str):Bool:=decide (t.length<=1000) && (Txt.split t " ").all E5
theorem gI:noneL.all (λt=>!m5 (Txt.split t " ") && y8 t)=true:=by decide +kernel
theorem cO:othersL.all (λp=>m5 (Txt.split p.1 " ") && y8 p.1)=true:=by decide +kernel
def esL:List (Key × PyData):=[(.inr "a",webD 4 [(0,1),(1,2),(2,3)]),(.inr "b",webD 3 [(0,2)])]
theorem UA(h:y8 t=true):t.length<=1000/\∀ w∈Txt.split t " ",E5 w=true:=by
 unfold y8 at h;rw[N4,decide_eq_true_eq,R3] at h;exact h
theorem dJ(h:t∈noneL):E7 mg esL (.str t) (λC=>z8 mg C "row"):=by
 have:=R3.mp gI t h;rw[N4,Bool.not_eq_true'] at this;exact .inl ⟨λt' e=>by cases e;exact this.1,λC a=>.inr (.inr (.inr (.inr (.inl ⟨a,rfl⟩))))⟩
theorem EK(h:∀ t,d ≠ .str t):E7 mg esL d (λC=>z8 mg C "row") :=
 .inl ⟨λt' e=>absurd e (h t'),λC a=>.inr (.inr (.inr (.inr (.inl ⟨a,rfl⟩))))⟩
theorem qE:Joined 4 [(0,1),(1,2),(2,3)]:=by
 have t:∀ k:Nat,k<3->Tied [(0,1),(1,2),(2,3)] (k:Int) ((k:Int)+1):=λk b=>by
  have:k=0\/k=1\/k=2:=by lia
  rcases this with rfl|rfl|rfl <;> (left;decide)
 have a:∀ k:Nat,k<=3->Gr.Walk (Tied [(0,1),(1,2),(2,3)]) 0 k (k:Int):=by
  intro k
  induction k with
  |zero=>intro _;exact .refl
  | succ k ih =>
   intro h;have:=Gr.Walk.step (ih (by lia)) (t k (by lia))
   rwa [show((k+1:Nat):Int)=(k:Int)+1 by lia]
 intro v v0 c;obtain⟨k,rfl⟩:∃ k:Nat,v=(k:Int):=⟨v.toNat,by lia⟩
 obtain⟨d,_,hd⟩:=Gr.Dist.of_walk (a k (by lia));exact⟨d,hd⟩
theorem qH:¬ Joined 3 [(0,2)]:=by
 intro h;obtain⟨d,hd⟩:=h 1 (by lia) (by lia);have:∀ k v,Gr.Walk (Tied [(0,2)]) 0 k v->v=0\/v=2:=λk v w=>by
  induction w with
  |refl=>exact .inl rfl
  | step _ t _ =>
   rcases t with t|t <;> simp at t
   ·exact .inr t.2
   ·exact .inl t.1
 rcases this d 1 hd.1 with z|z <;> lia
open Tx
def isTB(t:Str):Bool:=match Txt.split t " " with
 | w::ws=>match numV w with
  |some n=>decide (1<=n/\n<=60) && wrF n (-1,-1) ws
  |none=>false
 |[]=>false
theorem nO(h:isTB t=false)(n:Int)(fs:List (Int × Int)):¬ IsT t n fs:=λz=>by
 obtain⟨w,ws,e,_⟩:=id z;obtain⟨m,a,b,d,c⟩:=(JM e).mp ⟨n,fs,z⟩;unfold isTB at h;rw[e] at h;simp only[YD a,c,Bool.and_true,decide_eq_false_iff_not] at h;exact h ⟨b,d⟩
def u9(nm:Str):Option (Int × List (Int × Int)):=if nm = "a" then some (4,[(0,1),(1,2),(2,3)]) else if nm = "b" then some (3,[(0,2)]) else none
theorem NQ(nm:Str):valD esL (.inr nm)=(u9 nm).map λp=>webD p.1 p.2:=by
 unfold esL u9 valD;by_cases h1:nm = "a"
 ·subst h1;rfl
 ·by_cases h2:nm = "b"
  ·subst h2;rfl
  ·rw[y0 h1,y0 h2];rw[List.find?_cons,Q1 (λz=>h1 (Sum.inr.inj z).symm),List.find?_cons,Q1 (λz=>h2 (Sum.inr.inj z).symm)];rfl
def outV (t:Str):Str:=match Txt.split t " " with
 | word::nm::rest =>
  if !m5 (word::nm::rest) then "" else
  if word = "web" then (if isTB (Txt.join " " rest) || decide (50000<(Txt.join " " rest).length) then "" else "text") else
  match u9 nm with
  |none=>"name"
  | some (n,ts) =>
   if word = "tie" then (match rest.map numV with
    |[some a,some b]=>if (0<=min a b/\min a b<max a b/\max a b<n)/\(min a b,max a b) ∉ ts then "" else "tie"
    |_=>"")
   else if word = "far" then (match rest.map numV with
    |[some a,some b]=>if (0<=a/\a<n)/\(0<=b/\b<n) then "" else "place"
    |_=>"")
   else if word = "farthest"\/word = "middles"\/word = "best" then (if n=3 then "join" else "")
   else if word = "hubs" then (match rest.map numV with
    |[some k]=>if n=3 then "join" else if 20<k then "number" else ""
    |_=>"")
   else ""
 |_=>""
theorem cU:othersL.all (λp=>decide (outV p.1=p.2))=true:=by decide +kernel
theorem GL(e:u9 nm=some (n,ts)):(n=4/\ts=[(0,1),(1,2),(2,3)])\/(n=3/\ts=[(0,2)]):=by
 unfold u9 at e;split at e
 ·cases e;exact .inl ⟨rfl,rfl⟩
 ·split at e
  ·cases e;exact .inr ⟨rfl,rfl⟩
  ·cases e
theorem DE{rest:List Str}{a b:Int}(h:rest.map numV=[some a,some b]):rest.map numD=[.int a,.int b]:=by
 rcases rest with _|⟨x,_|⟨y,_|⟨z,r⟩⟩⟩
 ·simp at h
 ·simp at h
 ·simp only[P0,List.map_nil,List.cons.injEq,and_true] at h;simp only[P0,List.map_nil,numD,h.1,h.2]
 ·simp at h
theorem qF{rest:List Str}{a:Int}(h:rest.map numV=[some a]):rest.map numD=[.int a]:=by
 rcases rest with _|⟨x,_|⟨y,r⟩⟩
 ·simp at h
 ·simp only[P0,List.map_nil,List.cons.injEq,and_true] at h;simp only[P0,List.map_nil,numD,h]
 ·simp at h
theorem IS (h:outV t=d) (hd:d ≠ ""):E7 mg esL (.str t) (λC=>z8 mg C d):=by
 unfold outV at h;split at h
 ·rename_i word nm rest es
  cases hr:m5 (word::nm::rest) with
  |false=>rw[hr] at h;exact absurd h.symm hd
  | true =>
   rw[hr] at h;simp only[Bool.not_true,Bool.false_eq_true,if_false] at h;refine .inr ⟨t,word,nm,rest,rfl,es,hr,?_⟩;by_cases hw:word = "web"
   ·rw[z0 hw] at h;split at h
    ·exact absurd h.symm hd
    ·rename_i hn
     simp only[Bool.or_eq_true,decide_eq_true_eq,not_or,Bool.not_eq_true] at hn;subst h;exact .inl ⟨hw,nO hn.1,by lia,λC c=>.inr (.inr (.inr (.inr (.inr (.inl ⟨c,rfl⟩)))))⟩
   ·rw [y0 hw] at h;have m:=NQ nm;cases e:u9 nm with
    | none =>
     rw[e] at h m;subst h;exact .inr (.inl ⟨hw,m,λC c=>.inr (.inl ⟨c,rfl⟩)⟩)
    | some p =>
     obtain⟨n,ts⟩:=p;rw[e] at h m;have r:=GL e;refine .inr (.inr ⟨n,ts,m,?_⟩);dsimp only at h;have o:ts.length<=10000:=by rcases r with ⟨_,rfl⟩|⟨_,rfl⟩ <;> decide
     have f:InN n ts:=by rcases r with ⟨rfl,rfl⟩|⟨rfl,rfl⟩ <;> (intro p i;simp at i;rcases i with rfl|rfl|rfl <;> simp)
     have g : n = 3 → ¬ Joined n ts := by
      intro z;rcases r with ⟨l,_⟩|⟨_,rfl⟩
      ·lia
      ·subst z;exact qH
     by_cases h1:word = "tie"
     ·rw [z0 h1] at h;split at h
      ·rename_i a b hn
       split at h
       ·exact absurd h.symm hd
       ·rename_i hq
        subst h;refine .inl ⟨h1,a,b,DE hn,o,λx y i u=>⟨λds z=>by cases z;simp,λD=>?_⟩,λC c=>.inr (.inr (.inr (.inr (.inr (.inr ⟨c,rfl⟩)))))⟩;have E:=(i.mem_iff (a:=x)).mp (by simp);have v:=(i.mem_iff (a:=y)).mp (by simp);have B:=(i.mem_iff (a:=a)).mpr (by simp);have w:=(i.mem_iff (a:=b)).mpr (by simp);simp only[V0,y7,or_false] at E v B w;have ex:x=min a b:=by lia
        have F:y=max a b:=by lia
        refine⟨[(x,y)],rfl,λnd=>?_⟩;simp[M7,D4,prD] at D;have j:(x,y)∈ts:=by
         refine aC λs=>hq ⟨by lia,?_⟩;rw[← ex,← F];exact s
        exact(List.nodup_append.mp nd).2.2 _ j _ (by simp) rfl
      ·exact absurd h.symm hd
     rw[y0 h1] at h;by_cases h2:word = "far"
     ·rw[z0 h2] at h;split at h
      ·rename_i a b hn
       split at h
       ·exact absurd h.symm hd
       ·rename_i hq
        subst h;refine .inr (.inl ⟨h2,n,ts,.int a,.int b,by rw[DE hn],?_,λC c=>.inr (.inr (.inr (.inl ⟨c,rfl⟩)))⟩);by_cases ha:0<=a/\a<n
        ·exact .inr (Q1 (by lia))
        ·exact .inl (Q1 (by lia))
      ·exact absurd h.symm hd
     rw[y0 h2] at h;by_cases h3:word = "farthest"\/word = "middles"\/word = "best"
     ·rw[z0 h3] at h;split at h
      ·rename_i h3n
       subst h;have q:Z6 mg [.st (webD n ts),.st (.list (rest.map numD))] (λ_=>False) (λC=>z8 mg C "join"):=⟨n,ts,_,rfl,by lia,by lia,f,o,g h3n,λC c=>.inl ⟨c,rfl⟩⟩
       rcases h3 with z|z|z
       ·exact .inr (.inr (.inl ⟨z,q⟩))
       ·exact .inr (.inr (.inr (.inl ⟨z,q⟩)))
       ·exact .inr (.inr (.inr (.inr (.inl ⟨z,q⟩))))
      ·exact absurd h.symm hd
     rw[y0 h3] at h;by_cases l:word = "hubs"
     ·rw [z0 l] at h;split at h
      ·rename_i k hn
       split at h
       ·rename_i h3n
        subst h;refine .inr (.inr (.inr (.inr (.inr ⟨l,n,ts,.int k,by rw[qF hn],by lia,by lia,f,o,λz=>absurd z (g h3n),λ_ C c=>.inl ⟨c,rfl⟩,λz=>absurd z (g h3n)⟩))))
       ·rename_i h3n
        split at h
        ·rename_i hk
         subst h;have A:Joined n ts:=by
          rcases r with ⟨rfl,rfl⟩|⟨z,_⟩
          ·exact qE
          ·exact absurd z h3n
         refine .inr (.inr (.inr (.inr (.inr ⟨l,n,ts,.int k,by rw[qF hn],by lia,by lia,f,o,λ_=>Q1 (by lia),λz=>absurd A z,λ_ C c=>.inr (.inr (.inl ⟨c,rfl⟩))⟩))))
        ·exact absurd h.symm hd
      ·exact absurd h.symm hd
     rw[y0 l] at h;exact absurd h.symm hd
 ·exact absurd h.symm hd
theorem BS(h:p∈othersL):E7 mg esL (.str p.1) (λC=>z8 mg C p.2):=by
 have a:=R3.mp cU p h;have b:othersL.all (λp=>decide (p.2 ≠ ""))=true:=by decide +kernel
 exact IS (of_decide_eq_true a) (of_decide_eq_true (R3.mp b p h))
theorem farB:Gr.farO (Tied [(0,2)]) 0 1=none:=Gr.farO_none.mpr λd hd=>by
 refine qH λv v0 b=>?_;have:v=0\/v=1\/v=2:=by lia
 rcases this with rfl|rfl|rfl
 ·exact⟨0,Gr.Dist.self _ _⟩
 ·exact⟨d,hd⟩
 ·obtain⟨e,_,a⟩:=Gr.Dist.of_walk (Gr.Walk.step (Gr.Walk.refl (T:=Tied [(0,2)]) (u:=0)) (w:=2) (by left;simp));exact⟨e,a⟩
open Tx
abbrev esA:List (Int × Int):=[(0,1),(1,2),(2,3)]
theorem tiedA:Tied esA u v ↔ (u=0/\v=1)\/(u=1/\v=2)\/(u=2/\v=3)\/(u=1/\v=0)\/(u=2/\v=1)\/(u=3/\v=2):=by
 unfold Tied;simp[esA];lia
theorem dP:∀{k:Nat}{v:Int},Gr.Walk (Tied esA) u k v->v-u<=k/\u-v<=k:=by
 intro k v w
 induction w with
 |refl=>simp
 | step _ t ih =>
  have:=tiedA.mp t;lia
theorem JS:∀(k:Nat){a:Int},0<=a->a+k<=3->Gr.Walk (Tied esA) a k (a+k):=by
 intro k
 induction k with
 |zero=>intro a _ _;rw[show a+((0:Nat):Int)=a by lia];exact .refl
 | succ k ih =>
  intro a b c;have:=Gr.Walk.step (ih b (by lia)) (tiedA.mpr (show _ by lia):Tied esA (a+k) (a+k+1))
  rwa [show a+((k+1:Nat):Int)=a+k+1 by lia]
theorem EQ:∀(k:Nat){a:Int},a<=3->0<=a-k->Gr.Walk (Tied esA) a k (a-k):=by
 intro k
 induction k with
 |zero=>intro a _ _;rw[show a-((0:Nat):Int)=a by lia];exact .refl
 | succ k ih =>
  intro a b c;have:=Gr.Walk.step (ih b (by lia)) (tiedA.mpr (show _ by lia):Tied esA (a-k) (a-k-1))
  rwa [show a-((k+1:Nat):Int)=a-k-1 by lia]
theorem dsA(b:0<=u)(c:u<4)(v0:0<=v)(d:v<4):dsF esA u v=if u<=v then v-u else u-v:=by
 have h:Gr.farO (Tied esA) u v=some (v-u).natAbs:=by
  refine Gr.farO_some.mpr ⟨?_,λk w=>by have:=dP w;lia⟩;by_cases h:u<=v
  ·have:=JS (v-u).natAbs (a:=u) b (by lia)
   rwa [show u+((v-u).natAbs:Int)=v by lia] at this
  ·have:=EQ (v-u).natAbs (a:=u) (by lia) (by lia)
   rwa [show u-((v-u).natAbs:Int)=v by lia] at this
 unfold dsF;rw[h];split <;> simp <;> lia
theorem farA:FarOk 4 esA 3 0 3:=by
 refine⟨⟨⟨0,3,by lia,by decide,by lia,by decide,?_⟩,λu v a b v0 c=>?_⟩,by lia,by lia,by lia,by lia,?_,λu v a b v0 c h=>?_⟩
 ·rw[dsA] <;> simp
 ·rw[dsA a (by lia) v0 (by lia)];split <;> lia
 ·rw[dsA] <;> simp
 ·rw[dsA a b v0 c] at h;split at h <;> lia
open Tx
theorem mWA(p0:0<=p.1)(g:p.1<4)(p2:0<=p.2)(h:p.2<4)(c:0<=u)(d:u<4)(v0:0<=v)(f:v<4):mW esA p u v=rwF (λa b=>if a<=b then b-a else a-b) (λb=>if u<=b then b-u else u-b) p.1 p.2 v:=by
 unfold mW rwF;rw[dsA c d p0 g,dsA c d p2 h,dsA p2 h v0 f,dsA p0 g v0 f,dsA c d v0 f]
theorem BM:BestOk 4 esA (some (2,(0,2))):=by
 intro fs c;have hf:∀ p∈fs,p=(0,2)\/p=(0,3)\/p=(1,3):=λp g=>by
  obtain⟨a,b⟩:=p;have h:=(c.mem (a,b)).mp g;simp[esA] at h;simp only[Prod.mk.injEq];lia
 show(0,2)∈fs/\P6 4 (mW esA (0,2)) 2/\∀ y:Z3,y.2∈fs->P6 4 (mW esA y.2) y.1->¬ lt3 y (2,(0,2));refine⟨(c.mem _).mpr (by decide),⟨⟨0,3,by lia,by lia,by lia,by lia,?_⟩,λu v j o v0 n=>?_⟩,λy f d l=>?_⟩
 ·rw[mWA] <;> simp[rwF]
 ·rw[mWA (by decide) (by decide) (by decide) (by decide) j (by lia) v0 (by lia)];simp only[rwF];split <;> split <;> (try split) <;> (try split) <;> lia
 ·obtain⟨x,a,b⟩:=y;have m:2<=x:=by
   rcases hf _ f with e|e|e
   ·have:=d.2 0 3 (by lia) (by lia) (by lia) (by lia);rw[e,mWA] at this <;> simp[rwF] at * <;> lia
   ·have:=d.2 0 2 (by lia) (by lia) (by lia) (by lia);rw[e,mWA] at this <;> simp[rwF] at * <;> lia
   ·have:=d.2 0 3 (by lia) (by lia) (by lia) (by lia);rw[e,mWA] at this <;> simp[rwF] at * <;> lia
  have g:(0:Int)<=a/\a<b:=by
   have:=(c.mem _).mp f;exact⟨this.1,this.2.1⟩
  have i:¬ ltP (a,b) (0,2):=by
   rcases hf _ f with e|e|e <;> (cases e;unfold ltP;simp)
  rcases l with z|⟨_,z⟩
  ·simp only at z;lia
  ·exact i z
def sE(K:Frag):Sp:=λvs H Q _=>∃(a:Addr)(ns:List Int),vs=[.ref a]/\SqL K H a (ns.map V.int)/\ns.length<=63/\∀ H',Q (.bl true) H'
def OG:VP:=λss Q=>∃ ns:List Int,ss=[.scr ns]/\ns.length<=63/\Q (.st (.bool true))
theorem bT(h:sE K vs H Q E):spP K OG vs H Q E:=by
 obtain⟨a,ns,rfl,c,b,k⟩:=h;refine⟨H,[.scr ns],λs=>s=.st (.bool true),Same.refl _,λa d h=>h,.cons ⟨a,rfl,c⟩ .nil,⟨ns,rfl,b,rfl⟩,λs e v G' H' Fv o=>?_⟩;subst e;have r:=o.ok.1;cases r;exact k _
open Tx
def bR:VP:=λss Q=>∃(ns:List Int)(k:Int),ss=[.scr ns,.st (.int k)]/\0<=k/\k<1048576/\∀ c,Q (.st (.int c))
theorem LI(h:Txt.split t " " = w::ws)(hn:numV w=some n)(g:1<=n)(d:n<=60)(a:ws.map tieV=es.map some)(hi:∀ p∈es,0<=p.1/\p.1<p.2/\p.2<n)(b:Rise es):IsT t n es:=by
 refine⟨w,ws,h,by simp only[numD,hn],g,d,?_,hi,b⟩;clear h hi b
 induction ws generalizing es with
 | nil=>cases es with
  |nil=>rfl
  |cons p es=>cases a
 | cons v ws ih=>cases es with
  |nil=>cases a
  | cons p es =>
   rw[P0,P0] at a;injection a with c f;rw[P0,P0,tieV_iff.mpr c,ih f]
theorem rowA:Txt.split "web a 4 0-1 1-2 2-3" " " = (["web","a","4","0-1","1-2","2-3"]:List Str):=by decide +kernel
theorem rowB:Txt.split "web b 3 0-2" " " = (["web","b","3","0-2"]:List Str):=by decide +kernel
theorem WO:IsT (Txt.join " " (["4","0-1","1-2","2-3"]:List Str)) 4 [(0,1),(1,2),(2,3)]:=LI (w:="4") (ws:=["0-1","1-2","2-3"]) (by decide +kernel) (by decide +kernel) (by lia) (by lia) (by decide +kernel) (by simp) (by simp[Rise,ltP])
theorem eO:IsT (Txt.join " " (["3","0-2"]:List Str)) 3 [(0,2)]:=LI (w:="3") (ws:=["0-2"]) (by decide +kernel) (by decide +kernel) (by lia) (by lia) (by decide +kernel) (by simp) (by simp[Rise])
theorem JL:y8 "web a 4 0-1 1-2 2-3" = true:=by decide +kernel
theorem QP:y8 "web b 3 0-2" = true:=by decide +kernel
def oddL:List PyData:=[.none,.int 0,.list [.str "show a"],.bool true,.tuple [.str "show",.str "a"],.dict []]
def rowP(d:PyData):PyData:=.tuple [d,.str "row"]
def evy(i:Nat):List PyData:=(noneL.map (λt=>prS (t,"row"))++othersL.map prS)++(oddL.take i).map rowP
theorem dN(h:oddL[i]?=some d):evy i++[rowP d]=evy (i+1):=by
 unfold evy;rw[Q7,h,l8,V2];rfl
theorem qP:othersL.all (λp=>E5 p.2)=true:=by decide +kernel
theorem EM(h:p∈evy 6):∃(d:PyData)(a:Str),p=.tuple [d,.str a]/\(∀ t,d=.str t->t.length<=1000/\∀ w∈Txt.split t " ",E5 w=true)/\E5 a=true/\E7 mg esL d (λC=>z8 mg C a):=by
 unfold evy at h;rcases N2.mp h with h|h
 ·rcases N2.mp h with h|h
  ·obtain⟨t,c,rfl⟩:=T1.mp h;have:=R3.mp gI t c;rw[N4] at this;exact⟨.str t,"row",rfl,λt' e=>by cases e;exact UA this.2,by decide +kernel,dJ c⟩
  ·obtain⟨q,b,rfl⟩:=T1.mp h;have:=R3.mp cO q b;rw[N4] at this;exact⟨.str q.1,q.2,rfl,λt' e=>by cases e;exact UA this.2,R3.mp qP q b,BS b⟩
 ·obtain⟨d,hd,rfl⟩:=T1.mp h;have hn:∀ t,d ≠ .str t:=by
   simp only[oddL,List.take,V0,y7,or_false] at hd;rcases hd with rfl|rfl|rfl|rfl|rfl|rfl <;> (intro t z;cases z)
  exact⟨d,"row",rfl,λt e=>absurd e (hn t),by decide +kernel,EK hn⟩
theorem dO(i:Nat):(evy i).length<=999999:=by
 have a:noneL.length<=1000:=by decide +kernel
 have b:othersL.length<=1000:=by decide +kernel
 unfold evy;simp only[M4,N1,W7];have:oddL.length=6:=rfl;lia
theorem gJ:1<=(evy 6).length:=by decide +kernel
theorem jN(c:b.Perm (["a","b"]:List Str))(hs:PyProof.Rows.sortedS b=true):b=(["a","b"]:List Str):=by
 have d:=c.length_eq;have hn:b.Nodup:=c.nodup_iff.mpr (by decide +kernel);have hb:PyProof.Rows.sortedS (["b","a"]:List Str)=false:=by decide +kernel
 rcases b with _|⟨x,_|⟨y,_|⟨z,r⟩⟩⟩
 ·simp at d
 ·simp at d
 ·have hx:=(c.mem_iff (a:=x)).mp (by simp);have f:=(c.mem_iff (a:=y)).mp (by simp);simp only[V0,y7,or_false] at hx f;rcases hx with rfl|rfl <;> rcases f with rfl|rfl
  ·simp at hn
  ·rfl
  ·rw[hb] at hs;cases hs
  ·simp at hn
 ·simp at d
abbrev esB:List (Int × Int):=[(0,2)]
theorem inA:InN 4 esA:=by intro p a;simp[esA] at a;rcases a with rfl|rfl|rfl <;> simp
theorem inB:InN 3 esB:=by intro p a;simp[esB] at a;subst a;simp
theorem fR:o8 "farthest" 4 esA (([]:List Str).map numD) "3 0 3":=.inr (.inl ⟨rfl,4,esA,_,3,0,3,rfl,by lia,by lia,inA,by decide,qE,farA,by lia,by lia,congrArg (λs=>Sl.st (PyData.str s)) (by decide +kernel)⟩)
theorem jT:o8 "best" 4 esA (([]:List Str).map numD) "2 0-2":=.inr (.inr (.inl ⟨rfl,4,esA,_,(2,(0,2)),rfl,by lia,by lia,inA,by decide,qE,BM,by simp,by simp,by simp,by simp,by simp,by simp,congrArg (λs=>Sl.st (PyData.str s)) (by decide +kernel)⟩))
theorem LK:o8 "show" 4 esA (([]:List Str).map numD) "4 0-1 1-2 2-3":=.inr (.inr (.inr ⟨rfl,4,esA,_,rfl,by lia,by lia,by decide,by decide,congrArg (λs=>Sl.st (PyData.str s)) (by decide +kernel)⟩))
theorem tJ:o8 "show" 3 esB (([]:List Str).map numD) "3 0-2":=.inr (.inr (.inr ⟨rfl,3,esB,_,rfl,by lia,by lia,by decide,by decide,congrArg (λs=>Sl.st (PyData.str s)) (by decide +kernel)⟩))
theorem gK:o8 "far" 3 esB ((["0","1"]:List Str).map numD) "none":=.inl ⟨rfl,3,esB,0,1,by rw[DE (a:=0) (b:=1) (by decide +kernel)],by lia,inB,by decide,by lia,by lia,by lia,by lia,farB,rfl⟩
def Q8(t word nm:Str)(rest:List Str):Bool:=y8 t && decide (Txt.split t " " = word::nm::rest) && m5 (word::nm::rest)
theorem nA{t word nm:Str}{rest:List Str}{n:Int}{ts:List (Int × Int)}{r:Str}{Q:Sl->Prop}(a:Q8 t word nm rest=true)(b:valD esL (.inr nm)=some (webD n ts))(c:o8 word n ts (rest.map numD) r)(q:Q (.st (.str r))):FH [(("webs" : Str),aez esL)] [.st (.str t)] Q:=by
 unfold Q8 at a;simp only[N4,decide_eq_true_eq] at a;exact⟨esL,t,word,nm,rest,n,ts,r,rfl,by simp[esL],rfl,UA a.1.1,a.1.2,a.2,b,c,q⟩
theorem w1:Q8 "farthest a" "farthest" "a" []=true:=by decide +kernel
theorem w2:Q8 "best a" "best" "a" []=true:=by decide +kernel
theorem w3:Q8 "far b 0 1" "far" "b" ["0","1"]=true:=by decide +kernel
theorem w4:Q8 "show a" "show" "a" []=true:=by decide +kernel
theorem w5:Q8 "show b" "show" "b" []=true:=by decide +kernel
theorem sc_law_cell:FnScope ["script","k"] ["script","k"] (J0 s_law_cell):=by row_cond sc
theorem wM(T:Txt w K mg):Can P w K mg base "_law_cell" 1 ["script","k"] (spP K (bR)):=by
 obtain⟨f,fd,D⟩:=T.d_law_cell;obtain⟨g,c⟩:=T.o_Desk;have b:=c.mgx;have d:=T.n_Desk_webs _ b;refine D.can (D.fn.ok sc_law_cell (λvs H Q E h=>lenP h λss m q=>by obtain⟨ns,k,rfl,l,n,j⟩:=q;rfl) (λcdv A outer s H vs Q E r h=>?_));have nd:=sc_law_cell.nd
 refine⟨_,(C0 (X1 (o3 fB (pv 1) (m1 u6 (by rfl) T.b_len M5 (o0 (pv 0) q0)) (Q2 _))
   (L0 (T0 (P3 T3 (pv 0) (pv 1) (λ_ _=>rfl))))
   W1)
  (L0 (T0 (W0 D8 (W0 D8 (W0 QD (W0 QD O2 (pv 1)) (pv 1)) (W0 QD O2 (pv 1))) O2)))),?_⟩
 refine V1 h λss m q B t=>?_;refine exS2 ss q λns k a=>?_;have l:=a.1;have n:=a.2.1;have j:=a.2.2;clear a q;show EvS B _ _ [some (.scr ns),some (.st (.int k))];row_cond go;refine v6 (λo=>?_) (λo=>?_)
 ·have i:k.toNat<ns.length:=by lia
  have p:Y0 ns k=some ns[k.toNat]:=vA l (z1 i);row_cond go;exact j _
 ·row_cond go;exact j _
theorem sc_law:FnScope ["script","desk","other","every","thing","k","row","due","told"] ["script"] (J0 s_law):=by row_cond sc
theorem oJ(T:Txt w K mg)(D:DefAt K mg "law" s_law ["script"] f fd):FnOk P w K mg base CX0 13 f fd ["script"] (spP K (OG)):=by
 obtain⟨l,j⟩:=T.o_Desk;have g:=j.mgx;have C:=T.n_Desk_webs _ g;refine D.fn.ok sc_law (λvs H Q E h=>lenP h λss W q=>by obtain⟨ns,rfl,M,O⟩:=q;rfl) (λcdv A outer s H vs Q E o h=>?_);have nd:=sc_law.nd
 refine⟨_,(PSq.out (O1 (@N0 _ _ 1 _ _ _ _ nd rfl aa (WH (xG T g) j o) rfl (by first|exact .inl rfl|exact .inr rfl)) (O1 (@N0 _ _ 2 _ _ _ _ nd rfl aa (WH (xG T g) j o) rfl (by first|exact .inl rfl|exact .inr rfl)) (O1 (t5 (J8 (sG T g) j.cl o (pv 1) (by (refine' o0 (hs:=?C30) ?A30 ?B30;(case C30=>exact rfl);(case A30=>exact t0);(case B30=>exact q0))))) (O1 (t5 (J8 (sG T g) j.cl o (pv 1) (by (refine' o0 (hs:=?C29) ?A29 ?B29;(case C29=>exact rfl);(case A29=>exact t0);(case B29=>exact q0))))) (O1 (@N0 _ _ 3 _ _ _ _ nd rfl aa (W0 Z1 (W4 rfl (N:=["row"]) (src:=[none]) (by exact N3 rfl rfl rfl rfl rfl rfl) (@K4 _ _ _ _ (VH (oN T) o)) (λ_ _ _ _=>(K0 (i:=0) (show List.Nodup (["row"]:List Str) by decide +kernel) rfl aa (hf:=Or.inr rfl))) (λ_ _ _ _=>O3) (λ_ _ _ _=>(@L1 _ _ _ _ _ (by (refine' o0 (hs:=?C28) ?A28 ?B28;(case C28=>exact rfl);(case A28=>exact(pv 0));(case B28=>refine' o0 (hs:=?C27) ?A27 ?B27;(case C27=>exact rfl);(case A27=>exact t0);(case B27=>exact q0))))))) (VH (VR T) o)) rfl (by first|exact .inl rfl|exact .inr rfl)) (O1 (@OA _ _ _ _ _ _ _ _ D9 rfl (@K4 _ _ _ _ (@Z0 _ _ _ _ (by (refine' o0 (hs:=?C23) ?A23 ?B23;(case C23=>exact rfl);(case A23=>exact U6);(case B23=>refine' o0 (hs:=?C22) ?A22 ?B22;(case C22=>exact rfl);(case A22=>exact O2);(case B22=>refine' o0 (hs:=?C20) ?A20 ?B20;(case C20=>exact rfl);(case A20=>exact(@Z0 _ _ _ _ (by (refine' o0 (hs:=?C21) ?A21 ?B21;(case C21=>exact rfl);(case A21=>exact t0);(case B21=>exact q0)))));(case B20=>refine' o0 (hs:=?C19) ?A19 ?B19;(case C19=>exact rfl);(case A19=>exact O7);(case B19=>refine' o0 (hs:=?C16) ?A16 ?B16;(case C16=>exact rfl);(case A16=>exact(@L1 _ _ _ _ _ (by (refine' o0 (hs:=?C18) ?A18 ?B18;(case C18=>exact rfl);(case A18=>exact t0);(case B18=>refine' o0 (hs:=?C17) ?A17 ?B17;(case C17=>exact rfl);(case A17=>exact t0);(case B17=>exact q0))))));(case B16=>refine' o0 (hs:=?C15) ?A15 ?B15;(case C15=>exact rfl);(case A15=>exact TF);(case B15=>exact q0)))))))))) (K0 (i:=4) nd rfl aa)
   (PSq.out (k9 (t5 (O4 PySem.F.plainAttrs_list PySem.F.slot_list_append PySem.F.type_list_append Z8 (pv 3) (by (refine' o0 (hs:=?C24) ?A24 ?B24;(case C24=>exact rfl);(case A24=>exact(@L1 _ _ _ _ _ (by (refine' o0 (hs:=?C26) ?A26 ?B26;(case C26=>exact rfl);(case A26=>exact(pv 4));(case B26=>refine' o0 (hs:=?C25) ?A25 ?B25;(case C25=>exact rfl);(case A25=>exact t0);(case B25=>exact q0))))));(case B24=>exact q0))))))) (λ_=>rfl)) (O1 (@OA _ _ _ _ _ _ _ _ D9 rfl (YA rfl T.b_range (@o0 _ _ _ _ _ (m1 (iM rfl) (by rfl) T.b_max VA (@o0 _ _ _ _ _ O2 (@o0 _ _ _ _ _ (m1 (aG rfl) (by rfl) T.b_min HI (@o0 _ _ _ _ _ (m1 u6 (by rfl) T.b_len M5 (@o0 _ _ _ _ _ (pv 0) q0 rfl)) (@o0 _ _ _ _ _ O2 q0 rfl) rfl)) q0 rfl) rfl)) q0 rfl)) (K0 (i:=5) nd rfl aa)
   (PSq.out (O1 (t3 (P3 T3 (pv 3) (W0 QK (R0 (wM T) o (@o0 _ _ _ _ _ (pv 0) (@o0 _ _ _ _ _ (pv 5) q0 rfl) rfl)) (m1 u6 (by rfl) T.b_len M5 (@o0 _ _ _ _ _ (pv 3) q0 rfl))) (λ_ _=>rfl)) (T4 rfl (P1 (K0 (i:=6) nd rfl aa) (P1 (K0 (i:=7) nd rfl aa) t4)))) (O1 (@X1 _ _ _ _ _ _ _ _ (PW.pt (O8 (o3 (NA o.units) (R0 (zO T) o (@o0 _ _ _ _ _ (pv 1) (@o0 _ _ _ _ _ (pv 6) q0 rfl) rfl)) (pv 7) (Q2 _)) (E9 (o3 (NA o.units) (dF (hG T g) j.cl o (pv 2)) (@Z0 _ _ _ _ q0) (Q2 _)))))
   (PSq.out (k9 (T0 O7)))
   W1) (O1 (@N0 _ _ 8 _ _ _ _ nd rfl aa (dF (hG T g) j.cl o (pv 1)) rfl (by first|exact .inl rfl|exact .inr rfl)) (O1 (@X1 _ _ _ _ _ _ _ _ (PW.pt (O8 (o3 (NA o.units) (pv 8) (@Z0 _ _ _ _ (by (refine' o0 (hs:=?C14) ?A14 ?B14;(case C14=>exact rfl);(case A14=>exact t0);(case B14=>refine' o0 (hs:=?C13) ?A13 ?B13;(case C13=>exact rfl);(case A13=>exact t0);(case B13=>exact q0))))) (Q2 _)) (O8 (o3 (NA o.units) (J8 (XA T g) j.cl o (pv 1) (by (refine' o0 (hs:=?C12) ?A12 ?B12;(case C12=>exact rfl);(case A12=>exact t0);(case B12=>exact q0)))) t0 (Q2 _)) (E9 (o3 (NA o.units) (J8 (XA T g) j.cl o (pv 1) (by (refine' o0 (hs:=?C11) ?A11 ?B11;(case C11=>exact rfl);(case A11=>exact t0);(case B11=>exact q0)))) t0 (Q2 _))))))
   (PSq.out (k9 (T0 O7)))
   W1) (k9 (t5 (O4 PySem.F.plainAttrs_list PySem.F.slot_list_append PySem.F.type_list_append Z8 (pv 8) (by (refine' o0 (hs:=?C10) ?A10 ?B10;(case C10=>exact rfl);(case A10=>exact t0);(case B10=>exact q0))))))))))) (λ_=>rfl)) (k9 (T0 (m7 (X6 o.units) (@Z0 _ _ _ _ (by (refine' o0 (hs:=?C5) ?A5 ?B5;(case C5=>exact rfl);(case A5=>exact(J8 (XA T g) j.cl o (pv 1) (by (refine' o0 (hs:=?C6) ?A6 ?B6;(case C6=>exact rfl);(case A6=>exact t0);(case B6=>exact q0)))));(case B5=>refine' o0 (hs:=?C3) ?A3 ?B3;(case C3=>exact rfl);(case A3=>exact(J8 (XA T g) j.cl o (pv 1) (by (refine' o0 (hs:=?C4) ?A4 ?B4;(case C4=>exact rfl);(case A4=>exact t0);(case B4=>exact q0)))));(case B3=>refine' o0 (hs:=?C1) ?A1 ?B1;(case C1=>exact rfl);(case A1=>exact(J8 (XA T g) j.cl o (pv 1) (by (refine' o0 (hs:=?C2) ?A2 ?B2;(case C2=>exact rfl);(case A2=>exact t0);(case B2=>exact q0)))));(case B1=>exact q0)))))) (@Z0 _ _ _ _ (by (refine' o0 (hs:=?C9) ?A9 ?B9;(case C9=>exact rfl);(case A9=>exact t0);(case B9=>refine' o0 (hs:=?C8) ?A8 ?B8;(case C8=>exact rfl);(case A8=>exact t0);(case B8=>refine' o0 (hs:=?C7) ?A7 ?B7;(case C7=>exact rfl);(case A7=>exact t0);(case B7=>exact q0)))))) (Q2 _)))))))))))),?_⟩
 refine V1 h λss W q B R=>?_;refine exS1 ss q λns u=>?_;have M:=u.1;have O:=u.2;clear u q;show EvS B _ _ [some (.scr ns),none,none,none,none,none,none,none,none];row_cond go;refine UH R ?_;row_cond go;refine⟨rfl,rfl,rfl,?_⟩;row_cond go;refine UH R ?_;row_cond go;refine⟨rfl,rfl,rfl,?_⟩;row_cond go;refine oC (.inl rfl) (V6 (x:="webs") (m:="say") rfl) ?_;row_cond go;refine⟨_,_,rfl,.inl rfl,[],_,_,_,4,[(0,1),(1,2),(2,3)],rfl,rfl,UA JL,rowA,by decide +kernel,WO,by decide +kernel,by decide,?_⟩;row_cond go;refine oC (.inl rfl) (V6 (x:="webs") (m:="say") rfl) ?_;row_cond go;refine⟨_,_,rfl,.inl rfl,_,_,_,_,3,[(0,2)],rfl,rfl,UA QP,rowB,by decide +kernel,eO,by decide +kernel,by simp[putD],?_⟩;dsimp only[List.set_cons_zero,List.set_cons_succ,reS];rw[show putD (putD [] (Sum.inr (Str.ofString "a")) (webD 4 [(0,1),(1,2),(2,3)])) (Sum.inr (Str.ofString "b")) (webD 3 [(0,2)])=esL from rfl];row_cond go;refine⟨rfl,?_⟩;row_cond go;refine D5 (xs:=noneL) (f:=.str) (λt=>prS (t,"row")) rfl (by decide) (λt ht B' hB=>?_) ?_
 ·row_cond go;exact rfl
 row_cond go;refine⟨rfl,?_⟩;refine k6 (IE (by simp only[N1];decide) ?_);row_cond go;refine P5 (pH (AF ?_));row_cond go;refine⟨λi e=>∃ r,e=[some (.scr ns),some (.own (OGD l "webs" esL)),some (.own (OGD l "webs" [])),some (.own (OL (evy i))),r,none,none,none,none],⟨none,rfl⟩,?_,?_⟩
 ·rintro i d e hd n;refine exE1 e n λr=>?_;clear n;row_cond go;exact⟨dO i,_,by rw[show PyData.tuple [d,PyData.str (Str.ofString "row")]=rowP d from rfl,dN hd]⟩
 ·rintro e n;refine exE1 e n λr=>?_;clear n;row_cond go;refine GJ (λi e=>∃ r G L I J,e=[some (.scr ns),some (.own (OGD l "webs" esL)),some (.own (OGD l "webs" [])),some (.own (OL (evy 6))),r,G,L,I,J]) ⟨_,_,_,_,_,rfl⟩ ?_ ?_
  ·rintro i e hi n;refine exE5 e n λr G L I J=>?_;clear n;have X:i<64:=by
    have:∀ a b:Int,a<=63->b=(if a > 24 then a else 24)->b.toNat<=63:=λa b h1 U=>by rw[U];split <;> lia
    have:=this (if 63<(ns.length:Int) then 63 else ns.length) _ (by split <;> lia) rfl;lia
   row_cond go;refine⟨ns,_,rfl,by lia,by lia,λc=>?_⟩;have hl:=gJ;have Z:=Int.emod_nonneg c (show((evy 6).length:Int) ≠ 0 by lia);have c1:=Int.emod_lt_of_pos c (show 0<((evy 6).length:Int) by lia);row_cond go;obtain⟨p,v⟩:∃ p,(evy 6)[(c % ((evy 6).length:Int)).toNat]?=some p:=⟨_,z1 (by lia)⟩
   obtain⟨d,z,rfl,hf,y,S⟩:=EM (mg:=mg) (u3 v);refine⟨_,_,_,.inl rfl,rfl,vA Z v,?_⟩;row_cond go;refine⟨l,esL,d,z,g,rfl,by decide,rfl,hf,S,?_⟩;row_cond go;refine pA (by first|exact y|rfl) (by first|exact y|rfl) (by simp[PyData.depth]) ?_;rw[n6,D3 rfl];row_cond go;dsimp only[List.set_cons_zero,List.set_cons_succ];refine YP (.inl rfl) (V6 (x:="webs") (m:="names") rfl) ?_;row_cond go;refine⟨_,_,rfl,.inl rfl,[],[],rfl,rfl,rfl,by decide,λY v hs=>?_⟩;obtain rfl:=List.Perm.eq_nil v;refine k6 ?_;dsimp only[List.set_cons_zero,List.set_cons_succ,reS];row_cond go;refine pA (by first|rfl|decide +kernel) (by first|rfl|decide +kernel) (by simp[PyData.depth,PyData.depthAll]) ?_;rw[show(PyData.list (List.map PyData.str [])).eqv (PyData.list [])=true from by decide +kernel];row_cond go;refine oC (.inl rfl) (V6 (x:="webs") (m:="names") rfl) ?_;row_cond go;refine⟨_,_,rfl,.inl rfl,esL,["a","b"],rfl,rfl,rfl,by decide,λY v hs=>?_⟩;obtain rfl:=jN v hs;dsimp only[List.set_cons_zero,List.set_cons_succ,reS];row_cond go;refine pA (by first|rfl|decide +kernel) (by first|rfl|decide +kernel) (by simp[PyData.depth,PyData.depthAll]) ?_;rw[show(PyData.list (List.map PyData.str (["a","b"]:List Str))).eqv (PyData.list [PyData.str (Str.ofString "a"),PyData.str (Str.ofString "b")])=true from by decide +kernel];row_cond go;refine rA (.inl rfl) (V6 rfl) P9 ?_;row_cond go;refine nA w4 rfl LK ⟨_,rfl,rfl,?_⟩;row_cond go;refine pA (by first|rfl|decide +kernel) (by first|rfl|decide +kernel) (by simp[PyData.depth,PyData.depthAll]) ?_;rw[n6,D3 rfl];row_cond go;refine rA (.inl rfl) (V6 rfl) P9 ?_;row_cond go;refine nA w5 rfl tJ ⟨_,rfl,rfl,?_⟩;row_cond go;refine pA (by first|rfl|decide +kernel) (by first|rfl|decide +kernel) (by simp[PyData.depth,PyData.depthAll]) ?_;rw[n6,D3 rfl];row_cond go;exact⟨_,_,_,_,_,rfl⟩
  ·rintro e n;refine exE5 e n λr G L I J=>?_;clear n;row_cond go;refine rA (.inl rfl) (V6 rfl) P9 ?_;row_cond go;refine nA w1 rfl fR ⟨_,rfl,rfl,?_⟩;row_cond go;refine rA (.inl rfl) (V6 rfl) P9 ?_;row_cond go;refine nA w2 rfl jT ⟨_,rfl,rfl,?_⟩;row_cond go;refine rA (.inl rfl) (V6 rfl) P9 ?_;row_cond go;refine nA w3 rfl gK ⟨_,rfl,rfl,?_⟩;row_cond go;refine o7 (by first|rfl|decide +kernel) (by first|rfl|decide +kernel) (by simp[PyData.depth,PyData.depthAll]) ?_;rw[show(PyData.list [PyData.str (Str.ofString "3 0 3"),PyData.str (Str.ofString "2 0-2"),PyData.str (Str.ofString "none")]).eqv (PyData.list [PyData.str (Str.ofString "3 0 3"),PyData.str (Str.ofString "2 0-2"),PyData.str (Str.ofString "none")])=true from by decide +kernel];exact O
theorem dL(T:Txt w K mg)(D:DefAt K mg "law" s_law ["script"] f fd):FnOk P w K mg base CX0 13 f fd ["script"] (sE K):=(oJ T D).imp λ_ _ _ _ h=>bT h
theorem len0{α:Type}{us:List α}(h:us.length=0):us=[]:=CB h
theorem len1{α:Type}{us:List α}(h:us.length=1):∃ a0,us=[a0]:=by
 cases us with
 |nil=>cases h
 |cons a us=>exact⟨a,by rw[len0 (Nat.succ.inj h)]⟩
theorem len2{α:Type}{us:List α}(h:us.length=2):∃ a0 a1,us=[a0,a1]:=by
 cases us with
 |nil=>cases h
 |cons a us=>obtain⟨a1,e⟩:=len1 (Nat.succ.inj h);exact⟨a,a1,by rw[e]⟩
theorem len3{α:Type}{us:List α}(h:us.length=3):∃ a0 a1 b,us=[a0,a1,b]:=by
 cases us with
 |nil=>cases h
 |cons a us=>obtain⟨a1,b,e⟩:=len2 (Nat.succ.inj h);exact⟨a,a1,b,by rw[e]⟩
def Bnd(x:Str)(st:Stmt)(ps:List Str):Prop:=∀(kV doc pm:Value)(an:Option Addr)(cdv ct:Value)(us:List Value),us.length=ps.length->bindArgs (fnOf x x (X4 st) (u4 st) (J0 st) .none kV doc pm an cdv ct) ⟨us,[]⟩=pure (ps.zip us)
def FnIn(K:Frag)(x:Str)(st:Stmt):Prop:=∃ f oc od kV dc pm an cd ct sl,nsIn K mainGlobals x=some (some (.ref f))/\K.lookup f=some ⟨oc,od,.func (fnOf x x (X4 st) (u4 st) (J0 st) .none kV dc pm an cd ct),sl⟩/\codeIn K cd x=true/\keepIn K (.ref f)=true
theorem fn_in{K:Frag}{x:Str}{st:Stmt}{f:Addr}{od an:Option Addr}{sl:Array (Option Value)}{oc kV d pm b ct:Value}(a:nsIn K mainGlobals x=some (some (.ref f)))(l:K.lookup f=some ⟨oc,od,.func (fnOf x x (X4 st) (u4 st) (J0 st) .none kV d pm an b ct),sl⟩)(c:codeIn K b x=true)(k:keepIn K (.ref f)=true):FnIn K x st:=⟨f,oc,od,kV,d,pm,an,b,ct,sl,a,l,c,k⟩
theorem bnd0(b:ps.length=0)(h:∀(kV doc pm:Value)(an:Option Addr)(cdv ct:Value),bindArgs (fnOf x x (X4 st) (u4 st) (J0 st) .none kV doc pm an cdv ct) ⟨[],[]⟩=pure (ps.zip [])):Bnd x st ps:=by
 intro kV doc pm an cdv ct us a;rw[b] at a;cases len0 a;exact h _ _ _ _ _ _
theorem bnd1(c:ps.length=1)(h:∀(kV doc pm:Value)(an:Option Addr)(cdv ct:Value)(a:Value),bindArgs (fnOf x x (X4 st) (u4 st) (J0 st) .none kV doc pm an cdv ct) ⟨[a],[]⟩=pure (ps.zip [a])):Bnd x st ps:=by
 intro kV doc pm an cdv ct us b;rw[c] at b;obtain⟨_,rfl⟩:=len1 b;exact h _ _ _ _ _ _ _
theorem bnd2(d:ps.length=2)(h:∀(kV doc pm:Value)(an:Option Addr)(cdv ct:Value)(a b:Value),bindArgs (fnOf x x (X4 st) (u4 st) (J0 st) .none kV doc pm an cdv ct) ⟨[a,b],[]⟩=pure (ps.zip [a,b])):Bnd x st ps:=by
 intro kV doc pm an cdv ct us c;rw[d] at c;obtain⟨_,_,rfl⟩:=len2 c;exact h _ _ _ _ _ _ _ _
theorem bnd3(f:ps.length=3)(h:∀(kV doc pm:Value)(an:Option Addr)(cdv ct:Value)(b c a:Value),bindArgs (fnOf x x (X4 st) (u4 st) (J0 st) .none kV doc pm an cdv ct) ⟨[b,c,a],[]⟩=pure (ps.zip [b,c,a])):Bnd x st ps:=by
 intro kV doc pm an cdv ct us d;rw[f] at d;obtain⟨_,_,_,rfl⟩:=len3 d;exact h _ _ _ _ _ _ _ _ _
theorem D1(X:K.In h)(G:h.Ns mainGlobals mg)(q:FnIn K x st)
  (hb:Bnd x st ps):∃ f fd,DefAt K mg x st ps f fd:=by
 obtain⟨f,oc,od,kV,d,pm,an,b,ct,sl,a,l,c,k⟩:=q;exact⟨_,_,have F:=JH (st:=st) l c k;⟨F,mg_of X G a,F.binds hb⟩⟩
def MBnd(x y:Str)(st:Stmt)(ps:List Str):Prop:=∀(kV doc pm:Value)(an:Option Addr)(cdv ct:Value)(us:List Value),us.length=ps.length->bindArgs (fnOf x y (X4 st) (u4 st) (J0 st) .none kV doc pm an cdv ct) ⟨us,[]⟩=pure (ps.zip us)
def MeIn(K:Frag)(C:Addr)(x y:Str)(st:Stmt):Prop:=∃ f oc od kV dc pm an cd ct sl,PySem.W.findIn K (.ref C) x=some (some (.ref f))/\PySem.W.isFn K (.ref f)=true/\K.lookup f=some ⟨oc,od,.func (fnOf x y (X4 st) (u4 st) (J0 st) .none kV dc pm an cd ct),sl⟩/\codeIn K cd y=true/\keepIn K (.ref f)=true
theorem me_in{K:Frag}{C:Addr}{x y:Str}{st:Stmt}{f:Addr}{od an:Option Addr}{sl:Array (Option Value)}{oc kV d pm b ct:Value}(a:PySem.W.findIn K (.ref C) x=some (some (.ref f)))(i:PySem.W.isFn K (.ref f)=true)(l:K.lookup f=some ⟨oc,od,.func (fnOf x y (X4 st) (u4 st) (J0 st) .none kV d pm an b ct),sl⟩)(c:codeIn K b y=true)(k:keepIn K (.ref f)=true):MeIn K C x y st:=⟨f,oc,od,kV,d,pm,an,b,ct,sl,a,i,l,c,k⟩
theorem mbn1(c:ps.length=1)(h:∀(kV doc pm:Value)(an:Option Addr)(cdv ct:Value)(a:Value),bindArgs (fnOf x y (X4 st) (u4 st) (J0 st) .none kV doc pm an cdv ct) ⟨[a],[]⟩=pure (ps.zip [a])):MBnd x y st ps:=by
 intro kV doc pm an cdv ct us b;rw[c] at b;obtain⟨_,rfl⟩:=len1 b;exact h _ _ _ _ _ _ _
theorem mbn2(d:ps.length=2)(h:∀(kV doc pm:Value)(an:Option Addr)(cdv ct:Value)(a b:Value),bindArgs (fnOf x y (X4 st) (u4 st) (J0 st) .none kV doc pm an cdv ct) ⟨[a,b],[]⟩=pure (ps.zip [a,b])):MBnd x y st ps:=by
 intro kV doc pm an cdv ct us c;rw[d] at c;obtain⟨_,_,rfl⟩:=len2 c;exact h _ _ _ _ _ _ _ _
theorem bE(q:MeIn K C x y st)(hb:MBnd x y st ps):∃ f fd,MeAt K C x y st ps f fd:=by
 obtain⟨f,oc,od,kV,d,pm,an,b,ct,sl,a,i,l,c,k⟩:=q;exact⟨_,_,have F:=JH (st:=st) l c k;⟨F,⟨a,i,k⟩,F.binds hb⟩⟩
theorem O0(X:K.In h)(G:h.Ns mainGlobals mg)(a:nsIn K mainGlobals r=some (some (.ref C)))(d:nsIn K mainGlobals c=some (some (.ref D)))(y:kitOne K (.ref C) (.ref D)=some b):YF K mg r c b:=λC D g f=>by
 rw[mg_of X G a] at g;rw[mg_of X G d] at f;cases g;cases f;exact y
theorem txt_mk{w:World}{K:Frag}{h:Heap}{mg:Str->Option Value}(X:K.In h)(G:h.Ns mainGlobals mg)
  {R:Tok} {J:Tok} {b0:Tok} {a8:Tok} {M:Tok} {O:Addr} {N:Addr} {f_tell_far:Addr} {f_tell_farthest:Addr} {f_tell_middles:Addr} {f_tell_best:Addr} {f_tell_hubs:Addr} {f_tell_writing:Addr} {f:Addr} {d:Addr} {m:Addr} {s:Addr} {t:Addr} {b:Addr} {n:Addr} {o:Addr} {r:Addr} {v:Addr} 
  (h0:FnIn K "is_whole" s_is_whole)
  (h1:FnIn K "is_between" s_is_between)
  (h2:FnIn K "need_number" s_need_number)
  (h3:FnIn K "is_place" s_is_place)
  (h4:FnIn K "is_tie" s_is_tie)
  (h5:FnIn K "are_ties" s_are_ties)
  (h6:FnIn K "is_rising" s_is_rising)
  (h7:FnIn K "is_web" s_is_web)
  (h8:FnIn K "tied_places" s_tied_places)
  (h9:FnIn K "far_from" s_far_from)
  (g7:FnIn K "need_place" s_need_place)
  (g0:FnIn K "all_far" s_all_far)
  (i1:FnIn K "how_far" s_how_far)
  (i2:FnIn K "is_joined" s_is_joined)
  (f6:FnIn K "need_joined" s_need_joined)
  (j1:FnIn K "far_rows" s_far_rows)
  (e9:FnIn K "most_far" s_most_far)
  (g5:FnIn K "farthest_two" s_farthest_two)
  (i5:FnIn K "middles" s_middles)
  (f7:FnIn K "with_ties" s_with_ties)
  (f1:FnIn K "free_ties" s_free_ties)
  (j0:FnIn K "rows_with" s_rows_with)
  (g2:FnIn K "row_with" s_row_with)
  (i4:FnIn K "best_tie" s_best_tie)
  (f5:FnIn K "hubs_for" s_hubs_for)
  (g1:FnIn K "show_tie" s_show_tie)
  (f9:FnIn K "show_web" s_show_web)
  (f8:FnIn K "number_of" s_number_of)
  (i9:FnIn K "tie_of" s_tie_of)
  (i6:FnIn K "read_web" s_read_web)
  (f2:FnIn K "is_name" s_is_name)
  (f3:FnIn K "is_row" s_is_row)
  (i3:FnIn K "row_words" s_row_words)
  (g6:FnIn K "show_places" s_show_places)
  (g4:FnIn K "tell_far" s_tell_far)
  (g3:FnIn K "tell_farthest" s_tell_farthest)
  (f0:FnIn K "tell_middles" s_tell_middles)
  (g8:FnIn K "tell_best" s_tell_best)
  (e8:FnIn K "tell_hubs" s_tell_hubs)
  (i7:FnIn K "tell_writing" s_tell_writing)
  (i8:FnIn K "_law_cell" s_law_cell)
  (j2:FnIn K "_law_word" s_law_word)
  (i0:FnIn K "_law_none" s_law_none)
  (g9:FnIn K "_law_others" s_law_others)
  (f4:FnIn K "law" s_law)
  (a0:nsIn K mainGlobals "ValueError" = some none)
  (e0:nsIn K mainGlobals "all" = some none)
  (e5:nsIn K mainGlobals "max" = some none)
  (d9:nsIn K mainGlobals "min" = some none)
  (c8:nsIn K mainGlobals "sorted" = some none)
  (e7:nsIn K mainGlobals "int" = some none)
  (d6:nsIn K mainGlobals "tuple" = some none)
  (d4:nsIn K mainGlobals "range" = some none)
  (Z:nsIn K mainGlobals "isinstance" = some none)
  (d7:nsIn K mainGlobals "list" = some none)
  (e6:nsIn K mainGlobals "len" = some none)
  (e4:nsIn K mainGlobals "str" = some none)
  (d8:nsIn K mainGlobals "bool" = some none)
  (e3:nsIn K mainGlobals "zip" = some none)
  (a4:nsIn K mainGlobals "enumerate" = some none)
  (T:nsIn K mainGlobals "MOST_PLACES" = some (some (.int 60 R)))
  (L:nsIn K mainGlobals "MOST_HUB_TIES" = some (some (.int 20 J)))
  (b5:nsIn K mainGlobals "FIGURES" = some (some (.str "0123456789" b0)))
  (b7:nsIn K mainGlobals "LETTERS" = some (some (.str "abcdefghijklmnopqrstuvwxyz" a8)))
  (S:nsIn K mainGlobals "MOST_LETTERS" = some (some (.int 8 M)))
  (a9:nsIn K mainGlobals "NUMBERS" = some (some (.ref O))) (a6:∀ P,GD P w K O [(.inr "tie",.int 2),(.inr "drop",.int 0),(.inr "far",.int 2),(.inr "farthest",.int 0),(.inr "middles",.int 0),(.inr "best",.int 0),(.inr "hubs",.int 1),(.inr "show",.int 0)])
  (b2:nsIn K mainGlobals "TELLERS" = some (some (.ref N))) (H:nsIn K mainGlobals "tell_far" = some (some (.ref f_tell_far))) (y:nsIn K mainGlobals "tell_farthest" = some (some (.ref f_tell_farthest))) (z:nsIn K mainGlobals "tell_middles" = some (some (.ref f_tell_middles))) (B:nsIn K mainGlobals "tell_best" = some (some (.ref f_tell_best))) (E:nsIn K mainGlobals "tell_hubs" = some (some (.ref f_tell_hubs))) (A:nsIn K mainGlobals "tell_writing" = some (some (.ref f_tell_writing))) (b1:∀ P,GD P w K N [(.inr "far",.ref f_tell_far),(.inr "farthest",.ref f_tell_farthest),(.inr "middles",.ref f_tell_middles),(.inr "best",.ref f_tell_best),(.inr "hubs",.ref f_tell_hubs),(.inr "show",.ref f_tell_writing)])
  (l:nsIn K mainGlobals "TieError" = some (some (.ref f))) (a3:excIn K f bmV "ValueError.__new__" = true) (a2:XIn K f)
  (c:nsIn K mainGlobals "NoPlace" = some (some (.ref d))) (b3:excIn K d bmV "ValueError.__new__" = true) (a7:XIn K d)
  (i:nsIn K mainGlobals "NoJoin" = some (some (.ref m))) (c2:excIn K m bmV "ValueError.__new__" = true) (c3:XIn K m)
  (p:nsIn K mainGlobals "NoTie" = some (some (.ref s))) (c7:excIn K s bmV "ValueError.__new__" = true) (c6:XIn K s)
  (u:nsIn K mainGlobals "NoTree" = some (some (.ref t))) (c1:excIn K t bmV "ValueError.__new__" = true) (b4:XIn K t)
  (a:nsIn K mainGlobals "NoNumber" = some (some (.ref b))) (a1:excIn K b bmV "ValueError.__new__" = true) (a5:XIn K b)
  (j:nsIn K mainGlobals "NoText" = some (some (.ref n))) (b9:excIn K n bmV "ValueError.__new__" = true) (b6:XIn K n)
  (g:nsIn K mainGlobals "NoName" = some (some (.ref o))) (c0:excIn K o bmV "ValueError.__new__" = true) (b8:XIn K o)
  (q:nsIn K mainGlobals "NoRow" = some (some (.ref r))) (c4:excIn K r bmV "ValueError.__new__" = true) (c5:XIn K r)
  (y_NoPlace_TieError:kitOne K (.ref d) (.ref f)=some true)
  (y_NoPlace_NoPlace:kitOne K (.ref d) (.ref d)=some true)
  (y_NoPlace_NoJoin:kitOne K (.ref d) (.ref m)=some false)
  (y_NoPlace_NoTie:kitOne K (.ref d) (.ref s)=some false)
  (y_NoPlace_NoTree:kitOne K (.ref d) (.ref t)=some false)
  (y_NoPlace_NoNumber:kitOne K (.ref d) (.ref b)=some false)
  (y_NoPlace_NoText:kitOne K (.ref d) (.ref n)=some false)
  (y_NoPlace_NoName:kitOne K (.ref d) (.ref o)=some false)
  (y_NoPlace_NoRow:kitOne K (.ref d) (.ref r)=some false)
  (y_NoPlace_ValueError:kitOne K (.ref d) (.type "ValueError")=some true)
  (s_NoPlace_TieError:mroIn K d (.ref f)=some true)
  (y_NoJoin_TieError:kitOne K (.ref m) (.ref f)=some true)
  (y_NoJoin_NoPlace:kitOne K (.ref m) (.ref d)=some false)
  (y_NoJoin_NoJoin:kitOne K (.ref m) (.ref m)=some true)
  (y_NoJoin_NoTie:kitOne K (.ref m) (.ref s)=some false)
  (y_NoJoin_NoTree:kitOne K (.ref m) (.ref t)=some false)
  (y_NoJoin_NoNumber:kitOne K (.ref m) (.ref b)=some false)
  (y_NoJoin_NoText:kitOne K (.ref m) (.ref n)=some false)
  (y_NoJoin_NoName:kitOne K (.ref m) (.ref o)=some false)
  (y_NoJoin_NoRow:kitOne K (.ref m) (.ref r)=some false)
  (y_NoJoin_ValueError:kitOne K (.ref m) (.type "ValueError")=some true)
  (s_NoJoin_TieError:mroIn K m (.ref f)=some true)
  (y_NoTie_TieError:kitOne K (.ref s) (.ref f)=some true)
  (y_NoTie_NoPlace:kitOne K (.ref s) (.ref d)=some false)
  (y_NoTie_NoJoin:kitOne K (.ref s) (.ref m)=some false)
  (y_NoTie_NoTie:kitOne K (.ref s) (.ref s)=some true)
  (y_NoTie_NoTree:kitOne K (.ref s) (.ref t)=some false)
  (y_NoTie_NoNumber:kitOne K (.ref s) (.ref b)=some false)
  (y_NoTie_NoText:kitOne K (.ref s) (.ref n)=some false)
  (y_NoTie_NoName:kitOne K (.ref s) (.ref o)=some false)
  (y_NoTie_NoRow:kitOne K (.ref s) (.ref r)=some false)
  (y_NoTie_ValueError:kitOne K (.ref s) (.type "ValueError")=some true)
  (s_NoTie_TieError:mroIn K s (.ref f)=some true)
  (y_NoNumber_TieError:kitOne K (.ref b) (.ref f)=some true)
  (y_NoNumber_NoPlace:kitOne K (.ref b) (.ref d)=some false)
  (y_NoNumber_NoJoin:kitOne K (.ref b) (.ref m)=some false)
  (y_NoNumber_NoTie:kitOne K (.ref b) (.ref s)=some false)
  (y_NoNumber_NoTree:kitOne K (.ref b) (.ref t)=some false)
  (y_NoNumber_NoNumber:kitOne K (.ref b) (.ref b)=some true)
  (y_NoNumber_NoText:kitOne K (.ref b) (.ref n)=some false)
  (y_NoNumber_NoName:kitOne K (.ref b) (.ref o)=some false)
  (y_NoNumber_NoRow:kitOne K (.ref b) (.ref r)=some false)
  (y_NoNumber_ValueError:kitOne K (.ref b) (.type "ValueError")=some true)
  (s_NoNumber_TieError:mroIn K b (.ref f)=some true)
  (y_NoText_TieError:kitOne K (.ref n) (.ref f)=some true)
  (y_NoText_NoPlace:kitOne K (.ref n) (.ref d)=some false)
  (y_NoText_NoJoin:kitOne K (.ref n) (.ref m)=some false)
  (y_NoText_NoTie:kitOne K (.ref n) (.ref s)=some false)
  (y_NoText_NoTree:kitOne K (.ref n) (.ref t)=some false)
  (y_NoText_NoNumber:kitOne K (.ref n) (.ref b)=some false)
  (y_NoText_NoText:kitOne K (.ref n) (.ref n)=some true)
  (y_NoText_NoName:kitOne K (.ref n) (.ref o)=some false)
  (y_NoText_NoRow:kitOne K (.ref n) (.ref r)=some false)
  (y_NoText_ValueError:kitOne K (.ref n) (.type "ValueError")=some true)
  (s_NoText_TieError:mroIn K n (.ref f)=some true)
  (y_NoName_TieError:kitOne K (.ref o) (.ref f)=some true)
  (y_NoName_NoPlace:kitOne K (.ref o) (.ref d)=some false)
  (y_NoName_NoJoin:kitOne K (.ref o) (.ref m)=some false)
  (y_NoName_NoTie:kitOne K (.ref o) (.ref s)=some false)
  (y_NoName_NoTree:kitOne K (.ref o) (.ref t)=some false)
  (y_NoName_NoNumber:kitOne K (.ref o) (.ref b)=some false)
  (y_NoName_NoText:kitOne K (.ref o) (.ref n)=some false)
  (y_NoName_NoName:kitOne K (.ref o) (.ref o)=some true)
  (y_NoName_NoRow:kitOne K (.ref o) (.ref r)=some false)
  (y_NoName_ValueError:kitOne K (.ref o) (.type "ValueError")=some true)
  (s_NoName_TieError:mroIn K o (.ref f)=some true)
  (y_NoRow_TieError:kitOne K (.ref r) (.ref f)=some true)
  (y_NoRow_NoPlace:kitOne K (.ref r) (.ref d)=some false)
  (y_NoRow_NoJoin:kitOne K (.ref r) (.ref m)=some false)
  (y_NoRow_NoTie:kitOne K (.ref r) (.ref s)=some false)
  (y_NoRow_NoTree:kitOne K (.ref r) (.ref t)=some false)
  (y_NoRow_NoNumber:kitOne K (.ref r) (.ref b)=some false)
  (y_NoRow_NoText:kitOne K (.ref r) (.ref n)=some false)
  (y_NoRow_NoName:kitOne K (.ref r) (.ref o)=some false)
  (y_NoRow_NoRow:kitOne K (.ref r) (.ref r)=some true)
  (y_NoRow_ValueError:kitOne K (.ref r) (.type "ValueError")=some true)
  (s_NoRow_TieError:mroIn K r (.ref f)=some true)
  (F:nsIn K mainGlobals "Desk" = some (some (.ref v))) (d0:PySem.W.plainGet K v Str.empty=true) (d1:PySem.W.hasDictIn K v=true) (d3:PySem.W.plainOver K v=true) (c9:PySem.W.findIn K (.ref v) "__setattr__" = some (some (.builtin "object.__setattr__"))) (d5:PySem.W.makesIn K v=true) (d2:keepIn K (.ref v)=true)
  (U:PySem.W.findIn K (.ref v) "webs" = some none)
  (I:MeIn K v "__init__" "Desk.__init__" s_Desk____init__)
  (Y:MeIn K v "say" "Desk.say" s_Desk__say)
  (Q:MeIn K v "names" "Desk.names" s_Desk__names)
  : Txt w K mg where
  v_NUMBERS:=⟨_,mg_of X G a9,a6⟩
  v_TELLERS:=⟨_,_,_,_,_,_,_,mg_of X G b2,b1,mg_of X G H,mg_of X G y,mg_of X G z,mg_of X G B,mg_of X G E,mg_of X G A⟩
  x_TieError:=⟨_,mg_of X G l,a3,a2⟩
  x_NoPlace:=⟨_,mg_of X G c,b3,a7⟩
  x_NoJoin:=⟨_,mg_of X G i,c2,c3⟩
  x_NoTie:=⟨_,mg_of X G p,c7,c6⟩
  x_NoTree:=⟨_,mg_of X G u,c1,b4⟩
  x_NoNumber:=⟨_,mg_of X G a,a1,a5⟩
  x_NoText:=⟨_,mg_of X G j,b9,b6⟩
  x_NoName:=⟨_,mg_of X G g,c0,b8⟩
  x_NoRow:=⟨_,mg_of X G q,c4,c5⟩
  y_NoPlace_TieError:=O0 X G c l y_NoPlace_TieError
  y_NoPlace_NoPlace:=O0 X G c c y_NoPlace_NoPlace
  y_NoPlace_NoJoin:=O0 X G c i y_NoPlace_NoJoin
  y_NoPlace_NoTie:=O0 X G c p y_NoPlace_NoTie
  y_NoPlace_NoTree:=O0 X G c u y_NoPlace_NoTree
  y_NoPlace_NoNumber:=O0 X G c a y_NoPlace_NoNumber
  y_NoPlace_NoText:=O0 X G c j y_NoPlace_NoText
  y_NoPlace_NoName:=O0 X G c g y_NoPlace_NoName
  y_NoPlace_NoRow:=O0 X G c q y_NoPlace_NoRow
  y_NoPlace_ValueError:=λC x=>by rw[mg_of X G c] at x;cases x;exact y_NoPlace_ValueError
  s_NoPlace_TieError:=λC D x e2=>by rw[mg_of X G c] at x;rw[mg_of X G l] at e2;cases x;cases e2;exact s_NoPlace_TieError
  y_NoJoin_TieError:=O0 X G i l y_NoJoin_TieError
  y_NoJoin_NoPlace:=O0 X G i c y_NoJoin_NoPlace
  y_NoJoin_NoJoin:=O0 X G i i y_NoJoin_NoJoin
  y_NoJoin_NoTie:=O0 X G i p y_NoJoin_NoTie
  y_NoJoin_NoTree:=O0 X G i u y_NoJoin_NoTree
  y_NoJoin_NoNumber:=O0 X G i a y_NoJoin_NoNumber
  y_NoJoin_NoText:=O0 X G i j y_NoJoin_NoText
  y_NoJoin_NoName:=O0 X G i g y_NoJoin_NoName
  y_NoJoin_NoRow:=O0 X G i q y_NoJoin_NoRow
  y_NoJoin_ValueError:=λC x=>by rw[mg_of X G i] at x;cases x;exact y_NoJoin_ValueError
  s_NoJoin_TieError:=λC D x e2=>by rw[mg_of X G i] at x;rw[mg_of X G l] at e2;cases x;cases e2;exact s_NoJoin_TieError
  y_NoTie_TieError:=O0 X G p l y_NoTie_TieError
  y_NoTie_NoPlace:=O0 X G p c y_NoTie_NoPlace
  y_NoTie_NoJoin:=O0 X G p i y_NoTie_NoJoin
  y_NoTie_NoTie:=O0 X G p p y_NoTie_NoTie
  y_NoTie_NoTree:=O0 X G p u y_NoTie_NoTree
  y_NoTie_NoNumber:=O0 X G p a y_NoTie_NoNumber
  y_NoTie_NoText:=O0 X G p j y_NoTie_NoText
  y_NoTie_NoName:=O0 X G p g y_NoTie_NoName
  y_NoTie_NoRow:=O0 X G p q y_NoTie_NoRow
  y_NoTie_ValueError:=λC x=>by rw[mg_of X G p] at x;cases x;exact y_NoTie_ValueError
  s_NoTie_TieError:=λC D x e2=>by rw[mg_of X G p] at x;rw[mg_of X G l] at e2;cases x;cases e2;exact s_NoTie_TieError
  y_NoNumber_TieError:=O0 X G a l y_NoNumber_TieError
  y_NoNumber_NoPlace:=O0 X G a c y_NoNumber_NoPlace
  y_NoNumber_NoJoin:=O0 X G a i y_NoNumber_NoJoin
  y_NoNumber_NoTie:=O0 X G a p y_NoNumber_NoTie
  y_NoNumber_NoTree:=O0 X G a u y_NoNumber_NoTree
  y_NoNumber_NoNumber:=O0 X G a a y_NoNumber_NoNumber
  y_NoNumber_NoText:=O0 X G a j y_NoNumber_NoText
  y_NoNumber_NoName:=O0 X G a g y_NoNumber_NoName
  y_NoNumber_NoRow:=O0 X G a q y_NoNumber_NoRow
  y_NoNumber_ValueError:=λC x=>by rw[mg_of X G a] at x;cases x;exact y_NoNumber_ValueError
  s_NoNumber_TieError:=λC D x e2=>by rw[mg_of X G a] at x;rw[mg_of X G l] at e2;cases x;cases e2;exact s_NoNumber_TieError
  y_NoText_TieError:=O0 X G j l y_NoText_TieError
  y_NoText_NoPlace:=O0 X G j c y_NoText_NoPlace
  y_NoText_NoJoin:=O0 X G j i y_NoText_NoJoin
  y_NoText_NoTie:=O0 X G j p y_NoText_NoTie
  y_NoText_NoTree:=O0 X G j u y_NoText_NoTree
  y_NoText_NoNumber:=O0 X G j a y_NoText_NoNumber
  y_NoText_NoText:=O0 X G j j y_NoText_NoText
  y_NoText_NoName:=O0 X G j g y_NoText_NoName
  y_NoText_NoRow:=O0 X G j q y_NoText_NoRow
  y_NoText_ValueError:=λC x=>by rw[mg_of X G j] at x;cases x;exact y_NoText_ValueError
  s_NoText_TieError:=λC D x e2=>by rw[mg_of X G j] at x;rw[mg_of X G l] at e2;cases x;cases e2;exact s_NoText_TieError
  y_NoName_TieError:=O0 X G g l y_NoName_TieError
  y_NoName_NoPlace:=O0 X G g c y_NoName_NoPlace
  y_NoName_NoJoin:=O0 X G g i y_NoName_NoJoin
  y_NoName_NoTie:=O0 X G g p y_NoName_NoTie
  y_NoName_NoTree:=O0 X G g u y_NoName_NoTree
  y_NoName_NoNumber:=O0 X G g a y_NoName_NoNumber
  y_NoName_NoText:=O0 X G g j y_NoName_NoText
  y_NoName_NoName:=O0 X G g g y_NoName_NoName
  y_NoName_NoRow:=O0 X G g q y_NoName_NoRow
  y_NoName_ValueError:=λC x=>by rw[mg_of X G g] at x;cases x;exact y_NoName_ValueError
  s_NoName_TieError:=λC D x e2=>by rw[mg_of X G g] at x;rw[mg_of X G l] at e2;cases x;cases e2;exact s_NoName_TieError
  y_NoRow_TieError:=O0 X G q l y_NoRow_TieError
  y_NoRow_NoPlace:=O0 X G q c y_NoRow_NoPlace
  y_NoRow_NoJoin:=O0 X G q i y_NoRow_NoJoin
  y_NoRow_NoTie:=O0 X G q p y_NoRow_NoTie
  y_NoRow_NoTree:=O0 X G q u y_NoRow_NoTree
  y_NoRow_NoNumber:=O0 X G q a y_NoRow_NoNumber
  y_NoRow_NoText:=O0 X G q j y_NoRow_NoText
  y_NoRow_NoName:=O0 X G q g y_NoRow_NoName
  y_NoRow_NoRow:=O0 X G q q y_NoRow_NoRow
  y_NoRow_ValueError:=λC x=>by rw[mg_of X G q] at x;cases x;exact y_NoRow_ValueError
  s_NoRow_TieError:=λC D x e2=>by rw[mg_of X G q] at x;rw[mg_of X G l] at e2;cases x;cases e2;exact s_NoRow_TieError
  o_Desk:=⟨_,mg_of X G F,⟨d0,d1,d3,c9⟩,d5,d2⟩
  n_Desk_webs:=λC x=>by rw[mg_of X G F] at x;cases x;exact U
  m_Desk____init__:=λC x=>by rw[mg_of X G F] at x;cases x;exact bE I (mbn1 rfl λ_ _ _ _ _ _ _=>rfl)
  m_Desk__say:=λC x=>by rw[mg_of X G F] at x;cases x;exact bE Y (mbn2 rfl λ_ _ _ _ _ _ _ _=>rfl)
  m_Desk__names:=λC x=>by rw[mg_of X G F] at x;cases x;exact bE Q (mbn1 rfl λ_ _ _ _ _ _ _=>rfl)
  b_ValueError:=mg_none_of X G a0
  b_all:=mg_none_of X G e0
  b_max:=mg_none_of X G e5
  b_min:=mg_none_of X G d9
  b_sorted:=mg_none_of X G c8
  b_int:=mg_none_of X G e7
  b_tuple:=mg_none_of X G d6
  b_range:=mg_none_of X G d4
  b_isinstance:=mg_none_of X G Z
  b_list:=mg_none_of X G d7
  b_len:=mg_none_of X G e6
  b_str:=mg_none_of X G e4
  b_bool:=mg_none_of X G d8
  b_zip:=mg_none_of X G e3
  b_enumerate:=mg_none_of X G a4
  v_MOST_PLACES:=⟨_,mg_of X G T⟩
  v_MOST_HUB_TIES:=⟨_,mg_of X G L⟩
  v_FIGURES:=⟨_,mg_of X G b5⟩
  v_LETTERS:=⟨_,mg_of X G b7⟩
  v_MOST_LETTERS:=⟨_,mg_of X G S⟩
  d_is_whole:=D1 X G h0 (bnd1 rfl λ_ _ _ _ _ _ _=>rfl)
  d_is_between:=D1 X G h1 (bnd3 rfl λ_ _ _ _ _ _ _ _ _=>rfl)
  d_need_number:=D1 X G h2 (bnd3 rfl λ_ _ _ _ _ _ _ _ _=>rfl)
  d_is_place:=D1 X G h3 (bnd2 rfl λ_ _ _ _ _ _ _ _=>rfl)
  d_is_tie:=D1 X G h4 (bnd2 rfl λ_ _ _ _ _ _ _ _=>rfl)
  d_are_ties:=D1 X G h5 (bnd2 rfl λ_ _ _ _ _ _ _ _=>rfl)
  d_is_rising:=D1 X G h6 (bnd1 rfl λ_ _ _ _ _ _ _=>rfl)
  d_is_web:=D1 X G h7 (bnd1 rfl λ_ _ _ _ _ _ _=>rfl)
  d_tied_places:=D1 X G h8 (bnd1 rfl λ_ _ _ _ _ _ _=>rfl)
  d_far_from:=D1 X G h9 (bnd2 rfl λ_ _ _ _ _ _ _ _=>rfl)
  d_need_place:=D1 X G g7 (bnd2 rfl λ_ _ _ _ _ _ _ _=>rfl)
  d_all_far:=D1 X G g0 (bnd2 rfl λ_ _ _ _ _ _ _ _=>rfl)
  d_how_far:=D1 X G i1 (bnd3 rfl λ_ _ _ _ _ _ _ _ _=>rfl)
  d_is_joined:=D1 X G i2 (bnd1 rfl λ_ _ _ _ _ _ _=>rfl)
  d_need_joined:=D1 X G f6 (bnd1 rfl λ_ _ _ _ _ _ _=>rfl)
  d_far_rows:=D1 X G j1 (bnd1 rfl λ_ _ _ _ _ _ _=>rfl)
  d_most_far:=D1 X G e9 (bnd1 rfl λ_ _ _ _ _ _ _=>rfl)
  d_farthest_two:=D1 X G g5 (bnd1 rfl λ_ _ _ _ _ _ _=>rfl)
  d_middles:=D1 X G i5 (bnd1 rfl λ_ _ _ _ _ _ _=>rfl)
  d_with_ties:=D1 X G f7 (bnd2 rfl λ_ _ _ _ _ _ _ _=>rfl)
  d_free_ties:=D1 X G f1 (bnd1 rfl λ_ _ _ _ _ _ _=>rfl)
  d_rows_with:=D1 X G j0 (bnd2 rfl λ_ _ _ _ _ _ _ _=>rfl)
  d_row_with:=D1 X G g2 (bnd3 rfl λ_ _ _ _ _ _ _ _ _=>rfl)
  d_best_tie:=D1 X G i4 (bnd1 rfl λ_ _ _ _ _ _ _=>rfl)
  d_hubs_for:=D1 X G f5 (bnd2 rfl λ_ _ _ _ _ _ _ _=>rfl)
  d_show_tie:=D1 X G g1 (bnd1 rfl λ_ _ _ _ _ _ _=>rfl)
  d_show_web:=D1 X G f9 (bnd1 rfl λ_ _ _ _ _ _ _=>rfl)
  d_number_of:=D1 X G f8 (bnd1 rfl λ_ _ _ _ _ _ _=>rfl)
  d_tie_of:=D1 X G i9 (bnd1 rfl λ_ _ _ _ _ _ _=>rfl)
  d_read_web:=D1 X G i6 (bnd1 rfl λ_ _ _ _ _ _ _=>rfl)
  d_is_name:=D1 X G f2 (bnd1 rfl λ_ _ _ _ _ _ _=>rfl)
  d_is_row:=D1 X G f3 (bnd1 rfl λ_ _ _ _ _ _ _=>rfl)
  d_row_words:=D1 X G i3 (bnd1 rfl λ_ _ _ _ _ _ _=>rfl)
  d_show_places:=D1 X G g6 (bnd2 rfl λ_ _ _ _ _ _ _ _=>rfl)
  d_tell_far:=D1 X G g4 (bnd2 rfl λ_ _ _ _ _ _ _ _=>rfl)
  d_tell_farthest:=D1 X G g3 (bnd2 rfl λ_ _ _ _ _ _ _ _=>rfl)
  d_tell_middles:=D1 X G f0 (bnd2 rfl λ_ _ _ _ _ _ _ _=>rfl)
  d_tell_best:=D1 X G g8 (bnd2 rfl λ_ _ _ _ _ _ _ _=>rfl)
  d_tell_hubs:=D1 X G e8 (bnd2 rfl λ_ _ _ _ _ _ _ _=>rfl)
  d_tell_writing:=D1 X G i7 (bnd2 rfl λ_ _ _ _ _ _ _ _=>rfl)
  d_law_cell:=D1 X G i8 (bnd2 rfl λ_ _ _ _ _ _ _ _=>rfl)
  d_law_word:=D1 X G j2 (bnd2 rfl λ_ _ _ _ _ _ _ _=>rfl)
  d_law_none:=D1 X G i0 (bnd0 rfl λ_ _ _ _ _ _=>rfl)
  d_law_others:=D1 X G g9 (bnd0 rfl λ_ _ _ _ _ _=>rfl)
  d_law:=D1 X G f4 (bnd1 rfl λ_ _ _ _ _ _ _=>rfl)
theorem walk{l:PySem.W.OpenLaw}{q:Program}{b:List Str}{XP:(Str->Option Value)->Heap->Prop}{g:World->Heap->Prop}{d:DefRec}{K:Params->Frag}(hn:l.most=some 63)(i:d.params.defaults=[])(m:d.name = "law")
  (r:∀(w:World)(h:Heap),g w h->(K w.params).In h)
  (o:∀(w:World)(lo:List Str)(mg mb:Str->Option Value)(c:ExcName->Option Value)(h:Heap),PyProof.Rows.Top q lo c mg mb h->g w h->ZA (K w.params) h)
  (F:∀(w:World)(mg:Str->Option Value)(h:Heap),(K w.params).In h->h.Ns mainGlobals mg->Txt w (K w.params) mg) :
  PySem.W.WalkO q b XP g l.row.toRowW d [] (λf vs=>PySem.call f vs):=by
 refine L2.walk_of (n:=63) (k:=13) (x:="script") (CX:=λ_=>CX0) (sp:=λw=>sE (K w.params)) hn (by decide) i ⟨rfl,by decide,by decide,rfl⟩ r o (λw mg fa h X G e=>?_) (λ_ _ a ns v _ p=>⟨a,ns,rfl,p,v,λ_=>rfl⟩) λ_ _ _ _ _ z=>z;have T:=F w mg h X G;rw[m] at e;obtain⟨f1,j,D⟩:=T.d_law;have y:=e.symm.trans D.mgx;cases y;refine⟨j,λs u=>?_,λbase _ _=>?_⟩
 ·obtain⟨oc,od,kV,doc,pm,an,cdv,ct,osl,rfl,A,t⟩:=D.fn.ex;exact .of_eq rfl
 ·exact dL T D
end G
end
namespace PySem.W.Fast
theorem tw2384548945776200601:True:=⟨⟩
theorem tw9103088872092704136:True:=⟨⟩
theorem tw3281012647620135188:True:=⟨⟩
theorem tw10114109291555435314:True:=⟨⟩
theorem tw10791545361854711119:True:=⟨⟩
theorem tw4283115011980017032:True:=⟨⟩
theorem tw11320964610144587567:True:=⟨⟩
theorem tw368081786845599732:True:=⟨⟩
theorem tw3892448479547352790:True:=⟨⟩
theorem tw16005056370776675827:True:=⟨⟩
theorem tw16143320672175717265:True:=⟨⟩
theorem tw1047409871240662279:True:=⟨⟩
theorem tw14727019733676655812:True:=⟨⟩
theorem tw314628183450014971:True:=⟨⟩
theorem tw15513273560410730937:True:=⟨⟩
theorem tw7776009810354002699:True:=⟨⟩
theorem tw18039961605220950823:True:=⟨⟩
theorem tw9484330254671742902:True:=⟨⟩
theorem tw17246795538627031928:True:=⟨⟩
theorem tw10379545913975060868:True:=⟨⟩
theorem tw5627095475669349082:True:=⟨⟩
theorem tw17264069153348353439:True:=⟨⟩
theorem tw6646116825670732611:True:=⟨⟩
theorem tw5661594567222463507:True:=⟨⟩
theorem tw9627138622223099535:True:=⟨⟩
theorem tw14478439614028047077:True:=⟨⟩
theorem tw5095675008100301532:True:=⟨⟩
theorem tw2214079146960092415:True:=⟨⟩
theorem tw6515650983166425869:True:=⟨⟩
theorem tw9585969453030398527:True:=⟨⟩
theorem tw16831804582454175453:True:=⟨⟩
theorem tw911372948617053986:True:=⟨⟩
theorem tw4918575210802010936:True:=⟨⟩
theorem tw8465376755765283674:True:=⟨⟩
theorem tw17689051720600056445:True:=⟨⟩
theorem tw16595587643950913012:True:=⟨⟩
theorem tw1119064992281078410:True:=⟨⟩
theorem tw14555672723007049049:True:=⟨⟩
theorem tw12303551263736721009:True:=⟨⟩
theorem tw14933281275342152054:True:=⟨⟩
theorem tw16767101965196327942:True:=⟨⟩
theorem tw9506378216970968167:True:=⟨⟩
theorem tw6485468017240142012:True:=⟨⟩
theorem tw14653970185801783269:True:=⟨⟩
theorem tw17657955172812865301:True:=⟨⟩
theorem tw8878422330356943699:True:=⟨⟩
theorem tw10898573150998336618:True:=⟨⟩
theorem tw11308596667884639248:True:=⟨⟩
theorem tw1599295797643870048:True:=⟨⟩
theorem tw8007387816028857457:True:=⟨⟩
theorem tw8857410479168072114:True:=⟨⟩
theorem tw14627208698787705619:True:=⟨⟩
theorem tw2165057935503369207:True:=⟨⟩
theorem tw7612386352778206406:True:=⟨⟩
theorem tw18339613340985563349:True:=⟨⟩
theorem tw14856136146472190366:True:=⟨⟩
theorem tw1488900481295814752:True:=⟨⟩
theorem tw13966584101773759973:True:=⟨⟩
theorem tw13472278823556671419:True:=⟨⟩
theorem tw15278295192537844011:True:=⟨⟩
theorem tw14085708093124758444:True:=⟨⟩
theorem tw523674159585340539:True:=⟨⟩
theorem tw10314965201847919035:True:=⟨⟩
theorem tw8642021614828042608:True:=⟨⟩
theorem tw12954765507852194699:True:=⟨⟩
theorem tw7774231283755440254:True:=⟨⟩
theorem tw14403572294387774777:True:=⟨⟩
theorem tw10033558140192401086:True:=⟨⟩
theorem tw9883073667945657551:True:=⟨⟩
theorem tw5686988295300426772:True:=⟨⟩
theorem tw16515261069759702868:True:=⟨⟩
theorem tw17285988067253694325:True:=⟨⟩
theorem tw10047731079400890460:True:=⟨⟩
theorem tw12367398335762701731:True:=⟨⟩
theorem tw8431901921085523120:True:=⟨⟩
theorem tw18256693455465896889:True:=⟨⟩
theorem tw794652589881514886:True:=⟨⟩
theorem tw18112034039423693986:True:=⟨⟩
theorem tw7356948885882549574:True:=⟨⟩
theorem tw17198189427794063745:True:=⟨⟩
theorem tw651000698833276016:True:=⟨⟩
theorem tw2601879618472989955:True:=⟨⟩
theorem tw16280827008143438707:True:=⟨⟩
theorem tw16525026491653695436:True:=⟨⟩
theorem tw15263189911621006636:True:=⟨⟩
theorem tw8340009982374717066:True:=⟨⟩
theorem tw1722591249730932009:True:=⟨⟩
theorem tw18338961700004198858:True:=⟨⟩
theorem tw17364110014002894660:True:=⟨⟩
theorem tw267131725182739018:True:=⟨⟩
theorem tw6774130896902991605:True:=⟨⟩
theorem tw85579665809652444:True:=⟨⟩
theorem tw13469706270873259325:True:=⟨⟩
theorem tw10603628372768119878:True:=⟨⟩
theorem tw435300062879453898:True:=⟨⟩
theorem tw5982207761055882202:True:=⟨⟩
theorem tw558878080563579632:True:=⟨⟩
theorem tw3239306336931699158:True:=⟨⟩
theorem tw7107284041231601302:True:=⟨⟩
theorem tw3269976674094308068:True:=⟨⟩
theorem tw5405255537360198731:True:=⟨⟩
theorem tw13722868487941996245:True:=⟨⟩
theorem tw17158642592664992373:True:=⟨⟩
theorem tw13356421630666820079:True:=⟨⟩
theorem tw2384129587464804901:True:=⟨⟩
theorem tw17988032157721114922:True:=⟨⟩
theorem tw16639891086327629648:True:=⟨⟩
theorem tw16047564821326388899:True:=⟨⟩
theorem tw6296191752241231684:True:=⟨⟩
theorem tw14089202301858648773:True:=⟨⟩
theorem tw3538572022572003364:True:=⟨⟩
theorem tw14115648694165922658:True:=⟨⟩
theorem tw14359690776607279940:True:=⟨⟩
theorem tw11588923982631757043:True:=⟨⟩
theorem tw3066704744494741873:True:=⟨⟩
theorem tw16454595952619244745:True:=⟨⟩
theorem tw5689045172540132654:True:=⟨⟩
theorem tw17202501969124245409:True:=⟨⟩
theorem tw14434349922444537060:True:=⟨⟩
theorem tw10054054808730191797:True:=⟨⟩
theorem tw10763781806112051437:True:=⟨⟩
theorem tw18380059255795345330:True:=⟨⟩
theorem tw12374254832514353063:True:=⟨⟩
theorem tw6081515041676809150:True:=⟨⟩
theorem tw18094190142394858745:True:=⟨⟩
theorem tw5140408634957383022:True:=⟨⟩
theorem tw3431488173876935423:True:=⟨⟩
theorem tw8207206764297078093:True:=⟨⟩
theorem tw5449618424499146850:True:=⟨⟩
theorem tw12567316459715092703:True:=⟨⟩
theorem tw11003074592901198607:True:=⟨⟩
theorem tw14602326121139970052:True:=⟨⟩
theorem tw13229890192312239856:True:=⟨⟩
theorem tw13656740629724173924:True:=⟨⟩
theorem tw139851642819853173:True:=⟨⟩
theorem tw7842831538822183792:True:=⟨⟩
theorem tw10670262359046969836:True:=⟨⟩
theorem tw16979125874588927098:True:=⟨⟩
theorem tw12097291086552712645:True:=⟨⟩
theorem tw1407265010769916582:True:=⟨⟩
theorem tw2045721261065248647:True:=⟨⟩
theorem tw16924861475379318613:True:=⟨⟩
theorem tw16458164927285657775:True:=⟨⟩
theorem tw11100335468579128705:True:=⟨⟩
theorem tw2458392349896718185:True:=⟨⟩
theorem tw8035341603539647774:True:=⟨⟩
theorem tw3847046100058239996:True:=⟨⟩
theorem tw18235469684151046187:True:=⟨⟩
theorem tw1070060439851758176:True:=⟨⟩
theorem tw8887328900514245213:True:=⟨⟩
theorem tw4933793076504462505:True:=⟨⟩
theorem tw3839567969191183725:True:=⟨⟩
theorem tw2975480725273250003:True:=⟨⟩
theorem tw15616201061147363658:True:=⟨⟩
theorem tw15042558335441352237:True:=⟨⟩
theorem tw12006959280628102666:True:=⟨⟩
theorem tw17866185839282824635:True:=⟨⟩
theorem tw11906165068977780772:True:=⟨⟩
theorem tw13686987372007850074:True:=⟨⟩
theorem tw6512841384417716924:True:=⟨⟩
theorem tw6996424121566478046:True:=⟨⟩
theorem tw13042829919879732298:True:=⟨⟩
theorem tw8584440353842937293:True:=⟨⟩
theorem tw8108858439650753871:True:=⟨⟩
theorem tw4786664716289382872:True:=⟨⟩
theorem tw7369722661217894692:True:=⟨⟩
theorem tw4640509340698446024:True:=⟨⟩
theorem tw7297478917152843104:True:=⟨⟩
theorem tw7636425844646603347:True:=⟨⟩
theorem tw9113161068463134900:True:=⟨⟩
theorem tw1528578807592731924:True:=⟨⟩
theorem tw9883195405935940653:True:=⟨⟩
theorem tw2342638519501265252:True:=⟨⟩
theorem tw17969473242269318740:True:=⟨⟩
theorem tw3759633394908164297:True:=⟨⟩
theorem tw11422830969357876378:True:=⟨⟩
theorem tw9823145102908058839:True:=⟨⟩
theorem tw1625498937796168880:True:=⟨⟩
theorem tw4356727011010357775:True:=⟨⟩
theorem tw7755356877302732892:True:=⟨⟩
theorem tw10387945588497145207:True:=⟨⟩
theorem tw8286843424874575108:True:=⟨⟩
theorem tw1802067259316348051:True:=⟨⟩
theorem tw12297542839445184601:True:=⟨⟩
theorem tw10151348598179978003:True:=⟨⟩
theorem tw12911174499328973389:True:=⟨⟩
theorem tw15645129565353845222:True:=⟨⟩
theorem tw18222818642838808970:True:=⟨⟩
theorem tw7024314140252136586:True:=⟨⟩
theorem tw17587768183499526902:True:=⟨⟩
theorem tw7003799601613672323:True:=⟨⟩
theorem tw9183603095055682894:True:=⟨⟩
theorem tw4421724799981212433:True:=⟨⟩
theorem tw6369448658343312826:True:=⟨⟩
theorem tw5207309223905098739:True:=⟨⟩
theorem tw2681064769620079242:True:=⟨⟩
theorem tw14840256466767986254:True:=⟨⟩
theorem tw7972824801257502241:True:=⟨⟩
theorem tw14595720048440930271:True:=⟨⟩
theorem tw8644049860723955442:True:=⟨⟩
theorem tw5478055416019726906:True:=⟨⟩
theorem tw530184393570482532:True:=⟨⟩
theorem tw4864799146439963350:True:=⟨⟩
theorem tw3854763103979577071:True:=⟨⟩
theorem tw14002275802872906204:True:=⟨⟩
theorem tw3850868560563186287:True:=⟨⟩
theorem tw17776772668975554920:True:=⟨⟩
theorem tw17418318120698875234:True:=⟨⟩
theorem tw13882945130882004021:True:=⟨⟩
theorem tw6139167866776632797:True:=⟨⟩
theorem tw3651983635966869705:True:=⟨⟩
theorem tw2280633537184424708:True:=⟨⟩
theorem tw12509355348296109304:True:=⟨⟩
theorem tw7255942700455187018:True:=⟨⟩
theorem tw7351229383475475169:True:=⟨⟩
theorem tw4026508488638001868:True:=⟨⟩
theorem tw13180900203604576581:True:=⟨⟩
theorem tw8070253628042105609:True:=⟨⟩
theorem tw2994813078744048509:True:=⟨⟩
theorem tw2802757247228960487:True:=⟨⟩
theorem tw17978010548241767385:True:=⟨⟩
theorem tw705084122911450619:True:=⟨⟩
theorem tw6976263033047391618:True:=⟨⟩
theorem tw4733535554532784109:True:=⟨⟩
theorem tw18070259593780369337:True:=⟨⟩
theorem tw8178847832292238565:True:=⟨⟩
theorem tw12968766302431679270:True:=⟨⟩
theorem tw17889287668965670614:True:=⟨⟩
theorem tw12354810392850671229:True:=⟨⟩
theorem tw16662738908779812475:True:=⟨⟩
theorem tw6496271241801340295:True:=⟨⟩
theorem tw8957150810350529631:True:=⟨⟩
theorem tw18343144206924917606:True:=⟨⟩
theorem tw16880687043880282441:True:=⟨⟩
theorem tw1041767313299580774:True:=⟨⟩
theorem tw9680477322436762577:True:=⟨⟩
theorem tw12367541190352691127:True:=⟨⟩
theorem tw17855639284263914517:True:=⟨⟩
theorem tw13062149670246845814:True:=⟨⟩
theorem tw414998464920215356:True:=⟨⟩
theorem tw4826653455533552845:True:=⟨⟩
theorem tw11783376660090029865:True:=⟨⟩
theorem tw13653693266681730874:True:=⟨⟩
theorem tw10887666758735715829:True:=⟨⟩
theorem tw11912729891607266554:True:=⟨⟩
theorem tw18170837277582424137:True:=⟨⟩
theorem tw2295926500380415042:True:=⟨⟩
theorem tw15164542232258938448:True:=⟨⟩
theorem tw2772610729778679070:True:=⟨⟩
theorem tw10296894220696027057:True:=⟨⟩
theorem tw6725914561232207811:True:=⟨⟩
theorem tw6720025453796851945:True:=⟨⟩
theorem tw4501949854228724746:True:=⟨⟩
theorem tw2140644713370581954:True:=⟨⟩
theorem tw1065634799583379626:True:=⟨⟩
theorem tw1136006825793976573:True:=⟨⟩
theorem tw9907535426688294103:True:=⟨⟩
theorem tw12689891316817778716:True:=⟨⟩
theorem tw2240078488006513224:True:=⟨⟩
theorem tw5025443166482469417:True:=⟨⟩
theorem tw12546710307776426326:True:=⟨⟩
theorem tw14158921840885313035:True:=⟨⟩
theorem tw6934314322972951495:True:=⟨⟩
theorem tw17163857794923304153:True:=⟨⟩
theorem tw13402097530032791857:True:=⟨⟩
theorem tw8458502939874205084:True:=⟨⟩
theorem tw4729877470657777687:True:=⟨⟩
theorem tw4690912510014192690:True:=⟨⟩
theorem tw18293874315568948011:True:=⟨⟩
theorem tw15879804877036020225:True:=⟨⟩
theorem tw12370825426315174557:True:=⟨⟩
theorem tw1171665186888960964:True:=⟨⟩
theorem tw12668878392371038994:True:=⟨⟩
theorem tw1649528437177652831:True:=⟨⟩
theorem tw14063092133678489220:True:=⟨⟩
theorem tw1559059167572203659:True:=⟨⟩
theorem tw9411591250765614062:True:=⟨⟩
theorem tw14831633467394084943:True:=⟨⟩
theorem tw5558974734361190923:True:=⟨⟩
theorem tw5330961439945527705:True:=⟨⟩
theorem tw16195058930073485411:True:=⟨⟩
theorem tw9448462126789469187:True:=⟨⟩
theorem tw9717111964246225465:True:=⟨⟩
theorem tw3853426025634409716:True:=⟨⟩
theorem tw16606373952814514252:True:=⟨⟩
theorem tw15360338223257716590:True:=⟨⟩
theorem tw1264915757299933067:True:=⟨⟩
theorem tw14735497195478661741:True:=⟨⟩
theorem tw14654373608633495437:True:=⟨⟩
theorem tw2436623476488286583:True:=⟨⟩
theorem tw8356269724232850571:True:=⟨⟩
theorem tw7459641481714617279:True:=⟨⟩
theorem tw6482146623335116901:True:=⟨⟩
theorem tw6290855122711266967:True:=⟨⟩
theorem tw6240271895778868786:True:=⟨⟩
theorem tw5211800060641467956:True:=⟨⟩
theorem tw2620824449722567493:True:=⟨⟩
theorem tw17479987631267611006:True:=⟨⟩
theorem tw11930950314222239527:True:=⟨⟩
theorem tw1139311869369127839:True:=⟨⟩
theorem tw8387368146296470297:True:=⟨⟩
theorem tw5372257708202400520:True:=⟨⟩
theorem tw5341747636615902656:True:=⟨⟩
theorem tw4866751070415404052:True:=⟨⟩
theorem tw2113453757577359076:True:=⟨⟩
theorem tw2069563164267129851:True:=⟨⟩
theorem tw18267031860584293:True:=⟨⟩
theorem tw17027533058187428346:True:=⟨⟩
theorem tw13437481020192246252:True:=⟨⟩
theorem tw13090360300838642611:True:=⟨⟩
theorem tw12377173939695280033:True:=⟨⟩
end PySem.W.Fast
open PySem PySem.W PyProof.Rows
set_option maxRecDepth 100000 in
set_option maxHeartbeats 0 in
theorem PySem.Challenge.cw_fewties_k49_rows_that_are_none_holds : PySem.Challenge.rw_fewties_k49_rows_that_are_none.Holds := by
 w_on;o_law;k_head;(case hw=>w_witness2)
 k_fill
 refine G.walk (l:=PySem.Challenge.rw_fewties_k49_rows_that_are_none) rfl rfl rfl (fun w h Y=>PySem.W.kIn_of Y) ?TB ?F
 case TB =>
  intro w lo mg mb mean h T Y;refine' L2.tabs0_none (L2.tab_no ?ht_)
  case ht_=>k_is
 case F =>
  intro w mg h KX GG;refine' G.txt_mk KX GG ..;all_goals try (refine' G.fn_in ?a_ ?l_ ?c_ ?k_;(case a_=>k_is);(case l_=>k_is);(case c_=>k_is);(case k_=>k_is))
  all_goals try k_is
  all_goals try (refine' G.me_in ?a_ ?i_ ?l_ ?c_ ?k_;(case a_=>k_is);(case i_=>k_is);(case l_=>k_is);(case c_=>k_is);(case k_=>k_is))
  all_goals try (intro P_;refine' L2.gd_mk ?l_ ?hs_ ?e_ ?n_;(case l_=>k_is);(case hs_=>decide);(case e_=>repeat (first | exact .nil | refine .cons rfl ⟨_,rfl⟩ ?_ | refine .cons rfl rfl ?_));(case n_=>decide))
  all_goals try k_exc
  all_goals try kit_is
  all_goals exact ⟨L2.cl_of (bmB:=L2.bmV) (newId:="ValueError.__new__") (by k_exc),by k_is,by k_is,by k_is,by k_is,by k_is⟩
#print axioms PySem.Challenge.cw_fewties_k49_rows_that_are_none_holds
