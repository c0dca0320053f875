import PyProof.Rows.All
import Wide.All
import OpenK.AllK
import Wide.FinOn
import PyProof.EqAt
import PyProof.EqKinds
import PyProof.TupleCall
import PyProof.NeData
import PyProof.P3In
import PyProof.WalkInts
import PyProof.Rows.SortWalk
import PyProof.SumWalkG
import PyProof.Rows.CallKwBuiltin
import KE.KDictList
import PyProof.WalksEnum
import PyProof.ZipIter
import PyProof.ConsumeWalk
import PyProof.ListRange
import PyProof.TupleOfSeq
import PyProof.Rows.RuleN_abs
import PyProof.ExcBaseAll.ValueError
import PyProof.ExcAttrAll.ValueError
import KE.KDictOf
import PyProof.AttrMissHeap
import PySem.Challenge.RW_fewties_k42_what_is_refused
open PySem.W (Frag kitOne mg_of nsIn mg_none_of excIn fnOf mroIn keepIn codeIn)
set_option Elab.async false
set_option linter.all false
set_option compiler.extract_closed false
set_option maxRecDepth 100000
set_option maxHeartbeats 4000000
noncomputable section
abbrev X0:=@List.getElem?_eq_getElem
abbrev J1:=@List.getElem?_eq_some_iff
abbrev v2:=@List.mem_of_getElem?
abbrev T0:=@List.length_map
abbrev Q2:=@Array.getElem?_eq_getElem
abbrev o1:=@List.getElem?_map
abbrev N0:=@Nat.le_refl
abbrev E1:=@List.mem_append
abbrev Z0:=@List.mem_cons
abbrev Y1:=@Bool.false_ne_true
abbrev Q3:=@List.length_append
abbrev S2:=@List.size_toArray
abbrev K3:=@List.mem_append_right
abbrev Y2:=@List.append_assoc
abbrev S3:=@List.mem_cons_of_mem
abbrev O1:=@Nat.ne_of_lt
abbrev P1:=@List.mem_map
abbrev T3:=@List.mem_cons_self
abbrev l2:=@List.mem_range
abbrev t4:=@List.mem_of_mem_take
abbrev t5:=@List.take_append_drop
abbrev N2:=@List.mem_singleton
abbrev q8:=@List.getElem?_append_left
abbrev J4:=@List.mem_of_mem_drop
abbrev E4:=@Nat.lt_of_lt_of_le
abbrev M3:=@Option.some.inj
abbrev U4:=@List.mem_append_left
abbrev H7:=@List.getElem?_append_right
abbrev V3:=@List.pairwise_append
abbrev T2:=@Nat.le_trans
abbrev P2:=@List.map_cons
abbrev Z3:=@List.getElem?_set
abbrev k7:=@List.getD_eq_getElem?_getD
abbrev MA:=@Classical.byContradiction
abbrev W5:=@Array.getElem?_toList
abbrev O2:=@decide_eq_false
abbrev O4:=@decide_eq_true
abbrev F8:=@List.getElem?_range
abbrev U3:=@List.map_map
abbrev rA:=@List.getElem?_eq_none
abbrev mB:=@Nat.lt_of_le_of_lt
abbrev w4:=@List.map_append
abbrev W3:=@List.length_cons
abbrev SB:=@Int.emod_lt_of_pos
abbrev q7:=@List.nodup_append
abbrev M7:=@Nat.le_of_ble_eq_true
abbrev D8:=@List.map_congr_left
abbrev n5:=@List.append_nil
abbrev G8:=@List.take_of_length_le
abbrev qB:=@List.length_filter_le
abbrev P6:=@List.all_eq_true
abbrev t0:=@if_pos
abbrev y0:=@if_neg
abbrev i7:=@List.getElem?_eq_none_iff
abbrev z7:=@Nat.lt_succ_of_lt
abbrev X5:=@List.length_pos_iff
abbrev Y3:=@Nat.zero_le
abbrev t7:=@List.pairwise_map
abbrev T5:=@List.ext_getElem?
abbrev N1:=@beq_iff_eq
abbrev S4:=@Nat.lt_irrefl
abbrev m5:=@Nat.le_of_lt
abbrev Y5:=@Array.toList_append
abbrev u8:=@List.pairwise_iff_getElem
abbrev D6:=@List.take_length
abbrev M4:=@List.lookup_cons
abbrev t8:=@List.length_take
abbrev S5:=@Bool.and_eq_true
abbrev FA:=@List.eq_nil_of_length_eq_zero
abbrev j7:=@List.replicate_succ
abbrev G7:=@List.take_add_one
abbrev r8:=@List.getElem?_take_of_lt
abbrev V9:=@List.mem_iff_getElem
abbrev O7:=@List.getElem?_replicate
abbrev o7:=@Bool.eq_iff_iff
abbrev S6:=@Array.size_push
abbrev UA:=@List.Pairwise.imp_of_mem
abbrev m3:=@List.getElem?_cons_succ
abbrev m6:=@Option.map_some
abbrev R9:=@List.getElem?_drop
abbrev qA:=@List.not_mem_nil
abbrev V6:=@List.nodup_cons
abbrev i8:=@Nat.lt_succ_self
abbrev W7:=@List.length_nil
open PySem PySem.Spec in
abbrev C0:=@wpAny_bind
open PySem PySem.Spec in
abbrev M0:=@wpAny_pure
open PySem PySem.Spec in
abbrev S1:=@Heap.get?_push_of_some
open PySem PySem.Spec in
abbrev Q0:=@Heap.lt_size
open PySem PySem.Spec in
abbrev X2:=@Heap.get?_push_size
open PySem PySem.Spec in
abbrev Z5:=@wpAny_holding
open PySem PySem.Spec in
abbrev R3:=@PassesOwn.never
open PySem PySem.Spec in
abbrev n4:=@wpAny_mono
open PySem PySem.Spec in
abbrev D9:=@wpAny_newObj_type
open PySem PySem.Spec in
abbrev PB:=@Around.under_plainId
open PySem PySem.Spec in
abbrev K7:=@Heap.size_push
open PySem PySem.Spec in
abbrev H9:=@wpAny_call_entry
open PySem PySem.Spec in
abbrev Q7:=@wpAny_truthy_bool
open PySem PySem.Spec in
abbrev l9:=@wpAny_pyIter_list
open PySem PySem.Spec in
abbrev hA:=@codeAny_builtin
namespace L2
open PySem PySem.Spec PyProof.Rows
abbrev Key:=Sum Int Str
def W8:Key->Value->Bool
 | .inl k,v=>Value.isInt k v
 | .inr x,v=>Value.isStrOf x v
def keyH(w:World):Key->Int
 | .inl k=>hashInt k
 | .inr x=>hashStr w x
def W6:∀{k:Key}{v:Value},W8 k v=true->(∃ i t,k=Sum.inl i/\v=Value.int i t)\/(∃ x t,k=Sum.inr x/\v=Value.str x t)
 | .inl i,v,h=>by
  obtain⟨t,e⟩:=Value.isInt_shape (k:=i) (v:=v) h
  exact .inl ⟨i,t,rfl,e⟩
 | .inr x,v,h=>by
  obtain⟨t,e⟩:=Value.isStrOf_shape (x:=x) (v:=v) h
  exact .inr ⟨x,t,rfl,e⟩
def cK(i:Int)(t:Tok):W8 (.inl i) (.int i t)=true:=by simp[W8,Value.isInt]
def DQ(x:Str)(t:Tok):W8 (.inr x) (.str x t)=true:=by simp[W8,Value.isStrOf]
def LJ(a b:Int):decide ((Sum.inl a:Key)=Sum.inl b)=(a == b):=by
 by_cases e:a=b
 ·subst e;simp
 ·have h:¬ (Sum.inl a:Key)=Sum.inl b:=λq=>e (Sum.inl.inj q)
  rw[O2 h]
  exact(beq_eq_false_iff_ne.mpr e).symm
def kM(a b:Str):decide ((Sum.inr a:Key)=Sum.inr b)=decide (a=b):=by
 by_cases e:a=b
 ·subst e;simp
 ·have h:¬ (Sum.inr a:Key)=Sum.inr b:=λq=>e (Sum.inr.inj q)
  rw[O2 h,O2 e]
def gR(a:Int)(b:Str):decide ((Sum.inl a:Key)=Sum.inr b)=false:=O2 (λq=>nomatch q)
def pN(a:Str)(b:Int):decide ((Sum.inr a:Key)=Sum.inl b)=false:=O2 (λq=>nomatch q)
def N3(prog:Program)(w:World):PySem.KeyKind prog w Key where
 is:=W8
 hash:=keyH w
 inj:=λv a b ha hb=>by
  rcases W6 ha with ⟨i,t,rfl,rfl⟩|⟨x,t,rfl,rfl⟩
  ·rcases W6 hb with ⟨j,u,rfl,e⟩|⟨y,u,rfl,e⟩
   ·injection e with e1 _;rw[e1]
   ·exact nomatch e
  ·rcases W6 hb with ⟨j,u,rfl,e⟩|⟨y,u,rfl,e⟩
   ·exact nomatch e
   ·injection e with e1 _;rw[e1]
 byValue:=λk v h=>by
  rcases W6 h with ⟨i,t,rfl,rfl⟩|⟨x,t,rfl,rfl⟩ <;> rfl
 pyHash:=λhv h=>by
  rcases W6 hv with ⟨i,t,rfl,rfl⟩|⟨x,t,rfl,rfl⟩
  ·exact wpAny_pyHash_int h
  ·exact wpAny_pyHash_str h
 eqBool:=λhu hv h=>by
  rcases W6 hu with ⟨i,t,rfl,rfl⟩|⟨x,t,rfl,rfl⟩
  ·rcases W6 hv with ⟨j,u,rfl,rfl⟩|⟨y,u,rfl,rfl⟩
   ·rw[LJ] at h;exact wpAny_eqBool_int h
   ·rw[gR] at h;exact SeqAt.EqAt.int_str i t y u _ _ _ _ h
  ·rcases W6 hv with ⟨j,u,rfl,rfl⟩|⟨y,u,rfl,rfl⟩
   ·rw[pN] at h;exact SeqAt.EqAt.str_int x t j u _ _ _ _ h
   ·rw[kM] at h;exact wpAny_eqBool_str h
 «strs»:=λk x t v h=>by
  rcases W6 h with ⟨i,u,rfl,e⟩|⟨y,u,rfl,e⟩
  ·exact nomatch e
  ·injection e with e1 _
   subst e1
   cases v <;> rfl
def GF(prog:Program)(w:World)(i:Int)(t:Tok):(N3 prog w).is (.inl i) (.int i t)=true:=cK i t
def wJ(prog:Program)(w:World)(x:Str)(t:Tok):(N3 prog w).is (.inr x) (.str x t)=true:=DQ x t
inductive V where
 |non|bl (b:Bool)|int (i:Int)|str (x:Str)|byt (b:Array UInt8)|flt (b:UInt64)|ref (a:Addr)|ty (n:String)
 deriving DecidableEq
def RelV:V->Value->Prop
 | .non,u=>u=Value.none
 | .bl b,u=>u=Value.bool b
 | .int i,u=>∃ t,u=Value.int i t
 | .str x,u=>∃ t,u=Value.str x t
 | .byt b,u=>∃ t,u=Value.bytes b t
 | .flt b,u=>∃ t,u=Value.float b t
 | .ref a,u=>u=Value.ref a
 | .ty n,u=>u=Value.type n
abbrev Vals:List V->List Value->Prop:=Paired RelV
def Vals.length{xs:List V}{us:List Value}(r:Vals xs us):xs.length=us.length:=Paired.length r
def Vals.get:∀{xs:List V}{us:List Value}{i:Nat}{x:V},Vals xs us->xs[i]?=some x->∃ u,us[i]?=some u/\RelV x u
 |_,_,_,_,.nil,e=>by simp at e
 |_,_,0,_,.cons r _,e=>by simp at e;subst e;exact⟨_,rfl,r⟩
 | _,_,i+1,x,.cons _ t,e=>by
  obtain⟨u,b,a⟩:=Vals.get (i:=i) (x:=x) t (by simpa using e)
  exact⟨u,by simpa using b,a⟩
def Vals.set{x:V}{u:Value}(r:RelV x u):∀{xs:List V}{us:List Value}(i:Nat),Vals xs us->Vals (xs.set i x) (us.set i u)
 |_,_,_,.nil=>.nil
 |_,_,0,.cons _ t=>.cons r t
 |_,_,i+1,.cons q t=>.cons q (Vals.set r i t)
def Vals.append:∀{xs ys:List V}{us a:List Value},Vals xs us->Vals ys a->Vals (xs++ys) (us++a)
 |_,_,_,_,.nil,s=>s
 |_,_,_,_,.cons r t,s=>.cons r (Vals.append t s)
def Vals.take:∀{xs:List V}{us:List Value}(n:Nat),Vals xs us->Vals (xs.take n) (us.take n)
 |_,_,0,_=>.nil
 |_,_,_+1,.nil=>.nil
 |_,_,n+1,.cons r t=>.cons r (Vals.take n t)
def Vals.drop:∀{xs:List V}{us:List Value}(n:Nat),Vals xs us->Vals (xs.drop n) (us.drop n)
 |_,_,0,r=>r
 |_,_,_+1,.nil=>.nil
 |_,_,n+1,.cons _ t=>Vals.drop n t
def RelO:Option V->Option Value->Prop
 |some v,some u=>RelV v u
 |none,none=>True
 |_,_=>False
def KV{κ:Type}:List (κ × V)->List (κ × Value)->Prop:=Paired λ(p : κ × V)(q : κ × Value)=>p.1=q.1/\RelV p.2 q.2
def kV:Key->V
 | .inl i=>.int i
 | .inr x=>.str x
inductive HO where
 /-- a list -/
 |lst (xs:List V)
 /-- a tuple (never changes) -/
 |tup (xs:List V)
 /-- a dict whose keys are ints and texts; one whose keys are tuples of ints and texts (the empty one is both) -/
 |dK (kvs:List (Key × V))|dT (kvs:List (List Key × V))
 /-- a set of ints: its members, its size -/
 |set (S:Int->Bool) (n:Nat)
 /-- an instance of the class at C, its dict at dx, its attributes -/
 |ins (C dx:Addr) (fs:List (Str × V))
 /-- the dict of the instance at x -/
 |own (x:Addr)
 /-- the dict of an exception -/
 |xd (fs:List (Str × V))
 /-- a bound method, f of x -/
 |met (f x:Addr)
 /-- a range object lo, lo + 1, .. below hi -/
 |rng (lo hi:Int)
 /-- a thing that is known to the object (the script; a dict while a loop walks it): read, never written while it is so -/
 |frz (o:Obj) (u:HO)
 /-- a code object's table -/
 |tbl (ps:Array Value)
 /-- any other thing, by what is true of its one object (a def of one's own: SetO a S n:=HO.ext λh=>..) -/
 |ext (φ:Heap->Prop)
abbrev Hp:=Addr->Option HO
def upd(H:Hp)(a:Addr)(o:HO):Hp:=λb=>if b=a then some o else H b
def K0{H:Hp}{a:Addr}{o:HO}:upd H a o a=some o:=by unfold upd;rw[t0 rfl]
def z0{H:Hp}{a b:Addr}{o:HO}(h:b ≠ a):upd H a o b=H b:=by unfold upd;rw[y0 h]
def Q8{H:Hp}{a b:Addr}{o u:HO}(h:H a=some o)(h':H b=some u)(d:o ≠ u):a ≠ b:=by
 intro e;subst e;rw[h] at h';exact d (M3 h')
def V2{H:Hp}{a b:Addr}{o:HO}(h:H a=some o)(h':H b=none):a ≠ b:=by
 intro e;subst e;rw[h] at h';cases h'
section
variable(P:Program)(w:World)
def ObjOk(H:Hp)(h:Heap)(a:Addr):HO->Prop
 | .lst xs=>xs.length<=sizeLine/\∃(its:List Value)(n:Nat),Vals xs its/\h.get? a=some { cls:=.type "list",data:=.seq its.toArray n }
 | .tup xs=>xs.length<=sizeLine/\∃ its:List Value,Vals xs its/\IsTup h a its.toArray
 | .dK kvs=>kvs.length<=sizeLine/\(a == sysModules)=false/\∃ vs,KV kvs vs/\h.DictOf (N3 P w) a vs
 | .dT kvs=>kvs.length<=sizeLine/\(a == sysModules)=false/\∃ xs:List (List Key × Addr × Value),
   Paired (λ(p:List Key × V)(q:List Key × Addr × Value)=>p.1=q.1/\H q.2.1=some (.tup (p.1.map kV))/\RelV p.2 q.2.2) kvs xs /\
   ∃ o es ep,h.get? a=some o/\o.ExactDict/\o.data=.dict es ep/\es.toList=xs.map (entryOfKey (tupleKind (N3 P w)))/\(xs.map (·.1)).Nodup
 | .set S n=>h.SetOf (intKind P w) a S n
 | .ins C dx fs=>H dx=some (.own a)/\fs.length<=1000/\dx ≠ a/\h.get? a=some (PySem.W.instObj C dx) /\
   ∃ mA,h.Ns1 dx mA/\(∀ f,RelO (fs.lookup f) (mA f))/\PySem.Within mA (fs.map (·.1))
 | .own _=>∃ o,h.get? a=some o
 | .xd fs=>∃ mA,h.Ns1 a mA/\∀ f,RelO (fs.lookup f) (mA f)
 | .rng lo hi=>∃ t u v,h.get? a=some { cls:=.type "range",data:=.fields #[.int lo t,.int hi u,.int 1 v] }
 | .frz o u=>h.get? a=some o/\ObjOk H h a u
 | .tbl ps=>h.get? a=some { cls:=.none,data:=.fields ps }
 | .met f x=>h.get? a=some (PySem.W.methodObj (.ref f) (.ref x))
 | .ext φ=>φ h/\(∃ o,h.get? a=some o)/\∀ h1 h2:Heap,φ h1->(∀ o,h1.get? a=some o->h2.get? a=some o)->φ h2
def HOk(H:Hp)(h:Heap):Prop:=∀ a o,H a=some o->ObjOk P w H h a o
end
section
variable{P:Program}{w:World}{H H':Hp}{h h':Heap}{a:Addr}{o:HO}
def ObjOk.lt(x:ObjOk P w H h a o):a<h.objs.size:=by
 cases o with
 |lst xs=>obtain⟨_,_,_,_,e⟩:=x;exact Q0 e
 |tup xs=>obtain⟨_,_,_,p⟩:=x;exact p.lt
 |dK kvs=>obtain⟨_,_,_,_,o,_,_,e,_⟩:=x;exact Q0 e
 |dT kvs=>obtain⟨_,_,_,_,o,_,_,e,_⟩:=x;exact Q0 e
 |set S n=>obtain⟨o,_,_,_,e,_⟩:=x;exact Q0 e
 |ins C dx fs=>obtain⟨_,_,_,e,_⟩:=x;exact Q0 e
 |own y=>obtain⟨_,e⟩:=x;exact Q0 e
 |xd fs=>obtain⟨_,⟨_,_,_,e,_⟩,_⟩:=x;exact Q0 e
 |rng lo hi=>obtain⟨_,_,_,e⟩:=x;exact Q0 e
 |frz ob u=>obtain⟨e,_⟩:=x;exact Q0 e
 |tbl ps=>exact Q0 (show h.get? a=some _ from x)
 |met f y=>exact Q0 (show h.get? a=some _ from x)
 |ext φ=>obtain⟨_,⟨_,e⟩,_⟩:=x;exact Q0 e
def Paired.mapP{α β:Type}{F G : α->β->Prop}:∀{c:List α}{d:List β},Paired F c d->(∀ a b,F a b->G a b)->Paired G c d
 |_,_,.nil,_=>.nil
 |_,_,.cons r t,f=>.cons (f _ _ r) (Paired.mapP t f)
def ObjOk.stay(x:ObjOk P w H h a o)(k:∀ b u,(b=a\/H b=some (.own a))->h.get? b=some u->h'.get? b=some u)
  (j:∀ b,H b=some (.own a)->H' b=some (.own a)) (i:∀ b xs,H b=some (.tup xs)->H' b=some (.tup xs)):ObjOk P w H' h' a o:=by
 induction o with
 |lst xs=>obtain⟨z,its,n,r,e⟩:=x;exact⟨z,its,n,r,k _ _ (.inl rfl) e⟩
 |tup xs=>obtain⟨z,its,r,g,e,c⟩:=x;exact⟨z,its,r,g,k _ _ (.inl rfl) e,c⟩
 |dK kvs=>obtain⟨z,y,vs,r,g,es,ep,e,c⟩:=x;exact⟨z,y,vs,r,g,es,ep,k _ _ (.inl rfl) e,c⟩
 | dT kvs =>
  obtain⟨z,y,xs,r,g,es,ep,e,c⟩:=x
  exact⟨z,y,xs,Paired.mapP r λp q z=>⟨z.1,i _ _ z.2.1,z.2.2⟩,g,es,ep,k _ _ (.inl rfl) e,c⟩
 |set S n=>obtain⟨g,es,ep,t,e,c⟩:=x;exact⟨g,es,ep,t,k _ _ (.inl rfl) e,c⟩
 | ins C dx fs =>
  obtain⟨d,z,ne,e,mA,⟨od,es,ep,e2,c⟩,r⟩:=x
  exact⟨j _ d,z,ne,k _ _ (.inl rfl) e,mA,⟨od,es,ep,k _ _ (.inr d) e2,c⟩,r⟩
 |own y=>obtain⟨g,e⟩:=x;exact⟨g,k _ _ (.inl rfl) e⟩
 |xd fs=>obtain⟨mA,⟨od,es,ep,e,c⟩,r⟩:=x;exact⟨mA,⟨od,es,ep,k _ _ (.inl rfl) e,c⟩,r⟩
 |rng lo hi=>obtain⟨t,u,v,e⟩:=x;exact⟨t,u,v,k _ _ (.inl rfl) e⟩
 |frz g u ih=>obtain⟨e,q⟩:=x;exact⟨k _ _ (.inl rfl) e,ih q⟩
 | tbl ps =>
  have e:h.get? a=some { cls:=.none,data:=.fields ps }:=x
  show h'.get? a=some { cls:=.none,data:=.fields ps }
  exact k a _ (.inl rfl) e
 | met f y =>
  have e:h.get? a=some (PySem.W.methodObj (.ref f) (.ref y)):=x
  show h'.get? a=some (PySem.W.methodObj (.ref f) (.ref y))
  exact k a _ (.inl rfl) e
 |ext φ=>obtain⟨p,⟨o,e⟩,st⟩:=x;exact⟨st _ _ p λo q=>k _ _ (.inl rfl) q,⟨o,k _ _ (.inl rfl) e⟩,st⟩
def HOk.lt(x:HOk P w H h)(e:H a=some o):a<h.objs.size:=(x a o e).lt
def HOk.fresh(x:HOk P w H h)(e:h.objs.size<=a):H a=none:=by
 cases q:H a with
 |none=>rfl
 |some u=>exact absurd (E4 (x.lt q) e) (S4 _)
def HOk.kept(x:HOk P w H h)(k:∀ b u,h.get? b=some u->h'.get? b=some u):HOk P w H h':=λa o e =>
 (x a o e).stay (λb u _ q=>k b u q) (λ_ q=>q) λ_ _ q=>q
def HOk.laid(x:HOk P w H h)(k:∀ b u,h.get? b=some u->h'.get? b=some u)(d:h.objs.size<=a)(new:ObjOk P w (upd H a o) h' a o):HOk P w (upd H a o) h':=λb u e=>by
 have hn:=x.fresh d
 by_cases hb:b=a
 ·subst hb;rw[K0] at e;cases e;exact new
 ·rw[z0 hb] at e
  exact(x b u e).stay (λc v _ q=>k c v q) (λc q=>by rw[z0 (V2 q hn)];exact q) λc xs q=>by rw[z0 (V2 q hn)];exact q
end
def Rd(H:Hp)(a:Addr)(u:HO):Prop:=H a=some u\/∃ o,H a=some (.frz o u)
def Rd.ok{P:Program}{w:World}{H:Hp}{h:Heap}{a:Addr}{u:HO}(r:Rd H a u)(x:HOk P w H h):ObjOk P w H h a u:=by
 rcases r with r|⟨o,r⟩
 ·exact x a u r
 ·obtain⟨_,q⟩:=x a _ r
  exact q
def Mut:Option HO->Prop
 |some (.lst _)=>True
 |some (.dK _)=>True
 |some (.dT _)=>True
 |some (.set _ _)=>True
 |some (.ins _ _ _)=>True
 |some (.ext _)=>True
 |_=>False
section
variable{P:Program}{w:World}{H:Hp}{h h':Heap}{x e:Addr}{o':HO}
def HOk.write(ok:HOk P w H h)(g:Mut (H x))(l:e=x\/H e=some (.own x))(k:∀ b u,b ≠ e->h.get? b=some u->h'.get? b=some u)(i:∃ u,h'.get? e=some u)
  (new:ObjOk P w (upd H x o') h' x o'):HOk P w (upd H x o') h':=λb u q=>by
 have a:∀ c y,H c=some (.own y)->c ≠ x:=λc y r z=>by subst z;rw[r] at g;exact g
 have d:∀ c xs,H c=some (.tup xs)->c ≠ x:=λc xs r z=>by subst z;rw[r] at g;exact g
 by_cases hb:b=x
 ·subst hb;rw[K0] at q;cases q;exact new
 ·rw[z0 hb] at q
  by_cases hbe:b=e
  ·have j:H b=some (.own x):=by
    rcases l with z|z
    ·exact absurd (hbe.trans z) hb
    ·rw[hbe];exact z
   rw[q] at j;cases j
   obtain⟨v,m⟩:=i
   exact⟨v,by rw[hbe];exact m⟩
  ·refine(ok b u q).stay (λc v f r=>k c v ?_ r) (λc r=>by rw[z0 (a c b r)];exact r) λc xs r=>by rw[z0 (d c xs r)];exact r
   rcases f with rfl|f
   ·exact hbe
   ·rintro rfl
    rcases l with z|z
    ·exact a c b f z
    ·rw[f] at z;cases z;exact hb rfl
end
structure Un(fs ex:List Addr)(H H':Hp)(h h':Heap):Prop where
 keep:∀ b o,h.get? b=some o->H b=none->b ∉ fs->b ∉ ex->h'.get? b=some o
 slot:∀ b o,h.get? b=some o->H b=none->b∈fs->b ∉ ex->∃ sl,h'.get? b=some { o with slots:=sl }
 free:∀ b o,h.get? b=some o->H b=none->b ∉ ex->H' b=none
 there:∀ b o,h.get? b=some o->b ∉ ex->∃ o',h'.get? b=some o'
 tups:∀ b xs,H b=some (.tup xs)->H' b=some (.tup xs)
 frzs:∀ b o u,H b=some (.frz o u)->H' b=some (.frz o u)
 tbls:∀ b ps,H b=some (.tbl ps)->∃ more,H' b=some (.tbl (ps++more))
section
variable{fs fs' ex ex':List Addr}{H H1 H2:Hp}{h h1 h2 h':Heap}{a x e:Addr}{o:HO}
def Un.any(u:Un fs ex H H1 h h1){b:Addr}{a:Obj}(q:h.get? b=some a)(n:H b=none)(c:b ∉ ex):∃ sl,h1.get? b=some { a with slots:=sl }:=by
 by_cases hb:b∈fs
 ·exact u.slot b a q n hb c
 ·exact⟨a.slots,u.keep b a q n hb c⟩
def Un.kept(k:∀ b u,h.get? b=some u->h'.get? b=some u):Un fs ex H H h h' :=
 ⟨λb a q _ _ _=>k b a q,λb a q _ _ _=>⟨a.slots,k b a q⟩,λ_ _ _ n _=>n,λb a q _=>⟨a,k b a q⟩,λ_ _ q=>q,λ_ _ _ q=>q,λ_ ps q=>⟨#[],by rw[q];simp⟩⟩
def Un.refl:Un fs ex H H h h:=Un.kept λ_ _ q=>q
def Un.laid(k:∀ b u,h.get? b=some u->h'.get? b=some u)(c:h.objs.size<=a)(hn:H a=none):Un fs ex H (upd H a o) h h' where
 keep:=λb u q _ _ _=>k b u q
 slot:=λb u q _ _ _=>⟨u.slots,k b u q⟩
 free:=λb u q n _=>by rw[z0 (O1 (E4 (Q0 q) c))];exact n
 there:=λb u q _=>⟨u,k b u q⟩
 tups:=λb xs q=>by rw[z0 (V2 q hn)];exact q
 frzs:=λb u xs q=>by rw[z0 (V2 q hn)];exact q
 tbls:=λb ps q=>⟨#[],by rw[z0 (V2 q hn),q];simp⟩
def Un.write(a:Mut (H x))(f:e=x\/H e=some (.own x))(k:∀ b u,b ≠ e->h.get? b=some u->h'.get? b=some u)(c:∃ u,h'.get? e=some u):Un fs ex H (upd H x o) h h':=by
 have d:∀ b,H b=none->b ≠ x:=λb n z=>by subst z;rw[n] at a;exact a
 have hb:∀ b,H b=none->b ≠ e:=λb n z=>by
  subst z
  rcases f with r|r
  ·exact d b n r
  ·rw[n] at r;cases r
 have hm:∀ b u,H b=some u->¬ Mut (some u)->b ≠ x:=λb u q nm z=>by subst z;rw[q] at a;exact nm a
 refine⟨λb u q n _ _=>k b u (hb b n) q,λb u q n _ _=>⟨u.slots,k b u (hb b n) q⟩,λb u q n _=>by rw[z0 (d b n)];exact n,λb u q _=>?_,
  λb xs q=>by rw[z0 (hm b _ q λz=>z)];exact q,λb u xs q=>by rw[z0 (hm b _ q λz=>z)];exact q,λb ps q=>⟨#[],by rw[z0 (hm b _ q λz=>z),q];simp⟩⟩
 by_cases hbe:b=e
 ·subst hbe;exact c
 ·exact⟨u,k b u hbe q⟩
end
def trk(h:Heap)(H:Hp):List Addr:=(List.range h.objs.size).filter λa=>(H a).isSome
def hidT(h:Heap)(H:Hp):Heap:=PySem.W.hideAll h (trk h H)
def RM(h:Heap)(H:Hp):(hidT h H).objs.size=h.objs.size:=PySem.W.hideAll_size _ _
def HR{h:Heap}{H:Hp}{b:Addr}{o:Obj}(e:h.get? b=some o)(n:H b=none):(hidT h H).get? b=some o :=
 PySem.W.hideAll_get _ e λhm=>by
  have q:(H b).isSome=true:=(List.mem_filter.mp hm).2
  rw[n] at q;simp at q
def xJ{h:Heap}{H:Hp}{b:Addr}{o:Obj}(e:(hidT h H).get? b=some o):h.get? b=some o/\H b=none:=by
 have a:h.get? b=some o:=PySem.W.of_hideAll (trk h H) e
 refine⟨a,?_⟩
 cases q:H b with
 |none=>rfl
 | some x =>
  have hm:b∈trk h H:=List.mem_filter.mpr ⟨l2.mpr (Q0 a),by simp[q]⟩
  have z:(hidT h H).get? b=none:=PySem.W.hideAll_none (trk h H) hm
  rw[z] at e;cases e
def iM(g h:Heap)(L:Addr):List (Addr × Obj):=(List.range h.objs.size).filterMap λa=>if a=L\/(g.get? a).isSome=true then none else (h.get? a).map λo=>(a,o)
def rest(g h:Heap)(L d:Addr):List (Addr × Obj):=(iM g h L).filter λp=>decide (p.1 ≠ d)
structure Mod(K:Frag)(mg:Str->Option Value)(base:Heap):Prop where
 kin:K.In base
 glob:base.Ns mainGlobals mg
 blt:∃ mb,base.Ns builtinsNs mb/\∀ x:Str,x ≠ "__name__"->mb x=bootBuiltins x
 nolimit:base.NoLimit
/-- the context: a def's body (or a comprehension's block) running. base: fixed through the whole law; s₀, H₀: the entry; outer: the frames whose slots others may change (a def's callers); stack: all frames that run;
  ex: iterators that were made ahead of the entry and are walked here (a comprehension's);fn: the names whose cells were made at the entry (a def: all;a comprehension's block: its own);calm: not within an except suite;pn: pins that every state bears;xe: what is wanted of an exception that leaves the code -/
structure Cx where
 prog:Program
 w:World
 K:Frag
 mg:Str->Option Value
 base:Heap
 A:Around
 N:List Str
 s₀:Shared
 H₀:Hp
 env:Env
 outer:List Env
 stack:List Env
 ex:List Addr
 fn:Str->Bool
 calm:Bool
 pn:List (Addr × Obj)
 xe:Value->Shared->Prop
def frs(l:List Env):List Addr:=l.filterMap (·.frame)
abbrev Cx.fs(X:Cx):List Addr:=frs X.outer
def Vis(sc:Scope)(x:Str):Prop:=sc.names.lookup x=some .local\/sc.names.lookup x=some .cell\/sc.names.lookup x=some .free
def Loc(sc:Scope)(x:Str):Prop:=sc.names.lookup x=some .local\/sc.names.lookup x=some .cell
def Look(env:Env)(h:Heap)(m:Str->Option Value)(x:Str)(u:Value):Prop :=
 (env.kindOf x=some .local/\m x=some u)\/((env.kindOf x=some .cell\/env.kindOf x=some .free)/\∃ c,env.cells.lookup x=some c/\h.IsCell c (some u))
structure Cx.Ok(X:Cx):Prop where
 mod:Mod X.K X.mg X.base
 kind:X.env.scope.kind=.function
 glob:X.env.globals=mainGlobals
 blt:X.env.builtins=builtinsNs
 above:X.s₀.heap.objs.size<=X.env.locals
 inj:∀ x y c,X.env.cells.lookup x=some c->X.env.cells.lookup y=some c->x=y
 has:∀ x,(X.env.kindOf x=some .cell\/X.env.kindOf x=some .free)->∃ c,X.env.cells.lookup x=some c
 cab:∀ x c,X.fn x=true->X.env.cells.lookup x=some c->X.s₀.heap.objs.size<=c
 hd:X.calm=true->X.A.handled=none
 frames:X.A.frames=some X.stack
 stk:X.stack=X.outer\/(X.stack=X.env::X.outer/\X.env.frame=some X.env.locals)
 exf:∀ b∈X.ex,b ≠ X.env.locals/\∀ x c,X.env.cells.lookup x=some c->c ≠ b
 bs:∀ b o,X.base.get? b=some o->X.s₀.heap.get? b=some o/\X.H₀ b=none
 bsz:X.base.objs.size<=X.s₀.heap.objs.size
 noex:∀ b o,X.base.get? b=some o->b ∉ X.ex
 exfs:∀ b∈X.ex,b ∉ X.fs
 funs:X.s₀.heap.FunFrames X.base X.outer
 frf:∀ b∈X.fs,X.H₀ b=none
structure Inv(X:Cx)(pins:List (Addr × Obj))(σ:List (Option V))(H:Hp)(s:Shared):Prop where
 ok:X.Ok
 os:s.os=X.s₀.os
 bare:AllBare s.gens
 base:Un X.fs X.ex X.H₀ H X.s₀.heap s.heap
 loc:∃ m,s.heap.Ns X.env.locals m/\∀(i:Nat)(x:Str)(v:V),X.N[i]?=some x->σ[i]?=some (some v)->Vis X.env.scope x->∃ u,RelV v u/\Look X.env s.heap m x u
 cell:∀ x c,X.env.cells.lookup x=some c->∃ v,s.heap.IsCell c v
 free:H X.env.locals=none
 freeC:∀ x c,X.env.cells.lookup x=some c->H c=none
 pin:∀ p∈X.pn++pins,s.heap.get? p.1=some p.2/\H p.1=none/\p.1 ≠ X.env.locals/\p.1 ∉ X.fs/\∀ v,p.2.data ≠ .cell v
 hok:HOk X.prog X.w H s.heap
 len : σ.length=X.N.length
section
variable{X:Cx}{pins:List (Addr × Obj)}{σ:List (Option V)}{H H':Hp}{s:Shared}{h':Heap}
def Cx.Ok.nofr(ok:X.Ok){b:Addr}{o:Obj}(e:X.base.get? b=some o):b ∉ X.fs:=λhb=>by
 have:=(ok.funs.mem hb).1
 rw[e] at this;cases this
def Inv.bs(I:Inv X pins σ H s):∀ b o,X.base.get? b=some o->s.heap.get? b=some o/\H b=none:=λb o e =>
 ⟨I.base.keep b o (I.ok.bs b o e).1 (I.ok.bs b o e).2 (I.ok.nofr e) (I.ok.noex b o e),I.base.free b o (I.ok.bs b o e).1 (I.ok.bs b o e).2 (I.ok.noex b o e)⟩
def Inv.bk(I:Inv X pins σ H s):∀ b o,X.base.get? b=some o->s.heap.get? b=some o:=λb o e=>(I.bs b o e).1
def Inv.mod(I:Inv X pins σ H s):Mod X.K X.mg X.base:=I.ok.mod
def Inv.kIn(I:Inv X pins σ H s):X.K.In s.heap:=I.ok.mod.kin.keeps I.bk
def Inv.lt(I:Inv X pins σ H s):X.env.locals<s.heap.objs.size:=let ⟨_,hn,_⟩:=I.loc;hn.lt
def Inv.sz(I:Inv X pins σ H s):X.s₀.heap.objs.size<=s.heap.objs.size:=T2 I.ok.above (m5 I.lt)
def Inv.nofs(I:Inv X pins σ H s){a:Addr}(h:s.heap.objs.size<=a):a ∉ X.fs:=λhb=>by
 obtain⟨_,o,b,_⟩:=I.ok.funs.mem hb
 exact absurd (E4 (Q0 b) (T2 I.sz h)) (S4 _)
def Inv.cne(I:Inv X pins σ H s):∀ x c,X.env.cells.lookup x=some c->c ≠ X.env.locals:=λx c e z=>by
 obtain⟨v,o,d,hd⟩:=I.cell x c e
 obtain⟨m,⟨o',es,ep,a,b,_⟩,_⟩:=I.loc
 rw[z,a] at d;cases d;rw[b] at hd;cases hd
def Inv.funs(I:Inv X pins σ H s):s.heap.FunFrames X.base X.outer:=by
 have all:∀(l:List Env),(∀ b∈frs l,b∈X.fs)->X.s₀.heap.FunFrames X.base l->s.heap.FunFrames X.base l:=by
  intro l
  induction l with
  |nil=>intro _ _;trivial
  | cons env r ih =>
   intro hs g
   obtain⟨c,⟨L,o,hf,hn,d,hd⟩,f⟩:=g
   have a:L∈X.fs:=hs L (by unfold frs;rw[List.filterMap_cons,hf];exact T3)
   obtain⟨sl,e⟩:=I.base.slot L o d (I.ok.frf L a) a λz=>I.ok.exfs L z a
   exact⟨c,⟨L,_,hf,hn,e,hd⟩,ih (λb hb=>hs b (by unfold frs;rw[List.filterMap_cons,hf];exact S3 _ hb)) f⟩
 exact all X.outer (λ_ hb=>hb) I.ok.funs
def Inv.stack(I:Inv X pins σ H s):s.heap.FunFrames X.base X.stack:=by
 rcases I.ok.stk with e|⟨e,hf⟩
 ·rw[e];exact I.funs
 ·rw[e]
  obtain⟨m,hn,_⟩:=I.loc
  refine .cons (by rw[I.ok.kind];decide) hf hn ?_ I.funs
  exact Heap.get?_none_of_le (T2 I.ok.bsz I.ok.above)
def Inv.stkSub(I:Inv X pins σ H s):∀ b∈frs X.stack,b∈X.env.locals::X.fs:=λb hb=>by
 rcases I.ok.stk with e|⟨e,hf⟩
 ·rw[e] at hb;exact S3 _ hb
 ·rw[e] at hb
  unfold frs at hb
  rw[List.filterMap_cons,hf] at hb
  exact hb
def Inv.stkFree(I:Inv X pins σ H s):∀ b∈frs X.stack,H b=none:=λb hb=>by
 rcases Z0.mp (I.stkSub b hb) with e|hb
 ·rw[e];exact I.free
 ·obtain⟨_,o,a,_⟩:=I.ok.funs.mem hb
  exact I.base.free b o a (I.ok.frf b hb) λz=>I.ok.exfs b z hb
def Inv.step{g':Array GenState}{t':Nat}{d':Drawn}{ch:List Addr}(I:Inv X pins σ H s)
  (h:∀ b∈ch,(b∈X.ex\/X.s₀.heap.objs.size<=b)/\b ≠ X.env.locals/\(∀ x c,X.env.cells.lookup x=some c->c ≠ b)/\∀ p∈X.pn++pins,p.1 ≠ b)
  (keep:∀ b o,b ≠ X.env.locals->b ∉ X.fs->b ∉ ch->s.heap.get? b=some o->H b=none->h'.get? b=some o)
  (slot:∀ b o,b ≠ X.env.locals->b∈X.fs->b ∉ ch->s.heap.get? b=some o->H b=none->∃ sl,h'.get? b=some { o with slots:=sl }) (free:∀ b o,b ∉ ch->s.heap.get? b=some o->H b=none->H' b=none)
  (there:∀ b o,b ∉ ch->s.heap.get? b=some o->∃ o',h'.get? b=some o')
  (tups:∀ b xs,H b=some (.tup xs)->H' b=some (.tup xs)) (frzs:∀ b o u,H b=some (.frz o u)->H' b=some (.frz o u)) (tbls:∀ b ps,H b=some (.tbl ps)->∃ more,H' b=some (.tbl (ps++more)))
  (ns:∀ m,s.heap.Ns X.env.locals m->h'.Ns X.env.locals m) (hok:HOk X.prog X.w H' h') (M:AllBare g') :
  Inv X pins σ H' { s with heap:=h',gens:=g',drawn:=d',toks:=t' }:=by
 have B:∀ b o,X.s₀.heap.get? b=some o->b ≠ X.env.locals:=λb o e=>O1 (E4 (Q0 e) I.ok.above)
 have y:∀ b o,X.s₀.heap.get? b=some o->b ∉ X.ex->b ∉ ch:=λb o e a hb=>by
  rcases(h b hb).1 with z|z
  ·exact a z
  ·exact absurd (E4 (Q0 e) z) (S4 _)
 have g:∀ x c,X.env.cells.lookup x=some c->∀ v,s.heap.IsCell c v->h'.IsCell c v:=λx c e v G=>by
  obtain⟨o,A,hd⟩:=G
  have f:c ∉ ch:=λz=>(h c z).2.2.1 x c e rfl
  by_cases hc:c∈X.fs
  ·obtain⟨sl,q⟩:=slot c o (I.cne x c e) hc f A (I.freeC x c e)
   exact⟨_,q,hd⟩
  ·exact⟨o,keep c o (I.cne x c e) hc f A (I.freeC x c e),hd⟩
 refine⟨I.ok,I.os,M,⟨λb o e n hb a=>?_,λb o e n hb a=>?_,λb o e n a=>?_,λb o e a=>?_,λb xs e=>tups b xs (I.base.tups b xs e),λb o xs e=>frzs b o xs (I.base.frzs b o xs e),λb ps e=>?_⟩,?_,λx c e=>?_,?_,λx c e=>?_,λp E=>?_,hok,I.len⟩
 ·exact keep b o (B b o e) hb (y b o e a) (I.base.keep b o e n hb a) (I.base.free b o e n a)
 ·obtain⟨sl,j⟩:=I.base.slot b o e n hb a
  obtain⟨C,e2⟩:=slot b _ (B b o e) hb (y b o e a) j (I.base.free b o e n a)
  exact⟨C,e2⟩
 ·obtain⟨o',j⟩:=I.base.there b o e a
  exact free b o' (y b o e a) j (I.base.free b o e n a)
 ·obtain⟨o',j⟩:=I.base.there b o e a
  exact there b o' (y b o e a) j
 ·obtain⟨J,j⟩:=I.base.tbls b ps e
  obtain⟨K,e2⟩:=tbls b _ j
  exact⟨J++K,by rw[e2,Array.append_assoc]⟩
 ·obtain⟨m,hn,L⟩:=I.loc
  refine⟨m,ns m hn,λi x v j e2 F=>?_⟩
  obtain⟨u,r,l⟩:=L i x v j e2 F
  refine⟨u,r,?_⟩
  rcases l with l|⟨k,c,e,z⟩
  ·exact .inl l
  ·exact .inr ⟨k,c,e,g x c e _ z⟩
 ·obtain⟨v,z⟩:=I.cell x c e
  exact⟨v,g x c e v z⟩
 ·obtain⟨m,⟨o,_,_,A,_⟩,_⟩:=I.loc
  exact free _ o (λz=>(h _ z).2.1 rfl) A I.free
 ·obtain⟨v,o,A,hd⟩:=I.cell x c e
  exact free c o (λz=>(h c z).2.2.1 x c e rfl) A (I.freeC x c e)
 ·obtain⟨e,n,ne,D,d⟩:=I.pin p E
  have f:p.1 ∉ ch:=λz=>(h p.1 z).2.2.2 p E rfl
  exact⟨keep p.1 p.2 ne D f e n,free p.1 p.2 f e n,ne,D,d⟩
def Inv.un{t':Nat}(I:Inv X pins σ H s)(u:Un X.fs [] H H' s.heap h')(hok:HOk X.prog X.w H' h'):Inv X pins σ H' { s with heap:=h',toks:=t' }:=by
 obtain⟨m,⟨o,es,ep,f,r⟩,_⟩:=id I.loc
 obtain⟨sl,h⟩:=u.any f I.free (by simp)
 exact I.step (g':=s.gens) (d':=s.drawn) (ch:=[]) (λ_ z=>nomatch z) (λb o _ hb _ e n=>u.keep b o e n hb (by simp)) (λb o _ hb _ e n=>u.slot b o e n hb (by simp)) (λb o _ e n=>u.free b o e n (by simp)) (λb o _ e=>u.there b o e (by simp)) u.tups u.frzs u.tbls (λi hm=>by
  obtain⟨o',c,d,a,g⟩:=hm
  rw[f] at a;cases a
  exact⟨_,c,d,h,g⟩) hok I.bare
def Inv.call{g':Array GenState}{t':Nat}{d':Drawn}{ch:List Addr}(I:Inv X pins σ H s)(u:Un (frs X.stack) ch H H' s.heap h')(hok:HOk X.prog X.w H' h')(q:AllBare g')
  (f:∀ b∈ch,(b∈X.ex\/X.s₀.heap.objs.size<=b)/\b ≠ X.env.locals/\(∀ x c,X.env.cells.lookup x=some c->c ≠ b)/\∀ p∈X.pn++pins,p.1 ≠ b) :
  Inv X pins σ H' { s with heap:=h',gens:=g',drawn:=d',toks:=t' }:=by
 obtain⟨m,⟨o,es,ep,j,r⟩,_⟩:=id I.loc
 obtain⟨sl,i⟩:=u.any j I.free λz=>(f _ z).2.1 rfl
 exact I.step (ch:=ch) f (λb o i hb a e n=>u.keep b o e n (λz=>(Z0.mp (I.stkSub b z)).elim i hb) a) (λb o _ _ a e n=>u.any e n a) (λb o a e n=>u.free b o e n a) (λb o a e=>u.there b o e a) u.tups u.frzs u.tbls (λv hm=>by
  obtain⟨o',g,h,d,l⟩:=hm
  rw[j] at d;cases d
  exact⟨_,g,h,i,l⟩) hok q
def Inv.turned{t':Nat}{it:Addr}(I:Inv X pins σ H s)(k:∀ b o,b ≠ it->s.heap.get? b=some o->h'.get? b=some o)(hn:H it=none)(f:it ≠ X.env.locals)
  (j:it∈X.ex\/X.s₀.heap.objs.size<=it) (h:∀ x c,X.env.cells.lookup x=some c->c ≠ it) (i:∀ p∈X.pn++pins,p.1 ≠ it):Inv X pins σ H { s with heap:=h',toks:=t' }:=by
 have d:∀ b u,H b=some u->b ≠ it:=λb u e z=>by rw[z,hn] at e;cases e
 refine I.step (g':=s.gens) (d':=s.drawn) (ch:=[it]) (λb hb=>?_) (λb o _ _ a e _=>k b o (λz=>a (by simp[z])) e) (λb o _ _ a e _=>⟨o.slots,k b o (λz=>a (by simp[z])) e⟩) (λ_ _ _ _ n=>n)
  (λb o a e=>⟨o,k b o (λz=>a (by simp[z])) e⟩) (λ_ _ e=>e) (λ_ _ _ e=>e) (λb ps e=>⟨#[],by rw[e];simp⟩) (λm hm=>?_) (λb u e=>?_) I.bare
 ·have e:b=it:=by simpa using hb
  subst e
  exact⟨j,f,h,i⟩
 ·obtain⟨o,es,ep,g,r⟩:=hm
  exact⟨o,es,ep,k _ o (Ne.symm f) g,r⟩
 ·refine(I.hok b u e).stay (λc v a q=>k c v ?_ q) (λ_ q=>q) λ_ _ q=>q
  rcases a with z|z
  ·rw[z];exact d b u e
  ·exact d c _ z
def Inv.tok(I:Inv X pins σ H s)(t:Nat):Inv X pins σ H { s with toks:=t }:=I.un (h':=s.heap) (t':=t) Un.refl I.hok
def Inv.kept{t':Nat}(I:Inv X pins σ H s)(k:∀ b u,s.heap.get? b=some u->h'.get? b=some u):Inv X pins σ H { s with heap:=h',toks:=t' }:=I.un (Un.kept k) (I.hok.kept k)
def Inv.laid{a:Addr}{o:HO}{t':Nat}(I:Inv X pins σ H s)(k:∀ b u,s.heap.get? b=some u->h'.get? b=some u)(c:s.heap.objs.size<=a)(new:ObjOk X.prog X.w (upd H a o) h' a o) :
  Inv X pins σ (upd H a o) { s with heap:=h',toks:=t' }:=I.un (Un.laid k c (I.hok.fresh c)) (I.hok.laid k c new)
def Inv.write{x e:Addr}{o:HO}{t':Nat}(I:Inv X pins σ H s)(d:Mut (H x))(c:e=x\/H e=some (.own x))(k:∀ b u,b ≠ e->s.heap.get? b=some u->h'.get? b=some u)(a:∃ u,h'.get? e=some u)
  (new:ObjOk X.prog X.w (upd H x o) h' x o):Inv X pins σ (upd H x o) { s with heap:=h',toks:=t' }:=I.un (Un.write d c k a) (I.hok.write d c k a new)
def Inv.pins_of{a:List (Addr × Obj)}(I:Inv X pins σ H s)(h:∀ p∈a,s.heap.get? p.1=some p.2/\H p.1=none/\p.1 ≠ X.env.locals/\p.1 ∉ X.fs/\∀ v,p.2.data ≠ .cell v):Inv X a σ H s :=
 ⟨I.ok,I.os,I.bare,I.base,I.loc,I.cell,I.free,I.freeC,λp b=>(E1.mp b).elim (λz=>I.pin p (U4 _ z)) (h p),I.hok,I.len⟩
def nodup_ix{N:List Str}(c:N.Nodup){i j:Nat}{x:Str}(a:N[i]?=some x)(b:N[j]?=some x):i=j:=by
 obtain⟨g,d⟩:=J1.mp a
 obtain⟨f,e2⟩:=J1.mp b
 exact(List.getElem_inj c).mp (d.trans e2.symm)
def yF{M:Model}{A:Around}{E:Value->Shared->Prop}{i:Nat}{x:Str}{v:V}{u:Value}{Q:Unit->Shared->Prop}(I:Inv X pins σ H s)(hN:X.N.Nodup)(hi:X.N[i]?=some x)(B:Loc X.env.scope x)(r:RelV v u)
  (h:∀ Z,Inv X pins (σ.set i (some v)) H Z->(∃ a,Heap.SameBut a s.heap Z.heap/\(a=X.env.locals\/X.env.cells.lookup x=some a))->Q () Z) (hf:X.fn x=true\/X.env.scope.names.lookup x=some .local:=by first|exact .inl rfl|exact .inr rfl|assumption):wpAny M A (storeName X.env x u) Q E s:=by
 obtain⟨m,hn,hl⟩:=id I.loc
 have K:(X.env.scope.kind == .class || (X.env.scope.kind == .module && X.env.locals != X.env.globals))=false:=by rw[I.ok.kind];rfl
 have D:i<σ.length:=by rw[I.len];exact(J1.mp hi).1
 have cne:=I.cne
 have g:∀{a:Addr}{h':Heap},(∃ o,s.heap.get? a=some o/\H a=none)->Heap.SameBut a s.heap h'->HOk X.prog X.w H h':=λ{a h'} ha hs b ob e=>by
  obtain⟨_,_,C⟩:=ha
  refine(I.hok b ob e).stay (λc R l q=>(hs.2 c ?_).trans q) (λ_ q=>q) λ_ _ q=>q
  rintro rfl
  rcases l with rfl|l
  ·rw[C] at e;cases e
  ·rw[C] at l;cases l
 rcases B with F|F
 ·refine wpAny_storeName_local F hn (λh' S hs=>?_) K
  obtain⟨oL,_,_,U,_⟩:=id hn
  refine h _ ⟨I.ok,I.os,I.bare,⟨λb o e n hb B=>?_,λb o e n hb B=>?_,I.base.free,λb o e B=>?_,I.base.tups,I.base.frzs,I.base.tbls⟩,⟨_,S,λj y v' f e2 e3=>?_⟩,λy c e=>?_,I.free,I.freeC,λp Y=>?_,g ⟨oL,U,I.free⟩ hs,by simpa using I.len⟩ ⟨_,hs,.inl rfl⟩
  ·exact(hs.2 b (O1 (E4 (Q0 e) I.ok.above))).trans (I.base.keep b o e n hb B)
  ·obtain⟨sl,f⟩:=I.base.slot b o e n hb B
   exact⟨sl,(hs.2 b (O1 (E4 (Q0 e) I.ok.above))).trans f⟩
  ·obtain⟨o',f⟩:=I.base.there b o e B
   exact⟨o',(hs.2 b (O1 (E4 (Q0 e) I.ok.above))).trans f⟩
  ·by_cases hj:j=i
   ·subst hj
    rw[hi] at f;cases f
    rw[List.getElem?_set_self D] at e2
    cases e2
    exact⟨u,r,.inl ⟨F,by simp⟩⟩
   ·rw[List.getElem?_set_ne (Ne.symm hj)] at e2
    obtain⟨T,r',q⟩:=hl j y v' f e2 e3
    refine⟨T,r',?_⟩
    rcases q with ⟨k,e⟩|⟨k,c,e,z⟩
    ·refine .inl ⟨k,?_⟩
     have:y ≠ x:=λe=>hj (nodup_ix hN f (e ▸ hi))
     simp[this,e]
    ·exact .inr ⟨k,c,e,z.sameBut hs (cne y c e)⟩
  ·obtain⟨R,z⟩:=I.cell y c e
   exact⟨R,z.sameBut hs (cne y c e)⟩
  ·obtain⟨e,n,ne,W,d⟩:=I.pin p Y
   exact⟨(hs.2 p.1 ne).trans e,n,ne,W,d⟩
 ·have G:X.fn x=true:=by
   rcases hf with z|z
   ·exact z
   ·rw[z] at F;cases F
  obtain⟨c,l⟩:=I.ok.has x (.inl F)
  obtain⟨R,z⟩:=I.cell x c l
  refine wpAny_storeName_cell I.ok.kind F l z (λh' L hs=>?_)
  obtain⟨oc,O,J⟩:=id z
  refine h { s with heap:=h' } ⟨I.ok,I.os,I.bare,⟨λb o e n hb B=>?_,λb o e n hb B=>?_,I.base.free,λb o e B=>?_,I.base.tups,I.base.frzs,I.base.tbls⟩,⟨m,hn.sameBut hs (Ne.symm (cne x c l)),λj y v' f e2 e3=>?_⟩,λy P e=>?_,I.free,I.freeC,λp Y=>?_,g ⟨oc,O,I.freeC x c l⟩ hs,by simpa using I.len⟩ ⟨c,hs,.inr l⟩
  ·exact(hs.2 b (O1 (E4 (Q0 e) (I.ok.cab x c G l)))).trans (I.base.keep b o e n hb B)
  ·obtain⟨sl,f⟩:=I.base.slot b o e n hb B
   exact⟨sl,(hs.2 b (O1 (E4 (Q0 e) (I.ok.cab x c G l)))).trans f⟩
  ·obtain⟨o',f⟩:=I.base.there b o e B
   exact⟨o',(hs.2 b (O1 (E4 (Q0 e) (I.ok.cab x c G l)))).trans f⟩
  ·by_cases hj:j=i
   ·subst hj
    rw[hi] at f;cases f
    rw[List.getElem?_set_self D] at e2
    cases e2
    exact⟨u,r,.inr ⟨.inl F,c,l,L⟩⟩
   ·rw[List.getElem?_set_ne (Ne.symm hj)] at e2
    obtain⟨T,r',q⟩:=hl j y v' f e2 e3
    refine⟨T,r',?_⟩
    rcases q with q|⟨k,P,e,z'⟩
    ·exact .inl q
    ·refine .inr ⟨k,P,e,z'.sameBut hs ?_⟩
     rintro rfl
     exact hj (nodup_ix hN f (I.ok.inj _ _ _ e l ▸ hi))
  ·by_cases hcc:P=c
   ·subst hcc;exact⟨_,L⟩
   ·obtain⟨w2,z2⟩:=I.cell y P e
    exact⟨w2,z2.sameBut hs hcc⟩
  ·obtain⟨e,n,ne,W,d⟩:=I.pin p Y
   refine⟨(hs.2 p.1 ?_).trans e,n,ne,W,d⟩
   intro q
   rw[q,O] at e
   have q':oc=p.2:=M3 e
   exact d R (by rw[← q'];exact J)
def oC{M:Model}{A:Around}{E:Value->Shared->Prop}{i:Nat}{x:Str}{v:V}{u:Value}{Q:Unit->Shared->Prop}(I:Inv X pins σ H s)(c:X.N.Nodup)(hi:X.N[i]?=some x)(d:Loc X.env.scope x)(r:RelV v u)
  (h:∀ a,Inv X pins (σ.set i (some v)) H a->Q () a) (hf:X.fn x=true\/X.env.scope.names.lookup x=some .local:=by first|exact .inl rfl|exact .inr rfl|assumption):wpAny M A (storeName X.env x u) Q E s :=
 yF I c hi d r (λa b _=>h a b) hf
def Inv.call'{a:Shared}{ch:List Addr}(I:Inv X pins σ H s)(f:a.os=s.os)(u:Un (frs X.stack) ch H H' s.heap a.heap)(hok:HOk X.prog X.w H' a.heap)(g:AllBare a.gens)
  (d:∀ b∈ch,(b∈X.ex\/X.s₀.heap.objs.size<=b)/\b ≠ X.env.locals/\(∀ x c,X.env.cells.lookup x=some c->c ≠ b)/\∀ p∈X.pn++pins,p.1 ≠ b):Inv X pins σ H' a:=by
 obtain⟨h',g',d',t',o'⟩:=a
 have e:o'=s.os:=f
 subst e
 exact I.call (g':=g') (t':=t') (d':=d') u hok g d
end
abbrev XK:=Value->Option Addr->Hp->Prop
abbrev St:=List (Option V)
abbrev VK:=V->Hp->Prop
abbrev TE:=St->Hp->VK->Prop
abbrev TT:=St->Hp->(Bool->Hp->Prop)->Prop
abbrev TA:=St->Hp->(List V->Hp->Prop)->Prop
structure Ends where
 nx:St->Hp->Prop
 rt:VK
 bk:St->Hp->Prop:=λ_ _=>False
 ct:St->Hp->Prop:=λ_ _=>False
abbrev TS:=Ends->St->Hp->Prop
def EP(X:Cx)(pins:List (Addr × Obj))(σ:St)(Q:VK)(u:Value)(s':Shared):Prop:=∃ v H',Inv X pins σ H' s'/\RelV v u/\Q v H'
def TP(X:Cx)(pins:List (Addr × Obj))(σ:St)(Q:Bool->Hp->Prop)(b:Bool)(s':Shared):Prop:=∃ H',Inv X pins σ H' s'/\Q b H'
def AP(X:Cx)(pins:List (Addr × Obj))(σ:St)(Q:List V->Hp->Prop)(us:List Value)(s':Shared):Prop:=∃ vs H',Inv X pins σ H' s'/\Vals vs us/\Q vs H'
def SP(X:Cx)(pins:List (Addr × Obj))(D:Ends)(f:Flow)(s':Shared):Prop :=
 match f with
 | .next=>∃ σ' H',Inv X pins σ' H' s'/\D.nx σ' H'
 | .brk=>∃ σ' H',Inv X pins σ' H' s'/\D.bk σ' H'
 | .cont=>∃ σ' H',Inv X pins σ' H' s'/\D.ct σ' H'
 | .ret u=>∃ v σ' H',Inv X pins σ' H' s'/\RelV v u/\D.rt v H'
def PE(X:Cx)(e:Expr)(t:TE):Prop :=
 ∀(pins:List (Addr × Obj))(s:Shared)(σ:St)(H:Hp)(Q:VK),Inv X pins σ H s->t σ H Q->wpAny (model X.prog X.w) X.A (eval e X.env) (EP X pins σ Q) X.xe s
def PT(X:Cx)(e:Expr)(t:TT):Prop :=
 ∀(pins:List (Addr × Obj))(s:Shared)(σ:St)(H:Hp)(Q:Bool->Hp->Prop),Inv X pins σ H s->t σ H Q->wpAny (model X.prog X.w) X.A (isTrue e X.env (eval e X.env)) (TP X pins σ Q) X.xe s
def PW(X:Cx)(e:Expr)(t:TT):Prop :=
 ∀(whole:Sem Value)(pins:List (Addr × Obj))(s:Shared)(σ:St)(H:Hp)(Q:Bool->Hp->Prop),Inv X pins σ H s->t σ H Q->wpAny (model X.prog X.w) X.A (isTrue e X.env whole) (TP X pins σ Q) X.xe s
def PW.pt{X:Cx}{e:Expr}{t:TT}(h:PW X e t):PT X e t:=h _
def PA(X:Cx)(es:List Expr)(t:TA):Prop :=
 ∀(pos:Pos)(pins:List (Addr × Obj))(s:Shared)(σ:St)(H:Hp)(Q:List V->Hp->Prop),Inv X pins σ H s->t σ H Q->wpAny (model X.prog X.w) X.A (spliced (backTo pos (starEach es X.env))) (AP X pins σ Q) X.xe s
def PS(X:Cx)(st:Stmt)(t:TS):Prop :=
 ∀(pins:List (Addr × Obj))(s:Shared)(σ:St)(H:Hp)(D:Ends),Inv X pins σ H s->t D σ H->wpAny (model X.prog X.w) X.A (exec st X.env) (SP X pins D) X.xe s
def PSs(X:Cx)(st:List Stmt)(t:TS):Prop :=
 ∀(pins:List (Addr × Obj))(s:Shared)(σ:St)(H:Hp)(D:Ends),Inv X pins σ H s->t D σ H->wpAny (model X.prog X.w) X.A (execs st X.env) (SP X pins D) X.xe s
def thn{α:Type}{t:Sem α}{Q Q' : α->Shared->Prop}{M:Model}{A:Around}{E:Value->Shared->Prop}{s:Shared}(h:wpAny M A t Q E s)(b:∀ a s,Q a s->Q' a s):wpAny M A t Q' E s:=n4 h b λ_ _ x=>x
section
variable{X:Cx}
def tVar(i:Nat):TE:=λσ H Q=>∃ v,σ[i]?=some (some v)/\Q v H
def tC(v:V):TE:=λ_ H Q=>Q v H
def oK{i:Nat}{x:Str}{d:Pos}(j:X.N[i]?=some x)(n:Vis X.env.scope x)(hd:(x == ("__debug__" : Str))=false:=by decide)(f:(x == ("__classdict__" : Str))=false:=by decide):PE X (.Name x d) (tVar i):=by
 intro pins s σ H Q I h
 obtain⟨v,e,h⟩:=h
 obtain⟨m,hn,o⟩:=I.loc
 obtain⟨u,r,l⟩:=o i x v j e n
 have fin:EP X pins σ Q u s:=⟨v,H,I,r,h⟩
 rcases l with ⟨b,hm⟩|⟨b,c,g,a⟩
 ·exact wpAny_Name (wpAny_loadName_local I.ok.kind b hn hm fin) hd
 ·rcases b with b|b
  ·exact wpAny_Name (wpAny_loadName_cell I.ok.kind b g a fin) hd
  ·exact wpAny_Name (wpAny_loadName_free I.ok.kind b g a fin f) hd
def q0{i j pos}:PE X (.Constant (.int i) j pos) (tC (.int i)):=λ_ _ _ H _ I h=>wpAny_Constant_int ⟨.int i,H,I.tok _,⟨_,rfl⟩,h⟩
def u4{b j pos}:PE X (.Constant (.bool b) j pos) (tC (.bl b)):=λ_ _ _ H _ I h=>Constant_bool ⟨.bl b,H,I,rfl,h⟩
def Q5{j pos}:PE X (.Constant .none j pos) (tC .non):=λ_ _ _ H _ I h=>Constant_none ⟨.non,H,I,rfl,h⟩
def ZD{x j pos}:PE X (.Constant (.str x) j pos) (tC (.str x)):=λ_ _ _ H _ I h=>Calls.Constant_str ⟨.str x,H,I.tok _,⟨_,rfl⟩,h⟩
def Gl(X:Cx)(x:Str):Prop:=X.env.kindOf x=some .globalImplicit
def AA{E:Value->Shared->Prop}{pins:List (Addr × Obj)}{s:Shared}{σ:St}{H:Hp}{x:Str}{u:Value}{a:Pos}{Q:Value->Shared->Prop}(I:Inv X pins σ H s)(b:Gl X x)(hm:X.mg x=some u)(h:Q u s)
  (hd:(x == ("__debug__" : Str))=false:=by decide):wpAny (model X.prog X.w) X.A (eval (.Name x a) X.env) Q E s :=
 Calls.Name_function_global I.ok.kind b (Calls.loadGlobal_global (by rw[I.ok.glob];exact I.mod.glob.keeps I.bk) hm h) hd
def p8{E:Value->Shared->Prop}{pins:List (Addr × Obj)}{s:Shared}{σ:St}{H:Hp}{x:Str}{u:Value}{a:Pos}{Q:Value->Shared->Prop}(I:Inv X pins σ H s)(f:Gl X x)(hm:X.mg x=none)(c:bootBuiltins x=some u)(h:Q u s)
  (hn:x ≠ "__name__":=by decide) (hd:(x == ("__debug__" : Str))=false:=by decide):wpAny (model X.prog X.w) X.A (eval (.Name x a) X.env) Q E s:=by
 obtain⟨mb,b,d⟩:=I.mod.blt
 exact Calls.Name_function_global I.ok.kind f (Calls.loadGlobal_builtin (by rw[I.ok.glob];exact I.mod.glob.keeps I.bk) hm (by rw[I.ok.blt];exact b.keeps I.bk) ((d x hn).trans c) h) hd
def U6{x:Str}{v:V}{u:Value}{a:Pos}(b:Gl X x)(hm:X.mg x=some u)(r:RelV v u)(hd:(x == ("__debug__" : Str))=false:=by decide):PE X (.Name x a) (tC v) :=
 λ_ _ _ H _ I h=>AA I b hm ⟨v,H,I,r,h⟩ hd
def y9{x:Str}{v:V}{u:Value}{a:Pos}(b:Gl X x)(hm:X.mg x=none)(c:bootBuiltins x=some u)(r:RelV v u)(hn:x ≠ "__name__":=by decide)(hd:(x == ("__debug__" : Str))=false:=by decide):PE X (.Name x a) (tC v) :=
 λ_ _ _ H _ I h=>p8 I b hm c ⟨v,H,I,r,h⟩ hn hd
variable{a b:Expr}{ta tb:TE}{pos:Pos}
def PC(X:Cx)(op:CmpOp)(a b:Expr)(t:TE):Prop :=
 ∀(pins:List (Addr × Obj))(s:Shared)(σ:St)(H:Hp)(Q:VK),Inv X pins σ H s->t σ H Q ->
  wpAny (model X.prog X.w) X.A (eval a X.env) (λv s₁=>wpAny (model X.prog X.w) X.A (eval b X.env) (λu s₂=>wpAny (model X.prog X.w) X.A (compareOp op v u) (EP X pins σ Q) X.xe s₂) X.xe s₁) X.xe s
def tB(t:TE):TT:=λσ H Q=>t σ H λx H1=>∃ c,x=.bl c/\Q c H1
def TQ{op:CmpOp}{t:TE}(h:PC X op a b t)(f:behindInMarks op b=false:=by first|exact nobehind _ (by decide) (by decide)|rfl):PT X (.Compare a [op] [b] pos) (tB t):=by
 intro pins s σ H Q I m
 refine wpAny_isTrue_Compare1 (thn (h pins s σ H _ I m) λv s1 f=>thn f λu s2 n=>thn n λc o ⟨x,l,g,i,j⟩=>?_) f
 obtain⟨d,rfl,q⟩:=j
 cases i
 exact Q7 ⟨l,g,q⟩
def L3{e:Expr}{t:TE}(h:PE X e t)(g:∀ whole,isTrue e X.env whole=(do let v ← whole;standAt e.pos;holding [v] (truthy v)):=by intro _;rfl):PT X e (tB t):=by
 intro pins s σ H Q I i
 refine isTrue_plain (thn (h pins s σ H _ I i) λv s1 ⟨x,f,a,b,c⟩=>?_) (g _)
 obtain⟨d,rfl,q⟩:=c
 cases b
 exact Q7 ⟨f,a,q⟩
variable{tA tB':TT}{rest:List Expr}
def tAnd(t u:TT):TT:=λσ H Q=>t σ H λc H1=>if c=true then u σ H1 Q else Q false H1
def tOr(t u:TT):TT:=λσ H Q=>t σ H λc H1=>if c=true then Q true H1 else u σ H1 Q
def tNot(t:TT):TT:=λσ H Q=>t σ H λc H1=>Q (!c) H1
def k8(ha:PT X a tA):PW X (.BoolOp .And [a] pos) tA:=by
 intro b pins s σ H Q I h
 refine isTrue_and (thn (ha pins s σ H Q I h) λc s1 e=>?_)
 cases c with
 |true=>exact isTrue_and_nil e
 |false=>exact e
def ZC(ha:PT X a tA):PW X (.BoolOp .Or [a] pos) tA:=by
 intro b pins s σ H Q I h
 refine isTrue_or (thn (ha pins s σ H Q I h) λc s1 e=>?_)
 cases c with
 |false=>exact isTrue_or_nil e
 |true=>exact e
def w8(ha:PT X a tA)(hb:PW X (.BoolOp .And (b::rest) pos) tB'):PW X (.BoolOp .And (a::b::rest) pos) (tAnd tA tB'):=by
 intro i pins s σ H Q I h
 refine isTrue_and (thn (ha pins s σ H _ I h) λc s1 ⟨g,d,f⟩=>?_)
 cases c with
 |true=>exact hb i pins s1 σ g Q d f
 |false=>exact⟨g,d,f⟩
def vC(ha:PT X a tA)(hb:PW X (.BoolOp .Or (b::rest) pos) tB'):PW X (.BoolOp .Or (a::b::rest) pos) (tOr tA tB'):=by
 intro i pins s σ H Q I h
 refine isTrue_or (thn (ha pins s σ H _ I h) λc s1 ⟨g,d,f⟩=>?_)
 cases c with
 |true=>exact⟨g,d,f⟩
 |false=>exact hb i pins s1 σ g Q d f
def O3(ha:PT X a tA):PT X (.UnaryOp .Not a pos) (tNot tA):=by
 intro pins s σ H Q I h
 exact isTrue_not (ha pins s σ H (λc b=>Q (!c) b) I h)
def UB(ta tb:TE):TE:=λσ H Q=>ta σ H λx H1=>∃ c,x=.bl c/\if c=true then tb σ H1 Q else Q (.bl false) H1
def fE(ta:TE):TE:=λσ H Q=>ta σ H λx H1=>∃ c,x=.bl c/\Q (.bl (!c)) H1
def v9{op}{t:TE}(h:PE X a t):PE X (.BoolOp op [a] pos) t:=λpins s σ H Q I b=>BoolOp_one (h pins s σ H Q I b)
def n8(ha:PE X a ta)(hb:PE X (.BoolOp .And (b::rest) pos) tb):PE X (.BoolOp .And (a::b::rest) pos) (UB ta tb):=by
 intro pins s σ H Q I h
 refine BoolOp_and (thn (ha pins s σ H _ I h) λv s1 ⟨x,g,f,i,d⟩=>?_)
 obtain⟨c,rfl,d⟩:=d
 cases i
 refine Q7 ?_
 cases c with
 |true=>exact hb pins s1 σ g Q f d
 |false=>exact⟨.bl false,g,f,rfl,d⟩
def xE(ha:PE X a ta):PE X (.UnaryOp .Not a pos) (fE ta):=by
 intro pins s σ H Q I h
 refine UnaryOp_ (thn (ha pins s σ H _ I h) λv s1 ⟨x,g,d,f,b⟩=>?_)
 obtain⟨c,rfl,b⟩:=b
 cases f
 exact not_of (Q7 ⟨.bl (!c),g,d,rfl,b⟩)
def tIf(t:TT)(ta tb:TE):TE:=λσ H Q=>t σ H λc H1=>if c=true then ta σ H1 Q else tb σ H1 Q
def yL{c:Expr}(j:PT X c tA)(ha:PE X a ta)(hb:PE X b tb):PE X (.IfExp c a b pos) (tIf tA ta tb):=by
 intro pins s σ H Q I h
 refine wpAny_IfExp (thn (j pins s σ H _ I h) λd s1 ⟨i,f,g⟩=>?_)
 cases d with
 |true=>exact ha pins s1 σ i Q f g
 |false=>exact hb pins s1 σ i Q f g
end
def SqL(K:Frag)(H:Hp)(a:Addr)(xs:List V):Prop :=
 Rd H a (.lst xs) ∨
  ∃(o:Obj)(its:Array Value)(n:Nat),K.lookup a=some o/\o.cls=.type "list"/\o.dict=none/\o.data=.seq its n/\its.size<=sizeLine/\Vals xs its.toList
def SqT(K:Frag)(H:Hp)(a:Addr)(xs:List V):Prop :=
 Rd H a (.tup xs) ∨
  ∃(o:Obj)(its:Array Value)(n:Nat),K.lookup a=some o/\o.cls=.type "tuple"/\o.data=.seq its n/\its.size<=sizeLine/\Vals xs its.toList
def absV:Value->Option V
 | .none=>some .non
 | .bool b=>some (.bl b)
 | .int i _=>some (.int i)
 | .str x _=>some (.str x)
 | .bytes b _=>some (.byt b)
 | .float b _=>some (.flt b)
 | .ref a=>some (.ref a)
 | .type n=>some (.ty n)
 |_=>none
def RelV.abs{x:V}{u:Value}(r:RelV x u):absV u=some x:=by
 cases x with
 |non=>cases r;rfl
 |bl _=>cases r;rfl
 |int _=>obtain⟨t,rfl⟩:=r;rfl
 |str _=>obtain⟨t,rfl⟩:=r;rfl
 |byt _=>obtain⟨t,rfl⟩:=r;rfl
 |flt _=>obtain⟨t,rfl⟩:=r;rfl
 |ref _=>cases r;rfl
 |ty _=>cases r;rfl
def RelV.inj{x y:V}{u:Value}(r:RelV x u)(q:RelV y u):x=y:=M3 (r.abs.symm.trans q.abs)
def Vals.inj:∀{xs ys:List V}{us:List Value},Vals xs us->Vals ys us->xs=ys
 |_,_,_,.nil,.nil=>rfl
 |_,_,_,.cons r t,.cons r' t'=>by rw[r.inj r',Vals.inj t t']
section
variable{X:Cx}{pins:List (Addr × Obj)}{σ:St}{H:Hp}{s:Shared}{a:Addr}{xs ys:List V}
def SqL.of{K:Frag}(h:H a=some (.lst xs)):SqL K H a xs:=.inl (.inl h)
def SqT.of{K:Frag}(h:H a=some (.tup xs)):SqT K H a xs:=.inl (.inl h)
def Inv.list(I:Inv X pins σ H s)(h:SqL X.K H a xs):∃ its:List Value,Vals xs its/\PlainL s.heap a its.toArray/\xs.length<=sizeLine:=by
 rcases h with h|⟨o,its,n,c,b,hd,hs,hz,r⟩
 ·obtain⟨z,its,n,r,e⟩:=h.ok I.hok
  exact⟨its,r,⟨_,n,e,rfl,rfl,rfl⟩,z⟩
 ·refine⟨its.toList,r,⟨o,n,I.kIn a o c,b,hd,by simpa using hs⟩,?_⟩
  have e:=r.length
  simp only[Array.length_toList] at e
  lia
def Inv.tuple(I:Inv X pins σ H s)(h:SqT X.K H a xs):∃ its:List Value,Vals xs its/\IsTup s.heap a its.toArray/\xs.length<=sizeLine:=by
 rcases h with h|⟨o,its,n,c,b,hs,hz,r⟩
 ·obtain⟨z,its,r,p⟩:=h.ok I.hok
  exact⟨its,r,p,z⟩
 ·refine⟨its.toList,r,⟨o,I.kIn a o c,b,n,by simpa using hs⟩,?_⟩
  have e:=r.length
  simp only[Array.length_toList] at e
  lia
def Inv.list_inj(I:Inv X pins σ H s)(h:SqL X.K H a xs)(h':SqL X.K H a ys):xs=ys:=by
 obtain⟨its,r,⟨o,n,e,_,_,d⟩,_⟩:=I.list h
 obtain⟨its',c,⟨o',g,b,_,_,d'⟩,_⟩:=I.list h'
 rw[e] at b;cases b
 rw[d] at d'
 injection d' with f _
 have:its=its':=by simpa using congrArg Array.toList f
 subst this
 exact r.inj c
end
abbrev Cx.wish(X:Cx)(E:Value->Shared->Prop):Cx:={ X with xe:=E }
abbrev Cx.nox(X:Cx):Cx:=X.wish λ_ _=>False
def Cx.Ok.wish{X:Cx}(ok:X.Ok)(E:Value->Shared->Prop):(X.wish E).Ok :=
 ⟨ok.mod,ok.kind,ok.glob,ok.blt,ok.above,ok.inj,ok.has,ok.cab,ok.hd,ok.frames,ok.stk,ok.exf,ok.bs,ok.bsz,ok.noex,ok.exfs,ok.funs,ok.frf⟩
def Cx.Ok.unwish{X:Cx}{E:Value->Shared->Prop}(ok:(X.wish E).Ok):X.Ok :=
 ⟨ok.mod,ok.kind,ok.glob,ok.blt,ok.above,ok.inj,ok.has,ok.cab,ok.hd,ok.frames,ok.stk,ok.exf,ok.bs,ok.bsz,ok.noex,ok.exfs,ok.funs,ok.frf⟩
section
variable{X:Cx}{pins:List (Addr × Obj)}{σ:St}{H:Hp}{s:Shared}{E:Value->Shared->Prop}
def Inv.wish(I:Inv X pins σ H s)(E:Value->Shared->Prop):Inv (X.wish E) pins σ H s:=⟨I.ok.wish E,I.os,I.bare,I.base,I.loc,I.cell,I.free,I.freeC,I.pin,I.hok,I.len⟩
def Inv.unwish(I:Inv (X.wish E) pins σ H s):Inv X pins σ H s:=⟨I.ok.unwish,I.os,I.bare,I.base,I.loc,I.cell,I.free,I.freeC,I.pin,I.hok,I.len⟩
def SP.unwish{D:Ends}{f:Flow}{b:Shared}(h:SP (X.wish E) pins D f b):SP X pins D f b:=by
 cases f with
 |next=>obtain⟨a,H',I,q⟩:=h;exact⟨a,H',I.unwish,q⟩
 |brk=>obtain⟨a,H',I,q⟩:=h;exact⟨a,H',I.unwish,q⟩
 |cont=>obtain⟨a,H',I,q⟩:=h;exact⟨a,H',I.unwish,q⟩
 |ret u=>obtain⟨v,a,H',I,r,q⟩:=h;exact⟨v,a,H',I.unwish,r,q⟩
def PSs.nox{st:List Stmt}{t:TS}(h:PSs X.nox st t):PSs X st t:=λpins s σ H D I a =>
 n4 (h pins s σ H D (I.wish _) a) (λ_ _ q=>q.unwish) λ_ _ z=>False.elim z
end
section
variable{X:Cx}{st:Stmt}{rest:List Stmt}{t u:TS}{e:Expr}{te:TE}{pos:Pos}
def lD:TS:=λD σ H=>D.nx σ H
def tSeq(t u:TS):TS:=λD σ H=>t { D with nx:=u D } σ H
def W1:PSs X [] lD:=λ_ _ σ H _ I h=>wpAny_execs_nil ⟨σ,H,I,h⟩
def G0(d:PS X st t)(c:PSs X rest u):PSs X (st::rest) (tSeq t u):=by
 intro pins s σ H D I h
 refine wpAny_execs_cons (thn (d pins s σ H { D with nx:=u D } I h) λf s1 q=>?_)
 cases f with
 | next =>
  obtain⟨a,H',b,q⟩:=q
  exact c pins s1 a H' D b q
 |ret v=>exact q
 |brk=>exact q
 |cont=>exact q
def I0(a:PS X st t):PSs X [st] t:=by
 intro pins s σ H D I h
 refine wpAny_execs_cons (thn (a pins s σ H D I h) λf s1 q=>?_)
 cases f with
 |next=>exact wpAny_execs_nil q
 |ret v=>exact q
 |brk=>exact q
 |cont=>exact q
def Inv.quiet{pins:List (Addr × Obj)}{σ:St}{H:Hp}{s:Shared}(I:Inv X pins σ H s):interactive X.env=false:=by simp[interactive,I.ok.kind]
def BD(te:TE):TS:=λD σ H=>te σ H λ_ H1=>D.nx σ H1
def J3(b:PE X e te)(hs:swapsWith e none pos.line X.env=pure false:=by rfl):PS X (.Expr e pos) (BD te):=by
 intro pins s σ H D I h
 exact wpAny_Expr_any (thn (b pins s σ H _ I h) λv s1 ⟨x,d,a,f,c⟩=>⟨σ,d,a,c⟩) I.quiet hs
def tRet(te:TE):TS:=λD σ H=>te σ H D.rt
def U0(c:PE X e te):PS X (.Return (some e) pos) (tRet te):=by
 intro pins s σ H D I h
 exact wpAny_Return_some (thn (c pins s σ H _ I h) λv s1 ⟨x,f,a,b,d⟩=>⟨x,σ,f,a,b,d⟩)
def tIfS(c:TT)(t u:TS):TS:=λD σ H=>c σ H λb H1=>if b=true then t D σ H1 else u D σ H1
def U1{c:Expr}{a b:List Stmt}{j:TT}(l:PT X c j)(ha:PSs X a t)(hb:PSs X b u):PS X (.If c a b pos) (tIfS j t u):=by
 intro pins s σ H D I h
 refine wpAny_If (thn (l pins s σ H _ I h) λd s1 ⟨i,f,g⟩=>?_)
 cases d with
 |true=>exact ha pins s1 σ i D f g
 |false=>exact hb pins s1 σ i D f g
def gH:TS:=λ_ _ _=>False
def K9:PS X st gH:=λ_ _ _ _ _ _ h=>h.elim
def T9{a:List Stmt}:PSs X a gH:=λ_ _ _ _ _ _ h=>h.elim
end
abbrev TG:=V->St->Hp->(St->Hp->Prop)->Prop
abbrev TGs:=List V->St->Hp->(St->Hp->Prop)->Prop
def PG(X:Cx)(target:Expr)(t:TG):Prop :=
 ∀(pins:List (Addr × Obj))(s:Shared)(σ:St)(H:Hp)(v:V)(u:Value)(Q:St->Hp->Prop),Inv X pins σ H s->RelV v u->t v σ H Q ->
  wpAny (model X.prog X.w) X.A (assign target X.env u) (λ_ s'=>∃ σ' H',Inv X pins σ' H' s'/\Q σ' H') X.xe s
def PGs(X:Cx)(ts:List Expr)(t:TGs):Prop :=
 ∀(pins:List (Addr × Obj))(s:Shared)(σ:St)(H:Hp)(vs:List V)(us:List Value)(Q:St->Hp->Prop),Inv X pins σ H s->Vals vs us->t vs σ H Q ->
  wpAny (model X.prog X.w) X.A (assignInOrder ((assignEach ts X.env).map (·.2)) us) (λ_ s'=>∃ σ' H',Inv X pins σ' H' s'/\Q σ' H') X.xe s
abbrev TSet:=V->V->V->Hp->(Hp->Prop)->Prop
def PSet(X:Cx)(t:TSet):Prop :=
 ∀(pins:List (Addr × Obj))(s:Shared)(σ:St)(H:Hp)(o i v:V)(ov iv u:Value)(Q:Hp->Prop),Inv X pins σ H s->RelV o ov->RelV i iv->RelV v u->t o i v H Q ->
  wpAny (model X.prog X.w) X.A (setItem ov iv u) (λ_ s'=>∃ H',Inv X pins σ H' s'/\Q H') X.xe s
section
variable{X:Cx}{pos:Pos}
def D3(i:Nat):TG:=λv σ H Q=>Q (σ.set i (some v)) H
def P0{i:Nat}{x:Str}(b:X.N.Nodup)(hi:X.N[i]?=some x)(c:Loc X.env.scope x)(hf:X.fn x=true\/X.env.scope.names.lookup x=some .local:=by first|exact .inl rfl|exact .inr rfl|assumption):PG X (.Name x pos) (D3 i):=by
 intro pins s σ H v u Q I r h
 exact wpAny_assign_Name (oC I b hi c r (λd a=>⟨_,H,a,h⟩) hf)
def gNil:TGs:=λvs σ H Q=>vs=[]/\Q σ H
def i9(t:TG)(u:TGs):TGs:=λvs σ H Q=>∃ v r,vs=v::r/\t v σ H λσ' H'=>u r σ' H' Q
def D4:PGs X [] gNil:=by
 intro pins s σ H vs us Q I r h
 obtain⟨e,h⟩:=h
 subst e
 cases r
 exact assignInOrder_nil ⟨σ,H,I,h⟩
def E2{e:Expr}{es:List Expr}{t:TG}{u:TGs}(g:PG X e t)(i:PGs X es u)
  (hs:(assignEach (e::es) X.env).map (·.2)=assign e X.env::(assignEach es X.env).map (·.2):=by rfl):PGs X (e::es) (i9 t u):=by
 intro pins s σ H vs us Q I r h
 obtain⟨v,j,f,h⟩:=h
 subst f
 cases r with
 | cons r rr =>
  rw[hs]
  refine assignInOrder_cons (thn (g pins s σ H _ _ _ I r h) λ_ s1 ⟨a,d,b,c⟩=>?_)
  exact i pins s1 a d _ _ Q b rr c
def gTup(K:Frag)(n:Nat)(t:TGs):TG:=λv σ H Q=>∃ a xs,v=.ref a/\SqT K H a xs/\xs.length=n/\t xs σ H Q
def K4{es:List Expr}{k:Nat}{t:TGs}{n:Nat}(l:X.calm=true)(h:PGs X es t)
  (hn:(assignEach es X.env).length=n:=by rfl) (c:(assignEach es X.env).findIdx? (·.1)=none:=by rfl):PG X (.Tuple es k pos) (gTup X.K n t):=by
 intro pins s σ H v u Q I r d
 obtain⟨a,xs,j,m,q,d⟩:=d
 subst j
 cases r
 obtain⟨its,f,i,hz⟩:=I.tuple m
 refine assign_Tuple_tuple (I.ok.hd l) i (by simp[hn,← q,f.length]) c λh' p=>?_
 have g:Inv X pins σ H { s with heap:=h' }:=I.kept (t':=s.toks) λb o e=>p b o (O1 (Q0 e)) e
 exact h pins _ σ H xs _ Q g (by simpa using f) d
def gSub(to ti:TE)(t:TSet):TG:=λv σ H Q=>to σ H λo H1=>ti σ H1 λi H2=>t o i v H2 λH3=>Q σ H3
def eA{o i:Expr}{to c:TE}{t:TSet}(n:PE X o to)(hi:PE X i c)(hs:PSet X t)
  (ha:∀ v,assign (.Subscript o i pos) X.env v=(do
   let a ← holding [v] (eval o X.env)
   let b ← holding [v,a] (eval i X.env)
   standAt pos
   holding [v,a,b] (setItem a b v)
   release [v,a,b] []):=by intro _;rfl):PG X (.Subscript o i pos) (gSub to c t):=by
 intro pins s σ H v u Q I r h
 rw[ha]
 refine C0 (Z5 (thn (n pins s σ H _ I h) λa s1 ⟨x,l,d,f,j⟩=>?_))
 refine C0 (Z5 (thn (hi pins s1 σ l _ d j) λb s2 ⟨y,H2,q,g,m⟩=>?_))
 refine C0 (wpAny_standAt (C0 (Z5 (thn (hs pins s2 σ H2 x y v a b u _ q f g r m) λ_ z ⟨H3,p,w⟩=>?_))))
 exact wpAny_release ⟨σ,H3,p,w⟩
def tAsg(te:TE)(g:TG):TS:=λD σ H=>te σ H λx H1=>g x σ H1 D.nx
def y4{tg e:Expr}{te:TE}{g:TG}(f:PE X e te)(j:PG X tg g)(hs:swapsWithSole [tg] e pos.line X.env=pure false:=by rfl)(i:swappedStores [tg] e X.env=pure none:=by rfl)
  (l:(assignEach [tg] X.env).map (·.2)=[assign tg X.env]:=by rfl):PS X (.Assign [tg] e pos) (tAsg te g):=by
 intro pins s σ H D I h
 refine wpAny_Assign_stores (thn (f pins s σ H _ I h) λv s1 ⟨x,d,a,b,c⟩=>?_) hs i
 rw[l]
 exact thn (j pins s1 σ d x v _ a b c) λ_ s2 q=>q
def O0{i:Nat}{x:Str}{e:Expr}{te:TE}{a:Pos}(d:X.N.Nodup)(hi:X.N[i]?=some x)(m:Loc X.env.scope x)(j:PE X e te)(hs:swapsWith e (some (.Name x a)) pos.line X.env=pure false:=by rfl)(hf:X.fn x=true\/X.env.scope.names.lookup x=some .local:=by first|exact .inl rfl|exact .inr rfl|assumption) :
  PS X (.Assign [.Name x a] e pos) (tAsg te (D3 i)):=by
 intro pins s σ H D I h
 refine wpAny_Assign_Name (thn (j pins s σ H _ I h) λv s1 ⟨y,g,b,c,f⟩=>?_) hs
 exact oC b d hi m c (λs2 l=>⟨_,g,l,f⟩) hf
end
section
variable{X:Cx}{pos:Pos}
def oH(c:TT)(tb:TS):TS:=λD σ H=>∃ W:Nat->St->Hp->Prop,(∃ m,W m σ H)/\∀ m σ H,W m σ H ->
 c σ H λb H1=>if b=true then ∃ N:St->Hp->Prop,(∀ σ' H',N σ' H'->∃ m',m'<m/\W m' σ' H')/\tb { D with nx:=N,ct:=N,bk:=D.nx } σ H1 else D.nx σ H1
def SG{c:Expr}{body:List Stmt}{z:TT}{r:TS}(y:PassesOwn (model X.prog X.w) X.A X.env X.xe)(G:PT X c z)(hb:PSs X body r):PS X (.While c body [] pos) (oH z r):=by
 intro pins s σ H D I h
 obtain⟨W,⟨E,K⟩,i⟩:=h
 refine wpAny_While (codeAny_whileLoop (λn J=>∃ g H',Inv X pins g H' J/\W n g H') ?_ E ⟨σ,H,I,K⟩)
 rintro n s1 ⟨d,x,C,F⟩
 refine wpAny_passesOwn y (thn (G pins s1 d x _ C (i n d x F)) λb s2 ⟨H2,B,j⟩=>?_)
 cases b with
 | true =>
  obtain⟨N,u,j⟩:=j
  rw[t0 rfl]
  refine wpAny_passesOwn y (thn (hb pins s2 d H2 _ B j) λf L l=>?_)
  cases f with
  | next =>
   obtain⟨a,H3,p,m⟩:=l
   obtain⟨q,hm,o⟩:=u a H3 m
   exact⟨q,hm,a,H3,p,o⟩
  | cont =>
   obtain⟨a,H3,p,m⟩:=l
   obtain⟨q,hm,o⟩:=u a H3 m
   exact⟨q,hm,a,H3,p,o⟩
  |brk=>exact l
  |ret v=>exact l
 | false =>
  rw[y0 Y1]
  exact wpAny_execs_nil ⟨d,H2,B,j⟩
end
structure It where
 go:Nat->Hp->Prop
 yld:Nat->Hp->V->Hp->Prop
 stop:Nat->Hp->Prop
def FpOk(X:Cx)(pins:List (Addr × Obj))(H:Hp)(b:Addr):Prop :=
 H b=none/\b ≠ X.env.locals/\b ∉ X.fs/\(b∈X.ex\/X.s₀.heap.objs.size<=b)/\(∀ x c,X.env.cells.lookup x=some c->c ≠ b)/\∀ p∈X.pn++pins,p.1 ≠ b
def Inv.fpOk{X:Cx}{pins:List (Addr × Obj)}{σ:St}{H H':Hp}{s:Shared}{b:Addr}(I:Inv X pins σ H s)(hb:s.heap.objs.size<=b)(hn:H' b=none):FpOk X pins H' b:=by
 refine⟨hn,Nat.ne_of_gt (E4 I.lt hb),I.nofs hb,.inr (T2 I.sz hb),λx c e z=>?_,λp a z=>?_⟩
 ·obtain⟨v,q⟩:=I.cell x c e
  exact absurd (E4 q.lt (by rw[z];exact hb)) (S4 _)
 ·exact absurd (E4 (Q0 (I.pin p a).1) (by rw[z];exact hb)) (S4 _)
structure Turn(P:Program)(w:World)(K:Frag)(tg:Expr)(J:It)(fp:List Addr)(it:Addr)(tn:Nat->Heap->Prop):Prop where
 mem:it∈fp
 obj:∀ i h,tn i h->∀ b∈fp,∃ o,h.get? b=some o/\∀ v,o.data ≠ .cell v
 keep:∀ i h h',tn i h->(∀ b∈fp,∀ o,h.get? b=some o->h'.get? b=some o)->tn i h'
 item:∀(X:Cx),X.prog=P->X.w=w->X.K=K->X.calm=true->∀(i:Nat)(pins:List (Addr × Obj))(s:Shared)(σ:St)(H:Hp)(E:Value->Shared->Prop),Inv X pins σ H s->(∀ b∈fp,FpOk X pins H b)->tn i s.heap->J.go i H ->
  wpAny (model P w) X.A (pyNext (.ref it)) (λr s1=>∃ u,r=some u /\
   wpAny (model P w) X.A (letOwnedTupleGo tg (.ref it) u) (λ_ s2=>∃ x H',Inv X pins σ H' s2/\RelV x u/\J.yld i H x H'/\tn (i+1) s2.heap/\∀ b∈fp,H' b=none) E s1) E s
 done:∀(X:Cx),X.prog=P->X.w=w->X.K=K->X.calm=true->∀(i:Nat)(pins:List (Addr × Obj))(s:Shared)(σ:St)(H:Hp)(E:Value->Shared->Prop),Inv X pins σ H s->(∀ b∈fp,FpOk X pins H b)->tn i s.heap->J.stop i H ->
  wpAny (model P w) X.A (pyNext (.ref it)) (λr s1=>r=none/\Inv X pins σ H s1) E s
 self:∀(A:Around)(i:Nat)(s:Shared)(Q:Value->Shared->Prop)(E:Value->Shared->Prop),tn i s.heap->Q (.ref it) s->wpAny (model P w) A (pyIter (.ref it)) Q E s
abbrev TI:=St->Hp->(It->Hp->Prop)->Prop
def PIE(X:Cx)(pins:List (Addr × Obj))(σ:St)(tg:Expr)(R:It->Hp->Prop)(itv:Value)(s2:Shared):Prop :=
 ∃(it:Addr)(fp:List Addr)(tn:Nat->Heap->Prop)(J:It)(H':Hp),itv=.ref it/\Inv X pins σ H' s2/\Turn X.prog X.w X.K tg J fp it tn/\tn 0 s2.heap/\(∀ b∈fp,FpOk X pins H' b)/\R J H'
def PI(X:Cx)(tg iter:Expr)(wi:TI):Prop :=
 ∀(pins:List (Addr × Obj))(s:Shared)(σ:St)(H:Hp)(R:It->Hp->Prop),Inv X pins σ H s->wi σ H R ->
  wpAny (model X.prog X.w) X.A (eval iter X.env) (λv s1=>wpAny (model X.prog X.w) X.A (pyIter v) (PIE X pins σ tg R) X.xe s1) X.xe s
def vH{M:Model}{A:Around}{E:Value->Shared->Prop}{s:Shared}{tg:Expr}{it:Addr}{u:Value}{o:Obj}{n:String}{vs:Array Value}{Q:Unit->Shared->Prop}(c:s.heap.get? it=some o)(b:o.cls=.type n)(hd:o.data=.fields vs)
  (hn:["enumerate","zip","dict_itemiterator","dict_reverseitemiterator","odict_iterator","itertools.zip_longest","itertools.pairwise"].contains n=false) (a:Q () s):wpAny M A (letOwnedTupleGo tg (.ref it) u) Q E s:=by
 unfold letOwnedTupleGo
 cases tg <;> first
  |exact M0 a
  | (cases u <;> first
    |exact M0 a
    | (refine C0 (wpAny_load c ?_)
       rw[b,hd]
       show wpAny M A (if (["enumerate","zip","dict_itemiterator","dict_reverseitemiterator","odict_iterator","itertools.zip_longest","itertools.pairwise"].contains n && vs[0]? == some (rawInt _))=true then _ else _) Q E s
       rw[y0 (by intro h;rw[hn,Bool.false_and] at h;cases h)]
       exact M0 a))
def Itl(K:Frag)(a:Addr):It :=
 ⟨λi H=>∃ xs x,SqL K H a xs/\xs[i]?=some x,λi H x H'=>H'=H/\∀ xs,SqL K H a xs->xs[i]?=some x,λi H=>∃ xs,SqL K H a xs/\xs.length<=i⟩
def Itr(lo:Int)(n:Nat):It:=⟨λi _=>i<n,λi H x H'=>H'=H/\x=.int (lo+i),λi _=>n<=i⟩
def PL{P:Program}{w:World}{K:Frag}{tg:Expr}(a it:Addr):Turn P w K tg (Itl K a) [it] it (λi h=>h.IsListIter it a i) where
 mem:=by simp
 obj:=λi h st b hb=>by
  have e:b=it:=by simpa using hb
  subst e
  obtain⟨o,e,c,d⟩:=st
  exact⟨o,e,λv z=>by rw[d] at z;cases z⟩
 keep:=λi h h' st k=>st.at λo e=>k it (by simp) o e
 item:=by
  intro X r q l D i pins s σ H E I hf st B
  subst r q l
  obtain⟨xs,x,f,y⟩:=B
  obtain⟨its,n,p,hz⟩:=I.list f
  obtain⟨u,L,G⟩:=n.get y
  obtain⟨g,j,J,A,C,m⟩:=hf it (by simp)
  refine wpAny_pyNext_list_item st p.isList (x:=u) (by simpa using L) λh' st' sb=>?_
  have F:Inv X pins σ H { s with heap:=h' }:=I.turned (t':=s.toks) (λb o hb e=>(sb.2 b hb).trans e) g j A C m
  obtain⟨o,e,c,d⟩:=id st'
  exact⟨u,rfl,vH (s:={ s with heap:=h' }) e c d (by decide) ⟨x,H,F,G,⟨rfl,λys N=>by rw[I.list_inj N f];exact y⟩,st',λb hb=>(hf b hb).1⟩⟩
 done:=by
  intro X r q l D i pins s σ H E I hf st B
  subst r q l
  obtain⟨xs,f,y⟩:=B
  obtain⟨its,n,p,hz⟩:=I.list f
  obtain⟨g,j,J,A,C,m⟩:=hf it (by simp)
  have O:=n.length
  exact wpAny_pyNext_list_end (I.ok.hd D) st p.isList (by simp;lia) λh' M=>⟨rfl,I.turned (t':=s.toks) (λb o hb e=>M b o hb e) g j A C m⟩
 self:=λ_ _ _ _ _ st h=>wpAny_pyIter_listiter st h
def HL{P:Program}{w:World}{K:Frag}{tg:Expr}(it:Addr)(lo:Int)(n:Nat):Turn P w K tg (Itr lo n) [it] it (λi h=>IsRangeIter h it (lo+(i:Nat) * 1) ((n:Int)-(i:Nat)) 1) where
 mem:=by simp
 obj:=λi h st b hb=>by
  have e:b=it:=by simpa using hb
  subst e
  exact⟨_,st,λv z=>by
   have x:Data.fields _=Data.cell v:=z
   cases x⟩
 keep:=λi h h' st k=>k it (by simp) _ st
 item:=by
  intro X l g d j i pins s σ H E I hf st q
  subst l g d
  obtain⟨a,c,y,m,p,f⟩:=hf it (by simp)
  have W:=Walks.range (prog:=X.prog) (w:=X.w) (I.ok.hd j) it lo 1 n
  refine W.item i s _ _ q st λv h' r B st' A=>?_
  obtain⟨t,rfl⟩:=B
  have u:Inv X pins σ H { s with heap:=h',toks:=r }:=I.turned (λb o hb e=>A b o (by simpa using hb) e) a c m p f
  refine⟨_,rfl,vH (s:={ s with heap:=h',toks:=r }) (n:="range_iterator") st' rfl rfl (by decide) ⟨.int (lo+i),H,u,⟨t,?_⟩,⟨rfl,rfl⟩,st',λb hb=>(hf b hb).1⟩⟩
  rw[Int.mul_one]
 done:=by
  intro X l g d j i pins s σ H E I hf st q
  subst l g d
  obtain⟨a,c,y,m,p,f⟩:=hf it (by simp)
  exact wpAny_pyNext_range_end (I.ok.hd j) st (by have:n<=i:=q;lia) λh' C=>⟨rfl,I.turned (t':=s.toks) (λb o hb e=>C b o hb e) a c m p f⟩
 self:=λ_ _ _ _ _ st h=>wpAny_pyIter_rangeiter st h
section
variable{X:Cx}{tg:Expr}
def oF(K:Frag)(tl:TE):TI:=λσ H R=>tl σ H λx H1=>∃ a,x=.ref a/\(∃ xs,SqL K H1 a xs)/\R (Itl K a) H1
def Q4{l:Expr}{tl:TE}(j:PE X l tl):PI X tg l (oF X.K tl):=by
 intro pins s σ H R I h
 refine thn (j pins s σ H _ I h) λv s1 ⟨x,g,c,d,f⟩=>?_
 obtain⟨a,e,⟨xs,i⟩,q⟩:=f
 subst e
 cases d
 obtain⟨its,m,p,hz⟩:=c.list i
 refine l9 p.isList ?_
 refine⟨s1.heap.objs.size,[s1.heap.objs.size],_,_,g,rfl,c.kept (t':=s1.toks) λb o e=>S1 _ e,PL a _,⟨_,X2 _ rfl,rfl,rfl⟩,λb hb=>?_,q⟩
 have e:b=s1.heap.objs.size:=by simpa using hb
 subst e
 exact c.fpOk (N0 _) (c.hok.fresh (N0 _))
def tH{pins:List (Addr × Obj)}{σ:St}{H:Hp}{s:Shared}{R:It->Hp->Prop}{E:Value->Shared->Prop}{lo hi:Int}{t u v:Tok}{c:Nat}(I:Inv X pins σ H s)(f : -(2 ^ 62)<=lo)(h:lo<2 ^ 62)(i : -(2 ^ 62)<=hi)(g:hi<2 ^ 62)
  (q:R (Itr lo (hi-lo).toNat) H):wpAny (model X.prog X.w) X.A (pyIter (.ref s.heap.objs.size)) (PIE X pins σ tg R) E { s with heap:=s.heap.push { cls:=.type "range",data:=.fields #[.int lo t,.int hi u,.int 1 v] },toks:=c }:=by
 refine wpAny_pyIter_range (IsRange.new ..) (small_one f h i g) ?_
 have a:Inv X pins σ H { s with heap:=s.heap.push { cls:=.type "range",data:=.fields #[.int lo t,.int hi u,.int 1 v] },toks:=c }:=I.kept λb o e=>S1 _ e
 refine⟨(s.heap.push { cls:=.type "range",data:=.fields #[.int lo t,.int hi u,.int 1 v] }).objs.size,[(s.heap.push { cls:=.type "range",data:=.fields #[.int lo t,.int hi u,.int 1 v] }).objs.size],_,_,H,rfl,
  a.kept (t':=c) λb o e=>S1 _ e,HL _ lo (hi-lo).toNat,?_,λb hb=>?_,q⟩
 ·have d:lo+((0:Nat):Int) * 1=lo:=by simp
  have e2:(((hi-lo).toNat:Nat):Int)-((0:Nat):Int)=Builtin.Range.rangeSize lo hi 1:=by rw[rangeSize_one];split <;> lia
  show IsRangeIter _ _ (lo+((0:Nat):Int) * 1) ((((hi-lo).toNat:Nat):Int)-((0:Nat):Int)) 1
  rw[d,e2]
  exact X2 _ rfl
 ·have e:b=(s.heap.push { cls:=.type "range",data:=.fields #[.int lo t,.int hi u,.int 1 v] }).objs.size:=by simpa using hb
  subst e
  exact a.fpOk (N0 _) (a.hok.fresh (N0 _))
def XB(ta:TA):TI:=λσ H R=>ta σ H λvs H1=>∃ j:Int,vs=[.int j]/\-(2 ^ 62)<=j/\j<2 ^ 62/\R (Itr 0 j.toNat) H1
def EF(ta:TA):TI:=λσ H R=>ta σ H λvs H1=>∃ i j:Int,vs=[.int i,.int j]/\(-(2 ^ 62)<=i/\i<2 ^ 62/\-(2 ^ 62)<=j/\j<2 ^ 62)/\R (Itr i (j-i).toNat) H1
def z5{a:Expr}{d:TA}{p b:Pos}(l:Gl X "range")(hm:X.mg "range" = none)(ha:PA X [a] d)(hs:starEach [a] X.env=[(false,eval a X.env)]:=by rfl):PI X tg (.Call (.Name "range" p) [a] [] b) (XB d):=by
 intro pins s σ H R I h
 refine Call_ (p8 I l hm boot_range (PyProof.Rows.callWith_type1 (thn (ha b pins s σ H _ I h) λus s1 ⟨vs,m,f,g,c⟩=>?_) hs rfl))
 obtain⟨j,e,c,i,q⟩:=c
 subst e
 cases g with
 | cons r rr =>
  cases rr
  obtain⟨t,rfl⟩:=r
  exact call_range_1 (tH f (by lia) (by lia) c i (by simpa using q))
def vA{a b:Expr}{g:TA}{p c:Pos}(v:Gl X "range")(hm:X.mg "range" = none)(ha:PA X [a,b] g)(hs:starEach [a,b] X.env=[(false,eval a X.env),(false,eval b X.env)]:=by rfl)(d:starEach [b] X.env=[(false,eval b X.env)]:=by rfl) :
  PI X tg (.Call (.Name "range" p) [a,b] [] c) (EF g):=by
 intro pins s σ H R I h
 refine Call_ (p8 I v hm boot_range (PyProof.Rows.callWith_type1 (thn (ha c pins s σ H _ I h) λus s1 ⟨vs,w,l,m,f⟩=>?_) (by rw[hs,d]) (by rw[d];rfl)))
 obtain⟨i,j,e,⟨f,n,u,o⟩,q⟩:=f
 subst e
 cases m with
 | cons r rr =>
  cases rr with
  | cons r' rr =>
   cases rr
   obtain⟨t,rfl⟩:=r
   obtain⟨t',rfl⟩:=r'
   exact call_range_2 (tH l f n u o q)
def tFor(wi:TI)(g:TG)(tb:TS):TS:=λD σ H=>wi σ H λJ H1=>∃ W:Nat->Nat->St->Hp->Prop,(∃ m,W 0 m σ H1)/\∀ i m σ H,W i m σ H ->
 (J.stop i H/\D.nx σ H)\/(J.go i H/\∃ N:St->Hp->Prop,(∀ σ' H',N σ' H'->∃ m',m'<m/\W (i+1) m' σ' H')/\∀ x H',J.yld i H x H'->g x σ H' λσ2 H2=>tb { D with nx:=N,ct:=N,bk:=D.nx } σ2 H2)
def jA(fp:List Addr)(h:Heap):List (Addr × Obj):=fp.filterMap λb=>(h.get? b).map λo=>(b,o)
def GB{fp:List Addr}{h:Heap}{b:Addr}{o:Obj}(hb:b∈fp)(e:h.get? b=some o):(b,o)∈jA fp h:=List.mem_filterMap.mpr ⟨b,hb,by rw[e];rfl⟩
def nS{fp:List Addr}{h:Heap}{p:Addr × Obj}(a:p∈jA fp h):p.1∈fp/\h.get? p.1=some p.2:=by
 obtain⟨b,hb,e⟩:=List.mem_filterMap.mp a
 cases q:h.get? b with
 |none=>rw[q] at e;cases e
 | some o =>
  rw[q] at e
  have c:(b,o)=p:=M3 e
  subst c
  exact⟨hb,q⟩
def Inv.pinned{pins:List (Addr × Obj)}{σ:St}{H:Hp}{s:Shared}{fp:List Addr}(I:Inv X pins σ H s)(hf:∀ b∈fp,FpOk X pins H b)(i:∀ b∈fp,∃ o,s.heap.get? b=some o/\∀ v,o.data ≠ .cell v):Inv X (pins++jA fp s.heap) σ H s :=
 I.pins_of λp h=>(E1.mp h).elim (λz=>I.pin p (K3 _ z)) λz=>by
  obtain⟨hb,e⟩:=nS z
  obtain⟨c,f,g,_⟩:=hf p.1 hb
  obtain⟨o,a,d⟩:=i p.1 hb
  rw[e] at a;cases a
  exact⟨e,c,f,g,d⟩
def Inv.unpinned{pins pl:List (Addr × Obj)}{σ:St}{H:Hp}{s:Shared}(I:Inv X (pins++pl) σ H s):Inv X pins σ H s:=I.pins_of λp a=>I.pin p (K3 _ (U4 _ a))
def k4{z:Expr}{body:List Stmt}{wi:TI}{g:TG}{tb:TS}{Q:Pos}(E:PassesOwn (model X.prog X.w) X.A X.env X.xe)(hc:X.calm=true)(hi:PI X tg z wi)(hg:PG X tg g)(hb:PSs X body tb)
  (hs:∀ x,foldedSetIterable z X.env x=pure x:=by intro _;rfl):PS X (.For tg z body [] Q) (tFor wi g tb):=by
 intro pins s σ H D I h
 refine wpAny_For (thn (hi pins s σ H _ I h) λv s1 h1=>thn h1 λa0 s2 h2=>?_) hs
 obtain⟨it,fp,tn,J,H2,e,I2,T,O,Y,W,⟨m0,w0⟩,F⟩:=h2
 subst e
 -- what stays true of the iterator's objects through the loop
 have y:∀{H':Hp},(∀ b∈fp,H' b=none)->∀ b∈fp,FpOk X pins H' b:=λhn b hb=>⟨hn b hb,(Y b hb).2⟩
 refine codeAny_forLoop_any (λn s'=>∃ i j H',Inv X pins j H' s'/\tn i s'.heap/\(∀ b∈fp,H' b=none)/\W i n j H') ?_ m0 ⟨0,σ,H2,I2,O,λb hb=>(Y b hb).1,w0⟩
 rintro n Z ⟨i,c,H3,I3,L,K,w3⟩
 rcases F i n c H3 w3 with ⟨stop,qn⟩|⟨go,N,hN,step⟩
 ·refine wpAny_passesOwn E (thn (T.done X rfl rfl rfl hc i pins Z c H3 X.xe I3 (y K) L stop) λr s4 ⟨R,I4⟩=>?_)
  subst R
  exact wpAny_execs_nil ⟨c,H3,I4,qn⟩
 ·refine wpAny_passesOwn E (thn (T.item X rfl rfl rfl hc i pins Z c H3 X.xe I3 (y K) L go) λr s4 ⟨u,R,h4⟩=>?_)
  subst R
  refine wpAny_passesOwn E (thn h4 λ_ s5 ⟨x,H5,I5,r5,y5,C,M⟩=>?_)
  have P:=I5.pinned (y M) (T.obj _ _ C)
  refine wpAny_passesOwn E (thn (hg _ s5 c H5 x u _ P r5 (step x H5 y5)) λ_ s6 ⟨U,H6,I6,q6⟩=>?_)
  refine wpAny_passesOwn E (thn (hb _ s6 U H6 _ I6 q6) λf S B=>?_)
  have q:∀{a:St}{l:Hp},Inv X (pins++jA fp s5.heap) a l S->N a l->∃ m,m<n/\∃ i j H',Inv X pins j H' S/\tn i S.heap/\(∀ b∈fp,H' b=none)/\W i m j H':=λ{a l} p G=>by
   obtain⟨m',hm,w7⟩:=hN a l G
   refine⟨m',hm,i+1,a,l,p.unpinned,T.keep _ _ _ C λb hb o e=>(p.pin (b,o) (K3 _ (K3 _ (GB hb e)))).1,λb hb=>?_,w7⟩
   obtain⟨o,e,d⟩:=T.obj _ _ C b hb
   exact(p.pin (b,o) (K3 _ (K3 _ (GB hb e)))).2.1
  cases f with
  |next=>obtain⟨a,l,p,G⟩:=B;exact q p G
  |cont=>obtain⟨a,l,p,G⟩:=B;exact q p G
  |brk=>obtain⟨a,l,p,B⟩:=B;exact⟨a,l,p.unpinned,B⟩
  |ret v=>obtain⟨x7,a,l,p,r7,B⟩:=B;exact⟨x7,a,l,p.unpinned,r7,B⟩
end
def sJ{lo:Int}{n:Nat}{g:TG}{d:TS}{D:Ends}{σ:St}{H:Hp}(b:Nat->St->Hp->Prop)(j:b 0 σ H)
  (hs:∀ i σ H,i<n->b i σ H->g (.int (lo+i)) σ H λa H2=>d { D with nx:=b (i+1),ct:=b (i+1),bk:=D.nx } a H2) (hd:∀ σ H,b n σ H->D.nx σ H) :
  ∃ W:Nat->Nat->St->Hp->Prop,(∃ m,W 0 m σ H)/\∀ i m σ H,W i m σ H ->
   ((Itr lo n).stop i H/\D.nx σ H)\/((Itr lo n).go i H/\∃ N:St->Hp->Prop,(∀ c H',N c H'->∃ f,f<m/\W (i+1) f c H')/\∀ x H',(Itr lo n).yld i H x H'->g x σ H' λa H2=>d { D with nx:=N,ct:=N,bk:=D.nx } a H2):=by
 refine⟨λi m σ H=>m=n-i/\i<=n/\b i σ H,⟨n,by simp,Y3 _,j⟩,?_⟩
 rintro i m σ H ⟨rfl,hi,p⟩
 by_cases hlt:i<n
 ·refine .inr ⟨hlt,b (i+1),λc H' h=>⟨n-(i+1),by lia,rfl,hlt,h⟩,λx H' y=>?_⟩
  obtain⟨e,y⟩:=y
  subst e y
  exact hs i σ _ hlt p
 ·have e:i=n:=by lia
  subst e
  exact .inl ⟨N0 _,hd σ H p⟩
abbrev R2:=V->V->Hp->VK->Prop
def OpR(X:Cx)(f:Value->Value->Sem Value)(r:R2):Prop :=
 ∀(pins:List (Addr × Obj))(s:Shared)(σ:St)(H:Hp)(x y:V)(v u:Value)(Q:VK),Inv X pins σ H s->RelV x v->RelV y u->r x y H Q ->
  wpAny (model X.prog X.w) X.A (f v u) (EP X pins σ Q) X.xe s
def UnR(X:Cx)(f:Value->Sem Value)(r:V->Hp->VK->Prop):Prop :=
 ∀(pins:List (Addr × Obj))(s:Shared)(σ:St)(H:Hp)(x:V)(v:Value)(Q:VK),Inv X pins σ H s->RelV x v->r x H Q ->
  wpAny (model X.prog X.w) X.A (f v) (EP X pins σ Q) X.xe s
def M2(X:Cx)(f:Value)(r:List V->Hp->VK->Prop):Prop :=
 ∀(pins:List (Addr × Obj))(s:Shared)(σ:St)(H:Hp)(xs:List V)(us:List Value)(Q:VK),Inv X pins σ H s->Vals xs us->r xs H Q ->
  wpAny (model X.prog X.w) X.A (call f us) (EP X pins σ Q) X.xe s
def TruR(X:Cx)(r:V->Hp->(Bool->Hp->Prop)->Prop):Prop :=
 ∀(pins:List (Addr × Obj))(s:Shared)(σ:St)(H:Hp)(x:V)(v:Value)(Q:Bool->Hp->Prop),Inv X pins σ H s->RelV x v->r x H Q ->
  wpAny (model X.prog X.w) X.A (truthy v) (TP X pins σ Q) X.xe s
def tOp(r:R2)(ta tb:TE):TE:=λσ H Q=>ta σ H λx H1=>tb σ H1 λy H2=>r x y H2 Q
def tUn(r:V->Hp->VK->Prop)(ta:TE):TE:=λσ H Q=>ta σ H λx H1=>r x H1 Q
def rI(C:Int->Int->Prop)(g:Int->Int->V):R2:=λx y H Q=>∃ i j,x=.int i/\y=.int j/\C i j/\Q (g i j) H
def rI0(g:Int->Int->V):R2:=λx y H Q=>∃ i j,x=.int i/\y=.int j/\Q (g i j) H
def rU(g:Int->V):V->Hp->VK->Prop:=λx H Q=>∃ i,x=.int i/\Q (g i) H
section
variable{X:Cx}{a b c:Expr}{ta tb tc:TE}{pos:Pos}
def binT(ha:PE X a ta)(hb:PE X b tb){pins:List (Addr × Obj)}{s:Shared}{σ:St}{H:Hp}{R:V->V->Hp->Prop}(I:Inv X pins σ H s)
  (h:ta σ H λx g=>tb σ g λy H2=>R x y H2) {Q:Value->Shared->Prop} {f:Value->Value->Sem Value}
  (hf:∀ v u s2 x y H2,Inv X pins σ H2 s2->RelV x v->RelV y u->R x y H2->wpAny (model X.prog X.w) X.A (f v u) Q X.xe s2) :
  wpAny (model X.prog X.w) X.A (eval a X.env) (λv d=>wpAny (model X.prog X.w) X.A (eval b X.env) (λu c=>wpAny (model X.prog X.w) X.A (f v u) Q X.xe c) X.xe d) X.xe s:=by
 refine thn (ha pins s σ H _ I h) λv s1 ⟨x,g,i,j,m⟩=>?_
 refine thn (hb pins s1 σ g _ i m) λu s2 ⟨y,H2,o,l,n⟩=>?_
 exact hf v u s2 x y H2 o j l n
def R0{op:Operator}{r:R2}(c:OpR X (binaryOp op) r)(ha:PE X a ta)(hb:PE X b tb):PE X (.BinOp a op b pos) (tOp r ta tb):=by
 intro pins s σ H Q I h
 exact wpAny_BinOp (binT ha hb I h λv u s2 x y H2 g f d q=>c pins s2 σ H2 x y v u Q g f d q)
def Y9{op:UnaryOp}{r:V->Hp->VK->Prop}(f:UnR X (unaryOp op) r)(ha:PE X a ta):PE X (.UnaryOp op a pos) (tUn r ta):=by
 intro pins s σ H Q I h
 exact UnaryOp_ (thn (ha pins s σ H _ I h) λv s1 ⟨x,g,b,c,d⟩=>f pins s1 σ g x v Q b c d)
def opI{f:Value->Value->Sem Value}{C:Int->Int->Prop}{g:Int->Int->Int}
  (a:∀(i j:Int)(t u:Tok)(s:Shared)(Q:Value->Shared->Prop)(E:Value->Shared->Prop),C i j->Q (.int (g i j) s.toks) { s with toks:=s.toks+1 }->wpAny (model X.prog X.w) X.A (f (.int i t) (.int j u)) Q E s) :
  OpR X f (rI C λi j=>.int (g i j)):=by
 intro pins s σ H x y v u Q I c b h
 obtain⟨i,j,rfl,rfl,d,q⟩:=h
 obtain⟨t,rfl⟩:=c
 obtain⟨t',rfl⟩:=b
 exact a i j t t' s _ _ d ⟨.int (g i j),H,I.tok _,⟨_,rfl⟩,q⟩
def opI0{f:Value->Value->Sem Value}{g:Int->Int->Int}
  (a:∀(i j:Int)(t u:Tok)(s:Shared)(Q:Value->Shared->Prop)(E:Value->Shared->Prop),Q (.int (g i j) s.toks) { s with toks:=s.toks+1 }->wpAny (model X.prog X.w) X.A (f (.int i t) (.int j u)) Q E s) :
  OpR X f (rI0 λi j=>.int (g i j)):=by
 intro pins s σ H x y v u Q I c b h
 obtain⟨i,j,rfl,rfl,q⟩:=h
 obtain⟨t,rfl⟩:=c
 obtain⟨t',rfl⟩:=b
 exact a i j t t' s _ _ ⟨.int (g i j),H,I.tok _,⟨_,rfl⟩,q⟩
def opB0{f:Value->Value->Sem Value}{g:Int->Int->Bool}
  (a:∀(i j:Int)(t u:Tok)(s:Shared)(Q:Value->Shared->Prop)(E:Value->Shared->Prop),Q (.bool (g i j)) s->wpAny (model X.prog X.w) X.A (f (.int i t) (.int j u)) Q E s) :
  OpR X f (rI0 λi j=>.bl (g i j)):=by
 intro pins s σ H x y v u Q I c b h
 obtain⟨i,j,rfl,rfl,q⟩:=h
 obtain⟨t,rfl⟩:=c
 obtain⟨t',rfl⟩:=b
 exact a i j t t' s _ _ ⟨.bl (g i j),H,I,rfl,q⟩
def CDiv(i j:Int):Prop:=0<j/\j<1073741824
def CPow(i j:Int):Prop:=0<=j/\j<=1000000/\i.natAbs<2 ^ 64
def CMul(i j:Int):Prop:=(-(2 ^ 64)<i/\i<2 ^ 64)\/(-(2 ^ 64)<j/\j<2 ^ 64)
def CMul.ok{i j:Int}(h:CMul i j):IntMulOk i j:=by
 rcases h with ⟨b,a⟩|⟨b,a⟩
 ·exact .of_left (intBits_le_64 b a)
 ·exact .of_right (intBits_le_64 b a)
def u3:OpR X (binaryOp .Add) (rI0 λi j=>.int (i+j)):=opI0 λ_ _ _ _ _ _ _ q=>add_int q
def p7:OpR X (binaryOp .Sub) (rI0 λi j=>.int (i-j)):=opI0 λ_ _ _ _ _ _ _ q=>sub_int q
def w9:OpR X (binaryOp .Mult) (rI CMul λi j=>.int (i * j)):=opI λ_ _ _ _ _ _ _ a q=>mul_int q a.ok
def xC:OpR X (binaryOp .FloorDiv) (rI CDiv λi j=>.int (i / j)):=opI λi j _ _ _ _ _ a q=>by
 have c:(0:Int)<j:=a.1
 have b:j<1073741824:=a.2
 exact floordiv_int (by lia) (by rw[Int.fdiv_eq_ediv_of_nonneg i (by lia)];exact q) (.inl (PyProof.noPylong_small (by lia)))
def Z7:OpR X (binaryOp .Mod) (rI (λ_ j=>0<j) λi j=>.int (i % j)):=opI λi j _ _ _ _ _ a q=>by
 have b:(0:Int)<j:=a
 exact mod_int' (by lia) (by rw[Int.fmod_eq_emod_of_nonneg i (by lia)];exact q)
def zL:OpR X (binaryOp .Pow) (rI CPow λi j=>.int (i ^ j.toNat)):=opI λ_ _ _ _ _ _ _ a q=>pow_int_small a.1 a.2.1 a.2.2 q
def unI{f:Value->Sem Value}{g:Int->Int}
  (a:∀(i:Int)(t:Tok)(s:Shared)(Q:Value->Shared->Prop)(E:Value->Shared->Prop),Q (.int (g i) s.toks) { s with toks:=s.toks+1 }->wpAny (model X.prog X.w) X.A (f (.int i t)) Q E s) :
  UnR X f (rU λi=>.int (g i)):=by
 intro pins s σ H x v Q I b h
 obtain⟨i,rfl,q⟩:=h
 obtain⟨t,rfl⟩:=b
 exact a i t s _ _ ⟨.int (g i),H,I.tok _,⟨_,rfl⟩,q⟩
def z9:UnR X (unaryOp .USub) (rU λi=>.int (-i)):=unI λ_ _ _ _ _ q=>neg_int q
end
def scal:V->V->Bool
 | .non,.non=>true | .non,.int _=>true | .int _,.non=>true | .non,.bl _=>true | .bl _,.non=>true | .non,.str _=>true | .str _,.non=>true
 | .int _,.int _=>true | .bl _,.bl _=>true | .str _,.str _=>true | .byt _,.byt _=>true
 | .int _,.str _=>true | .str _,.int _=>true | .bl _,.str _=>true | .str _,.bl _=>true
 |_,_=>false
def rEq:R2:=λx y H Q=>scal x y=true/\Q (.bl (decide (x=y))) H
def rNe:R2:=λx y H Q=>scal x y=true/\Q (.bl (!decide (x=y))) H
def IB{i j:Int}:decide (V.int i=V.int j)=(i == j):=by
 rw[o7]
 simp
def FE{i j:Bool}:decide (V.bl i=V.bl j)=(i == j):=by
 rw[o7]
 simp
def lG{i j:Str}:decide (V.str i=V.str j)=(i == j):=by
 rw[o7]
 simp
def OH{i j:Array UInt8}:decide (V.byt i=V.byt j)=(i.toList == j.toList):=by
 rw[o7]
 cases i
 cases j
 simp
section
variable{X:Cx}{a b c:Expr}{ta tb tc:TE}{pos:Pos}
def J2{pins:List (Addr × Obj)}{σ:St}{H:Hp}{s:Shared}{Q:VK}{k a:Bool}(I:Inv X pins σ H s)(q:Q (.bl k) H)(e:k=a):EP X pins σ Q (.bool a) s:=by
 subst e
 exact⟨.bl k,H,I,rfl,q⟩
def M5:OpR X (compareOp .Eq) rEq:=by
 intro pins s σ H x y v u Q I b a h
 obtain⟨hs,q⟩:=h
 cases x with
 | non =>
  cases b
  cases y with
  |non=>cases a;exact PySem.EqNone.eq_none_none (J2 I q (by simp))
  |bl j=>cases a;exact PySem.EqNone.eq_none_bool (J2 I q (by simp))
  |int j=>obtain⟨t',rfl⟩:=a;exact PySem.EqNone.eq_none_int (J2 I q (by simp))
  |str j=>obtain⟨t',rfl⟩:=a;exact PySem.EqNone.eq_none_str (J2 I q (by simp))
  |_=>exact absurd (show false=true from hs) Y1
 | bl i =>
  cases b
  cases y with
  |non=>cases a;exact PySem.EqNone.eq_bool_none (J2 I q (by simp))
  |bl j=>cases a;exact eq_bool (J2 I q FE)
  |str j=>obtain⟨t',rfl⟩:=a;exact PySem.EqMixed.eq_bool_str (J2 I q (by simp))
  |_=>exact absurd (show false=true from hs) Y1
 | int i =>
  obtain⟨t,rfl⟩:=b
  cases y with
  |non=>cases a;exact PySem.EqNone.eq_int_none (J2 I q (by simp))
  |int j=>obtain⟨t',rfl⟩:=a;exact eq_int (J2 I q IB)
  |str j=>obtain⟨t',rfl⟩:=a;exact PySem.EqMixed.eq_int_str (J2 I q (by simp))
  |_=>exact absurd (show false=true from hs) Y1
 | str i =>
  obtain⟨t,rfl⟩:=b
  cases y with
  |non=>cases a;exact PySem.EqNone.eq_str_none (J2 I q (by simp))
  |bl j=>cases a;exact PySem.EqMixed.eq_str_bool (J2 I q (by simp))
  |int j=>obtain⟨t',rfl⟩:=a;exact PySem.EqMixed.eq_str_int (J2 I q (by simp))
  |str j=>obtain⟨t',rfl⟩:=a;exact eq_str (J2 I q lG)
  |_=>exact absurd (show false=true from hs) Y1
 | byt i =>
  obtain⟨t,rfl⟩:=b
  cases y with
  |byt j=>obtain⟨t',rfl⟩:=a;exact PySem.W.eq_bytes (J2 I q OH)
  |_=>exact absurd (show false=true from hs) Y1
 |_=>cases y <;> exact absurd (show false=true from hs) Y1
def JD:OpR X (compareOp .NotEq) rNe:=by
 intro pins s σ H x y v u Q I b a h
 obtain⟨hs,q⟩:=h
 cases x with
 | non =>
  cases b
  cases y with
  |non=>cases a;exact PySem.EqNone.ne_none_none (J2 I q (by simp))
  |bl j=>cases a;exact PySem.EqNone.ne_none_bool (J2 I q (by simp))
  |int j=>obtain⟨t',rfl⟩:=a;exact PySem.EqNone.ne_none_int (J2 I q (by simp))
  |str j=>obtain⟨t',rfl⟩:=a;exact PySem.EqNone.ne_none_str (J2 I q (by simp))
  |_=>exact absurd (show false=true from hs) Y1
 | bl i =>
  cases b
  cases y with
  |non=>cases a;exact PySem.EqNone.ne_bool_none (J2 I q (by simp))
  |bl j=>cases a;exact ne_bool (J2 I q (congrArg not FE))
  |str j=>obtain⟨t',rfl⟩:=a;exact PySem.EqMixed.ne_bool_str (J2 I q (by simp))
  |_=>exact absurd (show false=true from hs) Y1
 | int i =>
  obtain⟨t,rfl⟩:=b
  cases y with
  |non=>cases a;exact PySem.EqNone.ne_int_none (J2 I q (by simp))
  |int j=>obtain⟨t',rfl⟩:=a;exact ne_int (J2 I q (congrArg not IB))
  |str j=>obtain⟨t',rfl⟩:=a;exact PySem.EqMixed.ne_int_str (J2 I q (by simp))
  |_=>exact absurd (show false=true from hs) Y1
 | str i =>
  obtain⟨t,rfl⟩:=b
  cases y with
  |non=>cases a;exact PySem.EqNone.ne_str_none (J2 I q (by simp))
  |bl j=>cases a;exact PySem.EqMixed.ne_str_bool (J2 I q (by simp))
  |int j=>obtain⟨t',rfl⟩:=a;exact PySem.EqMixed.ne_str_int (J2 I q (by simp))
  |str j=>obtain⟨t',rfl⟩:=a;exact ne_str (J2 I q (congrArg not lG))
  |_=>exact absurd (show false=true from hs) Y1
 | byt i =>
  obtain⟨t,rfl⟩:=b
  cases y with
  |byt j=>obtain⟨t',rfl⟩:=a;exact PySem.W.ne_bytes (J2 I q (congrArg not OH))
  |_=>exact absurd (show false=true from hs) Y1
 |_=>cases y <;> exact absurd (show false=true from hs) Y1
def BB:OpR X (compareOp .Lt) (rI0 λi j=>.bl (decide (i<j))):=opB0 λ_ _ _ _ _ _ _ q=>lt_int q
def hI:OpR X (compareOp .LtE) (rI0 λi j=>.bl (decide (i<=j))):=opB0 λ_ _ _ _ _ _ _ q=>le_int q
def DB:OpR X (compareOp .Gt) (rI0 λi j=>.bl (decide (j<i))):=opB0 λ_ _ _ _ _ _ _ q=>gt_int q
def bP:OpR X (compareOp .GtE) (rI0 λi j=>.bl (decide (j<=i))):=opB0 λ_ _ _ _ _ _ _ q=>ge_int q
def eS:OpR X (compareOp .Is) (λx y H Q=>y=.non/\Q (.bl (decide (x=.non))) H):=by
 intro pins s σ H x y v u Q I a b h
 obtain⟨rfl,q⟩:=h
 cases b
 refine is_none_gen (J2 I q ?_)
 cases x <;> first
  |(cases a;rfl)
  |(obtain⟨t,rfl⟩:=a;rfl)
def FN:OpR X (compareOp .IsNot) (λx y H Q=>y=.non/\Q (.bl (!decide (x=.non))) H):=by
 intro pins s σ H x y v u Q I a b h
 obtain⟨rfl,q⟩:=h
 cases b
 refine isnot_none_gen (J2 I q ?_)
 cases x <;> first
  |(cases a;rfl)
  |(obtain⟨t,rfl⟩:=a;rfl)
def T1(b:Expr){op:CmpOp}(h:op ≠ .In:=by decide)(a:op ≠ .NotIn:=by decide):behindInMarks op b=false:=by
 have c:(op == CmpOp.In)=false:=by cases op <;> first|rfl|exact absurd rfl h
 have e2:(op == CmpOp.NotIn)=false:=by cases op <;> first|rfl|exact absurd rfl a
 cases b <;> simp[behindInMarks,c,e2]
def L6{op:CmpOp}{r:R2}(c:OpR X (compareOp op) r)(ha:PE X a ta)(hb:PE X b tb)(hm:behindInMarks op b=false):PE X (.Compare a [op] [b] pos) (tOp r ta tb):=by
 intro pins s σ H Q I h
 exact wpAny_Compare1 (binT ha hb I h λv u s2 x y H2 g f d q=>c pins s2 σ H2 x y v u Q g f d q) hm
def uD(t:TE):TT:=λσ H Q=>t σ H λx H'=>∃ k,x=.bl k/\Q k H'
def U2{op:CmpOp}{r:R2}(n:OpR X (compareOp op) r)(ha:PE X a ta)(hb:PE X b tb)(hm:behindInMarks op b=false):PT X (.Compare a [op] [b] pos) (uD (tOp r ta tb)):=by
 intro pins s σ H Q I h
 refine wpAny_isTrue_Compare1 (thn (ha pins s σ H _ I h) λv s1 ⟨x,l,d,f,j⟩=>thn (hb pins s1 σ l _ d j) λu s2 ⟨y,H2,p,g,m⟩ =>
  thn (n pins s2 σ H2 x y v u _ p f g m) λc w ⟨z,H3,o,i,k,e,q⟩=>?_) hm
 subst e
 cases i
 exact Q7 ⟨H3,o,q⟩
def QC(r r':R2)(ta tb tc:TE):TE:=λσ H Q=>ta σ H λx H1=>tb σ H1 λy H2=>r x y H2 λz H3=>∃ k,z=.bl k /\
 (if k=true then tc σ H3 λw' H4=>r' y w' H4 Q else Q (.bl false) H3)
def FM{op f:CmpOp}{r j:R2}(F:OpR X (compareOp op) r)(g:OpR X (compareOp f) j)(ha:PE X a ta)(hb:PE X b tb)(L:PE X c tc)
  (hm:lastMarks [op,f] [b,c]=false:=by with_unfolding_all rfl):PE X (.Compare a [op,f] [b,c] pos) (QC r j ta tb tc):=by
 intro pins s σ H Q I h
 refine Compare_chain (thn (ha pins s σ H _ I h) λv s1 ⟨x,A,n,o,w⟩=>chain_link (thn (hb pins s1 σ A _ n w) λu s2 ⟨y,H2,M,i,C⟩ =>
  thn (F pins s2 σ H2 x y v u _ M o i C) λd D ⟨z,H3,l,q,k,e,m⟩=>?_)) hm
 subst e
 cases q
 refine Q7 ?_
 cases k with
 |false=>exact ite_ff ⟨.bl false,H3,l,rfl,m⟩
 |true=>exact ite_tt (chain_last (thn (L pins D σ H3 _ l m) λE J ⟨B,p,K,N,G⟩=>g pins J σ p y B u E Q K i N G))
def TruV(K:Frag)(x:V)(H:Hp)(k:Bool):Prop :=
 match x with
 | .non=>k=false
 | .bl b=>k=b
 | .int i=>k=(i != 0)
 | .str y=>y.length<=sizeLine/\k=((y.length:Int) != 0)
 | .byt y=>y.size<=sizeLine/\k=((y.size:Int) != 0)
 | .ref p=>(∃ xs,SqL K H p xs/\k = !xs.isEmpty)\/(∃ xs,SqT K H p xs/\k = !xs.isEmpty)\/∃ kvs,H p=some (.dK kvs)/\k = !kvs.isEmpty
 |_=>False
def tP{κ:Type}{kvs:List (κ × V)}{vs:List (κ × Value)}(r:KV kvs vs):(!vs.isEmpty) = !kvs.isEmpty:=by
 cases r <;> rfl
def dF{xs:List V}{its:List Value}(r:Vals xs its):(!its.toArray.isEmpty) = !xs.isEmpty:=by
 cases r <;> simp
def U9:(sizeLine:Nat)<2 ^ 63:=by rw[sizeLine_eq];decide
def mM:TruR X (λx H Q=>∃ k,TruV X.K x H k/\Q k H):=by
 intro pins s σ H x v Q I d h
 obtain⟨k,e,q⟩:=h
 have l:=U9
 have hs:sizeLine=16777216:=sizeLine_eq
 cases x with
 | non =>
  cases d
  have a:k=false:=e
  subst a
  exact truthy_none ⟨H,I,q⟩
 | bl b =>
  cases d
  have a:k=b:=e
  subst a
  exact Q7 ⟨H,I,q⟩
 | int i =>
  obtain⟨t,rfl⟩:=d
  have a:k=(i != 0):=e
  subst a
  exact PySem.P.truthy_int ⟨H,I,q⟩
 | str y =>
  obtain⟨t,rfl⟩:=d
  obtain⟨j,a⟩:y.length<=sizeLine/\k=((y.length:Int) != 0):=e
  subst a
  exact PySem.P.truthy_str (by lia) ⟨H,I.tok _,q⟩
 | byt y =>
  obtain⟨t,rfl⟩:=d
  obtain⟨j,a⟩:y.size<=sizeLine/\k=((y.size:Int) != 0):=e
  subst a
  exact PySem.W.truthy_bytes (by lia) ⟨H,I.tok _,q⟩
 | ref p =>
  cases d
  have a:(∃ xs,SqL X.K H p xs/\k = !xs.isEmpty)\/(∃ xs,SqT X.K H p xs/\k = !xs.isEmpty)\/∃ kvs,H p=some (.dK kvs)/\k = !kvs.isEmpty:=e
  rcases a with ⟨xs,f,a⟩|⟨xs,f,a⟩|⟨kvs,f,a⟩
  ·subst a
   obtain⟨its,r,pl,hz⟩:=I.list f
   have c:=r.length
   exact wpAny_truthy_list pl.isList (by simp only[S2];lia) ⟨H,I.tok _,by rw[dF r];exact q⟩
  ·subst a
   obtain⟨its,r,pl,hz⟩:=I.tuple f
   have c:=r.length
   exact truthy_tuple pl (by simp only[S2];lia) ⟨H,I.tok _,by rw[dF r];exact q⟩
  ·subst a
   obtain⟨hz,g,vs,r,m⟩:kvs.length<=sizeLine/\(p == sysModules)=false/\∃ vs,KV kvs vs/\s.heap.DictOf (N3 X.prog X.w) p vs:=I.hok p _ f
   have c:kvs.length=vs.length:=Paired.length r
   exact wpAny_truthy_dict g m (by lia) ⟨H,I.tok _,by rw[tP r];exact q⟩
 |_=>exact(show False from e).elim
def SM(ha:PE X a ta)(g:∀ whole,isTrue a X.env whole=(do let v ← whole;standAt a.pos;holding [v] (truthy v))) :
  PT X a (λσ H Q=>ta σ H λx H'=>∃ k,TruV X.K x H' k/\Q k H'):=by
 intro pins s σ H Q I h
 exact isTrue_plain (thn (ha pins s σ H _ I h) λv s1 ⟨x,f,b,c,d⟩=>mM pins s1 σ f x v Q b c d) (g _)
def Y4{x:V}{us:List Value}(r:Vals [x] us):∃ u,us=[u]/\RelV x u:=by
 cases r with
 |cons r1 r2=>cases r2;exact⟨_,rfl,r1⟩
def zA{x y:V}{us:List Value}(r:Vals [x,y] us):∃ u a,us=[u,a]/\RelV x u/\RelV y a:=by
 cases r with
 | cons r1 r2 =>
  cases r2 with
  |cons r3 r4=>cases r4;exact⟨_,_,rfl,r1,r3⟩
def QL(a:X.calm=true):M2 X (.builtin "max") (λxs H Q=>∃ i j,xs=[.int i,.int j]/\Q (.int (if j > i then j else i)) H):=by
 intro pins s σ H xs us Q I r h
 obtain⟨i,j,rfl,q⟩:=h
 obtain⟨u,b,rfl,⟨t,rfl⟩,⟨t',rfl⟩⟩:=zA r
 refine max_two_ints (I.ok.hd a) λh' c k=>⟨_,H,I.kept k,?_,q⟩
 by_cases hj:j > i
 ·rw[t0 hj,t0 hj];exact⟨_,rfl⟩
 ·rw[y0 hj,y0 hj];exact⟨_,rfl⟩
def xP(a:X.calm=true):M2 X (.builtin "min") (λxs H Q=>∃ i j,xs=[.int i,.int j]/\Q (.int (if j<i then j else i)) H):=by
 intro pins s σ H xs us Q I r h
 obtain⟨i,j,rfl,q⟩:=h
 obtain⟨u,b,rfl,⟨t,rfl⟩,⟨t',rfl⟩⟩:=zA r
 refine min_two_ints (I.ok.hd a) λh' c k=>⟨_,H,I.kept k,?_,q⟩
 by_cases hj:j<i
 ·rw[t0 hj,t0 hj];exact⟨_,rfl⟩
 ·rw[y0 hj,y0 hj];exact⟨_,rfl⟩
def jO:M2 X (.type "int") (λxs H Q=>(∃ i,xs=[.int i]/\Q (.int i) H)\/∃ k,xs=[.bl k]/\Q (.int (if k then 1 else 0)) H):=by
 intro pins s σ H xs us Q I r h
 rcases h with ⟨i,rfl,q⟩|⟨k,rfl,q⟩
 ·obtain⟨u,rfl,t,rfl⟩:=Y4 r
  exact call_int_int ⟨.int i,H,I,⟨_,rfl⟩,q⟩
 ·obtain⟨u,rfl,a⟩:=Y4 r
  cases a
  exact call_int_bool ⟨.int (if k then 1 else 0),H,I.tok _,⟨_,rfl⟩,q⟩
end
structure ObjM(h:Heap)(x dx C:Addr)(mA:Str->Option Value):Prop where
 obj:h.get? x=some (PySem.W.instObj C dx)
 ns:h.Ns1 dx mA
 ne:dx ≠ x
def MN{h:Heap}{dx:Addr}{mA:Str->Option Value}(n:h.Ns1 dx mA):∃ od,h.get? dx=some od/\∀ name,PySem.W.lookIn name od=some (mA name):=by
 obtain⟨o,es,ep,f,hd,d,_,hm⟩:=n
 refine⟨o,f,λname=>?_⟩
 have e:=hm name
 unfold nsFind findBy at e
 rw[← Array.find?_toList] at e
 unfold PySem.W.lookIn
 rw[hd]
 dsimp only
 split
 ·rename_i y q
  rw[q] at e
  exact congrArg some e
 ·rename_i q
  rw[q] at e
  have a:es.toList.any (·.refKey)=false:=by
   rw[List.any_eq_false]
   intro y g
   obtain⟨z,t,b⟩:=d y (Array.mem_toList_iff.mp g)
   simp[DictEntry.refKey,b]
  have c:¬ es.toList.any (·.refKey)=true:=by rw[a];exact Y1
  rw[y0 c]
  exact congrArg some e
def ObjM.look{h:Heap}{x dx C:Addr}{mA:Str->Option Value}(I:ObjM h x dx C mA):∃ od,PySem.W.InstAt h x (PySem.W.instObj C dx) C (some od)/\∀ name,PySem.W.lookIn name od=some (mA name) :=
 let ⟨od,a,b⟩:=MN I.ns
 ⟨od,⟨I.obj,rfl,rfl,a⟩,b⟩
section
variable{prog:Program}{w:World}{A:Around}{E:Value->Shared->Prop}{s:Shared}{K:Frag}{x dx C f:Addr}{mA:Str->Option Value}{name:Str}{v:Value}
def wI{a:Bool}{Q:Value->Shared->Prop}(X:K.In s.heap)(I:ObjM s.heap x dx C mA)(f:PySem.W.plainGet K C name=true)(hh:PySem.W.hasDictIn K C=true)
  (ha:PySem.W.findIn K (.ref C) name=some none) (c:mA name=some v) (b:PySem.W.handedIn v=true) (h:Q v { s with toks:=s.toks+1 }) :
  wpAny (model prog w) A (getAttr (.ref x) name a) Q E s:=by
 obtain⟨od,J,d⟩:=I.look
 exact PySem.W.get_value X J (PySem.W.plainGet_of f).1 (PySem.W.findObj_own hh ha rfl (by rw[d,c])) b h
def sO{pl:Sem Bool}{Q:Value × List Value->Shared->Prop}(X:K.In s.heap)(I:ObjM s.heap x dx C mA)(a:PySem.W.plainGet K C name=true)
  (hf:PySem.W.findIn K (.ref C) name=some (some (.ref f))) (b:PySem.W.isFn K (.ref f)=true) (d:mA name=none) (h:Q (.ref f,[.ref x]) s) :
  wpAny (model prog w) A (getMethod (.ref x) name pl) Q E s:=by
 obtain⟨od,J,c⟩:=I.look
 exact PySem.W.method_fn X J (PySem.W.plainGet_of a).1 (PySem.W.plainGet_of a).2 hf (N1.mp b) (by show(PySem.W.lookIn name od).map (·.isSome)=some false;rw[c,d];rfl) h
def GO{ns:List Str}{Q:Unit->Shared->Prop}(X:K.In s.heap)(I:ObjM s.heap x dx C mA)
  (hs:PySem.W.findIn K (.ref C) "__setattr__" = some (some (.builtin "object.__setattr__"))) (n:PySem.W.plainOver K C=true) (l:PySem.W.takerIn K C name=some none) (hh:PySem.W.hasDictIn K C=true)
  (p:PySem.Within mA ns) (hsz:ns.length<=sizeLine)
  (h:∀ h',ObjM h' x dx C (λy=>if y=name then some v else mA y)->Heap.SameBut dx s.heap h'->Q () { s with heap:=h',toks:=s.toks+2 }) :
  wpAny (model prog w) A (setAttr (.ref x) name v) Q E s:=by
 obtain⟨od,J,z⟩:=I.look
 refine PySem.W.set_plain X J hs (PySem.W.osa_open (s:={ s with toks:=s.toks+1 }) (r:=none) X J n l λb=>?_)
 obtain⟨B,q,j⟩:=PySem.W.any_some hh
 have u:s.heap.get? x=some ⟨.ref C,some dx,.plain,#[]⟩:=I.obj
 refine C0 (M0 (C0 (C0 (wpAny_loadPart u (C0 (PySem.W.Looks.here (s:={ s with toks:=s.toks+1 }) (PySem.W.looks_clsIn X q) ?_))))))
 rw[j]
 refine M0 (a:=some dx) (C0 (M0 (C0 ?_)))
 refine wpAny_nsSet1 (s:={ s with toks:=s.toks+1 }) I.ns λh' c d=>?_
 obtain⟨oD,o,m,f,i,g⟩:=c.count (PySem.Within.cons name v p)
 refine C0 (wpAny_lookBehind f (by rw[i];exact pastItsLine_dict (T2 g (by rw[W3];lia))) ?_)
 exact M0 (h _ ⟨(d.2 _ (Ne.symm I.ne)).trans I.obj,c,I.ne⟩ d)
def xK{R:Result->Shared->Prop}{vs:List Value}{a:List (Str × Value)}(X:K.In s.heap)(hm:PySem.W.makesIn K C=true)
  (hi:PySem.W.findIn K (.ref C) "__init__" = some (some (.ref f))) (hf:PySem.W.typeIn K (.ref f)=some (.type "function"))
  (h:codeAny (model prog w) (A.under (.builtin "type.__call__" ⟨.ref C::vs,a⟩)) (.call (.ref f) ⟨.ref (s.heap.objs.size+1)::vs,a⟩) (PySem.W.InitBack (s.heap.objs.size+1) R)
   { s with heap:=(s.heap.push PySem.W.emptyDict).push (PySem.W.instObj C s.heap.objs.size) }) :
  codeAny (model prog w) A (.call (.ref C) ⟨vs,a⟩) R s:=by
 obtain⟨hh,g,d,t,os⟩:=s
 exact PySem.W.make_core (PySem.W.makes_of X hm) (PySem.W.looks_findIn X hi) (λself=>PySem.W.bind_fn X self hf) (.inl rfl) h
end
def putF(f:Str)(v:V):List (Str × V)->List (Str × V)
 |[]=>[(f,v)]
 |(g,x)::r=>if g=f then (g,v)::r else (g,x)::putF f v r
def BG(f g:Str)(v:V):∀ fs:List (Str × V),(putF f v fs).lookup g=if g=f then some v else fs.lookup g
 | []=>by
  show List.lookup g [(f,v)]=_
  by_cases h:g=f
  ·have hb:(g == f)=true:=N1.mpr h
   simp only[List.lookup,hb,t0 h]
  ·have hb:(g == f)=false:=beq_eq_false_iff_ne.mpr h
   simp only[List.lookup,hb,y0 h]
 | (k,x)::r=>by
  have a:=BG f g v r
  rw[show putF f v ((k,x)::r)=(if k=f then (k,v)::r else (k,x)::putF f v r) from rfl]
  by_cases hk:k=f
  ·rw[t0 hk]
   by_cases h:g=k
   ·have hb:(g == k)=true:=N1.mpr h
    simp only[List.lookup,hb,t0 (h.trans hk)]
   ·have hb:(g == k)=false:=beq_eq_false_iff_ne.mpr h
    simp only[List.lookup,hb,y0 (λe:g=f=>h (e.trans hk.symm))]
  ·rw[y0 hk]
   by_cases h:g=k
   ·have hb:(g == k)=true:=N1.mpr h
    simp only[List.lookup,hb,y0 (λe:g=f=>hk (h.symm.trans e))]
   ·have hb:(g == k)=false:=beq_eq_false_iff_ne.mpr h
    simp only[List.lookup,hb]
    exact a
def aE(f:Str)(v:V):∀ fs:List (Str × V),f∈(putF f v fs).map (·.1)/\∀ g,g∈fs.map (·.1)->g∈(putF f v fs).map (·.1)
 |[]=>⟨by simp[putF],λg h=>by simp at h⟩
 | (k,x)::r=>by
  obtain⟨a,b⟩:=aE f v r
  rw[show putF f v ((k,x)::r)=(if k=f then (k,v)::r else (k,x)::putF f v r) from rfl]
  by_cases hk:k=f
  ·rw[t0 hk]
   subst hk
   exact⟨by simp,λg h=>by simpa using h⟩
  ·rw[y0 hk]
   refine⟨?_,λg h=>?_⟩
   ·rw[P2]
    exact S3 _ a
   ·rw[P2] at h ⊢
    rcases Z0.mp h with e|e
    ·exact Z0.mpr (.inl e)
    ·exact S3 _ (b g e)
def bG(f:Str)(v:V):∀ fs:List (Str × V),(putF f v fs).length<=fs.length+1
 |[]=>by simp[putF]
 | (k,x)::r=>by
  have a:=bG f v r
  rw[show putF f v ((k,x)::r)=(if k=f then (k,v)::r else (k,x)::putF f v r) from rfl]
  by_cases hk:k=f
  ·rw[t0 hk,W3,W3];lia
  ·rw[y0 hk,W3,W3];lia
def RelO.some_of{v:V}{o:Option Value}(r:RelO (some v) o):∃ u,o=some u/\RelV v u:=by
 cases o with
 |none=>exact(show False from r).elim
 |some u=>exact⟨u,rfl,r⟩
def RelO.none_of{o:Option Value}(r:RelO none o):o=none:=by
 cases o with
 |none=>rfl
 |some u=>exact(show False from r).elim
def vI{v:V}{u:Value}(r:RelV v u):PySem.W.handedIn u=true:=by
 cases v with
 |non=>cases (show u=Value.none from r);rfl
 |bl b=>cases (show u=Value.bool b from r);rfl
 |int i=>obtain⟨t,e⟩:=(show ∃ t,u=Value.int i t from r);cases e;rfl
 |str x=>obtain⟨t,e⟩:=(show ∃ t,u=Value.str x t from r);cases e;rfl
 |byt b=>obtain⟨t,e⟩:=(show ∃ t,u=Value.bytes b t from r);cases e;rfl
 |flt b=>obtain⟨t,e⟩:=(show ∃ t,u=Value.float b t from r);cases e;rfl
 |ref a=>cases (show u=Value.ref a from r);rfl
 |ty n=>cases (show u=Value.type n from r);rfl
section
variable{P:Program}{w:World}{H H':Hp}{h h':Heap}{a C dx:Addr}{fs fs':List (Str × V)}
def LA(hok:HOk P w H h)(e:H a=some (.ins C dx fs)):∃ mA,ObjM h a dx C mA/\(∀ f,RelO (fs.lookup f) (mA f))/\PySem.Within mA (fs.map (·.1))/\fs.length<=1000/\H dx=some (.own a):=by
 obtain⟨d,z,ne,b,mA,n,r,q⟩:=(show ObjOk P w H h a (.ins C dx fs) from hok a _ e)
 exact⟨mA,⟨b,n,ne⟩,r,q,z,d⟩
end
structure Cls(K:Frag)(C:Addr):Prop where
 pg:PySem.W.plainGet K C Str.empty=true
 hd:PySem.W.hasDictIn K C=true
 po:PySem.W.plainOver K C=true
 sa:PySem.W.findIn K (.ref C) "__setattr__" = some (some (.builtin "object.__setattr__"))
def Cls.get{K:Frag}{C:Addr}(c:Cls K C)(f:Str):PySem.W.plainGet K C f=true:=c.pg
def NoAttr(K:Frag)(C:Addr)(f:Str):Prop:=PySem.W.findIn K (.ref C) f=some none
def NoAttr.taker{K:Frag}{C:Addr}{f:Str}(n:NoAttr K C f):PySem.W.takerIn K C f=some none:=by
 unfold PySem.W.takerIn
 rw[show PySem.W.findIn K (.ref C) f=some none from n]
 rfl
structure Meth(K:Frag)(C:Addr)(m:Str)(f:Addr):Prop where
 at_:PySem.W.findIn K (.ref C) m=some (some (.ref f))
 fn:PySem.W.isFn K (.ref f)=true
 kp:keepIn K (.ref f)=true
section
variable{X:Cx}{pins:List (Addr × Obj)}{σ:St}{H:Hp}{s:Shared}{a C dx:Addr}{fs:List (Str × V)}{f:Str}{v:V}{A:Around}{E:Value->Shared->Prop}
def mQ{b:Bool}{Q:Value->Shared->Prop}(I:Inv X pins σ H s)(e:H a=some (.ins C dx fs))(c:Cls X.K C)(n:NoAttr X.K C f)(l:fs.lookup f=some v)
  (h:∀ u g,Inv X pins σ H g->RelV v u->Q u g):wpAny (model X.prog X.w) A (getAttr (.ref a) f b) Q E s:=by
 obtain⟨mA,O,r,_,_,_⟩:=LA I.hok e
 obtain⟨u,i,d⟩:=RelO.some_of (v:=v) (o:=mA f) (by rw[← l];exact r f)
 exact wI I.kIn O (c.get f) c.hd n i (vI d) (h u _ (I.tok _) d)
def YA{m:Str}{g:Addr}{pl:Sem Bool}{Q:Value × List Value->Shared->Prop}(I:Inv X pins σ H s)(e:H a=some (.ins C dx fs))(c:Cls X.K C)(k:Meth X.K C m g)(l:fs.lookup m=none)
  (h:Q (.ref g,[.ref a]) s):wpAny (model X.prog X.w) A (getMethod (.ref a) m pl) Q E s:=by
 obtain⟨mA,O,r,_,_,_⟩:=LA I.hok e
 have hn:mA m=none:=RelO.none_of (by rw[← l];exact r m)
 exact sO I.kIn O (c.get m) k.at_ k.fn hn h
def JQ{y:V}{u:Value}{Q:Unit->Shared->Prop}(I:Inv X pins σ H s)(e:H a=some (.ins C dx fs))(c:Cls X.K C)(n:NoAttr X.K C f)(B:fs.length<1000)(p:RelV y u)
  (h:∀ l,Inv X pins σ (upd H a (.ins C dx (putF f y fs))) l->Q () l):wpAny (model X.prog X.w) A (setAttr (.ref a) f u) Q E s:=by
 obtain⟨mA,O,r,i,_,j⟩:=LA I.hok e
 have hz:(fs.map (·.1)).length<=sizeLine:=by rw[T0,sizeLine_eq];lia
 refine GO I.kIn O c.sa c.po n.taker c.hd i hz λh' d sb=>h _ ?_
 have hd:∃ o,h'.get? dx=some o:=let ⟨o,_,_,m,_⟩:=d.ns;⟨o,m⟩
 refine I.write (x:=a) (e:=dx) (by rw[e];exact True.intro) (.inr j) (λb q hb z=>(sb.2 b hb).trans z) hd ?_
 refine⟨by rw[z0 O.ne];exact j,?_,O.ne,d.obj,_,d.ns,λg=>?_,λg v=>?_⟩
 ·have:=bG f y fs;lia
 ·show RelO ((putF f y fs).lookup g) (if g=f then some u else mA g)
  rw[BG]
  by_cases q:g=f
  ·rw[t0 q,t0 q];exact p
  ·rw[y0 q,y0 q];exact r g
 ·by_cases q:g=f
  ·rw[q];exact(aE f y fs).1
  ·refine(aE f y fs).2 g (i g λz=>v ?_)
   show(if g=f then some u else mA g)=none
   rw[y0 q];exact z
def Inv.made(I:Inv X pins σ H s):Inv X pins σ (upd (upd H s.heap.objs.size (.own (s.heap.objs.size+1))) (s.heap.objs.size+1) (.ins C s.heap.objs.size []))
  { s with heap:=(s.heap.push PySem.W.emptyDict).push (PySem.W.instObj C s.heap.objs.size) }:=by
 have c:(s.heap.push PySem.W.emptyDict).get? s.heap.objs.size=some PySem.W.emptyDict:=X2 s.heap rfl
 have e2:((s.heap.push PySem.W.emptyDict).push (PySem.W.instObj C s.heap.objs.size)).get? (s.heap.objs.size+1)=some (PySem.W.instObj C s.heap.objs.size):=by
  have:=X2 (s.heap.push PySem.W.emptyDict) (o:=PySem.W.instObj C s.heap.objs.size) rfl
  rwa [K7] at this
 have h:(s.heap.push PySem.W.emptyDict).Ns s.heap.objs.size (λ_=>none):=⟨PySem.W.emptyDict,#[],_,c,rfl,(λe f=>absurd f (by simp)),λ_=>rfl⟩
 have d:=I.laid (a:=s.heap.objs.size) (o:=.own (s.heap.objs.size+1)) (h':=s.heap.push PySem.W.emptyDict) (t':=s.toks) (λb u q=>S1 _ q) (N0 _) ⟨_,c⟩
 refine d.laid (a:=s.heap.objs.size+1) (o:=.ins C s.heap.objs.size []) (t':=s.toks) (λb u q=>S1 _ q) (Nat.le_of_eq (K7 _ _)) ?_
 have ne:s.heap.objs.size ≠ s.heap.objs.size+1:=O1 (i8 _)
 refine⟨by rw[z0 ne,K0],Y3 _,ne,e2,λ_=>none,(Heap.Ns1.of_empty h).at λo q=>S1 _ q,λ_=>True.intro,λy g=>absurd rfl g⟩
def EM{prog:Program}{w:World}{env:Env}{e:Expr}{f:Str}{b:Pos}{s:Shared}{Q:Value->Shared->Prop}(hb:attributeBase e f env (eval e env)=eval e env)
  (h:wpAny (model prog w) A (eval e env) (λo a=>wpAny (model prog w) A (getAttr o f true) Q E a) E s):wpAny (model prog w) A (eval (.Attribute e f b) env) Q E s :=
 Attribute_any_ h (by rw[arm_eval_Attribute,hb])
end
def tFld(K:Frag)(ta:TE)(f:Str):TE:=λσ H Q=>ta σ H λx H1=>∃ a C dx fs v,x=.ref a/\H1 a=some (.ins C dx fs)/\Cls K C/\NoAttr K C f/\fs.lookup f=some v/\Q v H1
def sFld(K:Frag)(ta tv:TE)(f:Str):TS:=λD σ H=>tv σ H λy H1=>ta σ H1 λx H2=>∃ a C dx fs,x=.ref a/\H2 a=some (.ins C dx fs)/\Cls K C/\NoAttr K C f/\fs.length<1000 /\
 D.nx σ (upd H2 a (.ins C dx (putF f y fs)))
section
variable{X:Cx}{o e value:Expr}{f:Str}{pos pos' tpos:Pos}{ta tv:TE}
def K6(j:PE X e ta)(hb:attributeBase e f X.env (eval e X.env)=eval e X.env):PE X (.Attribute e f pos) (tFld X.K ta f):=by
 intro pins s σ H Q I h
 refine EM hb (thn (j pins s σ H _ I h) λu s1 ⟨x,i,b,m,a,C,dx,fs,v,ex,d,c,n,l,q⟩=>?_)
 subst ex
 obtain rfl:u=Value.ref a:=m
 exact mQ b d c n l λp s2 o g=>⟨v,i,o,g,q⟩
def RH(ha:PE X o ta)(r:PE X value tv)(hs:swapsWith value (some (.Attribute o f pos')) pos.line X.env=pure false):PS X (.Assign [.Attribute o f pos'] value pos) (sFld X.K ta tv f):=by
 intro pins s σ H D I h
 refine plainObj_wpAny_Assign_Attribute (thn (r pins s σ H _ I h) λu s1 ⟨y,g,b,j,q⟩=>thn (ha pins s1 σ g _ b q) λv s2 ⟨x,H2,w,p,a,C,dx,fs,ex,d,c,n,l,i⟩=>?_) hs
 subst ex
 obtain rfl:v=Value.ref a:=p
 exact JQ w d c n l j λz m=>⟨σ,_,m,i⟩
end
section
variable{X:Cx}{pins:List (Addr × Obj)}{σ:St}{H:Hp}{s:Shared}{A:Around}{E:Value->Shared->Prop}{Q:Value->Shared->Prop}{c:Value}{b:Bool}
inductive TyOf(K:Frag)(H:Hp):V->Value->Prop where
 |non:TyOf K H .non (.type "NoneType")
 |bl (x:Bool):TyOf K H (.bl x) (.type "bool")
 |int (i:Int):TyOf K H (.int i) (.type "int")
 |str (x:Str):TyOf K H (.str x) (.type "str")
 |flt (x:UInt64):TyOf K H (.flt x) (.type "float")
 |lst {a:Addr} {xs:List V} (e:H a=some (.lst xs)):TyOf K H (.ref a) (.type "list")
 |frz {a:Addr} {o:Obj} {xs:List V} (e:H a=some (.frz o (.lst xs))):TyOf K H (.ref a) (.type "list")
 |tup {a:Addr} {xs:List V} (e:H a=some (.tup xs)):TyOf K H (.ref a) (.type "tuple")
 |dK {a:Addr} {kvs:List (Key × V)} (e:H a=some (.dK kvs)):TyOf K H (.ref a) (.type "dict")
 |dT {a:Addr} {kvs:List (List Key × V)} (e:H a=some (.dT kvs)):TyOf K H (.ref a) (.type "dict")
 | ins {a C dx:Addr} {fs:List (Str × V)} (e:H a=some (.ins C dx fs)) (cl:Cls K C) (ha:PySem.W.findIn K (.ref C) "__class__" = some (some (.builtin "object.__class__")))
   (hn:PySem.W.specialIn K (.builtin "object.__class__") "__get__" = some (some (.builtin "getset_descriptor.__get__"))) (htk:PySem.W.takesIn K (.builtin "object.__class__")=some true)
   (hm:mroIn K C (.type "object")=some true):TyOf K H (.ref a) (.ref C)
def vR{x:V}{u t:Value}(I:Inv X pins σ H s)(d:RelV x u)(ty:TyOf X.K H x t)(e:kitOne X.K t c=some b)(h:∀ j,Q (.bool b) { s with toks:=j }) :
  wpAny (model X.prog X.w) A (call (.builtin "isinstance") [u,c]) Q E s:=by
 cases ty with
 |non=>cases (show u=Value.none from d);exact PySem.W.kia_one PySem.W.kitx_none I.kIn True.intro e (λz=>nomatch z) h
 |bl y=>cases (show u=Value.bool y from d);exact PySem.W.kia_one PySem.W.kitx_bool I.kIn True.intro e (λz=>nomatch z) h
 |int i=>obtain⟨t,q⟩:=(show ∃ t,u=Value.int i t from d);cases q;exact PySem.W.kia_one PySem.W.kitx_int I.kIn True.intro e (λz=>nomatch z) h
 |str y=>obtain⟨t,q⟩:=(show ∃ t,u=Value.str y t from d);cases q;exact PySem.W.kia_one PySem.W.kitx_str I.kIn True.intro e (λz=>nomatch z) h
 |flt y=>obtain⟨t,q⟩:=(show ∃ t,u=Value.float y t from d);cases q;exact PySem.W.kia_one PySem.W.kitx_float I.kIn True.intro e (λz=>nomatch z) h
 | @lst a xs ea =>
  cases (show u=Value.ref a from d)
  obtain⟨_,_,n,_,f⟩:=(show ObjOk X.prog X.w H s.heap a (.lst xs) from I.hok a _ ea)
  exact PySem.W.kia_one PySem.W.kitx_list I.kIn ⟨_,f,rfl⟩ e (λz=>nomatch z) h
 | @frz a ob xs ea =>
  cases (show u=Value.ref a from d)
  obtain⟨_,_,_,n,_,f⟩:=(show ObjOk X.prog X.w H s.heap a (.frz ob (.lst xs)) from I.hok a _ ea)
  exact PySem.W.kia_one PySem.W.kitx_list I.kIn ⟨_,f,rfl⟩ e (λz=>nomatch z) h
 | @tup a xs ea =>
  cases (show u=Value.ref a from d)
  obtain⟨_,_,_,p⟩:=(show ObjOk X.prog X.w H s.heap a (.tup xs) from I.hok a _ ea)
  obtain⟨o,f,g,_⟩:=p
  exact PySem.W.kia_one PySem.W.kitx_tuple I.kIn ⟨o,f,g⟩ e (λz=>nomatch z) h
 | @dK a kvs ea =>
  cases (show u=Value.ref a from d)
  obtain⟨_,_,vs,_,p⟩:=(show ObjOk X.prog X.w H s.heap a (.dK kvs) from I.hok a _ ea)
  obtain⟨o,es,ep,f,g,_⟩:=p
  exact PySem.W.kia_one PySem.W.kitx_dict I.kIn ⟨o,f,g.1⟩ e (λz=>nomatch z) h
 | @dT a kvs ea =>
  cases (show u=Value.ref a from d)
  obtain⟨_,_,xs,_,o,es,ep,f,g,_⟩:=(show ObjOk X.prog X.w H s.heap a (.dT kvs) from I.hok a _ ea)
  exact PySem.W.kia_one PySem.W.kitx_dict I.kIn ⟨o,f,g.1⟩ e (λz=>nomatch z) h
 | @ins a C dx fs ea cl ha hn htk hm =>
  cases (show u=Value.ref a from d)
  obtain⟨mA,O,_⟩:=LA I.hok ea
  obtain⟨od,J,_⟩:=O.look
  exact PySem.W.kia_one (PySem.W.kitx_own (cl.get _) cl.hd ha hn htk hm) I.kIn J e (λz=>nomatch z) h
end
structure Room(k:Nat)(A:Around):Prop where
 hd:A.handled=none
 dp:A.depth+3 * k+5<recursionLimit
 un:A.units+16 * k+200<cLine
 gd:A.guards=some []
def Room.mono{j k:Nat}{A:Around}(r:Room k A)(h:j<=k):Room j A:=⟨r.hd,by have:=r.dp;lia,by have:=r.un;lia,r.gd⟩
def Room.deeper{k:Nat}{A:Around}(r:Room (k+1) A)(env:Env):Room k (A.deeper env) :=
 ⟨r.hd,by have:=r.dp;show A.depth+1+3 * k+5<_;lia,by have:=r.un;show A.units+3+16 * k+200<_;lia,r.gd⟩
def mP{A:Around}{C:Addr}{us:List Value}{a:List (Str × Value)}:(A.under (.builtin "type.__call__" ⟨.ref C::us,a⟩)).depth=A.depth+1:=by
 first|rfl|simp[Around.under,Code.weight,Code.isCreation,Code.isGuard,Code.isCaller,Code.frames,Code.isFrame,guardIds]
def vQ{A:Around}{C:Addr}{us:List Value}{a:List (Str × Value)}:(A.under (.builtin "type.__call__" ⟨.ref C::us,a⟩)).units=A.units+1:=by
 first|rfl|simp[Around.under,Code.cUnits,Code.frames,Code.isFrame]
def qO{A:Around}{C:Addr}{us:List Value}{a:List (Str × Value)}:(A.under (.builtin "type.__call__" ⟨.ref C::us,a⟩)).guards=A.guards:=by
 cases hg:A.guards <;> simp[Around.under,hg,Code.guards,Code.isGuard,guardIds,pushGuards]
def Room.make{k:Nat}{A:Around}(r:Room (k+1) A)(C:Addr)(us:List Value)(a:List (Str × Value)):Room k (A.under (.builtin "type.__call__" ⟨.ref C::us,a⟩)) :=
 ⟨r.hd,by have:=r.dp;rw[mP];lia,by have:=r.un;rw[vQ];lia,by rw[qO];exact r.gd⟩
def Room.depth{k:Nat}{A:Around}(r:Room k A):A.depth<recursionLimit:=by have:=r.dp;lia
def Room.units{k:Nat}{A:Around}(r:Room k A):A.units+64<cLine:=by have:=r.un;lia
def Room.units0{k:Nat}{A:Around}(r:Room k A):A.units<cLine:=by have:=r.un;lia
def tNil:TA:=λ_ H Q=>Q [] H
def X1(ta:TE)(tr:TA):TA:=λσ H Q=>ta σ H λx H1=>tr σ H1 λxs H2=>Q (x::xs) H2
section
variable{X:Cx}{e:Expr}{es:List Expr}{te:TE}{t:TA}{pos:Pos}
def o0:PA X [] tNil:=λ_ _ _ _ H Q I h=>Calls.spliced_nil ⟨[],H,I,.nil,h⟩
def i0(ha:PE X e te)(l:PA X es t)(hs:starEach (e::es) X.env=(false,eval e X.env)::starEach es X.env:=by rfl):PA X (e::es) (X1 te t):=by
 intro a pins s σ H Q I h
 rw[hs]
 show wpAny _ _ (spliced ((false,eval e X.env)::backTo a (starEach es X.env))) _ _ s
 refine Calls.spliced_cons (thn (ha pins s σ H _ I h) λu s1 ⟨x,g,b,c,f⟩=>?_)
 exact thn (l a pins s1 σ g _ b f) λus s2 ⟨xs,H2,j,d,i⟩=>⟨x::xs,H2,j,.cons c d,i⟩
def tTup(t:TA):TE:=λσ H Q=>t σ H λxs H1=>xs.length<=sizeLine/\∀ p,H1 p=none->Q (.ref p) (upd H1 p (.tup xs))
def tLst(t:TA):TE:=λσ H Q=>t σ H λxs H1=>xs.length<=sizeLine/\∀ p,H1 p=none->Q (.ref p) (upd H1 p (.lst xs))
def R1{x1}(h:PA X es t):PE X (.Tuple es x1 pos) (tTup t):=by
 intro pins s σ H Q I d
 refine wpAny_Tuple_spliced (thn (h pos pins s σ H _ I d) λus s1 ⟨xs,c,a,r,z,q⟩=>⟨by rw[← r.length];exact z,?_⟩)
 have hf:c s1.heap.objs.size=none:=a.hok.fresh (N0 _)
 refine⟨.ref s1.heap.objs.size,upd c s1.heap.objs.size (.tup xs),a.laid (t':=s1.toks) (λb u e=>S1 _ e) (N0 _) ?_,rfl,q _ hf⟩
 exact⟨z,us,r,⟨_,X2 _ rfl,rfl,_,rfl⟩⟩
def Q1(h:PA X es t):PE X (.List es pos) (tLst t):=by
 intro pins s σ H Q I d
 refine wpAny_List_spliced (thn (h pos pins s σ H _ I d) λus s1 ⟨xs,c,a,r,z,q⟩=>⟨by rw[← r.length];exact z,?_⟩)
 have hf:c s1.heap.objs.size=none:=a.hok.fresh (N0 _)
 refine⟨.ref s1.heap.objs.size,upd c s1.heap.objs.size (.lst xs),a.laid (t':=s1.toks) (λb u e=>S1 _ e) (N0 _) ?_,rfl,q _ hf⟩
 exact⟨z,us,0,r,X2 _ rfl⟩
end
abbrev Sp:=List V->Hp->VK->XK->Prop
abbrev CXT:=List Env->Hp->Shared->XK->Value->Shared->Prop
structure Env0(P:Program)(w:World)(K:Frag)(mg:Str->Option Value)(base:Heap)(A:Around)(outer:List Env)(s:Shared)(H:Hp):Prop where
 frames:A.frames=some outer
 mod:Mod K mg base
 bs:∀ b o,base.get? b=some o->s.heap.get? b=some o/\H b=none
 bsz:base.objs.size<=s.heap.objs.size
 funs:s.heap.FunFrames base outer
 frf:∀ b∈frs outer,H b=none
 hok:HOk P w H s.heap
 bare:AllBare s.gens
def CE(outer:List Env)(P:Program)(w:World)(H:Hp)(s:Shared)(Q:VK)(u:Value)(s':Shared):Prop :=
 ∃ v H',s'.os=s.os/\AllBare s'.gens/\Un (frs outer) [] H H' s.heap s'.heap/\HOk P w H' s'.heap/\RelV v u/\Q v H'
def CR(CX:CXT)(outer:List Env)(P:Program)(w:World)(H:Hp)(s:Shared)(Q:VK)(E:XK)(r:Result)(s':Shared):Prop :=
 match r with
 | .ok (.ret u)=>CE outer P w H s Q u s'
 | .ok _=>False
 | .error e=>CX outer H s E e s'
structure FnOk(P:Program)(w:World)(K:Frag)(mg:Str->Option Value)(base:Heap)(CX:CXT)(k:Nat)(f:Addr)(fd:FuncData)(ps:List Str)(sp:Sp):Prop where
 len:∀ vs H Q E,sp vs H Q E->vs.length=ps.length
 run:∀(A:Around)(outer:List Env)(s:Shared)(H:Hp)(args:Args)(us:List Value)(vs:List V)(Q:VK)(E:XK),Room k A->Env0 P w K mg base A outer s H->BindsTo s fd args (ps.zip us)->Vals vs us->sp vs H Q E ->
  codeAny (model P w) A (.call (.ref f) args) (CR CX outer P w H s Q E) s
def FnOk.imp{P:Program}{w:World}{K:Frag}{mg:Str->Option Value}{base:Heap}{CX:CXT}{k:Nat}{f:Addr}{fd:FuncData}{ps:List Str}{sp a:Sp}(F:FnOk P w K mg base CX k f fd ps sp)
  (h:∀ vs H Q E,a vs H Q E->sp vs H Q E):FnOk P w K mg base CX k f fd ps a :=
 ⟨λvs H Q E q=>F.len vs H Q E (h _ _ _ _ q),λA outer s H args us vs Q E d b hb c hs=>F.run A outer s H args us vs Q E d b hb c (h _ _ _ _ hs)⟩
def Env0.make{P:Program}{w:World}{K:Frag}{mg:Str->Option Value}{base:Heap}{A:Around}{outer:List Env}{s:Shared}{H:Hp}(e:Env0 P w K mg base A outer s H)(C:Addr)(us:List Value)(a:List (Str × Value)) :
  Env0 P w K mg base (A.under (.builtin "type.__call__" ⟨.ref C::us,a⟩)) outer s H:=⟨by first|exact e.frames|(simpa[Around.under,Code.envs,Code.isFrame,pushEnvs] using e.frames),e.mod,e.bs,e.bsz,e.funs,e.frf,e.hok,e.bare⟩
section
variable{X:Cx}{pins:List (Addr × Obj)}{σ:St}{H:Hp}{s s':Shared}
def Inv.env0(I:Inv X pins σ H s):Env0 X.prog X.w X.K X.mg X.base X.A X.stack s H :=
 ⟨I.ok.frames,I.ok.mod,I.bs,T2 I.ok.bsz I.sz,I.stack,I.stkFree,I.hok,I.bare⟩
def Inv.after{Q:VK}{u:Value}(I:Inv X pins σ H s)(h:CE X.stack X.prog X.w H s Q u s'):EP X pins σ Q u s':=by
 obtain⟨v,H',os,bare,un,hok,r,q⟩:=h
 obtain⟨hh,g,d,t,os'⟩:=s'
 obtain rfl:os'=s.os:=os
 exact⟨v,H',I.call (h':=hh) (g':=g) (d':=d) (t':=t) (ch:=[]) un hok bare (λb z=>absurd z (by simp)),r,q⟩
end
def o3(sp:Sp)(dvs:List V)(E:XK)(t:TA):TE:=λσ H Q=>t σ H λvs H1=>sp (vs++dvs) H1 Q E
def T7(C:Addr)(m:Str)(sp:Sp)(dvs:List V)(E:XK)(ta:TE)(t:TA):TE:=λσ H Q=>ta σ H λx H1=>∃ a dx fs,x=.ref a/\H1 a=some (.ins C dx fs)/\fs.lookup m=none /\
 t σ H1 λvs H2=>sp (x::(vs++dvs)) H2 Q E
def FC(C:Addr)(sp:Sp)(dvs:List V)(E:XK)(t:TA):TE:=λσ H Q=>t σ H λvs H1=>∀ x dx,H1 x=none->H1 dx=none->dx ≠ x ->
 sp (.ref x::(vs++dvs)) (upd (upd H1 dx (.own x)) x (.ins C dx [])) (λv H2=>v=.non/\Q (.ref x) H2) E
def Binds(K:Frag)(fd:FuncData)(ps:List Str)(ds:List Value):Prop :=
 ∀(s:Shared)(us:List Value),K.In s.heap->(us++ds).length=ps.length->BindsTo s fd ⟨us,[]⟩ (ps.zip (us++ds))
def Binds.all{K:Frag}{fd:FuncData}{ps:List Str}(h:∀ us:List Value,us.length=ps.length->bindArgs fd ⟨us,[]⟩=pure (ps.zip us)):Binds K fd ps []:=λs us _ a=>by
 rw[n5] at a ⊢
 exact .of_eq (h us a)
def L7(CX:CXT)(X:Cx)(E:XK):Prop:=∀(pins:List (Addr × Obj))(σ:St)(H:Hp)(s:Shared)(e:Value)(s':Shared),Inv X pins σ H s->CX X.stack H s E e s'->X.xe e s'
section
variable{X:Cx}{CX:CXT}{k:Nat}{f C:Addr}{fd:FuncData}{ps:List Str}{sp:Sp}{dvs:List V}{ds:List Value}{E:XK}{x m:Str}{p pos apos:Pos}{e o:Expr}{es:List Expr}{ta:TE}{t:TA}
def mC{pins:List (Addr × Obj)}{σ:St}{H:Hp}{s:Shared}{Q:VK}{us:List Value}{vs:List V}(F:FnOk X.prog X.w X.K X.mg X.base CX k f fd ps sp)(d:Room k X.A)(hb:Binds X.K fd ps ds)(hd:Vals dvs ds)(c:L7 CX X E)
  (I:Inv X pins σ H s) (r:Vals vs us) (h:sp (vs++dvs) H Q E):wpAny (model X.prog X.w) X.A (call (.ref f) us) (EP X pins σ Q) X.xe s:=by
 have b:Vals (vs++dvs) (us++ds):=r.append hd
 have i:(us++ds).length=ps.length:=by rw[← b.length];exact F.len _ _ _ _ h
 refine wpAny_call (codeAny_mono (F.run X.A X.stack s H ⟨us,[]⟩ (us++ds) (vs++dvs) Q E d I.env0 (hb s us I.kIn i) b h) λr g a=>?_)
 cases r with
 |error e=>exact c pins σ H s e g I a
 | ok fl =>
  cases fl with
  |ret u=>exact I.after a
  |next=>exact False.elim a
  |brk=>exact False.elim a
  |cont=>exact False.elim a
def NF(F:FnOk X.prog X.w X.K X.mg X.base CX k f fd ps sp)(j:Room k X.A)(l:Gl X x)(hm:X.mg x=some (.ref f))(d:keepIn X.K (.ref f)=true)(hb:Binds X.K fd ps ds)(hd:Vals dvs ds)(i:L7 CX X E)
  (ha:PA X (e::es) t) (a:(x == ("__debug__" : Str))=false:=by decide) (g:starEach (e::es) X.env=(false,eval e X.env)::starEach es X.env:=by rfl) (b:(backTo pos (starEach es X.env)).any (·.1)=false:=by rfl) :
  PE X (.Call (.Name x p) (e::es) [] pos) (o3 sp dvs E t):=by
 intro pins s σ H Q I h
 refine wpAny_Call_Name_kw (AA I l hm ?_ a)
 refine PySem.W.callWith_K (h₀:=X.base) I.ok.mod.kin d (thn (ha pos pins s σ H _ I h) λus s1 ⟨vs,m,c,r,q⟩=>⟨c.kIn,?_⟩) g b
 exact mC F j hb hd i c r q
def OK{pl:Sem Bool}(y:PE X o ta)(c:Cls X.K C)(hm:Meth X.K C m f)(F:FnOk X.prog X.w X.K X.mg X.base CX k f fd ps sp)(D:Room k X.A)(hb:Binds X.K fd ps ds)(hd:Vals dvs ds)(B:L7 CX X E)(ha:PA X (e::es) t)
  (b:starEach (e::es) X.env=(false,eval e X.env)::starEach es X.env:=by rfl) (d:(backTo pos (starEach es X.env)).any (·.1)=false:=by rfl)
  (j:eval (.Call (.Attribute o m apos) (e::es) [] pos) X.env=(do
   let ov ← eval o X.env
   standAt apos.atName
   let (f,first) ← holding [ov] (getMethod ov m pl)
   callWith pos f first (backTo pos (starEach (e::es) X.env)) (backToKw pos (keywordEach [] X.env))):=by rfl) :
  PE X (.Call (.Attribute o m apos) (e::es) [] pos) (T7 C m sp dvs E ta t):=by
 intro pins s σ H Q I h
 refine PySem.W.methodCall_KW (pl:=pl) (thn (y pins s σ H _ I h) λu s1 ⟨x,p,g,z,a,dx,fs,ex,n,l,q⟩=>?_) j
 subst ex
 obtain rfl:u=Value.ref a:=z
 refine YA g n c hm l ?_
 refine PySem.W.callWith_K (first:=[.ref a]) (h₀:=X.base) I.ok.mod.kin hm.kp (thn (ha pos pins s1 σ p _ g q) λus s2 ⟨vs,H2,i,r,v⟩=>⟨i.kIn,?_⟩) b d
 exact mC (us:=.ref a::us) (vs:=.ref a::vs) F D hb hd B i (.cons rfl r) v
def CN{pl:Sem Bool}(i:PE X o ta)(c:Cls X.K C)(hm:Meth X.K C m f)(F:FnOk X.prog X.w X.K X.mg X.base CX k f fd ps sp)(p:Room k X.A)(hb:Binds X.K fd ps ds)(hd:Vals dvs ds)(n:L7 CX X E)
  (d:eval (.Call (.Attribute o m apos) [] [] pos) X.env=(do
   let ov ← eval o X.env
   standAt apos.atName
   let (f,first) ← holding [ov] (getMethod ov m pl)
   callWith pos f first (backTo pos (starEach [] X.env)) (backToKw pos (keywordEach [] X.env))):=by rfl) :
  PE X (.Call (.Attribute o m apos) [] [] pos) (T7 C m sp dvs E ta tNil):=by
 intro pins s σ H Q I h
 refine PySem.W.methodCall_KW (pl:=pl) (thn (i pins s σ H _ I h) λu s1 ⟨x,r,b,j,a,dx,fs,ex,g,l,q⟩=>?_) d
 subst ex
 obtain rfl:u=Value.ref a:=j
 refine YA b g c hm l ?_
 exact PySem.W.callWith_K0 (first:=[.ref a]) b.kIn hm.kp (mC (us:=[.ref a]) (vs:=[.ref a]) F p hb hd n b (.cons rfl .nil) q)
structure Mk(K:Frag)(C f:Addr):Prop where
 makes:PySem.W.makesIn K C=true
 init:PySem.W.findIn K (.ref C) "__init__" = some (some (.ref f))
 fn:PySem.W.isFn K (.ref f)=true
 kp:keepIn K (.ref C)=true
def pL{pins:List (Addr × Obj)}{σ:St}{H:Hp}{s:Shared}{Q:VK}{us:List Value}{vs:List V}(M:Mk X.K C f)(F:FnOk X.prog X.w X.K X.mg X.base CX k f fd ps sp)(n:Room (k+1) X.A)(hb:Binds X.K fd ps ds)(hd:Vals dvs ds)
  (l:L7 CX X E) (I:Inv X pins σ H s) (r:Vals vs us)
  (h:∀ x dx,H x=none->H dx=none->dx ≠ x->sp (.ref x::(vs++dvs)) (upd (upd H dx (.own x)) x (.ins C dx [])) (λv H2=>v=.non/\Q (.ref x) H2) E) :
  wpAny (model X.prog X.w) X.A (call (.ref C) us) (EP X pins σ Q) X.xe s:=by
 have d:=h (s.heap.objs.size+1) s.heap.objs.size (I.hok.fresh (Nat.le_succ _)) (I.hok.fresh (N0 _)) (O1 (i8 _))
 have b:=Inv.made (C:=C) I
 have c:Vals (V.ref (s.heap.objs.size+1)::(vs++dvs)) (Value.ref (s.heap.objs.size+1)::(us++ds)):=.cons rfl (r.append hd)
 have p:(Value.ref (s.heap.objs.size+1)::us++ds).length=ps.length:=by
  have e:=c.length
  rw[F.len _ _ _ _ d] at e
  exact e.symm
 refine wpAny_call (xK (f:=f) I.kIn M.makes M.init (N1.mp M.fn) (codeAny_mono (F.run _ X.stack _ _ ⟨Value.ref (s.heap.objs.size+1)::us,[]⟩ (Value.ref (s.heap.objs.size+1)::(us++ds)) _ _ E (n.make C us [])
  (b.env0.make C us []) (hb _ (Value.ref (s.heap.objs.size+1)::us) b.kIn p) c d) λr o a=>?_))
 cases r with
 |error e=>exact l pins σ _ _ e o b a
 | ok fl =>
  cases fl with
  | ret u =>
   obtain⟨v,H',i,j,g,m⟩:=b.after a
   subst g
   exact⟨j,⟨V.ref (s.heap.objs.size+1),H',i,rfl,m⟩⟩
  |next=>exact False.elim a
  |brk=>exact False.elim a
  |cont=>exact False.elim a
def vM(M:Mk X.K C f)(F:FnOk X.prog X.w X.K X.mg X.base CX k f fd ps sp)(i:Room (k+1) X.A)(j:Gl X x)(hm:X.mg x=some (.ref C))(hb:Binds X.K fd ps ds)(hd:Vals dvs ds)(g:L7 CX X E)
  (ha:PA X (e::es) t) (a:(x == ("__debug__" : Str))=false:=by decide) (d:starEach (e::es) X.env=(false,eval e X.env)::starEach es X.env:=by rfl) (b:(backTo pos (starEach es X.env)).any (·.1)=false:=by rfl) :
  PE X (.Call (.Name x p) (e::es) [] pos) (FC C sp dvs E t):=by
 intro pins s σ H Q I h
 refine wpAny_Call_Name_kw (AA I j hm ?_ a)
 refine PySem.W.callWith_K (h₀:=X.base) I.ok.mod.kin M.kp (thn (ha pos pins s σ H _ I h) λus s1 ⟨vs,l,c,r,q⟩=>⟨c.kIn,?_⟩) d b
 exact pL M F i hb hd g c r q
end
section
variable{X:Cx}{CX:CXT}{k:Nat}{f C:Addr}{fd:FuncData}{ps ks:List Str}{sp:Sp}{E:XK}{x m:Str}{p pos apos kpos:Pos}{e o:Expr}{es:List Expr}{kws:List Keyword}{te ta:TE}{t tk:TA}{nm:Option Str}
variable{g:List Value->List Value->List Value}{gV:List V->List V->List V}
end
structure FnScope(N P:List Str)(sc:Scope):Prop where
 kind:sc.kind=.function
 co:sc.isCoroutine=false
 gen:sc.isGenerator=false
 nd:N.Nodup
 pre:N.take P.length=P
 par:∀ x∈P,sc.names.lookup x=some .local\/sc.names.lookup x=some .cell
 nofree:∀ y∈sc.names,y.2 ≠ .free
def fH{kindOf:Str->Option NameKind}{x:Str}:∀{binds:List (Str × Value)}{m:Str->Option Value},(∀ v,(x,v) ∉ binds)->bindL kindOf binds m x=m x
 |[],_,_=>rfl
 | (n,v)::r,m,h=>by
  unfold bindL
  rw[fH λw a=>h w (S3 _ a)]
  split
  ·have:x ≠ n:=by rintro rfl;exact h v T3
   simp[this]
  ·rfl
def VG{kindOf:Str->Option NameKind}{x:Str}:∀{binds:List (Str × Value)}{m:Str->Option Value},(∀ v,(x,v) ∉ binds)->bindC kindOf binds m x=m x
 |[],_,_=>rfl
 | (n,v)::r,m,h=>by
  unfold bindC
  rw[VG λw a=>h w (S3 _ a)]
  split
  ·rfl
  ·have:x ≠ n:=by rintro rfl;exact h v T3
   simp[this]
def KH{kindOf:Str->Option NameKind}{x:Str}{v:Value}:∀{P:List Str}{vs:List Value}{i:Nat}{m:Str->Option Value},P.Nodup->P[i]?=some x->vs[i]?=some v->kindOf x=some .local ->
  bindL kindOf (P.zip vs) m x=some v
 |[],_,_,_,_,h,_,_=>by simp at h
 |_::_,[],_,_,_,_,h,_=>by simp at h
 | p::P,w::vs,0,m,nd,h1,h2,hk=>by
  simp at h1 h2;subst h1;subst h2
  show bindL kindOf ((p,w)::P.zip vs) m p=_
  unfold bindL
  rw[fH λv a=>(V6.mp nd).1 (List.of_mem_zip a).1,t0 hk]
  simp
 | p::P,w::vs,i+1,m,nd,h1,h2,hk=>by
  show bindL kindOf ((p,w)::P.zip vs) m x=_
  unfold bindL
  exact KH (i:=i) (V6.mp nd).2 (by simpa using h1) (by simpa using h2) hk
def AE{kindOf:Str->Option NameKind}{x:Str}{v:Value}:∀{P:List Str}{vs:List Value}{i:Nat}{m:Str->Option Value},P.Nodup->P[i]?=some x->vs[i]?=some v->kindOf x ≠ some .local ->
  bindC kindOf (P.zip vs) m x=some v
 |[],_,_,_,_,h,_,_=>by simp at h
 |_::_,[],_,_,_,_,h,_=>by simp at h
 | p::P,w::vs,0,m,nd,h1,h2,hk=>by
  simp at h1 h2;subst h1;subst h2
  show bindC kindOf ((p,w)::P.zip vs) m p=_
  unfold bindC
  rw[VG λv a=>(V6.mp nd).1 (List.of_mem_zip a).1,y0 hk]
  simp
 | p::P,w::vs,i+1,m,nd,h1,h2,hk=>by
  show bindC kindOf ((p,w)::P.zip vs) m x=_
  unfold bindC
  exact AE (i:=i) (V6.mp nd).2 (by simpa using h1) (by simpa using h2) hk
def start(N:List Str)(vs:List V):St:=vs.map some++List.replicate (N.length-vs.length) none
def cxOf(CX:CXT)(P:Program)(w:World)(K:Frag)(mg:Str->Option Value)(base:Heap)(N:List Str)(qual:Str)(scope:Scope)(f:Addr)(cd:Value)(A:Around)(outer:List Env)(s:Shared)(H:Hp)(E:XK):Cx where
 prog:=P
 w:=w
 K:=K
 mg:=mg
 base:=base
 A:=A.deeper (envOfC qual scope s.heap.objs.size f cd)
 N:=N
 s₀:=s
 H₀:=H
 env:=envOfC qual scope s.heap.objs.size f cd
 outer:=outer
 stack:=envOfC qual scope s.heap.objs.size f cd::outer
 ex:=[]
 calm:=true
 fn:=λ_=>true
 pn:=[]
 xe:=λe s'=>wpAny (model P w) (A.deeper (envOfC qual scope s.heap.objs.size f cd)) (leaving (envOfC qual scope s.heap.objs.size f cd) e) (λ_ s''=>CX outer H s E e s'') (λe' s''=>CX outer H s E e' s'') s'
def pH{sc:Scope}{n:Nat}{x:Str}(h:sc.names.lookup x=some .cell):∃ c,(cellsFrom n sc.names []).lookup x=some c:=by
 have q:=PySem.W.cellsFrom_some sc.names n [] (.inl h)
 exact Option.isSome_iff_exists.mp q
def cS{CX:CXT}{P:Program}{w:World}{K:Frag}{mg:Str->Option Value}{base:Heap}{N ps:List Str}{qual:Str}{scope:Scope}{f:Addr}{B:Value}{A:Around}{outer:List Env}{s s1:Shared}{H:Hp}{E:XK}{us:List Value}{vs:List V}
  (S:FnScope N ps scope) (hd:A.handled=none) (g:Env0 P w K mg base A outer s H) (M:vs.length=ps.length) (r:Vals vs us)
  (x:InCallC s s.heap.objs.size (bindL (envOfC qual scope s.heap.objs.size f B).kindOf (ps.zip us) λ_=>none) (cellsFrom (s.heap.objs.size+1) scope.names []) (bindC (envOfC qual scope s.heap.objs.size f B).kindOf (ps.zip us) λ_=>none) s1) :
  Inv (cxOf CX P w K mg base N qual scope f B A outer s H E) [] (start N vs) H s1:=by
 have I:ps.length<=N.length:=by have:=congrArg List.length S.pre;rw[t8] at this;lia
 obtain⟨C,J,rfl,F⟩:=x.done
 have j:∀ b:Addr,b ∉ (cxOf CX P w K mg base N qual scope f B A outer s H E).ex:=λb z=>absurd (show b∈([]:List Addr) from z) (by simp)
 refine⟨⟨g.mod,S.kind,rfl,rfl,N0 _,λy z c C d=>?_,λy l=>?_,λy c _ h=>?_,λ_=>hd,Around.frames_deeper g.frames,.inr ⟨rfl,rfl⟩,λb z=>absurd z (j b),g.bs,g.bsz,λb _ _=>j b,λb z=>absurd z (j b),g.funs,g.frf⟩,
  rfl,g.bare,Un.kept F,⟨_,x.toInCall.ns,λi y v C d L=>?_⟩,λy c h=>⟨_,x.cell y c h⟩,g.hok.fresh (N0 _),λy c h=>?_,λp o=>absurd (show p∈([]:List (Addr × Obj)) from o) (by simp),g.hok.kept F,?_⟩
 ·exact name_of_addr x.apart (PySem.mem_of_lookup C) (PySem.mem_of_lookup d)
 ·have l:scope.names.lookup y=some .cell\/scope.names.lookup y=some .free:=l
  rcases l with l|l
  ·exact pH l
  ·exact absurd rfl (S.nofree _ (PySem.mem_of_lookup l))
 ·exact m5 (x.above y c (PySem.mem_of_lookup h))
 ·have hi:i<vs.length:=by
   unfold start at d
   by_cases hi:i<vs.length
   ·exact hi
   ·rw[H7 (by simpa using hi)] at d
    rw[O7] at d
    split at d <;> cases d
  have ha:vs[i]?=some v:=by
   unfold start at d
   rw[q8 (by simpa using hi),o1] at d
   cases e:vs[i]? with
   |none=>rw[e] at d;cases d
   |some a=>rw[e] at d;cases d;rfl
  obtain⟨u,D,G⟩:=r.get ha
  have o:ps[i]?=some y:=by
   rw[← S.pre,r8 (by lia)];exact C
  have m:ps.Nodup:=by rw[← S.pre];exact S.nd.sublist (List.take_sublist _ _)
  refine⟨u,G,?_⟩
  rcases S.par y (v2 o) with k|k
  ·exact .inl ⟨k,KH m o D k⟩
  ·obtain⟨c,e⟩:=pH (n:=s.heap.objs.size+1) k
   refine .inr ⟨.inl k,c,e,?_⟩
   have q:=x.cell y c e
   rw[AE m o D (by show scope.names.lookup y ≠ _;rw[k];decide)] at q
   exact q
 ·exact g.hok.fresh (m5 (x.above y c (PySem.mem_of_lookup h)))
 ·unfold start
  show _=N.length
  rw[Q3,T0,List.length_replicate]
  lia
def iF{CX:CXT}{P:Program}{w:World}{K:Frag}{mg:Str->Option Value}{base:Heap}{k:Nat}{f:Addr}{name qual:Str}{a:Arguments}{body:List Stmt}{scope:Scope}{C kV doc pm cdv ct oc:Value}{an od:Option Addr}
  {osl:Array (Option Value)} {N ps:List Str} {sp:Sp} (F:K.lookup f=some ⟨oc,od,.func (fnOf name qual a body scope C kV doc pm an cdv ct),osl⟩) (j:codeIn K cdv qual=true) (S:FnScope N ps scope)
  (len:∀ vs H Q E,sp vs H Q E->vs.length=ps.length)
  (d:∀(A:Around)(outer:List Env)(s:Shared)(H:Hp)(vs:List V)(Q:VK)(E:XK),Room k (A.deeper (envOfC qual scope s.heap.objs.size f cdv))->sp vs H Q E ->
   ∃ t,PSs (cxOf CX P w K mg base N qual scope f cdv A outer s H E) body t/\t { nx:=λ_ H'=>Q .non H',rt:=Q } (start N vs) H) :
  FnOk P w K mg base CX (k+1) f (fnOf name qual a body scope C kV doc pm an cdv ct) ps sp:=by
 refine⟨len,λA outer s H args us vs Q E p h hb r i=>?_⟩
 have O:=len _ _ _ _ i
 have B:K.In s.heap:=h.mod.kin.keeps λb o e=>(h.bs b o e).1
 have l:s.heap.NoLimit:=h.mod.nolimit.keeps λb o e=>(h.bs b o e).1
 have g:∀ y∈ps.zip us,scope.names.lookup y.1=some .local\/(scope.names.lookup y.1=some .cell/\((cellsFrom (s.heap.objs.size+1) scope.names []).lookup y.1).isSome=true):=λ⟨n,v⟩ R=>by
  rcases S.par n (List.of_mem_zip R).1 with q|q
  ·exact .inl q
  ·exact .inr ⟨q,PySem.W.cellsFrom_some _ _ _ (.inl q)⟩
 refine codeAny_call_function p.depth (B _ _ F) rfl S.co S.gen rfl (PySem.W.codeRec_of B j) (hb _ _ _ _ ?_)
 refine wpAny_newFunctionEnv_cells S.kind g λenv L s1 x=>?_
 subst L
 refine⟨l.keeps x.toInCall.keep,codeAny_func ?_⟩
 obtain⟨t,D,M⟩:=d A outer s H vs Q E (p.deeper _) i
 have I:Inv (cxOf CX P w K mg base N qual scope f cdv A outer s H E) [] (start N vs) H s1:=cS S p.hd h O r x
 refine n4 (D [] s1 (start N vs) H _ I M) (λG z hs=>?_) λe z hs=>hs
 have fin:∀{c:St}{H':Hp}{v:V}{u:Value},Inv (cxOf CX P w K mg base N qual scope f cdv A outer s H E) [] c H' z->RelV v u->Q v H'->CE outer P w H s Q u z :=
  λ{c H' v u} J m q=>⟨v,H',J.os,J.bare,J.base,J.hok,m,q⟩
 cases G with
 | ret u =>
  obtain⟨v,c,H',J,m,q⟩:=hs
  exact fin J m q
 | next =>
  obtain⟨c,H',J,q⟩:=hs
  exact fin (v:=V.non) (u:=Value.none) J rfl q
 | brk =>
  obtain⟨_,_,_,q⟩:=hs
  exact False.elim q
 | cont =>
  obtain⟨_,_,_,q⟩:=hs
  exact False.elim q
section
variable{X:Cx}{x:Str}{p pos:Pos}{e:Expr}{es:List Expr}{t:TA}{id T:String}{r:List V->Hp->VK->Prop}
def tCB(r:List V->Hp->VK->Prop)(t:TA):TE:=λσ H Q=>t σ H λvs H1=>r vs H1 Q
def S0(l:M2 X (.builtin id) r)(m:Gl X x)(hm:X.mg x=none)(j:bootBuiltins x=some (.builtin id))(ha:PA X (e::es) t)(hn:x ≠ "__name__":=by decide)(a:(x == ("__debug__" : Str))=false:=by decide)
  (i:starEach (e::es) X.env=(false,eval e X.env)::starEach es X.env:=by rfl) (b:(backTo pos (starEach es X.env)).any (·.1)=false:=by rfl):PE X (.Call (.Name x p) (e::es) [] pos) (tCB r t):=by
 intro pins s σ H Q I h
 refine wpAny_Call_Name_kw (p8 I m hm j ?_ hn a)
 exact PyProof.Rows.callWith_builtin1 (thn (ha pos pins s σ H _ I h) λus s1 ⟨vs,g,c,d,f⟩=>l pins s1 σ g vs us Q c d f) i b
def Y7(l:M2 X (.type T) r)(m:Gl X x)(hm:X.mg x=none)(j:bootBuiltins x=some (.type T))(ha:PA X (e::es) t)(hn:x ≠ "__name__":=by decide)(a:(x == ("__debug__" : Str))=false:=by decide)
  (i:starEach (e::es) X.env=(false,eval e X.env)::starEach es X.env:=by rfl) (b:(backTo pos (starEach es X.env)).any (·.1)=false:=by rfl):PE X (.Call (.Name x p) (e::es) [] pos) (tCB r t):=by
 intro pins s σ H Q I h
 refine wpAny_Call_Name_kw (p8 I m hm j ?_ hn a)
 exact PyProof.Rows.callWith_type1 (thn (ha pos pins s σ H _ I h) λus s1 ⟨vs,g,c,d,f⟩=>l pins s1 σ g vs us Q c d f) i b
end
end L2
namespace HT
open PySem PyProof.Rows
def lexLt:List Int->List Int->Bool
 |[],[]=>false
 |[],_::_=>true
 |_::_,[]=>false
 |x::xs,y::ys=>if x=y then lexLt xs ys else decide (x<y)
def XA(x y:Int)(xs ys:List Int):lexLt (x::xs) (y::ys)=if x=y then lexLt xs ys else decide (x<y):=rfl
def OM:lexLt [] []=false:=rfl
def NO(y:Int)(ys:List Int):lexLt [] (y::ys)=true:=rfl
def aQ(x:Int)(xs:List Int):lexLt (x::xs) []=false:=rfl
def nM(A:Around)(s:Shared)(a:Int)(t:Tok)(c:Int)(u:Tok):∃ e,SeqAt.EqAt A s (.int a t) (.int c u) e/\(e=true ↔ a=c) :=
 ⟨(a == c),SeqAt.EqAt.int_int a t c u,by simp⟩
def jL(A:Around)(s:Shared)(a:Int)(t:Tok)(c:Int)(u:Tok)(prog:Program)(w:World)(E:Value->Shared->Prop)(Q:Value->Shared->Prop)(h:Q (.bool (decide (a<c))) s) :
  wpAny (model prog w) A (richCompare .Lt (.int a t) (.int c u)) Q E s :=
 (PyProof.Rows.lt_int h:wpAny (model prog w) A (compareOp .Lt (.int a t) (.int c u)) Q E s)
section
open PySem.SeqAt
open PySem.AutoSeq1 (wpAny_loadPart')
open PySem.MeetsSeq PySem.MeetsSeq2 PySem.MeetsSeq3
def xM(l b:Addr)(items f:Array Value)(n N:Nat)(dd G:Option Addr)(sl J:Array (Option Value))(ns C:List Int)(hi:IntsAre items.toList ns)(L:IntsAre f.toList C) :
  Meets (Builtin.«tuple.__lt__» ⟨[.ref l,.ref b],[]⟩)
   (λ_ R s=>s.heap.get? l=some { cls:=.type "tuple",dict:=dd,data:=.seq items n,slots:=sl }/\s.heap.get? b=some { cls:=.type "tuple",dict:=G,data:=.seq f N,slots:=J } /\
    R (.ok (.ret (.bool (lexLt ns C)))) s) :=
 .of_wp λprog w A R s h=>by
  obtain⟨D,g,d,E,os⟩:=s;obtain⟨S,hb,h⟩:=h
  have U:=AutoSeq1.sub_tuple_tuple
  have W:items.size=ns.length:=by rw[← hi.length];simp
  have X:f.size=C.length:=by rw[← L.length];simp
  wp_walk using wpAny_loadPart' S,wpAny_loadPart' hb,wpAny_forIn_list _ (λrest b K=>b.1=none/\K=⟨D,g,d,E,os⟩/\∃(vs F:List Value)(m j:List Int),rest=vs.zip F /\
   IntsAre vs m/\IntsAre F j/\m.length+f.size=j.length+items.size/\R (.ok (.ret (.bool (lexLt m j)))) ⟨D,g,d,E,os⟩) _
  case turn =>
   rintro⟨y,x⟩ rest b K ⟨v,rfl,vs,F,m,j,hz,z,o,i,p⟩
   cases z with
   |nil=>rw[List.zip_nil_left] at hz;cases hz
   | cons a t hvi' =>
    cases o with
    |nil=>rw[List.zip_nil_right] at hz;cases hz
    | cons c u hwi' =>
     rw[List.zip_cons_cons] at hz
     injection hz with H B
     injection H with P Q
     subst P Q
     rw[XA] at p
     simp only[W3] at i
     obtain⟨e,O,r⟩:=nM A.in1 ⟨D,g,d,E,os⟩ a t c u
     refine C0 (O prog w _ _ ?_)
     cases e with
     | true =>
      rw[t0 (r.mp rfl)] at p
      wp_walk
      exact⟨rfl,rfl,_,_,_,_,B,hvi',hwi',by lia,p⟩
     | false =>
      rw[y0 (λq=>absurd (r.mpr q) Y1)] at p
      have I:=jL A.in1 ⟨D,g,d,E,os⟩ a t c u prog w
      wp_walk using I
      exact⟨_,rfl,by simpa using p⟩
  case fin =>
   rintro⟨b1,T⟩ K ⟨v,rfl,vs,F,m,j,hz,z,o,i,p⟩
   simp only at v
   subst v
   have M:lexLt m j=decide (items.size<f.size):=by
    cases z with
    | nil =>
     cases o with
     | nil =>
      simp only[W7] at i
      rw[OM]
      exact(O2 (by lia)).symm
     | cons c u hw =>
      simp only[W7,W3] at i
      rw[NO]
      exact(O4 (by lia)).symm
    | cons a t M =>
     cases o with
     | nil =>
      simp only[W7,W3] at i
      rw[aQ]
      exact(O2 (by lia)).symm
     | cons c u hw =>
      rw[List.zip_cons_cons] at hz
      cases hz
   rw[M] at p
   wp_walk
   exact⟨_,rfl,by simpa[Builtin.Tuple.tupleCompareSizes] using p⟩
  case h =>
   exact⟨rfl,rfl,items.toList,f.toList,ns,C,rfl,hi,L,by lia,h⟩
end
section
variable{prog:Program}{w:World}{A:Around}{E:Value->Shared->Prop}{s:Shared}
def lt_tupInts{l b:Addr}{items a:Array Value}{ns d:List Int}{Q:Value->Shared->Prop}(v:IsTup s.heap l items)(hb:IsTup s.heap b a)(hi:IntsAre items.toList ns)(u:IntsAre a.toList d)
  (y:A.units<cLine) (h:Q (.bool (lexLt ns d)) s):wpAny (model prog w) A (compareOp .Lt (.ref l) (.ref b)) Q E s:=by
 obtain⟨⟨cls,dd,data,sl⟩,o,p,n,hd⟩:=id v
 obtain⟨⟨q,i,m,j⟩,f,c,r,g⟩:=id hb
 simp only at p hd c g
 subst p hd c g
 exact richCompare_meets_room (op:=.Lt) ⟨_,o,rfl⟩ ⟨_,f,rfl⟩ PySem.F.slot_tuple_lt PySem.F.entry_tuple_lt (PySem.F.args_tuple_lt_2 _ _) (xM l b items a n r dd i sl j ns d hi u)
  ⟨o,f,show Value.bool (lexLt ns d) ≠ Value.notImplemented/\Q (.bool (lexLt ns d)) s from⟨(λx=>nomatch x),h⟩⟩ y
def sIx(n d:Nat):Option Int->Nat
 |none=>d
 |some v=>if v<0 then (v+(n:Int)).toNat else min v.toNat n
end
end HT
namespace L2
open PySem PySem.Spec PyProof.Rows
abbrev TO:=St->Hp->(Option Int->Hp->Prop)->Prop
def PO(X:Cx)(e:Option Expr)(t:TO):Prop :=
 ∀(pins:List (Addr × Obj))(s:Shared)(σ:St)(H:Hp)(Q:Option Int->Hp->Prop),Inv X pins σ H s->t σ H Q ->
  wpAny (model X.prog X.w) X.A (evalPart e X.env) (λu s'=>∃ o H',Inv X pins σ H' s'/\IsPart u o/\Q o H') X.xe s
def LG:TO:=λ_ H Q=>Q none H
def UE(t:TE):TO:=λσ H Q=>t σ H λx H1=>∃ i,x=.int i/\Q (some i) H1
def V7{ns:List Int}:∀{us:List Value},Vals (ns.map V.int) us->IntsAre us ns:=by
 induction ns with
 |nil=>intro us r;rw[List.map_nil] at r;cases r;exact .nil
 | cons n ns ih =>
  intro us r
  rw[P2] at r
  cases r with
  | cons r1 r2 =>
   obtain⟨t,e⟩:=r1
   subst e
   exact .cons n t (ih r2)
section
variable{X:Cx}{e:Expr}{te:TE}{lo hi:Option Expr}{tl th:TO}{pos p2:Pos}
def UC:PO X none LG:=by
 intro pins s σ H Q I h
 rw[evalPart_none]
 exact M0 ⟨none,H,I,.none,h⟩
def xD(h:PE X e te):PO X (some e) (UE te):=by
 intro pins s σ H Q I f
 rw[evalPart_some]
 refine thn (h pins s σ H _ I f) λu s1 ⟨x,d,a,b,c⟩=>?_
 obtain⟨i,rfl,q⟩:=c
 obtain⟨t,rfl⟩:=b
 exact⟨some i,d,a,.int i t,q⟩
def SlR(X:Cx)(r:V->Option Int->Option Int->Hp->VK->Prop):Prop :=
 ∀(pins:List (Addr × Obj))(s:Shared)(σ:St)(H:Hp)(x:V)(v vl vu:Value)(lo hi:Option Int)(sl:Addr)(Q:VK),Inv X pins σ H s->RelV x v->s.heap.IsSliceOf sl vl vu .none->IsPart vl lo->IsPart vu hi->r x lo hi H Q ->
  ∃ T id,typeLookup (.type T) "__getitem__" = pure (some (.builtin id))/\s.TypeIs v T/\wpAny (model X.prog X.w) X.A (getItem v (.ref sl)) (EP X pins σ Q) X.xe s
def tSl(r:V->Option Int->Option Int->Hp->VK->Prop)(te:TE)(tl th:TO):TE:=λσ H Q=>te σ H λx H1=>tl σ H1 λl H2=>th σ H2 λu H3=>r x l u H3 Q
def VB{r:V->Option Int->Option Int->Hp->VK->Prop}(E:SlR X r)(o:PE X e te)(F:PO X lo tl)(p:PO X hi th):PE X (.Subscript e (.Slice lo hi none p2) pos) (tSl r te tl th):=by
 intro pins s σ H Q I h
 refine Subscript_ (thn (o pins s σ H _ I h) λv s1 ⟨x,m,f,g,j⟩=>?_)
 refine wpAny_Slice (thn (F pins s1 σ m _ f j) λd s2 ⟨l,H2,B,pl,n⟩=>thn (p pins s2 σ H2 _ B n) λc a ⟨u,H3,y,J,C⟩=>?_)
 rw[evalPart_none]
 refine M0 ?_
 have z:Inv X pins σ H3 { a with heap:=a.heap.push { cls:=.type "slice",data:=.fields #[d,c,.none] } }:=y.kept (t':=a.toks) λb K q=>S1 _ q
 obtain⟨T,id,D,i,G⟩:=E pins { a with heap:=a.heap.push { cls:=.type "slice",data:=.fields #[d,c,.none] } } σ H3 x v d c l u a.heap.objs.size Q z g (Heap.IsSliceOf.new ..) pl J C
 show wpAny (model X.prog X.w) X.A (subscriptTail e (.Slice lo hi none p2) v (.ref a.heap.objs.size)) (EP X pins σ Q) X.xe { a with heap:=a.heap.push { cls:=.type "slice",data:=.fields #[d,c,.none] } }
 exact tail_any (ops:=[.ref a.heap.objs.size,v]) i D G (by with_unfolding_all rfl)
def cutV(xs:List V)(lo hi:Option Int):List V:=(xs.drop (HT.sIx xs.length 0 lo)).take (HT.sIx xs.length xs.length hi-HT.sIx xs.length 0 lo)
def pS(xs:List V)(lo hi:Option Int):(cutV xs lo hi).length<=xs.length:=by
 unfold cutV
 rw[t8,List.length_drop]
 lia
def rLtT(K:Frag):R2:=λx y H Q=>∃ a b ns ms,x=.ref a/\y=.ref b/\SqT K H a (ns.map V.int)/\SqT K H b (ms.map V.int)/\Q (.bl (HT.lexLt ns ms)) H
def AN(o:X.A.units<cLine):OpR X (compareOp .Lt) (rLtT X.K):=by
 intro pins s σ H x y v u Q I l j h
 obtain⟨a,b,ns,d,rfl,rfl,ha,hb,q⟩:=h
 cases l
 cases j
 obtain⟨its,f,m,_⟩:=I.tuple ha
 obtain⟨c,i,p2,_⟩:=I.tuple hb
 have n:IntsAre its.toArray.toList ns:=V7 f
 have g:IntsAre c.toArray.toList d:=V7 i
 exact HT.lt_tupInts m p2 n g o ⟨.bl (HT.lexLt ns d),H,I,rfl,q⟩
end
def ixN(n:Nat)(i:Int):Option Nat:=if 0<=i then (if i<n then some i.toNat else none) else if -(n:Int)<=i then some (i+n).toNat else none
def V0{α:Type}(xs:List α)(i:Int):Option α:=(ixN xs.length i).bind λj=>xs[j]?
def zF{n:Nat}{i:Int}{j:Nat}(h:ixN n i=some j):seqIndex? i n=some j/\j<n/\-(n:Int)<=i/\i<n:=by
 unfold ixN at h
 by_cases h0:0<=i
 ·rw[t0 h0] at h
  by_cases h1:i<n
  ·rw[t0 h1] at h
   have e:i.toNat=j:=M3 h
   exact⟨by rw[seqIndex_of h0 h1,e],by lia,by lia,h1⟩
  ·rw[y0 h1] at h;cases h
 ·rw[y0 h0] at h
  by_cases h1 : -(n:Int)<=i
  ·rw[t0 h1] at h
   have e:(i+n).toNat=j:=M3 h
   exact⟨by rw[seqIndex_neg (by lia) h1,e],by lia,h1,by lia⟩
  ·rw[y0 h1] at h;cases h
def aH{α:Type}{xs:List α}{i:Int}{v : α}(h:V0 xs i=some v):∃ j,seqIndex? i xs.length=some j/\xs[j]?=some v/\j<xs.length/\-(xs.length:Int)<=i/\i<xs.length:=by
 unfold V0 at h
 cases e:ixN xs.length i with
 |none=>rw[e] at h;cases h
 | some j =>
  rw[e] at h
  obtain⟨d,b,c,a⟩:=zF e
  exact⟨j,d,h,b,c,a⟩
def K8{α:Type}{xs:List α}{j:Nat}{v : α}(h:xs[j]?=some v):V0 xs (j:Int)=some v:=by
 have a:j<xs.length:=(J1.mp h).1
 have e:ixN xs.length (j:Int)=some j:=by
  unfold ixN
  rw[t0 (by lia),t0 (by lia)];simp
 unfold V0;rw[e];exact h
def bJ(b:Expr):Prop:=∀ o i,subscripted b false o i=operate [o,i] (getItem o i)
def IxR(X:Cx)(r:R2):Prop :=
 ∀(value slice:Expr)(pins:List (Addr × Obj))(s:Shared)(σ:St)(H:Hp)(x y:V)(v u:Value)(Q:VK),Inv X pins σ H s->RelV x v->RelV y u->r x y H Q ->
  subscripted slice false v u=operate [v,u] (getItem v u)->wpAny (model X.prog X.w) X.A (subscriptTail value slice v u) (EP X pins σ Q) X.xe s
def MtR(X:Cx)(id:String)(r:V->List V->Hp->VK->Prop):Prop :=
 ∀(pins:List (Addr × Obj))(s:Shared)(σ:St)(H:Hp)(x:V)(xs:List V)(v:Value)(us:List Value)(Q:VK),Inv X pins σ H s->RelV x v->Vals xs us->r x xs H Q ->
  wpAny (model X.prog X.w) X.A (call (.builtin id) (v::us)) (EP X pins σ Q) X.xe s
section
variable{X:Cx}{a b:Expr}{ta tb:TE}{pos:Pos}
def IxR.or{r c:R2}(h:IxR X r)(h':IxR X c):IxR X (λx y H Q=>r x y H Q\/c x y H Q):=by
 intro a b pins s σ H x y v u Q I f d q hs
 rcases q with q|q
 ·exact h a b pins s σ H x y v u Q I f d q hs
 ·exact h' a b pins s σ H x y v u Q I f d q hs
def Y0{r:R2}(g:IxR X r)(ha:PE X a ta)(hb:PE X b tb)(hs:bJ b):PE X (.Subscript a b pos) (tOp r ta tb):=by
 intro pins s σ H Q I h
 exact Subscript_ (binT ha hb I h λv u s2 x y H2 f d c q=>g a b pins s2 σ H2 x y v u Q f d c q (hs _ _))
def rIxL(K:Frag):R2:=λx y H Q=>∃ p xs i v,x=.ref p/\y=.int i/\SqL K H p xs/\V0 xs i=some v/\Q v H
def rIxT(K:Frag):R2:=λx y H Q=>∃ p xs i v,x=.ref p/\y=.int i/\SqT K H p xs/\V0 xs i=some v/\Q v H
def ix_list:IxR X (rIxL X.K):=by
 intro c f pins s σ H x y v u Q I o n h hs
 obtain⟨p,xs,i,z,rfl,rfl,B,m,q⟩:=h
 cases o
 obtain⟨t,rfl⟩:=n
 obtain⟨its,r,pl,hz⟩:=I.list B
 obtain⟨j,a,A,F,l,C⟩:=aH m
 obtain⟨w,g,b⟩:=r.get A
 have E:=r.length
 have hn:=U9
 have fin:EP X pins σ Q w s:=⟨z,H,I,b,q⟩
 by_cases h0:0<=i
 ·have d:i.toNat=j:=by
   rw[seqIndex_of h0 C] at a
   exact M3 a
  exact item_listR pl.isList h0 (by lia) (by rw[d];simpa using g) fin hs
 ·have d:(i+(its.toArray.size:Int)).toNat=j:=by
   rw[seqIndex_neg (by lia) l] at a
   rw[S2,← E]
   exact M3 a
  exact subscriptTail_builtinR (x:=w) pl.isList.typeIs slot_list_getitem.lookup
   (wpAny_getItem_list_neg (Q:=λr D=>r=w/\EP X pins σ Q r D) pl.isList (by lia) (by rw[S2] <;> lia) (by lia) (by rw[d];simpa using g) ⟨rfl,fin⟩) hs
def CJ:IxR X (rIxT X.K):=by
 intro b c pins s σ H x y v u Q I m l h hs
 obtain⟨p,xs,i,z,rfl,rfl,o,g,q⟩:=h
 cases m
 obtain⟨t,rfl⟩:=l
 obtain⟨its,r,pl,hz⟩:=I.tuple o
 obtain⟨j,f,n,D,C,E⟩:=aH g
 obtain⟨w,d,a⟩:=r.get n
 have B:=r.length
 have hn:=U9
 have fin:EP X pins σ Q w s:=⟨z,H,I,a,q⟩
 exact subscriptTail_builtinR (x:=w) pl.typeIs slot_tuple_getitem.lookup
  (getItem_tuple (j:=j) (Q:=λr A=>r=w/\EP X pins σ Q r A) pl (by lia) (by lia) (by rw[S2,← B];exact f) (by simpa using d) ⟨rfl,fin⟩) hs
def WQ(its:List Value)(n j:Nat)(u:Value):Obj.mapSeq (·.setIfInBounds j u) { cls:=.type "list",data:=.seq its.toArray n }={ cls:=.type "list",data:=.seq (its.set j u).toArray n }:=by
 simp[Obj.mapSeq]
def Inv.lst{pins:List (Addr × Obj)}{σ:St}{H:Hp}{s:Shared}{p:Addr}{xs:List V}(I:Inv X pins σ H s)(h:H p=some (.lst xs)) :
  ∃(its:List Value)(n:Nat),Vals xs its/\s.heap.get? p=some { cls:=.type "list",data:=.seq its.toArray n }/\xs.length<=sizeLine:=by
 obtain⟨z,its,n,r,e⟩:=I.hok p _ h
 exact⟨its,n,r,e,z⟩
def Inv.lstUpd{pins:List (Addr × Obj)}{σ:St}{H:Hp}{s:Shared}{p:Addr}{xs ys:List V}{its its':List Value}{n a:Nat}{f:Obj->Obj}(I:Inv X pins σ H s)(h:H p=some (.lst xs))
  (c:s.heap.get? p=some { cls:=.type "list",data:=.seq its.toArray n }) (hf:f { cls:=.type "list",data:=.seq its.toArray n }={ cls:=.type "list",data:=.seq its'.toArray a }) (r:Vals ys its') (hz:ys.length<=sizeLine) (t:Nat) :
  Inv X pins σ (upd H p (.lst ys)) { s with heap:=s.heap.update p f,toks:=t }:=by
 have e:(s.heap.update p f).get? p=some { cls:=.type "list",data:=.seq its'.toArray a }:=by
  rw[Heap.get?_update_self f c (by rw[hf] <;> rfl),hf]
 refine I.write (x:=p) (e:=p) (by rw[h];trivial) (.inl rfl) (λb u hb q=>(Heap.get?_update_other _ _ (Ne.symm hb)).trans q) ⟨_,e⟩ ?_
 exact⟨hz,its',a,r,e⟩
def sD:V->V->V->Hp->(Hp->Prop)->Prop:=λo i v H Q=>∃ p xs k j,o=.ref p/\i=.int k/\H p=some (.lst xs)/\ixN xs.length k=some j/\Q (upd H p (.lst (xs.set j v)))
def F9:PSet X sD:=by
 intro pins s σ H o i v B A u Q I z w x h
 obtain⟨p,xs,k,j,rfl,rfl,f,y,q⟩:=h
 cases z
 obtain⟨t,rfl⟩:=w
 obtain⟨its,n,r,c,hz⟩:=I.lst f
 obtain⟨a,C,m,g⟩:=zF y
 have d:=r.length
 have hn:=U9
 have l:Inv X pins σ (upd H p (.lst (xs.set j v))) { s with heap:=s.heap.update p (Obj.mapSeq (·.setIfInBounds j u)) } :=
  I.lstUpd f c (WQ its n j u) (r.set x j) (by rw[List.length_set];exact hz) s.toks
 by_cases h0:0<=k
 ·have b:k.toNat=j:=by
   rw[seqIndex_of h0 g] at a
   exact M3 a
  exact PySem.W.ki_setAt c h0 (by lia) (by rw[S2,← d];exact g) (by rw[b];exact⟨_,l,q⟩)
 ·have b:(k+(its.toArray.size:Int)).toNat=j:=by
   rw[seqIndex_neg (by lia) m] at a
   rw[S2,← d]
   exact M3 a
  exact PySem.W.ki_setBack c (by lia) (by rw[S2,← d];exact m) (by lia) (by rw[b];exact⟨_,l,q⟩)
def sQ(lo hi:Option Int)(n:Nat):(sliceBounds lo hi none n).1=((HT.sIx n 0 lo:Nat):Int)/\(sliceBounds lo hi none n).2.1=((HT.sIx n n hi:Nat):Int)/\(sliceBounds lo hi none n).2.2=1:=by
 refine⟨?_,?_,rfl⟩
 ·cases lo with
  |none=>simp[sliceBounds,HT.sIx]
  | some i =>
   simp only[sliceBounds,HT.sIx,Option.getD_none,show(1:Int) > 0 by decide,if_true]
   by_cases h:i<0
   ·simp only[h,if_true] <;> lia
   ·simp only[h,if_false] <;> lia
 ·cases hi with
  |none=>simp[sliceBounds,HT.sIx]
  | some i =>
   simp only[sliceBounds,HT.sIx,Option.getD_none,show(1:Int) > 0 by decide,if_true]
   by_cases h:i<0
   ·simp only[h,if_true] <;> lia
   ·simp only[h,if_false] <;> lia
def cP(its:List Value)(lo hi:Option Int):slicePick its.toArray lo hi none=((its.drop (HT.sIx its.length 0 lo)).take (HT.sIx its.length its.length hi-HT.sIx its.length 0 lo)).toArray:=by
 obtain⟨c,a,b⟩:=sQ lo hi its.toArray.size
 unfold slicePick
 rw[c,a,b]
 simp only[sliceRange_one,pick_run,S2] <;> rfl
def rSlL(K:Frag):V->Option Int->Option Int->Hp->VK->Prop:=λx lo hi H Q=>∃ a xs,x=.ref a/\SqL K H a xs/\∀ p,H p=none->Q (.ref p) (upd H p (.lst (cutV xs lo hi)))
def eC:SlR X (rSlL X.K):=by
 intro pins s σ H x v l j lo hi sl Q I f hs pl i h
 obtain⟨a,xs,rfl,g,q⟩:=h
 cases f
 obtain⟨its,r,d,hz⟩:=I.list g
 have c:=r.length
 refine⟨"list",_,slot_list_getitem.lookup,d.isList.typeIs,?_⟩
 refine wpAny_getItem_list_slice d.isList hs pl i .none (by simp) ?_ (by rw[S2] <;> lia)
 rw[cP,← c]
 refine⟨.ref s.heap.objs.size,_,I.laid (t':=s.toks) (o:=.lst (cutV xs lo hi)) (λb m q=>S1 _ q) (N0 _) ?_,rfl,q _ (I.hok.fresh (N0 _))⟩
 exact⟨T2 (pS xs lo hi) hz,_,0,(r.drop (HT.sIx xs.length 0 lo)).take (HT.sIx xs.length xs.length hi-HT.sIx xs.length 0 lo),X2 _ rfl⟩
def VN:M2 X (.builtin "len") (λxs H Q=>∃ p ys,xs=[.ref p]/\(SqL X.K H p ys\/SqT X.K H p ys)/\Q (.int ys.length) H):=by
 intro pins s σ H xs us Q I r h
 obtain⟨p,ys,rfl,b,q⟩:=h
 obtain⟨u,rfl,d⟩:=Y4 r
 cases d
 have hn:=U9
 rcases b with b|b
 ·obtain⟨its,c,pl,hz⟩:=I.list b
  have a:=c.length
  exact Calls.call_len_list pl.isList (by simp only[S2] <;> lia) ⟨.int ys.length,H,I.tok _,⟨s.toks+1,by rw[S2,a]⟩,q⟩
 ·obtain⟨its,c,pl,hz⟩:=I.tuple b
  have a:=c.length
  exact len_tuple pl (by simp only[S2] <;> lia) ⟨.int ys.length,H,I.tok _,⟨s.toks+1,by rw[S2,a]⟩,q⟩
def UJ:M2 X (.type "list") (λxs H Q=>∃ p ys,xs=[.ref p]/\(SqL X.K H p ys\/SqT X.K H p ys)/\∀ l,H l=none->Q (.ref l) (upd H l (.lst ys))):=by
 intro pins s σ H xs us Q I r h
 obtain⟨p,ys,rfl,f,q⟩:=h
 obtain⟨u,rfl,j⟩:=Y4 r
 cases j
 have fin:∀(its:List Value),Vals ys its->ys.length<=sizeLine->∀(h':Heap)(a:Nat),(∀ b o',s.heap.get? b=some o'->h'.get? b=some o') ->
   h'.get? s.heap.objs.size=some { cls:=.type "list",dict:=none,data:=.seq its.toArray a,slots:=#[] }->EP X pins σ Q (.ref s.heap.objs.size) { s with heap:=h' }:=λits c hz h' a kp e =>
  ⟨.ref s.heap.objs.size,_,I.laid (t':=s.toks) kp (N0 _) (show ObjOk X.prog X.w _ h' _ (.lst ys) from⟨hz,its,a,c,e⟩),rfl,q _ (I.hok.fresh (N0 _))⟩
 rcases f with f|f
 ·obtain⟨its,c,pl,hz⟩:=I.list f
  have d:=c.length
  obtain⟨o,g,i,n,hd⟩:=pl.isList
  exact call_list_seq p (.inl rfl) g i hd (λh' a kp e=>fin its c hz h' a kp e) (by simp only[S2] <;> lia)
 ·obtain⟨its,c,pl,hz⟩:=I.tuple f
  have d:=c.length
  obtain⟨o,g,i,n,hd⟩:=pl
  exact call_list_seq p (.inr rfl) g i hd (λh' a kp e=>fin its c hz h' a kp e) (by simp only[S2] <;> lia)
def tyV(K:Frag)(T:String)(x:V)(H:Hp):Prop:=match x with
 | .str _=>T = "str"
 | .int _=>T = "int"
 | .ref p=>(T = "list"/\∃ xs,SqL K H p xs)\/(T = "tuple"/\∃ o,K.lookup p=some o/\o.cls=.type "tuple"/\o.dict=none) ∨
   (T = "dict"/\((∃ kvs,H p=some (.dK kvs))\/∃ kvs,H p=some (.dT kvs)))\/(T = "set"/\∃ S n,H p=some (.set S n))
 |_=>False
def LF{pins:List (Addr × Obj)}{σ:St}{H:Hp}{s:Shared}{T:String}{x:V}{v:Value}(I:Inv X pins σ H s)(r:RelV x v)(ty:tyV X.K T x H) :
  s.TypeIs v T/\∀ a,v=.ref a->∃ d,s.heap.get? a=some d/\d.dict=none:=by
 cases x with
 | str z =>
  obtain⟨t,rfl⟩:=r
  cases (show T = "str" from ty)
  exact⟨typeIs_str s z t,λ_ e=>nomatch e⟩
 | int i =>
  obtain⟨t,rfl⟩:=r
  cases (show T = "int" from ty)
  exact⟨typeIs_int s i t,λ_ e=>nomatch e⟩
 | ref p =>
  cases r
  rcases ty with ⟨rfl,xs,g⟩|⟨rfl,o,b,f,hd⟩|⟨rfl,b⟩|⟨rfl,S,n,b⟩
  ·obtain⟨its,_,pl,_⟩:=I.list g
   refine⟨pl.isList.typeIs,λa e=>?_⟩
   cases e
   obtain⟨o,n,e,c,hd,_⟩:=pl
   exact⟨o,e,hd⟩
  ·refine⟨⟨o,I.kIn p o b,f⟩,λa e=>?_⟩
   cases e
   exact⟨o,I.kIn _ o b,hd⟩
  ·have z:∃ o,s.heap.get? p=some o/\o.ExactDict:=by
    rcases b with ⟨kvs,b⟩|⟨kvs,b⟩
    ·obtain⟨_,_,_,_,o,_,_,e,ex,_⟩:=I.hok p _ b
     exact⟨o,e,ex⟩
    ·obtain⟨_,_,_,_,o,_,_,e,ex,_⟩:=I.hok p _ b
     exact⟨o,e,ex⟩
   obtain⟨o,e,ex⟩:=z
   refine⟨⟨o,e,ex.1⟩,λa e2=>?_⟩
   cases e2
   exact⟨o,e,ex.2.1⟩
  ·obtain⟨o,_,_,_,e,ex,_⟩:=I.hok p _ b
   refine⟨⟨o,e,ex.1⟩,λa e2=>?_⟩
   cases e2
   exact⟨o,e,ex.2.1⟩
 |_=>exact False.elim ty
def tBM0(K:Frag)(T:String)(r:V->List V->Hp->VK->Prop)(to:TE):TE:=λσ H Q=>to σ H λx H1=>tyV K T x H1/\r x [] H1 Q
def tBM(K:Frag)(T:String)(r:V->List V->Hp->VK->Prop)(to:TE)(t:TA):TE:=λσ H Q=>to σ H λx H1=>tyV K T x H1/\t σ H1 λxs H2=>r x xs H2 Q
variable{o e:Expr}{es:List Expr}{to:TE}{t:TA}{name:Str}{apos cpos:Pos}{T id:String}{r:V->List V->Hp->VK->Prop}
def mS(g:PlainAttrs T)(slot:Slot T name id)(c:typeOf (.builtin id)=pure (.type "method_descriptor"))(hm:MtR X id r)(l:PE X o to)
  (b:attributeBase o name X.env (eval o X.env)=eval o X.env:=by rfl) (a:(apos.endLine == cpos.line)=true:=by rfl):PE X (.Call (.Attribute o name apos) [] [] cpos) (tBM0 X.K T r to):=by
 intro pins s σ H Q I h
 refine wpAny_Call_method0_late b a (thn (l pins s σ H _ I h) λv s1 ⟨x,j,d,f,ty,i⟩=>?_)
 obtain⟨n,m⟩:=LF d f ty
 exact⟨T,id,g,slot,c,n,m,Calls.callWith_builtin rfl (PySem.evalArgs_none (hm pins s1 σ j x [] v [] Q d f .nil i))⟩
def o5(m:PlainAttrs T)(slot:Slot T name id)(g:typeOf (.builtin id)=pure (.type "method_descriptor"))(hm:MtR X id r)(w:PE X o to)(ha:PA X (e::es) t)
  (d:attributeBase o name X.env (eval o X.env)=eval o X.env:=by rfl)
  (f:((backTo cpos (starEach (e::es) X.env)).all (λx=>!x.1) && (backToKw cpos (keywordEach [] X.env)).all (λx=>x.1.isSome)
   && decide ((e::es).length+([]:List Keyword).length+(if ([]:List Keyword).isEmpty then 0 else 1)<30))=true:=by rfl)
  (c:(apos.endLine == cpos.line)=true:=by rfl) (hs:starEach (e::es) X.env=(false,eval e X.env)::starEach es X.env:=by rfl) (b:(backTo cpos (starEach es X.env)).any (·.1)=false:=by rfl) :
  PE X (.Call (.Attribute o name apos) (e::es) [] cpos) (tBM X.K T r to t):=by
 intro pins s σ H Q I h
 refine wpAny_Call_method_late d f c rfl (thn (w pins s σ H _ I h) λv s1 ⟨x,q,i,j,ty,p⟩=>?_)
 obtain⟨A,z⟩:=LF i j ty
 refine⟨T,id,m,slot,g,A,z,?_⟩
 have l:=ha cpos pins s1 σ q _ i p
 rw[hs] at l ⊢
 refine Calls.callWith_builtin (by show(false || (backTo cpos (starEach es X.env)).any (·.1))=false;rw[b] <;> rfl) (Calls.evalArgs_plain ?_)
 exact thn l λus s2 ⟨vs,H2,y,n,u⟩=>hm pins s2 σ H2 x vs v us Q y j n u
/- xs.append(e), list.index on a module's tuple .. are MtR facts of 06m -/
end
def MtM(X:Cx)(id:String)(r:V->List V->Hp->VK->Prop):Prop :=
 ∀(pins:List (Addr × Obj))(s:Shared)(σ:St)(H:Hp)(x:V)(xs:List V)(v:Value)(us:List Value)(Q:VK),Inv X pins σ H s->RelV x v->Vals xs us->r x xs H Q ->
  wpAny (model X.prog X.w) X.A (call (.builtin id) (v::us)) (EP X pins σ Q) X.xe s
def Vals.one:∀{x:V}{us:List Value},Vals [x] us->∃ u,us=[u]/\RelV x u
 |_,_,.cons r .nil=>⟨_,rfl,r⟩
def Vals.eraseIdx:∀{xs:List V}{us:List Value}(i:Nat),Vals xs us->Vals (xs.eraseIdx i) (us.eraseIdx i)
 |_,_,_,.nil=>.nil
 |_,_,0,.cons _ t=>t
 |_,_,i+1,.cons r t=>.cons r (Vals.eraseIdx i t)
def Vals.rep{xs:List V}{us:List Value}(h:Vals xs us):∀ k:Nat,Vals (List.replicate k xs).flatten (List.replicate k us).flatten
 |0=>.nil
 | k+1=>by
  rw[j7,j7,List.flatten_cons,List.flatten_cons]
  exact Vals.append h (Vals.rep h k)
def IF{α:Type}:∀(l:List α)(i:Nat),(l.eraseIdx i).length<=l.length
 |[],_=>N0 _
 |_::_,0=>Nat.le_succ _
 |_::r,i+1=>Nat.succ_le_succ (IF r i)
def BH(its:List Value):∀(k:Nat)(a:List Value),
  List.foldl (λc b=>c++b) a.toArray (List.replicate k its.toArray)=(a++(List.replicate k its).flatten).toArray
 |0,a=>by simp
 | k+1,a=>by
  have e:a.toArray++its.toArray=(a++its).toArray:=by simp
  have e2:(a++its)++(List.replicate k its).flatten=a++(List.replicate (k+1) its).flatten:=by
   rw[j7,List.flatten_cons,Y2]
  rw[← e2,← BH its k (a++its),← e,j7,List.foldl_cons]
section
variable{X:Cx}{pins:List (Addr × Obj)}{σ:St}{H:Hp}{s:Shared}{l b:Addr}{xs ys zs:List V}
def Inv.lset{its its':List Value}{n:Nat}{f:Array Value->Array Value}{t':Nat}(I:Inv X pins σ H s)(a:H l=some (.lst xs))
  (e:s.heap.get? l=some { cls:=.type "list",data:=.seq its.toArray n }) (hf:f its.toArray=its'.toArray) (b:Vals ys its') (hz:ys.length<=sizeLine) :
  Inv X pins σ (upd H l (.lst ys)) { s with heap:=s.heap.update l (Obj.mapSeq f),toks:=t' }:=by
 have q:=PySem.IsL.update e f
 rw[hf] at q
 refine I.write (x:=l) (e:=l) (by rw[a];exact trivial) (.inl rfl) (λd u hb c=>(Heap.get?_update_other s.heap (Obj.mapSeq f) (Ne.symm hb)).trans c) ⟨_,q⟩ ?_
 exact⟨hz,its',_,b,q⟩
def Inv.lnew{its:List Value}{t':Nat}(I:Inv X pins σ H s)(a:Vals ys its)(hz:ys.length<=sizeLine) :
  Inv X pins σ (upd H s.heap.objs.size (.lst ys)) { s with heap:=s.heap.push { cls:=.type "list",data:=.seq its.toArray },toks:=t' } :=
 I.laid (λ_ _ q=>S1 _ q) (N0 _) ⟨hz,its,0,a,X2 _ rfl⟩
def Inv.fresh(I:Inv X pins σ H s):H s.heap.objs.size=none:=I.hok.fresh (N0 _)
def Inv.lstM(I:Inv X pins σ H s)(a:H l=some (.lst xs)):xs.length<=sizeLine/\∃(its:List Value)(n:Nat),Vals xs its/\xs.length=its.length/\s.heap.get? l=some { cls:=.type "list",data:=.seq its.toArray n }:=by
 obtain⟨z,its,n,r,e⟩:=I.hok l _ a
 exact⟨z,its,n,r,r.length,e⟩
def wE{n:Nat}(h:n<=sizeLine):Builtin.List.listTooLong n=false:=by
 unfold Builtin.List.listTooLong
 exact O2 (by lia)
end
section
variable{X:Cx}
def o9:V->List V->Hp->VK->Prop:=λx vs H Q=>∃ l xs y,x=.ref l/\vs=[y]/\H l=some (.lst xs)/\xs.length<sizeLine/\Q .non (upd H l (.lst (xs++[y])))
def z6:MtM X "list.append" o9:=by
 intro pins s σ H x vs v us Q I c d h
 obtain⟨l,xs,y,rfl,rfl,a,hz,q⟩:=h
 cases c
 obtain⟨u,rfl,b⟩:=d.one
 obtain⟨z,its,n,r,f,e⟩:=I.lstM a
 refine call_meets F.slot_list_append ⟨_,e,rfl⟩ F.entry_list_append (F.args_list_append_2 _ _) (PySem.list_append l its.toArray n u (by rw[S2];lia)) ⟨e,?_⟩
 refine⟨.non,_,I.lset (its':=its++[u]) a e (by simp) (r.append (.cons b .nil)) ?_,rfl,q⟩
 rw[Q3,List.length_singleton]
 lia
def RD:V->List V->Hp->VK->Prop:=λx vs H Q=>∃ l b xs zs,x=.ref l/\vs=[.ref b]/\H l=some (.lst xs)/\H b=some (.lst zs)/\xs.length+zs.length<=sizeLine/\Q .non (upd H l (.lst (xs++zs)))
def UQ:MtM X "list.extend" RD:=by
 intro pins s σ H x vs v us Q I o p h
 obtain⟨l,b,xs,w,rfl,rfl,d,j,hz,q⟩:=h
 cases o
 obtain⟨u,rfl,g⟩:=p.one
 cases g
 obtain⟨z,its,n,r,A,e⟩:=I.lstM d
 obtain⟨y,a,i,f,m,e2⟩:=I.lstM j
 have hsz:its.toArray.size+a.toArray.size<=sizeLine:=by rw[S2,S2];lia
 have c:¬ (!its.toArray.isEmpty && Builtin.List.listTooLong (its.toArray.size+a.toArray.size))=true:=by
  rw[wE hsz,Bool.and_false]
  exact Y1
 refine call_meets F.slot_list_extend ⟨_,e,rfl⟩ F.entry_list_extend (F.args_list_extend_2 _ _)
  (AutoSeq1.list_extend_list_list_0 l its.toArray n b a.toArray i c (by rw[S2];lia) (by lia)) ⟨e,e2,?_⟩
 refine⟨.non,_,I.lset (its':=its++a) d e (by simp) (r.append f) ?_,rfl,q⟩
 rw[Q3]
 lia
def BC:V->List V->Hp->VK->Prop:=λx vs H Q=>∃ l xs i k y,x=.ref l/\vs=[.int i]/\H l=some (.lst xs)/\-(2 ^ 63)<=i/\i<2 ^ 63/\seqIndex? i xs.length=some k/\xs[k]?=some y/\Q y (upd H l (.lst (xs.eraseIdx k)))
def YM:MtM X "list.pop" BC:=by
 intro pins s σ H x vs v us Q I g j h
 obtain⟨l,xs,i,k,y,rfl,rfl,b,d,o,f,A,q⟩:=h
 cases g
 obtain⟨u,rfl,c⟩:=j.one
 obtain⟨t,rfl⟩:=c
 obtain⟨z,its,n,r,p,e⟩:=I.lstM b
 obtain⟨w,m,a⟩:=r.get A
 refine call_meets F.slot_list_pop ⟨_,e,rfl⟩ F.entry_list_pop (F.args_list_pop_2 _ _)
  (MeetsSeq.list_pop_at l its.toArray n i t k w (fitsIndex_both d o) (by rw[S2,← p];exact f) (by rw[← W5];exact m) (by rw[S2];lia)) ⟨e,?_⟩
 refine⟨y,_,I.lset (its':=its.eraseIdx k) b e ?_ (r.eraseIdx k) ?_,a,q⟩
 ·show its.toArray.eraseIdxIfInBounds k=(its.eraseIdx k).toArray
  rw[List.eraseIdxIfInBounds_toArray]
 ·have:=IF xs k
  lia
def rCat:R2:=λx y H Q=>∃ l b xs zs,x=.ref l/\y=.ref b/\H l=some (.lst xs)/\H b=some (.lst zs)/\xs.length+zs.length<=sizeLine/\∀ p,H p=none->Q (.ref p) (upd H p (.lst (xs++zs)))
def O6:OpR X (binaryOp .Add) rCat:=by
 intro pins s σ H x y v u Q I j i h
 obtain⟨l,b,xs,o,rfl,rfl,m,f,hz,q⟩:=h
 cases j
 cases i
 obtain⟨z,its,n,r,A,e⟩:=I.lstM m
 obtain⟨w,a,p,c,g,e2⟩:=I.lstM f
 refine PySem.P.add_list e e2 ?_ (by rw[S2,S2];lia)
 have d:its.toArray++a.toArray=(its++a).toArray:=by simp
 rw[d]
 exact⟨.ref _,_,I.lnew (t':=s.toks) (r.append c) (by rw[Q3];lia),rfl,q _ I.fresh⟩
def rRep:R2:=λx y H Q=>∃ l k xs,x=.ref l/\y=.int k/\H l=some (.lst xs)/\-(2 ^ 63)<=k/\k<2 ^ 63/\xs.length * k.toNat<=sizeLine /\
 ∀ p,H p=none->Q (.ref p) (upd H p (.lst (List.replicate k.toNat xs).flatten))
def kF{α:Type}(xs:List α)(k:Nat):(List.replicate k xs).flatten.length=k * xs.length:=by
 induction k with
 |zero=>simp
 |succ k ih=>rw[j7,List.flatten_cons,Q3,ih,Nat.succ_mul,Nat.add_comm]
def dM:OpR X (binaryOp .Mult) rRep:=by
 intro pins s σ H x y v u Q I w p h
 obtain⟨l,k,xs,rfl,rfl,A,E,B,hz,q⟩:=h
 cases w
 obtain⟨t,rfl⟩:=p
 obtain⟨z,its,n,r,D,e⟩:=I.lstM A
 have f:its.toArray.size * k.toNat<=sizeLine:=by rw[S2,← D];exact hz
 have c:¬ its.toArray.size * k.toNat > (2 ^ 63-1) / 8:=by
  have:(sizeLine:Nat)<=(2 ^ 63-1) / 8:=by decide
  lia
 have d:¬ (!Builtin.List.listFitsIndex k)=true:=by
  rw[fitsIndex_both E B]
  exact Y1
 have b:¬ Builtin.List.listTooLong (its.toArray.size * k.toNat)=true:=by
  rw[wE f]
  exact Y1
 have g:List.foldl (λj i=>j++i) #[] (List.replicate (if its.toArray.isEmpty=true then 0 else k.toNat) its.toArray)=(List.replicate k.toNat its).flatten.toArray:=by
  have o:∀ m:Nat,List.foldl (λj i=>j++i) #[] (List.replicate m its.toArray)=(List.replicate m its).flatten.toArray:=λm=>by
   have:=BH its m []
   rw[List.nil_append] at this
   exact this
  rw[o]
  cases its with
  |nil=>simp
  |cons a r'=>rw[y0 (by simp)]
 refine wpAny_binaryOp_repeat_ref (T:="list") (U:="int") (by decide) ⟨_,e,rfl⟩ (λC=>typeIs_int C k t) noFill_list_mul F.fills_int_mul F.slot_int_rmul repeat_list F.slot_int_index.lookup
  (call_meets F.slot_int_rmul (typeIs_int s k t) F.entry_int_rmul (F.args_int_rmul_2 _ _) (int___rmul___int_list k t l its.toArray n)
   ⟨e,rfl,⟨_,e,rfl⟩,call_meets F.slot_list_mul ⟨_,e,rfl⟩ F.entry_list_mul (F.args_list_mul_2 _ _) (AutoListH.list___mul___list_int_3 l its.toArray n k t d c b) ⟨e,?_⟩⟩)
 rw[g]
 exact⟨.ref _,_,I.lnew (t':=s.toks) (r.rep k.toNat) (by rw[kF,Nat.mul_comm];exact hz),rfl,q _ I.fresh⟩
end
section
variable{prog:Program}{w:World}{A:Around}{E:Value->Shared->Prop}{s:Shared}
end
section
variable{X:Cx}
end
section
variable{κ:Type} [DecidableEq κ]
def valV(kvs:List (κ × V))(k : κ):Option V:=(kvs.find? λkv=>decide (kv.1=k)).map (·.2)
def putK(kvs:List (κ × V))(k : κ)(v:V):List (κ × V) :=
 if (kvs.any λkv=>decide (kv.1=k))=true then kvs.map (λkv=>if kv.1=k then (kv.1,v) else kv) else kvs++[(k,v)]
def vS(kvs:List (κ × V))(k : κ):List (κ × V):=kvs.filter λkv=>decide (kv.1 ≠ k)
def aB{p : κ × V}{r:List (κ × V)}{k : κ}(e:p.1=k):valV (p::r) k=some p.2:=by simp[valV,List.find?_cons,e]
def bB{p : κ × V}{r:List (κ × V)}{k : κ}(e:¬ p.1=k):valV (p::r) k=valV r k:=by simp[valV,List.find?_cons,e]
def pE(k : κ):∀ kvs:List (κ × V),(kvs.any λa=>decide (a.1=k))=(valV kvs k).isSome
 |[]=>rfl
 | p::r=>by
  rw[List.any_cons]
  by_cases e:p.1=k
  ·simp only[aB e,O4 e,Bool.true_or,Option.isSome_some]
  ·rw[bB e,O2 e,Bool.false_or];exact pE k r
def dE(kvs:List (κ × V))(k : κ)(v:V):(putK kvs k v).length<=kvs.length+1:=by
 unfold putK
 split
 ·rw[T0];lia
 ·rw[Q3,W3,W7];lia
def RelO.isSome_eq{o:Option V}{u:Option Value}(r:RelO o u):o.isSome=u.isSome:=by
 cases o with
 | none=>cases u with
  |none=>rfl
  |some _=>exact(show False from r).elim
 | some _=>cases u with
  |none=>exact(show False from r).elim
  |some _=>rfl
def RelO.getD{o:Option V}{u:Option Value}{d:V}{d':Value}(r:RelO o u)(a:RelV d d'):RelV (o.getD d) (u.getD d'):=by
 cases o with
 | none=>cases u with
  |none=>exact a
  |some _=>exact(show False from r).elim
 | some _=>cases u with
  |none=>exact(show False from r).elim
  |some _=>exact r
def KV.val{kvs:List (κ × V)}{vs:List (κ × Value)}(r:KV kvs vs)(k : κ):RelO (valV kvs k) (valueAt vs k):=by
 unfold KV at r
 induction r with
 |nil=>exact True.intro
 | @cons p q ps qs h t ih =>
  obtain⟨c,d⟩:=h
  by_cases e:p.1=k
  ·have a:q.1=k:=c.symm.trans e
   have b:valueAt (q::qs) k=some q.2:=by simp[valueAt,List.find?_cons,a]
   rw[aB e,b];exact d
  ·have a:¬ q.1=k:=λz=>e (c.trans z)
   have b:valueAt (q::qs) k=valueAt qs k:=by simp[valueAt,List.find?_cons,a]
   rw[bB e,b];exact ih
def KV.any{kvs:List (κ × V)}{vs:List (κ × Value)}(r:KV kvs vs)(k : κ):(kvs.any λa=>decide (a.1=k))=vs.any λa=>decide (a.1=k):=by
 unfold KV at r
 induction r with
 |nil=>rfl
 |cons h t ih=>rw[List.any_cons,List.any_cons,ih,h.1]
def KV.repl{kvs:List (κ × V)}{vs:List (κ × Value)}(r:KV kvs vs)(k : κ){y:V}{u:Value}(c:RelV y u) :
  KV (kvs.map λa=>if a.1=k then (a.1,y) else a) (vs.map λa=>if a.1=k then (a.1,u) else a):=by
 unfold KV at r ⊢
 induction r with
 |nil=>exact .nil
 | @cons p q ps qs h t ih =>
  rw[P2,P2]
  refine .cons ?_ ih
  obtain⟨b,d⟩:=h
  by_cases e:p.1=k
  ·rw[t0 e,t0 (b.symm.trans e)];exact⟨b,c⟩
  ·rw[y0 e,y0 (λz=>e (b.trans z))];exact⟨b,d⟩
def KV.put{kvs:List (κ × V)}{vs:List (κ × Value)}(r:KV kvs vs)(k : κ){y:V}{u:Value}(a:RelV y u):KV (putK kvs k y) (stored vs k u):=by
 unfold putK stored
 rw[r.any k]
 by_cases e:(vs.any λb=>decide (b.1=k))=true
 ·rw[t0 e,t0 e];exact r.repl k a
 ·rw[y0 e,y0 e];exact Paired.snoc r ⟨rfl,a⟩
def KV.length{kvs:List (κ × V)}{vs:List (κ × Value)}(r:KV kvs vs):kvs.length=vs.length:=Paired.length r
end
def u9{P:Program}{w:World}{k:Key}{u:Value}(r:RelV (kV k) u):(N3 P w).is k u=true:=by
 cases k with
 |inl i=>obtain⟨t,e⟩:=(show ∃ t,u=Value.int i t from r);subst e;exact GF P w i t
 |inr x=>obtain⟨t,e⟩:=(show ∃ t,u=Value.str x t from r);subst e;exact wJ P w x t
def uF{P:Program}{w:World}:∀{a:List Key}{us:List Value},Vals (a.map kV) us->ItemsAre (N3 P w) a us
 |[],_,r=>by rw[List.map_nil] at r;cases r;exact .nil
 | k::a,_,r=>by
  rw[P2] at r
  cases r with
  |cons h t=>exact .cons (u9 h) (uF t)
abbrev KT(H:Hp):List (List Key × V)->List (List Key × Addr × Value)->Prop:=Paired λp q=>p.1=q.1/\H q.2.1=some (.tup (p.1.map kV))/\RelV p.2 q.2.2
def KT.val{H:Hp}{kvs:List (List Key × V)}{xs:List (List Key × Addr × Value)}(r:KT H kvs xs)(k:List Key):RelO (valV kvs k) ((atKey xs k).map (·.2)):=by
 induction r with
 |nil=>exact True.intro
 | @cons p q ps qs h t ih =>
  obtain⟨c,_,d⟩:=h
  by_cases e:p.1=k
  ·have a:q.1=k:=c.symm.trans e
   have b:atKey (q::qs) k=some q.2:=by simp[atKey,List.find?_cons,a]
   rw[aB e,b];exact d
  ·have a:¬ q.1=k:=λz=>e (c.trans z)
   have b:atKey (q::qs) k=atKey qs k:=by simp[atKey,List.find?_cons,a]
   rw[bB e,b];exact ih
def KT.repl{H:Hp}{kvs:List (List Key × V)}{xs:List (List Key × Addr × Value)}(r:KT H kvs xs)(k:List Key){y:V}{u:Value}(d:RelV y u) :
  KT H (kvs.map λb=>if b.1=k then (b.1,y) else b) (xs.map (putAt k u)):=by
 induction r with
 |nil=>exact .nil
 | @cons p q ps qs h t ih =>
  rw[P2,P2]
  refine .cons ?_ ih
  obtain⟨a,c,f⟩:=h
  unfold putAt
  by_cases e:p.1=k
  ·rw[t0 e,t0 (a.symm.trans e)];exact⟨a,c,d⟩
  ·rw[y0 e,y0 (λz=>e (a.trans z))];exact⟨a,c,f⟩
def KT.put{H:Hp}{kvs:List (List Key × V)}{xs:List (List Key × Addr × Value)}(r:KT H kvs xs)(k:List Key){b:Addr}{y:V}{u:Value}(hb:H b=some (.tup (k.map kV)))(a:RelV y u) :
  KT H (putK kvs k y) (storedH xs k b u):=by
 have e:(kvs.any λc=>decide (c.1=k))=(atKey xs k).isSome:=by
  rw[pE,(r.val k).isSome_eq,Option.isSome_map]
 unfold putK storedH
 rw[e]
 by_cases q:(atKey xs k).isSome=true
 ·rw[t0 q,t0 q];exact r.repl k a
 ·rw[y0 q,y0 q];exact Paired.snoc r ⟨rfl,hb,a⟩
def KT.keeps{H H':Hp}{kvs:List (List Key × V)}{xs:List (List Key × Addr × Value)}(r:KT H kvs xs)(a:∀ b ys,H b=some (.tup ys)->H' b=some (.tup ys)):KT H' kvs xs :=
 Paired.mapP r λ_ _ z=>⟨z.1,a _ _ z.2.1,z.2.2⟩
section
variable{P:Program}{w:World}{H:Hp}{h:Heap}{a:Addr}
def sG{u:HO}(ok:HOk P w H h)(e:Rd H a u):ObjOk P w H h a u:=e.ok ok
def j8{kvs:List (Key × V)}(ok:HOk P w H h)(e:Rd H a (.dK kvs)):kvs.length<=sizeLine/\(a == sysModules)=false/\∃ vs,KV kvs vs/\h.DictOf (N3 P w) a vs :=
 show ObjOk P w H h a (.dK kvs) from sG ok e
def RA{kvs:List (Key × V)}(ok:HOk P w H h)(e:H a=some (.dK kvs)):kvs.length<=sizeLine/\(a == sysModules)=false/\∃ vs,KV kvs vs/\h.DictOf (N3 P w) a vs:=j8 ok (.inl e)
def V8{b:List Key}(ok:HOk P w H h)(e:H a=some (.tup (b.map kV))):(tupleKind (N3 P w)).is h b a:=by
 obtain⟨_,its,r,o,f,c,n,d⟩:=(show ObjOk P w H h a (.tup (b.map kV)) from ok a _ e)
 exact⟨o,its.toArray,n,f,c,d,by simpa using uF r⟩
def q9{kvs:List (List Key × V)}(ok:HOk P w H h)(e:Rd H a (.dT kvs)):kvs.length<=sizeLine/\(a == sysModules)=false /\
  ∃ xs,KT H kvs xs/\h.DictOfH (tupleKind (N3 P w)) a xs:=by
 obtain⟨z,y,xs,r,o,es,ep,i,d,f,c,g⟩:=(show ObjOk P w H h a (.dT kvs) from sG ok e)
 refine⟨z,y,xs,r,o,es,ep,i,d,f,c,λx b=>?_,g⟩
 have all:∀{l:List (List Key × V)}{m:List (List Key × Addr × Value)},KT H l m->∀ x∈m,(tupleKind (N3 P w)).is h x.1 x.2.1:=by
  intro l m q
  induction q with
  |nil=>intro x b;exact nomatch b
  | @cons p q ps qs hq t ih =>
   intro x b
   rcases Z0.mp b with e|b
   ·subst e
    exact V8 ok (by rw[← hq.1];exact hq.2.1)
   ·exact ih x b
 exact all r x b
def N9{kvs:List (List Key × V)}(ok:HOk P w H h)(e:H a=some (.dT kvs)):kvs.length<=sizeLine/\(a == sysModules)=false /\
  ∃ xs,KT H kvs xs/\h.DictOfH (tupleKind (N3 P w)) a xs:=q9 ok (.inl e)
end
def DGet(H:Hp)(a:Addr)(y:V)(r:Option V):Prop :=
 (∃ kvs k,Rd H a (.dK kvs)/\y=kV k/\r=valV kvs k)\/∃ kvs k b,Rd H a (.dT kvs)/\y=.ref b/\H b=some (.tup (k.map kV))/\r=valV kvs k
def DPut(H:Hp)(a:Addr)(y v:V)(H':Hp):Prop :=
 (∃ kvs k,H a=some (.dK kvs)/\y=kV k/\kvs.length<sizeLine/\H'=upd H a (.dK (putK kvs k v))) ∨
 ∃ kvs k b,H a=some (.dT kvs)/\y=.ref b/\H b=some (.tup (k.map kV))/\kvs.length<sizeLine/\H'=upd H a (.dT (putK kvs k v))
def DGet.k{H:Hp}{a:Addr}{kvs:List (Key × V)}{k:Key}(e:H a=some (.dK kvs)):DGet H a (kV k) (valV kvs k):=.inl ⟨kvs,k,.inl e,rfl,rfl⟩
def DPut.k{H:Hp}{a:Addr}{kvs:List (Key × V)}{k:Key}{v:V}(e:H a=some (.dK kvs))(b:kvs.length<sizeLine):DPut H a (kV k) v (upd H a (.dK (putK kvs k v))):=.inl ⟨kvs,k,e,rfl,b,rfl⟩
def DPut.t{H:Hp}{a b:Addr}{kvs:List (List Key × V)}{k:List Key}{v:V}(e:H a=some (.dT kvs))(c:H b=some (.tup (k.map kV)))(d:kvs.length<sizeLine) :
  DPut H a (.ref b) v (upd H a (.dT (putK kvs k v))):=.inr ⟨kvs,k,b,e,rfl,c,d,rfl⟩
section
variable{X:Cx}{pins:List (Addr × Obj)}{σ:St}{H:Hp}{s:Shared}{a:Addr}{y v:V}{u r:Value}{o:Option V}{A:Around}{E:Value->Shared->Prop}
def Inv.big(I:Inv X pins σ H s):sysModules<s.heap.objs.size:=by
 have h:mainGlobals<s.heap.objs.size:=(I.mod.glob.keeps I.bk).lt
 exact Nat.lt_trans (by decide) h
def KN{Q:Value->Shared->Prop}(B:A.units+1<cLine)(I:Inv X pins σ H s)(g:DGet H a y (some v))(n:RelV y u)(h:∀ f q,Inv X pins σ H q->RelV v f->Q f q) :
  wpAny (model X.prog X.w) A (getItem (.ref a) u) Q E s:=by
 rcases g with ⟨kvs,k,e,j,l⟩|⟨kvs,k,b,e,j,x,l⟩
 ·subst j
  obtain⟨z,hd,vs,d,dd⟩:=j8 I.hok e
  obtain⟨f,m,c⟩:=RelO.some_of (v:=v) (o:=valueAt vs k) (by rw[l];exact d.val k)
  exact wpAny_getItem_of (u9 n) dd.mapOf m (h f _ (I.tok _) c)
 ·subst j
  cases (show u=Value.ref b from n)
  obtain⟨z,hd,xs,d,dd⟩:=q9 I.hok e
  obtain⟨f,m,c⟩:=RelO.some_of (v:=v) (o:=(atKey xs k).map (·.2)) (by rw[l];exact d.val k)
  obtain⟨p,r,i⟩:=Option.map_eq_some_iff.mp m
  refine wpAny_getItem_heap (tupleKind_room_in1 B) (V8 I.hok x) dd r ?_
  rw[i]
  exact h f _ (I.tok _) c
def yJ{Q:Value->Shared->Prop}(m:A.units+1<cLine)(I:Inv X pins σ H s)(g:DGet H a y o)(f:RelV y u)(h:∀ i,Inv X pins σ H i->Q (.bool (!o.isSome)) i) :
  wpAny (model X.prog X.w) A (compareOp .NotIn u (.ref a)) Q E s:=by
 rcases g with ⟨kvs,k,e,d,l⟩|⟨kvs,k,b,e,d,j,l⟩
 ·subst d
  obtain⟨z,hd,vs,c,dd⟩:=j8 I.hok e
  refine wpAny_notIn_of (u9 f) hd dd.mapOf ?_
  rw[← (c.val k).isSome_eq,← l]
  exact h _ (I.tok _)
 ·subst d
  cases (show u=Value.ref b from f)
  obtain⟨z,hd,xs,c,dd⟩:=q9 I.hok e
  refine wpAny_notIn_heap (tupleKind_room_in1 m) (V8 I.hok j) hd dd ?_
  have q:=(c.val k).isSome_eq
  rw[Option.isSome_map] at q
  rw[← q,← l]
  exact h _ (I.tok _)
def KB{h':Heap}{t':Nat}{c:HO}(I:Inv X pins σ H s)(f:Mut (H a))(hs:Heap.SameBut a s.heap h')(d:∃ q,h'.get? a=some q)(new:ObjOk X.prog X.w (upd H a c) h' a c) :
  Inv X pins σ (upd H a c) { s with heap:=h',toks:=t' } :=
 I.write (x:=a) (e:=a) f (.inl rfl) (λb q hb z=>(hs.2 b hb).trans z) d new
def BF{P:Program}{w:World}{H':Hp}{h':Heap}{kvs:List (Key × V)}{vs:List (Key × Value)}(z:kvs.length<=sizeLine)(hd:(a == sysModules)=false)(b:KV kvs vs)(dd:h'.DictOf (N3 P w) a vs) :
  ObjOk P w H' h' a (.dK kvs):=⟨z,hd,vs,b,dd⟩
def YQ{H':Hp}{Q:Unit->Shared->Prop}(L:A.units+1<cLine)(I:Inv X pins σ H s)(g:DPut H a y v H')(p:RelV y u)(x:RelV v r)(h:∀ C,Inv X pins σ H' C->Q () C) :
  wpAny (model X.prog X.w) A (setItem (.ref a) u r) Q E s:=by
 rcases g with ⟨kvs,k,e,j,l,m⟩|⟨kvs,k,b,e,j,B,l,m⟩
 ·subst j m
  obtain⟨z,hd,vs,d,dd⟩:=RA I.hok e
  have hz:vs.length<=sizeLine:=by rw[← d.length];exact z
  have n:(putK kvs k v).length<=sizeLine:=by have:=dE kvs k v;lia
  refine wpAny_setItem_pairs (hsz:=hz) (u9 p) dd λh' f hs=>h _ ?_
  have F:∃ q,h'.get? a=some q:=let ⟨q,_,_,i,_⟩:=f;⟨q,i⟩
  exact KB I (by rw[e];exact True.intro) hs F (BF n hd (d.put k x) f)
 ·subst j m
  cases (show u=Value.ref b from p)
  obtain⟨z,hd,xs,d,dd⟩:=N9 I.hok e
  have hz:xs.length<=sizeLine:=by rw[← Paired.length d];exact z
  have n:(putK kvs k v).length<=sizeLine:=by have:=dE kvs k v;lia
  refine wpAny_setItem_heap (hsz:=hz) (tupleKind_room_in1 L) (V8 I.hok B) dd λh' f hs=>h _ ?_
  obtain⟨q,es,ep,i,G,J,D,_,K⟩:=f
  refine KB I (by rw[e];exact True.intro) hs ⟨q,i⟩ ⟨n,hd,_,(d.put k B x).keeps λc ys o=>?_,q,es,ep,i,G,J,D,K⟩
  rw[z0 (Q8 o e (λz=>nomatch z))]
  exact o
end
section
variable{X:Cx}{pins:List (Addr × Obj)}{σ:St}{H:Hp}{s:Shared}{a:Addr}{kvs:List (Key × V)}{k:Key}{u:Value}{A:Around}{E:Value->Shared->Prop}
def GN{Q:Value->Shared->Prop}(I:Inv X pins σ H s)(e:Rd H a (.dK kvs))(h:∀ t c,Inv X pins σ H c->Q (.int kvs.length t) c):wpAny (model X.prog X.w) A (call (.builtin "len") [.ref a]) Q E s:=by
 obtain⟨z,hd,vs,b,dd⟩:=j8 I.hok e
 refine call_len_dict hd dd (by rw[← b.length];rw[sizeLine_eq] at z;lia) ?_
 rw[← b.length]
 exact h _ _ (I.tok _)
end
def NoSl(i:Expr):Prop:=∀ ov iv,subscripted i false ov iv=operate [ov,iv] (getItem ov iv)
def aS{prog:Program}{w:World}{A:Around}{E:Value->Shared->Prop}{s:Shared}{env:Env}{b a:Expr}{m:Pos}{T id:String}{Q:Value->Shared->Prop}
  (p:typeLookup (.type T) "__getitem__" = pure (some (.builtin id))) (hs:NoSl a)
  (h:wpAny (model prog w) A (eval b env) (λo g=>wpAny (model prog w) A (eval a env) (λi c=>c.TypeIs o T/\wpAny (model prog w) A (getItem o i) Q E c) E g) E s) :
  wpAny (model prog w) A (eval (.Subscript b a m) env) Q E s:=by
 refine Subscript_ (n4 h (λo g j=>n4 j (λi c d=>?_) λ_ _ x=>x) λ_ _ x=>x)
 obtain⟨n,d⟩:=d
 unfold subscriptTail
 refine C0 ?_
 rw[getitemInPython_of_ne n.not_modules]
 refine C0 (wpAny_specialOf n p ?_)
 have fin:wpAny (model prog w) A (subscripted a false o i) (λr f=>wpAny (model prog w) A (letTemporaryGo b o r >>= λ_=>pure r) Q E f) E c:=by
  rw[hs o i]
  exact wpAny_operating (n4 d (λr f l=>C0 (wpAny_letTemporaryGo (M0 l))) λ_ _ x=>x)
 first
  |exact M0 (C0 fin)
  |exact C0 (M0 (C0 fin))
  |exact C0 fin
def gN{X:Cx}{pins:List (Addr × Obj)}{σ:St}{H:Hp}{s:Shared}{a:Addr}{y:V}{o:Option V}(I:Inv X pins σ H s)(g:DGet H a y o):s.TypeIs (.ref a) "dict":=by
 rcases g with ⟨kvs,k,e,_,_⟩|⟨kvs,k,b,e,_,_,_⟩
 ·obtain⟨_,_,vs,_,dd⟩:=j8 I.hok e
  exact dd.typeIs
 ·obtain⟨_,_,xs,_,dd⟩:=q9 I.hok e
  exact dd.typeIs
def NA(td ty:TE):TE:=λσ H Q=>td σ H λx H1=>ty σ H1 λy H2=>∃ a v,x=.ref a/\DGet H2 a y (some v)/\Q v H2
def CA(ty td:TE):TE:=λσ H Q=>ty σ H λy H1=>td σ H1 λx H2=>∃ a o,x=.ref a/\DGet H2 a y o/\Q (.bl (!o.isSome)) H2
def J9(td ty tv:TE):TS:=λD σ H=>tv σ H λv H1=>td σ H1 λx H2=>ty σ H2 λy H3=>∃ a H4,x=.ref a/\DPut H3 a y v H4/\D.nx σ H4
section
variable{X:Cx}{o i e value:Expr}{pos pos' tpos:Pos}{td ty tv:TE}
def SC(r:X.A.units+1<cLine)(m:PE X o td)(hi:PE X i ty)(hs:NoSl i):PE X (.Subscript o i pos) (NA td ty):=by
 intro pins s σ H Q I h
 refine aS PySem.F.slot_dict_getitem.lookup hs (thn (m pins s σ H _ I h) λu s1 ⟨x,j,d,q,f⟩=>thn (hi pins s1 σ j _ d f) λw s2 ⟨y,H2,c,n,a,v,ex,g,l⟩=>?_)
 subst ex
 obtain rfl:u=Value.ref a:=q
 exact⟨gN c g,KN r c g n λB z p b=>⟨v,H2,p,b,l⟩⟩
def nQ(r:X.A.units+1<cLine)(hi:PE X i ty)(j:PE X o td):PC X .NotIn i o (CA ty td):=by
 intro pins s σ H Q I h
 refine thn (hi pins s σ H _ I h) λv s1 ⟨y,d,b,l,c⟩=>thn (j pins s1 σ d _ b c) λu s2 ⟨x,H2,q,n,a,p,ex,g,f⟩=>?_
 subst ex
 obtain rfl:u=Value.ref a:=n
 exact yJ r q g l λw m=>⟨.bl (!p.isSome),H2,m,rfl,f⟩
def MB(E:X.A.units+1<cLine)(l:PE X o td)(hi:PE X i ty)(w:PE X value tv)(hs:swapsWith value (some (.Subscript o i pos')) pos.line X.env=pure false) :
  PS X (.Assign [.Subscript o i pos'] value pos) (J9 td ty tv):=by
 intro pins s σ H D I h
 refine wpAny_Assign_Subscript (thn (w pins s σ H _ I h) λr s1 ⟨v,f,b,q,d⟩=>thn (l pins s1 σ f _ b d) λu s2 ⟨x,H2,B,p,j⟩=>thn (hi pins s2 σ H2 _ B j) λF G ⟨y,H3,n,m,a,c,ex,g,C⟩=>?_) hs
 subst ex
 obtain rfl:u=Value.ref a:=p
 exact YQ E n g m q λJ z=>⟨σ,c,z,C⟩
end
def VE{P:Program}{w:World}{H:Hp}(h:Heap)(hb:sysModules<h.objs.size):ObjOk P w H (h.push { cls:=.type "dict",data:=.dict #[] }) h.objs.size (.dK []) :=
 ⟨Y3 _,beq_eq_false_iff_ne.mpr (Ne.symm (O1 hb)),[],.nil,Heap.DictOf.new h⟩
def lR{P:Program}{w:World}{H:Hp}(h:Heap)(hb:sysModules<h.objs.size):ObjOk P w H (h.push { cls:=.type "dict",data:=.dict #[] }) h.objs.size (.dT []) :=
 ⟨Y3 _,beq_eq_false_iff_ne.mpr (Ne.symm (O1 hb)),[],.nil,_,#[],0,X2 _ rfl,⟨rfl,rfl,rfl⟩,rfl,rfl,List.nodup_nil⟩
def dG:TE:=λ_ H Q=>∀ p,H p=none->Q (.ref p) (upd H p (.dK []))
def lC:TE:=λ_ H Q=>∀ p,H p=none->Q (.ref p) (upd H p (.dT []))
section
variable{X:Cx}{pos:Pos}
def EI:PE X (.Dict [] [] pos) dG:=λpins s σ H Q I h =>
 wpAny_Dict_empty ⟨.ref s.heap.objs.size,_,I.laid (a:=s.heap.objs.size) (o:=.dK []) (t':=s.toks) (λ_ _ q=>S1 _ q) (N0 _) (VE s.heap I.big),rfl,h _ (I.hok.fresh (N0 _))⟩
def vE:PE X (.Dict [] [] pos) lC:=λpins s σ H Q I h =>
 wpAny_Dict_empty ⟨.ref s.heap.objs.size,_,I.laid (a:=s.heap.objs.size) (o:=.dT []) (t':=s.toks) (λ_ _ q=>S1 _ q) (N0 _) (lR s.heap I.big),rfl,h _ (I.hok.fresh (N0 _))⟩
end
def bE:List (TE × TE)->St->Hp->(List (V × V)->Hp->Prop)->Prop
 |[],_,H,Q=>Q [] H
 |(tk,tv)::r,σ,H,Q=>tk σ H λx H1=>tv σ H1 λy H2=>bE r σ H2 λps H3=>Q ((x,y)::ps) H3
abbrev VV:List (V × V)->List (Value × Value)->Prop:=Paired λp q=>RelV p.1 q.1/\RelV p.2 q.2
def PPs(X:Cx)(pos:Pos)(keys:List (Option Expr))(values:List Expr)(trs:List (TE × TE)):Prop :=
 ∀(pins:List (Addr × Obj))(s:Shared)(σ:St)(H:Hp)(Q:List (V × V)->Hp->Prop),Inv X pins σ H s->bE trs σ H Q ->
  wpAny (model X.prog X.w) X.A (evalPairs (pairTrees keys values X.env pos)) (λvs s'=>∃ ps H',Inv X pins σ H' s'/\VV ps vs/\Q ps H') X.xe s
def WO{X:Cx}{a:Pos}:PPs X a [] [] []:=λpins s σ H Q I h=>pairTrees_nil_walk ⟨[],H,I,.nil,h⟩
def cL{X:Cx}{a:Pos}{k v:Expr}{g:List (Option Expr)}{vs:List Expr}{f d:TE}{b:List (TE × TE)}(n:PE X k f)(r:PE X v d)(A:PPs X a g vs b) :
  PPs X a (some k::g) (v::vs) ((f,d)::b):=λpins s σ H Q I h =>
 pairTrees_cons_walk (thn (n pins s σ H _ I h) λu s1 ⟨x,l,i,q,j⟩=>thn (r pins s1 σ l _ i j) λC s2 ⟨y,H2,w,o,m⟩ =>
  thn (A pins s2 σ H2 _ w m) λD B ⟨ps,H3,p,c,z⟩=>⟨(x,y)::ps,H3,p,.cons ⟨q,o⟩ c,z⟩)
def m9(kvs more:List (Key × V)):List (Key × V):=more.foldl (λacc kv=>putK acc kv.1 kv.2) kvs
def KV.merge:∀{more:List (Key × V)}{rs:List (Key × Value)}{kvs:List (Key × V)}{vs:List (Key × Value)},KV more rs->KV kvs vs->KV (m9 kvs more) (merged vs rs):=by
 intro more rs kvs vs r
 unfold KV at r
 induction r generalizing kvs vs with
 |nil=>intro q;exact q
 | @cons p q ps qs h t ih =>
  intro a
  have e:KV (putK kvs p.1 p.2) (stored vs q.1 q.2):=by
   have:=a.put p.1 h.2
   rw[← h.1];exact this
  exact ih e
def gI:∀(more kvs:List (Key × V)),(m9 kvs more).length<=kvs.length+more.length
 |[],kvs=>by show kvs.length<=kvs.length+0;lia
 | p::r,kvs=>by
  have b:=gI r (putK kvs p.1 p.2)
  have a:=dE kvs p.1 p.2
  show(m9 (putK kvs p.1 p.2) r).length<=_
  rw[W3];lia
def XE{P:Program}{w:World}:∀{kvs:List (Key × V)}{f:List (Value × Value)},VV (kvs.map λd=>(kV d.1,d.2)) f->∃ rs,Carries (N3 P w) f rs/\KV kvs rs
 |[],_,r=>by rw[List.map_nil] at r;cases r;exact⟨[],True.intro,.nil⟩
 | p::kvs,_,r=>by
  rw[P2] at r
  cases r with
  | @cons a b as bs h t =>
   obtain⟨rs,c,q⟩:=XE (P:=P) (w:=w) t
   obtain⟨b1,g⟩:=b
   exact⟨(p.1,g)::rs,⟨u9 h.1,rfl,c⟩,.cons ⟨rfl,h.2⟩ q⟩
def eG(trs:List (TE × TE)):TE:=λσ H Q=>∀ p,H p=none->bE trs σ (upd H p (.dK [])) λps H2=>H2 p=some (.dK [])/\∃ kvs:List (Key × V),ps=kvs.map (λkv=>(kV kv.1,kv.2))/\kvs.length<=15/\Q (.ref p) (upd H2 p (.dK (m9 [] kvs)))
def kO{X:Cx}{d:Pos}{keys:List (Option Expr)}{b:List Expr}{f:List (TE × TE)}(h:PPs X d keys b f)(i:keys.all (·.isSome)=true)(B:keys.length=b.length)(A:keys ≠ [])
  (j:keys.length<=15):PE X (.Dict keys b d) (eG f):=by
 intro pins s σ H Q I q
 have hn:=I.hok.fresh (N0 s.heap.objs.size)
 have n:=I.laid (a:=s.heap.objs.size) (o:=.dK []) (h':=s.heap.push { cls:=.type "dict",data:=.dict #[] }) (t':=s.toks) (λ_ _ q=>S1 _ q) (N0 _) (VE s.heap I.big)
 refine wpAny_Dict_walk (knd:=N3 X.prog X.w) i B A j (thn (h pins _ σ _ _ n (q _ hn)) λE s2 ⟨ps,H2,m,l,e,kvs,ep,D,r⟩=>?_)
 subst ep
 obtain⟨rs,c,y⟩:=XE (P:=X.prog) (w:=X.w) l
 obtain⟨z,hd,v,p,dd⟩:=RA m.hok e
 cases p
 refine⟨rs,c,dd,λh' g hs=>⟨.ref s.heap.objs.size,_,?_,rfl,r⟩⟩
 have hz:(m9 [] kvs).length<=sizeLine:=by
  have C:=gI kvs []
  rw[W7] at C
  rw[sizeLine_eq];lia
 have u:∃ q,h'.get? s.heap.objs.size=some q:=let ⟨q,_,_,x,_⟩:=g;⟨q,x⟩
 exact KB m (by rw[e];exact True.intro) hs u (BF hz hd (y.merge .nil) g)
structure M1(X:Cx)(o:Expr)(m:Str)(apos:Pos)(e:Expr)(cpos:Pos):Prop where
 base:attributeBase o m X.env (eval o X.env)=eval o X.env
 few:((backTo cpos (starEach [e] X.env)).all (λx=>!x.1) && (backToKw cpos (keywordEach [] X.env)).all (λx=>x.1.isSome)
  && decide (([e]:List Expr).length+([]:List Keyword).length+(if ([]:List Keyword).isEmpty then 0 else 1)<30))=true
 line:(apos.endLine == cpos.line)=true
 trees:backTo cpos (starEach [e] X.env)=[(false,eval e X.env)]
def IsD(H:Hp)(a:Addr):Prop:=(∃ kvs,Rd H a (.dK kvs))\/∃ kvs,Rd H a (.dT kvs)
def VH{X:Cx}{pins:List (Addr × Obj)}{σ:St}{H:Hp}{s:Shared}{a:Addr}(I:Inv X pins σ H s)(d:IsD H a) :
  s.TypeIs (.ref a) "dict"/\(∀ b,Value.ref a=.ref b->∃ c,s.heap.get? b=some c/\c.dict=none)/\(a == sysModules)=false:=by
 rcases d with ⟨kvs,e⟩|⟨kvs,e⟩
 ·obtain⟨_,hd,vs,_,dd⟩:=j8 I.hok e
  refine⟨dd.typeIs,λb q=>?_,hd⟩
  cases q
  obtain⟨c,_,_,g,f,_⟩:=dd
  exact⟨c,g,f.2.1⟩
 ·obtain⟨_,hd,xs,_,dd⟩:=q9 I.hok e
  refine⟨dd.typeIs,λb q=>?_,hd⟩
  cases q
  obtain⟨c,_,_,g,f,_⟩:=dd
  exact⟨c,g,f.2.1⟩
section
variable{X:Cx}{pins:List (Addr × Obj)}{σ:St}{H:Hp}{s:Shared}{a:Addr}{y d:V}{u r:Value}{o:Option V}{A:Around}{E:Value->Shared->Prop}
def lL{Q:Value->Shared->Prop}(n:A.units+1<cLine)(I:Inv X pins σ H s)(g:DGet H a y o)(i:RelV y u)(h:∀ f j,Inv X pins σ H j->RelV (o.getD .non) f->Q f j) :
  wpAny (model X.prog X.w) A (call (.builtin "dict.get") [.ref a,u]) Q E s:=by
 rcases g with ⟨kvs,k,e,d,l⟩|⟨kvs,k,b,e,d,m,l⟩
 ·subst d
  obtain⟨z,hd,vs,c,dd⟩:=j8 I.hok e
  refine call_meetsIn PySem.F.slot_dict_get dd.typeIs PySem.F.entry_dict_get (PySem.F.args_dict_get_2 _ _) (meets_dict_get (N3 X.prog X.w) a (u9 i) hd) ⟨_,dd.mapOf,h _ _ (I.tok _) ?_⟩
  rw[l]
  exact(c.val k).getD rfl
 ·subst d
  cases (show u=Value.ref b from i)
  obtain⟨z,hd,xs,c,dd⟩:=q9 I.hok e
  refine call_meetsIn PySem.F.slot_dict_get dd.typeIs PySem.F.entry_dict_get (PySem.F.args_dict_get_2 _ _) (meetsH_dict_get (tupleKind (N3 X.prog X.w)) a b hd) ⟨tupleKind_room_in1 n,k,xs,V8 I.hok m,dd,h _ _ (I.tok _) ?_⟩
  rw[l]
  exact(c.val k).getD rfl
end
def KC(td ty:TE):TE:=λσ H Q=>td σ H λx H1=>∃ a,x=.ref a/\IsD H1 a/\ty σ H1 λy H2=>∃ o,DGet H2 a y o/\Q (o.getD .non) H2
section
variable{X:Cx}{o e f:Expr}{apos cpos:Pos}{td ty tx:TE}
def vN(B:X.A.units+1<cLine)(p:PE X o td)(n:PE X e ty)(m:M1 X o "get" apos e cpos):PE X (.Call (.Attribute o "get" apos) [e] [] cpos) (KC td ty):=by
 intro pins s σ H Q I h
 refine wpAny_Call_method m.base m.few m.line PySem.F.plainAttrs_dict PySem.F.slot_dict_get PySem.F.type_dict_get (thn (p pins s σ H _ I h) λu s1 ⟨x,i,c,v,a,ex,d,f⟩=>?_)
 subst ex
 obtain rfl:u=Value.ref a:=v
 obtain⟨z,l,_⟩:=VH c d
 refine⟨z,l,?_⟩
 rw[m.trees]
 refine Calls.callWith_builtin rfl (Calls.evalArgs_plain (Calls.spliced_cons (thn (n pins s1 σ i _ c f) λC s2 ⟨y,H2,w,q,G,g,j⟩=>Calls.spliced_nil ?_)))
 exact lL B w g q λE D r b=>⟨_,H2,r,b,j⟩
end
section
variable{X:Cx}{pins:List (Addr × Obj)}{σ:St}{H:Hp}{s:Shared}{a:Addr}{kvs:List (Key × V)}{A:Around}{E:Value->Shared->Prop}
end
section
variable{X:Cx}{pins:List (Addr × Obj)}{σ:St}{H:Hp}{s:Shared}{a:Addr}{y:V}{u:Value}{A:Around}{E:Value->Shared->Prop}
end
end L2
namespace Att
open PySem PySem.W PySem.Calls PyProof.Rows
def NP{P:Params}{h:Heap}:∀(ns:List Int)(vs:List Value),WellAll P h vs (ns.map WData.int)->IntsAre vs ns:=by
 intro ns
 induction ns with
 | nil =>
  intro vs w
  rw[List.map_nil] at w
  cases w
  exact .nil
 | cons n ns ih =>
  intro vs w
  rw[P2] at w
  cases w with
  | cons a b =>
   cases a
   exact .cons _ _ (ih _ b)
def AL{l:OpenLaw}{n:Nat}(hn:l.most=some n){P:Params}{h:Heap}{args:List WData}{vals:List Value}
  (b:l.row.toRowW.claim.pre args=true) (i:WellAll P h vals args) :
  ∃ a vs ns,vals=[Value.ref a]/\args=[WData.list (ns.map WData.int)]/\h.get? a=some { cls:=.type "list",data:=.seq vs.toArray }/\IntsAre vs ns/\ns.length<=n:=by
 have j:WShape.hasAll [] args [.list .int]=true:=(pre_splitW b).1
 have m:l.pre.holds [] { args:=args }=true:=(pre_splitW b).2
 obtain⟨d,r,rfl,u,p⟩:=hasAllW_cons j
 obtain rfl:=hasAllW_nil p
 obtain⟨xs,rfl,s⟩:=hasW_list u
 obtain⟨ns,rfl⟩:=items_int s
 have c:ns.length<=n:=by
  unfold OpenLaw.pre at m
  have f:(WTm.not (.lt (.lit (.int (n:Int))) (.len (.arg 0)))).holds [] { args:=[.list (ns.map .int)] }=true:=by
   have f:=(holds_andW m).1
   rw[hn] at f
   exact f
  have g:=condW_of f (w_not (w_lt w_lit (w_len_list (w_arg rfl))))
  rw[T0] at g
  refine Nat.le_of_not_lt λq=>?_
  have o:(n:Int)<((ns.length:Nat):Int):=by lia
  first
   |(rw[O4 o] at g;exact absurd g (by decide))
   |(simp at g;lia)
 cases i with
 | cons w1 w2 =>
  cases w2
  cases w1 with
  |list ho hall=>exact⟨_,_,ns,rfl,rfl,ho,NP ns _ hall,c⟩
def FK(l:OpenLaw)(args:List WData):l.row.toRowW.claim.post args (.bool true) args=true :=
 postW_of (r:=l.row.toRowW) (X:=(true == true))
  (show WShape.has [] (.bool true) .bool=true by first|rfl|decide|simp[WShape.has,WShape.arms,WShape.armsAll])
  (show(WTm.eq .res (.lit (.bool true))).value [] { args:=args,res:=some (.bool true),after:=args }=some (.bool (true == true)) from w_eq_bool (w_res rfl) w_lit) rfl
def attach_call{l:OpenLaw}{n:Nat}{q:Program}{c:List Str}{XP:(Str->Option Value)->Heap->Prop}{y:World->Heap->Prop}{d:DefRec}
  (hn:l.most=some n) (v:d.params.defaults=[])
  (call:∀(w:World)(s₀ b:Shared)(mg mb:Str->Option Value)(fa:Addr)(o:Obj)(pm p doc:Value)(a:Addr)(vs:List Value)(ns:List Int),
   Ground q c [] XP w s₀ mg mb b.heap->y w b.heap ->
   b.heap.get? fa=some o->o.data=.func (docDef d.name d.params d.body d.scope pm p doc)->b.heap.CodeRec p d.name->mg d.name=some (.ref fa) ->
   b.heap.get? a=some { cls:=.type "list",data:=.seq vs.toArray }->IntsAre vs ns->ns.length<=n->b.gens = #[] ->
   codeAny (model l.prog w) callerA (.call (.ref fa) ⟨[.ref a],[]⟩) (λr m=>r=.ok (.ret (.bool true))/\OldK b.heap m.heap/\m.os=b.os/\AllBare m.gens) b) :
  WalkO q c XP y l.row.toRowW d [] (λf vs=>PySem.call f vs):=by
 intro w s₀ b mg mb G Y fa o pm p doc C kV E hd s A x K args vals as i z B u F
 obtain rfl:C=.none:=Dflts.none A v
 obtain rfl:kV=.none:=Dflts.noKw A
 obtain⟨a,vs,ns,rfl,rfl,h,g,j⟩:=AL hn i u
 refine enter_call (codeAny_mono (call w s₀ b mg mb fa o pm p doc a vs ns G Y E (fd_plain hd) s x h g j K) λr m I=>?_)
 obtain⟨rfl,H,J,D⟩:=I
 exact⟨.inl ⟨.bool true,.bool true,[],rfl,λ_=>rfl,.bool true,FK l _,λ_=>⟨List.Pairwise.nil,λ_ hm=>(nomatch hm)⟩⟩,H,J,D⟩
section
variable{prog:Program}{w:World}{A:Around}{E:Value->Shared->Prop}{s:Shared}{K:Frag}
end
end Att
namespace L2
open PySem PySem.Spec PyProof.Rows
def yH:∀{vs:List Value}{ns:List Int},IntsAre vs ns->Vals (ns.map V.int) vs
 |_,_,.nil=>.nil
 |_,_,.cons n t h=>.cons ⟨t,rfl⟩ (yH h)
def Only(H:Hp):Prop:=∀ b,H b=none\/∃ o xs,H b=some (.frz o (.lst xs))
def GL{P:Program}{w:World}{K:Frag}{mg mb:Str->Option Value}{CX:CXT}{k:Nat}{fa a:Addr}{fd:FuncData}{x:Str}{sp:Sp}{c:Shared}{vs:List Value}{ns:List Int}
  (Q:K.In c.heap) (p:c.heap.Ns mainGlobals mg) (hb:c.heap.Ns builtinsNs mb) (L:∀ x:Str,x ≠ "__name__"->mb x=bootBuiltins x) (A:c.heap.NoLimit) (T:c.gens = #[])
  (ha:c.heap.get? a=some { cls:=.type "list",data:=.seq vs.toArray }) (hi:IntsAre vs ns) (S:ns.length<=sizeLine) (hr:Room k callerA)
  (F:∀ base:Heap,K.In base->base.Ns mainGlobals mg->FnOk P w K mg base CX k fa fd [x] sp) (l:∀(s:Shared)(u:Value),BindsTo s fd ⟨[u],[]⟩ [(x,u)])
  (I:∀ H:Hp,Only H->SqL K H a (ns.map V.int)->sp [.ref a] H (λv _=>v=.bl true) λ_ _ _=>False)
  (E:∀ H e g,CX [] H c (λ_ _ _=>False) e g->False) :
  codeAny (model P w) callerA (.call (.ref fa) ⟨[.ref a],[]⟩) (λr g=>r=.ok (.ret (.bool true))/\OldK c.heap g.heap/\g.os=c.os/\AllBare g.gens) c:=by
 have M:=yH hi
 have C:=hi.length
 -- from an abstract heap in which nothing but the script may be tracked
 have j:∀ H:Hp,Only H->SqL K H a (ns.map V.int)->HOk P w H c.heap->(∀ b,H b ≠ none->b=a)->(H a ≠ none->K.lookup a=none) ->
   codeAny (model P w) callerA (.call (.ref fa) ⟨[.ref a],[]⟩) (λr g=>r=.ok (.ret (.bool true))/\OldK c.heap g.heap/\g.os=c.os/\AllBare g.gens) c:=by
  intro H R Y hok N X
  have f:∀{b:Addr}{o:Obj},c.heap.get? b=some o->H b=none->(hidT c.heap H).get? b=some o:=λe n=>HR e n
  have J:∀{b:Addr}{o:Obj}{es:Array DictEntry}{ep:Nat},c.heap.get? b=some o->o.data=.dict es ep->H b=none:=λ{b o es ep} e d=>by
   cases q:H b with
   |none=>rfl
   | some u =>
    have G:b=a:=N b (by rw[q];simp)
    subst G
    rw[ha] at e;cases e
    have d':Data.seq vs.toArray _=Data.dict es ep:=d
    cases d'
  have i:∀{b:Addr}{m:Str->Option Value},c.heap.Ns b m->(hidT c.heap H).Ns b m:=λ{b m} ⟨o,es,ep,e,d,r⟩=>⟨o,es,ep,f e (J e d),d,r⟩
  have y:K.In (hidT c.heap H):=λb o e=>f (Q b o e) (by
   cases q:H b with
   |none=>rfl
   | some u =>
    have G:b=a:=N b (by rw[q];simp)
    subst G
    rw[X (by rw[q];simp)] at e;cases e)
  have Z:Mod K mg (hidT c.heap H):=⟨y,i p,⟨mb,i hb,L⟩,let ⟨W,h1,h2⟩:=A;⟨W,i h1,h2⟩⟩
  have U:Env0 P w K mg (hidT c.heap H) callerA [] c H:=⟨rfl,Z,λb o e=>xJ e,Nat.le_of_eq (RM _ _),trivial,λb hb=>absurd (show b∈([]:List Addr) from hb) (by simp),hok,.of_eq T⟩
  refine codeAny_mono ((F _ y (i p)).run callerA [] c H ⟨[.ref a],[]⟩ [.ref a] [.ref a] _ _ hr U (l c (.ref a)) (.cons rfl .nil) (I H R Y)) λr g h=>?_
  cases r with
  |error e=>exact(E H e g h).elim
  | ok fl =>
   cases fl with
   |next=>exact False.elim h
   |brk=>exact False.elim h
   |cont=>exact False.elim h
   | ret u =>
    obtain⟨v,H',os,bare,un,D,r',q⟩:=h
    have q':v=.bl true:=q
    subst q'
    obtain rfl:u=Value.bool true:=r'
    refine⟨rfl,OldK.of_keep λb o e=>?_,os,bare⟩
    cases q:H b with
    |none=>exact un.keep b o e q (by intro z;exact absurd (show b∈([]:List Addr) from z) (by simp)) (by simp)
    | some u =>
     rcases R b with z|⟨ob,xs,z⟩
     ·rw[q] at z;cases z
     ·have z2:=un.frzs b ob _ z
      obtain⟨O,_⟩:=hok b _ z
      obtain⟨e2,_⟩:=D b _ z2
      rw[e] at O;cases O
      exact e2
 cases hk:K.lookup a with
 | some o =>
  -- the script is one of the module's own objects
  have e:=Q a o hk
  rw[ha] at e
  cases e
  refine j (λ_=>none) (λ_=>.inl rfl) (.inr ⟨_,vs.toArray,_,hk,rfl,rfl,rfl,by rw[S2,C];exact S,by simpa using M⟩) (λb u z=>by have B:(none:Option HO)=some u:=z;cases B) (λb z=>absurd rfl z) λz=>absurd rfl z
 | none =>
  refine j (λb=>if b=a then some (.frz { cls:=.type "list",data:=.seq vs.toArray } (.lst (ns.map V.int))) else none) (λb=>?_) (.inl (.inr ⟨{ cls:=.type "list",data:=.seq vs.toArray },t0 rfl⟩)) (λb u z=>?_) (λb z=>?_) λ_=>hk
  ·by_cases hb:b=a
   ·exact .inr ⟨_,_,t0 hb⟩
   ·exact .inl (y0 hb)
  ·by_cases hb:b=a
   ·have B:=(t0 hb).symm.trans z
    cases B
    subst hb
    exact⟨ha,by rw[T0];exact S,vs,_,M,ha⟩
   ·have B:=(y0 hb).symm.trans z
    cases B
  ·by_cases hb:b=a
   ·exact hb
   ·exact absurd (y0 hb) z
abbrev KOf{K:Frag}{h:Heap}(_:K.In h):Frag:=K
def walk_of{l:PySem.W.OpenLaw}{n k:Nat}{q:Program}{j:List Str}{XP:(Str->Option Value)->Heap->Prop}{E:World->Heap->Prop}{d:DefRec}{K:Params->Frag}{CX:World->CXT}{sp:World->Sp}{x:Str}
  (hn:l.most=some n) (r:n<=sizeLine) (A:d.params.defaults=[]) (O:Room k callerA)
  (J:∀(w:World)(h:Heap),E w h->(K w.params).In h)
  (F:∀(w:World)(mg:Str->Option Value)(fa:Addr)(h:Heap),(K w.params).In h->h.Ns mainGlobals mg->mg d.name=some (.ref fa) ->
   ∃ fd:FuncData,(∀(s:Shared)(u:Value),BindsTo s fd ⟨[u],[]⟩ [(x,u)]) /\
    ∀ base:Heap,(K w.params).In base->base.Ns mainGlobals mg->FnOk l.prog w (K w.params) mg base (CX w) k fa fd [x] (sp w))
  (y:∀(w:World)(H:Hp)(a:Addr)(ns:List Int),ns.length<=n->Only H->SqL (K w.params) H a (ns.map V.int)->sp w [.ref a] H (λv _=>v=.bl true) λ_ _ _=>False)
  (z:∀(w:World)(H:Hp)(s:Shared)(e:Value)(B:Shared),CX w [] H s (λ_ _ _=>False) e B->False) :
  PySem.W.WalkO q j XP E l.row.toRowW d [] (λf vs=>PySem.call f vs):=by
 refine Att.attach_call hn A λw s₀ p mg mb fa o pm R doc a vs ns G Y Q hd I C m i c P=>?_
 have D:=J w _ Y
 obtain⟨fd,hb,N⟩:=F w mg fa _ D G.T.g C
 exact GL D G.T.g G.T.b G.T.builtins G.T.nolimit P m i (T2 c r) O N hb (λH M L=>y w H a ns c M L) λH e B=>z w H p e B
end L2
/- THE LAST THEOREM (shape; LID, My.* are yours):
  My.Adr: a structure of the addresses that your layer names (classes,functions);My.Txt K t: a structure (Prop) of the equations over K;
  My.txt_mk:{K} {implicit addresses ..} (e1:nsIn K mainGlobals "law" = some (some (.ref f))) (e2:K.lookup f=some ⟨oc,od,.func (fnOf "law" "law" params body scope dV kV doc pm an cdv ct),sl⟩) (e3:codeIn K cdv "law" = true) .. : ∃ t,My.Txt K t
set_option maxRecDepth 100000 in
set_option maxHeartbeats 0 in
def PySem.Challenge.cw_LID_holds : PySem.Challenge.rw_LID.Holds := by
 w_on;o_law;k_head;(case hw=>w_witness2)
 k_fill
 refine L2.walk_of (l:=PySem.Challenge.rw_LID) (n:=63) (k:=40) (x:="script") (CX:=λw=>..) (sp:=λ_=>My.sp_law) rfl (by decide) rfl ⟨rfl,by decide,by decide⟩ (λw h Y=>PySem.W.kIn_of Y) ?F ?S ?C
 case F =>
  intro w mg fa h KX G hmg
  have T:∃ t,My.Txt (L2.KOf KX) t:=by
   dsimp only[L2.KOf]                          -- K must stand as «<heap const> w.params» for k_is
   refine' My.txt_mk ?e1 ?e2 ?e3 ..
   (case e1=>PySem.W.k_is)                    -- in the order: a name -> its address -> its object -> its parts
   (case e2=>PySem.W.k_is)
   ..
  obtain⟨t,T⟩:=T
  have e0:=hmg.symm.trans (mg_of KX G T.law)
  cases e0                                       -- fa is the law's own address
  exact⟨_,λs u=>.of_eq rfl,λbase kb nb=>My.law_fn T kb nb⟩     -- if «.of_eq rfl» comes too early: refine'⟨_,?b,λbase kb nb=>My.law_fn T kb nb⟩;exact λs u=>.of_eq rfl
 case S=>exact λw H a ns hl hO hS=>..
 case C=>exact ..
(the tactic k_is has no namespace: write k_is) -/
namespace L2
open PySem PySem.Spec PyProof.Rows
def l8(s:Stmt)(j:Nat):Stmt:=match s with
 | .ClassDef _ _ _ body _ _ _ _ _ _ _=>body.getD j (.Pass ⟨0,0,0,0⟩)
 |_=>.Pass ⟨0,0,0,0⟩
def z4(s:Stmt):Arguments:=match s with
 | .FunctionDef _ a _ _ _ _ _ _ _ _=>a
 |_=>{ posonlyargs:=[],args:=[],vararg:=none,kwonlyargs:=[],kw_defaults:=[],kwarg:=none,defaults:=[] }
def m4(s:Stmt):List Stmt:=match s with
 | .FunctionDef _ _ b _ _ _ _ _ _ _=>b
 |_=>[]
def L0(s:Stmt):Scope:=match s with
 | .FunctionDef _ _ _ _ _ _ sc _ _ _=>sc
 |_=>{ kind:=.function,names:=[],isGenerator:=false,isCoroutine:=false }
abbrev CX0:CXT:=λ_ _ _ _ _ _=>False
abbrev E0:XK:=λ_ _ _=>False
def KA{X:Cx}:L7 CX0 X E0:=λ_ _ _ _ _ _ _ h=>h.elim
structure Fun(K:Frag)(x qual:Str)(st:Stmt)(f:Addr)(fd:FuncData):Prop where
 ex:∃(oc:Value)(od:Option Addr)(kV doc pm:Value)(an:Option Addr)(cdv ct:Value)(osl:Array (Option Value)),
  fd=fnOf x qual (z4 st) (m4 st) (L0 st) .none kV doc pm an cdv ct/\K.lookup f=some ⟨oc,od,.func fd,osl⟩/\codeIn K cdv qual=true
 kp:keepIn K (.ref f)=true
section
variable{P:Program}{w:World}{K:Frag}{mg:Str->Option Value}{base:Heap}
def Fun.ok{x qual:Str}{st:Stmt}{f:Addr}{fd:FuncData}{N ps:List Str}{k:Nat}{sp:Sp}(F:Fun K x qual st f fd)(S:FnScope N ps (L0 st))(len:∀ vs H Q E,sp vs H Q E->vs.length=ps.length)
  (a:∀(cdv:Value)(A:Around)(outer:List Env)(s:Shared)(H:Hp)(vs:List V)(Q:VK)(E:XK),Room k (A.deeper (envOfC qual (L0 st) s.heap.objs.size f cdv))->sp vs H Q E ->
   ∃ t,PSs (cxOf CX0 P w K mg base N qual (L0 st) f cdv A outer s H E).nox (m4 st) t/\t { nx:=λ_ H'=>Q .non H',rt:=Q } (start N vs) H):FnOk P w K mg base CX0 (k+1) f fd ps sp:=by
 obtain⟨oc,od,kV,doc,pm,an,cdv,ct,osl,rfl,g,c⟩:=F.ex
 refine iF g c S len λA outer s H vs Q E d b=>?_
 obtain⟨t,h,q⟩:=a cdv A outer s H vs Q E d b
 exact⟨t,h.nox,q⟩
def Fun.binds{x qual:Str}{st:Stmt}{f:Addr}{fd:FuncData}{ps:List Str}(F:Fun K x qual st f fd)
  (h:∀(kV doc pm:Value)(an:Option Addr)(cdv ct:Value)(us:List Value),us.length=ps.length->bindArgs (fnOf x qual (z4 st) (m4 st) (L0 st) .none kV doc pm an cdv ct) ⟨us,[]⟩=pure (ps.zip us)):Binds K fd ps []:=by
 obtain⟨oc,od,kV,doc,pm,an,cdv,ct,osl,rfl,b,a⟩:=F.ex
 exact .all (h kV doc pm an cdv ct)
def XG{x qual:Str}{st:Stmt}{f:Addr}{oc:Value}{od an:Option Addr}{osl:Array (Option Value)}{kV doc pm cdv ct:Value}(l:K.lookup f=some ⟨oc,od,.func (fnOf x qual (z4 st) (m4 st) (L0 st) .none kV doc pm an cdv ct),osl⟩)
  (c:codeIn K cdv qual=true) (k:keepIn K (.ref f)=true):Fun K x qual st f (fnOf x qual (z4 st) (m4 st) (L0 st) .none kV doc pm an cdv ct):=⟨⟨oc,od,kV,doc,pm,an,cdv,ct,osl,rfl,l,c⟩,k⟩
end
def Q6{A:Around}{k:Nat}(a:Room k A):A.units+1<cLine:=mB (Nat.add_le_add_left (by decide:1<=64) _) a.units
def NB{n:Nat}(h:n<=1000):n<sizeLine:=mB h (by decide)
section
variable{X:Cx}
def pv(i:Nat){x:Str}{a:Pos}(c:X.N[i]?=some x:=by rfl)(d:Vis X.env.scope x:=by first|exact Or.inl rfl|exact Or.inr (Or.inl rfl)|exact Or.inr (Or.inr rfl))(hd:(x == ("__debug__" : Str))=false:=by decide)
  (b:(x == ("__classdict__" : Str))=false:=by decide):PE X (.Name x a) (tVar i):=oK c d hd b
end
def iteF{A B:Prop}(h:B):if false=true then A else B:=by
 rw[y0 Y1]
 exact h
def iteT{A B:Prop}(h:A):if true=true then A else B:=by
 rw[t0 rfl]
 exact h
def Same(H H':Hp):Prop:=∀ b o,H b=some o->H' b=some o
def Same.refl(H:Hp):Same H H:=λ_ _ h=>h
def Same.trans{H d H2:Hp}(a:Same H d)(b:Same d H2):Same H H2:=λc o h=>b c o (a c o h)
def Same.seq{K:Frag}{H H':Hp}{a:Addr}{xs:List V}(e:Same H H')(h:SqL K H a xs):SqL K H' a xs:=by
 rcases h with (h|⟨o,h⟩)|h
 ·exact .inl (.inl (e _ _ h))
 ·exact .inl (.inr ⟨o,e _ _ h⟩)
 ·exact .inr h
section
variable{X:Cx}
def WM:M2 X (.builtin "len") (λxs H Q=>∃ a kvs,xs=[V.ref a]/\H a=some (.dK kvs)/\Q (.int kvs.length) H):=by
 intro pins s σ H xs us Q I r h
 obtain⟨a,kvs,rfl,ha,q⟩:=h
 obtain⟨u,rfl,b⟩:=Y4 r
 cases b
 exact GN I (.inl ha) λt d c=>⟨.int kvs.length,H,c,⟨t,rfl⟩,q⟩
end
section
variable{κ:Type} [DecidableEq κ]
end
def clos(env:Env):List (Str × NameKind)->List (Str × Addr)->List (Str × Addr)
 |[],cs=>cs
 |(n,k)::r,cs=>if k == NameKind.free then (match env.cells.lookup n with|some a=>clos env r ((n,a)::cs)|none=>clos env r cs) else clos env r cs
def CI{env:Env}{sc:Scope}(h:∀ n,(n,NameKind.free)∈sc.names->∃ a,env.cells.lookup n=some a):closureFor sc env=pure (clos env sc.names []):=by
 have all:∀(l:List (Str × NameKind))(cs:List (Str × Addr)),(∀ n,(n,NameKind.free)∈l->∃ a,env.cells.lookup n=some a) ->
   (forIn l cs λ(x:Str × NameKind)(cs:List (Str × Addr))=>match x with|(name,kind)=>if kind == NameKind.free then (do let a ← cellOf env name;pure (ForInStep.yield ((name,a)::cs))) else pure (ForInStep.yield cs))=(pure (clos env l cs):Sem _):=by
  intro l
  induction l with
  |nil=>intro cs _;rfl
  | cons p r ih =>
   intro cs c
   obtain⟨n,k⟩:=p
   rw[List.forIn_cons]
   unfold clos
   dsimp only
   cases hk:(k == NameKind.free) with
   | false =>
    simp only[Bool.false_eq_true,if_false,pure_bind]
    exact ih cs λm hm=>c m (S3 _ hm)
   | true =>
    have f:k=NameKind.free:=by simpa using hk
    subst f
    obtain⟨a,ha⟩:=c n T3
    have d:cellOf env n=pure a:=by unfold cellOf;rw[ha]
    simp only[if_true,d,pure_bind,ha]
    exact ih _ λm hm=>c m (S3 _ hm)
 have e:=all sc.names [] h
 unfold closureFor
 refine Eq.trans (b:=(pure (clos env sc.names []):Sem _) >>= λcs=>pure cs) ?_ (pure_bind _ _)
 exact congrArg (λz:Sem (List (Str × Addr))=>z >>= λcs=>pure cs) e
def eB{env:Env}{x:Str}{c:Addr}:∀{l:List (Str × NameKind)}{cs:List (Str × Addr)},(clos env l cs).lookup x=some c->env.cells.lookup x=some c\/cs.lookup x=some c
 |[],cs,h=>.inr h
 | (n,k)::r,cs,h=>by
  unfold clos at h
  by_cases hk:(k == NameKind.free)=true
  ·rw [t0 hk] at h
   cases ha:env.cells.lookup n with
   |none=>rw[ha] at h;exact eB h
   | some a =>
    rw[ha] at h
    rcases eB h with e|e
    ·exact .inl e
    ·rw[M4] at e
     cases hx:(x == n) with
     | true =>
      rw[hx] at e
      have:x=n:=by simpa using hx
      subst this
      cases e
      exact .inl ha
     |false=>rw[hx] at e;exact .inr e
  ·rw[y0 hk] at h
   exact eB h
def vB{env:Env}{x:Str}:∀{l:List (Str × NameKind)}{cs:List (Str × Addr)},(∃ c,cs.lookup x=some c)->∃ c,(clos env l cs).lookup x=some c
 |[],cs,h=>h
 | (n,k)::r,cs,h=>by
  unfold clos
  by_cases hk:(k == NameKind.free)=true
  ·rw[t0 hk]
   cases ha:env.cells.lookup n with
   |none=>exact vB h
   | some a =>
    refine vB ?_
    rw[M4]
    cases hx:(x == n) with
    |true=>exact⟨_,rfl⟩
    |false=>exact h
  ·rw[y0 hk]
   exact vB h
def X9{env:Env}{x:Str}(h:∃ a,env.cells.lookup x=some a):∀{l:List (Str × NameKind)}{cs:List (Str × Addr)},(x,NameKind.free)∈l->∃ c,(clos env l cs).lookup x=some c
 |[],_,hm=>absurd hm (by simp)
 | (n,k)::r,cs,hm=>by
  rcases Z0.mp hm with e|hm
  ·cases e
   obtain⟨a,ha⟩:=h
   unfold clos
   rw[t0 (by rfl),ha]
   refine vB ⟨a,?_⟩
   rw[M4]
   simp
  ·unfold clos
   by_cases hk:(k == NameKind.free)=true
   ·rw[t0 hk]
    cases ha:env.cells.lookup n with
    |none=>exact X9 h hm
    |some a=>exact X9 h hm
   ·rw[y0 hk]
    exact X9 h hm
def rE{env:Env}{x:Str}:∀{names:List (Str × NameKind)},(∀ y∈names,y.2 ≠ .cell) ->
  ((names.map λ(n,k)=>if (k == NameKind.free && env.scope.kind == .function && env.kindOf n == some .cell) then (n,NameKind.cell) else (n,k)).lookup x=some .cell ∨
   (names.map λ(n,k)=>if (k == NameKind.free && env.scope.kind == .function && env.kindOf n == some .cell) then (n,NameKind.cell) else (n,k)).lookup x=some .free)->names.lookup x=some .free
 |[],_,h=>by rcases h with h|h <;> simp at h
 | (n,k)::r,hc,h=>by
  have a:=@rE env x r λy c=>hc y (S3 _ c)
  rw[M4]
  simp only[P2] at h
  by_cases hq:(k == NameKind.free && env.scope.kind == .function && env.kindOf n == some .cell)=true
  ·rw[t0 hq] at h
   have b:k=NameKind.free:=by
    have:=hq;simp only[S5] at this;simpa using this.1.1
   subst b
   cases hx:(x == n) with
   |true=>rfl
   |false=>simp only[M4,hx] at h;exact a h
  ·rw[y0 hq] at h
   cases hx:(x == n) with
   | true =>
    simp only[M4,hx] at h
    rcases h with h|h
    ·cases h;exact absurd rfl (hc (n,NameKind.cell) T3)
    ·exact h
   |false=>simp only[M4,hx] at h;exact a h
def YE{env:Env}{x:Str}:∀{names:List (Str × NameKind)},names.lookup x=some .free ->
  ((names.map λ(n,k)=>if (k == NameKind.free && env.scope.kind == .function && env.kindOf n == some .cell) then (n,NameKind.cell) else (n,k)).lookup x=some .cell ∨
   (names.map λ(n,k)=>if (k == NameKind.free && env.scope.kind == .function && env.kindOf n == some .cell) then (n,NameKind.cell) else (n,k)).lookup x=some .free)
 |[],h=>by simp at h
 | (n,k)::r,h=>by
  have a:=@YE env x r
  rw[M4] at h
  simp only[P2]
  by_cases hq:(k == NameKind.free && env.scope.kind == .function && env.kindOf n == some .cell)=true
  ·rw[t0 hq]
   cases hx:(x == n) with
   |true=>left;simp[M4,hx]
   |false=>rw[hx] at h;simp only[M4,hx];exact a h
  ·rw[y0 hq]
   cases hx:(x == n) with
   |true=>rw[hx] at h;right;simp only[M4,hx];exact h
   |false=>rw[hx] at h;simp only[M4,hx];exact a h
def Cx.comp(X:Cx)(N:List Str)(sc:Scope)(C:Addr)(s0:Shared)(H0:Hp)(ex:List Addr):Cx where
 prog:=X.prog
 w:=X.w
 K:=X.K
 mg:=X.mg
 base:=X.base
 A:=X.A
 N:=N
 s₀:=s0
 H₀:=H0
 env:=compEnvC sc (clos X.env sc.names []) C X.env
 outer:=X.stack
 stack:=X.stack
 ex:=ex
 fn:=λ_=>false
 calm:=X.calm
 pn:=[]
 xe:=λ_ _=>False
def pick(src:List (Option Nat))(σ:St):St:=src.map λo=>match o with|some j=>(σ[j]?).getD none|none=>none
structure LcOk(X:Cx)(N:List Str)(sc:Scope)(src:List (Option Nat)):Prop where
 kind:sc.kind=.function
 nocell:∀ y∈sc.names,y.2 ≠ .cell
 own:∀ y∈sc.names,y.2=.local->sc.names.lookup y.1=some .local
 outs:∀ y∈sc.names,y.2=.free->X.env.kindOf y.1=some .cell\/X.env.kindOf y.1=some .free
 len:src.length=N.length
 from':∀(i j:Nat),src[i]?=some (some j)->∃ x,N[i]?=some x/\X.N[j]?=some x/\sc.names.lookup x=some .free
def LcOk.clo{X:Cx}{N:List Str}{sc:Scope}{src:List (Option Nat)}(L:LcOk X N sc src)(ok:X.Ok):closureFor sc X.env=pure (clos X.env sc.names []) :=
 CI λn hn=>ok.has n (L.outs (n,.free) hn rfl)
def nO{X:Cx}{pins:List (Addr × Obj)}{σ:St}{H:Hp}{s:Shared}{N:List Str}{sc:Scope}{src:List (Option Nat)}{fp:List Addr}{A:Heap}{t':Nat}
  (L:LcOk X N sc src) (I:Inv X pins σ H s) (hf:∀ b∈fp,FpOk X pins H b) (f:∀ b∈fp,b<s.heap.objs.size)
  (hn:A.Ns s.heap.objs.size λ_=>none) (d:∀ b o,s.heap.get? b=some o->A.get? b=some o) :
  Inv (X.comp N sc s.heap.objs.size s H fp) [] (pick src σ) H { s with heap:=A,toks:=t' }:=by
 have look:∀{x c},(clos X.env sc.names []).lookup x=some c->X.env.cells.lookup x=some c:=λ{x c} e=>by
  rcases eB e with z|z
  ·exact z
  ·simp at z
 refine⟨⟨I.ok.mod,L.kind,I.ok.glob,I.ok.blt,N0 _,λx y c h e2=>?_,λx K=>?_,λx c z _=>?_,I.ok.hd,I.ok.frames,.inl rfl,λb hb=>⟨?_,λx c e=>?_⟩,I.bs,T2 I.ok.bsz I.sz,λb o e hb=>?_,λb hb z=>?_,I.stack,I.stkFree⟩,
  rfl,I.bare,Un.kept d,⟨_,hn,λi x v h e2 P=>?_⟩,λx c e=>?_,I.hok.fresh (N0 _),λx c e=>I.freeC x c (look e),λp G=>?_,I.hok.kept d,?_⟩
 ·exact I.ok.inj x y c (look h) (look e2)
 ·have q:=rE (env:=X.env) (x:=x) L.nocell K
  exact X9 (I.ok.has x (L.outs (x,.free) (PySem.mem_of_lookup q) rfl)) (PySem.mem_of_lookup q)
 ·exact Bool.noConfusion z
 ·exact O1 (f b hb)
 ·exact(hf b hb).2.2.2.2.1 x c (look e)
 ·rcases(hf b hb).2.2.2.1 with z|z
  ·exact I.ok.noex b o e z
  ·exact absurd (E4 (Q0 e) (T2 I.ok.bsz z)) (S4 _)
 ·rcases Z0.mp (I.stkSub b z) with q|q
  ·exact(hf b hb).2.1 q
  ·exact(hf b hb).2.2.1 q
 ·unfold pick at e2
  rw[o1] at e2
  cases q:src[i]? with
  |none=>rw[q] at e2;cases e2
  | some o =>
   rw[q] at e2
   cases o with
   |none=>cases e2
   | some j =>
    obtain⟨y,C,F,g⟩:=L.from' i j q
    have w:N[i]?=some x:=h
    rw[w] at C
    cases C
    have J : σ[j]?=some (some v):=by
     cases q2 : σ[j]? with
     |none=>simp[q2] at e2
     |some z=>simp[q2] at e2;rw[e2]
    have f:=L.outs (x,.free) (PySem.mem_of_lookup g) rfl
    have n:Vis X.env.scope x:=by
     rcases f with z|z
     ·exact .inr (.inl z)
     ·exact .inr (.inr z)
    obtain⟨m,_,M⟩:=I.loc
    obtain⟨u,r,l⟩:=M j x v F J n
    refine⟨u,r,.inr ⟨?_,?_⟩⟩
    ·exact YE (env:=X.env) g
    ·rcases l with ⟨z,_⟩|⟨_,c,E,oc,a,hd⟩
     ·rcases f with D|D <;> (rw[D] at z;cases z)
     ·obtain⟨O,B⟩:=X9 (env:=X.env) ⟨c,E⟩ (PySem.mem_of_lookup g) (cs:=[])
      have:=look B
      rw[E] at this;cases this
      exact⟨c,B,oc,d c oc a,hd⟩
 ·obtain⟨v,oc,a,hd⟩:=I.cell x c (look e)
  exact⟨v,oc,d c oc a,hd⟩
 ·exact absurd (show p∈([]:List (Addr × Obj)) from G) (by simp)
 ·show(pick src σ).length=N.length
  unfold pick
  rw[T0]
  exact L.len
def PIf(X:Cx)(ifs:List Expr)(t:TT):Prop :=
 ∀(pins:List (Addr × Obj))(s:Shared)(σ:St)(H:Hp)(Q:Bool->Hp->Prop),Inv X pins σ H s->t σ H Q ->
  wpAny (model X.prog X.w) X.A (forIn ifs true λc r=>if r=true then do let ok ← isTrue c X.env (eval c X.env);pure (ForInStep.yield ok) else pure (ForInStep.yield r)) (TP X pins σ Q) X.xe s
def tYes:TT:=λ_ H Q=>Q true H
def u5{X:Cx}:PIf X [] tYes:=λ_ _ _ H _ I h=>wpAny_tests_nil ⟨H,I,h⟩
def VQ{X:Cx}{c:Expr}{t:TT}(h:PT X c t):PIf X [c] t:=λpins s σ H Q I q=>wpAny_tests_one (h pins s σ H Q I q)
abbrev LW:=Nat->Nat->List V->St->Hp->Prop
def E9(J:It)(g:TG)(tif:TT)(te:TE)(acc:Addr)(Qd:List V->Hp->Prop)(W:LW):Prop:=∀(i m:Nat)(ys:List V)(σ:St)(H:Hp),W i m ys σ H->H acc=some (.lst ys)/\((J.stop i H/\Qd ys H)\/(J.go i H /\
 ∃ Nx:List V->St->Hp->Prop,(∀ ys' σ' H',Nx ys' σ' H'->∃ m',m'<m/\W (i+1) m' ys' σ' H')/\∀ x H2,J.yld i H x H2 ->
 g x σ H2 λσ3 H3=>tif σ3 H3 λb H4=>if b=true then te σ3 H4 λy H5=>H5 acc=some (.lst ys)/\ys.length<sizeLine/\Nx (ys++[y]) σ3 (upd H5 acc (.lst (ys++[y]))) else Nx ys σ3 H4))
def zI{X:Cx}{tg q B:Expr}{v:List Expr}{sc:Scope}{L:Pos}{J:It}{fp:List Addr}{it:Addr}{tn:Nat->Heap->Prop}{g:TG}{M:TT}{te:TE}{a:Addr}{Qd:List V->Hp->Prop}{W:LW}{R:Result->Shared->Prop}
  (T:Turn X.prog X.w X.K tg J fp it tn) (hc:X.calm=true) (p:∀ e s,¬ X.xe e s) (hg:PG X tg g) (Z:PIf X v M) (he:PE X B te)
  (E:E9 J g M te a Qd W) (hR:∀ ys σ H s,Inv X [] σ H s->Qd ys H->R (.ok .next) s)
  {i m:Nat} {ys:List V} {σ:St} {H:Hp} {s:Shared} (I:Inv X [] σ H s) (st:tn i s.heap) (hf:∀ b∈fp,FpOk X [] H b) (w:W i m ys σ H) :
  codeAny (model X.prog X.w) X.A (.compLoop (.ListComp B [⟨tg,q,v,0⟩] sc L) 0 (.ref it) (.ref a) X.env) R s:=by
 have h:∀{H':Hp},(∀ b∈fp,H' b=none)->∀ b∈fp,FpOk X [] H' b:=λhn b hb=>⟨hn b hb,(hf b hb).2⟩
 refine codeAny_loop rfl (λn j=>∃ i ys f H',Inv X [] f H' j/\tn i j.heap/\(∀ b∈fp,H' b=none)/\W i n ys f H') ?_ m ⟨i,ys,σ,H,I,st,λb hb=>(hf b hb).1,w⟩
 rintro n s1 ⟨i,ys,c,Y,I1,Q,F,w1⟩
 show wpAny _ X.A ((compTurn (.ListComp B [⟨tg,q,v,0⟩] sc L) 0 (.ref it) (.ref a) X.env).onRaise (λx=>do noteFrame x X.env;theTreesLotGoes x)) _ _ s1
 refine wpAny_noted ?_
 rw[compTurn_list]
 refine C0 (wpAny_standAt (C0 ?_))
 obtain⟨a2,⟨stop,qd⟩|⟨go,Nx,O,step⟩⟩:=E i n ys c Y w1
 ·refine thn (T.done X rfl rfl rfl hc i [] s1 c Y _ I1 (h F) Q stop) λr s2 ⟨hr,I2⟩=>?_
  subst hr
  exact M0 (hR ys c Y s2 I2 qd)
 ·refine thn (T.item X rfl rfl rfl hc i [] s1 c Y _ I1 (h F) Q go) λr s2 ⟨u,hr,h2⟩=>?_
  subst hr
  refine C0 (thn h2 λ_ s3 ⟨x,H3,I3,r3,y3,C,a0⟩=>?_)
  have a1:=I3.pinned (h a0) (T.obj _ _ C)
  refine C0 (n4 (hg _ s3 c H3 x u _ a1 r3 (step x H3 y3)) (λ_ s4 ⟨D,H4,I4,q4⟩=>?_) λe j z=>(p e j z).elim)
  have back:∀{l:St}{G:Hp}{P:Shared}{zs:List V},Inv X ([]++jA fp s3.heap) l G P->(∃ S,S<n/\W (i+1) S zs l G)->∃ m,m<n/\∃ i ys f H',Inv X [] f H' P/\tn i P.heap/\(∀ b∈fp,H' b=none)/\W i m ys f H':=λ{l G P zs} N w7=>by
   obtain⟨S,hm,w7⟩:=w7
   refine⟨S,hm,i+1,zs,l,G,N.unpinned,T.keep _ _ _ C λb hb o e=>(N.pin (b,o) (K3 _ (K3 _ (GB hb e)))).1,λb hb=>?_,w7⟩
   obtain⟨o,e,d⟩:=T.obj _ _ C b hb
   exact(N.pin (b,o) (K3 _ (K3 _ (GB hb e)))).2.1
  refine C0 (n4 (Z _ s4 D H4 _ I4 q4) (λb s5 ⟨H5,I5,U⟩=>?_) λe j z=>(p e j z).elim)
  cases b with
  | false =>
   rw[y0 Y1] at U
   exact M0 ⟨rfl,back I5 (O _ _ _ U)⟩
  | true =>
   rw[t0 rfl] at U
   refine C0 (C0 (n4 (he _ s5 D H5 _ I5 U) (λyv s6 ⟨y,H6,I6,r6,a6,l6,w6⟩=>?_) λe j z=>(p e j z).elim))
   have ap:=z6 (X:=X) _ s6 D H6 (.ref a) [y] (.ref a) [yv] (λ_ H'=>H'=upd H6 a (.lst (ys++[y]))) I6 rfl (.cons r6 .nil) ⟨a,ys,y,rfl,rfl,a6,l6,rfl⟩
   refine C0 (n4 ap (λ_ P ⟨v7,G,N,_,e7⟩=>?_) λe j z=>(p e j z).elim)
   subst e7
   exact M0 (M0 ⟨rfl,back N (O _ _ _ w6)⟩)
def tLC(src:List (Option Nat))(wi:TI)(g:TG)(tif:TT)(te:TE):TE:=λσ H Q=>wi σ H λJ H1=>∀ acc,H1 acc=none->∃ W:LW,(∃ m,W 0 m [] (pick src σ) (upd H1 acc (.lst [])))/\E9 J g tif te acc (λ_ H'=>Q (.ref acc) H') W
section
variable{X:Cx}{N:List Str}{tg iter elt:Expr}{ifs:List Expr}{sc:Scope}{src:List (Option Nat)}{wi:TI}{g:TG}{tif:TT}{te:TE}{pos:Pos}
def KO(Y:X.calm=true)(L:LcOk X N sc src)(hg:∀ C s0 r ex,PG (X.comp N sc C s0 r ex) tg g)(H:∀ C s0 r ex,PIf (X.comp N sc C s0 r ex) ifs tif)(he:∀ C s0 r ex,PE (X.comp N sc C s0 r ex) elt te)
  {pins:List (Addr × Obj)} {d:Shared} {σ:St} {H3:Hp} {Q:VK} (j:Inv X pins σ H3 d) {it a:Addr} {fp:List Addr} {J:It} {tn:Nat->Heap->Prop} (T:Turn X.prog X.w X.K tg J fp it tn) (E:tn 0 d.heap) (l:∀ b∈fp,FpOk X pins H3 b)
  {W:LW} {U:Nat} (w0:W 0 U [] (pick src σ) H3) (u:E9 J g tif te a (λ_ H'=>Q (.ref a) H') W) (use:Option (Value->Sem Unit)) (P:Value->Shared->Prop)
  (Z:∀ C H' f m,Inv X pins σ H' f->Q (.ref a) H'->f.heap.Ns C m->H' C=none->C ≠ X.env.locals->(C∈X.ex\/X.s₀.heap.objs.size<=C)->(∀ x c,X.env.cells.lookup x=some c->c ≠ C)->(∀ p∈X.pn++pins,p.1 ≠ C) ->
   compPost (model X.prog X.w) X.A X.xe use P (.ref a) C (.ok .next) f) :
  wpAny (model X.prog X.w) X.A (newFunctionEnv sc X.env.globals (clos X.env sc.names []) [] X.env.qual none .none (some X.env)) (λh F =>
    codeAny (model X.prog X.w) X.A (.compStart (.ListComp elt [⟨tg,iter,ifs,0⟩] sc pos) 0 (.ref it) (.ref a) { h with scope:=relabel sc X.env }) (compPost (model X.prog X.w) X.A X.xe use P (.ref a) h.locals) F) X.xe d:=by
 refine wpAny_newFunctionEnv L.nocell (by intro y hy;simp at hy) (λM n q=>?_) L.kind
 have O:∀ b∈fp,b<d.heap.objs.size:=λb hb=>by
  obtain⟨o,R,_⟩:=T.obj _ _ E b hb
  exact Q0 R
 have B:∀ b o,d.heap.get? b=some o->M.get? b=some o:=λb o e=>q.extBut b o (O1 (Q0 e)) (S1 _ e)
 have G:=nO (t':=d.toks+([]:List (Str × Value)).length) L j l O (by simpa using n) B
 have s:tn 0 M:=T.keep _ _ _ E λb _ o e=>B b o e
 have f4:∀ b∈fp,FpOk (X.comp N sc d.heap.objs.size d H3 fp) [] H3 b:=λb hb =>
  ⟨(l b hb).1,(G.ok.exf b hb).1,G.ok.exfs b hb,.inl hb,(G.ok.exf b hb).2,λp I=>absurd (show p∈([]:List (Addr × Obj)) from I) (by simp)⟩
 have fin:∀(ys:List V) D H' f,Inv (X.comp N sc d.heap.objs.size d H3 fp) [] D H' f->Q (.ref a) H'->compPost (model X.prog X.w) X.A X.xe use P (.ref a) d.heap.objs.size (.ok .next) f:=λys D H' f i S=>by
  have Jo:Inv X pins σ H' f:=j.call' (ch:=fp) i.os i.base i.hok i.bare λb hb=>⟨(l b hb).2.2.2.1,(l b hb).2.1,(l b hb).2.2.2.2.1,(l b hb).2.2.2.2.2⟩
  obtain⟨m,hn,_⟩:=i.loc
  refine Z _ H' f m Jo S hn i.free (Nat.ne_of_gt j.lt) (.inr j.sz) (λx c e z=>?_) λp I z=>?_
  ·obtain⟨v,o,R,_⟩:=j.cell x c e
   exact absurd (Q0 R) (by rw[z];exact S4 _)
  ·exact absurd (Q0 (j.pin p I).1) (by rw[z];exact S4 _)
 have loop:codeAny (model X.prog X.w) X.A (.compLoop (.ListComp elt [⟨tg,iter,ifs,0⟩] sc pos) 0 (.ref it) (.ref a) (X.comp N sc d.heap.objs.size d H3 fp).env)
   (compPost (model X.prog X.w) X.A X.xe use P (.ref a) d.heap.objs.size) { d with heap:=M,toks:=d.toks+([]:List (Str × Value)).length } :=
  zI (X:=X.comp N sc d.heap.objs.size d H3 fp) T Y (λ_ _ z=>z) (hg _ _ _ _) (H _ _ _ _) (he _ _ _ _) u fin G s f4 w0
 exact codeAny_compStart_list loop (T.self _ 0 _ _ _ s loop)
def zG(F:X.calm=true)(L:LcOk X N sc src)(hi:PI X tg iter wi)(M:∀ C s0 f ex,PG (X.comp N sc C s0 f ex) tg g)(l:∀ C s0 f ex,PIf (X.comp N sc C s0 f ex) ifs tif)(B:∀ C s0 f ex,PE (X.comp N sc C s0 f ex) elt te)
  {pins:List (Addr × Obj)} {s:Shared} {σ:St} {H:Hp} {Q:VK} (I:Inv X pins σ H s) (h:tLC src wi g tif te σ H Q) (use:Option (Value->Sem Unit)) (P:Value->Shared->Prop)
  (G:∀ a C H' q m,Inv X pins σ H' q->Q (.ref a) H'->q.heap.Ns C m->H' C=none->C ≠ X.env.locals->(C∈X.ex\/X.s₀.heap.objs.size<=C)->(∀ x c,X.env.cells.lookup x=some c->c ≠ C)->(∀ p∈X.pn++pins,p.1 ≠ C) ->
   compPost (model X.prog X.w) X.A X.xe use P (.ref a) C (.ok .next) q)
  (hs:∀ x,foldedSetIterable iter X.env x=pure x) :
  wpAny (model X.prog X.w) X.A (comprehension (.ListComp elt [⟨tg,iter,ifs,0⟩] sc pos) sc X.env (firstIterPos [⟨tg,iter,ifs,0⟩] pos) (newList []) false (eval iter X.env) use) P X.xe s:=by
 refine wpAny_comprehension_free rfl hs (L.clo I.ok) L.kind L.own (thn (hi pins s σ H _ I h) λv s1 R=>thn R λE s2 K=>?_)
 obtain⟨it,fp,tn,J,H2,e,y,T,d,r,z⟩:=K
 subst e
 have i:H2 s2.heap.objs.size=none:=y.hok.fresh (N0 _)
 obtain⟨W,⟨S,O⟩,j⟩:=z s2.heap.objs.size i
 have n:∀ b∈fp,b<s2.heap.objs.size:=λb hb=>by
  obtain⟨o,D,_⟩:=T.obj _ _ d b hb
  exact Q0 D
 refine D9 ?_
 refine KO F L M l B (H3:=upd H2 s2.heap.objs.size (.lst [])) ?_ T ?_ ?_ O j use P (G _)
 ·exact y.laid (t':=s2.toks) (λb u e=>S1 _ e) (N0 _) ⟨Y3 _,[],0,.nil,X2 _ rfl⟩
 ·exact T.keep _ _ _ d λb _ o e=>S1 _ e
 ·exact λb hb=>⟨by rw[z0 (O1 (n b hb))];exact(r b hb).1,(r b hb).2⟩
def O5(p:X.calm=true)(L:LcOk X N sc src)(hi:PI X tg iter wi)(v:∀ C s0 a ex,PG (X.comp N sc C s0 a ex) tg g)(c:∀ C s0 a ex,PIf (X.comp N sc C s0 a ex) ifs tif)(l:∀ C s0 a ex,PE (X.comp N sc C s0 a ex) elt te)
  (hs:∀ x,foldedSetIterable iter X.env x=pure x:=by intro _;rfl):PE X (.ListComp elt [⟨tg,iter,ifs,0⟩] sc pos) (tLC src wi g tif te):=by
 intro pins s σ H Q I h
 rw[eval_ListComp]
 refine zG p L hi v c l I h none _ (λd C H' u m J q hn i n r f j=>?_) hs
 refine⟨m,hn,λh' sb=>⟨.ref d,H',?_,rfl,q⟩⟩
 exact J.turned (t':=u.toks) (λb o hb e=>sb.extBut b o hb e) i n r f j
end
section
variable{X:Cx}{N:List Str}{tg iter elt:Expr}{ifs:List Expr}{sc:Scope}{src:List (Option Nat)}{wi:TI}{g:TG}{tif:TT}{te:TE}{pos spos px:Pos}
def mH{i:Nat}{x:Str}(B:X.N.Nodup)(r:X.N[i]?=some x)(O:Loc X.env.scope x)(M:X.calm=true)(L:LcOk X N sc src)(hi:PI X tg iter wi)(Q:∀ C s0 d ex,PG (X.comp N sc C s0 d ex) tg g)
  (j:∀ C s0 d ex,PIf (X.comp N sc C s0 d ex) ifs tif) (K:∀ C s0 d ex,PE (X.comp N sc C s0 d ex) elt te)
  (l:swapsWith (.ListComp elt [⟨tg,iter,ifs,0⟩] sc pos) (some (.Name x px)) spos.line X.env=pure true:=by rfl)
  (hf:X.fn x=true\/X.env.scope.names.lookup x=some .local:=by first|exact .inl rfl|exact .inr rfl|assumption)
  (hs:∀ x,foldedSetIterable iter X.env x=pure x:=by intro _;rfl):PS X (.Assign [.Name x px] (.ListComp elt [⟨tg,iter,ifs,0⟩] sc pos) spos) (tAsg (tLC src wi g tif te) (D3 i)):=by
 intro pins s σ H D I h
 rw[exec_Assign_Name_used _ _ _ _ l]
 refine C0 (wpAny_standAt (C0 ?_))
 show wpAny _ X.A (do let _ ← comprehension (.ListComp elt [⟨tg,iter,ifs,0⟩] sc pos) sc X.env _ (newList []) false (eval iter X.env) (some (assign (.Name x px) X.env))) _ _ s
 refine C0 (n4 (zG M L hi Q j K I h (some (assign (.Name x px) X.env)) (λ_ w=>SP X pins D .next w) (λc C H' w m J q hn E y p f G=>?_) hs) (λ_ w P=>M0 (M0 P)) λ_ _ e=>e)
 show wpAny _ X.A (assign (.Name x px) X.env (.ref c)) _ _ _
 refine wpAny_assign_Name (yF J B r O (v:=.ref c) rfl (λs2 F ⟨a,sb,ha⟩=>?_) hf)
 have n:C ≠ a:=by
  rcases ha with z|z
  ·rw[z];exact y
  ·exact(f x a z).symm
 refine⟨m,hn.sameBut sb n,λh' u=>⟨_,H',?_,q⟩⟩
 exact F.turned (t':=s2.toks) (λb o hb e=>u.extBut b o hb e) E y p f G
end
section
variable{g:TG}{tif:TT}{te:TE}{acc:Addr}{Qd:List V->Hp->Prop}{σ0:St}{H0:Hp}
def aL{lo:Int}{n:Nat}(c:Nat->List V->St->Hp->Prop)(o:c 0 [] σ0 H0)(ha:∀ i ys σ H,c i ys σ H->H acc=some (.lst ys))
  (hs:∀ i ys σ H,i<n->c i ys σ H->g (.int (lo+i)) σ H λa H3=>tif a H3 λb d=>if b=true then te a d λy f=>f acc=some (.lst ys)/\ys.length<sizeLine/\c (i+1) (ys++[y]) a (upd f acc (.lst (ys++[y]))) else c (i+1) ys a d)
  (hd:∀ ys σ H,c n ys σ H->Qd ys H):∃ W:LW,(∃ m,W 0 m [] σ0 H0)/\E9 (Itr lo n) g tif te acc Qd W:=by
 refine⟨λi m ys σ H=>m=n-i/\i<=n/\c i ys σ H,⟨n,by simp,Y3 _,o⟩,?_⟩
 rintro i m ys σ H ⟨rfl,hi,p⟩
 refine⟨ha i ys σ H p,?_⟩
 by_cases hlt:i<n
 ·refine .inr ⟨hlt,c (i+1),λh j H' l=>⟨n-(i+1),by lia,rfl,hlt,l⟩,λx H' y=>?_⟩
  obtain⟨e,y⟩:=y
  subst e y
  exact hs i ys σ _ hlt p
 ·have e:i=n:=by lia
  subst e
  exact .inl ⟨N0 _,hd ys σ H p⟩
end
section
variable{X:Cx}{N:List Str}{t1 i1 t2 i2 elt:Expr}{f1 f2:List Expr}{sc:Scope}{src:List (Option Nat)}{wi wi2:TI}{g g2:TG}{tif tif2:TT}{te:TE}{pos:Pos}
end
def rLen(K:Frag):List V->Hp->VK->Prop:=λxs H Q=>∃ p ys,xs=[.ref p]/\(SqL K H p ys\/SqT K H p ys)/\Q (.int ys.length) H
def y6{X:Cx}:M2 X (.builtin "len") (rLen X.K):=VN
def JB:List V->Hp->VK->Prop:=λxs H Q=>∃ i j,xs=[.int i,.int j]/\Q (.int (if j > i then j else i)) H
def uB:List V->Hp->VK->Prop:=λxs H Q=>∃ i j,xs=[.int i,.int j]/\Q (.int (if j<i then j else i)) H
def S7{X:Cx}(a:X.calm=true):M2 X (.builtin "max") JB:=QL a
def N7{X:Cx}(a:X.calm=true):M2 X (.builtin "min") uB:=xP a
def TB:List V->Hp->VK->Prop:=λxs H Q=>(∃ i,xs=[.int i]/\Q (.int i) H)\/∃ k,xs=[.bl k]/\Q (.int (if k then 1 else 0)) H
def gD{X:Cx}:M2 X (.type "int") TB:=jO
section
variable{σ:St}{H:Hp}{D:Ends}{K:Frag}
def OP{t u:TS}(h:t { D with nx:=u D } σ H):tSeq t u D σ H:=h
def oQ{te:TE}{g:TG}(h:te σ H λx a=>g x σ a D.nx):tAsg te g D σ H:=h
def mK{te:TE}(h:te σ H D.rt):tRet te D σ H:=h
def hQ{te:TE}(h:te σ H λ_ a=>D.nx σ a):BD te D σ H:=h
def vJ(h:D.nx σ H):lD D σ H:=h
def gQ{c:TT}{t u:TS}(h:c σ H λb a=>if b=true then t D σ a else u D σ a):tIfS c t u D σ H:=h
def cC{i:Nat}{v:V}{Q:St->Hp->Prop}(h:Q (σ.set i (some v)) H):D3 i v σ H Q:=h
def SN{to a:TE}{t:TSet}{v:V}{Q:St->Hp->Prop}(h:to σ H λo b=>a σ b λi H2=>t o i v H2 λH3=>Q σ H3):gSub to a t v σ H Q:=h
def tE{i:Nat}{v:V}{Q:VK}(a : σ[i]?=some (some v))(h:Q v H):tVar i σ H Q:=⟨v,a,h⟩
def go_c{v:V}{Q:VK}(h:Q v H):tC v σ H Q:=h
def XI{r:R2}{b a:TE}{Q:VK}(h:b σ H λx c=>a σ c λy H2=>r x y H2 Q):tOp r b a σ H Q:=h
def xO{t:TE}{Q:Bool->Hp->Prop}(h:t σ H λx H'=>∃ k,x=.bl k/\Q k H'):uD t σ H Q:=h
def iQ{k:Bool}{Q:Bool->Prop}(h:Q k):∃ a,V.bl k=.bl a/\Q a:=⟨k,rfl,h⟩
def BL{t u:TT}{Q:Bool->Hp->Prop}(h:t σ H λc a=>if c=true then u σ a Q else Q false a):tAnd t u σ H Q:=h
def XD{a:TE}{tr:TA}{Q:List V->Hp->Prop}(h:a σ H λx b=>tr σ b λxs H2=>Q (x::xs) H2):X1 a tr σ H Q:=h
def Z9{Q:List V->Hp->Prop}(h:Q [] H):tNil σ H Q:=h
def eM{t:TA}{Q:VK}(h:t σ H λxs a=>xs.length<=sizeLine/\∀ p,a p=none->Q (.ref p) (upd a p (.tup xs))):tTup t σ H Q:=h
def HE{t:TA}{Q:VK}(h:t σ H λxs a=>xs.length<=sizeLine/\∀ p,a p=none->Q (.ref p) (upd a p (.lst xs))):tLst t σ H Q:=h
def tQ{r:List V->Hp->VK->Prop}{t:TA}{Q:VK}(h:t σ H λvs a=>r vs a Q):tCB r t σ H Q:=h
def fO{sp:Sp}{E:XK}{t:TA}{Q:VK}(h:t σ H λvs a=>sp vs a Q E):o3 sp [] E t σ H Q:=by
 unfold o3
 simp only[n5]
 exact h
def go_I{C:Int->Int->Prop}{g:Int->Int->V}{i j:Int}{Q:VK}(a:C i j)(h:Q (g i j) H):rI C g (.int i) (.int j) H Q:=⟨i,j,rfl,rfl,a,h⟩
def CP{g:Int->Int->V}{i j:Int}{Q:VK}(h:Q (g i j) H):rI0 g (.int i) (.int j) H Q:=⟨i,j,rfl,rfl,h⟩
def uE{i j:Int}{Q:VK}(h:Q (.bl (decide (i=j))) H):rEq (.int i) (.int j) H Q:=by
 have e:decide (V.int i=V.int j)=decide (i=j):=by rw[IB];exact Bool.beq_eq_decide_eq i j
 exact⟨rfl,by rw[e];exact h⟩
def xL{i j:Int}{Q:VK}(h:Q (.bl (!decide (i=j))) H):rNe (.int i) (.int j) H Q:=by
 have e:decide (V.int i=V.int j)=decide (i=j):=by rw[IB];exact Bool.beq_eq_decide_eq i j
 exact⟨rfl,by rw[e];exact h⟩
def FR{a:Addr}{xs:List V}{i:Int}{v:V}{Q:VK}(ha:H a=some (.lst xs))(b:V0 xs i=some v)(h:Q v H):rIxL K (.ref a) (.int i) H Q:=⟨a,xs,i,v,rfl,rfl,SqL.of ha,b,h⟩
def fL{a:Addr}{xs:List V}{i:Int}{v:V}{Q:VK}(ha:H a=some (.tup xs))(b:V0 xs i=some v)(h:Q v H):rIxT K (.ref a) (.int i) H Q:=⟨a,xs,i,v,rfl,rfl,SqT.of ha,b,h⟩
def qG{a:Addr}{xs:List V}{k:Int}{j:Nat}{v:V}{Q:Hp->Prop}(ha:H a=some (.lst xs))(b:ixN xs.length k=some j)(h:Q (upd H a (.lst (xs.set j v)))):sD (.ref a) (.int k) v H Q:=⟨a,xs,k,j,rfl,rfl,ha,b,h⟩
def ZA{a:Addr}{xs:List V}{y:V}{Q:VK}(ha:H a=some (.lst xs))(b:xs.length<sizeLine)(h:Q .non (upd H a (.lst (xs++[y])))):o9 (.ref a) [y] H Q:=⟨a,xs,y,rfl,rfl,ha,b,h⟩
def FJ{a b:Addr}{xs c:List V}{Q:VK}(ha:H a=some (.lst xs))(hb:H b=some (.lst c))(d:xs.length+c.length<=sizeLine)(h:Q .non (upd H a (.lst (xs++c)))):RD (.ref a) [.ref b] H Q:=⟨a,b,xs,c,rfl,rfl,ha,hb,d,h⟩
def nK{r:V->List V->Hp->VK->Prop}{to:TE}{t:TA}{Q:VK}(h:to σ H λx a=>tyV K "list" x a/\t σ a λxs H2=>r x xs H2 Q):tBM K "list" r to t σ H Q:=h
def rR{a b:Addr}{xs c:List V}{Q:VK}(ha:H a=some (.lst xs))(hb:H b=some (.lst c))(d:xs.length+c.length<=sizeLine)(h:∀ p,H p=none->Q (.ref p) (upd H p (.lst (xs++c)))):rCat (.ref a) (.ref b) H Q:=⟨a,b,xs,c,rfl,rfl,ha,hb,d,h⟩
def oG{a:Addr}{xs:List V}{Q:VK}(ha:H a=some (.lst xs))(h:Q (.int xs.length) H):rLen K [.ref a] H Q:=⟨a,xs,rfl,.inl (SqL.of ha),h⟩
def TL{a:Addr}{xs:List V}{Q:VK}(ha:H a=some (.tup xs))(h:Q (.int xs.length) H):rLen K [.ref a] H Q:=⟨a,xs,rfl,.inr (SqT.of ha),h⟩
def EE{i j:Int}{Q:VK}(h:Q (.int (if j > i then j else i)) H):JB [.int i,.int j] H Q:=⟨i,j,rfl,h⟩
def PH{i j:Int}{Q:VK}(h:Q (.int (if j<i then j else i)) H):uB [.int i,.int j] H Q:=⟨i,j,rfl,h⟩
def WE{k:Bool}{Q:VK}(h:Q (.int (if k then 1 else 0)) H):TB [.bl k] H Q:=.inr ⟨k,rfl,h⟩
def bD{c:Prop} [Decidable c] {A B:Prop} (a:c) (h:A):if decide c=true then A else B:=by rw[O4 a];exact iteT h
def tD{c:Prop} [Decidable c] {A B:Prop} (a:¬ c) (h:B):if decide c=true then A else B:=by rw[O2 a];exact iteF h
def P5{c:Prop} [Decidable c] {A B:Prop} (b:c->A) (a:¬ c->B):if decide c=true then A else B:=by
 by_cases hc:c
 ·exact bD hc (b hc)
 ·exact tD hc (a hc)
def pR{c:Prop} [Decidable c] {A B:Prop} (b:¬ c->A) (a:c->B):if (!decide c)=true then A else B:=by
 by_cases hc:c
 ·rw[O4 hc];exact iteF (a hc)
 ·rw[O2 hc];exact iteT (b hc)
def OG{x:V}{xs:List V}:V0 (x::xs) 0=some x:=K8 (j:=0) rfl
def QF{x y:V}{xs:List V}:V0 (x::y::xs) 1=some y:=K8 (j:=1) rfl
def sF{x y z:V}{xs:List V}:V0 (x::y::z::xs) 2=some z:=K8 (j:=2) rfl
def ixN0{n:Nat}:ixN (n+1) 0=some 0:=by unfold ixN;rw[t0 (by decide),t0 (by lia)];rfl
def ixN1{n:Nat}:ixN (n+2) 1=some 1:=by unfold ixN;rw[t0 (by decide),t0 (by lia)];rfl
def ixN2{n:Nat}:ixN (n+3) 2=some 2:=by unfold ixN;rw[t0 (by decide),t0 (by lia)];rfl
end
structure CallOk(P:Program)(w:World)(K:Frag)(mg:Str->Option Value)(base:Heap)(x:Str)(k:Nat)(ps:List Str)(sp:Sp)(f:Addr)(fd:FuncData):Prop where
 ok:FnOk P w K mg base CX0 k f fd ps sp
 mgx:mg x=some (.ref f)
 kp:keepIn K (.ref f)=true
 bd:Binds K fd ps []
def Can(P:Program)(w:World)(K:Frag)(mg:Str->Option Value)(base:Heap)(x:Str)(k:Nat)(ps:List Str)(sp:Sp):Prop:=∃ f fd,CallOk P w K mg base x k ps sp f fd
structure DefAt(K:Frag)(mg:Str->Option Value)(x:Str)(st:Stmt)(ps:List Str)(f:Addr)(fd:FuncData):Prop where
 fn:Fun K x x st f fd
 mgx:mg x=some (.ref f)
 bd:Binds K fd ps []
def DefAt.can{P:Program}{w:World}{K:Frag}{mg:Str->Option Value}{base:Heap}{x:Str}{st:Stmt}{k:Nat}{ps:List Str}{sp:Sp}{f:Addr}{fd:FuncData}(D:DefAt K mg x st ps f fd)(ok:FnOk P w K mg base CX0 k f fd ps sp):Can P w K mg base x k ps sp :=
 ⟨f,fd,ok,D.mgx,D.fn.kp,D.bd⟩
section
variable{X:Cx}{k j:Nat}{ps:List Str}{sp:Sp}{x:Str}{p pos:Pos}{e:Expr}{es:List Expr}{t:TA}
def J0(F:Can X.prog X.w X.K X.mg X.base x k ps sp)(d:Room j X.A)(ha:PA X (e::es) t)(g:k<=j:=by decide)(h:Gl X x:=by rfl)(a:(x == ("__debug__" : Str))=false:=by decide)
  (c:starEach (e::es) X.env=(false,eval e X.env)::starEach es X.env:=by rfl) (b:(backTo pos (starEach es X.env)).any (·.1)=false:=by rfl) :
  PE X (.Call (.Name x p) (e::es) [] pos) (o3 sp [] E0 t):=by
 obtain⟨f,fd,C⟩:=F
 exact NF C.ok (d.mono g) h C.mgx C.kp C.bd .nil KA ha a c b
end
def Z4{X:Cx}{N:List Str}{sc:Scope}{src:List (Option Nat)}(g:sc.kind=.function)(b:sc.names.all (λy=>y.2 != .cell)=true)(c:sc.names.all (λy=>y.2 != .local || sc.names.lookup y.1 == some .local)=true)
  (l:sc.names.all (λy=>y.2 != .free || X.env.kindOf y.1 == some .cell || X.env.kindOf y.1 == some .free)=true) (d:src.length=N.length)
  (h:(List.range src.length).all (λi=>match src[i]? with|some (some j)=>(match N[i]?,X.N[j]? with|some x,some y=>x == y && sc.names.lookup x == some .free|_,_=>false)|_=>true)=true):LcOk X N sc src:=by
 refine⟨g,λy a e=>?_,λy a e=>?_,λy a e=>?_,d,λi j e=>?_⟩
 ·have:=P6.mp b y a
  rw[e] at this
  exact absurd this (by decide)
 ·have:=P6.mp c y a
  rw[e] at this
  simpa using this
 ·have:=P6.mp l y a
  rw[e] at this
  simpa using this
 ·have hi:i<src.length:=(J1.mp e).1
  have:=P6.mp h i (l2.mpr hi)
  rw[e] at this
  dsimp only at this
  cases h7:N[i]? with
  |none=>rw[h7] at this;cases this
  | some x =>
   cases h8:X.N[j]? with
   |none=>rw[h7,h8] at this;cases this
   | some y =>
    rw[h7,h8] at this
    simp only[S5] at this
    have f:x=y:=by simpa using this.1
    subst f
    exact⟨x,rfl,rfl,by simpa using this.2⟩
section
variable{σ:St}{H:Hp}{D:Ends}{K:Frag}
def ForW(J:It)(g:TG)(tb:TS)(D:Ends)(σ:St)(H1:Hp):Prop:=∃ W:Nat->Nat->St->Hp->Prop,(∃ m,W 0 m σ H1)/\∀ i m σ H,W i m σ H ->
 (J.stop i H/\D.nx σ H)\/(J.go i H/\∃ N:St->Hp->Prop,(∀ σ' H',N σ' H'->∃ m',m'<m/\W (i+1) m' σ' H')/\∀ x H',J.yld i H x H'->g x σ H' λσ2 H2=>tb { D with nx:=N,ct:=N,bk:=D.nx } σ2 H2)
def SJ{b:TI}{g:TG}{a:TS}(h:b σ H λJ c=>ForW J g a D σ c):tFor b g a D σ H:=h
def LcW(J:It)(g:TG)(tif:TT)(te:TE)(σ0:St)(Q:VK)(H1:Hp):Prop:=∀ acc,H1 acc=none->∃ W:LW,(∃ m,W 0 m [] σ0 (upd H1 acc (.lst [])))/\E9 J g tif te acc (λ_ H'=>Q (.ref acc) H') W
def xQ{src:List (Option Nat)}{b:TI}{g:TG}{a:TT}{te:TE}{Q:VK}(h:b σ H λJ c=>LcW J g a te (pick src σ) Q c):tLC src b g a te σ H Q:=h
def vF(R:It->Hp->Prop):List V->Hp->Prop:=λvs H1=>∃ j:Int,vs=[.int j]/\-(2 ^ 62)<=j/\j<2 ^ 62/\R (Itr 0 j.toNat) H1
def CL{a:TA}{R:It->Hp->Prop}(h:a σ H (vF R)):XB a σ H R:=h
def CG{R:It->Hp->Prop}{j:Int}(b:0<=j)(a:j<2 ^ 62)(h:R (Itr 0 j.toNat) H):vF R [.int j] H:=⟨j,rfl,by lia,a,h⟩
def qS{a:Addr}{xs:List V}{i:Int}{v:V}{Q:VK}(ha:SqL K H a xs)(b:V0 xs i=some v)(h:Q v H):rIxL K (.ref a) (.int i) H Q:=⟨a,xs,i,v,rfl,rfl,ha,b,h⟩
def gG{a:Addr}{xs:List V}{Q:VK}(ha:SqL K H a xs)(h:Q (.int xs.length) H):rLen K [.ref a] H Q:=⟨a,xs,rfl,.inl ha,h⟩
def GM{a:Addr}{xs:List V}{R:Prop}(ha:H a=some (.lst xs))(h:R):tyV K "list" (.ref a) H/\R:=⟨.inl ⟨rfl,_,SqL.of ha⟩,h⟩
def WC{Q:Bool->Hp->Prop}(h:Q true H):tYes σ H Q:=h
def uK{a:Addr}{xs:List V}{i:Int}{k:Nat}{y:V}{Q:VK}(ha:H a=some (.lst xs))(f : -(2 ^ 63)<=i)(c:i<2 ^ 63)(d:seqIndex? i xs.length=some k)(b:xs[k]?=some y)(h:Q y (upd H a (.lst (xs.eraseIdx k)))):BC (.ref a) [.int i] H Q :=
 ⟨a,xs,i,k,y,rfl,rfl,ha,f,c,d,b,h⟩
end
end L2
namespace L2
open PySem
def K5:bootBuiltins "len" = some (.builtin "len"):=by decide +kernel
def p5:bootBuiltins "max" = some (.builtin "max"):=by decide +kernel
def m7:bootBuiltins "min" = some (.builtin "min"):=by decide +kernel
def FF:bootBuiltins "sum" = some (.builtin "sum"):=by decide +kernel
def I8:bootBuiltins "sorted" = some (.builtin "sorted"):=by decide +kernel
def w5:bootBuiltins "isinstance" = some (.builtin "isinstance"):=by decide +kernel
def fI:bootBuiltins "all" = some (.builtin "all"):=by decide +kernel
def EB:bootBuiltins "int" = some (.type "int"):=by decide +kernel
def I9:bootBuiltins "list" = some (.type "list"):=by decide +kernel
def wL:bootBuiltins "dict" = some (.type "dict"):=by decide +kernel
def BN:bootBuiltins "tuple" = some (.type "tuple"):=by decide +kernel
def bK:bootBuiltins "bool" = some (.type "bool"):=by decide +kernel
end L2
namespace TS
open PySem PyProof.Rows
def yC:Bool->Keyed->Array Keyed->Nat->Nat->Nat->StateT SortSt Sem (Option Nat):=sortPriv% PySem.Builtin.gallop
def oN:Array Keyed->Array Keyed->StateT SortSt Sem (Array Keyed):=sortPriv% PySem.Builtin.mergeLo
def PK:Array Keyed->Array Keyed->StateT SortSt Sem (Array Keyed):=sortPriv% PySem.Builtin.mergeHi
def PF:Nat->StateT SortSt Sem Bool:=sortPriv% PySem.Builtin.mergeAt
def sL:Nat->Nat->StateT SortSt Sem (Option Nat):=sortPriv% PySem.Builtin.countRun
def pM:Nat->Nat->Nat->StateT SortSt Sem Bool:=sortPriv% PySem.Builtin.binarySort
def JI:StateT SortSt Sem Unit:=sortPriv% PySem.Builtin.sortRuns
structure Cmp(M:Model)(A:Around)(E:Value->Shared->Prop)(s:Shared)(κ:SortKind)(S:Keyed->Prop)(R:Keyed->Keyed->Bool):Prop where
 ask:∀ x y,S x->S y->∀(Q:Option Bool->SortSt->Prop)(st:SortSt),kindOf st = κ->Q (some (R x y)) st->wpS M A E s (lt' x y) Q st
 asy:∀ x y,S x->S y->R x y=true->R y x=false
 tr:∀ x y z,S x->S y->S z->R y x=false->R z y=false->R z x=false
section
variable{M:Model}{A:Around}{E:Value->Shared->Prop}{s:Shared}{κ:SortKind}{S:Keyed->Prop}{R:Keyed->Keyed->Bool}
def z3{arr:Array Keyed}{i:Nat}{x:Keyed}{Q:Keyed->SortSt->Prop}{st:SortSt}(a:arr[i]?=some x)(h:Q x st):wpS M A E s (elem' arr i) Q st:=by
 rw[elem'_eq,a]
 exact wpS_pure h
def X8{x:String}{Q:Unit->SortSt->Prop}{st:SortSt}(h:Q () st):wpS M A E s (liftM (PySem.rule x):StateT SortSt Sem Unit) Q st :=
 wpS_lift (wpAny_rule ⟨rfl,h⟩)
def bey(left:Bool)(key:Keyed)(arr:Array Keyed)(base i:Nat):StateT SortSt Sem (Option Bool):=do
 let x ← elem' arr (base+i)
 if left=true then lt' x key else do
  let r ← lt' key x
  pure (Option.map (λb=>!b) r)
def qF{left:Bool}{p:Keyed}{arr:Array Keyed}{base n a:Nat}{B:Nat->Bool}
  (hb:∀ i,i<n->∀(Q:Option Bool->SortSt->Prop)(st:SortSt),kindOf st = κ->Q (some (B i)) st->wpS M A E s (bey left p arr base i) Q st)
  (mono:∀ i j,i<j->j<n->B j=true->B i=true) (hh:a<n) {Q:Option Nat->SortSt->Prop} {st:SortSt} (x:kindOf st = κ)
  (h:∀ k,k<=n->(∀ i,i<k->B i=true)->(∀ i,k<=i->i<n->B i=false)->Q (some k) st):wpS M A E s (yC left p arr base n a) Q st:=by
 have c:∀ i j,i<j->j<n->B i=false->B j=false:=λi j y J hi=>by
  cases e:B j with
  |false=>rfl
  |true=>rw[mono i j y J e] at hi;cases hi
 -- the last loop
 have last:∀(lo hi:Nat)(F:Option (Option Nat) × Nat × Nat->StateT SortSt Sem (Option Nat)),lo<=hi->hi<=n->(∀ i,i<lo->B i=true)->(∀ i,hi<=i->i<n->B i=false) ->
   (∀ lo hi,F (none,lo,hi)=pure (some hi)) ->
   wpS M A E s (forIn [:n] ((none,lo,hi):Option (Option Nat) × Nat × Nat) (λ(_:Nat) z=>if z.2.1 ≥ z.2.2 then pure (ForInStep.done (none,z.2.1,z.2.2)) else bey left p arr base (z.2.1+(z.2.2-z.2.1) / 2) >>= λr=>match r with
    |some more=>if more=true then pure (ForInStep.yield (none,z.2.1+(z.2.2-z.2.1) / 2+1,z.2.2)) else pure (ForInStep.yield (none,z.2.1,z.2.1+(z.2.2-z.2.1) / 2))
    |_=>pure (ForInStep.done (some none,z.2.1,z.2.2))) >>= F) Q st:=by
  intro lo hi F H K L I D
  refine wpS_bind (wpS_forRange (λt z st'=>st'=st/\z.1=none/\z.2.1<=z.2.2/\z.2.2<=n/\z.2.2-z.2.1+t<=n/\(∀ i,i<z.2.1->B i=true)/\(∀ i,z.2.2<=i->i<n->B i=false)) ?_ ?_ ⟨rfl,rfl,H,K,by dsimp only;lia,L,I⟩)
  ·rintro t ⟨o,l,u⟩ st' _ C ⟨rfl,e,q,d,b,g,w⟩
   dsimp only at e q d b g w ⊢
   subst e
   by_cases hlu:l ≥ u
   ·rw[t0 hlu]
    have:l=u:=by lia
    subst this
    exact wpS_pure (by dsimp only;rw[D];exact wpS_pure (h l d g w))
   ·rw[y0 hlu]
    have hm:l+(u-l) / 2<u:=by lia
    refine wpS_bind (hb _ (by lia) _ _ x ?_)
    dsimp only
    cases e:B (l+(u-l) / 2) with
    | true =>
     rw[t0 rfl]
     refine wpS_pure ⟨rfl,rfl,by dsimp only;lia,d,by dsimp only;lia,λi hi=>?_,w⟩
     dsimp only at hi
     by_cases hi2:i=l+(u-l) / 2
     ·rw[hi2];exact e
     ·exact mono i _ (by lia) (by lia) e
    | false =>
     rw[y0 (by simp)]
     refine wpS_pure ⟨rfl,rfl,by dsimp only;lia,by dsimp only;lia,by dsimp only;lia,g,λi hi hn=>?_⟩
     dsimp only at hi
     by_cases hi2:i=l+(u-l) / 2
     ·rw[hi2];exact e
     ·exact c _ i (by lia) hn e
  ·rintro ⟨o,l,u⟩ st' ⟨rfl,e,q,d,b,g,w⟩
   dsimp only at e q d b g w ⊢
   subst e
   have : l = u := by have:n ≤ max 0 n := by lia
                      lia
   subst this
   rw[D]
   exact wpS_pure (h l d g w)
 refine wpS_bind (f:=λG=>_) (m:=bey left p arr base a) (hb a hh _ st x ?_)
 dsimp only
 cases e0:B a with
 | true =>
  rw[t0 rfl]
  refine wpS_bind ?_
  refine wpS_forRange (λt (z:Option (Option Nat) × Nat × Nat) st'=>st'=st/\z.1=none/\z.2.1<z.2.2/\a+z.2.1<n/\B (a+z.2.1)=true/\t+1<=z.2.2) ?_ ?_ ⟨rfl,rfl,by decide,by dsimp only;lia,e0,Nat.le_refl _⟩
  ·rintro t ⟨o,l,u⟩ st' _ C ⟨rfl,e,q,d,b,g⟩
   dsimp only at e q d b g ⊢
   subst e
   by_cases hu:u ≥ n-a
   ·rw[t0 hu]
    refine wpS_pure ?_
    dsimp only
    refine last _ _ _ (by lia) (by lia) (λi hi=>?_) (λi hi hn=>by lia) (λ_ _=>rfl)
    by_cases hi2:i=a+l
    ·rw[hi2];exact b
    ·exact mono i _ (by lia) d b
   ·rw[y0 hu]
    refine wpS_bind (m:=bey left p arr base (a+u)) (hb _ (by lia) _ _ x ?_)
    dsimp only
    cases e1:B (a+u) with
    | true =>
     rw[y0 (by decide)]
     exact wpS_pure ⟨rfl,rfl,by dsimp only;lia,by dsimp only;lia,e1,by dsimp only;lia⟩
    | false =>
     rw[t0 (by decide)]
     refine wpS_pure ?_
     dsimp only
     refine last _ _ _ (by lia) (by lia) (λi hi=>?_) (λi hi hn=>?_) (λ_ _=>rfl)
     ·by_cases hi2:i=a+l
      ·rw[hi2];exact b
      ·exact mono i _ (by lia) d b
     ·by_cases hi2:i=a+u
      ·rw[hi2];exact e1
      ·exact c _ i (by lia) hn e1
  ·rintro⟨o,l,u⟩ st' ⟨rfl,e,q,d,b,g⟩
   dsimp only at e q d b g ⊢
   subst e
   dsimp only
   refine last _ _ _ (by lia) (by lia) (λi hi=>?_) (λi hi hn=>by lia) (λ_ _=>rfl)
   by_cases hi2:i=a+l
   ·rw[hi2];exact b
   ·exact mono i _ (by lia) d b
 | false =>
  rw[y0 (by decide)]
  refine wpS_bind ?_
  refine wpS_forRange (λt (z:Option (Option Nat) × Nat × Nat) st'=>st'=st/\z.1=none/\z.2.1<z.2.2/\z.2.1<=a/\B (a-z.2.1)=false/\t+1<=z.2.2) ?_ ?_ ⟨rfl,rfl,by decide,Y3 _,e0,N0 _⟩
  ·rintro t ⟨o,l,u⟩ st' _ C ⟨rfl,e,q,d,b,g⟩
   dsimp only at e q d b g ⊢
   subst e
   have v:∀ i,a-l<=i->i<n->B i=false:=λi hi hn=>by
    by_cases hi2:i=a-l
    ·rw[hi2];exact b
    ·exact c _ i (by lia) hn b
   by_cases hu:u ≥ a+1
   ·rw[t0 hu]
    refine wpS_pure ?_
    dsimp only
    exact last _ _ _ (by lia) (by lia) (λi hi=>by lia) v (λ_ _=>rfl)
   ·rw[y0 hu]
    refine wpS_bind (m:=bey left p arr base (a-u)) (hb _ (by lia) _ _ x ?_)
    dsimp only
    cases e1:B (a-u) with
    | true =>
     rw[t0 rfl]
     refine wpS_pure ?_
     dsimp only
     refine last _ _ _ (by lia) (by lia) (λi hi=>?_) v (λ_ _=>rfl)
     by_cases hi2:i=a-u
     ·rw[hi2];exact e1
     ·exact mono i _ (by lia) (by lia) e1
    | false =>
     rw[y0 (by decide)]
     exact wpS_pure ⟨rfl,rfl,by dsimp only;lia,by dsimp only;lia,e1,by dsimp only;lia⟩
  ·rintro⟨o,l,u⟩ st' ⟨rfl,e,q,d,b,g⟩
   dsimp only at e q d b g ⊢
   subst e
   dsimp only
   refine last _ _ _ (by lia) (by lia) (λi hi=>by lia) (λi hi hn=>?_) (λ_ _=>rfl)
   by_cases hi2:i=a-l
   ·rw[hi2];exact b
   ·exact c _ i (by lia) hn b
end
def Srt(R:Keyed->Keyed->Bool)(l:List Keyed):Prop:=l.Pairwise λx y=>R y x=false
structure Mid(R:Keyed->Keyed->Bool)(L out a b:List Keyed):Prop where
 perm:(out++a++b).Perm L
 so:Srt R out
 le:∀ x∈out,∀ y∈a++b,R y x=false
 sa:Srt R a
 sb:Srt R b
section
variable{R:Keyed->Keyed->Bool}{L out a b p:List Keyed}
def Mid.takeA(m:Mid R L out (p++a) b)(h:∀ x∈p,∀ y∈b,R y x=false):Mid R L (out++p) a b:=by
 have sp:=V3.mp m.sa
 refine⟨by have:=m.perm;rw[← Y2] at this;exact this,V3.mpr ⟨m.so,sp.1,λx d y c=>m.le x d y (U4 _ (U4 _ c))⟩,λx d y c=>?_,sp.2.1,m.sb⟩
 rcases E1.mp d with d|d
 ·refine m.le x d y ?_
  rcases E1.mp c with c|c
  ·exact U4 _ (K3 _ c)
  ·exact K3 _ c
 ·rcases E1.mp c with c|c
  ·exact sp.2.2 x d y c
  ·exact h x d y c
def Mid.takeB(m:Mid R L out a (p++b))(h:∀ x∈p,∀ y∈a,R y x=false):Mid R L (out++p) a b:=by
 have sp:=V3.mp m.sb
 refine⟨List.Perm.trans ?_ m.perm,V3.mpr ⟨m.so,sp.1,λx d y c=>m.le x d y (K3 _ (U4 _ c))⟩,λx d y c=>?_,m.sa,sp.2.1⟩
 ·rw[← Y2 (out++a) p b]
  refine List.Perm.append_right b ?_
  rw[Y2,Y2]
  exact List.Perm.append_left out List.perm_append_comm
 ·rcases E1.mp d with d|d
  ·refine m.le x d y ?_
   rcases E1.mp c with c|c
   ·exact U4 _ c
   ·exact K3 _ (K3 _ c)
  ·rcases E1.mp c with c|c
   ·exact h x d y c
   ·exact sp.2.2 x d y c
def Mid.done(m:Mid R L out a b)(h:a=[]\/b=[]):(out++a++b).Perm L/\Srt R (out++a++b):=by
 refine⟨m.perm,?_⟩
 rw[Y2]
 refine V3.mpr ⟨m.so,?_,m.le⟩
 rcases h with h|h
 ·subst h;exact m.sb
 ·subst h;rw[n5];exact m.sa
def Mid.last(m:Mid R L out a b)(h:∀ y∈b,∀ x∈a,R x y=false):(out++b++a).Perm L/\Srt R (out++b++a):=by
 refine⟨List.Perm.trans ?_ m.perm,?_⟩
 ·rw[Y2,Y2]
  exact List.Perm.append_left out List.perm_append_comm
 ·rw[Y2]
  refine V3.mpr ⟨m.so,V3.mpr ⟨m.sb,m.sa,h⟩,λx d y c=>m.le x d y ?_⟩
  rcases E1.mp c with c|c
  ·exact K3 _ c
  ·exact U4 _ c
end
structure Eqv(st st':SortSt):Prop where
 k:kindOf st'=kindOf st
 a:arrOf st'=arrOf st
 p:pendingOf st'=pendingOf st
 f:failedOf st'=failedOf st
def Eqv.refl(st:SortSt):Eqv st st:=⟨rfl,rfl,rfl,rfl⟩
def Eqv.trans{a b c:SortSt}(h:Eqv a b)(g:Eqv b c):Eqv a c:=⟨g.k.trans h.k,g.a.trans h.a,g.p.trans h.p,g.f.trans h.f⟩
def zB(a:Array Keyed)(i:Nat):(a.extract i a.size).toList=a.toList.drop i:=by
 rw[Array.toList_extract];simp only[List.extract_eq_take_drop];exact G8 (by simp)
def jC(a:Array Keyed)(i k:Nat):(a.extract i (i+k)).toList=(a.toList.drop i).take k:=by
 rw[Array.toList_extract];simp[List.extract]
def V4{a:Array Keyed}{i:Nat}(h:i<a.size):a.toList.drop i=a[i]::a.toList.drop (i+1):=by
 rw[List.drop_eq_getElem_cons (by simpa using h)];simp
section
variable{M:Model}{A:Around}{E:Value->Shared->Prop}{s:Shared}{κ:SortKind}{S:Keyed->Prop}{R:Keyed->Keyed->Bool}
def Cmp.irr{x:Keyed}(C:Cmp M A E s κ S R)(a:S x):R x x=false:=by
 cases e:R x x with
 |false=>rfl
 |true=>have:=C.asy x x a a e;rw[e] at this;cases this
def eD(C:Cmp M A E s κ S R){a:Keyed}{arr:Array Keyed}{base n g:Nat}(f:S a)(K:∀ x∈arr.toList,S x)(hn:base+n<=arr.size)(hs:Srt R ((arr.toList.drop base).take n))(hh:g<n)
  {Q:Option Nat->SortSt->Prop} {st:SortSt} (L:kindOf st = κ)
  (h:∀ k,k<=n->(∀ x∈(arr.toList.drop base).take k,R a x=false)->(∀ x∈((arr.toList.drop base).take n).drop k,R a x=true)->Q (some k) st) :
  wpS M A E s (yC false a arr base n g) Q st:=by
 have b:∀ i,i<n->∃ x,arr[base+i]?=some x/\S x/\((arr.toList.drop base).take n)[i]?=some x:=λi hi=>by
  have p:base+i<arr.size:=by lia
  refine⟨arr[base+i],Q2 p,K _ (by simp),?_⟩
  rw[r8 hi,R9]
  simp[p]
 have l:∀ i j x y,i<j->j<n->arr[base+i]?=some x->arr[base+j]?=some y->R y x=false:=λi j x y m q ex N=>by
  obtain⟨U,c,_,e2⟩:=b i (by lia)
  obtain⟨W,D,_,w⟩:=b j q
  rw[ex] at c;cases c
  rw[N] at D;cases D
  obtain⟨I,e2⟩:=J1.mp e2
  obtain⟨P,w⟩:=J1.mp w
  have:=u8.mp hs i j I P m
  rw[e2,w] at this
  exact this
 refine qF (κ:=κ) (B:=λi=>match arr[base+i]? with|some x=>!(R a x)|none=>false) (λi hi Q' st' r F=>?_) (λi j m q o=>?_) hh L λk u T O=>h k u (λx z=>?_) λx z=>?_
 ·obtain⟨x,c,v,_⟩:=b i hi
  unfold bey
  refine wpS_bind (z3 c ?_)
  rw[y0 (by decide)]
  refine wpS_bind (C.ask _ _ f v _ _ r ?_)
  refine wpS_pure ?_
  simp only[c] at F
  exact F
 ·obtain⟨x,c,v,_⟩:=b i (by lia)
  obtain⟨y,e2,J,_⟩:=b j q
  simp only[c,e2] at o ⊢
  have G:=l i j x y m q c e2
  have H:R a y=false:=by simpa using o
  have:=C.tr x y a v J f G H
  simp[this]
 ·obtain⟨i,hi,e⟩:=List.getElem_of_mem z
  have d:i<k:=by rw[t8] at hi;lia
  obtain⟨y,c,_,e2⟩:=b i (by lia)
  have hb:=T i d
  simp only[c] at hb
  have ex:x=y:=by
   have:((arr.toList.drop base).take k)[i]?=some x:=by rw[X0 hi,e]
   rw[r8 d] at this
   rw[r8 (by lia)] at e2
   rw[this] at e2;exact M3 e2
  subst ex
  simpa using hb
 ·obtain⟨i,hi,e⟩:=List.getElem_of_mem z
  have d:k+i<n:=by rw[List.length_drop,t8] at hi;lia
  obtain⟨y,c,_,e2⟩:=b (k+i) d
  have hb:=O (k+i) (by lia) d
  simp only[c] at hb
  have ex:x=y:=by
   have:(((arr.toList.drop base).take n).drop k)[i]?=some x:=by rw[X0 hi,e]
   rw[R9] at this
   rw[this] at e2;exact M3 e2
  subst ex
  simpa using hb
def MC(C:Cmp M A E s κ S R){a:Keyed}{arr:Array Keyed}{base n g:Nat}(f:S a)(J:∀ x∈arr.toList,S x)(hn:base+n<=arr.size)(hs:Srt R ((arr.toList.drop base).take n))(hh:g<n)
  {Q:Option Nat->SortSt->Prop} {st:SortSt} (K:kindOf st = κ)
  (h:∀ k,k<=n->(∀ x∈(arr.toList.drop base).take k,R x a=true)->(∀ x∈((arr.toList.drop base).take n).drop k,R x a=false)->Q (some k) st) :
  wpS M A E s (yC true a arr base n g) Q st:=by
 have b:∀ i,i<n->∃ x,arr[base+i]?=some x/\S x/\((arr.toList.drop base).take n)[i]?=some x:=λi hi=>by
  have p:base+i<arr.size:=by lia
  refine⟨arr[base+i],Q2 p,J _ (by simp),?_⟩
  rw[r8 hi,R9]
  simp[p]
 have m:∀ i j x y,i<j->j<n->arr[base+i]?=some x->arr[base+j]?=some y->R y x=false:=λi j x y o q ex L=>by
  obtain⟨T,c,_,e2⟩:=b i (by lia)
  obtain⟨U,D,_,w⟩:=b j q
  rw[ex] at c;cases c
  rw[L] at D;cases D
  obtain⟨H,e2⟩:=J1.mp e2
  obtain⟨O,w⟩:=J1.mp w
  have:=u8.mp hs i j H O o
  rw[e2,w] at this
  exact this
 refine qF (κ:=κ) (B:=λi=>match arr[base+i]? with|some x=>R x a|none=>false) (λi hi Q' st' r F=>?_) (λi j o q l=>?_) hh K λk u P N=>h k u (λx z=>?_) λx z=>?_
 ·obtain⟨x,c,v,_⟩:=b i hi
  unfold bey
  refine wpS_bind (z3 c ?_)
  rw[t0 rfl]
  simp only[c] at F
  exact C.ask _ _ v f _ _ r F
 ·obtain⟨x,c,v,_⟩:=b i (by lia)
  obtain⟨y,e2,I,_⟩:=b j q
  simp only[c,e2] at l ⊢
  have G:=m i j x y o q c e2
  cases e:R x a with
  |true=>rfl
  | false =>
   have:=C.tr a x y f v I e G
   rw[this] at l;cases l
 ·obtain⟨i,hi,e⟩:=List.getElem_of_mem z
  have d:i<k:=by rw[t8] at hi;lia
  obtain⟨y,c,_,e2⟩:=b i (by lia)
  have hb:=P i d
  simp only[c] at hb
  have ex:x=y:=by
   have:((arr.toList.drop base).take k)[i]?=some x:=by rw[X0 hi,e]
   rw[r8 d] at this
   rw[r8 (by lia)] at e2
   rw[this] at e2;exact M3 e2
  subst ex
  exact hb
 ·obtain⟨i,hi,e⟩:=List.getElem_of_mem z
  have d:k+i<n:=by rw[List.length_drop,t8] at hi;lia
  obtain⟨y,c,_,e2⟩:=b (k+i) d
  have hb:=N (k+i) (by lia) d
  simp only[c] at hb
  have ex:x=y:=by
   have:(((arr.toList.drop base).take n).drop k)[i]?=some x:=by rw[X0 hi,e]
   rw[R9] at this
   rw[this] at e2;exact M3 e2
  subst ex
  exact hb
end
section
variable{M:Model}{A:Around}{E:Value->Shared->Prop}{s:Shared}{κ:SortKind}{S:Keyed->Prop}{R:Keyed->Keyed->Bool}
structure Two(S:Keyed->Prop)(R:Keyed->Keyed->Bool)(a b:Array Keyed):Prop where
 ha:∀ x∈a.toList,S x
 hb:∀ x∈b.toList,S x
 sa:Srt R a.toList
 sb:Srt R b.toList
 a0:0<a.size
 b0:0<b.size
 first:∀ x∈a.toList,∀ y,b[0]?=some y->R x y=false
 last:∀ y∈b.toList,∀ x,a[a.size-1]?=some x->R x y=false
def Fin2(R:Keyed->Keyed->Bool)(a b m:Array Keyed):Prop:=m.toList.Perm (a.toList++b.toList)/\Srt R m.toList
structure Lo(S:Keyed->Prop)(R:Keyed->Keyed->Bool)(a b out:Array Keyed)(ia ib:Nat):Prop where
 mid:Mid R (a.toList++b.toList) out.toList (a.toList.drop ia) (b.toList.drop ib)
 ia:ia<=a.size
 ib:ib<=b.size
def Lo.len{a b out:Array Keyed}{ia ib:Nat}(l:Lo S R a b out ia ib):out.size+(a.size-ia)+(b.size-ib)=a.size+b.size:=by
 have:=l.mid.perm.length_eq
 simp at this
 lia
def Lo.doneA{a b out:Array Keyed}{ia ib:Nat}(l:Lo S R a b out ia ib)(h:ib=b.size\/ia=a.size):Fin2 R a b (out++a.extract ia++b.extract ib):=by
 have:=l.mid.done (by
  rcases h with h|h
  ·right;rw[h];simp
  ·left;rw[h];simp)
 unfold Fin2
 rw[Y5,Y5,zB,zB]
 exact this
def JP{a:Array Keyed}{i:Nat}(h:i+1=a.size):a.toList.drop i=[a[a.size-1]'(by lia)]:=by
 have hi:i<a.size:=by lia
 rw[V4 hi]
 have:i=a.size-1:=by lia
 subst this
 have e:a.toList.drop (a.size-1+1)=[]:=by
  apply List.drop_eq_nil_of_le
  simp;lia
 rw[e]
def Lo.lastA{a b out:Array Keyed}{ia ib:Nat}(T:Two S R a b)(l:Lo S R a b out ia ib)(h:ia+1=a.size):Fin2 R a b (out++b.extract ib++a.extract ia):=by
 have:=l.mid.last (by
  intro y d x c
  rw[JP h] at c
  have ex:x=a[a.size-1]'(by lia):=by simpa using c
  refine T.last y (J4 d) x ?_
  rw[ex]
  exact Q2 _)
 unfold Fin2
 rw[Y5,Y5,zB,zB]
 exact this
def dA{x:Keyed}{l:List Keyed}(C:Cmp M A E s κ S R)(h:Srt R (x::l))(b:S x):∀ y∈x::l,R y x=false:=by
 intro y a
 rcases Z0.mp a with e|a
 ·rw[e];exact C.irr b
 ·exact(List.pairwise_cons.mp h).1 y a
def Lo.pushB{a b out:Array Keyed}{ia ib:Nat}(C:Cmp M A E s κ S R)(T:Two S R a b)(l:Lo S R a b out ia ib)(hb:ib<b.size)(h:∀ x∈a.toList.drop ia,R x b[ib]=false):Lo S R a b (out.push b[ib]) ia (ib+1):=by
 refine⟨?_,l.ia,hb⟩
 have m:=l.mid
 rw[V4 hb] at m
 rw[Array.toList_push]
 exact m.takeB (p:=[b[ib]]) (λx c y d=>by
  have:x=b[ib]:=by simpa using c
  rw[this];exact h y d)
def Lo.pushA{a b out:Array Keyed}{ia ib:Nat}(l:Lo S R a b out ia ib)(ha:ia<a.size)(h:∀ y∈b.toList.drop ib,R y a[ia]=false):Lo S R a b (out.push a[ia]) (ia+1) ib:=by
 refine⟨?_,ha,l.ib⟩
 have m:=l.mid
 rw[V4 ha] at m
 rw[Array.toList_push]
 exact m.takeA (p:=[a[ia]]) (λx c y d=>by
  have:x=a[ia]:=by simpa using c
  rw[this];exact h y d)
def Lo.runA{a b out:Array Keyed}{ia ib k:Nat}(l:Lo S R a b out ia ib)(d:ia+k<=a.size)(h:∀ x∈(a.toList.drop ia).take k,∀ y∈b.toList.drop ib,R y x=false):Lo S R a b (out++a.extract ia (ia+k)) (ia+k) ib:=by
 refine⟨?_,d,l.ib⟩
 have m:=l.mid
 rw[← t5 k (a.toList.drop ia)] at m
 rw[Y5,jC]
 have c:=m.takeA h
 rw[List.drop_drop] at c
 exact c
def Lo.runB{a b out:Array Keyed}{ia ib k:Nat}(l:Lo S R a b out ia ib)(d:ib+k<=b.size)(h:∀ x∈(b.toList.drop ib).take k,∀ y∈a.toList.drop ia,R y x=false):Lo S R a b (out++b.extract ib (ib+k)) ia (ib+k):=by
 refine⟨?_,l.ia,d⟩
 have m:=l.mid
 rw[← t5 k (b.toList.drop ib)] at m
 rw[Y5,jC]
 have c:=m.takeB h
 rw[List.drop_drop] at c
 exact c
def P7{l:List Keyed}{i:Nat}(h:Srt R l):Srt R (l.drop i):=List.Pairwise.sublist (List.drop_sublist i l) h
def jpn{α β:Type}{prog : β->StateT SortSt Sem α}{P : β->Prop}{Q : α->SortSt->Prop}{st:SortSt}{G:Prop}(use:(∀ m,P m->wpS M A E s (prog m) Q st)->G)(a:∀ m,P m->wpS M A E s (prog m) Q st):G:=use a
def jpn2{α:Type}{prog:Array Keyed->Nat->StateT SortSt Sem α}{P:Array Keyed->Nat->Prop}{Q : α->SortSt->Prop}{st:SortSt}{G:Prop}(use:(∀ o i,P o i->wpS M A E s (prog o i) Q st)->G)(a:∀ o i,P o i->wpS M A E s (prog o i) Q st):G:=use a
section
variable{ρ β γ δ ε ζ η:Type}
@[elab_as_elim] theorem un5 {J : β->γ->δ->ε->Prop} {G:Option ρ × β × γ × δ × ε->Prop} (z:Option ρ × β × γ × δ × ε) (h:z.1=none/\J z.2.1 z.2.2.1 z.2.2.2.1 z.2.2.2.2) (k:∀ x y u v,J x y u v->G (none,x,y,u,v)):G z:=by
 have e:z=(none,z.2.1,z.2.2.1,z.2.2.2.1,z.2.2.2.2):=by rw[← h.1]
 rw[e];exact k _ _ _ _ h.2
@[elab_as_elim] theorem un6 {J : β->γ->δ->ε->ζ->Prop} {G:Option ρ × β × γ × δ × ε × ζ->Prop} (z:Option ρ × β × γ × δ × ε × ζ) (h:z.1=none/\J z.2.1 z.2.2.1 z.2.2.2.1 z.2.2.2.2.1 z.2.2.2.2.2) (k:∀ x y u v a,J x y u v a->G (none,x,y,u,v,a)):G z:=by
 have e:z=(none,z.2.1,z.2.2.1,z.2.2.2.1,z.2.2.2.2.1,z.2.2.2.2.2):=by rw[← h.1]
 rw[e];exact k _ _ _ _ _ h.2
@[elab_as_elim] theorem un7 {J : β->γ->δ->ε->ζ->η->Prop} {G:Option ρ × β × γ × δ × ε × ζ × η->Prop} (z:Option ρ × β × γ × δ × ε × ζ × η) (h:z.1=none/\J z.2.1 z.2.2.1 z.2.2.2.1 z.2.2.2.2.1 z.2.2.2.2.2.1 z.2.2.2.2.2.2) (k:∀ x y u v a b,J x y u v a b->G (none,x,y,u,v,a,b)):G z:=by
 have e:z=(none,z.2.1,z.2.2.1,z.2.2.2.1,z.2.2.2.2.1,z.2.2.2.2.2.1,z.2.2.2.2.2.2):=by rw[← h.1]
 rw[e];exact k _ _ _ _ _ _ h.2
@[elab_as_elim] theorem unR {κ:Type} {F : ρ->Prop} {J : κ->Prop} {G:Option ρ × κ->Prop} (z:Option ρ × κ) (h:(∃ r,z.1=some r/\F r)\/(z.1=none/\J z.2)) (k1:∀ r x,F r->G (some r,x)) (k2:z.1=none/\J z.2->G z):G z:=by
 rcases h with ⟨r,e,a⟩|h
 ·have e:z=(some r,z.2):=by rw[← e]
  rw[e];exact k1 _ _ a
 ·exact k2 h
end
def L1{c:Prop} [Decidable c] {α:Type} {b a:StateT SortSt Sem α} {Q : α->SortSt->Prop} {st:SortSt} (f:c->wpS M A E s b Q st) (d:¬ c->wpS M A E s a Q st):wpS M A E s (if c then b else a) Q st:=by
 by_cases h:c
 ·rw[t0 h];exact f h
 ·rw[y0 h];exact d h
def OR (C:Cmp M A E s κ S R) {a b:Array Keyed} (T:Two S R a b) {Q:Array Keyed->SortSt->Prop} {st:SortSt} (hk:kindOf st = κ)
  (h:∀ m st',Eqv st st'->Fin2 R a b m->Q m st'):wpS M A E s (oN a b) Q st:=by
 have L:∀ i (h:i<a.size),S a[i]:=λi h=>T.ha _ (by simp)
 have K:∀ i (h:i<b.size),S b[i]:=λi h=>T.hb _ (by simp)
 have b0:=T.b0
 have a0:=T.a0
 refine wpS_bind (X8 ?_)
 refine wpS_bind (z3 (x:=b[0]'b0) (Q2 b0) ?_)
 have l1:Lo S R a b #[b[0]'b0] 0 1:=by
  have l0:Lo S R a b #[] 0 0:=⟨⟨by simp,List.Pairwise.nil,λx w=>by simp at w,T.sa,T.sb⟩,Y3 _,Y3 _⟩
  exact l0.pushB C T b0 λx w=>T.first x (by simpa using w) _ (Q2 b0)
 refine L1 (λe1=>wpS_pure (h _ _ (Eqv.refl _) (l1.doneA (.inl (N1.mp e1))))) (λe1=>?_)
 refine L1 (λe2=>wpS_pure (h _ _ (Eqv.refl _) (l1.lastA T (N1.mp e2)))) (λe2=>?_)
 replace e1:1 ≠ b.size:=λq=>e1 (N1.mpr q)
 replace e2:0+1 ≠ a.size:=λq=>e2 (N1.mpr q)
 refine wpS_bind (wpS_get ?_)
 refine wpS_bind (wpS_mono (Q:=λ(z:Option (Array Keyed) × Array Keyed × Nat × Nat × Nat) st'=>Eqv st st'/\∃ r,z.1=some r/\Fin2 R a b r) ?_ ?_)
 ·refine wpS_forRange (λt (z:Option (Array Keyed) × Array Keyed × Nat × Nat × Nat) st'=>Eqv st st'/\z.1=none/\Lo S R a b z.2.1 z.2.2.1 z.2.2.2.1/\z.2.2.1+1<a.size/\z.2.2.2.1<b.size/\t+1<=z.2.1.size) ?_ ?_ ⟨Eqv.refl _,rfl,l1,by dsimp only;lia,by dsimp only;lia,by simp⟩
  ·intro t z a8 _ ht n
   have q1:=n.1
   refine un5 (J:=λout ia ib _=>Lo S R a b out ia ib/\ia+1<a.size/\ib<b.size/\t+1<=out.size) z n.2 λout ia ib mg v=>?_
   dsimp only
   refine wpS_bind (wpS_mono (Q:=λ(z:Option (Array Keyed) × Array Keyed × Nat × Nat × Nat × Nat) st'=>Eqv st st'/\((∃ r,z.1=some r/\Fin2 R a b r)\/(z.1=none/\Lo S R a b z.2.1 z.2.2.1 z.2.2.2.1/\z.2.2.1+1<a.size/\z.2.2.2.1<b.size/\t+2<=z.2.1.size))) ?_ ?_)
   ·refine wpS_forRange (λi (z:Option (Array Keyed) × Array Keyed × Nat × Nat × Nat × Nat) st'=>Eqv st st'/\z.1=none/\Lo S R a b z.2.1 z.2.2.1 z.2.2.2.1/\z.2.2.1+1<a.size/\z.2.2.2.1<b.size/\t+1+min i 1<=z.2.1.size) ?_ ?_ ⟨q1,rfl,v.1,v.2.1,v.2.2.1,v.2.2.2⟩
    ·intro i z o _ hi n
     have q:=n.1
     refine un6 (J:=λout ia ib _ _=>Lo S R a b out ia ib/\ia+1<a.size/\ib<b.size/\t+1+min i 1<=out.size) z n.2 λout ia ib ac bc v=>?_
     have l:=v.1
     have G:=v.2.1
     have d:=v.2.2.1
     have hsz:=v.2.2.2
     have g:ia<a.size:=Nat.lt_of_succ_lt G
     refine wpS_bind (z3 (x:=b[ib]) (Q2 d) ?_)
     refine wpS_bind (z3 (x:=a[ia]) (Q2 g) ?_)
     refine wpS_bind (C.ask _ _ (K ib d) (L ia g) _ _ (q.k.trans hk) ?_)
     dsimp only
     refine L1 (λer=>?_) (λer=>?_)
     ·refine wpS_bind (z3 (x:=b[ib]) (Q2 d) ?_)
      have D:Lo S R a b (out.push b[ib]) ia (ib+1):=l.pushB C T d λx w=>by
       rw[V4 g] at w
       have hd:Srt R (a[ia]::a.toList.drop (ia+1)):=by rw[← V4 g];exact P7 T.sa
       have sx:S x:=T.ha x (J4 (i:=ia) (by rw[V4 g];exact w))
       exact C.tr _ _ _ (K ib d) (L ia g) sx (C.asy _ _ (K ib d) (L ia g) er) (dA C hd (L ia g) x w)
      refine L1 (λF=>wpS_pure ⟨q,.inl ⟨_,rfl,D.doneA (.inl (N1.mp F))⟩⟩) (λF=>?_)
      have hf:ib+1<b.size/\t+2<=(out.push b[ib]).size:=by
       have Y:ib+1 ≠ b.size:=λq=>F (N1.mpr q)
       rw[S6];lia
      refine L1 (λ_=>wpS_pure ⟨q,.inr ⟨rfl,D,G,hf⟩⟩) (λ_=>wpS_pure ⟨q,rfl,D,G,hf.1,T2 (by lia) hf.2⟩)
     ·refine wpS_bind (z3 (x:=a[ia]) (Q2 g) ?_)
      have D:Lo S R a b (out.push a[ia]) (ia+1) ib:=l.pushA g λy H=>by
       rw[V4 d] at H
       have hd:Srt R (b[ib]::b.toList.drop (ib+1)):=by rw[← V4 d];exact P7 T.sb
       have sy:S y:=T.hb y (J4 (i:=ib) (by rw[V4 d];exact H))
       exact C.tr _ _ _ (L ia g) (K ib d) sy (eq_false_of_ne_true er) (dA C hd (K ib d) y H)
      refine L1 (λF=>wpS_pure ⟨q,.inl ⟨_,rfl,D.lastA T (N1.mp F)⟩⟩) (λF=>?_)
      have hf:ia+1+1<a.size/\ib<b.size/\t+2<=(out.push a[ia]).size:=by
       have Y:ia+1+1 ≠ a.size:=λq=>F (N1.mpr q)
       rw[S6];lia
      refine L1 (λ_=>wpS_pure ⟨q,.inr ⟨rfl,D,hf⟩⟩) (λ_=>wpS_pure ⟨q,rfl,D,hf.1,d,T2 (by lia) hf.2.2⟩)
    ·exact λz o n=>⟨n.1,.inr ⟨n.2.1,n.2.2.1,n.2.2.2.1,n.2.2.2.2.1,T2 (by lia) n.2.2.2.2.2⟩⟩
   ·intro z o n
    have U:=n.1
    refine unR (J:=λy:Array Keyed × Nat × Nat × Nat × Nat=>Lo S R a b y.1 y.2.1 y.2.2.1/\y.2.1+1<a.size/\y.2.2.1<b.size/\t+2<=y.1.size) z n.2 (λr x hr=>wpS_pure ⟨U,r,rfl,hr⟩) λX=>?_
    refine un6 (J:=λout ia ib _ _=>Lo S R a b out ia ib/\ia+1<a.size/\ib<b.size/\t+2<=out.size) z X λout ia ib ac bc v=>?_
    dsimp only
    refine wpS_bind (X8 ?_)
    refine wpS_bind (wpS_mono (Q:=λ(z:Option (Array Keyed) × Array Keyed × Nat × Nat × Nat × Nat × Nat) st'=>Eqv st st'/\((∃ r,z.1=some r/\Fin2 R a b r)\/(z.1=none/\Lo S R a b z.2.1 z.2.2.1 z.2.2.2.1/\z.2.2.1+1<a.size/\z.2.2.2.1<b.size/\t+2<=z.2.1.size))) ?_ ?_)
    ·refine wpS_forRange (λi (z:Option (Array Keyed) × Array Keyed × Nat × Nat × Nat × Nat × Nat) st'=>Eqv st st'/\z.1=none/\Lo S R a b z.2.1 z.2.2.1 z.2.2.2.1/\z.2.2.1+1<a.size/\z.2.2.2.1<b.size/\t+2<=z.2.1.size) ?_ (λz o n=>⟨n.1,.inr n.2⟩) ⟨U,rfl,v⟩
     intro i z o _ hi n
     have q:=n.1
     refine un7 (J:=λout ia ib _ _ _=>Lo S R a b out ia ib/\ia+1<a.size/\ib<b.size/\t+2<=out.size) z n.2 λout ia ib mg ac bc v=>?_
     have l:=v.1
     have G:=v.2.1
     have d:=v.2.2.1
     have hsz:=v.2.2.2
     dsimp only
     refine' jpn (M:=M) (A:=A) (E:=E) (s:=s) (st:=o) (β:=Nat) (P:=λ_=>True) (prog:=?prog) (λO=>?use) (λa6 _=>?pf)
     case use =>
      refine L1 (λhm=>?_) (λhm=>?_)
      ·generalize mg-1=m
       exact O m trivial
      ·exact O mg trivial
     refine wpS_bind (wpS_mono (Q:=λ_ N=>Eqv o N) (wpS_modify ⟨rfl,rfl,rfl,rfl⟩) λ_ N I=>?_)
     replace I:=q.trans I
     refine wpS_bind (z3 (x:=b[ib]) (Q2 d) ?_)
     refine wpS_bind (eD C (K ib d) T.ha (by lia) (by rw[G8 (by simp)];exact P7 T.sa) (by lia) (I.k.trans hk) λk a4 h1 h2=>?_)
     rw[G8 (by simp),List.drop_drop] at h2
     dsimp only
     refine' jpn2 (M:=M) (A:=A) (E:=E) (s:=s) (st:=N) (P:=λj c=>Lo S R a b j c ib/\c+1<a.size/\(∀ x∈a.toList.drop c,R x b[ib]=false)/\t+2<=j.size) (prog:=?prog2) (λO=>?use2) (λj c h5=>?pf2)
     case use2 =>
      have u:∀ x∈a.toList.drop (ia+k),R x b[ib]=false:=λx w=>C.asy _ _ (K ib d) (T.ha x (J4 w)) (h2 x w)
      refine L1 (λk0=>?_) (λk0=>?_)
      ·have D:Lo S R a b (out++a.extract ia (ia+k)) (ia+k) ib:=l.runA (by lia) λx w y H=>by
        rw[V4 d] at H
        have hd:Srt R (b[ib]::b.toList.drop (ib+1)):=by rw[← V4 d];exact P7 T.sb
        have sy:S y:=T.hb y (J4 (i:=ib) (by rw[V4 d];exact H))
        exact C.tr _ _ _ (T.ha x (J4 (t4 w))) (K ib d) sy (h1 x w) (dA C hd (K ib d) y H)
       refine L1 (λF=>wpS_pure ⟨I,.inl ⟨_,rfl,D.lastA T (N1.mp F)⟩⟩) (λF=>?_)
       refine L1 (λe4=>wpS_pure ⟨I,.inl ⟨_,rfl,D.doneA (.inr (N1.mp e4))⟩⟩) (λe4=>?_)
       have W:Lo S R a b (out++a.extract ia (ia+k)) (ia+k) ib/\ia+k+1<a.size/\(∀ x∈a.toList.drop (ia+k),R x b[ib]=false)/\t+2<=(out++a.extract ia (ia+k)).size:=by
        have Y:ia+k+1 ≠ a.size:=λq=>F (N1.mpr q)
        have a3:ia+k ≠ a.size:=λq=>e4 (N1.mpr q)
        exact⟨D,by lia,u,by rw[Array.size_append];lia⟩
       revert W
       clear F e4 D u
       generalize out++a.extract ia (ia+k)=j
       generalize ia+k=c
       intro W
       exact O j c W
      ·have:k=0:=by lia
       rw[this] at u
       exact O out ia ⟨l,G,u,hsz⟩
     have l3:=h5.1
     have Z:=h5.2.1
     have a1:=h5.2.2.1
     have a2:=h5.2.2.2
     have f:c<a.size:=Nat.lt_of_succ_lt Z
     refine wpS_bind (z3 (x:=b[ib]) (Q2 d) ?_)
     have l4:=l3.pushB C T d a1
     refine L1 (λe5=>wpS_pure ⟨I,.inl ⟨_,rfl,l4.doneA (.inl (N1.mp e5))⟩⟩) (λe5=>?_)
     replace e5:ib+1 ≠ b.size:=λq=>e5 (N1.mpr q)
     refine wpS_bind (z3 (x:=a[c]) (Q2 f) ?_)
     refine wpS_bind (MC C (L c f) T.hb (by lia) (by rw[G8 (by simp)];exact P7 T.sb) (by lia) (I.k.trans hk) λk2 a7 h3 h4=>?_)
     rw[G8 (by simp),List.drop_drop] at h4
     dsimp only
     refine' jpn2 (M:=M) (A:=A) (E:=E) (s:=s) (st:=N) (P:=λp B=>Lo S R a b p c B/\B<b.size/\(∀ y∈b.toList.drop B,R y a[c]=false)/\t+2<=p.size) (prog:=?prog3) (λO=>?use3) (λp B h6=>?pf3)
     case use3 =>
      refine L1 (λk0=>?_) (λk0=>?_)
      ·have hd:Srt R (a[c]::a.toList.drop (c+1)):=by rw[← V4 f];exact P7 T.sa
       have l5:Lo S R a b (j.push b[ib]++b.extract (ib+1) (ib+1+k2)) c (ib+1+k2):=l4.runB (by lia) λx w y H=>by
        rw[V4 f] at H
        have sy:S y:=T.ha y (J4 (i:=c) (by rw[V4 f];exact H))
        have sx:S x:=T.hb x (J4 (t4 w))
        exact C.tr _ _ _ sx (L c f) sy (C.asy _ _ sx (L c f) (h3 x w)) (dA C hd (L c f) y H)
       refine L1 (λe6=>wpS_pure ⟨I,.inl ⟨_,rfl,l5.doneA (.inl (N1.mp e6))⟩⟩) (λe6=>?_)
       have W:Lo S R a b (j.push b[ib]++b.extract (ib+1) (ib+1+k2)) c (ib+1+k2)/\ib+1+k2<b.size/\(∀ y∈b.toList.drop (ib+1+k2),R y a[c]=false)/\t+2<=(j.push b[ib]++b.extract (ib+1) (ib+1+k2)).size:=by
        have a5:ib+1+k2 ≠ b.size:=λq=>e6 (N1.mpr q)
        exact⟨l5,by lia,h4,by rw[Array.size_append,S6];lia⟩
       revert W
       clear e6 l5 hd
       generalize j.push b[ib]++b.extract (ib+1) (ib+1+k2)=p
       generalize ib+1+k2=B
       intro W
       exact O p B W
      ·have:k2=0:=by lia
       rw[this] at h4
       exact O (j.push b[ib]) (ib+1) ⟨l4,by lia,h4,by rw[S6];lia⟩
     refine wpS_bind (z3 (x:=a[c]) (Q2 f) ?_)
     have l7:=h6.1.pushA f h6.2.2.1
     refine L1 (λe7=>wpS_pure ⟨I,.inl ⟨_,rfl,l7.lastA T (N1.mp e7)⟩⟩) (λe7=>?_)
     have hf:c+1+1<a.size/\B<b.size/\t+2<=(p.push a[c]).size:=by
      have a9:c+1+1 ≠ a.size:=λq=>e7 (N1.mpr q)
      have h7:=h6.2.2.2
      exact⟨by lia,h6.2.1,by rw[S6];lia⟩
     exact L1 (λ_=>wpS_pure ⟨I,.inr ⟨rfl,l7,hf⟩⟩) (λ_=>wpS_pure ⟨I,rfl,l7,hf⟩)
    ·intro z o n
     have U:=n.1
     refine unR (J:=λy:Array Keyed × Nat × Nat × Nat × Nat × Nat=>Lo S R a b y.1 y.2.1 y.2.2.1/\y.2.1+1<a.size/\y.2.2.1<b.size/\t+2<=y.1.size) z n.2 (λr x hr=>wpS_pure ⟨U,r,rfl,hr⟩) λX=>?_
     refine un7 (J:=λout ia ib _ _ _=>Lo S R a b out ia ib/\ia+1<a.size/\ib<b.size/\t+2<=out.size) z X λout ia ib mg ac bc v=>?_
     dsimp only
     refine wpS_bind (wpS_modify ?_)
     exact wpS_pure ⟨U.trans ⟨rfl,rfl,rfl,rfl⟩,rfl,v⟩
  ·intro z o n
   exfalso
   have h1:=n.2.2.1.len
   have h2:=n.2.2.2
   have:a.size+b.size<=max 0 (a.size+b.size):=by lia
   lia
 ·intro z o n
  have U:=n.1
  exact unR (J:=λ_=>False) z (.inl n.2) (λr x hr=>wpS_pure (h r o U hr)) λX=>X.2.elim
end
structure MidH(R:Keyed->Keyed->Bool)(L a b tl:List Keyed):Prop where
 perm:(a++b++tl).Perm L
 so:Srt R tl
 le:∀ x∈a++b,∀ y∈tl,R y x=false
 sa:Srt R a
 sb:Srt R b
section
variable{R:Keyed->Keyed->Bool}{L tl a b p:List Keyed}
def MidH.takeA(m:MidH R L (a++p) b tl)(h:∀ x∈b,∀ y∈p,R y x=false):MidH R L a b (p++tl):=by
 have sp:=V3.mp m.sa
 refine⟨List.Perm.trans ?_ m.perm,V3.mpr ⟨sp.2.1,m.so,λx c y d=>m.le x (U4 _ (K3 _ c)) y d⟩,λx c y d=>?_,sp.1,m.sb⟩
 ·rw[← Y2,Y2 a p b,Y2 a b p]
  exact List.Perm.append_right tl (List.Perm.append_left a List.perm_append_comm)
 ·rcases E1.mp d with d|d
  ·rcases E1.mp c with c|c
   ·exact sp.2.2 x c y d
   ·exact h x c y d
  ·refine m.le x ?_ y d
   rcases E1.mp c with c|c
   ·exact U4 _ (U4 _ c)
   ·exact K3 _ c
def MidH.takeB(m:MidH R L a (b++p) tl)(h:∀ x∈a,∀ y∈p,R y x=false):MidH R L a b (p++tl):=by
 have sp:=V3.mp m.sb
 refine⟨by have:=m.perm;simp only[Y2] at this ⊢;exact this,V3.mpr ⟨sp.2.1,m.so,λx c y d=>m.le x (K3 _ (K3 _ c)) y d⟩,λx c y d=>?_,m.sa,sp.1⟩
 rcases E1.mp d with d|d
 ·rcases E1.mp c with c|c
  ·exact h x c y d
  ·exact sp.2.2 x c y d
 ·refine m.le x ?_ y d
  rcases E1.mp c with c|c
  ·exact U4 _ c
  ·exact K3 _ (U4 _ c)
def MidH.done(m:MidH R L a b tl)(h:a=[]\/b=[]):(a++b++tl).Perm L/\Srt R (a++b++tl):=by
 refine⟨m.perm,V3.mpr ⟨?_,m.so,m.le⟩⟩
 rcases h with h|h
 ·subst h;exact m.sb
 ·subst h;rw[n5];exact m.sa
def MidH.first(m:MidH R L a b tl)(h:∀ y∈b,∀ x∈a,R x y=false):(b++a++tl).Perm L/\Srt R (b++a++tl):=by
 refine⟨List.Perm.trans (List.Perm.append_right tl List.perm_append_comm) m.perm,V3.mpr ⟨V3.mpr ⟨m.sb,m.sa,h⟩,m.so,λx c y d=>m.le x ?_ y d⟩⟩
 rcases E1.mp c with c|c
 ·exact K3 _ c
 ·exact U4 _ c
end
def i6{a:Array Keyed}{i:Nat}(c:0<i)(h:i<=a.size):a.toList.take i=a.toList.take (i-1)++[a[i-1]'(by lia)]:=by
 obtain⟨j,rfl⟩:∃ j,i=j+1:=⟨i-1,by lia⟩
 rw[List.take_succ]
 have b:j<a.size:=by lia
 simp[b]
def DA(a:Array Keyed)(k:Nat):(a.extract 0 k).toList=a.toList.take k:=by
 rw[Array.toList_extract];simp[List.extract]
def FD(a:Array Keyed)(k n:Nat):(a.extract k n).toList=(a.toList.take n).drop k:=by
 rw[Array.toList_extract];simp[List.extract,List.drop_take]
section
variable{M:Model}{A:Around}{E:Value->Shared->Prop}{s:Shared}{κ:SortKind}{S:Keyed->Prop}{R:Keyed->Keyed->Bool}
structure Hi(S:Keyed->Prop)(R:Keyed->Keyed->Bool)(a b out:Array Keyed)(na nb:Nat):Prop where
 mid:MidH R (a.toList++b.toList) (a.toList.take na) (b.toList.take nb) out.toList.reverse
 na:na<=a.size
 nb:nb<=b.size
def Hi.len{a b out:Array Keyed}{na nb:Nat}(l:Hi S R a b out na nb):out.size+na+nb=a.size+b.size:=by
 have:=l.mid.perm.length_eq
 have d:=l.na
 have c:=l.nb
 simp at this
 lia
def Hi.doneA{a b out:Array Keyed}{na nb:Nat}(l:Hi S R a b out na nb)(h:na=0\/nb=0):Fin2 R a b (a.extract 0 na++b.extract 0 nb++out.reverse):=by
 have:=l.mid.done (by
  rcases h with h|h
  ·left;rw[h];simp
  ·right;rw[h];simp)
 unfold Fin2
 rw[Y5,Y5,DA,DA,Array.toList_reverse]
 exact this
def Hi.firstB{a b out:Array Keyed}{na nb:Nat}(T:Two S R a b)(l:Hi S R a b out na nb)(h:nb=1):Fin2 R a b (b.extract 0 nb++a.extract 0 na++out.reverse):=by
 subst h
 have:=l.mid.first (by
  intro y c x d
  rw[i6 (by decide) l.nb] at c
  have f:y=b[0]'T.b0:=by simpa using c
  exact T.first x (t4 d) y (by rw[f];exact Q2 _))
 unfold Fin2
 rw[Y5,Y5,DA,DA,Array.toList_reverse]
 exact this
def R6{l:List Keyed}{i:Nat}(h:Srt R l):Srt R (l.take i):=List.Pairwise.sublist (List.take_sublist i l) h
def gA{x:Keyed}{l:List Keyed}(C:Cmp M A E s κ S R)(h:Srt R (l++[x]))(b:S x):∀ y∈l++[x],R x y=false:=by
 intro y a
 rcases E1.mp a with a|a
 ·exact(V3.mp h).2.2 y a x (by simp)
 ·have:y=x:=by simpa using a
  rw[this];exact C.irr b
def Hi.pushA{a b out:Array Keyed}{na nb:Nat}(l:Hi S R a b out na nb)(d:0<na)(h:∀ x∈b.toList.take nb,R (a[na-1]'(by have:=l.na;lia)) x=false):Hi S R a b (out.push (a[na-1]'(by have:=l.na;lia))) (na-1) nb:=by
 refine⟨?_,by have:=l.na;lia,l.nb⟩
 have m:=l.mid
 rw[i6 d l.na] at m
 rw[Array.toList_push,List.reverse_append]
 exact m.takeA (p:=[_]) (λx c y f=>by
  rw[N2.mp f];exact h x c)
def Hi.pushB{a b out:Array Keyed}{na nb:Nat}(l:Hi S R a b out na nb)(d:0<nb)(h:∀ x∈a.toList.take na,R (b[nb-1]'(by have:=l.nb;lia)) x=false):Hi S R a b (out.push (b[nb-1]'(by have:=l.nb;lia))) na (nb-1):=by
 refine⟨?_,l.na,by have:=l.nb;lia⟩
 have m:=l.mid
 rw[i6 d l.nb] at m
 rw[Array.toList_push,List.reverse_append]
 exact m.takeB (p:=[_]) (λx c y f=>by
  rw[N2.mp f];exact h x c)
def Hi.runA{a b out:Array Keyed}{na nb k:Nat}(l:Hi S R a b out na nb)(d:k<=na)(h:∀ x∈b.toList.take nb,∀ y∈(a.toList.take na).drop k,R y x=false):Hi S R a b (out++(a.extract k na).reverse) k nb:=by
 refine⟨?_,by have:=l.na;lia,l.nb⟩
 have m:=l.mid
 rw[← t5 k (a.toList.take na)] at m
 rw[Y5,Array.toList_reverse,FD,List.reverse_append,List.reverse_reverse]
 have c:=m.takeA h
 rw[List.take_take,Nat.min_eq_left d] at c
 exact c
def Hi.runB{a b out:Array Keyed}{na nb k:Nat}(l:Hi S R a b out na nb)(d:k<=nb)(h:∀ x∈a.toList.take na,∀ y∈(b.toList.take nb).drop k,R y x=false):Hi S R a b (out++(b.extract k nb).reverse) na k:=by
 refine⟨?_,l.na,by have:=l.nb;lia⟩
 have m:=l.mid
 rw[← t5 k (b.toList.take nb)] at m
 rw[Y5,Array.toList_reverse,FD,List.reverse_append,List.reverse_reverse]
 have c:=m.takeB h
 rw[List.take_take,Nat.min_eq_left d] at c
 exact c
def xR (C:Cmp M A E s κ S R) {a b:Array Keyed} (T:Two S R a b) {Q:Array Keyed->SortSt->Prop} {st:SortSt} (hk:kindOf st = κ)
  (h:∀ m st',Eqv st st'->Fin2 R a b m->Q m st'):wpS M A E s (PK a b) Q st:=by
 have K:∀ i (h:i<a.size),S a[i]:=λi h=>T.ha _ (by simp)
 have I:∀ i (h:i<b.size),S b[i]:=λi h=>T.hb _ (by simp)
 have b0:=T.b0
 have a0:=T.a0
 have la:a.size-1<a.size:=by lia
 refine wpS_bind (X8 ?_)
 refine wpS_bind (z3 (x:=a[a.size-1]'la) (Q2 la) ?_)
 have l1:Hi S R a b #[a[a.size-1]'la] (a.size-1) b.size:=by
  have l0:Hi S R a b #[] a.size b.size:=⟨⟨by simp[G8],List.Pairwise.nil,λx j y Y=>by simp at Y,R6 T.sa,R6 T.sb⟩,N0 _,N0 _⟩
  exact l0.pushA a0 λx j=>T.last x (t4 j) _ (Q2 la)
 refine L1 (λe1=>wpS_pure (h _ _ (Eqv.refl _) (l1.doneA (.inl (N1.mp e1))))) (λe1=>?_)
 refine L1 (λe2=>wpS_pure (h _ _ (Eqv.refl _) (l1.firstB T (N1.mp e2)))) (λe2=>?_)
 replace e1:a.size-1 ≠ 0:=λq=>e1 (N1.mpr q)
 replace e2:b.size ≠ 1:=λq=>e2 (N1.mpr q)
 refine wpS_bind (wpS_get ?_)
 have a6:∀{na nb:Nat}(G:0<na)(H:na<=a.size)(W:0<nb)(O:nb<=b.size),R (b[nb-1]'(by lia)) (a[na-1]'(by lia))=true->∀ x∈b.toList.take nb,R (a[na-1]'(by lia)) x=false:=λ{na nb} G H W O er x j=>by
  have Z:S x:=T.hb x (t4 j)
  have hs:Srt R (b.toList.take (nb-1)++[b[nb-1]'(by lia)]):=by rw[← i6 W O];exact R6 T.sb
  rw[i6 W O] at j
  exact C.tr _ _ _ Z (I _ _) (K _ _) (gA C hs (I _ _) x j) (C.asy _ _ (I _ _) (K _ _) er)
 have b2:∀{na nb:Nat}(G:0<na)(H:na<=a.size)(W:0<nb)(O:nb<=b.size),R (b[nb-1]'(by lia)) (a[na-1]'(by lia))=false->∀ x∈a.toList.take na,R (b[nb-1]'(by lia)) x=false:=λ{na nb} G H W O er x j=>by
  have Z:S x:=T.ha x (t4 j)
  have hs:Srt R (a.toList.take (na-1)++[a[na-1]'(by lia)]):=by rw[← i6 G H];exact R6 T.sa
  rw[i6 G H] at j
  exact C.tr _ _ _ Z (K _ _) (I _ _) (gA C hs (K _ _) x j) er
 refine wpS_bind (wpS_mono (Q:=λ(z:Option (Array Keyed) × Nat × Nat × Array Keyed × Nat) st'=>Eqv st st'/\∃ r,z.1=some r/\Fin2 R a b r) ?_ ?_)
 ·refine wpS_forRange (λt (z:Option (Array Keyed) × Nat × Nat × Array Keyed × Nat) st'=>Eqv st st'/\z.1=none/\Hi S R a b z.2.2.2.1 z.2.1 z.2.2.1/\0<z.2.1/\1<z.2.2.1/\t+1<=z.2.2.2.1.size) ?_ ?_ ⟨Eqv.refl _,rfl,l1,by dsimp only;lia,by dsimp only;lia,by simp⟩
  ·intro t z b7 _ ht f
   have q1:=f.1
   refine un5 (J:=λna nb out _=>Hi S R a b out na nb/\0<na/\1<nb/\t+1<=out.size) z f.2 λna nb out mg o=>?_
   dsimp only
   refine wpS_bind (wpS_mono (Q:=λ(z:Option (Array Keyed) × Nat × Nat × Array Keyed × Nat × Nat) st'=>Eqv st st'/\((∃ r,z.1=some r/\Fin2 R a b r)\/(z.1=none/\Hi S R a b z.2.2.2.1 z.2.1 z.2.2.1/\0<z.2.1/\1<z.2.2.1/\t+2<=z.2.2.2.1.size))) ?_ ?_)
   ·refine wpS_forRange (λi (z:Option (Array Keyed) × Nat × Nat × Array Keyed × Nat × Nat) st'=>Eqv st st'/\z.1=none/\Hi S R a b z.2.2.2.1 z.2.1 z.2.2.1/\0<z.2.1/\1<z.2.2.1/\t+1+min i 1<=z.2.2.2.1.size) ?_ ?_ ⟨q1,rfl,o.1,o.2.1,o.2.2.1,o.2.2.2⟩
    ·intro i z g _ hi f
     have q:=f.1
     refine un6 (J:=λna nb out _ _=>Hi S R a b out na nb/\0<na/\1<nb/\t+1+min i 1<=out.size) z f.2 λna nb out ac bc o=>?_
     have l:=o.1
     have p:=o.2.1
     have a2:=o.2.2.1
     have hsz:=o.2.2.2
     have ia:na-1<a.size:=by have:=l.na;lia
     have ib:nb-1<b.size:=by have:=l.nb;lia
     refine wpS_bind (z3 (x:=b[nb-1]) (Q2 ib) ?_)
     refine wpS_bind (z3 (x:=a[na-1]) (Q2 ia) ?_)
     refine wpS_bind (C.ask _ _ (I _ ib) (K _ ia) _ _ (q.k.trans hk) ?_)
     dsimp only
     refine L1 (λer=>?_) (λer=>?_)
     ·refine wpS_bind (z3 (x:=a[na-1]) (Q2 ia) ?_)
      have B:=l.pushA p (a6 p l.na (by lia) l.nb er)
      refine L1 (λv=>wpS_pure ⟨q,.inl ⟨_,rfl,B.doneA (.inl (N1.mp v))⟩⟩) (λv=>?_)
      have hf:0<na-1/\1<nb/\t+2<=(out.push a[na-1]).size:=by
       have a3:na-1 ≠ 0:=λq=>v (N1.mpr q)
       rw[S6];lia
      exact L1 (λ_=>wpS_pure ⟨q,.inr ⟨rfl,B,hf⟩⟩) (λ_=>wpS_pure ⟨q,rfl,B,hf.1,a2,T2 (by lia) hf.2.2⟩)
     ·refine wpS_bind (z3 (x:=b[nb-1]) (Q2 ib) ?_)
      have B:=l.pushB (by lia) (b2 p l.na (by lia) l.nb (eq_false_of_ne_true er))
      refine L1 (λv=>wpS_pure ⟨q,.inl ⟨_,rfl,B.firstB T (N1.mp v)⟩⟩) (λv=>?_)
      have hf:1<nb-1/\t+2<=(out.push b[nb-1]).size:=by
       have a3:nb-1 ≠ 1:=λq=>v (N1.mpr q)
       rw[S6];lia
      exact L1 (λ_=>wpS_pure ⟨q,.inr ⟨rfl,B,p,hf⟩⟩) (λ_=>wpS_pure ⟨q,rfl,B,p,hf.1,T2 (by lia) hf.2⟩)
    ·exact λz g f=>⟨f.1,.inr ⟨f.2.1,f.2.2.1,f.2.2.2.1,f.2.2.2.2.1,T2 (by lia) f.2.2.2.2.2⟩⟩
   ·intro z g f
    have q2:=f.1
    refine unR (J:=λy:Nat × Nat × Array Keyed × Nat × Nat=>Hi S R a b y.2.2.1 y.1 y.2.1/\0<y.1/\1<y.2.1/\t+2<=y.2.2.1.size) z f.2 (λr x hr=>wpS_pure ⟨q2,r,rfl,hr⟩) λhN=>?_
    refine un6 (J:=λna nb out _ _=>Hi S R a b out na nb/\0<na/\1<nb/\t+2<=out.size) z hN λna nb out ac bc o=>?_
    dsimp only
    refine wpS_bind (X8 ?_)
    refine wpS_bind (wpS_mono (Q:=λ(z:Option (Array Keyed) × Nat × Nat × Array Keyed × Nat × Nat × Nat) st'=>Eqv st st'/\((∃ r,z.1=some r/\Fin2 R a b r)\/(z.1=none/\Hi S R a b z.2.2.2.1 z.2.1 z.2.2.1/\0<z.2.1/\1<z.2.2.1/\t+2<=z.2.2.2.1.size))) ?_ ?_)
    ·refine wpS_forRange (λi (z:Option (Array Keyed) × Nat × Nat × Array Keyed × Nat × Nat × Nat) st'=>Eqv st st'/\z.1=none/\Hi S R a b z.2.2.2.1 z.2.1 z.2.2.1/\0<z.2.1/\1<z.2.2.1/\t+2<=z.2.2.2.1.size) ?_ (λz g f=>⟨f.1,.inr f.2⟩) ⟨q2,rfl,o⟩
     intro i z g _ hi f
     have q:=f.1
     refine un7 (J:=λna nb out _ _ _=>Hi S R a b out na nb/\0<na/\1<nb/\t+2<=out.size) z f.2 λna nb out mg ac bc o=>?_
     have l:=o.1
     have p:=o.2.1
     have a2:=o.2.2.1
     have hsz:=o.2.2.2
     have b4:=l.na
     have N:=l.nb
     have ib:nb-1<b.size:=by lia
     dsimp only
     refine' jpn (M:=M) (A:=A) (E:=E) (s:=s) (st:=g) (β:=Nat) (P:=λ_=>True) (prog:=?prog) (λX=>?use) (λb6 _=>?pf)
     case use =>
      refine L1 (λhm=>?_) (λhm=>?_)
      ·generalize mg-1=m
       exact X m trivial
      ·exact X mg trivial
     refine wpS_bind (wpS_mono (Q:=λ_ L=>Eqv g L) (wpS_modify ⟨rfl,rfl,rfl,rfl⟩) λ_ L D=>?_)
     replace D:=q.trans D
     refine wpS_bind (z3 (x:=b[nb-1]) (Q2 ib) ?_)
     refine wpS_bind (eD C (I _ ib) T.ha (by lia) (by rw[List.drop_zero];exact R6 T.sa) (by lia) (D.k.trans hk) λk a5 G H=>?_)
     rw[List.drop_zero] at G H
     dsimp only
     generalize hac:na-k=ac2
     refine' jpn2 (M:=M) (A:=A) (E:=E) (s:=s) (st:=L) (P:=λd c=>Hi S R a b d c nb/\0<c/\(∀ x∈a.toList.take c,R b[nb-1] x=false)/\t+2<=d.size) (prog:=?prog2) (λX=>?use2) (λd c h5=>?pf2)
     case use2 =>
      refine L1 (λk0=>?_) (λk0=>?_)
      ·have b1:Srt R (b.toList.take (nb-1)++[b[nb-1]]):=by rw[← i6 (by lia) N];exact R6 T.sb
       have B:Hi S R a b (out++(a.extract k na).reverse) k nb:=l.runA a5 λx j y Y=>by
        have Z:S x:=T.hb x (t4 j)
        have sy:S y:=T.ha y (t4 (J4 Y))
        rw[i6 (by lia) N] at j
        exact C.tr _ _ _ Z (I _ ib) sy (gA C b1 (I _ ib) x j) (C.asy _ _ (I _ ib) sy (H y Y))
       refine L1 (λv=>wpS_pure ⟨D,.inl ⟨_,rfl,B.doneA (.inl (N1.mp v))⟩⟩) (λv=>?_)
       have hP:Hi S R a b (out++(a.extract k na).reverse) k nb/\0<k/\(∀ x∈a.toList.take k,R b[nb-1] x=false)/\t+2<=(out++(a.extract k na).reverse).size:=by
        have a3:k ≠ 0:=λq=>v (N1.mpr q)
        exact⟨B,by lia,G,by rw[Array.size_append];lia⟩
       revert hP
       clear v B
       generalize out++(a.extract k na).reverse=d
       generalize k=c
       intro hP
       exact X d c hP
      ·have:k=na:=by lia
       rw[this] at G
       exact X out na ⟨l,p,G,hsz⟩
     have l3:=h5.1
     have F:=h5.2.1
     have a7:=h5.2.2.1
     have b3:=h5.2.2.2
     have w:=l3.na
     have ia:c-1<a.size:=by lia
     refine wpS_bind (z3 (x:=b[nb-1]) (Q2 ib) ?_)
     have l4:=l3.pushB (by lia) a7
     refine L1 (λe5=>wpS_pure ⟨D,.inl ⟨_,rfl,l4.firstB T (N1.mp e5)⟩⟩) (λe5=>?_)
     replace e5:nb-1 ≠ 1:=λq=>e5 (N1.mpr q)
     refine wpS_bind (z3 (x:=a[c-1]) (Q2 ia) ?_)
     refine wpS_bind (MC C (K _ ia) T.hb (by lia) (by rw[List.drop_zero];exact R6 T.sb) (by lia) (D.k.trans hk) λk2 a8 W O=>?_)
     rw[List.drop_zero] at W O
     dsimp only
     generalize hbc:nb-1-k2=bc2
     refine' jpn2 (M:=M) (A:=A) (E:=E) (s:=s) (st:=L) (P:=λn u=>Hi S R a b n c u/\1<u/\(∀ x∈b.toList.take u,R a[c-1] x=false)/\t+2<=n.size) (prog:=?prog3) (λX=>?use3) (λn u h6=>?pf3)
     case use3 =>
      have a1:∀ x∈b.toList.take k2,R a[c-1] x=false:=λx j=>C.asy _ _ (T.hb x (t4 j)) (K _ ia) (W x j)
      refine L1 (λk0=>?_) (λk0=>?_)
      ·have a4:Srt R (a.toList.take (c-1)++[a[c-1]]):=by rw[← i6 F w];exact R6 T.sa
       have l5:Hi S R a b (d.push b[nb-1]++(b.extract k2 (nb-1)).reverse) c k2:=l4.runB a8 λx j y Y=>by
        have Z:S x:=T.ha x (t4 j)
        have sy:S y:=T.hb y (t4 (J4 Y))
        rw[i6 F w] at j
        exact C.tr _ _ _ Z (K _ ia) sy (gA C a4 (K _ ia) x j) (O y Y)
       refine L1 (λe6=>wpS_pure ⟨D,.inl ⟨_,rfl,l5.firstB T (N1.mp e6)⟩⟩) (λe6=>?_)
       refine L1 (λU=>wpS_pure ⟨D,.inl ⟨_,rfl,l5.doneA (.inr (N1.mp U))⟩⟩) (λU=>?_)
       have hP:Hi S R a b (d.push b[nb-1]++(b.extract k2 (nb-1)).reverse) c k2/\1<k2/\(∀ x∈b.toList.take k2,R a[c-1] x=false)/\t+2<=(d.push b[nb-1]++(b.extract k2 (nb-1)).reverse).size:=by
        have b5:k2 ≠ 1:=λq=>e6 (N1.mpr q)
        have a9:k2 ≠ 0:=λq=>U (N1.mpr q)
        exact⟨l5,by lia,a1,by rw[Array.size_append,S6];lia⟩
       revert hP
       clear e6 U l5
       generalize d.push b[nb-1]++(b.extract k2 (nb-1)).reverse=n
       generalize k2=u
       intro hP
       exact X n u hP
      ·have:k2=nb-1:=by lia
       rw[this] at a1
       exact X (d.push b[nb-1]) (nb-1) ⟨l4,by lia,a1,by rw[S6];lia⟩
     refine wpS_bind (z3 (x:=a[c-1]) (Q2 ia) ?_)
     have l7:=h6.1.pushA F h6.2.2.1
     refine L1 (λU=>wpS_pure ⟨D,.inl ⟨_,rfl,l7.doneA (.inl (N1.mp U))⟩⟩) (λU=>?_)
     have hf:0<c-1/\1<u/\t+2<=(n.push a[c-1]).size:=by
      have a9:c-1 ≠ 0:=λq=>U (N1.mpr q)
      have h7:=h6.2.2.2
      exact⟨by lia,h6.2.1,by rw[S6];lia⟩
     exact L1 (λ_=>wpS_pure ⟨D,.inr ⟨rfl,l7,hf⟩⟩) (λ_=>wpS_pure ⟨D,rfl,l7,hf⟩)
    ·intro z g f
     have q2:=f.1
     refine unR (J:=λy:Nat × Nat × Array Keyed × Nat × Nat × Nat=>Hi S R a b y.2.2.1 y.1 y.2.1/\0<y.1/\1<y.2.1/\t+2<=y.2.2.1.size) z f.2 (λr x hr=>wpS_pure ⟨q2,r,rfl,hr⟩) λhN=>?_
     refine un7 (J:=λna nb out _ _ _=>Hi S R a b out na nb/\0<na/\1<nb/\t+2<=out.size) z hN λna nb out mg ac bc o=>?_
     dsimp only
     refine wpS_bind (wpS_modify ?_)
     exact wpS_pure ⟨q2.trans ⟨rfl,rfl,rfl,rfl⟩,rfl,o⟩
  ·intro z g f
   exfalso
   have G:=f.2.2.1.len
   have H:=f.2.2.2
   have:a.size+b.size<=max 0 (a.size+b.size):=by lia
   lia
 ·intro z g f
  have q2:=f.1
  exact unR (J:=λ_=>False) z (.inl f.2) (λr x hr=>wpS_pure (h r g q2 hr)) λhN=>hN.2.elim
end
def lF(base:Nat):∀(b v u w:List Keyed)(j:Nat)(xs:Array Keyed),xs.toList=u++v++w->v.length=b.length->u.length=base+j ->
  ((b.zipIdx j).foldl (λa x=>match x with|(p,j)=>a.setIfInBounds (base+j) p) xs).toList=u++b++w
 | [],v,u,w,j,xs,h1,h2,h3=>by
  have:v=[]:=FA h2
  subst this
  exact h1
 | m::b,v,u,w,j,xs,h1,h2,h3=>by
  cases v with
  |nil=>cases h2
  | cons y v =>
   rw[List.zipIdx_cons,List.foldl_cons]
   have c:=lF base b v (u++[m]) w (j+1) (xs.setIfInBounds (base+j) m) (by
    rw[Array.toList_setIfInBounds,h1,← h3]
    simp[List.set_append]) (by simpa using h2) (by simp[h3];lia)
   rw[c]
   simp
section
variable{M:Model}{A:Around}{E:Value->Shared->Prop}{s:Shared}{κ:SortKind}{S:Keyed->Prop}{R:Keyed->Keyed->Bool}
def zR{σ:Type}{st st' : σ}{Q:PUnit->σ->Prop}(h:Q ⟨⟩ st'):wpS M A E s (set st':StateT σ Sem PUnit) Q st:=by
 unfold wpS
 rw[StateT.run_set]
 exact M0 ⟨rfl,h⟩
def fP(C:Cmp M A E s κ S R){st:SortSt}{i pw pw2:Nat}{pre a b g:List Keyed}(F:(arrOf st).toList=pre++a++b++g)(hS:∀ x∈(arrOf st).toList,S x)
  (a2:(pendingOf st)[i]?=some (pre.length,a.length,pw)) (a5:(pendingOf st)[i+1]?=some (pre.length+a.length,b.length,pw2)) (na:a ≠ []) (nb:b ≠ []) (U:Srt R a) (O:Srt R b) (hk:kindOf st = κ) (hf:failedOf st=none)
  {Q:Bool->SortSt->Prop}
  (h:∀ st' m,kindOf st' = κ->failedOf st'=none->pendingOf st'=((pendingOf st).setIfInBounds i (pre.length,a.length+b.length,pw)).eraseIdxIfInBounds (i+1)->(arrOf st').toList=pre++m++g->m.Perm (a++b)->Srt R m->Q true st') :
  wpS M A E s (PF i) Q st:=by
 have la:0<a.length:=X5.mpr na
 have lb:0<b.length:=X5.mpr nb
 have I:∀ x∈a,S x:=λx c=>hS x (by rw[F];simp[c])
 have N:∀ x∈b,S x:=λx c=>hS x (by rw[F];simp[c])
 have lx:(arrOf st).size=pre.length+a.length+b.length+g.length:=by
  have:=congrArg List.length F
  simp at this
  lia
 have w:((arrOf st).toList.drop pre.length).take a.length=a:=by rw[F];simp[Y2]
 have B:((arrOf st).toList.drop (pre.length+a.length)).take b.length=b:=by
  rw[show pre.length+a.length=(pre++a).length by simp,F,Y2 (pre++a),List.drop_left,List.take_left]
 refine wpS_bind (wpS_get ?_)
 rw[a2,a5]
 refine wpS_bind (wpS_mono (Q:=λ_ o=>kindOf o = κ/\failedOf o=none/\arrOf o=arrOf st/\pendingOf o=((pendingOf st).setIfInBounds i (pre.length,a.length+b.length,pw)).eraseIdxIfInBounds (i+1)) (zR ⟨hk,hf,rfl,rfl⟩) λ_ o ⟨k1,f1,a1,p1⟩=>?_)
 obtain⟨b0,bt,eb⟩:∃ b0 bt,b=b0::bt:=by cases b with|nil=>exact absurd rfl nb|cons x r=>exact⟨x,r,rfl⟩
 have a7:(arrOf st)[pre.length+a.length]?=some b0:=by
  rw[← W5,F,eb]
  simp[List.getElem?_append]
 have v:S b0:=N b0 (by rw[eb];simp)
 have D:∀ y∈b,R y b0=false:=λy d=>by rw[eb] at d O;exact dA C O v y d
 -- nothing is laid together: the two stand in order already
 have plain:(∀ x∈a,∀ y∈b,R y x=false)->∀ st',Eqv o st'->Q true st':=λhc st' q=>by
  refine h st' (a++b) (q.k.trans k1) (q.f.trans f1) (q.p.trans p1) ?_ (List.Perm.refl _) (V3.mpr ⟨U,O,hc⟩)
  rw[q.a,a1,F]
  simp[Y2]
 refine wpS_bind (z3 a7 ?_)
 refine wpS_bind (eD C v hS (by lia) (by rw[w];exact U) la k1 λk a6 h1 h2=>?_)
 rw[w] at h2
 have G:∀ x∈a.take k,R b0 x=false:=λx c=>h1 x (by
  have:((arrOf st).toList.drop pre.length).take k=a.take k:=by rw[← w,List.take_take,Nat.min_eq_left a6]
  rw[this];exact c)
 dsimp only
 refine L1 (λe=>?_) (λe=>?_)
 ·have e':a.length-k=0:=by simpa using e
  refine wpS_pure (plain (λx c y d=>?_) o (Eqv.refl _))
  have:a.take k=a:=G8 (by lia)
  rw[this] at G
  exact C.tr x b0 y (I x c) v (N y d) (G x c) (D y d)
 ·have e':a.length-k ≠ 0:=by simpa using e
  -- the last of a
  have L:pre.length+k+(a.length-k)-1=pre.length+(a.length-1):=by lia
  have n:a.length-1<a.length:=by lia
  have a3:(arrOf st)[pre.length+k+(a.length-k)-1]?=some (a[a.length-1]'n):=by
   rw[← W5,F,L]
   simp[List.getElem?_append,n,Y2]
  have Sl:S (a[a.length-1]'n):=I _ (List.getElem_mem n)
  have u:a=a.take (a.length-1)++[a[a.length-1]'n]:=by
   have:=List.take_succ (l:=a) (i:=a.length-1)
   rw[show a.length-1+1=a.length by lia,D6] at this
   simpa[n] using this
  have K:∀ x∈a,R (a[a.length-1]'n) x=false:=λx c=>by
   have hs:Srt R (a.take (a.length-1)++[a[a.length-1]'n]):=by rw[← u];exact U
   exact gA C hs Sl x (by rw[← u];exact c)
  refine wpS_bind (z3 a3 ?_)
  refine wpS_bind (MC C Sl hS (by lia) (by rw[B];exact O) (by lia) k1 λj a8 h3 h4=>?_)
  rw[B] at h4
  have W:((arrOf st).toList.drop (pre.length+a.length)).take j=b.take j:=by rw[← B,List.take_take,Nat.min_eq_left a8]
  rw[W] at h3
  dsimp only
  refine L1 (λe2=>?_) (λe2=>?_)
  ·have Z:j=0:=by simpa using e2
   subst Z
   refine wpS_pure (plain (λx c y d=>?_) o (Eqv.refl _))
   exact C.tr x _ y (I x c) Sl (N y d) (K x c) (h4 y (by simpa using d))
  ·have Z:j ≠ 0:=by simpa using e2
   have ex:((arrOf st).extract (pre.length+k) (pre.length+a.length)).toList=a.drop k:=by
    rw[FD,F]
    simp[Y2,List.take_append,List.drop_append]
   have P:((arrOf st).extract (pre.length+a.length) (pre.length+a.length+j)).toList=b.take j:=by
    rw[jC,W]
   generalize hX:(arrOf st).extract (pre.length+k) (pre.length+a.length)=X at ex
   generalize hY:(arrOf st).extract (pre.length+a.length) (pre.length+a.length+j)=Y at P
   have sX:X.size=a.length-k:=by have:=congrArg List.length ex;simpa using this
   have sY:Y.size=j:=by have:=congrArg List.length P;simp at this;lia
   have T:Two S R X Y:=by
    refine⟨λx c=>I x (J4 (by rw[← ex];exact c)),λx c=>N x (t4 (by rw[← P];exact c)),by rw[ex];exact P7 U,by rw[P];exact R6 O,by lia,by lia,λx c y d=>?_,λy d x c=>?_⟩
    ·rw[← W5,P,eb] at d
     have:y=b0:=by
      obtain⟨j',rfl⟩:∃ j',j=j'+1:=⟨j-1,by lia⟩
      simpa using d.symm
     rw[this]
     rw[ex] at c
     exact C.asy _ _ v (I x (J4 c)) (h2 x c)
    ·rw[← W5,ex,sX] at c
     rw[R9,show k+(a.length-k-1)=a.length-1 by lia,X0 n] at c
     cases c
     rw[P] at d
     exact C.asy _ _ (N y (t4 d)) Sl (h3 y d)
   have fin:∀(m:Array Keyed)(st':SortSt),Eqv o st'->Fin2 R X Y m->wpS M A E s (do
     modify λ(z:SortSt)=>setArr z (List.foldl (λa x=>match x with|(p,j)=>a.setIfInBounds (pre.length+k+j) p) (arrOf z) m.toList.zipIdx)
     let z ← get
     pure (failedOf z).isNone) Q st':=by
    intro m st' q ⟨H,ms⟩
    rw[ex,P] at H
    refine wpS_bind (wpS_modify ?_)
    refine wpS_bind (wpS_get ?_)
    refine wpS_pure ?_
    show Q (failedOf st').isNone _
    rw[q.f,f1]
    have lm:m.toList.length=(a.drop k).length+(b.take j).length:=by rw[H.length_eq,Q3]
    have J:∀ z∈m.toList,z∈a.drop k\/z∈b.take j:=λz hz=>E1.mp (H.mem_iff.mp hz)
    refine h _ (a.take k++m.toList++b.drop j) (q.k.trans k1) (q.f.trans f1) (q.p.trans p1) ?_ ?_ ?_
    ·show(List.foldl _ (arrOf st') m.toList.zipIdx).toList=_
     have base:(arrOf st').toList=(pre++a.take k)++(a.drop k++b.take j)++(b.drop j++g):=by
      rw[q.a,a1,F]
      have t1:=t5 k a
      have t2:=t5 j b
      calc pre++a++b++g=pre++(a.take k++a.drop k)++(b.take j++b.drop j)++g:=by rw[t1,t2]
       _=_:=by simp only[Y2]
     have:=lF (pre.length+k) m.toList (a.drop k++b.take j) (pre++a.take k) (b.drop j++g) 0 (arrOf st') base (by rw[Q3,lm]) (by rw[Q3,t8];lia)
     rw[this]
     simp only[Y2]
    ·have t1:=t5 k a
     have t2:=t5 j b
     calc (a.take k++m.toList++b.drop j).Perm (a.take k++(a.drop k++b.take j)++b.drop j):=List.Perm.append_right _ (List.Perm.append_left _ H)
      _ = a++b:=by
       simp only[Y2]
       rw[t2,← Y2,t1]
    ·have a0:Srt R (a.take k++a.drop k):=by rw[t5];exact U
     have a4:Srt R (b.take j++b.drop j):=by rw[t5];exact O
     have ca:=(V3.mp a0).2.2
     have cb:=(V3.mp a4).2.2
     refine V3.mpr ⟨V3.mpr ⟨R6 U,ms,λx c y d=>?_⟩,P7 O,λx c y d=>?_⟩
     ·rcases J y d with d|d
      ·exact ca x c y d
      ·exact C.tr x b0 y (I x (t4 c)) v (N y (t4 d)) (G x c) (D y (t4 d))
     ·have Sy:=N y (J4 d)
      rcases E1.mp c with c|c
      ·exact C.tr x b0 y (I x (t4 c)) v Sy (G x c) (D y (J4 d))
      ·rcases J x c with c|c
       ·exact C.tr x _ y (I x (J4 c)) Sl Sy (K x (J4 c)) (h4 y d)
       ·exact cb x c y d
   refine L1 (λe3=>?_) (λe3=>?_)
   ·exact wpS_bind (OR C T k1 λm st' q fm=>fin m st' q fm)
   ·exact wpS_bind (xR C T k1 λm st' q fm=>fin m st' q fm)
end
def e(xs:Array Keyed)(k:Nat):Keyed:=(xs[k]?).getD (.none,.none)
def EA{xs:Array Keyed}{k:Nat}(h:k<xs.size):xs[k]?=some (e xs k):=by
 unfold e;rw[Q2 h];rfl
def Asc(R:Keyed->Keyed->Bool)(xs:Array Keyed)(l h:Nat):Prop:=∀ i j,l<=i->i<=j->j<h->R (e xs j) (e xs i)=false
def Des(R:Keyed->Keyed->Bool)(xs:Array Keyed)(l h:Nat):Prop:=∀ i j,l<=i->i<=j->j<h->R (e xs i) (e xs j)=false
structure Bs(κ:SortKind)(p0:Array (Nat × Nat × Nat))(a0:Array Keyed)(lo:Nat)(st:SortSt):Prop where
 k:kindOf st = κ
 f:failedOf st=none
 p:pendingOf st=p0
 perm:(arrOf st).toList.Perm a0.toList
 pre:∀ k,k<lo->(arrOf st)[k]?=a0[k]?
def DL{xs:Array Keyed}{src d:Nat}(hs:src<xs.size)(hd:d<=src)(k:Nat):e (bubble xs src d) k=if k=src-d then e xs src else if src-d<k/\k<=src then e xs (k-1) else e xs k:=by
 unfold e
 rw[getElem?_bubble hs d hd]
 repeat' split
 all_goals rfl
def E8{xs:Array Keyed}{i j:Nat}(a:j<=xs.size)(k:Nat):e (mirror xs i j ((j-i) / 2)) k=if i<=k/\k<j then e xs (i+j-1-k) else e xs k:=by
 unfold e
 rw[getElem?_mirror_all a]
 split <;> rfl
section
variable{M:Model}{A:Around}{E:Value->Shared->Prop}{s:Shared}{κ:SortKind}{S:Keyed->Prop}{R:Keyed->Keyed->Bool}{p0:Array (Nat × Nat × Nat)}{a0:Array Keyed}{lo:Nat}
def Bs.size{st:SortSt}(B:Bs κ p0 a0 lo st):(arrOf st).size=a0.size:=by
 have:=B.perm.length_eq
 simpa using this
def Bs.sat{st:SortSt}(B:Bs κ p0 a0 lo st)(a:∀ x∈a0.toList,S x){k:Nat}(b:k<a0.size):S (e (arrOf st) k):=by
 have h:=EA (xs:=arrOf st) (k:=k) (by rw[B.size];exact b)
 refine a _ (B.perm.mem_iff.mp ?_)
 rw[← W5] at h
 exact v2 h
def L9(C:Cmp M A E s κ S R)(a:∀ x∈a0.toList,S x){st:SortSt}(B:Bs κ p0 a0 lo st){i j:Nat}(hi:i<a0.size)(b:j<a0.size){Q:Option Bool->SortSt->Prop}(h:Q (some (R (e (arrOf st) i) (e (arrOf st) j))) st) :
  wpS M A E s (ltAt' i j) Q st:=by
 rw[ltAt'_eq]
 refine wpS_bind (wpS_get ?_)
 refine wpS_bind (z3 (EA (by rw[B.size];exact hi)) ?_)
 refine wpS_bind (z3 (EA (by rw[B.size];exact b)) ?_)
 exact C.ask _ _ (B.sat a hi) (B.sat a b) _ _ B.k h
def WK(C:Cmp M A E s κ S R){xs:Array Keyed}{l h:Nat}(b:∀ k,k<=h->S (e xs k))(g:l<h)(a:Asc R xs l h)(n:R (e xs h) (e xs (h-1))=false):Asc R xs l (h+1):=by
 intro i j c d f
 by_cases hj:j=h
 ·subst hj
  by_cases hi:i=j
  ·subst hi;exact C.irr (b _ (N0 _))
  ·exact C.tr _ (e xs (j-1)) _ (b _ (by lia)) (b _ (by lia)) (b _ (by lia)) (a i (j-1) c (by lia) (by lia)) n
 ·exact a i j c d (by lia)
def rB(C:Cmp M A E s κ S R){xs:Array Keyed}{l h:Nat}(b:∀ k,k<=h->S (e xs k))(g:l<h)(a:Des R xs l h)(n:R (e xs (h-1)) (e xs h)=false):Des R xs l (h+1):=by
 intro i j c d f
 by_cases hj:j=h
 ·subst hj
  by_cases hi:i=j
  ·subst hi;exact C.irr (b _ (N0 _))
  ·exact C.tr _ (e xs (j-1)) _ (b _ (by lia)) (b _ (by lia)) (b _ (by lia)) n (a i (j-1) c (by lia) (by lia))
 ·exact a i j c d (by lia)
def Bs.set{st:SortSt}(B:Bs κ p0 a0 lo st){xs:Array Keyed}(c:xs.Perm (arrOf st))(b:∀ k,k<lo->xs[k]?=(arrOf st)[k]?):Bs κ p0 a0 lo (setArr st xs) :=
 ⟨B.k,B.f,B.p,c.toList.trans B.perm,λk a=>(b k a).trans (B.pre k a)⟩
def FO (C:Cmp M A E s κ S R) (F:∀ x∈a0.toList,S x) {st:SortSt} (B:Bs κ p0 a0 lo st) {n ok:Nat} (hn:lo+n<=a0.size) (hok:ok<=n) (P:1<=n) (hs:Asc R (arrOf st) lo (lo+ok)) {Q:Bool->SortSt->Prop}
  (h:∀ st',Bs κ p0 a0 lo st'->Asc R (arrOf st') lo (lo+n)->Q true st'):wpS M A E s (pM lo n ok) Q st:=by
 refine wpS_bind (wpS_mono (Q:=λ(z:Option Bool × Unit) st'=>z.1=none/\Bs κ p0 a0 lo st'/\Asc R (arrOf st') lo (lo+n)) ?_ ?_)
 ·refine wpS_forRange (λk (z:Option Bool × Unit) st'=>z.1=none/\Bs κ p0 a0 lo st'/\Asc R (arrOf st') lo (lo+k)) ?_ ?_ ⟨rfl,B,λi j f g v=>?_⟩
  ·rintro k ⟨o,_⟩ b J K ⟨rfl,q,as⟩
   have d:∀ j,j<lo+n->S (e (arrOf b) j):=λj G=>q.sat F (by lia)
   refine wpS_bind (wpS_mono (Q:=λ(z:Option Bool × Nat × Nat) st'=>st'=b/\z.1=none/\z.2.1<=k/\(∀ i,i<z.2.1->R (e (arrOf b) (lo+k)) (e (arrOf b) (lo+i))=false)/\(∀ i,z.2.1<=i->i<k->R (e (arrOf b) (lo+k)) (e (arrOf b) (lo+i))=true)) ?_ ?_)
   ·refine wpS_forRange (λt (z:Option Bool × Nat × Nat) st'=>st'=b/\z.1=none/\z.2.1<=z.2.2/\z.2.2<=k/\z.2.2-z.2.1+t<=k/\(∀ i,i<z.2.1->R (e (arrOf b) (lo+k)) (e (arrOf b) (lo+i))=false)/\(∀ i,z.2.2<=i->i<k->R (e (arrOf b) (lo+k)) (e (arrOf b) (lo+i))=true)) ?_ ?_
     ⟨rfl,rfl,Nat.zero_le _,Nat.le_refl _,by dsimp only;lia,λi hi=>absurd hi (Nat.not_lt_zero _),λi f g=>by dsimp only at f;lia⟩
    ·rintro t ⟨o,l,r⟩ a _ O ⟨rfl,c,f,g,v,m,p⟩
     dsimp only at c f g v m p ⊢
     subst c
     refine L1 (λD=>?_) (λD=>?_)
     ·have:l=r:=by lia
      subst this
      exact wpS_pure ⟨rfl,rfl,g,m,p⟩
     ·have hm:(l+r) / 2<r:=by lia
      have w:l<=(l+r) / 2:=by lia
      refine wpS_bind (L9 C F q (by lia) (by lia) ?_)
      dsimp only
      cases er:R (e (arrOf a) (lo+k)) (e (arrOf a) (lo+(l+r) / 2)) with
      | true =>
       rw[t0 rfl]
       refine wpS_pure ⟨rfl,rfl,w,by dsimp only;lia,by dsimp only;lia,m,λi u y=>?_⟩
       dsimp only at u
       cases e2:R (e (arrOf a) (lo+k)) (e (arrOf a) (lo+i)) with
       |true=>rfl
       | false =>
        have:=C.tr _ _ _ (d _ (by lia)) (d _ (by lia)) (d _ (by lia)) (as (lo+(l+r) / 2) (lo+i) (by lia) (by lia) (by lia)) e2
        rw[this] at er;cases er
      | false =>
       rw[y0 (by decide)]
       refine wpS_pure ⟨rfl,rfl,by dsimp only;lia,g,by dsimp only;lia,λi u=>?_,p⟩
       dsimp only at u
       exact C.tr _ _ _ (d _ (by lia)) (d _ (by lia)) (d _ (by lia)) (as (lo+i) (lo+(l+r) / 2) (by lia) (by lia) (by lia)) er
    ·rintro⟨o,l,r⟩ a ⟨rfl,c,f,g,v,m,p⟩
     dsimp only at c f g v m p ⊢
     have : l = r := by have:k ≤ max 0 k := by lia
                        lia
     subst this
     exact⟨rfl,c,g,m,p⟩
   ·rintro⟨o,l,r⟩ a ⟨rfl,c,f,m,p⟩
    dsimp only at c f m p ⊢
    subst c
    dsimp only
    have hsz:lo+k<(arrOf a).size:=by rw[q.size];lia
    have hd:(lo+k)-(lo+l)=k-l:=by lia
    refine wpS_bind (wpS_modify ?_)
    have I:∀ j,e (bubble (arrOf a) (lo+k) (lo+k-(lo+l))) j=if j=lo+l then e (arrOf a) (lo+k) else if lo+l<j/\j<=lo+k then e (arrOf a) (j-1) else e (arrOf a) j:=λj=>by
     rw[DL hsz (by lia),show lo+k-(lo+k-(lo+l))=lo+l by lia]
    refine wpS_pure ⟨rfl,q.set (bubble_perm _ _ _) (λj G=>?_),λi j u y N=>?_⟩
    ·show(bubble (arrOf a) (lo+k) (lo+k-(lo+l)))[j]?=_
     rw[getElem?_bubble hsz _ (by lia),y0 (by lia),y0 (by lia)]
    ·show R (e (bubble (arrOf a) (lo+k) (lo+k-(lo+l))) j) (e (bubble (arrOf a) (lo+k) (lo+k-(lo+l))) i)=false
     rw[I,I]
     have L:∀ j,j<lo+n->S (e (arrOf a) j):=d
     by_cases j1:j=lo+l
     ·rw[t0 j1]
      by_cases i4:i=lo+l
      ·rw[t0 i4];exact C.irr (d _ (by lia))
      ·rw[y0 i4,y0 (by lia)]
       have:=m (i-lo) (by lia)
       rw[show lo+(i-lo)=i by lia] at this
       exact this
     ·rw[y0 j1]
      by_cases j2:lo+l<j/\j<=lo+k
      ·rw[t0 j2]
       have H:=p (j-1-lo) (by lia) (by lia)
       rw[show lo+(j-1-lo)=j-1 by lia] at H
       by_cases i4:i=lo+l
       ·rw[t0 i4];exact C.asy _ _ (d _ (by lia)) (d _ (by lia)) H
       ·rw[y0 i4]
        by_cases i5:lo+l<i/\i<=lo+k
        ·rw[t0 i5];exact as (i-1) (j-1) (by lia) (by lia) (by lia)
        ·rw[y0 i5];exact as i (j-1) (by lia) (by lia) (by lia)
      ·rw[y0 j2,y0 (by lia),y0 (by lia)]
       exact as i j (by lia) (by lia) (by lia)
  ·rintro⟨o,_⟩ b ⟨c,q,as⟩
   exact⟨c,q,λi j u y N=>as i j u y (by lia)⟩
  ·by_cases G:j<lo+ok
   ·exact hs i j f g G
   ·have:i=j:=by lia
    subst this
    exact C.irr (B.sat F (by lia))
 ·rintro⟨o,_⟩ b ⟨c,q,as⟩
  dsimp only at c ⊢
  subst c
  exact wpS_pure (h b q as)
end
def Eqb(R:Keyed->Keyed->Bool)(xs:Array Keyed)(l h:Nat):Prop:=∀ i j,l<=i->i<h->l<=j->j<h->R (e xs i) (e xs j)=false
section
variable{M:Model}{A:Around}{E:Value->Shared->Prop}{s:Shared}{κ:SortKind}{S:Keyed->Prop}{R:Keyed->Keyed->Bool}{p0:Array (Nat × Nat × Nat)}{a0:Array Keyed}{lo:Nat}
def rH{α:Type}{prog:StateT SortSt Sem α}{P:SortSt->Prop}{Q : α->SortSt->Prop}{G:Prop}(use:(∀ st,P st->wpS M A E s prog Q st)->G)(a:∀ st,P st->wpS M A E s prog Q st):G:=use a
def mE(C:Cmp M A E s κ S R)(f:∀ x∈a0.toList,S x){st:SortSt}(B:Bs κ p0 a0 lo st){a nrem:Nat}(m:1<=a)(g:a<=nrem)(hn:lo+nrem<=a0.size)(as:Asc R (arrOf st) lo (lo+a)){Q:Option (Option Nat) × Nat->SortSt->Prop}
  (h:∀ n,a<=n->n<=nrem->Asc R (arrOf st) lo (lo+n)->(n<nrem->R (e (arrOf st) (lo+n)) (e (arrOf st) (lo+n-1))=true)->Q (none,n) st) :
  wpS M A E s (forIn [a:nrem] ((none,a):Option (Option Nat) × Nat) (λ(_:Nat) z=>ltAt' (lo+z.2) (lo+z.2-1) >>= λx=>match x with
   |some smaller=>if smaller=true then pure (ForInStep.done (none,z.2)) else pure (ForInStep.yield (none,z.2+1))
   |_=>pure (ForInStep.done (some none,z.2)))) Q st:=by
 refine wpS_forRange (λt (z:Option (Option Nat) × Nat) st'=>st'=st/\z=(none,t)/\Asc R (arrOf st) lo (lo+t)) ?_ ?_ ⟨rfl,rfl,as⟩
 ·rintro t ⟨o,n⟩ c i l ⟨rfl,d,b⟩
  cases d
  dsimp only
  refine wpS_bind (L9 C f B (by lia) (by lia) ?_)
  dsimp only
  cases er:R (e (arrOf c) (lo+t)) (e (arrOf c) (lo+t-1)) with
  | true =>
   rw[t0 rfl]
   exact wpS_pure (h t i (by lia) b λ_=>er)
  | false =>
   rw[y0 (by decide)]
   exact wpS_pure ⟨rfl,rfl,WK C (h:=lo+t) (λk j=>B.sat f (by lia)) (by lia) b er⟩
 ·rintro⟨o,n⟩ c ⟨rfl,d,b⟩
  cases d
  rw[show max a nrem=nrem by lia] at b ⊢
  exact h nrem g (N0 _) b λz=>absurd z (S4 _)
def qL(C:Cmp M A E s κ S R){st:SortSt}(B:Bs κ p0 a0 lo st){n:Nat}(hn:lo+n<=a0.size)(a:Des R (arrOf st) lo (lo+n)) :
  Bs κ p0 a0 lo (setArr st (mirror (arrOf st) lo (lo+n) ((lo+n-lo) / 2)))/\Asc R (mirror (arrOf st) lo (lo+n) ((lo+n-lo) / 2)) lo (lo+n):=by
 have hz:lo+n<=(arrOf st).size:=by rw[B.size];exact hn
 refine⟨B.set (mirror_perm _ _ _ _) (λk d=>by rw[getElem?_mirror_all hz,y0 (by lia)]),λi j f b c=>?_⟩
 rw[E8 hz,E8 hz,t0 (by lia),t0 (by lia)]
 exact a _ _ (by lia) (by lia) (by lia)
def qC(C:Cmp M A E s κ S R)(c:∀ x∈a0.toList,S x){st:SortSt}(B:Bs κ p0 a0 lo st){l h m:Nat}(o:lo<=l)(hh:h<=a0.size)(hm:h<=m)(b:m<=a0.size)(a:Des R (arrOf st) lo m)(eq:Eqb R (arrOf st) l h) :
  Bs κ p0 a0 lo (setArr st (mirror (arrOf st) l h ((h-l) / 2)))/\Des R (mirror (arrOf st) l h ((h-l) / 2)) lo m:=by
 have hz:h<=(arrOf st).size:=by rw[B.size];exact hh
 refine⟨B.set (mirror_perm _ _ _ _) (λk d=>by rw[getElem?_mirror_all hz,y0 (by lia)]),λi j p g n=>?_⟩
 rw[E8 hz,E8 hz]
 have f:∀ k,k<m->S (e (arrOf st) k):=λk d=>B.sat c (by lia)
 by_cases c1:l<=i/\i<h
 ·rw[t0 c1]
  by_cases c2:l<=j/\j<h
  ·rw[t0 c2]
   exact eq _ _ (by lia) (by lia) (by lia) (by lia)
  ·rw[y0 c2]
   exact a _ _ (by lia) (by lia) (by lia)
 ·rw[y0 c1]
  by_cases c2:l<=j/\j<h
  ·rw[t0 c2]
   exact a _ _ (by lia) (by lia) (by lia)
  ·rw[y0 c2]
   exact a _ _ (by lia) (by lia) (by lia)
def kI (C:Cmp M A E s κ S R) (p:∀ x∈a0.toList,S x) {st:SortSt} (B:Bs κ p0 a0 lo st) {nrem:Nat} (h1:1<=nrem) (hn:lo+nrem<=a0.size) {Q:Option Nat->SortSt->Prop}
  (h:∀ st' n,Bs κ p0 a0 lo st'->1<=n->n<=nrem->Asc R (arrOf st') lo (lo+n)->Q (some n) st'):wpS M A E s (sL lo nrem) Q st:=by
 refine wpS_bind (mE C p B (N0 1) h1 hn (λi j u r i3=>?_) λn n1 n2 as br=>?_)
 ·have:i=j:=by lia
  subst this
  exact C.irr (B.sat p (by lia))
 dsimp only
 refine L1 (λen=>wpS_pure (h st n B n1 n2 as)) (λen=>?_)
 have a4:n ≠ nrem:=by simpa using en
 have Y:n<nrem:=by lia
 have G:=br Y
 refine rH (M:=M) (A:=A) (E:=E) (s:=s) (α:=Option Nat) (Q:=Q) (P:=λv=>Bs κ p0 a0 lo v/\Des R (arrOf v) lo (lo+n)/\R (e (arrOf v) (lo+n)) (e (arrOf v) (lo+n-1))=true) (prog:=?prog) (λO=>?use) (λv ⟨N,de,Z⟩=>?pf)
 case use =>
  refine L1 (λg1=>?_) (λg1=>?_)
  ·refine wpS_bind (L9 C p B (by lia) (by lia) ?_)
   dsimp only
   cases er:R (e (arrOf st) lo) (e (arrOf st) (lo+n-1)) with
   |true=>rw[t0 rfl];exact wpS_pure (h st n B n1 n2 as)
   | false =>
    rw[y0 (by decide)]
    -- all of them are equal
    have c:∀ k,k<lo+n->S (e (arrOf st) k):=λk K=>B.sat p (by lia)
    have all:Eqb R (arrOf st) lo (lo+n):=λi j u r D y=>by
     -- j<=last<=first<=i
     have a1:=as j (lo+n-1) D (by lia) (by lia)
     have a2:=as lo i (N0 _) u r
     exact C.tr _ _ _ (c j y) (c lo (by lia)) (c i r) (C.tr _ _ _ (c j y) (c (lo+n-1) (by lia)) (c lo (by lia)) a1 er) a2
    have de:Des R (arrOf st) lo (lo+n):=λi j u r i3=>all i j u (by lia) (by lia) i3
    have hz:lo+n<=(arrOf st).size:=by rw[B.size];lia
    obtain⟨q,a⟩:=qC C p B (N0 lo) (show lo+n<=a0.size by lia) (N0 _) (by lia) de all
    refine wpS_bind (wpS_modify ?_)
    refine O _ ⟨q,a,?_⟩
    show R (e (mirror (arrOf st) lo (lo+n) ((lo+n-lo) / 2)) (lo+n)) (e (mirror (arrOf st) lo (lo+n) ((lo+n-lo) / 2)) (lo+n-1))=true
    rw[E8 hz,E8 hz,y0 (by lia),t0 (by lia)]
    rw[show lo+(lo+n)-1-(lo+n-1)=lo by lia]
    cases e2:R (e (arrOf st) (lo+n)) (e (arrOf st) lo) with
    |true=>rfl
    | false =>
     have:=C.tr _ _ _ (c (lo+n-1) (by lia)) (c lo (by lia)) (B.sat p (show lo+n<a0.size by lia)) er e2
     rw[this] at G;cases G
  ·have:n=1:=by lia
   subst this
   refine O st ⟨B,λi j u r i3=>?_,G⟩
   have:i=j:=by lia
   subst this
   exact C.irr (B.sat p (by lia))
 case pf =>
  -- the falling part
  refine wpS_bind (X8 ?_)
  refine wpS_bind (wpS_mono (Q:=λ(z:Option (Option Nat) × Nat × Nat) st'=>z.1=none/\Bs κ p0 a0 lo st'/\z.2.1<=nrem/\z.2.2+1<=z.2.1/\Des R (arrOf st') lo (lo+z.2.1)/\Eqb R (arrOf st') (lo+z.2.1-(z.2.2+1)) (lo+z.2.1)) ?_ ?_)
  ·refine wpS_forRange (λt (z:Option (Option Nat) × Nat × Nat) st'=>z.1=none/\z.2.1=t/\Bs κ p0 a0 lo st'/\z.2.2+1<=z.2.1/\Des R (arrOf st') lo (lo+z.2.1)/\Eqb R (arrOf st') (lo+z.2.1-(z.2.2+1)) (lo+z.2.1)) ?_ ?_ ⟨rfl,rfl,N,by dsimp only;lia,?_,λi j u r D y=>?_⟩
   ·rintro t ⟨o,m,b⟩ f t1 t2 ⟨F,T,q,I,a,d⟩
    dsimp only at F T I a d ⊢
    subst F T
    have c:∀ k,k<a0.size->S (e (arrOf f) k):=λk K=>q.sat p K
    refine wpS_bind (L9 C p q (by lia) (by lia) ?_)
    dsimp only
    cases er:R (e (arrOf f) (lo+m)) (e (arrOf f) (lo+m-1)) with
    | true =>
     rw[t0 rfl]
     refine L1 (λg=>?_) (λg=>?_)
     ·have hz:lo+m<=(arrOf f).size:=by rw[q.size];lia
      obtain⟨J,w⟩:=qC C p q (l:=lo+m-(b+1)) (h:=lo+m) (by lia) (by lia) (N0 _) (by lia) a d
      have L:∀ k,e (mirror (arrOf f) (lo+m-(b+1)) (lo+m) ((lo+m-(lo+m-(b+1))) / 2)) k=if lo+m-(b+1)<=k/\k<lo+m then e (arrOf f) (lo+m-(b+1)+(lo+m)-1-k) else e (arrOf f) k:=λk=>E8 hz k
      refine wpS_bind (wpS_modify ?_)
      refine wpS_pure ⟨rfl,rfl,J,by dsimp only;lia,?_,λi j u r D y=>?_⟩
      ·show Des R (mirror (arrOf f) (lo+m-(b+1)) (lo+m) ((lo+m-(lo+m-(b+1))) / 2)) lo (lo+(m+1))
       refine rB C (h:=lo+m) (λk K=>J.sat p (by lia)) (by lia) w ?_
       rw[L,L,t0 (by lia),y0 (by lia)]
       rw[show lo+m-(b+1)+(lo+m)-1-(lo+m-1)=lo+m-(b+1) by lia]
       exact C.tr _ _ _ (c _ (by lia)) (c (lo+m-1) (by lia)) (c _ (by lia)) (C.asy _ _ (c _ (by lia)) (c _ (by lia)) er) (a _ _ (by lia) (by lia) (by lia))
      ·dsimp only at u r D y
       have:i=j:=by lia
       subst this
       exact C.irr (J.sat p (by lia))
     ·have:b=0:=by lia
      subst this
      refine wpS_pure ⟨rfl,rfl,q,by dsimp only;lia,rB C (h:=lo+m) (λk K=>c k (by lia)) (by lia) a (C.asy _ _ (c _ (by lia)) (c _ (by lia)) er),λi j u r D y=>?_⟩
      dsimp only at u r D y
      have:i=j:=by lia
      subst this
      exact C.irr (c _ (by lia))
    | false =>
     rw[y0 (by decide)]
     refine wpS_bind (L9 C p q (by lia) (by lia) ?_)
     dsimp only
     cases er2:R (e (arrOf f) (lo+m-1)) (e (arrOf f) (lo+m)) with
     | true =>
      rw[t0 rfl]
      exact wpS_pure ⟨rfl,q,by dsimp only;lia,I,a,d⟩
     | false =>
      rw[y0 (by decide)]
      refine wpS_pure ⟨rfl,rfl,q,by dsimp only;lia,rB C (h:=lo+m) (λk K=>c k (by lia)) (by lia) a er2,λi j u r D y=>?_⟩
      dsimp only at u r D y
      by_cases ci:i=lo+m
      ·by_cases cj:j=lo+m
       ·rw[ci,cj];exact C.irr (c _ (by lia))
       ·rw[ci]
        exact C.tr _ _ _ (c j (by lia)) (c (lo+m-1) (by lia)) (c _ (by lia)) (d (lo+m-1) j (by lia) (by lia) (by lia) (by lia)) er
      ·by_cases cj:j=lo+m
       ·rw[cj]
        exact C.tr _ _ _ (c _ (by lia)) (c (lo+m-1) (by lia)) (c i (by lia)) er2 (d i (lo+m-1) (by lia) (by lia) (by lia) (by lia))
       ·exact d i j (by lia) (by lia) (by lia) (by lia)
   ·rintro⟨o,m,b⟩ f ⟨F,T,q,I,a,d⟩
    dsimp only at F T I a d ⊢
    exact⟨F,q,by lia,I,a,d⟩
   ·exact rB C (h:=lo+n) (λk K=>N.sat p (by lia)) (by lia) de (C.asy _ _ (N.sat p (by lia)) (N.sat p (by lia)) Z)
   ·dsimp only at u r D y
    have:i=j:=by lia
    subst this
    exact C.irr (N.sat p (by lia))
  ·rintro⟨o,m,b⟩ f ⟨F,q,hm,I,a,d⟩
   dsimp only at F hm I a d ⊢
   subst F
   dsimp only
   refine rH (M:=M) (A:=A) (E:=E) (s:=s) (α:=Option Nat) (Q:=Q) (P:=λH=>Bs κ p0 a0 lo H/\Des R (arrOf H) lo (lo+m)) (prog:=?prog2) (λO=>?use2) (λH ⟨J,w⟩=>?pf2)
   case use2 =>
    refine L1 (λg=>?_) (λg=>?_)
    ·obtain⟨J,w⟩:=qC C p q (l:=lo+m-(b+1)) (h:=lo+m) (by lia) (by lia) (N0 _) (by lia) a d
     refine wpS_bind (wpS_modify ?_)
     exact O _ ⟨J,w⟩
    ·exact O _ ⟨q,a⟩
   case pf2 =>
    obtain⟨B5,U⟩:=qL C J (n:=m) (by lia) w
    refine wpS_bind (wpS_modify ?_)
    refine wpS_bind (mE C p B5 (by lia) hm hn U λn' a3 W X _=>?_)
    exact wpS_pure (h _ n' B5 (by lia) W X)
end
def flat(rs:List (List Keyed × Nat)):List Keyed:=(rs.map (·.1)).flatten
def pend:Nat->List (List Keyed × Nat)->List (Nat × Nat × Nat)
 |_,[]=>[]
 |k,(r,pw)::t=>(k,r.length,pw)::pend (k+r.length) t
def rC:flat []=[]:=rfl
def T6(r:List Keyed × Nat)(t:List (List Keyed × Nat)):flat (r::t)=r.1++flat t:=rfl
def Y6(p q:List (List Keyed × Nat)):flat (p++q)=flat p++flat q:=by simp[flat]
def m8:∀(k:Nat)(p q:List (List Keyed × Nat)),pend k (p++q)=pend k p++pend (k+(flat p).length) q
 |k,[],q=>by simp[pend,rC]
 | k,(r,pw)::t,q=>by
  simp only[List.cons_append,pend,T6,Q3,List.cons.injEq,true_and]
  rw[m8 (k+r.length) t q,Nat.add_assoc]
def HB:∀(k:Nat)(p:List (List Keyed × Nat)),(pend k p).length=p.length
 |_,[]=>rfl
 |k,(r,pw)::t=>by simp[pend,HB _ t]
section
variable{M:Model}{A:Around}{E:Value->Shared->Prop}{s:Shared}{κ:SortKind}{S:Keyed->Prop}{R:Keyed->Keyed->Bool}{a0:Array Keyed}
structure Rn(κ:SortKind)(R:Keyed->Keyed->Bool)(a0:Array Keyed)(rs:List (List Keyed × Nat))(rest:List Keyed)(st:SortSt):Prop where
 k:kindOf st = κ
 f:failedOf st=none
 arr:(arrOf st).toList=flat rs++rest
 pn:(pendingOf st).toList=pend 0 rs
 ok:∀ r∈rs,r.1 ≠ []/\Srt R r.1
 perm:(arrOf st).toList.Perm a0.toList
def ZL{α:Type}(a c:List α)(x b y : α):((a++x::y::c).set a.length b).eraseIdx (a.length+1)=a++b::c:=by
 rw[List.set_append_right _ _ (N0 _),Nat.sub_self,List.set_cons_zero,List.eraseIdx_append_of_length_le (by lia)]
 rw[show a.length+1-a.length=1 by lia]
 rfl
def KG(C:Cmp M A E s κ S R)(w:∀ x∈a0.toList,S x){st:SortSt}{rs:List (List Keyed × Nat)}{rest:List Keyed}(N:Rn κ R a0 rs rest st){i:Nat}(hi:i+1<rs.length){Q:Bool->SortSt->Prop}
  (h:∀ st' l,Rn κ R a0 l rest st'->l.length+1=rs.length->(flat l).length=(flat rs).length->Q true st'):wpS M A E s (PF i) Q st:=by
 obtain⟨p,a,pw,b,pw2,q,e,B⟩:∃ p a pw b pw2 q,rs=p++(a,pw)::(b,pw2)::q/\p.length=i:=by
  have y:rs=rs.take i++rs.drop i:=(t5 i rs).symm
  have hd:rs.drop i=rs[i]::rs[i+1]::rs.drop (i+2):=by
   rw[List.drop_eq_getElem_cons (by lia),List.drop_eq_getElem_cons hi]
  exact⟨rs.take i,rs[i].1,rs[i].2,rs[i+1].1,rs[i+1].2,rs.drop (i+2),by rw[← hd];exact y,by simp;lia⟩
 subst B
 have d:=N.ok (a,pw) (by rw[e];simp)
 have g:=N.ok (b,pw2) (by rw[e];simp)
 have n:(pendingOf st).toList=pend 0 p++((flat p).length,a.length,pw)::((flat p).length+a.length,b.length,pw2)::pend ((flat p).length+a.length+b.length) q:=by
  rw[N.pn,e,m8];simp[pend]
 have c:(pend 0 p).length=p.length:=HB 0 p
 have j:(arrOf st).toList=flat p++a++b++(flat q++rest):=by
  rw[N.arr,e,Y6,T6,T6];simp[Y2]
 refine fP C (i:=p.length) (pw:=pw) (pw2:=pw2) j (λx H=>w x (N.perm.mem_iff.mp H)) ?_ ?_ d.1 g.1 d.2 g.2 N.k N.f λst' m F I D u pm G=>?_
 ·rw[← W5,n,H7 (by lia),c,Nat.sub_self];rfl
 ·rw[← W5,n,H7 (by lia),c,show p.length+1-p.length=1 by lia];rfl
 ·refine h st' (p++(m,pw)::q) ⟨F,I,?_,?_,λr o=>?_,?_⟩ (by rw[e];simp;lia) ?_
  ·rw[u,Y6,T6];simp[Y2]
  ·rw[D,Array.toList_eraseIdxIfInBounds,Array.toList_setIfInBounds,n,← c,ZL,m8]
   simp[pend,pm.length_eq,Nat.add_assoc]
  ·rcases E1.mp o with o|o
   ·exact N.ok r (by rw[e];simp[o])
   ·rcases Z0.mp o with rfl|o
    ·refine⟨?_,G⟩
     intro z
     have:=pm.length_eq
     have v:m=[]:=z
     rw[v] at this
     have:=X5.mpr d.1
     simp at *
     lia
    ·exact N.ok r (by rw[e];simp[o])
  ·rw[u]
   refine List.Perm.trans ?_ N.perm
   rw[j]
   have:(flat p++a++b++(flat q++rest))=flat p++(a++b)++(flat q++rest):=by simp[Y2]
   rw[this]
   exact(pm.append_left (flat p)).append_right _
  ·rw[e,Y6,Y6,T6,T6,T6]
   simp[pm.length_eq]
   lia
def Rn.run{rs:List (List Keyed × Nat)}{rest:List Keyed}{st st':SortSt}{n:Nat}(N:Rn κ R a0 rs rest st)(B:Bs κ (pendingOf st) (arrOf st) (flat rs).length st')(u:1<=n)(hn:(flat rs).length+n<=(arrOf st).size)(as:Asc R (arrOf st') (flat rs).length ((flat rs).length+n)) :
  ∃ r a,r.length=n/\r ≠ []/\Srt R r/\Rn κ R a0 rs (r++a) st':=by
 have hsz:=B.size
 have d:(arrOf st').toList.take (flat rs).length=flat rs:=by
  have l:(arrOf st').toList.take (flat rs).length=(arrOf st).toList.take (flat rs).length:=by
   apply T5
   intro k
   rw[List.getElem?_take,List.getElem?_take]
   split
   ·rename_i c
    have:=B.pre k c
    simpa using this
   ·rfl
  rw[l,N.arr,List.take_left]
 refine⟨((arrOf st').toList.drop (flat rs).length).take n,((arrOf st').toList.drop (flat rs).length).drop n,?_,?_,?_,B.k,B.f,?_,?_,N.ok,B.perm.trans N.perm⟩
 ·simp;lia
 ·intro z
  have:=congrArg List.length z
  simp at this
  lia
 ·unfold Srt
  rw[u8]
  intro i j hi g s
  have b:j<n:=by simp at g;lia
  have get:∀ k,k<n->∀(c:k<(((arrOf st').toList.drop (flat rs).length).take n).length),(((arrOf st').toList.drop (flat rs).length).take n)[k]=e (arrOf st') ((flat rs).length+k):=by
   intro k c o
   rw[List.getElem_take,List.getElem_drop]
   have q:=EA (xs:=arrOf st') (k:=(flat rs).length+k) (by lia)
   have m:(flat rs).length+k<(arrOf st').toList.length:=by simp;lia
   have h:(arrOf st').toList[(flat rs).length+k]?=some (e (arrOf st') ((flat rs).length+k)):=by simpa using q
   rw[X0 m] at h
   exact M3 h
  rw[get i (by lia) hi,get j b g]
  exact as _ _ (by lia) (by lia) (by lia)
 ·rw[t5]
  conv=>lhs;rw[← t5 (flat rs).length (arrOf st').toList,d]
 ·rw[B.p];exact N.pn
def Rn.bs{rs:List (List Keyed × Nat)}{rest:List Keyed}{st:SortSt}(N:Rn κ R a0 rs rest st):Bs κ (pendingOf st) (arrOf st) (flat rs).length st:=⟨N.k,N.f,rfl,List.Perm.refl _,λ_ _=>rfl⟩
def Rn.size{rs:List (List Keyed × Nat)}{rest:List Keyed}{st:SortSt}(N:Rn κ R a0 rs rest st):(arrOf st).size=a0.size:=by
 have:=N.perm.length_eq;simpa using this
def Rn.len{rs:List (List Keyed × Nat)}{rest:List Keyed}{st:SortSt}(N:Rn κ R a0 rs rest st):(flat rs).length+rest.length=a0.size:=by
 have:=congrArg List.length N.arr
 have a:=N.size
 simp at this
 lia
def rS{rs:List (List Keyed × Nat)}(h:∀ r∈rs,r.1 ≠ []):rs.length<=(flat rs).length:=by
 induction rs with
 |nil=>simp[flat]
 | cons r t ih =>
  rw[T6,Q3,W3]
  have:=ih λq a=>h q (S3 _ a)
  have:=X5.mpr (h r T3)
  lia
def DG{α:Type}(f : α->α):∀(l:List α)(x : α),(l++[x]).modify l.length f=l++[f x]
 |[],x=>rfl
 | y::l,x=>by
  show(y::(l++[x])).modify (l.length+1) f=_
  rw[List.modify_succ_cons,DG f l x];rfl
def DM{α:Type}(arr:Array α)(f : α->α){l:List α}{x : α}(h:arr.toList=l++[x]):(arr.modify (arr.size-1) f).toList=l++[f x]:=by
 have hs:arr.size=l.length+1:=by have:=congrArg List.length h;simpa using this
 rw[Array.toList_modify,h,hs,show l.length+1-1=l.length by lia]
 exact DG f l x
def sP{α:Type}(arr:Array α){l:List α}{x : α}(h:arr.toList=l++[x]):arr.back?=some x:=by
 have hs:arr.size=l.length+1:=by have:=congrArg List.length h;simpa using this
 rw[Array.back?_eq_getElem?,← W5,h,hs]
 simp
def DE:∀(rs:List (List Keyed × Nat)),rs ≠ []->∃ p x,rs=p++[x]
 |rs,h=>⟨rs.dropLast,rs.getLast h,(List.dropLast_concat_getLast h).symm⟩
def Rn.push{rs:List (List Keyed × Nat)}{r rest:List Keyed}{st st':SortSt}(N:Rn κ R a0 rs (r++rest) st)(c:r ≠ [])(hs:Srt R r)(k:kindOf st'=kindOf st)(f:failedOf st'=failedOf st)(a:arrOf st'=arrOf st)
  (p:pendingOf st'=(pendingOf st).push ((flat rs).length,r.length,0)):Rn κ R a0 (rs++[(r,0)]) rest st':=by
 refine⟨k.trans N.k,f.trans N.f,?_,?_,λq b=>?_,by rw[a];exact N.perm⟩
 ·rw[a,N.arr,Y6];simp[flat,Y2]
 ·rw[p,Array.toList_push,N.pn,m8];simp[pend]
 ·rcases E1.mp b with b|b
  ·exact N.ok q b
  ·have:q=(r,0):=by simpa using b
   subst this;exact⟨c,hs⟩
def Rn.pow{rs:List (List Keyed × Nat)}{rest:List Keyed}{st st':SortSt}{pw:Nat}(N:Rn κ R a0 rs rest st)(hz:rs ≠ [])(k:kindOf st'=kindOf st)(f:failedOf st'=failedOf st)(a:arrOf st'=arrOf st)
  (p:pendingOf st'=(pendingOf st).modify ((pendingOf st).size-1) λx=>(x.1,x.2.1,pw)):∃ d,Rn κ R a0 d rest st'/\(flat d).length=(flat rs).length:=by
 obtain⟨q,⟨b,c⟩,e⟩:=DE rs hz
 subst e
 have h:(pendingOf st).toList=pend 0 q++[((flat q).length,b.length,c)]:=by rw[N.pn,m8];simp[pend]
 refine⟨q++[(b,pw)],⟨k.trans N.k,f.trans N.f,?_,?_,λx g=>?_,by rw[a];exact N.perm⟩,by simp[Y6,T6,rC]⟩
 ·rw[a,N.arr];simp[Y6,T6,rC]
 ·rw[p,DM _ _ h,m8];simp[pend]
 ·rcases E1.mp g with g|g
  ·exact N.ok x (by simp[g])
  ·have:x=(b,pw):=by simpa using g
   subst this
   exact N.ok (b,c) (by simp)
def MI{c:Prop} [Decidable c] {x y z:Nat} (b:x+1<z) (a:y+1<z):(if c then x else y)+1<z:=by
 split
 ·exact b
 ·exact a
def Rn.powK{rs:List (List Keyed × Nat)}{rest:List Keyed}{st st':SortSt}{pw:Nat}{G:SortSt->Prop}(N:Rn κ R a0 rs rest st)(hz:rs ≠ [])(h:∀ b,Rn κ R a0 b rest st'->(flat b).length=(flat rs).length->G st')(k:kindOf st'=kindOf st)(f:failedOf st'=failedOf st)(a:arrOf st'=arrOf st)
  (p:pendingOf st'=(pendingOf st).modify ((pendingOf st).size-1) λx=>(x.1,x.2.1,pw)):G st':=by
 obtain⟨b,c,d⟩:=N.pow hz k f a p
 exact h b c d
def TK (C:Cmp M A E s κ S R) (Y:∀ x∈a0.toList,S x) {st:SortSt} (h0:arrOf st=a0) (hk:kindOf st = κ) (hf:failedOf st=none) (hp:pendingOf st = #[]) {Q:Unit->SortSt->Prop}
  (h:∀ st',failedOf st'=none->(arrOf st').toList.Perm a0.toList->Srt R (arrOf st').toList->Q () st'):wpS M A E s JI Q st:=by
 have o:(arrOf st).size=a0.size:=by rw[h0]
 refine wpS_bind (wpS_get ?_)
 dsimp only
 refine wpS_bind (wpS_mono (Q:=λ(c:Option Unit × Nat) v=>c.1=none/\∃ rs,Rn κ R a0 rs [] v) ?_ ?_)
 ·refine wpS_forRange (λi (c:Option Unit × Nat) v=>c.1=none/\∃ rs rest,Rn κ R a0 rs rest v/\c.2=(flat rs).length/\i<=c.2) ?_ ?_ ⟨rfl,[],a0.toList,⟨hk,hf,by rw[h0];rfl,by rw[hp];rfl,λr I=>(by cases I),by rw[h0]⟩,rfl,N0 _⟩
  ·rintro i ⟨c1,lo⟩ v _ hi ⟨F,rs,rest,N,e2,D⟩
   dsimp only at F e2 D ⊢
   subst F e2
   have O:=N.len
   have b3:i<a0.size:=by rw[← o];exact hi
   refine L1 (λa4=>?_) (λa5=>?_)
   ·have a8:a0.size<=(flat rs).length:=by rw[← o];exact a4
    refine wpS_pure ⟨rfl,rs,?_⟩
    have:rest=[]:=FA (by lia)
    subst this
    exact N
   ·have b0:(flat rs).length<a0.size:=by
     have:¬ (flat rs).length ≥ (arrOf st).size:=a5
     lia
    refine wpS_bind (kI C (λx hx=>Y x (N.perm.mem_iff.mp hx)) N.bs (nrem:=(arrOf st).size-(flat rs).length) (by lia) (by rw[N.size];lia) λb2 n B2 n1 n2 P=>?_)
    dsimp only
    have y:=N.size
    refine L1 (λl=>?g1) (λl=>?g2)
    case' g1 =>
     refine wpS_bind (X8 ?_)
     generalize hmr:min (_:Nat) _=nn
     refine wpS_bind (FO C (λx hx=>Y x (N.perm.mem_iff.mp hx)) B2 (n:=nn) (ok:=n) ?_ ?_ ?_ P λb4 B3 a7=>?_)
     ·have:nn<=(arrOf st).size-(flat rs).length:=by rw[← hmr];exact Nat.min_le_left _ _
      rw[y];lia
     ·rw[← hmr];exact Nat.le_min.mpr ⟨n2,m5 l⟩
     ·have:n<=nn:=by rw[← hmr];exact Nat.le_min.mpr ⟨n2,m5 l⟩
      lia
     rw[y0 (by decide)]
     have U:1<=nn:=by
      have:n<=nn:=by rw[← hmr];exact Nat.le_min.mpr ⟨n2,m5 l⟩
      lia
     have a9:nn<=(arrOf st).size-(flat rs).length:=by rw[← hmr];exact Nat.min_le_left _ _
     obtain⟨r,g,I,w,J,W⟩:=N.run B3 U (by rw[y];lia) a7
     clear hmr
     subst I
    case' g2 =>
     obtain⟨r,g,I,w,J,W⟩:=N.run B2 n1 (by rw[y];lia) P
     clear l
     subst I
    all_goals
     refine wpS_bind (wpS_get ?_)
     rcases Classical.em (rs=[]) with hz|hz
     ·have B:=W.pn
      rw[hz] at B
      have hb:=Array.back?_eq_none_iff.mpr (Array.toList_eq_nil_iff.mp B)
      rw[hb]
      dsimp only
      refine wpS_bind (wpS_modify (wpS_pure ⟨rfl,rs++[(r,0)],g,W.push w J rfl rfl rfl rfl,?_,?_⟩))
      ·rw[Y6,Q3];simp[flat]
      ·have:=X5.mpr w
       show i+1<=(flat rs).length+r.length
       lia
     ·obtain⟨q,⟨b,T⟩,eq⟩:=DE rs hz
      have B:=W.pn
      rw[eq,m8,show pend (0+(flat q).length) [(b,T)]=[((flat q).length,b.length,T)] by simp[pend]] at B
      have hb:=sP _ B
      rw[hb]
      dsimp only
      refine wpS_bind (wpS_mono (Q:=λ(c:Option Unit × Unit) d=>c.1=none/\∃ a,Rn κ R a0 a (r++g) d/\a ≠ []/\(flat a).length=(flat rs).length) ?_ ?_)
      ·refine wpS_forRange (λ_ (c:Option Unit × Unit) d=>c.1=none/\∃ a,Rn κ R a0 a (r++g) d/\a ≠ []/\(flat a).length=(flat rs).length) ?_ (λc d h4=>h4) ⟨rfl,rs,W,hz,rfl⟩
       rintro i4 ⟨c4,Z⟩ d _ _ ⟨u,a,m,X,p⟩
       dsimp only at u
       subst u
       refine wpS_bind (wpS_get ?_)
       have L:(pendingOf d).size=a.length:=by
        have:=congrArg List.length m.pn
        rw[HB] at this
        simpa using this
       by_cases K:(pendingOf d).size > 1
       ·rw[t0 K]
        obtain⟨x4,a1⟩:∃ x4,(pendingOf d)[(pendingOf d).size-2]?=some x4:=⟨_,Q2 (by lia)⟩
        obtain⟨y1,y2,y3⟩:=x4
        rw[a1]
        dsimp only
        refine L1 (λ_=>wpS_pure ⟨rfl,a,m,X,p⟩) (λ_=>?_)
        rw[L]
        refine wpS_bind (KG C Y m (i:=a.length-2) (by lia) λa3 H N5 l5 f5=>?_)
        rw[y0 (by decide)]
        refine wpS_pure ⟨rfl,H,N5,?_,by lia⟩
        rintro rfl
        simp at l5
        lia
       ·rw[y0 K]
        exact wpS_pure ⟨rfl,a,m,X,p⟩
      ·rintro⟨c4,Z⟩ d ⟨u,a,m,X,p⟩
       dsimp only at u ⊢
       subst u
       dsimp only
       refine wpS_bind (wpS_modify ?_)
       refine m.powK (G:=λz=>wpS M A E s _ _ z) X (λa6 N6 l6=>?_) rfl rfl rfl rfl
       refine wpS_bind (wpS_modify (wpS_pure ⟨rfl,a6++[(r,0)],g,N6.push w J rfl rfl rfl ?_,?_,?_⟩))
       ·rw[l6,p]
       ·rw[Y6,Q3,l6,p];simp[flat]
       ·have:=X5.mpr w
        show i+1<=(flat rs).length+r.length
        lia
  ·rintro⟨c1,lo⟩ v ⟨F,rs,rest,N,e2,D⟩
   dsimp only at F e2 D ⊢
   refine⟨F,rs,?_⟩
   have O:=N.len
   have a2:(arrOf st).size<=lo:=T2 (Nat.le_max_right 0 _) D
   have:rest=[]:=FA (by rw[o] at a2;lia)
   subst this
   exact N
 ·rintro⟨c1,lo⟩ v ⟨F,rs,N⟩
  dsimp only at F ⊢
  subst F
  dsimp only
  refine wpS_bind (wpS_mono (Q:=λ(c:Option Unit × Unit) d=>c.1=none/\∃ a,Rn κ R a0 a [] d/\a.length<=1) ?_ ?_)
  ·refine wpS_forRange (λj (c:Option Unit × Unit) d=>c.1=none/\∃ a,Rn κ R a0 a [] d/\(a.length<=1\/a.length+j<=a0.size)) ?_ ?_ ⟨rfl,rs,N,.inr ?_⟩
   ·rintro j ⟨c4,Z⟩ d _ _ ⟨u,a,m,p⟩
    dsimp only at u
    subst u
    refine wpS_bind (wpS_get ?_)
    have L:(pendingOf d).size=a.length:=by
     have:=congrArg List.length m.pn
     rw[HB] at this
     simpa using this
    refine L1 (λK=>wpS_pure ⟨rfl,a,m,?_⟩) (λK=>?_)
    ·have:(pendingOf d).size<=1:=K
     lia
    ·have b1:¬ (pendingOf d).size<=1:=K
     refine wpS_bind (KG C Y m (i:=_) ?_ λa3 H N5 l5 f5=>?_)
     ·refine MI ?_ ?_
      ·show(pendingOf d).size-2-1+1<a.length
       lia
      ·show(pendingOf d).size-2+1<a.length
       lia
     rw[y0 (by decide)]
     exact wpS_pure ⟨rfl,H,N5,by lia⟩
   ·rintro⟨c4,Z⟩ d ⟨u,a,m,p⟩
    refine⟨u,a,m,?_⟩
    rcases p with p|p
    ·exact p
    ·have:(arrOf st).size<=max 0 (arrOf st).size:=Nat.le_max_right _ _
     have h3:a.length+max 0 (arrOf st).size<=a0.size:=p
     lia
   ·have:=rS λr I=>(N.ok r I).1
    have:=N.len
    lia
  ·rintro⟨c4,Z⟩ d ⟨u,a,m,p⟩
   dsimp only at u ⊢
   subst u
   dsimp only
   refine wpS_pure (h d m.f m.perm ?_)
   rw[m.arr]
   match a,p with
   |[],_=>exact List.Pairwise.nil
   |[x],_=>simpa[flat] using (m.ok x (by simp)).2
end
end TS
namespace L2
open PySem PySem.Spec PyProof.Rows
mutual
inductive Rep(H:Hp):V->PyData->Prop
 |non:Rep H .non .none
 |bl (b:Bool):Rep H (.bl b) (.bool b)
 |int (i:Int):Rep H (.int i) (.int i)
 |str (x:Str):Rep H (.str x) (.str x)
 |lst {a:Addr} {xs:List V} {ds:List PyData}:H a=some (.lst xs)->Reps H xs ds->Rep H (.ref a) (.list ds)
 |tup {a:Addr} {xs:List V} {ds:List PyData}:H a=some (.tup xs)->Reps H xs ds->Rep H (.ref a) (.tuple ds)
inductive Reps(H:Hp):List V->List PyData->Prop
 |nil:Reps H [] []
 |cons {v:V} {vs:List V} {d:PyData} {ds:List PyData}:Rep H v d->Reps H vs ds->Reps H (v::vs) (d::ds)
end
mutual
def Rep.same{H H':Hp}(s:Same H H'):∀{v:V}{d:PyData},Rep H v d->Rep H' v d
 |_,_,.non=>.non
 |_,_,.bl b=>.bl b
 |_,_,.int i=>.int i
 |_,_,.str x=>.str x
 |_,_,.lst h r=>.lst (s _ _ h) (Reps.same s r)
 |_,_,.tup h r=>.tup (s _ _ h) (Reps.same s r)
def Reps.same{H H':Hp}(s:Same H H'):∀{vs:List V}{ds:List PyData},Reps H vs ds->Reps H' vs ds
 |_,_,.nil=>.nil
 |_,_,.cons r t=>.cons (Rep.same s r) (Reps.same s t)
end
section
variable{X:Cx}{pins:List (Addr × Obj)}{σ:St}{H:Hp}{s:Shared}
mutual
def Rep.reads(I:Inv X pins σ H s):∀{v:V}{d:PyData}{u:Value},Rep H v d->RelV v u->∃ as,Reads s.heap u d as
 |_,_,_,.non,r=>by cases r;exact⟨_,.none⟩
 |_,_,_,.bl b,r=>by cases r;exact⟨_,.bool b⟩
 |_,_,_,.int i,r=>by obtain⟨t,rfl⟩:=r;exact⟨_,.int i t⟩
 |_,_,_,.str x,r=>by obtain⟨t,rfl⟩:=r;exact⟨_,.str x t⟩
 | _,_,_,.lst (a:=a) (xs:=xs) h q,r=>by
  cases r
  obtain⟨_,its,n,g,e⟩:=(show ObjOk X.prog X.w H s.heap a (.lst xs) from I.hok a _ h)
  obtain⟨as,f⟩:=Reps.reads I q g
  exact⟨_,.list e rfl rfl (by simpa using f)⟩
 | _,_,_,.tup (a:=a) (xs:=xs) h q,r=>by
  cases r
  obtain⟨_,its,g,o,e,c,n,dd⟩:=(show ObjOk X.prog X.w H s.heap a (.tup xs) from I.hok a _ h)
  obtain⟨as,f⟩:=Reps.reads I q g
  exact⟨_,.tuple e c dd (by simpa using f)⟩
def Reps.reads(I:Inv X pins σ H s):∀{vs:List V}{ds:List PyData}{us:List Value},Reps H vs ds->Vals vs us->∃ as,ReadsAll s.heap us ds as
 |_,_,_,.nil,.nil=>⟨_,.nil⟩
 | _,_,_,.cons r t,.cons q qs=>by
  obtain⟨as,a⟩:=Rep.reads I r q
  obtain⟨bs,rb⟩:=Reps.reads I t qs
  exact⟨_,.cons a rb⟩
end
end
mutual
def z1:PyData->Bool
 | .none | .int _=>true
 | .list xs | .tuple xs=>plainDs xs
 |_=>false
def plainDs:List PyData->Bool
 |[]=>true
 |x::xs=>z1 x && plainDs xs
end
mutual
def o8:∀(d:PyData),z1 d=true->d.canLay0=true
 | .none,_=>by simp[PyData.canLay0]
 | .int _,_=>by simp[PyData.canLay0]
 | .list xs,h=>by simp only[PyData.canLay0];exact plain_lays xs (by simpa[z1] using h)
 | .tuple xs,h=>by simp only[PyData.canLay0];exact plain_lays xs (by simpa[z1] using h)
 | .bool _,h=>by simp[z1] at h
 | .str _,h=>by simp[z1] at h
 | .dict _,h=>by simp[z1] at h
def plain_lays:∀(ds:List PyData),plainDs ds=true->PyData.canLayAll0 ds=true
 |[],_=>by simp[PyData.canLayAll0]
 | x::xs,h=>by
  have h':z1 x=true/\plainDs xs=true:=by simpa[plainDs] using h
  simp only[PyData.canLayAll0,o8 x h'.1,plain_lays xs h'.2,Bool.and_self]
end
mutual
def YB:∀(d e:PyData),z1 d=true->z1 e=true->(PyData.eqv d e=true ↔ d=e)
 | .none,e,_,h=>by cases e <;> simp_all [z1,PyData.eqv]
 | .int i,e,_,h=>by cases e <;> simp_all [z1,PyData.eqv]
 | .list xs,e,g,h=>by
  cases e with
  |list ys=>simp only[PyData.eqv,PyData.list.injEq];exact eqvAll_plain xs ys (by simpa[z1] using g) (by simpa[z1] using h)
  |_=>simp_all [z1,PyData.eqv]
 | .tuple xs,e,g,h=>by
  cases e with
  |tuple ys=>simp only[PyData.eqv,PyData.tuple.injEq];exact eqvAll_plain xs ys (by simpa[z1] using g) (by simpa[z1] using h)
  |_=>simp_all [z1,PyData.eqv]
 | .bool _,_,h,_=>by simp[z1] at h
 | .str _,_,h,_=>by simp[z1] at h
 | .dict _,_,h,_=>by simp[z1] at h
def eqvAll_plain:∀(ds es:List PyData),plainDs ds=true->plainDs es=true->(PyData.eqvAll ds es=true ↔ ds=es)
 |[],[],_,_=>by simp[PyData.eqvAll]
 |[],_::_,_,_=>by simp[PyData.eqvAll]
 |_::_,[],_,_=>by simp[PyData.eqvAll]
 | x::xs,y::ys,g,h=>by
  have g':z1 x=true/\plainDs xs=true:=by simpa[plainDs] using g
  have h':z1 y=true/\plainDs ys=true:=by simpa[plainDs] using h
  simp only[PyData.eqvAll,S5,List.cons.injEq,YB x y g'.1 h'.1,eqvAll_plain xs ys g'.2 h'.2]
end
def nD(ds:List PyData):plainDs ds=true ↔ ∀ d∈ds,z1 d=true:=by
 induction ds with
 |nil=>simp[plainDs]
 |cons d ds ih=>simp[plainDs,ih]
def rEqD:R2:=λx y H Q=>∃ d e,Rep H x d/\Rep H y e/\z1 d=true/\z1 e=true/\d.depth<=60/\Q (.bl (PyData.eqv d e)) H
def rNeD:R2:=λx y H Q=>∃ d e,Rep H x d/\Rep H y e/\z1 d=true/\z1 e=true/\d.depth<=60/\Q (.bl (!PyData.eqv d e)) H
section
variable{X:Cx}
def DD(i:X.A.units+64<cLine):OpR X (compareOp .Eq) rEqD:=by
 intro pins s σ H x y v u Q I c b h
 obtain⟨d,e,g,re,hd,a,hz,q⟩:=h
 obtain⟨as,f⟩:=g.reads I c
 obtain⟨bs,rb⟩:=re.reads I b
 refine SeqAt.compareEq_reads f rb (o8 _ hd) (o8 _ a) ?_ ⟨.bl _,H,I,rfl,q⟩
 have:=Nat.min_le_left d.depth e.depth
 lia
def pG(i:X.A.units+64<cLine):OpR X (compareOp .NotEq) rNeD:=by
 intro pins s σ H x y v u Q I c b h
 obtain⟨d,e,g,re,hd,a,hz,q⟩:=h
 obtain⟨as,f⟩:=g.reads I c
 obtain⟨bs,rb⟩:=re.reads I b
 refine SeqAt.compareNe_reads f rb (o8 _ hd) (o8 _ a) ?_ ⟨.bl _,H,I,rfl,q⟩
 have:=Nat.min_le_left d.depth e.depth
 lia
def rInD(neg:Bool):R2:=λx y H Q=>∃ d es,Rep H x d/\(Rep H y (.list es)\/Rep H y (.tuple es))/\z1 d=true/\plainDs es=true/\d.depth<=60/\Q (.bl (if neg then !es.any (λz=>PyData.eqv z d) else es.any (λz=>PyData.eqv z d))) H
def VF(i:X.A.units+64<cLine):OpR X (compareOp .NotIn) (rInD true):=by
 intro pins s σ H x y v u Q I f b h
 obtain⟨d,es,g,re,hd,a,hz,q⟩:=h
 obtain⟨as,c⟩:=g.reads I f
 have hm:=Nat.min_le_right (PyData.depthAll es) d.depth
 rcases re with re|re
 ·obtain⟨bs,rb⟩:=re.reads I b
  exact SeqAt.notIn_list_reads rb c (plain_lays _ a) (o8 _ hd) (by lia) ⟨.bl _,H,I,rfl,q⟩
 ·obtain⟨bs,rb⟩:=re.reads I b
  exact SeqAt.notIn_tuple_reads rb c (plain_lays _ a) (o8 _ hd) (by lia) ⟨.bl _,H,I,rfl,q⟩
def rIsi(K:Frag):List V->Hp->VK->Prop:=λxs H Q=>∃(x:V)(T:String)(t:Value)(b:Bool),xs=[x,.ty T]/\TyOf K H x t/\kitOne K t (.type T)=some b/\Q (.bl b) H
def fB:M2 X (.builtin "isinstance") (rIsi X.K):=by
 intro pins s σ H xs us Q I r h
 obtain⟨x,T,t,b,rfl,ty,e,q⟩:=h
 obtain⟨u,c,rfl,d,a⟩:=zA r
 cases a
 exact vR I d ty e λf=>⟨.bl b,H,I.tok _,rfl,q⟩
end
end L2
namespace HT
open PySem PyProof.Rows
section
open PySem.SeqAt
open PySem.AutoSeq1 (wpAny_loadPart')
open PySem.MeetsSeq PySem.MeetsSeq2 PySem.MeetsSeq3
end
section
variable{prog:Program}{w:World}{A:Around}{E:Value->Shared->Prop}{s:Shared}
end
end HT
namespace L2
open PySem PySem.Spec PyProof.Rows
section
variable{X:Cx}
end
end L2
namespace HT
open PySem PyProof.Rows
def qD  (val:Nat->Int):∀ k,argBest (λi j=>decide (val i > val j)) k<=k/\∀ i,i<=k->val i<=val (argBest (λi j=>decide (val i > val j)) k)
 | 0 => ⟨Nat.le_refl _, fun i hi => by have:i=0 := by lia
                                       subst this;exact Int.le_refl _⟩
 | k+1=>by
  obtain⟨b,a⟩:=qD val k
  unfold argBest
  by_cases hc:val (k+1) > val (argBest (λi j=>decide (val i > val j)) k)
  ·rw[t0 (O4 hc)]
   refine⟨N0 _,λi hi=>?_⟩
   by_cases e:i=k+1
   ·subst e;exact Int.le_refl _
   ·have:=a i (by lia)
    exact Int.le_trans this (Int.le_of_lt hc)
  ·rw[y0 (by simpa using hc)]
   refine⟨by lia,λi hi=>?_⟩
   by_cases e:i=k+1
   ·subst e;lia
   ·exact a i (by lia)
def KD  (val:Nat->Int):∀ k,argBest (λi j=>decide (val i<val j)) k<=k/\∀ i,i<=k->val (argBest (λi j=>decide (val i<val j)) k)<=val i
 | 0 => ⟨Nat.le_refl _, fun i hi => by have:i=0 := by lia
                                       subst this;exact Int.le_refl _⟩
 | k+1=>by
  obtain⟨b,a⟩:=KD val k
  unfold argBest
  by_cases hc:val (k+1)<val (argBest (λi j=>decide (val i<val j)) k)
  ·rw[t0 (O4 hc)]
   refine⟨N0 _,λi hi=>?_⟩
   by_cases e:i=k+1
   ·subst e;exact Int.le_refl _
   ·have:=a i (by lia)
    exact Int.le_trans (Int.le_of_lt hc) this
  ·rw[y0 (by simpa using hc)]
   refine⟨by lia,λi hi=>?_⟩
   by_cases e:i=k+1
   ·subst e;lia
   ·exact a i (by lia)
def val(ns:List Int)(i:Nat):Int:=(ns[i]?).getD 0
def D7{us:List Value}{ns:List Int}(hi:IntsAre us ns)(i:Nat)(v:Value)(h:us.toArray[i]?=some v):∃ t,v=.int (val ns i) t:=by
 induction hi generalizing i with
 |nil=>simp at h
 | cons n t r ih =>
  cases i with
  |zero=>simp at h;subst h;exact⟨t,by simp[val]⟩
  | succ i =>
   obtain⟨t',e⟩:=ih i (by simpa using h)
   exact⟨t',by simpa[val] using e⟩
def wB{ns:List Int}{i:Nat}(h:i<ns.length):val ns i∈ns:=by
 unfold val
 rw[X0 h]
 exact List.getElem_mem h
def RB{ns:List Int}{x:Int}(h:x∈ns):∃ i,i<ns.length/\val ns i=x:=by
 obtain⟨i,hi,e⟩:=V9.mp h
 exact⟨i,hi,by unfold val;rw[X0 hi];exact e⟩
section
variable{prog:Program}{w:World}{A:Around}{E:Value->Shared->Prop}{s:Shared}
def max_list{l:Addr}{us:List Value}{ns:List Int}{Q:Value->Shared->Prop}(hh:A.handled=none)(f:s.heap.IsList l us.toArray)(hi:IntsAre us ns)(c:ns ≠ [])
  (h:∀ m t h' d,m∈ns->(∀ x∈ns,x<=m)->(∀ b o,s.heap.get? b=some o->h'.get? b=some o)->Q (.int m t) { s with heap:=h',toks:=d }) :
  wpAny (model prog w) A (call (.builtin "max") [.ref l]) Q E s:=by
 have a:l<s.heap.objs.size:=by obtain⟨_,e,_⟩:=f;exact Q0 e
 have hz:us.length=ns.length:=hi.length
 have u:0<ns.length:=X5.mpr c
 refine call_max_walk (l9 f ?_)
 refine⟨_,[s.heap.objs.size,l],_,_,_,_,_,rfl,Walks.list (A:=A.in1) hh _ l (O1 a) us.toArray,⟨⟨_,X2 _ rfl,rfl,rfl⟩,f.push _⟩,λb hb=>?_,by simp;lia,CmpOf.ints_gt (val ns) (λi v=>D7 hi i v),λv h' d q n=>?_⟩
 ·show b<(s.heap.push _).objs.size
  rw[K7]
  rcases Z0.mp hb with rfl|hb
  ·exact i8 _
  ·rcases Z0.mp hb with rfl|hb
   ·exact z7 a
   ·cases hb
 ·obtain⟨t,e⟩:=D7 hi _ _ q
  obtain⟨b1,g⟩:=qD (val ns) (us.toArray.size-1)
  have hs:us.toArray.size=ns.length:=by simp[hz]
  rw[hs] at b1 g
  subst e
  refine h _ t h' d (wB (by rw[hs];lia)) (λx r=>?_) λb o e=>?_
  ·obtain⟨i,p,e⟩:=RB r
   have:=g i (by lia)
   rw[e] at this
   rw[hs]
   exact this
  ·refine n b o (λhm=>?_) (S1 _ e)
   rcases Z0.mp hm with j|hm
   ·exact absurd (j ▸ Q0 e) (S4 _)
   ·cases hm
def min_list{l:Addr}{us:List Value}{ns:List Int}{Q:Value->Shared->Prop}(hh:A.handled=none)(f:s.heap.IsList l us.toArray)(hi:IntsAre us ns)(c:ns ≠ [])
  (h:∀ m t h' d,m∈ns->(∀ x∈ns,m<=x)->(∀ b o,s.heap.get? b=some o->h'.get? b=some o)->Q (.int m t) { s with heap:=h',toks:=d }) :
  wpAny (model prog w) A (call (.builtin "min") [.ref l]) Q E s:=by
 have a:l<s.heap.objs.size:=by obtain⟨_,e,_⟩:=f;exact Q0 e
 have hz:us.length=ns.length:=hi.length
 have u:0<ns.length:=X5.mpr c
 refine call_min_walk (l9 f ?_)
 refine⟨_,[s.heap.objs.size,l],_,_,_,_,_,rfl,Walks.list (A:=A.in1) hh _ l (O1 a) us.toArray,⟨⟨_,X2 _ rfl,rfl,rfl⟩,f.push _⟩,λb hb=>?_,by simp;lia,CmpOf.ints_lt (val ns) (λi v=>D7 hi i v),λv h' d q n=>?_⟩
 ·show b<(s.heap.push _).objs.size
  rw[K7]
  rcases Z0.mp hb with rfl|hb
  ·exact i8 _
  ·rcases Z0.mp hb with rfl|hb
   ·exact z7 a
   ·cases hb
 ·obtain⟨t,e⟩:=D7 hi _ _ q
  obtain⟨b1,g⟩:=KD (val ns) (us.toArray.size-1)
  have hs:us.toArray.size=ns.length:=by simp[hz]
  rw[hs] at b1 g
  subst e
  refine h _ t h' d (wB (by rw[hs];lia)) (λx r=>?_) λb o e=>?_
  ·obtain⟨i,p,e⟩:=RB r
   have:=g i (by lia)
   rw[e] at this
   rw[hs]
   exact this
  ·refine n b o (λhm=>?_) (S1 _ e)
   rcases Z0.mp hm with j|hm
   ·exact absurd (j ▸ Q0 e) (S4 _)
   ·cases hm
def max_tup{l:Addr}{us:List Value}{ns:List Int}{Q:Value->Shared->Prop}(hh:A.handled=none)(g:s.heap.IsTuple l us.toArray)(hi:IntsAre us ns)(f:ns ≠ [])
  (h:∀ m t h' d,m∈ns->(∀ x∈ns,x<=m)->(∀ b o,s.heap.get? b=some o->h'.get? b=some o)->Q (.int m t) { s with heap:=h',toks:=d }) :
  wpAny (model prog w) A.in1 (pyIter (.ref l)) (λit a=>∃ I fp q n P St j,it=.ref I/\Walks prog w A.in1 I fp q n P St/\St 0 a.heap/\(∀ b∈fp,b<a.heap.objs.size)/\0<n/\CmpOf prog w A.in1 .Gt P j /\
   ∀ v h' d,P (argBest j (n-1)) v->(∀ b o,b ∉ q->a.heap.get? b=some o->h'.get? b=some o)->Q v { a with heap:=h',toks:=d }) E s:=by
 have c:l<s.heap.objs.size:=by obtain⟨_,e,_⟩:=g;exact Q0 e
 have hz:us.length=ns.length:=hi.length
 have C:0<ns.length:=X5.mpr f
 refine wpAny_pyIter_tuple g ?_
 refine⟨_,[s.heap.objs.size,l],[_],_,_,_,_,rfl,Walks.tuple (A:=A.in1) hh _ l (O1 c) us.toArray,⟨⟨_,X2 _ rfl,rfl,rfl⟩,g.push _⟩,λb hb=>?_,by simp;lia,CmpOf.ints_gt (val ns) (λi v=>D7 hi i v),λv h' d z u=>?_⟩
 ·show b<(s.heap.push _).objs.size
  rw[K7]
  rcases Z0.mp hb with rfl|hb
  ·exact i8 _
  ·rcases Z0.mp hb with rfl|hb
   ·exact z7 c
   ·cases hb
 ·obtain⟨t,e⟩:=D7 hi _ _ z
  obtain⟨b1,p⟩:=qD (val ns) (us.toArray.size-1)
  have hs:us.toArray.size=ns.length:=by simp[hz]
  rw[hs] at b1 p
  subst e
  refine h _ t h' d (wB (by rw[hs];lia)) (λx B=>?_) λb o e=>?_
  ·obtain⟨i,y,e⟩:=RB B
   have:=p i (by lia)
   rw[e] at this
   rw[hs]
   exact this
  ·refine u b o (λhm=>?_) (S1 _ e)
   rcases Z0.mp hm with r|hm
   ·exact absurd (r ▸ Q0 e) (S4 _)
   ·cases hm
def min_tup{l:Addr}{us:List Value}{ns:List Int}{Q:Value->Shared->Prop}(hh:A.handled=none)(g:s.heap.IsTuple l us.toArray)(hi:IntsAre us ns)(f:ns ≠ [])
  (h:∀ m t h' d,m∈ns->(∀ x∈ns,m<=x)->(∀ b o,s.heap.get? b=some o->h'.get? b=some o)->Q (.int m t) { s with heap:=h',toks:=d }) :
  wpAny (model prog w) A.in1 (pyIter (.ref l)) (λit a=>∃ I fp q n P St j,it=.ref I/\Walks prog w A.in1 I fp q n P St/\St 0 a.heap/\(∀ b∈fp,b<a.heap.objs.size)/\0<n/\CmpOf prog w A.in1 .Lt P j /\
   ∀ v h' d,P (argBest j (n-1)) v->(∀ b o,b ∉ q->a.heap.get? b=some o->h'.get? b=some o)->Q v { a with heap:=h',toks:=d }) E s:=by
 have c:l<s.heap.objs.size:=by obtain⟨_,e,_⟩:=g;exact Q0 e
 have hz:us.length=ns.length:=hi.length
 have C:0<ns.length:=X5.mpr f
 refine wpAny_pyIter_tuple g ?_
 refine⟨_,[s.heap.objs.size,l],[_],_,_,_,_,rfl,Walks.tuple (A:=A.in1) hh _ l (O1 c) us.toArray,⟨⟨_,X2 _ rfl,rfl,rfl⟩,g.push _⟩,λb hb=>?_,by simp;lia,CmpOf.ints_lt (val ns) (λi v=>D7 hi i v),λv h' d z u=>?_⟩
 ·show b<(s.heap.push _).objs.size
  rw[K7]
  rcases Z0.mp hb with rfl|hb
  ·exact i8 _
  ·rcases Z0.mp hb with rfl|hb
   ·exact z7 c
   ·cases hb
 ·obtain⟨t,e⟩:=D7 hi _ _ z
  obtain⟨b1,p⟩:=KD (val ns) (us.toArray.size-1)
  have hs:us.toArray.size=ns.length:=by simp[hz]
  rw[hs] at b1 p
  subst e
  refine h _ t h' d (wB (by rw[hs];lia)) (λx B=>?_) λb o e=>?_
  ·obtain⟨i,y,e⟩:=RB B
   have:=p i (by lia)
   rw[e] at this
   rw[hs]
   exact this
  ·refine u b o (λhm=>?_) (S1 _ e)
   rcases Z0.mp hm with r|hm
   ·exact absurd (r ▸ Q0 e) (S4 _)
   ·cases hm
end
end HT
namespace L2
open PySem PySem.Spec PyProof.Rows
section
variable{X:Cx}
def n6(ns:List Int)(m:Int):Prop:=m∈ns/\∀ x∈ns,x<=m
def zD(ns:List Int)(m:Int):Prop:=m∈ns/\∀ x∈ns,m<=x
def F7(K:Frag):List V->Hp->VK->Prop:=λxs H Q=>∃(a:Addr)(ns:List Int),xs=[.ref a]/\(SqL K H a (ns.map V.int)\/SqT K H a (ns.map V.int))/\ns ≠ []/\∀ m,n6 ns m->Q (.int m) H
def uA(K:Frag):List V->Hp->VK->Prop:=λxs H Q=>∃(a:Addr)(ns:List Int),xs=[.ref a]/\(SqL K H a (ns.map V.int)\/SqT K H a (ns.map V.int))/\ns ≠ []/\∀ m,zD ns m->Q (.int m) H
def Z8(j:X.calm=true):M2 X (.builtin "max") (F7 X.K):=by
 intro pins s σ H xs us Q I r h
 obtain⟨a,ns,rfl,ha,b,q⟩:=h
 obtain⟨u,rfl,l⟩:=Y4 r
 cases l
 rcases ha with ha|ha
 ·obtain⟨its,c,g,_⟩:=I.list ha
  have i:IntsAre its.toArray.toList ns:=V7 c
  exact HT.max_list (I.ok.hd j) g.isList (by simpa using i) b λm t h' n d f kp=>⟨.int m,H,I.kept kp,⟨_,rfl⟩,q m ⟨d,f⟩⟩
 ·obtain⟨its,c,g,_⟩:=I.tuple ha
  have i:IntsAre its.toArray.toList ns:=V7 c
  refine call_max_walk (HT.max_tup (I.ok.hd j) g (by simpa using i) b λm t h' n d f kp=>⟨.int m,H,I.kept kp,⟨_,rfl⟩,q m ⟨d,f⟩⟩)
def PR(j:X.calm=true):M2 X (.builtin "min") (uA X.K):=by
 intro pins s σ H xs us Q I r h
 obtain⟨a,ns,rfl,ha,b,q⟩:=h
 obtain⟨u,rfl,l⟩:=Y4 r
 cases l
 rcases ha with ha|ha
 ·obtain⟨its,c,g,_⟩:=I.list ha
  have i:IntsAre its.toArray.toList ns:=V7 c
  exact HT.min_list (I.ok.hd j) g.isList (by simpa using i) b λm t h' n d f kp=>⟨.int m,H,I.kept kp,⟨_,rfl⟩,q m ⟨d,f⟩⟩
 ·obtain⟨its,c,g,_⟩:=I.tuple ha
  have i:IntsAre its.toArray.toList ns:=V7 c
  refine call_min_walk (HT.min_tup (I.ok.hd j) g (by simpa using i) b λm t h' n d f kp=>⟨.int m,H,I.kept kp,⟨_,rfl⟩,q m ⟨d,f⟩⟩)
end
def tTru(K:Frag)(ta:TE):TT:=λσ H Q=>ta σ H λx H'=>∃ k,TruV K x H' k/\Q k H'
def rIsN:R2:=λx y H Q=>y=.non/\Q (.bl (decide (x=.non))) H
def NC:R2:=λx y H Q=>y=.non/\Q (.bl (!decide (x=.non))) H
section
variable{X:Cx}{a:Expr}{ta:TE}
def TN(ha:PE X a ta)(b:∀ whole,isTrue a X.env whole=(do let v ← whole;standAt a.pos;holding [v] (truthy v)):=by intro _;rfl):PT X a (tTru X.K ta):=SM ha b
def V5(K:Frag):R2:=λx y H Q=>rIxL K x y H Q\/rIxT K x y H Q
def W0:IxR X (V5 X.K):=ix_list.or CJ
def yE{i j n:Int}{d b:Nat}{f p2 a:Pos}(h:i ^ j.toNat=n)(c:CPow i j):PE X (.BinOp (.Constant (.int i) d f) .Pow (.Constant (.int j) b p2) a) (tC (.int n)):=by
 intro pins s σ H Q I q
 subst h
 exact R0 zL q0 q0 pins s σ H Q I ⟨i,j,rfl,rfl,c,q⟩
def lE:OpR X (compareOp .Is) rIsN:=eS
def AG:OpR X (compareOp .IsNot) NC:=FN
end
section
variable{σ:St}{H:Hp}{D:Ends}{K:Frag}
def oB{a:Addr}{xs:List V}{i:Int}{v:V}{Q:VK}(ha:H a=some (.lst xs))(b:V0 xs i=some v)(h:Q v H):V5 K (.ref a) (.int i) H Q:=.inl (FR ha b h)
def WR{a:Addr}{xs:List V}{i:Int}{v:V}{Q:VK}(ha:H a=some (.tup xs))(b:V0 xs i=some v)(h:Q v H):V5 K (.ref a) (.int i) H Q:=.inr (fL ha b h)
def uO{a:Addr}{xs:List V}{i:Int}{v:V}{Q:VK}(ha:SqL K H a xs)(b:V0 xs i=some v)(h:Q v H):V5 K (.ref a) (.int i) H Q:=.inl (qS ha b h)
def U5{A B:Prop}(h:A):if true=true then A else B:=by rw[t0 rfl];exact h
def M6{A B:Prop}(h:B):if false=true then A else B:=by rw[y0 Y1];exact h
def XC{A B:Prop}(h:B):if (!true)=true then A else B:=by rw[y0 (by decide)];exact h
def TD{A B:Prop}(h:A):if (!false)=true then A else B:=by rw[t0 (by decide)];exact h
def gL{c:Prop} [Decidable c] {A B:Prop} (a:c) (h:B):if (!decide c)=true then A else B:=by rw[O4 a];exact XC h
def dL{c:Prop} [Decidable c] {A B:Prop} (a:¬ c) (h:A):if (!decide c)=true then A else B:=by rw[O2 a];exact TD h
def KR{K:Frag}:kitOne K (.type "NoneType") (.type "int")=some false:=by first|rfl|decide
def BM{K:Frag}:kitOne K (.type "NoneType") (.type "bool")=some false:=by first|rfl|decide
def WI{K:Frag}:kitOne K (.type "NoneType") (.type "tuple")=some false:=by first|rfl|decide
def kK{K:Frag}:kitOne K (.type "NoneType") (.type "list")=some false:=by first|rfl|decide
def SL{K:Frag}:kitOne K (.type "NoneType") (.type "str")=some false:=by first|rfl|decide
def cR{K:Frag}:kitOne K (.type "NoneType") (.type "dict")=some false:=by first|rfl|decide
def qQ{K:Frag}:kitOne K (.type "bool") (.type "int")=some true:=by first|rfl|decide
def uP{K:Frag}:kitOne K (.type "bool") (.type "bool")=some true:=by first|rfl|decide
def ZM{K:Frag}:kitOne K (.type "bool") (.type "tuple")=some false:=by first|rfl|decide
def NJ{K:Frag}:kitOne K (.type "bool") (.type "list")=some false:=by first|rfl|decide
def cN{K:Frag}:kitOne K (.type "bool") (.type "str")=some false:=by first|rfl|decide
def HN{K:Frag}:kitOne K (.type "bool") (.type "dict")=some false:=by first|rfl|decide
def CQ{K:Frag}:kitOne K (.type "int") (.type "int")=some true:=by first|rfl|decide
def fJ{K:Frag}:kitOne K (.type "int") (.type "bool")=some false:=by first|rfl|decide
def HI{K:Frag}:kitOne K (.type "int") (.type "tuple")=some false:=by first|rfl|decide
def DK{K:Frag}:kitOne K (.type "int") (.type "list")=some false:=by first|rfl|decide
def RP{K:Frag}:kitOne K (.type "int") (.type "str")=some false:=by first|rfl|decide
def JJ{K:Frag}:kitOne K (.type "int") (.type "dict")=some false:=by first|rfl|decide
def HM{K:Frag}:kitOne K (.type "str") (.type "int")=some false:=by first|rfl|decide
def pQ{K:Frag}:kitOne K (.type "str") (.type "bool")=some false:=by first|rfl|decide
def sN{K:Frag}:kitOne K (.type "str") (.type "tuple")=some false:=by first|rfl|decide
def LR{K:Frag}:kitOne K (.type "str") (.type "list")=some false:=by first|rfl|decide
def dQ{K:Frag}:kitOne K (.type "str") (.type "str")=some true:=by first|rfl|decide
def rL{K:Frag}:kitOne K (.type "str") (.type "dict")=some false:=by first|rfl|decide
def lO{K:Frag}:kitOne K (.type "list") (.type "int")=some false:=by first|rfl|decide
def NN{K:Frag}:kitOne K (.type "list") (.type "bool")=some false:=by first|rfl|decide
def wR{K:Frag}:kitOne K (.type "list") (.type "tuple")=some false:=by first|rfl|decide
def wK{K:Frag}:kitOne K (.type "list") (.type "list")=some true:=by first|rfl|decide
def QR{K:Frag}:kitOne K (.type "list") (.type "str")=some false:=by first|rfl|decide
def uS{K:Frag}:kitOne K (.type "list") (.type "dict")=some false:=by first|rfl|decide
def OQ{K:Frag}:kitOne K (.type "tuple") (.type "int")=some false:=by first|rfl|decide
def KP{K:Frag}:kitOne K (.type "tuple") (.type "bool")=some false:=by first|rfl|decide
def DJ{K:Frag}:kitOne K (.type "tuple") (.type "tuple")=some true:=by first|rfl|decide
def iL{K:Frag}:kitOne K (.type "tuple") (.type "list")=some false:=by first|rfl|decide
def RK{K:Frag}:kitOne K (.type "tuple") (.type "str")=some false:=by first|rfl|decide
def IR{K:Frag}:kitOne K (.type "tuple") (.type "dict")=some false:=by first|rfl|decide
def yP{K:Frag}:kitOne K (.type "dict") (.type "int")=some false:=by first|rfl|decide
def FI{K:Frag}:kitOne K (.type "dict") (.type "bool")=some false:=by first|rfl|decide
def nP{K:Frag}:kitOne K (.type "dict") (.type "tuple")=some false:=by first|rfl|decide
def MM{K:Frag}:kitOne K (.type "dict") (.type "list")=some false:=by first|rfl|decide
def FP{K:Frag}:kitOne K (.type "dict") (.type "str")=some false:=by first|rfl|decide
def oP{K:Frag}:kitOne K (.type "dict") (.type "dict")=some true:=by first|rfl|decide
end
end L2
namespace L2
open PySem
section
variable{σ:St}{H:Hp}{K:Frag}
def R4{p:Addr}{o:HO}(a:H p=none):Same H (upd H p o):=λb u e=>by rw[z0 (V2 e a)];exact e
def Same.at{H H':Hp}{b:Addr}{o:HO}(s:Same H H')(h:H b=some o):H' b=some o:=s b o h
end
section
variable{σ:St}{H:Hp}{K:Frag}
abbrev NewL(Q:VK):List V->Hp->Prop:=λxs H1=>xs.length<=sizeLine/\∀ p,H1 p=none->Q (.ref p) (upd H1 p (.lst xs))
def jI{t:TA}{Q:VK}(h:t σ H (NewL Q)):tLst t σ H Q:=h
end
end L2
namespace Gr
inductive Walk(T:Int->Int->Prop)(u:Int):Nat->Int->Prop
 |refl:Walk T u 0 u
 |step {k:Nat} {v w:Int}:Walk T u k v->T v w->Walk T u (k+1) w
def Dist(T:Int->Int->Prop)(u v:Int)(d:Nat):Prop:=Walk T u d v/\∀ k,Walk T u k v->d<=k
def Dist.uniq{T:Int->Int->Prop}{u v:Int}{d e:Nat}(h:Dist T u v d)(g:Dist T u v e):d=e:=Nat.le_antisymm (h.2 _ g.1) (g.2 _ h.1)
def Dist.self(T:Int->Int->Prop)(u:Int):Dist T u u 0:=⟨.refl,λ_ _=>Y3 _⟩
def Dist.of_walk{T:Int->Int->Prop}{u v:Int}{k:Nat}(h:Walk T u k v):∃ d,d<=k/\Dist T u v d:=by
 induction k using Nat.strongRecOn with
 | ind k ih =>
  by_cases hx:∃ j,j<k/\Walk T u j v
  ·obtain⟨j,a,w⟩:=hx
   obtain⟨d,hd,e⟩:=ih j a w
   exact⟨d,by lia,e⟩
  ·refine⟨k,N0 _,h,λj w=>?_⟩
   by_cases a:j<k
   ·exact absurd ⟨j,a,w⟩ hx
   ·lia
def Dist.pred{T:Int->Int->Prop}{u w:Int}{d:Nat}(h:Dist T u w (d+1)):∃ v,T v w/\Dist T u v d:=by
 obtain⟨a,hm⟩:=h
 cases a with
 | step hv ht =>
  rename_i v
  refine⟨v,ht,hv,λk b=>?_⟩
  have:=hm (k+1) (.step b ht)
  lia
def Dist.next{T:Int->Int->Prop}{u v w:Int}{d:Nat}(h:Dist T u v d)(t:T v w):∃ e,e<=d+1/\Dist T u w e:=Dist.of_walk (.step h.1 t)
structure Bfs(T:Int->Int->Prop)(a:Int)(line:List Int)(ds:List Nat)(at_:Nat):Prop where
 len:ds.length=line.length
 fst:line[0]?=some a
 nd:line.Nodup
 le:at_<=line.length
 dist:∀(i:Nat) v d,line[i]?=some v->ds[i]?=some d->Dist T a v d
 mono:∀(i j:Nat) d e,i<=j->ds[i]?=some d->ds[j]?=some e->d<=e
 near:∀(i j:Nat) d e,at_<=i->ds[i]?=some d->ds[j]?=some e->e<=d+1
 done:∀(i:Nat) v w,i<at_->line[i]?=some v->T v w->w∈line
end Gr
namespace L2
open PySem PySem.Spec PyProof.Rows
section
variable{σ:St}{H:Hp}{D:Ends}{K:Frag}
end
end L2
namespace L2
open PySem
end L2
namespace HT
open PySem PyProof.Rows
def XF(ns:List Int):∀ k,k<=ns.length->preSum (val ns) k=(ns.take k).sum
 |0,_=>by simp[preSum]
 | k+1,h=>by
  have a:=XF ns k (by lia)
  have e:ns.take (k+1)=ns.take k++[ns[k]]:=by rw[G7,X0 (by lia)];rfl
  rw[e,List.sum_append]
  unfold preSum
  rw[a]
  unfold val
  rw[X0 (by lia)]
  simp
section
variable{prog:Program}{w:World}{A:Around}{E:Value->Shared->Prop}{s:Shared}
def sum_list{l:Addr}{us:List Value}{ns:List Int}{Q:Value->Shared->Prop}(hh:A.handled=none)(d:s.heap.IsList l us.toArray)(hi:IntsAre us ns)
  (h:∀ t h' c,(∀ b o,s.heap.get? b=some o->h'.get? b=some o)->Q (.int ns.sum t) { s with heap:=h',toks:=c }) :
  wpAny (model prog w) A (call (.builtin "sum") [.ref l]) Q E s:=by
 have a:l<s.heap.objs.size:=by obtain⟨_,e,_⟩:=d;exact Q0 e
 have hz:us.length=ns.length:=hi.length
 refine call_sum_walkG (l9 d ?_)
 refine⟨_,[s.heap.objs.size,l],_,_,_,_,val ns,rfl,Walks.list (A:=A.in1) hh _ l (O1 a) us.toArray,⟨⟨_,X2 _ rfl,rfl,rfl⟩,d.push _⟩,λb hb=>?_,λi v=>D7 hi i v,λh' c t' g=>?_⟩
 ·show b<(s.heap.push _).objs.size
  rw[K7]
  rcases Z0.mp hb with rfl|hb
  ·exact i8 _
  ·rcases Z0.mp hb with rfl|hb
   ·exact z7 a
   ·cases hb
 ·have hs:us.toArray.size=ns.length:=by simp[hz]
  rw[hs,XF ns _ (N0 _),D6]
  refine h t' h' c λb o e=>?_
  refine g b o (λhm=>?_) (S1 _ e)
  rcases Z0.mp hm with f|hm
  ·exact absurd (f ▸ Q0 e) (S4 _)
  ·cases hm
end
end HT
namespace L2
open PySem PySem.Spec PyProof.Rows
section
variable{X:Cx}
def gC(K:Frag):List V->Hp->VK->Prop:=λxs H Q=>∃(a:Addr)(ns:List Int),xs=[.ref a]/\SqL K H a (ns.map V.int)/\Q (.int ns.sum) H
def ZH(g:X.calm=true):M2 X (.builtin "sum") (gC X.K):=by
 intro pins s σ H xs us Q I r h
 obtain⟨a,ns,rfl,ha,q⟩:=h
 obtain⟨u,rfl,c⟩:=Y4 r
 cases c
 obtain⟨its,b,d,_⟩:=I.list ha
 have f:IntsAre its.toArray.toList ns:=V7 b
 exact HT.sum_list (I.ok.hd g) d.isList (by simpa using f) λt h' i kp=>⟨.int _,H,I.kept kp,⟨_,rfl⟩,q⟩
end
section
variable{X:Cx}{pins:List (Addr × Obj)}{σ:St}{H:Hp}{s:Shared}{A:Around}{E:Value->Shared->Prop}{Q:Value->Shared->Prop}{b:Bool}
end
section
variable{X:Cx}
end
end L2
namespace HT
open PySem PyProof.Rows L2
def LtAt(A:Around)(s:Shared)(y x:Value)(b:Bool):Prop :=
 ∀(prog:Program)(w:World)(E:Value->Shared->Prop)(Q:Value->Shared->Prop),Q (.bool b) s->wpAny (model prog w) A (richCompare .Lt y x) Q E s
section
open PySem.SeqAt
open PySem.AutoSeq1 (wpAny_loadPart')
open PySem.MeetsSeq PySem.MeetsSeq2 PySem.MeetsSeq3
inductive Its(A:Around)(s:Shared):List Value->List Value->Bool->Prop
 |nn:Its A s [] [] false
 |nc {x:Value} {ys:List Value}:Its A s [] (x::ys) true
 |cn {x:Value} {xs:List Value}:Its A s (x::xs) [] false
 |eq {x y:Value} {xs ys:List Value} {b:Bool}:EqAt A s x y true->Its A s xs ys b->Its A s (x::xs) (y::ys) b
 |ne {x y:Value} {xs ys:List Value} {b:Bool}:EqAt A s x y false->LtAt A s x y b->Its A s (x::xs) (y::ys) b
end
section
variable{A:Around}{s:Shared}
end
end HT
namespace L2
open PySem PySem.Spec PyProof.Rows
section
variable{X:Cx}
end
end L2
namespace L2
open PySem
end L2
namespace TS
open PySem PyProof.Rows HT
def AH:∀ x y:List Int,HT.lexLt x y=true->HT.lexLt y x=false
 |[],[],h=>by simp[HT.lexLt] at h
 |[],_::_,_=>rfl
 |_::_,[],h=>by simp[HT.lexLt] at h
 | a::x,b::y,h=>by
  rw[XA] at h ⊢
  by_cases e:a=b
  ·subst e
   rw[t0 rfl] at h ⊢
   exact AH x y h
  ·rw[y0 e] at h
   rw[y0 (λz=>e z.symm)]
   have:=of_decide_eq_true h
   exact O2 (by lia)
def LE:∀ x y z:List Int,HT.lexLt y x=false->HT.lexLt z y=false->HT.lexLt z x=false
 |_,[],[],h,_=>h
 |[],[],_::_,_,_=>rfl
 |_::_,[],_::_,h,_=>by simp[HT.lexLt] at h
 |_,_::_,[],_,h=>by simp[HT.lexLt] at h
 |[],_::_,_::_,_,_=>rfl
 | a::x,b::y,c::z,h,g=>by
  rw[XA] at h g ⊢
  by_cases e:b=a
  ·subst e
   rw[t0 rfl] at h
   by_cases e2:c=b
   ·subst e2
    rw[t0 rfl] at g ⊢
    exact LE x y z h g
   ·rw[y0 e2] at g ⊢
    exact g
  ·rw[y0 e] at h
   have h':=of_decide_eq_false h
   by_cases e2:c=b
   ·subst e2
    rw[y0 e]
    exact h
   ·rw[y0 e2] at g
    have g':=of_decide_eq_false g
    rw[y0 (by lia)]
    exact O2 (by lia)
def TI(h:Heap)(a:Addr)(ns:List Int):Prop:=∃ o xs n,h.get? a=some o/\o.cls=.type "tuple"/\o.data=.seq xs n/\IntsAre xs.toList ns
def kfV(kf:Addr->List Int):Value->List Int
 | .ref a=>kf a
 |_=>[]
section
variable{prog:Program}{w:World}{A:Around}{E:Value->Shared->Prop}{s:Shared}
def MH{fin:Bool}{Q:Bool->Shared->Prop}:∀{xs ys:List Value}{ns c:List Int}(i:Nat),IntsAre xs ns->IntsAre ys c->(ns.length<c.length->fin=true)->(c.length<=ns.length->fin=false)->Q (HT.lexLt ns c) s ->
  PySem.W.KatLex prog w A true fin Q (xs.zip ys) i s
 | _,_,_,_,i,.nil,.nil,_,h2,q=>by
  rw[h2 (N0 _)];exact q
 | _,_,_,_,i,.nil,.cons b u r,h1,_,q=>by
  rw[h1 (by simp)];exact q
 | _,_,_,_,i,.cons a t r,.nil,_,h2,q=>by
  rw[List.zip_nil_right,h2 (by simp)];exact q
 | _,_,_,_,i,.cons a t r,.cons b u r2,h1,h2,q=>by
  rw[List.zip_cons_cons]
  refine PySem.W.kat_cons (SeqAt.EqAt.int_int a t b u prog w _ _ ?_)
  rw[XA] at q
  by_cases e:a=b
  ·subst e
   rw[t0 rfl] at q
   rw[show(a == a)=true by simp]
   exact PySem.W.kat_yes (MH (i+1) r r2 (λz=>h1 (by simpa using z)) (λz=>h2 (by simpa using z)) q)
  ·rw[y0 e] at q
   rw[show(a == b)=false by simpa using e]
   refine PySem.W.kat_no ?_
   by_cases hi:i=0
   ·subst hi
    exact oneLt_int q
   ·rw[show(true && i == 0)=false by simpa using hi]
    exact PySem.W.kat_one _ _ (PyProof.Rows.lt_int q)
def tS(h:Heap)(kf:Addr->List Int)(x:Keyed):Prop:=x.1=x.2/\∃ a,x.1=.ref a/\TI h a (kf a)
def tR(kf:Addr->List Int)(x y:Keyed):Bool:=HT.lexLt (kfV kf x.1) (kfV kf y.1)
def cmp_tups(h:Addr->List Int):Cmp (model prog w) A E s (tuples' true) (tS s.heap h) (tR h):=by
 refine⟨λx y v B Q st r q=>?_,λx y _ _=>AH _ _,λx y z _ _ _=>LE _ _ _⟩
 obtain⟨I,H⟩:=x
 obtain⟨D,G⟩:=y
 obtain⟨_,a,i,o,xs,n,p,e2,l,f⟩:=v
 obtain⟨_,b,j,o',ys,F,m,C,u,c⟩:=B
 dsimp only at i j
 subst i j
 rw[lt'_eq]
 refine wpS_bind (wpS_get ?_)
 rw[r]
 refine wpS_bind (wpS_lift (wpAny_attempt (PySem.W.kat_lt p l m u (MH 0 f c (λz=>?_) (λz=>?_) ⟨rfl,?_⟩))))
 ·have g:=f.length;have d:=c.length
  simp at g d
  exact O4 (by lia)
 ·have g:=f.length;have d:=c.length
  simp at g d
  exact O2 (by lia)
 ·exact wpS_pure q
def EQ{vs:List Value}{ps:List Keyed}(h:ps.Perm (vs.zip vs)):(∀ p∈ps,p.1=p.2/\p.1∈vs)/\(ps.map (·.2)).Perm vs:=by
 refine⟨λp a=>mem_zip_self (h.mem_iff.mp a),?_⟩
 have b:=h.map (λp=>p.2)
 have e:(vs.zip vs).map (λp=>p.2)=vs:=List.map_snd_zip (N0 _)
 rwa [e] at b
def LH{a:Addr}{vs:List Value}{n:Nat}{P:PySem.Fin->Shared->Prop}(j:s.heap.get? a=some (seqObj "list" vs.toArray n))(c:vs.length<=sizeLine)
  (q:2<=vs.length->∀ h',(∀ b o,b ≠ a->s.heap.get? b=some o->h'.get? b=some o)->∃ κ S R,(∀(Q:SortKind->Shared->Prop),Q κ { s with heap:=h' }->wpAny (model prog w) A (keyKind' vs.toArray) Q E { s with heap:=h' })/\Cmp (model prog w) A E { s with heap:=h' } κ S R/\(∀ v∈vs,S (v,v)) /\
   ∀ out:List Value,out.Perm vs->out.Pairwise (λx y=>R (y,y) (x,x)=false)->P (.done (.ret .none)) { s with heap:=sortedHeap s.heap a vs out.toArray })
  (M:vs.length<2->P (.done (.ret .none)) { s with heap:=sortedHeap s.heap a vs vs.toArray }) :
  wpAny (model prog w) A (Builtin.«list.sort» ⟨[.ref a],[]⟩) P E s:=by
 rw[list_sort_plain]
 have ha:a<s.heap.objs.size:=Q0 j
 refine C0 (listItems_at j rfl ?_)
 refine C0 (listUpdate_at j rfl ?_ (by rw[S2];exact c) (Y3 _))
 obtain⟨m,h⟩:∃ m,(s.heap.update a (Obj.mapSeq λ_=>#[])).get? a=some (seqObj "list" #[] m):=⟨_,get?_update_seq j (λ_=>#[])⟩
 refine C0 (seqEpoch_at h rfl ?_)
 refine C0 (wpAny_newTuple ?_ (by show vs.length<=_;exact c))
 refine C0 (wpAny_newList ?_ (Y3 _))
 refine Z5 ?_
 have d:(((s.heap.update a (Obj.mapSeq λ_=>#[])).push (seqObj "tuple" vs.toArray 0)).push (seqObj "list" #[] 0)).get? a=some (seqObj "list" #[] m):=by
  rw[Heap.get?_push_ne _ _ _ (by rw[size_push',Heap.size_update];exact O1 (z7 ha)),Heap.get?_push_ne _ _ _ (by rw[Heap.size_update];exact O1 ha)]
  exact h
 show wpAny (model prog w) A _ P E { s with heap:=((s.heap.update a (Obj.mapSeq λ_=>#[])).push (seqObj "tuple" vs.toArray 0)).push (seqObj "list" #[] 0) }
 dsimp only
 have hsz:vs.toArray.size=vs.length:=by simp
 have kp:∀ b o,b ≠ a->s.heap.get? b=some o->(((s.heap.update a (Obj.mapSeq λ_=>#[])).push (seqObj "tuple" vs.toArray 0)).push (seqObj "list" #[] 0)).get? b=some o:=λb o hb e=>by
  refine S1 _ (S1 _ ?_)
  rw[Heap.get?_update_ne _ _ _ _ hb];exact e
 by_cases h2:vs.toArray.size<2
 ·rw[t0 h2,t0 h2]
  refine C0 (M0 ?_)
  rw[StateT.run_pure]
  refine C0 (M0 ?_)
  dsimp only
  have l:(arrOf (SortSt.mk' general' (vs.toArray.zip vs.toArray) #[] 7 none)).map (·.2)=vs.toArray:=by
   show(vs.toArray.zip vs.toArray).map (·.2)=vs.toArray
   apply Array.toList_inj.mp
   rw[Array.toList_map,Array.toList_zip]
   exact List.map_snd_zip (N0 _)
  rw[l]
  refine C0 (seqEpoch_at d rfl ?_)
  refine C0 (listUpdate_at d rfl ?_ (Y3 _) (by rw[S2];exact Nat.le_succ_of_le c))
  simp only[bne_self_eq_false,Bool.false_eq_true,if_false]
  exact M0 (M (by lia))
 ·rw[y0 h2,y0 h2]
  obtain⟨κ,S,R,D,C,B,i⟩:=q (by lia) _ kp
  refine C0 (D _ ?_)
  refine C0 (n4 (TK C (a0:=vs.toArray.zip vs.toArray) (st:=SortSt.mk' κ (vs.toArray.zip vs.toArray) #[] 7 none) (Q:=λ_ st'=>failedOf st'=none/\(arrOf st').toList.Perm (vs.zip vs)/\Srt R (arrOf st').toList) (λx r=>?_) rfl rfl rfl rfl λst' K H z=>⟨K,by simpa using H,z⟩) ?_ λ_ _ e=>e)
  ·have:x∈vs.zip vs:=by simpa using r
   obtain⟨f,g⟩:=mem_zip_self this
   obtain⟨J,G⟩:=x
   dsimp only at f g
   subst f
   exact B _ g
  rintro⟨⟨⟩,st'⟩ z ⟨rfl,hf,F,hs⟩
  dsimp only
  obtain⟨f,g⟩:=EQ F
  have l:(arrOf st').map (·.2)=(((arrOf st').toList.map (·.2)).toArray):=by
   apply Array.toList_inj.mp
   simp
  rw[l]
  have p:((arrOf st').toList.map (·.2)).length=vs.length:=g.length_eq
  refine C0 (seqEpoch_at d rfl ?_)
  refine C0 (listUpdate_at d rfl ?_ (Y3 _) (by rw[S2,p];exact Nat.le_succ_of_le c))
  rw[hf]
  simp only[bne_self_eq_false,Bool.false_eq_true,if_false]
  refine M0 (i _ g ?_)
  rw[t7]
  refine UA ?_ hs
  intro x y r L I
  have ex:=(f x r).1
  have u:=(f y L).1
  obtain⟨J,G⟩:=x
  obtain⟨N,O⟩:=y
  dsimp only at ex u
  subst ex u
  exact I
def sorted_any{l:Addr}{vs:List Value}{Q:Value->Shared->Prop}(r:s.heap.IsList l vs.toArray)(c:vs.length<=sizeLine)
  (g:2<=vs.length->∀ h',(∀ b o,s.heap.get? b=some o->h'.get? b=some o)->∃ κ S R,(∀(Q:SortKind->Shared->Prop),Q κ { s with heap:=h' }->wpAny (model prog w) A.in1.in1 (keyKind' vs.toArray) Q E { s with heap:=h' })/\Cmp (model prog w) A.in1.in1 E { s with heap:=h' } κ S R/\(∀ v∈vs,S (v,v)) /\
   ∀ out:List Value,out.Perm vs->out.Pairwise (λx y=>R (y,y) (x,x)=false)->Q (.ref (s.heap.objs.size+1)) { s with heap:=sortedAll s.heap vs out.toArray })
  (u:vs.length<2->Q (.ref (s.heap.objs.size+1)) { s with heap:=sortedAll s.heap vs vs.toArray }) :
  wpAny (model prog w) A (call (.builtin "sorted") [.ref l]) Q E s:=by
 refine Calls.call_function_entry kind_sorted plain_sorted entry_sorted (args_sorted1 _) ?_
 unfold Builtin.«sorted»
 refine C0 (m:=checkCount "sorted" 1 1 _) (M0 ?_)
 refine C0 (collect_list r ?_ c)
 refine C0 (wpAny_newList ?_ c)
 have hsz:((s.heap.push (seqObj "list" #[] 0)).update s.heap.objs.size (Obj.mapSeq (· ++ vs.toArray))).objs.size=s.heap.objs.size+1:=by
  rw[Heap.size_update,size_push']
 have d:(((s.heap.push (seqObj "list" #[] 0)).update s.heap.objs.size (Obj.mapSeq (· ++ vs.toArray))).push (seqObj "list" vs.toArray 0)).get? (s.heap.objs.size+1)=some (seqObj "list" vs.toArray 0):=by
  rw[← hsz];exact X2 _ rfl
 have keep:∀ b o,s.heap.get? b=some o->(((s.heap.push (seqObj "list" #[] 0)).update s.heap.objs.size (Obj.mapSeq (· ++ vs.toArray))).push (seqObj "list" vs.toArray 0)).get? b=some o:=λb o q=>by
  have a:b<s.heap.objs.size:=Q0 q
  rw[Heap.get?_push_ne _ _ _ (by rw[hsz];exact O1 (z7 a)),Heap.get?_update_ne _ _ _ _ (O1 a),Heap.get?_push_ne _ _ _ (O1 a)]
  exact q
 show wpAny _ _ _ _ _ { s with heap:=((s.heap.push (seqObj "list" #[] 0)).update s.heap.objs.size (Obj.mapSeq (· ++ vs.toArray))).push (seqObj "list" vs.toArray 0) }
 rw[hsz]
 refine C0 (Z5 (H9 slot_list_sort ⟨_,d,rfl⟩ entry_list_sort ?body (args_list_sort _)))
 case body =>
  refine LH (s:={ s with heap:=((s.heap.push (seqObj "list" #[] 0)).update s.heap.objs.size (Obj.mapSeq (· ++ vs.toArray))).push (seqObj "list" vs.toArray 0) }) d c (λh h' kp=>?_) λa=>?_
  ·obtain⟨κ,S,R,p,C,j,f⟩:=g h h' λb o e=>kp b o (O1 (z7 (Q0 e))) (keep b o e)
   exact⟨κ,S,R,p,C,j,λout i n=>⟨_,rfl,M0 ⟨_,rfl,f out i n⟩⟩⟩
  ·exact⟨_,rfl,M0 ⟨_,rfl,u a⟩⟩
end
end TS
namespace L2
open PySem PySem.Spec PyProof.Rows
def toI:V->Int
 | .int i=>i
 |_=>0
def kH(H:Hp):V->List Int
 | .ref t=>match H t with
  |some (.tup xs)=>xs.map toI
  |_=>[]
 |_=>[]
def JM(ns:List Int):(ns.map V.int).map toI=ns:=by
 rw[U3]
 have:(toI ∘ V.int)=id:=by funext i;rfl
 rw[this,List.map_id]
def jB{H:Hp}{t:Addr}{ns:List Int}(h:H t=some (.tup (ns.map V.int))):kH H (.ref t)=ns:=by
 simp only[kH,h];exact JM ns
def TupI(H:Hp)(v:V):Prop:=∃ t ns,v=.ref t/\H t=some (.tup (ns.map V.int))/\ns ≠ []
def p6:Value->V
 | .ref a=>.ref a
 |_=>.non
def HD:∀{us:List Value},(∀ u∈us,∃ a,u=.ref a)->Vals (us.map p6) us
 |[],_=>.nil
 | u::us,h=>by
  obtain⟨a,e⟩:=h u T3
  subst e
  exact .cons rfl (HD λv b=>h v (S3 _ b))
def LD{H:Hp}:∀{vs:List V}{us:List Value},Vals vs us->(∀ v∈vs,TupI H v)->(∀ u∈us,∃ a,u=.ref a)/\us.map p6=vs
 |_,_,.nil,_=>⟨λu f=>(by cases f),rfl⟩
 | v::vs,u::us,.cons r t,h=>by
  obtain⟨a,ns,rfl,_,_⟩:=h v T3
  cases r
  obtain⟨g,d⟩:=LD t λv c=>h v (S3 _ c)
  refine⟨λx b=>?_,by rw[P2,d];rfl⟩
  rcases Z0.mp b with rfl|b
  ·exact⟨_,rfl⟩
  ·exact g x b
section
variable{X:Cx}
def iB(K:Frag):List V->Hp->VK->Prop:=λxs H Q=>∃(a:Addr)(vs:List V),xs=[.ref a]/\SqL K H a vs/\(∀ v∈vs,TupI H v) /\
 ∀(vs':List V)(p:Addr),vs'.Perm vs->vs'.Pairwise (λx y=>HT.lexLt (kH H y) (kH H x)=false)->H p=none->Q (.ref p) (upd H p (.lst vs'))
def eE{H:Hp}{pins:List (Addr × Obj)}{σ:St}{s:Shared}(I:Inv X pins σ H s){h':Heap}(kp:∀ b o,s.heap.get? b=some o->h'.get? b=some o):∀{vs:List V}{us:List Value},Vals vs us->(∀ v∈vs,TupI H v) ->
  (∃ fs,PySem.W.KatTups h' us fs/\fs.length=us.length/\∀ f∈fs,∃ i t,f=.int i t)/\∀ u∈us,∃ a,u=.ref a/\TS.TI h' a (kH H (.ref a))
 |_,_,.nil,_=>⟨⟨[],trivial,rfl,λf hf=>by cases hf⟩,λu C=>by cases C⟩
 | v::vs,u::us,.cons r t,h=>by
  obtain⟨a,ns,rfl,e,c⟩:=h v T3
  cases r
  obtain⟨⟨fs,k1,k2,k3⟩,A⟩:=eE I kp t λv y=>h v (S3 _ y)
  obtain⟨_,its,q,o,p,e2,n,m⟩:=(show ObjOk X.prog X.w H s.heap a (.tup (ns.map V.int)) from I.hok a _ e)
  have hi:IntsAre its ns:=by simpa using (V7 q:IntsAre its.toArray.toList ns)
  have B:TS.TI h' a (kH H (.ref a)):=⟨o,its.toArray,n,kp _ _ p,e2,m,by rw[jB e];simpa using hi⟩
  obtain⟨f,hf,i,d,z⟩:∃ f,its.toArray[0]?=some f/\∃ i t,f=.int i t:=by
   cases hi with
   |nil=>exact absurd rfl c
   |cons i d _=>exact⟨_,by simp,i,d,rfl⟩
  refine⟨⟨f::fs,PySem.W.KatTups.cons (kp _ _ p) e2 m hf k1,by simp[k2],λg l=>?_⟩,λx j=>?_⟩
  ·rcases Z0.mp l with rfl|l
   ·exact⟨i,d,z⟩
   ·exact k3 g l
  ·rcases Z0.mp j with rfl|j
   ·exact⟨a,rfl,B⟩
   ·exact A x j
def wG{α:Type}{R : α->α->Prop}:∀{l:List α},l.length<2->l.Pairwise R
 |[],_=>List.Pairwise.nil
 |[_],_=>List.pairwise_singleton _ _
 |_::_::_,h=>absurd h (by simp)
def pA:M2 X (.builtin "sorted") (iB X.K):=by
 intro pins s σ H xs us Q I r h
 obtain⟨a,vs,rfl,ha,n,q⟩:=h
 obtain⟨u,rfl,w⟩:=Y4 r
 cases w
 obtain⟨its,j,B,hz⟩:=I.list ha
 obtain⟨b1,z⟩:=LD j n
 have c:its.length<=sizeLine:=by rw[← j.length];exact hz
 have d:H (s.heap.objs.size+1)=none:=I.hok.fresh (Nat.le_succ _)
 have fin:∀ out:List Value,out.Perm its->(out.map p6).Pairwise (λx y=>HT.lexLt (kH H y) (kH H x)=false)->EP X pins σ Q (.ref (s.heap.objs.size+1)) { s with heap:=sortedAll s.heap its out.toArray }:=by
  intro out f hs
  obtain⟨e,A⟩:=sortedAll_at s.heap its out.toArray
  have g:Vals (out.map p6) out:=HD λu L=>b1 u (f.mem_iff.mp L)
  refine⟨.ref (s.heap.objs.size+1),_,I.laid (t':=s.toks) (o:=.lst (out.map p6)) (λb N q=>sortedAll_old q) (Nat.le_succ _) ?_,rfl,q _ _ ?_ hs d⟩
  ·refine⟨by rw[T0,f.length_eq];exact c,out,e,g,by rw[A]⟩
  ·rw[← z];exact f.map p6
 refine TS.sorted_any B.isList c (λE h' kp=>?_) λm=>?_
 ·obtain⟨⟨fs,k1,k2,k3⟩,D⟩:=eE I kp j n
  have l:(Value.type "int" != Value.type "tuple")=true:=by rfl
  refine⟨tuples' true,TS.tS h' (λa=>kH H (.ref a)),TS.tR (λa=>kH H (.ref a)),λQ' F=>?_,TS.cmp_tups (s:={ s with heap:=h' }) (λa=>kH H (.ref a)),λv g=>?_,λout f hs=>fin out f ?_⟩
  ·refine PySem.W.kat_kind (T:=.type "int") (s:={ s with heap:=h' }) k1 (by lia) (λv g=>?_) (by rfl) ?_
   ·obtain⟨i,t,rfl⟩:=k3 v g
    exact .now
   ·rw[l];exact F
  ·obtain⟨a,e,p⟩:=D v g
   exact⟨rfl,a,e,p⟩
  ·rw[t7]
   refine UA ?_ hs
   intro x y G C J
   obtain⟨O,rfl⟩:=b1 x (f.mem_iff.mp G)
   obtain⟨M,rfl⟩:=b1 y (f.mem_iff.mp C)
   exact J
 ·refine fin its (List.Perm.refl _) ?_
  exact wG (by rw[T0];exact m)
end
end L2
namespace HT
open PySem PySem.Spec PyProof.Rows L2
section
variable{prog:Program}{w:World}{A:Around}{kw:List (Str × Value)}{R:Result->Shared->Prop}{I S:Addr}{fp wr:List Addr}{n:Nat}{P:Nat->Value->Prop}{St:Nat->Heap->Prop}{Hd:Heap->Prop}
end
section
variable{prog:Program}{w:World}{A:Around}{E:Value->Shared->Prop}{s:Shared}
end
end HT
namespace L2
open PySem PySem.Spec PyProof.Rows
section
variable{X:Cx}{x:Str}{p pos kpos:Pos}{e en:Expr}{t:TA}
end
end L2
namespace HT
open PySem PySem.Spec PyProof.Rows
section
variable{prog:Program}{w:World}{A:Around}{E:Value->Shared->Prop}{s:Shared}
end
end HT
namespace L2
open PySem PySem.Spec PyProof.Rows
section
variable{X:Cx}
end
end L2
namespace VL
open PySem PySem.Spec L2
def kD:Key->PyData
 | .inl i=>.int i
 | .inr x=>.str x
mutual
inductive Rp(G:Hp):V->PyData->Prop
 |non:Rp G .non .none
 |bl (b:Bool):Rp G (.bl b) (.bool b)
 |int (i:Int):Rp G (.int i) (.int i)
 |str (x:Str):Rp G (.str x) (.str x)
 |lst {a:Addr} {xs:List V} {ds:List PyData}:G a=some (.lst xs)->Rps G xs ds->Rp G (.ref a) (.list ds)
 |tup {a:Addr} {xs:List V} {ds:List PyData}:G a=some (.tup xs)->Rps G xs ds->Rp G (.ref a) (.tuple ds)
 |dk {a:Addr} {kvs:List (Key × V)} {es:List (Key × PyData)} {ds:List (PyData × PyData)}:G a=some (.dK kvs)->RpK G kvs es->ds=es.map (λp=>(kD p.1,p.2))->Rp G (.ref a) (.dict ds)
 |dt {a:Addr} {kvs:List (List Key × V)} {es:List (List Key × PyData)} {ds:List (PyData × PyData)}:G a=some (.dT kvs)->RpT G kvs es->ds=es.map (λp=>(.tuple (p.1.map kD),p.2))->Rp G (.ref a) (.dict ds)
inductive Rps(G:Hp):List V->List PyData->Prop
 |nil:Rps G [] []
 |cons {v:V} {vs:List V} {d:PyData} {ds:List PyData}:Rp G v d->Rps G vs ds->Rps G (v::vs) (d::ds)
inductive RpK(G:Hp):List (Key × V)->List (Key × PyData)->Prop
 |nil:RpK G [] []
 |cons {k:Key} {v:V} {d:PyData} {r:List (Key × V)} {s:List (Key × PyData)}:Rp G v d->RpK G r s->RpK G ((k,v)::r) ((k,d)::s)
inductive RpT(G:Hp):List (List Key × V)->List (List Key × PyData)->Prop
 |nil:RpT G [] []
 |cons {k:List Key} {v:V} {d:PyData} {r:List (List Key × V)} {s:List (List Key × PyData)}:Rp G v d->RpT G r s->RpT G ((k,v)::r) ((k,d)::s)
end
mutual
def Rp.same{G G':Hp}(s:Same G G'):∀{v:V}{d:PyData},Rp G v d->Rp G' v d
 |_,_,.non=>.non
 |_,_,.bl b=>.bl b
 |_,_,.int i=>.int i
 |_,_,.str x=>.str x
 |_,_,.lst h r=>.lst (s _ _ h) (Rps.same s r)
 |_,_,.tup h r=>.tup (s _ _ h) (Rps.same s r)
 |_,_,.dk h r e=>.dk (s _ _ h) (RpK.same s r) e
 |_,_,.dt h r e=>.dt (s _ _ h) (RpT.same s r) e
def Rps.same{G G':Hp}(s:Same G G'):∀{vs:List V}{ds:List PyData},Rps G vs ds->Rps G' vs ds
 |_,_,.nil=>.nil
 |_,_,.cons r t=>.cons (Rp.same s r) (Rps.same s t)
def RpK.same{G G':Hp}(s:Same G G'):∀{vs:List (Key × V)}{ds:List (Key × PyData)},RpK G vs ds->RpK G' vs ds
 |_,_,.nil=>.nil
 |_,_,.cons r t=>.cons (Rp.same s r) (RpK.same s t)
def RpT.same{G G':Hp}(s:Same G G'):∀{vs:List (List Key × V)}{ds:List (List Key × PyData)},RpT G vs ds->RpT G' vs ds
 |_,_,.nil=>.nil
 |_,_,.cons r t=>.cons (Rp.same s r) (RpT.same s t)
end
def Rps.length{G:Hp}:∀{vs:List V}{ds:List PyData},Rps G vs ds->vs.length=ds.length
 |_,_,.nil=>rfl
 |_,_,.cons _ t=>by simp[Rps.length t]
def Rps.get{G:Hp}:∀{vs:List V}{ds:List PyData}{i:Nat}{d:PyData},Rps G vs ds->ds[i]?=some d->∃ v,vs[i]?=some v/\Rp G v d
 |_,_,_,_,.nil,e=>by simp at e
 |_,_,0,_,.cons r _,e=>by simp at e;subst e;exact⟨_,rfl,r⟩
 | _,_,i+1,d,.cons _ t,e=>by
  obtain⟨u,b,a⟩:=Rps.get (i:=i) (d:=d) t (by simpa using e)
  exact⟨u,by simpa using b,a⟩
def Rps.append{G:Hp}:∀{vs a:List V}{ds es:List PyData},Rps G vs ds->Rps G a es->Rps G (vs++a) (ds++es)
 |_,_,_,_,.nil,s=>s
 |_,_,_,_,.cons r t,s=>.cons r (Rps.append t s)
def Rps.set{G:Hp}{v:V}{d:PyData}(h:Rp G v d):∀{vs:List V}{ds:List PyData}(i:Nat),Rps G vs ds->Rps G (vs.set i v) (ds.set i d)
 |_,_,_,.nil=>.nil
 |_,_,0,.cons _ t=>.cons h t
 |_,_,i+1,.cons r t=>.cons r (Rps.set h i t)
def Rps.take{G:Hp}:∀{vs:List V}{ds:List PyData}(i:Nat),Rps G vs ds->Rps G (vs.take i) (ds.take i)
 |_,_,0,_=>.nil
 |_,_,_+1,.nil=>.nil
 |_,_,i+1,.cons r t=>.cons r (Rps.take i t)
def Rps.drop{G:Hp}:∀{vs:List V}{ds:List PyData}(i:Nat),Rps G vs ds->Rps G (vs.drop i) (ds.drop i)
 |_,_,0,r=>r
 |_,_,_+1,.nil=>.nil
 |_,_,i+1,.cons _ t=>Rps.drop i t
def Rps.rep{G:Hp}{vs:List V}{ds:List PyData}(h:Rps G vs ds):∀(k:Nat),Rps G (List.replicate k vs).flatten (List.replicate k ds).flatten
 |0=>.nil
 | k+1=>by
  rw[j7,j7,List.flatten_cons,List.flatten_cons]
  exact h.append (Rps.rep h k)
def Rps.ints{G:Hp}:∀(ns:List Int),Rps G (ns.map V.int) (ns.map PyData.int)
 |[]=>.nil
 |n::ns=>.cons (.int n) (Rps.ints ns)
def Rps.ints_inv{G:Hp}:∀{ns:List Int}{vs:List V},Rps G vs (ns.map PyData.int)->vs=ns.map V.int
 |[],_,.nil=>rfl
 | n::ns,_,.cons r t=>by
  cases r
  rw[Rps.ints_inv t];rfl
mutual
def Rp.rep{G:Hp}:∀{v:V}{d:PyData},Rp G v d->z1 d=true->Rep G v d
 |_,_,.non,_=>.non
 |_,_,.bl b,_=>.bl b
 |_,_,.int i,_=>.int i
 |_,_,.str x,_=>.str x
 |_,_,.lst h r,p=>.lst h (Rps.reps r (by simpa[z1] using p))
 |_,_,.tup h r,p=>.tup h (Rps.reps r (by simpa[z1] using p))
 |_,_,.dk h r e,p=>by simp[z1] at p
 |_,_,.dt h r e,p=>by simp[z1] at p
def Rps.reps{G:Hp}:∀{vs:List V}{ds:List PyData},Rps G vs ds->plainDs ds=true->Reps G vs ds
 |_,_,.nil,_=>.nil
 | _,_,.cons r t,p=>by
  simp only[plainDs,S5] at p
  exact .cons (Rp.rep r p.1) (Rps.reps t p.2)
end
structure Own where
 P:Hp->Hp->V->(Addr->Prop)->Prop
 mono:∀{G H G' H':Hp}{v:V}{F:Addr->Prop},P G H v F->Same G G'->(∀ a o,F a->H a=some o->H' a=some o)->P G' H' v F
 dom:∀{G H:Hp}{v:V}{F:Addr->Prop},P G H v F->∀ a,F a->∃ o,H a=some o
inductive Sl where
 |st (d:PyData)|own (A:Own)|io (A:Own)|scr (ns:List Int)
abbrev En:=List (Option Sl)
structure Bs where
 K:Frag
 G:Hp
 H:Hp
 R:Hp
 S:St
 F:Nat->Addr->Prop
def SlOk(B:Bs)(G H:Hp)(i:Nat)(v:V)(F:Addr->Prop):Sl->Prop
 | .st d=>Rp G v d/\∀ a,¬ F a
 | .own A=>A.P G H v F/\∀ a,F a->B.H a=none
 | .io A=>A.P G H v F/\(∀ a,F a->B.F i a\/B.H a=none)/\B.S[i]?=some (some v)
 | .scr ns=>(∃ a,v=.ref a/\SqL B.K G a (ns.map V.int))/\∀ a,¬ F a
def FT(G H:Hp):Prop:=∀(a:Addr)(ks:List Key),H a=some (.tup (ks.map kV))->G a=some (.tup (ks.map kV))
structure VI(B:Bs)(G H:Hp)(σ:St)(env:En)(F:Nat->Addr->Prop):Prop where
 gh:Same G H
 g0:Same B.G G
 gn:∀ a o,G a=some o->B.G a=some o\/B.H a=none
 rs:Same B.R H
 rb:Same B.R B.H
 bh:∀ a o,B.H a=some o->∃ o',H a=some o'
 fg:∀ i a,F i a->G a=none
 fr:∀ i a,F i a->B.R a=none
 fd:∀ i j a,F i a->F j a->i=j
 fo:∀ i a,F i a->∃ o,H a=some o
 sl:∀ i s,env[i]?=some (some s)->∃ v,σ[i]?=some (some v)/\SlOk B G H i v (F i) s
 ln : σ.length=env.length
 ft:FT G H
def RsOk(G H:Hp)(v:V)(F:Addr->Prop):Sl->Prop
 | .st d=>Rp G v d/\∀ a,¬ F a
 | .own A=>A.P G H v F
 |_=>False
structure RsX(B:Bs)(G H:Hp)(v:V)(Fv:Addr->Prop)(s:Sl)(F:Nat->Addr->Prop):Prop where
 ok:RsOk G H v Fv s
 fb:∀ a,Fv a->B.H a=none
 fg:∀ a,Fv a->G a=none
 fo:∀ a,Fv a->∃ o,H a=some o
 fd:∀ j a,Fv a->¬ F j a
structure Out(G H:Hp)(v:V)(G' H':Hp)(s:Sl)(Fv:Addr->Prop):Prop where
 gg:Same G G'
 gh:Same G' H'
 hh:Same H H'
 gn:∀ a o,G' a=some o->G a=some o\/H a=none
 fn:∀ a,Fv a->H a=none
 fg:∀ a,Fv a->G' a=none
 fo:∀ a,Fv a->∃ o,H' a=some o
 ok:RsOk G' H' v Fv s
 ft:FT G H->FT G' H'
def kN{α:Type}{o:Option α}(h:o ≠ none):∃ x,o=some x:=by
 cases o with
 |none=>exact absurd rfl h
 |some x=>exact⟨x,rfl⟩
def SlOk.mono{B:Bs}{G H G' H':Hp}{i:Nat}{v:V}{F:Addr->Prop}{s:Sl}(h:SlOk B G H i v F s)(g:Same G G')(hh:∀ a o,F a->H a=some o->H' a=some o):SlOk B G' H' i v F s:=by
 cases s with
 |st d=>exact⟨h.1.same g,h.2⟩
 |own A=>exact⟨A.mono h.1 g hh,h.2⟩
 |io A=>exact⟨A.mono h.1 g hh,h.2⟩
 | scr ns =>
  obtain⟨⟨a,e,q⟩,n⟩:=h
  exact⟨⟨a,e,g.seq q⟩,n⟩
section
variable{B:Bs}{G H G' H':Hp}{σ:St}{env:En}{F:Nat->Addr->Prop}{v:V}{s:Sl}{Fv:Addr->Prop}
def VI.no_r(I:VI B G H σ env F){a:Addr}(h:H a=none):B.R a=none:=by
 cases e:B.R a with
 |none=>rfl
 |some o=>rw[I.rs a o e] at h;cases h
def VI.no_b(I:VI B G H σ env F){a:Addr}(h:H a=none):B.H a=none:=by
 cases e:B.H a with
 |none=>rfl
 |some o=>obtain⟨o',b⟩:=I.bh a o e;rw[b] at h;cases h
def VI.no_g(I:VI B G H σ env F){a:Addr}(h:H a=none):G a=none:=by
 cases e:G a with
 |none=>rfl
 |some o=>rw[I.gh a o e] at h;cases h
def VI.no_f(I:VI B G H σ env F){a:Addr}(h:H a=none)(i:Nat):¬ F i a:=λz=>by
 obtain⟨o,e⟩:=I.fo i a z;rw[e] at h;cases h
def VI.grow(I:VI B G H σ env F)(gg:Same G G')(gh:Same G' H')(hh:Same H H')(gn:∀ a o,G' a=some o->G a=some o\/H a=none)(ft:FT G' H'):VI B G' H' σ env F where
 gh:=gh
 g0:=I.g0.trans gg
 gn:=λa o e=>by
  rcases gn a o e with e|e
  ·exact I.gn a o e
  ·exact .inr (I.no_b e)
 rs:=I.rs.trans hh
 rb:=I.rb
 bh:=λa o e=>by obtain⟨o',b⟩:=I.bh a o e;exact⟨o',hh _ _ b⟩
 fg:=λi a z=>by
  cases e:G' a with
  |none=>rfl
  | some o =>
   rcases gn a o e with e|e
   ·rw[I.fg i a z] at e;cases e
   ·exact absurd z (I.no_f e i)
 fr:=I.fr
 fd:=I.fd
 fo:=λi a z=>by obtain⟨o,e⟩:=I.fo i a z;exact⟨o,hh _ _ e⟩
 sl:=λi s e=>by
  obtain⟨v,c,e2⟩:=I.sl i s e
  exact⟨v,c,e2.mono gg λa o _ q=>hh _ _ q⟩
 ln:=I.ln
 ft:=ft
def VI.out(I:VI B G H σ env F)(o:Out G H v G' H' s Fv):VI B G' H' σ env F/\RsX B G' H' v Fv s F :=
 ⟨I.grow o.gg o.gh o.hh o.gn (o.ft I.ft),o.ok,λa z=>I.no_b (o.fn a z),o.fg,o.fo,λj a z y=>I.no_f (o.fn a z) j y⟩
def VI.b_r(I:VI B G H σ env F){a:Addr}(h:B.H a=none):B.R a=none:=by
 cases e:B.R a with
 |none=>rfl
 |some o=>rw[I.rb a o e] at h;cases h
def putF(F:Nat->Addr->Prop)(i:Nat)(Fv:Addr->Prop):Nat->Addr->Prop:=λj a=>if j=i then Fv a else F j a
def putF_same{i:Nat}{a:Addr}:putF F i Fv i a ↔ Fv a:=by unfold putF;rw[t0 rfl]
def aA{i:Nat}:putF F i Fv i=Fv:=by funext a;unfold putF;rw[t0 rfl]
def P3{i j:Nat}(h:j ≠ i):putF F i Fv j=F j:=by funext a;unfold putF;rw[y0 h]
def VI.slot(I:VI B G H σ env F)(i:Nat)(o:Option V)(os:Option Sl)(fg:∀ a,Fv a->G a=none)(fr:∀ a,Fv a->B.R a=none)(fo:∀ a,Fv a->∃ o,H a=some o)(fd:∀ j a,j ≠ i->Fv a->¬ F j a)
  (ok:∀ s,os=some s->∃ v,o=some v/\SlOk B G H i v Fv s):VI B G H (σ.set i o) (env.set i os) (putF F i Fv) where
 gh:=I.gh
 g0:=I.g0
 gn:=I.gn
 rs:=I.rs
 rb:=I.rb
 bh:=I.bh
 fg:=λj a z=>by
  by_cases h:j=i
  ·subst h;exact fg a (putF_same.mp z)
  ·rw[P3 h] at z;exact I.fg j a z
 fr:=λj a z=>by
  by_cases h:j=i
  ·subst h;exact fr a (putF_same.mp z)
  ·rw[P3 h] at z;exact I.fr j a z
 fd:=λj k a y z=>by
  by_cases h:j=i
  ·by_cases g:k=i
   ·rw[h,g]
   ·subst h;rw[P3 g] at z;exact absurd z (fd k a g (putF_same.mp y))
  ·by_cases g:k=i
   ·subst g;rw[P3 h] at y;exact absurd y (fd j a h (putF_same.mp z))
   ·rw[P3 h] at y;rw[P3 g] at z;exact I.fd j k a y z
 fo:=λj a z=>by
  by_cases h:j=i
  ·subst h;exact fo a (putF_same.mp z)
  ·rw[P3 h] at z;exact I.fo j a z
 sl:=λj t e=>by
  by_cases h:j=i
  ·subst h
   rw[Z3,t0 rfl] at e
   by_cases hl:j<env.length
   ·rw[t0 hl] at e
    obtain⟨v,b,q⟩:=ok t (M3 e)
    refine⟨v,by rw[Z3,t0 rfl,t0 (by rw[I.ln];exact hl),b],?_⟩
    rw[aA];exact q
   ·rw[y0 hl] at e;cases e
  ·rw[Z3,y0 (λz=>h z.symm)] at e
   obtain⟨v,b,q⟩:=I.sl j t e
   refine⟨v,by rw[Z3,y0 (λz=>h z.symm)];exact b,?_⟩
   rw[P3 h];exact q
 ln:=by simp[I.ln]
 ft:=I.ft
def VI.store(I:VI B G H σ env F)(r:RsX B G H v Fv s F)(i:Nat):VI B G H (σ.set i (some v)) (env.set i (some s)) (putF F i Fv):=by
 refine I.slot i (some v) (some s) r.fg (λa z=>I.b_r (r.fb a z)) r.fo (λj a _ z=>r.fd j a z) λt e=>?_
 cases e
 refine⟨v,rfl,?_⟩
 have:=r.ok
 cases s with
 |st d=>exact this
 |own A=>exact⟨this,r.fb⟩
 |io A=>exact this.elim
 |scr ns=>exact this.elim
def VI.drop(I:VI B G H σ env F)(i:Nat):VI B G H σ (env.set i none) (putF F i λ_=>False):=by
 have:=I.slot (Fv:=λ_=>False) i ((σ[i]?).getD none) none (λa z=>z.elim) (λa z=>z.elim) (λa z=>z.elim) (λj a _ z=>z.elim) (λs e=>by cases e)
 rwa [show σ.set i ((σ[i]?).getD none) = σ from ?_] at this
 apply T5
 intro j
 rw[Z3]
 by_cases h:i=j
 ·subst h
  rw[t0 rfl]
  by_cases hl:i<σ.length
  ·rw[t0 hl,X0 hl];rfl
  ·rw[y0 hl,i7.mpr (by lia)]
 ·rw[y0 h]
def VI.change{A:Own}(I:VI B G H σ env F)(i:Nat){H2:Hp}{F2:Addr->Prop}{os os':Sl}(e:env[i]?=some (some os))(g : σ[i]?=some (some v))
  (keep:∀ a o,¬ F i a->H a=some o->H2 a=some o) (l:∀ a o,H a=some o->∃ o',H2 a=some o') (c:∀ a,F2 a->(F i a\/H a=none)/\∃ o,H2 a=some o) (p:A.P G H2 v F2) (w:FT G H2)
  (hs:(os'=.own A/\∃ f,os=.own f)\/(os'=.io A/\∃ f,os=.io f)):VI B G H2 σ (env.set i (some os')) (putF F i F2):=by
 obtain⟨O,d,q⟩:=I.sl i os e
 rw[g] at d;cases d
 have n:∀ j a,j ≠ i->F j a->¬ F i a:=λj a b y z=>b (I.fd j i a y z)
 have r:∀ a,F2 a->G a=none:=λa z=>by
  rcases(c a z).1 with y|y
  ·exact I.fg i a y
  ·exact I.no_g y
 have J:VI B G H2 σ (env.set i none) (putF F i λ_=>False):=by
  have D:=I.drop i
  refine⟨λa o x=>keep a o (λz=>by rw[I.fg i a z] at x;cases x) (I.gh a o x),D.g0,D.gn,λa o x=>keep a o (λz=>by rw[I.fr i a z] at x;cases x) (I.rs a o x),D.rb,λa o x=>?_,D.fg,D.fr,D.fd,λj a z=>?_,λj s x=>?_,D.ln,w⟩
  ·obtain⟨o',E⟩:=I.bh a o x
   exact l a o' E
  ·obtain⟨o,x⟩:=D.fo j a z
   exact l a o x
  ·obtain⟨u,N,M⟩:=D.sl j s x
   refine⟨u,N,M.mono (Same.refl G) λa o z y=>?_⟩
   by_cases b:j=i
   ·subst b;exact(putF_same.mp z).elim
   ·rw[P3 b] at z
    exact keep a o (n j a b z) y
 have m:=J.slot (Fv:=F2) i (some v) (some os') r (λa z=>by
   rcases(c a z).1 with y|y
   ·exact I.fr i a y
   ·exact I.no_r y) (λa z=>(c a z).2) (λj a b z y=>by
   rw[P3 b] at y
   rcases(c a z).1 with x|x
   ·exact n j a b y x
   ·exact I.no_f x j y) λt L=>by
   cases L
   refine⟨v,rfl,?_⟩
   rcases hs with ⟨rfl,f,rfl⟩|⟨rfl,f,rfl⟩
   ·refine⟨p,λa z=>?_⟩
    rcases(c a z).1 with y|y
    ·exact q.2 a y
    ·exact I.no_b y
   ·refine⟨p,λa z=>?_,q.2.2⟩
    rcases(c a z).1 with y|y
    ·exact q.2.1 a y
    ·exact .inr (I.no_b y)
 have K : σ.set i (some v) = σ:=by
  apply T5
  intro j
  rw[Z3]
  by_cases h:i=j
  ·subst h
   rw[t0 rfl,g,t0 (J1.mp g).1]
  ·rw[y0 h]
 have e2:(env.set i none).set i (some os')=env.set i (some os'):=by simp
 have C:putF (putF F i λ_=>False) i F2=putF F i F2:=by
  funext j a
  by_cases h:j=i
  ·subst h;rw[aA,aA]
  ·rw[P3 h,P3 h,P3 h]
 rw[K,e2,C] at m
 exact m
end
open Classical in
def jn(G H:Hp)(F:Addr->Prop):Hp:=λa=>if F a then H a else G a
def J5{G H:Hp}{F:Addr->Prop}{a:Addr}(h:F a):jn G H F a=H a:=t0 h
def lA{G H:Hp}{F:Addr->Prop}{a:Addr}(h:¬ F a):jn G H F a=G a:=y0 h
def p4{G H:Hp}{F:Addr->Prop}(h:∀ a,F a->G a=none):Same G (jn G H F):=λa o e=>by
 rw[lA (λz=>by rw[h a z] at e;cases e)];exact e
def CB{G H:Hp}{F:Addr->Prop}(h:Same G H):Same (jn G H F) H:=λa o e=>by
 by_cases z:F a
 ·rw[J5 z] at e;exact e
 ·rw[lA z] at e;exact h a o e
def Frz(A:Own)(d:PyData):Prop:=∀(G H:Hp)(v:V)(F:Addr->Prop),A.P G H v F->(∀ a,F a->G a=none)->Same G H->Rp (jn G H F) v d
def FQ:Sl->(PyData->Prop)->Prop
 | .st d,R=>R d
 | .own A,R=>∃ d,Frz A d/\R d
 |_,_=>False
def OL(ds:List PyData):Own where
 P:=λG H v F=>∃ a vs,v=.ref a/\H a=some (.lst vs)/\Rps G vs ds/\∀ b,F b ↔ b=a
 mono:=λ⟨a,vs,e,h,r,f⟩ g hh=>⟨a,vs,e,hh a _ ((f a).mpr rfl) h,r.same g,f⟩
 dom:=λ⟨a,vs,e,h,r,f⟩ b z=>by rw[(f b).mp z];exact⟨_,h⟩
def OD(es:List (Key × PyData)):Own where
 P:=λG H v F=>∃ a kvs,v=.ref a/\H a=some (.dK kvs)/\RpK G kvs es/\∀ b,F b ↔ b=a
 mono:=λ⟨a,vs,e,h,r,f⟩ g hh=>⟨a,vs,e,hh a _ ((f a).mpr rfl) h,r.same g,f⟩
 dom:=λ⟨a,vs,e,h,r,f⟩ b z=>by rw[(f b).mp z];exact⟨_,h⟩
def OT(es:List (List Key × PyData)):Own where
 P:=λG H v F=>∃ a kvs,v=.ref a/\H a=some (.dT kvs)/\RpT G kvs es/\∀ b,F b ↔ b=a
 mono:=λ⟨a,vs,e,h,r,f⟩ g hh=>⟨a,vs,e,hh a _ ((f a).mpr rfl) h,r.same g,f⟩
 dom:=λ⟨a,vs,e,h,r,f⟩ b z=>by rw[(f b).mp z];exact⟨_,h⟩
def T4{ds:List PyData}:Frz (OL ds) (.list ds):=λG H v F ⟨a,vs,e,h,r,f⟩ n g=>by
 subst e
 exact .lst (by rw[J5 ((f a).mpr rfl)];exact h) (r.same (p4 n))
def jE{es:List (Key × PyData)}:Frz (OD es) (.dict (es.map λp=>(kD p.1,p.2))):=λG H v F ⟨a,vs,e,h,r,f⟩ n g=>by
 subst e
 exact .dk (by rw[J5 ((f a).mpr rfl)];exact h) (r.same (p4 n)) rfl
def E5{d:PyData}{R:PyData->Prop}(h:R d):FQ (.st d) R:=h
def W4{ds:List PyData}{R:PyData->Prop}(h:R (.list ds)):FQ (.own (OL ds)) R:=⟨_,T4,h⟩
def ID{es:List (Key × PyData)}{R:PyData->Prop}(h:R (.dict (es.map λp=>(kD p.1,p.2)))):FQ (.own (OD es)) R:=⟨_,jE,h⟩
section
variable{B:Bs}{G H G' H':Hp}{σ:St}{env:En}{F:Nat->Addr->Prop}{v:V}{s:Sl}{Fv:Addr->Prop}
def VI.freeze(I:VI B G H σ env F)(fb:∀ a,Fv a->B.H a=none)(fd:∀ j a,Fv a->¬ F j a)(fg:∀ a,Fv a->G a=none):VI B (jn G H Fv) H σ env F where
 gh:=CB I.gh
 g0:=I.g0.trans (p4 fg)
 gn:=λa o e=>by
  by_cases z:Fv a
  ·exact .inr (fb a z)
  ·rw[lA z] at e;exact I.gn a o e
 rs:=I.rs
 rb:=I.rb
 bh:=I.bh
 fg:=λi a z=>by
  rw[lA (λy=>fd i a y z)];exact I.fg i a z
 fr:=I.fr
 fd:=I.fd
 fo:=I.fo
 sl:=λi s e=>by
  obtain⟨v,b,e2⟩:=I.sl i s e
  exact⟨v,b,e2.mono (p4 fg) λa o _ q=>q⟩
 ln:=I.ln
 ft:=λa c e=>p4 fg _ _ (I.ft a c e)
def VI.frz{A:Own}{d:PyData}{i:Nat}(I:VI B G H σ env F)(e:env[i]?=some (some (.own A)))(f:Frz A d) :
  ∃ v,σ[i]?=some (some v)/\Rp (jn G H (F i)) v d/\Same G (jn G H (F i))/\VI B (jn G H (F i)) H σ (env.set i (some (.st d))) (putF F i λ_=>False):=by
 obtain⟨v,b,q⟩:=I.sl i _ e
 have c:=f G H v (F i) q.1 (I.fg i) I.gh
 refine⟨v,b,c,p4 (I.fg i),?_⟩
 have D:=(I.drop i).freeze (Fv:=F i) q.2 (λj a z y=>by
  by_cases h:j=i
  ·subst h;exact(putF_same.mp y).elim
  ·rw[P3 h] at y;exact h (I.fd j i a y z)) (I.fg i)
 have J:=D.slot (Fv:=λ_=>False) i (some v) (some (.st d)) (λa z=>z.elim) (λa z=>z.elim) (λa z=>z.elim) (λj a _ z=>z.elim) (λt m=>by cases m;exact⟨v,rfl,c,λa z=>z⟩)
 have l : σ.set i (some v) = σ:=by
  apply T5
  intro j
  rw[Z3]
  by_cases h:i=j
  ·subst h
   rw[t0 rfl,b,t0 (J1.mp b).1]
  ·rw[y0 h]
 have g:putF (putF F i λ_=>False) i (λ_=>False)=putF F i λ_=>False:=by
  funext j a
  by_cases h:j=i
  ·subst h;rw[aA,aA]
  ·rw[P3 h,P3 h]
 rw[l,g,List.set_set] at J
 exact J
def Out.refl{d:PyData}(g:Same G H)(r:Rp G v d):Out G H v G H (.st d) (λ_=>False):=⟨Same.refl _,g,Same.refl _,λa o e=>.inl e,λa z=>z.elim,λa z=>z.elim,λa z=>z.elim,⟨r,λa z=>z⟩,λt=>t⟩
def tM{p:Addr}{o:HO}(g:Same G H)(h:H p=none):Same (upd G p o) (upd H p o):=λa u e=>by
 by_cases z:a=p
 ·subst z;rw[K0] at e ⊢;exact e
 ·rw[z0 z] at e ⊢;exact g a u e
def D5{p:Addr}(g:Same G H)(h:H p=none):G p=none:=by
 cases e:G p with
 |none=>rfl
 |some o=>rw[g p o e] at h;cases h
def Out.newT{p:Addr}{xs:List V}{ds:List PyData}(g:Same G H)(h:H p=none)(r:Rps G xs ds):Out G H (.ref p) (upd G p (.tup xs)) (upd H p (.tup xs)) (.st (.tuple ds)) (λ_=>False) where
 gg:=R4 (D5 g h)
 gh:=tM g h
 hh:=R4 h
 gn:=λa o e=>by
  by_cases z:a=p
  ·subst z;exact .inr h
  ·rw[z0 z] at e;exact .inl e
 fn:=λa z=>z.elim
 fg:=λa z=>z.elim
 fo:=λa z=>z.elim
 ok:=⟨.tup K0 (r.same (R4 (D5 g h))),λa z=>z⟩
 ft:=λt a b e=>by
  by_cases z:a=p
  ·subst z;rw[K0] at e ⊢;exact e
  ·rw[z0 z] at e ⊢;exact t a b e
def Out.newO{p:Addr}{o:HO}{A:Own}(g:Same G H)(h:H p=none)(c:∀ xs,o ≠ .tup xs)(r:A.P G (upd H p o) (.ref p) (· = p)):Out G H (.ref p) G (upd H p o) (.own A) (· = p) where
 gg:=Same.refl _
 gh:=g.trans (R4 h)
 hh:=R4 h
 gn:=λa o e=>.inl e
 fn:=λa z=>by rw[z];exact h
 fg:=λa z=>by rw[z];exact D5 g h
 fo:=λa z=>by rw[z];exact⟨_,K0⟩
 ok:=r
 ft:=λt a b e=>by
  by_cases z:a=p
  ·subst z;rw[K0] at e;exact absurd (M3 e) (c _)
  ·rw[z0 z] at e;exact t a b e
def Out.newL{p:Addr}{xs:List V}{ds:List PyData}(g:Same G H)(h:H p=none)(r:Rps G xs ds):Out G H (.ref p) G (upd H p (.lst xs)) (.own (OL ds)) (· = p) :=
 .newO g h (λ_ z=>nomatch z) ⟨p,xs,rfl,K0,r,λb=>Iff.rfl⟩
def Out.newD{p:Addr}{xs:List (Key × V)}{ds:List (Key × PyData)}(g:Same G H)(h:H p=none)(r:RpK G xs ds):Out G H (.ref p) G (upd H p (.dK xs)) (.own (OD ds)) (· = p) :=
 .newO g h (λ_ z=>nomatch z) ⟨p,xs,rfl,K0,r,λb=>Iff.rfl⟩
def Out.newDT{p:Addr}{xs:List (List Key × V)}{ds:List (List Key × PyData)}(g:Same G H)(h:H p=none)(r:RpT G xs ds):Out G H (.ref p) G (upd H p (.dT xs)) (.own (OT ds)) (· = p) :=
 .newO g h (λ_ z=>nomatch z) ⟨p,xs,rfl,K0,r,λb=>Iff.rfl⟩
end
def EvO(B:Bs)(te:TE)(env:En)(Q':Sl->En->Prop):Prop:=∀(σ:St)(G H:Hp)(F:Nat->Addr->Prop)(Q:VK),VI B G H σ env F ->
 (∀ v G' H' F' Fv s env',VI B G' H' σ env' F'->Same G G'->RsX B G' H' v Fv s F'->Q' s env'->Q v H')->te σ H Q
def Ev(B:Bs)(te:TE)(env:En)(Q':PyData->En->Prop):Prop:=∀(σ:St)(G H:Hp)(F:Nat->Addr->Prop)(Q:VK),VI B G H σ env F ->
 (∀ v G' H' F' d env',VI B G' H' σ env' F'->Same G G'->Rp G' v d->Q' d env'->Q v H')->te σ H Q
def EvT(B:Bs)(tt:TT)(env:En)(Q':Bool->En->Prop):Prop:=∀(σ:St)(G H:Hp)(F:Nat->Addr->Prop)(Q:Bool->Hp->Prop),VI B G H σ env F ->
 (∀ b G' H' F' env',VI B G' H' σ env' F'->Same G G'->Q' b env'->Q b H')->tt σ H Q
def EvA(B:Bs)(ta:TA)(env:En)(Q':List PyData->En->Prop):Prop:=∀(σ:St)(G H:Hp)(F:Nat->Addr->Prop)(Q:List V->Hp->Prop),VI B G H σ env F ->
 (∀ vs G' H' F' ds env',VI B G' H' σ env' F'->Same G G'->Rps G' vs ds->Q' ds env'->Q vs H')->ta σ H Q
structure ItOk(G:Hp)(J:It)(ds:List PyData):Prop where
 go:∀ i G' H',Same G G'->Same G' H'->i<ds.length->J.go i H'
 stop:∀ i G' H',Same G G'->Same G' H'->i=ds.length->J.stop i H'
 yld:∀ i G' H' x H'' d,Same G G'->Same G' H'->FT G' H'->ds[i]?=some d->J.yld i H' x H''->∃ G'',Out G' H' x G'' H'' (.st d) (λ_=>False)
def EvI(B:Bs)(ti:TI)(env:En)(Q':List PyData->En->Prop):Prop:=∀(σ:St)(G H:Hp)(F:Nat->Addr->Prop)(R:It->Hp->Prop),VI B G H σ env F ->
 (∀ J G' H' F' ds env',VI B G' H' σ env' F'->Same G G'->ItOk G' J ds->Q' ds env'->R J H')->ti σ H R
def EvG(B:Bs)(g:TG)(s:Sl)(env:En)(Q':En->Prop):Prop:=∀(σ:St)(G H:Hp)(F:Nat->Addr->Prop)(v:V)(Fv:Addr->Prop)(Q:St->Hp->Prop),VI B G H σ env F->RsX B G H v Fv s F ->
 (∀ σ' G' H' F' env',VI B G' H' σ' env' F'->Same G G'->Q' env'->Q σ' H')->g v σ H Q
def EvGs(B:Bs)(g:TGs)(ds:List PyData)(env:En)(Q':En->Prop):Prop:=∀(σ:St)(G H:Hp)(F:Nat->Addr->Prop)(vs:List V)(Q:St->Hp->Prop),VI B G H σ env F->Rps G vs ds ->
 (∀ σ' G' H' F' env',VI B G' H' σ' env' F'->Same G G'->Q' env'->Q σ' H')->g vs σ H Q
structure VEnds where
 nx:En->Prop
 rt:Sl->En->Prop
 bk:En->Prop:=λ_=>False
 ct:En->Prop:=λ_=>False
structure RelE(B:Bs)(G:Hp)(D:Ends)(D':VEnds):Prop where
 nx:∀ σ G' H F env,VI B G' H σ env F->Same G G'->D'.nx env->D.nx σ H
 rt:∀ σ G' H F env v Fv s,VI B G' H σ env F->Same G G'->RsX B G' H v Fv s F->D'.rt s env->D.rt v H
 bk:∀ σ G' H F env,VI B G' H σ env F->Same G G'->D'.bk env->D.bk σ H
 ct:∀ σ G' H F env,VI B G' H σ env F->Same G G'->D'.ct env->D.ct σ H
def EvS(B:Bs)(ts:TS)(D':VEnds)(env:En):Prop:=∀(σ:St)(G H:Hp)(F:Nat->Addr->Prop)(D:Ends),VI B G H σ env F->RelE B G D D'->ts D σ H
def RelE.later{B:Bs}{G G':Hp}{D:Ends}{D':VEnds}(r:RelE B G D D')(g:Same G G'):RelE B G' D D' :=
 ⟨λσ a H F env I q=>r.nx σ a H F env I (g.trans q),λσ a H F env v Fv s I q=>r.rt σ a H F env v Fv s I (g.trans q),λσ a H F env I q=>r.bk σ a H F env I (g.trans q),λσ a H F env I q=>r.ct σ a H F env I (g.trans q)⟩
section
variable{B:Bs}{env:En}{Q':PyData->En->Prop}{QO:Sl->En->Prop}{QT:Bool->En->Prop}{QA:List PyData->En->Prop}{te ta tb:TE}
def u7{G H:Hp}{v:V}{d:PyData}{F:Nat->Addr->Prop}(r:Rp G v d):RsX B G H v (λ_=>False) (.st d) F:=⟨⟨r,λa z=>z⟩,λa z=>z.elim,λa z=>z.elim,λa z=>z.elim,λj a z=>z.elim⟩
def Z2(h:Ev B te env λd e=>QO (.st d) e):EvO B te env QO:=λσ G H F Q I k =>
 h σ G H F Q I λv G' H' F' d a b g r q=>k v G' H' F' _ (.st d) a b g (u7 r) q
def F3(h:EvO B te env λs e=>FQ s λd=>Q' d e):Ev B te env Q':=λσ G H F Q I k =>
 h σ G H F Q I λv G' H' F' Fv s a b g r q=>by
  cases s with
  |st d=>exact k v G' H' F' d a b g r.ok.1 q
  | own A =>
   obtain⟨d,f,q⟩:=q
   exact k v _ H' F' d a (b.freeze r.fb r.fd r.fg) (g.trans (p4 r.fg)) (f G' H' v Fv r.ok r.fg b.gh) q
  |io A=>exact q.elim
  |scr ns=>exact q.elim
def GJ{i:Nat}{d:PyData}(e:env[i]?=some (some (.st d)))(q:Q' d env):Ev B (tVar i) env Q':=λσ G H F Q I k=>by
 obtain⟨v,a,r⟩:=I.sl i _ e
 exact⟨v,a,k v G H F d env I (Same.refl _) r.1 q⟩
def wN{i:Nat}{A:Own}{d:PyData}(e:env[i]?=some (some (.own A)))(f:Frz A d)(q:Q' d (env.set i (some (.st d)))):Ev B (tVar i) env Q':=λσ G H F Q I k=>by
 obtain⟨v,a,r,g,J⟩:=I.frz e f
 exact⟨v,a,k v _ H _ d _ J g r q⟩
def L8{i:Nat}{A:Own}(e:env[i]?=some (some (.own A)))(q:QO (.own A) (env.set i none)):EvO B (tVar i) env QO:=λσ G H F Q I k=>by
 obtain⟨v,b,r⟩:=I.sl i _ e
 refine⟨v,b,k v G H _ (F i) (.own A) _ (I.drop i) (Same.refl _) ⟨r.1,r.2,I.fg i,I.fo i,λj a z y=>?_⟩ q⟩
 by_cases h:j=i
 ·subst h;exact putF_same.mp y
 ·rw[P3 h] at y;exact h (I.fd j i a y z)
def mR{i:Int}(q:Q' (.int i) env):Ev B (tC (.int i)) env Q':=λσ G H F Q I k=>k _ G H F _ env I (Same.refl _) (.int i) q
def oI{b:Bool}(q:Q' (.bool b) env):Ev B (tC (.bl b)) env Q':=λσ G H F Q I k=>k _ G H F _ env I (Same.refl _) (.bl b) q
def cJ(q:Q' .none env):Ev B (tC .non) env Q':=λσ G H F Q I k=>k _ G H F _ env I (Same.refl _) .non q
def DN{x:Str}(q:Q' (.str x) env):Ev B (tC (.str x)) env Q':=λσ G H F Q I k=>k _ G H F _ env I (Same.refl _) (.str x) q
def Op2(r:R2)(x y:PyData)(R:Sl->Prop):Prop:=∀(G H:Hp)(vx vy:V)(Q:VK),Same G H->Rp G vx x->Rp G vy y->(∀ v G' H' s Fv,Out G H v G' H' s Fv->R s->Q v H')->r vx vy H Q
def Op1(r:V->Hp->VK->Prop)(x:PyData)(R:Sl->Prop):Prop:=∀(G H:Hp)(vx:V)(Q:VK),Same G H->Rp G vx x->(∀ v G' H' s Fv,Out G H v G' H' s Fv->R s->Q v H')->r vx H Q
def OpA(r:List V->Hp->VK->Prop)(ds:List PyData)(R:Sl->Prop):Prop:=∀(G H:Hp)(vs:List V)(Q:VK),Same G H->Rps G vs ds->(∀ v G' H' s Fv,Out G H v G' H' s Fv->R s->Q v H')->r vs H Q
def wD{r:R2}(h:Ev B ta env λx c=>Ev B tb c λy e2=>Op2 r x y λs=>QO s e2):EvO B (tOp r ta tb) env QO:=λσ G H F Q I k =>
 h σ G H F _ I λm u p i x c d l g n=>n σ u p i _ d λf z H2 F2 y e2 a b j q =>
  q z H2 m f Q a.gh (g.same b) j λv w H3 s Fv o A=>k v w H3 F2 Fv s e2 (a.out o).1 (l.trans (b.trans o.gg)) (a.out o).2 A
def aI{r:R2}(h:Ev B ta env λx a=>Ev B tb a λy e2=>Op2 r x y λs=>FQ s λd=>Q' d e2):Ev B (tOp r ta tb) env Q':=F3 (wD h)
def UL{r:V->Hp->VK->Prop}(h:Ev B ta env λx b=>Op1 r x λs=>QO s b):EvO B (tUn r ta) env QO:=λσ G H F Q I k =>
 h σ G H F _ I λg l j d x b a f c i=>i l j g Q a.gh c λv m H3 s Fv o n=>k v m H3 d Fv s b (a.out o).1 (f.trans o.gg) (a.out o).2 n
def kR{r:V->Hp->VK->Prop}(h:Ev B ta env λx a=>Op1 r x λs=>FQ s λd=>Q' d a):Ev B (tUn r ta) env Q':=F3 (UL h)
def YC(q:QA [] env):EvA B tNil env QA:=λσ G H F Q I k=>k [] G H F [] env I (Same.refl _) .nil q
def JC{tr:TA}(h:Ev B ta env λx b=>EvA B tr b λxs e2=>QA (x::xs) e2):EvA B (X1 ta tr) env QA:=λσ G H F Q I k =>
 h σ G H F _ I λq n l f x b c i d j=>j σ n l f _ c λvs o H2 F2 ds e2 p a g m=>k _ o H2 F2 _ e2 p (i.trans a) (.cons (d.same a) g) m
def qH{r:List V->Hp->VK->Prop}{t:TA}(h:EvA B t env λds b=>OpA r ds λs=>QO s b):EvO B (tCB r t) env QO:=λσ G H F Q I k =>
 h σ G H F _ I λvs j i d ds b a f c g=>g j i vs Q a.gh c λv l H3 s Fv o m=>k v l H3 d Fv s b (a.out o).1 (f.trans o.gg) (a.out o).2 m
def YH{r:List V->Hp->VK->Prop}{t:TA}(h:EvA B t env λds a=>OpA r ds λs=>FQ s λd=>Q' d a):Ev B (tCB r t) env Q':=F3 (qH h)
def jF{t:TA}(h:EvA B t env λds b=>ds.length<=1000/\QO (.st (.tuple ds)) b):EvO B (tTup t) env QO:=λσ G H F Q I k =>
 h σ G H F _ I λvs l j f ds b a g c d=>⟨by rw[c.length];exact m5 (NB d.1),λp i=>by
  have o:=Out.newT a.gh i c
  exact k _ _ _ f _ _ b (a.out o).1 (g.trans o.gg) (a.out o).2 d.2⟩
def tI{t:TA}(h:EvA B t env λds a=>ds.length<=1000/\Q' (.tuple ds) a):Ev B (tTup t) env Q':=F3 (jF h)
def fG{t:TA}(h:EvA B t env λds b=>ds.length<=1000/\QO (.own (OL ds)) b):EvO B (tLst t) env QO:=λσ G H F Q I k =>
 h σ G H F _ I λvs l j f ds b a g c d=>⟨by rw[c.length];exact m5 (NB d.1),λp i=>by
  have o:=Out.newL a.gh i c
  exact k _ _ _ f _ _ b (a.out o).1 (g.trans o.gg) (a.out o).2 d.2⟩
def RN{t:TA}(h:EvA B t env λds a=>ds.length<=1000/\Q' (.list ds) a):Ev B (tLst t) env Q':=F3 (fG λσ G H F Q I k=>h σ G H F Q I λvs G' H' F' ds a b g r q=>k vs G' H' F' ds a b g r ⟨q.1,W4 q.2⟩)
def gB(h:Ev B te env λx a=>∃ b,x=.bool b/\QT b a):EvT B (uD te) env QT:=λσ G H F Q I k =>
 h σ G H F _ I λv l j f x a c g d i=>by
  obtain⟨b,e,q⟩:=i
  subst e
  cases d
  exact⟨b,rfl,k b l j f a c g q⟩
def GQ(h:Ev B te env λx a=>∃ b,x=.bool b/\QT b a):EvT B (tB te) env QT:=gB h
def x_bl{b:Bool}{R:Bool->Prop}(h:R b):∃ c,PyData.bool b=.bool c/\R c:=⟨b,rfl,h⟩
def qN{t u:TT}(h:EvT B t env λc a=>if c=true then EvT B u a QT else QT false a):EvT B (tAnd t u) env QT:=λσ G H F Q I k =>
 h σ G H F _ I λb j i f a d g q=>by
  cases b with
  |true=>rw[t0 rfl] at q ⊢;exact q σ j i f Q d λc n H2 F2 e2 o l m=>k c n H2 F2 e2 o (g.trans l) m
  |false=>rw[y0 Y1] at q ⊢;exact k false j i f a d g q
def MP{t u:TT}(h:EvT B t env λc a=>if c=true then QT true a else EvT B u a QT):EvT B (tOr t u) env QT:=λσ G H F Q I k =>
 h σ G H F _ I λb j i f a d g q=>by
  cases b with
  |false=>rw[y0 Y1] at q ⊢;exact q σ j i f Q d λc n H2 F2 e2 o l m=>k c n H2 F2 e2 o (g.trans l) m
  |true=>rw[t0 rfl] at q ⊢;exact k true j i f a d g q
def dC{t:TT}(h:EvT B t env λc a=>QT (!c) a):EvT B (tNot t) env QT:=λσ G H F Q I k =>
 h σ G H F _ I λb f i g a d j q=>k (!b) f i g a d j q
def SA(q:QT true env):EvT B tYes env QT:=λσ G H F Q I k=>k true G H F env I (Same.refl _) q
def TruD:PyData->Bool->Prop
 | .bool b,k=>k=b
 | .list ds,k=>k = !ds.isEmpty
 |_,_=>False
def tJ{K:Frag}(h:Ev B te env λx a=>∃ b,TruD x b/\QT b a):EvT B (tTru K te) env QT:=λσ G H F Q I k =>
 h σ G H F _ I λv j i f x a d g l n=>by
  obtain⟨b,e,q⟩:=n
  cases l with
  |bl c=>cases e;exact⟨_,rfl,k _ j i f a d g q⟩
  | lst ha rs =>
   refine⟨b,.inl ⟨_,SqL.of (d.gh _ _ ha),?_⟩,k _ j i f a d g q⟩
   have m:b = !_:=e
   rw[m]
   cases rs <;> rfl
  |_=>exact e.elim
def yM(h:Ev B ta env λx a=>∃ b,x=.bool b/\if b=true then Ev B tb a Q' else Q' (.bool false) a):Ev B (UB ta tb) env Q':=λσ G H F Q I k =>
 h σ G H F _ I λv j i f x a c g m o=>by
  obtain⟨b,e,q⟩:=o
  subst e
  cases m
  refine⟨b,rfl,?_⟩
  cases b with
  |true=>rw[t0 rfl] at q ⊢;exact q σ j i f Q c λv r H2 F2 d e2 s l n p=>k v r H2 F2 d e2 s (g.trans l) n p
  |false=>rw[y0 Y1] at q ⊢;exact k _ j i f _ a c g (.bl false) q
def XO(h:Ev B ta env λx a=>∃ b,x=.bool b/\Q' (.bool (!b)) a):Ev B (fE ta) env Q':=λσ G H F Q I k =>
 h σ G H F _ I λv l j f x a c g d i=>by
  obtain⟨b,e,q⟩:=i
  subst e
  cases d
  exact⟨b,rfl,k _ l j f _ a c g (.bl _) q⟩
def OJ{r L:R2}{O:TE}(h:Ev B ta env λx E=>Ev B tb E λy e2=>Op2 r x y λs=>∃ b,s=.st (.bool b)/\if b=true then Ev B O e2 λz Y=>Op2 L y z λs'=>FQ s' λd=>Q' d Y else Q' (.bool false) e2):Ev B (QC r L ta tb O) env Q':=λσ G H F Q I k =>
 h σ G H F _ I λZ G1 H1 X x E T D U q1=>q1 σ G1 H1 X _ T λp G2 H2 F2 y e2 R g w q2 =>
  q2 G2 H2 Z p _ R.gh (U.same g) w λv N H3 s Fv o z_=>by
   obtain⟨b,es,c⟩:=z_
   have M:=(R.out o).1
   have n:=o.ok
   subst es
   obtain⟨n,_⟩:=n
   cases n
   refine⟨b,rfl,?_⟩
   cases b with
   |false=>rw[y0 Y1] at c ⊢;exact k _ N H3 F2 _ e2 M (D.trans (g.trans o.gg)) (.bl _) c
   | true =>
    rw[t0 rfl] at c ⊢
    refine c σ N H3 F2 _ M λv3 G4 W K z S P C r4 q4=>q4 G4 W p v3 Q P.gh (w.same (o.gg.trans C)) r4 λl u j s5 i m a=>?_
    have J:=P.out m
    have gg:=D.trans (g.trans (o.gg.trans (C.trans m.gg)))
    cases s5 with
    |st d=>exact k l u j K d S J.1 gg m.ok.1 a
    | own A =>
     obtain⟨d,f,q⟩:=a
     exact k l _ j K d S (J.1.freeze J.2.fb J.2.fd J.2.fg) (gg.trans (p4 J.2.fg)) (f u j l i J.2.ok J.2.fg J.1.gh) q
    |io A=>exact a.elim
    |scr ns=>exact a.elim
end
section
variable{B:Bs}{env:En}{D':VEnds}{t u tb:TS}{te:TE}{g:TG}{c:TT}{QE:En->Prop}
def vD(h:EvS B t { D' with nx:=λe=>EvS B u D' e } env):EvS B (tSeq t u) D' env:=λσ G H F D I r =>
 h σ G H F { D with nx:=u D } I ⟨λσ G' H F env a g q=>q σ G' H F D a (r.later g),r.rt,r.bk,r.ct⟩
def sM(h:D'.nx env):EvS B lD D' env:=λσ G H F D I r=>r.nx σ G H F env I (Same.refl _) h
def n9(h:EvO B te env λs e=>EvG B g s e D'.nx):EvS B (tAsg te g) D' env:=λσ G H F D I r =>
 h σ G H F _ I λv m j d Fv s q b f p i=>i σ m j d v Fv D.nx b p λa n H2 F2 e2 o c l=>r.nx a n H2 F2 e2 o (f.trans c) l
def L4{i:Nat}{s:Sl}(h:QE (env.set i (some s))):EvG B (D3 i) s env QE:=λσ G H F v Fv Q I x k=>k _ G H _ _ (I.store x i) (Same.refl _) h
def pF(h:QE env):EvGs B gNil [] env QE:=λσ G H F vs Q I x k=>by cases x;exact⟨rfl,k σ G H F env I (Same.refl _) h⟩
def CC{f:TGs}{d:PyData}{ds:List PyData}(h:EvG B g (.st d) env λe=>EvGs B f ds e QE):EvGs B (i9 g f) (d::ds) env QE:=λσ G H F vs Q I x k=>by
 cases x with
 | cons r rs =>
  refine⟨_,_,rfl,h σ G H F _ _ _ I (u7 r) λb p n l u i c m=>m b p n l _ Q i (rs.same c) λa q H2 F2 e2 s j o=>k a q H2 F2 e2 s (c.trans j) o⟩
def lH{K:Frag}{n:Nat}{a:TGs}{ds:List PyData}(b:ds.length=n)(h:EvGs B a ds env QE):EvG B (gTup K n a) (.st (.tuple ds)) env QE:=λσ G H F v Fv Q I x k=>by
 obtain⟨r,_⟩:=x.ok
 cases r with
 |tup ha rs=>exact⟨_,_,rfl,SqT.of (I.gh _ _ ha),by rw[rs.length,b],h σ G H F _ Q I rs k⟩
def dI(h:EvO B te env λs e=>D'.rt s e):EvS B (tRet te) D' env:=λσ G H F D I r =>
 h σ G H F _ I λv i f b Fv s g a c j d=>r.rt σ i f b g v Fv s a c j d
def xH(h:EvO B te env λ_ e=>D'.nx e):EvS B (BD te) D' env:=λσ G H F D I r =>
 h σ G H F _ I λv i f b Fv s g a c j d=>r.nx σ i f b g a c d
def UD(h:EvT B c env λb e=>if b=true then EvS B t D' e else EvS B u D' e):EvS B (tIfS c t u) D' env:=λσ G H F D I r =>
 h σ G H F _ I λb d g f j a i q=>by
  cases b with
  |true=>rw[t0 rfl] at q ⊢;exact q σ d g f D a (r.later i)
  |false=>rw[y0 Y1] at q ⊢;exact q σ d g f D a (r.later i)
def ForV(B:Bs)(g:TG)(tb:TS)(D':VEnds)(ds:List PyData)(e1:En):Prop:=∃ J:Nat->En->Prop,J 0 e1/\(∀ i d e,ds[i]?=some d->J i e->EvG B g (.st d) e λe2=>EvS B tb { D' with nx:=J (i+1),ct:=J (i+1),bk:=D'.nx } e2)/\∀ e,J ds.length e->D'.nx e
def bM{L:TI}(h:EvI B L env λds v=>ForV B g tb D' ds v):EvS B (tFor L g tb) D' env:=λσ G H F D I r =>
 h σ G H F _ I λJ z H1 R ds v O u it T=>by
  obtain⟨M,Q,js,jd⟩:=T
  refine⟨λi m σ H=>m=ds.length-i/\i<=ds.length/\∃ f F2 e2,VI B f H σ e2 F2/\Same z f/\M i e2,⟨ds.length,by simp,Y3 _,z,R,v,O,Same.refl _,Q⟩,?_⟩
  rintro i m σ H ⟨rfl,hi,f,F2,e2,n,p,E⟩
  by_cases hlt:i<ds.length
  ·refine .inr ⟨it.go i f H p n.gh hlt,λσ H=>∃ s Z K,VI B s H σ K Z/\Same z s/\M (i+1) K,λa0 H' h'=>⟨ds.length-(i+1),by lia,rfl,hlt,h'⟩,λx H' y=>?_⟩
   obtain⟨s,o⟩:=it.yld i f H x H' _ p n.gh n.ft (X0 hlt) y
   have N:=n.out o
   refine js i _ e2 (X0 hlt) E σ s H' F2 x _ _ N.1 N.2 λA Y P W e4 I4 S q4=>?_
   have gg:=p.trans (o.gg.trans S)
   refine q4 A Y P W _ I4 ⟨λa b q j l d c C=>⟨b,j,l,d,gg.trans c,C⟩,λa b q j l X w U d c=>r.rt a b q j l X w U d (u.trans (gg.trans c)),λa b q j l d c=>r.nx a b q j l d (u.trans (gg.trans c)),λa b q j l d c C=>⟨b,j,l,d,gg.trans c,C⟩⟩
  ·have e:i=ds.length:=by lia
   subst e
   exact .inl ⟨it.stop _ f H p n.gh rfl,r.nx σ f H F2 e2 n (u.trans p) (jd e2 E)⟩
def ZE(J:Nat->En->Prop)(x:∃ m,J m env)(h:∀ m e,J m e->EvT B c e λb y=>if b=true then EvS B tb { D' with nx:=λe2=>∃ d,d<m/\J d e2,ct:=λe2=>∃ d,d<m/\J d e2,bk:=D'.nx } y else D'.nx y):EvS B (oH c tb) D' env:=λσ G H F D I r=>by
 obtain⟨N,x⟩:=x
 refine⟨λm σ H=>∃ p F2 e2,VI B p H σ e2 F2/\Same G p/\J m e2,⟨N,G,F,env,I,Same.refl _,x⟩,?_⟩
 rintro m σ H ⟨p,F2,e2,U,K,E⟩
 refine h m e2 E σ p H F2 _ U λb C H3 z M A T q=>?_
 have gg:=K.trans T
 cases b with
 |false=>rw[y0 Y1] at q ⊢;exact r.nx σ C H3 z M A gg q
 | true =>
  rw[t0 rfl] at q ⊢
  refine⟨λσ H=>∃ o v s,VI B o H σ s v/\Same G o/\∃ d,d<m/\J d s,λR H' ⟨o,v,s,S,L,d,hm,Q⟩=>⟨d,hm,o,v,s,S,L,Q⟩,?_⟩
  exact q σ C H3 z _ A ⟨λa f n j l i g w=>⟨f,j,l,i,gg.trans g,w⟩,λa f n j l P u O i g=>r.rt a f n j l P u O i (gg.trans g),λa f n j l i g=>r.nx a f n j l i (gg.trans g),λa f n j l i g w=>⟨f,j,l,i,gg.trans g,w⟩⟩
variable{QI:List PyData->En->Prop}
def BO{K:Frag}(h:Ev B te env λd e=>∃ ds,d=.list ds/\QI ds e):EvI B (oF K te) env QI:=λσ G H F R I k =>
 h σ G H F _ I λv q o f d p b j c n=>by
  obtain⟨ds,l,m⟩:=n
  subst l
  cases c with
  | @lst a vs ds ha rs =>
   refine⟨a,rfl,⟨vs,SqL.of (b.gh _ _ ha)⟩,k _ q o f ds p b j ⟨λi G' H' g h hi=>?_,λi G' H' g h hi=>?_,λi G' H' x H'' d g h ft hd y=>?_⟩ m⟩
   ·have:i<vs.length:=by rw[rs.length];exact hi
    exact⟨vs,vs[i],SqL.of (h _ _ (g _ _ ha)),X0 this⟩
   ·exact⟨vs,SqL.of (h _ _ (g _ _ ha)),by rw[rs.length];exact Nat.le_of_eq hi.symm⟩
   ·obtain⟨e,y⟩:=y
    subst e
    obtain⟨v,s,r⟩:=rs.get hd
    have:=y vs (SqL.of (h _ _ (g _ _ ha)))
    rw[s] at this
    cases this
    exact⟨G',Out.refl h (r.same g)⟩
def KK{ds:List PyData}{R:List PyData->Prop}(h:R ds):∃ xs,PyData.list ds=.list xs/\R xs:=⟨ds,rfl,h⟩
def rngD(lo:Int)(n:Nat):List PyData:=(List.range n).map λ(i:Nat)=>.int (lo+(i:Int))
def R8{lo:Int}{n:Nat}:(rngD lo n).length=n:=by simp[rngD]
def GC{lo:Int}{n i:Nat}{d:PyData}(h:(rngD lo n)[i]?=some d):i<n/\d=.int (lo+(i:Int)):=by
 unfold rngD at h
 rw[o1] at h
 have hi:i<n:=by
  have:=(J1 (l:=(List.range n).map λ(i:Nat)=>PyData.int (lo+(i:Int)))).mp (by rw[o1];exact h)
  obtain⟨q,_⟩:=this
  simpa using q
 rw[X0 (by simpa using hi)] at h
 simp at h
 exact⟨hi,h.symm⟩
def sH{G:Hp}{lo:Int}{n:Nat}:ItOk G (Itr lo n) (rngD lo n):=by
 refine⟨λi G' H' g h hi=>?_,λi G' H' g h hi=>?_,λi G' H' x H'' d g h ft hd y=>?_⟩
 ·rw[R8] at hi;exact hi
 ·rw[R8] at hi;exact Nat.le_of_eq hi.symm
 ·obtain⟨e,y⟩:=y
  subst e y
  rw[(GC hd).2]
  exact⟨G',Out.refl h (.int _)⟩
def WA(ds:List PyData)(R:List PyData->Prop):Prop:=∃ j:Int,ds=[.int j]/\-(2 ^ 62)<=j/\j<2 ^ 62/\R (rngD 0 j.toNat)
def dB(ds:List PyData)(R:List PyData->Prop):Prop:=∃ i j:Int,ds=[.int i,.int j]/\(-(2 ^ 62)<=i/\i<2 ^ 62/\-(2 ^ 62)<=j/\j<2 ^ 62)/\R (rngD i (j-i).toNat)
def RO{a:TA}(h:EvA B a env λds e=>WA ds λxs=>QI xs e):EvI B (XB a) env QI:=λσ G H F R I k =>
 h σ G H F _ I λvs p n d ds o b f c m=>by
  obtain⟨j,g,b1,i,l⟩:=m
  subst g
  obtain rfl:vs=[V.int j]:=Rps.ints_inv (ns:=[j]) c
  exact⟨j,rfl,b1,i,k _ p n d _ o b f sH l⟩
theorem pI{a:TA}(h:EvA B a env λds e=>dB ds λxs=>QI xs e):EvI B (EF a) env QI:=λσ G H F R I k =>
 h σ G H F _ I λvs p n d ds o b f c m=>by
  obtain⟨i,j,g,b1,l⟩:=m
  subst g
  obtain rfl:vs=[V.int i,V.int j]:=Rps.ints_inv (ns:=[i,j]) c
  exact⟨i,j,rfl,b1,k _ p n d _ o b f sH l⟩
theorem uM{j:Int}{R:List PyData->Prop}(b : -4611686018427387904<=j)(a:j<4611686018427387904)(h:R (rngD 0 j.toNat)):WA [.int j] R:=⟨j,rfl,by lia,by lia,h⟩
theorem ER{a b:Int}{R:List PyData->Prop}(c : -4611686018427387904<=a/\a<4611686018427387904/\-4611686018427387904<=b/\b<4611686018427387904)(h:R (rngD a (b-a).toNat)):dB [.int a,.int b] R:=⟨a,b,rfl,by lia,h⟩
theorem X7{lo:Int}{n:Nat}(J:Nat->En->Prop)(a:J 0 env)(hs:∀ i e,i<n->J i e->EvG B g (.st (.int (lo+(i:Int)))) e λe2=>EvS B tb { D' with nx:=J (i+1),ct:=J (i+1),bk:=D'.nx } e2)(hd:∀ e,J n e->D'.nx e):ForV B g tb D' (rngD lo n) env :=
 ⟨J,a,λi d e h j=>by obtain⟨hi,rfl⟩:=GC h;exact hs i e hi j,λe j=>hd e (by rw[R8] at j;exact j)⟩
theorem Z6{α:Type}{f : α->PyData}{xs:List α}(J:Nat->En->Prop)(a:J 0 env)(hs:∀ i x e,xs[i]?=some x->J i e->EvG B g (.st (f x)) e λe2=>EvS B tb { D' with nx:=J (i+1),ct:=J (i+1),bk:=D'.nx } e2)(hd:∀ e,J xs.length e->D'.nx e):ForV B g tb D' (xs.map f) env :=
 ⟨J,a,λi d e h j=>by
  rw[o1] at h
  cases hx:xs[i]? with
  |none=>rw[hx] at h;cases h
  |some x=>rw[hx] at h;cases h;exact hs i x e hx j,λe j=>hd e (by rw[T0] at j;exact j)⟩
end
theorem SE{B:Bs}{a b:TS}{D':VEnds}{env:En}(h:∀ c:TS,c=b->EvS B a { D' with nx:=λe=>EvS B c D' e } env):EvS B (tSeq a b) D' env:=vD (h b rfl)
theorem OA{B:Bs}{c b:TS}{D':VEnds}{env:En}(e:c=b)(h:EvS B b D' env):EvS B c D' env:=by rw[e];exact h
@[elab_as_elim] theorem exS1 {c:Type} {σ:Type} {f : c->σ} {p : c->Prop} {a : σ->Prop} (s : σ) (h:∃ b,s=f b/\p b) (k:∀ b,p b->a (f b)):a s:=by
 obtain⟨b,e,h⟩:=h
 rw[e];exact k _ h
@[elab_as_elim] theorem exS2 {d:Type} {g:Type} {σ:Type} {f : d->g->σ} {p : d->g->Prop} {a : σ->Prop} (s : σ) (h:∃ b c,s=f b c/\p b c) (k:∀ b c,p b c->a (f b c)):a s:=by
 obtain⟨b,c,e,h⟩:=h
 rw[e];exact k _ _ h
@[elab_as_elim] theorem exE2 {d:Type} {g:Type} {σ:Type} {f : d->g->σ} {a : σ->Prop} (s : σ) (h:∃ b c,s=f b c) (k:∀ b c,a (f b c)):a s:=by
 obtain⟨b,c,e⟩:=h
 rw[e];exact k _ _
@[elab_as_elim] theorem exS3 {g:Type} {i:Type} {j:Type} {σ:Type} {f : g->i->j->σ} {p : g->i->j->Prop} {a : σ->Prop} (s : σ) (h:∃ c d b,s=f c d b/\p c d b) (k:∀ c d b,p c d b->a (f c d b)):a s:=by
 obtain⟨c,d,b,e,h⟩:=h
 rw[e];exact k _ _ _ h
@[elab_as_elim] theorem exE3 {g:Type} {i:Type} {j:Type} {σ:Type} {f : g->i->j->σ} {a : σ->Prop} (s : σ) (h:∃ c d b,s=f c d b) (k:∀ c d b,a (f c d b)):a s:=by
 obtain⟨c,d,b,e⟩:=h
 rw[e];exact k _ _ _
@[elab_as_elim] theorem exS4 {i:Type} {j:Type} {l:Type} {m:Type} {σ:Type} {f : i->j->l->m->σ} {p : i->j->l->m->Prop} {a : σ->Prop} (s : σ) (h:∃ d g b c,s=f d g b c/\p d g b c) (k:∀ d g b c,p d g b c->a (f d g b c)):a s:=by
 obtain⟨d,g,b,c,e,h⟩:=h
 rw[e];exact k _ _ _ _ h
@[elab_as_elim] theorem exS5 {j:Type} {m:Type} {n:Type} {o:Type} {l:Type} {σ:Type} {f : j->m->n->o->l->σ} {p : j->m->n->o->l->Prop} {a : σ->Prop} (s : σ) (h:∃ g i b d c,s=f g i b d c/\p g i b d c) (k:∀ g i b d c,p g i b d c->a (f g i b d c)):a s:=by
 obtain⟨g,i,b,d,c,e,h⟩:=h
 rw[e];exact k _ _ _ _ _ h
@[elab_as_elim] theorem exS6 {l:Type} {q:Type} {r:Type} {o:Type} {m:Type} {n:Type} {σ:Type} {f : l->q->r->o->m->n->σ} {p : l->q->r->o->m->n->Prop} {a : σ->Prop} (s : σ) (h:∃ c i d g b j,s=f c i d g b j/\p c i d g b j) (k:∀ c i d g b j,p c i d g b j->a (f c i d g b j)):a s:=by
 obtain⟨c,i,d,g,b,j,e,h⟩:=h
 rw[e];exact k _ _ _ _ _ _ h
@[elab_as_elim] theorem exE6 {l:Type} {o:Type} {p:Type} {q:Type} {m:Type} {n:Type} {σ:Type} {f : l->o->p->q->m->n->σ} {a : σ->Prop} (s : σ) (h:∃ c j g i b d,s=f c j g i b d) (k:∀ c j g i b d,a (f c j g i b d)):a s:=by
 obtain⟨c,j,g,i,b,d,e⟩:=h
 rw[e];exact k _ _ _ _ _ _
@[elab_as_elim] theorem exS7 {m:Type} {r:Type} {v:Type} {q:Type} {n:Type} {o:Type} {u:Type} {σ:Type} {f : m->r->v->q->n->o->u->σ} {p : m->r->v->q->n->o->u->Prop} {a : σ->Prop} (s : σ) (h:∃ d j g i b l c,s=f d j g i b l c/\p d j g i b l c) (k:∀ d j g i b l c,p d j g i b l c->a (f d j g i b l c)):a s:=by
 obtain⟨d,j,g,i,b,l,c,e,h⟩:=h
 rw[e];exact k _ _ _ _ _ _ _ h
@[elab_as_elim] theorem exS8 {o:Type} {v:Type} {x:Type} {u:Type} {q:Type} {r:Type} {w:Type} {n:Type} {σ:Type} {f : o->v->x->u->q->r->w->n->σ} {p : o->v->x->u->q->r->w->n->Prop} {a : σ->Prop} (s : σ) (h:∃ g l i j b m d c,s=f g l i j b m d c/\p g l i j b m d c) (k:∀ g l i j b m d c,p g l i j b m d c->a (f g l i j b m d c)):a s:=by
 obtain⟨g,l,i,j,b,m,d,c,e,h⟩:=h
 rw[e];exact k _ _ _ _ _ _ _ _ h
theorem big{n:Nat}(h:n<=1000000):n<sizeLine:=mB h (by decide)
section
variable{B B1:Bs}{G H G' H':Hp}{σ σI:St}{env envI:En}{F F':Nat->Addr->Prop}{v:V}{s:Sl}{Fv:Addr->Prop}{inv:Nat->Option Nat}
open Classical in
def N4(H:Hp)(F:Nat->Addr->Prop)(inv:Nat->Option Nat):Hp:=λa=>if ∃ i j,inv i=some j/\F i a then none else H a
theorem hE{i j:Nat}{a:Addr}(h:inv i=some j)(f:F i a):N4 H F inv a=none:=t0 ⟨i,j,h,f⟩
theorem sA{a:Addr}(h:∀ i j,inv i=some j->¬ F i a):N4 H F inv a=H a:=y0 λ⟨i,j,x,y⟩=>h i j x y
theorem iA:Same (N4 H F inv) H:=λa o e=>by
 unfold N4 at e
 split at e
 ·cases e
 ·exact e
theorem VI.enter(I:VI B G H σ env F)(inj:∀ i b j,inv i=some j->inv b=some j->i=b)(ln : σI.length=envI.length)
  (sl:∀ j s,envI[j]?=some (some s)->∃ v,σI[j]?=some (some v)/\((∃ d,s=.st d/\Rp G v d/\∀ i,inv i ≠ some j)\/(∃ ns a,s=.scr ns/\v=.ref a/\SqL B.K G a (ns.map V.int)/\∀ i,inv i ≠ some j) ∨
   ∃ i A,inv i=some j/\s=.io A/\σ[i]?=some (some v)/\(env[i]?=some (some (.own A))\/env[i]?=some (some (.io A))))) :
  VI ⟨B.K,G,H,N4 H F inv,σI,λj a=>∃ i,inv i=some j/\F i a⟩ G H σI envI (λj a=>∃ i,inv i=some j/\F i a) where
 gh:=I.gh
 g0:=Same.refl _
 gn:=λa o e=>.inl e
 rs:=iA
 rb:=iA
 bh:=λa o e=>⟨o,e⟩
 fg:=λj a ⟨i,_,z⟩=>I.fg i a z
 fr:=λj a ⟨i,h,z⟩=>hE h z
 fd:=λj k a ⟨i,h,z⟩ ⟨b,h',m⟩=>by
  have:=I.fd i b a z m
  subst this
  rw[h] at h';cases h';rfl
 fo:=λj a ⟨i,h,z⟩=>I.fo i a z
 sl:=λj s e=>by
  obtain⟨v,g,q⟩:=sl j s e
  refine⟨v,g,?_⟩
  rcases q with ⟨d,rfl,r,n⟩|⟨ns,a,rfl,rfl,q,n⟩|⟨i,A,hi,rfl,hs,f⟩
  ·exact⟨r,λa ⟨i,h,_⟩=>n i h⟩
  ·exact⟨⟨a,rfl,q⟩,λa ⟨i,h,_⟩=>n i h⟩
  ·refine⟨?_,λa z=>.inl z,g⟩
   have p:(λa=>∃ b,inv b=some j/\F b a)=F i:=by
    funext a
    exact propext ⟨λ⟨b,h,z⟩=>by rw[inj i b j hi h];exact z,λz=>⟨i,hi,z⟩⟩
   show A.P G H v (λa=>∃ b,inv b=some j/\F b a)
   rw[p]
   rcases f with f|f
   ·obtain⟨l,c,e2⟩:=I.sl i _ f
    rw[hs] at c;cases c;exact e2.1
   ·obtain⟨l,c,e2⟩:=I.sl i _ f
    rw[hs] at c;cases c;exact e2.1
 ln:=ln
 ft:=I.ft
theorem VI.leave(I:VI B G H σ env F)(inj:∀ i h j,inv i=some j->inv h=some j->i=h)(p:B1.G=G)(m:B1.H=H)(w:∀ a o,H a=some o->(∀ i j,inv i=some j->¬ F i a)->B1.R a=some o)
  (M:∀ i j,inv i=some j->∀ a,B1.F j a->F i a) (K:∀ i j,inv i=some j->B1.S[j]? = σ[i]?) (J:VI B1 G' H' σI envI F') (io:∀ i j,inv i=some j->∃ A',envI[j]?=some (some (.io A'))) {env2:En} (L:env2.length=env.length)
  (N:∀ i s,env2[i]?=some (some s)->(inv i=none/\env[i]?=some (some s))\/∃ j A A',inv i=some j/\envI[j]?=some (some (.io A'))/\((env[i]?=some (some (.own A))/\s=.own A')\/(env[i]?=some (some (.io A))/\s=.io A'))) :
  VI B G' H' σ env2 (λi a=>match inv i with|some j=>F' j a|none=>F i a):=by
 have f:∀ a o,G' a=some o->G a=some o\/H a=none:=λa o e=>by
  have:=J.gn a o e
  rw[p,m] at this;exact this
 have fi:∀ i j a,inv i=some j->F' j a->F i a\/H a=none:=λi j a hi z=>by
  obtain⟨A',e⟩:=io i j hi
  obtain⟨v,_,q⟩:=J.sl j _ e
  rcases q.2.1 a z with y|y
  ·exact .inl (M i j hi a y)
  ·rw[m] at y;exact .inr y
 have kp:∀ a o,H a=some o->(∀ i j,inv i=some j->¬ F i a)->H' a=some o:=λa o e n=>J.rs a o (w a o e n)
 refine⟨J.gh,I.g0.trans (p ▸ J.g0),λa o e=>?_,λa o e=>?_,I.rb,λa o e=>?_,λi a z=>?_,λi a z=>?_,λi k a y z=>?_,λi a z=>?_,λi t e=>?_,by rw[L];exact I.ln,J.ft⟩
 ·rcases f a o e with e|e
  ·exact I.gn a o e
  ·exact .inr (I.no_b e)
 ·refine kp a o (I.rs a o e) λi j _ z=>?_
  rw[I.fr i a z] at e;cases e
 ·obtain⟨E,c⟩:=I.bh a o e
  exact J.bh a E (by rw[m];exact c)
 ·cases hi:inv i with
  |some j=>rw[hi] at z;exact J.fg j a z
  | none =>
   rw[hi] at z
   cases e:G' a with
   |none=>rfl
   | some o =>
    rcases f a o e with e|e
    ·rw[I.fg i a z] at e;cases e
    ·exact absurd z (I.no_f e i)
 ·cases hi:inv i with
  | some j =>
   rw[hi] at z
   rcases fi i j a hi z with y|y
   ·exact I.fr i a y
   ·exact I.no_r y
  |none=>rw[hi] at z;exact I.fr i a z
 ·cases hi:inv i with
  | some j =>
   rw[hi] at y
   cases hk:inv k with
   | some l =>
    rw[hk] at z
    have:=J.fd j l a y z
    subst this
    exact inj i k j hi hk
   | none =>
    rw[hk] at z
    rcases fi i j a hi y with x|x
    ·exact I.fd i k a x z
    ·exact absurd z (I.no_f x k)
  | none =>
   rw[hi] at y
   cases hk:inv k with
   | some l =>
    rw[hk] at z
    rcases fi k l a hk z with x|x
    ·exact I.fd i k a y x
    ·exact absurd y (I.no_f x i)
   |none=>rw[hk] at z;exact I.fd i k a y z
 ·cases hi:inv i with
  |some j=>rw[hi] at z;exact J.fo j a z
  | none =>
   rw[hi] at z
   obtain⟨o,e⟩:=I.fo i a z
   exact J.bh a o (by rw[m];exact e)
 ·rcases N i t e with ⟨hi,c⟩|⟨j,A,A',hi,c,e2⟩
  ·obtain⟨v,u,q⟩:=I.sl i t c
   refine⟨v,u,?_⟩
   simp only[hi]
   refine q.mono (p ▸ J.g0) λa o z y=>kp a o y λh O d D=>?_
   have:=I.fd i h a z D
   subst this
   rw[hi] at d;cases d
  ·obtain⟨v,u,q⟩:=J.sl j _ c
   have r : σ[i]?=some (some v):=by rw[← K i j hi];exact q.2.2
   refine⟨v,r,?_⟩
   simp only[hi]
   rcases e2 with ⟨e2,rfl⟩|⟨e2,rfl⟩
   ·obtain⟨C,_,g⟩:=I.sl i _ e2
    refine⟨q.1,λa z=>?_⟩
    rcases fi i j a hi z with y|y
    ·exact g.2 a y
    ·exact I.no_b y
   ·obtain⟨C,b,g⟩:=I.sl i _ e2
    rw[r] at b;cases b
    refine⟨q.1,λa z=>?_,g.2.2⟩
    rcases fi i j a hi z with y|y
    ·exact g.2.1 a y
    ·exact .inr (I.no_b y)
theorem RsX.leave(I:VI B G H σ env F)(b:B1.H=H)(r:RsX B1 G' H' v Fv s F'):RsX B G' H' v Fv s (λi a=>match inv i with|some j=>F' j a|none=>F i a):=by
 have hn:∀ a,Fv a->H a=none:=λa z=>b ▸ r.fb a z
 refine⟨r.ok,λa z=>I.no_b (hn a z),r.fg,r.fo,λi a z y=>?_⟩
 cases hi:inv i with
 |some j=>rw[hi] at y;exact r.fd j a z y
 |none=>rw[hi] at y;exact I.no_f (hn a z) i y
end
abbrev VP:=List Sl->(Sl->Prop)->Prop
abbrev VIo:=Own->List Sl->(Own->Sl->Prop)->Prop
def noF:Nat->Addr->Prop:=λ_ _=>False
def bsP(K:Frag)(G H:Hp)(vs:List V):Bs:=⟨K,G,H,H,vs.map some,noF⟩
def xF(K:Frag)(G:Hp):V->Sl->Prop
 |v,.st d=>Rp G v d
 |v,.scr ns=>∃ a,v=.ref a/\SqL K G a (ns.map V.int)
 |_,_=>False
inductive ArgsOk(K:Frag)(G:Hp):List V->List Sl->Prop
 |nil:ArgsOk K G [] []
 |cons {v:V} {s:Sl} {vs:List V} {ss:List Sl}:xF K G v s->ArgsOk K G vs ss->ArgsOk K G (v::vs) (s::ss)
theorem ArgsOk.length{K:Frag}{G:Hp}:∀{vs:List V}{ss:List Sl},ArgsOk K G vs ss->vs.length=ss.length
 |_,_,.nil=>rfl
 |_,_,.cons _ t=>by simp[ArgsOk.length t]
theorem ArgsOk.get{K:Frag}{G:Hp}:∀{vs:List V}{ss:List Sl}{i:Nat}{s:Sl},ArgsOk K G vs ss->ss[i]?=some s->∃ v,vs[i]?=some v/\xF K G v s
 |_,_,_,_,.nil,e=>by simp at e
 |_,_,0,_,.cons r _,e=>by simp at e;subst e;exact⟨_,rfl,r⟩
 | _,_,i+1,s,.cons _ t,e=>by
  obtain⟨u,b,a⟩:=ArgsOk.get (i:=i) (s:=s) t (by simpa using e)
  exact⟨u,by simpa using b,a⟩
theorem ArgsOk.of{K:Frag}{G:Hp}:∀{vs:List V}{ds:List PyData},Rps G vs ds->ArgsOk K G vs (ds.map Sl.st)
 |_,_,.nil=>.nil
 |_,_,.cons r t=>.cons r (ArgsOk.of t)
theorem yB{α:Type}{xs:List α}{n i:Nat}{s : α}(e:(xs.map some++List.replicate n none)[i]?=some (some s)):xs[i]?=some s:=by
 by_cases h:i<xs.length
 ·rw[q8 (by simpa using h),o1] at e
  rw[X0 h] at e ⊢
  simpa using e
 ·rw[H7 (by simpa using h),O7] at e
  split at e <;> cases e
theorem LB{α:Type}{xs:List α}{n i:Nat}{s : α}(e:xs[i]?=some s):(xs.map some++List.replicate n none)[i]?=some (some s):=by
 have h:i<xs.length:=(J1.mp e).1
 rw[q8 (by simpa using h),o1,e];rfl
def spP(K:Frag)(f:VP):Sp:=λvs H Q _=>∃ G ss Q',Same G H/\FT G H/\ArgsOk K G vs ss/\f ss Q'/\∀ s,Q' s->∀ v G' H' Fv,Out G H v G' H' s Fv->Q v H'
structure OutI(G H R:Hp)(F0:Addr->Prop)(v0:V)(A':Own)(s:Sl)(v:V)(G' H':Hp)(F' Fv:Addr->Prop):Prop where
 gg:Same G G'
 gh:Same G' H'
 ft:FT G' H'
 gn:∀ a o,G' a=some o->G a=some o\/H a=none
 rs:Same R H'
 bh:∀ a o,H a=some o->∃ o',H' a=some o'
 ap:A'.P G' H' v0 F'
 fi:∀ a,F' a->F0 a\/H a=none
 fg:∀ a,F' a->G' a=none
 ok:RsOk G' H' v Fv s
 fv:∀ a,Fv a->H a=none/\G' a=none/\(∃ o,H' a=some o)/\¬ F' a
def spI(K:Frag)(f:VIo):Sp:=λvs H Q _=>∃ v0 vr G R A ss F0 Q',vs=v0::vr/\Same G H/\FT G H/\Same R H/\A.P G H v0 F0/\(∀ a,F0 a->G a=none)/\(∀ a,F0 a->R a=none)/\ArgsOk K G vr ss /\
 f A ss Q'/\∀ A' s,Q' A' s->∀ v G' H' F' Fv,OutI G H R F0 v0 A' s v G' H' F' Fv->Q v H'
theorem p3{K:Frag}{f:VP}{ts:TS}{N:List Str}{vs:List V}{H:Hp}{Q:VK}{E:XK}(h:spP K f vs H Q E)
  (hb:∀ ss Q',f ss Q'->∀ B,B.K=K->EvS B ts { nx:=λ_=>Q' (.st .none),rt:=λs _=>Q' s } (ss.map some++List.replicate (N.length-ss.length) none)):ts { nx:=λ_ H'=>Q .non H',rt:=Q } (L2.start N vs) H:=by
 obtain⟨G,ss,Q',gh,ft,c,hf,b⟩:=h
 have fin:∀{σ G' H' F env v Fv s},VI (bsP K G H vs) G' H' σ env F->RsX (bsP K G H vs) G' H' v Fv s F->Out G H v G' H' s Fv:=λI r =>
  ⟨I.g0,I.gh,I.rs,I.gn,r.fb,r.fg,r.fo,r.ok,λ_=>I.ft⟩
 refine hb ss _ hf (bsP K G H vs) rfl (L2.start N vs) G H noF _ ?_ ⟨λσ G' H' F env I g q=>b _ q _ _ _ _ (fin I (u7 .non)),λσ G' H' F env v Fv s I g r q=>b _ q v G' H' Fv (fin I r),λ_ _ _ _ _ _ _ q=>q,λ_ _ _ _ _ _ _ q=>q⟩
 refine⟨gh,Same.refl _,λa o e=>.inl e,Same.refl _,Same.refl _,λa o e=>⟨o,e⟩,λi a z=>z.elim,λi a z=>z.elim,λi j a z=>z.elim,λi a z=>z.elim,λi s e=>?_,?_,ft⟩
 ·obtain⟨v,l,q⟩:=c.get (yB e)
  refine⟨v,by unfold L2.start;exact LB l,?_⟩
  cases s with
  |st d=>exact⟨q,λa z=>z⟩
  |scr ns=>exact⟨q,λa z=>z⟩
  |own A=>exact q.elim
  |io A=>exact q.elim
 ·unfold L2.start;simp[c.length]
theorem R5{K:Frag}{f:VIo}{ts:TS}{N:List Str}{vs:List V}{H:Hp}{Q:VK}{E:XK}(h:spI K f vs H Q E)
  (hb:∀ A ss Q',f A ss Q'->∀ B,B.K=K->EvS B ts { nx:=λe=>∃ A',e[0]?=some (some (.io A'))/\Q' A' (.st .none),rt:=λs e=>∃ A',e[0]?=some (some (.io A'))/\Q' A' s } (some (.io A)::(ss.map some++List.replicate (N.length-(ss.length+1)) none))):ts { nx:=λ_ H'=>Q .non H',rt:=Q } (L2.start N vs) H:=by
 obtain⟨v0,b,G,R,A,ss,F0,Q',rfl,gh,ft,n,ap,fg,fr,c,hf,C⟩:=h
 have L:(v0::b).length=ss.length+1:=by simp[c.length]
 refine hb A ss _ hf ⟨K,G,H,R,(v0::b).map some,λi a=>i=0/\F0 a⟩ rfl (L2.start N (v0::b)) G H (λi a=>i=0/\F0 a) _ ?_ ?_
 ·refine⟨gh,Same.refl _,λa o e=>.inl e,n,n,λa o e=>⟨o,e⟩,λi a z=>fg a z.2,λi a z=>fr a z.2,λi j a z y=>by rw[z.1,y.1],λi a z=>A.dom ap a z.2,λi s e=>?_,?_,ft⟩
  ·cases i with
   | zero =>
    simp at e
    subst e
    refine⟨v0,rfl,?_,λa z=>.inl z,rfl⟩
    have:(λa=>0=0/\F0 a)=F0:=by funext a;simp
    rw[this];exact ap
   | succ i =>
    have u:(ss.map some++List.replicate (N.length-(ss.length+1)) none)[i]?=some (some s):=by simpa using e
    obtain⟨v,w,q⟩:=c.get (yB u)
    refine⟨v,?_,?_⟩
    ·unfold L2.start;exact LB (by simpa using w)
    ·cases s with
     |st d=>exact⟨q,λa z=>by cases z.1⟩
     |scr ns=>exact⟨q,λa z=>by cases z.1⟩
     |own A=>exact q.elim
     |io A=>exact q.elim
  ·unfold L2.start;simp[c.length]
 ·have fin:∀ σ G' H' F env v Fv s,VI ⟨K,G,H,R,(v0::b).map some,λi a=>i=0/\F0 a⟩ G' H' σ env F->RsX ⟨K,G,H,R,(v0::b).map some,λi a=>i=0/\F0 a⟩ G' H' v Fv s F->(∃ A',env[0]?=some (some (.io A'))/\Q' A' s)->Q v H':=by
   intro σ G' H' F env v Fv s I r ⟨A',e,q⟩
   obtain⟨m,p,x,J,D⟩:=I.sl 0 _ e
   have:m=v0:=by
    have l:((v0::b).map some)[0]?=some (some m):=D
    simpa using l.symm
   subst this
   exact C A' s q v G' H' (F 0) Fv ⟨I.g0,I.gh,I.ft,I.gn,I.rs,I.bh,x,λa z=>by
    rcases J a z with y|y
    ·exact .inl y.2
    ·exact .inr y,I.fg 0,r.ok,λa z=>⟨r.fb a z,r.fg a z,r.fo a z,r.fd 0 a z⟩⟩
  refine⟨λσ G' H' F env I g q=>fin σ G' H' F env .non _ (.st .none) I (u7 .non) q,λσ G' H' F env v Fv s I g r q=>fin σ G' H' F env v Fv s I r q,λ_ _ _ _ _ _ _ q=>q,λ_ _ _ _ _ _ _ q=>q⟩
section
variable{B:Bs}{env:En}{Q':PyData->En->Prop}{QO:Sl->En->Prop}{K:Frag}{E:XK}
theorem NH{f:VP}{t:TA}(h:EvA B t env λds b=>f (ds.map Sl.st) λs=>QO s b):EvO B (o3 (spP K f) [] E t) env QO:=λσ G H F Q I k=>by
 unfold o3
 simp only[n5]
 exact h σ G H F _ I λvs j l d ds b a g c i=>⟨j,_,_,a.gh,a.ft,ArgsOk.of c,i,λs q v G' H' Fv o=>k v G' H' d Fv s b (a.out o).1 (g.trans o.gg) (a.out o).2 q⟩
theorem RI{f:VP}{t:TA}(h:EvA B t env λds a=>f (ds.map Sl.st) λs=>FQ s λd=>Q' d a):Ev B (o3 (spP K f) [] E t) env Q':=F3 (NH h)
theorem jJ{f:VP}{t:TA}{i:Nat}{ns:List Int}(e:env[i]?=some (some (.scr ns)))(n:B.K=K)(h:EvA B t env λds c=>f (.scr ns::ds.map Sl.st) λs=>QO s c):EvO B (o3 (spP K f) [] E (X1 (tVar i) t)) env QO:=λσ G H F Q I k=>by
 subst n
 unfold o3
 simp only[n5]
 obtain⟨v0,u,⟨a,m,g⟩,_⟩:=I.sl i _ e
 refine⟨v0,u,h σ G H F _ I λvs r w l ds c b d j p=>⟨r,_,_,b.gh,b.ft,.cons (s:=.scr ns) ⟨a,m,d.seq g⟩ (ArgsOk.of j),p,λs q v G' H' Fv o=>k v G' H' l Fv s c (b.out o).1 (d.trans o.gg) (b.out o).2 q⟩⟩
def reS:Sl->Own->Sl
 | .io _,A=>.io A
 |_,A=>.own A
theorem fC{f:VIo}{t:TA}{i:Nat}(T:∃ s,env[i]?=some (some s))(h:EvA B t env λds C=>∃ s0 A,C[i]?=some (some s0)/\(s0=.own A\/s0=.io A)/\f A (ds.map Sl.st) λA' s=>QO s (C.set i (some (reS s0 A')))):EvO B (o3 (spI K f) [] E (X1 (tVar i) t)) env QO:=λσ G H F Q I k=>by
 unfold o3
 simp only[n5]
 obtain⟨s,e⟩:=T
 obtain⟨v0,N,_⟩:=I.sl i _ e
 refine⟨v0,N,h σ G H F _ I λvs D p m ds C r R O ⟨s0,A,M,hs,S⟩=>?_⟩
 obtain⟨U,w,q⟩:=r.sl i _ M
 rw[N] at w;cases w
 have ap:A.P D p v0 (m i):=by
  rcases hs with rfl|rfl
  ·exact q.1
  ·exact q.1
 let inv:Nat->Option Nat:=λj=>if j=i then some 0 else none
 have d:inv i=some 0:=t0 rfl
 have g:∀ j,j ≠ i->inv j=none:=λj h=>y0 h
 have c:∀ j l,inv j=some l->j=i/\l=0:=λj l h=>by
  by_cases hj:j=i
  ·subst hj;rw[d] at h;cases h;exact⟨rfl,rfl⟩
  ·rw[g j hj] at h;cases h
 refine⟨v0,vs,D,N4 p m inv,A,_,m i,_,rfl,r.gh,r.ft,iA,ap,r.fg i,λa z=>hE d z,ArgsOk.of O,S,λA' s q v G' H' F' Fv o=>?_⟩
 have hi:i<C.length:=(J1.mp M).1
 have J:VI ⟨K,D,p,N4 p m inv,[some v0],λj a=>j=0/\m i a⟩ G' H' [some v0] [some (.io A')] (λj a=>j=0/\F' a):=by
  refine⟨o.gh,o.gg,o.gn,o.rs,iA,o.bh,λj a z=>o.fg a z.2,λj a z=>?_,λj l a y z=>by rw[y.1,z.1],λj a z=>A'.dom o.ap a z.2,λj s e=>?_,rfl,o.ft⟩
  ·rcases o.fi a z.2 with y|y
   ·exact hE d y
   ·cases e:N4 p m inv a with
    |none=>exact e
    |some u=>rw[iA a u e] at y;cases y
  ·cases j with
   | zero =>
    simp at e
    subst e
    refine⟨v0,rfl,?_,λa z=>?_,rfl⟩
    ·have:(λa=>0=0/\F' a)=F':=by funext a;simp
     rw[this];exact o.ap
    ·rcases o.fi a z.2 with y|y
     ·exact .inl ⟨rfl,y⟩
     ·exact .inr y
   |succ j=>simp at e
 have L:=r.leave (inv:=inv) (env2:=C.set i (some (reS s0 A'))) (λa b j ha hb=>by rw[(c a j ha).1,(c b j hb).1]) rfl rfl (λa u e n=>by show N4 p m inv a=_;rw[sA n];exact e)
  (λa j ha x z=>by rw[(c a j ha).1];exact z.2) (λa j ha=>by rw[(c a j ha).1,(c a j ha).2,N];rfl) J (λa j ha=>⟨A',by rw[(c a j ha).2];rfl⟩) (by simp) λj W e=>by
   by_cases hj:j=i
   ·subst hj
    rw[Z3,t0 rfl,t0 hi] at e
    cases e
    refine .inr ⟨0,A,A',d,rfl,?_⟩
    rcases hs with rfl|rfl
    ·exact .inl ⟨M,rfl⟩
    ·exact .inr ⟨M,rfl⟩
   ·rw[Z3,y0 (λz=>hj z.symm)] at e
    exact .inl ⟨g j hj,e⟩
 have X:RsX ⟨K,D,p,N4 p m inv,[some v0],λj a=>j=0/\m i a⟩ G' H' v Fv s (λj a=>j=0/\F' a):=⟨o.ok,λa z=>(o.fv a z).1,λa z=>(o.fv a z).2.1,λa z=>(o.fv a z).2.2.1,λj a z y=>(o.fv a z).2.2.2 y.2⟩
 exact k v G' H' _ Fv s _ L (R.trans o.gg) (X.leave (inv:=inv) r rfl) q
end
def nA:Option Sl->Option Sl
 |some (.own A)=>some (.io A)
 |s=>s
def D1(src:List (Option Nat))(env:En):En:=src.map λo=>match o with|some j=>nA ((env[j]?).getD none)|none=>none
def isIo:Option Sl->Bool
 |some (.io _)=>true
 |_=>false
def idxE(i:Nat):List (Option Nat)->Nat->Option Nat
 |[],_=>none
 |o::r,k=>if o=some i then some k else idxE i r (k+1)
def j9(src:List (Option Nat))(e:En)(i:Nat)(s:Option Sl):Option Sl :=
 match s with
 |some (.own A)=>(match idxE i src 0 with|some j=>(match e[j]? with|some (some (.io A'))=>some (.own A')|_=>none)|none=>some (.own A))
 |some (.io A)=>(match idxE i src 0 with|some j=>(match e[j]? with|some (some (.io A'))=>some (.io A')|_=>none)|none=>some (.io A))
 |s=>s
def M8(src:List (Option Nat))(e:En):Nat->En->En
 |_,[]=>[]
 |k,s::r=>j9 src e k s::M8 src e (k+1) r
def G9(src:List (Option Nat))(e1 e:En):En:=M8 src e 0 e1
theorem ED(src:List (Option Nat))(e:En):∀(k:Nat)(l:En)(i:Nat),(M8 src e k l)[i]?=(l[i]?).map (j9 src e (k+i))
 |_,[],i=>by simp[M8]
 |k,s::r,0=>by simp[M8]
 | k,s::r,i+1=>by
  have:=ED src e (k+1) r i
  simp only[M8,m3,this]
  rw[show k+1+i=k+(i+1) by lia]
theorem HA{i:Nat}:∀{src:List (Option Nat)}{k j:Nat},idxE i src k=some j->k<=j/\src[j-k]?=some (some i)
 |[],_,_,h=>by cases h
 | o::r,k,j,h=>by
  unfold idxE at h
  by_cases e:o=some i
  ·rw[t0 e] at h;cases h
   exact⟨N0 _,by simp[e]⟩
  ·rw[y0 e] at h
   obtain⟨b,a⟩:=HA h
   refine⟨by lia,?_⟩
   rw[show j-k=(j-(k+1))+1 by lia]
   simpa using a
theorem dH{i:Nat}:∀{src:List (Option Nat)}{k:Nat},idxE i src k=none->∀ j:Nat,src[j]? ≠ some (some i)
 |[],_,_,j=>by simp
 | o::r,k,h,j=>by
  unfold idxE at h
  by_cases e:o=some i
  ·rw[t0 e] at h;cases h
  ·rw[y0 e] at h
   cases j with
   |zero=>simpa using e
   |succ j=>simpa using dH h j
theorem OC:∀(src:List (Option Nat)),(src.filterMap id).Nodup->∀ j a i:Nat,src[j]?=some (some i)->src[a]?=some (some i)->j=a
 |[],_,j,_,_,h,_=>by simp at h
 | none::r,h,j,a,i,h1,h2=>by
  cases j with
  |zero=>simp at h1
  | succ j =>
   cases a with
   |zero=>simp at h2
   |succ a=>rw[OC r (by simpa using h) j a i (by simpa using h1) (by simpa using h2)]
 | some x::r,h,j,a,i,h1,h2=>by
  have h':=V6.mp (show(x::r.filterMap id).Nodup by simpa using h)
  have nm:∀ k,r[k]?=some (some x)->False:=λk c=>h'.1 (List.mem_filterMap.mpr ⟨some x,v2 c,rfl⟩)
  cases j with
  | zero =>
   have b:x=i:=by simpa using h1
   subst b
   cases a with
   |zero=>rfl
   |succ a=>exact(nm a (by simpa using h2)).elim
  | succ j =>
   cases a with
   | zero =>
    have b:x=i:=by simpa using h2
    subst b
    exact(nm j (by simpa using h1)).elim
   |succ a=>rw[OC r h'.2 j a i (by simpa using h1) (by simpa using h2)]
def T8:Option Sl->Bool
 |some (.own _)=>true
 |_=>false
def ioLe:En->En->Prop
 |a::r,b::s=>(isIo a=isIo b/\T8 b=false)/\ioLe r s
 |[],[]=>True
 |_,_=>False
theorem zH{x:Option Sl}(h:isIo x=true):∃ A,x=some (.io A):=by
 cases x with
 |none=>simp[isIo] at h
 | some y =>
  cases y with
  |io A=>exact⟨A,rfl⟩
  |_=>simp[isIo] at h
theorem ioLe.get:∀{a b:En}{j:Nat}{x:Option Sl},ioLe a b->a[j]?=some x->isIo x=true->∃ A,b[j]?=some (some (.io A))
 |[],_,_,_,_,e,_=>by simp at e
 |x::r,[],_,_,h,_,_=>h.elim
 | x::r,y::s,0,z,h,e,p=>by
  simp at e;subst e
  have:=h.1.1
  rw[p] at this
  obtain⟨A,q⟩:=zH this.symm
  exact⟨A,by simp[q]⟩
 | x::r,y::s,j+1,z,h,e,p=>by
  obtain⟨A,q⟩:=ioLe.get (j:=j) h.2 (by simpa using e) p
  exact⟨A,by simpa using q⟩
theorem ioLe.got:∀{a b:En}{j:Nat}{x:Option Sl},ioLe a b->b[j]?=some x->(isIo x=true->∃ A,a[j]?=some (some (.io A)))/\T8 x=false
 |[],[],_,_,_,e=>by simp at e
 |[],_::_,_,_,h,e=>h.elim
 |x::r,[],_,_,h,_=>h.elim
 | x::r,y::s,0,z,h,e=>by
  simp at e;subst e
  refine⟨λp=>?_,h.1.2⟩
  have:=h.1.1
  rw[p] at this
  obtain⟨A,q⟩:=zH this
  exact⟨A,by simp[q]⟩
 | x::r,y::s,j+1,z,h,e=>by
  obtain⟨p,q⟩:=ioLe.got (j:=j) (x:=z) h.2 (by simpa using e)
  exact⟨λt=>by obtain⟨A,u⟩:=p t;exact⟨A,by simpa using u⟩,q⟩
section
variable{B:Bs}{G H:Hp}{σ:St}{env:En}{F:Nat->Addr->Prop}
theorem VI.aside(I:VI B G H σ env F){p:Addr}{o:HO}(b:∀ xs,o ≠ .tup xs)(f:G p=none)(hf:∀ j,¬ F j p)(hb:B.H p=none):VI B G (upd H p o) σ env F where
 gh:=λa u e=>by rw[z0 (V2 e f)];exact I.gh a u e
 g0:=I.g0
 gn:=I.gn
 rs:=λa u e=>by rw[z0 (V2 e (I.b_r hb))];exact I.rs a u e
 rb:=I.rb
 bh:=λa u e=>by rw[z0 (V2 e hb)];exact I.bh a u e
 fg:=I.fg
 fr:=I.fr
 fd:=I.fd
 fo:=λj a z=>by rw[z0 (λe:a=p=>hf j (e ▸ z))];exact I.fo j a z
 sl:=λi s e=>by
  obtain⟨v,c,q⟩:=I.sl i s e
  exact⟨v,c,q.mono (Same.refl _) λa u z y=>by rw[z0 (λe:a=p=>hf i (e ▸ z))];exact y⟩
 ln:=I.ln
 ft:=λa d e=>by
  by_cases z:a=p
  ·subst z;rw[K0] at e;exact absurd (M3 e) (b _)
  ·rw[z0 z] at e;exact I.ft a d e
def LcV(K:Frag)(src:List (Option Nat))(g:TG)(tif:TT)(te:TE)(ds:List PyData)(e1:En)(R:List PyData->En->Prop):Prop:=∃ J:Nat->List PyData->En->Prop,J 0 [] (D1 src e1)/\(∀ i ys e,J i ys e->ioLe (D1 src e1) e) /\
 (∀ i d ys e,ds[i]?=some d->J i ys e->∀ B':Bs,B'.K=K->EvG B' g (.st d) e λe2=>EvT B' tif e2 λb e3=>if b=true then Ev B' te e3 λy e4=>ys.length<=999999/\J (i+1) (ys++[y]) e4 else J (i+1) ys e3)/\∀ ys e,J ds.length ys e->R ys (G9 src e1 e)
theorem kG{src:List (Option Nat)}{j:Nat}{s:Sl}(h:(D1 src env)[j]?=some (some s)):∃ i t,src[j]?=some (some i)/\env[i]?=some (some t)/\nA (some t)=some s:=by
 unfold D1 at h
 rw[o1] at h
 cases e:src[j]? with
 |none=>rw[e] at h;cases h
 | some o =>
  rw[e] at h
  cases o with
  |none=>cases h
  | some i =>
   simp only[m6,Option.some.injEq] at h
   cases e2:env[i]? with
   |none=>rw[e2] at h;cases h
   | some o2 =>
    rw[e2] at h
    cases o2 with
    |none=>cases h
    |some t=>exact⟨i,t,rfl,e2,h⟩
theorem YI{src:List (Option Nat)}{i j:Nat}{v:V}(h:src[j]?=some (some i))(a : σ[i]?=some (some v)):(pick src σ)[j]?=some (some v):=by
 unfold pick
 rw[o1,h]
 simp[a]
theorem ME {src:List (Option Nat)} {wi:TI} {g:TG} {b2:TT} {te:TE} {QO:Sl->En->Prop} (nd:(src.filterMap id).Nodup) (h:EvI B wi env λds W=>LcV B.K src g b2 te ds W λys e2=>QO (.own (OL ys)) e2):EvO B (tLC src wi g b2 te) env QO:=λσ G H F Q I k=>by
 refine h σ G H F _ I λJ G1 H1 F1 ds W I1 g1 it ⟨Jv,j0,a7,js,jd⟩ p S=>?_
 let M:Nat->Bool:=λi=>match W[i]? with|some (some (.own _))=>true|some (some (.io _))=>true|_=>false
 let inv:Nat->Option Nat:=λi=>if M i=true then idxE i src 0 else none
 have E:∀ i j,inv i=some j->src[j]?=some (some i)/\M i=true:=λi j hi=>by
  by_cases hm:M i=true
  ·have f:idxE i src 0=some j:=by simpa[inv,hm] using hi
   have:=(HA f).2
   exact⟨by simpa using this,hm⟩
  ·simp[inv,hm] at hi
 have a3:∀ i j,src[j]?=some (some i)->M i=true->inv i=some j:=λi j hs hm=>by
  have e0:inv i=idxE i src 0:=by simp[inv,hm]
  cases e:idxE i src 0 with
  |none=>exact absurd hs (dH e j)
  | some j' =>
   have:=(HA e).2
   rw[e0,e,OC src nd j j' i hs (by simpa using this)]
 have inj:∀ i c j,inv i=some j->inv c=some j->i=c:=λi c j X C=>by
  have a:=(E i j X).1
  rw[(E c j C).1] at a
  simpa using a.symm
 have b1:∀ i,M i=true->∃ A,W[i]?=some (some (.own A))\/W[i]?=some (some (.io A)):=λi hm=>by
  cases e:W[i]? with
  |none=>simp[M,e] at hm
  | some o =>
   cases o with
   |none=>simp[M,e] at hm
   | some s =>
    cases s with
    |own A=>exact⟨A,.inl rfl⟩
    |io A=>exact⟨A,.inr rfl⟩
    |st d=>simp[M,e] at hm
    |scr ns=>simp[M,e] at hm
 have a9:∀ i ys e,Jv i ys e->∀ c j,inv c=some j->∃ A,e[j]?=some (some (.io A)):=λi ys e hj c j hi=>by
  obtain⟨hs,hm⟩:=E c j hi
  obtain⟨A,O⟩:=b1 c hm
  refine(a7 i ys e hj).get (x:=some (.io A)) ?_ rfl
  unfold D1
  rw[o1,hs]
  rcases O with O|O <;> simp[O,nA]
 -- between two turns
 let Wv:Nat->List V->St->Hp->Prop:=λi ys σI H=>∃ G2 F2 e env2 yd,VI B G2 H σ env2 F2/\Same G1 G2/\H p=some (.lst ys)/\Rps G2 ys yd/\G2 p=none/\(∀ j,¬ F2 j p)/\Jv i yd e/\σI.length=e.length/\env2.length=W.length /\
  (∀ j s,e[j]?=some (some s)->∃ v,σI[j]?=some (some v)/\((∃ d,s=.st d/\Rp G2 v d/\∀ i,inv i ≠ some j)\/(∃ ns a,s=.scr ns/\v=.ref a/\SqL B.K G2 a (ns.map V.int)/\∀ i,inv i ≠ some j) ∨
   ∃ i A,inv i=some j/\s=.io A/\σ[i]?=some (some v)/\(env2[i]?=some (some (.own A))\/env2[i]?=some (some (.io A))))) /\
  (∀ i,inv i=none->env2[i]?=W[i]?)/\(∀ i j,inv i=some j->∃ A0 A,e[j]?=some (some (.io A))/\((W[i]?=some (some (.own A0))/\env2[i]?=some (some (.own A)))\/(W[i]?=some (some (.io A0))/\env2[i]?=some (some (.io A)))))
 have hb:B.H p=none:=I1.no_b S
 refine⟨λi m ys σI H=>m=ds.length-i/\i<=ds.length/\Wv i ys σI H,⟨ds.length,by simp,Y3 _,?_⟩,?_⟩
 ·refine⟨G1,F1,D1 src W,W,[],I1.aside (λ_ z=>nomatch z) (I1.no_g S) (I1.no_f S) hb,Same.refl _,K0,.nil,I1.no_g S,I1.no_f S,j0,by simp[pick,D1],rfl,λj s e=>?_,λ_ _=>rfl,λi j hi=>?_⟩
  ·obtain⟨i,t,hs,ht,hp⟩:=kG e
   obtain⟨v,hv,q⟩:=I1.sl i t ht
   refine⟨v,YI hs hv,?_⟩
   cases t with
   | st d =>
    cases hp
    refine .inl ⟨d,rfl,q.1,λc f=>?_⟩
    have a:=(E c j f).1
    rw[hs] at a
    have:i=c:=by simpa using a
    subst this
    have:=(E i j f).2
    simp[M,ht] at this
   | scr ns =>
    cases hp
    obtain⟨⟨a,ea,sq⟩,_⟩:=q
    refine .inr (.inl ⟨ns,a,rfl,ea,sq,λc f=>?_⟩)
    have a:=(E c j f).1
    rw[hs] at a
    have:i=c:=by simpa using a
    subst this
    have:=(E i j f).2
    simp[M,ht] at this
   |own A=>cases hp;exact .inr (.inr ⟨i,A,a3 i j hs (by simp[M,ht]),rfl,hv,.inl ht⟩)
   |io A=>cases hp;exact .inr (.inr ⟨i,A,a3 i j hs (by simp[M,ht]),rfl,hv,.inr ht⟩)
  ·obtain⟨hs,hm⟩:=E i j hi
   obtain⟨A,O⟩:=b1 i hm
   refine⟨A,A,?_,?_⟩
   ·unfold D1
    rw[o1,hs]
    rcases O with O|O <;> simp[O,nA]
   ·rcases O with O|O
    ·exact .inl ⟨O,O⟩
    ·exact .inr ⟨O,O⟩
 ·rintro i m ys σI H2 ⟨rfl,hi,G2,F2,e,env2,yd,I2,g2,a2,ry,ga,fa,jv,ln,b6,sl,un,mv⟩
  refine⟨a2,?_⟩
  by_cases hlt:i<ds.length
  ·refine .inr ⟨it.go i G2 H2 g2 I2.gh hlt,Wv (i+1),λY c1 H' hw=>⟨ds.length-(i+1),by lia,rfl,hlt,hw⟩,λx H3 y=>?_⟩
   obtain⟨G3,o⟩:=it.yld i G2 H2 x H3 _ g2 I2.gh I2.ft (X0 hlt) y
   obtain⟨I3,X3⟩:=I2.out o
   have a5:=o.hh _ _ a2
   have a8:=fa
   have b4:G3 p=none:=by
    cases e':G3 p with
    |none=>rfl
    | some u =>
     rcases o.gn p u e' with q|q
     ·rw[ga] at q;cases q
     ·rw[a2] at q;cases q
   have b7:∀ j s,e[j]?=some (some s)->∃ v,σI[j]?=some (some v)/\((∃ d,s=.st d/\Rp G3 v d/\∀ i,inv i ≠ some j)\/(∃ ns a,s=.scr ns/\v=.ref a/\SqL B.K G3 a (ns.map V.int)/\∀ i,inv i ≠ some j) ∨
     ∃ i A,inv i=some j/\s=.io A/\σ[i]?=some (some v)/\(env2[i]?=some (some (.own A))\/env2[i]?=some (some (.io A)))):=λj s es=>by
    obtain⟨v,hv,q⟩:=sl j s es
    refine⟨v,hv,?_⟩
    rcases q with ⟨d,a6,r,n⟩|⟨ns,a,a6,c0,r,n⟩|q
    ·exact .inl ⟨d,a6,r.same o.gg,n⟩
    ·exact .inr (.inl ⟨ns,a,a6,c0,o.gg.seq r,n⟩)
    ·exact .inr (.inr q)
   have E3:=I3.enter (inv:=inv) (σI:=σI) (envI:=e) inj ln b7
   -- back from the turn
   have fin:∀(T:St)(G4 H4:Hp)(F4:Nat->Addr->Prop)(e4:En)(a0:List PyData)(Y:List V)(o4:HO),VI ⟨B.K,G3,H3,N4 H3 F2 inv,σI,λj a=>∃ i,inv i=some j/\F2 i a⟩ G4 H4 T e4 F4->Jv (i+1) a0 e4->Rps G4 Y a0 ->
     Wv (i+1) Y T (upd H4 p (.lst Y))/\H4 p=some (.lst ys):=by
    intro T G4 H4 F4 e4 a0 Y o4 I4 j4 r4
    have a1:=a9 (i+1) a0 e4 j4
    have b8:H4 p=some (.lst ys):=I4.rs p _ (by show N4 H3 F2 inv p=_;rw[sA (λc _ _=>a8 c)];exact a5)
    have b3:G4 p=none:=by
     cases e':G4 p with
     |none=>rfl
     | some u =>
      rcases I4.gn p u e' with q|q
      ·change G3 p=_ at q;rw[b4] at q;cases q
      ·change H3 p=_ at q;rw[a5] at q;cases q
    -- the slots of the outer frame
    let D:En:=(List.range env2.length).map λc=>match inv c with
     |some j=>(match env2[c]?,e4[j]? with|some (some (.own _)),some (some (.io A))=>some (.own A)|some (some (.io _)),some (some (.io A))=>some (.io A)|_,_=>none)
     |none=>(env2[c]?).getD none
    have P:∀ c,c<env2.length->D[c]?=some (match inv c with
     |some j=>(match env2[c]?,e4[j]? with|some (some (.own _)),some (some (.io A))=>some (.own A)|some (some (.io _)),some (some (.io A))=>some (.io A)|_,_=>none)
     |none=>(env2[c]?).getD none):=λc hl=>by
     simp only[D,o1]
     rw[X0 (by simpa using hl)]
     simp
    have L:=I3.leave (inv:=inv) (env2:=D) inj rfl rfl (λa u q n=>by show N4 H3 F2 inv a=_;rw[sA n];exact q) (λc j f a z=>by obtain⟨U,X,C⟩:=z;rw[inj c U j f X];exact C)
     (λc j f=>by
      obtain⟨A0,A,X,C⟩:=mv c j f
      obtain⟨v,hv,q⟩:=sl j _ X
      rcases q with ⟨d,q,_⟩|⟨ns,a,q,_⟩|⟨U,b9,q1,q2,q3,_⟩
      ·cases q
      ·cases q
      ·rw[inj c U j f q1]
       show σI[j]?=_
       rw[hv,q3]) I4 a1 (by simp[D]) (λc s es=>by
      have hl:c<env2.length:=by
       have:=(J1.mp es).1
       simpa[D] using this
      rw[P c hl] at es
      cases f:inv c with
      | none =>
       refine .inl ⟨rfl,?_⟩
       rw[f] at es
       simp only[Option.some.injEq] at es
       cases q:env2[c]? with
       |none=>rw[q] at es;cases es
       |some u=>rw[q] at es;simp at es;rw[es]
      | some j =>
       rw[f] at es
       obtain⟨A',R⟩:=a1 c j f
       obtain⟨A0,A,X,C⟩:=mv c j f
       simp only[R] at es
       rcases C with ⟨_,C⟩|⟨_,C⟩
       ·rw[C] at es
        simp only[Option.some.injEq] at es
        exact .inr ⟨j,A,A',rfl,R,.inl ⟨C,es.symm⟩⟩
       ·rw[C] at es
        simp only[Option.some.injEq] at es
        exact .inr ⟨j,A,A',rfl,R,.inr ⟨C,es.symm⟩⟩)
    have b0:∀ j,¬ (match inv j with|some j=>F4 j p|none=>F2 j p):=λj z=>by
     cases hj:inv j with
     |none=>rw[hj] at z;exact a8 j z
     | some l =>
      rw[hj] at z
      obtain⟨A',R⟩:=a1 j l hj
      obtain⟨v,_,q⟩:=I4.sl l _ R
      rcases q.2.1 p z with ⟨U,_,q⟩|q
      ·exact a8 U q
      ·change H3 p=_ at q;rw[a5] at q;cases q
    refine⟨⟨G4,_,e4,D,a0,L.aside (λ_ z=>nomatch z) b3 b0 hb,g2.trans (o.gg.trans I4.g0),K0,r4,b3,b0,j4,I4.ln,by simp[D,b6],λj s es=>?_,λc f=>?_,λc j f=>?_⟩,b8⟩
    ·obtain⟨v,hv,q⟩:=I4.sl j s es
     refine⟨v,hv,?_⟩
     have Z:(∀ A,s ≠ .io A)->∀ c,inv c ≠ some j:=λhn c f=>by
      obtain⟨A,O⟩:=a1 c j f
      rw[es] at O
      exact hn A (by simpa using O)
     cases s with
     |st d=>exact .inl ⟨d,rfl,q.1,Z (by intro A z;cases z)⟩
     | scr ns =>
      obtain⟨⟨a,ea,sq⟩,_⟩:=q
      exact .inr (.inl ⟨ns,a,rfl,ea,sq,Z (by intro A z;cases z)⟩)
     | own A =>
      have:=((a7 _ _ _ j4).got es).2
      simp[T8] at this
     | io A =>
      obtain⟨A0,h0⟩:=((a7 _ _ _ j4).got es).1 rfl
      obtain⟨c,t,hs,ht,hp⟩:=kG h0
      have hm:M c=true:=by
       cases t with
       |own A=>simp[M,ht]
       |io A=>simp[M,ht]
       |st d=>cases hp
       |scr ns=>cases hp
      have f:=a3 c j hs hm
      obtain⟨B0,A1,X,C⟩:=mv c j f
      have hl:c<env2.length:=by
       rcases C with ⟨_,C⟩|⟨_,C⟩ <;> exact(J1.mp C).1
      refine .inr (.inr ⟨c,A,f,rfl,?_,?_⟩)
      ·have hS : σI[j]?=some (some v):=q.2.2
       obtain⟨v',b5,q'⟩:=sl j _ X
       rcases q' with ⟨d,q',_⟩|⟨ns,a,q',_⟩|⟨U,b9,q1,q2,q3,_⟩
       ·cases q'
       ·cases q'
       ·rw[inj c U j f q1,q3,← b5,hS]
      ·rw[P c hl,f]
       simp only[es]
       rcases C with ⟨_,C⟩|⟨_,C⟩
       ·rw[C];exact .inl rfl
       ·rw[C];exact .inr rfl
    ·by_cases hl:c<env2.length
     ·rw[P c hl,f]
      simp only
      rw[← un c f]
      rw[X0 hl];rfl
     ·rw[i7.mpr (by simp[D];lia),← un c f,i7.mpr (by lia)]
    ·obtain⟨A',R⟩:=a1 c j f
     obtain⟨A0,A,X,C⟩:=mv c j f
     have hl:c<env2.length:=by
      rcases C with ⟨_,C⟩|⟨_,C⟩ <;> exact(J1.mp C).1
     refine⟨A0,A',R,?_⟩
     rw[P c hl,f]
     simp only[R]
     rcases C with ⟨h3,C⟩|⟨h3,C⟩
     ·rw[C];exact .inl ⟨h3,rfl⟩
     ·rw[C];exact .inr ⟨h3,rfl⟩
   have hd:ds[i]?=some ds[i]:=X0 hlt
   refine js i _ yd e hd jv ⟨B.K,G3,H3,N4 H3 F2 inv,σI,λj a=>∃ i,inv i=some j/\F2 i a⟩ rfl σI G3 H3 _ x _ _ E3 (u7 o.ok.1) λT G4 H4 F4 e4 I4 g4 q4=>?_
   refine q4 T G4 H4 F4 _ I4 λb G5 H5 F5 e5 I5 g5 q5=>?_
   cases b with
   | false =>
    rw[y0 Y1] at q5 ⊢
    obtain⟨w,ac⟩:=fin T G5 H5 F5 e5 yd ys (.lst ys) I5 q5 (ry.same (o.gg.trans (g4.trans g5)))
    have:upd H5 p (.lst ys)=H5:=by
     funext b
     unfold upd
     split
     ·rename_i hb';rw[hb'];exact ac.symm
     ·rfl
    rw[this] at w
    exact w
   | true =>
    rw[t0 rfl] at q5 ⊢
    refine q5 T G5 H5 F5 _ I5 λy G6 H6 F6 d6 e6 I6 g6 r6 q6=>?_
    obtain⟨w,ac⟩:=fin T G6 H6 F6 e6 (yd++[d6]) (ys++[y]) (.lst ys) I6 q6.2 ((ry.same (o.gg.trans (g4.trans (g5.trans g6)))).append (.cons r6 .nil))
    exact⟨ac,by rw[ry.length];exact big (by have:=q6.1;lia),w⟩
  ·have ei:i=ds.length:=by lia
   subst ei
   refine .inl ⟨it.stop _ G2 H2 g2 I2.gh rfl,?_⟩
   have q:=jd yd e jv
   have eb:G9 src W e=env2:=by
    apply T5
    intro c
    unfold G9
    rw[ED,Nat.zero_add]
    have N:M c=false->env2[c]?=W[c]?:=λhm=>un c (by simp[inv,hm])
    cases e2:W[c]? with
    | none =>
     rw[N (by simp[M,e2]),e2];rfl
    | some o =>
     cases o with
     |none=>rw[N (by simp[M,e2]),e2];rfl
     | some t =>
      have a4:∀ A,(t=.own A\/t=.io A)->M c=true:=λA h=>by rcases h with rfl|rfl <;> simp[M,e2]
      cases t with
      |st d=>rw[N (by simp[M,e2]),e2];rfl
      |scr ns=>rw[N (by simp[M,e2]),e2];rfl
      | own A =>
       have hm:=a4 A (.inl rfl)
       simp only[m6,j9]
       cases e3:idxE c src 0 with
       | none =>
        have:inv c=none:=by simp[inv,e3]
        rw[un c this,e2]
       | some j =>
        have f:inv c=some j:=by simp[inv,hm,e3]
        obtain⟨A0,A1,X,C⟩:=mv c j f
        simp only[X]
        rcases C with ⟨h3,C⟩|⟨h3,C⟩
        ·rw[C]
        ·rw[e2] at h3;cases h3
      | io A =>
       have hm:=a4 A (.inr rfl)
       simp only[m6,j9]
       cases e3:idxE c src 0 with
       | none =>
        have:inv c=none:=by simp[inv,e3]
        rw[un c this,e2]
       | some j =>
        have f:inv c=some j:=by simp[inv,hm,e3]
        obtain⟨A0,A1,X,C⟩:=mv c j f
        simp only[X]
        rcases C with ⟨h3,C⟩|⟨h3,C⟩
        ·rw[e2] at h3;cases h3
        ·rw[C]
   rw[eb] at q
   refine k (.ref p) G2 H2 F2 (· = p) (.own (OL yd)) env2 I2 (g1.trans g2) ⟨⟨p,ys,rfl,a2,ry,λb=>Iff.rfl⟩,λa z=>by rw[z];exact hb,λa z=>by rw[z];exact ga,λa z=>by rw[z];exact⟨_,a2⟩,λj a z=>by rw[z];exact fa j⟩ q
end
def noIo(e:En):Bool:=e.all λs=>!isIo s
theorem fR{e:En}{j:Nat}{x:Option Sl}(h:noIo e=true)(a:e[j]?=some x):isIo x=false:=by
 have:=P6.mp h x (v2 a)
 simpa using this
theorem xA{src:List (Option Nat)}{b e:En}(h:noIo (D1 src b)=true):G9 src b e=b:=by
 apply T5
 intro i
 unfold G9
 rw[ED,Nat.zero_add]
 cases e2:b[i]? with
 |none=>rfl
 | some o =>
  have a:∀ A,(o=some (.own A)\/o=some (.io A))->idxE i src 0=none:=λA c=>by
   cases e3:idxE i src 0 with
   |none=>rfl
   | some j =>
    have hs:=(HA e3).2
    have:(D1 src b)[j]?=some (some (.io A)):=by
     unfold D1
     rw[o1,show src[j]?=some (some i) by simpa using hs]
     rcases c with rfl|rfl <;> simp[e2,nA]
    have:=fR h this
    simp[isIo] at this
  cases o with
  |none=>rfl
  | some t =>
   cases t with
   |st d=>rfl
   |scr ns=>rfl
   |own A=>simp only[m6,j9,a A (.inl rfl)]
   |io A=>simp only[m6,j9,a A (.inr rfl)]
def stO:Option PyData->Option Sl:=Option.map Sl.st
theorem isIo_stO{o:Option PyData}:isIo (stO o)=false:=by cases o <;> rfl
theorem kA{o:Option PyData}:T8 (stO o)=false:=by cases o <;> rfl
theorem VA{src:List (Option Nat)}{b:En}:∀ x∈D1 src b,T8 x=false:=by
 intro x a
 unfold D1 at a
 obtain⟨o,_,rfl⟩:=P1.mp a
 cases o with
 |none=>rfl
 | some j =>
  dsimp only
  cases (b[j]?).getD none with
  |none=>rfl
  |some t=>cases t <;> rfl
theorem W9:∀{e:En},(∀ x∈e,T8 x=false)->ioLe e e
 |[],_=>True.intro
 |x::r,h=>⟨⟨rfl,h x T3⟩,W9 λy a=>h y (S3 _ a)⟩
section
variable{B:Bs}{env:En}{g:TG}{tif:TT}{te:TE}{K:Frag}{src:List (Option Nat)}{ds:List PyData}{e1:En}{R:List PyData->En->Prop}
theorem dJ(f:PyData->PyData)(p:PyData->Bool)(l:noIo (D1 src e1)=true)(C:ds.length<=999999)
  (h:∀ d∈ds,∀ a:Bs,a.K=K->EvT a tif (some (.st d)::D1 src e1) λb g=>b=p d/\g=some (.st d)::D1 src e1/\(b=true->Ev a te (some (.st d)::D1 src e1) λy n=>y=f d/\n=some (.st d)::D1 src e1))
  (r:R ((ds.filter p).map f) e1):LcV K (none::src) (D3 0) tif te ds e1 R:=by
 have c:noIo (D1 (none::src) e1)=true:=by
  show((none::D1 src e1).all λs=>!isIo s)=true
  rw[List.all_cons]
  exact(S5 _ _).mpr ⟨rfl,l⟩
 refine⟨λi ys e=>ys=((ds.take i).filter p).map f/\∃ o,e=stO o::D1 src e1,⟨by simp,none,rfl⟩,?_,?_,?_⟩
 ·rintro i ys e ⟨_,o,rfl⟩
  exact⟨⟨isIo_stO.symm,kA⟩,W9 VA⟩
 ·rintro i d ys e hd ⟨rfl,o,rfl⟩ a u
  have hi:i<ds.length:=(J1.mp hd).1
  have q:ds.take (i+1)=ds.take i++[d]:=by rw[G7,hd];rfl
  refine L4 ?_
  show EvT a tif (some (.st d)::D1 src e1) _
  intro σ G H F Q I k
  refine h d (v2 hd) a u σ G H F Q I λb G' H' F' g j g' ⟨hb,w,z⟩=>k b G' H' F' g j g' ?_
  subst w
  by_cases hp:b=true
  ·rw[t0 hp]
   intro σ G H F Q I k
   refine z hp σ G H F Q I λv G' H' F' d' n j g' x ⟨A,m⟩=>k v G' H' F' d' n j g' x ?_
   subst A m
   refine⟨?_,?_,some d,rfl⟩
   ·have:=qB p (ds.take i)
    simp only[T0]
    have B:(ds.take i).length<=i:=by simp;lia
    lia
   ·rw[q,List.filter_append,w4]
    have:p d=true:=by rw[← hb];exact hp
    simp[this]
  ·rw[y0 hp]
   refine⟨?_,some d,rfl⟩
   rw[q,List.filter_append,w4]
   have:p d=false:=by rw[← hb];simpa using hp
   simp[this]
 ·rintro ys e ⟨rfl,o,rfl⟩
  rw[xA c,D6]
  exact r
theorem cF{α:Type}(xs:List α):xs.filter (λ_=>true)=xs:=by simp
theorem QH(f:PyData->PyData)(b:noIo (D1 src e1)=true)(j:ds.length<=999999)
  (h:∀ d∈ds,∀ a:Bs,a.K=K->Ev a te (some (.st d)::D1 src e1) λy c=>y=f d/\c=some (.st d)::D1 src e1)
  (i:R (ds.map f) e1):LcV K (none::src) (D3 0) tYes te ds e1 R :=
 dJ f (λ_=>true) b j (λd hd a g=>SA ⟨rfl,rfl,λ_=>h d hd a g⟩) (by rw[cF];exact i)
theorem JL{u:Frag}{α:Type}{xs:List α}{fa fb : α->PyData}(f : α->PyData)(p : α->Bool)(l:noIo (D1 src e1)=true)(E:xs.length<=999999)
  (h:∀ x∈xs,∀ a:Bs,a.K=K->EvT a tif (some (.st (fa x))::some (.st (fb x))::D1 src e1) λb g=>b=p x/\g=some (.st (fa x))::some (.st (fb x))::D1 src e1/\(b=true->Ev a te (some (.st (fa x))::some (.st (fb x))::D1 src e1) λy n=>y=f x/\n=some (.st (fa x))::some (.st (fb x))::D1 src e1))
  (r:R ((xs.filter p).map f) e1):LcV K (none::none::src) (gTup u 2 (i9 (D3 0) (i9 (D3 1) gNil))) tif te (xs.map λx=>.tuple [fa x,fb x]) e1 R:=by
 have c:noIo (D1 (none::none::src) e1)=true:=by
  show((none::none::D1 src e1).all λs=>!isIo s)=true
  rw[List.all_cons,List.all_cons]
  exact(S5 _ _).mpr ⟨rfl,(S5 _ _).mpr ⟨rfl,l⟩⟩
 refine⟨λi ys e=>ys=((xs.take i).filter p).map f/\∃ o o',e=stO o::stO o'::D1 src e1,⟨by simp,none,none,rfl⟩,?_,?_,?_⟩
 ·rintro i ys e ⟨_,o,o',rfl⟩
  exact⟨⟨isIo_stO.symm,kA⟩,⟨isIo_stO.symm,kA⟩,W9 VA⟩
 ·rintro i d ys e hd ⟨rfl,o,o',rfl⟩ a w
  rw[o1] at hd
  cases hx:xs[i]? with
  |none=>rw[hx] at hd;cases hd
  | some x =>
   rw[hx] at hd
   cases hd
   have hi:i<xs.length:=(J1.mp hx).1
   have q:xs.take (i+1)=xs.take i++[x]:=by rw[G7,hx];rfl
   refine lH rfl (CC (L4 (CC (L4 (pF ?_)))))
   show EvT a tif (some (.st (fa x))::some (.st (fb x))::D1 src e1) _
   intro σ G H F Q I k
   refine h x (v2 hx) a w σ G H F Q I λb G' H' F' g j g' ⟨hb,z,C⟩=>k b G' H' F' g j g' ?_
   subst z
   by_cases hp:b=true
   ·rw[t0 hp]
    intro σ G H F Q I k
    refine C hp σ G H F Q I λv G' H' F' d' n j g' A ⟨B,m⟩=>k v G' H' F' d' n j g' A ?_
    subst B m
    refine⟨?_,?_,some _,some _,rfl⟩
    ·have:=qB p (xs.take i)
     simp only[T0]
     have D:(xs.take i).length<=i:=by simp;lia
     lia
    ·rw[q,List.filter_append,w4]
     have:p x=true:=by rw[← hb];exact hp
     simp[this]
   ·rw[y0 hp]
    refine⟨?_,some _,some _,rfl⟩
    rw[q,List.filter_append,w4]
    have:p x=false:=by rw[← hb];simpa using hp
    simp[this]
 ·rintro ys e ⟨rfl,o,o',rfl⟩
  rw[xA c]
  simpa using r
end
section
variable{R:Sl->Prop}
theorem CM{g:Int->Int->Int}{i j:Int}(h:R (.st (.int (g i j)))):Op2 (rI0 λi j=>.int (g i j)) (.int i) (.int j) R:=λG H c d Q gh b a k=>by
 cases b;cases a
 exact⟨i,j,rfl,rfl,k _ _ _ _ _ (Out.refl gh (.int _)) h⟩
theorem GR{g:Int->Int->Bool}{i j:Int}(h:R (.st (.bool (g i j)))):Op2 (rI0 λi j=>.bl (g i j)) (.int i) (.int j) R:=λG H c d Q gh b a k=>by
 cases b;cases a
 exact⟨i,j,rfl,rfl,k _ _ _ _ _ (Out.refl gh (.bl _)) h⟩
theorem yQ{C:Int->Int->Prop}{g:Int->Int->Int}{i j:Int}(a:C i j)(h:R (.st (.int (g i j)))):Op2 (rI C λi j=>.int (g i j)) (.int i) (.int j) R:=λG H d f Q gh c b k=>by
 cases c;cases b
 exact⟨i,j,rfl,rfl,a,k _ _ _ _ _ (Out.refl gh (.int _)) h⟩
theorem EJ{g:Int->Int}{i:Int}(h:R (.st (.int (g i)))):Op1 (rU λi=>.int (g i)) (.int i) R:=λG H b Q gh a k=>by
 cases a
 exact⟨i,rfl,k _ _ _ _ _ (Out.refl gh (.int _)) h⟩
theorem YK{i j:Int}(h:R (.st (.bool (decide (i=j))))):Op2 rEq (.int i) (.int j) R:=λG H c d Q gh b a k=>by
 cases b;cases a
 exact uE (k _ _ _ _ _ (Out.refl gh (.bl _)) h)
theorem lK{i j:Int}(h:R (.st (.bool (!decide (i=j))))):Op2 rNe (.int i) (.int j) R:=λG H c d Q gh b a k=>by
 cases b;cases a
 exact xL (k _ _ _ _ _ (Out.refl gh (.bl _)) h)
theorem jD{x y:PyData}(a:z1 x=true)(b:z1 y=true)(hd:x.depth<=60)(h:R (.st (.bool (PyData.eqv x y)))):Op2 rEqD x y R:=λG H f g Q gh d c k =>
 ⟨x,y,(d.rep a).same gh,(c.rep b).same gh,a,b,hd,k _ _ _ _ _ (Out.refl gh (.bl _)) h⟩
theorem nH{x y:PyData}(a:z1 x=true)(b:z1 y=true)(hd:x.depth<=60)(h:R (.st (.bool (!PyData.eqv x y)))):Op2 rNeD x y R:=λG H f g Q gh d c k =>
 ⟨x,y,(d.rep a).same gh,(c.rep b).same gh,a,b,hd,k _ _ _ _ _ (Out.refl gh (.bl _)) h⟩
theorem CH{a:Bool}{x:PyData}{es:List PyData}(b:z1 x=true)(c:plainDs es=true)(hd:x.depth<=60)(h:R (.st (.bool (if a then !es.any (λz=>PyData.eqv z x) else es.any (λz=>PyData.eqv z x))))):Op2 (rInD a) x (.list es) R:=λG H g i Q gh f d k =>
 ⟨x,es,(f.rep b).same gh,.inl ((d.rep (by simpa[z1] using c)).same gh),b,c,hd,k _ _ _ _ _ (Out.refl gh (.bl _)) h⟩
theorem Rps.at{G:Hp}{vs:List V}{ds:List PyData}{i:Int}{d:PyData}(r:Rps G vs ds)(h:V0 ds i=some d):∃ v,V0 vs i=some v/\Rp G v d:=by
 unfold V0 at h ⊢
 rw[r.length]
 cases e:ixN ds.length i with
 |none=>rw[e] at h;cases h
 | some j =>
  rw[e] at h
  exact r.get h
theorem iO{K:Frag}{ds:List PyData}{i:Int}{d:PyData}(hd:V0 ds i=some d)(h:R (.st d)):Op2 (V5 K) (.list ds) (.int i) R:=λG H g j Q gh b a k=>by
 cases a
 cases b with
 | lst ha rs =>
  obtain⟨v,f,c⟩:=rs.at hd
  exact oB (gh _ _ ha) f (k _ _ _ _ _ (Out.refl gh c) h)
theorem CK{K:Frag}{ds:List PyData}{i:Int}{d:PyData}(hd:V0 ds i=some d)(h:R (.st d)):Op2 (V5 K) (.tuple ds) (.int i) R:=λG H g j Q gh b a k=>by
 cases a
 cases b with
 | tup ha rs =>
  obtain⟨v,f,c⟩:=rs.at hd
  exact WR (gh _ _ ha) f (k _ _ _ _ _ (Out.refl gh c) h)
def isNone:PyData->Bool
 | .none=>true
 |_=>false
theorem HG{G:Hp}{v:V}{x:PyData}(r:Rp G v x):decide (v=.non)=isNone x:=by cases r <;> rfl
theorem nI{x:PyData}(h:R (.st (.bool (isNone x)))):Op2 rIsN x .none R:=λG H c d Q gh b a k=>by
 cases a
 refine⟨rfl,?_⟩
 rw[HG b]
 exact k _ _ _ _ _ (Out.refl gh (.bl _)) h
theorem KM{x:PyData}(h:R (.st (.bool (!isNone x)))):Op2 NC x .none R:=λG H c d Q gh b a k=>by
 cases a
 refine⟨rfl,?_⟩
 rw[HG b]
 exact k _ _ _ _ _ (Out.refl gh (.bl _)) h
theorem YO{xs ys:List PyData}(c:xs.length+ys.length<=1000000)(h:R (.own (OL (xs++ys)))):Op2 rCat (.list xs) (.list ys) R:=λG H f g Q gh b a k=>by
 cases b with
 | lst ha ra =>
  cases a with
  | lst hb rb =>
   refine rR (gh _ _ ha) (gh _ _ hb) ?_ λp d=>k _ _ _ _ _ (Out.newL gh d (ra.append rb)) h
   rw[ra.length,rb.length];exact m5 (big c)
theorem AO{xs:List PyData}{n:Int}(g : -(2 ^ 63)<=n)(c:n<2 ^ 63)(d:xs.length * n.toNat<=1000000)(h:R (.own (OL (List.replicate n.toNat xs).flatten))):Op2 rRep (.list xs) (.int n) R:=λG H i j Q gh b a k=>by
 cases a
 cases b with
 | lst ha ra =>
  refine⟨_,n,_,rfl,rfl,gh _ _ ha,g,c,?_,λp f=>k _ _ _ _ _ (Out.newL gh f (ra.rep _)) h⟩
  rw[ra.length];exact m5 (big d)
theorem fM{K:Frag}{xs:List PyData}(h:R (.st (.int xs.length))):OpA (rLen K) [.list xs] R:=λG H vs Q gh rs k=>by
 cases rs with
 | cons r t =>
  cases t
  cases r with
  | lst ha ra =>
   refine oG (gh _ _ ha) ?_
   rw[ra.length]
   exact k _ _ _ _ _ (Out.refl gh (.int _)) h
theorem bR{K:Frag}{xs:List PyData}(h:R (.st (.int xs.length))):OpA (rLen K) [.tuple xs] R:=λG H vs Q gh rs k=>by
 cases rs with
 | cons r t =>
  cases t
  cases r with
  | tup ha ra =>
   refine TL (gh _ _ ha) ?_
   rw[ra.length]
   exact k _ _ _ _ _ (Out.refl gh (.int _)) h
theorem AR{i j:Int}(h:R (.st (.int (if j > i then j else i)))):OpA JB [.int i,.int j] R:=λG H vs Q gh rs k=>by
 obtain rfl:vs=[V.int i,V.int j]:=Rps.ints_inv (ns:=[i,j]) rs
 exact EE (k _ _ _ _ _ (Out.refl gh (.int _)) h)
theorem rJ{i j:Int}(h:R (.st (.int (if j<i then j else i)))):OpA uB [.int i,.int j] R:=λG H vs Q gh rs k=>by
 obtain rfl:vs=[V.int i,V.int j]:=Rps.ints_inv (ns:=[i,j]) rs
 exact PH (k _ _ _ _ _ (Out.refl gh (.int _)) h)
theorem GK{b:Bool}(h:R (.st (.int (if b then 1 else 0)))):OpA TB [.bool b] R:=λG H vs Q gh rs k=>by
 cases rs with
 | cons r t =>
  cases t;cases r
  exact WE (k _ _ _ _ _ (Out.refl gh (.int _)) h)
theorem O9{K:Frag}{ns:List Int}(a:ns ≠ [])(h:∀ m,n6 ns m->R (.st (.int m))):OpA (F7 K) [.list (ns.map .int)] R:=λG H vs Q gh rs k=>by
 cases rs with
 | cons r t =>
  cases t
  cases r with
  | lst ha ra =>
   have:=Rps.ints_inv ra
   subst this
   exact⟨_,ns,rfl,.inl (SqL.of (gh _ _ ha)),a,λm hm=>k _ _ _ _ _ (Out.refl gh (.int _)) (h m hm)⟩
theorem dP{K:Frag}{ns:List Int}{ds:List PyData}(e:ds=ns.map .int)(a:ns ≠ [])(h:∀ m,n6 ns m->R (.st (.int m))):OpA (F7 K) [.tuple ds] R:=λG H vs Q gh rs k=>by
 subst e
 cases rs with
 | cons r t =>
  cases t
  cases r with
  | tup ha ra =>
   have:=Rps.ints_inv ra
   subst this
   exact⟨_,ns,rfl,.inr (SqT.of (gh _ _ ha)),a,λm hm=>k _ _ _ _ _ (Out.refl gh (.int _)) (h m hm)⟩
theorem aO{K:Frag}{ns:List Int}{ds:List PyData}(e:ds=ns.map .int)(a:ns ≠ [])(h:∀ m,zD ns m->R (.st (.int m))):OpA (uA K) [.tuple ds] R:=λG H vs Q gh rs k=>by
 subst e
 cases rs with
 | cons r t =>
  cases t
  cases r with
  | tup ha ra =>
   have:=Rps.ints_inv ra
   subst this
   exact⟨_,ns,rfl,.inr (SqT.of (gh _ _ ha)),a,λm hm=>k _ _ _ _ _ (Out.refl gh (.int _)) (h m hm)⟩
theorem bF{K:Frag}{ns:List Int}{ds:List PyData}(e:ds=ns.map .int)(h:R (.st (.int ns.sum))):OpA (gC K) [.list ds] R:=λG H vs Q gh rs k=>by
 subst e
 cases rs with
 | cons r t =>
  cases t
  cases r with
  | lst ha ra =>
   have:=Rps.ints_inv ra
   subst this
   exact⟨_,ns,rfl,SqL.of (gh _ _ ha),k _ _ _ _ _ (Out.refl gh (.int _)) h⟩
end
section
variable{B:Bs}{env:En}{QO:Sl->En->Prop}{Q':PyData->En->Prop}{te tl th:TE}{K:Frag}
def cutD(xs:List PyData)(lo hi:Option Int):List PyData:=(xs.drop (HT.sIx xs.length 0 lo)).take (HT.sIx xs.length xs.length hi-HT.sIx xs.length 0 lo)
def EvOp(B:Bs)(t:TO)(env:En)(Q':Option Int->En->Prop):Prop:=∀(σ:St)(G H:Hp)(F:Nat->Addr->Prop)(Q:Option Int->Hp->Prop),VI B G H σ env F->(∀ o G' H' F' env',VI B G' H' σ env' F'->Same G G'->Q' o env'->Q o H')->t σ H Q
theorem rO{a:Option Int->En->Prop}(q:a none env):EvOp B LG env a:=λσ G H F Q I k=>k none G H F env I (Same.refl _) q
theorem oR{a:Option Int->En->Prop}(h:Ev B te env λd e=>∃ i,d=.int i/\a (some i) e):EvOp B (UE te) env a:=λσ G H F Q I k =>
 h σ G H F _ I λv o m f d n b g c l=>by
  obtain⟨i,j,q⟩:=l
  subst j;cases c
  exact⟨i,rfl,k _ o m f n b g q⟩
theorem bQ{i:Int}{R:Int->Prop}(h:R i):∃ j,PyData.int i=.int j/\R j:=⟨i,rfl,h⟩
theorem qE{tl j:TO}(h:Ev B te env λd l=>∃ ds,d=.list ds/\EvOp B tl l λlo e2=>EvOp B j e2 λhi f=>QO (.own (OL (cutD ds lo hi))) f):EvO B (tSl (rSlL K) te tl j) env QO:=λσ G H F Q I k =>
 h σ G H F _ I λv A x q d l m r n w=>by
  obtain⟨ds,s,u⟩:=w
  subst s
  cases n with
  | @lst a vs _ ha rs =>
   refine u σ A x q _ m λlo D H2 F2 e2 E c y=>y σ D H2 F2 _ E λhi L H3 C f b i J=>?_
   have g:=rs.same (c.trans i)
   refine⟨a,vs,rfl,SqL.of (b.gh _ _ (i _ _ (c _ _ ha))),λp z=>?_⟩
   have e:cutV vs lo hi=(vs.drop (HT.sIx ds.length 0 lo)).take (HT.sIx ds.length ds.length hi-HT.sIx ds.length 0 lo):=by unfold cutV;rw[rs.length]
   have o:=Out.newL (xs:=cutV vs lo hi) (ds:=cutD ds lo hi) b.gh z (by rw[e];exact(g.drop _).take _)
   exact k _ _ _ C _ _ f (b.out o).1 (r.trans (c.trans (i.trans o.gg))) (b.out o).2 J
theorem cM{tl c:TO}(h:Ev B te env λd a=>∃ ds,d=.list ds/\EvOp B tl a λlo e2=>EvOp B c e2 λhi i=>Q' (.list (cutD ds lo hi)) i):Ev B (tSl (rSlL K) te tl c) env Q':=F3 (qE (by
 intro σ G H F Q I k
 refine h σ G H F Q I λv G' H' F' d a f j g ⟨ds,l,q⟩=>k v G' H' F' d a f j g ⟨ds,l,?_⟩
 intro σ G H F Q I k
 refine q σ G H F Q I λlo G' H' F' e b g' q=>k lo G' H' F' e b g' ?_
 intro σ G H F Q I k
 exact q σ G H F Q I λhi G' H' F' e b g' q=>k hi G' H' F' e b g' (W4 q)))
end
def U8:PyData->Bool
 | .none | .bool _ | .int _ | .str _=>true
 |_=>false
theorem OF{G G':Hp}{v:V}{d:PyData}(r:Rp G v d)(h:U8 d=true):Rp G' v d:=by
 cases r with
 |non=>exact .non
 |bl b=>exact .bl b
 |int i=>exact .int i
 |str x=>exact .str x
 |_=>simp[U8] at h
def Has(env:En)(i:Nat)(A:Own):Prop:=env[i]?=some (some (.own A))\/env[i]?=some (some (.io A))
section
variable{B:Bs}{env:En}{QO:Sl->En->Prop}{Q':PyData->En->Prop}{QT:Bool->En->Prop}{QE:En->Prop}{te ta tb tk:TE}{K:Frag}{i:Nat}
theorem VI.has{G H:Hp}{σ:St}{F:Nat->Addr->Prop}{A:Own}(I:VI B G H σ env F)(h:Has env i A):∃ v,σ[i]?=some (some v)/\A.P G H v (F i):=by
 rcases h with h|h
 ·obtain⟨v,a,q⟩:=I.sl i _ h;exact⟨v,a,q.1⟩
 ·obtain⟨v,a,q⟩:=I.sl i _ h;exact⟨v,a,q.1⟩
theorem VI.moment{G c d H H3:Hp}{σ:St}{F:Nat->Addr->Prop}{v:V}{s:Sl}{Fv:Addr->Prop}(I:VI B G H σ env F)(i:Same G c)(o:Out c H v d H3 s Fv):∃ f,Same G f/\VI B f H3 σ env F:=by
 refine⟨λa=>if H a=none then d a else G a,λa u e=>?_,I.grow (λa u e=>?_) (λa u e=>?_) o.hh (λa u e=>?_) λa b e=>?_⟩
 ·show(if H a=none then d a else G a)=some u;rw[y0 (by rw[I.gh a u e];simp)];exact e
 ·rw[y0 (by rw[I.gh a u e];simp)];exact e
 ·by_cases h:H a=none
  ·rw[t0 h] at e;exact o.gh a u e
  ·rw[y0 h] at e;exact o.hh _ _ (I.gh a u e)
 ·by_cases h:H a=none
  ·exact .inr h
  ·rw[y0 h] at e;exact .inl e
 ·have j:FT c H:=λa b e=>i _ _ (I.ft a b e)
  by_cases h:H a=none
  ·rw[t0 h];exact o.ft j a b e
  ·rw[y0 h]
   obtain⟨u,g⟩:=kN h
   have:=o.hh _ _ g
   rw[e] at this
   exact I.ft a b (by rw[g,← this])
theorem qI{r:R2}{m:Own}(D:Has env i m)(h:Ev B tb env λy e2=>∃ A dx,Has e2 i A/\Frz A dx/\Op2 r dx y λs=>∃ d,s=.st d/\U8 d=true/\Q' d e2):Ev B (tOp r (tVar i) tb) env Q':=λσ G H F Q I k=>by
 obtain⟨v,c,_⟩:=I.has D
 refine⟨v,c,h σ G H F _ I λu x H2 F2 y e2 a f g ⟨A,dx,n,l,p⟩=>?_⟩
 obtain⟨E,b,ap⟩:=a.has n
 rw[c] at b;cases b
 refine p (jn x H2 (F2 i)) H2 v u Q (CB a.gh) (l _ _ _ _ ap (a.fg i) a.gh) (g.same (p4 (a.fg i))) λw J H3 s Fv o ⟨d,es,hs,C⟩=>?_
 subst es
 obtain⟨q,j,z⟩:=a.moment (p4 (a.fg i)) o
 exact k w q H3 F2 d e2 z (f.trans j) (OF o.ok.1 hs) C
theorem x_sc{d:PyData}{R:PyData->Prop}(a:U8 d=true)(h:R d):∃ d',Sl.st d=.st d'/\U8 d'=true/\R d':=⟨d,rfl,a,h⟩
theorem fK{g:List PyData}(A:Has env i (OL g))(h:Ev B tb env λy e2=>∃ ds k d,Has e2 i (OL ds)/\y=.int k/\V0 ds k=some d/\Q' d e2):Ev B (tOp (V5 K) (tVar i) tb) env Q':=λσ G H F Q I k=>by
 obtain⟨v,l,_⟩:=I.has A
 refine⟨v,l,h σ G H F _ I λu x H2 F2 y e2 m n o ⟨ds,j,d,r,s,f,q⟩=>?_⟩
 subst s
 cases o
 obtain⟨C,b,a,vs,p,ha,rs,_⟩:=m.has r
 rw[l] at b;cases b
 subst p
 obtain⟨w,z,c⟩:=rs.at f
 exact oB ha z (k w x H2 F2 d e2 m n c q)
theorem VI.upd1{G H:Hp}{σ:St}{F:Nat->Addr->Prop}{s:Sl}{A A':Own}{a:Addr}{o:HO}(I:VI B G H σ env F)(e:env[i]?=some (some s))(hs:s=.own A\/s=.io A)(g : σ[i]?=some (some (.ref a)))(hf:∀ b,F i b ↔ b=a)(f:A'.P G (upd H a o) (.ref a) (· = a))(d:∀ xs,o ≠ .tup xs:=by intro _ z;cases z) :
  VI B G (upd H a o) σ (env.set i (some (reS s A'))) (putF F i (· = a)):=by
 refine I.change (A:=A') i e g (λb u hb c=>by rw[z0 (λz=>hb ((hf b).mpr z))];exact c) (λb u c=>?_) (λb z=>⟨.inl ((hf b).mpr z),by rw[z];exact⟨_,K0⟩⟩) f (λb h e=>?_) ?_
 ·by_cases z:b=a
  ·rw[z];exact⟨_,K0⟩
  ·rw[z0 z];exact⟨u,c⟩
 ·by_cases z:b=a
  ·subst z;rw[K0] at e;exact absurd (M3 e) (d _)
  ·rw[z0 z] at e;exact I.ft b h e
 ·rcases hs with rfl|rfl
  ·exact .inl ⟨rfl,A,rfl⟩
  ·exact .inr ⟨rfl,A,rfl⟩
theorem RR{l:List PyData}(z:Has env i (OL l))(h:Ev B te env λy e2=>∃ s ds,e2[i]?=some (some s)/\(s=.own (OL ds)\/s=.io (OL ds))/\ds.length<=999999/\Q' .none (e2.set i (some (reS s (OL (ds++[y])))))):Ev B (tBM K "list" o9 (tVar i) (X1 te tNil)) env Q':=λσ G H F Q I k=>by
 obtain⟨v,j,a,vs,p,ha,rs,_⟩:=I.has z
 subst p
 refine⟨_,j,.inl ⟨rfl,_,SqL.of ha⟩,h σ G H F _ I λu x H2 F2 y e2 m n o ⟨s,ds,es,hs,D,q⟩=>?_⟩
 have r:Has e2 i (OL ds):=by rcases hs with rfl|rfl;exact .inl es;exact .inr es
 obtain⟨C,c,A,w,f,g,d,hf⟩:=m.has r
 rw[j] at c;cases c;cases f
 refine ZA g (by rw[d.length];exact big (by lia)) ?_
 exact k _ x _ _ _ _ (m.upd1 (A':=OL (ds++[y])) es hs j hf ⟨a,_,rfl,K0,d.append (.cons o .nil),λb=>Iff.rfl⟩) n .non q
theorem HP{a:List PyData}(f:Has env i (OL a))(h:Ev B te env λy e2=>∃ ds,e2[i]?=some (some (.own (OL ds)))/\ds.length<=999999/\Q' .none (e2.set i (some (.own (OL (ds++[y])))))):Ev B (tBM K "list" o9 (tVar i) (X1 te tNil)) env Q' :=
 RR f λσ G H F Q I k=>h σ G H F Q I λv G' H' F' d e b g r ⟨ds,j,c,q⟩=>k v G' H' F' d e b g r ⟨_,ds,j,.inl rfl,c,q⟩
theorem pK{l:List PyData}(x:Has env i (OL l))(h:Ev B te env λy e2=>∃ ds ys,y=.list ys/\e2[i]?=some (some (.own (OL ds)))/\ds.length+ys.length<=1000000/\Q' .none (e2.set i (some (.own (OL (ds++ys)))))):Ev B (tBM K "list" RD (tVar i) (X1 te tNil)) env Q':=λσ G H F Q I k=>by
 obtain⟨v,j,a,vs,p,ha,rs,_⟩:=I.has x
 subst p
 refine⟨_,j,.inl ⟨rfl,_,SqL.of ha⟩,h σ G H F _ I λu w H2 F2 y e2 m n o ⟨ds,ys,s,es,z,q⟩=>?_⟩
 subst s
 cases o with
 | lst hb rb =>
  obtain⟨C,c,A,r,f,g,d,hf⟩:=m.has (.inl es)
  rw[j] at c;cases c;cases f
  refine FJ g (m.gh _ _ hb) (by rw[d.length,rb.length];exact m5 (big z)) ?_
  exact k _ w _ _ _ _ (m.upd1 (A':=OL (ds++ys)) es (.inl rfl) j hf ⟨a,_,rfl,K0,d.append rb,λb=>Iff.rfl⟩) n .non q
theorem DP{d:PyData}{o:List PyData}(L:Has env i (OL o))(h:Ev B tk env λy e2=>∃ s ds k j,y=.int k/\e2[i]?=some (some s)/\(s=.own (OL ds)\/s=.io (OL ds))/\ixN ds.length k=some j/\QE (e2.set i (some (reS s (OL (ds.set j d)))))):EvG B (gSub (tVar i) tk sD) (.st d) env QE:=λσ G H F v Fv Q I x k=>by
 obtain⟨E,_⟩:=x.ok
 obtain⟨O,m,a,vs,z,ha,rs,_⟩:=I.has L
 subst z
 refine⟨_,m,h σ G H F _ I λu K H2 F2 y e2 r p w ⟨s,ds,n,j,D,es,hs,J,q⟩=>?_⟩
 subst D
 cases w
 have A:Has e2 i (OL ds):=by rcases hs with rfl|rfl;exact .inl es;exact .inr es
 obtain⟨N,c,M,C,g,l,f,hf⟩:=r.has A
 rw[m] at c;cases c;cases g
 refine qG l (by rw[f.length];exact J) ?_
 exact k _ K _ _ _ (r.upd1 (A':=OL (ds.set j d)) es hs m hf ⟨a,_,rfl,K0,f.set (E.same p) j,λb=>Iff.rfl⟩) p q
theorem fF{t:TS}{D':VEnds}{A:Own}{d:PyData}(i:Nat)(e:env[i]?=some (some (.own A)))(f:Frz A d)(h:EvS B t D' (env.set i (some (.st d)))):EvS B t D' env:=λσ G H F D I r=>by
 obtain⟨v,b,a,g,J⟩:=I.frz e f
 exact h σ _ H _ D J (r.later g)
end
def tyD:PyData->String
 | .none=>"NoneType" | .bool _=>"bool" | .int _=>"int" | .str _=>"str" | .list _=>"list" | .tuple _=>"tuple" | .dict _=>"dict"
def r9(T:String):Prop:=T = "int"\/T = "bool"\/T = "tuple"\/T = "list"\/T = "str"\/T = "dict"
def isiD(T:String)(d:PyData):Bool:=tyD d == T || (T == "int" && tyD d == "bool")
theorem DR{K:Frag}{H:Hp}{v:V}{d:PyData}(r:Rp H v d):TyOf K H v (.type (tyD d)):=by
 cases r with
 |non=>exact .non
 |bl b=>exact .bl b
 |int i=>exact .int i
 |str x=>exact .str x
 |lst h _=>exact .lst h
 |tup h _=>exact .tup h
 |dk h _ _=>exact .dK h
 |dt h _ _=>exact .dT h
theorem SK{K:Frag}{T:String}(h:r9 T)(d:PyData):kitOne K (.type (tyD d)) (.type T)=some (isiD T d):=by
 rcases h with rfl|rfl|rfl|rfl|rfl|rfl
 ·cases d with
  |none=>exact KR
  |bool _=>exact qQ
  |int _=>exact CQ
  |str _=>exact HM
  |list _=>exact lO
  |tuple _=>exact OQ
  |dict _=>exact yP
 ·cases d with
  |none=>exact BM
  |bool _=>exact uP
  |int _=>exact fJ
  |str _=>exact pQ
  |list _=>exact NN
  |tuple _=>exact KP
  |dict _=>exact FI
 ·cases d with
  |none=>exact WI
  |bool _=>exact ZM
  |int _=>exact HI
  |str _=>exact sN
  |list _=>exact wR
  |tuple _=>exact DJ
  |dict _=>exact nP
 ·cases d with
  |none=>exact kK
  |bool _=>exact NJ
  |int _=>exact DK
  |str _=>exact LR
  |list _=>exact wK
  |tuple _=>exact iL
  |dict _=>exact MM
 ·cases d with
  |none=>exact SL
  |bool _=>exact cN
  |int _=>exact RP
  |str _=>exact dQ
  |list _=>exact QR
  |tuple _=>exact RK
  |dict _=>exact FP
 ·cases d with
  |none=>exact cR
  |bool _=>exact HN
  |int _=>exact JJ
  |str _=>exact rL
  |list _=>exact uS
  |tuple _=>exact IR
  |dict _=>exact oP
section
variable{B:Bs}{env:En}{QO:Sl->En->Prop}{Q':PyData->En->Prop}{QT:Bool->En->Prop}{QE:En->Prop}{te ta tb tk:TE}{K:Frag}{i:Nat}
theorem GP{T:String}(m:r9 T)(h:Ev B te env λd e=>Q' (.bool (isiD T d)) e):Ev B (tCB (rIsi K) (X1 te (X1 (tC (.ty T)) tNil))) env Q':=λσ G H F Q I k =>
 h σ G H F _ I λv l i c d j a f b g=>⟨v,T,_,_,rfl,DR (b.same a.gh),SK m d,k _ l i c _ j a f (.bl _) g⟩
theorem II:r9 "int":=.inl rfl
theorem XN:r9 "bool":=.inr (.inl rfl)
theorem XM:r9 "tuple":=.inr (.inr (.inl rfl))
theorem IN:r9 "list":=.inr (.inr (.inr (.inl rfl)))
theorem qK{A:Own}{D':VEnds}(e:env[i]?=some (some (.own A)))(q:D'.rt (.own A) (env.set i none)):EvS B (tRet (tVar i)) D' env:=dI (L8 e q)
theorem mO{n m:Nat}{P:Prop}(h:n<=m)(q:P):n<=m/\P:=⟨h,q⟩
theorem dR{ds:List PyData}{e2:En}{R:List PyData->Prop}(e:e2[i]?=some (some (.own (OL ds))))(a:ds.length<=999999)(q:R ds):∃ ds,e2[i]?=some (some (.own (OL ds)))/\ds.length<=999999/\R ds:=⟨ds,e,a,q⟩
theorem gJ{ds:List PyData}{d:PyData}{k:Int}{e2:En}{R:PyData->Prop}(b:Has e2 i (OL ds))(h:V0 ds k=some d)(q:R d):∃ ds a d,Has e2 i (OL ds)/\PyData.int k=.int a/\V0 ds a=some d/\R d:=⟨ds,k,d,b,rfl,h,q⟩
theorem aD{ds:List PyData}{k:Int}{j:Nat}{e2:En}{R:Sl->List PyData->Nat->Prop}(e:e2[i]?=some (some (.own (OL ds))))(b:ixN ds.length k=some j)(q:R (.own (OL ds)) ds j):∃ s ds a j,PyData.int k=.int a/\e2[i]?=some (some s)/\(s=.own (OL ds)\/s=.io (OL ds))/\ixN ds.length a=some j/\R s ds j:=⟨_,ds,k,j,rfl,e,.inl rfl,b,q⟩
theorem x_rt{A:Own}{e2:En}{R:Own->Prop}(e:e2[0]?=some (some (.io A)))(q:R A):∃ A',e2[0]?=some (some (.io A'))/\R A':=⟨A,e,q⟩
theorem x_st{b:Bool}{R:Bool->Prop}(h:R b):∃ c,Sl.st (.bool b)=.st (.bool c)/\R c:=⟨b,rfl,h⟩
theorem zP{ds:List PyData}{R:Bool->Prop}(h:R (!ds.isEmpty)):∃ k,TruD (.list ds) k/\R k:=⟨_,rfl,h⟩
theorem lenP{f:VP}{n:Nat}{vs:List V}{H:Hp}{Q:VK}{E:XK}(h:spP K f vs H Q E)(hf:∀ ss Q',f ss Q'->ss.length=n):vs.length=n:=by
 obtain⟨G,ss,Q',_,_,a,q,_⟩:=h
 rw[a.length];exact hf ss Q' q
theorem lenI{f:VIo}{n:Nat}{vs:List V}{H:Hp}{Q:VK}{E:XK}(h:spI K f vs H Q E)(hf:∀ A ss Q',f A ss Q'->ss.length+1=n):vs.length=n:=by
 obtain⟨v0,b,G,R,A,ss,F0,Q',rfl,_,_,_,_,_,_,a,q,_⟩:=h
 rw[W3,a.length];exact hf A ss Q' q
theorem DF{f:VIo}{t:TA}{E:XK}{A:Own}(c:env[i]?=some (some (.io A)))(h:EvA B t env λds a=>a[i]?=some (some (.io A))/\f A (ds.map Sl.st) λA' s=>QO s (a.set i (some (.io A')))):EvO B (o3 (spI K f) [] E (X1 (tVar i) t)) env QO :=
 fC ⟨_,c⟩ λσ G H F Q I k=>h σ G H F Q I λvs G' H' F' ds a b g r ⟨d,q⟩=>k vs G' H' F' ds a b g r ⟨_,A,d,.inr rfl,q⟩
theorem GH{f:VIo}{t:TA}{E:XK}{A:Own}(c:env[i]?=some (some (.own A)))(h:EvA B t env λds a=>a[i]?=some (some (.own A))/\f A (ds.map Sl.st) λA' s=>QO s (a.set i (some (.own A')))):EvO B (o3 (spI K f) [] E (X1 (tVar i) t)) env QO :=
 fC ⟨_,c⟩ λσ G H F Q I k=>h σ G H F Q I λvs G' H' F' ds a b g r ⟨d,q⟩=>k vs G' H' F' ds a b g r ⟨_,A,d,.inl rfl,q⟩
theorem sE{f:VIo}{t:TA}{E:XK}{A:Own}(b:env[i]?=some (some (.io A)))(h:EvA B t env λds a=>a[i]?=some (some (.io A))/\f A (ds.map Sl.st) λA' s=>FQ s λd=>Q' d (a.set i (some (.io A')))):Ev B (o3 (spI K f) [] E (X1 (tVar i) t)) env Q':=F3 (DF b h)
theorem WL{f:VIo}{t:TA}{E:XK}{A:Own}(b:env[i]?=some (some (.own A)))(h:EvA B t env λds a=>a[i]?=some (some (.own A))/\f A (ds.map Sl.st) λA' s=>FQ s λd=>Q' d (a.set i (some (.own A')))):Ev B (o3 (spI K f) [] E (X1 (tVar i) t)) env Q':=F3 (GH b h)
theorem wQ{P Q:Prop}(h:P)(q:Q):P/\Q:=⟨h,q⟩
theorem ON{src:List (Option Nat)}{j:TI}{g:TG}{f:TT}(nd:(src.filterMap id).Nodup)(h:EvI B j env λds i=>LcV B.K src g f te ds i λys e2=>Q' (.list ys) e2):Ev B (tLC src j g f te) env Q':=F3 (ME nd λσ G H F R I k=>h σ G H F R I λJ G' H' F' ds i m g' it ⟨l,a,b,c,d⟩=>k J G' H' F' ds i m g' it ⟨l,a,b,c,λys e q=>W4 (d ys e q)⟩)
end
end VL
namespace VL
open PySem L2
section
variable{B:Bs}{QE:En->Prop}{Q':PyData->En->Prop}{s:Sl}{r:En}{A:Own}{d:PyData}{x0 x1 x2 x3 x4 x5 x6 x7 x8 x9 x10 x11 x12 x13 x14 x15 x16 x17 x18 x19 x20 x21 x22 x23 x24 x25:Option Sl}
theorem yO(h:QE (x0::some s::r)):EvG B (D3 1) s (x0::x1::r) QE:=L4 h
theorem sI(h:QE (x0::x1::some s::r)):EvG B (D3 2) s (x0::x1::x2::r) QE:=L4 h
theorem PN(h:QE (x0::x1::x2::some s::r)):EvG B (D3 3) s (x0::x1::x2::x3::r) QE:=L4 h
theorem BI(h:QE (x0::x1::x2::x3::some s::r)):EvG B (D3 4) s (x0::x1::x2::x3::x4::r) QE:=L4 h
theorem jK(h:QE (x0::x1::x2::x3::x4::some s::r)):EvG B (D3 5) s (x0::x1::x2::x3::x4::x5::r) QE:=L4 h
theorem iK(h:QE (x0::x1::x2::x3::x4::x5::some s::r)):EvG B (D3 6) s (x0::x1::x2::x3::x4::x5::x6::r) QE:=L4 h
theorem lS(h:QE (x0::x1::x2::x3::x4::x5::x6::some s::r)):EvG B (D3 7) s (x0::x1::x2::x3::x4::x5::x6::x7::r) QE:=L4 h
theorem XJ(h:QE (x0::x1::x2::x3::x4::x5::x6::x7::some s::r)):EvG B (D3 8) s (x0::x1::x2::x3::x4::x5::x6::x7::x8::r) QE:=L4 h
theorem WJ(h:QE (x0::x1::x2::x3::x4::x5::x6::x7::x8::some s::r)):EvG B (D3 9) s (x0::x1::x2::x3::x4::x5::x6::x7::x8::x9::r) QE:=L4 h
end
end VL
namespace Gr
structure Ring(T:Int->Int->Prop)(a:Int)(k:Nat)(far:Int->Option Nat)(edge:List Int):Prop where
 lab:∀ v d,far v=some d ↔ (Dist T a v d/\d<=k)
 edg:∀ v,v∈edge ↔ Dist T a v k
structure Mid(T:Int->Int->Prop)(k:Nat)(far0:Int->Option Nat)(edge:List Int)(done:Int->Prop)(far:Int->Option Nat)(beyond:List Int):Prop where
 old:∀ v d,far0 v=some d->far v=some d
 new:∀ v,v∈beyond ↔ (far0 v=none/\far v ≠ none)
 val:∀ v d,far0 v=none->far v=some d->d=k+1/\∃ u,u∈edge/\T u v
 dn:∀ u w,done u->T u w->far w ≠ none
def label(far:Int->Option Nat)(w:Int)(d:Nat):Int->Option Nat:=λv=>if v=w then some d else far v
theorem label_same{far:Int->Option Nat}{w:Int}{d:Nat}:label far w d w=some d:=t0 rfl
theorem label_ne{far:Int->Option Nat}{w v:Int}{d:Nat}(h:v ≠ w):label far w d v=far v:=y0 h
variable{T:Int->Int->Prop}{a:Int}{k:Nat}{far0 far:Int->Option Nat}{edge beyond:List Int}{done:Int->Prop}
theorem Ring.start:Ring T a 0 (label (λ_=>none) a 0) [a]:=by
 refine⟨λv d=>?_,λv=>?_⟩
 ·by_cases h:v=a
  ·subst h
   rw[label_same]
   constructor
   ·intro e;cases e;exact⟨Dist.self T v,N0 _⟩
   ·rintro⟨h,_⟩;rw[h.uniq (Dist.self T v)]
  ·rw[label_ne h]
   constructor
   ·intro e;cases e
   ·rintro⟨b,c⟩
    have:d=0:=by lia
    subst this
    cases b.1
    exact absurd rfl h
 ·simp only[N2]
  constructor
  ·rintro rfl;exact Dist.self T v
  ·intro h;cases h.1;rfl
theorem Mid.start:Mid T k far0 edge (λ_=>False) far0 [] :=
 ⟨λv d h=>h,λv=>⟨λh=>by simp at h,λh=>absurd h.1 h.2⟩,λv d h g=>(by rw[h] at g;cases g),λu w h=>h.elim⟩
theorem Mid.add(m:Mid T k far0 edge done far beyond){u w:Int}(i:u∈edge)(t:T u w)(a:far w=none):Mid T k far0 edge done (label far w (k+1)) (beyond++[w]):=by
 have b:far0 w=none:=by
  cases e:far0 w with
  |none=>rfl
  |some d=>rw[m.old w d e] at a;cases a
 refine⟨λv d h=>?_,λv=>?_,λv d h g=>?_,λx y f c=>?_⟩
 ·rw[label_ne (by rintro rfl;rw[b] at h;cases h)];exact m.old v d h
 ·by_cases hv:v=w
  ·subst hv
   simp[label_same,b]
  ·rw[label_ne hv]
   simp only[E1,N2,hv,or_false]
   exact m.new v
 ·by_cases hv:v=w
  ·subst hv
   rw[label_same] at g
   cases g
   exact⟨rfl,u,i,t⟩
  ·rw[label_ne hv] at g
   exact m.val v d h g
 ·by_cases hv:y=w
  ·subst hv;rw[label_same];simp
  ·rw[label_ne hv];exact m.dn x y f c
theorem Mid.did(m:Mid T k far0 edge done far beyond){u:Int}(h:∀ w,T u w->far w ≠ none):Mid T k far0 edge (λx=>done x\/x=u) far beyond :=
 ⟨m.old,m.new,m.val,λx w a t=>by rcases a with a|rfl;exact m.dn x w a t;exact h w t⟩
theorem Mid.imp{a:Int->Prop}(m:Mid T k far0 edge done far beyond)(h:∀ u,a u->done u):Mid T k far0 edge a far beyond :=
 ⟨m.old,m.new,m.val,λx w b t=>m.dn x w (h x b) t⟩
theorem Ring.next(r:Ring T a k far0 edge)(m:Mid T k far0 edge done far beyond)(hd:∀ u∈edge,done u):Ring T a (k+1) far beyond:=by
 have f:∀ v,far0 v=none->far v ≠ none->Dist T a v (k+1):=λv c b=>by
  cases e:far v with
  |none=>exact absurd e b
  | some d =>
   obtain⟨rfl,u,j,t⟩:=m.val v d c e
   obtain⟨i,o,h⟩:=((r.edg u).mp j).next t
   by_cases g:i<=k
   ·rw[(r.lab v i).mpr ⟨h,g⟩] at c;cases c
   ·have:i=k+1:=by lia
    rw[← this];exact h
 have back:∀ v,Dist T a v (k+1)->far0 v=none/\far v ≠ none:=λv h=>by
  refine⟨?_,?_⟩
  ·cases e:far0 v with
   |none=>rfl
   | some d =>
    obtain⟨b,n⟩:=(r.lab v d).mp e
    have:=b.uniq h
    lia
  ·obtain⟨u,t,j⟩:=h.pred
   exact m.dn u v (hd u ((r.edg u).mpr j)) t
 refine⟨λv d=>?_,λv=>⟨λh=>?_,λh=>(m.new v).mpr (back v h)⟩⟩
 ·constructor
  ·intro e
   cases e0:far0 v with
   | some d0 =>
    rw[m.old v d0 e0] at e
    cases e
    obtain⟨b,n⟩:=(r.lab v d).mp e0
    exact⟨b,by lia⟩
   | none =>
    have g:=(m.val v d e0 e).1
    subst g
    exact⟨f v e0 (by rw[e];simp),N0 _⟩
  ·rintro⟨h,g⟩
   by_cases hd':d<=k
   ·exact m.old v d ((r.lab v d).mpr ⟨h,hd'⟩)
   ·have l:d=k+1:=by lia
    subst l
    obtain⟨c,b⟩:=back v h
    cases e:far v with
    |none=>exact absurd e b
    |some d=>rw[(m.val v d c e).1]
 ·obtain⟨c,b⟩:=(m.new v).mp h
  exact f v c b
theorem Dist.down{v:Int}:∀{d:Nat},Dist T a v d->∀ j,j<=d->∃ u,Dist T a u j
 |0,h,j,hj=>⟨v,by rw[show j=0 by lia];exact h⟩
 | d+1,h,j,hj=>by
  by_cases e:j=d+1
  ·rw[e];exact⟨v,h⟩
  ·obtain⟨u,_,b⟩:=h.pred
   exact Dist.down b j (by lia)
def farO(T:Int->Int->Prop)(a v:Int):Option Nat:=open Classical in if h:∃ d,Dist T a v d then some (Classical.choose h) else none
theorem farO_some{v:Int}{d:Nat}:farO T a v=some d ↔ Dist T a v d:=by
 unfold farO
 constructor
 ·intro h
  split at h
  ·rename_i b
   cases h
   exact Classical.choose_spec b
  ·cases h
 ·intro h
  have b:∃ d,Dist T a v d:=⟨d,h⟩
  rw[dif_pos b,(Classical.choose_spec b).uniq h]
theorem farO_none{v:Int}:farO T a v=none ↔ ∀ d,¬ Dist T a v d:=by
 constructor
 ·intro h d hd
  rw[farO_some.mpr hd] at h;cases h
 ·intro h
  cases e:farO T a v with
  |none=>rfl
  |some d=>exact absurd (farO_some.mp e) (h d)
theorem BJ{v:Int}{o:Option Nat}(h:∀ d,o=some d ↔ Dist T a v d):o=farO T a v:=by
 cases o with
 |some d=>exact(farO_some.mpr ((h d).mp rfl)).symm
 |none=>exact(farO_none.mpr λd hd=>by cases (h d).mpr hd).symm
theorem Ring.fin(r:Ring T a k far0 [])(v:Int):far0 v=farO T a v:=by
 refine BJ λd=>?_
 rw[r.lab]
 refine⟨λh=>h.1,λh=>⟨h,?_⟩⟩
 apply MA
 intro c
 obtain⟨u,b⟩:=h.down k (by lia)
 have:=(r.edg u).mpr b
 simp at this
theorem Walk.app{u v w:Int}{i j:Nat}(h:Walk T u i v)(g:Walk T v j w):Walk T u (i+j) w:=by
 induction g with
 |refl=>exact h
 |step _ t ih=>exact .step ih t
theorem Walk.rev(hs:∀ u v,T u v->T v u){u v:Int}{i:Nat}(h:Walk T u i v):Walk T v i u:=by
 induction h with
 |refl=>exact .refl
 | @step j x y _ t ih =>
  have:=(Walk.step (T:=T) (u:=y) .refl (hs _ _ t)).app ih
  rw[Nat.add_comm] at this
  exact this
theorem farO_self:farO T a a=some 0:=farO_some.mpr (Dist.self T a)
end Gr
namespace VL
open PySem PySem.Spec L2
theorem nodup_ix{α:Type}{xs:List α}(h:xs.Nodup){i j:Nat}(hi:i<xs.length)(a:j<xs.length)(e:xs[i]=xs[j]):i=j:=by
 have p:=u8.mp h
 rcases Nat.lt_trichotomy i j with q|q|q
 ·exact absurd e (p i j hi a q)
 ·exact q
 ·exact absurd e.symm (p j i a hi q)
def OLL(dss:List (List PyData)):Own where
 P:=λG H v F=>∃(a:Addr)(as:List Addr),v=.ref a/\H a=some (.lst (as.map V.ref))/\as.Nodup/\a ∉ as/\as.length=dss.length/\(∀(i:Nat) b ds,as[i]?=some b->dss[i]?=some ds->∃ vs,H b=some (.lst vs)/\Rps G vs ds)/\∀ b,F b ↔ b=a\/b∈as
 mono:=λ⟨a,as,e,h,n1,n2,l,r,f⟩ g hh=>⟨a,as,e,hh a _ ((f a).mpr (.inl rfl)) h,n1,n2,l,λi b ds hb hd=>by
  obtain⟨vs,h1,h2⟩:=r i b ds hb hd
  exact⟨vs,hh b _ ((f b).mpr (.inr (v2 hb))) h1,h2.same g⟩,f⟩
 dom:=λ⟨a,as,e,h,n1,n2,l,r,f⟩ b z=>by
  rcases(f b).mp z with rfl|z
  ·exact⟨_,h⟩
  ·obtain⟨i,hi,e⟩:=V9.mp z
   have hb:as[i]?=some b:=by rw[X0 hi,e]
   obtain⟨vs,h1,_⟩:=r i b _ hb (X0 (by rw[← l];exact hi))
   exact⟨_,h1⟩
theorem bC{G:Hp}:∀{vs:List V}{ds:List PyData},vs.length=ds.length->(∀(i:Nat) v d,vs[i]?=some v->ds[i]?=some d->Rp G v d)->Rps G vs ds
 |[],[],_,_=>.nil
 |[],_::_,h,_=>by simp at h
 |_::_,[],h,_=>by simp at h
 |v::vs,d::ds,h,k=>.cons (k 0 v d rfl rfl) (bC (by simpa using h) λi v d b a=>k (i+1) v d (by simpa using b) (by simpa using a))
theorem ZB{c:List (List PyData)}:Frz (OLL c) (.list (c.map .list)):=λG H v F ⟨a,as,e,h,p,q,l,r,f⟩ n g=>by
 subst e
 refine .lst (by rw[J5 ((f a).mpr (.inl rfl))];exact h) (bC (by simp[l]) λi u d j hd=>?_)
 rw[o1] at j hd
 cases hb:as[i]? with
 |none=>rw[hb] at j;cases j
 | some b =>
  cases hds:c[i]? with
  |none=>rw[hds] at hd;cases hd
  | some ds =>
   rw[hb] at j;rw[hds] at hd
   cases j;cases hd
   obtain⟨vs,m,o⟩:=r i b ds hb hds
   exact .lst (by rw[J5 ((f b).mpr (.inr (v2 hb)))];exact m) (o.same (p4 n))
section
variable{B:Bs}{env:En}{QO:Sl->En->Prop}{Q':PyData->En->Prop}{D':VEnds}{K:Frag}{i:Nat}
theorem iJ{a:List (List PyData)}{R:PyData->Prop}(h:R (.list (a.map .list))):FQ (.own (OLL a)) R:=⟨_,ZB,h⟩
theorem ZQ{src:List (Option Nat)}{wi:TI}{j:Nat}(h:EvI B wi env λds R=>ds.length<=1000000/\QO (.own (OLL (List.replicate ds.length []))) R):EvO B (tLC src wi (D3 j) tYes (tLst tNil)) env QO:=λσ G H F Q I k=>by
 refine h σ G H F _ I λJ X L F1 ds R s g1 it ⟨a1,q⟩ c d=>?_
 let W:Nat->List V->Hp->Prop:=λn ys H=>∃(as:List Addr)(g:Hp),ys=as.map V.ref/\as.length=n/\as.Nodup/\c ∉ as/\(∀ b∈as,L b=none/\g b=none/\H b=some (.lst []))/\H c=some (.lst ys)/\g c=none/\Same X g/\Same g H/\Same L H/\(∀ a o,g a=some o->X a=some o\/L a=none)/\FT g H
 refine⟨λn m ys σI H=>m=ds.length-n/\n<=ds.length/\W n ys H,⟨ds.length,by simp,Y3 _,[],X,rfl,rfl,List.nodup_nil,by simp,λb hb=>by simp at hb,K0,s.no_g d,Same.refl _,s.gh.trans (R4 d),R4 d,λa o e=>.inl e,λa N e=>?_⟩,?_⟩
 ·by_cases z:a=c
  ·subst z;rw[K0] at e;cases e
  ·rw[z0 z] at e;exact s.ft a N e
 rintro n m ys σI H2 ⟨rfl,hn,as,g,rfl,Y,nd,na,all,f,ga,A,l,r,E,v⟩
 refine⟨f,?_⟩
 by_cases hlt:n<ds.length
 ·refine .inr ⟨it.go n g H2 A l hlt,λD O H'=>W (n+1) D H',λD O H' hw=>⟨ds.length-(n+1),by lia,rfl,hlt,hw⟩,λx H3 y=>?_⟩
  obtain⟨M,o⟩:=it.yld n g H2 x H3 _ A l v (X0 hlt) y
  refine cC (WC (U5 (HE (Z9 ⟨by decide,λp C=>?_⟩))))
  have n2:H2 p=none:=D5 o.hh C
  have n1:L p=none:=D5 r n2
  have P:p ≠ c:=(V2 (o.hh _ _ f) C).symm
  have K:p ∉ as:=λz=>by
   have:=o.hh _ _ (all p z).2.2
   rw[this] at C;cases C
  refine⟨by rw[z0 P.symm];exact o.hh _ _ f,by rw[T0,Y];exact big (by lia),as++[p],M,by simp,by simp[Y],?_,?_,λb hb=>?_,K0,?_,A.trans o.gg,λa u e=>?_,λa u e=>?_,λa u e=>?_,λa N e=>?_⟩
  ·rw[q7]
   exact⟨nd,by simp,λx hx y Z=>by simp at Z;subst Z;intro e;subst e;exact K hx⟩
  ·intro z
   rcases E1.mp z with z|z
   ·exact na z
   ·exact P (N2.mp z).symm
  ·have gb:∀ b,g b=none->(∃ u,H2 b=some u)->M b=none:=λb U z_=>by
    obtain⟨u,T⟩:=z_
    cases e:M b with
    |none=>rfl
    | some w =>
     rcases o.gn b w e with e|e
     ·rw[U] at e;cases e
     ·rw[T] at e;cases e
   rcases E1.mp hb with hb|hb
   ·obtain⟨U,T,h3⟩:=all b hb
    refine⟨U,gb b T ⟨_,h3⟩,?_⟩
    rw[z0 (λz:b=c=>na (by rw[← z];exact hb)),z0 (λz:b=p=>K (by rw[← z];exact hb))]
    exact o.hh _ _ h3
   ·have e:b=p:=by simpa using hb
    subst e
    exact⟨n1,D5 o.gh C,by rw[z0 P,K0]⟩
  ·cases e:M c with
   |none=>rfl
   | some w =>
    rcases o.gn c w e with e|e
    ·rw[ga] at e;cases e
    ·rw[f] at e;cases e
  ·have ap:a ≠ p:=V2 (o.gh a u e) C
   have S:a ≠ c:=by
    rintro rfl
    rcases o.gn _ u e with e|e
    ·rw[ga] at e;cases e
    ·rw[f] at e;cases e
   rw[z0 S,z0 ap];exact o.gh a u e
  ·have ap:a ≠ p:=V2 e n1
   have S:a ≠ c:=V2 e d
   rw[z0 S,z0 ap];exact o.hh _ _ (r a u e)
  ·rcases o.gn a u e with e|e
   ·exact E a u e
   ·exact .inr (D5 r e)
  ·by_cases z:a=c
   ·subst z;rw[K0] at e;cases e
   ·rw[z0 z] at e
    by_cases y:a=p
    ·subst y;rw[K0] at e;cases e
    ·rw[z0 y] at e;exact o.ft v a N e
 ·have e:n=ds.length:=by lia
  subst e
  refine .inl ⟨it.stop _ g H2 A l rfl,?_⟩
  have I2:=s.grow A l r E v
  refine k (.ref c) g H2 F1 (λb=>b=c\/b∈as) (.own (OLL (List.replicate ds.length []))) R I2 (g1.trans A) ⟨⟨c,as,rfl,f,nd,na,by simp[Y],λi b a0 hb hd=>?_,λb=>Iff.rfl⟩,λb z=>?_,λb z=>?_,λb z=>?_,λj b z y=>?_⟩ q
  ·rw[O7] at hd
   split at hd
   ·cases hd;exact⟨[],(all b (v2 hb)).2.2,.nil⟩
   ·cases hd
  ·rcases z with rfl|z
   ·exact s.no_b d
   ·exact s.no_b (all b z).1
  ·rcases z with rfl|z
   ·exact ga
   ·exact(all b z).2.1
  ·rcases z with rfl|z
   ·exact⟨_,f⟩
   ·exact⟨_,(all b z).2.2⟩
  ·rcases z with rfl|z
   ·exact s.no_f d j y
   ·exact s.no_f (all b z).1 j y
theorem aG{d:List (List PyData)}{l j n:Nat}{k:Int}{y:PyData}{ds:List PyData}(e:env[i]?=some (some (.own (OLL d))))(ek:env[l]?=some (some (.st (.int k))))(ey:env[j]?=some (some (.st y)))
  (hk:ixN d.length k=some n) (hd:d[n]?=some ds) (hl:ds.length<=999999) (q:Q' .none (env.set i (some (.own (OLL (d.set n (ds++[y]))))))):Ev B (tBM K "list" o9 (tOp (V5 K) (tVar i) (tVar l)) (X1 (tVar j) tNil)) env Q':=λσ G H F Q I kk=>by
 obtain⟨v,O,⟨a,as,rfl,h,E,L,ln,r,f⟩,_⟩:=I.sl i _ e
 obtain⟨vk,u,T,_⟩:=I.sl l _ ek
 obtain⟨Z,D,ry,_⟩:=I.sl j _ ey
 cases T
 have hn:n<d.length:=(J1.mp hd).1
 have hb:as[n]?=some (as[n]'(by lia)):=X0 _
 generalize as[n]'(by lia)=b at hb
 have s:b∈as:=v2 hb
 obtain⟨vs,N,M⟩:=r n b ds hb hd
 have C:V0 (as.map V.ref) k=some (.ref b):=by
  unfold V0
  rw[T0,ln,hk]
  simp[hb]
 refine⟨_,O,_,u,oB h C ⟨.inl ⟨rfl,_,SqL.of N⟩,_,D,ZA N (by rw[M.length];exact big (by lia)) ?_⟩⟩
 have x:a ≠ b:=λz=>L (z ▸ s)
 have J:=I.change (A:=OLL (d.set n (ds++[y]))) (H2:=upd H b (.lst (vs++[Z]))) (F2:=F i) (os':=.own (OLL (d.set n (ds++[y])))) i e O (λc o p w=>by rw[z0 (λz:c=b=>p ((f c).mpr (.inr (by rw[z];exact s))))];exact w)
  (λc o w=>by
   by_cases z:c=b
   ·rw[z];exact⟨_,K0⟩
   ·rw[z0 z];exact⟨o,w⟩)
  (λc z=>⟨.inl z,by
   by_cases y:c=b
   ·rw[y];exact⟨_,K0⟩
   ·rw[z0 y];exact I.fo i c z⟩) ?_ (λc W e=>by
   by_cases z:c=b
   ·subst z;rw[K0] at e;cases e
   ·rw[z0 z] at e;exact I.ft c W e) (.inl ⟨rfl,_,rfl⟩)
 ·exact kk _ G _ _ _ _ J (Same.refl _) .non q
 ·refine⟨a,as,rfl,by rw[z0 x];exact h,E,L,by simp[ln],λm c es p g=>?_,f⟩
  by_cases hm:m=n
  ·subst hm
   rw[hb] at p;cases p
   rw[Z3,t0 rfl,t0 hn] at g
   cases g
   exact⟨_,K0,M.append (.cons ry .nil)⟩
  ·rw[Z3,y0 (λz=>hm z.symm)] at g
   obtain⟨us,h3,R⟩:=r m c es p g
   refine⟨us,?_,R⟩
   rw[z0]
   ·exact h3
   ·rintro rfl
    have S:=(J1.mp hb)
    have X:=(J1.mp p)
    obtain⟨Y,P⟩:=S
    obtain⟨U,e2⟩:=X
    exact hm (nodup_ix E U Y (e2.trans P.symm))
end
@[reducible] def prD (p:Int × Int):PyData:=.tuple [.int p.1,.int p.2]
@[reducible] def webD (n:Int) (es:List (Int × Int)):PyData:=.tuple [.int n,.list (es.map prD)]
def Tied(es:List (Int × Int))(u v:Int):Prop:=(u,v)∈es\/(v,u)∈es
theorem Tied.symm{es:List (Int × Int)}{u v:Int}(h:Tied es u v):Tied es v u:=h.elim .inr .inl
def InN(n:Int)(es:List (Int × Int)):Prop:=∀ p∈es,0<=p.1/\p.1<n/\0<=p.2/\p.2<n
theorem Tied.in{n:Int}{es:List (Int × Int)}{u v:Int}(hi:InN n es)(h:Tied es u v):(0<=u/\u<n)/\0<=v/\v<n:=by
 rcases h with h|h
 ·have:=hi _ h;exact⟨⟨this.1,this.2.1⟩,this.2.2⟩
 ·have:=hi _ h;exact⟨⟨this.2.2.1,this.2.2.2⟩,this.1,this.2.1⟩
theorem Tied.snoc{es:List (Int × Int)}{i:Nat}{a b:Int}(h:es[i]?=some (a,b))(u v:Int):Tied (es.take (i+1)) u v ↔ (Tied (es.take i) u v\/(u=a/\v=b))\/(u=b/\v=a):=by
 have e:es.take (i+1)=es.take i++[(a,b)]:=by rw[G7,h];rfl
 unfold Tied
 rw[e]
 simp only[E1,N2,Prod.mk.injEq]
 constructor
 ·rintro((h|⟨rfl,rfl⟩)|(h|⟨rfl,rfl⟩))
  ·exact .inl (.inl (.inl h))
  ·exact .inl (.inr ⟨rfl,rfl⟩)
  ·exact .inl (.inl (.inr h))
  ·exact .inr ⟨rfl,rfl⟩
 ·rintro(((h|h)|⟨rfl,rfl⟩)|⟨rfl,rfl⟩)
  ·exact .inl (.inl h)
  ·exact .inr (.inl h)
  ·exact .inl (.inr ⟨rfl,rfl⟩)
  ·exact .inr (.inr ⟨rfl,rfl⟩)
def TiedL(n:Int)(T:Int->Int->Prop)(tl:List (List Int)):Prop:=(tl.length:Int)=n/\∀(i:Nat) ws,tl[i]?=some ws->∀ w,w∈ws ↔ T i w
def oD:Option Nat->PyData
 |none=>.none
 |some d=>.int d
def lab(n:Nat)(far:Int->Option Nat):List PyData:=(List.range n).map λ(i:Nat)=>oD (far (i:Int))
theorem J8{n:Nat}{far:Int->Option Nat}:(lab n far).length=n:=by simp[lab]
theorem N8{n:Nat}{far:Int->Option Nat}{i:Nat}(h:i<n):(lab n far)[i]?=some (oD (far i)):=by
 unfold lab
 rw[o1,X0 (by simpa using h)]
 simp
theorem cD{n:Nat}{far:Int->Option Nat}{v:Int}(a:0<=v)(h:v<n):V0 (lab n far) v=some (oD (far v)):=by
 have:=K8 (xs:=lab n far) (j:=v.toNat) (N8 (by lia))
 rwa [show((v.toNat:Nat):Int)=v by lia] at this
theorem wA{n:Nat}{v:Int}(a:0<=v)(h:v<n):ixN n v=some v.toNat:=by
 unfold ixN;rw[t0 a,t0 h]
theorem eH{n:Nat}{far:Int->Option Nat}{v:Int}{d:Nat}(a:0<=v)(h:v<n):(lab n far).set v.toNat (.int d)=lab n (Gr.label far v d):=by
 apply T5
 intro i
 rw[Z3]
 by_cases e:v.toNat=i
 ·rw[t0 e,t0 (by rw[J8];lia),N8 (by lia)]
  have:(i:Int)=v:=by lia
  rw[this,Gr.label_same];rfl
 ·rw[y0 e]
  by_cases hi:i<n
  ·rw[N8 hi,N8 hi,Gr.label_ne (by lia)]
  ·rw[i7.mpr (by rw[J8];lia),i7.mpr (by rw[J8];lia)]
theorem IP{n:Nat}{f g:Int->Option Nat}(h:∀ v,0<=v->v<(n:Int)->f v=g v):lab n f=lab n g:=by
 unfold lab
 apply D8
 intro i hi
 rw[h i (by lia) (by have:=l2.mp hi;lia)]
theorem uJ{o:Option Nat}:isNone (oD o)=o.isNone:=by cases o <;> rfl
theorem P9{α:Type}{f : α->PyData}{xs:List α}{i:Int}{x : α}(h:V0 xs i=some x):V0 (xs.map f) i=some (f x):=by
 unfold V0 at h ⊢
 rw[T0]
 cases e:ixN xs.length i with
 |none=>rw[e] at h;cases h
 |some j=>rw[e] at h;simp at h ⊢;exact⟨_,h,rfl⟩
theorem L5{α:Type}{xs:List α}{i:Int}{x : α}(a:0<=i)(h:xs[i.toNat]?=some x):V0 xs i=some x:=by
 have:=K8 (xs:=xs) (j:=i.toNat) h
 rwa [show((i.toNat:Nat):Int)=i by lia] at this
@[reducible] def tlD (tl:List (List Int)):List (List PyData):=tl.map λws=>ws.map .int
theorem TiedL.get{n:Int}{T:Int->Int->Prop}{tl:List (List Int)}(h:TiedL n T tl){v:Int}(c:0<=v)(d:v<n):∃ a,tl[v.toNat]?=some a/\∀ w,w∈a ↔ T v w:=by
 have b:v.toNat<tl.length:=by have:=h.1;lia
 refine⟨tl[v.toNat],X0 b,λw=>?_⟩
 rw[h.2 _ _ (X0 b) w,show((v.toNat:Nat):Int)=v by lia]
theorem k9{tl:List (List Int)}{i:Nat}{a:List Int}(h:tl[i]?=some a):(tlD tl)[i]?=some (a.map .int):=by
 rw[o1,h];rfl
theorem TiedL.put{n:Int}{T:Int->Int->Prop}{tl:List (List Int)}(h:TiedL n T tl){v q:Int}{c:List Int}(g:0<=v)(l:v<n)(d:tl[v.toNat]?=some c):TiedL n (λa b=>T a b\/(a=v/\b=q)) (tl.set v.toNat (c++[q])):=by
 refine⟨by rw[List.length_set];exact h.1,λi us hi w=>?_⟩
 rw[Z3] at hi
 by_cases e:v.toNat=i
 ·rw[t0 e] at hi
  have j:v.toNat<tl.length:=(J1.mp d).1
  rw[t0 (by lia)] at hi
  cases hi
  have f:(i:Int)=v:=by lia
  rw[E1,N2,h.2 i c (by rw[← e];exact d) w,f]
  simp
 ·rw[y0 e] at hi
  rw[h.2 i us hi w]
  exact⟨.inl,λz=>z.elim id λz=>by lia⟩
theorem FB{tl:List (List Int)}{i:Nat}{a:List Int}:(tlD tl).set i (a.map .int)=tlD (tl.set i a):=by
 unfold tlD;rw[List.map_set]
theorem TiedL.iff{n:Int}{T a:Int->Int->Prop}{tl:List (List Int)}(h:TiedL n T tl)(e:∀ u v,T u v ↔ a u v):TiedL n a tl:=⟨h.1,λi b hi w=>(h.2 i b hi w).trans (e _ _)⟩
end VL
namespace VL
open PySem L2
def cnt(far:Int->Option Nat):Nat->Nat
 |0=>0
 |n+1=>cnt far n+(if far (n:Int)=none then 1 else 0)
theorem cH{far:Int->Option Nat}{w:Int}{d:Nat}:∀{n:Nat},(w:Int) ≥ n->cnt (Gr.label far w d) n=cnt far n
 |0,_=>rfl
 | n+1,h=>by
  unfold cnt
  rw[cH (by lia),Gr.label_ne (by lia)]
theorem Q9{far:Int->Option Nat}{w:Int}{d:Nat}(b:0<=w)(a:far w=none):∀{n:Nat},w<(n:Int)->cnt (Gr.label far w d) n+1=cnt far n
 |0,h=>by lia
 | n+1,h=>by
  unfold cnt
  by_cases e:w=n
  ·subst e
   rw[cH (by lia),Gr.label_same,a];simp
  ·rw[Gr.label_ne (by lia)]
   have:=Q9 b a (n:=n) (d:=d) (by lia)
   lia
theorem JO(n:Nat):(List.replicate n [PyData.none]).flatten=lab n (λ_=>none):=by
 apply T5
 intro i
 by_cases hi:i<n
 ·rw[N8 hi]
  have:(List.replicate n [PyData.none]).flatten=List.replicate n PyData.none:=by
   clear hi
   induction n with
   |zero=>rfl
   |succ n ih=>rw[j7,List.flatten_cons,ih,j7];rfl
  rw[this,O7,t0 hi];rfl
 ·rw[i7.mpr (by rw[kF];simp;lia),i7.mpr (by rw[J8];lia)]
theorem CO{α:Type}{f : α->PyData}{xs:List α}:(xs.map f).isEmpty=xs.isEmpty:=by cases xs <;> rfl
theorem S8{xs:List Int}{j:Nat}{u w:Int}(a:xs[j]?=some u)(hm:w∈xs.take (j+1)):w∈xs.take j\/w=u:=by
 rw[G7,a] at hm
 rcases E1.mp hm with q|q
 ·exact .inl q
 ·exact .inr (by simpa using q)
theorem IO{n:Nat}{far:Int->Option Nat}:plainDs (lab n far)=true:=by
 rw[nD]
 intro d hd
 obtain⟨i,_,rfl⟩:=P1.mp hd
 cases far (i:Int) <;> rfl
theorem tK{n:Nat}{far:Int->Option Nat}:((lab n far).any λz=>PyData.eqv z .none)=true ↔ ∃ v:Int,0<=v/\v<n/\far v=none:=by
 rw[List.any_eq_true]
 constructor
 ·rintro⟨d,hd,e⟩
  obtain⟨i,hi,rfl⟩:=P1.mp hd
  refine⟨i,by lia,by have:=l2.mp hi;lia,?_⟩
  cases h:far (i:Int) with
  |none=>rfl
  |some d=>rw[h] at e;simp[oD,PyData.eqv] at e
 ·rintro⟨v,a,b,h⟩
  refine⟨oD (far v),?_,by rw[h];rfl⟩
  have:=N8 (far:=far) (show v.toNat<n by lia)
  rw[show((v.toNat:Nat):Int)=v by lia] at this
  exact v2 this
def Joined(n:Int)(es:List (Int × Int)):Prop:=∀ v,0<=v->v<n->∃ d,Gr.Dist (Tied es) 0 v d
end VL
namespace DI
open PySem PySem.W
def Raw(h:Heap)(d:Addr)(es:Array DictEntry)(ep:Nat):Prop:=∃ o,h.get? d=some o/\o.ExactDict/\o.data=.dict es ep
theorem Raw.keep{h h':Heap}{d:Addr}{es:Array DictEntry}{ep:Nat}(r:Raw h d es ep)(k:∀ o,h.get? d=some o->h'.get? d=some o):Raw h' d es ep:=let ⟨o,e,x⟩:=r;⟨o,k o e,x⟩
theorem Raw.ty{s:Shared}{d:Addr}{es:Array DictEntry}{ep:Nat}(r:Raw s.heap d es ep):s.TypeIs (.ref d) "dict":=let ⟨o,e,x,_⟩:=r;⟨o,e,x.1⟩
section
variable{prog:Program}{w:World}{A:Around}{E:Value->Shared->Prop}{s:Shared}{d it:Addr}{es:Array DictEntry}{ep i:Nat}
theorem lP{Q:Value->Shared->Prop}(hd:(d == sysModules)=false)(r:Raw s.heap d es ep)
  (c:Q (.ref s.heap.objs.size) { s with heap:=s.heap.push { cls:=.type "dict_keyiterator",data:=.fields #[.ref d,.int 0 0,.int es.size 0,.int ep 0] } }):wpAny (model prog w) A (pyIter (.ref d)) Q E s:=by
 obtain⟨o,b,f,a⟩:=id r
 refine wpAny_pyIter_slot r.ty PySem.F.slot_dict_iter (H9 PySem.F.slot_dict_iter r.ty PySem.F.entry_dict_iter ?body (PySem.F.args_dict_iter_1 _))
 case body =>
  unfold Builtin.«dict.__iter__»
  refine C0 ?slot
  case slot =>
   unfold Builtin.Dict.dictSlotNone
   refine C0 (wpAny_notOrdered_dict r.ty ?pl)
   case pl =>
    show wpAny _ _ (pure (Value.ref d)) _ _ s
    refine M0 ?rest
    case rest =>
     show wpAny _ _ (Builtin.Dict.showsAll d >>= _) _ _ s
     unfold Builtin.Dict.showsAll
     rw[y0 (by rw[hd];exact Y1)]
     refine C0 (M0 (C0 (wpAny_dictEntries b a (C0 (wpAny_dictEpoch b a (C0 (D9 (M0 ⟨_,rfl,"dict_keyiterator",_,⟨_,X2 _ rfl,rfl⟩,PySem.F.slot_dict_keyiterator_next.lookup,?fin⟩))))))))
     case fin=>simpa[rawInt] using c
theorem ZN {Q:Option Value->Shared->Prop} (a:s.heap.IsKeyIter it d i es.size ep) (r:Raw s.heap d es ep) (hi:i<es.size)
  (v:∀ h',h'.IsKeyIter it d (i+1) es.size ep->Heap.SameBut it s.heap h'->Q (some es[i].key) { s with heap:=h' }):wpAny (model prog w) A (pyNext (.ref it)) Q E s:=by
 obtain⟨o,q,u,hd⟩:=id a
 obtain⟨od,n,x,p⟩:=r
 unfold pyNext
 refine C0 (wpAny_attempt (wpAny_callSpecial?_slot (name:=Str.ofString "__next__") a.typeIs PySem.F.slot_dict_keyiterator_next (H9 PySem.F.slot_dict_keyiterator_next a.typeIs PySem.F.entry_dict_keyiterator_next ?b (PySem.F.args_dict_keyiterator_next_1 _))))
 case b =>
  refine C0 (M0 (C0 (C0 ?c)))
  case c =>
   first|refine C0 (wpAny_typeNameOfWhole_keyiter a.typeIs (M0 (C0 (wpAny_fieldsOf q hd ?e))))|refine C0 (wpAny_typeNameOf_keyiter a.typeIs (M0 (C0 (wpAny_fieldsOf q hd ?e))))
   case e =>
    simp only[show Builtin.Dict_items.ownsTuple "dict_keyiterator" = false by decide,Bool.false_eq_true,if_false]
    show wpAny _ _ (if (Value.ref d == Value.none)=true then _ else _) _ _ s;rw[y0 (show ¬ ((Value.ref d == Value.none)=true) from Y1)]
    refine C0 (M0 (C0 (wpAny_dictEntries n p ?f)))
    case f =>
     rw[y0 (by simp)];refine C0 (M0 (C0 (wpAny_dictEpoch n p ?g)))
     case g =>
      rw[y0 (by simp)];refine M0 ?h
      case h =>
       simp only[show ¬ ((i:Int)<0) by lia,if_false,Int.toNat_natCast,Q2 hi];refine C0 ?j
       case j =>
        first|refine C0 (wpAny_typeNameOfWhole_keyiter a.typeIs (M0 (C0 (wpAny_isOneOf_keyiter a.typeIs ?k))))|refine C0 (wpAny_typeNameOf_keyiter a.typeIs (M0 (C0 (wpAny_isOneOf_keyiter a.typeIs ?k))))
        case k =>
         show wpAny _ _ (setField (.ref it) 1 (rawInt ((i:Int)+1)) >>= _) _ _ s;refine C0 (wpAny_setField q hd (by simp) ?l)
         case l =>
          have nx:(s.heap.update it (Obj.mapFields (·.setIfInBounds 1 (rawInt ((i:Int)+1))))).IsKeyIter it d (i+1) es.size ep:=⟨_,Heap.get?_update_self _ q (Obj.isFreed_of_fields (Obj.data_mapFields hd _)),(Obj.cls_mapFields ..).trans u,by rw[Obj.data_mapFields hd];simp[rawInt]⟩
          refine C0 (Z5 (C0 (wpAny_isOneOf_keyiter (s:={ s with heap:=s.heap.update it (Obj.mapFields (·.setIfInBounds 1 (rawInt ((i:Int)+1)))) }) nx.typeIs ?m)))
          case m=>show wpAny _ _ (pure es[i].key) _ _ _;exact M0 (M0 ⟨_,rfl,M0 (v _ nx (Heap.SameBut.update ..))⟩)
theorem zQ  {Q:Option Value->Shared->Prop} (hh:A.handled=none) (i:s.heap.IsKeyIter it d es.size es.size ep) (r:Raw s.heap d es ep) (v:∀ h',Heap.ExtBut it s.heap h'->Q none { s with heap:=h' }):wpAny (model prog w) A (pyNext (.ref it)) Q E s:=by
 obtain⟨o,u,y,hd⟩:=id i
 obtain⟨od,n,x,p⟩:=r
 unfold pyNext
 refine C0 (wpAny_attempt (wpAny_callSpecial?_slot (name:=Str.ofString "__next__") i.typeIs PySem.F.slot_dict_keyiterator_next (H9 PySem.F.slot_dict_keyiterator_next i.typeIs PySem.F.entry_dict_keyiterator_next ?b (PySem.F.args_dict_keyiterator_next_1 _))))
 case b =>
  refine C0 (M0 (C0 (C0 ?c)))
  case c =>
   first|refine C0 (wpAny_typeNameOfWhole_keyiter i.typeIs (M0 (C0 (wpAny_fieldsOf u hd ?e))))|refine C0 (wpAny_typeNameOf_keyiter i.typeIs (M0 (C0 (wpAny_fieldsOf u hd ?e))))
   case e =>
    simp only[show Builtin.Dict_items.ownsTuple "dict_keyiterator" = false by decide,Bool.false_eq_true,if_false]
    show wpAny _ _ (if (Value.ref d == Value.none)=true then _ else _) _ _ s;rw[y0 (show ¬ ((Value.ref d == Value.none)=true) from Y1)]
    refine C0 (M0 (C0 (wpAny_dictEntries n p ?f)))
    case f =>
     rw[y0 (by simp)];refine C0 (M0 (C0 (wpAny_dictEpoch n p ?g)))
     case g =>
      rw[y0 (by simp)];refine M0 ?h
      case h =>
       simp only[show ¬ ((es.size:Int)<0) by lia,if_false,Int.toNat_natCast,Array.getElem?_eq_none (N0 es.size)];refine C0 ?j
       case j =>
        first|refine C0 (wpAny_typeNameOfWhole_keyiter i.typeIs (M0 ?k))|refine C0 (wpAny_typeNameOf_keyiter i.typeIs (M0 ?k))
        case k =>
         show wpAny _ _ (setField (.ref it) 0 .none >>= _) _ _ s;refine C0 (wpAny_setField u hd (by simp) ?l)
         case l =>
          show wpAny _ _ (newExc (.type "StopIteration") [] >>= _) _ _ _;refine C0 ?m
          case m =>
           simp only[newExc,newTuple];refine C0 (D9 ?zz2 (by size_fits))
           case zz2 =>
            refine C0 (m:=firstArgMember _ _) (wpAny_of_eq (a:=Value.none) (by first|rfl|(simp only[firstArgMember];rfl)) (D9 ?zz1 (by size_fits)))
            case zz1 =>
             simp only[raiseNew];refine C0 (wpAny_handled ?q)
             case q =>
              rw[show A.in1.handled=none from hh];refine C0 (M0 (wpAny_throw ?u1))
              case u1=>refine C0 (wpAny_isInstance (T:="StopIteration") (b:=true) ⟨_,X2 _ rfl,rfl⟩ isSubtype_stop ?u2);exact M0 (v _ (((Heap.SameBut.update ..).extBut.push _).push _))
end
theorem walks{prog:Program}{w:World}{A:Around}(hh:A.handled=none)(I d:Addr)(c:d ≠ I)(es:Array DictEntry)(ep:Nat) :
  Walks prog w A I [I,d] [I] es.size (λi v=>(es[i]?).map (·.key)=some v) (λi h=>h.IsKeyIter I d i es.size ep/\Raw h d es ep) where
 sub:=λb hb=>by simp at hb;simp[hb]
 frame:=λ_ _ _ st f=>⟨st.1.at λo e=>f I (by simp) o e,st.2.keep λo e=>f d (by simp) o e⟩
 item:=λi s Q E hi st a=>ZN st.1 st.2 hi λh' nx sb=>a _ h' s.toks (by rw[Q2 hi];rfl) ⟨nx,st.2.keep λo e=>sb.extBut d o c e⟩ λb o hb e=>sb.extBut b o (λz=>hb (by simp[z])) e
 done:=λs Q E st a=>zQ hh st.1 st.2 λh' g=>a h' s.toks λb o hb e=>g b o (λz=>hb (by simp[z])) e
 self:=λ_ _ _ _ st a=>wpAny_pyIter_keyiter st.1 a
end DI
namespace DI
open PySem PySem.W PyProof.Rows
section
variable{prog:Program}{w:World}{A:Around}{E:Value->Shared->Prop}{s:Shared}
theorem src(d:Addr)(es:Array DictEntry)(ep:Nat)(hd:(d == sysModules)=false):KdlSrc prog w "dict" d d es.size (λi v=>(es[i]?).map (·.key)=some v) (λh=>Raw h d es ep) where
 type:=λs r=>r.ty
 there:=λh r=>let ⟨o,e,_⟩:=r;⟨Q0 e,Q0 e⟩
 keep:=λh h' r k=>r.keep λo e=>k d (.inl rfl) o e
 notList:=by decide
 notTuple:=by decide
 hint:=λA E s Q r q=>kdl_hint_dict r.ty q
 iter:=λA s hh r=>⟨{ cls:=.type "dict_keyiterator",data:=.fields #[.ref d,.int 0 0,.int es.size 0,.int ep 0] },λi h=>h.IsKeyIter s.heap.objs.size d i es.size ep/\Raw h d es ep,λE Q q=>lP hd r q,
  walks hh s.heap.objs.size d (by obtain⟨o,e,_⟩:=r;exact O1 (Q0 e)) es ep,⟨_,X2 _ rfl,rfl,rfl⟩,r.keep λo e=>S1 _ e⟩
theorem collect_src{T:String}{r d:Addr}{n:Nat}{P:Nat->Value->Prop}{j:Heap->Prop}{Q:List Value->Shared->Prop}(K:KdlSrc prog w T r d n P j)(hh:A.handled=none)(hok:j s.heap)(hn:n<=sizeLine)
  (q:∀ h' i (f:Array Value),(∀ b o,s.heap.get? b=some o->h'.get? b=some o)->s.heap.objs.size<=h'.objs.size->ItemsOf P f n->Q f.toList { s with heap:=h',toks:=i }):wpAny (model prog w) A (collect (.ref r)) Q E s:=by
 unfold collect
 refine C0 (wpAny_runValue (hA PySem.F.entry_proto_collect ?a1))
 case a1 =>
  rw[PB PySem.F.plain_proto_collect _];show wpAny _ A.in1 (newList [] >>= λl=>again (.builtin "list.__iadd__" ⟨[l,.ref r],[]⟩)) _ _ s
  refine C0 (D9 (M0 ⟨plainId_quiet PySem.F.plain_list_iadd _,hA PySem.F.entry_list_iadd ?a2⟩))
  case a2 =>
   rw[PB PySem.F.plain_list_iadd _];show wpAny _ A.in1 (Builtin.List.listExtendWith (.ref s.heap.objs.size) (.ref r) (.ref s.heap.objs.size)) _ _ _
   have m:(s.heap.push { cls:=.type "list",data:=.seq ([]:List Value).toArray }).get? s.heap.objs.size=some { cls:=.type "list",data:=.seq #[] 0 }:=X2 _ rfl
   obtain⟨u,p⟩:=K.there _ hok
   refine kdl_extend (R:=wants (λv x=>wpAny (model prog w) A (match v with | .ref a=>(do match (← load a).data with | .seq xs _=>pure xs.toList|_=>unsupported "internal:collect")|_=>unsupported "internal:collect") Q E x) E) (s:={ s with heap:=s.heap.push { cls:=.type "list",data:=.seq ([]:List Value).toArray } }) K hh (K.keep _ _ hok λb _ o e=>S1 _ e) s.heap.objs.size (Nat.ne_of_gt u) (Nat.ne_of_gt p) _ 0 m (λh' i f c k h g=>?a3) hn
   case a3 =>
    show wpAny (model prog w) A _ Q E _
    refine C0 (wpAny_load h ?a4)
    case a4=>exact M0 (q h' i f (λb o e=>k b o (O1 (Q0 e)) (S1 _ e)) (m5 (Q0 h)) g)
end
end DI
namespace TS
open PySem PySem.W PyProof.Rows
section
variable{prog:Program}{w:World}{A:Around}{E:Value->Shared->Prop}{s:Shared}
theorem sorted_gen{l:Addr}{Ok:List Value->Prop}{Q:Value->Shared->Prop}
  (j:∀(D:List Value->Shared->Prop),(∀ vs h d,(∀ b o,s.heap.get? b=some o->h.get? b=some o)->s.heap.objs.size<=h.objs.size->Ok vs->D vs { s with heap:=h,toks:=d })->wpAny (model prog w) A.in1 (collect (.ref l)) D E s)
  (c:∀ vs,Ok vs->vs.length<=sizeLine)
  (z:∀ vs,Ok vs->2<=vs.length->∀ h' d,(∀ b o,s.heap.get? b=some o->h'.get? b=some o)->∃ κ S R,(∀(Q:SortKind->Shared->Prop),Q κ { s with heap:=h',toks:=d }->wpAny (model prog w) A.in1.in1 (keyKind' vs.toArray) Q E { s with heap:=h',toks:=d }) /\
   Cmp (model prog w) A.in1.in1 E { s with heap:=h',toks:=d } κ S R/\(∀ v∈vs,S (v,v))/\∀ out:List Value,out.Perm vs->out.Pairwise (λx y=>R (y,y) (x,x)=false) ->
    ∀ a h' d e,(∀ b o,s.heap.get? b=some o->h'.get? b=some o)->s.heap.objs.size<=a->h'.get? a=some (seqObj "list" out.toArray e)->Q (.ref a) { s with heap:=h',toks:=d })
  (h:∀ vs,Ok vs->vs.length<2->∀ a h' d e,(∀ b o,s.heap.get? b=some o->h'.get? b=some o)->s.heap.objs.size<=a->h'.get? a=some (seqObj "list" vs.toArray e)->Q (.ref a) { s with heap:=h',toks:=d }) :
  wpAny (model prog w) A (call (.builtin "sorted") [.ref l]) Q E s:=by
 refine Calls.call_function_entry kind_sorted plain_sorted entry_sorted (args_sorted1 _) ?_
 unfold Builtin.«sorted»
 refine C0 (m:=checkCount "sorted" 1 1 _) (M0 (C0 (j _ λvs g d kp hsz u=>?_)))
 have c:=c vs u
 refine C0 (wpAny_newList ?_ c)
 have f:(g.push (seqObj "list" vs.toArray 0)).get? g.objs.size=some (seqObj "list" vs.toArray 0):=X2 _ rfl
 have keep:∀ b o,s.heap.get? b=some o->(g.push (seqObj "list" vs.toArray 0)).get? b=some o:=λb o q=>S1 _ (kp b o q)
 refine C0 (Z5 (H9 slot_list_sort ⟨_,f,rfl⟩ entry_list_sort ?body (args_list_sort _)))
 case body =>
  have fin:∀ out:List Value,∃ e,(sortedHeap (g.push (seqObj "list" vs.toArray 0)) g.objs.size vs out.toArray).get? g.objs.size=some (seqObj "list" out.toArray e):=λout=>sortedHeap_at (n:=0) f
  have old:∀(out:List Value) b o,s.heap.get? b=some o->(sortedHeap (g.push (seqObj "list" vs.toArray 0)) g.objs.size vs out.toArray).get? b=some o:=λout b o e=>by
   have lt:=Q0 (kp b o e)
   rw[sortedHeap_old (O1 lt) (by rw[size_push'];exact z7 lt)];exact keep b o e
  refine LH (s:={ s with heap:=g.push (seqObj "list" vs.toArray 0),toks:=d }) f c (λB h' J=>?_) λr=>?_
  ·obtain⟨κ,S,R,I,C,G,i⟩:=z vs u B h' d λb o e=>J b o (O1 (Q0 (kp b o e))) (keep b o e)
   refine⟨κ,S,R,I,C,G,λout F H=>⟨_,rfl,M0 ⟨_,rfl,?_⟩⟩⟩
   obtain⟨e,p⟩:=fin out
   exact i out F H _ _ _ e (old out) hsz p
  ·obtain⟨e,p⟩:=fin vs
   exact⟨_,rfl,M0 ⟨_,rfl,h vs u r _ _ _ e (old vs) hsz p⟩⟩
end
end TS
namespace L2
open PySem PySem.Spec PyProof.Rows
section
variable{X:Cx}{pins:List (Addr × Obj)}{σ:St}{H:Hp}{s:Shared}{h':Heap}
end
section
variable{X:Cx}{elts:List Expr}{k:Nat}{tpos:Pos}
end
section
variable{X:Cx}{elts:List Expr}{k:Nat}{tpos:Pos}
end
theorem mD:∀{xs:List V}{us:List Value},xs.length=us.length->(∀(i:Nat) v u,xs[i]?=some v->us[i]?=some u->RelV v u)->Vals xs us
 |[],[],_,_=>.nil
 |[],_::_,h,_=>by simp at h
 |_::_,[],h,_=>by simp at h
 |x::xs,u::us,h,k=>.cons (k 0 x u rfl rfl) (mD (by simpa using h) λi v w b a=>k (i+1) v w (by simpa using b) (by simpa using a))
theorem mJ(prog:Program)(w:World)(A:Around){bs:List Bool}{us:List Value}(r:Vals (bs.map V.bl) us):TruthOf prog w A (λi v=>us.toArray[i]?=some v) (λi=>bs.getD i false):=by
 intro i v s Q E d h
 have a:us[i]?=some v:=by simpa using d
 have hi:i<us.length:=(J1.mp a).1
 have hb:i<bs.length:=by have:=r.length;simp at this;lia
 obtain⟨u,b,c⟩:=r.get (i:=i) (x:=.bl bs[i]) (by simp[hb])
 rw[a] at b;cases b
 cases (show v=Value.bool bs[i] from c)
 have e:bs.getD i false=bs[i]:=by simp[List.getD,hb]
 have h':Q (bs.getD i false) s:=h
 rw[e] at h'
 exact Q7 h'
section
variable{X:Cx}
theorem zK(bs:List Bool):((List.range bs.length).all λi=>bs.getD i false)=bs.all id:=by
 rw[o7,P6,P6]
 constructor
 ·intro h b hb
  obtain⟨i,hi,e⟩:=V9.mp hb
  have:=h i (l2.mpr hi)
  simp[List.getD,hi,e] at this
  exact this
 ·intro h i hi
  have a:=l2.mp hi
  have:=h bs[i] (List.getElem_mem a)
  simp[List.getD,a];exact this
def rAll(K:Frag):List V->Hp->VK->Prop:=λxs H Q=>∃(a:Addr)(bs:List Bool),xs=[.ref a]/\SqL K H a (bs.map V.bl)/\Q (.bl (bs.all id)) H
theorem FH(g:X.calm=true):M2 X (.builtin "all") (rAll X.K):=by
 intro pins s σ H xs us Q I r h
 obtain⟨a,bs,rfl,ha,q⟩:=h
 obtain⟨u,rfl,f⟩:=Y4 r
 cases f
 obtain⟨its,d,c,_⟩:=I.list ha
 have i:a<s.heap.objs.size:=by obtain⟨o,n,e,_⟩:=c;exact Q0 e
 have hz:its.toArray.size=bs.length:=by have:=d.length;simp at this;simp[this]
 refine call_all_walk (l9 c.isList ⟨_,[s.heap.objs.size,a],_,_,_,_,_,rfl,Walks.list (A:=X.A.in1) (I.ok.hd g) _ a (O1 i) its.toArray,⟨⟨_,X2 _ rfl,rfl,rfl⟩,c.isList.push _⟩,mJ _ _ _ d,λl j kp=>?_⟩)
 rw[hz,zK]
 refine⟨.bl _,H,I.kept λb o e=>kp b o (λz=>?_) (S1 _ e),rfl,q⟩
 exact absurd (Q0 e) (by rw[N2.mp z];exact S4 _)
def iC(K:Frag):List V->Hp->VK->Prop:=λxs H Q=>∃ p ys,xs=[.ref p]/\(SqL K H p ys\/SqT K H p ys)/\∀ l,H l=none->Q (.ref l) (upd H l (.lst ys))
theorem SH:M2 X (.type "list") (iC X.K):=UJ
def pB(ta:TA):TE:=λσ H Q=>ta σ H λvs H1=>∃ j:Int,vs=[.int j]/\0<=j/\j<=1000000/\∀ l,H1 l=none->Q (.ref l) (upd H1 l (.lst ((List.range j.toNat).map λ(i:Nat)=>V.int (i:Int))))
theorem RG{a:Expr}{z:TA}{F p2 w d:Pos}(M:Gl X "list")(hm:X.mg "list" = none)(y:Gl X "range")(r:X.mg "range" = none)(G:X.calm=true)(ha:PA X [a] z)(hs:starEach [a] X.env=[(false,eval a X.env)]:=by rfl)
  (m:starEach [.Call (.Name "range" p2) [a] [] d] X.env=[(false,eval (.Call (.Name "range" p2) [a] [] d) X.env)]:=by rfl):PE X (.Call (.Name "list" F) [.Call (.Name "range" p2) [a] [] d] [] w) (pB z):=by
 intro pins s σ H Q I h
 refine Call_ (p8 I M hm I9 (PyProof.Rows.callWith_type1 ?_ m rfl))
 rw[m]
 refine Calls.spliced_cons (Call_ (p8 I y r boot_range (PyProof.Rows.callWith_type1 (thn (ha d pins s σ H _ I h) λus s1 ⟨vs,P,p,A,j,B,R,O,q⟩=>?_) hs rfl)))
 subst B
 obtain⟨u,rfl,t,rfl⟩:=Y4 A
 refine call_range_1 (Calls.spliced_nil ?_)
 have L:IsRange (s1.heap.push { cls:=.type "range",data:=.fields #[.int 0 s1.toks,.int j t,.int 1 (s1.toks+1)] }) s1.heap.objs.size 0 j 1 s1.toks t (s1.toks+1):=X2 _ rfl
 have hn:Builtin.Range.rangeSize 0 j 1=((j.toNat:Nat):Int):=by rw[rangeSize_one];split <;> lia
 refine call_list_range (s:={ s1 with heap:=s1.heap.push { cls:=.type "range",data:=.fields #[.int 0 s1.toks,.int j t,.int 1 (s1.toks+1)] },toks:=s1.toks+1+1 }) (p.ok.hd G) L (small_one (by lia) (by lia) (by lia) (by lia)) hn (by lia) λK J g c kp D items=>?_
 have k2:∀ b o,s1.heap.get? b=some o->K.get? b=some o:=λb o e=>kp b o (S1 _ e)
 have f:s1.heap.objs.size<=(s1.heap.push { cls:=.type "range",data:=.fields #[.int 0 s1.toks,.int j t,.int 1 (s1.toks+1)] }).objs.size:=by rw[K7];exact Nat.le_succ _
 refine⟨.ref _,_,p.laid (t':=J) (o:=.lst ((List.range j.toNat).map λ(i:Nat)=>V.int (i:Int))) k2 f ?_,rfl,q _ (p.hok.fresh f)⟩
 refine⟨by rw[T0,List.length_range];exact m5 (VL.big (by lia)),g.toList,c,?_,by simpa using D⟩
 obtain⟨N,x⟩:=items
 refine mD (by simp[N]) λi v u n E=>?_
 have l:g[i]?=some u:=by simpa using E
 obtain⟨t',C⟩:=x i u l
 rw[o1] at n
 have hi:i<j.toNat:=by
  have:=(Array.getElem?_eq_some_iff.mp l).1
  lia
 rw[X0 (by simpa using hi)] at n
 simp at n
 subst n
 exact⟨t',by rw[C];simp⟩
end
section
variable{X:Cx}{pins:List (Addr × Obj)}{σ:St}{H:Hp}{s:Shared}
end
section
variable{X:Cx}{tg:Expr}
def cB:List V->Hp->VK->Prop:=λxs H Q=>∃(a:Addr)(kvs:List (List Key × V))(kss:List (List Int)),xs=[.ref a]/\H a=some (.dT kvs)/\kvs.map (·.1)=kss.map (λns=>ns.map Sum.inl)/\(∀ ns∈kss,ns ≠ []) /\
 ∀(vs:List V)(p:Addr),(∀ v∈vs,TupI H v)->(vs.map (kH H)).Perm kss->vs.Pairwise (λx y=>HT.lexLt (kH H y) (kH H x)=false)->H p=none->Q (.ref p) (upd H p (.lst vs))
theorem EG{H:Hp}:∀{kvs:List (List Key × V)}{xs:List (List Key × Addr × Value)}{a:List (List Int)},KT H kvs xs->kvs.map (·.1)=a.map (λns=>ns.map Sum.inl)->(∀ ns∈a,ns ≠ []) ->
  (∀ v∈xs.map (λq=>V.ref q.2.1),TupI H v)/\(xs.map (λq=>V.ref q.2.1)).map (kH H)=a
 |_,_,[],.nil,_,_=>⟨λv b=>by simp at b,rfl⟩
 |_,_,_::_,.nil,h,_=>by simp at h
 |_,_,[],.cons _ _,h,_=>by simp at h
 | p::kvs,q::xs,ns::a,.cons r t,h,hn=>by
  simp only[P2,List.cons.injEq] at h
  obtain⟨c,f⟩:=EG t h.2 λd hm=>hn d (S3 _ hm)
  have e:H q.2.1=some (.tup (ns.map V.int)):=by
   rw[r.2.1,h.1,U3];rfl
  refine⟨λv b=>?_,?_⟩
  ·rcases Z0.mp b with rfl|b
   ·exact⟨_,ns,rfl,e,hn ns T3⟩
   ·exact c v b
  ·rw[P2,P2,jB e,f]
theorem FG(P:X.calm=true):M2 X (.builtin "sorted") cB:=by
 intro pins s σ H xs us Q I r h
 obtain⟨a,kvs,O,rfl,Z,hk,E,q⟩:=h
 obtain⟨u,rfl,ru⟩:=Y4 r
 cases ru
 obtain⟨z,y,ys,A,o,es,ep,h1,m,h3,K,h5⟩:=(show ObjOk X.prog X.w H s.heap a (.dT kvs) from I.hok a _ Z)
 obtain⟨J,U⟩:=EG A hk E
 have hz:es.size=ys.length:=by
  have e1:es.toList.length=ys.length:=by rw[K];simp
  simpa using e1
 have g:ys.length<=sizeLine:=by have:=Paired.length A;lia
 let c:List Value:=ys.map λq=>.ref q.2.1
 have M:Vals (ys.map λq=>V.ref q.2.1) c:=mD (by simp[c]) λi v u d B=>by
  rw[o1] at d B
  cases e:ys[i]? with
  |none=>rw[e] at d;cases d
  |some q=>rw[e] at d B;cases d;cases B;rfl
 obtain⟨b1,L⟩:=LD M J
 have fin:∀ out:List Value,out.Perm c->(out.map p6).Pairwise (λx y=>HT.lexLt (kH H y) (kH H x)=false)->∀ p m j e,(∀ b o,s.heap.get? b=some o->m.get? b=some o)->s.heap.objs.size<=p->m.get? p=some (seqObj "list" out.toArray e)->EP X pins σ Q (.ref p) { s with heap:=m,toks:=j }:=by
  intro out f hs p m j e kp hsz Y
  have d:Vals (out.map p6) out:=HD λu B=>b1 u (f.mem_iff.mp B)
  refine⟨.ref p,_,I.laid (t':=j) (o:=.lst (out.map p6)) kp hsz ?_,rfl,q _ _ (λv D=>?_) ?_ hs (I.hok.fresh hsz)⟩
  ·refine⟨by rw[T0,f.length_eq];simp[c];exact g,out,e,d,by rw[Y]⟩
  ·have:=(f.map p6).mem_iff.mp D
   rw[L] at this;exact J v this
  ·have:=(f.map p6).map (kH H)
   rw[L,U] at this;exact this
 refine TS.sorted_gen (Ok:=λvs=>vs=c) (λQc F=>DI.collect_src (DI.src a es ep y) (I.ok.hd P) ⟨o,h1,m,h3⟩ (by lia) λh' j l kp hsz items=>F _ h' j kp hsz ?_) (λvs e=>by subst e;simp[c];exact g) (λvs e a0 h' j kp=>?_) λvs e G=>?_
 ·obtain⟨i1,i2⟩:=items
  apply T5
  intro i
  simp only[c,o1]
  by_cases hi:i<ys.length
  ·have ha:l[i]?=some l[i]:=Q2 (by lia)
   have:(es[i]?).map (·.key)=some l[i]:=i2 i _ ha
   have N:es[i]?=some es[i]:=Q2 (by lia)
   rw[N] at this
   have C:es.toList[i]?=some es[i]:=by rw[W5];exact N
   rw[K,o1,X0 hi] at C
   rw[X0 hi]
   simp at this C
   rw[W5,ha,← this,← C];rfl
  ·rw[i7.mpr (by simp;lia),i7.mpr (by lia)];rfl
 ·subst e
  obtain⟨⟨fs,k1,k2,k3⟩,R⟩:=eE I kp M J
  have n:(Value.type "int" != Value.type "tuple")=true:=by rfl
  refine⟨tuples' true,TS.tS h' (λa=>kH H (.ref a)),TS.tR (λa=>kH H (.ref a)),λQ' F=>?_,TS.cmp_tups (s:={ s with heap:=h',toks:=j }) (λa=>kH H (.ref a)),λv d=>?_,λout f hs=>fin out f ?_⟩
  ·refine PySem.W.kat_kind (T:=.type "int") (s:={ s with heap:=h',toks:=j }) k1 (by lia) (λv d=>?_) (by rfl) ?_
   ·obtain⟨i,t,rfl⟩:=k3 v d
    exact .now
   ·rw[n];exact F
  ·obtain⟨a,e,ht⟩:=R v d
   exact⟨rfl,a,e,ht⟩
  ·rw[t7]
   refine UA ?_ hs
   intro x y hx S hr
   obtain⟨ax,rfl⟩:=b1 x (f.mem_iff.mp hx)
   obtain⟨ay,rfl⟩:=b1 y (f.mem_iff.mp S)
   exact hr
 ·subst e
  exact fin c (List.Perm.refl _) (wG (by rw[T0];exact G))
end
end L2
namespace VL
open PySem PySem.Spec L2
section
variable{B:Bs}{env:En}{QI:List PyData->En->Prop}{QO:Sl->En->Prop}{Q':PyData->En->Prop}{K:Frag}{i:Nat}{ta:TA}
theorem RpT.len{G:Hp}:∀{kvs:List (List Key × V)}{es:List (List Key × PyData)},RpT G kvs es->kvs.length=es.length/\kvs.map (·.1)=es.map (·.1)
 |_,_,.nil=>⟨rfl,rfl⟩
 | _,_,.cons _ t=>by
  obtain⟨b,a⟩:=RpT.len t
  exact⟨by simp[b],by simp[a]⟩
@[reducible] def tkD (ks:List Key):PyData:=.tuple (ks.map kD)
@[reducible] def tiD (ns:List Int):PyData:=.tuple (ns.map .int)
def lexS(pss:List (List Int)):Prop:=pss.Pairwise λx y=>HT.lexLt y x=false
theorem VC{G H:Hp}(ft:FT G H):∀{vs:List V},(∀ v∈vs,TupI H v)->Rps G vs ((vs.map (kH H)).map tiD)
 |[],_=>.nil
 | v::vs,h=>by
  obtain⟨t,ns,rfl,e,_⟩:=h v T3
  rw[P2,P2,jB e]
  have:(ns.map V.int)=(ns.map (λi=>(Sum.inl i:Key))).map kV:=by rw[U3];rfl
  refine .cons (.tup ?_ (Rps.ints ns)) (VC ft λu a=>h u (S3 _ a))
  rw[this];exact ft t _ (by rw[← this];exact e)
theorem iG{G H:Hp}(gh:Same G H):∀{vs:List V}{pss:List (List Int)},Rps G vs (pss.map tiD)->(∀ ns∈pss,ns ≠ [])->(∀ v∈vs,TupI H v)/\vs.map (kH H)=pss
 |_,[],.nil,_=>⟨λv f=>by simp at f,rfl⟩
 | v::vs,ns::pss,.cons r t,hn=>by
  obtain⟨b,d⟩:=iG gh t λc hm=>hn c (S3 _ hm)
  cases r with
  | tup h rs =>
   have:=Rps.ints_inv rs
   subst this
   have e:=gh _ _ h
   refine⟨λu a=>?_,by rw[P2,jB e,d]⟩
   rcases Z0.mp a with rfl|a
   ·exact⟨_,ns,rfl,e,hn ns T3⟩
   ·exact b u a
theorem NK{pss:List (List Int)}(hn:∀ ns∈pss,ns ≠ [])(h:EvA B ta env λds e=>ds=[.list (pss.map tiD)]/\∀ b:List (List Int),b.Perm pss->lexS b->QO (.own (OL (b.map tiD))) e):EvO B (tCB (iB K) ta) env QO:=λσ G H F Q I k =>
 h σ G H F _ I λvs z d j ds u c l i q=>by
  obtain⟨m,n⟩:=q
  subst m
  cases i with
  | cons r t =>
   cases t
   cases r with
   | @lst a us _ ha rs =>
    obtain⟨g,w⟩:=iG c.gh rs hn
    refine⟨a,us,rfl,SqL.of (c.gh _ _ ha),g,λy p f hs hf=>?_⟩
    have s:∀ v∈y,TupI d v:=λv x=>g v (f.mem_iff.mp x)
    have o:=Out.newL c.gh hf (VC c.ft s)
    refine k _ _ _ j _ _ u (c.out o).1 (l.trans o.gg) (c.out o).2 (n _ ?_ ?_)
    ·have:=f.map (kH d);rw[w] at this;exact this
    ·unfold lexS;rw[t7];exact hs
theorem HQ{es:List (List Key × PyData)}{b:List (List Int)}(f:Has env i (OT es))(h:es.map (·.1)=b.map (λns=>ns.map Sum.inl))(hn:∀ ns∈b,ns ≠ [])(q:∀ c:List (List Int),c.Perm b->lexS c->QO (.own (OL (c.map tiD))) env):EvO B (tCB cB (X1 (tVar i) tNil)) env QO:=λσ G H F Q I k=>by
 obtain⟨v,l,a,kvs,rfl,ha,rt,hf⟩:=I.has f
 obtain⟨n,m⟩:=RpT.len rt
 refine⟨_,l,a,kvs,b,rfl,ha,by rw[m,h],hn,λr p g j hs d=>?_⟩
 have o:=Out.newL I.gh d (VC I.ft g)
 refine k _ _ _ F _ _ env (I.out o).1 o.gg (I.out o).2 (q _ j ?_)
 unfold lexS;rw[t7];exact hs
end
section
variable{B:Bs}{env:En}{QO:Sl->En->Prop}{Q':PyData->En->Prop}{K:Frag}{i:Nat}{ta:TA}{R:Sl->Prop}
theorem Rps.bools_inv{G:Hp}:∀{bs:List Bool}{vs:List V},Rps G vs (bs.map PyData.bool)->vs=bs.map V.bl
 |[],_,.nil=>rfl
 | b::bs,_,.cons r t=>by
  cases r
  rw[Rps.bools_inv t];rfl
theorem hG{bs:List Bool}(h:R (.st (.bool (bs.all id)))):OpA (rAll K) [.list (bs.map .bool)] R:=λG H vs Q gh rs k=>by
 cases rs with
 | cons r t =>
  cases t
  cases r with
  | lst ha ra =>
   have:=Rps.bools_inv ra
   subst this
   exact⟨_,bs,rfl,SqL.of (gh _ _ ha),k _ _ _ _ _ (Out.refl gh (.bl _)) h⟩
theorem XR{ds:List PyData}(h:R (.own (OL ds))):OpA (iC K) [.list ds] R:=λG H vs Q gh rs k=>by
 cases rs with
 | cons r t =>
  cases t
  cases r with
  |lst ha ra=>exact⟨_,_,rfl,.inl (SqL.of (gh _ _ ha)),λp a=>k _ _ _ _ _ (Out.newL gh a ra) h⟩
theorem uR{G:Hp}(n:Nat):Rps G ((List.range n).map λ(i:Nat)=>V.int (i:Int)) (rngD 0 n):=by
 unfold rngD
 refine bC (by simp) λi v d a hd=>?_
 rw[o1] at a hd
 cases e:(List.range n)[i]? with
 |none=>rw[e] at a;cases a
 |some m=>rw[e] at a hd;cases a;cases hd;show Rp G (.int (m:Int)) (.int (0+(m:Int)));rw[Int.zero_add];exact .int _
theorem JG(h:EvA B ta env λds e=>∃ j:Int,ds=[.int j]/\0<=j/\j<=1000000/\QO (.own (OL (rngD 0 j.toNat))) e):EvO B (pB ta) env QO:=λσ G H F Q I k =>
 h σ G H F _ I λvs s r c ds m a d b i=>by
  obtain⟨j,f,q,l,g⟩:=i
  subst f
  obtain rfl:vs=[V.int j]:=Rps.ints_inv (ns:=[j]) b
  refine⟨j,rfl,q,l,λp n=>?_⟩
  have o:=Out.newL a.gh n (uR j.toNat)
  exact k _ _ _ c _ _ m (a.out o).1 (d.trans o.gg) (a.out o).2 g
theorem wP(h:EvA B ta env λds e=>∃ j:Int,ds=[.int j]/\0<=j/\j<=1000000/\Q' (.list (rngD 0 j.toNat)) e):Ev B (pB ta) env Q':=F3 (JG λσ G H F Q I k=>h σ G H F Q I λvs G' H' F' ds d f g r ⟨j,a,b,c,q⟩=>k vs G' H' F' ds d f g r ⟨j,a,b,c,W4 q⟩)
end
section
variable{κ:Type} [DecidableEq κ] {α:Type}
def valD(es:List (κ × α))(k : κ):Option α:=(es.find? λe=>decide (e.1=k)).map (·.2)
def putD(es:List (κ × α))(k : κ)(d : α):List (κ × α):=if (es.any λe=>decide (e.1=k))=true then es.map (λe=>if e.1=k then (e.1,d) else e) else es++[(k,d)]
end
theorem RpK.val{G:Hp}{k:Key}:∀{kvs:List (Key × V)}{es:List (Key × PyData)},RpK G kvs es->(valD es k=none->valV kvs k=none)/\∀ d,valD es k=some d->∃ v,valV kvs k=some v/\Rp G v d
 |_,_,.nil=>⟨λ_=>rfl,λd h=>by cases h⟩
 | _,_,.cons (k:=k') r t=>by
  obtain⟨a,b⟩:=RpK.val (k:=k) t
  by_cases e:k'=k
  ·refine⟨λh=>by simp[valD,e] at h,λd h=>?_⟩
   simp[valD,e] at h
   subst h
   exact⟨_,by simp[valV,e],r⟩
  ·refine⟨λh=>?_,λd h=>?_⟩
   ·simp[valV,e];simp[valD,e] at h
    have:=a (by simp[valD];exact h)
    simpa[valV] using this
   ·obtain⟨v,f,c⟩:=b d (by simpa[valD,e] using h)
    exact⟨v,by simpa[valV,e] using f,c⟩
theorem RpK.any{G:Hp}{k:Key}:∀{kvs:List (Key × V)}{es:List (Key × PyData)},RpK G kvs es->(kvs.any λe=>decide (e.1=k))=es.any λe=>decide (e.1=k)
 |_,_,.nil=>rfl
 |_,_,.cons r t=>by simp[RpK.any t]
theorem RpK.map{G:Hp}{k:Key}{v:V}{d:PyData}(h:Rp G v d):∀{kvs:List (Key × V)}{es:List (Key × PyData)},RpK G kvs es->RpK G (kvs.map λe=>if e.1=k then (e.1,v) else e) (es.map λe=>if e.1=k then (e.1,d) else e)
 |_,_,.nil=>.nil
 | _,_,.cons (k:=k') r t=>by
  by_cases e:k'=k
  ·simp only[P2,e,if_true];exact .cons h (RpK.map h t)
  ·simp only[P2,e,if_false];exact .cons r (RpK.map h t)
theorem RpK.append{G:Hp}:∀{a b:List (Key × V)}{c d:List (Key × PyData)},RpK G a c->RpK G b d->RpK G (a++b) (c++d)
 |_,_,_,_,.nil,s=>s
 |_,_,_,_,.cons r t,s=>.cons r (RpK.append t s)
theorem RpK.put{G:Hp}{k:Key}{v:V}{d:PyData}(h:Rp G v d){kvs:List (Key × V)}{es:List (Key × PyData)}(r:RpK G kvs es):RpK G (putK kvs k v) (putD es k d):=by
 unfold putK putD
 rw[r.any]
 split
 ·exact r.map h
 ·exact r.append (.cons h .nil)
theorem RpT.any{G:Hp}{k:List Key}:∀{kvs:List (List Key × V)}{es:List (List Key × PyData)},RpT G kvs es->(kvs.any λe=>decide (e.1=k))=es.any λe=>decide (e.1=k)
 |_,_,.nil=>rfl
 |_,_,.cons r t=>by simp[RpT.any t]
theorem RpT.map{G:Hp}{k:List Key}{v:V}{d:PyData}(h:Rp G v d):∀{kvs:List (List Key × V)}{es:List (List Key × PyData)},RpT G kvs es->RpT G (kvs.map λe=>if e.1=k then (e.1,v) else e) (es.map λe=>if e.1=k then (e.1,d) else e)
 |_,_,.nil=>.nil
 | _,_,.cons (k:=k') r t=>by
  by_cases e:k'=k
  ·simp only[P2,e,if_true];exact .cons h (RpT.map h t)
  ·simp only[P2,e,if_false];exact .cons r (RpT.map h t)
theorem RpT.append{G:Hp}:∀{a b:List (List Key × V)}{c d:List (List Key × PyData)},RpT G a c->RpT G b d->RpT G (a++b) (c++d)
 |_,_,_,_,.nil,s=>s
 |_,_,_,_,.cons r t,s=>.cons r (RpT.append t s)
theorem RpT.put{G:Hp}{k:List Key}{v:V}{d:PyData}(h:Rp G v d){kvs:List (List Key × V)}{es:List (List Key × PyData)}(r:RpT G kvs es):RpT G (putK kvs k v) (putD es k d):=by
 unfold putK putD
 rw[r.any]
 split
 ·exact r.map h
 ·exact r.append (.cons h .nil)
theorem RpK.length{G:Hp}:∀{kvs:List (Key × V)}{es:List (Key × PyData)},RpK G kvs es->kvs.length=es.length
 |_,_,.nil=>rfl
 |_,_,.cons _ t=>by simp[RpK.length t]
theorem M9{G:Hp}{v:V}{k:Key}(r:Rp G v (kD k)):v=kV k:=by
 cases k with
 |inl i=>cases r;rfl
 |inr x=>cases r;rfl
theorem ND{G:Hp}:∀{a:List Key}{vs:List V},Rps G vs (a.map kD)->vs=a.map kV
 |[],_,.nil=>rfl
 |k::a,_,.cons r t=>by rw[M9 r,ND t];rfl
section
variable{B:Bs}{env:En}{QO:Sl->En->Prop}{Q':PyData->En->Prop}{D':VEnds}{i:Nat}{te ty tv td:TE}
theorem dD(q:QO (.own (OD [])) env):EvO B dG env QO:=λσ G H F Q I k p a=>by
 have o:=Out.newD (ds:=[]) I.gh a .nil
 exact k _ _ _ F _ _ env (I.out o).1 o.gg (I.out o).2 q
theorem HK(q:QO (.own (OT [])) env):EvO B lC env QO:=λσ G H F Q I k p a=>by
 have o:=Out.newDT (ds:=[]) I.gh a .nil
 exact k _ _ _ F _ _ env (I.out o).1 o.gg (I.out o).2 q
theorem PP{es0:List (List Key × PyData)}(h:Ev B tv env λd l=>Has l i (OT es0)/\Ev B ty l λy e2=>∃ es j,e2[i]?=some (some (.own (OT es)))/\y=tkD j/\es.length<=999999/\D'.nx (e2.set i (some (.own (OT (putD es j d)))))):EvS B (J9 (tVar i) ty tv) D' env:=λσ G H F D I r =>
 h σ G H F _ I λv L J x d l q A w E=>by
  obtain⟨O,C⟩:=E
  obtain⟨v0,o,a,kvs,rfl,ha,rt,_⟩:=q.has O
  refine⟨_,o,C σ L J x _ q λR N H2 F2 y e2 p s z ⟨es,j,f,M,S,K⟩=>?_⟩
  subst M
  obtain⟨Q,c,⟨P,u,m,n,g,hf⟩,hb⟩:=p.sl i _ f
  rw[o] at c;cases c;cases m
  cases z with
  | tup hk rs =>
   have:=ND rs
   subst this
   refine⟨a,_,rfl,DPut.t n (p.gh _ _ hk) (by rw[(RpT.len g).1];exact big (by lia)),?_⟩
   exact r.nx σ N _ _ _ (p.upd1 (A':=OT (putD es j d)) f (.inl rfl) o hf ⟨a,_,rfl,K0,g.put (w.same s),λb=>Iff.rfl⟩) (A.trans s) K
theorem eL{es0:List (Key × PyData)}(h:Ev B tv env λd j=>Has j i (OD es0)/\Ev B ty j λy e2=>∃ es k,e2[i]?=some (some (.own (OD es)))/\y=kD k/\es.length<=999999/\D'.nx (e2.set i (some (.own (OD (putD es k d)))))):EvS B (J9 (tVar i) ty tv) D' env:=λσ G H F D I r =>
 h σ G H F _ I λv K E w d j o z u C=>by
  obtain⟨N,A⟩:=C
  obtain⟨v0,n,a,kvs,rfl,ha,rt,_⟩:=o.has N
  refine⟨_,n,A σ K E w _ o λR M H2 F2 y e2 s p x ⟨es,O,f,L,S,J⟩=>?_⟩
  subst L
  obtain⟨Q,c,⟨P,q,l,m,g,hf⟩,hb⟩:=s.sl i _ f
  rw[n] at c;cases c;cases l
  have:=M9 x
  subst this
  refine⟨a,_,rfl,DPut.k m (by rw[g.length];exact big (by lia)),?_⟩
  exact r.nx σ M _ _ _ (s.upd1 (A':=OD (putD es O d)) f (.inl rfl) n hf ⟨a,_,rfl,K0,g.put (u.same p),λb=>Iff.rfl⟩) (z.trans p) J
theorem AI{es0:List (Key × PyData)}(h:Ev B ty env λy e2=>∃ es k,Has e2 i (OD es)/\y=kD k/\Q' (.bool (!(valD es k).isSome)) e2):Ev B (CA ty (tVar i)) env Q':=λσ G H F Q I k =>
 h σ G H F _ I λu o H2 F2 y e2 c f j m=>by
  obtain⟨es,b,l,n,q⟩:=m
  subst n
  obtain⟨v,p,a,kvs,rfl,ha,rt,_⟩:=c.has l
  have:=M9 j
  subst this
  refine⟨_,p,a,_,rfl,DGet.k ha,?_⟩
  have e:(valV kvs b).isSome=(valD es b).isSome:=by
   obtain⟨r,g⟩:=rt.val (k:=b)
   cases hd:valD es b with
   |none=>rw[r hd];rfl
   |some d=>obtain⟨v,s,_⟩:=g d hd;rw[s];rfl
  rw[e]
  exact k _ o H2 F2 _ e2 c f (.bl _) q
end
section
variable{B:Bs}{env:En}{QO:Sl->En->Prop}{Q':PyData->En->Prop}{QE:En->Prop}{D':VEnds}{K:Frag}{i:Nat}{ta:TA}
theorem bN{j:Int}{R:Int->Prop}(a:0<=j)(b:j<=1000000)(h:R j):∃ i:Int,[PyData.int j]=[.int i]/\0<=i/\i<=1000000/\R i:=⟨j,rfl,a,b,h⟩
theorem x_dT{es:List (List Key × PyData)}{a b:Int}{e2:En}{R:List (List Key × PyData)->List Key->Prop}(e:e2[i]?=some (some (.own (OT es))))(d:es.length<=999999)(q:R es [.inl a,.inl b]):∃ es c,e2[i]?=some (some (.own (OT es)))/\PyData.tuple [.int a,.int b]=tkD c/\es.length<=999999/\R es c:=⟨es,_,e,rfl,d,q⟩
theorem x_dK{es:List (Key × PyData)}{a:Int}{e2:En}{R:List (Key × PyData)->Key->Prop}(e:e2[i]?=some (some (.own (OD es))))(b:es.length<=999999)(q:R es (.inl a)):∃ es k,e2[i]?=some (some (.own (OD es)))/\PyData.int a=kD k/\es.length<=999999/\R es k:=⟨es,_,e,rfl,b,q⟩
theorem x_dN{es:List (Key × PyData)}{a:Int}{e2:En}{R:List (Key × PyData)->Key->Prop}(e:Has e2 i (OD es))(q:R es (.inl a)):∃ es k,Has e2 i (OD es)/\PyData.int a=kD k/\R es k:=⟨es,_,e,rfl,q⟩
end
def ltP(p q:Int × Int):Prop:=p.1<q.1\/(p.1=q.1/\p.2<q.2)
@[reducible] def p2 (p:Int × Int):List Int:=[p.1,p.2]
theorem lex2(p q:Int × Int):HT.lexLt (p2 p) (p2 q)=true ↔ ltP p q:=by
 obtain⟨a,b⟩:=p
 obtain⟨c,d⟩:=q
 simp[p2,HT.lexLt,ltP]
 split <;> lia
theorem vG{a:List (List Int)}{ps:List (Int × Int)}(h:a.Perm (ps.map p2)):∃ qs:List (Int × Int),a=qs.map p2/\qs.Perm ps:=by
 refine⟨a.map λl=>(l.getD 0 0,l.getD 1 0),?_,?_⟩
 ·rw[U3]
  symm
  conv=>rhs;rw[← List.map_id a]
  apply D8
  intro l b
  obtain⟨p,_,rfl⟩:=P1.mp (h.mem_iff.mp b)
  rfl
 ·have:=h.map λl=>(l.getD 0 0,l.getD 1 0)
  rw[U3] at this
  have e:((λl:List Int=>(l.getD 0 0,l.getD 1 0)) ∘ p2)=id:=by funext p;rfl
  rw[e,List.map_id] at this
  exact this
def Rise(es:List (Int × Int)):Prop:=es.Pairwise ltP
theorem IA(p:Int × Int):¬ ltP p p:=by unfold ltP;lia
theorem iR(p q:Int × Int):ltP p q\/p=q\/ltP q p:=by
 obtain⟨a,b⟩:=p
 obtain⟨c,d⟩:=q
 unfold ltP
 simp only[Prod.mk.injEq]
 lia
theorem NG{p q r:Int × Int}(h:ltP p q)(g:ltP q r):ltP p r:=by unfold ltP at *;lia
theorem TC{qs ps:List (Int × Int)}(b:qs.Perm ps)(hn:ps.Nodup)(hs:lexS (qs.map p2)):Rise qs:=by
 have a:qs.Nodup:=b.nodup_iff.mpr hn
 unfold lexS at hs
 rw[t7] at hs
 unfold Rise
 refine(List.Pairwise.and hs a).imp λ{p q} h=>?_
 have c:¬ ltP q p:=λz=>by rw[(lex2 q p).mpr z] at h;exact absurd h.1 (by simp)
 rcases iR p q with z|z|z
 ·exact z
 ·exact absurd z h.2
 ·exact absurd z c
theorem Rise.nodup{es:List (Int × Int)}(h:Rise es):es.Nodup:=h.imp λ{p q} z (e:p=q)=>IA q (by rw[e] at z;exact z)
theorem Rise.eq:∀{as bs:List (Int × Int)},Rise as->Rise bs->(∀ p,p∈as ↔ p∈bs)->as=bs
 |[],[],_,_,_=>rfl
 |[],b::_,_,_,h=>by have:=(h b).mpr T3;simp at this
 |a::_,[],_,_,h=>by have:=(h a).mp T3;simp at this
 | a::as,b::bs,ha,hb,h=>by
  obtain⟨d,g⟩:=List.pairwise_cons.mp ha
  obtain⟨c,f⟩:=List.pairwise_cons.mp hb
  have e:a=b:=by
   rcases Z0.mp ((h a).mp T3) with e|e
   ·exact e
   ·rcases Z0.mp ((h b).mpr T3) with e2|e2
    ·exact e2.symm
    ·exact absurd (NG (d b e2) (c a e)) (IA a)
  subst e
  have:=Rise.eq g f λp=>by
   have i:=h p
   simp only[Z0] at i
   constructor
   ·intro m
    rcases i.mp (.inr m) with e|e
    ·subst e;exact absurd (d p m) (IA p)
    ·exact e
   ·intro m
    rcases i.mpr (.inr m) with e|e
    ·subst e;exact absurd (c p m) (IA p)
    ·exact e
  rw[this]
structure WebOk(n:Int)(es:List (Int × Int)):Prop where
 lo:1<=n
 hi:n<=60
 inn:∀ p∈es,0<=p.1/\p.1<p.2/\p.2<n
 rise:Rise es
def kE(ps:List (Int × Int)):List (List Key × PyData):=ps.map λp=>([Sum.inl p.1,Sum.inl p.2],.bool true)
def addP(ps:List (Int × Int))(p:Int × Int):List (Int × Int):=if p∈ps then ps else ps++[p]
theorem xB{ps:List (Int × Int)}:(kE ps).length=ps.length:=by simp[kE]
theorem AD(ps:List (Int × Int))(a b:Int):putD (kE ps) [Sum.inl a,Sum.inl b] (.bool true)=kE (addP ps (a,b)):=by
 have c:((kE ps).any λe=>decide (e.1=[Sum.inl a,Sum.inl b]))=decide ((a,b)∈ps):=by
  rw[o7,List.any_eq_true,decide_eq_true_iff]
  constructor
  ·rintro⟨e,d,h⟩
   obtain⟨p,f,rfl⟩:=P1.mp d
   simp at h
   obtain⟨g,p2⟩:=p
   simp at h
   rw[← h.1,← h.2];exact f
  ·intro h
   exact⟨_,P1.mpr ⟨(a,b),h,rfl⟩,by simp⟩
 unfold putD
 rw[c]
 unfold addP
 by_cases h:(a,b)∈ps
 ·rw[t0 (by simpa using h),t0 h]
  unfold kE
  rw[U3]
  apply D8
  intro p _
  simp only[Function.comp]
  split <;> rfl
 ·rw[y0 (by simpa using h),y0 h]
  simp[kE]
theorem addP_mem{ps:List (Int × Int)}{p q:Int × Int}:q∈addP ps p ↔ q∈ps\/q=p:=by
 unfold addP
 split
 ·rename_i h
  exact⟨.inl,λz=>z.elim id λe=>e ▸ h⟩
 ·simp
theorem iS{ps:List (Int × Int)}{p:Int × Int}(h:ps.Nodup):(addP ps p).Nodup:=by
 unfold addP
 split
 ·exact h
 ·rename_i hn
  rw[q7]
  exact⟨h,by simp,λx b y a=>by simp at a;subst a;rintro rfl;exact hn b⟩
theorem aC{ps:List (Int × Int)}{p:Int × Int}:(addP ps p).length<=ps.length+1:=by
 unfold addP;split <;> simp
theorem LL(ps:List (Int × Int)):(kE ps).map (·.1)=(ps.map p2).map (λns=>ns.map Sum.inl):=by
 unfold kE;rw[U3,U3];rfl
theorem aK:([]:List (List Key × PyData))=kE []:=rfl
theorem WD(ps:List (Int × Int)):(ps.map p2).map tiD=ps.map prD:=by rw[U3];rfl
theorem IG{ps:List (Int × Int)}:∀ ns∈ps.map p2,ns ≠ []:=λns h=>by
 obtain⟨p,_,rfl⟩:=P1.mp h
 simp
section
variable{B:Bs}{env:En}{QO:Sl->En->Prop}{K:Frag}{i:Nat}{ta:TA}
theorem oA{ps:List (Int × Int)}(h:EvA B ta env λds e=>ds=[.list (ps.map prD)]/\∀ qs:List (Int × Int),qs.Perm ps->lexS (qs.map p2)->QO (.own (OL (qs.map prD))) e):EvO B (tCB (iB K) ta) env QO :=
 NK (pss:=ps.map p2) IG λσ G H F Q I k=>h σ G H F Q I λvs G' H' F' ds e c g r ⟨f,q⟩=>k vs G' H' F' ds e c g r ⟨by rw[WD];exact f,λa b hs=>by
  obtain⟨qs,rfl,d⟩:=vG b
  rw[WD];exact q qs d hs⟩
theorem QG{ps:List (Int × Int)}(b:Has env i (OT (kE ps)))(q:∀ qs:List (Int × Int),qs.Perm ps->lexS (qs.map p2)->QO (.own (OL (qs.map prD))) env):EvO B (tCB cB (X1 (tVar i) tNil)) env QO :=
 HQ b (LL ps) IG λa d hs=>by
  obtain⟨qs,rfl,c⟩:=vG d
  rw[WD];exact q qs c hs
end
def OW(d:PyData)(ds:List PyData):Own where
 P:=λG H v F=>∃ t l u vs,v=.ref t/\H t=some (.tup [u,.ref l])/\Rp G u d/\H l=some (.lst vs)/\Rps G vs ds/\∀ b,F b ↔ b=t\/b=l
 mono:=λ⟨t,l,u,vs,e,h1,r1,h2,r2,f⟩ g hh=>⟨t,l,u,vs,e,hh t _ ((f t).mpr (.inl rfl)) h1,r1.same g,hh l _ ((f l).mpr (.inr rfl)) h2,r2.same g,f⟩
 dom:=λ⟨t,l,u,vs,e,h1,r1,h2,r2,f⟩ b z=>by
  rcases(f b).mp z with rfl|rfl
  ·exact⟨_,h1⟩
  ·exact⟨_,h2⟩
theorem ZF{d:PyData}{ds:List PyData}:Frz (OW d ds) (.tuple [d,.list ds]):=λG H v F ⟨t,l,u,vs,e,h,a,b,c,f⟩ n g=>by
 subst e
 exact .tup (by rw[J5 ((f t).mpr (.inl rfl))];exact h) (.cons (a.same (p4 n)) (.cons (.lst (by rw[J5 ((f l).mpr (.inr rfl))];exact b) (c.same (p4 n))) .nil))
theorem kB{d:PyData}{ds:List PyData}{R:PyData->Prop}(h:R (.tuple [d,.list ds])):FQ (.own (OW d ds)) R:=⟨_,ZF,h⟩
section
variable{B:Bs}{env:En}{QO:Sl->En->Prop}{Q':PyData->En->Prop}{K:Frag}{i j:Nat}{ta te:TE}
theorem TF{u:V}{l:Addr}{a:List Key}:HO.tup [u,.ref l] ≠ .tup (a.map kV):=by
 intro z
 injection z with z
 match a,z with
 |[],z=>cases z
 |[_],z=>cases z
 | [_,k],z =>
  simp at z
  cases k <;> simp[kV] at z
 |_::_::_::_,z=>simp at z
theorem EK{n:List PyData}(N:env[j]?=some (some (.own (OL n))))(h:Ev B ta env λd g=>∃ ds,g[j]?=some (some (.own (OL ds)))/\QO (.own (OW d ds)) (g.set j none)):EvO B (tTup (X1 ta (X1 (tVar j) tNil))) env QO:=λσ G H F Q I k =>
 h σ G H F _ I λv u C i d g c y x A=>by
  obtain⟨ds,K,q⟩:=A
  obtain⟨w,E,⟨l,vs,rfl,s,rs,hf⟩,hb⟩:=c.sl j _ K
  refine⟨_,E,⟨by show(2:Nat)<=sizeLine;decide,λp f=>?_⟩⟩
  have r:i j l:=(hf l).mpr rfl
  have pl:p ≠ l:=(V2 s f).symm
  have D:=c.drop j
  have L:∀ m a,(a=p\/a=l)->¬ putF i j (λ_=>False) m a:=λm a ha z=>by
   by_cases hm:m=j
   ·subst hm;exact putF_same.mp z
   ·rw[P3 hm] at z
    rcases ha with rfl|rfl
    ·exact c.no_f f m z
    ·exact hm (c.fd m j a z r)
  have J:VI B u (upd C p (.tup [v,.ref l])) σ (g.set j none) (putF i j λ_=>False):=D.grow (Same.refl _) (c.gh.trans (R4 f)) (R4 f) (λa o e=>.inl e) λa M e=>by
   by_cases z:a=p
   ·subst z;rw[K0] at e;exact absurd (M3 e) TF
   ·rw[z0 z] at e;exact c.ft a M e
  refine k _ u _ _ (λa=>a=p\/a=l) (.own (OW d ds)) _ J y ⟨⟨p,l,v,vs,rfl,K0,x,by rw[z0 pl.symm];exact s,rs,λb=>Iff.rfl⟩,λa z=>?_,λa z=>?_,λa z=>?_,λm a z=>L m a z⟩ q
  ·rcases z with rfl|rfl
   ·exact c.no_b f
   ·exact hb a r
  ·rcases z with rfl|rfl
   ·exact c.no_g f
   ·exact c.fg j a r
  ·rcases z with rfl|rfl
   ·exact⟨_,K0⟩
   ·exact⟨_,by rw[z0 pl.symm];exact s⟩
theorem x_ow{ds:List PyData}{a:En}{R:List PyData->Prop}(e:a[j]?=some (some (.own (OL ds))))(q:R ds):∃ ds,a[j]?=some (some (.own (OL ds)))/\R ds:=⟨ds,e,q⟩
end
section
variable{B:Bs}{env:En}{Q':PyData->En->Prop}{D':VEnds}{i:Nat}{ty tv:TE}
theorem bL{a:List (List Key × PyData)}(f:env[i]?=some (some (.own (OT a))))(h:Ev B tv env λd b=>Has b i (OT a)/\Ev B ty b λy e2=>∃ es c,e2[i]?=some (some (.own (OT es)))/\y=tkD c/\es.length<=999999/\D'.nx (e2.set i (some (.own (OT (putD es c d)))))):EvS B (J9 (tVar i) ty tv) D' env:=PP h
theorem zM{a:List (Key × PyData)}(c:env[i]?=some (some (.own (OD a))))(h:Ev B tv env λd b=>Has b i (OD a)/\Ev B ty b λy e2=>∃ es k,e2[i]?=some (some (.own (OD es)))/\y=kD k/\es.length<=999999/\D'.nx (e2.set i (some (.own (OD (putD es k d)))))):EvS B (J9 (tVar i) ty tv) D' env:=eL h
theorem eK{a:List (Key × PyData)}(b:Has env i (OD a))(h:Ev B ty env λy e2=>∃ es k,Has e2 i (OD es)/\y=kD k/\Q' (.bool (!(valD es k).isSome)) e2):Ev B (CA ty (tVar i)) env Q':=AI (es0:=[]) h
end
section
variable{R:Sl->Prop}{K:Frag}
theorem ZK{p q:Int × Int}(h:R (.st (.bool (HT.lexLt (p2 p) (p2 q))))):Op2 (rLtT K) (prD p) (prD q) R:=λG H d f Q gh b a k=>by
 cases b with
 | tup ha ra =>
  cases a with
  | tup hb rb =>
   have c:=Rps.ints_inv (ns:=p2 p) ra
   have e2:=Rps.ints_inv (ns:=p2 q) rb
   subst c e2
   exact⟨_,_,p2 p,p2 q,rfl,rfl,SqT.of (gh _ _ ha),SqT.of (gh _ _ hb),k _ _ _ _ _ (Out.refl gh (.bl _)) h⟩
end
theorem cQ(p:Int × Int):z1 (prD p)=true:=rfl
theorem RE(ps:List (Int × Int)):plainDs (ps.map prD)=true:=by
 rw[nD]
 intro d hd
 obtain⟨p,_,rfl⟩:=P1.mp hd
 rfl
theorem wH(p q:Int × Int):PyData.eqv (prD p) (prD q)=decide (p=q):=by
 rw[o7,YB _ _ rfl rfl,decide_eq_true_iff]
 constructor
 ·intro h
  simp[prD] at h
  exact Prod.ext h.1 h.2
 ·rintro rfl;rfl
theorem YR(ps:List (Int × Int))(q:Int × Int):((ps.map prD).any λz=>PyData.eqv z (prD q))=decide (q∈ps):=by
 rw[o7,List.any_eq_true,decide_eq_true_iff]
 constructor
 ·rintro⟨d,hd,e⟩
  obtain⟨p,a,rfl⟩:=P1.mp hd
  rw[wH] at e
  rw[← of_decide_eq_true e];exact a
 ·intro h
  exact⟨prD q,P1.mpr ⟨q,h,rfl⟩,by rw[wH];exact O4 rfl⟩
theorem MD{ds:List PyData}{m:Nat}(h:∀ d∈ds,d.depth<=m):PyData.depthAll ds<=m:=by
 induction ds with
 |nil=>simp[PyData.depthAll]
 | cons d ds ih =>
  simp only[PyData.depthAll]
  exact Nat.max_le.mpr ⟨h d T3,ih λe a=>h e (S3 _ a)⟩
theorem DH(p:Int × Int):(prD p).depth<=1:=by simp[prD,PyData.depth,PyData.depthAll]
theorem HC{d:PyData}(h:z1 d=true):PyData.eqv d d=true:=(YB d d h h).mpr rfl
end VL
namespace VL
theorem eR{α:Type}(R : α->α->Prop)(tr:∀{a b c},R a b->R b c->R a c){xs:List α}:xs.Pairwise R ↔ ∀ i (h:i+1<xs.length),R (xs[i]'(by lia)) xs[i+1]:=by
 constructor
 ·intro h i hi
  exact u8.mp h i (i+1) (by lia) hi (by lia)
 ·intro h
  rw[u8]
  intro i j hi d f
  induction j with
  |zero=>lia
  | succ j ih =>
   by_cases e:i=j
   ·subst e;exact h i d
   ·exact tr (ih (by lia) (by lia)) (h j d)
end VL
namespace VL
open PySem PySem.Spec L2
section
variable{B:Bs}{env:En}{Q':PyData->En->Prop}{K:Frag}{E:XK}{i:Nat}
theorem MG{f:VP}{t:TA}{w:Own}(L:Has env i w)(h:EvA B t env λds g=>∃ A d,Has g i A/\Frz A d/\f (.st d::ds.map Sl.st) λs=>∃ d',s=.st d'/\U8 d'=true/\Q' d' g):Ev B (o3 (spP K f) [] E (X1 (tVar i) t)) env Q':=λσ G H F Q I k=>by
 unfold o3
 simp only[n5]
 obtain⟨v,m,_⟩:=I.has L
 refine⟨v,m,h σ G H F _ I λvs D l j ds g b x n ⟨A,d,y,r,z⟩=>?_⟩
 obtain⟨N,c,ap⟩:=b.has y
 rw[m] at c;cases c
 have js:=p4 (H:=l) (b.fg i)
 refine⟨jn D l (j i),_,_,CB b.gh,λa M e=>js _ _ (b.ft a M e),.cons (s:=.st d) (r _ _ _ _ ap (b.fg i) b.gh) (ArgsOk.of (n.same js)),z,λs q u G' H' Fv o=>?_⟩
 obtain⟨d',rfl,hs,q⟩:=q
 obtain⟨C,p,J⟩:=b.moment js o
 exact k u C H' j d' g J (x.trans p) (OF o.ok.1 hs) q
end
end VL
namespace VL
open PySem L2
theorem YN{B:Bs}{t:TS}{D':VEnds}{e:En}(h:EvS B t D' e):EvS B t D' e:=h
theorem VO{B:Bs}{g:TG}{s:Sl}{e:En}{Q:En->Prop}(h:EvG B g s e Q):EvG B g s e Q:=h
theorem eJ{B:Bs}{g:TGs}{s:List PyData}{e:En}{Q:En->Prop}(h:EvGs B g s e Q):EvGs B g s e Q:=h
theorem g_Ev{B:Bs}{t:TE}{e:En}{Q:PyData->En->Prop}(h:Ev B t e Q):Ev B t e Q:=h
theorem MR{B:Bs}{t:TE}{e:En}{Q:Sl->En->Prop}(h:EvO B t e Q):EvO B t e Q:=h
theorem TJ{B:Bs}{t:TT}{e:En}{Q:Bool->En->Prop}(h:EvT B t e Q):EvT B t e Q:=h
theorem QM{B:Bs}{t:TA}{e:En}{Q:List PyData->En->Prop}(h:EvA B t e Q):EvA B t e Q:=h
theorem AQ{B:Bs}{t:TI}{e:En}{Q:List PyData->En->Prop}(h:EvI B t e Q):EvI B t e Q:=h
theorem NI{B:Bs}{t:TO}{e:En}{Q:Option Int->En->Prop}(h:EvOp B t e Q):EvOp B t e Q:=h
theorem JR{r:R2}{x y:PyData}{R:Sl->Prop}(h:Op2 r x y R):Op2 r x y R:=h
theorem aM{r:V->Hp->VK->Prop}{x:PyData}{R:Sl->Prop}(h:Op1 r x R):Op1 r x R:=h
theorem OO{r:List V->Hp->VK->Prop}{x:List PyData}{R:Sl->Prop}(h:OpA r x R):OpA r x R:=h
theorem g_FQ{s:Sl}{R:PyData->Prop}(h:FQ s R):FQ s R:=h
theorem XL{ds:List PyData}{R:List PyData->Prop}(h:WA ds R):WA ds R:=h
theorem EL{ds:List PyData}{R:List PyData->Prop}(h:dB ds R):dB ds R:=h
structure PsOk(n:Int)(ps:List (Int × Int)):Prop where
 nd:ps.Nodup
 inn:∀ p∈ps,0<=p.1/\p.1<p.2/\p.2<n
theorem PsOk.nil(n:Int):PsOk n []:=⟨List.nodup_nil,λp a=>by simp at a⟩
theorem PsOk.add{n a b:Int}{ps:List (Int × Int)}(h:PsOk n ps)(d:0<=a)(g:a<b)(c:b<n):PsOk n (addP ps (a,b)) :=
 ⟨iS h.nd,λp f=>by
  rcases addP_mem.mp f with q|q
  ·exact h.inn p q
  ·subst q;exact⟨d,g,c⟩⟩
def Tr(n:Int)(ps:List (Int × Int)):Prop:=∀ k,1<=k->k<n->∃ h,0<=h/\h<k/\(h,k)∈ps
def Conn(n:Int)(T:Int->Int->Prop):Prop:=∀ u v,0<=u->u<n->0<=v->v<n->∃ k,Gr.Walk T u k v
theorem Joined.conn{n:Int}{es:List (Int × Int)}(h:Joined n es):Conn n (Tied es):=λu v a b v0 f=>by
 obtain⟨d,hd⟩:=h u a b
 obtain⟨e,c⟩:=h v v0 f
 exact⟨d+e,(hd.1.rev λ_ _ t=>t.symm).app c.1⟩
def Order(n:Int)(row:List Int):Prop:=row.Perm ((List.range n.toNat).map λ(i:Nat)=>(i:Int))
theorem Order.len{n:Int}{row:List Int}(h:Order n row):row.length=n.toNat:=by have:=h.length_eq;simpa using this
theorem Order.nodup{n:Int}{row:List Int}(h:Order n row):row.Nodup:=by
 refine h.nodup_iff.mpr ?_
 unfold List.Nodup
 rw[t7]
 exact List.nodup_range.imp λ{a b} c e=>c (by lia)
theorem Order.mem{n:Int}{row:List Int}(h:Order n row){v:Int}:v∈row ↔ 0<=v/\v<n:=by
 rw[h.mem_iff,P1]
 constructor
 ·rintro⟨i,hi,rfl⟩
  have:=l2.mp hi
  lia
 ·rintro⟨a,b⟩
  exact⟨v.toNat,l2.mpr (by lia),by lia⟩
theorem Order.get{n:Int}{row:List Int}(h:Order n row){a:Int}(b:0<=a)(d:a<n):∃ x,row[a.toNat]?=some x/\V0 row a=some x/\0<=x/\x<n:=by
 have c:a.toNat<row.length:=by rw[h.len];lia
 have e:row[a.toNat]?=some row[a.toNat]:=X0 c
 have:=h.mem.mp (v2 e)
 exact⟨_,e,L5 b e,this.1,this.2⟩
theorem Order.inj{n:Int}{row:List Int}(h:Order n row){a b x:Int}(a0:0<=a)(b0:0<=b)(ha:row[a.toNat]?=some x)(hb:row[b.toNat]?=some x):a=b:=by
 obtain⟨f,c⟩:=J1.mp ha
 obtain⟨d,e2⟩:=J1.mp hb
 have:=nodup_ix h.nodup f d (c.trans e2.symm)
 lia
theorem Order.id(n:Int):Order n ((List.range n.toNat).map λ(i:Nat)=>(i:Int)):=List.Perm.refl _
def W2(row:List Int)(a:Int):Int:=row.getD a.toNat 0
def reP(row:List Int)(p:Int × Int):Int × Int:=if W2 row p.1<W2 row p.2 then (W2 row p.1,W2 row p.2) else (W2 row p.2,W2 row p.1)
theorem Order.at{n:Int}{row:List Int}(h:Order n row){a:Int}(b:0<=a)(f:a<n):row[a.toNat]?=some (W2 row a)/\0<=W2 row a/\W2 row a<n:=by
 obtain⟨x,e,_,c,d⟩:=h.get b f
 have:W2 row a=x:=by unfold W2;rw[k7,e];rfl
 rw[this];exact⟨e,c,d⟩
theorem Order.ne{n:Int}{row:List Int}(h:Order n row){a b:Int}(a0:0<=a)(a1:a<n)(b0:0<=b)(b1:b<n)(c:a ≠ b):W2 row a ≠ W2 row b:=λe=>by
 have d:=(h.at a0 a1).1
 have f:=(h.at b0 b1).1
 rw[e] at d
 exact c (h.inj a0 b0 d f)
theorem PsOk.re{n:Int}{ps:List (Int × Int)}{row:List Int}(h:PsOk n ps)(o:Order n row):PsOk n (ps.map (reP row)):=by
 have inn:∀ p∈ps,0<=(reP row p).1/\(reP row p).1<(reP row p).2/\(reP row p).2<n:=λp c=>by
  obtain⟨p0,u,p2⟩:=h.inn p c
  have a:=o.at p0 (by lia)
  have b:=o.at (a:=p.2) (by lia) p2
  have ne:=o.ne p0 (by lia) (by lia) p2 (by lia)
  unfold reP
  split <;> dsimp only <;> lia
 refine⟨?_,λq f=>by obtain⟨p,c,rfl⟩:=P1.mp f;exact inn p c⟩
 unfold List.Nodup
 rw[t7]
 refine UA ?_ h.nd
 intro p q c f d e
 apply d
 obtain⟨p0,u,p2⟩:=h.inn p c
 obtain⟨l,v,m⟩:=h.inn q f
 have inj:∀ a b,0<=a->a<n->0<=b->b<n->W2 row a=W2 row b->a=b:=λa b a0 a1 b0 b1 e=>by
  apply MA
  intro g
  exact o.ne a0 a1 b0 b1 g e
 have i:=inj p.1 q.1 p0 (by lia) l (by lia)
 have s:=inj p.2 q.2 (by lia) p2 (by lia) m
 have j:=inj p.1 q.2 p0 (by lia) (by lia) m
 have r:=inj p.2 q.1 (by lia) p2 l (by lia)
 unfold reP at e
 split at e <;> split at e <;> simp only[Prod.mk.injEq] at e
 ·exact Prod.ext (i e.1) (s e.2)
 ·have:=j e.1;have:=r e.2;lia
 ·have:=r e.1;have:=j e.2;lia
 ·exact Prod.ext (i e.2) (s e.1)
theorem tG{α:Type}:∀{l:List α}{k:Nat}{x : α},l[k]?=some x->(x::l.eraseIdx k).Perm l
 |[],_,_,h=>by simp at h
 |a::l,0,x,h=>by simp at h;subst h;exact List.Perm.refl _
 | a::l,k+1,x,h=>by
  have b:=tG (l:=l) (k:=k) (x:=x) (by simpa using h)
  exact(List.Perm.swap a x _).trans (b.cons a)
theorem tL{n:Int}{row left:List Int}{k:Nat}{x:Int}(h:Order n (row++left))(a:left[k]?=some x):Order n ((row++[x])++left.eraseIdx k):=by
 refine List.Perm.trans ?_ h
 rw[Y2]
 refine List.Perm.append_left row ?_
 exact tG a
section
variable{B:Bs}{env:En}{g:TG}{tif:TT}{te:TE}{K:Frag}{src:List (Option Nat)}{ds:List PyData}{e1:En}{R:List PyData->En->Prop}
end
theorem LQ(n:Nat):rngD 0 n=((List.range n).map λ(i:Nat)=>(i:Int)).map PyData.int:=by simp[rngD]
theorem fQ{B:Bs}{t:TS}{D':VEnds}{env:En}(J:En->Prop)(h:EvS B t { D' with nx:=J } env)(k:∀ e,J e->D'.nx e):EvS B t D' env:=λσ G H F D I r=>h σ G H F D I ⟨λσ G' H F env a g q=>r.nx _ _ _ _ _ a g (k _ q),r.rt,r.bk,r.ct⟩
theorem R7{B:Bs}{g:TG}{A:Own}{d:PyData}{env:En}{b:En->Prop}(f:Frz A d)(h:EvG B g (.st d) env b):EvG B g (.own A) env b:=λσ G H F v Fv Q I x k =>
 h σ _ H F v _ Q (I.freeze x.fb x.fd x.fg) (u7 (f G H v Fv x.ok x.fg I.gh)) λa G' H' F' c i g' q=>k a G' H' F' c i ((p4 x.fg).trans g') q
theorem cutR{R X:Prop}(h:R->X)(r:R):X:=h r
end VL
namespace VL
open PySem PySem.Spec L2
def Sls(K:Frag)(G:Hp)(σ:St)(e:En):Prop:=∀(j:Nat)(s:Sl),e[j]?=some (some s)->∃ v,σ[j]?=some (some v)/\((∃ d,s=.st d/\Rp G v d)\/∃(ns:List Int)(a:Addr),s=.scr ns/\v=.ref a/\SqL K G a (ns.map V.int))
section
variable{B:Bs}{env:En}
end
section
variable{B:Bs}{env:En}{Q':PyData->En->Prop}{QO:Sl->En->Prop}{c:TT}{ta tb:TE}
theorem mL(h:EvT B c env λb e=>if b=true then EvO B ta e QO else EvO B tb e QO):EvO B (tIf c ta tb) env QO:=λσ G H F Q I k =>
 h σ G H F _ I λb m l i n f j q=>by
  cases b with
  |true=>rw[t0 rfl] at q ⊢;exact q σ m l i Q f λv G' H' F' Fv d e a g r z=>k v G' H' F' Fv d e a (j.trans g) r z
  |false=>rw[y0 Y1] at q ⊢;exact q σ m l i Q f λv G' H' F' Fv d e a g r z=>k v G' H' F' Fv d e a (j.trans g) r z
end
end VL
namespace VL
open PySem PySem.Spec L2 PyProof.Rows
end VL
namespace VL
open PySem PySem.Spec L2
section
variable{B:Bs}{env:En}{QO:Sl->En->Prop}{i:Nat}
theorem nJ{k c:Int}(e:env[i]?=some (some (.st (.int k))))(q:QO (.own (OD [(.inl k,.int c)])) env):EvO B (eG [(tVar i,tC (.int c))]) env QO:=λσ G H F Q I d p a=>by
 obtain⟨v,g,r⟩:=I.sl i _ e
 obtain⟨r,_⟩:=r
 cases r
 refine⟨_,g,K0,[(.inl k,.int c)],rfl,by simp,?_⟩
 have o:=Out.newD (ds:=[(.inl k,.int c)]) (xs:=[(.inl k,.int c)]) I.gh a (.cons (.int c) .nil)
 have f:upd (upd H p (.dK [])) p (.dK (m9 [] [(Sum.inl k,V.int c)]))=upd H p (.dK [(.inl k,.int c)]):=by
  funext b
  unfold upd
  split <;> rfl
 rw[f]
 exact d _ _ _ F _ _ env (I.out o).1 o.gg (I.out o).2 q
end
mutual
theorem Rp.repL{G:Hp}:∀{v:V}{d:PyData},Rp G v d->d.canLay0=true->Rep G v d
 |_,_,.non,_=>.non
 |_,_,.bl b,_=>.bl b
 |_,_,.int i,_=>.int i
 |_,_,.str x,_=>.str x
 |_,_,.lst h r,p=>.lst h (Rps.repsL r (by simpa[PyData.canLay0] using p))
 |_,_,.tup h r,p=>.tup h (Rps.repsL r (by simpa[PyData.canLay0] using p))
 |_,_,.dk h r e,p=>by simp[PyData.canLay0] at p
 |_,_,.dt h r e,p=>by simp[PyData.canLay0] at p
theorem Rps.repsL{G:Hp}:∀{vs:List V}{ds:List PyData},Rps G vs ds->PyData.canLayAll0 ds=true->Reps G vs ds
 |_,_,.nil,_=>.nil
 | _,_,.cons r t,p=>by
  simp only[PyData.canLayAll0,S5] at p
  exact .cons (Rp.repL r p.1) (Rps.repsL t p.2)
end
def rEqL:R2:=λx y H Q=>∃ d e,Rep H x d/\Rep H y e/\d.canLay0=true/\e.canLay0=true/\d.depth<=60/\Q (.bl (PyData.eqv d e)) H
section
variable{X:Cx}
theorem PM(i:X.A.units+64<cLine):OpR X (compareOp .Eq) rEqL:=λpins s σ H x y v u Q I c b h=>by
 obtain⟨d,e,g,re,hd,a,hz,q⟩:=h
 obtain⟨as,f⟩:=g.reads I c
 obtain⟨bs,rb⟩:=re.reads I b
 refine SeqAt.compareEq_reads f rb hd a ?_ ⟨.bl _,H,I,rfl,q⟩
 exact mB (Nat.add_le_add_left (T2 (Nat.min_le_left ..) hz) _) (by lia)
end
section
variable{R:Sl->Prop}
theorem yA{x y:PyData}(a:x.canLay0=true)(b:y.canLay0=true)(hd:x.depth<=60)(h:R (.st (.bool (PyData.eqv x y)))):Op2 rEqL x y R:=λG H f g Q gh d c k =>
 ⟨x,y,(d.repL a).same gh,(c.repL b).same gh,a,b,hd,k _ _ _ _ _ (Out.refl gh (.bl _)) h⟩
end
end VL
namespace L2
open PySem PySem.Spec PyProof.Rows
def isV(k:Int):Value->Bool
 | .int a _=>decide (a=k)
 |_=>false
theorem NE{ns:List Int}{us:List Value}(r:Vals (ns.map V.int) us)(k:Int):∀ i (h:i<us.length) (h':i<ns.length),isV k us[i]=decide (ns[i]=k):=by
 induction ns generalizing us with
 |nil=>intro i h h';simp at h'
 | cons n ns ih =>
  rw[P2] at r
  cases r with
  | cons r1 r2 =>
   obtain⟨t,e⟩:=r1
   subst e
   intro i h h'
   cases i with
   |zero=>rfl
   |succ i=>exact ih r2 i (by simpa using h) (by simpa using h')
theorem WP{ns:List Int}{us:List Value}(r:Vals (ns.map V.int) us)(k:Int)(t:Tok):∀ y∈us,MeetsSeq.EqGives y (.int k t) (isV k y):=by
 induction ns generalizing us with
 |nil=>rw[List.map_nil] at r;cases r;intro y a;simp at a
 | cons n ns ih =>
  rw[P2] at r
  cases r with
  | cons r1 r2 =>
   obtain⟨u,e⟩:=r1
   subst e
   intro y a
   rcases Z0.mp a with rfl|a
   ·exact MeetsSeq.EqGives.int n k u t
   ·exact ih r2 y a
section
variable{X:Cx}
def HH:V->List V->Hp->VK->Prop:=λx vs H Q=>∃(l:Addr)(ns:List Int)(k:Int)(j:Nat),x=.ref l/\vs=[.int k]/\H l=some (.lst (ns.map V.int))/\ns[j]?=some k/\(∀ m,m<j->ns[m]? ≠ some k)/\Q (.int j) H
theorem UF:MtM X "list.index" HH:=by
 intro pins s σ H x vs v us Q I i o h
 obtain⟨l,ns,k,j,rfl,rfl,w,p,c,q⟩:=h
 cases i
 obtain⟨u,rfl,g⟩:=o.one
 obtain⟨t,rfl⟩:=g
 obtain⟨z,its,n,r,A,e⟩:=I.lstM w
 rw[T0] at A z
 obtain⟨b,f⟩:=J1.mp p
 have hz:sizeLine<2 ^ 62:=by decide
 refine call_meets F.slot_list_index ⟨_,e,rfl⟩ F.entry_list_index (F.args_list_index_2 _ _)
  (MeetsSeq.list_index l its.toArray n (.int k t) (isV k) (λy B=>WP r k t y (by simpa using B)) j (by rw[S2];lia) (by lia) ?_ (λm hm d=>?_)) ⟨e,?_⟩
 ·rw[List.getElem_toArray,NE r k j (by lia) b,O4 f]
 ·have a:m<ns.length:=by lia
  rw[List.getElem_toArray,NE r k m (by lia) a]
  exact O2 λe=>c m d (by rw[X0 a,e])
 ·exact⟨.int j,H,I.tok _,⟨_,rfl⟩,q⟩
variable{e est:Expr}{te:TE}{ts:TO}{pos p2:Pos}
end
end L2
namespace VL
open PySem PySem.Spec L2
section
variable{B:Bs}{env:En}{QO:Sl->En->Prop}{Q':PyData->En->Prop}{te tl:TE}{ts:TO}{K:Frag}{i:Nat}
theorem QQ(h:Ev B tl env λx g=>∃ ns:List Int,x=.list (ns.map .int)/\Ev B te g λy e2=>∃(k:Int)(j:Nat),y=.int k/\ns[j]?=some k/\(∀ m,m<j->ns[m]? ≠ some k)/\Q' (.int j) e2):Ev B (tBM K "list" HH tl (X1 te tNil)) env Q':=λσ G H F Q I k =>
 h σ G H F _ I λv D A n d g b r l z=>by
  obtain⟨ns,s,w⟩:=z
  subst s
  cases l with
  | @lst a vs _ ha rs =>
   have o:vs=ns.map V.int:=rs.ints_inv
   subst o
   refine⟨.inl ⟨rfl,_,SqL.of (b.gh _ _ ha)⟩,w σ D A n _ b λu J H2 F2 y e2 i f p ⟨c,j,E,C,L,q⟩=>?_⟩
   subst E
   cases p
   exact⟨a,ns,c,j,rfl,rfl,i.gh _ _ (f _ _ ha),C,L,k _ J H2 F2 _ e2 i (r.trans f) (.int _) q⟩
end
structure But(n:Int)(es rem:List (Int × Int)):Prop where
 rise:Rise es
 inn:∀ p∈es,0<=p.1/\p.1<p.2/\p.2<n
 all:∀ p:Int × Int,0<=p.1->p.1<p.2->p.2<n->p∈es\/p∈rem
end VL
namespace PopT
open PySem PyProof.Rows
section
variable{prog:Program}{w:World}{K:Type} [DecidableEq K] {knd:HeapKind prog w K} {A:Around} {E:Value->Shared->Prop} {s:Shared}
theorem qR{d a:Addr}{xs:List (K × Addr × Value)}{k:K}{j:Nat}{p:Addr × Value}{Q:Option DictEntry->Shared->Prop}(y:knd.room A)(b:knd.is s.heap k a)(hm:s.heap.DictOfH knd d xs)(m:xs[j]?=some (k,p))
  (D:∀ e h',e.val=p.2->h'.DictOfH knd d (xs.eraseIdx j)->Heap.SameBut d s.heap h'->Q (some e) { s with heap:=h',toks:=s.toks+knd.draws k })
  (hsz:xs.length<=sizeLine):wpAny (model prog w) A (Builtin.Dict.takeOut d (.ref a)) Q E s:=by
 obtain⟨o,es,ep,g,C,hd,c,h,hn⟩:=hm
 unfold Builtin.Dict.takeOut
 try with_reducible refine Z5 ?_
 refine C0 (knd.pyHash y b ?_)
 refine C0 (wpAny_dictFind_heap (s:={ s with toks:=s.toks+knd.draws k }) y b g hd c h hn (λn=>absurd m (n j p)) ?_)
 intro i q hi
 have r:i=j:=by
  have v:(xs.map (·.1))[i]?=some k:=by rw[o1,hi];rfl
  have e2:(xs.map (·.1))[j]?=some k:=by rw[o1,m];rfl
  have z:=(J1.mp v).1
  have H:=(J1.mp e2).1
  exact(List.getElem?_inj z hn).mp (v.trans e2.symm)
 subst r
 have u:es.size<=sizeLine:=by have e:=size_of_entries c;lia
 refine C0 (wpAny_dictEntries (s:={ s with toks:=s.toks+knd.draws k }) g hd ?_)
 rw[entry_at c i,m]
 refine C0 (wpAny_updateDictKeys (hz:=u) (s:={ s with toks:=s.toks+knd.draws k }) g hd (M0 (D _ _ rfl ⟨_,_,ep+1,Heap.get?_update_self _ g (Obj.isFreed_of_dict (Obj.data_mapDictKeys hd _)),
  C.mapDictKeys _,Obj.data_mapDictKeys hd _,?_,?_,?_⟩ (Heap.SameBut.update ..))))
 ·have B:∀{α β:Type}(f : α->β)(l:List α)(k:Nat),(l.map f).eraseIdx k=(l.eraseIdx k).map f:=by
   intro α β f l
   induction l with
   |nil=>intro k;rfl
   | cons a l ih =>
    intro k
    cases k with
    |zero=>rfl
    |succ k=>simp[ih k]
  rw[← B,← c]
  obtain⟨l⟩:=es
  have G:i<l.length:=by
   have:=(J1.mp m).1
   have e:=size_of_entries c
   simp at e;lia
  simp[Array.eraseIdxIfInBounds,G]
 ·intro x F
  exact knd.keeps (h x ((List.eraseIdx_sublist xs i).mem F)) g hd (Heap.SameBut.update ..)
 ·exact hn.sublist ((List.eraseIdx_sublist xs i).map _)
theorem meetsH_dict_pop{d a:Addr}(kp:keyPart (.ref a)=none) :
  MeetsIn prog w (Builtin.«dict.pop» ⟨[.ref d,.ref a],[]⟩) (λA R s=>knd.room A.in1/\∃ k xs j p,knd.is s.heap k a/\s.heap.DictOfH knd d xs/\xs.length<=sizeLine/\xs[j]?=some (k,p) /\
   ∀ h',h'.DictOfH knd d (xs.eraseIdx j)->Heap.SameBut d s.heap h'->R (.ok (.ret p.2)) { s with heap:=h',toks:=s.toks+knd.draws k }) :=
 .of_wp λA R s n=>by
  obtain⟨x,k,xs,j,p,b,hm,hsz,m,h⟩:=n
  have g:=hm
  obtain⟨o,es,ep,u,y,hd,r,v,hn⟩:=g
  have i:es.isEmpty=false:=by
   have e:=size_of_entries r
   have:=(J1.mp m).1
   cases q:es.isEmpty with
   |false=>rfl
   |true=>have:=Array.isEmpty_iff.mp q;rw[this] at e;simp at e;lia
  unfold Builtin.«dict.pop»
  refine C0 ?_
  unfold Builtin.Dict.keyAndDefault
  refine C0 (wpAny_notOrdered_dict hm.typeIs ?_)
  show wpAny _ _ (pure (d,Value.ref a,none)) _ _ s
  refine M0 ?_
  simp only[kp,Option.isSome_none,Bool.false_eq_true,if_false]
  refine C0 (wpAny_dictEntries u hd ?_)
  refine C0 (M0 ?_)
  simp only[i,Bool.false_eq_true,if_false]
  refine C0 (qR x b hm m (λe h' f c l=>?_) hsz)
  simp only[Option.isNone_some,Bool.false_eq_true,if_false]
  exact C0 (wpAny_letGo (M0 ⟨e.val,rfl,by rw[f];exact h h' c l⟩))
end
end PopT
namespace L2
open PySem PySem.Spec PySem.W PyProof.Rows
theorem KT.at{H:Hp}{kvs:List (List Key × V)}{xs:List (List Key × Addr × Value)}(r:KT H kvs xs):∀{j:Nat}{k:List Key}{v:V},kvs[j]?=some (k,v)->∃ p:Addr × Value,xs[j]?=some (k,p)/\RelV v p.2:=by
 induction r with
 |nil=>intro j k v e;simp at e
 | @cons p q ps qs hq t ih =>
  intro j k v e
  cases j with
  | zero =>
   have e:p=(k,v):=by simpa using e
   subst e
   exact⟨q.2,by rw[List.getElem?_cons_zero,show k=q.1 from hq.1],hq.2.2⟩
  |succ j=>exact ih (by simpa using e)
theorem KT.erase{H:Hp}{kvs:List (List Key × V)}{xs:List (List Key × Addr × Value)}(r:KT H kvs xs):∀(j:Nat),KT H (kvs.eraseIdx j) (xs.eraseIdx j):=by
 induction r with
 |nil=>intro j;exact .nil
 | @cons p q ps qs hq t ih =>
  intro j
  cases j with
  |zero=>exact t
  |succ j=>exact .cons hq (ih j)
section
variable{X:Cx}{pins:List (Addr × Obj)}{σ:St}{H:Hp}{s:Shared}{a b:Addr}{A:Around}{E:Value->Shared->Prop}
theorem ZP{kvs:List (List Key × V)}{k:List Key}{j:Nat}{v:V}{Q:Value->Shared->Prop}(D:A.units+1<cLine)(I:Inv X pins σ H s)(e:H a=some (.dT kvs))(C:H b=some (.tup (k.map kV)))(l:kvs[j]?=some (k,v))
  (h:∀ i n,Inv X pins σ (upd H a (.dT (kvs.eraseIdx j))) n->RelV v i->Q i n):wpAny (model X.prog X.w) A (call (.builtin "dict.pop") [.ref a,.ref b]) Q E s:=by
 obtain⟨z,hd,xs,d,dd⟩:=N9 I.hok e
 have hz:xs.length<=sizeLine:=by rw[← Paired.length d];exact z
 obtain⟨p,y,r⟩:=KT.at d l
 refine call_meetsIn PySem.F.slot_dict_pop dd.typeIs PySem.F.entry_dict_pop (PySem.F.args_dict_pop_2 _ _) (PopT.meetsH_dict_pop (knd:=tupleKind (N3 X.prog X.w)) rfl)
  ⟨tupleKind_room_in1 D,k,xs,j,p,V8 I.hok C,dd,hz,y,λh' f hs=>h p.2 _ ?_ r⟩
 obtain⟨q,es,ep,m,o,B,u,_,x⟩:=f
 refine KB I (by rw[e];exact True.intro) hs ⟨q,m⟩ ⟨T2 (List.length_eraseIdx_le kvs j) z,hd,_,(KT.erase d j).keeps λc ys g=>?_,q,es,ep,m,o,B,u,x⟩
 rw[z0 (Q8 g e (λz=>nomatch z))]
 exact g
end
def EH(td ty:TE):TE:=λσ H Q=>td σ H λx H1=>∃ a,x=.ref a/\IsD H1 a/\ty σ H1 λy H2=>∃ kvs k j v b,H2 a=some (.dT kvs)/\y=.ref b/\H2 b=some (.tup (k.map kV))/\kvs[j]?=some (k,v)/\Q v (upd H2 a (.dT (kvs.eraseIdx j)))
section
variable{X:Cx}{o e f:Expr}{apos cpos:Pos}{td ty tx:TE}
theorem UR(L:X.A.units+1<cLine)(z:PE X o td)(w:PE X e ty)(m:M1 X o "pop" apos e cpos):PE X (.Call (.Attribute o "pop" apos) [e] [] cpos) (EH td ty):=by
 intro pins s σ H Q I h
 refine wpAny_Call_method m.base m.few m.line PySem.F.plainAttrs_dict PySem.F.slot_dict_pop PySem.F.type_dict_pop (thn (z pins s σ H _ I h) λu s1 ⟨x,n,f,C,a,ex,d,i⟩=>?_)
 subst ex
 obtain rfl:u=Value.ref a:=C
 obtain⟨K,q,_⟩:=VH f d
 refine⟨K,q,?_⟩
 rw[m.trees]
 refine Calls.callWith_builtin rfl (Calls.evalArgs_plain (Calls.spliced_cons (thn (w pins s1 σ n _ f i) λr s2 ⟨y,H2,G,B,kvs,k,j,v,b,g,D,J,l,p⟩=>Calls.spliced_nil ?_)))
 subst D
 obtain rfl:r=Value.ref b:=B
 exact ZP L G g J l λM N E c=>⟨v,_,E,c,p⟩
end
end L2
namespace DNe
open PySem PyProof.Rows
theorem dict_ne_some(l b:Addr)(es:Array DictEntry)(n f:Nat)(dd a:Option Addr)(sl c:Array (Option Value))(j:(l == sysModules)=false)(i:(b == sysModules)=false)(m:(es.size != 0)=true) :
  Meets (Builtin.«dict.__ne__» ⟨[.ref l,.ref b],[]⟩)
   (λ_ R s=>s.heap.get? l=some { cls:=.type "dict",dict:=dd,data:=.dict es n,slots:=sl }/\s.heap.get? b=some { cls:=.type "dict",dict:=a,data:=.dict #[] f,slots:=c } /\
    R (.ok (.ret (.bool true))) s) :=
 .of_wp λprog w A R s h=>by
  obtain⟨o,g,d,p,os⟩:=s;obtain⟨r,hb,h⟩:=h
  have q:=PySem.F.sub_dict_dict
  wp_walk
  exact⟨_,rfl,h⟩
theorem sS{prog:Program}{w:World}{A:Around}{E:Value->Shared->Prop}{s:Shared}{Q:Bool->Shared->Prop}{id:String}{l b:Addr}{o f:Obj}{n i:Nat}(d:(l == sysModules)=false)(a:(b == sysModules)=false)
  (g:s.heap.get? l=some o) (hd:o.data=.dict #[] n) (hb:s.heap.get? b=some f) (c:f.data=.dict #[] i) (h:Q true s):wpAny (model prog w) A (Builtin.Dict.samePairs id l b) Q E s:=by
 unfold Builtin.Dict.samePairs Builtin.Dict.showsAll
 rw[d,a]
 simp only[Bool.false_eq_true,if_false]
 refine C0 (M0 (C0 (M0 ?_)))
 refine C0 (wpAny_dictEntries g hd (C0 (wpAny_dictEntries hb c ?_)))
 simp only[bne_self_eq_false,Bool.false_eq_true,if_false]
 refine C0 (wpAny_dictEpoch g hd ?_)
 rw[Std.Legacy.Range.forIn_eq_forIn_range']
 simp only[Std.Legacy.Range.size]
 exact C0 (M0 (M0 h))
theorem dict_ne_none(l b:Addr)(n j:Nat)(dd a:Option Addr)(sl c:Array (Option Value))(i:(l == sysModules)=false)(f:(b == sysModules)=false) :
  Meets (Builtin.«dict.__ne__» ⟨[.ref l,.ref b],[]⟩)
   (λ_ R s=>s.heap.get? l=some { cls:=.type "dict",dict:=dd,data:=.dict #[] n,slots:=sl }/\s.heap.get? b=some { cls:=.type "dict",dict:=a,data:=.dict #[] j,slots:=c } /\
    R (.ok (.ret (.bool false))) s) :=
 .of_wp λprog w A R s h=>by
  obtain⟨o,g,d,p,os⟩:=s;obtain⟨m,hb,h⟩:=h
  have q:=PySem.F.sub_dict_dict
  wp_walk using sS i f m rfl hb rfl
  exact⟨_,rfl,h⟩
end DNe
namespace L2
open PySem PySem.Spec PySem.W PyProof.Rows
def rNeE:R2:=λx y H Q=>∃ a b kvs,x=.ref a/\y=.ref b/\H a=some (.dT kvs)/\H b=some (.dT [])/\Q (.bl (!kvs.isEmpty)) H
theorem kL{X:Cx}(R:X.A.units+64<cLine):OpR X (compareOp .NotEq) rNeE:=by
 intro pins s σ H x y v u Q I L K h
 obtain⟨a,b,kvs,rfl,rfl,J,M,q⟩:=h
 obtain rfl:v=Value.ref a:=L
 obtain rfl:u=Value.ref b:=K
 obtain⟨_,c,xs,B,⟨cls,dd,data,sl⟩,es,ep,o,N,E,r,_,_⟩:=N9 I.hok J
 obtain⟨_,g,ys,j,⟨i,d,z,f⟩,fs,m,n,G,D,C,_,_⟩:=N9 I.hok M
 cases j
 have hf:fs = #[]:=by
  obtain⟨l⟩:=fs
  simp at C
  rw[C]
 subst hf
 have O:cls=.type "dict":=N.1
 have P:i=.type "dict":=G.1
 simp only at E D
 subst O P E D
 have hn:Value.bool true ≠ Value.notImplemented:=λx=>nomatch x
 have p:Value.bool false ≠ Value.notImplemented:=λx=>nomatch x
 cases B with
 | nil =>
  have w:es = #[]:=by
   obtain⟨l⟩:=es
   simp at r
   rw[r]
  subst w
  exact richCompare_meets_room (op:=.NotEq) ⟨_,o,rfl⟩ ⟨_,n,rfl⟩ PySem.F.slot_dict_ne PySem.F.entry_dict_ne (PySem.F.args_dict_ne_2 _ _) (DNe.dict_ne_none a b ep m dd d sl f c g)
   ⟨o,n,show Value.bool false ≠ Value.notImplemented/\_ from⟨p,⟨.bl false,H,I,rfl,q⟩⟩⟩ (by lia)
 | cons hq t =>
  have w:(es.size != 0)=true:=by
   have:=congrArg List.length r
   simp at this
   simp[this]
  exact richCompare_meets_room (op:=.NotEq) ⟨_,o,rfl⟩ ⟨_,n,rfl⟩ PySem.F.slot_dict_ne PySem.F.entry_dict_ne (PySem.F.args_dict_ne_2 _ _) (DNe.dict_ne_some a b es ep m dd d sl f c g w)
   ⟨o,n,show Value.bool true ≠ Value.notImplemented/\_ from⟨hn,⟨.bl true,H,I,rfl,q⟩⟩⟩ (by lia)
end L2
namespace DNe
open PySem PyProof.Rows
theorem AK(l:Addr)(es:Array DictEntry)(n:Nat)(dd:Option Addr)(sl:Array (Option Value))(a:(l == sysModules)=false) :
  Meets (Builtin.«dict.__len__» ⟨[.ref l],[]⟩)
   (λ_ R s=>s.heap.get? l=some { cls:=.type "dict",dict:=dd,data:=.dict es n,slots:=sl }/\R (.ok (.ret (.int (es.size:Int) s.toks))) { s with toks:=s.toks+1 }) :=
 .of_wp λprog w A R s h=>by
  obtain⟨c,g,d,f,os⟩:=s;obtain⟨b,h⟩:=h
  wp_walk
  exact⟨_,rfl,h⟩
section
variable{prog:Program}{w:World}{A:Around}{E:Value->Shared->Prop}{s:Shared}
theorem call_len_raw{d:Addr}{es:Array DictEntry}{n:Nat}{dd:Option Addr}{sl:Array (Option Value)}{Q:Value->Shared->Prop}(hd:(d == sysModules)=false)(b:s.heap.get? d=some { cls:=.type "dict",dict:=dd,data:=.dict es n,slots:=sl })(c:(es.size:Int)<2 ^ 63)
  (h:Q (.int (es.size:Int) (s.toks+1)) { s with toks:=s.toks+1+1 }):wpAny (model prog w) A (call (.builtin "len") [.ref d]) Q E s:=by
 have a:s.TypeIs (.ref d) "dict":=⟨_,b,rfl⟩
 refine Calls.call_function_entry kind_len plain_len entry_len (args_len1 _) ?_
 unfold Builtin.«len»
 refine C0 (m:=oneArg "len" _) (M0 ?_)
 refine C0 (m:=callSpecial? (.ref d) (Str.ofString "__len__")) (wpAny_callSpecial?_slot (name:=Str.ofString "__len__") a PySem.F.slot_dict_len
  (call_meets PySem.F.slot_dict_len a PySem.F.entry_dict_len (PySem.F.args_dict_len_1 _) (AK d es n dd sl hd) ⟨b,?_⟩))
 show wpAny _ _ _ _ _ { s with toks:=s.toks+1 }
 refine C0 (Z5 (M0 ?_))
 refine C0 (wpAny_letGo ?_)
 show wpAny _ _ (if (es.size:Int)<0 then _ else _) _ _ _
 rw[y0 (by lia)]
 show wpAny _ _ (if (es.size:Int) ≥ 2 ^ 63 then _ else _) _ _ _
 rw[y0 (by lia)]
 exact C0 (wpAny_mkInt (M0 ⟨_,rfl,h⟩))
end
end DNe
namespace L2
open PySem PySem.Spec PySem.W PyProof.Rows
def bH:List V->Hp->VK->Prop:=λxs H Q=>∃ a kvs,xs=[V.ref a]/\H a=some (.dT kvs)/\Q (.int kvs.length) H
theorem eP{X:Cx}:M2 X (.builtin "len") bH:=by
 intro pins s σ H xs us Q I r h
 obtain⟨a,kvs,rfl,ha,q⟩:=h
 obtain⟨u,rfl,d⟩:=Y4 r
 cases d
 obtain⟨z,hd,ys,b,⟨cls,dd,data,sl⟩,es,ep,j,g,c,f,_,_⟩:=N9 I.hok ha
 have i:cls=.type "dict":=g.1
 simp only at c
 subst i c
 have hs:es.size=kvs.length:=by
  have:=congrArg List.length f
  simp at this
  rw[this];exact(Paired.length b).symm
 refine DNe.call_len_raw hd j (by rw[sizeLine_eq] at z;lia) ?_
 rw[hs]
 exact⟨.int kvs.length,H,(I.tok _).tok _,⟨_,rfl⟩,q⟩
end L2
namespace VL
open PySem PySem.Spec L2
section
variable{B:Bs}{env:En}{Q':PyData->En->Prop}{QO:Sl->En->Prop}{i:Nat}{ty:TE}
theorem RpT.at{G:Hp}:∀{kvs:List (List Key × V)}{es:List (List Key × PyData)},RpT G kvs es->∀{j:Nat}{a:List Key}{d:PyData},es[j]?=some (a,d)->∃ v,kvs[j]?=some (a,v)/\Rp G v d
 |_,_,.nil,j,a,d,e=>by simp at e
 | _,_,.cons (k:=k) (v:=v) (d:=d0) h t,0,a,d,e=>by
  have e:(k,d0)=(a,d):=by simpa using e
  cases e
  exact⟨v,rfl,h⟩
 | _,_,.cons h t,j+1,a,d,e=>by
  obtain⟨v,b,r⟩:=RpT.at t (j:=j) (by simpa using e)
  exact⟨v,by simpa using b,r⟩
theorem RpT.erase{G:Hp}:∀{kvs:List (List Key × V)}{es:List (List Key × PyData)},RpT G kvs es->∀(j:Nat),RpT G (kvs.eraseIdx j) (es.eraseIdx j)
 |_,_,.nil,_=>.nil
 |_,_,.cons _ t,0=>t
 |_,_,.cons h t,j+1=>.cons h (RpT.erase t j)
theorem vK{es0:List (List Key × PyData)}(K:Has env i (OT es0))(h:Ev B ty env λy e2=>∃ es m j d,e2[i]?=some (some (.own (OT es)))/\y=tkD m/\es[j]?=some (m,d)/\Q' d (e2.set i (some (.own (OT (es.eraseIdx j)))))):Ev B (EH (tVar i) ty) env Q':=λσ G H F Q I k=>by
 obtain⟨v,p,a,kvs,z,ha,rt,_⟩:=I.has K
 subst z
 refine⟨_,p,a,rfl,.inr ⟨kvs,.inl ha⟩,h σ G H F _ I λu J H2 F2 y e2 r s x ⟨es,m,j,d,f,A,D,q⟩=>?_⟩
 subst A
 obtain⟨M,c,⟨L,g,n,o,l,hf⟩,hb⟩:=r.sl i _ f
 rw[p] at c;cases c;cases n
 cases x with
 | @tup b vs ds hk rs =>
  have:=ND rs
  subst this
  obtain⟨C,w,E⟩:=RpT.at l D
  refine⟨g,m,j,C,b,o,rfl,r.gh _ _ hk,w,?_⟩
  exact k _ J _ _ _ _ (r.upd1 (A':=OT (es.eraseIdx j)) f (.inl rfl) p hf ⟨a,_,rfl,K0,RpT.erase l j,λb=>Iff.rfl⟩) s E q
theorem HJ{es:List (List Key × PyData)}(d:Has env i (OT es))(q:Q' (.bool (!es.isEmpty)) env):Ev B (tOp rNeE (tVar i) lC) env Q':=λσ G H F Q I k=>by
 obtain⟨v,f,a,kvs,c,ha,rt,_⟩:=I.has d
 subst c
 refine⟨_,f,λp b=>⟨a,p,kvs,rfl,rfl,by rw[z0 (V2 ha b)];exact ha,K0,?_⟩⟩
 have o:=Out.newDT (xs:=[]) (ds:=[]) I.gh b .nil
 have e:kvs.isEmpty=es.isEmpty:=by cases rt <;> rfl
 rw[e]
 exact k _ G _ F _ env (I.out o).1 (Same.refl _) (.bl _) q
theorem kJ{es:List (List Key × PyData)}(b:Has env i (OT es))(q:Q' (.int es.length) env):Ev B (tCB bH (X1 (tVar i) tNil)) env Q':=λσ G H F Q I k=>by
 obtain⟨v,d,a,kvs,c,ha,rt,_⟩:=I.has b
 subst c
 refine⟨_,d,a,kvs,rfl,ha,?_⟩
 rw[(RpT.len rt).1]
 exact k _ G H F _ env I (Same.refl _) (.int _) q
@[reducible] def abw (es:List (Key × PyData)):PyData:=.dict (es.map λp=>(kD p.1,p.2))
theorem wM{a b:Key}(h:kD a=kD b):a=b:=by
 cases a <;> cases b <;> simp[kD] at h <;> rw[h]
theorem UH:∀{es fs:List (Key × PyData)},es.map (λp=>(kD p.1,p.2))=fs.map (λp=>(kD p.1,p.2))->es=fs
 |[],[],_=>rfl
 |[],_::_,h=>by simp at h
 |_::_,[],h=>by simp at h
 | (a,x)::es,(b,y)::fs,h=>by
  simp only[P2,List.cons.injEq,Prod.mk.injEq] at h
  rw[wM h.1.1,h.1.2,UH h.2]
theorem sB{G:Hp}{v:V}{es:List (Key × PyData)}(r:Rp G v (abw es))(b:es ≠ []):∃ a kvs,v=.ref a/\G a=some (.dK kvs)/\RpK G kvs es:=by
 cases r with
 |dk h rk e=>exact⟨_,_,rfl,h,by rw[UH e];exact rk⟩
 | @dt a kvs es' ds h rt e =>
  cases es with
  |nil=>exact absurd rfl b
  | cons p es =>
   cases es' with
   |nil=>simp at e
   | cons q es' =>
    simp only[P2,List.cons.injEq,Prod.mk.injEq] at e
    have:=e.1.1
    obtain⟨k,x⟩:=p
    cases k <;> simp[kD] at this
theorem UP{i:TE}(h:Ev B i env λx g=>Ev B ty g λy e2=>∃ es k d,x=abw es/\es ≠ []/\y=kD k/\valD es k=some d/\Q' d e2):Ev B (NA i ty) env Q':=λσ G H F Q I z =>
 h σ G H F _ I λv A s n x g l p m L=>L σ A s n _ l λu D H2 F2 y e2 j f o r=>by
  obtain⟨es,k,d,ex,c,C,E,q⟩:=r
  subst ex C
  obtain⟨a,kvs,rfl,ha,K⟩:=sB (m.same f) c
  obtain⟨w,J,b⟩:=(RpK.val K).2 d E
  have:=M9 o
  subst this
  exact⟨a,w,rfl,.inl ⟨kvs,k,.inl (j.gh _ _ ha),rfl,J.symm⟩,z _ D H2 F2 _ e2 j (p.trans f) b q⟩
theorem GI{o:TE}(h:Ev B o env λx m=>∃ es:List (Key × PyData),x=abw es/\es ≠ []/\Ev B ty m λy e2=>∃ k,y=kD k/\Q' ((valD es k).getD .none) e2):Ev B (KC o ty) env Q':=λσ G H F Q I n =>
 h σ G H F _ I λv J D z x m j l s C=>by
  obtain⟨es,ex,g,E⟩:=C
  subst ex
  obtain⟨a,kvs,rfl,ha,r⟩:=sB s g
  refine⟨a,rfl,.inl ⟨kvs,.inl (j.gh _ _ ha)⟩,E σ J D z _ j λu p H2 F2 y e2 i c A ⟨k,K,q⟩=>?_⟩
  subst K
  have:=M9 A
  subst this
  have b:=i.gh _ _ (c _ _ ha)
  cases hv:valD es k with
  | none =>
   rw[hv] at q
   exact⟨none,.inl ⟨kvs,k,.inl b,rfl,((RpK.val r).1 hv).symm⟩,n _ p H2 F2 _ e2 i (l.trans c) .non q⟩
  | some d =>
   rw[hv] at q
   obtain⟨w,L,f⟩:=(RpK.val r).2 d hv
   exact⟨some w,.inl ⟨kvs,k,.inl b,rfl,L.symm⟩,n _ p H2 F2 _ e2 i (l.trans c) (f.same c) q⟩
end
section
variable{B:Bs}{env:En}{QO:Sl->En->Prop}{Q':PyData->En->Prop}{K:Frag}{i:Nat}
end
theorem tN{α:Type}{K:Frag}{src:List (Option Nat)}{a:En}{te:TE}{c:TT}{R:List PyData->En->Prop}{xs:List α}{f : α->PyData}(g : α->PyData)(p : α->Bool)(q:noIo (D1 src a)=true)(L:xs.length<=999999)
  (h:∀ x∈xs,∀ j:Bs,j.K=K->EvT j c (some (.st (f x))::D1 src a) λb m=>b=p x/\m=some (.st (f x))::D1 src a/\(b=true->Ev j te (some (.st (f x))::D1 src a) λy u=>y=g x/\u=some (.st (f x))::D1 src a))
  (z:R ((xs.filter p).map g) a):LcV K (none::src) (D3 0) c te (xs.map f) a R:=by
 have l:noIo (D1 (none::src) a)=true:=by
  show((none::D1 src a).all λs=>!isIo s)=true
  rw[List.all_cons]
  exact(S5 _ _).mpr ⟨rfl,q⟩
 refine⟨λi ys e=>ys=((xs.take i).filter p).map g/\∃ o,e=stO o::D1 src a,⟨by simp,none,rfl⟩,?_,?_,?_⟩
 ·rintro i ys e ⟨_,o,rfl⟩
  exact⟨⟨isIo_stO.symm,kA⟩,W9 VA⟩
 ·rintro i d ys e hd ⟨rfl,o,rfl⟩ j A
  rw[o1] at hd
  cases hx:xs[i]? with
  |none=>rw[hx] at hd;cases hd
  |some x =>
  rw[hx] at hd
  cases hd
  have hi:i<xs.length:=(J1.mp hx).1
  have w:xs.take (i+1)=xs.take i++[x]:=by rw[G7,hx];rfl
  refine L4 ?_
  show EvT j c (some (.st (f x))::D1 src a) _
  intro σ G H F Q I k
  refine h x (v2 hx) j A σ G H F Q I λb G' H' F' m n g' ⟨hb,B,E⟩=>k b G' H' F' m n g' ?_
  subst B
  by_cases hp:b=true
  ·rw[t0 hp]
   intro σ G H F Q I k
   refine E hp σ G H F Q I λv G' H' F' d' u n g' C ⟨D,r⟩=>k v G' H' F' d' u n g' C ?_
   subst D r
   refine⟨?_,?_,some _,rfl⟩
   ·have:=qB p (xs.take i)
    simp only[T0]
    have J:(xs.take i).length<=i:=by simp;lia
    lia
   ·rw[w,List.filter_append,w4]
    have:p x=true:=by rw[← hb];exact hp
    simp[this]
  ·rw[y0 hp]
   refine⟨?_,some _,rfl⟩
   rw[w,List.filter_append,w4]
   have:p x=false:=by rw[← hb];simpa using hp
   simp[this]
 ·rintro ys e ⟨rfl,o,rfl⟩
  rw[xA l,T0,D6]
  exact z
section
variable{B:Bs}{env:En}{QO:Sl->En->Prop}{Q':PyData->En->Prop}{K:Frag}{i:Nat}
theorem RF{r j:TE}(h:Ev B r env λd n=>EvO B j n λs e2=>∃ ds,s=.own (OL ds)/\QO (.own (OW d ds)) e2):EvO B (tTup (X1 r (X1 j tNil))) env QO:=λσ G H F Q I k =>
 h σ G H F _ I λv L K C d n y D A M=>M σ L K C _ y λw u H2 F2 Fv s e2 f i x E=>by
  obtain⟨ds,es,q⟩:=E
  subst es
  obtain⟨l,vs,rfl,g,rs,hf⟩:=x.ok
  refine⟨show(2:Nat)<=sizeLine by rw[sizeLine_eq];decide,λp c=>?_⟩
  have pl:p ≠ l:=(V2 g c).symm
  have J:VI B u (upd H2 p (.tup [v,.ref l])) σ e2 F2:=f.grow (Same.refl _) (f.gh.trans (R4 c)) (R4 c) (λa o e=>.inl e) λa N e=>by
   by_cases z:a=p
   ·subst z;rw[K0] at e;exact absurd (M3 e) TF
   ·rw[z0 z] at e;exact f.ft a N e
  refine k _ u _ _ (λa=>a=p\/a=l) (.own (OW d ds)) _ J (D.trans i) ⟨⟨p,l,v,vs,rfl,K0,A.same i,by rw[z0 pl.symm];exact g,rs,λb=>Iff.rfl⟩,λa z=>?_,λa z=>?_,λa z=>?_,λm a z=>?_⟩ q
  ·rcases z with rfl|rfl
   ·exact f.no_b c
   ·exact x.fb a ((hf a).mpr rfl)
  ·rcases z with rfl|rfl
   ·exact f.no_g c
   ·exact x.fg a ((hf a).mpr rfl)
  ·rcases z with rfl|rfl
   ·exact⟨_,K0⟩
   ·exact⟨_,by rw[z0 pl.symm];exact g⟩
  ·rcases z with rfl|rfl
   ·exact f.no_f c m
   ·exact x.fd m a ((hf a).mpr rfl)
end
section
variable{B:Bs}{env:En}{QO:Sl->En->Prop}{Q':PyData->En->Prop}{K:Frag}{E:XK}{i:Nat}
end
inductive RpF(G:Hp):List (Str × V)->List (Str × PyData)->Prop
 |nil:RpF G [] []
 |cons {x:Str} {u:V} {d:PyData} {us:List (Str × V)} {fs:List (Str × PyData)}:Rp G u d->RpF G us fs->RpF G ((x,u)::us) ((x,d)::fs)
def putP(x:Str)(d:PyData):List (Str × PyData)->List (Str × PyData)
 |[]=>[(x,d)]
 |(y,e)::fs=>if y=x then (y,d)::fs else (y,e)::putP x d fs
theorem RpF.same{G G':Hp}{us:List (Str × V)}{fs:List (Str × PyData)}(h:RpF G us fs)(g:Same G G'):RpF G' us fs:=by
 induction h with
 |nil=>exact .nil
 |cons r _ ih=>exact .cons (r.same g) ih
theorem RpF.get{G:Hp}{x:Str}{d:PyData}{us:List (Str × V)}{fs:List (Str × PyData)}(h:RpF G us fs)(e:fs.lookup x=some d):∃ u,us.lookup x=some u/\Rp G u d:=by
 induction h with
 |nil=>cases e
 | @cons y u d' us fs r _ ih =>
  rw[M4] at e ⊢
  cases hx:x == y with
  |true=>rw[hx] at e;cases e;exact⟨u,rfl,r⟩
  |false=>rw[hx] at e;exact ih e
theorem RpF.no{G:Hp}{x:Str}{us:List (Str × V)}{fs:List (Str × PyData)}(h:RpF G us fs)(e:fs.lookup x=none):us.lookup x=none:=by
 induction h with
 |nil=>rfl
 | @cons y u d' us fs r _ ih =>
  rw[M4] at e ⊢
  cases hx:x == y with
  |true=>rw[hx] at e;cases e
  |false=>rw[hx] at e;exact ih e
theorem RpF.length{G:Hp}{us:List (Str × V)}{fs:List (Str × PyData)}(h:RpF G us fs):us.length=fs.length:=by
 induction h with
 |nil=>rfl
 |cons _ _ ih=>simp[ih]
theorem RpF.put{G:Hp}{x:Str}{u:V}{d:PyData}{us:List (Str × V)}{fs:List (Str × PyData)}(h:RpF G us fs)(r:Rp G u d):RpF G (L2.putF x u us) (putP x d fs):=by
 induction h with
 |nil=>exact .cons r .nil
 | @cons y u' d' us fs r' hh ih =>
  unfold L2.putF putP
  by_cases e:y=x
  ·rw[t0 e,t0 e];first|exact .cons r hh|(rw[e];exact .cons r hh)
  ·rw[y0 e,y0 e];exact .cons r' ih
def OI(C:Addr)(fs:List (Str × PyData)):Own where
 P:=λG H v F=>∃ a dx us,v=.ref a/\H a=some (.ins C dx us)/\H dx=some (.own a)/\RpF G us fs/\∀ b,F b ↔ b=a\/b=dx
 mono:=λ⟨a,dx,us,e,h1,h2,r,f⟩ g hh=>⟨a,dx,us,e,hh a _ ((f a).mpr (.inl rfl)) h1,hh dx _ ((f dx).mpr (.inr rfl)) h2,r.same g,f⟩
 dom:=λ⟨a,dx,us,e,h1,h2,r,f⟩ b z=>by
  rcases(f b).mp z with rfl|rfl
  ·exact⟨_,h1⟩
  ·exact⟨_,h2⟩
section
variable{B:Bs}{env:En}{QO:Sl->En->Prop}{Q':PyData->En->Prop}{D':VEnds}{K:Frag}{C:Addr}{i:Nat}{fs:List (Str × PyData)}{x:Str}{tv:TE}
theorem Y8{d:PyData}(g:Has env i (OI C fs))(c:Cls K C)(n:NoAttr K C x)(hd:fs.lookup x=some d)(q:Q' d env):Ev B (tFld K (tVar i) x) env Q':=λσ G H F Q I k=>by
 obtain⟨v,j,a,dx,us,rfl,h,m,r,f⟩:=I.has g
 obtain⟨u,l,b⟩:=r.get hd
 exact⟨_,j,a,C,dx,us,u,rfl,h,c,n,l,k u G H F d env I (Same.refl _) b q⟩
theorem xI(c:Cls K C)(n:NoAttr K C x)(h:EvO B tv env λs g=>FQ s λd=>∃ s0,g[i]?=some (some s0)/\(s0=.own (OI C fs)\/s0=.io (OI C fs))/\fs.length<1000/\D'.nx (g.set i (some (reS s0 (OI C (putP x d fs)))))):EvS B (sFld K (tVar i) tv x) D' env:=λσ G H F D I r =>
 F3 (te:=tv) (Q':=λd g=>∃ s0,g[i]?=some (some s0)/\(s0=.own (OI C fs)\/s0=.io (OI C fs))/\fs.length<1000/\D'.nx (g.set i (some (reS s0 (OI C (putP x d fs)))))) h σ G H F _ I λy R p o d g l O S Q=>by
  obtain⟨s0,u,hs,T,q⟩:=Q
  obtain⟨v,E,j⟩:=l.sl i _ u
  have ap:(OI C fs).P R p v (o i):=by
   rcases hs with rfl|rfl
   ·exact j.1
   ·exact j.1
  obtain⟨a,dx,us,rfl,M,L,rf,f⟩:=ap
  refine⟨_,E,a,C,dx,us,rfl,M,c,n,by rw[rf.length];exact T,?_⟩
  have N:a ≠ dx:=Q8 M L (by intro z;cases z)
  have J:=l.change (A:=OI C (putP x d fs)) (H2:=upd p a (.ins C dx (L2.putF x y us))) (F2:=o i) (os':=reS s0 (OI C (putP x d fs))) i u E (λb w hb m=>by rw[z0 (λz:b=a=>hb ((f b).mpr (.inl z)))];exact m)
   (λb w m=>by
    by_cases z:b=a
    ·rw[z];exact⟨_,K0⟩
    ·rw[z0 z];exact⟨w,m⟩)
   (λb z=>⟨.inl z,by
    by_cases y:b=a
    ·rw[y];exact⟨_,K0⟩
    ·rw[z0 y];exact l.fo i b z⟩) ⟨a,dx,_,rfl,K0,by rw[z0 N.symm];exact L,rf.put S,f⟩ (λb U e=>by
    by_cases z:b=a
    ·subst z;rw[K0] at e;cases e
    ·rw[z0 z] at e;exact l.ft b U e) (by
    rcases hs with rfl|rfl
    ·exact .inl ⟨rfl,_,rfl⟩
    ·exact .inr ⟨rfl,_,rfl⟩)
  exact r.nx _ _ _ _ _ J O q
theorem S9{f:VIo}{t:TA}{E:XK}{m:Str}(g:Has env i (OI C fs))(hm:fs.lookup m=none)(h:EvA B t env λds c=>∃ s0 A,c[i]?=some (some s0)/\(s0=.own A\/s0=.io A)/\f A (ds.map Sl.st) λA' s=>QO s (c.set i (some (reS s0 A')))):EvO B (T7 C m (spI K f) [] E (tVar i) t) env QO:=λσ G H F Q I k=>by
 obtain⟨v,d,a,dx,us,rfl,l,p,r,o⟩:=I.has g
 have j:∃ s,env[i]?=some (some s):=by rcases g with e|e <;> exact⟨_,e⟩
 have:=fC (K:=K) (E:=E) j h σ G H F Q I k
 unfold o3 at this
 simp only[n5] at this
 obtain⟨n,b,q⟩:=this
 rw[d] at b
 cases b
 unfold T7
 simp only[n5]
 exact⟨_,d,a,dx,us,rfl,l,r.no hm,q⟩
theorem JH{f:VIo}{t:TA}{E:XK}{m:Str}(b:Has env i (OI C fs))(hm:fs.lookup m=none)(h:EvA B t env λds a=>∃ s0 A,a[i]?=some (some s0)/\(s0=.own A\/s0=.io A)/\f A (ds.map Sl.st) λA' s=>FQ s λd=>Q' d (a.set i (some (reS s0 A')))):Ev B (T7 C m (spI K f) [] E (tVar i) t) env Q':=F3 (S9 b hm h)
theorem RL{f:VIo}{t:TA}{E:XK}(N:B.K=K)(h:EvA B t env λds i=>f (OI C []) (ds.map Sl.st) λA' s=>s=.st .none/\QO (.own A') i):EvO B (FC C (spI K f) [] E t) env QO:=λσ G H F Q I k =>
 h σ G H F _ I λvs n d u ds i g D p L=>by
  intro x dx nx c m
  simp only[n5]
  have hs:Same d (upd (upd d dx (.own x)) x (.ins C dx [])):=λa o e=>by rw[z0 (V2 e nx),z0 (V2 e c)];exact e
  have l:FT n (upd (upd d dx (.own x)) x (.ins C dx [])):=λa M e=>by
   by_cases z:a=x
   ·subst z;rw[K0] at e;cases e
   ·rw[z0 z] at e
    by_cases z2:a=dx
    ·subst z2;rw[K0] at e;cases e
    ·rw[z0 z2] at e;exact g.ft a M e
  refine⟨.ref x,vs,n,d,OI C [],_,λb=>b=x\/b=dx,_,rfl,g.gh.trans hs,l,hs,⟨x,dx,[],rfl,K0,by rw[z0 m,K0],.nil,λb=>Iff.rfl⟩,λa z=>?_,λa z=>?_,ArgsOk.of p,L,λA' s ⟨es,q⟩ v G' H' F' Fv o=>?_⟩
  ·rcases z with rfl|rfl
   ·exact g.no_g nx
   ·exact g.no_g c
  ·rcases z with rfl|rfl
   ·exact nx
   ·exact c
  ·subst es
   have A:v=.non:=by
    obtain⟨r,_⟩:=o.ok
    cases r
    rfl
   have hh:Same d H':=o.rs
   have J:=g.grow o.gg o.gh hh (λa w e=>by
    rcases o.gn a w e with z|z
    ·exact .inl z
    ·refine .inr ?_
     cases i:d a with
     |none=>rfl
     |some w1=>rw[hs a w1 i] at z;cases z) o.ft
   have hn:∀ a,F' a->d a=none:=λa z=>by
    rcases o.fi a z with y|y
    ·rcases y with rfl|rfl
     ·exact nx
     ·exact c
    ·cases i:d a with
     |none=>rfl
     |some w1=>rw[hs a w1 i] at y;cases y
   exact⟨A,k (.ref x) G' H' u F' (.own A') i J (D.trans o.gg) ⟨o.ap,λa z=>g.no_b (hn a z),λa z=>o.fg a z,λa z=>A'.dom o.ap a z,λj a z=>g.no_f (hn a z) j⟩ q⟩
end
theorem t6{x:Str}{d:PyData}:List.lookup x [(x,d)]=some d:=by rw[M4,beq_self_eq_true]
theorem E6{x m:Str}{d:PyData}(h:(m == x)=false):List.lookup m [(x,d)]=none:=by rw[M4,h];rfl
theorem put1{x:Str}{d e:PyData}:putP x e [(x,d)]=[(x,e)]:=by unfold putP;rw[t0 rfl]
end VL
namespace L2
open PySem PySem.Spec
structure ObAt(K:Frag)(mg:Str->Option Value)(x:Str)(C:Addr):Prop where
 mgx:mg x=some (.ref C)
 cl:Cls K C
 mks:PySem.W.makesIn K C=true
 kp:keepIn K (.ref C)=true
structure MeAt(K:Frag)(C:Addr)(m qn:Str)(st:Stmt)(ps:List Str)(f:Addr)(fd:FuncData):Prop where
 fn:Fun K m qn st f fd
 me:Meth K C m f
 bd:Binds K fd ps []
structure MeOk(P:Program)(w:World)(K:Frag)(mg:Str->Option Value)(base:Heap)(C:Addr)(m:Str)(k:Nat)(ps:List Str)(sp:Sp)(f:Addr)(fd:FuncData):Prop where
 me:Meth K C m f
 ok:FnOk P w K mg base CX0 k f fd ps sp
 bd:Binds K fd ps []
def CanM(P:Program)(w:World)(K:Frag)(mg:Str->Option Value)(base:Heap)(C:Addr)(m:Str)(k:Nat)(ps:List Str)(sp:Sp):Prop:=∃ f fd,MeOk P w K mg base C m k ps sp f fd
theorem MeAt.can{P:Program}{w:World}{K:Frag}{mg:Str->Option Value}{base:Heap}{C:Addr}{m qn:Str}{st:Stmt}{k:Nat}{ps:List Str}{sp:Sp}{f:Addr}{fd:FuncData}(D:MeAt K C m qn st ps f fd)(ok:FnOk P w K mg base CX0 k f fd ps sp):CanM P w K mg base C m k ps sp:=⟨f,fd,D.me,ok,D.bd⟩
section
variable{X:Cx}{k j:Nat}{ps:List Str}{sp:Sp}{x m:Str}{p pos apos:Pos}{o e:Expr}{es:List Expr}{t:TA}{ta:TE}{C:Addr}
theorem p9{pl:Sem Bool}(F:CanM X.prog X.w X.K X.mg X.base C m k ps sp)(c:Cls X.K C)(h:Room j X.A)(d:PE X o ta)(ha:PA X (e::es) t)(i:k<=j:=by decide)
  (b:starEach (e::es) X.env=(false,eval e X.env)::starEach es X.env:=by rfl) (a:(backTo pos (starEach es X.env)).any (·.1)=false:=by rfl)
  (g:eval (.Call (.Attribute o m apos) (e::es) [] pos) X.env=(do
   let ov ← eval o X.env
   standAt apos.atName
   let (f,first) ← holding [ov] (getMethod ov m pl)
   callWith pos f first (backTo pos (starEach (e::es) X.env)) (backToKw pos (keywordEach [] X.env))):=by rfl) :
  PE X (.Call (.Attribute o m apos) (e::es) [] pos) (T7 C m sp [] E0 ta t):=by
 obtain⟨f,fd,M⟩:=F
 exact OK d c M.me M.ok (h.mono i) M.bd .nil KA ha b a g
theorem gM{pl:Sem Bool}(F:CanM X.prog X.w X.K X.mg X.base C m k ps sp)(c:Cls X.K C)(d:Room j X.A)(a:PE X o ta)(g:k<=j:=by decide)
  (b:eval (.Call (.Attribute o m apos) [] [] pos) X.env=(do
   let ov ← eval o X.env
   standAt apos.atName
   let (f,first) ← holding [ov] (getMethod ov m pl)
   callWith pos f first (backTo pos (starEach [] X.env)) (backToKw pos (keywordEach [] X.env))):=by rfl) :
  PE X (.Call (.Attribute o m apos) [] [] pos) (T7 C m sp [] E0 ta tNil):=by
 obtain⟨f,fd,M⟩:=F
 exact CN a c M.me M.ok (d.mono g) M.bd .nil KA b
theorem sK(F:CanM X.prog X.w X.K X.mg X.base C "__init__" k ps sp)(O:ObAt X.K X.mg x C)(d:Room j X.A)(ha:PA X (e::es) t)(g:k+1<=j:=by decide)(h:Gl X x:=by rfl)(a:(x == ("__debug__" : Str))=false:=by decide)
  (c:starEach (e::es) X.env=(false,eval e X.env)::starEach es X.env:=by rfl) (b:(backTo pos (starEach es X.env)).any (·.1)=false:=by rfl) :
  PE X (.Call (.Name x p) (e::es) [] pos) (FC C sp [] E0 t):=by
 obtain⟨f,fd,M⟩:=F
 exact vM ⟨O.mks,M.me.at_,M.me.fn,O.kp⟩ M.ok (d.mono g) h O.mgx M.bd .nil KA ha a c b
end
end L2
namespace L2
open PySem PySem.Spec PyProof.Rows
structure FlyT(base:Heap)(l:List Env)(e T:Addr)(cls:Value)(h:Heap):Prop where
 stay:base.StaysIn h
 new:base.get? e=none
 newT:base.get? T=none
 funs:h.FunFrames base l
 tr:∃ oe vs oT ts a0,h.get? e=some oe/\(oe.cls=cls/\vs[0]?=some a0)/\oe.data=.fields vs/\vs[1]?=some (.ref T)/\T ≠ e/\h.get? T=some oT/\oT.data=.fields ts/\ts[3]?=some .none
theorem FlyT.of{base a h':Heap}{as:List Addr}{l:List Env}{e:Addr}{cls a0:Value}(x:Heap.FlyingW (PySem.W.hideAll a as) l e cls a0 h')(j:a.UpToSlots h')(st:base.StaysIn a)(ha:∀ b∈as,base.get? b=none)(fn:a.FunFrames base l)(ne:base.get? e=none) :
  ∃ T,FlyT base l e T cls h'/\(T∈as\/a.get? T=none):=by
 obtain⟨k1,k2,k3,oe,vs,T,oT,ts,i,n,hd,r,h,g,d,f,p⟩:=x
 have c:T∈as\/a.get? T=none:=by
  by_cases m:T∈as
  ·exact .inl m
  ·cases q:a.get? T with
   |none=>exact .inr rfl
   |some o=>rw[PySem.W.hideAll_get as q m] at h;cases h
 refine⟨T,⟨λb o q=>k1 b o (PySem.W.hideAll_get as (st b o q) λm=>by rw[ha b m] at q;cases q),ne,?_,fn.of_keeps λb o hb hn=>?_,oe,vs,oT,ts,a0,i,n,hd,r,g,d,f,p⟩,c⟩
 ·rcases c with m|m
  ·exact ha T m
  ·exact PySem.W.fresh_of_stays st m
 ·obtain⟨sl,q⟩:=j b o hb hn
  exact⟨_,q,rfl⟩
theorem iE{base c h':Heap}{l d:List Env}{e T:Addr}{cls:Value}(fn:c.FunFrames base l)(g:c.UpToSlots h')(y:FlyT base d e T cls h'):T ∉ frs l:=λm=>by
 obtain⟨_,o,f,hn⟩:=fn.mem m
 obtain⟨sl,q⟩:=g T o f hn
 obtain⟨oe,vs,oT,ts,a0,_,_,_,_,_,a,b,_⟩:=y.tr
 rw[q] at a;cases a
 exact hn ts b
theorem RC{l:List Env}:∀ env∈l,∀ a,env.frame=some a->a∈frs l:=λenv b a ha=>List.mem_filterMap.mpr ⟨env,b,ha⟩
section
variable{M:Model}{A:Around}{E:Value->Shared->Prop}{s:Shared}{base:Heap}{env:Env}{outer:List Env}{L e T:Addr}{cls:Value}{Q:Unit->Shared->Prop}
theorem zO(d:A.frames=some (env::outer))(hf:env.frame=some L)(x:FlyT base (env::outer) e T cls s.heap)
  (B:∀ h' c,FlyT base outer e c cls h'->(c=T\/s.heap.get? c=none)->(∀ b o,s.heap.get? b=some o->b ≠ e->b ≠ T->b ∉ frs (env::outer)->h'.get? b=some o)->s.heap.UpToSlots h'->Q () { s with heap:=h' }):wpAny M A (leaving env (.ref e)) Q E s:=by
 obtain⟨oe,vs,oT,ts,a0,v,w,hd,D,j,g,h,C⟩:=id x.tr
 refine wpAny_leaves_onW (base:=PySem.W.hideAll s.heap (e::T::frs (env::outer))) d hf ⟨λb o q=>PySem.W.of_hideAll _ q,PySem.W.hideAll_none _ (.head _),PySem.W.funFrames_hide x.funs λm hn a ha=>.tail _ (.tail _ (RC m hn a ha)),
  oe,vs,T,oT,ts,v,w,hd,D,PySem.W.hideAll_none _ (.tail _ (.head _)),j,g,h,C⟩ λh' f i=>?_
 obtain⟨c,y,l⟩:=FlyT.of (base:=base) f i x.stay (λb hb=>by
  rcases Z0.mp hb with z|hb
  ·rw[z];exact x.new
  ·rcases Z0.mp hb with z|hb
   ·rw[z];exact x.newT
   ·exact(x.funs.mem hb).1) x.funs.2.2 x.new
 refine B h' c y ?_ (λb o q r u p=>f.1 b o (PySem.W.hideAll_get _ q λz=>?_)) i
 ·rcases l with z|z
  ·rcases Z0.mp z with z|z
   ·obtain⟨_,_,_,_,_,_,_,_,_,n,_⟩:=y.tr
    exact absurd z n
   ·rcases Z0.mp z with z|z
    ·exact .inl z
    ·exact absurd z (iE x.funs i y)
  ·exact .inr z
 ·rcases Z0.mp z with z|z
  ·exact r z
  ·rcases Z0.mp z with z|z
   ·exact u z
   ·exact p z
theorem TM{h:Heap}{args:List Value}(d:A.frames=some (env::outer))(hf:env.frame=some L)(st:base.StaysIn h)(fn:h.FunFrames base (env::outer))(g:Heap.MadeExcOf h s.heap e cls args)
  (l:∀ h' c,FlyT base outer e c cls h'->h.get? c=none->(∀ b o,h.get? b=some o->b ∉ frs (env::outer)->h'.get? b=some o)->h.UpToSlots h'->Q () { s with heap:=h' }):wpAny M A (leaving env (.ref e)) Q E s:=by
 refine wpAny_leaves_madeW (base:=PySem.W.hideAll h (frs (env::outer))) d hf (λb o q=>PySem.W.of_hideAll _ q) (PySem.W.funFrames_hide fn RC) g λh' t f _ _ j=>?_
 have a:h.UpToSlots h':=(Heap.UpToSlots.of_keeps g.keeps).trans j
 obtain⟨c,y,i⟩:=FlyT.of (base:=base) f a st (λb hb=>(fn.mem hb).1) fn.2.2 (PySem.W.fresh_of_stays st g.new)
 refine l h' c y ?_ (λb o q n=>f.1 b o (PySem.W.hideAll_get _ q n)) a
 rcases i with z|z
 ·exact absurd z (iE fn a y)
 ·exact z
end
theorem ObjOk.has{P:Program}{w:World}{H:Hp}{h:Heap}{a:Addr}{o:HO}(x:ObjOk P w H h a o):∃ b,h.get? a=some b:=by
 cases o with
 |lst xs=>obtain⟨_,_,_,_,e⟩:=x;exact⟨_,e⟩
 |tup xs=>obtain⟨_,_,_,b,e,_⟩:=x;exact⟨_,e⟩
 |dK kvs=>obtain⟨_,_,_,_,o,_,_,e,_⟩:=x;exact⟨_,e⟩
 |dT kvs=>obtain⟨_,_,_,_,o,_,_,e,_⟩:=x;exact⟨_,e⟩
 |set S n=>obtain⟨o,_,_,_,e,_⟩:=x;exact⟨_,e⟩
 |ins C dx fs=>obtain⟨_,_,_,e,_⟩:=x;exact⟨_,e⟩
 |own y=>exact x
 |xd fs=>obtain⟨_,⟨_,_,_,e,_⟩,_⟩:=x;exact⟨_,e⟩
 |rng lo hi=>obtain⟨_,_,_,e⟩:=x;exact⟨_,e⟩
 |frz b u=>obtain⟨e,_⟩:=x;exact⟨_,e⟩
 |tbl ps=>exact⟨_,show h.get? a=some _ from x⟩
 |met f y=>exact⟨_,show h.get? a=some _ from x⟩
 |ext φ=>obtain⟨_,e,_⟩:=x;exact e
theorem HOk.no{P:Program}{w:World}{H:Hp}{h:Heap}{a:Addr}(x:HOk P w H h)(e:h.get? a=none):H a=none:=by
 cases q:H a with
 |none=>rfl
 |some o=>obtain⟨b,z⟩:=(x a o q).has;rw[e] at z;cases z
def CXE(P:Program)(w:World)(base:Heap):CXT:=λouter H s E e s'=>∃ ea T C H',e=.ref ea/\s'.os=s.os/\AllBare s'.gens/\Un (frs outer) [] H H' s.heap s'.heap/\HOk P w H' s'.heap /\
 FlyT base outer ea T (.ref C) s'.heap/\s.heap.get? ea=none/\s.heap.get? T=none/\H' ea=none/\H' T=none/\E (.ref C) none H'
section
variable{P:Program}{w:World}{K:Frag}{mg:Str->Option Value}{base:Heap}{N:List Str}{qual:Str}{scope:Scope}{f:Addr}{cd:Value}{A:Around}{outer:List Env}{s0:Shared}{H0:Hp}{E:XK}
theorem Un.back{X:Cx}{pins:List (Addr × Obj)}{σ:St}{H:Hp}{s:Shared}{h':Heap}(I:Inv X pins σ H s)(i:X.ex=[])(keep:∀ b o,X.s₀.heap.get? b=some o->s.heap.get? b=some o->b ∉ frs X.stack->h'.get? b=some o)
  (a:∀ b o o',X.s₀.heap.get? b=some o->s.heap.get? b=some o'->∃ f,h'.get? b=some f) (h:s.heap.UpToSlots h'):Un X.fs [] X.H₀ H X.s₀.heap h':=by
 have nl:∀ b o,X.s₀.heap.get? b=some o->b ∉ X.fs->b ∉ frs X.stack:=λb o q g m=>by
  rcases Z0.mp (I.stkSub b m) with z|z
  ·exact absurd (E4 (Q0 q) (z ▸ I.ok.above)) (S4 _)
  ·exact g z
 have nx:∀ b:Addr,b ∉ X.ex:=λb z=>by rw[i] at z;cases z
 refine⟨λb o q n hb _=>keep b o q (I.base.keep b o q n hb (nx b)) (nl b o q hb),λb o q n hb _=>?_,λb o q n _=>I.base.free b o q n (nx b),λb o q _=>?_,I.base.tups,I.base.frzs,I.base.tbls⟩
 ·obtain⟨sl,e⟩:=I.base.slot b o q n hb (nx b)
  obtain⟨_,o',d,hn⟩:=I.funs.mem hb
  rw[e] at d;cases d
  obtain⟨c,e2⟩:=h b _ e hn
  exact⟨c,e2⟩
 ·obtain⟨o',e⟩:=I.base.there b o q (nx b)
  exact a b o o' q e
theorem lM:L7 (CXE P w base) (cxOf (CXE P w base) P w K mg base N qual scope f cd A outer s0 H0 E) E:=by
 intro pins σ H s e O I h
 obtain⟨g,T,C,H',rfl,x,D,un,hok,n,ne,Q,p,B,M⟩:=h
 have J:=I.call' x un hok D (λb z=>absurd z (by simp))
 have pre:∀ b o,s0.heap.get? b=some o->∃ o',s.heap.get? b=some o':=λb o q=>I.base.there b o q (λz=>absurd (show b∈([]:List Addr) from z) (by simp))
 have i:∀ b o,s0.heap.get? b=some o->b ≠ g:=λb o q z=>by obtain⟨o',r⟩:=pre b o q;rw[z,ne] at r;cases r
 have j:∀ b o,s0.heap.get? b=some o->b ≠ T:=λb o q z=>by obtain⟨o',r⟩:=pre b o q;rw[z,Q] at r;cases r
 refine zO I.ok.frames rfl n λh' a l d keep y=>?_
 have U:=Un.back J rfl (h':=h') (λb o q r m=>keep b o r (i b o q) (j b o q) m) (λb o o' q r=>by
  by_cases m:b∈frs (envOfC qual scope s0.heap.objs.size f cd::outer)
  ·obtain⟨_,F,e2,hn⟩:=n.funs.mem m
   obtain⟨sl,G⟩:=y b F e2 hn
   exact⟨_,G⟩
  ·exact⟨o',keep b o' r (i b o q) (j b o q) m⟩) y
 have tr:∀ b u,H' b=some u->∀ v,O.heap.get? b=some v->h'.get? b=some v:=λb u q v r=>keep b v r (λz=>by rw[z,p] at q;cases q) (λz=>by rw[z,B] at q;cases q) (λm=>by rw[J.stkFree b m] at q;cases q)
 refine⟨g,a,C,H',rfl,x.trans I.os,D,U,λb u q=>(hok b u q).stay (λc v L r=>?_) (λ_ q=>q) (λ_ _ q=>q),l,?_,?_,p,?_,M⟩
 ·rcases L with z|z
  ·rw[z] at r ⊢;exact tr b u q v r
  ·exact tr c _ z v r
 ·cases q:s0.heap.get? g with
  |none=>rfl
  |some o=>exact absurd rfl (i g o q)
 ·cases q:s0.heap.get? a with
  |none=>rfl
  | some o =>
   rcases d with z|z
   ·exact absurd z (j a o q)
   ·obtain⟨o',r⟩:=J.base.there a o q (λz=>absurd (show a∈([]:List Addr) from z) (by simp))
    rw[z] at r;cases r
 ·rcases d with z|z
  ·rw[z];exact B
  ·exact hok.no z
theorem UO{pins:List (Addr × Obj)}{σ:St}{H:Hp}{s:Shared}{g:Heap}{e C:Addr}{args:List Value}(I:Inv (cxOf (CXE P w base) P w K mg base N qual scope f cd A outer s0 H0 E) pins σ H s)(m:Heap.MadeExcOf s.heap g e (.ref C) args)
  (p:E (.ref C) none H):(cxOf (CXE P w base) P w K mg base N qual scope f cd A outer s0 H0 E).xe (.ref e) { s with heap:=g }:=by
 have pre:∀ b o,s0.heap.get? b=some o->∃ o',s.heap.get? b=some o':=λb o q=>I.base.there b o q (λz=>absurd (show b∈([]:List Addr) from z) (by simp))
 refine TM (s:={ s with heap:=g }) I.ok.frames rfl I.bk I.stack m λh' d h a keep i=>?_
 have U:=Un.back I rfl (h':=h') (λb o q r m=>keep b o r m) (λb o o' q r=>by
  by_cases m:b∈frs (envOfC qual scope s0.heap.objs.size f cd::outer)
  ·obtain⟨_,j,e2,hn⟩:=I.stack.mem m
   obtain⟨sl,l⟩:=i b j e2 hn
   exact⟨_,l⟩
  ·exact⟨o',keep b o' r m⟩) i
 have tr:∀ b u,H b=some u->∀ v,s.heap.get? b=some v->h'.get? b=some v:=λb u q v r=>keep b v r (λm=>by rw[I.stkFree b m] at q;cases q)
 refine⟨e,d,C,H,rfl,I.os,I.bare,U,λb u q=>(I.hok b u q).stay (λc v n r=>?_) (λ_ q=>q) (λ_ _ q=>q),h,?_,?_,I.hok.no m.new,I.hok.no a,p⟩
 ·rcases n with z|z
  ·rw[z] at r ⊢;exact tr b u q v r
  ·exact tr c _ z v r
 ·cases q:s0.heap.get? e with
  |none=>rfl
  |some o=>obtain⟨o',r⟩:=pre e o q;rw[m.new] at r;cases r
 ·cases q:s0.heap.get? d with
  |none=>rfl
  |some o=>obtain⟨o',r⟩:=pre d o q;rw[a] at r;cases r
end
section
variable{M:Model}{A:Around}{E:Value->Shared->Prop}
variable{nm q nm' q':Str}{C N D N':Addr}{bs bm bs' bm':List Value}{hdct hdct':Bool}{sn sn':List Str}{sub sub':List Value}{ab ab':Bool}{col col':Option Bool}{dd dd':Option Addr}{k0 k1 k2 k3 k5 j0 j1 j2 j3 j5:Option Value}{newId newId':String}
theorem SI{h:Heap}{g:Array GenState}{d:Drawn}{t:Nat}{os:OsState}{e:Addr}{oe:Obj}{Q:Bool->Shared->Prop}
  (m:h.get? C=some (excClassObj nm q C N bs bm hdct sn sub ab col dd k0 k1 k2 k3 k5 newId)) (j:h.get? D=some (excClassObj nm' q' D N' bs' bm' hdct' sn' sub' ab' col' dd' j0 j1 j2 j3 j5 newId')) (l:h.get? e=some oe) (b:oe.cls=.ref C)
  (a:bm'.contains (.type "BaseException")=true) (i:(Value.ref C::bm).contains (.ref D)=true) (n:Q true ⟨h,g,d,t,os⟩):wpAny M A (excMatches (.ref e) (.ref D)) Q E ⟨h,g,d,t,os⟩:=by
 have c:(Value.ref D::bm').contains (.type "BaseException")=true:=by rw[List.contains_cons,a,Bool.or_true]
 have f:=tc_notTuple
 unfold excMatches
 repeat (first|(with_reducible refine wpAny_loadPart_at l ?_;rw[b])|with_reducible refine wpAny_loadPart_at j ?_|(with_reducible refine wpAny_isSubtype_exc j ?_;rw[c])|(with_reducible refine wpAny_isSubtype_exc m ?_;rw[i])|wp_step)
 exact n
end
abbrev bmV:List Value:=[.type "ValueError",.type "Exception",.type "BaseException",.type "object"]
abbrev XOk(K:Frag)(mg:Str->Option Value)(x:Str)(C:Addr):Prop:=∀ h:Heap,K.In h->OwnCls x C bmV "ValueError.__new__" mg h
def XSub(K:Frag)(C D:Addr):Prop:=∀ h:Heap,K.In h->∃ nm q N bs bm hdct sn sub ab col dd k0 k1 k2 k3 k5 newId,
 h.get? C=some (excClassObj nm q C N bs bm hdct sn sub ab col dd k0 k1 k2 k3 k5 newId)/\(Value.ref C::bm).contains (.ref D)=true
section
variable{X:Cx}
theorem nL{x:Str}{C:Addr}{p cpos d:Pos}{b:Expr}{es:List Expr}{l:TA}{W:Hp->Prop}(c:XOk X.K X.mg x C)(E:Gl X x)(y:X.calm=true)(ha:PA X (b::es) l)
  (A:∀(pins:List (Addr × Obj))(σ:St)(H:Hp)(s:Shared)(o:Heap)(e:Addr)(args:List Value),Inv X pins σ H s->Heap.MadeExcOf s.heap o e (.ref C) args->W H->X.xe (.ref e) { s with heap:=o })
  (i:(x == ("__debug__" : Str))=false:=by decide) (n:starEach (b::es) X.env=(false,eval b X.env)::starEach es X.env:=by rfl) (j:(backTo cpos (starEach es X.env)).any (·.1)=false:=by rfl) :
  PS X (.Raise (some (.Call (.Name x p) (b::es) [] cpos)) none d) (λ_ σ H=>l σ H λvs f=>vs.length<=sizeLine/\W f):=by
 intro pins s σ H D I h
 obtain⟨tl,N,nm,q,bs,hdct,sn,sub,ab,col,dd,k0,k1,k2,k3,k5,mN,u,v,g,T⟩:=(c X.base I.mod.kin).obj
 refine wpAny_Raise_call_subT (C:=C) (nm:=nm) (q:=q) (N:=N) (bs:=bs) (bm:=tl) (hdct:=hdct) (sn:=sn) (sub:=sub) (ab:=ab) (col:=col) (dd:=dd) (k0:=k0) (k1:=k1) (k2:=k2) (k3:=k3) (k5:=k5)
  PySem.F.excBase_ValueError (mN:=mN) (T.hasType PySem.F.excBase_ValueError.hasBase) (I.ok.hd y) (by rw[n];show(false || (backTo cpos (starEach es X.env)).any (·.1))=false;rw[j];rfl) g (AA I E (c X.base I.mod.kin).bound ⟨rfl,?_⟩ i)
 have hh:=ha cpos pins s σ H _ I h
 rw[n] at hh ⊢
 refine Calls.evalArgs_plain (thn hh λus s2 z=>?_)
 obtain⟨vs,f,a,r,B,w⟩:=z
 exact⟨rfl,by rw[← r.length];exact B,a.bk _ _ u,v.keeps a.bk,T.keeps a.bk,λh' e m=>A pins σ f s2 h' e us a m w⟩
def P8(X:Cx)(pins:List (Addr × Obj))(b:Addr):Prop:=X.s₀.heap.get? b=none/\b ≠ X.env.locals/\(∀ x c,X.env.cells.lookup x=some c->c ≠ b)/\∀ p∈X.pn++pins,p.1 ≠ b
theorem mG{pins:List (Addr × Obj)}{σ:St}{H:Hp}{s:Shared}(I:Inv X pins σ H s)(g:X.ex=[]){b:Addr}(e:s.heap.get? b=none):P8 X pins b:=by
 refine⟨?_,λz=>?_,λx c f z=>?_,λp d z=>?_⟩
 ·cases q:X.s₀.heap.get? b with
  |none=>rfl
  |some o=>obtain⟨o',r⟩:=I.base.there b o q (by rw[g];simp);rw[e] at r;cases r
 ·obtain⟨m,⟨o,_,_,a,_⟩,_⟩:=I.loc
  rw[← z,e] at a;cases a
 ·obtain⟨v,o,a,_⟩:=I.cell x c f
  rw[z,e] at a;cases a
 ·have:=(I.pin p d).1
  rw[z,e] at this;cases this
theorem Inv.flew{pins:List (Addr × Obj)}{σ:St}{H:Hp}{s:Shared}{h':Heap}{e T:Addr}(J:Inv X pins σ H s)(A:X.ex=[])(ne:P8 X pins e)(B:P8 X pins T)(F:H e=none)(K:H T=none)
  (keep:∀ b o,s.heap.get? b=some o->b ≠ e->b ≠ T->b ∉ frs X.stack->h'.get? b=some o) (g:s.heap.UpToSlots h'):Inv X pins σ H { s with heap:=h' }:=by
 have n:∀ b o,X.s₀.heap.get? b=some o->b ≠ e:=λb o q z=>by rw[z,ne.1] at q;cases q
 have w:∀ b o,X.s₀.heap.get? b=some o->b ≠ T:=λb o q z=>by rw[z,B.1] at q;cases q
 have U:=Un.back J A (h':=h') (λb o q r m=>keep b o r (n b o q) (w b o q) m) (λb o o' q r=>by
  by_cases m:b∈frs X.stack
  ·obtain⟨_,C,e2,hn⟩:=J.stack.mem m
   obtain⟨sl,h⟩:=g b C e2 hn
   exact⟨_,h⟩
  ·exact⟨o',keep b o' r (n b o q) (w b o q) m⟩) g
 have tr:∀ b u,H b=some u->∀ v,s.heap.get? b=some v->h'.get? b=some v:=λb u q v r=>keep b v r (λz=>by rw[z,F] at q;cases q) (λz=>by rw[z,K] at q;cases q) (λm=>by rw[J.stkFree b m] at q;cases q)
 have y:∀ c v,s.heap.IsCell c v->h'.IsCell c v:=λc v D=>by
  obtain⟨o,G,hd⟩:=D
  obtain⟨sl,z⟩:=g c o G (λvs q=>by rw[hd] at q;cases q)
  exact⟨_,z,hd⟩
 refine⟨J.ok,J.os,J.bare,by rw[A];exact U,?_,λx c z=>?_,J.free,J.freeC,λp j=>?_,λb u q=>(J.hok b u q).stay (λc v I r=>?_) (λ_ q=>q) (λ_ _ q=>q),J.len⟩
 ·obtain⟨m,hn,L⟩:=J.loc
  refine⟨m,g.ns hn,λi x v E e2 h=>?_⟩
  obtain⟨u,r,l⟩:=L i x v E e2 h
  refine⟨u,r,?_⟩
  rcases l with l|⟨k,c,e,z⟩
  ·exact .inl l
  ·exact .inr ⟨k,c,e,y c _ z⟩
 ·obtain⟨v,q⟩:=J.cell x c z
  exact⟨v,y c v q⟩
 ·obtain⟨a,b,c,d,f⟩:=J.pin p j
  refine⟨keep p.1 p.2 a (ne.2.2.2 p j) (B.2.2.2 p j) (λm=>?_),b,c,d,f⟩
  rcases Z0.mp (J.stkSub _ m) with z|z
  ·exact c z
  ·exact d z
 ·rcases I with z|z
  ·rw[z] at r ⊢;exact tr b u q v r
  ·exact tr c _ z v r
def ExAt(e C:Addr)(h:Heap):Prop:=∃ ob,h.get? e=some ob/\ob.cls=.ref C
theorem Inv.track{pins:List (Addr × Obj)}{σ:St}{H:Hp}{s:Shared}{e C:Addr}(J:Inv X pins σ H s)(v:X.ex=[])(ne:P8 X pins e)(i:H e=none)(hf:e ∉ X.fs)(x:ExAt e C s.heap):Inv X pins σ (upd H e (.ext (ExAt e C))) s:=by
 have nn:∀ b u,H b=some u->b ≠ e:=λb u q z=>by rw[z,i] at q;cases q
 have j:∀ b o,X.s₀.heap.get? b=some o->b ≠ e:=λb o q z=>by rw[z,ne.1] at q;cases q
 refine⟨J.ok,J.os,J.bare,⟨J.base.keep,J.base.slot,λb o q n hb=>?_,J.base.there,λb xs q=>?_,λb o u q=>?_,λb ps q=>?_⟩,J.loc,J.cell,?_,λy c z=>?_,λp g=>?_,λb u q=>?_,J.len⟩
 ·rw[z0 (j b o q)];exact J.base.free b o q n hb
 ·have:=J.base.tups b xs q
  rw[z0 (nn b _ this)];exact this
 ·have:=J.base.frzs b o u q
  rw[z0 (nn b _ this)];exact this
 ·obtain⟨more,this⟩:=J.base.tbls b ps q
  exact⟨more,by rw[z0 (nn b _ this)];exact this⟩
 ·rw[z0 (Ne.symm ne.2.1)];exact J.free
 ·rw[z0 (ne.2.2.1 y c z)];exact J.freeC y c z
 ·obtain⟨a,b,c,d,f⟩:=J.pin p g
  exact⟨a,by rw[z0 (ne.2.2.2 p g)];exact b,c,d,f⟩
 ·by_cases z:b=e
  ·subst z
   rw[K0] at q;cases q
   obtain⟨h,l,e2⟩:=id x
   exact⟨x,⟨h,l⟩,λw m ⟨o,a,c⟩ k=>⟨o,k o a,c⟩⟩
  ·rw[z0 z] at q
   exact(J.hok b u q).stay (λ_ _ _ r=>r) (λc r=>by rw[z0 (nn c _ r)];exact r) (λc xs r=>by rw[z0 (nn c _ r)];exact r)
theorem BA{M:Model}{A:Around}{E:Value->Shared->Prop}{Q:Unit->Shared->Prop}{pins:List (Addr × Obj)}{σ:St}{H:Hp}{s:Shared}{i:Nat}{n:Str}{C:Pos}(I:Inv X pins σ H s)(G:X.N.Nodup)(hi:X.N[i]?=some n)(L:X.env.kindOf n=some .local)
  (h:∀ D,Inv X pins (σ.set i none) H D->Q () D):wpAny M A (do bindName X.env n .none;unbindBehindTheSuite X.env n C) Q E s:=by
 obtain⟨m,hn,T⟩:=id I.loc
 have l:(X.env.scope.kind == .class || (X.env.scope.kind == .module && X.env.locals != X.env.globals))=false:=by rw[I.ok.kind];rfl
 have g:i<σ.length:=by rw[I.len];exact(J1.mp hi).1
 refine wpAny_nameGoes_keeps L hn l λh' v B hs=>h _ ?_
 have a:∀ b o,X.s₀.heap.get? b=some o->b ≠ X.env.locals:=λb o e=>O1 (E4 (Q0 e) I.ok.above)
 refine⟨I.ok,I.os,I.bare,⟨λb o e n hb x=>(hs.2 b (a b o e)).trans (I.base.keep b o e n hb x),λb o e n hb x=>?_,I.base.free,λb o e x=>?_,I.base.tups,I.base.frzs,I.base.tbls⟩,⟨_,B,λj y u f e2 F=>?_⟩,λy c e=>?_,I.free,I.freeC,λp O=>?_,λb u q=>(I.hok b u q).stay (λc w S r=>(hs.2 c (λz=>?_)).trans r) (λ_ q=>q) (λ_ _ q=>q),by simpa using I.len⟩
 ·obtain⟨sl,f⟩:=I.base.slot b o e n hb x
  exact⟨sl,(hs.2 b (a b o e)).trans f⟩
 ·obtain⟨o',f⟩:=I.base.there b o e x
  exact⟨o',(hs.2 b (a b o e)).trans f⟩
 ·by_cases hj:j=i
  ·subst hj
   rw[List.getElem?_set_self g] at e2;cases e2
  ·rw[List.getElem?_set_ne (Ne.symm hj)] at e2
   obtain⟨J,R,q⟩:=T j y u f e2 F
   refine⟨J,R,?_⟩
   rcases q with ⟨k,e⟩|⟨k,c,e,z⟩
   ·refine .inl ⟨k,?_⟩
    have:y ≠ n:=λe=>hj (nodup_ix G f (e ▸ hi))
    simp[this,e]
   ·exact .inr ⟨k,c,e,z.sameBut hs (I.cne y c e)⟩
 ·obtain⟨P,z⟩:=I.cell y c e
  exact⟨P,z.sameBut hs (I.cne y c e)⟩
 ·obtain⟨e,n,ne,K,d⟩:=I.pin p O
  exact⟨(hs.2 p.1 ne).trans e,n,ne,K,d⟩
 ·rcases S with y|y
  ·rw[← y,z,I.free] at q;cases q
  ·rw[z,I.free] at y;cases y
abbrev Cx.marked(X:Cx)(ea:Addr):Cx:={ X with A:=X.A.mark (some (.ref ea)),calm:=false }
theorem Inv.mark{pins:List (Addr × Obj)}{σ:St}{H:Hp}{s:Shared}(I:Inv X pins σ H s)(a:Addr):Inv (X.marked a) pins σ H s :=
 ⟨⟨I.ok.mod,I.ok.kind,I.ok.glob,I.ok.blt,I.ok.above,I.ok.inj,I.ok.has,I.ok.cab,λz=>(by cases z),I.ok.frames,I.ok.stk,I.ok.exf,I.ok.bs,I.ok.bsz,I.ok.noex,I.ok.exfs,I.ok.funs,I.ok.frf⟩,I.os,I.bare,I.base,I.loc,I.cell,I.free,I.freeC,I.pin,I.hok,I.len⟩
theorem Inv.unmark{pins:List (Addr × Obj)}{σ:St}{H:Hp}{s:Shared}{a:Addr}(ok:X.Ok)(I:Inv (X.marked a) pins σ H s):Inv X pins σ H s :=
 ⟨ok,I.os,I.bare,I.base,I.loc,I.cell,I.free,I.freeC,I.pin,I.hok,I.len⟩
abbrev XW:=Value->St->Hp->Prop
def XP(X:Cx)(pins:List (Addr × Obj))(W:XW)(e:Value)(s':Shared):Prop:=∃ σ ea T C H',e=.ref ea/\Inv X pins σ H' s'/\FlyT X.base X.stack ea T (.ref C) s'.heap/\P8 X pins ea/\P8 X pins T/\H' ea=none/\H' T=none/\W (.ref C) σ H'
def PXs(X:Cx)(st:List Stmt)(t:XW->TS):Prop :=
 ∀(pins:List (Addr × Obj))(s:Shared)(σ:St)(H:Hp)(D:Ends)(W:XW),Inv X pins σ H s->t W D σ H->wpAny (model X.prog X.w) X.A (execs st X.env) (SP X pins D) (XP X pins W) s
theorem VD{c:Expr}{a b:List Stmt}{m:TT}{t u:XW->TS}{i:Pos}(n:PT X.nox c m)(ha:PXs X a t)(hb:PXs X b u):PXs X [.If c a b i] (λW D σ H=>m σ H λv g=>if v=true then t W D σ g else u W D σ g):=by
 intro pins s σ H D W I h
 refine wpAny_execs_cons (thn (Q:=SP X pins D) (wpAny_If (n4 (n pins s σ H _ (I.wish _) h) (λd s1 ⟨g,j,l⟩=>?_) λ_ _ z=>False.elim z)) λf s1 q=>?_)
 ·cases d with
  |true=>exact ha pins s1 σ g D W j.unwish l
  |false=>exact hb pins s1 σ g D W j.unwish l
 ·cases f with
  |next=>exact wpAny_execs_nil q
  |ret v=>exact q
  |brk=>exact q
  |cont=>exact q
def tTry(K:Frag)(D0:Addr)(i:Nat)(tb:XW->TS)(ts:TS):TS:=λD σ H=>tb (λcls σ1 H1=>∃ C,cls=.ref C/\XSub K C D0/\∀ ea,H1 ea=none ->
 ts { nx:=λσ2 H2=>D.nx (σ2.set i none) H2,rt:=D.rt,bk:=λσ2 H2=>D.bk (σ2.set i none) H2,ct:=λσ2 H2=>D.ct (σ2.set i none) H2 } (σ1.set i (some (.ref ea))) (upd H1 ea (.ext (ExAt ea C)))) D σ H
theorem LO{body suite:List Stmt}{b0:Stmt}{x n:Str}{D0:Addr}{i:Nat}{tb:XW->TS}{ts:TS}{np G Z:Pos}(l:X.stack=X.env::X.outer/\X.env.frame=some X.env.locals)(hx:X.ex=[])(c:XOk X.K X.mg x D0)(hg:Gl X x)(B:X.N.Nodup)(hi:X.N[i]?=some n)(p:X.env.kindOf n=some .local)
  (hb:PXs X body tb) (hs:∀ d,PSs (X.marked d).nox (b0::suite) ts) (a5:(x == ("__debug__" : Str))=false:=by decide) :
  PS X (.Try body [.ExceptHandler (some (.Name x np)) (some n) (b0::suite) G] [] [] Z) (tTry X.K D0 i tb ts):=by
 intro pins s σ H D I h
 refine wpAny_Try_except (n4 (hb pins s σ H D _ I h) (λf s1 q=>?_) λe s1 q=>?_)
 ·cases f with
  |next=>exact wpAny_execs_nil q
  |ret v=>exact q
  |brk=>exact q
  |cont=>exact q
 ·obtain⟨R,d,T,C,H1,rfl,J,E,w,a2,S,hT,C',O,L,Y⟩:=q
  cases O
  obtain⟨oe,vs,oT,a4,a0,g1,g2,g3,g4,g5,g6,g7,g8⟩:=id E.tr
  have P:X.A.frames=some (X.env::X.outer):=J.ok.frames.trans (congrArg some l.1)
  have fw:Heap.FlyingW (PySem.W.hideAll s1.heap (d::T::frs X.stack)) (X.env::X.outer) d (.ref C) a0 s1.heap:=by
   rw[← l.1]
   exact⟨λb o q=>PySem.W.of_hideAll _ q,PySem.W.hideAll_none _ (.head _),PySem.W.funFrames_hide E.funs λen hn a ha=>.tail _ (.tail _ (RC en hn a ha)),oe,vs,T,oT,a4,g1,g2,g3,g4,PySem.W.hideAll_none _ (.tail _ (.head _)),g5,g6,g7,g8⟩
  have kp:∀{h':Heap},(PySem.W.hideAll s1.heap (d::T::frs X.stack)).StaysIn h'->∀ b o,s1.heap.get? b=some o->b ≠ d->b ≠ T->b ∉ frs X.stack->h'.get? b=some o:=λ{h'} k b o q n1 n2 n3=>k b o (PySem.W.hideAll_get _ q λz=>by
   rcases Z0.mp z with z|z
   ·exact n1 z
   ·rcases Z0.mp z with z|z
    ·exact n2 z
    ·exact n3 z)
  have bs:∀{h':Heap},(PySem.W.hideAll s1.heap (d::T::frs X.stack)).StaysIn h'->∀ b o,X.base.get? b=some o->h'.get? b=some o:=λ{h'} k b o q=>kp k b o (J.bk b o q) (λz=>by rw[z,E.new] at q;cases q) (λz=>by rw[z,E.newT] at q;cases q) (λz=>by rw[(E.funs.mem z).1] at q;cases q)
  refine wpAny_looks_onW P l.2 fw λh4 f4 M=>?_
  refine wpAny_landsW f4 λh5 m Q=>?_
  obtain⟨nm,q,N,b7,bm,hdct,sn,sub,ab,col,dd,k0,k1,k2,k3,k5,newId,hC,a3⟩:=L h5 (J.mod.kin.keeps (bs m.1))
  obtain⟨tl,N',b6,q',b2,a6,b4,a7,b1,a8,b3,j0,j1,j2,j3,j5,mN,hD,b5,a9,Tl⟩:=(c h5 (J.mod.kin.keeps (bs m.1))).obj
  obtain⟨ob,a1,y⟩:=m.there
  refine wpAny_handleBy_cons (codeAny_handlers_test ?_) (by intro q;cases q)
  refine Calls.Name_function_global J.ok.kind hg (Calls.loadGlobal_global (by rw[J.ok.glob];exact J.mod.glob.keeps (bs m.1)) (c h5 (J.mod.kin.keeps (bs m.1))).bound ?_) a5
  refine SI hC hD a1 y (Tl.hasType PySem.F.excBase_ValueError.hasBase) a3 ?_
  refine codeAny_handlers_suite_as ?_
  refine lands_againW m λh6 f6 U=>?_
  have J6:Inv X pins R H1 { s1 with heap:=h6 }:=J.flew hx w a2 S hT (kp f6.1) ((M.trans Q).trans U)
  have J7:=J6.track hx w S (λz=>?nf) f6.there
  case nf =>
   obtain⟨_,o,ho,hn⟩:=J.funs.mem z
   rw[g1] at ho;cases ho
   exact hn vs g3
  refine oC J7 B hi (.inl p) (show RelV (.ref d) (.ref d) from rfl) (λs7 I7=>?_) (.inr p)
  refine n4 (hs d pins s7 _ _ _ ((I7.mark d).wish _) (Y d S)) (λf s8 q=>?_) λ_ _ z=>False.elim z
  have ok:=I.ok
  cases f with
  | next =>
   obtain⟨g,H',K,q⟩:=q
   exact BA (Inv.unmark ok K.unwish) B hi p λs9 j=>⟨_,_,j,q⟩
  | brk =>
   obtain⟨g,H',K,q⟩:=q
   exact BA (Inv.unmark ok K.unwish) B hi p λs9 j=>⟨_,_,j,q⟩
  | cont =>
   obtain⟨g,H',K,q⟩:=q
   exact BA (Inv.unmark ok K.unwish) B hi p λs9 j=>⟨_,_,j,q⟩
  | ret u =>
   obtain⟨v,g,H',K,r,q⟩:=q
   exact BA (Inv.unmark ok K.unwish) B hi p λs9 j=>⟨v,_,_,j,r,q⟩
end
end L2
namespace VL
open PySem PySem.Spec L2
abbrev VPX:=List Sl->(Sl->Prop)->(Addr->Prop)->Prop
def spX(K:Frag)(f:VPX):Sp:=λvs H Q E=>∃ G ss Q' R',Same G H/\FT G H/\ArgsOk K G vs ss/\f ss Q' R'/\(∀ s,Q' s->∀ v G' H' Fv,Out G H v G' H' s Fv->Q v H') /\
 ∀ C,R' C->∀ G' H',Out G H .non G' H' (.st .none) (λ_=>False)->E (.ref C) none H'
theorem lenX{K:Frag}{f:VPX}{vs:List V}{H:Hp}{Q:VK}{E:XK}{n:Nat}(h:spX K f vs H Q E)(c:∀ ss Q' a,f ss Q' a->ss.length=n):vs.length=n:=by
 obtain⟨G,ss,Q',a,_,_,b,hf,_⟩:=h
 rw[b.length];exact c ss Q' a hf
def EvE(B:Bs)(E:XK)(R:Addr->Prop):Prop:=∀ C,R C->∀(σ:St)(G H:Hp)(F:Nat->Addr->Prop)(env:En),VI B G H σ env F->E (.ref C) none H
theorem y8{K:Frag}{f:VPX}{ts:TS}{N:List Str}{vs:List V}{H:Hp}{Q:VK}{E:XK}(h:spX K f vs H Q E)
  (hb:∀ ss Q' b,f ss Q' b->∀ B,B.K=K->EvE B E b->EvS B ts { nx:=λ_=>Q' (.st .none),rt:=λs _=>Q' s } (ss.map some++List.replicate (N.length-ss.length) none)):ts { nx:=λ_ H'=>Q .non H',rt:=Q } (L2.start N vs) H:=by
 obtain⟨G,ss,Q',b,gh,ft,l,hf,c,n⟩:=h
 have fin:∀{σ G' H' F env v Fv s},VI (bsP K G H vs) G' H' σ env F->RsX (bsP K G H vs) G' H' v Fv s F->Out G H v G' H' s Fv:=λI r =>
  ⟨I.g0,I.gh,I.rs,I.gn,r.fb,r.fg,r.fo,r.ok,λ_=>I.ft⟩
 refine hb ss _ _ hf (bsP K G H vs) rfl (λC m σ G' H' F env I=>n C m G' H' (fin I (u7 .non))) (L2.start N vs) G H noF _ ?_ ⟨λσ G' H' F env I g q=>c _ q _ _ _ _ (fin I (u7 .non)),λσ G' H' F env v Fv s I g r q=>c _ q v G' H' Fv (fin I r),λ_ _ _ _ _ _ _ q=>q,λ_ _ _ _ _ _ _ q=>q⟩
 refine⟨gh,Same.refl _,λa o e=>.inl e,Same.refl _,Same.refl _,λa o e=>⟨o,e⟩,λi a z=>z.elim,λi a z=>z.elim,λi j a z=>z.elim,λi a z=>z.elim,λi s e=>?_,?_,ft⟩
 ·obtain⟨v,p,q⟩:=l.get (yB e)
  refine⟨v,by unfold L2.start;exact LB p,?_⟩
  cases s with
  |st d=>exact⟨q,λa z=>z⟩
  |scr ns=>exact⟨q,λa z=>z⟩
  |own A=>exact q.elim
  |io A=>exact q.elim
 ·unfold L2.start;simp[l.length]
section
variable{B:Bs}{env:En}{Q':PyData->En->Prop}{QO:Sl->En->Prop}{K:Frag}{E:XK}{R:Addr->Prop}{D':VEnds}
theorem X6{f:VPX}{t:TA}(m:EvE B E R)(h:EvA B t env λds b=>f (ds.map Sl.st) (λs=>QO s b) R):EvO B (o3 (spX K f) [] E t) env QO:=λσ G H F Q I k=>by
 unfold o3
 simp only[n5]
 exact h σ G H F _ I λvs l n c ds b a g d i=>⟨l,_,_,R,a.gh,a.ft,ArgsOk.of d,i,λs q v G' H' Fv o=>k v G' H' c Fv s b (a.out o).1 (g.trans o.gg) (a.out o).2 q,λC j G' H' o=>m C j σ G' H' c b (a.out o).1⟩
theorem KL{f:VPX}{t:TA}(a:EvE B E R)(h:EvA B t env λds b=>f (ds.map Sl.st) (λs=>FQ s λd=>Q' d b) R):Ev B (o3 (spX K f) [] E t) env Q':=F3 (X6 a h)
theorem fA{b:TA}{C:Addr}(l:EvE B E R)(g:R C)(h:EvA B b env λds _=>ds.length<=1000):EvS B (λ_ σ H=>b σ H λvs a=>vs.length<=sizeLine/\E (.ref C) none a) D' env:=λσ G H F D I r =>
 h σ G H F _ I λvs j a f ds i c m d q=>⟨by rw[d.length];exact m5 (big (T2 q (by decide))),l C g σ j a f i c⟩
end
def OE(C:Addr):Own where
 P:=λG H v F=>∃ a,v=.ref a/\H a=some (.ext (ExAt a C))/\∀ b,F b ↔ b=a
 mono:=λ⟨a,e,h,f⟩ g hh=>⟨a,e,hh a _ ((f a).mpr rfl) h,f⟩
 dom:=λ⟨a,e,h,f⟩ b z=>by rw[(f b).mp z];exact⟨_,h⟩
def EvXs(B:Bs)(tb:XW->TS)(D':VEnds)(RX:Addr->En->Prop)(env:En):Prop:=∀(σ:St)(G H:Hp)(F:Nat->Addr->Prop)(D:Ends)(W:XW),VI B G H σ env F->RelE B G D D' ->
 (∀ C σ' G' H' F' env',VI B G' H' σ' env' F'->Same G G'->RX C env'->W (.ref C) σ' H')->tb W D σ H
section
variable{B:Bs}{env:En}{K:Frag}{D':VEnds}{RX:Addr->En->Prop}
theorem nC{o:TT}{t u:XW->TS}(h:EvT B o env λb i=>if b=true then EvXs B t D' RX i else EvXs B u D' RX i):EvXs B (λW D σ H=>o σ H λv d=>if v=true then t W D σ d else u W D σ d) D' RX env:=λσ G H F D W I r w =>
 h σ G H F _ I λb n d m i l f q=>by
  cases b with
  |true=>exact q σ n d m D W l (r.later f) λC c G' H' F' a j g' g=>w C c G' H' F' a j (f.trans g') g
  |false=>exact q σ n d m D W l (r.later f) λC c G' H' F' a j g' g=>w C c G' H' F' a j (f.trans g') g
theorem IQ{A:Addr}{i:Nat}{w:XW->TS}{ts:TS}(h:EvXs B w D' (λC L=>XSub K C A/\EvS B ts { nx:=λe=>D'.nx (e.set i none),rt:=D'.rt,bk:=λe=>D'.bk (e.set i none),ct:=λe=>D'.ct (e.set i none) } (L.set i (some (.own (OE C))))) env):EvS B (tTry K A i w ts) D' env:=λσ G H F D I r=>by
 refine h σ G H F D _ I r λC u G' H' F' n m g' q=>⟨C,rfl,q.1,λd p=>?_⟩
 have M:G' d=none:=m.no_g p
 have E:VI B G' (upd H' d (.ext (ExAt d C))) u n F':=m.grow (Same.refl _) (m.gh.trans (R4 p)) (R4 p) (λa o e=>.inl e) (λa P e=>by
  by_cases z:a=d
  ·subst z;rw[K0] at e;cases e
  ·rw[z0 z] at e;exact m.ft a P e)
 have O:RsX B G' (upd H' d (.ext (ExAt d C))) (.ref d) (λa=>a=d) (.own (OE C)) F':=⟨⟨d,rfl,K0,λb=>Iff.rfl⟩,λa z=>z ▸ m.no_b p,λa z=>z ▸ M,λa z=>⟨.ext (ExAt d C),by rw[z];exact K0⟩,λj a z y=>m.no_f (z ▸ p) j y⟩
 have N:=E.store O i
 have dn:∀{c:St}{f H2:Hp}{F2:Nat->Addr->Prop}{e2:En},VI B f H2 c e2 F2->VI B f H2 (c.set i none) (e2.set i none) (putF F2 i λ_=>False):=λJ=>J.slot (Fv:=λ_=>False) i none none (λa z=>z.elim) (λa z=>z.elim) (λa z=>z.elim) (λj a _ z=>z.elim) (λs e=>by cases e)
 refine q.2 (u.set i (some (.ref d))) G' _ _ _ N ⟨λc f H2 F2 e2 J g l=>r.nx _ f H2 _ _ (dn J) (g'.trans g) l,λc f H2 F2 e2 v Fv s J g x l=>r.rt c f H2 F2 e2 v Fv s J (g'.trans g) x l,λc f H2 F2 e2 J g l=>r.bk _ f H2 _ _ (dn J) (g'.trans g) l,λc f H2 F2 e2 J g l=>r.ct _ f H2 _ _ (dn J) (g'.trans g) l⟩
end
end VL
namespace L2
open PySem PySem.Spec PyProof.Rows
section
open PySem PySem.Calls PyProof.Rows Builtin Builtin.ObjectAttr Builtin.Getset_descriptor
variable{prog:Program}{w:World}{A:Around}{E:Value->Shared->Prop}{K:Frag}{h:Heap}{g:Array GenState}{d:Drawn}{t:Nat}{os:OsState}{x C:Addr}{o:Obj}
theorem zC{M:Model}(b:h.get? x=some o)(a:o.cls=.ref C):PySem.W.Looks M h (typeOf (.ref x)) (.ref C):=a ▸ (PySem.W.Looks.ld b).andThen .now
structure XIn(K:Frag)(C:Addr):Prop where
 cl:(PySem.W.clsIn K C).isSome=true
 ga:PySem.W.findIn K (.ref C) "__getattribute__" = some (some (.builtin "BaseException.__getattribute__"))
 gn:PySem.W.findIn K (.ref C) "__getattr__" = some none
 cs:PySem.W.findIn K (.ref C) "__class__" = some (some (.builtin "object.__class__"))
 mo:mroIn K C (.type "object")=some true
 mb:mroIn K C (.type "BaseException")=some true
theorem NQ{R:Result->Shared->Prop}{f:Value}(X:K.In h)(c:XIn K C)(j:h.get? x=some o)(i:o.cls=.ref C)(l:R (.ok (.ret (.ref C))) ⟨h,g,d,t,os⟩) :
  codeAny (model prog w) A (.call (.builtin "getset_descriptor.__get__") ⟨[.builtin "object.__class__",.ref x,f],[]⟩) R ⟨h,g,d,t,os⟩:=by
 have b:=zC (M:=model prog w) j i
 have a:=PySem.W.looks_mroIn (M:=model prog w) X c.mo
 refine codeAny_call_builtin PySem.W.KF.slot_gs.plain PySem.W.KF.entry_gs (PySem.W.KF.slot_gs.check _ _ _ _ _ _ _ _ PySem.W.KF.type_class (PySem.W.KF.args_gs _ _ _) ?_)
 unfold Builtin.«getset_descriptor.__get__» descrGet
 rw[PySem.W.dga_obj]
 refine C0 (M0 ?_)
 unfold descrGetter descrCheckInstance descrNameAndClass isInstance
 simp only[PySem.W.KF.owner_class]
 repeat (first|(with_reducible refine b.at ?_)|(with_reducible refine a.at ?_)|wp_step)
 refine⟨Code.quiet_builtin _ (by decide +kernel),hA PySem.W.KF.entry_class ?_⟩
 unfold Builtin.«object.__class__» shownTypeOf
 repeat (first|(with_reducible refine b.at ?_)|(with_reducible refine a.at ?_)|wp_step)
 exact l
theorem hM{M:Model}{a:Value}{Q:Unit->Shared->Prop}(X:K.In h)(c:XIn K C)(l:h.get? x=some o)(j:o.cls=.ref C)(m:Q () ⟨h,g,d,t,os⟩):wpAny M A (checkBuiltinCall "BaseException.__getattribute__" ⟨[.ref x,a],[]⟩) Q E ⟨h,g,d,t,os⟩:=by
 have n:builtinKind "BaseException.__getattribute__" = some .slot:=by decide +kernel
 have b:splitId "BaseException.__getattribute__" = some ("BaseException","__getattribute__"):=by decide +kernel
 have ha:=F.args_bexc_ga (.ref x) a
 have i:=zC (M:=M) l j
 have f:=PySem.W.looks_mroIn (M:=M) X c.mb
 simp only[checkBuiltinCall,n,b]
 refine C0 ?_
 ·unfold isInstance
  refine C0 (i.at (f.at ?_))
  repeat (first|wp_step)
  exact m
theorem qP{i:Tok}{Q:Fin->Shared->Prop}(X:K.In h)(c:XIn K C)(b:h.get? x=some o)(a:o.cls=.ref C)(m:Q (.done (.ret (.ref C))) ⟨h,g,d,t,os⟩) :
  wpAny (model prog w) A (Builtin.«object.__getattribute__» ⟨[.ref x,.str "__class__" i],[]⟩) Q E ⟨h,g,d,t,os⟩:=by
 have f:=PySem.W.looks_findIn (M:=model prog w) X c.cs
 have j:typeOf (.builtin "object.__class__")=pure (.type "getset_descriptor"):=PySem.W.KF.type_class
 have n:=F.slot_gs_get.lookup
 have l:=F.slot_gs_set.lookup
 repeat (any_goals (first|assumption|(with_reducible refine wpAny_loadPart_at b ?_;rw[a])|with_reducible refine f.at ?_|wp_step))
 refine NQ X c b a ?_
 repeat (any_goals (first|assumption|wp_step))
theorem vP{f:Tok}{R:Result->Shared->Prop}(X:K.In h)(c:XIn K C)(b:h.get? x=some o)(a:o.cls=.ref C)(i:R (.ok (.ret (.ref C))) ⟨h,g,d,t,os⟩) :
  codeAny (model prog w) A (.call (.builtin "BaseException.__getattribute__") ⟨[.ref x,.str "__class__" f],[]⟩) R ⟨h,g,d,t,os⟩ :=
 codeAny_call_builtin PySem.F.attrBase_ValueError.ga.plain F.entry_bexc_ga (hM X c b a (qP X c b a i))
theorem DO{Q:Option Value->Shared->Prop}(X:K.In h)(c:XIn K C)(f:h.get? x=some o)(b:o.cls=.ref C)(m:Q (some (.ref C)) ⟨h,g,d,t+1,os⟩) :
  wpAny (model prog w) A (getAttr? (.ref x) "__class__") Q E ⟨h,g,d,t,os⟩:=by
 have n:=PySem.F.attrBase_ValueError.ga.bind (.ref x)
 have a:(Value.builtin "BaseException.__getattribute__" == Value.builtin "object.__getattribute__")=false:=by decide +kernel
 have l:(onTheHeap (Value.ref C) && Value.builtin "BaseException.__getattribute__" == Value.builtin "object.__getattribute__")=false:=by rw[a];rfl
 have j:=PySem.W.looks_findIn (M:=model prog w) X c.ga
 have i:=PySem.W.looks_findIn (M:=model prog w) X c.gn
 unfold getAttr? getAttrBy? getAttrBy
 repeat (any_goals (first|assumption|(with_reducible refine wpAny_loadPart_at f ?_;rw[b])|with_reducible refine j.at ?_|with_reducible refine i.at ?_|wp_step))
 refine vP X c f b ?_
 repeat (any_goals (first|assumption|wp_step))
end
theorem nR{K:Frag}{x C:Addr}(c:XIn K C):PySem.W.KitX K (.ref x) (.ref C) (ExAt x C) where
 ty:=λM h _ ⟨o,j,i⟩=>zC j i
 it:=λ_ _ X _=>by
  obtain⟨b,a⟩:=Option.isSome_iff_exists.mp c.cl
  unfold PySem.W.clsIn at a
  split at a
  ·rename_i c' d' cd' sl' ho
   intro A' Q' m r k q
   unfold isType loadHead
   exact C0 (wpAny_loadPart (k _ _ (X _ _ ho)) (M0 q))
  ·cases a
 ne:=λh l dd its n sl X f=>by
  obtain⟨b,a⟩:=Option.isSome_iff_exists.mp c.cl
  refine Bool.eq_false_iff.mpr λq=>?_
  have e:C=l:=Value.ref.inj (N1.mp q)
  subst e
  unfold PySem.W.clsIn at a
  split at a
  ·rename_i c' d' cd' sl' ho
   have z:=(X _ _ ho).symm.trans f
   cases z
  ·cases a
 ca:=λ{prog w A E Q s} X p k=>by
  obtain⟨h,g,d,t,os⟩:=s
  obtain⟨o,j,i⟩:=p
  exact DO X c j i k
section
variable{X:Cx}
def EC(K:Frag):List V->Hp->VK->Prop:=λxs H Q=>∃(a C:Addr)(y:V)(u:Value)(b:Bool),xs=[.ref a,y]/\((∃ D,y=.ref D/\u=.ref D)\/∃ T,y=.ty T/\u=.type T)/\H a=some (.ext (ExAt a C))/\XIn K C/\kitOne K (.ref C) u=some b/\Q (.bl b) H
theorem n7:M2 X (.builtin "isinstance") (EC X.K):=by
 intro pins s σ H xs us Q I r h
 obtain⟨a,C,y,u,b,rfl,j,ha,c,e,q⟩:=h
 obtain⟨f,i,rfl,g,d⟩:=zA r
 cases (show f=Value.ref a from g)
 have l:i=u:=by
  rcases j with ⟨D,rfl,rfl⟩|⟨T,rfl,rfl⟩
  ·exact d
  ·exact d
 subst l
 exact PySem.W.kia_one (nR c) I.kIn (show ExAt a C s.heap from(I.hok a _ ha).1) e (λz=>nomatch z) λm=>⟨.bl b,H,I.tok _,rfl,q⟩
end
section
variable{P:Program}{w:World}{K:Frag}{mg:Str->Option Value}{base:Heap}{x:Str}{k:Nat}{ps:List Str}{sp:Sp}
def CanX(P:Program)(w:World)(K:Frag)(mg:Str->Option Value)(base:Heap)(x:Str)(k:Nat)(ps:List Str)(sp:Sp):Prop :=
 ∃ f fd,FnOk P w K mg base (CXE P w base) k f fd ps sp/\mg x=some (.ref f)/\keepIn K (.ref f)=true/\Binds K fd ps []
theorem DefAt.canX{st:Stmt}{f:Addr}{fd:FuncData}(D:DefAt K mg x st ps f fd)(ok:FnOk P w K mg base (CXE P w base) k f fd ps sp):CanX P w K mg base x k ps sp:=⟨f,fd,ok,D.mgx,D.fn.kp,D.bd⟩
theorem Fun.okX{qual:Str}{st:Stmt}{f:Addr}{fd:FuncData}{N:List Str}(F:Fun K x qual st f fd)(S:FnScope N ps (L0 st))(len:∀ vs H Q E,sp vs H Q E->vs.length=ps.length)
  (a:∀(cdv:Value)(A:Around)(outer:List Env)(s:Shared)(H:Hp)(vs:List V)(Q:VK)(E:XK),Room k (A.deeper (envOfC qual (L0 st) s.heap.objs.size f cdv))->sp vs H Q E ->
   ∃ t,PSs (cxOf (CXE P w base) P w K mg base N qual (L0 st) f cdv A outer s H E) (m4 st) t/\t { nx:=λ_ H'=>Q .non H',rt:=Q } (start N vs) H):FnOk P w K mg base (CXE P w base) (k+1) f fd ps sp:=by
 obtain⟨oc,od,kV,doc,pm,an,cdv,ct,osl,rfl,d,b⟩:=F.ex
 exact iF d b S len λA outer s H vs Q E g c=>a cdv A outer s H vs Q E g c
variable{N:List Str}{qual:Str}{scope:Scope}{f:Addr}{cd:Value}{A:Around}{outer:List Env}{s0:Shared}{H0:Hp}{E:XK}{j:Nat}{p pos ep np cpos:Pos}{e:Expr}{es:List Expr}{t:TA}
theorem y7(F:CanX P w K mg base x k ps sp)(i:Room j (cxOf (CXE P w base) P w K mg base N qual scope f cd A outer s0 H0 E).A)(ha:PA (cxOf (CXE P w base) P w K mg base N qual scope f cd A outer s0 H0 E) (e::es) t)(l:k<=j:=by decide)
  (m:Gl (cxOf (CXE P w base) P w K mg base N qual scope f cd A outer s0 H0 E) x:=by rfl) (a:(x == ("__debug__" : Str))=false:=by decide)
  (c:starEach (e::es) (cxOf (CXE P w base) P w K mg base N qual scope f cd A outer s0 H0 E).env=(false,eval e (cxOf (CXE P w base) P w K mg base N qual scope f cd A outer s0 H0 E).env)::starEach es (cxOf (CXE P w base) P w K mg base N qual scope f cd A outer s0 H0 E).env:=by rfl)
  (b:(backTo pos (starEach es (cxOf (CXE P w base) P w K mg base N qual scope f cd A outer s0 H0 E).env)).any (·.1)=false:=by rfl) :
  PE (cxOf (CXE P w base) P w K mg base N qual scope f cd A outer s0 H0 E) (.Call (.Name x p) (e::es) [] pos) (o3 sp [] E t):=by
 obtain⟨o,fd,h,g,d,n⟩:=F
 exact NF h (i.mono l) m g d n .nil lM ha a c b
theorem bA{C:Addr}{m:Str}{j:Nat}(c:XOk K mg x C)(d:Gl (cxOf (CXE P w base) P w K mg base N qual scope f cd A outer s0 H0 E) x:=by rfl)(a:(x == ("__debug__" : Str))=false:=by decide) :
  PS (cxOf (CXE P w base) P w K mg base N qual scope f cd A outer s0 H0 E) (.Raise (some (.Call (.Name x np) [.Constant (.str m) j ep] [] cpos)) none pos) (λ_ σ H=>X1 (tC (.str m)) tNil σ H λvs b=>vs.length<=sizeLine/\E (.ref C) none b) :=
 nL (W:=λH=>E (.ref C) none H) c d rfl (i0 ZD o0) (λpins σ H s g e args I m w=>UO I m w) a
variable{X:Cx}
end
end L2
namespace VL
open PySem PySem.Spec L2
section
variable{B:Bs}{env:En}{QO:Sl->En->Prop}{Q':PyData->En->Prop}{QT:Bool->En->Prop}{K:Frag}{i:Nat}{C:Addr}
theorem E7{D:Addr}{b:Bool}(d:Has env i (OE C))(c:XIn K C)(e:kitOne K (.ref C) (.ref D)=some b)(q:Q' (.bool b) env):Ev B (tCB (EC K) (X1 (tVar i) (X1 (tC (.ref D)) tNil))) env Q':=λσ G H F Q I k=>by
 obtain⟨v,g,a,rfl,ha,f⟩:=I.has d
 exact⟨_,g,a,C,_,_,b,rfl,.inl ⟨D,rfl,rfl⟩,ha,c,e,k _ G H F _ env I (Same.refl _) (.bl _) q⟩
theorem yN{T:String}{b:Bool}(d:Has env i (OE C))(c:XIn K C)(e:kitOne K (.ref C) (.type T)=some b)(q:Q' (.bool b) env):Ev B (tCB (EC K) (X1 (tVar i) (X1 (tC (.ty T)) tNil))) env Q':=λσ G H F Q I k=>by
 obtain⟨v,g,a,rfl,ha,f⟩:=I.has d
 exact⟨_,g,a,C,_,_,b,rfl,.inr ⟨T,rfl,rfl⟩,ha,c,e,k _ G H F _ env I (Same.refl _) (.bl _) q⟩
theorem RQ(b:Has env i (OE C))(q:Q' (.bool true) env):Ev B (tOp NC (tVar i) (tC .non)) env Q':=λσ G H F Q I k=>by
 obtain⟨v,c,a,rfl,ha,f⟩:=I.has b
 exact⟨_,c,rfl,k _ G H F _ env I (Same.refl _) (.bl _) q⟩
end
end VL
namespace L2
open PySem PySem.Spec PyProof.Rows
section
variable{X:Cx}
end
end L2
namespace VL
open PySem PySem.Spec L2
section
variable{B:Bs}{env:En}{Q':PyData->En->Prop}{K:Frag}{i:Nat}{C:Addr}{tl te:TE}
end
end VL
namespace L2
open PySem PySem.Spec PyProof.Rows
theorem CD{K:Frag}{C:Addr}{bmB:List Value}{newId:String}(q:excIn K C bmB newId=true):∃ bm N nm qn bs hdct sn sub ab col dd k0 k1 k2 k3 k5,
  K.lookup C=some (excClassObj nm qn C N bs bm hdct sn sub ab col dd k0 k1 k2 k3 k5 newId)/\PySem.W.tailIn K bmB bm=true/\PySem.W.nsOkIn K N=true/\nsIn K N "__init__" = some none:=by
 unfold excIn at q
 split at q
 ·rename_i dd cd sl ho
  split at q
  ·rename_i C' bm k0 k1 k2 k3 n k5 hm hs
   simp only[S5,N1,Bool.not_eq_true'] at q
   obtain⟨⟨⟨⟨⟨rfl,rfl⟩,a⟩,d⟩,hok⟩,b⟩:=q
   obtain⟨nm,bs,f,ns,qn,hd,sn,sub,ab,col,g⟩:=cd
   dsimp only at hm a hok b
   subst hm a
   have c:sl = #[k0,k1,k2,k3,some (.builtin n),k5]:=by
    obtain⟨l⟩:=sl
    simp only at hs
    rw[hs]
   subst c
   exact⟨bm,ns,nm,qn,bs,hd,sn,sub,ab,col,dd,k0,k1,k2,k3,k5,ho,d,hok,b⟩
  ·cases q
 ·cases q
theorem oM{K:Frag}{mg:Str->Option Value}{x:Str}{C:Addr}(m:mg x=some (.ref C))(q:excIn K C bmV "ValueError.__new__" = true):XOk K mg x C:=λh X=>by
 obtain⟨bm,N,nm,qn,bs,hdct,sn,sub,ab,col,dd,k0,k1,k2,k3,k5,c,b,hok,a⟩:=CD q
 exact⟨m,bm,N,nm,qn,bs,hdct,sn,sub,ab,col,dd,k0,k1,k2,k3,k5,_,X _ _ c,.of_isNs (PySem.W.isNs_of_in X hok),PySem.W.nsMap_none_of_in X hok a,PySem.W.tail_of_in X b⟩
theorem AB{K:Frag}{C D:Addr}(q:excIn K C bmV "ValueError.__new__" = true)(m:mroIn K C (.ref D)=some true):XSub K C D:=λh X=>by
 obtain⟨bm,N,nm,qn,bs,hdct,sn,sub,ab,col,dd,k0,k1,k2,k3,k5,a,c,hok,b⟩:=CD q
 refine⟨nm,qn,N,bs,bm,hdct,sn,sub,ab,col,dd,k0,k1,k2,k3,k5,_,X _ _ a,?_⟩
 unfold mroIn PySem.W.clsIn at m
 rw[a] at m
 simpa[excClassObj] using m
theorem cl_of{K:Frag}{C:Addr}{bmB:List Value}{newId:String}(q:excIn K C bmB newId=true):(PySem.W.clsIn K C).isSome=true:=by
 obtain⟨bm,N,nm,qn,bs,hdct,sn,sub,ab,col,dd,k0,k1,k2,k3,k5,b,c,hok,a⟩:=CD q
 unfold PySem.W.clsIn
 rw[b]
 rfl
structure XCls(K:Frag)(mg:Str->Option Value)(x:Str)(C:Addr):Prop where
 mgx:mg x=some (.ref C)
 exc:excIn K C bmV "ValueError.__new__" = true
 xin:XIn K C
theorem XCls.ok{K:Frag}{mg:Str->Option Value}{x:Str}{C:Addr}(c:XCls K mg x C):XOk K mg x C:=oM c.mgx c.exc
section
variable{P:Program}{w:World}{K:Frag}{mg:Str->Option Value}{base:Heap}{x:Str}{k k2:Nat}{ps:List Str}{sp sp2:Sp}
variable{j:Nat}{p pos ep:Pos}{e:Expr}{es:List Expr}{t:TA}{X:Cx}
end
end L2
namespace VL
open PySem PySem.Spec L2
section
variable{P:Program}{w:World}{K:Frag}{mg:Str->Option Value}{base:Heap}{x:Str}{k:Nat}{ps:List Str}
variable{B:Bs}{env:En}{D':VEnds}{RX:Addr->En->Prop}
end
end VL
namespace L2
open PySem PySem.W PyProof.Rows
def uH:List V->Hp->VK->Prop:=λxs H Q=>∃ a kvs,xs=[V.ref a]/\H a=some (.dK kvs)/\Q (.int (kvs.length:Int)) H
section
variable{X:Cx}
theorem yK:M2 X (.builtin "len") uH:=WM
end
end L2
namespace VL
open PySem PySem.Spec L2
section
variable{B:Bs}{env:En}{Q':PyData->En->Prop}{R:Sl->Prop}{td:TE}
theorem XQ{es:List (Key × PyData)}(b:es ≠ [])(h:R (.st (.int (es.length:Int)))):OpA uH [abw es] R:=λG H vs Q gh rs k=>by
 cases rs with
 | cons r t =>
  cases t
  obtain⟨a,kvs,rfl,ha,c⟩:=sB r b
  refine⟨a,kvs,rfl,gh _ _ ha,?_⟩
  rw[RpK.length c]
  exact k _ _ _ _ _ (Out.refl gh (.int _)) h
end
def OGW(C:Addr)(x:Str)(d:PyData)(ds:List PyData):Own where
 P:=λG H v F=>∃ a dx t l u vs,v=.ref a/\H a=some (.ins C dx [(x,.ref t)])/\H dx=some (.own a)/\H t=some (.tup [u,.ref l])/\Rp G u d/\H l=some (.lst vs)/\Rps G vs ds/\∀ b,F b ↔ (b=a\/b=dx)\/(b=t\/b=l)
 mono:=λ⟨a,dx,t,l,u,vs,e,h1,h2,h3,r3,h4,r4,f⟩ g hh=>⟨a,dx,t,l,u,vs,e,hh a _ ((f a).mpr (.inl (.inl rfl))) h1,hh dx _ ((f dx).mpr (.inl (.inr rfl))) h2,hh t _ ((f t).mpr (.inr (.inl rfl))) h3,r3.same g,hh l _ ((f l).mpr (.inr (.inr rfl))) h4,r4.same g,f⟩
 dom:=λ⟨a,dx,t,l,u,vs,e,h1,h2,h3,r3,h4,r4,f⟩ b z=>by
  rcases(f b).mp z with (rfl|rfl)|(rfl|rfl)
  ·exact⟨_,h1⟩
  ·exact⟨_,h2⟩
  ·exact⟨_,h3⟩
  ·exact⟨_,h4⟩
def OAny:Own where
 P:=λG H v F=>∀ b,F b->∃ o,H b=some o
 mono:=λh g hh b z=>by
  obtain⟨o,e⟩:=h b z
  exact⟨o,hh b o z e⟩
 dom:=λh b z=>h b z
theorem ZG{σ:St}{i:Nat}{v:V}(a : σ[i]?=some (some v)) : σ.set i (some v) = σ:=by
 apply T5
 intro j
 rw[Z3]
 by_cases h:i=j
 ·subst h
  rw[t0 rfl,a,t0 (J1.mp a).1]
 ·rw[y0 h]
section
variable{B:Bs}{env:En}{QO:Sl->En->Prop}{Q':PyData->En->Prop}{D':VEnds}{K:Frag}{C:Addr}{i:Nat}{x:Str}{tv:TE}
theorem fS(c:Cls K C)(n:NoAttr K C x)(h:EvO B tv env λs N=>∃ d ds s0,s=.own (OW d ds)/\N[i]?=some (some s0)/\(s0=.own (OI C [])\/s0=.io (OI C []))/\D'.nx (N.set i (some (reS s0 (OGW C x d ds))))):EvS B (sFld K (tVar i) tv x) D' env:=λσ G H F D I r =>
 h σ G H F _ I λy Y E L Fv s N m g1 o z_=>by
  obtain⟨d,ds,s0,es,Z,hs,q⟩:=z_
  subst es
  obtain⟨v,O,g⟩:=m.sl i _ Z
  have ap:(OI C []).P Y E v (L i):=by
   rcases hs with rfl|rfl
   ·exact g.1
   ·exact g.1
  obtain⟨a,dx,us,rfl,M,h2,rf,f⟩:=ap
  cases rf
  obtain⟨t,l,u,vs,rfl,h3,r3,X,r4,f'⟩:=o.ok
  refine⟨_,O,a,C,dx,[],rfl,M,c,n,by decide,?_⟩
  have ad:a ≠ dx:=Q8 M h2 (by intro z;cases z)
  have S:a ≠ t:=Q8 M h3 (by intro z;cases z)
  have al:a ≠ l:=Q8 M X (by intro z;cases z)
  have p:∀ b w,E b=some w->∃ w',upd E a (.ins C dx [(x,.ref t)]) b=some w':=λb w T=>by
   by_cases z:b=a
   ·rw[z];exact⟨_,K0⟩
   ·rw[z0 z];exact⟨w,T⟩
  have J:=m.change (A:=OAny) (H2:=upd E a (.ins C dx [(x,.ref t)])) (F2:=L i) (os':=reS s0 OAny) i Z O (λb w hb T=>by rw[z0 (λz:b=a=>hb ((f b).mpr (.inl z)))];exact T) p
   (λb z=>⟨.inl z,by obtain⟨w,e⟩:=m.fo i b z;exact p b w e⟩) (λb z=>by obtain⟨w,e⟩:=m.fo i b z;exact p b w e) (λb ks e=>by
    by_cases z:b=a
    ·subst z;rw[K0] at e;cases e
    ·rw[z0 z] at e;exact m.ft b ks e) (by
    rcases hs with rfl|rfl
    ·exact .inl ⟨rfl,_,rfl⟩
    ·exact .inr ⟨rfl,_,rfl⟩)
  have U:=J.slot (Fv:=λb=>L i b\/Fv b) i (some (.ref a)) (some (reS s0 (OGW C x d ds))) (λb z=>z.elim (m.fg i b) (o.fg b)) (λb z=>z.elim (m.fr i b) λz=>by
    cases e:B.R b with
    |none=>rfl
    |some w=>have:=m.rb b w e;rw[o.fb b z] at this;cases this) (λb z=>z.elim (λz=>by obtain⟨w,e⟩:=m.fo i b z;exact p b w e) λz=>by obtain⟨w,e⟩:=o.fo b z;exact p b w e) (λj b hj z Q=>by
    rw[P3 hj] at Q
    rcases z with z|z
    ·exact hj (m.fd j i b Q z)
    ·exact o.fd j b z Q) (λt' et=>by
    cases et
    have W:(OGW C x d ds).P Y (upd E a (.ins C dx [(x,.ref t)])) (.ref a) (λb=>L i b\/Fv b):=⟨a,dx,t,l,u,vs,rfl,K0,by rw[z0 ad.symm];exact h2,by rw[z0 S.symm];exact h3,r3,by rw[z0 al.symm];exact X,r4,λb=>or_congr (f b) (f' b)⟩
    refine⟨_,rfl,?_⟩
    rcases hs with rfl|rfl
    ·exact⟨W,λb z=>z.elim (g.2 b) (o.fb b)⟩
    ·exact⟨W,λb z=>z.elim (g.2.1 b) λz=>.inr (o.fb b z),g.2.2⟩)
  rw[ZG O,List.set_set] at U
  exact r.nx _ _ _ _ _ U g1 q
theorem lJ{t:TS}{d:PyData}{ds:List PyData}(i:Nat)(e:env[i]?=some (some (.own (OGW C x d ds))))(h:EvS B t D' (env.set i (some (.own (OI C [(x,.tuple [d,.list ds])]))))):EvS B t D' env:=λσ G H F D I r=>by
 obtain⟨v,A,⟨a,dx,g,l,u,vs,rfl,p,o,n,q,m,K,f⟩,hb⟩:=I.sl i _ e
 have ft:F i g:=(f g).mpr (.inr (.inl rfl))
 have L:F i l:=(f l).mpr (.inr (.inr rfl))
 have fi:∀ b,b=g\/b=l->F i b:=λb z=>(f b).mpr (.inr z)
 have fo:∀ b,b=a\/b=dx->F i b:=λb z=>(f b).mpr (.inl z)
 have js:Same G (jn G H λb=>b=g\/b=l):=p4 λb z=>I.fg i b (fi b z)
 have w:=(I.drop i).freeze (Fv:=λb=>b=g\/b=l) (λb z=>hb b (fi b z)) (λj b z y=>by
  by_cases c:j=i
  ·subst c;exact putF_same.mp y
  ·rw[P3 c] at y;exact c (I.fd j i b y (fi b z))) (λb z=>I.fg i b (fi b z))
 have s:∀ b,b=a\/b=dx->¬ (b=g\/b=l):=λb z y=>by
  rcases z with rfl|rfl <;> rcases y with rfl|rfl
  ·rw[p] at n;cases n
  ·rw[p] at m;cases m
  ·rw[o] at n;cases n
  ·rw[o] at m;cases m
 have J:=w.slot (Fv:=λb=>b=a\/b=dx) i (some (.ref a)) (some (.own (OI C [(x,.tuple [d,.list ds])]))) (λb z=>by rw[lA (s b z)];exact I.fg i b (fo b z)) (λb z=>I.fr i b (fo b z)) (λb z=>I.fo i b (fo b z)) (λj b c z y=>by
  rw[P3 c] at y;exact c (I.fd j i b y (fo b z))) (λt E=>by
  cases E
  refine⟨_,rfl,⟨a,dx,_,rfl,p,o,.cons (.tup (by rw[J5 (.inl rfl)];exact n) (.cons (q.same js) (.cons (.lst (by rw[J5 (.inr rfl)];exact m) (K.same js)) .nil))) .nil,λb=>Iff.rfl⟩,λb z=>hb b (fo b z)⟩)
 rw[ZG A,List.set_set] at J
 exact h σ _ H _ D J (r.later js)
end
end VL
namespace L2
open PySem PySem.Spec PyProof.Rows
section
variable{P:Program}{w:World}{K:Frag}{mg:Str->Option Value}{base:Heap}{x:Str}{k k2:Nat}{ps:List Str}{sp sp2:Sp}
variable{N:List Str}{qual:Str}{scope:Scope}{f:Addr}{cd:Value}{A:Around}{outer:List Env}{s0:Shared}{H0:Hp}{E:XK}{j:Nat}{p pos:Pos}{e:Expr}{es:List Expr}{t:TA}
end
end L2
namespace VL
open PySem PySem.Spec L2
section
variable{B:Bs}{env:En}{QO:Sl->En->Prop}{Q':PyData->En->Prop}{K:Frag}{E:XK}{R:Addr->Prop}
end
section
variable{B:Bs}{env:En}{G H:Hp}{σ:St}{F:Nat->Addr->Prop}{QO:Sl->En->Prop}{K:Frag}{E:XK}{te:TE}
end
section
variable{B:Bs}{env:En}{QO:Sl->En->Prop}{Q':PyData->En->Prop}{K:Frag}{i j:Nat}{ta te:TE}
end
end VL
namespace L2
open PySem PySem.Spec PyProof.Rows
def H8(P:Program)(w:World)(K:Frag)(mg:Str->Option Value)(base:Heap)(C:Addr)(m:Str)(k:Nat)(ps:List Str)(sp:Sp):Prop:=∃ f fd,Meth K C m f/\FnOk P w K mg base (CXE P w base) k f fd ps sp/\Binds K fd ps []
theorem MeAt.canX{P:Program}{w:World}{K:Frag}{mg:Str->Option Value}{base:Heap}{C:Addr}{m qn:Str}{st:Stmt}{k:Nat}{ps:List Str}{sp:Sp}{f:Addr}{fd:FuncData}(D:MeAt K C m qn st ps f fd)(ok:FnOk P w K mg base (CXE P w base) k f fd ps sp):H8 P w K mg base C m k ps sp:=⟨f,fd,D.me,ok,D.bd⟩
def SD(C:Addr)(m:Str)(sp:Sp)(ta:TE)(t:TA):XW->TS:=λW D σ H=>ta σ H λx H1=>∃ a dx fs,x=.ref a/\H1 a=some (.ins C dx fs)/\fs.lookup m=none/\t σ H1 λvs H2=>sp (x::vs) H2 (λ_ H3=>D.nx σ H3) (λc _ H3=>W c σ H3)
section
variable{X:Cx}{k j:Nat}{ps:List Str}{sp:Sp}{m:Str}{pos apos ep:Pos}{o e:Expr}{es:List Expr}{t:TA}{ta:TE}{C:Addr}
theorem IE{pins:List (Addr × Obj)}{σ:St}{h:Hp}{s1:Shared}{D:Ends}{W:XW}{f:Addr}{fd:FuncData}{vs:List V}{us:List Value}(F:FnOk X.prog X.w X.K X.mg X.base (CXE X.prog X.w X.base) k f fd ps sp)(s:Room k X.A)(i:X.ex=[])(hb:Binds X.K fd ps [])(a:Inv X pins σ h s1)(r:Vals vs us)(q:sp vs h (λ_ H2=>D.nx σ H2) (λc _ H2=>W c σ H2)) :
  wpAny (model X.prog X.w) X.A (call (.ref f) us) (λ_ j=>SP X pins D .next j) (XP X pins W) s1:=by
 have y:us.length=ps.length:=by rw[← r.length];exact F.len _ _ _ _ q
 refine wpAny_call (codeAny_mono (F.run X.A X.stack s1 h ⟨us,[]⟩ us vs _ _ s a.env0 (by have:=hb s1 us a.kIn (by simpa using y);simpa using this) r q) λr j d=>?_)
 cases r with
 | error e =>
  obtain⟨l,T,C,H',rfl,n,B,un,hok,g,ne,x,m,p,o⟩:=d
  exact⟨σ,l,T,C,H',rfl,a.call' n un hok B (λb z=>absurd z (by simp)),g,mG a i ne,mG a i x,m,p,o⟩
 | ok g =>
  cases g with
  | ret u =>
   obtain⟨v,H2,J,_,q⟩:=a.after d
   exact⟨σ,H2,J,q⟩
  |next=>exact False.elim d
  |brk=>exact False.elim d
  |cont=>exact False.elim d
theorem sC{pl:Sem Bool}(F:H8 X.prog X.w X.K X.mg X.base C m k ps sp)(c:Cls X.K C)(L:Room j X.A)(n:PE X.nox o ta)(ha:PA X.nox (e::es) t)(J:X.ex=[]:=by rfl)(E:k<=j:=by decide)
  (d:starEach (e::es) X.env=(false,eval e X.env)::starEach es X.env:=by rfl) (g:(backTo pos (starEach es X.env)).any (·.1)=false:=by rfl)
  (y:eval (.Call (.Attribute o m apos) (e::es) [] pos) X.env=(do
   let ov ← eval o X.env
   standAt apos.atName
   let (f,first) ← holding [ov] (getMethod ov m pl)
   callWith pos f first (backTo pos (starEach (e::es) X.env)) (backToKw pos (keywordEach [] X.env))):=by rfl)
  (hs:swapsWith (.Call (.Attribute o m apos) (e::es) [] pos) none ep.line X.env=pure false:=by rfl) :
  PXs X [.Expr (.Call (.Attribute o m apos) (e::es) [] pos) ep] (SD C m sp ta t):=by
 obtain⟨f,fd,hm,ok,hb⟩:=F
 intro pins s σ H D W I h
 refine wpAny_execs_cons (thn (Q:=SP X pins D) (wpAny_Expr_any (Q:=SP X pins D) ?_ I.quiet hs) λf s1 q=>?_)
 ·refine PySem.W.methodCall_KW (pl:=pl) (n4 (n pins s σ H _ (I.wish _) h) (λu s1 ⟨x,G,b,p,a,dx,fs,ex,B,l,q⟩=>?_) λ_ _ z=>False.elim z) y
  subst ex
  obtain rfl:u=Value.ref a:=p
  have b:=b.unwish
  refine YA b B c hm l ?_
  refine PySem.W.callWith_K (first:=[.ref a]) (h₀:=X.base) I.ok.mod.kin hm.kp (n4 (ha pos pins s1 σ G _ (b.wish _) q) (λus s2 ⟨vs,H2,i,r,M⟩=>⟨i.kIn,?_⟩) λ_ _ z=>False.elim z) d g
  exact IE (us:=.ref a::us) (vs:=.ref a::vs) ok (L.mono E) J hb i.unwish (.cons rfl r) M
 ·cases f with
  |next=>exact wpAny_execs_nil q
  |ret v=>exact q
  |brk=>exact q
  |cont=>exact q
theorem lQ{pl:Sem Bool}(F:H8 X.prog X.w X.K X.mg X.base C m k ps sp)(c:Cls X.K C)(y:Room j X.A)(i:PE X.nox o ta)(r:X.ex=[]:=by rfl)(p:k<=j:=by decide)
  (d:eval (.Call (.Attribute o m apos) [] [] pos) X.env=(do
   let ov ← eval o X.env
   standAt apos.atName
   let (f,first) ← holding [ov] (getMethod ov m pl)
   callWith pos f first (backTo pos (starEach [] X.env)) (backToKw pos (keywordEach [] X.env))):=by rfl)
  (hs:swapsWith (.Call (.Attribute o m apos) [] [] pos) none ep.line X.env=pure false:=by rfl) :
  PXs X [.Expr (.Call (.Attribute o m apos) [] [] pos) ep] (SD C m sp ta tNil):=by
 obtain⟨f,fd,hm,ok,hb⟩:=F
 intro pins s σ H D W I h
 refine wpAny_execs_cons (thn (Q:=SP X pins D) (wpAny_Expr_any (Q:=SP X pins D) ?_ I.quiet hs) λf s1 q=>?_)
 ·refine PySem.W.methodCall_KW (pl:=pl) (n4 (i pins s σ H _ (I.wish _) h) (λu s1 ⟨x,B,b,n,a,dx,fs,ex,g,l,q⟩=>?_) λ_ _ z=>False.elim z) d
  subst ex
  obtain rfl:u=Value.ref a:=n
  have b:=b.unwish
  refine YA b g c hm l ?_
  exact PySem.W.callWith_K0 (first:=[.ref a]) b.kIn hm.kp (IE (us:=[.ref a]) (vs:=[.ref a]) ok (y.mono p) r hb b (.cons rfl .nil) q)
 ·cases f with
  |next=>exact wpAny_execs_nil q
  |ret v=>exact q
  |brk=>exact q
  |cont=>exact q
end
end L2
namespace VL
open PySem PySem.Spec L2
def OIr(C:Addr)(fs:List (Str × PyData)):Own where
 P:=λG _ v F=>∃ a dx us,v=.ref a/\G a=some (.ins C dx us)/\G dx=some (.own a)/\RpF G us fs/\∀ b,¬ F b
 mono:=λ⟨a,dx,us,e,h1,h2,r,f⟩ g _=>⟨a,dx,us,e,g _ _ h1,g _ _ h2,r.same g,f⟩
 dom:=λ⟨a,dx,us,e,h1,h2,r,f⟩ b z=>absurd z (f b)
abbrev VMX:=List (Str × PyData)->List Sl->(Addr->Prop)->Prop
def spM(K:Frag)(C:Addr)(f:VMX):Sp:=λvs H _ E=>∃ a dx us vr G ss fs R',vs=.ref a::vr/\G a=some (.ins C dx us)/\G dx=some (.own a)/\RpF G us fs/\Same G H/\FT G H/\ArgsOk K G vr ss/\f fs ss R' /\
 ∀ C',R' C'->∀ G' H',Out G H .non G' H' (.st .none) (λ_=>False)->E (.ref C') none H'
theorem lenM{K:Frag}{C:Addr}{f:VMX}{vs:List V}{H:Hp}{Q:VK}{E:XK}{n:Nat}(h:spM K C f vs H Q E)(d:∀ fs ss b,f fs ss b->ss.length+1=n):vs.length=n:=by
 obtain⟨a,dx,us,g,G,ss,fs,b,rfl,_,_,_,_,_,c,hf,_⟩:=h
 rw[W3,c.length];exact d fs ss b hf
theorem nB{K:Frag}{C:Addr}{f:VMX}{ts:TS}{N:List Str}{vs:List V}{H:Hp}{Q:VK}{E:XK}(h:spM K C f vs H Q E)
  (hb:∀ fs ss b,f fs ss b->∀ B,B.K=K->EvE B E b->EvS B ts { nx:=λ_=>False,rt:=λ_ _=>False } (some (.own (OIr C fs))::(ss.map some++List.replicate (N.length-(ss.length+1)) none))):ts { nx:=λ_ H'=>Q .non H',rt:=Q } (L2.start N vs) H:=by
 obtain⟨a,dx,us,c,G,ss,fs,b,rfl,w,r,rf,gh,ft,g,hf,l⟩:=h
 refine hb fs ss _ hf (bsP K G H (.ref a::c)) rfl (λu p σ G' H' F env I=>l u p G' H' ⟨I.g0,I.gh,I.rs,I.gn,λ_ z=>z.elim,λ_ z=>z.elim,λ_ z=>z.elim,⟨.non,λ_ z=>z⟩,λ_=>I.ft⟩) (L2.start N (.ref a::c)) G H noF _ ?_ ⟨λ_ _ _ _ _ _ _ q=>q.elim,λ_ _ _ _ _ _ _ _ _ _ _ q=>q.elim,λ_ _ _ _ _ _ _ q=>q,λ_ _ _ _ _ _ _ q=>q⟩
 refine⟨gh,Same.refl _,λa o e=>.inl e,Same.refl _,Same.refl _,λa o e=>⟨o,e⟩,λi a z=>z.elim,λi a z=>z.elim,λi j a z=>z.elim,λi a z=>z.elim,λi s e=>?_,?_,ft⟩
 ·cases i with
  | zero =>
   simp at e
   subst e
   exact⟨.ref a,rfl,⟨a,dx,us,rfl,w,r,rf,λ_ z=>z⟩,λ_ z=>z.elim⟩
  | succ i =>
   have m:(ss.map some++List.replicate (N.length-(ss.length+1)) none)[i]?=some (some s):=by simpa using e
   obtain⟨v,n,q⟩:=g.get (yB m)
   refine⟨v,?_,?_⟩
   ·unfold L2.start;exact LB (by simpa using n)
   ·cases s with
    |st d=>exact⟨q,λa z=>z⟩
    |scr ns=>exact⟨q,λa z=>z⟩
    |own A=>exact q.elim
    |io A=>exact q.elim
 ·unfold L2.start;simp[g.length]
section
variable{B:Bs}{env:En}{QO:Sl->En->Prop}{Q':PyData->En->Prop}{D':VEnds}{RX:Addr->En->Prop}{K:Frag}{C:Addr}{i:Nat}{fs:List (Str × PyData)}{x m:Str}{t:TA}
theorem cA{d:PyData}(g:env[i]?=some (some (.own (OIr C fs))))(c:Cls K C)(n:NoAttr K C x)(hd:fs.lookup x=some d)(q:Q' d env):Ev B (tFld K (tVar i) x) env Q':=λσ G H F Q I k=>by
 obtain⟨v,j,⟨a,dx,us,rfl,h,m,r,f⟩,_⟩:=I.sl i _ g
 obtain⟨u,l,b⟩:=r.get hd
 exact⟨_,j,a,C,dx,us,u,rfl,I.gh _ _ h,c,n,l,k u G H F d env I (Same.refl _) b q⟩
theorem rP{sp:Sp}{E:XK}(b:env[i]?=some (some (.own (OIr C fs))))(hm:fs.lookup m=none)(h:EvA B t env λ_ _=>False):EvO B (T7 C m sp [] E (tVar i) t) env QO:=λσ G H F Q I k=>by
 obtain⟨v,d,⟨a,dx,us,rfl,g,u,r,f⟩,_⟩:=I.sl i _ b
 exact⟨_,d,a,dx,us,rfl,I.gh _ _ g,r.no hm,h σ G H F _ I λvs s p n ds q j o l c=>c.elim⟩
theorem JA{f:VMX}(L:Has env i (OI C fs))(hm:fs.lookup m=none)(h:EvA B t env λds l=>Has l i (OI C fs)/\f fs (ds.map Sl.st) (λp=>RX p l)):EvXs B (SD C m (spM K C f) (tVar i) t) D' RX env:=λσ G H F D W I r w=>by
 obtain⟨v,y,a,dx,us,rfl,S,Y,rf,X⟩:=I.has L
 refine⟨_,y,a,dx,us,rfl,S,rf.no hm,h σ G H F _ I λvs P x u ds l c J z ⟨s,M⟩=>?_⟩
 obtain⟨U,d,T,g,q,E,k1,k2,n,j⟩:=c.has s
 rw[y] at d
 cases d
 cases E
 have js:=p4 (H:=x) (c.fg i)
 refine⟨a,g,q,vs,jn P x (u i),_,fs,_,rfl,by rw[J5 ((j a).mpr (.inl rfl))];exact k1,by rw[J5 ((j g).mpr (.inr rfl))];exact k2,n.same js,CB c.gh,λb R e=>js _ _ (c.ft b R e),ArgsOk.of (z.same js),M,λp N G' H' o=>?_⟩
 obtain⟨O,A,Q⟩:=c.moment js o
 exact w p σ O H' u l Q (J.trans A) N
end
abbrev VJ:=List Sl->(En->Sl->Prop)->Prop
def ioO:Option Sl->Option Sl
 |some (.io A)=>some (.io A)
 |_=>none
def cutE:Nat->En->En
 |0,_=>[]
 |n+1,[]=>none::cutE n []
 |n+1,x::xs=>ioO x::cutE n xs
theorem rD:∀(n:Nat)(e:En),(cutE n e).length=n
 |0,_=>rfl
 |n+1,[]=>by unfold cutE;rw[W3,rD n []]
 |n+1,_::xs=>by unfold cutE;rw[W3,rD n xs]
theorem PD:∀{n:Nat}{e:En}{i:Nat}{s:Sl},(cutE n e)[i]?=some (some s)->∃ A,s=.io A/\e[i]?=some (some (.io A))
 |0,_,_,_,h=>by simp[cutE] at h
 |n+1,[],0,_,h=>by simp[cutE] at h
 | n+1,[],i+1,_,h=>by
  unfold cutE at h
  rw[m3] at h
  obtain⟨A,_,a⟩:=PD h
  simp at a
 | n+1,x::xs,0,s,h=>by
  unfold cutE at h
  rw[List.getElem?_cons_zero] at h
  have h:=M3 h
  match x,h with
  |some (.io A),h=>cases h;exact⟨A,rfl,rfl⟩
  |some (.st _),h=>cases h
  |some (.own _),h=>cases h
  |some (.scr _),h=>cases h
  |none,h=>cases h
 | n+1,x::xs,i+1,s,h=>by
  unfold cutE at h
  rw[m3] at h
  rw[m3]
  exact PD h
def spJ(K:Frag)(f:VJ):Sp:=λvs H Q _=>∃(B:Bs)(ss:List Sl)(Q':En->Sl->Prop),B.K=K/\B.S=vs.map some/\VI B B.G H (vs.map some) (ss.map some) B.F/\f ss Q' /\
 ∀ e s,Q' e s->∀ v G' H' F' Fv,VI B G' H' (vs.map some) e F'->RsX B G' H' v Fv s F'->Q v H'
theorem wO{c:Prop} [Decidable c] {s:Sl} (e:(if c then some (none:Option Sl) else none)=some (some s)):False:=by
 split at e <;> cases e
theorem VI.pad{B:Bs}{G H:Hp}{σ:St}{env:En}{F:Nat->Addr->Prop}(I:VI B G H σ env F)(n:Nat):VI B G H (σ++List.replicate n none) (env++List.replicate n none) F :=
 ⟨I.gh,I.g0,I.gn,I.rs,I.rb,I.bh,I.fg,I.fr,I.fd,I.fo,λi s e=>by
  by_cases h:i<env.length
  ·rw[q8 h] at e
   obtain⟨v,b,a⟩:=I.sl i s e
   exact⟨v,by rw[q8 (by rw[I.ln];exact h)];exact b,a⟩
  ·rw[H7 (by lia),O7] at e
   exact(wO e).elim,by rw[Q3,Q3,I.ln];simp,I.ft⟩
theorem VI.cut{B:Bs}{G H:Hp}{σ:St}{env:En}{F:Nat->Addr->Prop}(I:VI B G H σ env F):VI B G H B.S (cutE B.S.length env) (λi a=>(∃ A,(cutE B.S.length env)[i]?=some (some (.io A)))/\F i a) :=
 ⟨I.gh,I.g0,I.gn,I.rs,I.rb,I.bh,λi a z=>I.fg i a z.2,λi a z=>I.fr i a z.2,λi j a y z=>I.fd i j a y.2 z.2,λi a z=>I.fo i a z.2,λi s e=>by
  obtain⟨A,rfl,h⟩:=PD e
  obtain⟨v,f,c,d,b⟩:=I.sl i _ h
  have:(λa=>(∃ A,(cutE B.S.length env)[i]?=some (some (.io A)))/\F i a)=F i:=by
   funext a
   exact propext ⟨λz=>z.2,λz=>⟨⟨A,e⟩,z⟩⟩
  exact⟨v,b,by rw[this];exact c,λa z=>d a z.2,b⟩,(rD _ _).symm,I.ft⟩
theorem RsX.cut{B:Bs}{G H:Hp}{v:V}{Fv:Addr->Prop}{s:Sl}{F F2:Nat->Addr->Prop}(r:RsX B G H v Fv s F)(h:∀ i a,F2 i a->F i a):RsX B G H v Fv s F2:=⟨r.ok,r.fb,r.fg,r.fo,λj a z y=>r.fd j a z (h j a y)⟩
theorem fD{K:Frag}{f:VJ}{ts:TS}{N:List Str}{vs:List V}{H:Hp}{Q:VK}{E:XK}(h:spJ K f vs H Q E)
  (hb:∀ ss Q',f ss Q'->∀ B,B.K=K->EvS B ts { nx:=λe=>Q' (cutE ss.length e) (.st .none),rt:=λs e=>Q' (cutE ss.length e) s } (ss.map some++List.replicate (N.length-ss.length) none)):ts { nx:=λ_ H'=>Q .non H',rt:=Q } (L2.start N vs) H:=by
 obtain⟨B,ss,Q',l,j,I,hf,m⟩:=h
 have d:vs.length=ss.length:=by have:=I.ln;simpa using this
 have c:B.S.length=ss.length:=by rw[j,T0,d]
 have fin:∀{σ G' H' F env v Fv s},VI B G' H' σ env F->RsX B G' H' v Fv s F->Q' (cutE ss.length env) s->Q v H':=λ{σ G' H' F env v Fv s} b r q=>by
  have J:=b.cut
  have X:=r.cut (F2:=λi a=>(∃ A,(cutE B.S.length env)[i]?=some (some (.io A)))/\F i a) λi a z=>z.2
  rw[c] at J X
  rw[j] at J
  exact m _ s q v G' H' _ Fv J X
 refine hb ss Q' hf B l (L2.start N vs) B.G H B.F _ ?_ ⟨λσ G' H' F env b g q=>fin b (u7 .non) q,λσ G' H' F env v Fv s b g r q=>fin b r q,λ_ _ _ _ _ _ _ q=>q,λ_ _ _ _ _ _ _ q=>q⟩
 unfold L2.start
 rw[d]
 exact I.pad _
theorem lenJ{K:Frag}{f:VJ}{n:Nat}{vs:List V}{H:Hp}{Q:VK}{E:XK}(h:spJ K f vs H Q E)(hf:∀ ss Q',f ss Q'->ss.length=n):vs.length=n:=by
 obtain⟨B,ss,Q',_,_,I,q,_⟩:=h
 have:=I.ln
 rw[T0,T0] at this
 rw[this];exact hf ss Q' q
inductive AJ where
 |pl (d:PyData)
 |rf (i:Nat)
def P4:List AJ->List Nat
 |[]=>[]
 | .pl _::js=>P4 js
 | .rf i::js=>i::P4 js
def ArgJ(σ:St)(G:Hp):V->AJ->Prop
 |v,.pl d=>Rp G v d
 |v,.rf i=>σ[i]?=some (some v)
inductive ArgsJ(σ:St)(G:Hp):List V->List AJ->Prop
 |nil:ArgsJ σ G [] []
 |cons {v:V} {j:AJ} {vs:List V} {js:List AJ}:ArgJ σ G v j->ArgsJ σ G vs js->ArgsJ σ G (v::vs) (j::js)
def EvJ(B:Bs)(ta:TA)(env:En)(Q':List AJ->En->Prop):Prop:=∀(σ:St)(G H:Hp)(F:Nat->Addr->Prop)(Q:List V->Hp->Prop),VI B G H σ env F ->
 (∀ vs G' H' F' js env',VI B G' H' σ env' F'->Same G G'->ArgsJ σ G' vs js->Q' js env'->Q vs H')->ta σ H Q
inductive SlJ(e:En):List AJ->List Sl->Prop
 |nil:SlJ e [] []
 |pl {d:PyData} {js:List AJ} {ss:List Sl}:SlJ e js ss->SlJ e (.pl d::js) (.st d::ss)
 |rf {i:Nat} {A:Own} {js:List AJ} {ss:List Sl}:Has e i A->SlJ e js ss->SlJ e (.rf i::js) (.io A::ss)
inductive PutJ:En->List AJ->En->En->Prop
 |nil {e:En}:PutJ e [] [] e
 |pl {e r e2:En} {d:PyData} {x:Option Sl} {js:List AJ}:PutJ e js r e2->PutJ e (.pl d::js) (x::r) e2
 |rf {e r e2:En} {i:Nat} {s0:Sl} {A A':Own} {js:List AJ}:e[i]?=some (some s0)->(s0=.own A\/s0=.io A)->PutJ (e.set i (some (reS s0 A'))) js r e2->PutJ e (.rf i::js) (some (.io A')::r) e2
theorem t9:∀{js:List AJ}{j i:Nat},js[j]?=some (.rf i)->i∈P4 js
 |[],_,_,h=>by simp at h
 | .pl _::js,0,_,h=>by simp at h
 | .rf k::js,0,_,h=>by simp at h;simp[P4,h]
 | .pl _::js,j+1,_,h=>by rw[m3] at h;exact t9 (js:=js) h
 | .rf k::js,j+1,_,h=>by rw[m3] at h;exact S3 _ (t9 h)
theorem AC:∀{js:List AJ}{i:Nat},i∈P4 js->∃ j:Nat,js[j]?=some (AJ.rf i)
 |[],_,h=>by simp[P4] at h
 | .pl _::js,i,h=>by
  obtain⟨j,a⟩:=AC (js:=js) h
  exact⟨j+1,by rw[m3];exact a⟩
 | .rf k::js,i,h=>by
  rcases Z0.mp h with rfl|h
  ·exact⟨0,rfl⟩
  ·obtain⟨j,a⟩:=AC (js:=js) h
   exact⟨j+1,by rw[m3];exact a⟩
theorem gE:∀{js:List AJ}{j a i:Nat},(P4 js).Nodup->js[j]?=some (.rf i)->js[a]?=some (.rf i)->j=a
 |[],_,_,_,_,h,_=>by simp at h
 |x::js,0,0,_,_,_,_=>rfl
 | .pl _::js,0,_+1,_,_,h,_=>by simp at h
 | .pl _::js,_+1,0,_,_,_,h=>by simp at h
 | .rf k::js,0,a+1,i,n,h,h'=>by
  simp at h;subst h
  rw[m3] at h'
  exact absurd (t9 h') (V6.mp n).1
 | .rf k::js,j+1,0,i,n,h,h'=>by
  simp at h';subst h'
  rw[m3] at h
  exact absurd (t9 h) (V6.mp n).1
 | .pl _::js,j+1,a+1,i,n,h,h'=>by
  rw[m3] at h h'
  rw[gE (js:=js) n h h']
 | .rf k::js,j+1,a+1,i,n,h,h'=>by
  rw[m3] at h h'
  rw[gE (js:=js) (V6.mp n).2 h h']
theorem PutJ.io{e r e2:En}{js:List AJ}(h:PutJ e js r e2):∀{i j:Nat},js[j]?=some (.rf i)->∃ A',r[j]?=some (some (.io A')):=by
 induction h with
 |nil=>intro i j h;simp at h
 | pl _ ih =>
  intro i j h
  cases j with
  |zero=>simp at h
  |succ j=>rw[m3] at h ⊢;exact ih h
 | rf _ _ _ ih =>
  intro i j h
  cases j with
  |zero=>exact⟨_,rfl⟩
  |succ j=>rw[m3] at h ⊢;exact ih h
theorem PutJ.length{e r e2:En}{js:List AJ}(h:PutJ e js r e2):e2.length=e.length:=by
 induction h with
 |nil=>rfl
 |pl _ ih=>exact ih
 |rf _ _ _ ih=>rw[ih,List.length_set]
theorem PutJ.at{e r e2:En}{js:List AJ}(h:PutJ e js r e2):(P4 js).Nodup->∀{i:Nat}{s:Sl},e2[i]?=some (some s)->(i ∉ P4 js/\e[i]?=some (some s))\/∃(j:Nat)(A A':Own),js[j]?=some (AJ.rf i)/\r[j]?=some (some (.io A'))/\((e[i]?=some (some (.own A))/\s=.own A')\/(e[i]?=some (some (.io A))/\s=.io A')):=by
 induction h with
 |nil=>intro _ i s h;exact .inl ⟨by simp[P4],h⟩
 | pl _ ih =>
  intro n i s h
  rcases ih n h with z|⟨j,A,A',d,g,c⟩
  ·exact .inl z
  ·exact .inr ⟨j+1,A,A',by rw[m3];exact d,by rw[m3];exact g,c⟩
 | @rf e r e2 k s0 A A' js h0 hs _ ih =>
  intro n i s h
  have l:=V6.mp n
  rcases ih l.2 h with ⟨m,b⟩|⟨j,o,f,d,g,c⟩
  ·rw[Z3] at b
   by_cases a:k=i
   ·subst a
    rw[t0 rfl,t0 (J1.mp h0).1] at b
    cases b
    refine .inr ⟨0,A,A',rfl,rfl,?_⟩
    rcases hs with rfl|rfl
    ·exact .inl ⟨h0,rfl⟩
    ·exact .inr ⟨h0,rfl⟩
   ·rw[y0 a] at b
    exact .inl ⟨λz=>by
     rcases Z0.mp z with y|y
     ·exact a y.symm
     ·exact m y,b⟩
  ·have a:k ≠ i:=λz=>l.1 (z ▸ t9 d)
   rw[Z3,y0 a] at c
   exact .inr ⟨j+1,o,f,by rw[m3];exact d,by rw[m3];exact g,c⟩
theorem SlJ.length{e:En}{js:List AJ}{ss:List Sl}(h:SlJ e js ss):ss.length=js.length:=by
 induction h with
 |nil=>rfl
 |pl _ ih=>simp[ih]
 |rf _ _ ih=>simp[ih]
theorem ArgsJ.length{σ:St}{G:Hp}{vs:List V}{js:List AJ}(h:ArgsJ σ G vs js):vs.length=js.length:=by
 induction h with
 |nil=>rfl
 |cons _ _ ih=>simp[ih]
theorem ArgsJ.get{σ:St}{G:Hp}{vs:List V}{js:List AJ}(h:ArgsJ σ G vs js):∀{j:Nat}{x:AJ},js[j]?=some x->∃ v,vs[j]?=some v/\ArgJ σ G v x:=by
 induction h with
 |nil=>intro j x h;simp at h
 | cons q _ ih =>
  intro j x h
  cases j with
  |zero=>simp at h;subst h;exact⟨_,rfl,q⟩
  |succ j=>rw[m3] at h ⊢;exact ih h
theorem SlJ.get{e:En}{js:List AJ}{ss:List Sl}(h:SlJ e js ss):∀{j:Nat}{s:Sl},ss[j]?=some s->(∃ d,js[j]?=some (AJ.pl d)/\s=.st d)\/∃ i A,js[j]?=some (AJ.rf i)/\s=.io A/\Has e i A:=by
 induction h with
 |nil=>intro j s h;simp at h
 | pl _ ih =>
  intro j s h
  cases j with
  |zero=>simp at h;exact .inl ⟨_,rfl,h.symm⟩
  |succ j=>rw[m3] at h ⊢;exact ih h
 | rf q _ ih =>
  intro j s h
  cases j with
  |zero=>simp at h;exact .inr ⟨_,_,rfl,h.symm,q⟩
  |succ j=>rw[m3] at h ⊢;exact ih h
section
variable{B:Bs}{env:En}{QO:Sl->En->Prop}{Q':PyData->En->Prop}{QJ:List AJ->En->Prop}{K:Frag}{E:XK}{t:TA}{te:TE}{i:Nat}
theorem j6(q:QJ [] env):EvJ B tNil env QJ:=λσ G H F Q I k=>k [] G H F [] env I (Same.refl _) .nil q
theorem o6(h:Ev B te env λx b=>EvJ B t b λxs e2=>QJ (.pl x::xs) e2):EvJ B (X1 te t) env QJ:=λσ G H F Q I k =>
 h σ G H F _ I λr o m f x b c i d l=>l σ o m f _ c λvs p H2 F2 js e2 q a g n=>k _ p H2 F2 _ e2 q (i.trans a) (.cons (j:=.pl x) (d.same a) g) n
theorem u6{s:Sl}(l:env[i]?=some (some s))(h:EvJ B t env λxs e2=>QJ (.rf i::xs) e2):EvJ B (X1 (tVar i) t) env QJ:=λσ G H F Q I k=>by
 obtain⟨v,a,_⟩:=I.sl i _ l
 exact⟨v,a,h σ G H F _ I λvs f H2 F2 js e2 g b c d=>k _ f H2 F2 _ e2 g b (.cons (j:=.rf i) a c) d⟩
theorem LN{js:List AJ}(nd:(P4 js).Nodup):∃ inv:Nat->Option Nat,(∀ i j,inv i=some j ↔ js[j]?=some (AJ.rf i))/\∀ i,inv i=none ↔ i ∉ P4 js:=by
 have a:∀ i,∃ o:Option Nat,(∀ j,o=some j ↔ js[j]?=some (AJ.rf i))/\(o=none ↔ i ∉ P4 js):=λi=>by
  by_cases hh:i∈P4 js
  ·obtain⟨j,b⟩:=AC hh
   exact⟨some j,λk=>⟨λz=>by cases z;exact b,λz=>congrArg some (gE nd b z)⟩,⟨λz=>(nomatch z),λz=>absurd hh z⟩⟩
  ·exact⟨none,λk=>⟨λz=>(nomatch z),λz=>absurd (t9 z) hh⟩,⟨λ_=>hh,λ_=>rfl⟩⟩
 exact⟨λi=>Classical.choose (a i),λi j=>(Classical.choose_spec (a i)).1 j,λi=>(Classical.choose_spec (a i)).2⟩
theorem dO{f:VJ}(S:B.K=K)(h:EvJ B t env λjs r=>∃ ss,SlJ r js ss/\(P4 js).Nodup/\f ss λe s=>∃ e2,PutJ r js e e2/\QO s e2):EvO B (o3 (spJ K f) [] E t) env QO:=λσ G H F Q I k=>by
 subst S
 unfold o3
 simp only[n5]
 refine h σ G H F _ I λvs U p o js r m R a1 ⟨ss,N,nd,hf⟩=>?_
 obtain⟨inv,c,O⟩:=LN nd
 have inj:∀ i g j,inv i=some j->inv g=some j->i=g:=λi g j x y=>by
  have x:=(c i j).mp x
  have y:=(c g j).mp y
  rw[x] at y
  cases y
  rfl
 have J:=m.enter (inv:=inv) (σI:=vs.map some) (envI:=ss.map some) inj (by rw[T0,T0,a1.length,N.length]) (λj s e=>by
  rw[o1] at e
  obtain⟨Z,P,e2⟩:=Option.map_eq_some_iff.mp e
  cases e2
  rcases N.get P with ⟨d,b,rfl⟩|⟨i,A,b,rfl,D⟩
  ·obtain⟨v,l,q⟩:=a1.get b
   refine⟨v,by rw[o1,l];rfl,.inl ⟨d,rfl,q,λi z=>?_⟩⟩
   rw[(c i j).mp z] at b
   cases b
  ·obtain⟨v,l,q⟩:=a1.get b
   exact⟨v,by rw[o1,l];rfl,.inr (.inr ⟨i,A,(c i j).mpr b,rfl,q,D⟩)⟩)
 refine⟨⟨B.K,U,p,N4 p o inv,vs.map some,λj a=>∃ i,inv i=some j/\o i a⟩,ss,_,rfl,rfl,J,hf,λe s ⟨e2,w,q⟩ v G' H' F' Fv M X=>?_⟩
 have L:=m.leave (inv:=inv) (env2:=e2) inj rfl rfl (λa u e n=>by show N4 p o inv a=_;rw[sA n];exact e) (λi j hi a z=>by
   obtain⟨g,C,z⟩:=z
   rw[inj i g j hi C]
   exact z) (λi j hi=>by
   obtain⟨v,l,q⟩:=a1.get ((c i j).mp hi)
   show(vs.map some)[j]? = σ[i]?
   rw[o1,l,q]
   rfl) M (λi j hi=>w.io ((c i j).mp hi)) w.length (λi Z e=>by
   rcases w.at nd e with ⟨T,W⟩|⟨j,A,A',b,D,Y⟩
   ·exact .inl ⟨(O i).mpr T,W⟩
   ·exact .inr ⟨j,A,A',(c i j).mpr b,D,Y⟩)
 exact k v G' H' _ Fv s _ L (R.trans M.g0) (X.leave (inv:=inv) m rfl) q
theorem k6{f:VJ}(i:B.K=K)(h:EvJ B t env λjs c=>∃ ss,SlJ c js ss/\(P4 js).Nodup/\f ss λe s=>∃ e2,PutJ c js e e2/\FQ s λd=>Q' d e2):Ev B (o3 (spJ K f) [] E t) env Q':=F3 (dO i (by
 intro σ G H F Q I k
 exact h σ G H F Q I λvs G' H' F' js b j g a ⟨ss,n,l,m⟩=>k vs G' H' F' js b j g a ⟨ss,n,l,m⟩))
end
end VL
namespace DictL
open PySem PyProof.Rows
theorem HF:entryFor table "dict.update.loop" = some Builtin.«dict.update.loop»:=entryFor_of_tree (by kernel_rfl)
theorem OB:plainId "dict.update.loop" = true:=by decide +kernel
section
variable{prog:Program}{w:World}{A:Around}{R:Result->Shared->Prop}{I:Addr}{fp wr:List Addr}{n:Nat}{P:Nat->Value->Prop}{St:Nat->Heap->Prop}{K:Type} [DecidableEq K] {knd:KeyKind prog w K}
theorem MK{M:Model}{E:Value->Shared->Prop}{s:Shared}{t:Addr}{k v:Value}{Q:List Value->Shared->Prop}{c:Value->Sem (List Value)}(b:s.heap.IsTuple t #[k,v])(h:Q [k,v] s):wpAny M A ((Builtin.Dict.pairItems (.ref t)).tryCatch c) Q E s:=by
 obtain⟨⟨cls,dd,data,sl⟩,i,a,m,hd⟩:=b
 simp only at a hd
 subst a hd
 refine wpAny_tryCatch ?_
 unfold Builtin.Dict.pairItems
 obtain⟨f,g,d,j,os⟩:=s
 wp_walk
 exact h
theorem qM(W:Walks prog w A.in1 I fp wr n P St)(S:Addr)(p:S ∉ fp)(l:Nat->K)(J val:Nat->Value)(tup:Nat->Addr)(g:Nat->List (K × Value))(Y:∀ i,g (i+1)=stored (g i) (l i) (val i))(hz:∀ i,i<=n->(g i).length<=sizeLine)
  (Z:∀ i v,P i v->v=.ref (tup i)) (c:∀ i,i<n->tup i ≠ S/\tup i ∉ wr) (m:∀ i,i<n->knd.is (l i) (J i)=true) :
  ∀(k i:Nat)(s:Shared),n-i=k->i<=n->St i s.heap->(∀ j,i<=j->j<n->s.heap.IsTuple (tup j) #[J j,val j])->s.heap.DictOf knd S (g i) ->
   (∀ h' B,h'.DictOf knd S (g n)->(∀ b o,b ≠ S->b ∉ wr->s.heap.get? b=some o->h'.get? b=some o)->R (.ok (.ret .none)) { s with heap:=h',toks:=B }) ->
   codeAny (model prog w) A (.builtin "dict.update.loop" ⟨[.ref S,.ref I,rawInt i,.none],[]⟩) R s:=by
 have x:S ∉ wr:=λh=>p (W.sub _ h)
 intro k
 induction k with
 | zero =>
  intro i s D hi f Q O E
  have G:i=n:=by lia
  subst G
  refine hA HF ?_
  rw[PB OB _]
  show wpAny _ A.in1 (pyNext (.ref I) >>= _) _ _ s
  refine C0 (W.done s _ _ f λh' B hm=>?_)
  dsimp only
  unfold Builtin.Dict.addKeywords
  refine C0 (C0 (M0 (M0 ?_)))
  refine M0 ?_
  exact E h' B (by obtain⟨o,es,ep,d,r⟩:=O;exact⟨o,es,ep,hm S o x d,r⟩) λb o _ hb e=>hm b o hb e
 | succ k ih =>
  intro i s D hi f Q O E
  have a:i<n:=by lia
  refine hA HF ?_
  rw[PB OB _]
  show wpAny _ A.in1 (pyNext (.ref I) >>= _) _ _ s
  refine C0 (W.item i s _ _ a f λv h' B H q hm=>?_)
  have X:=Z i v H
  subst X
  dsimp only
  have M:h'.IsTuple (tup i) #[J i,val i]:=by
   obtain⟨o,d,r⟩:=Q i (N0 _) a
   exact⟨o,hm _ o (c i a).2 d,r⟩
  have T:h'.DictOf knd S (g i):=by obtain⟨o,es,ep,d,r⟩:=O;exact⟨o,es,ep,hm S o x d,r⟩
  refine C0 (Z5 ?_)
  refine C0 (MK M ?_)
  dsimp only
  refine Z5 (wpAny_dictSet_pairs (m i a) T (λh2 L u=>?_) (hz i hi))
  have keep:∀ b o,b ≠ S->b ∉ wr->s.heap.get? b=some o->h2.get? b=some o:=λb o b1 y e=>by rw[u.2 b b1];exact hm b o y e
  refine M0 ⟨plainId_quiet OB _,ih (i+1) _ (by lia) a ?_ ?_ (by rw[Y];exact L) ?_⟩
  ·exact W.frame _ _ _ q λb hb o e=>by rw[u.2 b (λz:b=S=>p (by rw[← z];exact hb))];exact e
  ·intro j j1 C
   obtain⟨o,d,r⟩:=Q j (by lia) C
   exact⟨o,keep _ o (c j C).1 (c j C).2 d,r⟩
  ·intro h3 N U F
   exact E h3 N U λb o b1 y e=>F b o b1 y (keep b o b1 y e)
end
section
variable{prog:Program}{w:World}{A:Around}{E:Value->Shared->Prop}{s:Shared}
theorem UN:typeLookup (.type "list") (Str.ofString "keys")=pure none:=by rw[typeLookup_type,builtinLookup_eq_fast];kernel_rfl
theorem PQ{a:Addr}{xs:Array Value}{k:Nat}{Q:Option Value->Shared->Prop}(j:s.heap.get? a=some { cls:=.type "list",data:=.seq xs k })(m:A.handled=none)
  (h:∀ h' i,(∀ b o,s.heap.get? b=some o->h'.get? b=some o)->Q none { s with heap:=h',toks:=i }):wpAny (model prog w) A (getAttr? (.ref a) (Str.ofString "keys")) Q E s:=by
 obtain⟨n,g,d,i,os⟩:=s
 have l:∀ c,(⟨n,g,d,c,os⟩:Shared).TypeIs (.ref a) "list":=λ_=>⟨_,j,rfl⟩
 have p:=sub_AttributeError
 have v:=PySem.F.slot_list_getattribute.lookup
 have x:=PySem.F.slot_list_getattribute.bind (.ref a)
 have u:=am_list_getattr_none
 unfold getAttr? getAttrBy? getAttrBy
 repeat (any_goals (first|assumption|exact l _|((with_reducible show wpAny _ _ (call (Value.builtin "list.__getattribute__") _ _) _ _ _);refine call_meets PySem.F.slot_list_getattribute (l _) am_entry_list_getattribute (PySem.F.args_list_getattribute_2 _ _) (meets_getattribute_miss_list a xs k #[] (Str.ofString "keys") _ UN (by decide +kernel) (by size_fits)) ⟨j,m,λh' c e f=>?_⟩)|wp_step))
 obtain⟨t',q,r⟩:=f.there
 show wpAny _ _ (getattributeRaised _ _ _ _ _ _ _) _ _ _
 unfold getattributeRaised
 repeat (any_goals (first|assumption|wp_step))
 exact h _ _ f.keeps
end
section
variable{prog:Program}{w:World}{A:Around}{E:Value->Shared->Prop}{s:Shared}{K:Type} [DecidableEq K] {knd:KeyKind prog w K}
theorem call_dict_list{l:Addr}{items:Array Value}{nl:Nat}{Q:Value->Shared->Prop}(f:Nat->K)(I val:Nat->Value)(tup:Nat->Addr)(m:Nat->List (K × Value))(U:m 0=[])(O:∀ i,m (i+1)=stored (m i) (f i) (val i))(hz:∀ i,i<=items.size->(m i).length<=sizeLine)
  (hh:A.handled=none) (u:s.heap.get? l=some { cls:=.type "list",data:=.seq items nl }) (S:∀ i v,items[i]?=some v->v=Value.ref (tup i)) (N:∀ j,j<items.size->s.heap.IsTuple (tup j) #[I j,val j]) (x:∀ i,i<items.size->knd.is (f i) (I i)=true)
  (h:∀(h':Heap)(L:Nat),h'.DictOf knd s.heap.objs.size (m items.size)->(∀ b o,s.heap.get? b=some o->h'.get? b=some o)->Q (.ref s.heap.objs.size) { s with heap:=h',toks:=L }) :
  wpAny (model prog w) A (call (.type "dict") [.ref l]) Q E s:=by
 refine callType_codes (Q₁:=λobj c=>obj=.ref s.heap.objs.size/\c={ s with heap:=s.heap.push { cls:=.type "dict",data:=.dict #[] } }) F.kt_called_dict (F.kt_typeCall_dict_1 _) F.entry_dict_init (kt_code_dict_new (.ref l) ⟨rfl,rfl⟩) λobj c y=>?_
 obtain⟨rfl,rfl⟩:=y
 have M:(s.heap.push { cls:=.type "dict",data:=.dict #[] }).get? s.heap.objs.size=some { cls:=.type "dict",data:=.dict #[] }:=X2 _ rfl
 refine⟨⟨_,M,rfl⟩,F.args_dict_init_2 _ _,?_⟩
 have a:(s.heap.push { cls:=.type "dict",data:=.dict #[] }).get? l=some { cls:=.type "list",data:=.seq items nl }:=S1 _ u
 have P:(Value.type "list" == Value.type "dict")=false:=by decide
 unfold Builtin.«dict.__init__» Builtin.Dict.updateCommon Builtin.Dict.updateFrom
 obtain⟨n,g,d,L,os⟩:=s
 dsimp only at *
 generalize hPI:pyIter=PI
 generalize hGA:getAttr?=GA
 wp_walk
 subst hGA hPI
 refine PQ (s:={ heap:=n.push { cls:=.type "dict",data:=.dict #[] },gens:=g,drawn:=d,toks:=L,os:=os }) a hh λp G k1=>?_
 rw[t0 (show(none:Option Value).isNone=true from rfl)]
 refine C0 (wpAny_rule ?_)
 have B:p.IsList l items:=⟨_,k1 _ _ a,rfl,nl,rfl⟩
 have q:l<n.objs.size:=Q0 u
 have z:=k1 _ _ M
 have hsz:n.objs.size<p.objs.size:=Q0 z
 refine C0 (l9 (s:={ heap:=p,gens:=g,drawn:=d,toks:=G,os:=os }) B ?_)
 refine M0 ⟨plainId_quiet OB _,?_⟩
 have C:l ≠ p.objs.size:=O1 (Nat.lt_trans q hsz)
 have H:n.objs.size ∉ [p.objs.size,l]:=by
  simp only[Z0,qA,or_false,not_or]
  exact⟨O1 hsz,Nat.ne_of_gt q⟩
 have tl:∀ j,j<items.size->tup j<n.objs.size:=λj J=>let ⟨_,e,_⟩:=N j J;Q0 e
 refine qM (A:=A.in1) (knd:=knd) (Walks.list (A:=A.in1.in1) hh p.objs.size l C items) n.objs.size H f I val tup m O hz S (λi hi=>⟨O1 (tl i hi),by simp only[N2];exact O1 (Nat.lt_trans (tl i hi) hsz)⟩) x (items.size-0) 0 _ (by lia) (Y3 _)
  ⟨⟨_,X2 _ rfl,rfl,rfl⟩,B.push _⟩ (λj _ J=>?_) ?_ λh' D T kp=>?_
 ·obtain⟨o,e,r⟩:=N j J
  exact⟨o,S1 _ (k1 _ _ (S1 _ e)),r⟩
 ·rw[U]
  exact⟨_,#[],0,S1 _ z,⟨rfl,rfl,rfl⟩,rfl,λe R=>by simp at R,.nil,List.nodup_nil⟩
 ·refine⟨rfl,h h' D T λb o e=>kp b o (O1 (Q0 e)) (by simp only[N2];exact O1 (Nat.lt_trans (Q0 e) hsz)) (S1 _ (k1 _ _ (S1 _ e)))⟩
end
end DictL
namespace L2
open PySem PySem.W PyProof.Rows
def dkOf:List (Int × V)->List (Key × V):=λkvs=>kvs.map λp=>(.inl p.1,p.2)
def UG:List V->Hp->VK->Prop:=λxs H Q=>∃(a:Addr)(ts:List Addr)(kvs:List (Int × V)),xs=[.ref a]/\H a=some (.lst (ts.map V.ref))/\ts.length=kvs.length/\kvs.length<4000/\(kvs.map (·.1)).Nodup /\
 (∀(i:Nat) t kv,ts[i]?=some t->kvs[i]?=some kv->H t=some (.tup [.int kv.1,kv.2]))/\∀ p,H p=none->Q (.ref p) (upd H p (.dK (dkOf kvs)))
section
variable{K:Type} [DecidableEq K]
def kfOf(key:Nat->K)(val:Nat->Value):Nat->List (K × Value)
 |0=>[]
 |i+1=>stored (kfOf key val i) (key i) (val i)
theorem BE(a:Nat->K)(val:Nat->Value):∀ i,(kfOf a val i).length<=i
 |0=>N0 _
 |i+1=>T2 (stored_length_le _ _ _) (Nat.succ_le_succ (BE a val i))
theorem BQ{kvs:List (K × Value)}{k:K}(h:∀ p∈kvs,p.1 ≠ k):valueAt kvs k=none:=by
 unfold valueAt
 rw[Option.map_eq_none_iff,List.find?_eq_none]
 intro p a e
 exact h p a (by simpa using e)
theorem nE(a:Nat->K)(val:Nat->Value):∀ n,(∀ i j,i<n->j<n->i ≠ j->a i ≠ a j)->kfOf a val n=(List.range n).map λi=>(a i,val i)
 |0,_=>rfl
 | n+1,h=>by
  have c:=nE a val n λi j hi d=>h i j (by lia) (by lia)
  show stored (kfOf a val n) (a n) (val n)=_
  rw[c,stored_absent,List.range_succ,w4]
  ·rfl
  ·refine BQ λp b=>?_
   obtain⟨i,hi,rfl⟩:=P1.mp b
   have:=l2.mp hi
   exact h i n (by lia) (by lia) (by lia)
end
theorem hH{k:Nat->Key}{g:Nat->V}{g':Nat->Value}:∀{l:List Nat},(∀ i∈l,RelV (g i) (g' i))->KV (l.map λi=>(k i,g i)) (l.map λi=>(k i,g' i))
 |[],_=>.nil
 |i::l,h=>.cons ⟨rfl,h i T3⟩ (hH λj a=>h j (S3 _ a))
section
variable{X:Cx}
theorem uL(M:X.calm=true):M2 X (.type "dict") UG:=by
 intro pins s σ H xs us Q I r h
 obtain⟨a,ts,kvs,rfl,ha,P,O,hn,G,q⟩:=h
 obtain⟨u,rfl,n⟩:=Y4 r
 cases n
 obtain⟨hz,its,nl,C,e⟩:=(show ObjOk X.prog X.w H s.heap a (.lst (ts.map V.ref)) from I.hok a _ ha)
 have b:its.length=ts.length:=by have:=C.length;rw[T0] at this;lia
 have m:∀ i:Nat,∃ p:Value × Value,i<ts.length->s.heap.IsTuple (ts.getD i 0) #[p.1,p.2]/\(∃ t,p.1=.int ((kvs.getD i (0,.non)).1) t)/\RelV (kvs.getD i (0,.non)).2 p.2:=λi=>by
  by_cases hi:i<ts.length
  ·have y:ts[i]?=some (ts.getD i 0):=by rw[k7,X0 hi];rfl
   have e2:kvs[i]?=some (kvs.getD i (0,.non)):=by rw[k7,X0 (by lia)];rfl
   obtain⟨_,K,g,p2⟩:=(show ObjOk X.prog X.w H s.heap _ (.tup _) from I.hok _ _ (G i _ _ y e2))
   cases g with
   | cons r1 g =>
    cases g with
    | cons g r3 =>
     cases r3
     exact⟨(_,_),λ_=>⟨p2,r1,g⟩⟩
  ·exact⟨(.none,.none),λh=>absurd h hi⟩
 obtain⟨f,hf⟩:=Classical.skolem.mp m
 have x:∀ i j,i<ts.length->j<ts.length->i ≠ j->(Sum.inl (kvs.getD i (0,.non)).1:Key) ≠ Sum.inl (kvs.getD j (0,.non)).1:=λi j hi D B e=>by
  have e:=Sum.inl.inj e
  have d:=u8.mp hn
  rw[k7,k7,X0 (show i<kvs.length by lia),X0 (show j<kvs.length by lia)] at e
  rcases Nat.lt_or_gt_of_ne B with c|c
  ·exact d i j (by rw[T0];lia) (by rw[T0];lia) c (by simpa using e)
  ·exact d j i (by rw[T0];lia) (by rw[T0];lia) c (by simpa using e.symm)
 refine DictL.call_dict_list (knd:=N3 X.prog X.w) (items:=its.toArray) (nl:=nl) (λi=>.inl (kvs.getD i (0,.non)).1) (λi=>(f i).1) (λi=>(f i).2) (λi=>ts.getD i 0) (kfOf (λi=>.inl (kvs.getD i (0,.non)).1) λi=>(f i).2) rfl (λi=>rfl) (λi hi=>T2 (BE _ _ i) (T2 hi (by rw[sizeLine_eq];simp;lia)))
  (I.ok.hd M) e (λi v l=>?_) (λj D=>(hf j (by simpa[b] using D)).1) (λi hi=>?_) λh' N E kp=>?_
 ·have l:its[i]?=some v:=by simpa using l
  have hi:=(J1.mp l).1
  have y:(ts.map V.ref)[i]?=some (.ref (ts.getD i 0)):=by rw[o1,k7,X0 (by lia)];rfl
  obtain⟨u,F,n⟩:=C.get y
  rw[l] at F
  cases F
  exact n
 ·obtain⟨_,⟨t,L⟩,_⟩:=hf i (by simpa[b] using hi)
  rw[L]
  exact GF _ _ _ _
 ·have A:h'.DictOf (N3 X.prog X.w) s.heap.objs.size ((List.range ts.length).map λi=>(Sum.inl (kvs.getD i (0,.non)).1,(f i).2)):=by
   rw[show its.toArray.size=ts.length by simp[b],nE _ _ _ x] at E
   exact E
  have z:KV (dkOf kvs) ((List.range ts.length).map λi=>((Sum.inl (kvs.getD i (0,.non)).1:Key),(f i).2)):=by
   have J:dkOf kvs=(List.range ts.length).map λi=>((Sum.inl (kvs.getD i (0,.non)).1:Key),(kvs.getD i (0,.non)).2):=by
    refine T5 λi=>?_
    unfold dkOf
    rw[o1,o1]
    by_cases hi:i<ts.length
    ·rw[F8 hi,X0 (show i<kvs.length by lia),m6,m6,k7,X0 (show i<kvs.length by lia)]
     rfl
    ·rw[rA (show kvs.length<=i by lia),rA (show(List.range ts.length).length<=i by rw[List.length_range];lia)]
     rfl
   rw[J]
   exact hH λi hi=>(hf i (l2.mp hi)).2.2
  refine⟨.ref s.heap.objs.size,_,I.laid (t':=N) (o:=.dK (dkOf kvs)) kp (N0 _) ?_,rfl,q _ (I.hok.fresh (N0 _))⟩
  refine⟨by unfold dkOf;rw[T0,sizeLine_eq];lia,beq_eq_false_iff_ne.mpr (Ne.symm (O1 I.big)),_,z,A⟩
end
end L2
namespace VL
open PySem PySem.Spec L2
def kvI{α:Type}:Nat->List α->List (Int × α)
 |_,[]=>[]
 |k,x::xs=>((k:Int),x)::kvI (k+1) xs
theorem CF{α:Type}:∀(k:Nat)(xs:List α),(kvI k xs).length=xs.length
 |_,[]=>rfl
 |k,_::xs=>by rw[kvI,W3,W3,CF]
theorem GE{α:Type}:∀(k:Nat)(xs:List α)(i:Nat),(kvI k xs)[i]?=xs[i]?.map λx=>(((k+i:Nat):Int),x)
 |_,[],i=>by simp[kvI]
 |k,x::xs,0=>by simp[kvI]
 | k,x::xs,i+1=>by
  rw[kvI,m3,m3,GE (k+1) xs i,show k+1+i=k+(i+1) by lia]
theorem cI{α:Type}:∀(k:Nat)(xs:List α),((kvI k xs).map (·.1)).Nodup/\∀ p∈kvI k xs,(k:Int)<=p.1
 |_,[]=>⟨List.nodup_nil,λp a=>by simp[kvI] at a⟩
 | k,x::xs=>by
  obtain⟨c,b⟩:=cI (k+1) xs
  refine⟨?_,λp a=>?_⟩
  ·rw[kvI,P2,V6]
   refine⟨λhm=>?_,c⟩
   obtain⟨p,a,e⟩:=P1.mp hm
   have:=b p a
   simp only at e
   lia
  ·rw[kvI] at a
   rcases Z0.mp a with rfl|a
   ·exact Int.le_refl _
   ·have:=b p a;lia
theorem AF:∀(k:Nat)(xs:List V)(i:Nat),valV (dkOf (kvI k xs)) (.inl ((k+i:Nat):Int))=xs[i]?
 |_,[],i=>rfl
 | k,x::xs,0=>by
  rw[kvI]
  exact aB (p:=(Sum.inl (k:Int),x)) rfl
 | k,x::xs,i+1=>by
  have e:¬ ((Sum.inl (k:Int):Key)=Sum.inl ((k+(i+1):Nat):Int)):=λe=>by have:=Sum.inl.inj e;lia
  rw[kvI]
  show valV ((Sum.inl (k:Int),x)::dkOf (kvI (k+1) xs)) _=_
  rw[bB (p:=(Sum.inl (k:Int),x)) e,m3,← AF (k+1) xs i,show k+1+i=k+(i+1) by lia]
@[reducible] def kvD (ds:List PyData):List (Key × PyData):=(kvI 0 ds).map λp=>(.inl p.1,p.2)
theorem nG:∀(k:Nat)(xs:List PyData)(i:Nat),valD ((kvI k xs).map λp=>((.inl p.1:Key),p.2)) (.inl ((k+i:Nat):Int))=xs[i]?
 |_,[],i=>rfl
 |k,x::xs,0=>by simp[kvI,valD]
 | k,x::xs,i+1=>by
  have e:¬ ((k:Int)=((k+(i+1):Nat):Int)):=λe=>by lia
  rw[kvI,m3,← nG (k+1) xs i,show k+1+i=k+(i+1) by lia]
  simp only[valD,P2,List.find?_cons]
  rw[O2 (λz:(Sum.inl (k:Int):Key)=Sum.inl ((k+(i+1):Nat):Int)=>e (Sum.inl.inj z))]
theorem QN{xs:List PyData}{i:Int}{d:PyData}(a:0<=i)(h:xs[i.toNat]?=some d):valD (kvD xs) (.inl i)=some d:=by
 have:=nG 0 xs i.toNat
 rw[show((0+i.toNat:Nat):Int)=i by lia] at this
 exact this.trans h
theorem jR{xs:List PyData}(h:xs ≠ []):kvD xs ≠ []:=by
 cases xs with
 |nil=>exact absurd rfl h
 |cons x xs=>exact List.cons_ne_nil _ _
def ODL(dss:List (List PyData)):Own where
 P:=λG H v F=>∃(a:Addr)(as:List Addr),v=.ref a/\H a=some (.dK (dkOf (kvI 0 (as.map V.ref))))/\as.Nodup/\a ∉ as/\as.length=dss.length/\(∀(i:Nat) b ds,as[i]?=some b->dss[i]?=some ds->∃ vs,H b=some (.lst vs)/\Rps G vs ds)/\∀ b,F b ↔ b=a\/b∈as
 mono:=λ⟨a,as,e,h,n1,n2,l,r,f⟩ g hh=>⟨a,as,e,hh a _ ((f a).mpr (.inl rfl)) h,n1,n2,l,λi b ds hb hd=>by
  obtain⟨vs,h1,h2⟩:=r i b ds hb hd
  exact⟨vs,hh b _ ((f b).mpr (.inr (v2 hb))) h1,h2.same g⟩,f⟩
 dom:=λ⟨a,as,e,h,n1,n2,l,r,f⟩ b z=>by
  rcases(f b).mp z with rfl|z
  ·exact⟨_,h⟩
  ·obtain⟨i,hi,e⟩:=V9.mp z
   have hb:as[i]?=some b:=by rw[X0 hi,e]
   obtain⟨vs,h1,_⟩:=r i b _ hb (X0 (by rw[← l];exact hi))
   exact⟨_,h1⟩
theorem iH{G:Hp}:∀(k:Nat){vs:List V}{ds:List PyData},vs.length=ds.length->(∀(i:Nat) v d,vs[i]?=some v->ds[i]?=some d->Rp G v d)->RpK G (dkOf (kvI k vs)) ((kvI k ds).map λp=>(.inl p.1,p.2))
 |_,[],[],_,_=>.nil
 |_,[],_::_,h,_=>by simp at h
 |_,_::_,[],h,_=>by simp at h
 |k,v::vs,d::ds,h,q=>.cons (q 0 v d rfl rfl) (iH (k+1) (by simpa using h) λi v d b a=>q (i+1) v d (by simpa using b) (by simpa using a))
theorem QP{c:List (List PyData)}:Frz (ODL c) (abw (kvD (c.map .list))):=λG H v F ⟨a,as,e,h,p,q,l,r,f⟩ n g=>by
 subst e
 refine .dk (by rw[J5 ((f a).mpr (.inl rfl))];exact h) (iH 0 (by simp[l]) λi u d j hd=>?_) rfl
 rw[o1] at j hd
 cases hb:as[i]? with
 |none=>rw[hb] at j;cases j
 | some b =>
  cases hds:c[i]? with
  |none=>rw[hds] at hd;cases hd
  | some ds =>
   rw[hb] at j;rw[hds] at hd
   cases j;cases hd
   obtain⟨vs,m,o⟩:=r i b ds hb hds
   exact .lst (by rw[J5 ((f b).mpr (.inr (v2 hb)))];exact m) (o.same (p4 n))
section
variable{B:Bs}{env:En}{QO:Sl->En->Prop}{Q':PyData->En->Prop}{D':VEnds}{K:Frag}{i:Nat}
theorem NM{src:List (Option Nat)}{wi:TI}(h:EvI B wi env λds e1=>∃ n:Nat,ds=rngD 0 n/\n<=3000/\QO (.own (ODL (List.replicate n []))) e1) :
  EvO B (tCB UG (X1 (tLC (none::src) wi (D3 0) tYes (tTup (X1 (tVar 0) (X1 (tLst tNil) tNil)))) tNil)) env QO:=λσ G H F Q I k=>by
 refine h σ G H F _ I λJ G1 U F1 ds e1 T g1 it ⟨N,ed,a8,q⟩ d r=>?_
 subst ed
 have hL:(rngD 0 N).length=N:=R8
 let W:Nat->List V->St->Hp->Prop:=λn ys σI H=>∃(ts as:List Addr)(s:Hp),ys=ts.map V.ref/\ts.length=n/\as.length=n/\as.Nodup/\d ∉ as/\0<σI.length /\
  (∀(i:Nat) t b,ts[i]?=some t->as[i]?=some b->H t=some (.tup [.int (i:Int),.ref b]))/\(∀ t∈ts,U t=none/\t ≠ d/\t ∉ as) /\
  (∀ b∈as,U b=none/\s b=none/\H b=some (.lst []))/\H d=some (.lst ys)/\s d=none/\Same G1 s/\Same s H/\Same U H/\(∀ a o,s a=some o->G1 a=some o\/U a=none)/\FT s H
 refine⟨λn m ys σI H=>m=N-n/\n<=N/\W n ys σI H,⟨N,by simp,Y3 _,[],[],G1,rfl,rfl,rfl,List.nodup_nil,by simp,by simp[pick],λi t b h=>by simp at h,λt D=>by simp at D,λb hb=>by simp at hb,K0,T.no_g r,Same.refl _,T.gh.trans (R4 r),R4 r,λa o e=>.inl e,λa ks e=>?_⟩,?_⟩
 ·by_cases z:a=d
  ·subst z;rw[K0] at e;cases e
  ·rw[z0 z] at e;exact T.ft a ks e
 rintro n m ys σI H2 ⟨rfl,hn,ts,as,s,rfl,hl,L,nd,na,a0,C,a1,all,l,ga,S,K,E,Z,O⟩
 refine⟨l,?_⟩
 by_cases hlt:n<N
 ·refine .inr ⟨it.go n s H2 S K (by lia),λX Y H'=>W (n+1) X Y H',λX Y H' hw=>⟨N-(n+1),by lia,rfl,hlt,hw⟩,λx H3 y=>?_⟩
  obtain⟨G3,o⟩:=it.yld n s H2 x H3 (.int (0+(n:Int))) S K O (by unfold rngD;rw[o1,F8 hlt];rfl) y
  have rx:=o.ok.1
  cases rx
  refine cC (WC (U5 (eM (XD (tE (v:=.int (0+(n:Int))) (by rw[Z3,t0 rfl,t0 a0]) (XD (HE (Z9 ⟨by decide,λp g=>Z9 ⟨show(2:Nat)<=sizeLine by rw[sizeLine_eq];decide,λt D=>?_⟩⟩))))))))
  have n2:H2 p=none:=D5 o.hh g
  have n1:U p=none:=D5 E n2
  have tp:t ≠ p:=λe=>by rw[e,K0] at D;cases D
  rw[z0 tp] at D
  have t2:H2 t=none:=D5 o.hh D
  have t1:U t=none:=D5 E t2
  have pa:p ≠ d:=(V2 (o.hh _ _ l) g).symm
  have ta:t ≠ d:=(V2 (o.hh _ _ l) D).symm
  have a6:p ∉ as:=λz=>by
   have:=o.hh _ _ (all p z).2.2
   rw[this] at g;cases g
  have a5:t ∉ as:=λz=>by
   have:=o.hh _ _ (all t z).2.2
   rw[this] at D;cases D
  have old:∀ a u,H2 a=some u->a ≠ d->upd (upd (upd H3 p (.lst [])) t (.tup [.int (0+(n:Int)),.ref p])) d (.lst (ts.map V.ref++[.ref t])) a=some u:=λa u e aa=>by
   have e3:=o.hh _ _ e
   rw[z0 aa,z0 (V2 e3 D),z0 (V2 e3 g)]
   exact e3
  have a3:∀ c∈ts,∃ u,H2 c=some u:=λc f=>by
   obtain⟨i,hi,e⟩:=V9.mp f
   have R:ts[i]?=some c:=by rw[X0 hi,e]
   exact⟨_,C i c _ R (X0 (by lia))⟩
  refine⟨by rw[z0 ta.symm,z0 pa.symm];exact o.hh _ _ l,by rw[T0,hl];exact big (by lia),ts++[t],as++[p],G3,by simp,by simp[hl],by simp[L],?_,?_,by rw[List.length_set];exact a0,λi c b f hb=>?_,λc f=>?_,λb hb=>?_,K0,?_,S.trans o.gg,λa u e=>?_,λa u e=>?_,λa u e=>?_,λa ks e=>?_⟩
  ·rw[q7]
   exact⟨nd,by simp,λx hx y hy=>by simp at hy;subst hy;intro e;subst e;exact a6 hx⟩
  ·intro z
   rcases E1.mp z with z|z
   ·exact na z
   ·exact pa (N2.mp z).symm
  ·by_cases hi:i<n
   ·rw[q8 (by lia)] at f hb
    have P:=C i c b f hb
    exact old c _ P (a1 c (v2 f)).2.1
   ·have a4:i=n:=by
     have:=(J1.mp f).1
     simp at this
     lia
    subst a4
    rw[H7 (by lia),hl,Nat.sub_self] at f
    rw[H7 (by lia),L,Nat.sub_self] at hb
    cases f
    cases hb
    rw[z0 ta,K0,Int.zero_add]
  ·rcases E1.mp f with f|f
   ·obtain⟨R,P,h3⟩:=a1 c f
    refine⟨R,P,λz=>?_⟩
    rcases E1.mp z with z|z
    ·exact h3 z
    ·have e:=N2.mp z
     subst e
     obtain⟨u,e⟩:=a3 c f
     rw[e] at n2;cases n2
   ·have e:=N2.mp f
    subst e
    refine⟨t1,ta,λz=>?_⟩
    rcases E1.mp z with z|z
    ·exact a5 z
    ·exact tp (N2.mp z)
  ·have gb:∀ b,s b=none->(∃ u,H2 b=some u)->G3 b=none:=λb R z_=>by
    obtain⟨u,P⟩:=z_
    cases e:G3 b with
    |none=>rfl
    | some w =>
     rcases o.gn b w e with e|e
     ·rw[R] at e;cases e
     ·rw[P] at e;cases e
   rcases E1.mp hb with hb|hb
   ·obtain⟨R,P,h3⟩:=all b hb
    exact⟨R,gb b P ⟨_,h3⟩,old b _ h3 (λz:b=d=>na (by rw[← z];exact hb))⟩
   ·have e:b=p:=by simpa using hb
    subst e
    exact⟨n1,D5 o.gh g,by rw[z0 pa,z0 tp.symm,K0]⟩
  ·cases e:G3 d with
   |none=>rfl
   | some w =>
    rcases o.gn d w e with e|e
    ·rw[ga] at e;cases e
    ·rw[l] at e;cases e
  ·have ap:a ≠ p:=V2 (o.gh a u e) g
   have a2:a ≠ t:=V2 (o.gh a u e) D
   have aa:a ≠ d:=by
    rintro rfl
    rcases o.gn _ u e with e|e
    ·rw[ga] at e;cases e
    ·rw[l] at e;cases e
   rw[z0 aa,z0 a2,z0 ap];exact o.gh a u e
  ·exact old a u (E a u e) (V2 e r)
  ·rcases o.gn a u e with e|e
   ·exact Z a u e
   ·exact .inr (D5 E e)
  ·by_cases z:a=d
   ·subst z;rw[K0] at e;cases e
   ·rw[z0 z] at e
    by_cases y:a=t
    ·subst y
     rw[K0] at e
     exfalso
     have e:=HO.tup.inj (M3 e)
     match ks,e with
     |[],e=>simp at e
     |[_],e=>simp at e
     |[_,.inl _],e=>simp[kV] at e
     |[_,.inr _],e=>simp[kV] at e
     |_::_::_::_,e=>simp at e
    ·rw[z0 y] at e
     by_cases y:a=p
     ·subst y;rw[K0] at e;cases e
     ·rw[z0 y] at e;exact o.ft O a ks e
 ·have e:n=N:=by lia
  subst e
  refine .inl ⟨it.stop _ s H2 S K hL.symm,?_⟩
  have M:=T.grow S K E Z O
  have ke:(kvI 0 (as.map V.ref)).length=n:=by rw[CF,T0];exact L
  refine Z9 ⟨d,ts,kvI 0 (as.map V.ref),rfl,l,by lia,by lia,(cI 0 _).1,λi c kv f A=>?_,λp g=>?_⟩
  ·rw[GE,o1] at A
   cases hb:as[i]? with
   |none=>rw[hb] at A;cases A
   | some b =>
    rw[hb] at A
    cases A
    rw[Nat.zero_add]
    exact C i c b f hb
  ·have J:=M.aside (p:=p) (o:=.dK (dkOf (kvI 0 (as.map V.ref)))) (λ_ z=>nomatch z) (M.no_g g) (λj z=>M.no_f g j z) (M.no_b g)
   have pn:p ∉ as:=λz=>by have:=(all p z).2.2;rw[this] at g;cases g
   refine k (.ref p) s _ F1 (λb=>b=p\/b∈as) (.own (ODL (List.replicate n []))) e1 J (g1.trans S) ⟨⟨p,as,rfl,K0,nd,pn,by simp[L],λi b a7 hb hd=>?_,λb=>Iff.rfl⟩,λb z=>?_,λb z=>?_,λb z=>?_,λj b z y=>?_⟩ q
   ·rw[O7] at hd
    split at hd
    ·cases hd
     have hm:=v2 hb
     exact⟨[],by rw[z0 (λz:b=p=>pn (z ▸ hm))];exact(all b hm).2.2,.nil⟩
    ·cases hd
   ·rcases z with rfl|z
    ·exact M.no_b g
    ·exact T.no_b (all b z).1
   ·rcases z with rfl|z
    ·exact M.no_g g
    ·exact(all b z).2.1
   ·rcases z with rfl|z
    ·exact⟨_,K0⟩
    ·exact⟨_,by rw[z0 (λe:b=p=>pn (e ▸ z))];exact(all b z).2.2⟩
   ·rcases z with rfl|z
    ·exact M.no_f g j y
    ·exact T.no_f (all b z).1 j y
theorem wF{d:List (List PyData)}{l j n:Nat}{k:Int}{y:PyData}{ds:List PyData}(e:env[i]?=some (some (.own (ODL d))))(ek:env[l]?=some (some (.st (.int k))))(ey:env[j]?=some (some (.st y)))
  (hk:(n:Int)=k) (hd:d[n]?=some ds) (hl:ds.length<=999999) (q:Q' .none (env.set i (some (.own (ODL (d.set n (ds++[y]))))))):Ev B (tBM K "list" o9 (NA (tVar i) (tVar l)) (X1 (tVar j) tNil)) env Q':=λσ G H F Q I kk=>by
 obtain⟨v,O,⟨a,as,rfl,h,E,L,ln,r,f⟩,_⟩:=I.sl i _ e
 obtain⟨vk,u,T,_⟩:=I.sl l _ ek
 obtain⟨Z,D,ry,_⟩:=I.sl j _ ey
 cases T
 have hn:n<d.length:=(J1.mp hd).1
 have hb:as[n]?=some (as[n]'(by lia)):=X0 _
 generalize as[n]'(by lia)=b at hb
 have s:b∈as:=v2 hb
 obtain⟨vs,N,M⟩:=r n b ds hb hd
 have C:valV (dkOf (kvI 0 (as.map V.ref))) (.inl k)=some (.ref b):=by
  have:=AF 0 (as.map V.ref) n
  rw[Nat.zero_add,hk,o1,hb] at this
  exact this
 refine⟨_,O,_,u,a,.ref b,rfl,.inl ⟨_,.inl k,.inl h,rfl,C.symm⟩,.inl ⟨rfl,_,SqL.of N⟩,_,D,ZA N (by rw[M.length];exact big (by lia)) ?_⟩
 have x:a ≠ b:=λz=>L (z ▸ s)
 have J:=I.change (A:=ODL (d.set n (ds++[y]))) (H2:=upd H b (.lst (vs++[Z]))) (F2:=F i) (os':=.own (ODL (d.set n (ds++[y])))) i e O (λc o p w=>by rw[z0 (λz:c=b=>p ((f c).mpr (.inr (by rw[z];exact s))))];exact w)
  (λc o w=>by
   by_cases z:c=b
   ·rw[z];exact⟨_,K0⟩
   ·rw[z0 z];exact⟨o,w⟩)
  (λc z=>⟨.inl z,by
   by_cases y:c=b
   ·rw[y];exact⟨_,K0⟩
   ·rw[z0 y];exact I.fo i c z⟩) ?_ (λc W e=>by
   by_cases z:c=b
   ·subst z;rw[K0] at e;cases e
   ·rw[z0 z] at e;exact I.ft c W e) (.inl ⟨rfl,_,rfl⟩)
 ·exact kk _ G _ _ _ _ J (Same.refl _) .non q
 ·refine⟨a,as,rfl,by rw[z0 x];exact h,E,L,by simp[ln],λm c es p g=>?_,f⟩
  by_cases hm:m=n
  ·subst hm
   rw[hb] at p;cases p
   rw[Z3,t0 rfl,t0 hn] at g
   cases g
   exact⟨_,K0,M.append (.cons ry .nil)⟩
  ·rw[Z3,y0 (λz=>hm z.symm)] at g
   obtain⟨us,h3,R⟩:=r m c es p g
   refine⟨us,?_,R⟩
   rw[z0]
   ·exact h3
   ·rintro rfl
    have S:=(J1.mp hb)
    have X:=(J1.mp p)
    obtain⟨Y,P⟩:=S
    obtain⟨U,e2⟩:=X
    exact hm (nodup_ix E U Y (e2.trans P.symm))
end
end VL
namespace L2
open PySem PySem.W PyProof.Rows
def iD:V->List V->Hp->VK->Prop:=λx vs H Q=>∃(a:Addr)(kvs:List (Key × V)),x=.ref a/\vs=[]/\H a=some (.dK kvs)/\∀ p,H p=none->Q (.ref p) (upd H p (.ext λh=>h.IsValuesView p a))
def cE:List V->Hp->VK->Prop:=λxs H Q=>∃(p a:Addr)(kvs:List (Key × V)),xs=[.ref p]/\H p=some (.ext λh=>h.IsValuesView p a)/\H a=some (.dK kvs)/\∀ q,H q=none->Q (.ref q) (upd H q (.lst (kvs.map (·.2))))
section
variable{X:Cx}
theorem jM:MtR X "dict.values" iD:=by
 intro pins s σ H x xs v us Q I d rs h
 obtain⟨a,kvs,rfl,rfl,ha,q⟩:=h
 cases d
 cases rs
 obtain⟨z,hd,vs,g,dd⟩:=RA I.hok ha
 refine call_meetsIn PySem.F.slot_dict_values dd.typeIs PySem.F.entry_dict_values (PySem.F.args_dict_values_1 _) (meets_dict_values (N3 X.prog X.w) a hd) ⟨⟨vs,dd⟩,?_⟩
 have f:(s.heap.push { cls:=.type "dict_values",data:=.fields #[.ref a] }).IsValuesView s.heap.objs.size a:=⟨_,X2 _ rfl,rfl,rfl⟩
 refine⟨.ref s.heap.objs.size,_,I.laid (t':=s.toks) (o:=.ext λh=>h.IsValuesView s.heap.objs.size a) (λb o e=>S1 _ e) (N0 _) ⟨f,⟨_,X2 _ rfl⟩,λj i ⟨o,c,r⟩ k=>⟨o,k o c,r⟩⟩,rfl,q _ (I.hok.fresh (N0 _))⟩
theorem rF:∀{kvs:List (Key × V)}{vs:List (Key × Value)},KV kvs vs->Vals (kvs.map (·.2)) (vs.map (·.2))
 |_,_,.nil=>.nil
 |_,_,.cons h t=>.cons h.2 (rF t)
theorem RJ(x:X.calm=true):M2 X (.type "list") cE:=by
 intro pins s σ H xs us Q I r h
 obtain⟨p,a,kvs,rfl,l,ha,q⟩:=h
 obtain⟨u,rfl,g⟩:=Y4 r
 cases g
 obtain⟨z,hd,vs,f,dd⟩:=RA I.hok ha
 obtain⟨ep,m⟩:=dd.dictAt
 obtain⟨n,_,_⟩:=(show ObjOk X.prog X.w H s.heap p (.ext λh=>h.IsValuesView p a) from I.hok p _ l)
 have A:=f.length
 refine kdl_call (kdl_values (knd:=N3 X.prog X.w) (kvs:=vs) (ep:=ep)) (I.ok.hd x) ⟨n,m⟩ (by rw[← A];exact z) λh' y d c kp i b=>?_
 have e:d.toList=vs.map (·.2):=kdl_vals_eq d.toList (by rw[Array.length_toList];exact b.1) λj v e=>b.2 j v (by rw[← W5];exact e)
 refine⟨.ref s.heap.objs.size,_,I.laid (t':=y) (o:=.lst (kvs.map (·.2))) kp (N0 _) ⟨by rw[T0];exact z,d.toList,c,by rw[e];exact rF f,by rw[Array.toArray_toList];exact i⟩,rfl,q _ (I.hok.fresh (N0 _))⟩
end
end L2
namespace VL
open PySem PySem.Spec L2
theorem RpK.vals{G:Hp}:∀{kvs:List (Key × V)}{es:List (Key × PyData)},RpK G kvs es->Rps G (kvs.map (·.2)) (es.map (·.2))
 |_,_,.nil=>.nil
 |_,_,.cons h t=>.cons h (RpK.vals t)
section
variable{B:Bs}{env:En}{QO:Sl->En->Prop}{K:Frag}{i:Nat}
theorem bS{es:List (Key × PyData)}(e:env[i]?=some (some (.st (abw es))))(d:es ≠ [])(q:QO (.own (OL (es.map (·.2)))) env):EvO B (tCB cE (X1 (tBM0 K "dict" iD (tVar i)) tNil)) env QO:=λσ G H F Q I k=>by
 obtain⟨v,g,r,_⟩:=I.sl i _ e
 obtain⟨a,kvs,rfl,ha,m⟩:=sB r d
 have b:=I.gh _ _ ha
 refine⟨_,g,.inr (.inr (.inl ⟨rfl,.inl ⟨_,b⟩⟩)),a,kvs,rfl,rfl,b,λp c=>⟨p,a,kvs,rfl,K0,by rw[z0 (V2 b c)];exact b,λl n=>?_⟩⟩
 have f:G p=none:=I.no_g c
 have J:=I.aside (p:=p) (o:=.ext λh=>h.IsValuesView p a) (λ_ z=>nomatch z) f (λj z=>I.no_f c j z) (I.no_b c)
 have o:=Out.newL J.gh n (RpK.vals m)
 exact k _ _ _ F _ _ env (J.out o).1 o.gg (J.out o).2 q
end
end VL
namespace L2
open PySem PySem.Spec
end L2
namespace G
open PySem L2 VL
def top(i:Nat):Stmt:=PySem.Challenge.pw_fewties_k42_what_is_refused.main.body.getD i (.Pass ⟨0,0,0,0⟩)
abbrev s_is_whole:Stmt:=top 12
abbrev s_is_between:Stmt:=top 13
abbrev s_need_number:Stmt:=top 14
abbrev s_is_place:Stmt:=top 15
abbrev s_is_tie:Stmt:=top 16
abbrev s_are_ties:Stmt:=top 17
abbrev s_is_rising:Stmt:=top 18
abbrev s_tied_places:Stmt:=top 19
abbrev s_far_from:Stmt:=top 20
abbrev s_need_place:Stmt:=top 21
abbrev s_all_far:Stmt:=top 22
abbrev s_how_far:Stmt:=top 23
abbrev s_is_joined:Stmt:=top 24
abbrev s_need_joined:Stmt:=top 26
abbrev s_far_rows:Stmt:=top 27
abbrev s_most_far:Stmt:=top 28
abbrev s_farthest_two:Stmt:=top 29
abbrev s_with_ties:Stmt:=top 31
abbrev s_far_or_none:Stmt:=top 33
abbrev s_law_deck:Stmt:=top 36
abbrev s_law_draw:Stmt:=top 37
abbrev s_law_tied:Stmt:=top 38
abbrev s_law_fars:Stmt:=top 39
abbrev s_law_order:Stmt:=top 40
abbrev s_law_crowds:Stmt:=top 41
abbrev s_law_web:Stmt:=top 42
abbrev s_law_deed:Stmt:=top 43
abbrev s_law_behind:Stmt:=top 44
abbrev s_law_done:Stmt:=top 45
abbrev s_law_far_of:Stmt:=top 46
abbrev s_law_kinds:Stmt:=top 47
abbrev s_law_no_places:Stmt:=top 48
abbrev s_law_refused:Stmt:=top 49
abbrev s_law_things_refused:Stmt:=top 50
abbrev s_law_all_refused:Stmt:=top 51
abbrev s_law:Stmt:=top 52
abbrev s_Grower____init__:Stmt:=l8 (top 34) 0
abbrev s_Grower__put_place:Stmt:=l8 (top 34) 1
abbrev s_Grower__put_tie:Stmt:=l8 (top 34) 2
abbrev s_Grower__become:Stmt:=l8 (top 34) 3
abbrev s_Grower__web:Stmt:=l8 (top 34) 4
abbrev s_Grower__farthest:Stmt:=l8 (top 34) 5
abbrev s_Grower__far:Stmt:=l8 (top 34) 6
def YF(K:Frag)(mg:Str->Option Value)(r c:Str)(b:Bool):Prop:=∀ C D,mg r=some (.ref C)->mg c=some (.ref D)->kitOne K (.ref C) (.ref D)=some b
structure Txt(K:Frag)(mg:Str->Option Value):Prop where
 b_ValueError:mg "ValueError" = none
 b_all:mg "all" = none
 b_max:mg "max" = none
 b_sorted:mg "sorted" = none
 b_range:mg "range" = none
 b_dict:mg "dict" = none
 b_list:mg "list" = none
 b_isinstance:mg "isinstance" = none
 b_int:mg "int" = none
 b_len:mg "len" = none
 b_sum:mg "sum" = none
 b_min:mg "min" = none
 b_bool:mg "bool" = none
 b_tuple:mg "tuple" = none
 v_MOST_PLACES:∃ t,mg "MOST_PLACES" = some (.int 60 t)
 d_is_whole:∃ f fd,DefAt K mg "is_whole" s_is_whole ["thing"] f fd
 d_is_between:∃ f fd,DefAt K mg "is_between" s_is_between ["least","most","thing"] f fd
 d_need_number:∃ f fd,DefAt K mg "need_number" s_need_number ["least","most","thing"] f fd
 d_is_place:∃ f fd,DefAt K mg "is_place" s_is_place ["n","thing"] f fd
 d_is_tie:∃ f fd,DefAt K mg "is_tie" s_is_tie ["n","thing"] f fd
 d_are_ties:∃ f fd,DefAt K mg "are_ties" s_are_ties ["n","thing"] f fd
 d_is_rising:∃ f fd,DefAt K mg "is_rising" s_is_rising ["things"] f fd
 d_tied_places:∃ f fd,DefAt K mg "tied_places" s_tied_places ["web"] f fd
 d_far_from:∃ f fd,DefAt K mg "far_from" s_far_from ["tied","start"] f fd
 d_need_place:∃ f fd,DefAt K mg "need_place" s_need_place ["web","thing"] f fd
 d_all_far:∃ f fd,DefAt K mg "all_far" s_all_far ["web","a"] f fd
 d_how_far:∃ f fd,DefAt K mg "how_far" s_how_far ["web","a","b"] f fd
 d_is_joined:∃ f fd,DefAt K mg "is_joined" s_is_joined ["web"] f fd
 d_need_joined:∃ f fd,DefAt K mg "need_joined" s_need_joined ["web"] f fd
 d_far_rows:∃ f fd,DefAt K mg "far_rows" s_far_rows ["web"] f fd
 d_most_far:∃ f fd,DefAt K mg "most_far" s_most_far ["rows"] f fd
 d_farthest_two:∃ f fd,DefAt K mg "farthest_two" s_farthest_two ["web"] f fd
 d_with_ties:∃ f fd,DefAt K mg "with_ties" s_with_ties ["web","ties"] f fd
 d_far_or_none:∃ f fd,DefAt K mg "far_or_none" s_far_or_none ["web"] f fd
 d_law_deck:∃ f fd,DefAt K mg "_law_deck" s_law_deck ["script"] f fd
 d_law_draw:∃ f fd,DefAt K mg "_law_draw" s_law_draw ["deck","many"] f fd
 d_law_tied:∃ f fd,DefAt K mg "_law_tied" s_law_tied ["web"] f fd
 d_law_fars:∃ f fd,DefAt K mg "_law_fars" s_law_fars ["web"] f fd
 d_law_order:∃ f fd,DefAt K mg "_law_order" s_law_order ["deck","n"] f fd
 d_law_crowds:∃ f fd,DefAt K mg "_law_crowds" s_law_crowds ["deck"] f fd
 d_law_web:∃ f fd,DefAt K mg "_law_web" s_law_web ["deck","most"] f fd
 d_law_deed:∃ f fd,DefAt K mg "_law_deed" s_law_deed ["deck","web"] f fd
 d_law_behind:∃ f fd,DefAt K mg "_law_behind" s_law_behind ["web","deed"] f fd
 d_law_done:∃ f fd,DefAt K mg "_law_done" s_law_done ["grower","deed"] f fd
 d_law_far_of:∃ f fd,DefAt K mg "_law_far_of" s_law_far_of ["web"] f fd
 d_law_kinds:∃ f fd,DefAt K mg "_law_kinds" s_law_kinds ["caught","due"] f fd
 d_law_no_places:∃ f fd,DefAt K mg "_law_no_places" s_law_no_places ["deck","n"] f fd
 d_law_refused:∃ f fd,DefAt K mg "_law_refused" s_law_refused ["way","grower","a","b","due"] f fd
 d_law_things_refused:∃ f fd,DefAt K mg "_law_things_refused" s_law_things_refused ["deck","grower","web"] f fd
 d_law_all_refused:∃ f fd,DefAt K mg "_law_all_refused" s_law_all_refused ["deck","grower","web"] f fd
 d_law:∃ f fd,DefAt K mg "law" s_law ["script"] f fd
 o_Grower:∃ C,ObAt K mg "Grower" C
 n_Grower_held:∀ C,mg "Grower" = some (.ref C)->NoAttr K C "held"
 m_Grower____init__:∀ C,mg "Grower" = some (.ref C)->∃ f fd,MeAt K C "__init__" "Grower.__init__" s_Grower____init__ ["self","web"] f fd
 m_Grower__put_place:∀ C,mg "Grower" = some (.ref C)->∃ f fd,MeAt K C "put_place" "Grower.put_place" s_Grower__put_place ["self","a"] f fd
 m_Grower__put_tie:∀ C,mg "Grower" = some (.ref C)->∃ f fd,MeAt K C "put_tie" "Grower.put_tie" s_Grower__put_tie ["self","a","b"] f fd
 m_Grower__become:∀ C,mg "Grower" = some (.ref C)->∃ f fd,MeAt K C "become" "Grower.become" s_Grower__become ["self","grown"] f fd
 m_Grower__web:∀ C,mg "Grower" = some (.ref C)->∃ f fd,MeAt K C "web" "Grower.web" s_Grower__web ["self"] f fd
 m_Grower__farthest:∀ C,mg "Grower" = some (.ref C)->∃ f fd,MeAt K C "farthest" "Grower.farthest" s_Grower__farthest ["self"] f fd
 m_Grower__far:∀ C,mg "Grower" = some (.ref C)->∃ f fd,MeAt K C "far" "Grower.far" s_Grower__far ["self","a","b"] f fd
 x_TieError:∃ C,XCls K mg "TieError" C
 x_NoPlace:∃ C,XCls K mg "NoPlace" C
 x_NoJoin:∃ C,XCls K mg "NoJoin" C
 x_NoTie:∃ C,XCls K mg "NoTie" C
 x_NoTree:∃ C,XCls K mg "NoTree" C
 x_NoNumber:∃ C,XCls K mg "NoNumber" C
 x_NoText:∃ C,XCls K mg "NoText" C
 x_NoName:∃ C,XCls K mg "NoName" C
 x_NoRow:∃ C,XCls K mg "NoRow" C
 y_NoPlace_TieError:YF K mg "NoPlace" "TieError" true
 y_NoPlace_NoPlace:YF K mg "NoPlace" "NoPlace" true
 y_NoPlace_NoJoin:YF K mg "NoPlace" "NoJoin" false
 y_NoPlace_NoTie:YF K mg "NoPlace" "NoTie" false
 y_NoPlace_NoTree:YF K mg "NoPlace" "NoTree" false
 y_NoPlace_NoNumber:YF K mg "NoPlace" "NoNumber" false
 y_NoPlace_NoText:YF K mg "NoPlace" "NoText" false
 y_NoPlace_NoName:YF K mg "NoPlace" "NoName" false
 y_NoPlace_NoRow:YF K mg "NoPlace" "NoRow" false
 y_NoPlace_ValueError:∀ C,mg "NoPlace" = some (.ref C)->kitOne K (.ref C) (.type "ValueError")=some true
 s_NoPlace_TieError:∀ C D,mg "NoPlace" = some (.ref C)->mg "TieError" = some (.ref D)->mroIn K C (.ref D)=some true
 y_NoJoin_TieError:YF K mg "NoJoin" "TieError" true
 y_NoJoin_NoPlace:YF K mg "NoJoin" "NoPlace" false
 y_NoJoin_NoJoin:YF K mg "NoJoin" "NoJoin" true
 y_NoJoin_NoTie:YF K mg "NoJoin" "NoTie" false
 y_NoJoin_NoTree:YF K mg "NoJoin" "NoTree" false
 y_NoJoin_NoNumber:YF K mg "NoJoin" "NoNumber" false
 y_NoJoin_NoText:YF K mg "NoJoin" "NoText" false
 y_NoJoin_NoName:YF K mg "NoJoin" "NoName" false
 y_NoJoin_NoRow:YF K mg "NoJoin" "NoRow" false
 y_NoJoin_ValueError:∀ C,mg "NoJoin" = some (.ref C)->kitOne K (.ref C) (.type "ValueError")=some true
 s_NoJoin_TieError:∀ C D,mg "NoJoin" = some (.ref C)->mg "TieError" = some (.ref D)->mroIn K C (.ref D)=some true
 y_NoTie_TieError:YF K mg "NoTie" "TieError" true
 y_NoTie_NoPlace:YF K mg "NoTie" "NoPlace" false
 y_NoTie_NoJoin:YF K mg "NoTie" "NoJoin" false
 y_NoTie_NoTie:YF K mg "NoTie" "NoTie" true
 y_NoTie_NoTree:YF K mg "NoTie" "NoTree" false
 y_NoTie_NoNumber:YF K mg "NoTie" "NoNumber" false
 y_NoTie_NoText:YF K mg "NoTie" "NoText" false
 y_NoTie_NoName:YF K mg "NoTie" "NoName" false
 y_NoTie_NoRow:YF K mg "NoTie" "NoRow" false
 y_NoTie_ValueError:∀ C,mg "NoTie" = some (.ref C)->kitOne K (.ref C) (.type "ValueError")=some true
 s_NoTie_TieError:∀ C D,mg "NoTie" = some (.ref C)->mg "TieError" = some (.ref D)->mroIn K C (.ref D)=some true
 y_NoNumber_TieError:YF K mg "NoNumber" "TieError" true
 y_NoNumber_NoPlace:YF K mg "NoNumber" "NoPlace" false
 y_NoNumber_NoJoin:YF K mg "NoNumber" "NoJoin" false
 y_NoNumber_NoTie:YF K mg "NoNumber" "NoTie" false
 y_NoNumber_NoTree:YF K mg "NoNumber" "NoTree" false
 y_NoNumber_NoNumber:YF K mg "NoNumber" "NoNumber" true
 y_NoNumber_NoText:YF K mg "NoNumber" "NoText" false
 y_NoNumber_NoName:YF K mg "NoNumber" "NoName" false
 y_NoNumber_NoRow:YF K mg "NoNumber" "NoRow" false
 y_NoNumber_ValueError:∀ C,mg "NoNumber" = some (.ref C)->kitOne K (.ref C) (.type "ValueError")=some true
 s_NoNumber_TieError:∀ C D,mg "NoNumber" = some (.ref C)->mg "TieError" = some (.ref D)->mroIn K C (.ref D)=some true
local macro_rules | `(tactic| row_cond sc) => `(tactic| exact ⟨rfl,rfl,rfl,by decide +kernel,rfl,by decide +kernel,by decide +kernel⟩)
local macro_rules | `(tactic| row_cond gn) => `(tactic| first | (with_reducible first | refine evg_n0 ?_ | refine yO ?_ | refine sI ?_ | refine PN ?_ | refine BI ?_ | refine jK ?_ | refine iK ?_ | refine lS ?_ | refine XJ ?_ | refine WJ ?_ | refine evg_n10 ?_ | refine evg_n11 ?_ | refine evg_n12 ?_ | refine evg_n13 ?_ | refine evg_n14 ?_ | refine evg_n15 ?_ | refine evg_n16 ?_ | refine evg_n17 ?_ | refine evg_n18 ?_ | refine evg_n19 ?_ | refine evg_n20 ?_ | refine evg_n21 ?_ | refine evg_n22 ?_ | refine evg_n23 ?_ | refine evg_n24 ?_ | refine evg_n25 ?_) | ((with_reducible refine L4 ?_); dsimp only [List.set_cons_zero, List.set_cons_succ]))
local macro_rules | `(tactic| row_cond dc) => `(tactic| first | assumption | lia | (with_reducible rfl))
local macro_rules | `(tactic| row_cond ar) => `(tactic| first | assumption | (refine ⟨?_, ?_, ?_⟩ <;> decide) | (constructor <;> first | assumption | lia) | (show (0 : Int) < _; first | assumption | lia) | (left; constructor <;> first | assumption | lia) | (right; constructor <;> first | assumption | lia))
local macro_rules | `(tactic| row_cond hs) => `(tactic| first | exact Or.inl rfl | exact Or.inr rfl)
local macro_rules | `(tactic| row_cond fz) => `(tactic| first | exact T4 | exact jE | exact frz_OT | exact ZF | exact ZB | assumption)
local macro_rules | `(tactic| row_cond le) => `(tactic| first | exact Nat.le_of_ble_eq_true rfl | assumption | lia | (simp only [List.length_append, List.length_map, List.length_cons, List.length_nil, List.length_set, List.length_replicate]; lia))
local macro_rules | `(tactic| row_cond ia) => `(tactic| first | assumption | exact OG | exact QF | exact sF | exact rfl)
local macro_rules | `(tactic| row_cond ty) => `(tactic| first | exact II | exact XN | exact XM | exact IN | exact ty_str | exact ty_dict)
local macro_rules | `(tactic| row_cond sEvS) => `(tactic| first | (with_reducible refine SE (fun c_ hc_ => ?_)) | (with_reducible first | refine n9 ?_ | refine UD ?_ | refine xH ?_) | ((with_reducible refine' qK ?h0 ?_); (case h0 => exact rfl)) | (with_reducible first | refine dI ?_ | refine bM ?_ | refine sM ?_) | ((with_reducible refine' bL ?h0 ?_); (case h0 => exact rfl)) | ((with_reducible refine' zM ?h0 ?_); (case h0 => exact rfl)) | ((with_reducible refine' OA ?h0 ?_); (case h0 => assumption)))
local macro_rules | `(tactic| row_cond sEvG) => `(tactic| first | row_cond gn | ((with_reducible refine' lH ?h0 ?_); (case h0 => exact rfl)) | ((with_reducible refine' DP ?h0 ?_); (case h0 => row_cond hs)) | (with_reducible refine evg_st ?_))
local macro_rules | `(tactic| row_cond sEvGs) => `(tactic| first | (with_reducible first | refine CC ?_ | refine pF ?_))
local macro_rules | `(tactic| row_cond sEv) => `(tactic| first | ((with_reducible refine' GJ ?h0 ?_); (case h0 => exact rfl)) | (with_reducible refine mR ?_) | ((with_reducible refine' fK ?h0 ?_); (case h0 => row_cond hs)) | ((with_reducible refine' qI ?h0 ?_); (case h0 => row_cond hs)) | (with_reducible refine aI ?_) | ((with_reducible refine' GP ?h0 ?_); (case h0 => row_cond ty)) | ((with_reducible refine' sE ?h0 ?_); (case h0 => exact rfl)) | ((with_reducible refine' WL ?h0 ?_); (case h0 => exact rfl)) | (with_reducible refine RI ?_) | ((with_reducible refine' wN ?h0 ?h1 ?_); (case h0 => exact rfl); (case h1 => row_cond fz); dsimp only [List.set_cons_zero, List.set_cons_succ]) | (with_reducible first | refine tI ?_ | refine RN ?_ | refine oI ?_ | refine cJ ?_ | refine DN ?_ | refine kR ?_ | refine yM ?_ | refine XO ?_ | refine OJ ?_ | refine F3 (te:=tCB (iB _) _) ?_ | refine F3 (te:=tCB cB _) ?_ | refine YH ?_) | ((with_reducible refine' HP ?h0 ?_); (case h0 => row_cond hs)) | ((with_reducible refine' pK ?h0 ?_); (case h0 => row_cond hs)) | ((with_reducible refine' eK ?h0 ?_); (case h0 => row_cond hs)) | (with_reducible refine wP ?_) | ((with_reducible refine' ON ?h0 ?_); (case h0 => decide)) | (with_reducible first | refine cM ?_ | refine QQ ?_))
local macro_rules | `(tactic| row_cond sEvO) => `(tactic| first | (with_reducible first | refine wD (r:=rCat) ?_ | refine wD (r:=rRep) ?_ | refine Z2 (te:=tOp _ _ _) ?_ | refine Z2 (te:=tVar _) ?_ | refine Z2 (te:=tC _) ?_ | refine fG ?_) | ((with_reducible refine' EK ?h0 ?_); (case h0 => exact rfl)) | (with_reducible refine jF ?_) | ((with_reducible refine' DF ?h0 ?_); (case h0 => exact rfl)) | ((with_reducible refine' GH ?h0 ?_); (case h0 => exact rfl)) | ((with_reducible refine' jJ ?h0 ?h1 ?_); (case h0 => exact rfl); (case h1 => assumption)) | (with_reducible first | refine NH ?_ | refine ZQ ?_) | ((with_reducible refine' ME ?h0 ?_); (case h0 => decide)) | (with_reducible first | refine mL ?_) | (with_reducible first | refine qE ?_ | refine dD ?_ | refine HK ?_ | refine JG ?_ | refine qH (r:=iC _) ?_ | refine Z2 (te:=tUn _ _) ?_ | refine Z2 (te:=tIf _ _ _) ?_ | refine Z2 (te:=UB _ _) ?_ | refine Z2 (te:=fE _) ?_ | refine Z2 (te:=QC _ _ _ _ _) ?_ | refine Z2 (te:=NA _ _) ?_ | refine Z2 (te:=CA _ _) ?_ | refine Z2 (te:=KC _ _) ?_ | refine Z2 (te:=tCB (rLen _) _) ?_ | refine Z2 (te:=tCB (rIsi _) _) ?_ | refine Z2 (te:=tCB JB _) ?_ | refine Z2 (te:=tCB uB _) ?_ | refine Z2 (te:=tCB TB _) ?_ | refine Z2 (te:=tCB (F7 _) _) ?_ | refine Z2 (te:=tCB (uA _) _) ?_ | refine Z2 (te:=tCB (gC _) _) ?_ | refine Z2 (te:=tCB (rAll _) _) ?_ | refine Z2 (te:=tBM _ _ _ _ _) ?_))
local macro_rules | `(tactic| row_cond sEvT) => `(tactic| first | (with_reducible first | refine gB ?_ | refine GQ ?_ | refine qN ?_ | refine MP ?_ | refine dC ?_ | refine SA ?_) | (with_reducible refine tJ ?_))
local macro_rules | `(tactic| row_cond sEvA) => `(tactic| first | (with_reducible first | refine JC ?_ | refine YC ?_))
local macro_rules | `(tactic| row_cond sEvI) => `(tactic| first | (with_reducible first | refine RO ?_ | refine pI ?_ | refine evi_down ?_ | refine BO ?_) | (with_reducible refine evi_tup ?_))
local macro_rules | `(tactic| row_cond sEvOp) => `(tactic| first | (with_reducible first | refine rO ?_ | refine oR ?_))
local macro_rules | `(tactic| row_cond sOp2) => `(tactic| first | (with_reducible first | refine CM ?_ | refine GR ?_) | ((with_reducible refine' yQ ?h0 ?_); (case h0 => row_cond ar)) | (with_reducible first | refine YK ?_ | refine lK ?_) | ((with_reducible refine' iO ?h0 ?_); (case h0 => row_cond ia)) | ((with_reducible refine' CK ?h0 ?_); (case h0 => row_cond ia)) | (with_reducible first | refine nI ?_ | refine KM ?_) | ((with_reducible refine' YO ?h0 ?_); (case h0 => row_cond le)))
local macro_rules | `(tactic| row_cond sOp1) => `(tactic| first | (with_reducible refine EJ ?_))
local macro_rules | `(tactic| row_cond sOpA) => `(tactic| first | (with_reducible first | refine fM ?_ | refine bR ?_ | refine AR ?_ | refine rJ ?_ | refine GK ?_ | refine XR ?_))
local macro_rules | `(tactic| row_cond sFQ) => `(tactic| first | (with_reducible first | refine E5 ?_ | refine W4 ?_ | refine ID ?_ | refine kB ?_))
local macro_rules | `(tactic| row_cond sRngA1) => `(tactic| first | ((with_reducible refine' uM ?h0 ?h1 ?_); (case h0 => lia); (case h1 => lia)))
local macro_rules | `(tactic| row_cond sRngA2) => `(tactic| first | ((with_reducible refine' ER ?h0 ?_); (case h0 => lia)))
local macro_rules | `(tactic| row_cond sRest) => `(tactic| first | (with_reducible first | refine x_bl ?_ | refine x_st ?_ | refine KK ?_ | refine bQ ?_) | ((with_reducible refine' gJ ?h0 ?h1 ?_); (case h0 => row_cond hs); (case h1 => row_cond ia)) | ((with_reducible refine' x_sc ?h0 ?_); (case h0 => exact rfl)) | ((with_reducible refine' mO ?h0 ?_); (case h0 => row_cond le)) | (with_reducible first | refine U5 ?_ | refine M6 ?_ | refine XC ?_ | refine TD ?_) | ((with_reducible refine' bD ?h0 ?_); (case h0 => row_cond dc)) | ((with_reducible refine' tD ?h0 ?_); (case h0 => row_cond dc)) | ((with_reducible refine' gL ?h0 ?_); (case h0 => row_cond dc)) | ((with_reducible refine' dL ?h0 ?_); (case h0 => row_cond dc)) | ((with_reducible refine' wQ ?h0 ?_); (case h0 => first | exact rfl | row_cond hs)) | ((with_reducible refine' x_rt ?h0 ?_); (case h0 => exact rfl)) | ((with_reducible refine' dR ?h0 ?h1 ?_); (case h0 => exact rfl); (case h1 => row_cond le); dsimp only [List.set_cons_zero, List.set_cons_succ]) | ((with_reducible refine' aD ?h0 ?h1 ?_); (case h0 => exact rfl); (case h1 => first | exact ixN0 | exact ixN1 | exact ixN2 | assumption); dsimp only [List.set_cons_zero, List.set_cons_succ, reS]) | (with_reducible first | refine zP ?_) | ((with_reducible refine' x_dT ?h0 ?h1 ?_); (case h0 => exact rfl); (case h1 => row_cond le); dsimp only [List.set_cons_zero, List.set_cons_succ]) | ((with_reducible refine' x_dK ?h0 ?h1 ?_); (case h0 => exact rfl); (case h1 => row_cond le); dsimp only [List.set_cons_zero, List.set_cons_succ]) | ((with_reducible refine' x_dN ?h0 ?_); (case h0 => row_cond hs)) | ((with_reducible refine' bN ?h0 ?h1 ?_); (case h0 => lia); (case h1 => lia)) | ((with_reducible refine' x_ow ?h0 ?_); (case h0 => exact rfl); dsimp only [List.set_cons_zero, List.set_cons_succ]))
local macro_rules | `(tactic| row_cond st) => `(tactic| first | ((with_reducible refine YN ?_); row_cond sEvS) | ((with_reducible refine VO ?_); row_cond sEvG) | ((with_reducible refine eJ ?_); row_cond sEvGs) | ((with_reducible refine g_Ev ?_); row_cond sEv) | ((with_reducible refine MR ?_); row_cond sEvO) | ((with_reducible refine TJ ?_); row_cond sEvT) | ((with_reducible refine QM ?_); row_cond sEvA) | ((with_reducible refine AQ ?_); row_cond sEvI) | ((with_reducible refine NI ?_); row_cond sEvOp) | ((with_reducible refine JR ?_); row_cond sOp2) | ((with_reducible refine aM ?_); row_cond sOp1) | ((with_reducible refine OO ?_); row_cond sOpA) | ((with_reducible refine g_FQ ?_); row_cond sFQ) | ((with_reducible refine XL ?_); row_cond sRngA1) | ((with_reducible refine EL ?_); row_cond sRngA2) | row_cond sRest)
local macro_rules | `(tactic| row_cond go) => `(tactic| repeat row_cond st)
local macro_rules | `(tactic| row_cond hnx) => `(tactic| first | assumption | (apply Ne.symm; assumption) | exact V2 (by assumption) (by assumption) | exact (V2 (by assumption) (by assumption)).symm)
local macro_rules | `(tactic| row_cond hhp) => `(tactic| first | assumption | exact K0 | (rw [z0 (by row_cond hnx)]; row_cond hhp) | ((refine' Same.at ?ss ?hh); (case ss => assumption); (case hh => row_cond hhp)))
local macro_rules | `(tactic| row_cond hix) => `(tactic| first | assumption | exact OG | exact QF | exact sF)
local macro_rules | `(tactic| row_cond hst) => `(tactic| first | (with_reducible first | refine OP ?_ | refine oQ ?_ | refine cC ?_ | refine XI ?_ | refine go_c ?_ | refine CP ?_ | refine go_U ?_ | refine uE ?_ | refine xO ?_ | refine iQ ?_ | refine gQ ?_ | refine BL ?_ | refine mK ?_ | refine hQ ?_ | refine vJ ?_ | refine tQ ?_ | refine XD ?_ | refine Z9 ?_ | refine fO ?_ | refine EE ?_ | refine PH ?_ | refine WE ?_ | refine SN ?_ | refine jI ?_ | refine nK ?_ | refine SJ ?_ | refine xQ ?_ | refine CL ?_ | refine WC ?_ | refine U5 ?_ | refine M6 ?_) | ((with_reducible refine' tE ?hv ?_); (case hv => exact rfl)) | ((with_reducible refine' oB ?ha ?hv ?_); (case ha => row_cond hhp); (case hv => row_cond hix)) | ((with_reducible refine go_I ?hc ?_); (case hc => row_cond ar)) | ((with_reducible refine' oG ?ha ?_); (case ha => row_cond hhp)) | ((with_reducible refine' qG ?ha ?hj ?_); (case ha => row_cond hhp); (case hj => first | exact ixN0 | exact ixN1 | exact ixN2)) | ((with_reducible refine' GM ?ha ?_); (case ha => row_cond hhp)) | ((with_reducible refine' ZA ?ha ?hl ?_); (case ha => row_cond hhp); (case hl => exact NB (by simp; lia))) | ((with_reducible refine' bD ?hc ?_); (case hc => row_cond dc)) | ((with_reducible refine' tD ?hc ?_); (case hc => row_cond dc)) | dsimp only [List.set_cons_zero, List.set_cons_succ])
local macro_rules | `(tactic| row_cond hgo) => `(tactic| repeat row_cond hst)
local macro_rules|`(tactic|row_cond qa)=>`(tactic|(repeat (first|(refine k6 (by assumption) ?_)|(refine u6 (s:=.io _) rfl ?_)|(refine o6 ?_)|(refine j6 ?_)|row_cond st)))
local macro_rules|`(tactic|row_cond qb)=>`(tactic|(dsimp only[List.set_cons_zero,List.set_cons_succ]))
local macro_rules|`(tactic|row_cond qc)=>`(tactic|(dsimp only[List.set_cons_zero,List.set_cons_succ,reS]))
local macro_rules|`(tactic|row_cond qd)=>`(tactic|(repeat (first|row_cond st|(dsimp only[List.set_cons_zero,List.set_cons_succ];row_cond st))))
local macro_rules|`(tactic|row_cond qe)=>`(tactic|(repeat (first|(refine S9 (.inr rfl) (E6 (by decide +kernel)) ?_)|row_cond st)))
def isInt:PyData->Bool
 | .int _=>true
 |_=>false
def btwD(a b:Int):PyData->Bool
 | .int i=>decide (a<=i/\i<=b)
 |_=>false
def BK:VP:=λss Q=>∃ d,ss=[.st d]/\Q (.st (.bool (isInt d)))
def kS:VP:=λss Q=>∃(a b:Int)(d:PyData),ss=[.st (.int a),.st (.int b),.st d]/\Q (.st (.bool (btwD a b d)))
def qJ:VP:=λss Q=>∃(n:Int)(d:PyData),ss=[.st (.int n),.st d]/\Q (.st (.bool (btwD 0 (n-1) d)))
section
variable{P:Program}{w:World}{K:Frag}{mg:Str->Option Value}{base:Heap}
theorem sc_is_whole:FnScope ["thing"] ["thing"] (L0 s_is_whole):=by row_cond sc
theorem jS(T:Txt K mg):Can P w K mg base "is_whole" 1 ["thing"] (spP K (BK)):=by
 obtain⟨f,fd,D⟩:=T.d_is_whole
 obtain⟨g,c⟩:=T.o_Grower
 have a:=c.mgx
 have l:=T.n_Grower_held _ a
 refine D.can (D.fn.ok sc_is_whole (λvs H Q E h=>lenP h λss Q' q=>by obtain⟨d,rfl,k⟩:=q;rfl) (λcdv A outer s H vs Q E n h=>?_))
 have nd:=sc_is_whole.nd
 refine⟨_,(I0 (U0 (n8 (S0 fB (by rfl) T.b_isinstance w5 (i0 (pv 0) (i0 (y9 (v:=.ty "int") rfl T.b_int EB rfl) o0))) (v9 (xE (S0 fB (by rfl) T.b_isinstance w5 (i0 (pv 0) (i0 (y9 (v:=.ty "bool") rfl T.b_bool bK rfl) o0)))))))),?_⟩
 refine p3 h λss Q' q B m=>?_
 refine exS1 ss q λd j=>?_
 have k:=j
 clear j q
 show EvS B _ _ [some (.st d)]
 row_cond go
 cases d with
 |int i=>refine U5 ?_; row_cond go; exact k
 |bool b=>refine U5 ?_; row_cond go; exact k
 |_=>refine M6 ?_;exact k
theorem sc_is_between:FnScope ["least","most","thing"] ["least","most","thing"] (L0 s_is_between):=by row_cond sc
theorem pC(T:Txt K mg):Can P w K mg base "is_between" 2 ["least","most","thing"] (spP K (kS)):=by
 obtain⟨f,fd,D⟩:=T.d_is_between
 obtain⟨j,g⟩:=T.o_Grower
 have c:=g.mgx
 have m:=T.n_Grower_held _ c
 refine D.can (D.fn.ok sc_is_between (λvs H Q E h=>lenP h λss Q' q=>by obtain⟨a,b,d,rfl,k⟩:=q;rfl) (λcdv A outer s H vs Q E o h=>?_))
 have nd:=sc_is_between.nd
 refine⟨_,(I0 (U0 (n8 (J0 (jS T) o (i0 (pv 2) o0)) (v9 (FM hI hI (pv 0) (pv 2) (pv 1)))))),?_⟩
 refine p3 h λss Q' q B p=>?_
 refine exS3 ss q λa b d l=>?_
 have k:=l
 clear l q
 show EvS B _ _ [some (.st (.int a)),some (.st (.int b)),some (.st d)]
 row_cond go
 refine⟨d,rfl,?_⟩
 row_cond go
 cases d with
 | int i =>
  refine U5 ?_
  row_cond go
  refine P5 (λn=>?_) (λn=>?_)
  ·row_cond go
   have e:decide (i<=b)=btwD a b (.int i):=by
    show _=decide (a<=i/\i<=b)
    rw[o7];simp[n]
   rw[e];exact k
  ·have e:false=btwD a b (.int i):=by
    show _=decide (a<=i/\i<=b)
    exact(O2 (λz=>n z.1)).symm
   rw[e];exact k
 |_=>exact M6 k
theorem sc_is_place:FnScope ["n","thing"] ["n","thing"] (L0 s_is_place):=by row_cond sc
theorem QB(T:Txt K mg):Can P w K mg base "is_place" 3 ["n","thing"] (spP K (qJ)):=by
 obtain⟨f,fd,D⟩:=T.d_is_place
 obtain⟨c,b⟩:=T.o_Grower
 have a:=b.mgx
 have i:=T.n_Grower_held _ a
 refine D.can (D.fn.ok sc_is_place (λvs H Q E h=>lenP h λss Q' q=>by obtain⟨n,d,rfl,k⟩:=q;rfl) (λcdv A outer s H vs Q E j h=>?_))
 have nd:=sc_is_place.nd
 refine⟨_,(I0 (U0 (J0 (pC T) j (i0 q0 (i0 (R0 p7 (pv 0) q0) (i0 (pv 1) o0)))))),?_⟩
 refine p3 h λss Q' q B l=>?_
 refine exS2 ss q λn d g=>?_
 have k:=g
 clear g q
 show EvS B _ _ [some (.st (.int n)),some (.st d)]
 row_cond go
 exact⟨_,_,_,rfl,k⟩
def ZR:VP:=λss Q=>∃(n:Int)(es:List (Int × Int)),ss=[.st (webD n es)]/\0<=n/\n<=100/\InN n es/\es.length<=10000/\∀ tl,TiedL n (Tied es) tl->(∀ us∈tl,us.length<=20000)->Q (.own (OLL (tlD tl)))
theorem sc_tied_places:FnScope ["web","n","ties","tied","a","b"] ["web"] (L0 s_tied_places):=by row_cond sc
theorem WH(T:Txt K mg):Can P w K mg base "tied_places" 1 ["web"] (spP K (ZR)):=by
 obtain⟨f,fd,D⟩:=T.d_tied_places
 obtain⟨x,p⟩:=T.o_Grower
 have o:=p.mgx
 have G:=T.n_Grower_held _ o
 refine D.can (D.fn.ok sc_tied_places (λvs H Q E h=>lenP h λss Q' q=>by obtain⟨n,es,rfl,S,R,y,J,k⟩:=q;rfl) (λcdv A outer s H vs Q E X h=>?_))
 have nd:=sc_tied_places.nd
 refine⟨_,(G0 (y4 (pv 0) (K4 rfl (E2 (P0 (i:=1) nd rfl (Or.inl rfl)) (E2 (P0 (i:=2) nd rfl (Or.inl rfl)) D4))))
  (G0 (mH (i:=3) nd rfl (Or.inl rfl) rfl (N:=["place"]) (src:=[none]) (by exact Z4 rfl rfl rfl rfl rfl rfl) (z5 rfl T.b_range (i0 (pv 1) o0)) (λ_ _ _ _=>(P0 (i:=0) (show List.Nodup (["place"]:List Str) by decide +kernel) rfl (Or.inl rfl) (hf:=Or.inr rfl))) (λ_ _ _ _=>u5) (λ_ _ _ _=>(Q1 o0)))
  (G0 (k4 R3 rfl (Q4 (pv 2)) (K4 rfl (E2 (P0 (i:=4) nd rfl (Or.inl rfl)) (E2 (P0 (i:=5) nd rfl (Or.inl rfl)) D4)))
   (G0 (J3 (o5 PySem.F.plainAttrs_list PySem.F.slot_list_append PySem.F.type_list_append z6 (Y0 W0 (pv 3) (pv 4) (λ_ _=>rfl)) (i0 (pv 5) o0)))
    (I0 (J3 (o5 PySem.F.plainAttrs_list PySem.F.slot_list_append PySem.F.type_list_append z6 (Y0 W0 (pv 3) (pv 5) (λ_ _=>rfl)) (i0 (pv 4) o0))))))
  (I0 (U0 (pv 3)))))),?_⟩
 refine p3 h λss Q' q B W=>?_
 refine exS2 ss q λn es c=>?_
 have S:=c.1
 have R:=c.2.1
 have y:=c.2.2.1
 have J:=c.2.2.2.1
 have k:=c.2.2.2.2
 clear c q
 show EvS B _ _ [some (.st (webD n es)),none,none,none,none,none]
 row_cond go
 rw[R8]
 refine⟨by lia,?_⟩
 row_cond go
 refine Z6 (λi e=>∃ M I tl,e=[some (.st (webD n es)),some (.st (.int n)),some (.st (.list (es.map prD))),some (.own (OLL (tlD tl))),M,I]/\TiedL n (Tied (es.take i)) tl/\∀ j∈tl,j.length<=2 * i)
  ⟨none,none,List.replicate n.toNat [],by simp[tlD],⟨by simp;lia,λi j hi w=>?_⟩,λj U=>?_⟩ ?_ ?_
 ·rw[O7] at hi
  split at hi
  ·cases hi;simp[Tied]
  ·cases hi
 ·have:=List.eq_of_mem_replicate U
  subst this;simp
 ·rintro i ⟨a,b⟩ e L m
  refine exS3 e m λM I tl c=>?_
  have r:=c.1
  have l:=c.2
  clear c m
  have hi:i<es.length:=(J1.mp L).1
  obtain⟨a0,a1,b0,b1⟩:=y _ (v2 L)
  dsimp only at a0 a1 b0 b1
  row_cond go
  obtain⟨j,d,_⟩:=r.get a0 a1
  have O:=l j (v2 d)
  refine aG (n:=a.toNat) (ds:=j.map .int) rfl rfl rfl (by rw[T0];exact wA a0 (by rw[r.1];exact a1)) (k9 d) (by rw[T0];lia) ?_
  row_cond qb
  have C:=r.put (q:=b) a0 a1 d
  rw[show j.map PyData.int++[.int b]=(j++[b]).map .int by simp,FB]
  have g:∀ us∈tl.set a.toNat (j++[b]),us.length<=2 * i+1:=λus z=>by
   rcases List.mem_or_eq_of_mem_set z with h|h
   ·have:=l us h;lia
   ·subst h;simp;lia
  generalize tl.set a.toNat (j++[b])=tl2 at C g
  row_cond go
  obtain⟨j,d,_⟩:=C.get b0 b1
  have O:=g j (v2 d)
  refine aG (n:=b.toNat) (ds:=j.map .int) rfl rfl rfl (by rw[T0];exact wA b0 (by rw[C.1];exact b1)) (k9 d) (by rw[T0];lia) ?_
  row_cond qb
  rw[show j.map PyData.int++[.int a]=(j++[a]).map .int by simp,FB]
  refine⟨_,_,_,rfl,(C.put (q:=a) b0 b1 d).iff λu v=>(Tied.snoc L u v).symm,λus z=>?_⟩
  rcases List.mem_or_eq_of_mem_set z with h|h
  ·have:=g us h;lia
  ·subst h;simp;lia
 ·rintro e m
  refine exS3 e m λM I tl c=>?_
  have r:=c.1
  have l:=c.2
  clear c m
  rw[D6] at r
  row_cond go
  exact k tl r λus z=>by have:=l us z;lia
end
@[reducible] def tlV (tl:List (List Int)):PyData:=.list ((tlD tl).map .list)
def ZO:VP:=λss Q=>∃(n a:Int)(T:Int->Int->Prop)(tl:List (List Int)),ss=[.st (tlV tl),.st (.int a)]/\n<=100/\TiedL n T tl/\(∀ u v,T u v->0<=v/\v<n)/\0<=a/\a<n/\Q (.own (OL (lab n.toNat (Gr.farO T a))))
section
variable{P:Program}{w:World}{K:Frag}{mg:Str->Option Value}{base:Heap}
theorem sc_far_from:FnScope ["tied","start","far","edge","beyond","place","other"] ["tied","start"] (L0 s_far_from):=by row_cond sc
theorem eF(T:Txt K mg):Can P w K mg base "far_from" 1 ["tied","start"] (spP K (ZO)):=by
 obtain⟨f,fd,D⟩:=T.d_far_from
 obtain⟨U,G⟩:=T.o_Grower
 have C:=G.mgx
 have a6:=T.n_Grower_held _ C
 refine D.can (D.fn.ok sc_far_from (λvs H Q E h=>lenP h λss Q' q=>by obtain⟨n,a,T,tl,rfl,n1,Z,hT,a0,a1,k⟩:=q;rfl) (λcdv A outer s H vs Q E hr h=>?_))
 have nd:=sc_far_from.nd
 refine ⟨_,(G0 (O0 (i:=2) nd rfl (Or.inl rfl) (R0 dM (Q1 (i0 Q5 o0)) (S0 y6 (by rfl) T.b_len K5 (i0 (pv 0) o0))))
  (G0 (y4 q0 (eA (pv 2) (pv 1) F9))
  (G0 (O0 (i:=3) nd rfl (Or.inl rfl) (Q1 (i0 (pv 1) o0)))
  (G0  (SG R3 (TN (pv 3))
   (G0  (O0 (i:=4) nd rfl (Or.inl rfl) (Q1 o0))
    (G0  (k4 R3 rfl (Q4 (pv 3)) (P0 (i:=5) nd rfl (Or.inl rfl))
     (I0  (k4 R3 rfl (Q4 (Y0 W0 (pv 0) (pv 5) (λ_ _=>rfl))) (P0 (i:=6) nd rfl (Or.inl rfl))
       (I0 (U1 (U2 lE (Y0 W0 (pv 2) (pv 6) (λ_ _=>rfl)) Q5 (T1 _))
         (G0 (y4 (R0 u3 (Y0 W0 (pv 2) (pv 5) (λ_ _=>rfl)) q0) (eA (pv 2) (pv 6) F9))
          (I0 (J3 (o5 PySem.F.plainAttrs_list PySem.F.slot_list_append PySem.F.type_list_append z6 (pv 4) (i0 (pv 6) o0)))))
         W1)))))
    (I0 (O0 (i:=3) nd rfl (Or.inl rfl) (pv 4))))))
  (I0 (U0 (pv 2))))))),?_⟩
 refine p3 h λss Q' q B hK=>?_
 refine exS4 ss q λn a T tl b=>?_
 have n1:=b.1
 have Z:=b.2.1
 have hT:=b.2.2.1
 have a0:=b.2.2.2.1
 have a1:=b.2.2.2.2.1
 have k:=b.2.2.2.2.2
 clear b q
 show EvS B _ _ [some (.st (tlV tl)),some (.st (.int a)),none,none,none,none,none]
 have hl:tl.length=n.toNat:=by have:=Z.1;lia
 row_cond go
 refine AO (by first|lia|(simp;done)|(simp;lia)) (by first|lia|(simp;done)|(simp;lia)) (by first|lia|(simp;done)|(simp;lia)) ?_
 simp only[T0,hl]
 rw[show((n.toNat:Nat):Int).toNat=n.toNat by lia,JO]
 row_cond go
 refine aD (j:=a.toNat) rfl (by rw[J8];exact wA a0 (by lia)) ?_
 row_cond qc
 rw[show(PyData.int 0)=.int ((0:Nat):Int) from rfl,eH a0 (by lia)]
 row_cond go
 refine fF 3 rfl T4 ?_
 row_cond qb
 refine ZE (λm e=>∃ v4 M y far edge r,e=[some (.st (tlV tl)),some (.st (.int a)),some (.own (OL (lab n.toNat far))),some (.st (.list (edge.map .int))),v4,M,y]/\Gr.Ring T a r far edge/\(∀ v∈edge,0<=v/\v<n)/\m=2 * cnt far n.toNat+(if edge=[] then 0 else 1))
  ⟨_,none,none,none,_,[a],0,rfl,Gr.Ring.start,λv R=>by simp at R;subst R;exact⟨a0,a1⟩,rfl⟩ ?_
 rintro m e l
 refine exS6 e l λv4 M y far edge r b=>?_
 have W:=b.1
 have hb:=b.2.1
 have X:=b.2.2
 clear b l
 subst X
 row_cond go
 rw[CO]
 cases hedge:edge with
 | nil =>
  subst hedge
  refine M6 ?_
  row_cond go
  rw[IP (g:=Gr.farO T a) λv _ _=>W.fin v]
  exact k
 | cons e0 er =>
  refine U5 ?_
  rw[← hedge]
  have a2:edge ≠ []:=by rw[hedge];simp
  row_cond go
  refine Z6 (λi e=>∃ M y c beyond,e=[some (.st (tlV tl)),some (.st (.int a)),some (.own (OL (lab n.toNat c))),some (.st (.list (edge.map .int))),some (.own (OL (beyond.map .int))),M,y]/\Gr.Mid T r far edge (λu=>u∈edge.take i) c beyond/\cnt c n.toNat+beyond.length=cnt far n.toNat/\∀ v∈beyond,0<=v/\v<n)
   ⟨M,y,far,[],rfl,Gr.Mid.start.imp λu L=>by simp at L,rfl,λv R=>by simp at R⟩ ?_ ?_
  ·rintro i p e hp l
   refine exS4 e l λM y c beyond b=>?_
   have I:=b.1
   have J:=b.2.1
   have o:=b.2.2
   clear b l
   have O:=v2 hp
   obtain⟨p0,p1⟩:=hb p O
   obtain⟨ws,Y,hw⟩:=Z.get p0 p1
   have a7:V0 ((tlD tl).map PyData.list) p=some (.list (ws.map .int)):=P9 (f:=PyData.list) (L5 p0 (k9 Y))
   row_cond go
   have a5:far p=some r:=(W.lab p r).mpr ⟨(W.edg p).mp O,N0 _⟩
   refine Z6 (λj e=>∃ y c beyond,e=[some (.st (tlV tl)),some (.st (.int a)),some (.own (OL (lab n.toNat c))),some (.st (.list (edge.map .int))),some (.own (OL (beyond.map .int))),some (.st (.int p)),y]/\Gr.Mid T r far edge (λu=>u∈edge.take i) c beyond/\cnt c n.toNat+beyond.length=cnt far n.toNat/\(∀ v∈beyond,0<=v/\v<n)/\∀ x∈ws.take j,c x ≠ none)
    ⟨y,c,beyond,rfl,I,J,o,λx N=>by simp at N⟩ ?_ ?_
   ·rintro j u e L l
    refine exS3 e l λy c beyond b=>?_
    have I:=b.1
    have J:=b.2.1
    have o:=b.2.2.1
    have z:=b.2.2.2
    clear b l
    have tu:T p u:=(hw u).mp (v2 L)
    obtain⟨S,u1⟩:=hT _ _ tu
    have a8:V0 (lab n.toNat c) u=some (oD (c u)):=cD S (by lia)
    have a9:V0 (lab n.toNat c) p=some (.int (r:Int)):=by
     rw[cD p0 (by lia),I.old p r a5];rfl
    row_cond go
    rw[uJ]
    cases hf:c u with
    | none =>
     refine U5 ?_
     row_cond go
     refine aD (j:=u.toNat) rfl (by rw[J8];exact wA S (by lia)) ?_
     row_cond qc
     rw[show(PyData.int ((r:Int)+1))=.int ((r+1:Nat):Int) by simp,eH S (by lia)]
     have b1:=Q9 (d:=r+1) S hf (n:=n.toNat) (by lia)
     have a4:beyond.length<=cnt far n.toNat:=by lia
     have a3:∀ m,cnt far m<=m:=λm=>by
      induction m with
      |zero=>exact N0 _
      |succ m ih=>unfold cnt;split <;> lia
     have:=a3 n.toNat
     row_cond go
     refine⟨some (.st (.int u)),Gr.label c u (r+1),beyond++[u],by simp,I.add O tu hf,by simp;lia,λv R=>?_,λx N=>?_⟩
     ·rcases E1.mp R with h|h
      ·exact o v h
      ·have:v=u:=by simpa using h
       subst this;exact⟨S,u1⟩
     ·by_cases hx2:x=u
      ·subst hx2;rw[Gr.label_same];simp
      ·rw[Gr.label_ne hx2]
       rcases S8 L N with h|h
       ·exact z x h
       ·exact absurd h hx2
    | some d =>
     refine M6 ?_
     row_cond go
     refine⟨_,c,beyond,rfl,I,J,o,λx N=>?_⟩
     rcases S8 L N with h|h
     ·exact z x h
     ·subst h;rw[hf];simp
   ·rintro e l
    refine exS3 e l λy c beyond b=>?_
    have I:=b.1
    have J:=b.2.1
    have o:=b.2.2.1
    have z:=b.2.2.2
    clear b l
    rw[D6] at z
    refine⟨_,_,c,beyond,rfl,?_,J,o⟩
    refine(I.did (u:=p) λx tx=>z x ((hw x).mpr tx)).imp λx N=>?_
    exact S8 hp N
  ·rintro e l
   refine exS4 e l λM y c beyond b=>?_
   have I:=b.1
   have J:=b.2.1
   have o:=b.2.2
   clear b l
   row_cond go
   refine⟨_,?_,_,_,_,c,beyond,r+1,rfl,W.next I λu L=>by rw[D6];exact L,o,rfl⟩
   rw[y0 a2]
   cases beyond with
   |nil=>rw[t0 rfl];simp at J;lia
   |cons b0 br=>rw[y0 (by simp)];simp at J;lia
end
def jP:VP:=λss Q=>∃(n a:Int)(es:List (Int × Int)),ss=[.st (webD n es),.st (.int a)]/\0<=a/\a<n/\Q (.st .none)
def LP:VP:=λss Q=>∃(n a:Int)(es:List (Int × Int)),ss=[.st (webD n es),.st (.int a)]/\n<=100/\InN n es/\es.length<=10000/\0<=a/\a<n/\Q (.own (OL (lab n.toNat (Gr.farO (Tied es) a))))
def eQ:VP:=λss Q=>∃(n a b:Int)(es:List (Int × Int)),ss=[.st (webD n es),.st (.int a),.st (.int b)]/\n<=100/\InN n es/\es.length<=10000/\0<=a/\a<n/\0<=b/\b<n/\Q (.st (oD (Gr.farO (Tied es) a b)))
def dN:VP:=λss Q=>∃(n:Int)(es:List (Int × Int)),ss=[.st (webD n es)]/\1<=n/\n<=100/\InN n es/\es.length<=10000/\∀ b:Bool,(b=true ↔ Joined n es)->Q (.st (.bool b))
section
variable{P:Program}{w:World}{K:Frag}{mg:Str->Option Value}{base:Heap}
theorem sc_need_place:FnScope ["web","thing"] ["web","thing"] (L0 s_need_place):=by row_cond sc
theorem lB(T:Txt K mg):Can P w K mg base "need_place" 4 ["web","thing"] (spP K (jP)):=by
 obtain⟨f,fd,D⟩:=T.d_need_place
 obtain⟨g,c⟩:=T.o_Grower
 have b:=c.mgx
 have i:=T.n_Grower_held _ b
 refine D.can (D.fn.ok sc_need_place (λvs H Q E h=>lenP h λss Q' q=>by obtain⟨n,a,es,rfl,a0,a1,k⟩:=q;rfl) (λcdv A outer s H vs Q E j h=>?_))
 have nd:=sc_need_place.nd
 refine⟨_,(I0 (U1 (O3 (L3 (J0 (QB T) j (i0 (Y0 W0 (pv 0) q0 (λ_ _=>rfl)) (i0 (pv 1) o0)))))
   (I0 K9)
   W1)),?_⟩
 refine p3 h λss Q' q B l=>?_
 refine exS3 ss q λn a es d=>?_
 have a0:=d.1
 have a1:=d.2.1
 have k:=d.2.2
 clear d q
 show EvS B _ _ [some (.st (webD n es)),some (.st (.int a))]
 row_cond go
 refine⟨_,_,rfl,?_⟩
 row_cond go
 have e:btwD 0 (n-1) (.int a)=true:=O4 ⟨a0,by lia⟩
 rw[e]
 row_cond go
 exact k
theorem sc_all_far:FnScope ["web","a"] ["web","a"] (L0 s_all_far):=by row_cond sc
theorem YG(T:Txt K mg):Can P w K mg base "all_far" 5 ["web","a"] (spP K (LP)):=by
 obtain⟨f,fd,D⟩:=T.d_all_far
 obtain⟨i,d⟩:=T.o_Grower
 have c:=d.mgx
 have l:=T.n_Grower_held _ c
 refine D.can (D.fn.ok sc_all_far (λvs H Q E h=>lenP h λss Q' q=>by obtain⟨n,a,es,rfl,m,g,j,a0,a1,k⟩:=q;rfl) (λcdv A outer s H vs Q E o h=>?_))
 have nd:=sc_all_far.nd
 refine⟨_,(G0 (J3 (J0 (lB T) o (i0 (pv 0) (i0 (pv 1) o0))))
  (I0 (U0 (J0 (eF T) o (i0 (J0 (WH T) o (i0 (pv 0) o0)) (i0 (pv 1) o0)))))),?_⟩
 refine p3 h λss Q' q B r=>?_
 refine exS3 ss q λn a es b=>?_
 have m:=b.1
 have g:=b.2.1
 have j:=b.2.2.1
 have a0:=b.2.2.2.1
 have a1:=b.2.2.2.2.1
 have k:=b.2.2.2.2.2
 clear b q
 show EvS B _ _ [some (.st (webD n es)),some (.st (.int a))]
 row_cond go
 refine⟨n,a,es,rfl,a0,a1,?_⟩
 row_cond go
 refine⟨n,es,rfl,by lia,m,g,j,λtl p _=>?_⟩
 refine iJ ?_
 row_cond go
 exact⟨n,a,Tied es,tl,rfl,m,p,λu v h=>(h.in g).2,a0,a1,k⟩
theorem sc_how_far:FnScope ["web","a","b"] ["web","a","b"] (L0 s_how_far):=by row_cond sc
theorem LK(T:Txt K mg):Can P w K mg base "how_far" 6 ["web","a","b"] (spP K (eQ)):=by
 obtain⟨f,fd,D⟩:=T.d_how_far
 obtain⟨i,g⟩:=T.o_Grower
 have d:=g.mgx
 have m:=T.n_Grower_held _ d
 refine D.can (D.fn.ok sc_how_far (λvs H Q E h=>lenP h λss Q' q=>by obtain⟨n,a,b,es,rfl,p,j,l,a0,a1,b0,b1,k⟩:=q;rfl) (λcdv A outer s H vs Q E o h=>?_))
 have nd:=sc_how_far.nd
 refine⟨_,(G0 (J3 (J0 (lB T) o (i0 (pv 0) (i0 (pv 1) o0))))
  (G0 (J3 (J0 (lB T) o (i0 (pv 0) (i0 (pv 2) o0))))
  (I0 (U0 (Y0 W0 (J0 (YG T) o (i0 (pv 0) (i0 (pv 1) o0))) (pv 2) (λ_ _=>rfl)))))),?_⟩
 refine p3 h λss Q' q B u=>?_
 refine exS4 ss q λn a b es c=>?_
 have p:=c.1
 have j:=c.2.1
 have l:=c.2.2.1
 have a0:=c.2.2.2.1
 have a1:=c.2.2.2.2.1
 have b0:=c.2.2.2.2.2.1
 have b1:=c.2.2.2.2.2.2.1
 have k:=c.2.2.2.2.2.2.2
 clear c q
 show EvS B _ _ [some (.st (webD n es)),some (.st (.int a)),some (.st (.int b))]
 row_cond go
 refine⟨n,a,es,rfl,a0,a1,?_⟩
 row_cond go
 refine⟨n,b,es,rfl,b0,b1,?_⟩
 row_cond go
 refine⟨n,a,es,rfl,p,j,l,a0,a1,?_⟩
 have r:V0 (lab n.toNat (Gr.farO (Tied es) a)) b=some (oD (Gr.farO (Tied es) a b)):=cD b0 (by lia)
 row_cond go
 exact k
theorem sc_is_joined:FnScope ["web"] ["web"] (L0 s_is_joined):=by row_cond sc
theorem wC(T:Txt K mg):Can P w K mg base "is_joined" 6 ["web"] (spP K (dN)):=by
 obtain⟨f,fd,D⟩:=T.d_is_joined
 obtain⟨g,c⟩:=T.o_Grower
 have b:=c.mgx
 have l:=T.n_Grower_held _ b
 refine D.can (D.fn.ok sc_is_joined (λvs H Q E h=>lenP h λss Q' q=>by obtain⟨n,es,rfl,r,m,i,j,k⟩:=q;rfl) (λcdv A outer s H vs Q E o h=>?_))
 have nd:=sc_is_joined.nd
 refine⟨_,(I0 (U0 (L6 (VF o.units) Q5 (J0 (YG T) o (i0 (pv 0) (i0 q0 o0))) rfl))),?_⟩
 refine p3 h λss Q' q B u=>?_
 refine exS2 ss q λn es a=>?_
 have r:=a.1
 have m:=a.2.1
 have i:=a.2.2.1
 have j:=a.2.2.2.1
 have k:=a.2.2.2.2
 clear a q
 show EvS B _ _ [some (.st (webD n es))]
 row_cond go
 refine⟨n,0,es,rfl,m,i,j,by lia,by lia,?_⟩
 row_cond go
 refine CH rfl IO (by simp[PyData.depth]) ?_
 row_cond go
 refine k _ ?_
 rw[t0 rfl,Bool.not_eq_true',← Bool.not_eq_true,tK]
 constructor
 ·intro h v v0 p
  cases e:Gr.farO (Tied es) 0 v with
  |some d=>exact⟨d,Gr.farO_some.mp e⟩
  |none=>exact absurd ⟨v,v0,by lia,e⟩ h
 ·rintro h ⟨v,v0,p,e⟩
  obtain⟨d,hd⟩:=h v v0 (by lia)
  exact Gr.farO_none.mp e d hd
end
def dsF(es:List (Int × Int))(u v:Int):Int:=(((Gr.farO (Tied es) u v).getD 0:Nat):Int)
def rowD(n:Nat)(r:Int->Int):List PyData:=(List.range n).map λ(i:Nat)=>.int (r (i:Int))
def matD(n:Nat)(m:Int->Int->Int):List PyData:=(List.range n).map λ(u:Nat)=>.list (rowD n (m (u:Int)))
theorem SQ{n:Nat}{m:Int->Int->Int}{x:Int}(a:0<=x)(b:x<n):V0 (matD n m) x=some (.list (rowD n (m x))):=by
 have:=K8 (xs:=matD n m) (j:=x.toNat) (v:=.list (rowD n (m x))) (by
  unfold matD
  rw[o1,X0 (by simp;lia)]
  simp[Int.max_eq_left a])
 rwa [show((x.toNat:Nat):Int)=x by lia] at this
theorem pD{n:Nat}{r:Int->Int}:rowD n r=((List.range n).map λ(i:Nat)=>r (i:Int)).map .int:=by simp[rowD]
theorem aF{n:Int}{es:List (Int × Int)}(f:Joined n es){u v:Int}(a:0<=u)(c:u<n)(v0:0<=v)(g:v<n):∃ d,Gr.farO (Tied es) u v=some d:=by
 cases e:Gr.farO (Tied es) u v with
 |some d=>exact⟨d,rfl⟩
 | none =>
  obtain⟨k,b⟩:=f.conn u v a c v0 g
  obtain⟨d,_,hd⟩:=Gr.Dist.of_walk b
  exact absurd hd (Gr.farO_none.mp e d)
theorem JK{n:Int}{es:List (Int × Int)}(c:Joined n es){u:Int}(a:0<=u)(b:u<n):lab n.toNat (Gr.farO (Tied es) u)=rowD n.toNat (dsF es u):=by
 unfold lab rowD
 refine D8 λi hi=>?_
 obtain⟨d,e⟩:=aF c a b (show 0<=(i:Int) by lia) (by have:=l2.mp hi;lia)
 simp only[dsF,e,oD,Option.getD_some]
theorem z8{α:Type}{K:Frag}{src:List (Option Nat)}{a:En}{te:TE}{R:List PyData->En->Prop}{xs:List α}{f : α->PyData}(g : α->PyData)(j:noIo (D1 src a)=true)(z:xs.length<=999999)
  (h:∀ x∈xs,∀ c:Bs,c.K=K->Ev c te (some (.st (f x))::D1 src a) λy m=>y=g x/\m=some (.st (f x))::D1 src a)
  (q:R (xs.map g) a):LcV K (none::src) (D3 0) tYes te (xs.map f) a R:=by
 have b:noIo (D1 (none::src) a)=true:=by
  show((none::D1 src a).all λs=>!isIo s)=true
  rw[List.all_cons]
  exact(S5 _ _).mpr ⟨rfl,j⟩
 refine⟨λi ys e=>ys=(xs.take i).map g/\∃ o,e=stO o::D1 src a,⟨by simp,none,rfl⟩,?_,?_,?_⟩
 ·rintro i ys e ⟨_,o,rfl⟩
  exact⟨⟨isIo_stO.symm,kA⟩,W9 VA⟩
 ·rintro i d ys e hd ⟨rfl,o,rfl⟩ c w
  rw[o1] at hd
  cases hx:xs[i]? with
  |none=>rw[hx] at hd;cases hd
  | some x =>
   rw[hx] at hd
   cases hd
   have hi:i<xs.length:=(J1.mp hx).1
   have r:xs.take (i+1)=xs.take i++[x]:=by rw[G7,hx];rfl
   refine L4 (SA ?_)
   rw[t0 rfl]
   intro σ G H F Q I k
   refine h x (v2 hx) c w σ G H F Q I λv G' H' F' d' m n g' p ⟨u,l⟩=>k v G' H' F' d' m n g' p ?_
   subst u l
   refine⟨by simp;lia,by rw[r];simp,some _,rfl⟩
 ·rintro ys e ⟨rfl,o,rfl⟩
  rw[xA b]
  simpa using q
theorem LC{ns:List Int}{x y:Int}(h:n6 ns x)(g:n6 ns y):x=y:=Int.le_antisymm (g.2 x h.1) (h.2 y g.1)
theorem QD:∀{ns:List Int},ns ≠ []->∃ x,n6 ns x
 |[a],_=>⟨a,by simp[n6]⟩
 | a::b::r,_=>by
  obtain⟨x,d,hm⟩:=QD (ns:=b::r) (by simp)
  by_cases h:a<=x
  ·exact⟨x,S3 _ d,λy c=>by
    rcases Z0.mp c with rfl|c
    ·exact h
    ·exact hm y c⟩
  ·exact⟨a,T3,λy c=>by
    rcases Z0.mp c with rfl|c
    ·exact Int.le_refl _
    ·have:=hm y c;lia⟩
theorem yD{n:Nat}(b:1<=n)(m:Int->Int->Int):∃ a:Nat->Int,∀ u:Nat,n6 ((List.range n).map λ(i:Nat)=>m (u:Int) (i:Int)) (a u) :=
 ⟨λu=>Classical.choose (QD (ns:=(List.range n).map λ(i:Nat)=>m (u:Int) (i:Int)) (by simp;lia)),λu=>Classical.choose_spec (QD (ns:=(List.range n).map λ(i:Nat)=>m (u:Int) (i:Int)) (by simp;lia))⟩
def KQ:VP:=λss Q=>∃(n:Int)(es:List (Int × Int)),ss=[.st (webD n es)]/\1<=n/\n<=100/\InN n es/\es.length<=10000/\Joined n es/\Q (.st .none)
def iN:VP:=λss Q=>∃(n:Int)(es:List (Int × Int)),ss=[.st (webD n es)]/\1<=n/\n<=100/\InN n es/\es.length<=10000/\Joined n es/\Q (.own (OL (matD n.toNat (dsF es))))
def DC(n:Nat)(m:Int->Int->Int)(x:Int):Prop:=(∃ u v:Int,0<=u/\u<n/\0<=v/\v<n/\m u v=x)/\∀ u v:Int,0<=u->u<n->0<=v->v<n->m u v<=x
def MJ:VP:=λss Q=>∃(n:Nat)(m:Int->Int->Int),ss=[.st (.list (matD n m))]/\1<=n/\n<=1000/\∀ x,DC n m x->Q (.st (.int x))
structure FreeAll(n:Int)(es fs:List (Int × Int)):Prop where
 mem:∀ p:Int × Int,p∈fs ↔ (0<=p.1/\p.1<p.2/\p.2<n/\p ∉ es)
 rise:Rise fs
section
variable{P:Program}{w:World}{K:Frag}{mg:Str->Option Value}{base:Heap}
theorem sc_need_joined:FnScope ["web"] ["web"] (L0 s_need_joined):=by row_cond sc
theorem kQ(T:Txt K mg):Can P w K mg base "need_joined" 7 ["web"] (spP K (KQ)):=by
 obtain⟨f,fd,D⟩:=T.d_need_joined
 obtain⟨g,d⟩:=T.o_Grower
 have c:=d.mgx
 have l:=T.n_Grower_held _ c
 refine D.can (D.fn.ok sc_need_joined (λvs H Q E h=>lenP h λss Q' q=>by obtain⟨n,es,rfl,o,m,i,j,p,k⟩:=q;rfl) (λcdv A outer s H vs Q E r h=>?_))
 have nd:=sc_need_joined.nd
 refine⟨_,(I0 (U1 (O3 (L3 (J0 (wC T) r (i0 (pv 0) o0))))
   (I0 K9)
   W1)),?_⟩
 refine p3 h λss Q' q B u=>?_
 refine exS2 ss q λn es a=>?_
 have o:=a.1
 have m:=a.2.1
 have i:=a.2.2.1
 have j:=a.2.2.2.1
 have p:=a.2.2.2.2.1
 have k:=a.2.2.2.2.2
 clear a q
 show EvS B _ _ [some (.st (webD n es))]
 row_cond go
 refine⟨n,es,rfl,o,m,i,j,λb hb=>?_⟩
 have:b=true:=hb.mpr p
 subst this
 row_cond go
 exact k
theorem sc_far_rows:FnScope ["web","tied"] ["web"] (L0 s_far_rows):=by row_cond sc
theorem yI(T:Txt K mg):Can P w K mg base "far_rows" 8 ["web"] (spP K (iN)):=by
 obtain⟨f,fd,D⟩:=T.d_far_rows
 obtain⟨j,c⟩:=T.o_Grower
 have b:=c.mgx
 have m:=T.n_Grower_held _ b
 refine D.can (D.fn.ok sc_far_rows (λvs H Q E h=>lenP h λss Q' q=>by obtain⟨n,es,rfl,z,l,d,g,r,k⟩:=q;rfl) (λcdv A outer s H vs Q E x h=>?_))
 have nd:=sc_far_rows.nd
 refine⟨_,(G0 (J3 (J0 (kQ T) x (i0 (pv 0) o0)))
  (G0 (O0 (i:=1) nd rfl (Or.inr rfl) (J0 (WH T) x (i0 (pv 0) o0)))
  (I0 (U0 (O5 rfl (N:=["place","tied"]) (src:=[none,some 1]) (by exact Z4 rfl rfl rfl rfl rfl rfl) (z5 rfl T.b_range (i0 (S0 y6 (by rfl) T.b_len K5 (i0 (pv 1) o0)) o0)) (λ_ _ _ _=>(P0 (i:=0) (show List.Nodup (["place","tied"]:List Str) by decide +kernel) rfl (Or.inl rfl) (hf:=Or.inr rfl))) (λ_ _ _ _=>u5) (λ_ _ _ _=>(J0 (eF T) x (i0 (pv 1) (i0 (pv 0) o0))))))))),?_⟩
 refine p3 h λss Q' q B G=>?_
 refine exS2 ss q λn es a=>?_
 have z:=a.1
 have l:=a.2.1
 have d:=a.2.2.1
 have g:=a.2.2.2.1
 have r:=a.2.2.2.2.1
 have k:=a.2.2.2.2.2
 clear a q
 show EvS B _ _ [some (.st (webD n es)),none]
 row_cond go
 refine⟨n,es,rfl,z,l,d,g,r,?_⟩
 row_cond go
 refine⟨n,es,rfl,by lia,l,d,g,λtl y _=>?_⟩
 refine R7 ZB ?_
 have C:tl.length=n.toNat:=by have:=y.1;lia
 have o:((tlD tl).map PyData.list).length=n.toNat:=by simp[tlD,C]
 row_cond go
 rw[o,show(((n.toNat:Nat):Int)).toNat=n.toNat by lia]
 unfold rngD
 refine z8 (λu:Nat=>.list (rowD n.toNat (dsF es (u:Int)))) rfl (by simp;lia) (λu F J I=>?_) ?_
 ·have p:(u:Int)<n:=by have:=l2.mp F;lia
  row_cond go
  refine⟨n,0+(u:Int),Tied es,tl,rfl,l,y,λu v h=>(h.in d).2,by lia,by lia,W4 ⟨?_,rfl⟩⟩
  rw[Int.zero_add,JK r (by lia) p]
 ·row_cond go
  exact k
theorem sc_most_far:FnScope ["rows"] ["rows"] (L0 s_most_far):=by row_cond sc
theorem bO(T:Txt K mg):Can P w K mg base "most_far" 1 ["rows"] (spP K (MJ)):=by
 obtain⟨f,fd,D⟩:=T.d_most_far
 obtain⟨g,b⟩:=T.o_Grower
 have a:=b.mgx
 have p:=T.n_Grower_held _ a
 refine D.can (D.fn.ok sc_most_far (λvs H Q E h=>lenP h λss Q' q=>by obtain⟨n,m,rfl,r,y,k⟩:=q;rfl) (λcdv A outer s H vs Q E R h=>?_))
 have nd:=sc_most_far.nd
 refine⟨_,(I0 (U0 (S0 (Z8 rfl) (by rfl) T.b_max p5 (i0 (O5 rfl (N:=["row"]) (src:=[none]) (by exact Z4 rfl rfl rfl rfl rfl rfl) (Q4 (pv 0)) (λ_ _ _ _=>(P0 (i:=0) (show List.Nodup (["row"]:List Str) by decide +kernel) rfl (Or.inl rfl) (hf:=Or.inr rfl))) (λ_ _ _ _=>u5) (λ_ _ _ _=>(S0 (show M2 _ (.builtin "max") (F7 K) from(Z8 rfl)) (by rfl) T.b_max p5 (i0 (pv 0) o0)))) o0)))),?_⟩
 refine p3 h λss Q' q B I=>?_
 refine exS2 ss q λn m c=>?_
 have r:=c.1
 have y:=c.2.1
 have k:=c.2.2
 clear c q
 show EvS B _ _ [some (.st (.list (matD n m)))]
 obtain⟨l,d⟩:=yD r m
 row_cond go
 unfold matD
 refine z8 (λu:Nat=>.int (l u)) rfl (by simp;lia) (λu S O J=>?_) ?_
 ·row_cond go
  rw[pD]
  exact O9 (by simp;lia) λx o=>⟨by rw[LC o (d u)],rfl⟩
 ·row_cond go
  rw[show(List.range n).map (λu:Nat=>PyData.int (l u))=((List.range n).map l).map .int by rw[U3];rfl]
  refine O9 (by simp;lia) λx o=>?_
  row_cond go
  refine k x ⟨?_,λu v L F v0 G=>?_⟩
  ·obtain⟨i,hi,e⟩:=P1.mp o.1
   obtain⟨j,z,e2⟩:=P1.mp (d i).1
   exact⟨i,j,by lia,by have:=l2.mp hi;lia,by lia,by have:=l2.mp z;lia,e2.trans e⟩
  ·have C:=(d u.toNat).2 (m ((u.toNat:Nat):Int) ((v.toNat:Nat):Int)) (P1.mpr ⟨v.toNat,l2.mpr (by lia),rfl⟩)
   have M:=o.2 (l u.toNat) (P1.mpr ⟨u.toNat,l2.mpr (by lia),rfl⟩)
   rw[show((u.toNat:Nat):Int)=u by lia,show((v.toNat:Nat):Int)=v by lia] at C
   lia
end
structure FarOk(n:Int)(es:List (Int × Int))(x a b:Int):Prop where
 top:DC n.toNat (dsF es) x
 a0:0<=a
 a1:a<n
 b0:0<=b
 b1:b<n
 eq:dsF es a b=x
 fst:∀ u v:Int,0<=u->u<n->0<=v->v<n->dsF es u v=x->a<u\/(a=u/\b<=v)
def kP:VP:=λss Q=>∃(n:Int)(es:List (Int × Int)),ss=[.st (webD n es)]/\1<=n/\n<=100/\InN n es/\es.length<=10000/\Joined n es/\∀ x a b,FarOk n es x a b->Q (.st (.tuple [.int x,.int a,.int b]))
theorem WG{ns:List Int}{k:Int}(h:k∈ns):∃ j:Nat,ns[j]?=some k/\∀ m:Nat,m<j->ns[m]? ≠ some k:=by
 induction ns with
 |nil=>simp at h
 | cons n ns ih =>
  by_cases e:n=k
  ·exact⟨0,by rw[e];rfl,λm hm=>by lia⟩
  ·obtain⟨j,b,a⟩:=ih ((Z0.mp h).resolve_left λz=>e z.symm)
   refine⟨j+1,b,λm hm=>?_⟩
   cases m with
   |zero=>simpa using e
   |succ m=>exact a m (by lia)
section
variable{P:Program}{w:World}{K:Frag}{mg:Str->Option Value}{base:Heap}
theorem sc_farthest_two:FnScope ["web","rows","far","a"] ["web"] (L0 s_farthest_two):=by row_cond sc
theorem KI(T:Txt K mg):Can P w K mg base "farthest_two" 9 ["web"] (spP K (kP)):=by
 obtain⟨f,fd,D⟩:=T.d_farthest_two
 obtain⟨r,m⟩:=T.o_Grower
 have l:=m.mgx
 have O:=T.n_Grower_held _ l
 refine D.can (D.fn.ok sc_farthest_two (λvs H Q E h=>lenP h λss Q' q=>by obtain⟨n,es,rfl,n0,Z,y,z,hJ,k⟩:=q;rfl) (λcdv A outer s H vs Q E hr h=>?_))
 have nd:=sc_farthest_two.nd
 refine⟨_,(G0 (O0 (i:=1) nd rfl (Or.inl rfl) (J0 (yI T) hr (i0 (pv 0) o0)))
  (G0 (O0 (i:=2) nd rfl (Or.inl rfl) (J0 (bO T) hr (i0 (pv 1) o0)))
  (G0 (O0 (i:=3) nd rfl (Or.inl rfl) (o5 PySem.F.plainAttrs_list PySem.F.slot_list_index PySem.F.type_list_index UF (O5 rfl (N:=["row"]) (src:=[none]) (by exact Z4 rfl rfl rfl rfl rfl rfl) (Q4 (pv 1)) (λ_ _ _ _=>(P0 (i:=0) (show List.Nodup (["row"]:List Str) by decide +kernel) rfl (Or.inl rfl) (hf:=Or.inr rfl))) (λ_ _ _ _=>u5) (λ_ _ _ _=>(S0 (show M2 _ (.builtin "max") (F7 K) from(Z8 rfl)) (by rfl) T.b_max p5 (i0 (pv 0) o0)))) (i0 (pv 2) o0)))
  (I0 (U0 (R1 (i0 (pv 2) (i0 (pv 3) (i0 (o5 PySem.F.plainAttrs_list PySem.F.slot_list_index PySem.F.type_list_index UF (Y0 W0 (pv 1) (pv 3) (λ_ _=>rfl)) (i0 (pv 2) o0)) o0))))))))),?_⟩
 refine p3 h λss Q' q B hK=>?_
 refine exS2 ss q λn es c=>?_
 have n0:=c.1
 have Z:=c.2.1
 have y:=c.2.2.1
 have z:=c.2.2.2.1
 have hJ:=c.2.2.2.2.1
 have k:=c.2.2.2.2.2
 clear c q
 show EvS B _ _ [some (.st (webD n es)),none,none,none]
 have hn:1<=n.toNat:=by lia
 obtain⟨G,d⟩:=yD hn (dsF es)
 row_cond go
 refine⟨n,es,rfl,n0,Z,y,z,hJ,R7 T4 ?_⟩
 row_cond go
 refine⟨n.toNat,dsF es,rfl,hn,by lia,λx C=>?_⟩
 have J:x∈(List.range n.toNat).map G:=by
  obtain⟨⟨u,v,I,u1,v0,v1,e⟩,g⟩:=C
  refine P1.mpr ⟨u.toNat,l2.mpr (by lia),?_⟩
  have M:=(d u.toNat).2 (dsF es ((u.toNat:Nat):Int) ((v.toNat:Nat):Int)) (P1.mpr ⟨v.toNat,l2.mpr (by lia),rfl⟩)
  rw[show((u.toNat:Nat):Int)=u by lia,show((v.toNat:Nat):Int)=v by lia,e] at M
  obtain⟨j,X,e2⟩:=P1.mp (d u.toNat).1
  have:=g u j I u1 (by lia) (by have:=l2.mp X;lia)
  rw[show((u.toNat:Nat):Int)=u by lia] at e2
  lia
 obtain⟨a,ha,p⟩:=WG J
 have U:a<n.toNat:=by have:=(J1.mp ha).1;simpa using this
 have L:G a=x:=by
  rw[o1,F8 U] at ha
  simpa using ha
 have W:x∈(List.range n.toNat).map λ(i:Nat)=>dsF es (a:Int) (i:Int):=by rw[← L];exact(d a).1
 obtain⟨b,hb,o⟩:=WG W
 have Y:b<n.toNat:=by have:=(J1.mp hb).1;simpa using this
 have R:dsF es (a:Int) (b:Int)=x:=by
  rw[o1,F8 Y] at hb
  simpa using hb
 have a0:V0 (matD n.toNat (dsF es)) (a:Int)=some (.list (rowD n.toNat (dsF es (a:Int)))):=SQ (by lia) (by lia)
 row_cond go
 unfold matD
 refine z8 (λu:Nat=>.int (G u)) rfl (by simp;lia) (λu hu B' hB=>?_) ?_
 ·row_cond go
  rw[pD]
  exact O9 (by simp;lia) λx C=>⟨by rw[LC C (d u)],rfl⟩
 ·refine⟨(List.range n.toNat).map G,by rw[U3];rfl,?_⟩
  row_cond go
  refine⟨x,a,rfl,ha,p,?_⟩
  row_cond go
  refine⟨(List.range n.toNat).map λ(i:Nat)=>dsF es (a:Int) (i:Int),by rw[pD],?_⟩
  row_cond go
  refine⟨x,b,rfl,hb,o,?_⟩
  row_cond go
  refine k x a b ⟨C,by lia,by lia,by lia,by lia,R,λu v I u1 v0 v1 e=>?_⟩
  have hu:(a:Int)<=u:=by
   apply MA
   intro S
   refine p u.toNat (by lia) ?_
   rw[o1,F8 (by lia)]
   have M:=(d u.toNat).2 (dsF es ((u.toNat:Nat):Int) ((v.toNat:Nat):Int)) (P1.mpr ⟨v.toNat,l2.mpr (by lia),rfl⟩)
   rw[show((u.toNat:Nat):Int)=u by lia,show((v.toNat:Nat):Int)=v by lia,e] at M
   obtain⟨j,X,e2⟩:=P1.mp (d u.toNat).1
   have:=C.2 u j I (by lia) (by lia) (by have:=l2.mp X;lia)
   rw[show((u.toNat:Nat):Int)=u by lia] at e2
   simp only[m6,Option.some.injEq]
   lia
  by_cases hau:(a:Int)<u
  ·exact .inl hau
  ·refine .inr ⟨by lia,?_⟩
   apply MA
   intro S
   refine o v.toNat (by lia) ?_
   rw[o1,F8 (by lia)]
   simp only[m6,Option.some.injEq]
   rw[show((v.toNat:Nat):Int)=v by lia,show(a:Int)=u by lia]
   exact e
end
def X4(n:Int):PyData->Bool
 | .tuple [.int a,.int b]=>decide (0<=a/\a<=n-1) && decide (0<=b/\b<=n-1) && decide (a<b)
 |_=>false
def O8(n:Int):PyData->Bool
 | .list ds=>ds.all (X4 n)
 |_=>false
def tO:VP:=λss Q=>∃(n:Int)(d:PyData),ss=[.st (.int n),.st d]/\Q (.st (.bool (X4 n d)))
def YJ:VP:=λss Q=>∃(n:Int)(d:PyData),ss=[.st (.int n),.st d]/\(∀ ds,d=.list ds->ds.length<=100000)/\Q (.st (.bool (O8 n d)))
def iI:VP:=λss Q=>∃(ps:List (Int × Int)),ss=[.st (.list (ps.map prD))]/\ps.length<=100000/\∀ b:Bool,(b=true ↔ Rise ps)->Q (.st (.bool b))
structure PutOk(n:Int)(es fs:List (Int × Int)):Prop where
 inn:∀ p∈fs,0<=p.1/\p.1<p.2/\p.2<n
 nd:(es++fs).Nodup
def PJ:VP:=λss Q=>∃(n:Int)(es fs:List (Int × Int)),ss=[.st (webD n es),.st (.list (fs.map prD))]/\es.length<=10000/\fs.length<=10000/\PutOk n es fs/\∀ qs,Rise qs->qs.Perm (es++fs)->Q (.own (OW (.int n) (qs.map prD)))
section
variable{P:Program}{w:World}{K:Frag}{mg:Str->Option Value}{base:Heap}
theorem sc_is_tie:FnScope ["n","thing","a","b"] ["n","thing"] (L0 s_is_tie):=by row_cond sc
theorem LM (T:Txt K mg):Can P w K mg base "is_tie" 4 ["n","thing"] (spP K (tO)):=by
 obtain⟨f,fd,D⟩:=T.d_is_tie
 obtain⟨l,j⟩:=T.o_Grower
 have g:=j.mgx
 have o:=T.n_Grower_held _ g
 refine D.can (D.fn.ok sc_is_tie (λvs H Q E h=>lenP h λss Q' q=>by obtain⟨n,d,rfl,k⟩:=q;rfl) (λcdv A outer s H vs Q E r h=>?_))
 have nd:=sc_is_tie.nd
 refine⟨_,(G0 (U1 (PW.pt (vC (O3 (L3 (S0 fB (by rfl) T.b_isinstance w5 (i0 (pv 1) (i0 (y9 (v:=.ty "tuple") rfl T.b_tuple BN rfl) o0))))) (ZC (U2 JD (S0 y6 (by rfl) T.b_len K5 (i0 (pv 1) o0)) q0 (T1 _)))))
   (I0 (U0 u4))
   W1)
  (G0 (y4 (pv 1) (K4 rfl (E2 (P0 (i:=2) nd rfl (Or.inl rfl)) (E2 (P0 (i:=3) nd rfl (Or.inl rfl)) D4))))
  (I0 (U0 (n8 (J0 (QB T) r (i0 (pv 0) (i0 (pv 2) o0))) (n8 (J0 (QB T) r (i0 (pv 0) (i0 (pv 3) o0))) (v9 (L6 BB (pv 2) (pv 3) (T1 _))))))))),?_⟩
 refine p3 h λss Q' q B u=>?_
 refine exS2 ss q λn d m=>?_
 have k:=m
 clear m q
 show EvS B _ _ [some (.st (.int n)),some (.st d),none,none]
 row_cond go
 cases d with
 | tuple xs =>
  refine XC ?_
  row_cond go
  rcases(show xs.length=2\/xs.length ≠ 2 by lia) with p|p
  ·match xs,p with
   | [x,y],_ =>
    row_cond go
    refine⟨n,x,rfl,?_⟩
    row_cond go
    have c:X4 n (.tuple [x,y])=(btwD 0 (n-1) x && (btwD 0 (n-1) y && match x,y with | .int a,.int b=>decide (a<b)|_,_=>false)):=by
     cases x <;> cases y <;> simp[X4,btwD,Bool.and_assoc]
    cases hx:btwD 0 (n-1) x with
    | false =>
     rw[hx,Bool.false_and] at c
     refine M6 ?_
     rw[← c];exact k
    | true =>
     refine U5 ?_
     row_cond go
     refine⟨n,y,rfl,?_⟩
     row_cond go
     cases hy:btwD 0 (n-1) y with
     | false =>
      rw[hx,hy] at c
      refine M6 ?_
      rw[show false=X4 n (.tuple [x,y]) by rw[c];rfl];exact k
     | true =>
      refine U5 ?_
      cases x with
      | int a =>
       cases y with
       | int b =>
        row_cond go
        rw[hx,hy] at c
        rw[show decide (a<b)=X4 n (.tuple [.int a,.int b]) by rw[c];rfl];exact k
       |_=>simp[btwD] at hy
      |_=>simp[btwD] at hx
  ·row_cond go
   have:X4 n (.tuple xs)=false:=by
    match xs,p with
    |[],_=>rfl
    |[x],_=>cases x <;> rfl
    |[_,_],h=>exact absurd rfl h
    |x::y::_::_,_=>cases x <;> cases y <;> rfl
   rw[← this];exact k
 | _ =>
  refine TD ?_
  row_cond go
  exact k
theorem sc_are_ties:FnScope ["n","thing"] ["n","thing"] (L0 s_are_ties):=by row_cond sc
theorem bI(T:Txt K mg):Can P w K mg base "are_ties" 5 ["n","thing"] (spP K (YJ)):=by
 obtain⟨f,fd,D⟩:=T.d_are_ties
 obtain⟨g,b⟩:=T.o_Grower
 have a:=b.mgx
 have j:=T.n_Grower_held _ a
 refine D.can (D.fn.ok sc_are_ties (λvs H Q E h=>lenP h λss Q' q=>by obtain⟨n,d,rfl,l,k⟩:=q;rfl) (λcdv A outer s H vs Q E m h=>?_))
 have nd:=sc_are_ties.nd
 refine⟨_,(I0 (U0 (n8 (S0 fB (by rfl) T.b_isinstance w5 (i0 (pv 1) (i0 (y9 (v:=.ty "list") rfl T.b_list I9 rfl) o0))) (v9 (S0 (FH rfl) (by rfl) T.b_all fI (i0 (O5 rfl (N:=["tie","n"]) (src:=[none,some 0]) (by exact Z4 rfl rfl rfl rfl rfl rfl) (Q4 (pv 1)) (λ_ _ _ _=>(P0 (i:=0) (show List.Nodup (["tie","n"]:List Str) by decide +kernel) rfl (Or.inl rfl) (hf:=Or.inr rfl))) (λ_ _ _ _=>u5) (λ_ _ _ _=>(J0 (LM T) m (i0 (pv 1) (i0 (pv 0) o0))))) o0)))))),?_⟩
 refine p3 h λss Q' q B o=>?_
 refine exS2 ss q λn d c=>?_
 have l:=c.1
 have k:=c.2
 clear c q
 show EvS B _ _ [some (.st (.int n)),some (.st d)]
 row_cond go
 cases d with
 | list ds =>
  have l:=l ds rfl
  refine U5 ?_
  row_cond go
  refine QH (λt=>.bool (X4 n t)) rfl (by lia) (λt _ r p=>?_) ?_
  ·row_cond go
   exact⟨n,t,rfl,rfl,rfl⟩
  ·row_cond go
   rw[show(ds.map λt=>PyData.bool (X4 n t))=(ds.map (X4 n)).map .bool by rw[U3];rfl]
   refine hG ?_
   row_cond go
   rw[show(ds.map (X4 n)).all id=O8 n (.list ds) by simp[O8,List.all_map]]
   exact k
 | _ =>
  refine M6 ?_
  exact k
theorem sc_is_rising:FnScope ["things"] ["things"] (L0 s_is_rising):=by row_cond sc
theorem cG(T:Txt K mg):Can P w K mg base "is_rising" 1 ["things"] (spP K (iI)):=by
 obtain⟨f,fd,D⟩:=T.d_is_rising
 obtain⟨j,b⟩:=T.o_Grower
 have a:=b.mgx
 have m:=T.n_Grower_held _ a
 refine D.can (D.fn.ok sc_is_rising (λvs H Q E h=>lenP h λss Q' q=>by obtain⟨ps,rfl,u,k⟩:=q;rfl) (λcdv A outer s H vs Q E r h=>?_))
 have nd:=sc_is_rising.nd
 refine⟨_,(I0 (U0 (S0 (FH rfl) (by rfl) T.b_all fI (i0 (O5 rfl (N:=["at","things"]) (src:=[none,some 0]) (by exact Z4 rfl rfl rfl rfl rfl rfl) (z5 rfl T.b_range (i0 (R0 p7 (S0 y6 (by rfl) T.b_len K5 (i0 (pv 0) o0)) q0) o0)) (λ_ _ _ _=>(P0 (i:=0) (show List.Nodup (["at","things"]:List Str) by decide +kernel) rfl (Or.inl rfl) (hf:=Or.inr rfl))) (λ_ _ _ _=>u5) (λ_ _ _ _=>(L6 (show OpR _ (compareOp .Lt) (rLtT K) from AN r.units0) (Y0 (show IxR _ (V5 K) from W0) (pv 1) (pv 0) (λ_ _=>rfl)) (Y0 (show IxR _ (V5 K) from W0) (pv 1) (R0 u3 (pv 0) q0) (λ_ _=>rfl)) (T1 _)))) o0)))),?_⟩
 refine p3 h λss Q' q B v=>?_
 refine exS1 ss q λps c=>?_
 have u:=c.1
 have k:=c.2
 clear c q
 show EvS B _ _ [some (.st (.list (ps.map prD)))]
 row_cond go
 rw[T0]
 row_cond go
 refine QH (λd=>match d with | .int i=>.bool (match ps[i.toNat]?,ps[i.toNat+1]? with|some p,some q=>HT.lexLt (p2 p) (p2 q)|_,_=>false)|_=>.none) rfl (by rw[R8];lia) (λd hd y x=>?_) ?_
 ·obtain⟨i,hi⟩:=List.mem_iff_getElem?.mp hd
  obtain⟨hi,rfl⟩:=GC hi
  have o:i<ps.length:=by lia
  have n:i+1<ps.length:=by lia
  have a1:V0 (ps.map prD) (0+(i:Int))=some (prD ps[i]):=P9 (f:=prD) (L5 (by lia) (by rw[show(0+(i:Int)).toNat=i by lia];exact X0 o))
  have z:V0 (ps.map prD) (0+(i:Int)+1)=some (prD ps[i+1]):=P9 (f:=prD) (L5 (by lia) (by rw[show(0+(i:Int)+1).toNat=i+1 by lia];exact X0 n))
  row_cond go
  refine ZK ?_
  row_cond go
  refine⟨?_,rfl⟩
  simp[o,n]
 ·row_cond go
  have e:(rngD 0 ((ps.length:Int)-1).toNat).map (λd=>match d with | .int i=>PyData.bool (match ps[i.toNat]?,ps[i.toNat+1]? with|some p,some q=>HT.lexLt (p2 p) (p2 q)|_,_=>false)|_=>.none)=((List.range (ps.length-1)).map λi=>match ps[i]?,ps[i+1]? with|some p,some q=>HT.lexLt (p2 p) (p2 q)|_,_=>false).map .bool:=by
   unfold rngD
   rw[U3,U3,show((ps.length:Int)-1).toNat=ps.length-1 by lia]
   apply D8
   intro i _
   simp
  rw[e]
  refine hG ?_
  row_cond go
  refine k _ ?_
  rw[List.all_map,P6]
  unfold Rise
  rw[eR ltP (λh g=>NG h g)]
  constructor
  ·intro h i hi
   have:=h i (l2.mpr (by lia))
   simp[show i<ps.length by lia,hi] at this
   exact(lex2 _ _).mp this
  ·intro h i hi
   have l:i+1<ps.length:=by have:=l2.mp hi;lia
   have:=(lex2 _ _).mpr (h i l)
   simp[show i<ps.length by lia,l,this]
theorem sc_with_ties:FnScope ["web","ties","n","there","every"] ["web","ties"] (L0 s_with_ties):=by row_cond sc
theorem WF(T:Txt K mg):Can P w K mg base "with_ties" 6 ["web","ties"] (spP K (PJ)):=by
 obtain⟨f,fd,D⟩:=T.d_with_ties
 obtain⟨g,d⟩:=T.o_Grower
 have c:=d.mgx
 have m:=T.n_Grower_held _ c
 refine D.can (D.fn.ok sc_with_ties (λvs H Q E h=>lenP h λss Q' q=>by obtain⟨n,es,fs,rfl,u,v,o,k⟩:=q;rfl) (λcdv A outer s H vs Q E l h=>?_))
 have nd:=sc_with_ties.nd
 refine⟨_,(G0 (y4 (pv 0) (K4 rfl (E2 (P0 (i:=2) nd rfl (Or.inl rfl)) (E2 (P0 (i:=3) nd rfl (Or.inl rfl)) D4))))
  (G0 (U1 (O3 (L3 (J0 (bI T) l (i0 (pv 2) (i0 (pv 1) o0)))))
   (I0 K9)
   W1)
  (G0 (O0 (i:=4) nd rfl (Or.inl rfl) (S0 pA (by rfl) T.b_sorted I8 (i0 (R0 O6 (pv 3) (pv 1)) o0)))
  (G0 (U1 (O3 (L3 (J0 (cG T) l (i0 (pv 4) o0))))
   (I0 K9)
   W1)
  (I0 (U0 (R1 (i0 (pv 2) (i0 (pv 4) o0))))))))),?_⟩
 refine p3 h λss Q' q B x=>?_
 refine exS3 ss q λn es fs a=>?_
 have u:=a.1
 have v:=a.2.1
 have o:=a.2.2.1
 have k:=a.2.2.2
 clear a q
 show EvS B _ _ [some (.st (webD n es)),some (.st (.list (fs.map prD))),none,none,none]
 row_cond go
 refine⟨n,_,rfl,λds e=>by cases e;rw[T0];lia,?_⟩
 row_cond go
 have r:O8 n (.list (fs.map prD))=true:=by
  show((fs.map prD).all (X4 n))=true
  rw[List.all_map,P6]
  intro p j
  have:=o.inn p j
  simp[X4,prD];lia
 rw[r]
 row_cond go
 refine oA (ps:=es++fs) ?_
 row_cond go
 rw[← w4]
 refine⟨rfl,λqs j hs=>?_⟩
 have l:Rise qs:=TC j o.nd hs
 refine L4 ?_
 row_cond qb
 try refine' OA (by assumption) ?_
 refine vD (UD (dC (gB (MG (.inl rfl) (YC ⟨_,_,.inl rfl,T4,qs,rfl,by rw[j.length_eq,Q3];lia,λb hb=>?_⟩)))))
 row_cond go
 rw[hb.mpr l]
 row_cond go
 exact k qs l j
end
def EN:VP:=λss Q=>∃(a b c:Int),ss=[.st (.int a),.st (.int b),.st (.int c)]/\a<=c/\c<=b/\Q (.st .none)
section
variable{P:Program}{w:World}{K:Frag}{mg:Str->Option Value}{base:Heap}
theorem sc_need_number:FnScope ["least","most","thing"] ["least","most","thing"] (L0 s_need_number):=by row_cond sc
theorem QK(T:Txt K mg):Can P w K mg base "need_number" 3 ["least","most","thing"] (spP K (EN)):=by
 obtain⟨f,fd,D⟩:=T.d_need_number
 obtain⟨j,g⟩:=T.o_Grower
 have d:=g.mgx
 have l:=T.n_Grower_held _ d
 refine D.can (D.fn.ok sc_need_number (λvs H Q E h=>lenP h λss Q' q=>by obtain⟨a,b,c,rfl,o,m,k⟩:=q;rfl) (λcdv A outer s H vs Q E n h=>?_))
 have nd:=sc_need_number.nd
 refine⟨_,(I0 (U1 (O3 (L3 (J0 (pC T) n (i0 (pv 0) (i0 (pv 1) (i0 (pv 2) o0))))))
   (I0 K9)
   W1)),?_⟩
 refine p3 h λss Q' q B p=>?_
 refine exS3 ss q λa b c i=>?_
 have o:=i.1
 have m:=i.2.1
 have k:=i.2.2
 clear i q
 show EvS B _ _ [some (.st (.int a)),some (.st (.int b)),some (.st (.int c))]
 row_cond go
 refine⟨a,b,.int c,rfl,?_⟩
 have:btwD a b (.int c)=true:=by simp[btwD];lia
 rw[this]
 row_cond go
 exact k
end
def FarN(n:Int)(es:List (Int × Int))(d:PyData):Prop:=(Joined n es/\∃ x,DC n.toNat (dsF es) x/\d=.int x)\/(¬ Joined n es/\d=.none)
structure GW(n:Int)(es:List (Int × Int)):Prop where
 lo:1<=n
 hi:n<=61
 inn:InN n es
 len:es.length<=4000
def SO:VP:=λss Q=>∃(n:Int)(es:List (Int × Int)),ss=[.st (webD n es)]/\GW n es/\∀ d,FarN n es d->Q (.st d)
abbrev gF(n:Int)(es:List (Int × Int)):List (Str × PyData):=[("held",webD n es)]
def jN(mg:Str->Option Value):VIo:=λA ss Q=>∃(C:Addr)(n:Int)(es:List (Int × Int)),mg "Grower" = some (.ref C)/\A=OI C []/\ss=[.st (webD n es)]/\Q (OGW C "held" (.int n) (es.map prD)) (.st .none)
def aN(mg:Str->Option Value):VIo:=λA ss Q=>∃(C:Addr)(n m:Int)(es qs:List (Int × Int)),mg "Grower" = some (.ref C)/\A=OI C (gF n es)/\ss=[.st (webD m qs)]/\GW n es/\GW m qs/\∀ d0 d1,FarN n es d0->FarN m qs d1->Q (OI C (gF m qs)) (.st (.tuple [d0,d1]))
def uN(mg:Str->Option Value):VIo:=λA ss Q=>∃(C:Addr)(n a:Int)(es:List (Int × Int)),mg "Grower" = some (.ref C)/\A=OI C (gF n es)/\ss=[.st (.int a)]/\GW n es/\n<60/\PsOk n es/\es.length<=2500/\0<=a/\a<n/\∀ qs d0 d1,Rise qs->qs.Perm (es++[(a,n)])->FarN n es d0->FarN (n+1) qs d1->Q (OI C (gF (n+1) qs)) (.st (.tuple [d0,d1]))
def nN(mg:Str->Option Value):VIo:=λA ss Q=>∃(C:Addr)(n a b:Int)(es:List (Int × Int)),mg "Grower" = some (.ref C)/\A=OI C (gF n es)/\ss=[.st (.int a),.st (.int b)]/\GW n es/\PutOk n es [(a,b)]/\es.length<=2500/\∀ qs d0 d1,Rise qs->qs.Perm (es++[(a,b)])->FarN n es d0->FarN n qs d1->Q (OI C (gF n qs)) (.st (.tuple [d0,d1]))
theorem MF{n m a b:Int}{es qs:List (Int × Int)}(h:GW n es)(hm:n<=m)(c:m<=61)(o:es.length<=2500)(i:0<=a)(l:a<m)(f:0<=b)(g:b<m)(d:qs.Perm (es++[(a,b)])):GW m qs :=
 ⟨by have:=h.lo;lia,c,λp j=>by
  rcases E1.mp (d.mem_iff.mp j) with z|z
  ·have:=h.inn p z
   exact⟨by lia,by lia,by lia,by lia⟩
  ·cases N2.mp z
   exact⟨i,l,f,g⟩,by rw[d.length_eq,Q3];simp;lia⟩
section
variable{P:Program}{w:World}{K:Frag}{mg:Str->Option Value}{base:Heap}
theorem sc_far_or_none:FnScope ["web"] ["web"] (L0 s_far_or_none):=by row_cond sc
theorem uG(T:Txt K mg):Can P w K mg base "far_or_none" 10 ["web"] (spP K (SO)):=by
 obtain⟨f,fd,D⟩:=T.d_far_or_none
 obtain⟨i,d⟩:=T.o_Grower
 have c:=d.mgx
 have m:=T.n_Grower_held _ c
 refine D.can (D.fn.ok sc_far_or_none (λvs H Q E h=>lenP h λss Q' q=>by obtain⟨n,es,rfl,j,o⟩:=q;rfl) (λcdv A outer s H vs Q E r h=>?_))
 have nd:=sc_far_or_none.nd
 refine⟨_,(I0 (U0 (yL (L3 (J0 (wC T) r (i0 (pv 0) o0))) (Y0 W0 (J0 (KI T) r (i0 (pv 0) o0)) q0 (λ_ _=>rfl)) Q5))),?_⟩
 refine p3 h λss Q' q B y=>?_
 refine exS2 ss q λn es g=>?_
 have j:=g.1
 have o:=g.2
 clear g q
 show EvS B _ _ [some (.st (webD n es))]
 have hn:=j.lo
 have u:=j.hi
 have l:=j.inn
 have p:=j.len
 row_cond go
 refine⟨n,es,rfl,hn,by lia,l,by lia,λb hb=>?_⟩
 cases b with
 | true =>
  row_cond go
  refine⟨n,es,rfl,hn,by lia,l,by lia,hb.mp rfl,λx a b v=>?_⟩
  row_cond go
  exact o _ (.inl ⟨hb.mp rfl,x,v.top,rfl⟩)
 | false =>
  row_cond go
  exact o _ (.inr ⟨λz=>(by have:=hb.mpr z;cases this),rfl⟩)
theorem sc_Grower____init__:FnScope ["self","web","n","ties"] ["self","web"] (L0 s_Grower____init__):=by row_cond sc
theorem lN(T:Txt K mg){a:Addr}(b:mg "Grower" = some (.ref a)):CanM P w K mg base a "__init__" 1 ["self","web"] (spI K (jN mg)):=by
 obtain⟨f,fd,D⟩:=T.m_Grower____init__ _ b
 have d:ObAt K mg "Grower" a:=by
  obtain⟨c,o⟩:=T.o_Grower
  have:=o.mgx.symm.trans b
  cases this
  exact o
 have g:=T.n_Grower_held _ b
 refine D.can (D.fn.ok sc_Grower____init__ (λvs H Q E h=>lenI h λA ss Q' q=>by obtain⟨C,n,es,j,rfl,rfl,l⟩:=q;rfl) (λcdv A outer s H vs Q E r h=>?_))
 have nd:=sc_Grower____init__.nd
 refine⟨_,(G0 (y4 (pv 1) (K4 rfl (E2 (P0 (i:=2) nd rfl (Or.inl rfl)) (E2 (P0 (i:=3) nd rfl (Or.inl rfl)) D4))))
  (I0 (RH (pv 0) (R1 (i0 (pv 2) (i0 (Y7 SH (by rfl) T.b_list I9 (i0 (pv 3) o0)) o0))) rfl))),?_⟩
 refine R5 h λm ss Q' q B p=>?_
 obtain⟨C,n,es,j,rfl,rfl,l⟩:=q
 show EvS B _ _ [some (.io (OI C [])),some (.st (webD n es)),none,none]
 obtain rfl:a=C:=by have:=b.symm.trans j;cases this;rfl
 repeat (first|(refine fS d.cl g ?_)|(refine RF ?_)|row_cond st)
 exact⟨_,rfl,_,_,_,rfl,rfl,.inr rfl,_,rfl,l⟩
theorem sc_Grower__become:FnScope ["self","grown","before"] ["self","grown"] (L0 s_Grower__become):=by row_cond sc
theorem IC(T:Txt K mg){a:Addr}(b:mg "Grower" = some (.ref a)):CanM P w K mg base a "become" 11 ["self","grown"] (spI K (aN mg)):=by
 obtain⟨f,fd,D⟩:=T.m_Grower__become _ b
 have d:ObAt K mg "Grower" a:=by
  obtain⟨c,o⟩:=T.o_Grower
  have:=o.mgx.symm.trans b
  cases this
  exact o
 have g:=T.n_Grower_held _ b
 refine D.can (D.fn.ok sc_Grower__become (λvs H Q E h=>lenI h λA ss Q' q=>by obtain⟨C,n,m,es,qs,p,rfl,rfl,l,j,r⟩:=q;rfl) (λcdv A outer s H vs Q E u h=>?_))
 have nd:=sc_Grower__become.nd
 refine⟨_,(G0 (O0 (i:=2) nd rfl (Or.inl rfl) (J0 (uG T) u (i0 (K6 (pv 0) rfl) o0)))
  (G0 (RH (pv 0) (pv 1) rfl)
  (I0 (U0 (R1 (i0 (pv 2) (i0 (J0 (uG T) u (i0 (pv 1) o0)) o0))))))),?_⟩
 refine R5 h λF ss Q' q B G=>?_
 obtain⟨C,n,m,es,qs,p,rfl,rfl,l,j,r⟩:=q
 show EvS B _ _ [some (.io (OI C (gF n es))),some (.st (webD m qs)),none]
 obtain rfl:a=C:=by have:=b.symm.trans p;cases this;rfl
 repeat (first|(refine Y8 (.inr rfl) d.cl g t6 ?_)|row_cond st)
 refine⟨n,es,rfl,l,λx y=>?_⟩
 repeat (first|(refine xI (fs:=gF n es) d.cl g ?_)|row_cond st)
 refine⟨_,rfl,.inr rfl,M7 rfl,?_⟩
 rw[put1]
 row_cond qc
 row_cond go
 refine⟨m,qs,rfl,j,λv z=>?_⟩
 row_cond go
 exact r x v y z
theorem sc_Grower__put_place:FnScope ["self","a","n","ties"] ["self","a"] (L0 s_Grower__put_place):=by row_cond sc
theorem oJ(T:Txt K mg){d:Addr}(b:mg "Grower" = some (.ref d)):CanM P w K mg base d "put_place" 12 ["self","a"] (spI K (uN mg)):=by
 obtain⟨f,fd,D⟩:=T.m_Grower__put_place _ b
 obtain⟨l,j⟩:=T.v_MOST_PLACES
 have g:ObAt K mg "Grower" d:=by
  obtain⟨c,o⟩:=T.o_Grower
  have:=o.mgx.symm.trans b
  cases this
  exact o
 have r:=T.n_Grower_held _ b
 refine D.can (D.fn.ok sc_Grower__put_place (λvs H Q E h=>lenI h λA ss Q' q=>by obtain⟨C,n,a,es,L,rfl,rfl,G,F,J,O,a0,a1,M⟩:=q;rfl) (λcdv A outer s H vs Q E u h=>?_))
 have nd:=sc_Grower__put_place.nd
 refine⟨_,(G0 (J3 (J0 (lB T) u (i0 (K6 (pv 0) rfl) (i0 (pv 1) o0))))
  (G0 (y4 (K6 (pv 0) rfl) (K4 rfl (E2 (P0 (i:=2) nd rfl (Or.inl rfl)) (E2 (P0 (i:=3) nd rfl (Or.inl rfl)) D4))))
  (G0 (J3 (J0 (QK T) u (i0 q0 (i0 (R0 p7 (U6 (v:=.int 60) rfl j ⟨_,rfl⟩) q0) (i0 (pv 2) o0)))))
  (I0 (U0 (p9 (IC T b) g.cl u (pv 0) (i0 (J0 (WF T) u (i0 (R1 (i0 (R0 u3 (pv 2) q0) (i0 (pv 3) o0))) (i0 (Q1 (i0 (R1 (i0 (pv 1) (i0 (pv 2) o0))) o0)) o0))) o0))))))),?_⟩
 refine R5 h λA0 ss Q' q B hK=>?_
 obtain⟨C,n,a,es,L,rfl,rfl,G,F,J,O,a0,a1,M⟩:=q
 show EvS B _ _ [some (.io (OI C (gF n es))),some (.st (.int a)),none,none]
 obtain rfl:d=C:=by have:=b.symm.trans L;cases this;rfl
 have hn:=G.lo
 have z:PutOk (n+1) es [(a,n)]:=⟨λp U=>by cases N2.mp U;exact⟨a0,a1,by simp only;lia⟩,q7.mpr ⟨J.nd,by simp,λx W y Y e=>by
  cases N2.mp Y
  have:=J.inn x W
  rw[e] at this
  simp only at this
  lia⟩⟩
 repeat (first|(refine Y8 (.inr rfl) g.cl r t6 ?_)|row_cond st)
 refine⟨n,a,es,rfl,a0,a1,?_⟩
 repeat (first|(refine Z2 (Y8 (.inr rfl) g.cl r t6 ?_))|row_cond st)
 refine⟨1,60-1,n,rfl,hn,by lia,?_⟩
 row_cond qe
 refine⟨n+1,es,[(a,n)],rfl,by lia,by simp,z,λqs u N=>kB ?_⟩
 have I:=MF G (m:=n+1) (by lia) (by lia) O a0 (by lia) (by lia) (by lia) N
 row_cond go
 refine⟨_,_,rfl,.inr rfl,d,n,n+1,es,qs,b,rfl,rfl,G,I,λS R X Z=>?_⟩
 exact⟨_,rfl,M qs S R u N X Z⟩
theorem sc_Grower__put_tie:FnScope ["self","a","b"] ["self","a","b"] (L0 s_Grower__put_tie):=by row_cond sc
theorem BP(T:Txt K mg){g:Addr}(d:mg "Grower" = some (.ref g)):CanM P w K mg base g "put_tie" 12 ["self","a","b"] (spI K (nN mg)):=by
 obtain⟨f,fd,D⟩:=T.m_Grower__put_tie _ d
 have i:ObAt K mg "Grower" g:=by
  obtain⟨c,o⟩:=T.o_Grower
  have:=o.mgx.symm.trans d
  cases this
  exact o
 have l:=T.n_Grower_held _ d
 refine D.can (D.fn.ok sc_Grower__put_tie (λvs H Q E h=>lenI h λA ss Q' q=>by obtain⟨C,n,a,b,es,x,rfl,rfl,r,j,F,y⟩:=q;rfl) (λcdv A outer s H vs Q E u h=>?_))
 have nd:=sc_Grower__put_tie.nd
 refine⟨_,(I0 (U0 (p9 (IC T d) i.cl u (pv 0) (i0 (J0 (WF T) u (i0 (K6 (pv 0) rfl) (i0 (Q1 (i0 (R1 (i0 (pv 1) (i0 (pv 2) o0))) o0)) o0))) o0)))),?_⟩
 refine R5 h λN ss Q' q B O=>?_
 obtain⟨C,n,a,b,es,x,rfl,rfl,r,j,F,y⟩:=q
 show EvS B _ _ [some (.io (OI C (gF n es))),some (.st (.int a)),some (.st (.int b))]
 obtain rfl:g=C:=by have:=d.symm.trans x;cases this;rfl
 have hn:=r.lo
 have J:=r.hi
 have p:=j.inn (a,b) (by simp)
 simp only at p
 repeat (first|(refine Y8 (.inr rfl) i.cl l t6 ?_)|(refine S9 (.inr rfl) (E6 (by decide +kernel)) ?_)|row_cond st)
 refine⟨n,es,[(a,b)],rfl,by lia,by simp,j,λqs u z=>kB ?_⟩
 have v:=MF r (m:=n) (by lia) (by lia) F p.1 (by lia) (by lia) p.2.2 z
 row_cond go
 refine⟨_,_,rfl,.inr rfl,g,n,n,es,qs,d,rfl,rfl,r,v,λI G L M=>?_⟩
 exact⟨_,rfl,y qs I G u z L M⟩
end
def UK(mg:Str->Option Value):VIo:=λA ss Q=>∃(C:Addr)(n:Int)(es:List (Int × Int)),mg "Grower" = some (.ref C)/\A=OI C (gF n es)/\ss=[]/\es.length<=10000/\Q (OI C (gF n es)) (.own (OW (.int n) (es.map prD)))
def AM(mg:Str->Option Value):VIo:=λA ss Q=>∃(C:Addr)(n a b:Int)(es:List (Int × Int)),mg "Grower" = some (.ref C)/\A=OI C (gF n es)/\ss=[.st (.int a),.st (.int b)]/\GW n es/\0<=a/\a<n/\0<=b/\b<n/\Q (OI C (gF n es)) (.st (oD (Gr.farO (Tied es) a b)))
section
variable{P:Program}{w:World}{K:Frag}{mg:Str->Option Value}{base:Heap}
theorem sc_Grower__web:FnScope ["self","n","ties"] ["self"] (L0 s_Grower__web):=by row_cond sc
theorem UI(T:Txt K mg){a:Addr}(b:mg "Grower" = some (.ref a)):CanM P w K mg base a "web" 1 ["self"] (spI K (UK mg)):=by
 obtain⟨f,fd,D⟩:=T.m_Grower__web _ b
 have d:ObAt K mg "Grower" a:=by
  obtain⟨c,o⟩:=T.o_Grower
  have:=o.mgx.symm.trans b
  cases this
  exact o
 have g:=T.n_Grower_held _ b
 refine D.can (D.fn.ok sc_Grower__web (λvs H Q E h=>lenI h λA ss Q' q=>by obtain⟨C,n,es,j,rfl,rfl,m,l⟩:=q;rfl) (λcdv A outer s H vs Q E u h=>?_))
 have nd:=sc_Grower__web.nd
 refine⟨_,(G0 (y4 (K6 (pv 0) rfl) (K4 rfl (E2 (P0 (i:=1) nd rfl (Or.inl rfl)) (E2 (P0 (i:=2) nd rfl (Or.inl rfl)) D4))))
  (I0 (U0 (R1 (i0 (pv 1) (i0 (Y7 SH (by rfl) T.b_list I9 (i0 (pv 2) o0)) o0)))))),?_⟩
 refine R5 h λp ss Q' q B r=>?_
 obtain⟨C,n,es,j,rfl,rfl,m,l⟩:=q
 show EvS B _ _ [some (.io (OI C (gF n es))),none,none]
 obtain rfl:a=C:=by have:=b.symm.trans j;cases this;rfl
 repeat (first|(refine Z2 (Y8 (.inr rfl) d.cl g t6 ?_))|(refine RF ?_)|row_cond st)
 exact⟨_,rfl,_,rfl,l⟩
theorem sc_Grower__far:FnScope ["self","a","b"] ["self","a","b"] (L0 s_Grower__far):=by row_cond sc
theorem NR(T:Txt K mg){d:Addr}(g:mg "Grower" = some (.ref d)):CanM P w K mg base d "far" 7 ["self","a","b"] (spI K (AM mg)):=by
 obtain⟨f,fd,D⟩:=T.m_Grower__far _ g
 have i:ObAt K mg "Grower" d:=by
  obtain⟨c,o⟩:=T.o_Grower
  have:=o.mgx.symm.trans g
  cases this
  exact o
 have j:=T.n_Grower_held _ g
 refine D.can (D.fn.ok sc_Grower__far (λvs H Q E h=>lenI h λA ss Q' q=>by obtain⟨C,n,a,b,es,m,rfl,rfl,l,a0,a1,b0,b1,p⟩:=q;rfl) (λcdv A outer s H vs Q E v h=>?_))
 have nd:=sc_Grower__far.nd
 refine⟨_,(I0 (U0 (J0 (LK T) v (i0 (K6 (pv 0) rfl) (i0 (pv 1) (i0 (pv 2) o0)))))),?_⟩
 refine R5 h λx ss Q' q B y=>?_
 obtain⟨C,n,a,b,es,m,rfl,rfl,l,a0,a1,b0,b1,p⟩:=q
 show EvS B _ _ [some (.io (OI C (gF n es))),some (.st (.int a)),some (.st (.int b))]
 obtain rfl:d=C:=by have:=g.symm.trans m;cases this;rfl
 have u:=l.hi
 have r:=l.len
 repeat (first|(refine Y8 (.inr rfl) i.cl j t6 ?_)|row_cond st)
 refine⟨n,a,b,es,rfl,by lia,l.inn,by lia,a0,a1,b0,b1,?_⟩
 exact⟨_,rfl,p⟩
end
def noPl(n:Int)(d:PyData):Prop:=btwD 0 (n-1) d=false
def yR(mg:Str->Option Value):VPX:=λss Q R=>∃(n:Int)(es:List (Int × Int))(d:PyData),ss=[.st (webD n es),.st d]/\(btwD 0 (n-1) d=true->Q (.st .none))/\(noPl n d->∀ C,mg "NoPlace" = some (.ref C)->R C)
def LI(mg:Str->Option Value):VPX:=λss Q R=>∃(n:Int)(es:List (Int × Int))(d1 d2:PyData),ss=[.st (webD n es),.st d1,.st d2]/\(noPl n d1\/noPl n d2)/\∀ C,mg "NoPlace" = some (.ref C)->R C
def vpNJ(mg:Str->Option Value):VPX:=λss Q R=>∃(n:Int)(es:List (Int × Int)),ss=[.st (webD n es)]/\1<=n/\n<=100/\InN n es/\es.length<=10000/\¬ Joined n es/\∀ C,mg "NoJoin" = some (.ref C)->R C
def UM(mg:Str->Option Value):VPX:=λss Q R=>∃(a b:Int)(d:PyData),ss=[.st (.int a),.st (.int b),.st d]/\btwD a b d=false/\∀ C,mg "NoNumber" = some (.ref C)->R C
def BadT(n:Int)(es:List (Int × Int))(d:PyData):Prop:=(∀ ds,d=.list ds->ds.length<=10000)/\(O8 n d=true->∃ fs:List (Int × Int),d=.list (fs.map prD)/\¬ (es++fs).Nodup)
def vpWX(mg:Str->Option Value):VPX:=λss Q R=>∃(n:Int)(es:List (Int × Int))(d:PyData),ss=[.st (webD n es),.st d]/\es.length<=10000/\BadT n es d/\∀ C,mg "NoTie" = some (.ref C)->R C
section
variable{P:Program}{w:World}{K:Frag}{mg:Str->Option Value}{base:Heap}
theorem scX_need_place:FnScope ["web","thing"] ["web","thing"] (L0 s_need_place):=by row_cond sc
theorem uC(T:Txt K mg):CanX P w K mg base "need_place" 4 ["web","thing"] (spX K (yR mg)):=by
 obtain⟨f,fd,D⟩:=T.d_need_place
 obtain⟨b,a⟩:=T.x_NoPlace
 refine D.canX (D.fn.okX scX_need_place (λvs H Q E h=>lenX h λss Q' c q=>by obtain⟨n,es,d,rfl,k1,k2⟩:=q;rfl) (λcdv A outer s H vs Q E i h=>?_))
 have nd:=scX_need_place.nd
 refine⟨_,(I0 (U1 (O3 (L3 (J0 (QB T) i (i0 (Y0 W0 (pv 0) q0 (λ_ _=>rfl)) (i0 (pv 1) o0)))))
   (I0 (bA a.ok))
   W1)),?_⟩
 refine y8 h λss Q' c q B j g=>?_
 obtain⟨n,es,d,rfl,k1,k2⟩:=q
 show EvS B _ _ [some (.st (webD n es)),some (.st d)]
 row_cond go
 refine⟨_,_,rfl,?_⟩
 row_cond go
 cases e:btwD 0 (n-1) d with
 | true =>
  row_cond go
  exact k1 e
 | false =>
  row_cond go
  refine fA g (k2 e _ a.mgx) ?_
  row_cond go
  exact M7 rfl
theorem scX_how_far:FnScope ["web","a","b"] ["web","a","b"] (L0 s_how_far):=by row_cond sc
theorem BR(T:Txt K mg):CanX P w K mg base "how_far" 6 ["web","a","b"] (spX K (LI mg)):=by
 obtain⟨f,fd,D⟩:=T.d_how_far
 refine D.canX (D.fn.okX scX_how_far (λvs H Q E h=>lenX h λss Q' g q=>by obtain⟨n,es,a,b,rfl,hd,k⟩:=q;rfl) (λcdv A outer s H vs Q E d h=>?_))
 have nd:=scX_how_far.nd
 refine⟨_,(G0 (J3 (y7 (uC T) d (i0 (pv 0) (i0 (pv 1) o0)))) (G0 (J3 (y7 (uC T) d (i0 (pv 0) (i0 (pv 2) o0)))) T9)),?_⟩
 refine y8 h λss Q' g q B i c=>?_
 obtain⟨n,es,a,b,rfl,hd,k⟩:=q
 show EvS B _ _ [some (.st (webD n es)),some (.st a),some (.st b)]
 row_cond go
 refine X6 c ?_
 row_cond go
 refine⟨n,es,a,rfl,λe=>?_,λ_=>k⟩
 row_cond go
 refine X6 c ?_
 row_cond go
 refine⟨n,es,b,rfl,λe2=>?_,λ_=>k⟩
 rcases hd with hd|hd
 ·rw[noPl,e] at hd;cases hd
 ·rw[noPl,e2] at hd;cases hd
theorem scX_need_number:FnScope ["least","most","thing"] ["least","most","thing"] (L0 s_need_number):=by row_cond sc
theorem eN(T:Txt K mg):CanX P w K mg base "need_number" 3 ["least","most","thing"] (spX K (UM mg)):=by
 obtain⟨f,fd,D⟩:=T.d_need_number
 obtain⟨g,c⟩:=T.x_NoNumber
 refine D.canX (D.fn.okX scX_need_number (λvs H Q E h=>lenX h λss Q' i q=>by obtain⟨a,b,d,rfl,hd,k⟩:=q;rfl) (λcdv A outer s H vs Q E l h=>?_))
 have nd:=scX_need_number.nd
 refine⟨_,(I0 (U1 (O3 (L3 (J0 (pC T) l (i0 (pv 0) (i0 (pv 1) (i0 (pv 2) o0))))))
   (I0 (bA c.ok))
   W1)),?_⟩
 refine y8 h λss Q' i q B m j=>?_
 obtain⟨a,b,d,rfl,hd,k⟩:=q
 show EvS B _ _ [some (.st (.int a)),some (.st (.int b)),some (.st d)]
 row_cond go
 refine⟨_,_,_,rfl,?_⟩
 rw[hd]
 row_cond go
 refine fA j (k _ c.mgx) ?_
 row_cond go
 exact M7 rfl
theorem scX_need_joined:FnScope ["web"] ["web"] (L0 s_need_joined):=by row_cond sc
theorem IJ(T:Txt K mg):CanX P w K mg base "need_joined" 7 ["web"] (spX K (vpNJ mg)):=by
 obtain⟨f,fd,D⟩:=T.d_need_joined
 obtain⟨g,a⟩:=T.x_NoJoin
 refine D.canX (D.fn.okX scX_need_joined (λvs H Q E h=>lenX h λss Q' m q=>by obtain⟨n,es,rfl,j,i,c,d,l,k⟩:=q;rfl) (λcdv A outer s H vs Q E p h=>?_))
 have nd:=scX_need_joined.nd
 refine⟨_,(I0 (U1 (O3 (L3 (J0 (wC T) p (i0 (pv 0) o0))))
   (I0 (bA a.ok))
   W1)),?_⟩
 refine y8 h λss Q' m q B r o=>?_
 obtain⟨n,es,rfl,j,i,c,d,l,k⟩:=q
 show EvS B _ _ [some (.st (webD n es))]
 row_cond go
 refine⟨n,es,rfl,j,i,c,d,λb hb=>?_⟩
 cases b with
 |true=>exact absurd (hb.mp rfl) l
 | false =>
  row_cond go
  refine fA o (k _ a.mgx) ?_
  row_cond go
  exact M7 rfl
theorem scX_far_rows:FnScope ["web","tied"] ["web"] (L0 s_far_rows):=by row_cond sc
theorem rK(T:Txt K mg):CanX P w K mg base "far_rows" 8 ["web"] (spX K (vpNJ mg)):=by
 obtain⟨f,fd,D⟩:=T.d_far_rows
 refine D.canX (D.fn.okX scX_far_rows (λvs H Q E h=>lenX h λss Q' i q=>by obtain⟨n,es,rfl,d,c,a,b,g,k⟩:=q;rfl) (λcdv A outer s H vs Q E l h=>?_))
 have nd:=scX_far_rows.nd
 refine⟨_,(G0 (J3 (y7 (IJ T) l (i0 (pv 0) o0))) T9),?_⟩
 refine y8 h λss Q' i q B m j=>?_
 obtain⟨n,es,rfl,d,c,a,b,g,k⟩:=q
 show EvS B _ _ [some (.st (webD n es)),none]
 row_cond go
 refine X6 j ?_
 row_cond go
 exact⟨n,es,rfl,d,c,a,b,g,k⟩
theorem scX_with_ties:FnScope ["web","ties","n","there","every"] ["web","ties"] (L0 s_with_ties):=by row_cond sc
theorem YL(T:Txt K mg):CanX P w K mg base "with_ties" 6 ["web","ties"] (spX K (vpWX mg)):=by
 obtain⟨f,fd,D⟩:=T.d_with_ties
 obtain⟨g,a⟩:=T.x_NoTie
 refine D.canX (D.fn.okX scX_with_ties (λvs H Q E h=>lenX h λss Q' p q=>by obtain⟨n,es,d,rfl,r,c,k⟩:=q;rfl) (λcdv A outer s H vs Q E j h=>?_))
 have nd:=scX_with_ties.nd
 refine⟨_,(G0 (y4 (pv 0) (K4 rfl (E2 (P0 (i:=2) nd rfl (Or.inl rfl)) (E2 (P0 (i:=3) nd rfl (Or.inl rfl)) D4)))) (G0 (U1 (O3 (L3 (J0 (bI T) j (i0 (pv 2) (i0 (pv 1) o0)))))
   (I0 (bA a.ok))
   W1) (G0 (O0 (i:=4) nd rfl (Or.inl rfl) (S0 pA (by rfl) T.b_sorted I8 (i0 (R0 O6 (pv 3) (pv 1)) o0))) (G0 (U1 (O3 (L3 (J0 (cG T) j (i0 (pv 4) o0))))
   (I0 (bA a.ok))
   W1) T9)))),?_⟩
 refine y8 h λss Q' p q B u o=>?_
 obtain⟨n,es,d,rfl,r,c,k⟩:=q
 show EvS B _ _ [some (.st (webD n es)),some (.st d),none,none,none]
 row_cond go
 refine⟨n,d,rfl,λds e=>by have:=c.1 ds e;lia,?_⟩
 cases hb:O8 n d with
 | false =>
  row_cond go
  refine fA o (k _ a.mgx) ?_
  row_cond go
  exact M7 rfl
 | true =>
  obtain⟨fs,rfl,hn⟩:=c.2 hb
  have l:=c.1 _ rfl
  rw[T0] at l
  row_cond go
  refine oA (ps:=es++fs) ?_
  row_cond go
  rw[← w4]
  refine⟨rfl,λqs m hs=>?_⟩
  have j:¬ Rise qs:=λh=>hn (m.nodup_iff.mp h.nodup)
  refine L4 ?_
  row_cond qb
  try refine' OA (by assumption) ?_
  refine vD (UD (dC (gB (MG (.inl rfl) (YC ⟨_,_,.inl rfl,T4,qs,rfl,by rw[m.length_eq,Q3];lia,λb hb=>?_⟩)))))
  row_cond go
  cases b with
  |true=>exact absurd (hb.mp rfl) j
  | false =>
   row_cond go
   refine fA o (k _ a.mgx) ?_
   row_cond go
   exact M7 rfl
theorem scX_farthest_two:FnScope ["web","rows","far","a"] ["web"] (L0 s_farthest_two):=by row_cond sc
theorem aP(T:Txt K mg):CanX P w K mg base "farthest_two" 9 ["web"] (spX K (vpNJ mg)):=by
 obtain⟨f,fd,D⟩:=T.d_farthest_two
 refine D.canX (D.fn.okX scX_farthest_two (λvs H Q E h=>lenX h λss Q' j q=>by obtain⟨n,es,rfl,d,c,a,b,g,k⟩:=q;rfl) (λcdv A outer s H vs Q E m h=>?_))
 have nd:=scX_farthest_two.nd
 refine⟨_,(G0 (O0 (i:=1) nd rfl (Or.inl rfl) (y7 (rK T) m (i0 (pv 0) o0))) T9),?_⟩
 refine y8 h λss Q' j q B o l=>?_
 obtain⟨n,es,rfl,d,c,a,b,g,k⟩:=q
 show EvS B _ _ [some (.st (webD n es)),none,none,none]
 row_cond go
 refine X6 l ?_
 row_cond go
 exact⟨n,es,rfl,d,c,a,b,g,k⟩
end
def uI(mg:Str->Option Value):VMX:=λfs ss R=>∃(n:Int)(es:List (Int × Int))(d:PyData),fs=gF n es/\ss=[.st d]/\(btwD 0 (n-1) d=true->60<=n)/\(noPl n d->∀ C,mg "NoPlace" = some (.ref C)->R C)/\(btwD 0 (n-1) d=true->∀ C,mg "NoNumber" = some (.ref C)->R C)
def pP(mg:Str->Option Value):VMX:=λfs ss R=>∃(n:Int)(es:List (Int × Int))(d1 d2:PyData),fs=gF n es/\ss=[.st d1,.st d2]/\es.length<=10000/\BadT n es (.list [.tuple [d1,d2]])/\∀ C,mg "NoTie" = some (.ref C)->R C
def ZI(mg:Str->Option Value):VMX:=λfs ss R=>∃(n:Int)(es:List (Int × Int))(d1 d2:PyData),fs=gF n es/\ss=[.st d1,.st d2]/\(noPl n d1\/noPl n d2)/\∀ C,mg "NoPlace" = some (.ref C)->R C
def FL(mg:Str->Option Value):VMX:=λfs ss R=>∃(n:Int)(es:List (Int × Int)),fs=gF n es/\ss=[]/\GW n es/\¬ Joined n es/\∀ C,mg "NoJoin" = some (.ref C)->R C
section
variable{P:Program}{w:World}{K:Frag}{mg:Str->Option Value}{base:Heap}
theorem scX_Grower__put_place:FnScope ["self","a","n","ties"] ["self","a"] (L0 s_Grower__put_place):=by row_cond sc
theorem MO(T:Txt K mg){a:Addr}(b:mg "Grower" = some (.ref a)):H8 P w K mg base a "put_place" 12 ["self","a"] (spM K a (uI mg)):=by
 obtain⟨f,fd,D⟩:=T.m_Grower__put_place _ b
 obtain⟨l,g⟩:=T.v_MOST_PLACES
 have j:ObAt K mg "Grower" a:=by
  obtain⟨c,o⟩:=T.o_Grower
  have:=o.mgx.symm.trans b
  cases this
  exact o
 have m:=T.n_Grower_held _ b
 refine D.canX (D.fn.okX scX_Grower__put_place (λvs H Q E h=>lenM h λfs ss x q=>by obtain⟨n,es,d,rfl,rfl,u,k1,k2⟩:=q;rfl) (λcdv A outer s H vs Q E r h=>?_))
 have nd:=scX_Grower__put_place.nd
 refine⟨_,(G0 (J3 (y7 (uC T) r (i0 (K6 (pv 0) rfl) (i0 (pv 1) o0)))) (G0 (y4 (K6 (pv 0) rfl) (K4 rfl (E2 (P0 (i:=2) nd rfl (Or.inl rfl)) (E2 (P0 (i:=3) nd rfl (Or.inl rfl)) D4)))) (G0 (J3 (y7 (eN T) r (i0 q0 (i0 (R0 p7 (U6 (v:=.int 60) rfl g ⟨_,rfl⟩) q0) (i0 (pv 2) o0))))) T9))),?_⟩
 refine nB h λfs ss x q B y p=>?_
 obtain⟨n,es,d,rfl,rfl,u,k1,k2⟩:=q
 show EvS B _ _ [some (.own (OIr a (gF n es))),some (.st d),none,none]
 repeat (first|(refine cA rfl j.cl m t6 ?_)|(refine X6 p ?_)|row_cond st)
 refine⟨n,es,d,rfl,λhb=>?_,k1⟩
 repeat (first|(refine Z2 (cA rfl j.cl m t6 ?_))|(refine X6 p ?_)|row_cond st)
 exact⟨1,60-1,.int n,rfl,O2 (by have:=u hb;lia),k2 hb⟩
theorem scX_Grower__put_tie:FnScope ["self","a","b"] ["self","a","b"] (L0 s_Grower__put_tie):=by row_cond sc
theorem IK(T:Txt K mg){a:Addr}(b:mg "Grower" = some (.ref a)):H8 P w K mg base a "put_tie" 12 ["self","a","b"] (spM K a (pP mg)):=by
 obtain⟨f,fd,D⟩:=T.m_Grower__put_tie _ b
 have d:ObAt K mg "Grower" a:=by
  obtain⟨c,o⟩:=T.o_Grower
  have:=o.mgx.symm.trans b
  cases this
  exact o
 have g:=T.n_Grower_held _ b
 refine D.canX (D.fn.okX scX_Grower__put_tie (λvs H Q E h=>lenM h λfs ss r q=>by obtain⟨n,es,i,p,rfl,rfl,m,j,k⟩:=q;rfl) (λcdv A outer s H vs Q E l h=>?_))
 have nd:=scX_Grower__put_tie.nd
 refine⟨_,(I0 (U0 (p9 (IC T b) d.cl l (pv 0) (i0 (y7 (YL T) l (i0 (K6 (pv 0) rfl) (i0 (Q1 (i0 (R1 (i0 (pv 1) (i0 (pv 2) o0))) o0)) o0))) o0)))),?_⟩
 refine nB h λfs ss r q B v u=>?_
 obtain⟨n,es,i,p,rfl,rfl,m,j,k⟩:=q
 show EvS B _ _ [some (.own (OIr a (gF n es))),some (.st i),some (.st p)]
 repeat (first|(refine cA rfl d.cl g t6 ?_)|(refine rP rfl (E6 (by decide +kernel)) ?_)|(refine KL u ?_)|row_cond st)
 exact⟨n,es,_,rfl,m,j,k⟩
theorem scX_Grower__far:FnScope ["self","a","b"] ["self","a","b"] (L0 s_Grower__far):=by row_cond sc
theorem aR(T:Txt K mg){a:Addr}(b:mg "Grower" = some (.ref a)):H8 P w K mg base a "far" 8 ["self","a","b"] (spM K a (ZI mg)):=by
 obtain⟨f,fd,D⟩:=T.m_Grower__far _ b
 have d:ObAt K mg "Grower" a:=by
  obtain⟨c,o⟩:=T.o_Grower
  have:=o.mgx.symm.trans b
  cases this
  exact o
 have g:=T.n_Grower_held _ b
 refine D.canX (D.fn.okX scX_Grower__far (λvs H Q E h=>lenM h λfs ss l q=>by obtain⟨n,es,i,j,rfl,rfl,hd,k⟩:=q;rfl) (λcdv A outer s H vs Q E p h=>?_))
 have nd:=scX_Grower__far.nd
 refine⟨_,(I0 (U0 (y7 (BR T) p (i0 (K6 (pv 0) rfl) (i0 (pv 1) (i0 (pv 2) o0)))))),?_⟩
 refine nB h λfs ss l q B r m=>?_
 obtain⟨n,es,i,j,rfl,rfl,hd,k⟩:=q
 show EvS B _ _ [some (.own (OIr a (gF n es))),some (.st i),some (.st j)]
 repeat (first|(refine cA rfl d.cl g t6 ?_)|(refine X6 m ?_)|row_cond st)
 exact⟨n,es,i,j,rfl,hd,k⟩
theorem scX_Grower__farthest:FnScope ["self"] ["self"] (L0 s_Grower__farthest):=by row_cond sc
theorem eO(T:Txt K mg){a:Addr}(b:mg "Grower" = some (.ref a)):H8 P w K mg base a "farthest" 11 ["self"] (spM K a (FL mg)):=by
 obtain⟨f,fd,D⟩:=T.m_Grower__farthest _ b
 have d:ObAt K mg "Grower" a:=by
  obtain⟨c,o⟩:=T.o_Grower
  have:=o.mgx.symm.trans b
  cases this
  exact o
 have g:=T.n_Grower_held _ b
 refine D.canX (D.fn.okX scX_Grower__farthest (λvs H Q E h=>lenM h λfs ss m q=>by obtain⟨n,es,rfl,rfl,i,l,k⟩:=q;rfl) (λcdv A outer s H vs Q E u h=>?_))
 have nd:=scX_Grower__farthest.nd
 refine⟨_,(I0 (U0 (y7 (aP T) u (i0 (K6 (pv 0) rfl) o0)))),?_⟩
 refine nB h λfs ss m q B v r=>?_
 obtain⟨n,es,rfl,rfl,i,l,k⟩:=q
 show EvS B _ _ [some (.own (OIr a (gF n es)))]
 have hn:=i.lo
 have p:=i.hi
 have j:=i.len
 repeat (first|(refine cA rfl d.cl g t6 ?_)|(refine X6 r ?_)|row_cond st)
 exact⟨n,es,rfl,hn,by lia,i.inn,by lia,l,k⟩
end
theorem NL:bootBuiltins "ValueError" = some (.type "ValueError"):=by decide +kernel
def sR(mg:Str->Option Value)(C:Addr)(due:Int):Prop:=(mg "NoPlace" = some (.ref C)/\due=0)\/(mg "NoJoin" = some (.ref C)/\due=1)\/(mg "NoTie" = some (.ref C)/\due=2)\/(mg "NoNumber" = some (.ref C)/\due=4)
def gO(mg:Str->Option Value):VIo:=λA ss Q=>∃(C:Addr)(due:Int),A=OE C/\ss=[.st (.int due)]/\sR mg C due/\Q (OE C) (.st (.bool true))
section
variable{P:Program}{w:World}{K:Frag}{mg:Str->Option Value}{base:Heap}
theorem sc_law_kinds:FnScope ["caught","due","kinds"] ["caught","due"] (L0 s_law_kinds):=by row_cond sc
theorem jQ(T:Txt K mg):Can P w K mg base "_law_kinds" 1 ["caught","due"] (spI K (gO mg)):=by
 obtain⟨f,fd,D⟩:=T.d_law_kinds
 obtain⟨p,c⟩:=T.x_NoPlace
 obtain⟨r,d⟩:=T.x_NoJoin
 obtain⟨x,m⟩:=T.x_NoTie
 obtain⟨G,g⟩:=T.x_NoTree
 obtain⟨n,a⟩:=T.x_NoNumber
 obtain⟨z,l⟩:=T.x_NoText
 obtain⟨y,j⟩:=T.x_NoName
 obtain⟨I,o⟩:=T.x_NoRow
 obtain⟨a0,M⟩:=T.o_Grower
 have L:=M.mgx
 have a1:=T.n_Grower_held _ L
 refine D.can (D.fn.ok sc_law_kinds (λvs H Q E h=>lenI h λA ss Q' q=>by obtain⟨C,due,rfl,rfl,b,kk⟩:=q;rfl) (λcdv A outer s H vs Q E O h=>?_))
 have nd:=sc_law_kinds.nd
 refine⟨_,(G0 (O0 (i:=2) nd rfl (Or.inl rfl) (Q1 (i0 (S0 n7 (by rfl) T.b_isinstance w5 (i0 (pv 0) (i0 (U6 (v:=.ref p) rfl c.mgx rfl) o0))) (i0 (S0 n7 (by rfl) T.b_isinstance w5 (i0 (pv 0) (i0 (U6 (v:=.ref r) rfl d.mgx rfl) o0))) (i0 (S0 n7 (by rfl) T.b_isinstance w5 (i0 (pv 0) (i0 (U6 (v:=.ref x) rfl m.mgx rfl) o0))) o0)))))
  (G0 (O0 (i:=2) nd rfl (Or.inl rfl) (R0 O6 (pv 2) (Q1 (i0 (S0 n7 (by rfl) T.b_isinstance w5 (i0 (pv 0) (i0 (U6 (v:=.ref G) rfl g.mgx rfl) o0))) (i0 (S0 n7 (by rfl) T.b_isinstance w5 (i0 (pv 0) (i0 (U6 (v:=.ref n) rfl a.mgx rfl) o0))) (i0 (S0 n7 (by rfl) T.b_isinstance w5 (i0 (pv 0) (i0 (U6 (v:=.ref z) rfl l.mgx rfl) o0))) o0))))))
  (G0 (O0 (i:=2) nd rfl (Or.inl rfl) (R0 O6 (pv 2) (Q1 (i0 (S0 n7 (by rfl) T.b_isinstance w5 (i0 (pv 0) (i0 (U6 (v:=.ref y) rfl j.mgx rfl) o0))) (i0 (S0 n7 (by rfl) T.b_isinstance w5 (i0 (pv 0) (i0 (U6 (v:=.ref I) rfl o.mgx rfl) o0))) o0)))))
  (G0 (J3 (o5 PySem.F.plainAttrs_list PySem.F.slot_list_append PySem.F.type_list_append z6 (pv 2) (i0 (xE (S0 n7 (by rfl) T.b_isinstance w5 (i0 (pv 0) (i0 (y9 (v:=.ty "ValueError") rfl T.b_ValueError NL rfl) o0)))) o0)))
  (I0 (U0 (n8 (L6 AG (pv 0) Q5 (T1 _)) (v9 (L6 (PM O.units) (pv 2) (O5 rfl (N:=["k","due"]) (src:=[none,some 1]) (by exact Z4 rfl rfl rfl rfl rfl rfl) (z5 rfl T.b_range (i0 q0 o0)) (λ_ _ _ _=>(P0 (i:=0) (show List.Nodup (["k","due"]:List Str) by decide +kernel) rfl (Or.inl rfl) (hf:=Or.inr rfl))) (λ_ _ _ _=>u5) (λ_ _ _ _=>(L6 M5 (pv 0) (pv 1) (T1 _)))) (T1 _)))))))))),?_⟩
 refine R5 h λA0 ss Q' q B hK=>?_
 obtain⟨C,due,rfl,rfl,b,kk⟩:=q
 show EvS B _ _ [some (.io (OE C)),some (.st (.int due)),none]
 obtain⟨b0,b1,Y,Z,W,b5,U,X,R,h0,h1,h2,h3,h4,h5,h6,h7,hV,hw⟩:∃ b0 b1 Y Z W b5 U X:Bool,XIn K C/\kitOne K (.ref C) (.ref p)=some b0/\kitOne K (.ref C) (.ref r)=some b1/\kitOne K (.ref C) (.ref x)=some Y/\kitOne K (.ref C) (.ref G)=some Z/\kitOne K (.ref C) (.ref n)=some W/\kitOne K (.ref C) (.ref z)=some b5/\kitOne K (.ref C) (.ref y)=some U/\kitOne K (.ref C) (.ref I)=some X/\kitOne K (.ref C) (.type "ValueError")=some true/\((b0=true/\b1=false/\Y=false/\Z=false/\W=false/\b5=false/\U=false/\X=false/\due=0)\/(b0=false/\b1=true/\Y=false/\Z=false/\W=false/\b5=false/\U=false/\X=false/\due=1)\/(b0=false/\b1=false/\Y=true/\Z=false/\W=false/\b5=false/\U=false/\X=false/\due=2)\/(b0=false/\b1=false/\Y=false/\Z=false/\W=true/\b5=false/\U=false/\X=false/\due=4)):=by
  rcases b with ⟨b,rfl⟩|⟨b,rfl⟩|⟨b,rfl⟩|⟨b,rfl⟩
  ·obtain rfl:p=C:=by have:=c.mgx.symm.trans b;cases this;rfl
   exact⟨_,_,_,_,_,_,_,_,c.xin,T.y_NoPlace_NoPlace _ _ b b,T.y_NoPlace_NoJoin _ _ b d.mgx,T.y_NoPlace_NoTie _ _ b m.mgx,T.y_NoPlace_NoTree _ _ b g.mgx,T.y_NoPlace_NoNumber _ _ b a.mgx,T.y_NoPlace_NoText _ _ b l.mgx,T.y_NoPlace_NoName _ _ b j.mgx,T.y_NoPlace_NoRow _ _ b o.mgx,T.y_NoPlace_ValueError _ b,.inl ⟨rfl,rfl,rfl,rfl,rfl,rfl,rfl,rfl,rfl⟩⟩
  ·obtain rfl:r=C:=by have:=d.mgx.symm.trans b;cases this;rfl
   exact⟨_,_,_,_,_,_,_,_,d.xin,T.y_NoJoin_NoPlace _ _ b c.mgx,T.y_NoJoin_NoJoin _ _ b b,T.y_NoJoin_NoTie _ _ b m.mgx,T.y_NoJoin_NoTree _ _ b g.mgx,T.y_NoJoin_NoNumber _ _ b a.mgx,T.y_NoJoin_NoText _ _ b l.mgx,T.y_NoJoin_NoName _ _ b j.mgx,T.y_NoJoin_NoRow _ _ b o.mgx,T.y_NoJoin_ValueError _ b,.inr (.inl ⟨rfl,rfl,rfl,rfl,rfl,rfl,rfl,rfl,rfl⟩)⟩
  ·obtain rfl:x=C:=by have:=m.mgx.symm.trans b;cases this;rfl
   exact⟨_,_,_,_,_,_,_,_,m.xin,T.y_NoTie_NoPlace _ _ b c.mgx,T.y_NoTie_NoJoin _ _ b d.mgx,T.y_NoTie_NoTie _ _ b b,T.y_NoTie_NoTree _ _ b g.mgx,T.y_NoTie_NoNumber _ _ b a.mgx,T.y_NoTie_NoText _ _ b l.mgx,T.y_NoTie_NoName _ _ b j.mgx,T.y_NoTie_NoRow _ _ b o.mgx,T.y_NoTie_ValueError _ b,.inr (.inr (.inl ⟨rfl,rfl,rfl,rfl,rfl,rfl,rfl,rfl,rfl⟩))⟩
  ·obtain rfl:n=C:=by have:=a.mgx.symm.trans b;cases this;rfl
   exact⟨_,_,_,_,_,_,_,_,a.xin,T.y_NoNumber_NoPlace _ _ b c.mgx,T.y_NoNumber_NoJoin _ _ b d.mgx,T.y_NoNumber_NoTie _ _ b m.mgx,T.y_NoNumber_NoTree _ _ b g.mgx,T.y_NoNumber_NoNumber _ _ b b,T.y_NoNumber_NoText _ _ b l.mgx,T.y_NoNumber_NoName _ _ b j.mgx,T.y_NoNumber_NoRow _ _ b o.mgx,T.y_NoNumber_ValueError _ b,.inr (.inr (.inr ⟨rfl,rfl,rfl,rfl,rfl,rfl,rfl,rfl,rfl⟩))⟩
 repeat (first
  |(refine E7 (.inr rfl) R h0 ?_)
  |(refine E7 (.inr rfl) R h1 ?_)
  |(refine E7 (.inr rfl) R h2 ?_)
  |(refine E7 (.inr rfl) R h3 ?_)
  |(refine E7 (.inr rfl) R h4 ?_)
  |(refine E7 (.inr rfl) R h5 ?_)
  |(refine E7 (.inr rfl) R h6 ?_)
  |(refine E7 (.inr rfl) R h7 ?_)
  |(refine yN (.inr rfl) R hV ?_)
  |(refine RQ (.inr rfl) ?_)
  |row_cond st)
 unfold rngD
 refine z8 (λi:Nat=>.bool (decide ((0+(i:Int))=due))) rfl (by simp) (λu hu B' hB=>?_) ?_
 ·row_cond go
  exact rfl
 ·rcases hw with ⟨rfl,rfl,rfl,rfl,rfl,rfl,rfl,rfl,rfl⟩|⟨rfl,rfl,rfl,rfl,rfl,rfl,rfl,rfl,rfl⟩|⟨rfl,rfl,rfl,rfl,rfl,rfl,rfl,rfl,rfl⟩|⟨rfl,rfl,rfl,rfl,rfl,rfl,rfl,rfl,rfl⟩
  ·have O:(List.range (Int.toNat 9)).map (λi:Nat=>PyData.bool (decide (0+(i:Int)=0)))=[.bool true,.bool false,.bool false,.bool false,.bool false,.bool false,.bool false,.bool false,.bool false]:=by simp[List.range,List.range.loop]
   rw[O,show [PyData.bool true,PyData.bool false,PyData.bool false]++[PyData.bool false,PyData.bool false,PyData.bool false]++[PyData.bool false,PyData.bool false]++[PyData.bool !true]=[.bool true,.bool false,.bool false,.bool false,.bool false,.bool false,.bool false,.bool false,.bool false] from rfl]
   have J:PyData.canLay0 (.list [.bool true,.bool false,.bool false,.bool false,.bool false,.bool false,.bool false,.bool false,.bool false])=true:=by simp[PyData.canLay0,PyData.canLayAll0]
   refine⟨_,_,.inl rfl,T4,yA J J (by decide) ⟨_,rfl,rfl,?_⟩⟩
   have S:PyData.eqv (.list [.bool true,.bool false,.bool false,.bool false,.bool false,.bool false,.bool false,.bool false,.bool false]) (.list [.bool true,.bool false,.bool false,.bool false,.bool false,.bool false,.bool false,.bool false,.bool false])=true:=by first|rfl|decide +kernel|simp[PyData.eqv,PyData.eqvAll]
   exact S ▸ ⟨_,rfl,kk⟩
  ·have O:(List.range (Int.toNat 9)).map (λi:Nat=>PyData.bool (decide (0+(i:Int)=1)))=[.bool false,.bool true,.bool false,.bool false,.bool false,.bool false,.bool false,.bool false,.bool false]:=by simp[List.range,List.range.loop]
   rw[O,show [PyData.bool false,PyData.bool true,PyData.bool false]++[PyData.bool false,PyData.bool false,PyData.bool false]++[PyData.bool false,PyData.bool false]++[PyData.bool !true]=[.bool false,.bool true,.bool false,.bool false,.bool false,.bool false,.bool false,.bool false,.bool false] from rfl]
   have J:PyData.canLay0 (.list [.bool false,.bool true,.bool false,.bool false,.bool false,.bool false,.bool false,.bool false,.bool false])=true:=by simp[PyData.canLay0,PyData.canLayAll0]
   refine⟨_,_,.inl rfl,T4,yA J J (by decide) ⟨_,rfl,rfl,?_⟩⟩
   have S:PyData.eqv (.list [.bool false,.bool true,.bool false,.bool false,.bool false,.bool false,.bool false,.bool false,.bool false]) (.list [.bool false,.bool true,.bool false,.bool false,.bool false,.bool false,.bool false,.bool false,.bool false])=true:=by first|rfl|decide +kernel|simp[PyData.eqv,PyData.eqvAll]
   exact S ▸ ⟨_,rfl,kk⟩
  ·have O:(List.range (Int.toNat 9)).map (λi:Nat=>PyData.bool (decide (0+(i:Int)=2)))=[.bool false,.bool false,.bool true,.bool false,.bool false,.bool false,.bool false,.bool false,.bool false]:=by simp[List.range,List.range.loop]
   rw[O,show [PyData.bool false,PyData.bool false,PyData.bool true]++[PyData.bool false,PyData.bool false,PyData.bool false]++[PyData.bool false,PyData.bool false]++[PyData.bool !true]=[.bool false,.bool false,.bool true,.bool false,.bool false,.bool false,.bool false,.bool false,.bool false] from rfl]
   have J:PyData.canLay0 (.list [.bool false,.bool false,.bool true,.bool false,.bool false,.bool false,.bool false,.bool false,.bool false])=true:=by simp[PyData.canLay0,PyData.canLayAll0]
   refine⟨_,_,.inl rfl,T4,yA J J (by decide) ⟨_,rfl,rfl,?_⟩⟩
   have S:PyData.eqv (.list [.bool false,.bool false,.bool true,.bool false,.bool false,.bool false,.bool false,.bool false,.bool false]) (.list [.bool false,.bool false,.bool true,.bool false,.bool false,.bool false,.bool false,.bool false,.bool false])=true:=by first|rfl|decide +kernel|simp[PyData.eqv,PyData.eqvAll]
   exact S ▸ ⟨_,rfl,kk⟩
  ·have O:(List.range (Int.toNat 9)).map (λi:Nat=>PyData.bool (decide (0+(i:Int)=4)))=[.bool false,.bool false,.bool false,.bool false,.bool true,.bool false,.bool false,.bool false,.bool false]:=by simp[List.range,List.range.loop]
   rw[O,show [PyData.bool false,PyData.bool false,PyData.bool false]++[PyData.bool false,PyData.bool true,PyData.bool false]++[PyData.bool false,PyData.bool false]++[PyData.bool !true]=[.bool false,.bool false,.bool false,.bool false,.bool true,.bool false,.bool false,.bool false,.bool false] from rfl]
   have J:PyData.canLay0 (.list [.bool false,.bool false,.bool false,.bool false,.bool true,.bool false,.bool false,.bool false,.bool false])=true:=by simp[PyData.canLay0,PyData.canLayAll0]
   refine⟨_,_,.inl rfl,T4,yA J J (by decide) ⟨_,rfl,rfl,?_⟩⟩
   have S:PyData.eqv (.list [.bool false,.bool false,.bool false,.bool false,.bool true,.bool false,.bool false,.bool false,.bool false]) (.list [.bool false,.bool false,.bool false,.bool false,.bool true,.bool false,.bool false,.bool false,.bool false])=true:=by first|rfl|decide +kernel|simp[PyData.eqv,PyData.eqvAll]
   exact S ▸ ⟨_,rfl,kk⟩
end
def Refd(n:Int)(es:List (Int × Int))(way:Int)(d1 d2:PyData)(due:Int):Prop :=
 (way=0/\noPl n d1/\due=0)\/(way=0/\btwD 0 (n-1) d1=true/\60<=n/\due=4)\/(way=1/\BadT n es (.list [.tuple [d1,d2]])/\due=2)\/(way=2/\(noPl n d1\/noPl n d2)/\due=0)\/(way=3/\¬ Joined n es/\due=1)
def oO(mg:Str->Option Value):VJ:=λss Q=>∃(C:Addr)(n way due:Int)(es:List (Int × Int))(d1 d2:PyData),mg "Grower" = some (.ref C)/\ss=[.st (.int way),.io (OI C (gF n es)),.st d1,.st d2,.st (.int due)]/\GW n es/\Refd n es way d1 d2 due/\Q [none,some (.io (OI C (gF n es))),none,none,none] (.st (.bool true))
section
variable{P:Program}{w:World}{K:Frag}{mg:Str->Option Value}{base:Heap}
theorem sc_law_refused:FnScope ["way","grower","a","b","due","e","caught"] ["way","grower","a","b","due"] (L0 s_law_refused):=by row_cond sc
theorem U7(T:Txt K mg):Can P w K mg base "_law_refused" 13 ["way","grower","a","b","due"] (spJ K (oO mg)):=by
 obtain⟨f,fd,D⟩:=T.d_law_refused
 obtain⟨d,a⟩:=T.x_TieError
 obtain⟨y,g⟩:=T.o_Grower
 have b:=g.mgx
 have R:=T.n_Grower_held _ b
 refine D.can (D.fn.ok sc_law_refused (λvs H Q E h=>lenJ h λss Q' q=>by obtain⟨C,n,way,due,es,G,I,x,rfl,O,F,J⟩:=q;rfl) (λcdv A outer s H vs Q E L h=>?_))
 have nd:=sc_law_refused.nd
 refine⟨_,(G0 (O0 (i:=6) nd rfl (Or.inl rfl) Q5)
  (G0 (LO (i:=5) ⟨rfl,rfl⟩ rfl a.ok rfl nd rfl rfl (VD (U2 M5 (pv 0) q0 (T1 _))
    (sC (MO T b) g.cl L (pv 1) (i0 (pv 2) o0))
    (VD (U2 M5 (pv 0) q0 (T1 _))
     (sC (IK T b) g.cl L (pv 1) (i0 (pv 2) (i0 (pv 3) o0)))
     (VD (U2 M5 (pv 0) q0 (T1 _))
      (sC (aR T b) g.cl L (pv 1) (i0 (pv 2) (i0 (pv 3) o0)))
      (lQ (eO T b) g.cl L (pv 1)))))
   (λea=>(I0 (O0 (i:=6) nd rfl (Or.inl rfl) (pv 5)))))
  (I0 (U0 (J0 (jQ T) L (i0 (pv 6) (i0 (pv 4) o0))))))),?_⟩
 refine fD h λss Q' q B hK=>?_
 obtain⟨C,n,way,due,es,G,I,x,rfl,O,F,J⟩:=q
 show EvS B _ _ [some (.st (.int way)),some (.io (OI C (gF n es))),some (.st G),some (.st I),some (.st (.int due)),none,none]
 obtain rfl:y=C:=by have:=b.symm.trans x;cases this;rfl
 have W:=O.len
 obtain⟨c,j⟩:=T.x_NoPlace
 obtain⟨r,p⟩:=T.x_NoJoin
 obtain⟨l,m⟩:=T.x_NoNumber
 obtain⟨v,u⟩:=T.x_NoTie
 have M:XSub K c d:=AB j.exc (T.s_NoPlace_TieError _ _ j.mgx a.mgx)
 have U:XSub K r d:=AB p.exc (T.s_NoJoin_TieError _ _ p.mgx a.mgx)
 have S:XSub K l d:=AB m.exc (T.s_NoNumber_TieError _ _ m.mgx a.mgx)
 have N:XSub K v d:=AB u.exc (T.s_NoTie_TieError _ _ u.mgx a.mgx)
 row_cond go
 refine IQ ?_
 refine nC ?_
 row_cond go
 refine P5 (λZ=>?_) (λZ=>?_)
 ·refine JA (i:=1) (.inr rfl) (E6 (by decide +kernel)) ?_
  row_cond go
  refine⟨n,es,G,rfl,rfl,?_,λhb C x=>?_,λhb C x=>?_⟩
  ·intro hb
   rcases F with ⟨_,z,_⟩|⟨_,_,z,_⟩|⟨z,_⟩|⟨z,_⟩|⟨z,_⟩
   ·rw[noPl,hb] at z;cases z
   all_goals lia
  ·have o:due=0:=by
    rcases F with ⟨_,_,z⟩|⟨_,z,_⟩|⟨z,_⟩|⟨z,_⟩|⟨z,_⟩
    ·exact z
    ·rw[noPl,z] at hb;cases hb
    all_goals lia
   obtain rfl:c=C:=by have:=j.mgx.symm.trans x;cases this;rfl
   refine⟨M,?_⟩
   row_cond qb
   refine n9 (L8 rfl ?_)
   row_cond qb
   row_cond qd
   refine⟨c,due,rfl,rfl,.inl ⟨x,o⟩,?_⟩
   exact J
  ·have o:due=4:=by
    rcases F with ⟨_,z,_⟩|⟨_,_,_,z⟩|⟨z,_⟩|⟨z,_⟩|⟨z,_⟩
    ·rw[noPl,hb] at z;cases z
    ·exact z
    all_goals lia
   obtain rfl:l=C:=by have:=m.mgx.symm.trans x;cases this;rfl
   refine⟨S,?_⟩
   row_cond qb
   refine n9 (L8 rfl ?_)
   row_cond qb
   row_cond qd
   refine⟨l,due,rfl,rfl,.inr (.inr (.inr ⟨x,o⟩)),?_⟩
   exact J
 ·refine nC ?_
  row_cond go
  refine P5 (λX=>?_) (λX=>?_)
  ·obtain⟨hb,o⟩:BadT n es (.list [.tuple [G,I]])/\due=2:=by
    rcases F with ⟨z,_⟩|⟨z,_⟩|⟨_,z⟩|⟨z,_⟩|⟨z,_⟩
    ·lia
    ·lia
    ·exact z
    all_goals lia
   refine JA (i:=1) (.inr rfl) (E6 (by decide +kernel)) ?_
   row_cond go
   refine⟨n,es,G,I,rfl,rfl,by lia,hb,λC x=>?_⟩
   obtain rfl:v=C:=by have:=u.mgx.symm.trans x;cases this;rfl
   refine⟨N,?_⟩
   row_cond qb
   refine n9 (L8 rfl ?_)
   row_cond qb
   row_cond qd
   refine⟨v,due,rfl,rfl,.inr (.inr (.inl ⟨x,o⟩)),?_⟩
   exact J
  ·refine nC ?_
   row_cond go
   refine P5 (λY=>?_) (λY=>?_)
   ·obtain⟨hb,o⟩:(noPl n G\/noPl n I)/\due=0:=by
     rcases F with ⟨z,_⟩|⟨z,_⟩|⟨z,_⟩|⟨_,z⟩|⟨z,_⟩
     ·lia
     ·lia
     ·lia
     ·exact z
     ·lia
    refine JA (i:=1) (.inr rfl) (E6 (by decide +kernel)) ?_
    row_cond go
    refine⟨n,es,G,I,rfl,rfl,hb,λC x=>?_⟩
    obtain rfl:c=C:=by have:=j.mgx.symm.trans x;cases this;rfl
    refine⟨M,?_⟩
    row_cond qb
    refine n9 (L8 rfl ?_)
    row_cond qb
    row_cond qd
    refine⟨c,due,rfl,rfl,.inl ⟨x,o⟩,?_⟩
    exact J
   ·obtain⟨hb,o⟩:¬ Joined n es/\due=1:=by
     rcases F with ⟨z,_⟩|⟨z,_⟩|⟨z,_⟩|⟨z,_⟩|⟨_,z⟩
     ·lia
     ·lia
     ·lia
     ·lia
     ·exact z
    refine JA (i:=1) (.inr rfl) (E6 (by decide +kernel)) ?_
    row_cond go
    refine⟨n,es,rfl,rfl,O,hb,λC x=>?_⟩
    obtain rfl:r=C:=by have:=p.mgx.symm.trans x;cases this;rfl
    refine⟨U,?_⟩
    row_cond qb
    refine n9 (L8 rfl ?_)
    row_cond qb
    row_cond qd
    refine⟨r,due,rfl,rfl,.inr (.inl ⟨x,o⟩),?_⟩
    exact J
end
structure Dk(H:Hp)(d p:Addr)(i:Int)(qs:List Addr):Prop where
 dd:H d=some (.lst [.ref p,.int i])
 pp:H p=some (.lst (qs.map V.ref))
 ne:qs ≠ []
 le:qs.length<=63
 dp:d ≠ p
 dq:d ∉ qs
 pq:p ∉ qs
 ql:∀ q∈qs,∃ c f k:Int,H q=some (.lst [.int c,.int f,.int k])
def XH:Sp:=λvs H Q _=>∃(d p:Addr)(i many:Int)(qs:List Addr),vs=[.ref d,.int many]/\Dk H d p i qs/\0<many/\many<1073741824 /\
 ∀(r:Int)(H':Hp)(i':Int),0<=r->r<many->Dk H' d p i' qs->(∀ a,a ≠ d->a ∉ qs->H' a=H a)->Q (.int r) H'
theorem Dk.pick{H:Hp}{d p:Addr}{i:Int}{qs:List Addr}(h:Dk H d p i qs)(j:Int):∃ q,q∈qs/\V0 (qs.map V.ref) (j % ((qs.map V.ref).length:Int))=some (.ref q):=by
 have c:0<qs.length:=X5.mpr h.ne
 have a:=Int.emod_nonneg j (show((qs.map V.ref).length:Int) ≠ 0 by rw[T0];lia)
 have b:=SB j (show(0:Int)<((qs.map V.ref).length:Int) by rw[T0];lia)
 generalize j % ((qs.map V.ref).length:Int)=m at a b
 have hm:m.toNat<qs.length:=by rw[T0] at b;lia
 exact⟨qs[m.toNat],List.getElem_mem _,L5 a (by rw[o1,X0 hm];rfl)⟩
theorem Dk.put{H:Hp}{d p q:Addr}{i b:Int}{qs:List Addr}(h:Dk H d p i qs)(a:q∈qs)(c f k:Int):Dk (upd (upd H d (.lst [.ref p,.int b])) q (.lst [.int c,.int f,.int k])) d p b qs:=by
 have j:d ≠ q:=λe=>h.dq (e ▸ a)
 have g:p ≠ q:=λe=>h.pq (e ▸ a)
 refine⟨by rw[z0 j,K0],by rw[z0 g,z0 h.dp.symm];exact h.pp,h.ne,h.le,h.dp,h.dq,h.pq,λz hz=>?_⟩
 by_cases e:z=q
 ·subst e;exact⟨c,f,k,K0⟩
 ·rw[z0 e,z0 (show z ≠ d from λe=>h.dq (e ▸ hz))];exact h.ql z hz
def ODk:Own where
 P:=λ_ H v F=>∃ d p i qs,v=.ref d/\Dk H d p i qs/\∀ b,F b ↔ b=d\/b=p\/b∈qs
 mono:=λ⟨d,p,i,qs,e,h,f⟩ _ hh=>⟨d,p,i,qs,e,⟨hh d _ ((f d).mpr (.inl rfl)) h.dd,hh p _ ((f p).mpr (.inr (.inl rfl))) h.pp,h.ne,h.le,h.dp,h.dq,h.pq,λq hq=>by
  obtain⟨c,g,k,e⟩:=h.ql q hq
  exact⟨c,g,k,hh q _ ((f q).mpr (.inr (.inr hq))) e⟩⟩,f⟩
 dom:=λ⟨d,p,i,qs,e,h,f⟩ b z=>by
  rcases(f b).mp z with rfl|rfl|z
  ·exact⟨_,h.dd⟩
  ·exact⟨_,h.pp⟩
  ·obtain⟨c,g,k,e⟩:=h.ql b z
   exact⟨_,e⟩
theorem YP{P:Program}{w:World}{K:Frag}{mg:Str->Option Value}{base:Heap}{x:Str}{k:Nat}{ps:List Str}{sp a:Sp}(c:Can P w K mg base x k ps sp)(h:∀ vs H Q E,a vs H Q E->sp vs H Q E):Can P w K mg base x k ps a:=by
 obtain⟨f,fd,ok,m,kp,b⟩:=c
 exact⟨f,fd,ok.imp h,m,kp,b⟩
def TH:VIo:=λA ss Q=>∃ many:Int,A=ODk/\ss=[.st (.int many)]/\0<many/\many<1073741824/\∀ r:Int,0<=r->r<many->Q ODk (.st (.int r))
theorem rM{K:Frag}{vs:List V}{H:Hp}{Q:VK}{E:XK}(h:spI K TH vs H Q E):XH vs H Q E:=by
 obtain⟨v0,D,G,R,A,ss,F0,Q',rfl,gh,ft,q,ap,fg,fr,m,⟨many,rfl,rfl,B,w,k⟩,v⟩:=h
 obtain⟨d,p,i,qs,rfl,x,j⟩:=ap
 cases m with
 | cons ha hr =>
  cases hr
  cases (show Rp G _ (.int many) from ha)
  refine⟨d,p,i,many,qs,rfl,x,B,w,λr H' u n l b s=>v ODk _ (k r n l) _ G H' F0 (λ_=>False) ?_⟩
  have out:∀ a,¬ F0 a->H' a=H a:=λa z=>s a (λe=>z ((j a).mpr (.inl e))) (λe=>z ((j a).mpr (.inr (.inr e))))
  have g:∀ a,F0 a->(∃ o,H' a=some o)/\∀ xs,H' a ≠ some (.tup xs):=λa z=>by
   rcases(j a).mp z with rfl|rfl|z
   ·rw[b.dd];exact⟨⟨_,rfl⟩,λxs e=>by cases e⟩
   ·rw[b.pp];exact⟨⟨_,rfl⟩,λxs e=>by cases e⟩
   ·obtain⟨c,f,C,e⟩:=b.ql a z
    rw[e];exact⟨⟨_,rfl⟩,λxs e=>by cases e⟩
  refine⟨Same.refl _,λa o e=>?_,λa y e=>?_,λa o e=>.inl e,λa o e=>?_,λa o e=>?_,⟨d,p,u,qs,rfl,b,j⟩,λa z=>.inl z,fg,⟨.int _,λa z=>z⟩,λa z=>z.elim⟩
  ·rw[out a λz=>by rw[fg a z] at e;cases e];exact gh a o e
  ·by_cases z:F0 a
   ·exact absurd e ((g a z).2 _)
   ·rw[out a z] at e;exact ft a y e
  ·rw[out a λz=>by rw[fr a z] at e;cases e];exact q a o e
  ·by_cases z:F0 a
   ·exact(g a z).1
   ·rw[out a z];exact⟨o,e⟩
def SF:VP:=λss Q=>∃ ns:List Int,ss=[.scr ns]/\ns.length<=63/\Q (.own ODk)
theorem nF{K:Frag}{vs:List V}{H:Hp}{Q:VK}{E:XK}(h:spP K SF vs H Q E):∃(a:Addr)(ns:List Int),vs=[.ref a]/\SqL K H a (ns.map V.int)/\ns.length<=63 /\
  ∀(d p:Addr)(i:Int)(qs:List Addr)(H':Hp),Dk H' d p i qs->(∀ b,b=d\/b=p\/b∈qs->H b=none)->(∀ b,b ≠ d->b ≠ p->b ∉ qs->H' b=H b)->Q (.ref d) H':=by
 obtain⟨G,ss,Q',gh,ft,q,⟨ns,rfl,hn,k⟩,r⟩:=h
 cases q with
 | cons ha hr =>
  cases hr
  obtain⟨a,rfl,n⟩:=(show ∃ a,_=V.ref a/\SqL K G a (ns.map V.int) from ha)
  refine⟨a,ns,rfl,gh.seq n,hn,λd p i qs H' l j m=>r _ k _ G H' (λb=>b=d\/b=p\/b∈qs) ?_⟩
  have hh:Same H H':=λa o e=>by
   rw[m a (λz=>by rw[j a (.inl z)] at e;cases e) (λz=>by rw[j a (.inr (.inl z))] at e;cases e) (λz=>by rw[j a (.inr (.inr z))] at e;cases e)];exact e
  have g:∀ a,a=d\/a=p\/a∈qs->(∃ o,H' a=some o)/\∀ xs,H' a ≠ some (.tup xs):=λa z=>by
   rcases z with rfl|rfl|z
   ·rw[l.dd];exact⟨⟨_,rfl⟩,λxs e=>by cases e⟩
   ·rw[l.pp];exact⟨⟨_,rfl⟩,λxs e=>by cases e⟩
   ·obtain⟨c,f,u,e⟩:=l.ql a z
    rw[e];exact⟨⟨_,rfl⟩,λxs e=>by cases e⟩
  refine⟨Same.refl _,gh.trans hh,hh,λa o e=>.inl e,j,λa z=>?_,λa z=>(g a z).1,⟨d,p,i,qs,rfl,l,λb=>Iff.rfl⟩,λ_ a s e=>?_⟩
  ·cases e:G a with
   |none=>rfl
   |some o=>have:=gh a o e;rw[j a z] at this;cases this
  ·by_cases z:a=d\/a=p\/a∈qs
   ·exact absurd e ((g a z).2 _)
   ·rw[m a (λy=>z (.inl y)) (λy=>z (.inr (.inl y))) (λy=>z (.inr (.inr y)))] at e;exact ft a s e
section
variable{P:Program}{w:World}{K:Frag}{mg:Str->Option Value}{base:Heap}
theorem sc_law_draw:FnScope ["deck","many","pool","found","number"] ["deck","many"] (L0 s_law_draw):=by row_cond sc
theorem JF(T:Txt K mg):Can P w K mg base "_law_draw" 1 ["deck","many"] XH:=by
 obtain⟨f,fd,D⟩:=T.d_law_draw
 refine D.can (D.fn.ok sc_law_draw (λvs H Q E h=>by obtain⟨d,p,i,many,qs,rfl,b,j,y,k⟩:=h;rfl) (λcdv A outer s H vs Q E C h=>?_))
 obtain⟨d,p,i,many,qs,rfl,b,j,y,k⟩:=h
 have nd:=sc_law_draw.nd
 refine⟨_,(G0 (O0 (i:=2) nd rfl (Or.inl rfl) (Y0 W0 (Y0 W0 (pv 0) q0 (λ_ _=>rfl)) (R0 Z7 (Y0 W0 (pv 0) q0 (λ_ _=>rfl)) (S0 y6 (by rfl) T.b_len K5 (i0 (Y0 W0 (pv 0) q0 (λ_ _=>rfl)) o0))) (λ_ _=>rfl)))
  (G0 (y4 (R0 u3 (Y0 W0 (pv 0) q0 (λ_ _=>rfl)) q0) (eA (pv 0) q0 F9))
  (G0 (U1 (PW.pt (w8 (U2 M5 (Y0 W0 (pv 2) q0 (λ_ _=>rfl)) q0 (T1 _)) (k8 (U2 DB (Y0 W0 (pv 2) q0 (λ_ _=>rfl)) q0 (T1 _)))))
   (G0 (O0 (i:=3) nd rfl (Or.inl rfl) (R0 Z7 (Y0 W0 (pv 2) q0 (λ_ _=>rfl)) (pv 1)))
    (G0 (y4 (R0 xC (Y0 W0 (pv 2) q0 (λ_ _=>rfl)) (pv 1)) (eA (pv 2) q0 F9))
    (I0 (U0 (pv 3)))))
   W1)
  (G0 (y4 (R0 u3 (Y0 W0 (pv 2) q0 (λ_ _=>rfl)) q0) (eA (pv 2) q0 F9))
  (G0 (O0 (i:=4) nd rfl (Or.inl rfl) (R0 Z7 (R0 u3 (R0 Z7 (Y0 W0 (pv 2) q0 (λ_ _=>rfl)) q0) (R0 w9 q0 (Y0 W0 (pv 2) q0 (λ_ _=>rfl)))) q0))
  (G0 (O0 (i:=4) nd rfl (Or.inl rfl) (R0 Z7 (R0 w9 (pv 4) (pv 4)) q0))
  (G0 (O0 (i:=4) nd rfl (Or.inl rfl) (R0 Z7 (R0 w9 (pv 4) (R0 u3 (pv 4) q0)) q0))
  (I0 (U0 (R0 Z7 (R0 xC (pv 4) q0) (pv 1))))))))))),?_⟩
 show(_:TS) _ [some (.ref d),some (.int many),none,none,none] H
 obtain⟨q,g,m⟩:=b.pick i
 obtain⟨c,f,B,u⟩:=b.ql q g
 have r:=b.dd
 have o:=b.pp
 have n:(0:Int)<((qs.map V.ref).length:Int):=by have:=X5.mpr b.ne;rw[T0];lia
 have z:q ≠ d:=λe=>b.dq (e ▸ g)
 have fin:∀(c f k:Int)(a:Addr),a ≠ d->a ∉ qs->upd (upd H d (.lst [.ref p,.int (i+1)])) q (.lst [.int c,.int f,.int k]) a=H a:=λc f k a l x=>by
  rw[z0 (show a ≠ q from λe=>x (e ▸ g)),z0 l]
 row_cond hgo
 refine P5 (λhf=>?_) (λhf=>?_)
 ·row_cond hgo
  refine P5 (λv=>?_) (λv=>?_)
  ·row_cond hgo
   exact k _ _ (i+1) (Int.emod_nonneg _ (by lia)) (SB _ j) (b.put g _ _ _) (fin _ _ _)
  ·row_cond hgo
   exact k _ _ (i+1) (Int.emod_nonneg _ (by lia)) (SB _ j) (b.put g _ _ _) (fin _ _ _)
 ·row_cond hgo
  exact k _ _ (i+1) (Int.emod_nonneg _ (by lia)) (SB _ j) (b.put g _ _ _) (fin _ _ _)
theorem D2(T:Txt K mg):Can P w K mg base "_law_draw" 1 ["deck","many"] (spI K TH):=YP (JF T) λ_ _ _ _ h=>rM h
theorem sc_law_deck:FnScope ["script","pools","k","cell"] ["script"] (L0 s_law_deck):=by row_cond sc
theorem oS(T:Txt K mg):Can P w K mg base "_law_deck" 1 ["script"] (spP K SF):=by
 obtain⟨f,fd,D⟩:=T.d_law_deck
 refine D.can (D.fn.ok sc_law_deck (λvs H Q E h=>by obtain⟨a,ns,rfl,G,hn,k⟩:=nF h;rfl) (λcdv A outer s H vs Q E hr h=>?_))
 obtain⟨a,ns,rfl,G,hn,k⟩:=nF h
 have nd:=sc_law_deck.nd
 refine⟨_,(G0 (O0 (i:=1) nd rfl (Or.inl rfl) (Q1 o0))
  (G0 (k4 R3 rfl (z5 rfl T.b_range (i0 (S0 (S7 rfl) (by rfl) T.b_max p5 (i0 q0 (i0 (S0 (N7 rfl) (by rfl) T.b_min m7 (i0 q0 (i0 (S0 y6 (by rfl) T.b_len K5 (i0 (pv 0) o0)) o0))) o0))) o0)) (P0 (i:=2) nd rfl (Or.inl rfl))
   (G0 (O0 (i:=3) nd rfl (Or.inl rfl) q0)
    (G0 (U1 (U2 BB (pv 2) (S0 y6 (by rfl) T.b_len K5 (i0 (pv 0) o0)) (T1 _))
     (I0 (O0 (i:=3) nd rfl (Or.inl rfl) (Y0 W0 (pv 0) (pv 2) (λ_ _=>rfl))))
     W1)
    (I0 (J3 (o5 PySem.F.plainAttrs_list PySem.F.slot_list_append PySem.F.type_list_append z6 (pv 1) (i0 (Q1 (i0 (pv 3) (i0 (Y7 gD (by rfl) T.b_int EB (i0 (L6 bP (pv 3) (yE (n:=1000000000000000000) (by decide) (by refine⟨by decide,by decide,by decide⟩)) (T1 _)) o0)) (i0 (R0 w9 q0 (pv 2)) o0)))) o0)))))))
  (I0 (U0 (Q1 (i0 (pv 1) (i0 q0 o0))))))),?_⟩
 show(_:TS) _ [some (.ref a),none,none,none] H
 row_cond hgo
 refine⟨by show 0<=sizeLine;decide,λp I=>?_⟩
 row_cond hgo
 refine gG ((R4 I).seq G) ?_
 rw[T0]
 row_cond hgo
 refine CG (by split <;> split <;> lia) (by split <;> split <;> lia) ?_
 refine sJ (λi σ H2=>∃(u r:Option V)(qs:List Addr),σ=[some (.ref a),some (.ref p),u,r]/\H2 p=some (.lst (qs.map V.ref))/\qs.length=i/\p ∉ qs/\(∀ q∈qs,H q=none/\∃ c f k:Int,H2 q=some (.lst [.int c,.int f,.int k]))/\∀ b,b ≠ p->b ∉ qs->H2 b=H b)
  ⟨_,_,[],rfl,K0,rfl,by simp,(λq m=>nomatch m),λb hb _=>z0 hb⟩ ?_ ?_
 ·rintro i σ H2 hi ⟨u,r,qs,rfl,j,B,pq,m,v⟩
  have S:i<63:=by
   revert hi
   split <;> split <;> lia
  have s2:Same H H2:=λb o e=>by
   rw[v b (λz=>by rw[z,I] at e;cases e) (λz=>by rw[(m b z).1] at e;cases e)];exact e
  have fin:∀(c f k:Int)(q:Addr)(u r:Option V),H2 q=none->∃(R L:Option V)(l:List Addr),[some (V.ref a),some (.ref p),u,r]=[some (.ref a),some (.ref p),R,L]/\upd (upd H2 q (.lst [.int c,.int f,.int k])) p (.lst (qs.map V.ref++[.ref q])) p=some (.lst (l.map V.ref))/\l.length=i+1/\p ∉ l/\(∀ z∈l,H z=none/\∃ W Z k':Int,upd (upd H2 q (.lst [.int c,.int f,.int k])) p (.lst (qs.map V.ref++[.ref q])) z=some (.lst [.int W,.int Z,.int k']))/\∀ b,b ≠ p->b ∉ l->upd (upd H2 q (.lst [.int c,.int f,.int k])) p (.lst (qs.map V.ref++[.ref q])) b=H b:=λc f k q u r g=>by
   have C:q ≠ p:=λe=>by rw[e,j] at g;cases g
   have O:H q=none:=by
    cases e:H q with
    |none=>rfl
    |some o=>rw[s2 q o e] at g;cases g
   refine⟨u,r,qs++[q],rfl,by rw[K0,w4];rfl,by simp[B],λz=>?_,λz hz=>?_,λb hb x=>?_⟩
   ·rcases E1.mp z with z|z
    ·exact pq z
    ·exact C (N2.mp z).symm
   ·have U:z ≠ p:=λe=>by
     subst e
     rcases E1.mp hz with z|z
     ·exact pq z
     ·exact C (N2.mp z).symm
    rw[z0 U]
    by_cases zq:z=q
    ·subst zq;exact⟨O,c,f,k,K0⟩
    ·rw[z0 zq]
     exact m z ((E1.mp hz).resolve_right λy=>zq (N2.mp y))
   ·rw[z0 hb,z0 (show b ≠ q from λe=>x (E1.mpr (.inr (N2.mpr e))))]
    exact v b hb λz=>x (E1.mpr (.inl z))
  row_cond hgo
  refine gG (s2.seq G) ?_
  rw[T0]
  row_cond hgo
  refine P5 (λY=>?_) (λY=>?_)
  ·have N:i<ns.length:=by lia
   have M:V0 (ns.map V.int) (0+(i:Int))=some (.int ns[i]):=L5 (by lia) (by rw[o1,show(0+(i:Int)).toNat=i by lia,X0 N];rfl)
   row_cond hgo
   refine uO (s2.seq G) M ?_
   row_cond hgo
   refine⟨by show 3<=sizeLine;decide,λq g=>?_⟩
   have C:p ≠ q:=λe=>by rw[← e,j] at g;cases g
   row_cond hgo
   exact fin _ _ _ q _ _ g
  ·row_cond hgo
   refine⟨by show 3<=sizeLine;decide,λq g=>?_⟩
   have C:p ≠ q:=λe=>by rw[← e,j] at g;cases g
   row_cond hgo
   exact fin _ _ _ q _ _ g
 ·rintro σ H2 ⟨u,r,qs,rfl,j,B,pq,m,v⟩
  have s2:Same H H2:=λb o e=>by
   rw[v b (λz=>by rw[z,I] at e;cases e) (λz=>by rw[(m b z).1] at e;cases e)];exact e
  row_cond hgo
  refine⟨by show 2<=sizeLine;decide,λd hd=>?_⟩
  have dp:d ≠ p:=λe=>by rw[e,j] at hd;cases hd
  have dq:d ∉ qs:=λz=>by obtain⟨_,c,f,k,e⟩:=m d z;rw[e] at hd;cases hd
  have J:H d=none:=by
   cases e:H d with
   |none=>rfl
   |some o=>rw[s2 d o e] at hd;cases hd
  refine k d p 0 qs _ ⟨K0,by rw[z0 dp.symm];exact j,?_,?_,dp,dq,pq,λq z=>?_⟩ ?_ ?_
  ·intro e
   rw[e] at B
   revert B
   simp only[W7]
   split <;> split <;> lia
  ·rw[B]
   split <;> split <;> lia
  ·rw[z0 (show q ≠ d from λe=>dq (e ▸ z))];exact(m q z).2
  ·rintro b (rfl|rfl|z)
   ·exact J
   ·exact I
   ·exact(m b z).1
  ·intro b b1 X b3
   rw[z0 b1];exact v b X b3
end
theorem YD{α β:Type}(f : α->β):∀(l:List α)(k:Nat),(l.map f).eraseIdx k=(l.eraseIdx k).map f
 |[],_=>rfl
 |_::_,0=>rfl
 |a::l,k+1=>by simp[YD f l k]
theorem gS{j:Int}{n:Nat}(b:0<=j)(a:j<n):seqIndex? j n=some j.toNat:=by unfold seqIndex?;simp;lia
theorem Dk.frame{H H':Hp}{d p:Addr}{i:Int}{qs:List Addr}(h:Dk H d p i qs)(e:∀ a,a=d\/a=p\/a∈qs->H' a=H a):Dk H' d p i qs :=
 ⟨(e d (.inl rfl)).trans h.dd,(e p (.inr (.inl rfl))).trans h.pp,h.ne,h.le,h.dp,h.dq,h.pq,λq b=>by rw[e q (.inr (.inr b))];exact h.ql q b⟩
def jH:VIo:=λA ss Q=>∃ n:Int,A=ODk/\ss=[.st (.int n)]/\0<=n/\n<=61/\∀ row:List Int,Order n row->Q ODk (.own (OL (row.map .int)))
theorem xG{K:Frag}{vs:List V}{H:Hp}{Q:VK}{E:XK}(h:spI K jH vs H Q E):∃(d p:Addr)(i n:Int)(qs:List Addr),vs=[.ref d,.int n]/\Dk H d p i qs/\0<=n/\n<=61 /\
  ∀(row:List Int)(l:Addr)(H':Hp)(s:Int),Order n row->Dk H' d p s qs->H l=none->H' l=some (.lst (row.map V.int))->(∀ a o,a ≠ d->a ∉ qs->H a=some o->H' a=some o)->(∀ a xs,H' a=some (.tup xs)->H a=some (.tup xs))->Q (.ref l) H':=by
 obtain⟨v0,L,G,R,A,ss,F0,Q',rfl,gh,ft,x,ap,fg,fr,w,⟨n,rfl,rfl,J,F,k⟩,D⟩:=h
 obtain⟨d,p,i,qs,rfl,r,q⟩:=ap
 cases w with
 | cons ha hr =>
  cases hr
  cases (show Rp G _ (.int n) from ha)
  refine⟨d,p,i,n,qs,rfl,r,J,F,λrow l H' s C g j m B v=>D ODk _ (k row C) _ G H' F0 (λb=>b=l) ?_⟩
  have out:∀ a o,¬ F0 a->H a=some o->H' a=some o:=λa o z=>B a o (λe=>z ((q a).mpr (.inl e))) (λe=>z ((q a).mpr (.inr (.inr e))))
  have u:G l=none:=by
   cases e:G l with
   |none=>rfl
   |some o=>rw[gh l o e] at j;cases j
  refine⟨Same.refl _,λa o e=>?_,λa I e=>?_,λa o e=>.inl e,λa o e=>?_,λa o e=>?_,⟨d,p,s,qs,rfl,g,q⟩,λa z=>.inl z,fg,⟨l,row.map V.int,rfl,m,Rps.ints row,λb=>Iff.rfl⟩,λa z=>?_⟩
  ·exact out a o (λz=>by rw[fg a z] at e;cases e) (gh a o e)
  ·exact ft a I (v a _ e)
  ·exact out a o (λz=>by rw[fr a z] at e;cases e) (x a o e)
  ·by_cases z:F0 a
   ·rcases(q a).mp z with rfl|rfl|z
    ·exact⟨_,g.dd⟩
    ·exact⟨_,g.pp⟩
    ·obtain⟨c,f,y,e⟩:=g.ql a z
     exact⟨_,e⟩
   ·exact⟨o,out a o z e⟩
  ·subst z
   refine⟨j,u,⟨_,m⟩,λz=>?_⟩
   rcases(q a).mp z with rfl|rfl|z
   ·rw[r.dd] at j;cases j
   ·rw[r.pp] at j;cases j
   ·obtain⟨c,f,y,e⟩:=r.ql a z
    rw[e] at j;cases j
section
variable{P:Program}{w:World}{K:Frag}{mg:Str->Option Value}{base:Heap}
theorem sc_law_order:FnScope ["deck","n","left"] ["deck","n"] (L0 s_law_order):=by row_cond sc
theorem oE(T:Txt K mg):Can P w K mg base "_law_order" 2 ["deck","n"] (spI K jH):=by
 obtain⟨f,fd,D⟩:=T.d_law_order
 refine D.can (D.fn.ok sc_law_order (λvs H Q E h=>by obtain⟨d,p,i,n,qs,rfl,L,h1,h2,k⟩:=xG h;rfl) (λcdv A outer s H vs Q E hr h=>?_))
 obtain⟨d,p,i,n,qs,rfl,L,h1,h2,k⟩:=xG h
 have nd:=sc_law_order.nd
 refine⟨_,(G0 (O0 (i:=2) nd rfl (Or.inr rfl) (RG rfl T.b_list rfl T.b_range rfl (i0 (pv 1) o0)))
  (I0 (U0 (O5 rfl (N:=["k","left","deck"]) (src:=[none,some 2,some 0]) (by exact Z4 rfl rfl rfl rfl rfl rfl) (z5 rfl T.b_range (i0 (pv 1) o0)) (λ_ _ _ _=>(P0 (i:=0) (show List.Nodup (["k","left","deck"]:List Str) by decide +kernel) rfl (Or.inl rfl) (hf:=Or.inr rfl))) (λ_ _ _ _=>u5) (λ_ _ _ _=>(show PE _ _ (tBM K "list" BC _ _) from(o5 PySem.F.plainAttrs_list PySem.F.slot_list_pop PySem.F.type_list_pop YM (pv 1) (i0 (J0 (JF T) hr (i0 (pv 2) (i0 (S0 (show M2 _ (.builtin "len") (rLen K) from y6) (by rfl) T.b_len K5 (i0 (pv 1) o0)) o0))) o0)))))))),?_⟩
 show(_:TS) _ [some (.ref d),some (.int n),none] H
 row_cond hgo
 unfold pB
 row_cond hgo
 refine⟨n,rfl,h1,by lia,λm hm=>?_⟩
 row_cond hgo
 refine CG (by lia) (by lia) ?_
 intro g b
 have I:∀ a,a=d\/a=p\/a∈qs->∃ o,H a=some o:=λa z=>by
  rcases z with rfl|rfl|z
  ·exact⟨_,L.dd⟩
  ·exact⟨_,L.pp⟩
  ·obtain⟨c,f,kk,e⟩:=L.ql a z
   exact⟨_,e⟩
 have S:∀ a,a=d\/a=p\/a∈qs->a ≠ m:=λa z e=>by
  obtain⟨o,J⟩:=I a z
  rw[e,hm] at J;cases J
 have U:g ≠ m:=λe=>by rw[e,K0] at b;cases b
 rw[z0 U] at b
 have R:∀ a,a=d\/a=p\/a∈qs->a ≠ g:=λa z e=>by
  obtain⟨o,J⟩:=I a z
  rw[e,b] at J;cases J
 refine aL (λj ys σ H2=>∃(v:Option V)(row left:List Int)(C:Int),σ=[v,some (.ref m),some (.ref d)]/\ys=row.map V.int/\row.length=j/\Order n (row++left)/\H2 m=some (.lst (left.map V.int))/\H2 g=some (.lst ys)/\Dk H2 d p C qs/\∀ a,a ≠ d->a ∉ qs->a ≠ m->a ≠ g->H2 a=H a)
  ⟨_,[],(List.range n.toNat).map λ(i:Nat)=>(i:Int),i,rfl,rfl,rfl,?_,?_,K0,?_,?_⟩ (λj ys σ H2 h=>by obtain⟨v,row,left,C,_,_,_,_,_,e,_⟩:=h;exact e) ?_ ?_
 ·exact Order.id n
 ·rw[z0 U.symm,K0,U3];rfl
 ·exact L.frame λa z=>by rw[z0 (R a z),z0 (S a z)]
 ·intro a _ _ a1 W
  rw[z0 W,z0 a1]
 ·rintro j ys σ H2 hj ⟨v,row,left,C,rfl,rfl,M,G,B,u,l,q⟩
  have O:left.length=n.toNat-j:=by have:=G.len;simp at this;lia
  have md:m ≠ d:=(S d (.inl rfl)).symm
  have mq:m ∉ qs:=λz=>S m (.inr (.inr z)) rfl
  have ad:g ≠ d:=(R d (.inl rfl)).symm
  have aq:g ∉ qs:=λz=>R g (.inr (.inr z)) rfl
  row_cond hgo
  refine⟨d,p,C,_,qs,rfl,l,by rw[T0];lia,by rw[T0];lia,λr H3 i3 r0 Y X x=>?_⟩
  rw[T0] at Y
  row_cond hgo
  obtain⟨y,Z⟩:∃ y,left[r.toNat]?=some y:=⟨_,X0 (show r.toNat<left.length by lia)⟩
  refine uK (y:=.int y) ((x m md mq).trans B) (by lia) (by lia) (gS r0 (by rw[T0];exact Y)) (by rw[o1,Z];rfl) ?_
  refine⟨by rw[z0 U];exact(x g ad aq).trans u,NB (by simp;lia),_,row++[y],left.eraseIdx r.toNat,i3,rfl,by simp,by simp[M],tL G Z,?_,K0,?_,?_⟩
  ·rw[z0 U.symm,K0,YD]
  ·exact X.frame λa z=>by rw[z0 (R a z),z0 (S a z)]
  ·intro a b1 b2 b3 b4
   rw[z0 b4,z0 b3,x a b1 b2];exact q a b1 b2 b3 b4
 ·rintro ys σ H2 ⟨v,row,left,C,rfl,rfl,M,G,B,u,l,q⟩
  have O:left=[]:=by have:=G.len;simp at this;exact List.length_eq_zero_iff.mp (by lia)
  subst O
  rw[n5] at G
  row_cond hgo
  refine k row g H2 C G l b u (λa o a1 W e=>?_) λa xs e=>?_
  ·rw[q a a1 W (λz=>by rw[z,hm] at e;cases e) (λz=>by rw[z,b] at e;cases e)];exact e
  ·rw[← q a (λz=>?_) (λz=>?_) (λz=>?_) (λz=>?_)]
   ·exact e
   ·rw[z,l.dd] at e;cases e
   ·obtain⟨c,f,kk,e2⟩:=l.ql a z
    rw[e2] at e;cases e
   ·rw[z,B] at e;cases e
   ·rw[z,u] at e;cases e
end
def rQ:VIo:=λA ss Q=>A=ODk/\ss=[]/\∀(n:Int)(es:List (Int × Int)),1<=n->n<=60->PsOk n es->es.length<=1900->Q ODk (.st (webD n es))
def mmP(p:Int × Int):Int × Int:=if p.2<p.1 then (p.2,p.1) else p
theorem pO{p:Int × Int}{x y:Int}(b:zD [p.1,p.2] x)(a:n6 [p.1,p.2] y):mmP p=(x,y):=by
 have a1:=b.2 p.1 (by simp)
 have h:=b.2 p.2 (by simp)
 have f:=a.2 p.1 (by simp)
 have g:=a.2 p.2 (by simp)
 have d:=b.1
 have c:=a.1
 simp only[Z0,qA,or_false] at d c
 unfold mmP
 split
 ·exact Prod.ext (by show p.2=x;lia) (by show p.1=y;lia)
 ·exact Prod.ext (by lia) (by lia)
def ixR(row:List Int)(p:Int × Int):Int × Int:=(W2 row p.1,W2 row p.2)
theorem gP{n:Int}{row:List Int}{c:List (Int × Int)}(d:Order n row)(h:PsOk n c):(c.map (ixR row)).map mmP=c.map (reP row):=by
 rw[U3]
 refine D8 λp f=>?_
 have:=h.inn p f
 have g:=d.ne (a:=p.1) (b:=p.2) (by lia) (by lia) (by lia) (by lia) (by lia)
 show mmP (W2 row p.1,W2 row p.2)=reP row p
 unfold mmP reP
 by_cases h1:W2 row p.1<W2 row p.2
 ·rw[y0 (by simp only;lia),t0 h1]
 ·rw[t0 (by simp only;lia),y0 h1]
theorem eI{n:Int}{ps qs:List (Int × Int)}(h:PsOk n ps)(g:PsOk n qs)(d:∀ p∈ps,∀ q∈qs,p ≠ q):PsOk n (ps++qs) :=
 ⟨q7.mpr ⟨h.nd,g.nd,d⟩,λp a=>by
  rcases E1.mp a with z|z
  ·exact h.inn p z
  ·exact g.inn p z⟩
theorem tF{l:List Int}(h:∀ x∈l,2<=x):0<=l.sum:=by
 induction l with
 |nil=>simp
 | cons a l ih =>
  have:=h a (by simp)
  have:=ih λx b=>h x (by simp[b])
  simp;lia
theorem iP{sz:List Int}(h:∀ x∈sz,2<=x){i:Nat}{x:Int}(b:sz[i]?=some x):(sz.take (i+1)).sum=(sz.take i).sum+x/\(sz.take (i+1)).sum<=sz.sum/\0<=(sz.take i).sum:=by
 refine⟨by rw[G7,b];simp,?_,tF λy a=>h y (t4 a)⟩
 have:=congrArg List.sum (t5 (i+1) sz)
 rw[List.sum_append] at this
 have:=tF λy (a:y∈sz.drop (i+1))=>h y (J4 a)
 lia
section
variable{P:Program}{w:World}{K:Frag}{mg:Str->Option Value}{base:Heap}
theorem sc_law_crowds:FnScope ["deck","sizes","n","row","ties","at","size","a","b"] ["deck"] (L0 s_law_crowds):=by row_cond sc
theorem SR(T:Txt K mg):Can P w K mg base "_law_crowds" 3 ["deck"] (spI K (rQ)):=by
 obtain⟨f,fd,D⟩:=T.d_law_crowds
 obtain⟨Y,I⟩:=T.o_Grower
 have G:=I.mgx
 have a5:=T.n_Grower_held _ G
 refine D.can (D.fn.ok sc_law_crowds (λvs H Q E h=>lenI h λA ss Q' q=>by obtain⟨rfl,rfl,k⟩:=q;rfl) (λcdv A outer s H vs Q E L h=>?_))
 have nd:=sc_law_crowds.nd
 refine⟨_,(G0 (O0 (i:=1) nd rfl (Or.inl rfl) (Y0 W0 (Q1 (i0 (Q1 (i0 (R0 u3 q0 (J0 (D2 T) L (i0 (pv 0) (i0 q0 o0)))) o0)) (i0 (Q1 (i0 (R0 u3 q0 (J0 (D2 T) L (i0 (pv 0) (i0 q0 o0)))) (i0 (R0 u3 q0 (J0 (D2 T) L (i0 (pv 0) (i0 q0 o0)))) o0))) o0))) (J0 (D2 T) L (i0 (pv 0) (i0 q0 o0))) (λ_ _=>rfl)))
  (G0 (O0 (i:=2) nd rfl (Or.inl rfl) (R0 u3 (S0 (ZH rfl) (by rfl) T.b_sum FF (i0 (pv 1) o0)) (J0 (D2 T) L (i0 (pv 0) (i0 (R0 p7 q0 (S0 (ZH rfl) (by rfl) T.b_sum FF (i0 (pv 1) o0))) o0)))))
  (G0 (O0 (i:=3) nd rfl (Or.inr rfl) (J0 (oE T) L (i0 (pv 0) (i0 (pv 2) o0))))
  (G0 (O0 (i:=4) nd rfl (Or.inl rfl) (Q1 o0))
  (G0 (O0 (i:=5) nd rfl (Or.inl rfl) q0)
  (G0 (k4 R3 rfl (Q4 (pv 1)) (P0 (i:=6) nd rfl (Or.inl rfl))
   (G0 (k4 R3 rfl (vA rfl T.b_range (i0 (pv 5) (i0 (R0 u3 (pv 5) (pv 6)) o0))) (P0 (i:=7) nd rfl (Or.inr rfl))
     (I0 (J3 (o5 PySem.F.plainAttrs_list PySem.F.slot_list_extend PySem.F.type_list_extend UQ (pv 4) (i0 (O5 rfl (N:=["b","row","a"]) (src:=[none,some 3,some 7]) (by exact Z4 rfl rfl rfl rfl rfl rfl) (vA rfl T.b_range (i0 (R0 u3 (pv 7) q0) (i0 (R0 u3 (pv 5) (pv 6)) o0))) (λ_ _ _ _=>(P0 (i:=0) (show List.Nodup (["b","row","a"]:List Str) by decide +kernel) rfl (Or.inl rfl) (hf:=Or.inr rfl))) (λ_ _ _ _=>u5) (λ_ _ _ _=>(R1 (i0 (Y0 (show IxR _ (V5 K) from W0) (pv 1) (pv 2) (λ_ _=>rfl)) (i0 (Y0 (show IxR _ (V5 K) from W0) (pv 1) (pv 0) (λ_ _=>rfl)) o0))))) o0)))))
    (I0 (O0 (i:=5) nd rfl (Or.inl rfl) (R0 u3 (pv 5) (pv 6))))))
  (G0 (k4 R3 rfl (vA rfl T.b_range (i0 (pv 5) (i0 (pv 2) o0))) (P0 (i:=8) nd rfl (Or.inl rfl))
   (I0 (U1 (U2 DB (J0 (D2 T) L (i0 (pv 0) (i0 q0 o0))) q0 (T1 _))
     (I0 (J3 (o5 PySem.F.plainAttrs_list PySem.F.slot_list_append PySem.F.type_list_append z6 (pv 4) (i0 (R1 (i0 (Y0 W0 (pv 3) (J0 (D2 T) L (i0 (pv 0) (i0 (pv 8) o0))) (λ_ _=>rfl)) (i0 (Y0 W0 (pv 3) (pv 8) (λ_ _=>rfl)) o0))) o0))))
     W1)))
  (I0 (U0 (R1 (i0 (pv 2) (i0 (S0 pA (by rfl) T.b_sorted I8 (i0 (O5 rfl (N:=["tie"]) (src:=[none]) (by exact Z4 rfl rfl rfl rfl rfl rfl) (Q4 (pv 4)) (λ_ _ _ _=>(P0 (i:=0) (show List.Nodup (["tie"]:List Str) by decide +kernel) rfl (Or.inl rfl) (hf:=Or.inr rfl))) (λ_ _ _ _=>u5) (λ_ _ _ _=>(R1 (i0 (S0 (show M2 _ (.builtin "min") (uA K) from(PR rfl)) (by rfl) T.b_min m7 (i0 (pv 0) o0)) (i0 (S0 (show M2 _ (.builtin "max") (F7 K) from(Z8 rfl)) (by rfl) T.b_max p5 (i0 (pv 0) o0)) o0))))) o0)) o0)))))))))))),?_⟩
 refine R5 h λA0 ss Q' q B hK=>?_
 obtain⟨rfl,rfl,k⟩:=q
 show EvS B _ _ [some (.io ODk),none,none,none,none,none,none,none,none]
 row_cond go
 refine⟨11,rfl,rfl,by lia,by lia,λr1 c0 c8=>?_⟩
 row_cond go
 refine⟨15,rfl,rfl,by lia,by lia,λr2 b1 b6=>?_⟩
 row_cond go
 refine⟨15,rfl,rfl,by lia,by lia,λr3 b7 c7=>?_⟩
 row_cond go
 refine⟨2,rfl,rfl,by lia,by lia,λr4 c4 b3=>?_⟩
 obtain⟨sz,J,U,a9,a8⟩:∃ sz:List Int,V0 [PyData.list [.int (12+r1)],.list [.int (2+r2),.int (2+r3)]] r4=some (.list (sz.map .int))/\(∀ x∈sz,2<=x)/\(2<=sz.sum/\sz.sum<=32)/\sz.length<=2:=by
  rcases(show r4=0\/r4=1 by lia) with rfl|rfl
  ·exact⟨[12+r1],rfl,λx S=>by simp at S;lia,by simp;lia,by simp⟩
  ·exact⟨[2+r2,2+r3],rfl,λx S=>by simp at S;lia,by simp;lia,by simp⟩
 row_cond go
 refine bF rfl ?_
 row_cond go
 refine bF rfl ?_
 row_cond go
 refine⟨61-sz.sum,rfl,rfl,by lia,by lia,λr5 c1 c6=>?_⟩
 row_cond go
 refine⟨sz.sum+r5,rfl,rfl,by lia,by lia,λrow O=>R7 T4 ?_⟩
 obtain⟨n,hn,c2,a6⟩:∃ n,n=sz.sum+r5/\sz.sum<=n/\n<=60:=⟨_,rfl,by lia,by lia⟩
 rw[← hn] at O
 rw[← hn]
 have J:∀ j:Int,0<=j->j<n->∃ x,V0 (row.map PyData.int) j=some (.int x)/\0<=x/\x<n/\x=W2 row j:=λj Z j1=>⟨W2 row j,L5 Z (by rw[o1,(O.at Z j1).1];rfl),(O.at Z j1).2.1,(O.at Z j1).2.2,rfl⟩
 row_cond go
 refine Z6 (λi e=>∃ M v C ps,e=[some (.io ODk),some (.st (.list (sz.map .int))),some (.st (.int n)),some (.st (.list (row.map .int))),some (.own (OL ((ps.map (ixR row)).map prD))),some (.st (.int (sz.take i).sum)),M,v,C]/\PsOk n ps/\(ps.length:Int)<=32 * (sz.take i).sum/\∀ p∈ps,p.2<(sz.take i).sum) ⟨none,none,none,[],rfl,PsOk.nil n,by simp,λp l=>by cases l⟩ ?_ ?_
 ·rintro i x e S g
  refine exS4 e g λM v C ps d=>?_
  have o:=d.1
  have r:=d.2.1
  have m:=d.2.2
  clear d g
  have b4:=U x (v2 S)
  obtain⟨t1,t2,t3⟩:=iP U S
  rw[t1] at t2
  rw[t1]
  generalize (sz.take i).sum=c at r t2 t3 m
  row_cond go
  refine X7 (λj e=>∃ v C ps,e=[some (.io ODk),some (.st (.list (sz.map .int))),some (.st (.int n)),some (.st (.list (row.map .int))),some (.own (OL ((ps.map (ixR row)).map prD))),some (.st (.int c)),some (.st (.int x)),v,C]/\PsOk n ps/\(ps.length:Int)<=32 * (c+j)/\∀ p∈ps,p.1<c+(j:Int)/\p.2<c+x) ⟨_,_,ps,rfl,o,by simpa using r,λp l=>by have:=m p l;have:=o.inn p l;lia⟩ ?_ ?_
  ·clear o r m ps
   rintro j e hj g
   refine exS3 e g λv C ps d=>?_
   have o:=d.1
   have r:=d.2.1
   have m:=d.2.2
   clear d g
   have b8:c+(j:Int)<c+x:=by lia
   obtain⟨xa,ea,c5,c3,a0⟩:=J (c+(j:Int)) (by lia) (by lia)
   row_cond go
   unfold rngD
   refine z8 (λu:Nat=>prD (xa,W2 row (c+(j:Int)+1+(u:Int)))) rfl (by simp;lia) (λu R B' hB=>?_) ?_
   ·have W:=l2.mp R
    have hb:=O.at (a:=c+(j:Int)+1+(u:Int)) (by lia) (by lia)
    have eb:V0 (row.map PyData.int) (c+(j:Int)+1+(u:Int))=some (.int (W2 row (c+(j:Int)+1+(u:Int)))):=L5 (by lia) (by rw[o1,hb.1];rfl)
    row_cond go
    rfl
   ·refine⟨_,_,rfl,rfl,by simp;lia,?_⟩
    row_cond qb
    subst a0
    refine⟨_,_,ps++(List.range (c+x-(c+(j:Int)+1)).toNat).map λu:Nat=>(c+(j:Int),c+(j:Int)+1+(u:Int)),by simp only[w4,U3];rfl,eI o ⟨?_,λp l=>?_⟩ λp l q X e=>?_,by simp;lia,λp l=>?_⟩
    ·exact t7.mpr (List.nodup_range.imp λ{a b} h e=>h (by have:=congrArg Prod.snd e;simp only at this;lia))
    ·obtain⟨u,R,rfl⟩:=P1.mp l
     have W:=l2.mp R
     exact⟨by simp only;lia,by simp only;lia,by simp only;lia⟩
    ·obtain⟨u,R,rfl⟩:=P1.mp X
     have:=m p l
     rw[e] at this
     simp only at this
     lia
    ·rcases E1.mp l with z|z
     ·have:=m p z
      lia
     ·obtain⟨u,R,rfl⟩:=P1.mp z
      have W:=l2.mp R
      exact⟨by simp only;lia,by simp only;lia⟩
  ·clear o r m ps
   rintro e g
   refine exS3 e g λv C ps d=>?_
   have o:=d.1
   have r:=d.2.1
   have m:=d.2.2
   clear d g
   row_cond go
   exact⟨_,_,_,ps,rfl,o,by lia,λp l=>(m p l).2⟩
 ·rintro e g
  refine exS4 e g λM v C ps d=>?_
  have o:=d.1
  have r:=d.2.1
  have m:=d.2.2
  clear d g
  rw[D6] at r m ⊢
  row_cond go
  refine X7 (λj e=>∃ M v C ps,e=[some (.io ODk),some (.st (.list (sz.map .int))),some (.st (.int n)),some (.st (.list (row.map .int))),some (.own (OL ((ps.map (ixR row)).map prD))),some (.st (.int sz.sum)),M,v,C]/\PsOk n ps/\(ps.length:Int)<=1024+j/\∀ p∈ps,p.2<sz.sum+(j:Int)) ⟨_,_,_,ps,rfl,o,by lia,λp l=>by have:=m p l;lia⟩ ?_ ?_
  ·clear o r m ps
   rintro j e hj g
   refine exS4 e g λM v C ps d=>?_
   have o:=d.1
   have r:=d.2.1
   have m:=d.2.2
   clear d g
   obtain⟨xb,eb,b9,b2,a3⟩:=J (sz.sum+(j:Int)) (by lia) (by lia)
   row_cond go
   refine⟨5,rfl,rfl,by lia,by lia,λq qa qb=>?_⟩
   row_cond go
   refine P5 (λX=>?_) (λX=>?_)
   ·row_cond go
    refine⟨sz.sum+(j:Int),rfl,rfl,by lia,by lia,λy ya yb=>?_⟩
    obtain⟨xy,ey,b0,b5,a1⟩:=J y ya (by lia)
    row_cond go
    subst a1 a3
    refine⟨_,_,_,ps++[(y,sz.sum+(j:Int))],by rw[w4,w4];rfl,eI o ⟨by simp,λp l=>by cases N2.mp l;exact⟨by simp only;lia,by simp only;lia,by simp only;lia⟩⟩ λp l q X e=>?_,by simp;lia,λp l=>?_⟩
    ·cases N2.mp X
     have:=m p l
     rw[e] at this
     simp only at this
     lia
    ·rcases E1.mp l with z|z
     ·have:=m p z
      push_cast
      lia
     ·cases N2.mp z
      simp only
      push_cast
      lia
   ·row_cond go
    exact⟨_,_,_,ps,rfl,o,by push_cast;lia,λp l=>by have:=m p l;push_cast;lia⟩
  ·clear o r m ps
   rintro e g
   refine exS4 e g λM v C ps d=>?_
   have o:=d.1
   have r:=d.2.1
   have m:=d.2.2
   clear d g
   row_cond go
   refine oA (ps:=ps.map (reP row)) ?_
   row_cond go
   refine z8 (xs:=ps.map (ixR row)) (λp:Int × Int=>prD (mmP p)) rfl (by rw[T0];lia) (λp l B' hB=>?_) ?_
   ·row_cond go
    refine aO (ns:=[p.1,p.2]) rfl (by simp) λm1 a2=>?_
    row_cond go
    refine dP (ns:=[p.1,p.2]) rfl (by simp) λm2 a4=>?_
    row_cond go
    exact⟨by rw[pO a2 a4],rfl⟩
   ·row_cond go
    refine⟨by rw[← gP O o];simp only[U3];rfl,λqs l hs=>W4 ?_⟩
    row_cond go
    have hR:=o.re O
    exact k n qs (by lia) a6 ⟨l.nodup_iff.mpr hR.nd,λp a7=>hR.inn p (l.mem_iff.mp a7)⟩ (by rw[l.length_eq,T0];lia)
end
def zJ:VIo:=λA ss Q=>∃ most:Int,A=ODk/\ss=[.st (.int most)]/\(most=60\/most=24)/\∀(n:Int)(es:List (Int × Int)),1<=n->n<=60->PsOk n es->es.length<=1900->Q ODk (.st (webD n es))
section
variable{P:Program}{w:World}{K:Frag}{mg:Str->Option Value}{base:Heap}
theorem sc_law_web:FnScope ["deck","most","n","row","kind","ties","k","heads","head","a","b"] ["deck","most"] (L0 s_law_web):=by row_cond sc
theorem KJ(T:Txt K mg):Can P w K mg base "_law_web" 4 ["deck","most"] (spI K (zJ)):=by
 obtain⟨f,fd,D⟩:=T.d_law_web
 obtain⟨U,C⟩:=T.o_Grower
 have y:=C.mgx
 have b6:=T.n_Grower_held _ y
 refine D.can (D.fn.ok sc_law_web (λvs H Q E h=>lenI h λA ss Q' q=>by obtain⟨most,rfl,rfl,O,k⟩:=q;rfl) (λcdv A outer s H vs Q E c h=>?_))
 have nd:=sc_law_web.nd
 refine⟨_,(G0 (U1 (PW.pt (w8 (U2 M5 (pv 1) q0 (T1 _)) (k8 (U2 M5 (J0 (D2 T) c (i0 (pv 0) (i0 q0 o0))) q0 (T1 _)))))
   (I0 (U0 (J0 (SR T) c (i0 (pv 0) o0))))
   W1)
  (G0 (O0 (i:=2) nd rfl (Or.inl rfl) (R0 u3 q0 (J0 (D2 T) c (i0 (pv 0) (i0 (Y0 W0 (Q1 (i0 q0 (i0 q0 (i0 q0 (i0 (pv 1) o0))))) (J0 (D2 T) c (i0 (pv 0) (i0 q0 o0))) (λ_ _=>rfl)) o0)))))
  (G0 (O0 (i:=3) nd rfl (Or.inl rfl) (Y0 W0 (Q1 (i0 (RG rfl T.b_list rfl T.b_range rfl (i0 (pv 2) o0)) (i0 (J0 (oE T) c (i0 (pv 0) (i0 (pv 2) o0))) o0))) (J0 (D2 T) c (i0 (pv 0) (i0 q0 o0))) (λ_ _=>rfl)))
  (G0 (O0 (i:=4) nd rfl (Or.inl rfl) (J0 (D2 T) c (i0 (pv 0) (i0 q0 o0))))
  (G0 (O0 (i:=5) nd rfl (Or.inl rfl) vE)
  (G0 (k4 R3 rfl (vA rfl T.b_range (i0 q0 (i0 (pv 2) o0))) (P0 (i:=6) nd rfl (Or.inl rfl))
   (G0 (O0 (i:=7) nd rfl (Or.inl rfl) (Q1 (i0 (R0 p7 (pv 6) q0) (i0 (J0 (D2 T) c (i0 (pv 0) (i0 (pv 6) o0))) (i0 (S0 (S7 rfl) (by rfl) T.b_max p5 (i0 q0 (i0 (R0 p7 (R0 p7 (pv 6) q0) (J0 (D2 T) c (i0 (pv 0) (i0 q0 o0)))) o0))) (i0 q0 (i0 (R0 xC (pv 6) q0) o0)))))))
    (G0 (O0 (i:=8) nd rfl (Or.inl rfl) (Y0 W0 (R0 O6 (pv 7) (Q1 (i0 (J0 (D2 T) c (i0 (pv 0) (i0 (S0 (N7 rfl) (by rfl) T.b_min m7 (i0 (pv 6) (i0 q0 o0))) o0))) o0))) (pv 4) (λ_ _=>rfl)))
    (I0 (MB (Q6 c) (pv 5) (R1 (i0 (S0 (N7 rfl) (by rfl) T.b_min m7 (i0 (Y0 W0 (pv 3) (pv 6) (λ_ _=>rfl)) (i0 (Y0 W0 (pv 3) (pv 8) (λ_ _=>rfl)) o0))) (i0 (S0 (S7 rfl) (by rfl) T.b_max p5 (i0 (Y0 W0 (pv 3) (pv 6) (λ_ _=>rfl)) (i0 (Y0 W0 (pv 3) (pv 8) (λ_ _=>rfl)) o0))) o0))) u4 rfl)))))
  (G0 (U1 (PW.pt (w8 (U2 M5 (J0 (D2 T) c (i0 (pv 0) (i0 q0 o0))) q0 (T1 _)) (k8 (U2 DB (pv 2) q0 (T1 _)))))
   (I0 (MB (Q6 c) (pv 5) (R1 (i0 (S0 (N7 rfl) (by rfl) T.b_min m7 (i0 (Y0 W0 (pv 3) q0 (λ_ _=>rfl)) (i0 (Y0 W0 (pv 3) (Y9 z9 q0) (λ_ _=>rfl)) o0))) (i0 (S0 (S7 rfl) (by rfl) T.b_max p5 (i0 (Y0 W0 (pv 3) q0 (λ_ _=>rfl)) (i0 (Y0 W0 (pv 3) (Y9 z9 q0) (λ_ _=>rfl)) o0))) o0))) u4 rfl))
   W1)
  (G0 (k4 R3 rfl (z5 rfl T.b_range (i0 (Y0 W0 (Q1 (i0 q0 (i0 (J0 (D2 T) c (i0 (pv 0) (i0 q0 o0))) (i0 (J0 (D2 T) c (i0 (pv 0) (i0 (R0 u3 (pv 2) q0) o0))) (i0 (J0 (D2 T) c (i0 (pv 0) (i0 (R0 w9 q0 (pv 2)) o0))) o0))))) (J0 (D2 T) c (i0 (pv 0) (i0 q0 o0))) (λ_ _=>rfl)) o0)) (P0 (i:=6) nd rfl (Or.inl rfl))
   (G0 (O0 (i:=9) nd rfl (Or.inl rfl) (J0 (D2 T) c (i0 (pv 0) (i0 (pv 2) o0))))
    (G0 (O0 (i:=10) nd rfl (Or.inl rfl) (J0 (D2 T) c (i0 (pv 0) (i0 (pv 2) o0))))
    (I0 (U1 (U2 JD (pv 9) (pv 10) (T1 _))
     (I0 (MB (Q6 c) (pv 5) (R1 (i0 (S0 (N7 rfl) (by rfl) T.b_min m7 (i0 (pv 9) (i0 (pv 10) o0))) (i0 (S0 (S7 rfl) (by rfl) T.b_max p5 (i0 (pv 9) (i0 (pv 10) o0))) o0))) u4 rfl))
     W1)))))
  (G0 (k4 R3 rfl (z5 rfl T.b_range (i0 (Y0 W0 (Q1 (i0 q0 (i0 q0 (i0 (J0 (D2 T) c (i0 (pv 0) (i0 q0 o0))) (i0 (J0 (D2 T) c (i0 (pv 0) (i0 (R0 u3 (pv 2) q0) o0))) o0))))) (J0 (D2 T) c (i0 (pv 0) (i0 q0 o0))) (λ_ _=>rfl)) o0)) (P0 (i:=6) nd rfl (Or.inl rfl))
   (I0 (U1 (U2 (kL c.units) (pv 5) vE (T1 _))
     (I0 (J3 (UR (Q6 c) (pv 5) (Y0 W0 (S0 (FG rfl) (by rfl) T.b_sorted I8 (i0 (pv 5) o0)) (J0 (D2 T) c (i0 (pv 0) (i0 (S0 eP (by rfl) T.b_len K5 (i0 (pv 5) o0)) o0))) (λ_ _=>rfl)) ⟨rfl,rfl,rfl,rfl⟩)))
     W1)))
  (I0 (U0 (R1 (i0 (pv 2) (i0 (S0 (FG rfl) (by rfl) T.b_sorted I8 (i0 (pv 5) o0)) o0)))))))))))))),?_⟩
 refine R5 h λA0 ss Q' q B hK=>?_
 obtain⟨most,rfl,rfl,O,k⟩:=q
 show EvS B _ _ [some (.io ODk),some (.st (.int most)),none,none,none,none,none,none,none,none,none]
 refine' cutR (R:=EvS B ?c1 ?d1 [some (.io ODk),some (.st (.int most)),none,none,none,none,none,none,none,none,none]) (λR=>?K1) ?K2
 case K1 =>
  rcases O with rfl|rfl
  ·row_cond go
   refine⟨3,rfl,rfl,by lia,by lia,λr0 c4 e7=>?_⟩
   row_cond go
   refine P5 (λa0=>?_) (λa0=>?_)
   ·row_cond go
    exact⟨rfl,rfl,λn es n0 n1 d z=>⟨ODk,rfl,k n es n0 n1 d z⟩⟩
   ·repeat (first|exact R|row_cond st)
  ·repeat (first|exact R|row_cond st)
 case K2 =>
  row_cond go
  refine⟨4,rfl,rfl,by lia,by lia,λM f6 h4=>?_⟩
  obtain⟨S,e2,f1,e6⟩:∃ S:Int,V0 [PyData.int 4,PyData.int 12,PyData.int 12,PyData.int most] M=some (.int S)/\4<=S/\S<=60:=by
   rcases(show M=0\/M=1\/M=2\/M=3 by lia) with rfl|rfl|rfl|rfl
   ·exact⟨4,rfl,by lia,by lia⟩
   ·exact⟨12,rfl,by lia,by lia⟩
   ·exact⟨12,rfl,by lia,by lia⟩
   ·exact⟨most,rfl,by lia,by lia⟩
  row_cond go
  refine⟨S,rfl,rfl,by lia,by lia,λr2 d7 f2=>?_⟩
  row_cond go
  obtain⟨n,hn,n0,n1⟩:∃ n,1+r2=n/\1<=n/\n<=60:=⟨_,rfl,by lia,by lia⟩
  rw[hn]
  row_cond go
  refine⟨n,rfl,rfl,by lia,by lia,λI a5=>W4 ?_⟩
  row_cond go
  refine⟨2,rfl,rfl,by lia,by lia,λr3 f3 h0=>?_⟩
  obtain⟨row,b9,L⟩:∃ row:List Int,V0 [PyData.list (rngD 0 n.toNat),PyData.list (I.map .int)] r3=some (.list (row.map .int))/\Order n row:=by
   rcases(show r3=0\/r3=1 by lia) with rfl|rfl
   ·exact⟨(List.range n.toNat).map λ(i:Nat)=>(i:Int),by show some _=some _;rw[LQ],Order.id n⟩
   ·exact⟨I,rfl,a5⟩
  have F:∀ j:Int,0<=j->j<n->∃ x,V0 (row.map PyData.int) j=some (.int x)/\0<=x/\x<n/\x=W2 row j:=λj X j1=>⟨W2 row j,L5 X (by rw[o1,(L.at X j1).1];rfl),(L.at X j1).2.1,(L.at X j1).2.2,rfl⟩
  row_cond go
  refine⟨6,rfl,rfl,by lia,by lia,λkind ka kb=>?_⟩
  row_cond go
  rw[aK]
  refine X7 (λi e=>∃ v g l u o ps,e=[some (.io ODk),some (.st (.int most)),some (.st (.int n)),some (.st (.list (row.map .int))),some (.st (.int kind)),some (.own (OT (kE ps))),v,g,l,u,o]/\PsOk n ps/\ps.length<=i) ⟨_,_,_,_,_,[],rfl,PsOk.nil n,N0 _⟩ ?_ ?_
  ·rintro i e hi b
   refine exS6 e b λv g l u o ps a=>?_
   have d:=a.1
   have z:=a.2
   clear a b
   have Z:1+(i:Int)<n:=by lia
   obtain⟨xk,ek,h5,f7,b4⟩:=F (1+(i:Int)) (by lia) Z
   have J:(kE ps).length<=999999:=by rw[xB];lia
   row_cond go
   refine⟨1+(i:Int),rfl,rfl,by lia,by lia,λd1 e3 f0=>?_⟩
   row_cond go
   refine⟨3,rfl,rfl,by lia,by lia,λd2 f9 h6=>?_⟩
   iterate 16 row_cond st
   refine R7 T4 ?_
   row_cond go
   refine⟨_,rfl,rfl,by split <;> lia,by split <;> lia,λd3 g6 b5=>?_⟩
   have d4:d3<1+(i:Int):=by split at b5 <;> lia
   obtain⟨hd,d5,a6,e8⟩:∃ hd:Int,V0 ([PyData.int (1+(i:Int)-1),PyData.int d1,PyData.int (if 1+(i:Int)-1-d2 > 0 then 1+(i:Int)-1-d2 else 0),PyData.int 0,PyData.int ((1+(i:Int)) / 2)]++[PyData.int d3]) kind=some (.int hd)/\0<=hd/\hd<1+(i:Int):=by
    rcases(show kind=0\/kind=1\/kind=2\/kind=3\/kind=4\/kind=5 by lia) with rfl|rfl|rfl|rfl|rfl|rfl
    ·exact⟨_,rfl,by lia,by lia⟩
    ·exact⟨_,rfl,by lia,by lia⟩
    ·exact⟨_,rfl,by split <;> lia,by split <;> lia⟩
    ·exact⟨_,rfl,by lia,by lia⟩
    ·exact⟨_,rfl,by lia,by lia⟩
    ·exact⟨_,rfl,by lia,by lia⟩
   obtain⟨xh,eh,c7,e5,a7⟩:=F hd a6 (by lia)
   have b0:xk ≠ xh:=by rw[b4,a7];exact L.ne (by lia) (by lia) (by lia) (by lia) (by lia)
   row_cond go
   rw[AD]
   exact⟨_,_,_,_,_,_,rfl,d.add (by split <;> lia) (by split <;> split <;> lia) (by split <;> lia),T2 aC (by lia)⟩
  ·rintro e b
   refine exS6 e b λv g l u o ps a=>?_
   have d:=a.1
   have z:=a.2
   clear a b
   have J:(kE ps).length<=999999:=by rw[xB];lia
   obtain⟨x0,e0,c8,f4,a9⟩:=F 0 (by lia) (by lia)
   obtain⟨xl,el,g2,g8,b7⟩:∃ x,V0 (row.map PyData.int) (-1)=some (.int x)/\0<=x/\x<n/\x=W2 row (n-1):=by
    obtain⟨x,ex,x0,x1,a8⟩:=F (n-1) (by lia) (by lia)
    refine⟨x,?_,x0,x1,a8⟩
    have hl:(row.map PyData.int).length=n.toNat:=by rw[T0];exact L.len
    have h2:ixN n.toNat (-1)=some (n.toNat-1):=by unfold ixN;rw[y0 (by lia),t0 (by lia)];congr 1;lia
    have h3:ixN n.toNat (n-1)=some (n.toNat-1):=by unfold ixN;rw[t0 (by lia),t0 (by lia)];congr 1;lia
    unfold V0 at ex ⊢
    rw[hl,h3] at ex
    rw[hl,h2]
    exact ex
   refine' OA (by assumption) ?_
   refine SE (λc_ d0=>?_)
   refine fQ (λe=>∃ ps,e=[some (.io ODk),some (.st (.int most)),some (.st (.int n)),some (.st (.list (row.map .int))),some (.st (.int kind)),some (.own (OT (kE ps))),v,g,l,u,o]/\PsOk n ps/\ps.length<=61) ?_ ?_
   ·row_cond go
    refine⟨4,rfl,rfl,by lia,by lia,λq qa qb=>?_⟩
    row_cond go
    refine P5 (λh=>?_) (λh=>?_)
    ·row_cond go
     refine P5 (λh=>?_) (λh=>?_)
     ·row_cond go
      rw[AD]
      have b0:x0 ≠ xl:=by rw[a9,b7];exact L.ne (by lia) (by lia) (by lia) (by lia) (by lia)
      exact⟨_,rfl,d.add (by split <;> lia) (by split <;> split <;> lia) (by split <;> lia),T2 aC (by lia)⟩
     ·row_cond go
      exact⟨ps,rfl,d,by lia⟩
    ·row_cond go
     exact⟨ps,rfl,d,by lia⟩
   ·clear d z J ps
    rintro e b
    refine exS1 e b λps a=>?_
    have d:=a.1
    have z:=a.2
    clear a b
    row_cond go
    refine⟨4,rfl,rfl,by lia,by lia,λa1 c2 g1=>?_⟩
    row_cond go
    refine⟨n+1,rfl,rfl,by lia,by lia,λa2 d6 f5=>?_⟩
    row_cond go
    refine⟨4 * n,rfl,rfl,by lia,by lia,λa3 g4 g5=>?_⟩
    row_cond go
    refine⟨4,rfl,rfl,by lia,by lia,λN h1 c5=>?_⟩
    obtain⟨m,em,m0,m1⟩:∃ m:Int,V0 [PyData.int 0,PyData.int a1,PyData.int a2,PyData.int a3] N=some (.int m)/\0<=m/\m<=240:=by
     rcases(show N=0\/N=1\/N=2\/N=3 by lia) with rfl|rfl|rfl|rfl <;> exact⟨_,rfl,by lia,by lia⟩
    row_cond go
    refine X7 (λi e=>∃ v g l u o ps,e=[some (.io ODk),some (.st (.int most)),some (.st (.int n)),some (.st (.list (row.map .int))),some (.st (.int kind)),some (.own (OT (kE ps))),v,g,l,u,o]/\PsOk n ps/\ps.length<=61+i) ⟨_,_,_,_,_,ps,rfl,d,z⟩ ?_ ?_
    ·rintro i e hi b
     refine exS6 e b λv g l u o ps a=>?_
     have d:=a.1
     have z:=a.2
     clear a b
     have J:(kE ps).length<=999999:=by rw[xB];lia
     row_cond go
     refine⟨n,rfl,rfl,by lia,by lia,λba e9 g0=>?_⟩
     row_cond go
     refine⟨n,rfl,rfl,by lia,by lia,λbb c6 g3=>?_⟩
     row_cond go
     refine pR (λh=>?_) (λh=>?_)
     ·row_cond go
      rw[AD]
      exact⟨_,_,_,_,_,_,rfl,d.add (by split <;> lia) (by split <;> split <;> lia) (by split <;> lia),T2 aC (by lia)⟩
     ·row_cond go
      exact⟨_,_,_,_,_,ps,rfl,d,by lia⟩
    ·rintro e b
     refine exS6 e b λv g l u o ps a=>?_
     have d:=a.1
     have z:=a.2
     clear a b
     row_cond go
     refine⟨6,rfl,rfl,by lia,by lia,λb1 d8 f8=>?_⟩
     row_cond go
     refine⟨n+1,rfl,rfl,by lia,by lia,λb2 c3 g7=>?_⟩
     row_cond go
     refine⟨4,rfl,rfl,by lia,by lia,λW e4 d9=>?_⟩
     obtain⟨m',c9,g9,e1⟩:∃ m:Int,V0 [PyData.int 0,PyData.int 1,PyData.int b1,PyData.int b2] W=some (.int m)/\0<=m/\m<=61:=by
      rcases(show W=0\/W=1\/W=2\/W=3 by lia) with rfl|rfl|rfl|rfl <;> exact⟨_,rfl,by lia,by lia⟩
     row_cond go
     have Y:ps.length<=301:=by lia
     refine X7 (λi e=>∃ v g l u o ps,e=[some (.io ODk),some (.st (.int most)),some (.st (.int n)),some (.st (.list (row.map .int))),some (.st (.int kind)),some (.own (OT (kE ps))),v,g,l,u,o]/\PsOk n ps/\ps.length<=301) ⟨_,_,_,_,_,ps,rfl,d,Y⟩ ?_ ?_
     ·rintro i e hi b
      refine exS6 e b λv g l u o ps a=>?_
      have d:=a.1
      have z:=a.2
      clear a b
      iterate 3 row_cond st
      refine HJ (.inl rfl) ?_
      row_cond go
      cases hps:ps with
      | nil =>
       refine M6 ?_
       row_cond go
       exact⟨_,_,_,_,_,[],rfl,PsOk.nil n,by simp⟩
      | cons p0 pr =>
       have c0:0<ps.length:=by rw[hps];simp
       rw[← hps]
       rw[t0 (show(!(kE ps).isEmpty)=true by rw[hps];rfl)]
       refine xH (Z2 ?_)
       refine vK (.inl rfl) ?_
       refine aI ?_
       refine F3 (QG (.inl rfl) λqs G hs=>W4 ?_)
       refine sE rfl ?_
       refine JC (kJ (.inl rfl) ?_)
       row_cond go
       rw[xB]
       refine⟨_,rfl,rfl,by lia,by lia,λr ra rb=>?_⟩
       obtain⟨q,hq⟩:∃ q,qs[r.toNat]?=some q:=⟨_,X0 (show r.toNat<qs.length by rw[G.length_eq];lia)⟩
       have eq:V0 (qs.map prD) r=some (prD q):=L5 ra (by rw[o1,hq];rfl)
       obtain⟨j,hj⟩:=List.getElem?_of_mem (G.mem_iff.mp (v2 hq))
       row_cond go
       refine⟨kE ps,[Sum.inl q.1,Sum.inl q.2],j,.bool true,rfl,rfl,by unfold kE;rw[o1,hj];rfl,?_⟩
       row_cond qb
       row_cond go
       exact⟨_,_,_,_,_,ps.eraseIdx j,by rw[show(kE ps).eraseIdx j=kE (ps.eraseIdx j) from YD _ _ _],⟨d.nd.sublist (List.eraseIdx_sublist ps j),λp G=>d.inn p ((List.eraseIdx_sublist ps j).mem G)⟩,T2 (List.length_eraseIdx_le ps j) z⟩
     ·rintro e b
      refine exS6 e b λv g l u o ps a=>?_
      have d:=a.1
      have z:=a.2
      clear a b
      iterate 6 row_cond st
      refine F3 (QG (.inl rfl) λqs G hs=>W4 ?_)
      row_cond go
      exact k n qs n0 n1 ⟨G.nodup_iff.mpr d.nd,λp b8=>d.inn p (G.mem_iff.mp b8)⟩ (by rw[G.length_eq];lia)
end
structure FarD(n:Int)(f:Int->Option Nat)(es:List (Key × PyData)):Prop where
 mem:∀ k d,(k,d)∈es->∃(v:Int)(j:Nat),k=.inl v/\d=.int (j:Int)/\0<=v/\v<n/\f v=some j
 all:∀(v:Int)(j:Nat),f v=some j->((.inl v:Key),PyData.int (j:Int))∈es
 nd:(es.map (·.1)).Nodup
 len:es.length+cnt f n.toNat=n.toNat
theorem FarD.val{n:Int}{f:Int->Option Nat}{es:List (Key × PyData)}(h:FarD n f es)(v:Int):valD es (.inl v)=(f v).map λj=>.int (j:Int):=by
 unfold valD
 cases e:es.find? λe=>decide (e.1=(.inl v:Key)) with
 | none =>
  rw[List.find?_eq_none] at e
  cases hf:f v with
  |none=>rfl
  |some j=>exact absurd (O4 rfl) (e _ (h.all v j hf))
 | some p =>
  obtain⟨k,d⟩:=p
  have g:k=.inl v:=by simpa using List.find?_some e
  obtain⟨u,j,a,b,_,_,c⟩:=h.mem k d (List.mem_of_find?_eq_some e)
  rw[g] at a
  cases a
  rw[c,b]
  rfl
theorem WN(n:Nat):cnt (λ_=>none) n=n:=by
 induction n with
 |zero=>rfl
 |succ n ih=>unfold cnt;rw[ih,t0 rfl]
theorem FarD.start{n a:Int}(a0:0<=a)(a1:a<n):FarD n (Gr.label (λ_=>none) a 0) [(.inl a,.int 0)]:=by
 refine⟨λk d hm=>?_,λv j b=>?_,by simp,?_⟩
 ·have:(k,d)=((.inl a:Key),PyData.int 0):=by simpa using hm
  cases this
  exact⟨a,0,rfl,rfl,a0,a1,Gr.label_same⟩
 ·by_cases e:v=a
  ·subst e
   rw[Gr.label_same] at b
   cases b
   exact N2.mpr rfl
  ·rw[Gr.label_ne e] at b
   cases b
 ·have f:=Q9 (far:=λ_=>none) (d:=0) a0 rfl (n:=n.toNat) (by lia)
  have c:=WN n.toNat
  simp only[W3,W7]
  lia
theorem FarD.put{n v:Int}{f:Int->Option Nat}{es:List (Key × PyData)}{j:Nat}(h:FarD n f es)(v0:0<=v)(s:v<n)(q:f v=none):FarD n (Gr.label f v j) (putD es (.inl v) (.int (j:Int))):=by
 have a:∀ p∈es,p.1 ≠ (.inl v:Key):=λp g e=>by
  obtain⟨u,i,b,_,_,_,l⟩:=h.mem p.1 p.2 g
  rw[e] at b
  cases b
  rw[q] at l
  cases l
 have c:putD es (.inl v) (.int (j:Int))=es++[(.inl v,.int (j:Int))]:=by
  unfold putD
  rw[y0]
  rw[List.any_eq_true]
  rintro⟨p,g,e⟩
  exact a p g (by simpa using e)
 rw[c]
 refine⟨λk d hm=>?_,λu i m=>?_,?_,?_⟩
 ·rcases E1.mp hm with hm|hm
  ·obtain⟨u,i,b,r,l,w,B⟩:=h.mem k d hm
   have o:u ≠ v:=λe=>a (k,d) hm (by rw[← e];exact b)
   exact⟨u,i,b,r,l,w,by rw[Gr.label_ne o];exact B⟩
  ·have:(k,d)=((.inl v:Key),PyData.int (j:Int)):=by simpa using hm
   cases this
   exact⟨v,j,rfl,rfl,v0,s,Gr.label_same⟩
 ·by_cases e:u=v
  ·subst e
   rw[Gr.label_same] at m
   cases m
   exact K3 _ (N2.mpr rfl)
  ·rw[Gr.label_ne e] at m
   exact U4 _ (h.all u i m)
 ·rw[w4,q7]
  refine⟨h.nd,by simp,λx A y z=>?_⟩
  obtain⟨p,g,rfl⟩:=P1.mp A
  have:y=.inl v:=by simpa using z
  rw[this]
  exact a p g
 ·have b:=Q9 (d:=j) v0 q (n:=n.toNat) (by lia)
  have r:=h.len
  rw[Q3]
  simp only[W3,W7]
  lia
theorem FarD.ne{n:Int}{f:Int->Option Nat}{es:List (Key × PyData)}(h:FarD n f es){v:Int}{j:Nat}(a:f v=some j):es ≠ []:=λe=>by
 have:=h.all v j a
 rw[e] at this
 cases this
theorem FarD.congr{n:Int}{f g:Int->Option Nat}{es:List (Key × PyData)}(h:FarD n f es)(e:∀ v,f v=g v):FarD n g es:=by
 have:f=g:=funext e
 rw[← this]
 exact h
theorem rG:∀(ns:List Int),z1 (.list (ns.map .int))=true
 |[]=>rfl
 |a::ns=>by have:=rG ns;simp only[z1,P2,plainDs] at *;simp[this]
theorem EO(ns:List Int):(PyData.list (ns.map .int)).depth<=60:=by
 have:PyData.depthAll (ns.map .int)<=1:=MD λd hd=>by
  obtain⟨_,_,rfl⟩:=P1.mp hd
  simp[PyData.depth]
 simp only[PyData.depth]
 lia
theorem gK(ns:List Int):PyData.eqv (.list (ns.map .int)) (.list [])=ns.isEmpty:=by cases ns <;> rfl
structure FarsD(n:Int)(es:List (Int × Int))(ess:List (List (Key × PyData))):Prop where
 len:(ess.length:Int)=n
 row:∀(v:Int) fs,0<=v->ess[v.toNat]?=some fs->FarD n (Gr.farO (Tied es) v) fs
def IM:VP:=λss Q=>∃(n:Int)(es:List (Int × Int)),ss=[.st (webD n es)]/\0<=n/\n<=100/\InN n es/\es.length<=10000/\∀ tl,TiedL n (Tied es) tl->Q (.own (ODL (tlD tl)))
def cO:VP:=λss Q=>∃(n:Int)(es:List (Int × Int)),ss=[.st (webD n es)]/\1<=n/\n<=100/\InN n es/\es.length<=10000/\∀ ess,FarsD n es ess->Q (.own (OL (ess.map abw)))
section
variable{P:Program}{w:World}{K:Frag}{mg:Str->Option Value}{base:Heap}
theorem sc_law_tied:FnScope ["web","found","a","b"] ["web"] (L0 s_law_tied):=by row_cond sc
theorem xN(T:Txt K mg):Can P w K mg base "_law_tied" 1 ["web"] (spP K (IM)):=by
 obtain⟨f,fd,D⟩:=T.d_law_tied
 obtain⟨r,p⟩:=T.o_Grower
 have m:=p.mgx
 have G:=T.n_Grower_held _ m
 refine D.can (D.fn.ok sc_law_tied (λvs H Q E h=>lenP h λss Q' q=>by obtain⟨n,es,rfl,U,S,y,J,k⟩:=q;rfl) (λcdv A outer s H vs Q E O h=>?_))
 have nd:=sc_law_tied.nd
 refine⟨_,(G0 (O0 (i:=1) nd rfl (Or.inl rfl) (Y7 (uL rfl) (by rfl) T.b_dict wL (i0 (O5 rfl (N:=["place"]) (src:=[none]) (by exact Z4 rfl rfl rfl rfl rfl rfl) (z5 rfl T.b_range (i0 (Y0 W0 (pv 0) q0 (λ_ _=>rfl)) o0)) (λ_ _ _ _=>(P0 (i:=0) (show List.Nodup (["place"]:List Str) by decide +kernel) rfl (Or.inl rfl) (hf:=Or.inr rfl))) (λ_ _ _ _=>u5) (λ_ _ _ _=>(R1 (i0 (pv 0) (i0 (Q1 o0) o0))))) o0)))
  (G0 (k4 R3 rfl (Q4 (Y0 W0 (pv 0) q0 (λ_ _=>rfl))) (K4 rfl (E2 (P0 (i:=2) nd rfl (Or.inl rfl)) (E2 (P0 (i:=3) nd rfl (Or.inl rfl)) D4)))
   (G0 (J3 (o5 PySem.F.plainAttrs_list PySem.F.slot_list_append PySem.F.type_list_append z6 (SC (Q6 O) (pv 1) (pv 2) (λ_ _=>rfl)) (i0 (pv 3) o0)))
    (I0 (J3 (o5 PySem.F.plainAttrs_list PySem.F.slot_list_append PySem.F.type_list_append z6 (SC (Q6 O) (pv 1) (pv 3) (λ_ _=>rfl)) (i0 (pv 2) o0))))))
  (I0 (U0 (pv 1))))),?_⟩
 refine p3 h λss Q' q B X=>?_
 refine exS2 ss q λn es c=>?_
 have U:=c.1
 have S:=c.2.1
 have y:=c.2.2.1
 have J:=c.2.2.2.1
 have k:=c.2.2.2.2
 clear c q
 show EvS B _ _ [some (.st (webD n es)),none,none,none]
 row_cond go
 refine NM ?_
 row_cond go
 refine⟨n.toNat,rfl,by lia,?_⟩
 row_cond go
 refine Z6 (λi e=>∃ z C tl,e=[some (.st (webD n es)),some (.own (ODL (tlD tl))),z,C]/\TiedL n (Tied (es.take i)) tl/\∀ j∈tl,j.length<=2 * i)
  ⟨none,none,List.replicate n.toNat [],by simp[tlD],⟨by simp;lia,λi j hi w=>?_⟩,λj W=>?_⟩ ?_ ?_
 ·rw[O7] at hi
  split at hi
  ·cases hi;simp[Tied]
  ·cases hi
 ·have:=List.eq_of_mem_replicate W
  subst this;simp
 ·rintro i ⟨a,b⟩ e L l
  refine exS3 e l λz C tl c=>?_
  have x:=c.1
  have o:=c.2
  clear c l
  have hi:i<es.length:=(J1.mp L).1
  obtain⟨a0,a1,b0,b1⟩:=y _ (v2 L)
  dsimp only at a0 a1 b0 b1
  row_cond go
  obtain⟨j,d,_⟩:=x.get a0 a1
  have R:=o j (v2 d)
  refine wF (n:=a.toNat) (ds:=j.map .int) rfl rfl rfl (by lia) (k9 d) (by rw[T0];lia) ?_
  row_cond qb
  have I:=x.put (q:=b) a0 a1 d
  rw[show j.map PyData.int++[.int b]=(j++[b]).map .int by simp,FB]
  have g:∀ us∈tl.set a.toNat (j++[b]),us.length<=2 * i+1:=λus M=>by
   rcases List.mem_or_eq_of_mem_set M with h|h
   ·have:=o us h;lia
   ·subst h;simp;lia
  generalize tl.set a.toNat (j++[b])=tl2 at I g
  row_cond go
  obtain⟨j,d,_⟩:=I.get b0 b1
  have R:=g j (v2 d)
  refine wF (n:=b.toNat) (ds:=j.map .int) rfl rfl rfl (by lia) (k9 d) (by rw[T0];lia) ?_
  row_cond qb
  rw[show j.map PyData.int++[.int a]=(j++[a]).map .int by simp,FB]
  refine⟨_,_,_,rfl,(I.put (q:=a) b0 b1 d).iff λu v=>(Tied.snoc L u v).symm,λus M=>?_⟩
  rcases List.mem_or_eq_of_mem_set M with h|h
  ·have:=g us h;lia
  ·subst h;simp;lia
 ·rintro e l
  refine exS3 e l λz C tl c=>?_
  have x:=c.1
  have o:=c.2
  clear c l
  rw[D6] at x
  row_cond go
  exact k tl x
theorem sc_law_fars:FnScope ["web","tied","table","place","found","ring","far","later","one","other"] ["web"] (L0 s_law_fars):=by row_cond sc
theorem IH  (T:Txt K mg):Can P w K mg base "_law_fars" 2 ["web"] (spP K (cO)):=by
 obtain⟨f,fd,D⟩:=T.d_law_fars
 obtain⟨a3,L⟩:=T.o_Grower
 have J:=L.mgx
 have b3:=T.n_Grower_held _ J
 refine D.can (D.fn.ok sc_law_fars (λvs H Q E h=>lenP h λss Q' q=>by obtain⟨n,es,rfl,n0,n1,X,a4,k⟩:=q;rfl) (λcdv A outer s H vs Q E hr h=>?_))
 have nd:=sc_law_fars.nd
 refine ⟨_,(G0 (O0 (i:=1) nd rfl (Or.inl rfl) (J0 (xN T) hr (i0 (pv 0) o0)))
  (G0 (O0 (i:=2) nd rfl (Or.inl rfl) (Q1 o0))
  (G0  (k4  R3 rfl (z5 rfl T.b_range (i0 (Y0 W0 (pv 0) q0 (λ_ _=>rfl)) o0)) (P0 (i:=3) nd rfl (Or.inl rfl))
   (G0  (O0 (i:=4) nd rfl (Or.inl rfl) (kO (cL (pv 3) q0 WO) rfl rfl (by simp) (by decide)))
    (G0 (O0 (i:=5) nd rfl (Or.inl rfl) (Q1 (i0 (pv 3) o0)))
    (G0 (O0 (i:=6) nd rfl (Or.inl rfl) q0)
    (G0  (SG R3 (U2 (pG hr.units) (pv 5) (Q1 o0) (T1 _))
     (G0  (O0 (i:=6) nd rfl (Or.inl rfl) (R0 u3 (pv 6) q0))
      (G0 (O0 (i:=7) nd rfl (Or.inl rfl) (Q1 o0))
      (G0  (k4 R3 rfl (Q4 (pv 5)) (P0 (i:=8) nd rfl (Or.inl rfl))
       (I0  (k4 R3 rfl (Q4 (SC (Q6 hr) (pv 1) (pv 8) (λ_ _=>rfl))) (P0 (i:=9) nd rfl (Or.inl rfl))
         (I0 (U1 (TQ (nQ (Q6 hr) (pv 9) (pv 4)))
           (G0 (MB (Q6 hr) (pv 4) (pv 9) (pv 6) rfl)
            (I0 (J3 (o5 PySem.F.plainAttrs_list PySem.F.slot_list_append PySem.F.type_list_append z6 (pv 7) (i0 (pv 9) o0)))))
           W1)))))
      (I0 (O0 (i:=5) nd rfl (Or.inl rfl) (pv 7)))))))
    (I0 (J3 (o5 PySem.F.plainAttrs_list PySem.F.slot_list_append PySem.F.type_list_append z6 (pv 2) (i0 (pv 4) o0)))))))))
  (I0 (U0 (pv 2)))))),?_⟩
 refine p3 h λss Q' q B hK=>?_
 refine exS2 ss q λn es b=>?_
 have n0:=b.1
 have n1:=b.2.1
 have X:=b.2.2.1
 have a4:=b.2.2.2.1
 have k:=b.2.2.2.2
 clear b q
 show EvS B _ _ [some (.st (webD n es)),none,none,none,none,none,none,none,none,none]
 row_cond go
 refine⟨n,es,rfl,by lia,n1,X,a4,λtl ht=>R7 QP ?_⟩
 have hT:∀ u v:Int,Tied es u v->0<=v/\v<n:=λu v h=>(h.in X).2
 have a8:(tlD tl).map PyData.list ≠ []:=λe=>by
  have:=ht.1
  have h2:=congrArg List.length e
  simp[tlD] at h2
  rw[h2] at this
  simp at this
  lia
 have S:∀ p:Int,0<=p->p<n->∃ ws:List Int,valD (kvD ((tlD tl).map PyData.list)) (.inl p)=some (.list (ws.map .int))/\∀ u,u∈ws ↔ Tied es p u:=λp p0 p1=>by
  obtain⟨ws,W,hw⟩:=ht.get p0 p1
  exact⟨ws,QN p0 (by rw[o1,k9 W];rfl),hw⟩
 row_cond go
 refine X7 (λi e=>∃ ess v3 v4 v5 v6 Z G y,e=[some (.st (webD n es)),some (.st (abw (kvD ((tlD tl).map PyData.list)))),some (.own (OL (List.map abw ess))),v3,v4,v5,v6,Z,G,y]/\ess.length=i/\∀(v:Int) fs,0<=v->ess[v.toNat]?=some fs->FarD n (Gr.farO (Tied es) v) fs) ⟨[],_,_,_,_,_,_,_,rfl,rfl,λv fs _ h=>by simp at h⟩ ?_ ?_
 ·rintro i e hi g
  refine exS8 e g λess v3 v4 v5 v6 Z G y b=>?_
  have U:=b.1
  have I:=b.2
  clear b g
  obtain⟨a,ha,a0,a1⟩:∃ a:Int,a=0+(i:Int)/\0<=a/\a<n:=⟨_,rfl,by lia,by lia⟩
  rw[← ha]
  row_cond go
  refine nJ rfl ?_
  row_cond go
  refine fF 5 rfl T4 ?_
  row_cond qb
  refine ZE (λm e=>∃ Z G y far fe edge M,e=[some (.st (webD n es)),some (.st (abw (kvD ((tlD tl).map PyData.list)))),some (.own (OL (List.map abw ess))),some (.st (.int a)),some (.own (OD fe)),some (.st (.list (edge.map .int))),some (.st (.int ((M:Nat):Int))),Z,G,y]/\Gr.Ring (Tied es) a M far edge/\FarD n far fe/\(∀ v∈edge,0<=v/\v<n)/\m=2 * cnt far n.toNat+(if edge=[] then 0 else 1))
   ⟨_,_,_,_,_,_,[a],0,rfl,Gr.Ring.start,FarD.start a0 a1,λv z=>by simp at z;subst z;exact⟨a0,a1⟩,rfl⟩ ?_
  rintro m e g
  refine exS7 e g λZ G y far fe edge M b=>?_
  have hR:=b.1
  have hF:=b.2.1
  have hb:=b.2.2.1
  have a7:=b.2.2.2
  clear b g
  subst a7
  row_cond go
  refine nH (rG _) rfl (EO _) ?_
  rw[gK]
  cases hedge:edge with
  | nil =>
   subst hedge
   row_cond go
   rw[y0 (show ¬ ((!([]:List Int).isEmpty)=true) from Y1)]
   row_cond go
   refine⟨_,rfl,by rw[T0];lia,?_⟩
   refine⟨ess++[fe],_,_,_,_,_,_,_,by rw[w4];rfl,by rw[Q3,U];rfl,λv fs v0 z=>?_⟩
   by_cases hvi:v.toNat<i
   ·rw[q8 (by lia)] at z
    exact I v fs v0 z
   ·have b2:=(J1.mp z).1
    simp at b2
    have a6:v.toNat=i:=by lia
    rw[a6,H7 (by lia),U,Nat.sub_self] at z
    cases z
    rw[show v=a by lia]
    exact hF.congr hR.fin
  | cons e0 er =>
   rw[← hedge]
   have a2:edge ≠ []:=by rw[hedge];simp
   row_cond go
   rw[t0 (show(!edge.isEmpty)=true by rw[hedge];rfl)]
   row_cond go
   refine Z6 (λi e=>∃ G y c l beyond,e=[some (.st (webD n es)),some (.st (abw (kvD ((tlD tl).map PyData.list)))),some (.own (OL (List.map abw ess))),some (.st (.int a)),some (.own (OD l)),some (.st (.list (edge.map .int))),some (.st (.int ((M:Int)+1))),some (.own (OL (beyond.map .int))),G,y]/\Gr.Mid (Tied es) M far edge (λu=>u∈edge.take i) c beyond/\FarD n c l/\cnt c n.toNat+beyond.length=cnt far n.toNat/\∀ v∈beyond,0<=v/\v<n)
    ⟨G,y,far,fe,[],rfl,Gr.Mid.start.imp λu R=>by simp at R,hF,rfl,λv z=>by simp at z⟩ ?_ ?_
   ·rintro i p e hp g
    refine exS5 e g λG y c l beyond b=>?_
    have O:=b.1
    have o:=b.2.1
    have N:=b.2.2.1
    have r:=b.2.2.2
    clear b g
    have a5:=v2 hp
    obtain⟨p0,p1⟩:=hb p a5
    obtain⟨ws,W,hw⟩:=S p p0 p1
    row_cond go
    refine UP ?_
    row_cond go
    refine⟨kvD ((tlD tl).map PyData.list),.inl p,_,rfl,jR a8,rfl,W,?_⟩
    row_cond go
    refine Z6 (λj e=>∃ y c l beyond,e=[some (.st (webD n es)),some (.st (abw (kvD ((tlD tl).map PyData.list)))),some (.own (OL (List.map abw ess))),some (.st (.int a)),some (.own (OD l)),some (.st (.list (edge.map .int))),some (.st (.int ((M:Int)+1))),some (.own (OL (beyond.map .int))),some (.st (.int p)),y]/\Gr.Mid (Tied es) M far edge (λu=>u∈edge.take i) c beyond/\FarD n c l/\cnt c n.toNat+beyond.length=cnt far n.toNat/\(∀ v∈beyond,0<=v/\v<n)/\∀ x∈ws.take j,c x ≠ none)
     ⟨y,c,l,beyond,rfl,O,o,N,r,λx Y=>by simp at Y⟩ ?_ ?_
    ·rintro j u e R g
     refine exS4 e g λy c l beyond b=>?_
     have O:=b.1
     have o:=b.2.1
     have N:=b.2.2.1
     have r:=b.2.2.2.1
     have C:=b.2.2.2.2
     clear b g
     have tu:Tied es p u:=(hw u).mp (v2 R)
     obtain⟨u0,u1⟩:=hT _ _ tu
     have b1:=o.val u
     have b4:=o.len
     have b5:l.length<=999999:=by lia
     row_cond go
     rw[b1]
     cases hf:c u with
     | none =>
      rw[t0 (show(!((none:Option Nat).map λ(j:Nat)=>PyData.int (j:Int)).isSome)=true from rfl)]
      have b6:=Q9 (d:=M+1) u0 hf (n:=n.toNat) (by lia)
      have a9:∀ m,cnt far m<=m:=λm=>by
       induction m with
       |zero=>exact N0 _
       |succ m ih=>unfold cnt;split <;> lia
      have:=a9 n.toNat
      row_cond go
      refine⟨some (.st (.int u)),Gr.label c u (M+1),_,beyond++[u],by simp,O.add a5 tu hf,o.put u0 u1 hf,by simp;lia,λv z=>?_,λx Y=>?_⟩
      ·rcases E1.mp z with h|h
       ·exact r v h
       ·have:v=u:=by simpa using h
        subst this;exact⟨u0,u1⟩
      ·by_cases hx2:x=u
       ·subst hx2;rw[Gr.label_same];simp
       ·rw[Gr.label_ne hx2]
        rcases S8 R Y with h|h
        ·exact C x h
        ·exact absurd h hx2
     | some d =>
      rw[y0 (show ¬ ((!((some d:Option Nat).map λ(j:Nat)=>PyData.int (j:Int)).isSome)=true) from Y1)]
      row_cond go
      refine⟨_,c,l,beyond,rfl,O,o,N,r,λx Y=>?_⟩
      rcases S8 R Y with h|h
      ·exact C x h
      ·subst h;rw[hf];simp
    ·rintro e g
     refine exS4 e g λy c l beyond b=>?_
     have O:=b.1
     have o:=b.2.1
     have N:=b.2.2.1
     have r:=b.2.2.2.1
     have C:=b.2.2.2.2
     clear b g
     rw[D6] at C
     refine⟨_,_,c,l,beyond,rfl,?_,o,N,r⟩
     refine(O.did (u:=p) λx tx=>C x ((hw x).mpr tx)).imp λx Y=>?_
     exact S8 hp Y
   ·rintro e g
    refine exS5 e g λG y c l beyond b=>?_
    have O:=b.1
    have o:=b.2.1
    have N:=b.2.2.1
    have r:=b.2.2.2
    clear b g
    row_cond go
    refine⟨_,?_,_,_,_,c,l,beyond,M+1,rfl,hR.next O λu R=>by rw[D6];exact R,o,r,rfl⟩
    rw[y0 a2]
    cases beyond with
    |nil=>rw[t0 rfl];simp at N;lia
    |cons b0 br=>rw[y0 (by simp)];simp at N;lia
 ·rintro e g
  refine exS8 e g λess v3 v4 v5 v6 Z G y b=>?_
  have U:=b.1
  have I:=b.2
  clear b g
  row_cond go
  exact k ess ⟨by lia,I⟩
end
theorem webP(n:Int)(es:List (Int × Int)):z1 (webD n es)=true:=by
 have:=RE es
 simp only[webD,z1,plainDs,this,Bool.and_self]
theorem rN(n:Int)(es:List (Int × Int)):(webD n es).depth<=60:=by
 have h:PyData.depthAll (es.map prD)<=1:=MD λd hd=>by
  obtain⟨p,_,rfl⟩:=P1.mp hd
  exact DH p
 simp only[webD,PyData.depth,PyData.depthAll]
 lia
theorem yG{far:Int->Option Nat}:∀{n:Nat},cnt far n=0 ↔ ∀ v:Int,0<=v->v<n->far v ≠ none
 |0=>⟨λ_ v d c=>by lia,λ_=>rfl⟩
 | n+1=>by
  have a:=yG (far:=far) (n:=n)
  unfold cnt
  constructor
  ·intro h v v0 b
   by_cases hv:v=n
   ·subst hv
    intro z
    rw[t0 z] at h
    lia
   ·exact a.mp (by lia) v v0 (by lia)
  ·intro h
   rw[a.mpr λv v0 b=>h v v0 (by lia),y0 (h n (by lia) (by lia))]
theorem FarD.full{n:Int}{es:List (Int × Int)}{fs:List (Key × PyData)}(f:1<=n)(h:FarD n (Gr.farO (Tied es) 0) fs):((fs.length:Int)=n ↔ Joined n es):=by
 have g:=h.len
 have a:=yG (far:=Gr.farO (Tied es) 0) (n:=n.toNat)
 constructor
 ·intro e v v0 c
  cases hf:Gr.farO (Tied es) 0 v with
  |some d=>exact⟨d,Gr.farO_some.mp hf⟩
  |none=>exact absurd hf (a.mp (by lia) v v0 (by lia))
 ·intro b
  have:=a.mpr λv v0 c z=>by
   obtain⟨d,hd⟩:=b v v0 (by lia)
   exact Gr.farO_none.mp z d hd
  lia
theorem vL{α:Type}(xs:List α)(f : α->PyData)(d : α):xs.map f=(List.range xs.length).map λi=>f (xs.getD i d):=by
 refine T5 λi=>?_
 rw[o1,o1]
 by_cases hi:i<xs.length
 ·rw[F8 hi,X0 hi,m6,m6,k7,X0 hi]
  rfl
 ·rw[rA (by lia),rA (by simp;lia)]
  rfl
theorem FarD.vals{n:Int}{f:Int->Option Nat}{fs:List (Key × PyData)}(h:FarD n f fs):∃ ns:List Int,fs.map (·.2)=ns.map .int/\∀ x:Int,x∈ns ↔ ∃(v:Int)(j:Nat),0<=v/\v<n/\f v=some j/\x=(j:Int):=by
 refine⟨fs.map λp=>match p.2 with | .int i=>i|_=>0,?_,λx=>?_⟩
 ·rw[U3]
  refine D8 λp a=>?_
  obtain⟨v,j,_,e,_⟩:=h.mem p.1 p.2 a
  simp only[Function.comp,e]
 ·rw[P1]
  constructor
  ·rintro⟨p,a,rfl⟩
   obtain⟨v,j,_,e,v0,b,hf⟩:=h.mem p.1 p.2 a
   exact⟨v,j,v0,b,hf,by rw[e]⟩
  ·rintro⟨v,j,_,_,hf,rfl⟩
   exact⟨_,h.all v j hf,rfl⟩
def JN:VP:=λss Q=>∃(n:Int)(es:List (Int × Int)),ss=[.st (webD n es)]/\GW n es/\∀ d,FarN n es d->Q (.st d)
theorem FarN.uniq{n:Int}{es:List (Int × Int)}{d e:PyData}(h:FarN n es d)(g:FarN n es e):d=e:=by
 rcases h with ⟨j,x,z,rfl⟩|⟨j,rfl⟩ <;> rcases g with ⟨c,y,a,rfl⟩|⟨c,rfl⟩
 ·obtain⟨⟨u,v,s,o,v0,q,B⟩,k1⟩:=z
  obtain⟨⟨r,p,i,l,b,m,w⟩,f⟩:=a
  have A:=f u v s o v0 q
  have C:=k1 r p i l b m
  rw[show x=y by lia]
 ·exact absurd j c
 ·exact absurd c j
 ·rfl
theorem FarN.plain{n:Int}{es:List (Int × Int)}{d:PyData}(h:FarN n es d):z1 d=true/\d.depth=0/\isiD "bool" d=false:=by
 rcases h with ⟨_,x,_,rfl⟩|⟨_,rfl⟩
 ·exact⟨rfl,by simp[PyData.depth],rfl⟩
 ·exact⟨rfl,by simp[PyData.depth],rfl⟩
structure DW(n:Int)(es:List (Int × Int))(j:Nat):Prop where
 lo:1<=n
 hi:n<=60
 ps:PsOk n es
 len:es.length<=1900+j
theorem DW.gw{n:Int}{es:List (Int × Int)}{j:Nat}(h:DW n es j)(b:j<=100):GW n es:=⟨h.lo,by have:=h.hi;lia,λp a=>by have:=h.ps.inn p a;exact⟨by lia,by lia,by lia,by lia⟩,by have:=h.len;lia⟩
inductive Deed(n:Int)(es:List (Int × Int)):PyData->Int->Int × Int->Prop
 |place {a:Int}:0<=a->a<n->n<60->Deed n es (.tuple [.int a]) (n+1) (a,n)
 |tie {s t:Int}:0<=s->s<t->t<n->(s,t) ∉ es->Deed n es (.tuple [.int s,.int t]) n (s,t)
theorem Deed.dw{n m:Int}{es qs:List (Int × Int)}{j:Nat}{d:PyData}{p:Int × Int}(h:DW n es j)(g:Deed n es d m p)(b:qs.Perm (es++[p])):DW m qs (j+1):=by
 have i:qs.length<=1900+(j+1):=by
  have:=h.len
  rw[b.length_eq,Q3]
  simp
  lia
 have a:(p ∉ es)/\(0<=p.1/\p.1<p.2/\p.2<m)/\n<=m/\m<=60:=by
  have:=h.hi
  cases g with
  |place a0 a1 hn=>exact⟨λz=>by have:=h.ps.inn _ z;simp only at this;lia,⟨a0,a1,by simp only;lia⟩,by lia,by lia⟩
  |tie s0 st tn hno=>exact⟨hno,⟨s0,st,tn⟩,Int.le_refl _,this⟩
 refine⟨by have:=h.lo;lia,a.2.2.2,⟨b.nodup_iff.mpr (q7.mpr ⟨h.ps.nd,by simp,λx f y l e=>by cases N2.mp l;exact a.1 (e ▸ f)⟩),λq c=>?_⟩,i⟩
 rcases E1.mp (b.mem_iff.mp c) with z|z
 ·have:=h.ps.inn q z
  lia
 ·cases N2.mp z
  exact a.2.1
def vO:VIo:=λA ss Q=>∃(n:Int)(es:List (Int × Int))(j:Nat),A=ODk/\ss=[.st (webD n es)]/\DW n es j/\j<=100/\Q ODk (.st .none)/\∀ d m p,Deed n es d m p->Q ODk (.st d)
def ZJ:VP:=λss Q=>∃(n m:Int)(es:List (Int × Int))(j:Nat)(d:PyData)(p:Int × Int),ss=[.st (webD n es),.st d]/\DW n es j/\j<=100/\Deed n es d m p/\∀ qs,Rise qs->qs.Perm (es++[p])->Q (.st (webD m qs))
def MQ(mg:Str->Option Value):VIo:=λA ss Q=>∃(C:Addr)(n m:Int)(es:List (Int × Int))(j:Nat)(d:PyData)(p:Int × Int),mg "Grower" = some (.ref C)/\A=OI C (gF n es)/\ss=[.st d]/\DW n es j/\j<=100/\Deed n es d m p/\∀ qs d0 d1,Rise qs->qs.Perm (es++[p])->FarN n es d0->FarN m qs d1->Q (OI C (gF m qs)) (.st (.tuple [d0,d1]))
section
variable{P:Program}{w:World}{K:Frag}{mg:Str->Option Value}{base:Heap}
theorem sc_law_far_of:FnScope ["web","fars"] ["web"] (L0 s_law_far_of):=by row_cond sc
theorem WB(T:Txt K mg):Can P w K mg base "_law_far_of" 10 ["web"] (spP K (JN)):=by
 obtain⟨f,fd,D⟩:=T.d_law_far_of
 obtain⟨L,m⟩:=T.o_Grower
 have l:=m.mgx
 have X:=T.n_Grower_held _ l
 refine D.can (D.fn.ok sc_law_far_of (λvs H Q E h=>lenP h λss Q' q=>by obtain⟨n,es,rfl,I,Z⟩:=q;rfl) (λcdv A outer s H vs Q E hr h=>?_))
 have nd:=sc_law_far_of.nd
 refine⟨_,(G0 (O0 (i:=1) nd rfl (Or.inl rfl) (J0 (IH T) hr (i0 (pv 0) o0)))
  (G0 (U1 (U2 BB (S0 yK (by rfl) T.b_len K5 (i0 (Y0 W0 (pv 1) q0 (λ_ _=>rfl)) o0)) (Y0 W0 (pv 0) q0 (λ_ _=>rfl)) (T1 _))
   (I0 (U0 Q5))
   W1)
  (I0 (U0 (S0 (Z8 rfl) (by rfl) T.b_max p5 (i0 (O5 rfl (N:=["one"]) (src:=[none]) (by exact Z4 rfl rfl rfl rfl rfl rfl) (Q4 (pv 1)) (λ_ _ _ _=>(P0 (i:=0) (show List.Nodup (["one"]:List Str) by decide +kernel) rfl (Or.inl rfl) (hf:=Or.inr rfl))) (λ_ _ _ _=>u5) (λ_ _ _ _=>(S0 (show M2 _ (.builtin "max") (F7 K) from(Z8 rfl)) (by rfl) T.b_max p5 (i0 (Y7 (show M2 _ (.type "list") cE from RJ rfl) (by rfl) T.b_list I9 (i0 (show PE _ _ (tBM0 K "dict" iD _) from mS PySem.F.plainAttrs_dict PySem.F.slot_dict_values PySem.F.type_dict_values jM (pv 0)) o0)) o0)))) o0)))))),?_⟩
 refine p3 h λss Q' q B hK=>?_
 refine exS2 ss q λn es r=>?_
 have I:=r.1
 have Z:=r.2
 clear r q
 show EvS B _ _ [some (.st (webD n es)),none]
 have n0:=I.lo
 have n1:=I.hi
 have Y:=I.inn
 have a0:=I.len
 have hn:1<=n.toNat:=by lia
 row_cond go
 refine⟨n,es,rfl,n0,by lia,Y,by lia,λess g=>R7 T4 ?_⟩
 obtain⟨fs,o⟩:∃ fs,ess[(0:Int).toNat]?=some fs:=⟨_,X0 (by have:=g.len;simp;lia)⟩
 have G:=g.row 0 fs (by lia) o
 have a2:V0 (ess.map abw) 0=some (abw fs):=P9 (f:=abw) (L5 (by lia) o)
 have W:fs ≠ []:=G.ne (Gr.farO_self (T:=Tied es) (a:=0))
 have b:=G.full n0
 have a1:=G.len
 row_cond go
 refine XQ W ?_
 row_cond go
 by_cases hJ:Joined n es
 ·have a5:=b.mpr hJ
  obtain⟨M,p⟩:=yD hn (dsF es)
  row_cond go
  rw[vL ess abw [],show ess.length=n.toNat by have:=g.len;lia]
  refine z8 (f:=λu:Nat=>abw (ess.getD u [])) (λu:Nat=>.int (M u)) rfl (by simp;lia) (λu R B' hB=>?_) ?_
  ·have a3:u<n.toNat:=l2.mp R
   have o:ess[((u:Int)).toNat]?=some (ess.getD u []):=by
    rw[Int.toNat_natCast,k7,X0 (by have:=g.len;lia)]
    rfl
   have G:=g.row (u:Int) _ (by lia) o
   obtain⟨ms,S,c⟩:=G.vals
   have U:∀ x,n6 ms x->x=M u:=λx C=>by
    have O:n6 ((List.range n.toNat).map λ(i:Nat)=>dsF es (u:Int) (i:Int)) x:=by
     refine⟨?_,λy hy=>?_⟩
     ·obtain⟨v,j,v0,v1,hf,rfl⟩:=(c x).mp C.1
      refine P1.mpr ⟨v.toNat,l2.mpr (by lia),?_⟩
      rw[show((v.toNat:Nat):Int)=v by lia]
      simp only[dsF,hf,Option.getD_some]
     ·obtain⟨i,hi,rfl⟩:=P1.mp hy
      obtain⟨d,e⟩:=aF hJ (show 0<=(u:Int) by lia) (by lia) (show 0<=(i:Int) by lia) (by have:=l2.mp hi;lia)
      refine C.2 _ ((c _).mpr ⟨(i:Int),d,by lia,by have:=l2.mp hi;lia,e,?_⟩)
      simp only[dsF,e,Option.getD_some]
    exact LC O (p u)
   have J:ms ≠ []:=λe=>by
    have:=(c ((0:Nat):Int)).mpr ⟨(u:Int),0,by lia,by lia,Gr.farO_self,rfl⟩
    rw[e] at this
    cases this
   refine YH (JC (F3 (bS rfl (G.ne (Gr.farO_self (T:=Tied es) (a:=(u:Int)))) (W4 ?_))))
   rw[S]
   row_cond go
   exact O9 J λx C=>⟨by rw[U x C],rfl⟩
  ·rw[show(List.range n.toNat).map (λu:Nat=>PyData.int (M u))=((List.range n.toNat).map M).map .int by rw[U3];rfl]
   row_cond go
   refine O9 (by simp;lia) λx C=>?_
   row_cond go
   refine Z _ (.inl ⟨hJ,x,⟨?_,λu v u0 u1 v0 v1=>?_⟩,rfl⟩)
   ·obtain⟨u,R,e⟩:=P1.mp C.1
    obtain⟨v,hv,e2⟩:=P1.mp (p u).1
    have:=l2.mp R
    have:=l2.mp hv
    exact⟨(u:Int),(v:Int),by lia,by lia,by lia,by lia,e2.trans e⟩
   ·have h1:=(p u.toNat).2 _ (P1.mpr ⟨v.toNat,l2.mpr (by lia),rfl⟩)
    have h2:=C.2 _ (P1.mpr ⟨u.toNat,l2.mpr (by lia),rfl⟩)
    rw[show((u.toNat:Nat):Int)=u by lia,show((v.toNat:Nat):Int)=v by lia] at h1
    lia
 ·have a4:(fs.length:Int)<n:=by
   have:¬ (fs.length:Int)=n:=λz=>hJ (b.mp z)
   lia
  row_cond go
  exact Z _ (.inr ⟨hJ,rfl⟩)
theorem sc_law_deed:FnScope ["deck","web","n","ties","a","free","b"] ["deck","web"] (L0 s_law_deed):=by row_cond sc
theorem lI(T:Txt K mg):Can P w K mg base "_law_deed" 2 ["deck","web"] (spI K (vO)):=by
 obtain⟨f,fd,D⟩:=T.d_law_deed
 obtain⟨m,g⟩:=T.o_Grower
 have c:=g.mgx
 have u:=T.n_Grower_held _ c
 refine D.can (D.fn.ok sc_law_deed (λvs H Q E h=>lenI h λA ss Q' q=>by obtain⟨n,es,j,rfl,rfl,p,U,k0,k1⟩:=q;rfl) (λcdv A outer s H vs Q E l h=>?_))
 have nd:=sc_law_deed.nd
 refine⟨_,(G0 (y4 (pv 1) (K4 rfl (E2 (P0 (i:=2) nd rfl (Or.inl rfl)) (E2 (P0 (i:=3) nd rfl (Or.inr rfl)) D4))))
  (G0 (O0 (i:=4) nd rfl (Or.inr rfl) (J0 (D2 T) l (i0 (pv 0) (i0 (pv 2) o0))))
  (G0 (U1 (PW.pt (w8 (U2 M5 (J0 (D2 T) l (i0 (pv 0) (i0 q0 o0))) q0 (T1 _)) (k8 (U2 BB (pv 2) q0 (T1 _)))))
   (I0 (U0 (R1 (i0 (pv 4) o0))))
   W1)
  (G0 (mH (i:=5) nd rfl (Or.inl rfl) rfl (N:=["b","a","ties"]) (src:=[none,some 4,some 3]) (by exact Z4 rfl rfl rfl rfl rfl rfl) (z5 rfl T.b_range (i0 (pv 2) o0)) (λ_ _ _ _=>(P0 (i:=0) (show List.Nodup (["b","a","ties"]:List Str) by decide +kernel) rfl (Or.inl rfl) (hf:=Or.inr rfl))) (λ_ _ _ _=>VQ (PW.pt (w8 (U2 JD (pv 0) (pv 1) (T1 _)) (k8 (U2 (VF l.units) (R1 (i0 (S0 (N7 rfl) (by rfl) T.b_min m7 (i0 (pv 1) (i0 (pv 0) o0))) (i0 (S0 (S7 rfl) (by rfl) T.b_max p5 (i0 (pv 1) (i0 (pv 0) o0))) o0))) (pv 2) rfl))))) (λ_ _ _ _=>(pv 0)))
  (G0 (U1 (U2 (DD l.units) (pv 5) (Q1 o0) (T1 _))
   (I0 (U0 Q5))
   W1)
  (G0 (O0 (i:=6) nd rfl (Or.inl rfl) (Y0 W0 (pv 5) (J0 (D2 T) l (i0 (pv 0) (i0 (S0 y6 (by rfl) T.b_len K5 (i0 (pv 5) o0)) o0))) (λ_ _=>rfl)))
  (I0 (U0 (R1 (i0 (S0 (N7 rfl) (by rfl) T.b_min m7 (i0 (pv 4) (i0 (pv 6) o0))) (i0 (S0 (S7 rfl) (by rfl) T.b_max p5 (i0 (pv 4) (i0 (pv 6) o0))) o0))))))))))),?_⟩
 refine R5 h λZ ss Q' q B hK=>?_
 obtain⟨n,es,j,rfl,rfl,p,U,k0,k1⟩:=q
 show EvS B _ _ [some (.io ODk),some (.st (webD n es)),none,none,none,none,none]
 have hn:=p.lo
 have W:=p.hi
 have G:=p.len
 row_cond go
 refine⟨n,rfl,rfl,by lia,by lia,λa a0 a1=>?_⟩
 row_cond go
 refine⟨2,rfl,rfl,by lia,by lia,λr r0 Y=>?_⟩
 row_cond go
 row_cond qb
 refine' cutR (R:=EvS B ?c1 ?d1 [some (.io ODk),some (.st (webD n es)),some (.st (.int n)),some (.st (.list (es.map prD))),some (.st (.int a)),none,none]) (λR=>?K1) ?K2
 case K1 =>
  by_cases l:r=0
  ·by_cases hn0:n<60
   ·row_cond go
    exact k1 _ _ _ (.place a0 a1 hn0)
   ·repeat (first|exact R|row_cond st)
  ·repeat (first|exact R|row_cond st)
 case K2 =>
  row_cond go
  unfold rngD
  refine tN (xs:=List.range n.toNat) (f:=λi:Nat=>PyData.int (0+(i:Int))) (λi:Nat=>PyData.int (i:Int)) (λi:Nat=>decide ((i:Int) ≠ a) && !decide ((if (i:Int)<a then (i:Int) else a,if (i:Int) > a then (i:Int) else a)∈es)) rfl (by simp;lia) (λi hi B' hB=>?_) ?_
  ·have M:=l2.mp hi
   rw[Int.zero_add]
   by_cases hia:(i:Int)=a
   ·row_cond go
    exact⟨by simp[hia],rfl,λz=>nomatch z⟩
   ·row_cond go
    refine CH (cQ (_,_)) (RE es) (T2 (DH (_,_)) (by decide)) ?_
    rw[t0 rfl,show PyData.tuple [PyData.int (if (i:Int)<a then (i:Int) else a),PyData.int (if (i:Int) > a then (i:Int) else a)]=prD (if (i:Int)<a then (i:Int) else a,if (i:Int) > a then (i:Int) else a) from rfl,YR]
    row_cond go
    refine⟨by simp[hia],rfl,λ_=>?_⟩
    row_cond go
    exact rfl
  ·obtain⟨fs,o,v⟩:∃ fs:List Nat,(List.range n.toNat).filter (λi:Nat=>decide ((i:Int) ≠ a) && !decide ((if (i:Int)<a then (i:Int) else a,if (i:Int) > a then (i:Int) else a)∈es))=fs/\(∀ i∈fs,(i:Int)<n/\(i:Int) ≠ a/\(if (i:Int)<a then (i:Int) else a,if (i:Int) > a then (i:Int) else a) ∉ es):=⟨_,rfl,λi hi=>by
    obtain⟨X,F⟩:=List.mem_filter.mp hi
    have:=l2.mp X
    simp only[S5,decide_eq_true_eq,Bool.not_eq_true',decide_eq_false_iff_not] at F
    exact⟨by lia,F.1,F.2⟩⟩
   have O:fs.length<=60:=by
    rw[← o]
    exact T2 (qB _ _) (by rw[List.length_range];lia)
   rw[o]
   refine R7 T4 ?_
   have C:z1 (.list (fs.map λi:Nat=>PyData.int (i:Int)))=true:=(nD _).mpr λd hd=>by
    obtain⟨x,_,rfl⟩:=P1.mp hd
    rfl
   have y:(PyData.list (fs.map λi:Nat=>PyData.int (i:Int))).depth<=60:=by
    have h:PyData.depthAll (fs.map λi:Nat=>PyData.int (i:Int))<=1:=MD λd hd=>by
     obtain⟨x,_,rfl⟩:=P1.mp hd
     simp[PyData.depth]
    simp only[PyData.depth]
    lia
   row_cond go
   refine jD C rfl y ?_
   cases efs:fs with
   | nil =>
    rw[show PyData.eqv (.list (List.map (λi:Nat=>PyData.int (i:Int)) [])) (.list [])=true from rfl]
    row_cond go
    exact k0
   | cons f0 fr =>
    rw[← efs,show PyData.eqv (.list (fs.map λi:Nat=>PyData.int (i:Int))) (.list [])=false by rw[efs];rfl]
    have I:0<fs.length:=by rw[efs];simp
    row_cond go
    rw[T0]
    refine⟨(fs.length:Int),rfl,rfl,by lia,by lia,λq L q1=>?_⟩
    obtain⟨b,hb⟩:∃ b,fs[q.toNat]?=some b:=⟨_,X0 (show q.toNat<fs.length by lia)⟩
    have J:V0 (fs.map λi:Nat=>PyData.int (i:Int)) q=some (.int (b:Int)):=L5 L (by rw[o1,hb];rfl)
    obtain⟨b1,b2,S⟩:=v b (v2 hb)
    row_cond go
    exact k1 _ n (if (b:Int)<a then (b:Int) else a,if (b:Int) > a then (b:Int) else a) (.tie (by split <;> lia) (by split <;> split <;> lia) (by split <;> lia) S)
theorem sc_law_behind:FnScope ["web","deed","n","ties"] ["web","deed"] (L0 s_law_behind):=by row_cond sc
theorem dS(T:Txt K mg):Can P w K mg base "_law_behind" 1 ["web","deed"] (spP K (ZJ)):=by
 obtain⟨f,fd,D⟩:=T.d_law_behind
 obtain⟨l,g⟩:=T.o_Grower
 have c:=g.mgx
 have v:=T.n_Grower_held _ c
 refine D.can (D.fn.ok sc_law_behind (λvs H Q E h=>lenP h λss Q' q=>by obtain⟨n,m,es,j,d,p,rfl,u,z,hd,x⟩:=q;rfl) (λcdv A outer s H vs Q E F h=>?_))
 have nd:=sc_law_behind.nd
 refine⟨_,(G0 (y4 (pv 0) (K4 rfl (E2 (P0 (i:=2) nd rfl (Or.inl rfl)) (E2 (P0 (i:=3) nd rfl (Or.inl rfl)) D4))))
  (G0 (U1 (U2 M5 (S0 y6 (by rfl) T.b_len K5 (i0 (pv 1) o0)) q0 (T1 _))
   (I0 (U0 (R1 (i0 (R0 u3 (pv 2) q0) (i0 (S0 pA (by rfl) T.b_sorted I8 (i0 (R0 O6 (pv 3) (Q1 (i0 (R1 (i0 (Y0 W0 (pv 1) q0 (λ_ _=>rfl)) (i0 (pv 2) o0))) o0))) o0)) o0)))))
   W1)
  (I0 (U0 (R1 (i0 (pv 2) (i0 (S0 pA (by rfl) T.b_sorted I8 (i0 (R0 O6 (pv 3) (Q1 (i0 (pv 1) o0))) o0)) o0))))))),?_⟩
 refine p3 h λss Q' q B C=>?_
 refine exS6 ss q λn m es j d p b=>?_
 have u:=b.1
 have z:=b.2.1
 have hd:=b.2.2.1
 have x:=b.2.2.2
 clear b q
 show EvS B _ _ [some (.st (webD n es)),some (.st d),none,none]
 have y:=u.len
 have o:=(hd.dw u (List.Perm.refl _)).ps.nd
 cases hd with
 | @place a a0 a1 hn =>
  row_cond go
  rw[O4 (show(([PyData.int a].length:Nat):Int)=1 from rfl)]
  repeat (first|(refine F3 (oA (ps:=es++[(a,n)]) ?_))|row_cond st)
  refine⟨by rw[w4];rfl,λqs r hs=>W4 ?_⟩
  row_cond go
  exact x qs (TC r o hs) r
 | @tie s t s0 h12 tn hno =>
  row_cond go
  rw[O2 (show ¬ (([PyData.int s,PyData.int t].length:Nat):Int)=1 from show ¬ ((2:Nat):Int)=1 by decide)]
  repeat (first|(refine F3 (oA (ps:=es++[(s,t)]) ?_))|row_cond st)
  refine⟨by rw[w4];rfl,λqs r hs=>W4 ?_⟩
  row_cond go
  exact x qs (TC r o hs) r
theorem sc_law_done:FnScope ["grower","deed"] ["grower","deed"] (L0 s_law_done):=by row_cond sc
theorem mI(T:Txt K mg):Can P w K mg base "_law_done" 13 ["grower","deed"] (spI K (MQ mg)):=by
 obtain⟨f,fd,D⟩:=T.d_law_done
 obtain⟨c,g⟩:=T.o_Grower
 have b:=g.mgx
 have u:=T.n_Grower_held _ b
 refine D.can (D.fn.ok sc_law_done (λvs H Q E h=>lenI h λA ss Q' q=>by obtain⟨C,n,m,es,j,d,p,I,rfl,rfl,l,M,hd,z⟩:=q;rfl) (λcdv A outer s H vs Q E i h=>?_))
 have nd:=sc_law_done.nd
 refine⟨_,(G0 (U1 (U2 M5 (S0 y6 (by rfl) T.b_len K5 (i0 (pv 1) o0)) q0 (T1 _))
   (I0 (U0 (p9 (oJ T b) g.cl i (pv 0) (i0 (Y0 W0 (pv 1) q0 (λ_ _=>rfl)) o0))))
   W1)
  (I0 (U0 (p9 (BP T b) g.cl i (pv 0) (i0 (Y0 W0 (pv 1) q0 (λ_ _=>rfl)) (i0 (Y0 W0 (pv 1) q0 (λ_ _=>rfl)) o0)))))),?_⟩
 refine R5 h λR ss Q' q B S=>?_
 obtain⟨C,n,m,es,j,d,p,I,rfl,rfl,l,M,hd,z⟩:=q
 show EvS B _ _ [some (.io (OI C (gF n es))),some (.st d)]
 obtain rfl:c=C:=by have:=b.symm.trans I;cases this;rfl
 have J:=l.gw M
 have L:=l.len
 cases hd with
 | @place a a0 a1 hn =>
  row_cond go
  rw[O4 (show(([PyData.int a].length:Nat):Int)=1 from rfl)]
  row_cond qe
  refine⟨_,_,rfl,.inr rfl,c,n,a,es,b,rfl,rfl,J,hn,l.ps,by lia,a0,a1,λqs v r i o F G=>?_⟩
  exact⟨_,rfl,z qs v r i o F G⟩
 | @tie s t s0 h12 tn hno =>
  row_cond go
  rw[O2 (show ¬ (([PyData.int s,PyData.int t].length:Nat):Int)=1 from show ¬ ((2:Nat):Int)=1 by decide)]
  row_cond qe
  refine⟨_,_,rfl,.inr rfl,c,n,s,t,es,b,rfl,rfl,J,⟨λq o=>by cases N2.mp o;exact⟨s0,h12,tn⟩,q7.mpr ⟨l.ps.nd,by simp,λx N y O e=>by cases N2.mp O;exact hno (e ▸ N)⟩⟩,by lia,λqs v r i o F G=>?_⟩
  exact⟨_,rfl,z qs v r i o F G⟩
end
def nopL(n x:Int):List PyData:=[.int n,.int (-1),.int (n+1+x),.int (-1-n),.bool true,.bool false,.none,.str "0",.tuple [.int 0],.list [.int 0],.dict [],.int 10000000000000000000000000,.str ""]
theorem VM{n x:Int}(b:1<=n)(a:n<=61)(c:0<=x):∀ d∈nopL n x,noPl n d:=by
 intro d hd
 unfold nopL at hd
 simp only[Z0,qA,or_false] at hd
 rcases hd with rfl|rfl|rfl|rfl|rfl|rfl|rfl|rfl|rfl|rfl|rfl|rfl|rfl
 all_goals first|rfl|exact O2 (by lia)|(show decide _=false;exact O2 (by lia))
def zN:VIo:=λA ss Q=>∃ n:Int,A=ODk/\ss=[.st (.int n)]/\∀ x,0<=x->x<60->Q ODk (.own (OL (nopL n x)))
theorem GD{n:Int}{es:List (Int × Int)}{b a:PyData}(h:X4 n (.tuple [b,a])=false):BadT n es (.list [.tuple [b,a]]):=by
 refine⟨λds e=>by cases e;exact M7 rfl,λc=>?_⟩
 exfalso
 have:=P6.mp c (.tuple [b,a]) (by simp)
 rw[h] at this
 cases this
theorem mF{n:Int}{es:List (Int × Int)}{p:Int × Int}(h:p∈es):BadT n es (.list [.tuple [.int p.1,.int p.2]]):=by
 refine⟨λds e=>by cases e;exact M7 rfl,λ_=>⟨[p],rfl,λhn=>?_⟩⟩
 exact(q7.mp hn).2.2 p h p (by simp) rfl
theorem TR{n:Int}{d c:PyData}(h:noPl n d\/noPl n c):X4 n (.tuple [d,c])=false:=by
 cases d with
 | int a =>
  cases c with
  | int b =>
   unfold noPl btwD at h
   simp only[decide_eq_false_iff_not] at h
   show(decide (0<=a/\a<=n-1) && decide (0<=b/\b<=n-1) && decide (a<b))=false
   rcases h with h|h
   ·rw[O2 (by lia)];rfl
   ·rw[O2 (p:=0<=b/\b<=n-1) (by lia)];simp
  |_=>rfl
 |_=>cases c <;> rfl
def fN(mg:Str->Option Value):VJ:=λss Q=>∃(C:Addr)(n:Int)(es:List (Int × Int)),mg "Grower" = some (.ref C)/\ss=[.io ODk,.io (OI C (gF n es)),.st (webD n es)]/\GW n es/\Q [some (.io ODk),some (.io (OI C (gF n es))),none] (.st (.bool true))
section
variable{P:Program}{w:World}{K:Frag}{mg:Str->Option Value}{base:Heap}
theorem sc_law_no_places:FnScope ["deck","n"] ["deck","n"] (L0 s_law_no_places):=by row_cond sc
theorem uQ(T:Txt K mg):Can P w K mg base "_law_no_places" 3 ["deck","n"] (spI K (zN)):=by
 obtain⟨f,fd,D⟩:=T.d_law_no_places
 obtain⟨c,b⟩:=T.o_Grower
 have a:=b.mgx
 have d:=T.n_Grower_held _ a
 refine D.can (D.fn.ok sc_law_no_places (λvs H Q E h=>lenI h λA ss Q' q=>by obtain⟨n,rfl,rfl,k⟩:=q;rfl) (λcdv A outer s H vs Q E i h=>?_))
 have nd:=sc_law_no_places.nd
 refine⟨_,(I0 (U0 (Q1 (by (refine' i0 (hs:=?C13) ?A13 ?B13;(case C13=>exact rfl);(case A13=>exact(pv 1));(case B13=>refine' i0 (hs:=?C12) ?A12 ?B12;(case C12=>exact rfl);(case A12=>exact(Y9 z9 q0));(case B12=>refine' i0 (hs:=?C11) ?A11 ?B11;(case C11=>exact rfl);(case A11=>exact(R0 u3 (R0 u3 (pv 1) q0) (J0 (D2 T) i (i0 (pv 0) (i0 q0 o0)))));(case B11=>refine' i0 (hs:=?C10) ?A10 ?B10;(case C10=>exact rfl);(case A10=>exact(R0 p7 (Y9 z9 q0) (pv 1)));(case B10=>refine' i0 (hs:=?C9) ?A9 ?B9;(case C9=>exact rfl);(case A9=>exact u4);(case B9=>refine' i0 (hs:=?C8) ?A8 ?B8;(case C8=>exact rfl);(case A8=>exact u4);(case B8=>refine' i0 (hs:=?C7) ?A7 ?B7;(case C7=>exact rfl);(case A7=>exact Q5);(case B7=>refine' i0 (hs:=?C6) ?A6 ?B6;(case C6=>exact rfl);(case A6=>exact ZD);(case B6=>refine' i0 (hs:=?C5) ?A5 ?B5;(case C5=>exact rfl);(case A5=>exact(R1 (i0 q0 o0)));(case B5=>refine' i0 (hs:=?C4) ?A4 ?B4;(case C4=>exact rfl);(case A4=>exact(Q1 (i0 q0 o0)));(case B4=>refine' i0 (hs:=?C3) ?A3 ?B3;(case C3=>exact rfl);(case A3=>exact EI);(case B3=>refine' i0 (hs:=?C2) ?A2 ?B2;(case C2=>exact rfl);(case A2=>exact(yE (n:=10000000000000000000000000) (by decide) (by refine⟨by decide,by decide,by decide⟩)));(case B2=>refine' i0 (hs:=?C1) ?A1 ?B1;(case C1=>exact rfl);(case A1=>exact ZD);(case B1=>exact o0)))))))))))))))))),?_⟩
 refine R5 h λl ss Q' q B m=>?_
 obtain⟨n,rfl,rfl,k⟩:=q
 show EvS B _ _ [some (.io ODk),some (.st (.int n))]
 repeat (first|(refine F3 (dD (ID ?_)))|row_cond st)
 refine⟨60,rfl,rfl,by lia,by lia,λx g j=>?_⟩
 repeat (first|(refine F3 (dD (ID ?_)))|row_cond st)
 exact k x g j
theorem sc_law_things_refused:FnScope ["deck","grower","web","n","ties","good","thing","a","b"] ["deck","grower","web"] (L0 s_law_things_refused):=by row_cond sc
theorem pJ(T:Txt K mg):Can P w K mg base "_law_things_refused" 14 ["deck","grower","web"] (spJ K (fN mg)):=by
 obtain⟨f,fd,D⟩:=T.d_law_things_refused
 obtain⟨a,m⟩:=T.o_Grower
 have b:=m.mgx
 have z:=T.n_Grower_held _ b
 refine D.can (D.fn.ok sc_law_things_refused (λvs H Q E h=>lenJ h λss Q' q=>by obtain⟨C,n,es,I,rfl,o,J⟩:=q;rfl) (λcdv A outer s H vs Q E v h=>?_))
 have nd:=sc_law_things_refused.nd
 refine⟨_,(G0 (y4 (pv 2) (K4 rfl (E2 (P0 (i:=3) nd rfl (Or.inl rfl)) (E2 (P0 (i:=4) nd rfl (Or.inl rfl)) D4))))
  (G0 (O0 (i:=5) nd rfl (Or.inl rfl) (J0 (D2 T) v (i0 (pv 0) (i0 (pv 3) o0))))
  (G0  (k4 R3 rfl (Q4 (J0 (uQ T) v (i0 (pv 0) (i0 (pv 3) o0)))) (P0 (i:=6) nd rfl (Or.inl rfl))
   (G0 (U1 (PW.pt (vC (O3 (L3 (J0 (U7 T) v (i0 q0 (i0 (pv 1) (i0 (pv 6) (i0 q0 (i0 q0 o0)))))))) (ZC (O3 (L3 (J0 (U7 T) v (i0 q0 (i0 (pv 1) (i0 (pv 6) (i0 (pv 5) (i0 q0 o0)))))))))))
     (I0 (U0 u4))
     W1)
    (G0 (U1 (PW.pt (vC (O3 (L3 (J0 (U7 T) v (i0 q0 (i0 (pv 1) (i0 (pv 5) (i0 (pv 6) (i0 q0 o0)))))))) (ZC (O3 (L3 (J0 (U7 T) v (i0 q0 (i0 (pv 1) (i0 (pv 6) (i0 (pv 6) (i0 q0 o0)))))))))))
     (I0 (U0 u4))
     W1)
    (I0 (k4 R3 rfl (Q4 (Q1 (i0 (R1 (i0 (pv 6) (i0 (pv 5) o0))) (i0 (R1 (i0 (pv 5) (i0 (pv 6) o0))) (i0 (R1 (i0 (pv 6) (i0 (pv 6) o0))) (i0 (R1 (i0 (pv 6) (i0 Q5 o0))) o0)))))) (K4 rfl (E2 (P0 (i:=7) nd rfl (Or.inl rfl)) (E2 (P0 (i:=8) nd rfl (Or.inl rfl)) D4)))
     (I0 (U1 (O3 (L3 (J0 (U7 T) v (i0 q0 (i0 (pv 1) (i0 (pv 7) (i0 (pv 8) (i0 q0 o0))))))))
       (I0 (U0 u4))
       W1)))))))
  (I0 (U0 u4))))),?_⟩
 refine fD h λss Q' q B O=>?_
 obtain⟨C,n,es,I,rfl,o,J⟩:=q
 show EvS B _ _ [some (.io ODk),some (.io (OI C (gF n es))),some (.st (webD n es)),none,none,none,none,none,none]
 obtain rfl:a=C:=by have:=b.symm.trans I;cases this;rfl
 have hn:=o.lo
 have G:=o.hi
 row_cond go
 refine⟨n,rfl,rfl,by lia,by lia,λg g0 N=>?_⟩
 row_cond go
 refine⟨n,rfl,rfl,λx L R=>W4 ?_⟩
 have F:=VM hn G L
 row_cond go
 refine⟨λi e=>∃ y r u,e=[some (.io ODk),some (.io (OI a (gF n es))),some (.st (webD n es)),some (.st (.int n)),some (.st (.list (es.map prD))),some (.st (.int g)),y,r,u],⟨_,_,_,rfl⟩,?_,?_⟩
 ·rintro i d e hd c
  refine exE3 e c λy r u=>?_
  clear c
  have l:=F d (v2 hd)
  row_cond qa
  refine⟨_,.pl (.rf (.inr rfl) (.pl (.pl (.pl .nil)))),(by show List.Nodup [1];decide),a,n,0,0,es,d,.int 0,b,rfl,o,.inl ⟨rfl,l,rfl⟩,?_⟩
  refine⟨_,.pl (.rf rfl (.inr rfl) (.pl (.pl (.pl .nil)))),E5 ?_⟩
  row_cond qc
  row_cond qa
  refine⟨_,.pl (.rf (.inr rfl) (.pl (.pl (.pl .nil)))),(by show List.Nodup [1];decide),a,n,2,0,es,d,.int g,b,rfl,o,.inr (.inr (.inr (.inl ⟨rfl,.inl l,rfl⟩))),?_⟩
  refine⟨_,.pl (.rf rfl (.inr rfl) (.pl (.pl (.pl .nil)))),E5 ?_⟩
  row_cond qc
  row_cond qa
  refine⟨_,.pl (.rf (.inr rfl) (.pl (.pl (.pl .nil)))),(by show List.Nodup [1];decide),a,n,2,0,es,.int g,d,b,rfl,o,.inr (.inr (.inr (.inl ⟨rfl,.inr l,rfl⟩))),?_⟩
  refine⟨_,.pl (.rf rfl (.inr rfl) (.pl (.pl (.pl .nil)))),E5 ?_⟩
  row_cond qc
  row_cond qa
  refine⟨_,.pl (.rf (.inr rfl) (.pl (.pl (.pl .nil)))),(by show List.Nodup [1];decide),a,n,2,0,es,d,d,b,rfl,o,.inr (.inr (.inr (.inl ⟨rfl,.inl l,rfl⟩))),?_⟩
  refine⟨_,.pl (.rf rfl (.inr rfl) (.pl (.pl (.pl .nil)))),E5 ?_⟩
  row_cond qc
  row_cond go
  refine Z6 (xs:=[(d,PyData.int g),(.int g,d),(d,d),(d,.none)]) (f:=λp:PyData × PyData=>.tuple [p.1,p.2]) (λj e=>∃ r u,e=[some (.io ODk),some (.io (OI a (gF n es))),some (.st (webD n es)),some (.st (.int n)),some (.st (.list (es.map prD))),some (.st (.int g)),some (.st d),r,u]) ⟨_,_,rfl⟩ ?_ ?_
  ·rintro j p e M c
   refine exE2 e c λr u=>?_
   clear c
   have hb:noPl n p.1\/noPl n p.2:=by
    have:=v2 M
    simp only[Z0,qA,or_false] at this
    rcases this with rfl|rfl|rfl|rfl
    ·exact .inl l
    ·exact .inr l
    ·exact .inl l
    ·exact .inl l
   row_cond qa
   refine⟨_,.pl (.rf (.inr rfl) (.pl (.pl (.pl .nil)))),(by show List.Nodup [1];decide),a,n,1,2,es,p.1,p.2,b,rfl,o,.inr (.inr (.inl ⟨rfl,GD (TR hb),rfl⟩)),?_⟩
   refine⟨_,.pl (.rf rfl (.inr rfl) (.pl (.pl (.pl .nil)))),E5 ?_⟩
   row_cond qc
   row_cond go
   exact⟨_,_,rfl⟩
  ·rintro e c
   refine exE2 e c λr u=>?_
   clear c
   exact⟨_,_,_,rfl⟩
 ·rintro e c
  refine exE3 e c λy r u=>?_
  clear c
  row_cond go
  exact J
end
def kC(K:Frag):Sp:=λvs H Q _=>∃(a:Addr)(ns:List Int),vs=[.ref a]/\SqL K H a (ns.map V.int)/\ns.length<=63/\∀ H',Q (.bl true) H'
def JE:VP:=λss Q=>∃ ns:List Int,ss=[.scr ns]/\ns.length<=63/\Q (.st (.bool true))
theorem IL{K:Frag}{vs:List V}{H:Hp}{Q:VK}{E:XK}(h:kC K vs H Q E):spP K JE vs H Q E:=by
 obtain⟨a,ns,rfl,b,c,k⟩:=h
 refine⟨H,[.scr ns],λs=>s=.st (.bool true),Same.refl _,λa d h=>h,.cons ⟨a,rfl,b⟩ .nil,⟨ns,rfl,c,rfl⟩,λs e v G' H' Fv o=>?_⟩
 subst e
 have r:=o.ok.1
 cases r
 exact k _
theorem zE{α:Type}(f : α->PyData)(l:List α)(lo hi:Option Int):∃ a:List α,cutD (l.map f) lo hi=a.map f/\a.Sublist l :=
 ⟨_,by unfold cutD;rw[← List.map_drop,← List.map_take],(List.take_sublist _ _).trans (List.drop_sublist _ _)⟩
def ML(mg:Str->Option Value):VJ:=λss Q=>∃(C:Addr)(n:Int)(es:List (Int × Int))(j:Nat),mg "Grower" = some (.ref C)/\ss=[.io ODk,.io (OI C (gF n es)),.st (webD n es)]/\DW n es j/\j<=100/\Q [some (.io ODk),some (.io (OI C (gF n es))),none] (.st (.bool true))
section
variable{P:Program}{w:World}{K:Frag}{mg:Str->Option Value}{base:Heap}
theorem sc_law_all_refused:FnScope ["deck","grower","web","n","ties","a","b","some","one","other"] ["deck","grower","web"] (L0 s_law_all_refused):=by row_cond sc
theorem jG(T:Txt K mg):Can P w K mg base "_law_all_refused" 15 ["deck","grower","web"] (spJ K (ML mg)):=by
 obtain⟨f,fd,D⟩:=T.d_law_all_refused
 obtain⟨c,l⟩:=T.o_Grower
 have g:=l.mgx
 have a4:=T.n_Grower_held _ g
 refine D.can (D.fn.ok sc_law_all_refused (λvs H Q E h=>lenJ h λss Q' q=>by obtain⟨C,n,es,j,hC,rfl,G,hj,kk⟩:=q;rfl) (λcdv A outer s H vs Q E r h=>?_))
 have nd:=sc_law_all_refused.nd
 refine⟨_,(G0 (y4 (pv 2) (K4 rfl (E2 (P0 (i:=3) nd rfl (Or.inl rfl)) (E2 (P0 (i:=4) nd rfl (Or.inl rfl)) D4))))
  (G0 (U1 (O3 (L3 (J0 (pJ T) r (i0 (pv 0) (i0 (pv 1) (i0 (pv 2) o0))))))
   (I0 (U0 u4))
   W1)
  (G0 (O0 (i:=5) nd rfl (Or.inl rfl) (J0 (D2 T) r (i0 (pv 0) (i0 (pv 3) o0))))
  (G0 (O0 (i:=6) nd rfl (Or.inl rfl) (J0 (D2 T) r (i0 (pv 0) (i0 (pv 3) o0))))
  (G0 (O0 (i:=7) nd rfl (Or.inl rfl) (Q1 (i0 (R1 (i0 (pv 5) (i0 (pv 5) o0))) (i0 (R1 (i0 (S0 (S7 rfl) (by rfl) T.b_max p5 (i0 (pv 5) (i0 (pv 6) o0))) (i0 (S0 (N7 rfl) (by rfl) T.b_min m7 (i0 (pv 5) (i0 (pv 6) o0))) o0))) (i0 (R1 (i0 (pv 3) (i0 (R0 u3 (pv 3) q0) o0))) (i0 (R1 (i0 q0 (i0 (pv 3) o0))) o0))))))
  (G0 (k4 R3 rfl (Q4 (R0 O6 (R0 O6 (R0 O6 (pv 7) (VB eC (pv 4) UC (xD q0))) (VB eC (pv 4) (xD (Y9 z9 q0)) UC)) (O5 rfl (N:=["one","two"]) (src:=[none,none]) (by exact Z4 rfl rfl rfl rfl rfl rfl) (Q4 (VB eC (pv 4) UC (xD q0))) (λ_ _ _ _=>(show PG _ _ (gTup K 2 (i9 (D3 0) (i9 (D3 1) gNil))) from(K4 rfl (E2 (P0 (i:=0) (show List.Nodup (["one","two"]:List Str) by decide +kernel) rfl (Or.inl rfl) (hf:=Or.inr rfl)) (E2 (P0 (i:=1) (show List.Nodup (["one","two"]:List Str) by decide +kernel) rfl (Or.inl rfl) (hf:=Or.inr rfl)) D4))))) (λ_ _ _ _=>u5) (λ_ _ _ _=>(R1 (i0 (pv 1) (i0 (pv 0) o0))))))) (K4 rfl (E2 (P0 (i:=8) nd rfl (Or.inl rfl)) (E2 (P0 (i:=9) nd rfl (Or.inl rfl)) D4)))
   (I0 (U1 (O3 (L3 (J0 (U7 T) r (i0 q0 (i0 (pv 1) (i0 (pv 8) (i0 (pv 9) (i0 q0 o0))))))))
     (I0 (U0 u4))
     W1)))
  (G0 (U1 (PW.pt (w8 (U2 M5 (pv 3) q0 (T1 _)) (k8 (O3 (L3 (J0 (U7 T) r (i0 q0 (i0 (pv 1) (i0 (pv 5) (i0 q0 (i0 q0 o0)))))))))))
   (I0 (U0 u4))
   W1)
  (G0 (U1 (PW.pt (w8 (U2 lE (J0 (WB T) r (i0 (pv 2) o0)) Q5 (T1 _)) (k8 (O3 (L3 (J0 (U7 T) r (i0 q0 (i0 (pv 1) (i0 q0 (i0 q0 (i0 q0 o0)))))))))))
   (I0 (U0 u4))
   W1)
  (I0 (U0 (n8 (L6 (DD r.units) (gM (UI T g) l.cl r (pv 1)) (pv 2) (T1 _)) (v9 (L6 (DD r.units) (p9 (NR T g) l.cl r (pv 1) (i0 (pv 5) (i0 (pv 6) o0))) (vN (Q6 r) (Y0 W0 (J0 (IH T) r (i0 (pv 2) o0)) (pv 5) (λ_ _=>rfl)) (pv 6) ⟨rfl,rfl,rfl,rfl⟩) (T1 _)))))))))))))),?_⟩
 refine fD h λss Q' q B hK=>?_
 obtain⟨C,n,es,j,hC,rfl,G,hj,kk⟩:=q
 show EvS B _ _ [some (.io ODk),some (.io (OI C (gF n es))),some (.st (webD n es)),none,none,none,none,none,none,none]
 obtain rfl:c=C:=by have:=g.symm.trans hC;cases this;rfl
 have x:=G.gw hj
 have hn:=G.lo
 have b2:=G.hi
 have a9:=G.len
 have a5:=x.inn
 obtain⟨Z,a2,v⟩:=zE prD es none (some 3)
 obtain⟨c2,a7,I⟩:=zE prD es (some (-3)) none
 have b3:=v.length_le
 have b4:=I.length_le
 row_cond qa
 refine⟨_,.rf (.inr rfl) (.rf (.inr rfl) (.pl .nil)),(by show List.Nodup [0,1];decide),c,n,es,g,rfl,x,?_⟩
 refine⟨_,.rf rfl (.inr rfl) (.rf rfl (.inr rfl) (.pl .nil)),E5 ?_⟩
 row_cond qc
 row_cond go
 refine⟨n,rfl,rfl,by lia,by lia,λa a0 a1=>?_⟩
 row_cond go
 refine⟨n,rfl,rfl,by lia,by lia,λb b0 b1=>?_⟩
 repeat (first|(rw[a2])|(rw[a7])|(refine R7 T4 ?_)|row_cond st)
 refine JL (xs:=Z) (fa:=λp=>.int p.1) (fb:=λp=>.int p.2) (λp=>prD (p.2,p.1)) (λ_=>true) rfl (by lia) (λp m B' hB=>?_) ?_
 ·refine SA ⟨rfl,rfl,λ_=>?_⟩
  row_cond go
  exact rfl
 rw[cF]
 row_cond go
 obtain⟨xs,W⟩:∃ xs:List (Int × Int),xs=[(a,a),(if b > a then b else a,if b<a then b else a),(n,n+1),(0,n)]++Z++c2++Z.map λp=>(p.2,p.1):=⟨_,rfl⟩
 have J:∀ p∈xs,BadT n es (.list [.tuple [.int p.1,.int p.2]]):=λp m=>by
  rw[W] at m
  rcases E1.mp m with m|m
  ·rcases E1.mp m with m|m
   ·rcases E1.mp m with m|m
    ·refine GD ?_
     show(decide (0<=p.1/\p.1<=n-1) && decide (0<=p.2/\p.2<=n-1) && decide (p.1<p.2))=false
     simp only[Z0,qA,or_false] at m
     rcases m with rfl|rfl|rfl|rfl
     ·rw[O2 (p:=a<a) (by lia)];simp
     ·rw[O2 (p:=(if b > a then b else a)<if b<a then b else a) (by split <;> split <;> lia)];simp
     ·rw[O2 (p:=0<=n/\n<=n-1) (by lia)];rfl
     ·rw[O2 (p:=0<=n/\n<=n-1) (by lia)];simp
    ·exact mF (v.subset m)
   ·exact mF (I.subset m)
  ·obtain⟨q,hq,rfl⟩:=P1.mp m
   have:=G.ps.inn q (v.subset hq)
   refine GD ?_
   show(decide (0<=q.2/\q.2<=n-1) && decide (0<=q.1/\q.1<=n-1) && decide (q.2<q.1))=false
   rw[O2 (p:=q.2<q.1) (by lia)];simp
 rw[show [PyData.tuple [PyData.int a,PyData.int a],PyData.tuple [PyData.int (if b > a then b else a),PyData.int (if b<a then b else a)],PyData.tuple [PyData.int n,PyData.int (n+1)],PyData.tuple [PyData.int 0,PyData.int n]]++List.map prD Z++List.map prD c2++List.map (λp=>prD (p.2,p.1)) Z=xs.map prD by rw[W];simp[prD]]
 refine Z6 (xs:=xs) (f:=prD) (λi e=>∃ M L,e=[some (.io ODk),some (.io (OI c (gF n es))),some (.st (webD n es)),some (.st (.int n)),some (.st (.list (es.map prD))),some (.st (.int a)),some (.st (.int b)),some (.st (.list ([(a,a),(if b > a then b else a,if b<a then b else a),(n,n+1),(0,n)].map prD))),M,L]) ⟨_,_,rfl⟩ ?_ ?_
 ·rintro i p e m u
  refine exE2 e u λM L=>?_
  clear u
  have hb:=J p (v2 m)
  show EvG B _ (.st (.tuple [.int p.1,.int p.2])) _ _
  row_cond qa
  refine⟨_,.pl (.rf (.inr rfl) (.pl (.pl (.pl .nil)))),(by show List.Nodup [1];decide),c,n,1,2,es,.int p.1,.int p.2,g,rfl,x,.inr (.inr (.inl ⟨rfl,hb,rfl⟩)),?_⟩
  refine⟨_,.pl (.rf rfl (.inr rfl) (.pl (.pl (.pl .nil)))),E5 ?_⟩
  row_cond qc
  row_cond go
  exact⟨_,_,rfl⟩
 ·rintro e u
  refine exE2 e u λM L=>?_
  clear u
  row_cond go
  rename_i c_ hc_
  refine' cutR (R:=EvS B c_ { nx:=λe=>Q' (cutE 3 e) (Sl.st PyData.none),rt:=λs e=>Q' (cutE 3 e) s } ([some (.io ODk),some (.io (OI c (gF n es))),some (.st (webD n es)),some (.st (.int n)),some (.st (.list (es.map prD))),some (.st (.int a)),some (.st (.int b)),some (.st (.list ([(a,a),(if b > a then b else a,if b<a then b else a),(n,n+1),(0,n)].map prD))),M,L]:En)) (λR=>?K1) ?K2
  case K1 =>
   refine P5 (λa6=>?_) (λa6=>?_)
   ·row_cond qa
    refine⟨_,.pl (.rf (.inr rfl) (.pl (.pl (.pl .nil)))),(by show List.Nodup [1];decide),c,n,0,4,es,.int a,.int 0,g,rfl,x,.inr (.inl ⟨rfl,O4 ⟨a0,by lia⟩,by lia,rfl⟩),?_⟩
    refine⟨_,.pl (.rf rfl (.inr rfl) (.pl (.pl (.pl .nil)))),E5 ?_⟩
    row_cond qc
    repeat (first|exact R|row_cond st)
   ·repeat (first|exact R|row_cond st)
  case K2 =>
   row_cond go
   refine⟨n,es,rfl,x,λd hd=>?_⟩
   rename_i c2_ hc2_
   refine' cutR (R:=EvS B c2_ { nx:=λe=>Q' (cutE 3 e) (Sl.st PyData.none),rt:=λs e=>Q' (cutE 3 e) s } ([some (.io ODk),some (.io (OI c (gF n es))),some (.st (webD n es)),some (.st (.int n)),some (.st (.list (es.map prD))),some (.st (.int a)),some (.st (.int b)),some (.st (.list ([(a,a),(if b > a then b else a,if b<a then b else a),(n,n+1),(0,n)].map prD))),M,L]:En)) (λR=>?K1) ?K2
   case K1 =>
    rcases hd with ⟨hJ,y,hy,rfl⟩|⟨hJ,rfl⟩
    ·row_cond go
     rw[y0 (show ¬ (isNone (PyData.int y)=true) from Y1)]
     repeat (first|exact R|row_cond st)
    ·row_cond go
     rw[t0 (show isNone PyData.none=true from rfl)]
     row_cond qa
     refine⟨_,.pl (.rf (.inr rfl) (.pl (.pl (.pl .nil)))),(by show List.Nodup [1];decide),c,n,3,1,es,.int 0,.int 0,g,rfl,x,.inr (.inr (.inr (.inr ⟨rfl,hJ,rfl⟩))),?_⟩
     refine⟨_,.pl (.rf rfl (.inr rfl) (.pl (.pl (.pl .nil)))),E5 ?_⟩
     row_cond qc
     repeat (first|exact R|row_cond st)
   case K2 =>
    repeat (first|(refine JH (i:=1) (.inr rfl) (E6 (by decide +kernel)) ?_)|row_cond st)
    refine⟨_,_,rfl,.inr rfl,c,n,es,g,rfl,rfl,by lia,kB ?_⟩
    row_cond qc
    row_cond go
    refine jD (webP n es) (webP n es) (rN n es) ?_
    rw[HC (webP n es)]
    repeat (first|(refine JH (i:=1) (.inr rfl) (E6 (by decide +kernel)) ?_)|row_cond st)
    refine⟨_,_,rfl,.inr rfl,c,n,a,b,es,g,rfl,rfl,x,a0,a1,b0,b1,?_⟩
    row_cond qc
    repeat (first|(refine GI ?_)|row_cond st)
    refine⟨n,es,rfl,hn,by lia,a5,by lia,λess X=>W4 ?_⟩
    obtain⟨z,O⟩:∃ z,ess[a.toNat]?=some z:=⟨_,X0 (by have:=X.len;lia)⟩
    have S:=X.row a z a0 O
    have a8:V0 (ess.map abw) a=some (abw z):=P9 (f:=abw) (L5 a0 O)
    have U:z ≠ []:=S.ne (Gr.farO_self (T:=Tied es) (a:=a))
    obtain⟨o,ho⟩:∃ o,Gr.farO (Tied es) a b=o:=⟨_,rfl⟩
    rw[ho]
    have Y:(valD z (.inl b)).getD .none=oD o:=by rw[S.val,ho];cases o <;> rfl
    have F:z1 (oD o)=true:=by cases o <;> rfl
    have a3:(oD o).depth<=60:=by cases o <;> simp[oD,PyData.depth]
    row_cond go
    refine⟨z,rfl,U,?_⟩
    row_cond go
    refine⟨.inl b,rfl,?_⟩
    rw[Y]
    row_cond go
    refine jD F F a3 ?_
    rw[HC F]
    row_cond go
    exact kk
theorem sc_law:FnScope ["script","deck","k","web","grower","turn","deed","before"] ["script"] (L0 s_law):=by row_cond sc
theorem aJ (T:Txt K mg) {f:Addr} {fd:FuncData} (D:DefAt K mg "law" s_law ["script"] f fd):FnOk P w K mg base CX0 16 f fd ["script"] (spP K (JE)):=by
 obtain⟨b,l⟩:=T.o_Grower
 have a:=l.mgx
 have X:=T.n_Grower_held _ a
 refine D.fn.ok sc_law (λvs H Q E h=>lenP h λss Q' q=>by obtain⟨ns,rfl,G,kk⟩:=q;rfl) (λcdv A outer s H vs Q E o h=>?_)
 have nd:=sc_law.nd
 refine ⟨_,(G0 (O0 (i:=1) nd rfl (Or.inl rfl) (J0 (oS T) o (i0 (pv 0) o0)))
  (G0  (k4 R3 rfl (z5 rfl T.b_range (i0 q0 o0)) (P0 (i:=2) nd rfl (Or.inl rfl))
   (G0  (O0 (i:=3) nd rfl (Or.inl rfl) (Y0 W0 (Q1 (i0 (J0 (KJ T) o (i0 (pv 1) (i0 (Y0 W0 (Q1 (i0 q0 (i0 q0 o0))) (Y7 gD (by rfl) T.b_int EB (i0 (L6 DB (pv 2) q0 (T1 _)) o0)) (λ_ _=>rfl)) o0))) (i0 (R1 (i0 (R0 u3 q0 (J0 (D2 T) o (i0 (pv 1) (i0 q0 o0)))) (i0 (Q1 (i0 (R1 (i0 q0 (i0 q0 o0))) o0)) o0))) o0))) (Y7 gD (by rfl) T.b_int EB (i0 (L6 M5 (pv 2) q0 (T1 _)) o0)) (λ_ _=>rfl)))
    (G0 (O0 (i:=4) nd rfl (Or.inl rfl) (sK (lN T a) l o (i0 (pv 3) o0)))
    (G0  (k4 R3 rfl (z5 rfl T.b_range (i0 q0 o0)) (P0 (i:=5) nd rfl (Or.inl rfl))
     (G0 (U1 (O3 (L3 (J0 (jG T) o (i0 (pv 1) (i0 (pv 4) (i0 (pv 3) o0))))))
       (I0 (U0 u4))
       W1)
      (G0 (O0 (i:=6) nd rfl (Or.inl rfl) (J0 (lI T) o (i0 (pv 1) (i0 (pv 3) o0))))
      (I0 (U1 (U2 AG (pv 6) Q5 (T1 _))
       (G0 (O0 (i:=7) nd rfl (Or.inl rfl) (J0 (WB T) o (i0 (pv 3) o0)))
        (G0 (O0 (i:=3) nd rfl (Or.inl rfl) (J0 (dS T) o (i0 (pv 3) (i0 (pv 6) o0))))
        (I0 (U1 (U2 (pG o.units) (J0 (mI T) o (i0 (pv 4) (i0 (pv 6) o0))) (R1 (i0 (pv 7) (i0 (J0 (WB T) o (i0 (pv 3) o0)) o0))) (T1 _))
         (I0 (U0 u4))
         W1))))
       W1)))))
    (I0 (U1 (O3 (L3 (J0 (jG T) o (i0 (pv 1) (i0 (pv 4) (i0 (pv 3) o0))))))
     (I0 (U0 u4))
     W1))))))
  (I0 (U0 u4)))),?_⟩
 refine p3 h λss Q' q B hK=>?_
 refine exS1 ss q λns g=>?_
 have G:=g.1
 have kk:=g.2
 clear g q
 show EvS B _ _ [some (.scr ns),none,none,none,none,none,none,none]
 row_cond go
 refine⟨ns,rfl,G,?_⟩
 row_cond go
 refine X7 (λi e=>∃ U W Z F v y,e=[some (.scr ns),some (.own ODk),U,W,Z,F,v,y]) ⟨_,_,_,_,_,_,rfl⟩ ?_ ?_
 ·rintro i e hi c
  refine exE6 e c λU W Z F v y=>?_
  clear c
  obtain⟨mo,a1,R⟩:∃ mo:Int,V0 [PyData.int 60,.int 24] (if decide (0<0+(i:Int))=true then 1 else 0)=some (.int mo)/\(mo=60\/mo=24):=by
   by_cases h:decide (0<0+(i:Int))=true
   ·rw[t0 h];exact⟨24,rfl,.inr rfl⟩
   ·rw[y0 h];exact⟨60,rfl,.inl rfl⟩
  row_cond go
  refine⟨mo,rfl,rfl,R,λS es0 n0 n1 hP hL=>?_⟩
  row_cond go
  refine⟨3,rfl,rfl,by lia,by lia,λr r0 r1=>?_⟩
  obtain⟨n,es,a0,hW⟩:∃(n:Int)(es:List (Int × Int)),V0 [webD S es0,webD (58+r) [(0,1)]] (if decide (0+(i:Int)=4)=true then 1 else 0)=some (webD n es)/\DW n es 0:=by
   by_cases h:decide (0+(i:Int)=4)=true
   ·rw[t0 h]
    exact⟨_,_,rfl,by lia,by lia,⟨by simp,λp I=>by rw[N2.mp I];simp only;lia⟩,by simp⟩
   ·rw[y0 h]
    exact⟨_,_,rfl,n0,n1,hP,hL⟩
  repeat (first|(refine RL (by assumption) ?_)|row_cond st)
  refine⟨b,n,es,a,rfl,rfl,rfl,?_⟩
  repeat (first|(refine lJ 4 rfl ?_;dsimp only[List.set_cons_zero,List.set_cons_succ])|row_cond st)
  refine X7 (λj e=>∃ m qs F v y,e=[some (.scr ns),some (.own ODk),some (.st (.int (0+(i:Int)))),some (.st (webD m qs)),some (.own (OI b (gF m qs))),F,v,y]/\DW m qs j) ⟨n,es,_,_,_,rfl,hW⟩ ?_ ?_
  ·rintro j e hj c
   refine exS5 e c λm qs F v y g=>?_
   have u:=g
   clear g c
   have a2:j<4:=hj
   repeat (first|(refine k6 (by assumption) ?_)|(refine u6 (s:=.own _) rfl ?_)|(refine o6 ?_)|(refine j6 ?_)|row_cond st)
   refine⟨_,.rf (.inl rfl) (.rf (.inl rfl) (.pl .nil)),(by show List.Nodup [1,4];decide),b,m,qs,j,a,rfl,u,by lia,?_⟩
   refine⟨_,.rf rfl (.inl rfl) (.rf rfl (.inl rfl) (.pl .nil)),E5 ?_⟩
   row_cond qc
   row_cond go
   refine⟨m,qs,j,rfl,rfl,u,by lia,?_,λd L p hd=>?_⟩
   ·row_cond go
    rw[y0 (show ¬ ((!isNone PyData.none)=true) from Y1)]
    row_cond go
    exact⟨m,qs,_,_,_,rfl,⟨u.lo,u.hi,u.ps,by have:=u.len;lia⟩⟩
   ·have O:isNone d=false:=by cases hd <;> rfl
    row_cond go
    rw[O,t0 (show(!false)=true from rfl)]
    row_cond go
    refine⟨m,qs,rfl,u.gw (by lia),λd0 C=>?_⟩
    row_cond go
    refine⟨m,L,qs,j,d,p,rfl,u,by lia,hd,λts o hq=>?_⟩
    have J:=hd.dw u hq
    row_cond go
    refine⟨b,m,L,qs,j,d,p,a,rfl,rfl,u,by lia,hd,λus e0 e1 Y N g0 g1=>?_⟩
    obtain rfl:ts=us:=o.eq Y λx=>hq.mem_iff.trans N.mem_iff.symm
    obtain rfl:=C.uniq g0
    refine E5 ?_
    row_cond qc
    row_cond go
    refine⟨L,ts,rfl,J.gw (by lia),λd1 z=>?_⟩
    obtain rfl:=z.uniq g1
    row_cond go
    have I:z1 (.tuple [d0,d1])=true:=by
     have h1:=C.plain.1
     have h2:=z.plain.1
     simp only[z1,plainDs,h1,h2,Bool.and_self]
    have M:(PyData.tuple [d0,d1]).depth<=60:=by
     have h1:=C.plain.2.1
     have h2:=z.plain.2.1
     simp only[PyData.depth,PyData.depthAll]
     lia
    refine nH I I M ?_
    rw[HC I]
    row_cond go
    exact⟨L,ts,_,_,_,rfl,J⟩
  ·rintro e c
   refine exS5 e c λm qs F v y g=>?_
   have u:=g
   clear g c
   repeat (first|(refine k6 (by assumption) ?_)|(refine u6 (s:=.own _) rfl ?_)|(refine o6 ?_)|(refine j6 ?_)|row_cond st)
   refine⟨_,.rf (.inl rfl) (.rf (.inl rfl) (.pl .nil)),(by show List.Nodup [1,4];decide),b,m,qs,4,a,rfl,u,by lia,?_⟩
   refine⟨_,.rf rfl (.inl rfl) (.rf rfl (.inl rfl) (.pl .nil)),E5 ?_⟩
   row_cond qc
   row_cond go
   exact⟨_,_,_,_,_,_,rfl⟩
 ·rintro e c
  refine exE6 e c λU W Z F v y=>?_
  clear c
  row_cond go
  exact kk
theorem VR(T:Txt K mg){f:Addr}{fd:FuncData}(D:DefAt K mg "law" s_law ["script"] f fd):FnOk P w K mg base CX0 16 f fd ["script"] (kC K):=(aJ T D).imp λ_ _ _ _ h=>IL h
end
theorem len0{α:Type}{us:List α}(h:us.length=0):us=[]:=FA h
theorem len1{α:Type}{us:List α}(h:us.length=1):∃ a0,us=[a0]:=by
 cases us with
 |nil=>cases h
 |cons a us=>exact⟨a,by rw[len0 (Nat.succ.inj h)]⟩
theorem len2{α:Type}{us:List α}(h:us.length=2):∃ a0 a1,us=[a0,a1]:=by
 cases us with
 |nil=>cases h
 |cons a us=>obtain⟨a1,e⟩:=len1 (Nat.succ.inj h);exact⟨a,a1,by rw[e]⟩
theorem len3{α:Type}{us:List α}(h:us.length=3):∃ a0 a1 b,us=[a0,a1,b]:=by
 cases us with
 |nil=>cases h
 |cons a us=>obtain⟨a1,b,e⟩:=len2 (Nat.succ.inj h);exact⟨a,a1,b,by rw[e]⟩
theorem len4{α:Type}{us:List α}(h:us.length=4):∃ a0 a1 c b,us=[a0,a1,c,b]:=by
 cases us with
 |nil=>cases h
 |cons a us=>obtain⟨a1,c,b,e⟩:=len3 (Nat.succ.inj h);exact⟨a,a1,c,b,by rw[e]⟩
theorem len5{α:Type}{us:List α}(h:us.length=5):∃ a0 a1 d b c,us=[a0,a1,d,b,c]:=by
 cases us with
 |nil=>cases h
 |cons a us=>obtain⟨a1,d,b,c,e⟩:=len4 (Nat.succ.inj h);exact⟨a,a1,d,b,c,by rw[e]⟩
def Bnd(x:Str)(st:Stmt)(ps:List Str):Prop:=∀(kV doc pm:Value)(an:Option Addr)(cdv ct:Value)(us:List Value),us.length=ps.length->bindArgs (fnOf x x (z4 st) (m4 st) (L0 st) .none kV doc pm an cdv ct) ⟨us,[]⟩=pure (ps.zip us)
def FnIn(K:Frag)(x:Str)(st:Stmt):Prop:=∃ f oc od kV dc pm an cd ct sl,nsIn K mainGlobals x=some (some (.ref f))/\K.lookup f=some ⟨oc,od,.func (fnOf x x (z4 st) (m4 st) (L0 st) .none kV dc pm an cd ct),sl⟩/\codeIn K cd x=true/\keepIn K (.ref f)=true
theorem fn_in{K:Frag}{x:Str}{st:Stmt}{f:Addr}{od an:Option Addr}{sl:Array (Option Value)}{oc kV d pm b ct:Value}(a:nsIn K mainGlobals x=some (some (.ref f)))(l:K.lookup f=some ⟨oc,od,.func (fnOf x x (z4 st) (m4 st) (L0 st) .none kV d pm an b ct),sl⟩)(c:codeIn K b x=true)(k:keepIn K (.ref f)=true):FnIn K x st:=⟨f,oc,od,kV,d,pm,an,b,ct,sl,a,l,c,k⟩
theorem bnd1{st:Stmt}{x:Str}{ps:List Str}(c:ps.length=1)(h:∀(kV doc pm:Value)(an:Option Addr)(cdv ct:Value)(a:Value),bindArgs (fnOf x x (z4 st) (m4 st) (L0 st) .none kV doc pm an cdv ct) ⟨[a],[]⟩=pure (ps.zip [a])):Bnd x st ps:=by
 intro kV doc pm an cdv ct us b
 rw[c] at b
 obtain⟨_,rfl⟩:=len1 b
 exact h _ _ _ _ _ _ _
theorem bnd2{st:Stmt}{x:Str}{ps:List Str}(d:ps.length=2)(h:∀(kV doc pm:Value)(an:Option Addr)(cdv ct:Value)(a b:Value),bindArgs (fnOf x x (z4 st) (m4 st) (L0 st) .none kV doc pm an cdv ct) ⟨[a,b],[]⟩=pure (ps.zip [a,b])):Bnd x st ps:=by
 intro kV doc pm an cdv ct us c
 rw[d] at c
 obtain⟨_,_,rfl⟩:=len2 c
 exact h _ _ _ _ _ _ _ _
theorem bnd3{st:Stmt}{x:Str}{ps:List Str}(f:ps.length=3)(h:∀(kV doc pm:Value)(an:Option Addr)(cdv ct:Value)(b c a:Value),bindArgs (fnOf x x (z4 st) (m4 st) (L0 st) .none kV doc pm an cdv ct) ⟨[b,c,a],[]⟩=pure (ps.zip [b,c,a])):Bnd x st ps:=by
 intro kV doc pm an cdv ct us d
 rw[f] at d
 obtain⟨_,_,_,rfl⟩:=len3 d
 exact h _ _ _ _ _ _ _ _ _
theorem bnd5{st:Stmt}{x:Str}{ps:List Str}(i:ps.length=5)(h:∀(kV doc pm:Value)(an:Option Addr)(cdv ct:Value)(d a c f b:Value),bindArgs (fnOf x x (z4 st) (m4 st) (L0 st) .none kV doc pm an cdv ct) ⟨[d,a,c,f,b],[]⟩=pure (ps.zip [d,a,c,f,b])):Bnd x st ps:=by
 intro kV doc pm an cdv ct us g
 rw[i] at g
 obtain⟨_,_,_,_,_,rfl⟩:=len5 g
 exact h _ _ _ _ _ _ _ _ _ _ _
theorem Z1{K:Frag}{h:Heap}{mg:Str->Option Value}{x:Str}{st:Stmt}{ps:List Str}(X:K.In h)(G:h.Ns mainGlobals mg)(q:FnIn K x st)
  (hb:Bnd x st ps):∃ f fd,DefAt K mg x st ps f fd:=by
 obtain⟨f,oc,od,kV,b,pm,an,d,ct,sl,a,l,c,k⟩:=q
 exact⟨_,_,have F:=XG (st:=st) l c k;⟨F,mg_of X G a,F.binds hb⟩⟩
def MBnd(x y:Str)(st:Stmt)(ps:List Str):Prop:=∀(kV doc pm:Value)(an:Option Addr)(cdv ct:Value)(us:List Value),us.length=ps.length->bindArgs (fnOf x y (z4 st) (m4 st) (L0 st) .none kV doc pm an cdv ct) ⟨us,[]⟩=pure (ps.zip us)
def MeIn(K:Frag)(C:Addr)(x y:Str)(st:Stmt):Prop:=∃ f oc od kV dc pm an cd ct sl,PySem.W.findIn K (.ref C) x=some (some (.ref f))/\PySem.W.isFn K (.ref f)=true/\K.lookup f=some ⟨oc,od,.func (fnOf x y (z4 st) (m4 st) (L0 st) .none kV dc pm an cd ct),sl⟩/\codeIn K cd y=true/\keepIn K (.ref f)=true
theorem me_in{K:Frag}{C:Addr}{x y:Str}{st:Stmt}{f:Addr}{od an:Option Addr}{sl:Array (Option Value)}{oc kV d pm b ct:Value}(a:PySem.W.findIn K (.ref C) x=some (some (.ref f)))(i:PySem.W.isFn K (.ref f)=true)(l:K.lookup f=some ⟨oc,od,.func (fnOf x y (z4 st) (m4 st) (L0 st) .none kV d pm an b ct),sl⟩)(c:codeIn K b y=true)(k:keepIn K (.ref f)=true):MeIn K C x y st:=⟨f,oc,od,kV,d,pm,an,b,ct,sl,a,i,l,c,k⟩
theorem mbn1{st:Stmt}{x y:Str}{ps:List Str}(c:ps.length=1)(h:∀(kV doc pm:Value)(an:Option Addr)(cdv ct:Value)(a:Value),bindArgs (fnOf x y (z4 st) (m4 st) (L0 st) .none kV doc pm an cdv ct) ⟨[a],[]⟩=pure (ps.zip [a])):MBnd x y st ps:=by
 intro kV doc pm an cdv ct us b
 rw[c] at b
 obtain⟨_,rfl⟩:=len1 b
 exact h _ _ _ _ _ _ _
theorem mbn2{st:Stmt}{x y:Str}{ps:List Str}(d:ps.length=2)(h:∀(kV doc pm:Value)(an:Option Addr)(cdv ct:Value)(a b:Value),bindArgs (fnOf x y (z4 st) (m4 st) (L0 st) .none kV doc pm an cdv ct) ⟨[a,b],[]⟩=pure (ps.zip [a,b])):MBnd x y st ps:=by
 intro kV doc pm an cdv ct us c
 rw[d] at c
 obtain⟨_,_,rfl⟩:=len2 c
 exact h _ _ _ _ _ _ _ _
theorem mbn3{st:Stmt}{x y:Str}{ps:List Str}(f:ps.length=3)(h:∀(kV doc pm:Value)(an:Option Addr)(cdv ct:Value)(c a b:Value),bindArgs (fnOf x y (z4 st) (m4 st) (L0 st) .none kV doc pm an cdv ct) ⟨[c,a,b],[]⟩=pure (ps.zip [c,a,b])):MBnd x y st ps:=by
 intro kV doc pm an cdv ct us d
 rw[f] at d
 obtain⟨_,_,_,rfl⟩:=len3 d
 exact h _ _ _ _ _ _ _ _ _
theorem v8{K:Frag}{C:Addr}{x y:Str}{st:Stmt}{ps:List Str}(q:MeIn K C x y st)(hb:MBnd x y st ps):∃ f fd,MeAt K C x y st ps f fd:=by
 obtain⟨f,oc,od,kV,b,pm,an,d,ct,sl,a,i,l,c,k⟩:=q
 exact⟨_,_,have F:=XG (st:=st) l c k;⟨F,⟨a,i,k⟩,F.binds hb⟩⟩
theorem V1{K:Frag}{h:Heap}{mg:Str->Option Value}{r c:Str}{b:Bool}{C D:Addr}(X:K.In h)(G:h.Ns mainGlobals mg)(a:nsIn K mainGlobals r=some (some (.ref C)))(d:nsIn K mainGlobals c=some (some (.ref D)))(y:kitOne K (.ref C) (.ref D)=some b):YF K mg r c b:=λC D f e2=>by
 rw[mg_of X G a] at f
 rw[mg_of X G d] at e2
 cases f;cases e2;exact y
theorem txt_mk{K:Frag}{h:Heap}{mg:Str->Option Value}(X:K.In h)(G:h.Ns mainGlobals mg)
  {I:Tok} {m:Addr} {d:Addr} {g:Addr} {j:Addr} {p:Addr} {a:Addr} {r:Addr} {q:Addr} {s:Addr} {l:Addr} 
  (h0:FnIn K "is_whole" s_is_whole)
  (h1:FnIn K "is_between" s_is_between)
  (h2:FnIn K "need_number" s_need_number)
  (h3:FnIn K "is_place" s_is_place)
  (h4:FnIn K "is_tie" s_is_tie)
  (h5:FnIn K "are_ties" s_are_ties)
  (h6:FnIn K "is_rising" s_is_rising)
  (h7:FnIn K "tied_places" s_tied_places)
  (h8:FnIn K "far_from" s_far_from)
  (h9:FnIn K "need_place" s_need_place)
  (d9:FnIn K "all_far" s_all_far)
  (c8:FnIn K "how_far" s_how_far)
  (e8:FnIn K "is_joined" s_is_joined)
  (d2:FnIn K "need_joined" s_need_joined)
  (d7:FnIn K "far_rows" s_far_rows)
  (e3:FnIn K "most_far" s_most_far)
  (e6:FnIn K "farthest_two" s_farthest_two)
  (f1:FnIn K "with_ties" s_with_ties)
  (e7:FnIn K "far_or_none" s_far_or_none)
  (f3:FnIn K "_law_deck" s_law_deck)
  (f0:FnIn K "_law_draw" s_law_draw)
  (d5:FnIn K "_law_tied" s_law_tied)
  (c9:FnIn K "_law_fars" s_law_fars)
  (f5:FnIn K "_law_order" s_law_order)
  (e9:FnIn K "_law_crowds" s_law_crowds)
  (d1:FnIn K "_law_web" s_law_web)
  (e4:FnIn K "_law_deed" s_law_deed)
  (d4:FnIn K "_law_behind" s_law_behind)
  (f2:FnIn K "_law_done" s_law_done)
  (d3:FnIn K "_law_far_of" s_law_far_of)
  (d6:FnIn K "_law_kinds" s_law_kinds)
  (d0:FnIn K "_law_no_places" s_law_no_places)
  (e0:FnIn K "_law_refused" s_law_refused)
  (e5:FnIn K "_law_things_refused" s_law_things_refused)
  (f4:FnIn K "_law_all_refused" s_law_all_refused)
  (d8:FnIn K "law" s_law)
  (N:nsIn K mainGlobals "ValueError" = some none)
  (c7:nsIn K mainGlobals "all" = some none)
  (c6:nsIn K mainGlobals "max" = some none)
  (b2:nsIn K mainGlobals "sorted" = some none)
  (b8:nsIn K mainGlobals "range" = some none)
  (b9:nsIn K mainGlobals "dict" = some none)
  (c0:nsIn K mainGlobals "list" = some none)
  (O:nsIn K mainGlobals "isinstance" = some none)
  (c5:nsIn K mainGlobals "int" = some none)
  (c4:nsIn K mainGlobals "len" = some none)
  (c2:nsIn K mainGlobals "sum" = some none)
  (c3:nsIn K mainGlobals "min" = some none)
  (c1:nsIn K mainGlobals "bool" = some none)
  (b7:nsIn K mainGlobals "tuple" = some none)
  (M:nsIn K mainGlobals "MOST_PLACES" = some (some (.int 60 I)))
  (n:nsIn K mainGlobals "TieError" = some (some (.ref m))) (S:excIn K m bmV "ValueError.__new__" = true) (R:XIn K m)
  (c:nsIn K mainGlobals "NoPlace" = some (some (.ref d))) (T:excIn K d bmV "ValueError.__new__" = true) (U:XIn K d)
  (f:nsIn K mainGlobals "NoJoin" = some (some (.ref g))) (a2:excIn K g bmV "ValueError.__new__" = true) (a0:XIn K g)
  (i:nsIn K mainGlobals "NoTie" = some (some (.ref j))) (b4:excIn K j bmV "ValueError.__new__" = true) (b6:XIn K j)
  (u:nsIn K mainGlobals "NoTree" = some (some (.ref p))) (a9:excIn K p bmV "ValueError.__new__" = true) (a8:XIn K p)
  (b:nsIn K mainGlobals "NoNumber" = some (some (.ref a))) (P:excIn K a bmV "ValueError.__new__" = true) (Q:XIn K a)
  (x:nsIn K mainGlobals "NoText" = some (some (.ref r))) (a6:excIn K r bmV "ValueError.__new__" = true) (a4:XIn K r)
  (v:nsIn K mainGlobals "NoName" = some (some (.ref q))) (a7:excIn K q bmV "ValueError.__new__" = true) (Z:XIn K q)
  (y:nsIn K mainGlobals "NoRow" = some (some (.ref s))) (b5:excIn K s bmV "ValueError.__new__" = true) (b3:XIn K s)
  (y_NoPlace_TieError:kitOne K (.ref d) (.ref m)=some true)
  (y_NoPlace_NoPlace:kitOne K (.ref d) (.ref d)=some true)
  (y_NoPlace_NoJoin:kitOne K (.ref d) (.ref g)=some false)
  (y_NoPlace_NoTie:kitOne K (.ref d) (.ref j)=some false)
  (y_NoPlace_NoTree:kitOne K (.ref d) (.ref p)=some false)
  (y_NoPlace_NoNumber:kitOne K (.ref d) (.ref a)=some false)
  (y_NoPlace_NoText:kitOne K (.ref d) (.ref r)=some false)
  (y_NoPlace_NoName:kitOne K (.ref d) (.ref q)=some false)
  (y_NoPlace_NoRow:kitOne K (.ref d) (.ref s)=some false)
  (y_NoPlace_ValueError:kitOne K (.ref d) (.type "ValueError")=some true)
  (s_NoPlace_TieError:mroIn K d (.ref m)=some true)
  (y_NoJoin_TieError:kitOne K (.ref g) (.ref m)=some true)
  (y_NoJoin_NoPlace:kitOne K (.ref g) (.ref d)=some false)
  (y_NoJoin_NoJoin:kitOne K (.ref g) (.ref g)=some true)
  (y_NoJoin_NoTie:kitOne K (.ref g) (.ref j)=some false)
  (y_NoJoin_NoTree:kitOne K (.ref g) (.ref p)=some false)
  (y_NoJoin_NoNumber:kitOne K (.ref g) (.ref a)=some false)
  (y_NoJoin_NoText:kitOne K (.ref g) (.ref r)=some false)
  (y_NoJoin_NoName:kitOne K (.ref g) (.ref q)=some false)
  (y_NoJoin_NoRow:kitOne K (.ref g) (.ref s)=some false)
  (y_NoJoin_ValueError:kitOne K (.ref g) (.type "ValueError")=some true)
  (s_NoJoin_TieError:mroIn K g (.ref m)=some true)
  (y_NoTie_TieError:kitOne K (.ref j) (.ref m)=some true)
  (y_NoTie_NoPlace:kitOne K (.ref j) (.ref d)=some false)
  (y_NoTie_NoJoin:kitOne K (.ref j) (.ref g)=some false)
  (y_NoTie_NoTie:kitOne K (.ref j) (.ref j)=some true)
  (y_NoTie_NoTree:kitOne K (.ref j) (.ref p)=some false)
  (y_NoTie_NoNumber:kitOne K (.ref j) (.ref a)=some false)
  (y_NoTie_NoText:kitOne K (.ref j) (.ref r)=some false)
  (y_NoTie_NoName:kitOne K (.ref j) (.ref q)=some false)
  (y_NoTie_NoRow:kitOne K (.ref j) (.ref s)=some false)
  (y_NoTie_ValueError:kitOne K (.ref j) (.type "ValueError")=some true)
  (s_NoTie_TieError:mroIn K j (.ref m)=some true)
  (y_NoNumber_TieError:kitOne K (.ref a) (.ref m)=some true)
  (y_NoNumber_NoPlace:kitOne K (.ref a) (.ref d)=some false)
  (y_NoNumber_NoJoin:kitOne K (.ref a) (.ref g)=some false)
  (y_NoNumber_NoTie:kitOne K (.ref a) (.ref j)=some false)
  (y_NoNumber_NoTree:kitOne K (.ref a) (.ref p)=some false)
  (y_NoNumber_NoNumber:kitOne K (.ref a) (.ref a)=some true)
  (y_NoNumber_NoText:kitOne K (.ref a) (.ref r)=some false)
  (y_NoNumber_NoName:kitOne K (.ref a) (.ref q)=some false)
  (y_NoNumber_NoRow:kitOne K (.ref a) (.ref s)=some false)
  (y_NoNumber_ValueError:kitOne K (.ref a) (.type "ValueError")=some true)
  (s_NoNumber_TieError:mroIn K a (.ref m)=some true)
  (o:nsIn K mainGlobals "Grower" = some (some (.ref l))) (b0:PySem.W.plainGet K l Str.empty=true) (a5:PySem.W.hasDictIn K l=true) (a3:PySem.W.plainOver K l=true) (a1:PySem.W.findIn K (.ref l) "__setattr__" = some (some (.builtin "object.__setattr__"))) (Y:PySem.W.makesIn K l=true) (b1:keepIn K (.ref l)=true)
  (H:PySem.W.findIn K (.ref l) "held" = some none)
  (B:MeIn K l "__init__" "Grower.__init__" s_Grower____init__)
  (z:MeIn K l "put_place" "Grower.put_place" s_Grower__put_place)
  (E:MeIn K l "put_tie" "Grower.put_tie" s_Grower__put_tie)
  (F:MeIn K l "become" "Grower.become" s_Grower__become)
  (L:MeIn K l "web" "Grower.web" s_Grower__web)
  (A:MeIn K l "farthest" "Grower.farthest" s_Grower__farthest)
  (J:MeIn K l "far" "Grower.far" s_Grower__far)
  : Txt K mg where
  x_TieError:=⟨_,mg_of X G n,S,R⟩
  x_NoPlace:=⟨_,mg_of X G c,T,U⟩
  x_NoJoin:=⟨_,mg_of X G f,a2,a0⟩
  x_NoTie:=⟨_,mg_of X G i,b4,b6⟩
  x_NoTree:=⟨_,mg_of X G u,a9,a8⟩
  x_NoNumber:=⟨_,mg_of X G b,P,Q⟩
  x_NoText:=⟨_,mg_of X G x,a6,a4⟩
  x_NoName:=⟨_,mg_of X G v,a7,Z⟩
  x_NoRow:=⟨_,mg_of X G y,b5,b3⟩
  y_NoPlace_TieError:=V1 X G c n y_NoPlace_TieError
  y_NoPlace_NoPlace:=V1 X G c c y_NoPlace_NoPlace
  y_NoPlace_NoJoin:=V1 X G c f y_NoPlace_NoJoin
  y_NoPlace_NoTie:=V1 X G c i y_NoPlace_NoTie
  y_NoPlace_NoTree:=V1 X G c u y_NoPlace_NoTree
  y_NoPlace_NoNumber:=V1 X G c b y_NoPlace_NoNumber
  y_NoPlace_NoText:=V1 X G c x y_NoPlace_NoText
  y_NoPlace_NoName:=V1 X G c v y_NoPlace_NoName
  y_NoPlace_NoRow:=V1 X G c y y_NoPlace_NoRow
  y_NoPlace_ValueError:=λC w=>by rw[mg_of X G c] at w;cases w;exact y_NoPlace_ValueError
  s_NoPlace_TieError:=λC D w e2=>by rw[mg_of X G c] at w;rw[mg_of X G n] at e2;cases w;cases e2;exact s_NoPlace_TieError
  y_NoJoin_TieError:=V1 X G f n y_NoJoin_TieError
  y_NoJoin_NoPlace:=V1 X G f c y_NoJoin_NoPlace
  y_NoJoin_NoJoin:=V1 X G f f y_NoJoin_NoJoin
  y_NoJoin_NoTie:=V1 X G f i y_NoJoin_NoTie
  y_NoJoin_NoTree:=V1 X G f u y_NoJoin_NoTree
  y_NoJoin_NoNumber:=V1 X G f b y_NoJoin_NoNumber
  y_NoJoin_NoText:=V1 X G f x y_NoJoin_NoText
  y_NoJoin_NoName:=V1 X G f v y_NoJoin_NoName
  y_NoJoin_NoRow:=V1 X G f y y_NoJoin_NoRow
  y_NoJoin_ValueError:=λC w=>by rw[mg_of X G f] at w;cases w;exact y_NoJoin_ValueError
  s_NoJoin_TieError:=λC D w e2=>by rw[mg_of X G f] at w;rw[mg_of X G n] at e2;cases w;cases e2;exact s_NoJoin_TieError
  y_NoTie_TieError:=V1 X G i n y_NoTie_TieError
  y_NoTie_NoPlace:=V1 X G i c y_NoTie_NoPlace
  y_NoTie_NoJoin:=V1 X G i f y_NoTie_NoJoin
  y_NoTie_NoTie:=V1 X G i i y_NoTie_NoTie
  y_NoTie_NoTree:=V1 X G i u y_NoTie_NoTree
  y_NoTie_NoNumber:=V1 X G i b y_NoTie_NoNumber
  y_NoTie_NoText:=V1 X G i x y_NoTie_NoText
  y_NoTie_NoName:=V1 X G i v y_NoTie_NoName
  y_NoTie_NoRow:=V1 X G i y y_NoTie_NoRow
  y_NoTie_ValueError:=λC w=>by rw[mg_of X G i] at w;cases w;exact y_NoTie_ValueError
  s_NoTie_TieError:=λC D w e2=>by rw[mg_of X G i] at w;rw[mg_of X G n] at e2;cases w;cases e2;exact s_NoTie_TieError
  y_NoNumber_TieError:=V1 X G b n y_NoNumber_TieError
  y_NoNumber_NoPlace:=V1 X G b c y_NoNumber_NoPlace
  y_NoNumber_NoJoin:=V1 X G b f y_NoNumber_NoJoin
  y_NoNumber_NoTie:=V1 X G b i y_NoNumber_NoTie
  y_NoNumber_NoTree:=V1 X G b u y_NoNumber_NoTree
  y_NoNumber_NoNumber:=V1 X G b b y_NoNumber_NoNumber
  y_NoNumber_NoText:=V1 X G b x y_NoNumber_NoText
  y_NoNumber_NoName:=V1 X G b v y_NoNumber_NoName
  y_NoNumber_NoRow:=V1 X G b y y_NoNumber_NoRow
  y_NoNumber_ValueError:=λC w=>by rw[mg_of X G b] at w;cases w;exact y_NoNumber_ValueError
  s_NoNumber_TieError:=λC D w e2=>by rw[mg_of X G b] at w;rw[mg_of X G n] at e2;cases w;cases e2;exact s_NoNumber_TieError
  o_Grower:=⟨_,mg_of X G o,⟨b0,a5,a3,a1⟩,Y,b1⟩
  n_Grower_held:=λC w=>by rw[mg_of X G o] at w;cases w;exact H
  m_Grower____init__:=λC w=>by rw[mg_of X G o] at w;cases w;exact v8 B (mbn2 rfl λ_ _ _ _ _ _ _ _=>rfl)
  m_Grower__put_place:=λC w=>by rw[mg_of X G o] at w;cases w;exact v8 z (mbn2 rfl λ_ _ _ _ _ _ _ _=>rfl)
  m_Grower__put_tie:=λC w=>by rw[mg_of X G o] at w;cases w;exact v8 E (mbn3 rfl λ_ _ _ _ _ _ _ _ _=>rfl)
  m_Grower__become:=λC w=>by rw[mg_of X G o] at w;cases w;exact v8 F (mbn2 rfl λ_ _ _ _ _ _ _ _=>rfl)
  m_Grower__web:=λC w=>by rw[mg_of X G o] at w;cases w;exact v8 L (mbn1 rfl λ_ _ _ _ _ _ _=>rfl)
  m_Grower__farthest:=λC w=>by rw[mg_of X G o] at w;cases w;exact v8 A (mbn1 rfl λ_ _ _ _ _ _ _=>rfl)
  m_Grower__far:=λC w=>by rw[mg_of X G o] at w;cases w;exact v8 J (mbn3 rfl λ_ _ _ _ _ _ _ _ _=>rfl)
  b_ValueError:=mg_none_of X G N
  b_all:=mg_none_of X G c7
  b_max:=mg_none_of X G c6
  b_sorted:=mg_none_of X G b2
  b_range:=mg_none_of X G b8
  b_dict:=mg_none_of X G b9
  b_list:=mg_none_of X G c0
  b_isinstance:=mg_none_of X G O
  b_int:=mg_none_of X G c5
  b_len:=mg_none_of X G c4
  b_sum:=mg_none_of X G c2
  b_min:=mg_none_of X G c3
  b_bool:=mg_none_of X G c1
  b_tuple:=mg_none_of X G b7
  v_MOST_PLACES:=⟨_,mg_of X G M⟩
  d_is_whole:=Z1 X G h0 (bnd1 rfl λ_ _ _ _ _ _ _=>rfl)
  d_is_between:=Z1 X G h1 (bnd3 rfl λ_ _ _ _ _ _ _ _ _=>rfl)
  d_need_number:=Z1 X G h2 (bnd3 rfl λ_ _ _ _ _ _ _ _ _=>rfl)
  d_is_place:=Z1 X G h3 (bnd2 rfl λ_ _ _ _ _ _ _ _=>rfl)
  d_is_tie:=Z1 X G h4 (bnd2 rfl λ_ _ _ _ _ _ _ _=>rfl)
  d_are_ties:=Z1 X G h5 (bnd2 rfl λ_ _ _ _ _ _ _ _=>rfl)
  d_is_rising:=Z1 X G h6 (bnd1 rfl λ_ _ _ _ _ _ _=>rfl)
  d_tied_places:=Z1 X G h7 (bnd1 rfl λ_ _ _ _ _ _ _=>rfl)
  d_far_from:=Z1 X G h8 (bnd2 rfl λ_ _ _ _ _ _ _ _=>rfl)
  d_need_place:=Z1 X G h9 (bnd2 rfl λ_ _ _ _ _ _ _ _=>rfl)
  d_all_far:=Z1 X G d9 (bnd2 rfl λ_ _ _ _ _ _ _ _=>rfl)
  d_how_far:=Z1 X G c8 (bnd3 rfl λ_ _ _ _ _ _ _ _ _=>rfl)
  d_is_joined:=Z1 X G e8 (bnd1 rfl λ_ _ _ _ _ _ _=>rfl)
  d_need_joined:=Z1 X G d2 (bnd1 rfl λ_ _ _ _ _ _ _=>rfl)
  d_far_rows:=Z1 X G d7 (bnd1 rfl λ_ _ _ _ _ _ _=>rfl)
  d_most_far:=Z1 X G e3 (bnd1 rfl λ_ _ _ _ _ _ _=>rfl)
  d_farthest_two:=Z1 X G e6 (bnd1 rfl λ_ _ _ _ _ _ _=>rfl)
  d_with_ties:=Z1 X G f1 (bnd2 rfl λ_ _ _ _ _ _ _ _=>rfl)
  d_far_or_none:=Z1 X G e7 (bnd1 rfl λ_ _ _ _ _ _ _=>rfl)
  d_law_deck:=Z1 X G f3 (bnd1 rfl λ_ _ _ _ _ _ _=>rfl)
  d_law_draw:=Z1 X G f0 (bnd2 rfl λ_ _ _ _ _ _ _ _=>rfl)
  d_law_tied:=Z1 X G d5 (bnd1 rfl λ_ _ _ _ _ _ _=>rfl)
  d_law_fars:=Z1 X G c9 (bnd1 rfl λ_ _ _ _ _ _ _=>rfl)
  d_law_order:=Z1 X G f5 (bnd2 rfl λ_ _ _ _ _ _ _ _=>rfl)
  d_law_crowds:=Z1 X G e9 (bnd1 rfl λ_ _ _ _ _ _ _=>rfl)
  d_law_web:=Z1 X G d1 (bnd2 rfl λ_ _ _ _ _ _ _ _=>rfl)
  d_law_deed:=Z1 X G e4 (bnd2 rfl λ_ _ _ _ _ _ _ _=>rfl)
  d_law_behind:=Z1 X G d4 (bnd2 rfl λ_ _ _ _ _ _ _ _=>rfl)
  d_law_done:=Z1 X G f2 (bnd2 rfl λ_ _ _ _ _ _ _ _=>rfl)
  d_law_far_of:=Z1 X G d3 (bnd1 rfl λ_ _ _ _ _ _ _=>rfl)
  d_law_kinds:=Z1 X G d6 (bnd2 rfl λ_ _ _ _ _ _ _ _=>rfl)
  d_law_no_places:=Z1 X G d0 (bnd2 rfl λ_ _ _ _ _ _ _ _=>rfl)
  d_law_refused:=Z1 X G e0 (bnd5 rfl λ_ _ _ _ _ _ _ _ _ _ _=>rfl)
  d_law_things_refused:=Z1 X G e5 (bnd3 rfl λ_ _ _ _ _ _ _ _ _=>rfl)
  d_law_all_refused:=Z1 X G f4 (bnd3 rfl λ_ _ _ _ _ _ _ _ _=>rfl)
  d_law:=Z1 X G d8 (bnd1 rfl λ_ _ _ _ _ _ _=>rfl)
theorem walk{l:PySem.W.OpenLaw}{q:Program}{b:List Str}{XP:(Str->Option Value)->Heap->Prop}{j:World->Heap->Prop}{d:DefRec}{K:Params->Frag}(hn:l.most=some 63)(i:d.params.defaults=[])(c:d.name = "law")
  (o:∀(w:World)(h:Heap),j w h->(K w.params).In h)
  (F:∀(w:World)(mg:Str->Option Value)(h:Heap),(K w.params).In h->h.Ns mainGlobals mg->Txt (K w.params) mg) :
  PySem.W.WalkO q b XP j l.row.toRowW d [] (λf vs=>PySem.call f vs):=by
 refine L2.walk_of (n:=63) (k:=16) (x:="script") (CX:=λ_=>CX0) (sp:=λw=>kC (K w.params)) hn (by decide) i ⟨rfl,by decide,by decide,rfl⟩ o (λw mg fa h X G e=>?_) (λ_ _ a ns v _ p=>⟨a,ns,rfl,p,v,λ_=>rfl⟩) λ_ _ _ _ _ z=>z
 have T:=F w mg h X G
 rw[c] at e
 obtain⟨A,g,D⟩:=T.d_law
 have r:=e.symm.trans D.mgx
 cases r
 refine⟨g,λs u=>?_,λbase _ _=>?_⟩
 ·obtain⟨oc,od,kV,doc,pm,an,cdv,ct,osl,rfl,y,m⟩:=D.fn.ex
  exact .of_eq rfl
 ·exact VR T D
end G
end
structure PySem.W.Fast where
 (tw13188288799264274452 tw1985923573941341135 tw2762256191099751587 tw995778514472053030 tw13802222239902249610 tw9265206113834661502 tw9646403700017587967 tw5758400959036600921 tw10469646588506285013 tw2154418666439586616 tw10303574165838673146 tw18820122816203480 tw11564274556118746245 tw635009676547113253 tw2110514514251712590 tw5905367944244815449 tw2427563847093650339 tw11337160732326998319 tw13678078846198372218 tw15669858083364186633 tw17826651787314455321 tw6084849710348363547 tw16040817239950620793 tw18398434931074758970 tw6584152659757274503 tw10652206638695637813 tw15498481510784869242 tw2521014642016325092 tw13584793893624414363 tw13947573822595941717 tw11738913044100537110 tw15675677495667183892 tw13129189881696765651 tw10148400091855641255 tw6410641088521321405 tw3704245047893161346 tw18024990103079802298 tw9328501348712033407 tw5363010217314565456 tw3196566375045722429 tw9971387724216949224 tw14236633496642832819 tw18065195662602257706 tw13066418550543657012 tw1556216122589776892 tw18103337659271606140 tw14324551038129403635 tw7699496621607767720 tw5582553324962269774 tw17735270302762615712 tw11231569453391138169 tw1432935854229524028 tw16375439403926043869 tw13960826760297936131 tw1674609261639987694 tw13786826627223009542 tw533158503170661277 tw170647210045548301 tw9694730022314198447 tw4400395535101832960 tw7105219414785397969 tw2155594064353508553 tw9191095828419793581 tw17147135197539415894 tw12218818085091588882 tw11741813457894459342 tw1966935717926305542 tw13265013475639470486 tw12685689668818687178 tw15673463686479910034 tw15525119895859551311 tw15487753369063564485 tw11322977889386089291 tw11358471387268888936 tw15216280694053489998 tw15902074646196953829 tw16317709640118833493 tw6429138510446607714 tw1617173621962678943 tw13398948215446818711 tw6724239531488142548 tw16050106963447983833 tw12225341486238715353 tw13303206560309743144 tw16955638025898502543 tw5310044266285508948 tw8257688147837150136 tw1737603112792337468 tw16189938607355625278 tw9106977279182800788 tw8979423757644270027 tw1666957160260050771 tw4183609425027763653 tw8891129466545175704 tw7401460866623092617 tw5013324789283861045 tw18245703060857027950 tw16262042508889831668 tw5405365199311266753 tw2635731048038068580 tw3364225366855197545 tw10860903076382369812 tw798308367697663188 tw11036134004797155726 tw9830522340192584282 tw266836491518556583 tw9190625581991319312 tw17580626169217652445 tw3420688776704151831 tw4432346871720286170 tw2428870084595255383 tw14983740536506974291 tw11582673326016941940 tw8672765135518383266 tw17188510548050779282 tw8480072780006560480 tw8196178716209511023 tw16920758590531559248 tw2625328239917082641 tw13057319437711616875 tw10556745159265539348 tw2875655378321426411 tw11244829573689500839 tw5503184404535486531 tw8246188729560423745 tw1455986594919117907 tw4258414337713332875 tw8245697127146027921 tw14430108295162695202 tw4679187827383813795 tw5378985435865501128 tw8222219249957150225 tw6852467524268791609 tw4539975825031443827 tw1874596884997453239 tw12004430642965368031 tw6599816954835148544 tw450463942828297730 tw12858731306337657202 tw17240850540761582522 tw7079640654660929492 tw6538575009987451659 tw17891751908252772895 tw15774606036538670069 tw15537367849506214036 tw15463749255436179019 tw7595736598685360538 tw15240154734970591453 tw13898770790095908580 tw17015223949049692210 tw4522814956580330688 tw11210989419600560235 tw13654781261941344980 tw9654458598344369433 tw18360006024199580373 tw7411535872993160886 tw14052275969974469274 tw8734779941989499302 tw8701154884641584702 tw8555632594216442090 tw17108915496248825482 tw9907593439564753626 tw17245027336646655243 tw13151399533125080010 tw2606419950413072639 tw1709292070267594532 tw14921206546302927713 tw4410952213582820442 tw2561569316943831438 tw11918953236311360906 tw9892791163973595379 tw6145069301776663103 tw7419811391977130260 tw2055847203304969094 tw17317610305715588692 tw15263835149395307569 tw5585001376936452496 tw10499753299430771967 tw9251587232802252455 tw10528946125162562933 tw2486948063293949048 tw4601624767416650427 tw12193112552624450072 tw4723263785350769563 tw2751700658621663270 tw8799313072838665274 tw17560245568931960202 tw7060728618692465028 tw14707228537445631344 tw5992656174374296933 tw2154161498574113935 tw14752949587641413072 tw15814633388564050436 tw6790912337391414074 tw7481305827127123413 tw12946289118775521892 tw8479895067919307187 tw3886534907395251730 tw11201824627210950948 tw15565835780656661915 tw11182149443589430961 tw17360138763278183432 tw1648445275882861567 tw15135016727391068226 tw846240106867355649 tw3065401850773736154 tw17720454107374061375 tw6327139122605974712 tw12638943305331220492 tw4621449772497242677 tw10606650045075858322 tw10003136418869408515 tw1246251700739796780 tw9394724784780225160 tw15700252380104142472 tw10775795057926702463 tw524221557252361845 tw309885700490227015 tw13608206586223778689 tw8694110166081734764 tw14642562389223231640 tw6739267634620571826 tw7608290748341954283 tw16443609228413536415 tw470330419989518084 tw12161835031779086659 tw13171295297479410481 tw4990155449720697245 tw2209178532600452978 tw6941746921811416260:True)
open PySem PySem.W PyProof.Rows
set_option maxRecDepth 100000 in
set_option maxHeartbeats 0 in
theorem PySem.Challenge.cw_fewties_k42_what_is_refused_holds : PySem.Challenge.rw_fewties_k42_what_is_refused.Holds := by
 w_on;o_law;k_head;(case hw=>w_witness2)
 k_fill
 refine G.walk (l:=PySem.Challenge.rw_fewties_k42_what_is_refused) rfl rfl rfl (fun w h Y=>PySem.W.kIn_of Y) ?F
 case F =>
  intro w mg h KX GG
  refine' G.txt_mk KX GG ..
  all_goals try (refine' G.fn_in ?a_ ?l_ ?c_ ?k_;(case a_=>k_is);(case l_=>k_is);(case c_=>k_is);(case k_=>k_is))
  all_goals try k_is
  all_goals try (refine' G.me_in ?a_ ?i_ ?l_ ?c_ ?k_;(case a_=>k_is);(case i_=>k_is);(case l_=>k_is);(case c_=>k_is);(case k_=>k_is))
  all_goals try k_exc
  all_goals try kit_is
  all_goals exact ⟨L2.cl_of (bmB:=L2.bmV) (newId:="ValueError.__new__") (by k_exc),by k_is,by k_is,by k_is,by k_is,by k_is⟩
#print axioms PySem.Challenge.cw_fewties_k42_what_is_refused_holds
