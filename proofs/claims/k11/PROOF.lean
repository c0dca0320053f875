import PyProof.Rows.All
import Wide.All
import OpenK.AllK
import Wide.FinOn
import PyProof.EqAt
import PyProof.EqKinds
import PyProof.TupleCall
import PyProof.NeData
import PyProof.P3In
import PyProof.WalkInts
import PyProof.Rows.SortWalk
import PyProof.SumWalkG
import PyProof.Rows.CallKwBuiltin
import KE.KDictList
import PyProof.WalksEnum
import PyProof.ZipIter
import PyProof.ConsumeWalk
import PyProof.ListRange
import PyProof.TupleOfSeq
import PyProof.Rows.RuleN_abs
import KE.KDictOf
import PyProof.AttrMissHeap
import PyProof.Rows.SetFrom
import PyProof.ReprRoads
import PySem.Challenge.RW_fewties_k11_papers_looked_at
open PySem.W (Frag kitOne mg_of nsIn mg_none_of excIn fnOf mroIn keepIn codeIn)
set_option Elab.async false
set_option linter.all false
set_option compiler.extract_closed false
set_option maxRecDepth 100000
set_option maxHeartbeats 4000000
noncomputable section
abbrev aA0:=@List.getElem?_eq_getElem
abbrev aA1:=@List.getElem?_eq_some_iff
abbrev aA2:=@List.mem_of_getElem?
abbrev aA3:=@List.length_map
abbrev aA4:=@Array.getElem?_eq_getElem
abbrev aA5:=@List.getElem?_map
abbrev aA6:=@Nat.le_refl
abbrev aA7:=@List.mem_append
abbrev aA8:=@Array.length_toList
abbrev aA9:=@List.mem_cons
abbrev aB0:=@Bool.false_ne_true
abbrev aB1:=@List.length_append
abbrev aB2:=@List.size_toArray
abbrev aB3:=@List.mem_append_right
abbrev aB4:=@List.append_assoc
abbrev aB5:=@List.mem_cons_of_mem
abbrev aB6:=@Nat.ne_of_lt
abbrev aB7:=@List.mem_map
abbrev aB8:=@List.mem_cons_self
abbrev aB9:=@List.mem_range
abbrev aC0:=@List.mem_of_mem_take
abbrev aC1:=@List.take_append_drop
abbrev aC2:=@List.mem_singleton
abbrev aC3:=@List.getElem?_append_left
abbrev aC4:=@List.mem_of_mem_drop
abbrev aC5:=@Nat.lt_of_lt_of_le
abbrev aC6:=@Option.some.inj
abbrev aC7:=@List.mem_append_left
abbrev aC8:=@List.getElem?_append_right
abbrev aC9:=@List.pairwise_append
abbrev aD0:=@Nat.le_trans
abbrev aD1:=@List.map_cons
abbrev aD2:=@List.getElem?_set
abbrev aD3:=@List.getElem?_of_mem
abbrev aD4:=@List.getD_eq_getElem?_getD
abbrev aD5:=@Classical.byContradiction
abbrev aD6:=@Array.getElem?_toList
abbrev aD7:=@decide_eq_false
abbrev aD8:=@decide_eq_true
abbrev aD9:=@List.map_map
abbrev aE0:=@List.length_range
abbrev aE1:=@List.getElem?_eq_none
abbrev aE2:=@Nat.lt_of_le_of_lt
abbrev aE3:=@List.map_append
abbrev aE4:=@List.length_cons
abbrev aE5:=@Int.emod_nonneg
abbrev aE6:=@Int.emod_lt_of_pos
abbrev aE7:=@List.nodup_append
abbrev aE8:=@List.Nodup.length_le_of_subset
abbrev aE9:=@List.map_congr_left
abbrev aF0:=@List.append_nil
abbrev aF1:=@List.take_of_length_le
abbrev aF2:=@List.getElem_mem
abbrev aF3:=@List.any_eq_true
abbrev aF4:=@List.all_eq_true
abbrev aF5:=@if_pos
abbrev aF6:=@if_neg
abbrev aF7:=@List.getElem?_eq_none_iff
abbrev aF8:=@Nat.lt_succ_of_lt
abbrev aF9:=@List.length_pos_iff
abbrev aG0:=@Nat.zero_le
abbrev aG1:=@List.pairwise_map
abbrev aG2:=@List.ext_getElem?
abbrev aG3:=@beq_iff_eq
abbrev aG4:=@Nat.lt_irrefl
abbrev aG5:=@Nat.le_of_lt
abbrev aG6:=@Array.toList_append
abbrev aG7:=@List.pairwise_iff_getElem
abbrev aG8:=@List.take_length
abbrev aG9:=@List.lookup_cons
abbrev aH0:=@List.length_take
abbrev aH1:=@Bool.and_eq_true
abbrev aH2:=@List.eq_nil_of_length_eq_zero
abbrev aH3:=@List.replicate_succ
abbrev aH4:=@List.take_add_one
abbrev aH5:=@List.getElem?_take_of_lt
abbrev aH6:=@List.mem_iff_getElem
abbrev aH7:=@List.getElem?_replicate
abbrev aH8:=@Bool.eq_iff_iff
abbrev aH9:=@Array.size_push
abbrev aI0:=@List.Pairwise.imp_of_mem
abbrev aI1:=@List.getElem?_cons_succ
abbrev aI2:=@Option.map_some
abbrev aI3:=@List.getElem?_drop
abbrev aI4:=@List.not_mem_nil
abbrev aI5:=@List.nodup_cons
abbrev aI6:=@List.pairwise_cons
abbrev aI7:=@Nat.sub_self
abbrev aI8:=@Nat.lt_succ_self
abbrev aI9:=@List.length_drop
abbrev aJ0:=@List.length_nil
open PySem PySem.Spec in
abbrev aJ1:=@wpAny_bind
open PySem PySem.Spec in
abbrev aJ2:=@wpAny_pure
open PySem PySem.Spec in
abbrev aJ3:=@Heap.get?_push_of_some
open PySem PySem.Spec in
abbrev aJ4:=@Heap.lt_size
open PySem PySem.Spec in
abbrev aJ5:=@Heap.get?_push_size
open PySem PySem.Spec in
abbrev aJ6:=@codeAny_mono
open PySem PySem.Spec in
abbrev aJ7:=@wpAny_holding
open PySem PySem.Spec in
abbrev aJ8:=@PassesOwn.never
open PySem PySem.Spec in
abbrev aJ9:=@Heap.get?_update_other
open PySem PySem.Spec in
abbrev aK0:=@wpAny_mono
open PySem PySem.Spec in
abbrev aK1:=@wpAny_newObj_type
open PySem PySem.Spec in
abbrev aK2:=@Around.under_plainId
open PySem PySem.Spec in
abbrev aK3:=@Heap.size_push
open PySem PySem.Spec in
abbrev aK4:=@wpAny_call_entry
open PySem PySem.Spec in
abbrev aK5:=@wpAny_truthy_bool
open PySem PySem.Spec in
abbrev aK6:=@wpAny_pyIter_list
open PySem PySem.Spec in
abbrev aK7:=@Heap.get?_update_self
open PySem PySem.Spec in
abbrev aK8:=@codeAny_builtin
namespace L2
open PySem PySem.Spec PyProof.Rows
abbrev Key:=Sum Int Str
def ag6:Key->Value->Bool
 | .inl k,v=>Value.isInt k v
 | .inr x,v=>Value.isStrOf x v
def keyH(w:World):Key->Int
 | .inl k=>hashInt k
 | .inr x=>hashStr w x
theorem abq:∀{k:Key}{v:Value},ag6 k v=true->(∃ i t,k=Sum.inl i/\v=Value.int i t)\/(∃ x t,k=Sum.inr x/\v=Value.str x t)
 | .inl i,v,h=>by
  obtain⟨t,e⟩:=Value.isInt_shape (k:=i) (v:=v) h
  exact .inl ⟨i,t,rfl,e⟩
 | .inr x,v,h=>by
  obtain⟨t,e⟩:=Value.isStrOf_shape (x:=x) (v:=v) h
  exact .inr ⟨x,t,rfl,e⟩
theorem ar3(i:Int)(t:Tok):ag6 (.inl i) (.int i t)=true:=by simp[ag6,Value.isInt]
theorem ar4(x:Str)(t:Tok):ag6 (.inr x) (.str x t)=true:=by simp[ag6,Value.isStrOf]
theorem azv(a b:Int):decide ((Sum.inl a:Key)=Sum.inl b)=(a == b):=by
 by_cases e:a=b
 ·subst e;simp
 ·have h:¬ (Sum.inl a:Key)=Sum.inl b:=λq=>e (Sum.inl.inj q)
  rw[aD7 h]
  exact(beq_eq_false_iff_ne.mpr e).symm
theorem azw(a b:Str):decide ((Sum.inr a:Key)=Sum.inr b)=decide (a=b):=by
 by_cases e:a=b
 ·subst e;simp
 ·have h:¬ (Sum.inr a:Key)=Sum.inr b:=λq=>e (Sum.inr.inj q)
  rw[aD7 h,aD7 e]
theorem azx(a:Int)(b:Str):decide ((Sum.inl a:Key)=Sum.inr b)=false:=aD7 (λq=>nomatch q)
theorem azy(a:Str)(b:Int):decide ((Sum.inr a:Key)=Sum.inl b)=false:=aD7 (λq=>nomatch q)
def aa4(prog:Program)(w:World):PySem.KeyKind prog w Key where
 is:=ag6
 hash:=keyH w
 inj:=λv a b ha hb=>by
  rcases abq ha with ⟨i,t,rfl,rfl⟩|⟨x,t,rfl,rfl⟩
  ·rcases abq hb with ⟨j,u,rfl,e⟩|⟨y,u,rfl,e⟩
   ·injection e with e1 _;rw[e1]
   ·exact nomatch e
  ·rcases abq hb with ⟨j,u,rfl,e⟩|⟨y,u,rfl,e⟩
   ·exact nomatch e
   ·injection e with e1 _;rw[e1]
 byValue:=λk v h=>by
  rcases abq h with ⟨i,t,rfl,rfl⟩|⟨x,t,rfl,rfl⟩ <;> rfl
 pyHash:=λhv h=>by
  rcases abq hv with ⟨i,t,rfl,rfl⟩|⟨x,t,rfl,rfl⟩
  ·exact wpAny_pyHash_int h
  ·exact wpAny_pyHash_str h
 eqBool:=λhu hv h=>by
  rcases abq hu with ⟨i,t,rfl,rfl⟩|⟨x,t,rfl,rfl⟩
  ·rcases abq hv with ⟨j,u,rfl,rfl⟩|⟨y,u,rfl,rfl⟩
   ·rw[azv] at h;exact wpAny_eqBool_int h
   ·rw[azx] at h;exact SeqAt.EqAt.int_str i t y u _ _ _ _ h
  ·rcases abq hv with ⟨j,u,rfl,rfl⟩|⟨y,u,rfl,rfl⟩
   ·rw[azy] at h;exact SeqAt.EqAt.str_int x t j u _ _ _ _ h
   ·rw[azw] at h;exact wpAny_eqBool_str h
 «strs»:=λk x t v h=>by
  rcases abq h with ⟨i,u,rfl,e⟩|⟨y,u,rfl,e⟩
  ·exact nomatch e
  ·injection e with e1 _
   subst e1
   cases v <;> rfl
theorem ahz(prog:Program)(w:World)(i:Int)(t:Tok):(aa4 prog w).is (.inl i) (.int i t)=true:=ar3 i t
theorem aoe(prog:Program)(w:World)(x:Str)(t:Tok):(aa4 prog w).is (.inr x) (.str x t)=true:=ar4 x t
inductive V where
 |non|bl (b:Bool)|int (i:Int)|str (x:Str)|byt (b:Array UInt8)|flt (b:UInt64)|ref (a:Addr)|ty (n:String)
 deriving DecidableEq
def RelV:V->Value->Prop
 | .non,u=>u=Value.none
 | .bl b,u=>u=Value.bool b
 | .int i,u=>∃ t,u=Value.int i t
 | .str x,u=>∃ t,u=Value.str x t
 | .byt b,u=>∃ t,u=Value.bytes b t
 | .flt b,u=>∃ t,u=Value.float b t
 | .ref a,u=>u=Value.ref a
 | .ty n,u=>u=Value.type n
abbrev Vals:List V->List Value->Prop:=Paired RelV
theorem Vals.length{xs:List V}{us:List Value}(r:Vals xs us):xs.length=us.length:=Paired.length r
theorem Vals.get:∀{xs:List V}{us:List Value}{i:Nat}{x:V},Vals xs us->xs[i]?=some x->∃ u,us[i]?=some u/\RelV x u
 |_,_,_,_,.nil,e=>by simp at e
 |_,_,0,_,.cons r _,e=>by simp at e;subst e;exact⟨_,rfl,r⟩
 | _,_,i+1,x,.cons _ t,e=>by
  obtain⟨u,a,b⟩:=Vals.get (i:=i) (x:=x) t (by simpa using e)
  exact⟨u,by simpa using a,b⟩
theorem Vals.set{x:V}{u:Value}(r:RelV x u):∀{xs:List V}{us:List Value}(i:Nat),Vals xs us->Vals (xs.set i x) (us.set i u)
 |_,_,_,.nil=>.nil
 |_,_,0,.cons _ t=>.cons r t
 |_,_,i+1,.cons q t=>.cons q (Vals.set r i t)
theorem Vals.append:∀{xs ys:List V}{us a:List Value},Vals xs us->Vals ys a->Vals (xs++ys) (us++a)
 |_,_,_,_,.nil,s=>s
 |_,_,_,_,.cons r t,s=>.cons r (Vals.append t s)
theorem Vals.take:∀{xs:List V}{us:List Value}(n:Nat),Vals xs us->Vals (xs.take n) (us.take n)
 |_,_,0,_=>.nil
 |_,_,_+1,.nil=>.nil
 |_,_,n+1,.cons r t=>.cons r (Vals.take n t)
theorem Vals.drop:∀{xs:List V}{us:List Value}(n:Nat),Vals xs us->Vals (xs.drop n) (us.drop n)
 |_,_,0,r=>r
 |_,_,_+1,.nil=>.nil
 |_,_,n+1,.cons _ t=>Vals.drop n t
def RelO:Option V->Option Value->Prop
 |some v,some u=>RelV v u
 |none,none=>True
 |_,_=>False
def KV{κ:Type}:List (κ × V)->List (κ × Value)->Prop:=Paired λ(p : κ × V)(q : κ × Value)=>p.1=q.1/\RelV p.2 q.2
def kV:Key->V
 | .inl i=>.int i
 | .inr x=>.str x
inductive HO where
 /-- a list -/
 |lst (xs:List V)
 /-- a tuple (never changes) -/
 |tup (xs:List V)
 /-- a dict whose keys are ints and texts; one whose keys are tuples of ints and texts (the empty one is both) -/
 |dK (kvs:List (Key × V))|dT (kvs:List (List Key × V))
 /-- a set of ints: its members, its size -/
 |set (S:Int->Bool) (n:Nat)
 /-- an instance of the class at C, its dict at dx, its attributes -/
 |ins (C dx:Addr) (fs:List (Str × V))
 /-- the dict of the instance at x -/
 |own (x:Addr)
 /-- the dict of an exception -/
 |xd (fs:List (Str × V))
 /-- a bound method, f of x -/
 |met (f x:Addr)
 /-- a range object lo, lo + 1, .. below hi -/
 |rng (lo hi:Int)
 /-- a thing that is known to the object (the script; a dict while a loop walks it): read, never written while it is so -/
 |frz (o:Obj) (u:HO)
 /-- a code object's table -/
 |tbl (ps:Array Value)
 /-- any other thing, by what is true of its one object (a def of one's own: SetO a S n:=HO.ext λh=>..) -/
 |ext (φ:Heap->Prop)
abbrev Hp:=Addr->Option HO
def upd(H:Hp)(a:Addr)(o:HO):Hp:=λb=>if b=a then some o else H b
theorem aaf{H:Hp}{a:Addr}{o:HO}:upd H a o a=some o:=by unfold upd;rw[aF5 rfl]
theorem aae{H:Hp}{a b:Addr}{o:HO}(h:b ≠ a):upd H a o b=H b:=by unfold upd;rw[aF6 h]
theorem aws{H:Hp}{a b:Addr}{o u:HO}(h:H a=some o)(h':H b=some u)(d:o ≠ u):a ≠ b:=by
 intro e;subst e;rw[h] at h';exact d (aC6 h')
theorem aao{H:Hp}{a b:Addr}{o:HO}(h:H a=some o)(h':H b=none):a ≠ b:=by
 intro e;subst e;rw[h] at h';cases h'
section
variable(P:Program)(w:World)
def ObjOk(H:Hp)(h:Heap)(a:Addr):HO->Prop
 | .lst xs=>xs.length<=sizeLine/\∃(its:List Value)(n:Nat),Vals xs its/\h.get? a=some { cls:=.type "list",data:=.seq its.toArray n }
 | .tup xs=>xs.length<=sizeLine/\∃ its:List Value,Vals xs its/\IsTup h a its.toArray
 | .dK kvs=>kvs.length<=sizeLine/\(a == sysModules)=false/\∃ vs,KV kvs vs/\h.DictOf (aa4 P w) a vs
 | .dT kvs=>kvs.length<=sizeLine/\(a == sysModules)=false/\∃ xs:List (List Key × Addr × Value),
   Paired (λ(p:List Key × V)(q:List Key × Addr × Value)=>p.1=q.1/\H q.2.1=some (.tup (p.1.map kV))/\RelV p.2 q.2.2) kvs xs /\
   ∃ o es ep,h.get? a=some o/\o.ExactDict/\o.data=.dict es ep/\es.toList=xs.map (entryOfKey (tupleKind (aa4 P w)))/\(xs.map (·.1)).Nodup
 | .set S n=>h.SetOf (intKind P w) a S n
 | .ins C dx fs=>H dx=some (.own a)/\fs.length<=1000/\dx ≠ a/\h.get? a=some (PySem.W.instObj C dx) /\
   ∃ mA,h.Ns1 dx mA/\(∀ f,RelO (fs.lookup f) (mA f))/\PySem.Within mA (fs.map (·.1))
 | .own _=>∃ o,h.get? a=some o
 | .xd fs=>∃ mA,h.Ns1 a mA/\∀ f,RelO (fs.lookup f) (mA f)
 | .rng lo hi=>∃ t u v,h.get? a=some { cls:=.type "range",data:=.fields #[.int lo t,.int hi u,.int 1 v] }
 | .frz o u=>h.get? a=some o/\ObjOk H h a u
 | .tbl ps=>h.get? a=some { cls:=.none,data:=.fields ps }
 | .met f x=>h.get? a=some (PySem.W.methodObj (.ref f) (.ref x))
 | .ext φ=>φ h/\(∃ o,h.get? a=some o)/\∀ h1 h2:Heap,φ h1->(∀ o,h1.get? a=some o->h2.get? a=some o)->φ h2
def HOk(H:Hp)(h:Heap):Prop:=∀ a o,H a=some o->ObjOk P w H h a o
end
section
variable{P:Program}{w:World}{H H':Hp}{h h':Heap}{a:Addr}{o:HO}
theorem ObjOk.lt(x:ObjOk P w H h a o):a<h.objs.size:=by
 cases o with
 |lst xs=>obtain⟨_,_,_,_,e⟩:=x;exact aJ4 e
 |tup xs=>obtain⟨_,_,_,p⟩:=x;exact p.lt
 |dK kvs=>obtain⟨_,_,_,_,o,_,_,e,_⟩:=x;exact aJ4 e
 |dT kvs=>obtain⟨_,_,_,_,o,_,_,e,_⟩:=x;exact aJ4 e
 |set S n=>obtain⟨o,_,_,_,e,_⟩:=x;exact aJ4 e
 |ins C dx fs=>obtain⟨_,_,_,e,_⟩:=x;exact aJ4 e
 |own y=>obtain⟨_,e⟩:=x;exact aJ4 e
 |xd fs=>obtain⟨_,⟨_,_,_,e,_⟩,_⟩:=x;exact aJ4 e
 |rng lo hi=>obtain⟨_,_,_,e⟩:=x;exact aJ4 e
 |frz ob u=>obtain⟨e,_⟩:=x;exact aJ4 e
 |tbl ps=>exact aJ4 (show h.get? a=some _ from x)
 |met f y=>exact aJ4 (show h.get? a=some _ from x)
 |ext φ=>obtain⟨_,⟨_,e⟩,_⟩:=x;exact aJ4 e
theorem Paired.mapP{α β:Type}{F G : α->β->Prop}:∀{l₁:List α}{l₂:List β},Paired F l₁ l₂->(∀ a b,F a b->G a b)->Paired G l₁ l₂
 |_,_,.nil,_=>.nil
 |_,_,.cons r t,f=>.cons (f _ _ r) (Paired.mapP t f)
theorem ObjOk.stay(x:ObjOk P w H h a o)(k:∀ b u,(b=a\/H b=some (.own a))->h.get? b=some u->h'.get? b=some u)
  (i:∀ b,H b=some (.own a)->H' b=some (.own a)) (l:∀ b xs,H b=some (.tup xs)->H' b=some (.tup xs)):ObjOk P w H' h' a o:=by
 induction o with
 |lst xs=>obtain⟨z,its,n,r,e⟩:=x;exact⟨z,its,n,r,k _ _ (.inl rfl) e⟩
 |tup xs=>obtain⟨z,its,r,g,e,c⟩:=x;exact⟨z,its,r,g,k _ _ (.inl rfl) e,c⟩
 |dK kvs=>obtain⟨z,y,vs,r,g,es,ep,e,c⟩:=x;exact⟨z,y,vs,r,g,es,ep,k _ _ (.inl rfl) e,c⟩
 | dT kvs =>
  obtain⟨z,y,xs,r,g,es,ep,e,c⟩:=x
  exact⟨z,y,xs,Paired.mapP r λp q z=>⟨z.1,l _ _ z.2.1,z.2.2⟩,g,es,ep,k _ _ (.inl rfl) e,c⟩
 |set S n=>obtain⟨g,es,ep,t,e,c⟩:=x;exact⟨g,es,ep,t,k _ _ (.inl rfl) e,c⟩
 | ins C dx fs =>
  obtain⟨d,z,ne,e,mA,⟨od,es,ep,j,c⟩,r⟩:=x
  exact⟨i _ d,z,ne,k _ _ (.inl rfl) e,mA,⟨od,es,ep,k _ _ (.inr d) j,c⟩,r⟩
 |own y=>obtain⟨g,e⟩:=x;exact⟨g,k _ _ (.inl rfl) e⟩
 |xd fs=>obtain⟨mA,⟨od,es,ep,e,c⟩,r⟩:=x;exact⟨mA,⟨od,es,ep,k _ _ (.inl rfl) e,c⟩,r⟩
 |rng lo hi=>obtain⟨t,u,v,e⟩:=x;exact⟨t,u,v,k _ _ (.inl rfl) e⟩
 |frz g u ih=>obtain⟨e,q⟩:=x;exact⟨k _ _ (.inl rfl) e,ih q⟩
 | tbl ps =>
  have e:h.get? a=some { cls:=.none,data:=.fields ps }:=x
  show h'.get? a=some { cls:=.none,data:=.fields ps }
  exact k a _ (.inl rfl) e
 | met f y =>
  have e:h.get? a=some (PySem.W.methodObj (.ref f) (.ref y)):=x
  show h'.get? a=some (PySem.W.methodObj (.ref f) (.ref y))
  exact k a _ (.inl rfl) e
 |ext φ=>obtain⟨p,⟨o,e⟩,st⟩:=x;exact⟨st _ _ p λo q=>k _ _ (.inl rfl) q,⟨o,k _ _ (.inl rfl) e⟩,st⟩
theorem HOk.lt(x:HOk P w H h)(e:H a=some o):a<h.objs.size:=(x a o e).lt
theorem HOk.fresh(x:HOk P w H h)(e:h.objs.size<=a):H a=none:=by
 cases q:H a with
 |none=>rfl
 |some u=>exact absurd (aC5 (x.lt q) e) (aG4 _)
theorem HOk.kept(x:HOk P w H h)(k:∀ b u,h.get? b=some u->h'.get? b=some u):HOk P w H h':=λa o e =>
 (x a o e).stay (λb u _ q=>k b u q) (λ_ q=>q) λ_ _ q=>q
theorem HOk.laid(x:HOk P w H h)(k:∀ b u,h.get? b=some u->h'.get? b=some u)(d:h.objs.size<=a)(new:ObjOk P w (upd H a o) h' a o):HOk P w (upd H a o) h':=λb u e=>by
 have hn:=x.fresh d
 by_cases hb:b=a
 ·subst hb;rw[aaf] at e;cases e;exact new
 ·rw[aae hb] at e
  exact(x b u e).stay (λc v _ q=>k c v q) (λc q=>by rw[aae (aao q hn)];exact q) λc xs q=>by rw[aae (aao q hn)];exact q
end
def Rd(H:Hp)(a:Addr)(u:HO):Prop:=H a=some u\/∃ o,H a=some (.frz o u)
theorem Rd.ok{P:Program}{w:World}{H:Hp}{h:Heap}{a:Addr}{u:HO}(r:Rd H a u)(x:HOk P w H h):ObjOk P w H h a u:=by
 rcases r with r|⟨o,r⟩
 ·exact x a u r
 ·obtain⟨_,q⟩:=x a _ r
  exact q
def Mut:Option HO->Prop
 |some (.lst _)=>True
 |some (.dK _)=>True
 |some (.dT _)=>True
 |some (.set _ _)=>True
 |some (.ins _ _ _)=>True
 |some (.ext _)=>True
 |_=>False
section
variable{P:Program}{w:World}{H:Hp}{h h':Heap}{x e:Addr}{o':HO}
theorem HOk.write(ok:HOk P w H h)(f:Mut (H x))(l:e=x\/H e=some (.own x))(k:∀ b u,b ≠ e->h.get? b=some u->h'.get? b=some u)(i:∃ u,h'.get? e=some u)
  (new:ObjOk P w (upd H x o') h' x o'):HOk P w (upd H x o') h':=λb u q=>by
 have a:∀ c y,H c=some (.own y)->c ≠ x:=λc y r z=>by subst z;rw[r] at f;exact f
 have d:∀ c xs,H c=some (.tup xs)->c ≠ x:=λc xs r z=>by subst z;rw[r] at f;exact f
 by_cases hb:b=x
 ·subst hb;rw[aaf] at q;cases q;exact new
 ·rw[aae hb] at q
  by_cases hbe:b=e
  ·have j:H b=some (.own x):=by
    rcases l with z|z
    ·exact absurd (hbe.trans z) hb
    ·rw[hbe];exact z
   rw[q] at j;cases j
   obtain⟨v,m⟩:=i
   exact⟨v,by rw[hbe];exact m⟩
  ·refine(ok b u q).stay (λc v g r=>k c v ?_ r) (λc r=>by rw[aae (a c b r)];exact r) λc xs r=>by rw[aae (d c xs r)];exact r
   rcases g with rfl|g
   ·exact hbe
   ·rintro rfl
    rcases l with z|z
    ·exact a c b g z
    ·rw[g] at z;cases z;exact hb rfl
end
structure Un(fs ex:List Addr)(H H':Hp)(h h':Heap):Prop where
 keep:∀ b o,h.get? b=some o->H b=none->b ∉ fs->b ∉ ex->h'.get? b=some o
 slot:∀ b o,h.get? b=some o->H b=none->b∈fs->b ∉ ex->∃ sl,h'.get? b=some { o with slots:=sl }
 free:∀ b o,h.get? b=some o->H b=none->b ∉ ex->H' b=none
 there:∀ b o,h.get? b=some o->b ∉ ex->∃ o',h'.get? b=some o'
 tups:∀ b xs,H b=some (.tup xs)->H' b=some (.tup xs)
 frzs:∀ b o u,H b=some (.frz o u)->H' b=some (.frz o u)
 tbls:∀ b ps,H b=some (.tbl ps)->∃ more,H' b=some (.tbl (ps++more))
section
variable{fs fs' ex ex':List Addr}{H H1 H2:Hp}{h h1 h2 h':Heap}{a x e:Addr}{o:HO}
theorem Un.any(u:Un fs ex H H1 h h1){b:Addr}{a:Obj}(q:h.get? b=some a)(n:H b=none)(c:b ∉ ex):∃ sl,h1.get? b=some { a with slots:=sl }:=by
 by_cases hb:b∈fs
 ·exact u.slot b a q n hb c
 ·exact⟨a.slots,u.keep b a q n hb c⟩
theorem Un.kept(k:∀ b u,h.get? b=some u->h'.get? b=some u):Un fs ex H H h h' :=
 ⟨λb a q _ _ _=>k b a q,λb a q _ _ _=>⟨a.slots,k b a q⟩,λ_ _ _ n _=>n,λb a q _=>⟨a,k b a q⟩,λ_ _ q=>q,λ_ _ _ q=>q,λ_ ps q=>⟨#[],by rw[q];simp⟩⟩
theorem Un.refl:Un fs ex H H h h:=Un.kept λ_ _ q=>q
theorem Un.laid(k:∀ b u,h.get? b=some u->h'.get? b=some u)(c:h.objs.size<=a)(hn:H a=none):Un fs ex H (upd H a o) h h' where
 keep:=λb u q _ _ _=>k b u q
 slot:=λb u q _ _ _=>⟨u.slots,k b u q⟩
 free:=λb u q n _=>by rw[aae (aB6 (aC5 (aJ4 q) c))];exact n
 there:=λb u q _=>⟨u,k b u q⟩
 tups:=λb xs q=>by rw[aae (aao q hn)];exact q
 frzs:=λb u xs q=>by rw[aae (aao q hn)];exact q
 tbls:=λb ps q=>⟨#[],by rw[aae (aao q hn),q];simp⟩
theorem Un.write(a:Mut (H x))(g:e=x\/H e=some (.own x))(k:∀ b u,b ≠ e->h.get? b=some u->h'.get? b=some u)(c:∃ u,h'.get? e=some u):Un fs ex H (upd H x o) h h':=by
 have d:∀ b,H b=none->b ≠ x:=λb n z=>by subst z;rw[n] at a;exact a
 have hb:∀ b,H b=none->b ≠ e:=λb n z=>by
  subst z
  rcases g with r|r
  ·exact d b n r
  ·rw[n] at r;cases r
 have hm:∀ b u,H b=some u->¬ Mut (some u)->b ≠ x:=λb u q f z=>by subst z;rw[q] at a;exact f a
 refine⟨λb u q n _ _=>k b u (hb b n) q,λb u q n _ _=>⟨u.slots,k b u (hb b n) q⟩,λb u q n _=>by rw[aae (d b n)];exact n,λb u q _=>?_,
  λb xs q=>by rw[aae (hm b _ q λz=>z)];exact q,λb u xs q=>by rw[aae (hm b _ q λz=>z)];exact q,λb ps q=>⟨#[],by rw[aae (hm b _ q λz=>z),q];simp⟩⟩
 by_cases hbe:b=e
 ·subst hbe;exact c
 ·exact⟨u,k b u hbe q⟩
end
def trk(h:Heap)(H:Hp):List Addr:=(List.range h.objs.size).filter λa=>(H a).isSome
def hidT(h:Heap)(H:Hp):Heap:=PySem.W.hideAll h (trk h H)
theorem ar5(h:Heap)(H:Hp):(hidT h H).objs.size=h.objs.size:=PySem.W.hideAll_size _ _
theorem aus{h:Heap}{H:Hp}{b:Addr}{o:Obj}(e:h.get? b=some o)(n:H b=none):(hidT h H).get? b=some o :=
 PySem.W.hideAll_get _ e λhm=>by
  have q:(H b).isSome=true:=(List.mem_filter.mp hm).2
  rw[n] at q;simp at q
theorem axg{h:Heap}{H:Hp}{b:Addr}{o:Obj}(e:(hidT h H).get? b=some o):h.get? b=some o/\H b=none:=by
 have a:h.get? b=some o:=PySem.W.of_hideAll (trk h H) e
 refine⟨a,?_⟩
 cases q:H b with
 |none=>rfl
 | some x =>
  have hm:b∈trk h H:=List.mem_filter.mpr ⟨aB9.mpr (aJ4 a),by simp[q]⟩
  have z:(hidT h H).get? b=none:=PySem.W.hideAll_none (trk h H) hm
  rw[z] at e;cases e
def axh(g h:Heap)(L:Addr):List (Addr × Obj):=(List.range h.objs.size).filterMap λa=>if a=L\/(g.get? a).isSome=true then none else (h.get? a).map λo=>(a,o)
def rest(g h:Heap)(L d:Addr):List (Addr × Obj):=(axh g h L).filter λp=>decide (p.1 ≠ d)
structure Mod(K:Frag)(mg:Str->Option Value)(base:Heap):Prop where
 kin:K.In base
 glob:base.Ns mainGlobals mg
 blt:∃ mb,base.Ns builtinsNs mb/\∀ x:Str,x ≠ "__name__"->mb x=bootBuiltins x
 nolimit:base.NoLimit
/-- the context: a def's body (or a comprehension's block) running. base: fixed through the whole law; s₀, H₀: the entry; outer: the frames whose slots others may change (a def's callers); stack: all frames that run;
  ex: iterators that were made ahead of the entry and are walked here (a comprehension's);fn: the names whose cells were made at the entry (a def: all;a comprehension's block: its own);calm: not within an except suite;pn: pins that every state bears;xe: what is wanted of an exception that leaves the code -/
structure Cx where
 prog:Program
 w:World
 K:Frag
 mg:Str->Option Value
 base:Heap
 A:Around
 N:List Str
 s₀:Shared
 H₀:Hp
 env:Env
 outer:List Env
 stack:List Env
 ex:List Addr
 fn:Str->Bool
 calm:Bool
 pn:List (Addr × Obj)
 xe:Value->Shared->Prop
def frs(l:List Env):List Addr:=l.filterMap (·.frame)
abbrev Cx.fs(X:Cx):List Addr:=frs X.outer
def Vis(sc:Scope)(x:Str):Prop:=sc.names.lookup x=some .local\/sc.names.lookup x=some .cell\/sc.names.lookup x=some .free
def Loc(sc:Scope)(x:Str):Prop:=sc.names.lookup x=some .local\/sc.names.lookup x=some .cell
def Look(env:Env)(h:Heap)(m:Str->Option Value)(x:Str)(u:Value):Prop :=
 (env.kindOf x=some .local/\m x=some u)\/((env.kindOf x=some .cell\/env.kindOf x=some .free)/\∃ c,env.cells.lookup x=some c/\h.IsCell c (some u))
structure Cx.Ok(X:Cx):Prop where
 mod:Mod X.K X.mg X.base
 kind:X.env.scope.kind=.function
 glob:X.env.globals=mainGlobals
 blt:X.env.builtins=builtinsNs
 above:X.s₀.heap.objs.size<=X.env.locals
 inj:∀ x y c,X.env.cells.lookup x=some c->X.env.cells.lookup y=some c->x=y
 has:∀ x,(X.env.kindOf x=some .cell\/X.env.kindOf x=some .free)->∃ c,X.env.cells.lookup x=some c
 cab:∀ x c,X.fn x=true->X.env.cells.lookup x=some c->X.s₀.heap.objs.size<=c
 hd:X.calm=true->X.A.handled=none
 frames:X.A.frames=some X.stack
 stk:X.stack=X.outer\/(X.stack=X.env::X.outer/\X.env.frame=some X.env.locals)
 exf:∀ b∈X.ex,b ≠ X.env.locals/\∀ x c,X.env.cells.lookup x=some c->c ≠ b
 bs:∀ b o,X.base.get? b=some o->X.s₀.heap.get? b=some o/\X.H₀ b=none
 bsz:X.base.objs.size<=X.s₀.heap.objs.size
 noex:∀ b o,X.base.get? b=some o->b ∉ X.ex
 exfs:∀ b∈X.ex,b ∉ X.fs
 funs:X.s₀.heap.FunFrames X.base X.outer
 frf:∀ b∈X.fs,X.H₀ b=none
structure Inv(X:Cx)(pins:List (Addr × Obj))(σ:List (Option V))(H:Hp)(s:Shared):Prop where
 ok:X.Ok
 os:s.os=X.s₀.os
 bare:AllBare s.gens
 base:Un X.fs X.ex X.H₀ H X.s₀.heap s.heap
 loc:∃ m,s.heap.Ns X.env.locals m/\∀(i:Nat)(x:Str)(v:V),X.N[i]?=some x->σ[i]?=some (some v)->Vis X.env.scope x->∃ u,RelV v u/\Look X.env s.heap m x u
 cell:∀ x c,X.env.cells.lookup x=some c->∃ v,s.heap.IsCell c v
 free:H X.env.locals=none
 freeC:∀ x c,X.env.cells.lookup x=some c->H c=none
 pin:∀ p∈X.pn++pins,s.heap.get? p.1=some p.2/\H p.1=none/\p.1 ≠ X.env.locals/\p.1 ∉ X.fs/\∀ v,p.2.data ≠ .cell v
 hok:HOk X.prog X.w H s.heap
 len : σ.length=X.N.length
section
variable{X:Cx}{pins:List (Addr × Obj)}{σ:List (Option V)}{H H':Hp}{s:Shared}{h':Heap}
theorem Cx.Ok.nofr(ok:X.Ok){b:Addr}{o:Obj}(e:X.base.get? b=some o):b ∉ X.fs:=λhb=>by
 have:=(ok.funs.mem hb).1
 rw[e] at this;cases this
theorem Inv.bs(I:Inv X pins σ H s):∀ b o,X.base.get? b=some o->s.heap.get? b=some o/\H b=none:=λb o e =>
 ⟨I.base.keep b o (I.ok.bs b o e).1 (I.ok.bs b o e).2 (I.ok.nofr e) (I.ok.noex b o e),I.base.free b o (I.ok.bs b o e).1 (I.ok.bs b o e).2 (I.ok.noex b o e)⟩
theorem Inv.bk(I:Inv X pins σ H s):∀ b o,X.base.get? b=some o->s.heap.get? b=some o:=λb o e=>(I.bs b o e).1
theorem Inv.mod(I:Inv X pins σ H s):Mod X.K X.mg X.base:=I.ok.mod
theorem Inv.kIn(I:Inv X pins σ H s):X.K.In s.heap:=I.ok.mod.kin.keeps I.bk
theorem Inv.lt(I:Inv X pins σ H s):X.env.locals<s.heap.objs.size:=let ⟨_,hn,_⟩:=I.loc;hn.lt
theorem Inv.sz(I:Inv X pins σ H s):X.s₀.heap.objs.size<=s.heap.objs.size:=aD0 I.ok.above (aG5 I.lt)
theorem Inv.nofs(I:Inv X pins σ H s){a:Addr}(h:s.heap.objs.size<=a):a ∉ X.fs:=λhb=>by
 obtain⟨_,o,b,_⟩:=I.ok.funs.mem hb
 exact absurd (aC5 (aJ4 b) (aD0 I.sz h)) (aG4 _)
theorem Inv.cne(I:Inv X pins σ H s):∀ x c,X.env.cells.lookup x=some c->c ≠ X.env.locals:=λx c e z=>by
 obtain⟨v,o,d,hd⟩:=I.cell x c e
 obtain⟨m,⟨o',es,ep,a,b,_⟩,_⟩:=I.loc
 rw[z,a] at d;cases d;rw[b] at hd;cases hd
theorem Inv.funs(I:Inv X pins σ H s):s.heap.FunFrames X.base X.outer:=by
 have all:∀(l:List Env),(∀ b∈frs l,b∈X.fs)->X.s₀.heap.FunFrames X.base l->s.heap.FunFrames X.base l:=by
  intro l
  induction l with
  |nil=>intro _ _;trivial
  | cons env r ih =>
   intro hs c
   obtain⟨f,⟨L,o,hf,hn,g,hd⟩,d⟩:=c
   have a:L∈X.fs:=hs L (by unfold frs;rw[List.filterMap_cons,hf];exact aB8)
   obtain⟨sl,e⟩:=I.base.slot L o g (I.ok.frf L a) a λz=>I.ok.exfs L z a
   exact⟨f,⟨L,_,hf,hn,e,hd⟩,ih (λb hb=>hs b (by unfold frs;rw[List.filterMap_cons,hf];exact aB5 _ hb)) d⟩
 exact all X.outer (λ_ hb=>hb) I.ok.funs
theorem Inv.stack(I:Inv X pins σ H s):s.heap.FunFrames X.base X.stack:=by
 rcases I.ok.stk with e|⟨e,hf⟩
 ·rw[e];exact I.funs
 ·rw[e]
  obtain⟨m,hn,_⟩:=I.loc
  refine .cons (by rw[I.ok.kind];decide) hf hn ?_ I.funs
  exact Heap.get?_none_of_le (aD0 I.ok.bsz I.ok.above)
theorem Inv.stkSub(I:Inv X pins σ H s):∀ b∈frs X.stack,b∈X.env.locals::X.fs:=λb hb=>by
 rcases I.ok.stk with e|⟨e,hf⟩
 ·rw[e] at hb;exact aB5 _ hb
 ·rw[e] at hb
  unfold frs at hb
  rw[List.filterMap_cons,hf] at hb
  exact hb
theorem Inv.stkFree(I:Inv X pins σ H s):∀ b∈frs X.stack,H b=none:=λb hb=>by
 rcases aA9.mp (I.stkSub b hb) with e|hb
 ·rw[e];exact I.free
 ·obtain⟨_,o,a,_⟩:=I.ok.funs.mem hb
  exact I.base.free b o a (I.ok.frf b hb) λz=>I.ok.exfs b z hb
theorem Inv.step{g':Array GenState}{t':Nat}{d':Drawn}{ch:List Addr}(I:Inv X pins σ H s)
  (h:∀ b∈ch,(b∈X.ex\/X.s₀.heap.objs.size<=b)/\b ≠ X.env.locals/\(∀ x c,X.env.cells.lookup x=some c->c ≠ b)/\∀ p∈X.pn++pins,p.1 ≠ b)
  (keep:∀ b o,b ≠ X.env.locals->b ∉ X.fs->b ∉ ch->s.heap.get? b=some o->H b=none->h'.get? b=some o)
  (slot:∀ b o,b ≠ X.env.locals->b∈X.fs->b ∉ ch->s.heap.get? b=some o->H b=none->∃ sl,h'.get? b=some { o with slots:=sl }) (free:∀ b o,b ∉ ch->s.heap.get? b=some o->H b=none->H' b=none)
  (there:∀ b o,b ∉ ch->s.heap.get? b=some o->∃ o',h'.get? b=some o')
  (tups:∀ b xs,H b=some (.tup xs)->H' b=some (.tup xs)) (frzs:∀ b o u,H b=some (.frz o u)->H' b=some (.frz o u)) (tbls:∀ b ps,H b=some (.tbl ps)->∃ more,H' b=some (.tbl (ps++more)))
  (ns:∀ m,s.heap.Ns X.env.locals m->h'.Ns X.env.locals m) (hok:HOk X.prog X.w H' h') (G:AllBare g') :
  Inv X pins σ H' { s with heap:=h',gens:=g',drawn:=d',toks:=t' }:=by
 have B:∀ b o,X.s₀.heap.get? b=some o->b ≠ X.env.locals:=λb o e=>aB6 (aC5 (aJ4 e) I.ok.above)
 have j:∀ b o,X.s₀.heap.get? b=some o->b ∉ X.ex->b ∉ ch:=λb o e a hb=>by
  rcases(h b hb).1 with z|z
  ·exact a z
  ·exact absurd (aC5 (aJ4 e) z) (aG4 _)
 have g:∀ x c,X.env.cells.lookup x=some c->∀ v,s.heap.IsCell c v->h'.IsCell c v:=λx c e v K=>by
  obtain⟨o,A,hd⟩:=K
  have f:c ∉ ch:=λz=>(h c z).2.2.1 x c e rfl
  by_cases hc:c∈X.fs
  ·obtain⟨sl,q⟩:=slot c o (I.cne x c e) hc f A (I.freeC x c e)
   exact⟨_,q,hd⟩
  ·exact⟨o,keep c o (I.cne x c e) hc f A (I.freeC x c e),hd⟩
 refine⟨I.ok,I.os,G,⟨λb o e n hb a=>?_,λb o e n hb a=>?_,λb o e n a=>?_,λb o e a=>?_,λb xs e=>tups b xs (I.base.tups b xs e),λb o xs e=>frzs b o xs (I.base.frzs b o xs e),λb ps e=>?_⟩,?_,λx c e=>?_,?_,λx c e=>?_,λp E=>?_,hok,I.len⟩
 ·exact keep b o (B b o e) hb (j b o e a) (I.base.keep b o e n hb a) (I.base.free b o e n a)
 ·obtain⟨sl,y⟩:=I.base.slot b o e n hb a
  obtain⟨D,C⟩:=slot b _ (B b o e) hb (j b o e a) y (I.base.free b o e n a)
  exact⟨D,C⟩
 ·obtain⟨o',y⟩:=I.base.there b o e a
  exact free b o' (j b o e a) y (I.base.free b o e n a)
 ·obtain⟨o',y⟩:=I.base.there b o e a
  exact there b o' (j b o e a) y
 ·obtain⟨L,y⟩:=I.base.tbls b ps e
  obtain⟨N,C⟩:=tbls b _ y
  exact⟨L++N,by rw[C,Array.append_assoc]⟩
 ·obtain⟨m,hn,J⟩:=I.loc
  refine⟨m,ns m hn,λi x v y C M=>?_⟩
  obtain⟨u,r,l⟩:=J i x v y C M
  refine⟨u,r,?_⟩
  rcases l with l|⟨k,c,e,z⟩
  ·exact .inl l
  ·exact .inr ⟨k,c,e,g x c e _ z⟩
 ·obtain⟨v,z⟩:=I.cell x c e
  exact⟨v,g x c e v z⟩
 ·obtain⟨m,⟨o,_,_,A,_⟩,_⟩:=I.loc
  exact free _ o (λz=>(h _ z).2.1 rfl) A I.free
 ·obtain⟨v,o,A,hd⟩:=I.cell x c e
  exact free c o (λz=>(h c z).2.2.1 x c e rfl) A (I.freeC x c e)
 ·obtain⟨e,n,ne,F,d⟩:=I.pin p E
  have f:p.1 ∉ ch:=λz=>(h p.1 z).2.2.2 p E rfl
  exact⟨keep p.1 p.2 ne F f e n,free p.1 p.2 f e n,ne,F,d⟩
theorem Inv.un{t':Nat}(I:Inv X pins σ H s)(u:Un X.fs [] H H' s.heap h')(hok:HOk X.prog X.w H' h'):Inv X pins σ H' { s with heap:=h',toks:=t' }:=by
 obtain⟨m,⟨o,es,ep,d,r⟩,_⟩:=id I.loc
 obtain⟨sl,g⟩:=u.any d I.free (by simp)
 exact I.step (g':=s.gens) (d':=s.drawn) (ch:=[]) (λ_ z=>nomatch z) (λb o _ hb _ e n=>u.keep b o e n hb (by simp)) (λb o _ hb _ e n=>u.slot b o e n hb (by simp)) (λb o _ e n=>u.free b o e n (by simp)) (λb o _ e=>u.there b o e (by simp)) u.tups u.frzs u.tbls (λh hm=>by
  obtain⟨o',es',c,a,f⟩:=hm
  rw[d] at a;cases a
  exact⟨_,es',c,g,f⟩) hok I.bare
theorem Inv.call{g':Array GenState}{t':Nat}{d':Drawn}{ch:List Addr}(I:Inv X pins σ H s)(u:Un (frs X.stack) ch H H' s.heap h')(hok:HOk X.prog X.w H' h')(j:AllBare g')
  (f:∀ b∈ch,(b∈X.ex\/X.s₀.heap.objs.size<=b)/\b ≠ X.env.locals/\(∀ x c,X.env.cells.lookup x=some c->c ≠ b)/\∀ p∈X.pn++pins,p.1 ≠ b) :
  Inv X pins σ H' { s with heap:=h',gens:=g',drawn:=d',toks:=t' }:=by
 obtain⟨m,⟨o,es,ep,i,r⟩,_⟩:=id I.loc
 obtain⟨sl,h⟩:=u.any i I.free λz=>(f _ z).2.1 rfl
 exact I.step (ch:=ch) f (λb o h hb a e n=>u.keep b o e n (λz=>(aA9.mp (I.stkSub b z)).elim h hb) a) (λb o _ _ a e n=>u.any e n a) (λb o a e n=>u.free b o e n a) (λb o a e=>u.there b o e a) u.tups u.frzs u.tbls (λq hm=>by
  obtain⟨o',es',g,d,l⟩:=hm
  rw[i] at d;cases d
  exact⟨_,es',g,h,l⟩) hok j
theorem Inv.turned{t':Nat}{it:Addr}(I:Inv X pins σ H s)(k:∀ b o,b ≠ it->s.heap.get? b=some o->h'.get? b=some o)(hn:H it=none)(f:it ≠ X.env.locals)
  (h:it∈X.ex\/X.s₀.heap.objs.size<=it) (j:∀ x c,X.env.cells.lookup x=some c->c ≠ it) (i:∀ p∈X.pn++pins,p.1 ≠ it):Inv X pins σ H { s with heap:=h',toks:=t' }:=by
 have d:∀ b u,H b=some u->b ≠ it:=λb u e z=>by rw[z,hn] at e;cases e
 refine I.step (g':=s.gens) (d':=s.drawn) (ch:=[it]) (λb hb=>?_) (λb o _ _ a e _=>k b o (λz=>a (by simp[z])) e) (λb o _ _ a e _=>⟨o.slots,k b o (λz=>a (by simp[z])) e⟩) (λ_ _ _ _ n=>n)
  (λb o a e=>⟨o,k b o (λz=>a (by simp[z])) e⟩) (λ_ _ e=>e) (λ_ _ _ e=>e) (λb ps e=>⟨#[],by rw[e];simp⟩) (λm hm=>?_) (λb u e=>?_) I.bare
 ·have e:b=it:=by simpa using hb
  subst e
  exact⟨h,f,j,i⟩
 ·obtain⟨o,es,ep,g,r⟩:=hm
  exact⟨o,es,ep,k _ o (Ne.symm f) g,r⟩
 ·refine(I.hok b u e).stay (λc v a q=>k c v ?_ q) (λ_ q=>q) λ_ _ q=>q
  rcases a with z|z
  ·rw[z];exact d b u e
  ·exact d c _ z
theorem Inv.tok(I:Inv X pins σ H s)(t:Nat):Inv X pins σ H { s with toks:=t }:=I.un (h':=s.heap) (t':=t) Un.refl I.hok
theorem Inv.kept{t':Nat}(I:Inv X pins σ H s)(k:∀ b u,s.heap.get? b=some u->h'.get? b=some u):Inv X pins σ H { s with heap:=h',toks:=t' }:=I.un (Un.kept k) (I.hok.kept k)
theorem Inv.laid{a:Addr}{o:HO}{t':Nat}(I:Inv X pins σ H s)(k:∀ b u,s.heap.get? b=some u->h'.get? b=some u)(c:s.heap.objs.size<=a)(new:ObjOk X.prog X.w (upd H a o) h' a o) :
  Inv X pins σ (upd H a o) { s with heap:=h',toks:=t' }:=I.un (Un.laid k c (I.hok.fresh c)) (I.hok.laid k c new)
theorem Inv.write{x e:Addr}{o:HO}{t':Nat}(I:Inv X pins σ H s)(c:Mut (H x))(d:e=x\/H e=some (.own x))(k:∀ b u,b ≠ e->s.heap.get? b=some u->h'.get? b=some u)(a:∃ u,h'.get? e=some u)
  (new:ObjOk X.prog X.w (upd H x o) h' x o):Inv X pins σ (upd H x o) { s with heap:=h',toks:=t' }:=I.un (Un.write c d k a) (I.hok.write c d k a new)
theorem Inv.pins_of{a:List (Addr × Obj)}(I:Inv X pins σ H s)(h:∀ p∈a,s.heap.get? p.1=some p.2/\H p.1=none/\p.1 ≠ X.env.locals/\p.1 ∉ X.fs/\∀ v,p.2.data ≠ .cell v):Inv X a σ H s :=
 ⟨I.ok,I.os,I.bare,I.base,I.loc,I.cell,I.free,I.freeC,λp b=>(aA7.mp b).elim (λz=>I.pin p (aC7 _ z)) (h p),I.hok,I.len⟩
theorem nodup_ix{N:List Str}(c:N.Nodup){i j:Nat}{x:Str}(a:N[i]?=some x)(b:N[j]?=some x):i=j:=by
 obtain⟨g,d⟩:=aA1.mp a
 obtain⟨h,f⟩:=aA1.mp b
 exact(List.getElem_inj c).mp (d.trans f.symm)
theorem aj2{M:Model}{A:Around}{E:Value->Shared->Prop}{i:Nat}{x:Str}{v:V}{u:Value}{Q:Unit->Shared->Prop}(I:Inv X pins σ H s)(hN:X.N.Nodup)(hi:X.N[i]?=some x)(B:Loc X.env.scope x)(r:RelV v u)
  (h:∀ s',Inv X pins (σ.set i (some v)) H s'->(∃ a,Heap.SameBut a s.heap s'.heap/\(a=X.env.locals\/X.env.cells.lookup x=some a))->Q () s') (hf:X.fn x=true\/X.env.scope.names.lookup x=some .local:=by first|exact .inl rfl|exact .inr rfl|assumption):wpAny M A (storeName X.env x u) Q E s:=by
 obtain⟨m,hn,hl⟩:=id I.loc
 have O:(X.env.scope.kind == .class || (X.env.scope.kind == .module && X.env.locals != X.env.globals))=false:=by rw[I.ok.kind];rfl
 have G:i<σ.length:=by rw[I.len];exact(aA1.mp hi).1
 have cne:=I.cne
 have f:∀{a:Addr}{h':Heap},(∃ o,s.heap.get? a=some o/\H a=none)->Heap.SameBut a s.heap h'->HOk X.prog X.w H h':=λ{a h'} ha hs b ob e=>by
  obtain⟨_,_,C⟩:=ha
  refine(I.hok b ob e).stay (λc R l q=>(hs.2 c ?_).trans q) (λ_ q=>q) λ_ _ q=>q
  rintro rfl
  rcases l with rfl|l
  ·rw[C] at e;cases e
  ·rw[C] at l;cases l
 rcases B with F|F
 ·refine wpAny_storeName_local F hn (λh' a0 hs=>?_) O
  obtain⟨oL,_,_,W,_⟩:=id hn
  refine h _ ⟨I.ok,I.os,I.bare,⟨λb o e n hb B=>?_,λb o e n hb B=>?_,I.base.free,λb o e B=>?_,I.base.tups,I.base.frzs,I.base.tbls⟩,⟨_,a0,λj y Y g D e3=>?_⟩,λy c e=>?_,I.free,I.freeC,λp T=>?_,f ⟨oL,W,I.free⟩ hs,by simpa using I.len⟩ ⟨_,hs,.inl rfl⟩
  ·exact(hs.2 b (aB6 (aC5 (aJ4 e) I.ok.above))).trans (I.base.keep b o e n hb B)
  ·obtain⟨sl,g⟩:=I.base.slot b o e n hb B
   exact⟨sl,(hs.2 b (aB6 (aC5 (aJ4 e) I.ok.above))).trans g⟩
  ·obtain⟨o',g⟩:=I.base.there b o e B
   exact⟨o',(hs.2 b (aB6 (aC5 (aJ4 e) I.ok.above))).trans g⟩
  ·by_cases hj:j=i
   ·subst hj
    rw[hi] at g;cases g
    rw[List.getElem?_set_self G] at D
    cases D
    exact⟨u,r,.inl ⟨F,by simp⟩⟩
   ·rw[List.getElem?_set_ne (Ne.symm hj)] at D
    obtain⟨Z,r',q⟩:=hl j y Y g D e3
    refine⟨Z,r',?_⟩
    rcases q with ⟨k,e⟩|⟨k,c,e,z⟩
    ·refine .inl ⟨k,?_⟩
     have:y ≠ x:=λe=>hj (nodup_ix hN g (e ▸ hi))
     simp[this,e]
    ·exact .inr ⟨k,c,e,z.sameBut hs (cne y c e)⟩
  ·obtain⟨R,z⟩:=I.cell y c e
   exact⟨R,z.sameBut hs (cne y c e)⟩
  ·obtain⟨e,n,ne,U,d⟩:=I.pin p T
   exact⟨(hs.2 p.1 ne).trans e,n,ne,U,d⟩
 ·have J:X.fn x=true:=by
   rcases hf with z|z
   ·exact z
   ·rw[z] at F;cases F
  obtain⟨c,l⟩:=I.ok.has x (.inl F)
  obtain⟨R,z⟩:=I.cell x c l
  refine wpAny_storeName_cell I.ok.kind F l z (λh' P hs=>?_)
  obtain⟨oc,K,L⟩:=id z
  refine h { s with heap:=h' } ⟨I.ok,I.os,I.bare,⟨λb o e n hb B=>?_,λb o e n hb B=>?_,I.base.free,λb o e B=>?_,I.base.tups,I.base.frzs,I.base.tbls⟩,⟨m,hn.sameBut hs (Ne.symm (cne x c l)),λj y Y g D e3=>?_⟩,λy S e=>?_,I.free,I.freeC,λp T=>?_,f ⟨oc,K,I.freeC x c l⟩ hs,by simpa using I.len⟩ ⟨c,hs,.inr l⟩
  ·exact(hs.2 b (aB6 (aC5 (aJ4 e) (I.ok.cab x c J l)))).trans (I.base.keep b o e n hb B)
  ·obtain⟨sl,g⟩:=I.base.slot b o e n hb B
   exact⟨sl,(hs.2 b (aB6 (aC5 (aJ4 e) (I.ok.cab x c J l)))).trans g⟩
  ·obtain⟨o',g⟩:=I.base.there b o e B
   exact⟨o',(hs.2 b (aB6 (aC5 (aJ4 e) (I.ok.cab x c J l)))).trans g⟩
  ·by_cases hj:j=i
   ·subst hj
    rw[hi] at g;cases g
    rw[List.getElem?_set_self G] at D
    cases D
    exact⟨u,r,.inr ⟨.inl F,c,l,P⟩⟩
   ·rw[List.getElem?_set_ne (Ne.symm hj)] at D
    obtain⟨Z,r',q⟩:=hl j y Y g D e3
    refine⟨Z,r',?_⟩
    rcases q with q|⟨k,S,e,z'⟩
    ·exact .inl q
    ·refine .inr ⟨k,S,e,z'.sameBut hs ?_⟩
     rintro rfl
     exact hj (nodup_ix hN g (I.ok.inj _ _ _ e l ▸ hi))
  ·by_cases hcc:S=c
   ·subst hcc;exact⟨_,P⟩
   ·obtain⟨w2,z2⟩:=I.cell y S e
    exact⟨w2,z2.sameBut hs hcc⟩
  ·obtain⟨e,n,ne,U,d⟩:=I.pin p T
   refine⟨(hs.2 p.1 ?_).trans e,n,ne,U,d⟩
   intro q
   rw[q,K] at e
   have q':oc=p.2:=aC6 e
   exact d R (by rw[← q'];exact L)
theorem alz{M:Model}{A:Around}{E:Value->Shared->Prop}{i:Nat}{x:Str}{v:V}{u:Value}{Q:Unit->Shared->Prop}(I:Inv X pins σ H s)(a:X.N.Nodup)(hi:X.N[i]?=some x)(c:Loc X.env.scope x)(r:RelV v u)
  (h:∀ s',Inv X pins (σ.set i (some v)) H s'->Q () s') (hf:X.fn x=true\/X.env.scope.names.lookup x=some .local:=by first|exact .inl rfl|exact .inr rfl|assumption):wpAny M A (storeName X.env x u) Q E s :=
 aj2 I a hi c r (λs' b _=>h s' b) hf
theorem Inv.call'{s':Shared}{ch:List Addr}(I:Inv X pins σ H s)(f:s'.os=s.os)(u:Un (frs X.stack) ch H H' s.heap s'.heap)(hok:HOk X.prog X.w H' s'.heap)(d:AllBare s'.gens)
  (a:∀ b∈ch,(b∈X.ex\/X.s₀.heap.objs.size<=b)/\b ≠ X.env.locals/\(∀ x c,X.env.cells.lookup x=some c->c ≠ b)/\∀ p∈X.pn++pins,p.1 ≠ b):Inv X pins σ H' s':=by
 obtain⟨h',g',d',t',o'⟩:=s'
 have e:o'=s.os:=f
 subst e
 exact I.call (g':=g') (t':=t') (d':=d') u hok d a
end
abbrev XK:=Value->Option Addr->Hp->Prop
abbrev St:=List (Option V)
abbrev VK:=V->Hp->Prop
abbrev TE:=St->Hp->VK->Prop
abbrev TT:=St->Hp->(Bool->Hp->Prop)->Prop
abbrev TA:=St->Hp->(List V->Hp->Prop)->Prop
structure Ends where
 nx:St->Hp->Prop
 rt:VK
 bk:St->Hp->Prop:=λ_ _=>False
 ct:St->Hp->Prop:=λ_ _=>False
abbrev TS:=Ends->St->Hp->Prop
def EP(X:Cx)(pins:List (Addr × Obj))(σ:St)(Q:VK)(u:Value)(s':Shared):Prop:=∃ v H',Inv X pins σ H' s'/\RelV v u/\Q v H'
def TP(X:Cx)(pins:List (Addr × Obj))(σ:St)(Q:Bool->Hp->Prop)(b:Bool)(s':Shared):Prop:=∃ H',Inv X pins σ H' s'/\Q b H'
def AP(X:Cx)(pins:List (Addr × Obj))(σ:St)(Q:List V->Hp->Prop)(us:List Value)(s':Shared):Prop:=∃ vs H',Inv X pins σ H' s'/\Vals vs us/\Q vs H'
def SP(X:Cx)(pins:List (Addr × Obj))(D:Ends)(f:Flow)(s':Shared):Prop :=
 match f with
 | .next=>∃ σ' H',Inv X pins σ' H' s'/\D.nx σ' H'
 | .brk=>∃ σ' H',Inv X pins σ' H' s'/\D.bk σ' H'
 | .cont=>∃ σ' H',Inv X pins σ' H' s'/\D.ct σ' H'
 | .ret u=>∃ v σ' H',Inv X pins σ' H' s'/\RelV v u/\D.rt v H'
def PE(X:Cx)(e:Expr)(t:TE):Prop :=
 ∀(pins:List (Addr × Obj))(s:Shared)(σ:St)(H:Hp)(Q:VK),Inv X pins σ H s->t σ H Q->wpAny (model X.prog X.w) X.A (eval e X.env) (EP X pins σ Q) X.xe s
def PT(X:Cx)(e:Expr)(t:TT):Prop :=
 ∀(pins:List (Addr × Obj))(s:Shared)(σ:St)(H:Hp)(Q:Bool->Hp->Prop),Inv X pins σ H s->t σ H Q->wpAny (model X.prog X.w) X.A (isTrue e X.env (eval e X.env)) (TP X pins σ Q) X.xe s
def PW(X:Cx)(e:Expr)(t:TT):Prop :=
 ∀(whole:Sem Value)(pins:List (Addr × Obj))(s:Shared)(σ:St)(H:Hp)(Q:Bool->Hp->Prop),Inv X pins σ H s->t σ H Q->wpAny (model X.prog X.w) X.A (isTrue e X.env whole) (TP X pins σ Q) X.xe s
theorem PW.pt{X:Cx}{e:Expr}{t:TT}(h:PW X e t):PT X e t:=h _
def PA(X:Cx)(es:List Expr)(t:TA):Prop :=
 ∀(pos:Pos)(pins:List (Addr × Obj))(s:Shared)(σ:St)(H:Hp)(Q:List V->Hp->Prop),Inv X pins σ H s->t σ H Q->wpAny (model X.prog X.w) X.A (spliced (backTo pos (starEach es X.env))) (AP X pins σ Q) X.xe s
def PS(X:Cx)(st:Stmt)(t:TS):Prop :=
 ∀(pins:List (Addr × Obj))(s:Shared)(σ:St)(H:Hp)(D:Ends),Inv X pins σ H s->t D σ H->wpAny (model X.prog X.w) X.A (exec st X.env) (SP X pins D) X.xe s
def PSs(X:Cx)(st:List Stmt)(t:TS):Prop :=
 ∀(pins:List (Addr × Obj))(s:Shared)(σ:St)(H:Hp)(D:Ends),Inv X pins σ H s->t D σ H->wpAny (model X.prog X.w) X.A (execs st X.env) (SP X pins D) X.xe s
theorem thn{α:Type}{t:Sem α}{Q b : α->Shared->Prop}{M:Model}{A:Around}{E:Value->Shared->Prop}{s:Shared}(h:wpAny M A t Q E s)(c:∀ a s,Q a s->b a s):wpAny M A t b E s:=aK0 h c λ_ _ x=>x
section
variable{X:Cx}
def tVar(i:Nat):TE:=λσ H Q=>∃ v,σ[i]?=some (some v)/\Q v H
def tC(v:V):TE:=λ_ H Q=>Q v H
theorem azz{i:Nat}{x:Str}{pos:Pos}(n:X.N[i]?=some x)(j:Vis X.env.scope x)(hd:(x == ("__debug__" : Str))=false:=by decide)(d:(x == ("__classdict__" : Str))=false:=by decide):PE X (.Name x pos) (tVar i):=by
 intro pins s σ H Q I h
 obtain⟨v,e,h⟩:=h
 obtain⟨m,hn,g⟩:=I.loc
 obtain⟨u,r,l⟩:=g i x v n e j
 have fin:EP X pins σ Q u s:=⟨v,H,I,r,h⟩
 rcases l with ⟨b,hm⟩|⟨b,c,f,a⟩
 ·exact wpAny_Name (wpAny_loadName_local I.ok.kind b hn hm fin) hd
 ·rcases b with b|b
  ·exact wpAny_Name (wpAny_loadName_cell I.ok.kind b f a fin) hd
  ·exact wpAny_Name (wpAny_loadName_free I.ok.kind b f a fin d) hd
theorem aac{i j pos}:PE X (.Constant (.int i) j pos) (tC (.int i)):=λ_ _ _ H _ I h=>wpAny_Constant_int ⟨.int i,H,I.tok _,⟨_,rfl⟩,h⟩
theorem acn{b j pos}:PE X (.Constant (.bool b) j pos) (tC (.bl b)):=λ_ _ _ H _ I h=>Constant_bool ⟨.bl b,H,I,rfl,h⟩
theorem al0{j pos}:PE X (.Constant .none j pos) (tC .non):=λ_ _ _ H _ I h=>Constant_none ⟨.non,H,I,rfl,h⟩
def Gl(X:Cx)(x:Str):Prop:=X.env.kindOf x=some .globalImplicit
theorem axi{E:Value->Shared->Prop}{pins:List (Addr × Obj)}{s:Shared}{σ:St}{H:Hp}{x:Str}{u:Value}{pos:Pos}{Q:Value->Shared->Prop}(I:Inv X pins σ H s)(a:Gl X x)(hm:X.mg x=some u)(h:Q u s)
  (hd:(x == ("__debug__" : Str))=false:=by decide):wpAny (model X.prog X.w) X.A (eval (.Name x pos) X.env) Q E s :=
 Calls.Name_function_global I.ok.kind a (Calls.loadGlobal_global (by rw[I.ok.glob];exact I.mod.glob.keeps I.bk) hm h) hd
theorem aem{E:Value->Shared->Prop}{pins:List (Addr × Obj)}{s:Shared}{σ:St}{H:Hp}{x:Str}{u:Value}{pos:Pos}{Q:Value->Shared->Prop}(I:Inv X pins σ H s)(a:Gl X x)(hm:X.mg x=none)(b:bootBuiltins x=some u)(h:Q u s)
  (hn:x ≠ "__name__":=by decide) (hd:(x == ("__debug__" : Str))=false:=by decide):wpAny (model X.prog X.w) X.A (eval (.Name x pos) X.env) Q E s:=by
 obtain⟨mb,c,d⟩:=I.mod.blt
 exact Calls.Name_function_global I.ok.kind a (Calls.loadGlobal_builtin (by rw[I.ok.glob];exact I.mod.glob.keeps I.bk) hm (by rw[I.ok.blt];exact c.keeps I.bk) ((d x hn).trans b) h) hd
theorem ag7{x:Str}{v:V}{u:Value}{pos:Pos}(a:Gl X x)(hm:X.mg x=none)(b:bootBuiltins x=some u)(r:RelV v u)(hn:x ≠ "__name__":=by decide)(hd:(x == ("__debug__" : Str))=false:=by decide):PE X (.Name x pos) (tC v) :=
 λ_ _ _ H _ I h=>aem I a hm b ⟨v,H,I,r,h⟩ hn hd
variable{a b:Expr}{ta tb:TE}{pos:Pos}
def PC(X:Cx)(op:CmpOp)(a b:Expr)(t:TE):Prop :=
 ∀(pins:List (Addr × Obj))(s:Shared)(σ:St)(H:Hp)(Q:VK),Inv X pins σ H s->t σ H Q ->
  wpAny (model X.prog X.w) X.A (eval a X.env) (λv s₁=>wpAny (model X.prog X.w) X.A (eval b X.env) (λu s₂=>wpAny (model X.prog X.w) X.A (compareOp op v u) (EP X pins σ Q) X.xe s₂) X.xe s₁) X.xe s
def tB(t:TE):TT:=λσ H Q=>t σ H λx H1=>∃ c,x=.bl c/\Q c H1
theorem ar6{op:CmpOp}{t:TE}(h:PC X op a b t)(f:behindInMarks op b=false:=by first|exact nobehind _ (by decide) (by decide)|rfl):PT X (.Compare a [op] [b] pos) (tB t):=by
 intro pins s σ H Q I i
 refine wpAny_isTrue_Compare1 (thn (h pins s σ H _ I i) λv s1 f=>thn f λu s2 m=>thn m λc o ⟨x,l,n,j,g⟩=>?_) f
 obtain⟨d,rfl,q⟩:=g
 cases j
 exact aK5 ⟨l,n,q⟩
theorem aen{e:Expr}{t:TE}(h:PE X e t)(b:∀ whole,isTrue e X.env whole=(do let v ← whole;standAt e.pos;holding [v] (truthy v)):=by intro _;rfl):PT X e (tB t):=by
 intro pins s σ H Q I c
 refine isTrue_plain (thn (h pins s σ H _ I c) λv s1 ⟨x,g,i,f,a⟩=>?_) (b _)
 obtain⟨d,rfl,q⟩:=a
 cases f
 exact aK5 ⟨g,i,q⟩
variable{tA tB':TT}{rest:List Expr}
def tAnd(t u:TT):TT:=λσ H Q=>t σ H λc H1=>if c=true then u σ H1 Q else Q false H1
def tOr(t u:TT):TT:=λσ H Q=>t σ H λc H1=>if c=true then Q true H1 else u σ H1 Q
def tNot(t:TT):TT:=λσ H Q=>t σ H λc H1=>Q (!c) H1
theorem afi(ha:PT X a tA):PW X (.BoolOp .And [a] pos) tA:=by
 intro b pins s σ H Q I h
 refine isTrue_and (thn (ha pins s σ H Q I h) λc s1 e=>?_)
 cases c with
 |true=>exact isTrue_and_nil e
 |false=>exact e
theorem al1(ha:PT X a tA):PW X (.BoolOp .Or [a] pos) tA:=by
 intro b pins s σ H Q I h
 refine isTrue_or (thn (ha pins s σ H Q I h) λc s1 e=>?_)
 cases c with
 |false=>exact isTrue_or_nil e
 |true=>exact e
theorem agj(ha:PT X a tA)(hb:PW X (.BoolOp .And (b::rest) pos) tB'):PW X (.BoolOp .And (a::b::rest) pos) (tAnd tA tB'):=by
 intro i pins s σ H Q I h
 refine isTrue_and (thn (ha pins s σ H _ I h) λc s1 ⟨d,g,f⟩=>?_)
 cases c with
 |true=>exact hb i pins s1 σ d Q g f
 |false=>exact⟨d,g,f⟩
theorem aqj(ha:PT X a tA)(hb:PW X (.BoolOp .Or (b::rest) pos) tB'):PW X (.BoolOp .Or (a::b::rest) pos) (tOr tA tB'):=by
 intro i pins s σ H Q I h
 refine isTrue_or (thn (ha pins s σ H _ I h) λc s1 ⟨d,g,f⟩=>?_)
 cases c with
 |true=>exact⟨d,g,f⟩
 |false=>exact hb i pins s1 σ d Q g f
theorem adj(ha:PT X a tA):PT X (.UnaryOp .Not a pos) (tNot tA):=by
 intro pins s σ H Q I h
 exact isTrue_not (ha pins s σ H (λc b=>Q (!c) b) I h)
def aqk(ta tb:TE):TE:=λσ H Q=>ta σ H λx H1=>∃ c,x=.bl c/\if c=true then tb σ H1 Q else Q (.bl false) H1
def aql(ta:TE):TE:=λσ H Q=>ta σ H λx H1=>∃ c,x=.bl c/\Q (.bl (!c)) H1
theorem agk{op}{t:TE}(h:PE X a t):PE X (.BoolOp op [a] pos) t:=λpins s σ H Q I b=>BoolOp_one (h pins s σ H Q I b)
theorem aeo(ha:PE X a ta)(hb:PE X (.BoolOp .And (b::rest) pos) tb):PE X (.BoolOp .And (a::b::rest) pos) (aqk ta tb):=by
 intro pins s σ H Q I h
 refine BoolOp_and (thn (ha pins s σ H _ I h) λv s1 ⟨x,f,g,i,d⟩=>?_)
 obtain⟨c,rfl,d⟩:=d
 cases i
 refine aK5 ?_
 cases c with
 |true=>exact hb pins s1 σ f Q g d
 |false=>exact⟨.bl false,f,g,rfl,d⟩
theorem az0(ha:PE X a ta):PE X (.UnaryOp .Not a pos) (aql ta):=by
 intro pins s σ H Q I h
 refine UnaryOp_ (thn (ha pins s σ H _ I h) λv s1 ⟨x,d,f,g,b⟩=>?_)
 obtain⟨c,rfl,b⟩:=b
 cases g
 exact not_of (aK5 ⟨.bl (!c),d,f,rfl,b⟩)
end
def SqL(K:Frag)(H:Hp)(a:Addr)(xs:List V):Prop :=
 Rd H a (.lst xs) ∨
  ∃(o:Obj)(its:Array Value)(n:Nat),K.lookup a=some o/\o.cls=.type "list"/\o.dict=none/\o.data=.seq its n/\its.size<=sizeLine/\Vals xs its.toList
def SqT(K:Frag)(H:Hp)(a:Addr)(xs:List V):Prop :=
 Rd H a (.tup xs) ∨
  ∃(o:Obj)(its:Array Value)(n:Nat),K.lookup a=some o/\o.cls=.type "tuple"/\o.data=.seq its n/\its.size<=sizeLine/\Vals xs its.toList
def absV:Value->Option V
 | .none=>some .non
 | .bool b=>some (.bl b)
 | .int i _=>some (.int i)
 | .str x _=>some (.str x)
 | .bytes b _=>some (.byt b)
 | .float b _=>some (.flt b)
 | .ref a=>some (.ref a)
 | .type n=>some (.ty n)
 |_=>none
theorem RelV.abs{x:V}{u:Value}(r:RelV x u):absV u=some x:=by
 cases x with
 |non=>cases r;rfl
 |bl _=>cases r;rfl
 |int _=>obtain⟨t,rfl⟩:=r;rfl
 |str _=>obtain⟨t,rfl⟩:=r;rfl
 |byt _=>obtain⟨t,rfl⟩:=r;rfl
 |flt _=>obtain⟨t,rfl⟩:=r;rfl
 |ref _=>cases r;rfl
 |ty _=>cases r;rfl
theorem RelV.inj{x y:V}{u:Value}(r:RelV x u)(q:RelV y u):x=y:=aC6 (r.abs.symm.trans q.abs)
theorem Vals.inj:∀{xs ys:List V}{us:List Value},Vals xs us->Vals ys us->xs=ys
 |_,_,_,.nil,.nil=>rfl
 |_,_,_,.cons r t,.cons r' t'=>by rw[r.inj r',Vals.inj t t']
section
variable{X:Cx}{pins:List (Addr × Obj)}{σ:St}{H:Hp}{s:Shared}{a:Addr}{xs ys:List V}
theorem SqL.of{K:Frag}(h:H a=some (.lst xs)):SqL K H a xs:=.inl (.inl h)
theorem SqT.of{K:Frag}(h:H a=some (.tup xs)):SqT K H a xs:=.inl (.inl h)
theorem Inv.list(I:Inv X pins σ H s)(h:SqL X.K H a xs):∃ its:List Value,Vals xs its/\PlainL s.heap a its.toArray/\xs.length<=sizeLine:=by
 rcases h with h|⟨o,its,n,c,b,hd,hs,hz,r⟩
 ·obtain⟨z,its,n,r,e⟩:=h.ok I.hok
  exact⟨its,r,⟨_,n,e,rfl,rfl,rfl⟩,z⟩
 ·refine⟨its.toList,r,⟨o,n,I.kIn a o c,b,hd,by simpa using hs⟩,?_⟩
  have e:=r.length
  simp only[aA8] at e
  lia
theorem Inv.tuple(I:Inv X pins σ H s)(h:SqT X.K H a xs):∃ its:List Value,Vals xs its/\IsTup s.heap a its.toArray/\xs.length<=sizeLine:=by
 rcases h with h|⟨o,its,n,c,b,hs,hz,r⟩
 ·obtain⟨z,its,r,p⟩:=h.ok I.hok
  exact⟨its,r,p,z⟩
 ·refine⟨its.toList,r,⟨o,I.kIn a o c,b,n,by simpa using hs⟩,?_⟩
  have e:=r.length
  simp only[aA8] at e
  lia
theorem Inv.list_inj(I:Inv X pins σ H s)(h:SqL X.K H a xs)(h':SqL X.K H a ys):xs=ys:=by
 obtain⟨its,r,⟨o,n,e,_,_,d⟩,_⟩:=I.list h
 obtain⟨its',c,⟨o',g,b,_,_,d'⟩,_⟩:=I.list h'
 rw[e] at b;cases b
 rw[d] at d'
 injection d' with f _
 have:its=its':=by simpa using congrArg Array.toList f
 subst this
 exact r.inj c
end
abbrev Cx.wish(X:Cx)(E:Value->Shared->Prop):Cx:={ X with xe:=E }
abbrev Cx.nox(X:Cx):Cx:=X.wish λ_ _=>False
theorem Cx.Ok.wish{X:Cx}(ok:X.Ok)(E:Value->Shared->Prop):(X.wish E).Ok :=
 ⟨ok.mod,ok.kind,ok.glob,ok.blt,ok.above,ok.inj,ok.has,ok.cab,ok.hd,ok.frames,ok.stk,ok.exf,ok.bs,ok.bsz,ok.noex,ok.exfs,ok.funs,ok.frf⟩
theorem Cx.Ok.unwish{X:Cx}{E:Value->Shared->Prop}(ok:(X.wish E).Ok):X.Ok :=
 ⟨ok.mod,ok.kind,ok.glob,ok.blt,ok.above,ok.inj,ok.has,ok.cab,ok.hd,ok.frames,ok.stk,ok.exf,ok.bs,ok.bsz,ok.noex,ok.exfs,ok.funs,ok.frf⟩
section
variable{X:Cx}{pins:List (Addr × Obj)}{σ:St}{H:Hp}{s:Shared}{E:Value->Shared->Prop}
theorem Inv.wish(I:Inv X pins σ H s)(E:Value->Shared->Prop):Inv (X.wish E) pins σ H s:=⟨I.ok.wish E,I.os,I.bare,I.base,I.loc,I.cell,I.free,I.freeC,I.pin,I.hok,I.len⟩
theorem Inv.unwish(I:Inv (X.wish E) pins σ H s):Inv X pins σ H s:=⟨I.ok.unwish,I.os,I.bare,I.base,I.loc,I.cell,I.free,I.freeC,I.pin,I.hok,I.len⟩
theorem SP.unwish{D:Ends}{f:Flow}{s':Shared}(h:SP (X.wish E) pins D f s'):SP X pins D f s':=by
 cases f with
 |next=>obtain⟨a,H',I,q⟩:=h;exact⟨a,H',I.unwish,q⟩
 |brk=>obtain⟨a,H',I,q⟩:=h;exact⟨a,H',I.unwish,q⟩
 |cont=>obtain⟨a,H',I,q⟩:=h;exact⟨a,H',I.unwish,q⟩
 |ret u=>obtain⟨v,a,H',I,r,q⟩:=h;exact⟨v,a,H',I.unwish,r,q⟩
theorem PSs.nox{st:List Stmt}{t:TS}(h:PSs X.nox st t):PSs X st t:=λpins s σ H D I a =>
 aK0 (h pins s σ H D (I.wish _) a) (λ_ _ q=>q.unwish) λ_ _ z=>False.elim z
end
section
variable{X:Cx}{st:Stmt}{rest:List Stmt}{t u:TS}{e:Expr}{te:TE}{pos:Pos}
def aqm:TS:=λD σ H=>D.nx σ H
def tSeq(t u:TS):TS:=λD σ H=>t { D with nx:=u D } σ H
theorem aax:PSs X [] aqm:=λ_ _ σ H _ I h=>wpAny_execs_nil ⟨σ,H,I,h⟩
theorem aad(b:PS X st t)(c:PSs X rest u):PSs X (st::rest) (tSeq t u):=by
 intro pins s σ H D I h
 refine wpAny_execs_cons (thn (b pins s σ H { D with nx:=u D } I h) λf s1 q=>?_)
 cases f with
 | next =>
  obtain⟨a,H',d,q⟩:=q
  exact c pins s1 a H' D d q
 |ret v=>exact q
 |brk=>exact q
 |cont=>exact q
theorem aah(a:PS X st t):PSs X [st] t:=by
 intro pins s σ H D I h
 refine wpAny_execs_cons (thn (a pins s σ H D I h) λf s1 q=>?_)
 cases f with
 |next=>exact wpAny_execs_nil q
 |ret v=>exact q
 |brk=>exact q
 |cont=>exact q
theorem Inv.quiet{pins:List (Addr × Obj)}{σ:St}{H:Hp}{s:Shared}(I:Inv X pins σ H s):interactive X.env=false:=by simp[interactive,I.ok.kind]
def aqn(te:TE):TS:=λD σ H=>te σ H λ_ H1=>D.nx σ H1
theorem ab1(c:PE X e te)(hs:swapsWith e none pos.line X.env=pure false:=by rfl):PS X (.Expr e pos) (aqn te):=by
 intro pins s σ H D I h
 exact wpAny_Expr_any (thn (c pins s σ H _ I h) λv s1 ⟨x,a,d,f,b⟩=>⟨σ,a,d,b⟩) I.quiet hs
def tRet(te:TE):TS:=λD σ H=>te σ H D.rt
theorem aau(c:PE X e te):PS X (.Return (some e) pos) (tRet te):=by
 intro pins s σ H D I h
 exact wpAny_Return_some (thn (c pins s σ H _ I h) λv s1 ⟨x,a,d,f,b⟩=>⟨x,σ,a,d,f,b⟩)
def tIfS(c:TT)(t u:TS):TS:=λD σ H=>c σ H λb H1=>if b=true then t D σ H1 else u D σ H1
theorem aa6{c:Expr}{a b:List Stmt}{g:TT}(l:PT X c g)(ha:PSs X a t)(hb:PSs X b u):PS X (.If c a b pos) (tIfS g t u):=by
 intro pins s σ H D I h
 refine wpAny_If (thn (l pins s σ H _ I h) λd s1 ⟨i,j,f⟩=>?_)
 cases d with
 |true=>exact ha pins s1 σ i D j f
 |false=>exact hb pins s1 σ i D j f
def az1:TS:=λ_ _ _=>False
theorem al2:PS X st az1:=λ_ _ _ _ _ _ h=>h.elim
end
abbrev TG:=V->St->Hp->(St->Hp->Prop)->Prop
abbrev TGs:=List V->St->Hp->(St->Hp->Prop)->Prop
def PG(X:Cx)(target:Expr)(t:TG):Prop :=
 ∀(pins:List (Addr × Obj))(s:Shared)(σ:St)(H:Hp)(v:V)(u:Value)(Q:St->Hp->Prop),Inv X pins σ H s->RelV v u->t v σ H Q ->
  wpAny (model X.prog X.w) X.A (assign target X.env u) (λ_ s'=>∃ σ' H',Inv X pins σ' H' s'/\Q σ' H') X.xe s
def PGs(X:Cx)(ts:List Expr)(t:TGs):Prop :=
 ∀(pins:List (Addr × Obj))(s:Shared)(σ:St)(H:Hp)(vs:List V)(us:List Value)(Q:St->Hp->Prop),Inv X pins σ H s->Vals vs us->t vs σ H Q ->
  wpAny (model X.prog X.w) X.A (assignInOrder ((assignEach ts X.env).map (·.2)) us) (λ_ s'=>∃ σ' H',Inv X pins σ' H' s'/\Q σ' H') X.xe s
abbrev TSet:=V->V->V->Hp->(Hp->Prop)->Prop
def PSet(X:Cx)(t:TSet):Prop :=
 ∀(pins:List (Addr × Obj))(s:Shared)(σ:St)(H:Hp)(o i v:V)(ov iv u:Value)(Q:Hp->Prop),Inv X pins σ H s->RelV o ov->RelV i iv->RelV v u->t o i v H Q ->
  wpAny (model X.prog X.w) X.A (setItem ov iv u) (λ_ s'=>∃ H',Inv X pins σ H' s'/\Q H') X.xe s
section
variable{X:Cx}{pos:Pos}
def abi(i:Nat):TG:=λv σ H Q=>Q (σ.set i (some v)) H
theorem aan{i:Nat}{x:Str}(a:X.N.Nodup)(hi:X.N[i]?=some x)(c:Loc X.env.scope x)(hf:X.fn x=true\/X.env.scope.names.lookup x=some .local:=by first|exact .inl rfl|exact .inr rfl|assumption):PG X (.Name x pos) (abi i):=by
 intro pins s σ H v u Q I r h
 exact wpAny_assign_Name (alz I a hi c r (λs' b=>⟨_,H,b,h⟩) hf)
def gNil:TGs:=λvs σ H Q=>vs=[]/\Q σ H
def awt(t:TG)(u:TGs):TGs:=λvs σ H Q=>∃ v r,vs=v::r/\t v σ H λσ' H'=>u r σ' H' Q
theorem aei:PGs X [] gNil:=by
 intro pins s σ H vs us Q I r h
 obtain⟨e,h⟩:=h
 subst e
 cases r
 exact assignInOrder_nil ⟨σ,H,I,h⟩
theorem aby{e:Expr}{es:List Expr}{t:TG}{u:TGs}(f:PG X e t)(g:PGs X es u)
  (hs:(assignEach (e::es) X.env).map (·.2)=assign e X.env::(assignEach es X.env).map (·.2):=by rfl):PGs X (e::es) (awt t u):=by
 intro pins s σ H vs us Q I r h
 obtain⟨v,j,c,h⟩:=h
 subst c
 cases r with
 | cons r rr =>
  rw[hs]
  refine assignInOrder_cons (thn (f pins s σ H _ _ _ I r h) λ_ s1 ⟨a,d,i,b⟩=>?_)
  exact g pins s1 a d _ _ Q i rr b
def gTup(K:Frag)(n:Nat)(t:TGs):TG:=λv σ H Q=>∃ a xs,v=.ref a/\SqT K H a xs/\xs.length=n/\t xs σ H Q
theorem afj{es:List Expr}{k:Nat}{t:TGs}{n:Nat}(p:X.calm=true)(h:PGs X es t)
  (hn:(assignEach es X.env).length=n:=by rfl) (c:(assignEach es X.env).findIdx? (·.1)=none:=by rfl):PG X (.Tuple es k pos) (gTup X.K n t):=by
 intro pins s σ H v u Q I r d
 obtain⟨a,xs,i,l,g,d⟩:=d
 subst i
 cases r
 obtain⟨its,f,m,hz⟩:=I.tuple l
 refine assign_Tuple_tuple (I.ok.hd p) m (by simp[hn,← g,f.length]) c λh' j=>?_
 have q:Inv X pins σ H { s with heap:=h' }:=I.kept (t':=s.toks) λb o e=>j b o (aB6 (aJ4 e)) e
 exact h pins _ σ H xs _ Q q (by simpa using f) d
def gSub(to ti:TE)(t:TSet):TG:=λv σ H Q=>to σ H λo H1=>ti σ H1 λi H2=>t o i v H2 λH3=>Q σ H3
theorem adk{o i:Expr}{to c:TE}{t:TSet}(g:PE X o to)(hi:PE X i c)(hs:PSet X t)
  (ha:∀ v,assign (.Subscript o i pos) X.env v=(do
   let a ← holding [v] (eval o X.env)
   let b ← holding [v,a] (eval i X.env)
   standAt pos
   holding [v,a,b] (setItem a b v)
   release [v,a,b] []):=by intro _;rfl):PG X (.Subscript o i pos) (gSub to c t):=by
 intro pins s σ H v u Q I r h
 rw[ha]
 refine aJ1 (aJ7 (thn (g pins s σ H _ I h) λa s1 ⟨x,l,w,j,d⟩=>?_))
 refine aJ1 (aJ7 (thn (hi pins s1 σ l _ w d) λb s2 ⟨y,H2,f,n,p⟩=>?_))
 refine aJ1 (wpAny_standAt (aJ1 (aJ7 (thn (hs pins s2 σ H2 x y v a b u _ f j n r p) λ_ z ⟨H3,m,q⟩=>?_))))
 exact wpAny_release ⟨σ,H3,m,q⟩
def tAsg(te:TE)(g:TG):TS:=λD σ H=>te σ H λx H1=>g x σ H1 D.nx
theorem act{tg e:Expr}{te:TE}{g:TG}(c:PE X e te)(a:PG X tg g)(hs:swapsWithSole [tg] e pos.line X.env=pure false:=by rfl)(d:swappedStores [tg] e X.env=pure none:=by rfl)
  (j:(assignEach [tg] X.env).map (·.2)=[assign tg X.env]:=by rfl):PS X (.Assign [tg] e pos) (tAsg te g):=by
 intro pins s σ H D I h
 refine wpAny_Assign_stores (thn (c pins s σ H _ I h) λv s1 ⟨x,i,l,f,b⟩=>?_) hs d
 rw[j]
 exact thn (a pins s1 σ i x v _ l f b) λ_ s2 q=>q
theorem aaj{i:Nat}{x:Str}{e:Expr}{te:TE}{a:Pos}(l:X.N.Nodup)(hi:X.N[i]?=some x)(f:Loc X.env.scope x)(d:PE X e te)(hs:swapsWith e (some (.Name x a)) pos.line X.env=pure false:=by rfl)(hf:X.fn x=true\/X.env.scope.names.lookup x=some .local:=by first|exact .inl rfl|exact .inr rfl|assumption) :
  PS X (.Assign [.Name x a] e pos) (tAsg te (abi i)):=by
 intro pins s σ H D I h
 refine wpAny_Assign_Name (thn (d pins s σ H _ I h) λv s1 ⟨y,j,m,g,b⟩=>?_) hs
 exact alz m l hi f g (λs2 c=>⟨_,j,c,b⟩) hf
end
section
variable{X:Cx}{pos:Pos}
def ar7(c:TT)(tb:TS):TS:=λD σ H=>∃ W:Nat->St->Hp->Prop,(∃ m,W m σ H)/\∀ m σ H,W m σ H ->
 c σ H λb H1=>if b=true then ∃ N:St->Hp->Prop,(∀ σ' H',N σ' H'->∃ m',m'<m/\W m' σ' H')/\tb { D with nx:=N,ct:=N,bk:=D.nx } σ H1 else D.nx σ H1
theorem al3{c:Expr}{body:List Stmt}{r:TT}{y:TS}(u:PassesOwn (model X.prog X.w) X.A X.env X.xe)(J:PT X c r)(hb:PSs X body y):PS X (.While c body [] pos) (ar7 r y):=by
 intro pins s σ H D I h
 obtain⟨W,⟨F,C⟩,i⟩:=h
 refine wpAny_While (codeAny_whileLoop (λn s'=>∃ g H',Inv X pins g H' s'/\W n g H') ?_ F ⟨σ,H,I,C⟩)
 rintro n s1 ⟨d,z,G,E⟩
 refine wpAny_passesOwn u (thn (J pins s1 d z _ G (i n d z E)) λb s2 ⟨H2,x,j⟩=>?_)
 cases b with
 | true =>
  obtain⟨N,B,j⟩:=j
  rw[aF5 rfl]
  refine wpAny_passesOwn u (thn (hb pins s2 d H2 _ x j) λf K l=>?_)
  cases f with
  | next =>
   obtain⟨a,H3,q,m⟩:=l
   obtain⟨p,hm,o⟩:=B a H3 m
   exact⟨p,hm,a,H3,q,o⟩
  | cont =>
   obtain⟨a,H3,q,m⟩:=l
   obtain⟨p,hm,o⟩:=B a H3 m
   exact⟨p,hm,a,H3,q,o⟩
  |brk=>exact l
  |ret v=>exact l
 | false =>
  rw[aF6 aB0]
  exact wpAny_execs_nil ⟨d,H2,x,j⟩
end
structure It where
 go:Nat->Hp->Prop
 yld:Nat->Hp->V->Hp->Prop
 stop:Nat->Hp->Prop
def FpOk(X:Cx)(pins:List (Addr × Obj))(H:Hp)(b:Addr):Prop :=
 H b=none/\b ≠ X.env.locals/\b ∉ X.fs/\(b∈X.ex\/X.s₀.heap.objs.size<=b)/\(∀ x c,X.env.cells.lookup x=some c->c ≠ b)/\∀ p∈X.pn++pins,p.1 ≠ b
theorem Inv.fpOk{X:Cx}{pins:List (Addr × Obj)}{σ:St}{H H':Hp}{s:Shared}{b:Addr}(I:Inv X pins σ H s)(hb:s.heap.objs.size<=b)(hn:H' b=none):FpOk X pins H' b:=by
 refine⟨hn,Nat.ne_of_gt (aC5 I.lt hb),I.nofs hb,.inr (aD0 I.sz hb),λx c e z=>?_,λp a z=>?_⟩
 ·obtain⟨v,q⟩:=I.cell x c e
  exact absurd (aC5 q.lt (by rw[z];exact hb)) (aG4 _)
 ·exact absurd (aC5 (aJ4 (I.pin p a).1) (by rw[z];exact hb)) (aG4 _)
structure Turn(P:Program)(w:World)(K:Frag)(tg:Expr)(J:It)(fp:List Addr)(it:Addr)(tn:Nat->Heap->Prop):Prop where
 mem:it∈fp
 obj:∀ i h,tn i h->∀ b∈fp,∃ o,h.get? b=some o/\∀ v,o.data ≠ .cell v
 keep:∀ i h h',tn i h->(∀ b∈fp,∀ o,h.get? b=some o->h'.get? b=some o)->tn i h'
 item:∀(X:Cx),X.prog=P->X.w=w->X.K=K->X.calm=true->∀(i:Nat)(pins:List (Addr × Obj))(s:Shared)(σ:St)(H:Hp)(E:Value->Shared->Prop),Inv X pins σ H s->(∀ b∈fp,FpOk X pins H b)->tn i s.heap->J.go i H ->
  wpAny (model P w) X.A (pyNext (.ref it)) (λr s1=>∃ u,r=some u /\
   wpAny (model P w) X.A (letOwnedTupleGo tg (.ref it) u) (λ_ s2=>∃ x H',Inv X pins σ H' s2/\RelV x u/\J.yld i H x H'/\tn (i+1) s2.heap/\∀ b∈fp,H' b=none) E s1) E s
 done:∀(X:Cx),X.prog=P->X.w=w->X.K=K->X.calm=true->∀(i:Nat)(pins:List (Addr × Obj))(s:Shared)(σ:St)(H:Hp)(E:Value->Shared->Prop),Inv X pins σ H s->(∀ b∈fp,FpOk X pins H b)->tn i s.heap->J.stop i H ->
  wpAny (model P w) X.A (pyNext (.ref it)) (λr s1=>r=none/\Inv X pins σ H s1) E s
 self:∀(A:Around)(i:Nat)(s:Shared)(Q:Value->Shared->Prop)(E:Value->Shared->Prop),tn i s.heap->Q (.ref it) s->wpAny (model P w) A (pyIter (.ref it)) Q E s
abbrev TI:=St->Hp->(It->Hp->Prop)->Prop
def PIE(X:Cx)(pins:List (Addr × Obj))(σ:St)(tg:Expr)(R:It->Hp->Prop)(itv:Value)(s2:Shared):Prop :=
 ∃(it:Addr)(fp:List Addr)(tn:Nat->Heap->Prop)(J:It)(H':Hp),itv=.ref it/\Inv X pins σ H' s2/\Turn X.prog X.w X.K tg J fp it tn/\tn 0 s2.heap/\(∀ b∈fp,FpOk X pins H' b)/\R J H'
def PI(X:Cx)(tg iter:Expr)(wi:TI):Prop :=
 ∀(pins:List (Addr × Obj))(s:Shared)(σ:St)(H:Hp)(R:It->Hp->Prop),Inv X pins σ H s->wi σ H R ->
  wpAny (model X.prog X.w) X.A (eval iter X.env) (λv s1=>wpAny (model X.prog X.w) X.A (pyIter v) (PIE X pins σ tg R) X.xe s1) X.xe s
theorem awu{M:Model}{A:Around}{E:Value->Shared->Prop}{s:Shared}{tg:Expr}{it:Addr}{u:Value}{o:Obj}{n:String}{vs:Array Value}{Q:Unit->Shared->Prop}(c:s.heap.get? it=some o)(b:o.cls=.type n)(hd:o.data=.fields vs)
  (hn:["enumerate","zip","dict_itemiterator","dict_reverseitemiterator","odict_iterator","itertools.zip_longest","itertools.pairwise"].contains n=false) (a:Q () s):wpAny M A (letOwnedTupleGo tg (.ref it) u) Q E s:=by
 unfold letOwnedTupleGo
 cases tg <;> first
  |exact aJ2 a
  | (cases u <;> first
    |exact aJ2 a
    | (refine aJ1 (wpAny_load c ?_)
       rw[b,hd]
       show wpAny M A (if (["enumerate","zip","dict_itemiterator","dict_reverseitemiterator","odict_iterator","itertools.zip_longest","itertools.pairwise"].contains n && vs[0]? == some (rawInt _))=true then _ else _) Q E s
       rw[aF6 (by intro h;rw[hn,Bool.false_and] at h;cases h)]
       exact aJ2 a))
def Itl(K:Frag)(a:Addr):It :=
 ⟨λi H=>∃ xs x,SqL K H a xs/\xs[i]?=some x,λi H x H'=>H'=H/\∀ xs,SqL K H a xs->xs[i]?=some x,λi H=>∃ xs,SqL K H a xs/\xs.length<=i⟩
def Itr(lo:Int)(n:Nat):It:=⟨λi _=>i<n,λi H x H'=>H'=H/\x=.int (lo+i),λi _=>n<=i⟩
theorem ar8{P:Program}{w:World}{K:Frag}{tg:Expr}(a it:Addr):Turn P w K tg (Itl K a) [it] it (λi h=>h.IsListIter it a i) where
 mem:=by simp
 obj:=λi h st b hb=>by
  have e:b=it:=by simpa using hb
  subst e
  obtain⟨o,e,c,d⟩:=st
  exact⟨o,e,λv z=>by rw[d] at z;cases z⟩
 keep:=λi h h' st k=>st.at λo e=>k it (by simp) o e
 item:=by
  intro X B l q C i pins s σ H E I hf st g
  subst B l q
  obtain⟨xs,x,f,n⟩:=g
  obtain⟨its,m,p,hz⟩:=I.list f
  obtain⟨u,J,L⟩:=m.get n
  obtain⟨y,f1,F,A,j,r⟩:=hf it (by simp)
  refine wpAny_pyNext_list_item st p.isList (x:=u) (by simpa using J) λh' st' sb=>?_
  have M:Inv X pins σ H { s with heap:=h' }:=I.turned (t':=s.toks) (λb o hb e=>(sb.2 b hb).trans e) y f1 A j r
  obtain⟨o,e,c,d⟩:=id st'
  exact⟨u,rfl,awu (s:={ s with heap:=h' }) e c d (by decide) ⟨x,H,M,L,⟨rfl,λys G=>by rw[I.list_inj G f];exact n⟩,st',λb hb=>(hf b hb).1⟩⟩
 done:=by
  intro X B l q C i pins s σ H E I hf st g
  subst B l q
  obtain⟨xs,f,n⟩:=g
  obtain⟨its,m,p,hz⟩:=I.list f
  obtain⟨y,f1,F,A,j,r⟩:=hf it (by simp)
  have N:=m.length
  exact wpAny_pyNext_list_end (I.ok.hd C) st p.isList (by simp;lia) λh' D=>⟨rfl,I.turned (t':=s.toks) (λb o hb e=>D b o hb e) y f1 A j r⟩
 self:=λ_ _ _ _ _ st h=>wpAny_pyIter_listiter st h
theorem aqo{P:Program}{w:World}{K:Frag}{tg:Expr}(it:Addr)(lo:Int)(n:Nat):Turn P w K tg (Itr lo n) [it] it (λi h=>IsRangeIter h it (lo+(i:Nat) * 1) ((n:Int)-(i:Nat)) 1) where
 mem:=by simp
 obj:=λi h st b hb=>by
  have e:b=it:=by simpa using hb
  subst e
  exact⟨_,st,λv z=>by
   have y:Data.fields _=Data.cell v:=z
   cases y⟩
 keep:=λi h h' st k=>k it (by simp) _ st
 item:=by
  intro X m d f l i pins s σ H E I hf st a
  subst m d f
  obtain⟨g,f1,A,j,c,p⟩:=hf it (by simp)
  have W:=Walks.range (prog:=X.prog) (w:=X.w) (I.ok.hd l) it lo 1 n
  refine W.item i s _ _ a st λv h' q r st' u=>?_
  obtain⟨t,rfl⟩:=r
  have B:Inv X pins σ H { s with heap:=h',toks:=q }:=I.turned (λb o hb e=>u b o (by simpa using hb) e) g f1 j c p
  refine⟨_,rfl,awu (s:={ s with heap:=h',toks:=q }) (n:="range_iterator") st' rfl rfl (by decide) ⟨.int (lo+i),H,B,⟨t,?_⟩,⟨rfl,rfl⟩,st',λb hb=>(hf b hb).1⟩⟩
  rw[Int.mul_one]
 done:=by
  intro X m d f l i pins s σ H E I hf st a
  subst m d f
  obtain⟨g,f1,A,j,c,p⟩:=hf it (by simp)
  exact wpAny_pyNext_range_end (I.ok.hd l) st (by have:n<=i:=a;lia) λh' x=>⟨rfl,I.turned (t':=s.toks) (λb o hb e=>x b o hb e) g f1 j c p⟩
 self:=λ_ _ _ _ _ st h=>wpAny_pyIter_rangeiter st h
section
variable{X:Cx}{tg:Expr}
def alj(K:Frag)(tl:TE):TI:=λσ H R=>tl σ H λx H1=>∃ a,x=.ref a/\(∃ xs,SqL K H1 a xs)/\R (Itl K a) H1
theorem aa5{l:Expr}{tl:TE}(f:PE X l tl):PI X tg l (alj X.K tl):=by
 intro pins s σ H R I h
 refine thn (f pins s σ H _ I h) λv s1 ⟨x,i,c,g,d⟩=>?_
 obtain⟨a,e,⟨xs,j⟩,q⟩:=d
 subst e
 cases g
 obtain⟨its,m,p,hz⟩:=c.list j
 refine aK6 p.isList ?_
 refine⟨s1.heap.objs.size,[s1.heap.objs.size],_,_,i,rfl,c.kept (t':=s1.toks) λb o e=>aJ3 _ e,ar8 a _,⟨_,aJ5 _ rfl,rfl,rfl⟩,λb hb=>?_,q⟩
 have e:b=s1.heap.objs.size:=by simpa using hb
 subst e
 exact c.fpOk (aA6 _) (c.hok.fresh (aA6 _))
theorem al4{pins:List (Addr × Obj)}{σ:St}{H:Hp}{s:Shared}{R:It->Hp->Prop}{E:Value->Shared->Prop}{lo hi:Int}{t u v:Tok}{a:Nat}(I:Inv X pins σ H s)(h : -(2 ^ 62)<=lo)(j:lo<2 ^ 62)(i : -(2 ^ 62)<=hi)(d:hi<2 ^ 62)
  (q:R (Itr lo (hi-lo).toNat) H):wpAny (model X.prog X.w) X.A (pyIter (.ref s.heap.objs.size)) (PIE X pins σ tg R) E { s with heap:=s.heap.push { cls:=.type "range",data:=.fields #[.int lo t,.int hi u,.int 1 v] },toks:=a }:=by
 refine wpAny_pyIter_range (IsRange.new ..) (small_one h j i d) ?_
 have c:Inv X pins σ H { s with heap:=s.heap.push { cls:=.type "range",data:=.fields #[.int lo t,.int hi u,.int 1 v] },toks:=a }:=I.kept λb o e=>aJ3 _ e
 refine⟨(s.heap.push { cls:=.type "range",data:=.fields #[.int lo t,.int hi u,.int 1 v] }).objs.size,[(s.heap.push { cls:=.type "range",data:=.fields #[.int lo t,.int hi u,.int 1 v] }).objs.size],_,_,H,rfl,
  c.kept (t':=a) λb o e=>aJ3 _ e,aqo _ lo (hi-lo).toNat,?_,λb hb=>?_,q⟩
 ·have f:lo+((0:Nat):Int) * 1=lo:=by simp
  have g:(((hi-lo).toNat:Nat):Int)-((0:Nat):Int)=Builtin.Range.rangeSize lo hi 1:=by rw[rangeSize_one];split <;> lia
  show IsRangeIter _ _ (lo+((0:Nat):Int) * 1) ((((hi-lo).toNat:Nat):Int)-((0:Nat):Int)) 1
  rw[f,g]
  exact aJ5 _ rfl
 ·have e:b=(s.heap.push { cls:=.type "range",data:=.fields #[.int lo t,.int hi u,.int 1 v] }).objs.size:=by simpa using hb
  subst e
  exact c.fpOk (aA6 _) (c.hok.fresh (aA6 _))
def aqp(ta:TA):TI:=λσ H R=>ta σ H λvs H1=>∃ j:Int,vs=[.int j]/\-(2 ^ 62)<=j/\j<2 ^ 62/\R (Itr 0 j.toNat) H1
def awv(ta:TA):TI:=λσ H R=>ta σ H λvs H1=>∃ i j:Int,vs=[.int i,.int j]/\(-(2 ^ 62)<=i/\i<2 ^ 62/\-(2 ^ 62)<=j/\j<2 ^ 62)/\R (Itr i (j-i).toNat) H1
theorem aa8{a:Expr}{c:TA}{p pos:Pos}(d:Gl X "range")(hm:X.mg "range" = none)(ha:PA X [a] c)(hs:starEach [a] X.env=[(false,eval a X.env)]:=by rfl):PI X tg (.Call (.Name "range" p) [a] [] pos) (aqp c):=by
 intro pins s σ H R I h
 refine Call_ (aem I d hm boot_range (PyProof.Rows.callWith_type1 (thn (ha pos pins s σ H _ I h) λus s1 ⟨vs,l,i,f,b⟩=>?_) hs rfl))
 obtain⟨j,e,b,g,q⟩:=b
 subst e
 cases f with
 | cons r rr =>
  cases rr
  obtain⟨t,rfl⟩:=r
  exact call_range_1 (al4 i (by lia) (by lia) b g (by simpa using q))
theorem ad6{a b:Expr}{f:TA}{p pos:Pos}(g:Gl X "range")(hm:X.mg "range" = none)(ha:PA X [a,b] f)(hs:starEach [a,b] X.env=[(false,eval a X.env),(false,eval b X.env)]:=by rfl)(c:starEach [b] X.env=[(false,eval b X.env)]:=by rfl) :
  PI X tg (.Call (.Name "range" p) [a,b] [] pos) (awv f):=by
 intro pins s σ H R I h
 refine Call_ (aem I g hm boot_range (PyProof.Rows.callWith_type1 (thn (ha pos pins s σ H _ I h) λus s1 ⟨vs,v,o,l,d⟩=>?_) (by rw[hs,c]) (by rw[c];rfl)))
 obtain⟨i,j,e,⟨d,m,n,u⟩,q⟩:=d
 subst e
 cases l with
 | cons r rr =>
  cases rr with
  | cons r' rr =>
   cases rr
   obtain⟨t,rfl⟩:=r
   obtain⟨t',rfl⟩:=r'
   exact call_range_2 (al4 o d m n u q)
def tFor(wi:TI)(g:TG)(tb:TS):TS:=λD σ H=>wi σ H λJ H1=>∃ W:Nat->Nat->St->Hp->Prop,(∃ m,W 0 m σ H1)/\∀ i m σ H,W i m σ H ->
 (J.stop i H/\D.nx σ H)\/(J.go i H/\∃ N:St->Hp->Prop,(∀ σ' H',N σ' H'->∃ m',m'<m/\W (i+1) m' σ' H')/\∀ x H',J.yld i H x H'->g x σ H' λσ2 H2=>tb { D with nx:=N,ct:=N,bk:=D.nx } σ2 H2)
def aep(fp:List Addr)(h:Heap):List (Addr × Obj):=fp.filterMap λb=>(h.get? b).map λo=>(b,o)
theorem ab9{fp:List Addr}{h:Heap}{b:Addr}{o:Obj}(hb:b∈fp)(e:h.get? b=some o):(b,o)∈aep fp h:=List.mem_filterMap.mpr ⟨b,hb,by rw[e];rfl⟩
theorem ar9{fp:List Addr}{h:Heap}{p:Addr × Obj}(a:p∈aep fp h):p.1∈fp/\h.get? p.1=some p.2:=by
 obtain⟨b,hb,e⟩:=List.mem_filterMap.mp a
 cases q:h.get? b with
 |none=>rw[q] at e;cases e
 | some o =>
  rw[q] at e
  have c:(b,o)=p:=aC6 e
  subst c
  exact⟨hb,q⟩
theorem Inv.pinned{pins:List (Addr × Obj)}{σ:St}{H:Hp}{s:Shared}{fp:List Addr}(I:Inv X pins σ H s)(hf:∀ b∈fp,FpOk X pins H b)(f:∀ b∈fp,∃ o,s.heap.get? b=some o/\∀ v,o.data ≠ .cell v):Inv X (pins++aep fp s.heap) σ H s :=
 I.pins_of λp c=>(aA7.mp c).elim (λz=>I.pin p (aB3 _ z)) λz=>by
  obtain⟨hb,e⟩:=ar9 z
  obtain⟨g,f1,h,_⟩:=hf p.1 hb
  obtain⟨o,a,d⟩:=f p.1 hb
  rw[e] at a;cases a
  exact⟨e,g,f1,h,d⟩
theorem Inv.unpinned{pins pl:List (Addr × Obj)}{σ:St}{H:Hp}{s:Shared}(I:Inv X (pins++pl) σ H s):Inv X pins σ H s:=I.pins_of λp a=>I.pin p (aB3 _ (aC7 _ a))
theorem abd{iter:Expr}{body:List Stmt}{wi:TI}{g:TG}{S:TS}{pos:Pos}(C:PassesOwn (model X.prog X.w) X.A X.env X.xe)(Z:X.calm=true)(hi:PI X tg iter wi)(hg:PG X tg g)(hb:PSs X body S)
  (hs:∀ x,foldedSetIterable iter X.env x=pure x:=by intro _;rfl):PS X (.For tg iter body [] pos) (tFor wi g S):=by
 intro pins s σ H D I h
 refine wpAny_For (thn (hi pins s σ H _ I h) λv s1 h1=>thn h1 λa0 s2 h2=>?_) hs
 obtain⟨it,fp,tn,J,H2,e,I2,T,L,Y,W,⟨m0,w0⟩,E⟩:=h2
 subst e
 -- what stays true of the iterator's objects through the loop
 have y:∀{H':Hp},(∀ b∈fp,H' b=none)->∀ b∈fp,FpOk X pins H' b:=λhn b hb=>⟨hn b hb,(Y b hb).2⟩
 refine codeAny_forLoop_any (λn s'=>∃ i j H',Inv X pins j H' s'/\tn i s'.heap/\(∀ b∈fp,H' b=none)/\W i n j H') ?_ m0 ⟨0,σ,H2,I2,L,λb hb=>(Y b hb).1,w0⟩
 rintro n s3 ⟨i,l,H3,I3,F,G,w3⟩
 rcases E i n l H3 w3 with ⟨stop,qn⟩|⟨go,N,hN,step⟩
 ·refine wpAny_passesOwn C (thn (T.done X rfl rfl rfl Z i pins s3 l H3 X.xe I3 (y G) F stop) λr s4 ⟨P,I4⟩=>?_)
  subst P
  exact wpAny_execs_nil ⟨l,H3,I4,qn⟩
 ·refine wpAny_passesOwn C (thn (T.item X rfl rfl rfl Z i pins s3 l H3 X.xe I3 (y G) F go) λr s4 ⟨u,P,h4⟩=>?_)
  subst P
  refine wpAny_passesOwn C (thn h4 λ_ U ⟨x,H5,I5,r5,y5,B,R⟩=>?_)
  have M:=I5.pinned (y R) (T.obj _ _ B)
  refine wpAny_passesOwn C (thn (hg _ U l H5 x u _ M r5 (step x H5 y5)) λ_ s6 ⟨Q,H6,I6,q6⟩=>?_)
  refine wpAny_passesOwn C (thn (hb _ s6 Q H6 _ I6 q6) λf O z=>?_)
  have c:∀{a:St}{q:Hp},Inv X (pins++aep fp U.heap) a q O->N a q->∃ m,m<n/\∃ i j H',Inv X pins j H' O/\tn i O.heap/\(∀ b∈fp,H' b=none)/\W i m j H':=λ{a q} p K=>by
   obtain⟨m',hm,w7⟩:=hN a q K
   refine⟨m',hm,i+1,a,q,p.unpinned,T.keep _ _ _ B λb hb o e=>(p.pin (b,o) (aB3 _ (aB3 _ (ab9 hb e)))).1,λb hb=>?_,w7⟩
   obtain⟨o,e,d⟩:=T.obj _ _ B b hb
   exact(p.pin (b,o) (aB3 _ (aB3 _ (ab9 hb e)))).2.1
  cases f with
  |next=>obtain⟨a,q,p,K⟩:=z;exact c p K
  |cont=>obtain⟨a,q,p,K⟩:=z;exact c p K
  |brk=>obtain⟨a,q,p,z⟩:=z;exact⟨a,q,p.unpinned,z⟩
  |ret v=>obtain⟨x7,a,q,p,r7,z⟩:=z;exact⟨x7,a,q,p.unpinned,r7,z⟩
end
theorem asa{lo:Int}{n:Nat}{g:TG}{d:TS}{D:Ends}{σ:St}{H:Hp}(a:Nat->St->Hp->Prop)(j:a 0 σ H)
  (hs:∀ i σ H,i<n->a i σ H->g (.int (lo+i)) σ H λb H2=>d { D with nx:=a (i+1),ct:=a (i+1),bk:=D.nx } b H2) (hd:∀ σ H,a n σ H->D.nx σ H) :
  ∃ W:Nat->Nat->St->Hp->Prop,(∃ m,W 0 m σ H)/\∀ i m σ H,W i m σ H ->
   ((Itr lo n).stop i H/\D.nx σ H)\/((Itr lo n).go i H/\∃ N:St->Hp->Prop,(∀ c H',N c H'->∃ f,f<m/\W (i+1) f c H')/\∀ x H',(Itr lo n).yld i H x H'->g x σ H' λb H2=>d { D with nx:=N,ct:=N,bk:=D.nx } b H2):=by
 refine⟨λi m σ H=>m=n-i/\i<=n/\a i σ H,⟨n,by simp,aG0 _,j⟩,?_⟩
 rintro i m σ H ⟨rfl,hi,p⟩
 by_cases hlt:i<n
 ·refine .inr ⟨hlt,a (i+1),λc H' h=>⟨n-(i+1),by lia,rfl,hlt,h⟩,λx H' y=>?_⟩
  obtain⟨e,y⟩:=y
  subst e y
  exact hs i σ _ hlt p
 ·have e:i=n:=by lia
  subst e
  exact .inl ⟨aA6 _,hd σ H p⟩
abbrev R2:=V->V->Hp->VK->Prop
def OpR(X:Cx)(f:Value->Value->Sem Value)(r:R2):Prop :=
 ∀(pins:List (Addr × Obj))(s:Shared)(σ:St)(H:Hp)(x y:V)(v u:Value)(Q:VK),Inv X pins σ H s->RelV x v->RelV y u->r x y H Q ->
  wpAny (model X.prog X.w) X.A (f v u) (EP X pins σ Q) X.xe s
def UnR(X:Cx)(f:Value->Sem Value)(r:V->Hp->VK->Prop):Prop :=
 ∀(pins:List (Addr × Obj))(s:Shared)(σ:St)(H:Hp)(x:V)(v:Value)(Q:VK),Inv X pins σ H s->RelV x v->r x H Q ->
  wpAny (model X.prog X.w) X.A (f v) (EP X pins σ Q) X.xe s
def aa2(X:Cx)(f:Value)(r:List V->Hp->VK->Prop):Prop :=
 ∀(pins:List (Addr × Obj))(s:Shared)(σ:St)(H:Hp)(xs:List V)(us:List Value)(Q:VK),Inv X pins σ H s->Vals xs us->r xs H Q ->
  wpAny (model X.prog X.w) X.A (call f us) (EP X pins σ Q) X.xe s
def TruR(X:Cx)(r:V->Hp->(Bool->Hp->Prop)->Prop):Prop :=
 ∀(pins:List (Addr × Obj))(s:Shared)(σ:St)(H:Hp)(x:V)(v:Value)(Q:Bool->Hp->Prop),Inv X pins σ H s->RelV x v->r x H Q ->
  wpAny (model X.prog X.w) X.A (truthy v) (TP X pins σ Q) X.xe s
def tOp(r:R2)(ta tb:TE):TE:=λσ H Q=>ta σ H λx H1=>tb σ H1 λy H2=>r x y H2 Q
def tUn(r:V->Hp->VK->Prop)(ta:TE):TE:=λσ H Q=>ta σ H λx H1=>r x H1 Q
def rI(C:Int->Int->Prop)(g:Int->Int->V):R2:=λx y H Q=>∃ i j,x=.int i/\y=.int j/\C i j/\Q (g i j) H
def rI0(g:Int->Int->V):R2:=λx y H Q=>∃ i j,x=.int i/\y=.int j/\Q (g i j) H
def rU(g:Int->V):V->Hp->VK->Prop:=λx H Q=>∃ i,x=.int i/\Q (g i) H
section
variable{X:Cx}{a b c:Expr}{ta tb tc:TE}{pos:Pos}
theorem binT(ha:PE X a ta)(hb:PE X b tb){pins:List (Addr × Obj)}{s:Shared}{σ:St}{H:Hp}{R:V->V->Hp->Prop}(I:Inv X pins σ H s)
  (h:ta σ H λx g=>tb σ g λy H2=>R x y H2) {Q:Value->Shared->Prop} {f:Value->Value->Sem Value}
  (hf:∀ v u s2 x y H2,Inv X pins σ H2 s2->RelV x v->RelV y u->R x y H2->wpAny (model X.prog X.w) X.A (f v u) Q X.xe s2) :
  wpAny (model X.prog X.w) X.A (eval a X.env) (λv c=>wpAny (model X.prog X.w) X.A (eval b X.env) (λu d=>wpAny (model X.prog X.w) X.A (f v u) Q X.xe d) X.xe c) X.xe s:=by
 refine thn (ha pins s σ H _ I h) λv s1 ⟨x,g,o,l,i⟩=>?_
 refine thn (hb pins s1 σ g _ o i) λu s2 ⟨y,H2,j,m,n⟩=>?_
 exact hf v u s2 x y H2 j l m n
theorem aar{op:Operator}{r:R2}(f:OpR X (binaryOp op) r)(ha:PE X a ta)(hb:PE X b tb):PE X (.BinOp a op b pos) (tOp r ta tb):=by
 intro pins s σ H Q I h
 exact wpAny_BinOp (binT ha hb I h λv u s2 x y H2 c g d q=>f pins s2 σ H2 x y v u Q c g d q)
theorem aww{op:UnaryOp}{r:V->Hp->VK->Prop}(d:UnR X (unaryOp op) r)(ha:PE X a ta):PE X (.UnaryOp op a pos) (tUn r ta):=by
 intro pins s σ H Q I h
 exact UnaryOp_ (thn (ha pins s σ H _ I h) λv s1 ⟨x,b,f,g,c⟩=>d pins s1 σ b x v Q f g c)
theorem opI{f:Value->Value->Sem Value}{C:Int->Int->Prop}{g:Int->Int->Int}
  (a:∀(i j:Int)(t u:Tok)(s:Shared)(Q:Value->Shared->Prop)(E:Value->Shared->Prop),C i j->Q (.int (g i j) s.toks) { s with toks:=s.toks+1 }->wpAny (model X.prog X.w) X.A (f (.int i t) (.int j u)) Q E s) :
  OpR X f (rI C λi j=>.int (g i j)):=by
 intro pins s σ H x y v u Q I c b h
 obtain⟨i,j,rfl,rfl,d,q⟩:=h
 obtain⟨t,rfl⟩:=c
 obtain⟨t',rfl⟩:=b
 exact a i j t t' s _ _ d ⟨.int (g i j),H,I.tok _,⟨_,rfl⟩,q⟩
theorem opI0{f:Value->Value->Sem Value}{g:Int->Int->Int}
  (a:∀(i j:Int)(t u:Tok)(s:Shared)(Q:Value->Shared->Prop)(E:Value->Shared->Prop),Q (.int (g i j) s.toks) { s with toks:=s.toks+1 }->wpAny (model X.prog X.w) X.A (f (.int i t) (.int j u)) Q E s) :
  OpR X f (rI0 λi j=>.int (g i j)):=by
 intro pins s σ H x y v u Q I c b h
 obtain⟨i,j,rfl,rfl,q⟩:=h
 obtain⟨t,rfl⟩:=c
 obtain⟨t',rfl⟩:=b
 exact a i j t t' s _ _ ⟨.int (g i j),H,I.tok _,⟨_,rfl⟩,q⟩
theorem opB0{f:Value->Value->Sem Value}{g:Int->Int->Bool}
  (a:∀(i j:Int)(t u:Tok)(s:Shared)(Q:Value->Shared->Prop)(E:Value->Shared->Prop),Q (.bool (g i j)) s->wpAny (model X.prog X.w) X.A (f (.int i t) (.int j u)) Q E s) :
  OpR X f (rI0 λi j=>.bl (g i j)):=by
 intro pins s σ H x y v u Q I c b h
 obtain⟨i,j,rfl,rfl,q⟩:=h
 obtain⟨t,rfl⟩:=c
 obtain⟨t',rfl⟩:=b
 exact a i j t t' s _ _ ⟨.bl (g i j),H,I,rfl,q⟩
def CDiv(i j:Int):Prop:=0<j/\j<1073741824
def CPow(i j:Int):Prop:=0<=j/\j<=1000000/\i.natAbs<2 ^ 64
def CMul(i j:Int):Prop:=(-(2 ^ 64)<i/\i<2 ^ 64)\/(-(2 ^ 64)<j/\j<2 ^ 64)
theorem CMul.ok{i j:Int}(h:CMul i j):IntMulOk i j:=by
 rcases h with ⟨b,a⟩|⟨b,a⟩
 ·exact .of_left (intBits_le_64 b a)
 ·exact .of_right (intBits_le_64 b a)
theorem aa7:OpR X (binaryOp .Add) (rI0 λi j=>.int (i+j)):=opI0 λ_ _ _ _ _ _ _ q=>add_int q
theorem ac9:OpR X (binaryOp .Sub) (rI0 λi j=>.int (i-j)):=opI0 λ_ _ _ _ _ _ _ q=>sub_int q
theorem afk:OpR X (binaryOp .Mult) (rI CMul λi j=>.int (i * j)):=opI λ_ _ _ _ _ _ _ a q=>mul_int q a.ok
theorem ai8:OpR X (binaryOp .FloorDiv) (rI CDiv λi j=>.int (i / j)):=opI λi j _ _ _ _ _ a q=>by
 have c:(0:Int)<j:=a.1
 have b:j<1073741824:=a.2
 exact floordiv_int (by lia) (by rw[Int.fdiv_eq_ediv_of_nonneg i (by lia)];exact q) (.inl (PyProof.noPylong_small (by lia)))
theorem aeq:OpR X (binaryOp .Mod) (rI (λ_ j=>0<j) λi j=>.int (i % j)):=opI λi j _ _ _ _ _ a q=>by
 have b:(0:Int)<j:=a
 exact mod_int' (by lia) (by rw[Int.fmod_eq_emod_of_nonneg i (by lia)];exact q)
theorem az2:OpR X (binaryOp .Pow) (rI CPow λi j=>.int (i ^ j.toNat)):=opI λ_ _ _ _ _ _ _ a q=>pow_int_small a.1 a.2.1 a.2.2 q
theorem unI{f:Value->Sem Value}{g:Int->Int}
  (a:∀(i:Int)(t:Tok)(s:Shared)(Q:Value->Shared->Prop)(E:Value->Shared->Prop),Q (.int (g i) s.toks) { s with toks:=s.toks+1 }->wpAny (model X.prog X.w) X.A (f (.int i t)) Q E s) :
  UnR X f (rU λi=>.int (g i)):=by
 intro pins s σ H x v Q I b h
 obtain⟨i,rfl,q⟩:=h
 obtain⟨t,rfl⟩:=b
 exact a i t s _ _ ⟨.int (g i),H,I.tok _,⟨_,rfl⟩,q⟩
theorem asb:UnR X (unaryOp .USub) (rU λi=>.int (-i)):=unI λ_ _ _ _ _ q=>neg_int q
end
def scal:V->V->Bool
 | .non,.non=>true | .non,.int _=>true | .int _,.non=>true | .non,.bl _=>true | .bl _,.non=>true | .non,.str _=>true | .str _,.non=>true
 | .int _,.int _=>true | .bl _,.bl _=>true | .str _,.str _=>true | .byt _,.byt _=>true
 | .int _,.str _=>true | .str _,.int _=>true | .bl _,.str _=>true | .str _,.bl _=>true
 |_,_=>false
def rEq:R2:=λx y H Q=>scal x y=true/\Q (.bl (decide (x=y))) H
def rNe:R2:=λx y H Q=>scal x y=true/\Q (.bl (!decide (x=y))) H
theorem ag8{i j:Int}:decide (V.int i=V.int j)=(i == j):=by
 rw[aH8]
 simp
theorem al5{i j:Bool}:decide (V.bl i=V.bl j)=(i == j):=by
 rw[aH8]
 simp
theorem aow{i j:Str}:decide (V.str i=V.str j)=(i == j):=by
 rw[aH8]
 simp
theorem aox{i j:Array UInt8}:decide (V.byt i=V.byt j)=(i.toList == j.toList):=by
 rw[aH8]
 cases i
 cases j
 simp
section
variable{X:Cx}{a b c:Expr}{ta tb tc:TE}{pos:Pos}
theorem aa1{pins:List (Addr × Obj)}{σ:St}{H:Hp}{s:Shared}{Q:VK}{k a:Bool}(I:Inv X pins σ H s)(q:Q (.bl k) H)(e:k=a):EP X pins σ Q (.bool a) s:=by
 subst e
 exact⟨.bl k,H,I,rfl,q⟩
theorem ab2:OpR X (compareOp .Eq) rEq:=by
 intro pins s σ H x y v u Q I b a h
 obtain⟨hs,q⟩:=h
 cases x with
 | non =>
  cases b
  cases y with
  |non=>cases a;exact PySem.EqNone.eq_none_none (aa1 I q (by simp))
  |bl j=>cases a;exact PySem.EqNone.eq_none_bool (aa1 I q (by simp))
  |int j=>obtain⟨t',rfl⟩:=a;exact PySem.EqNone.eq_none_int (aa1 I q (by simp))
  |str j=>obtain⟨t',rfl⟩:=a;exact PySem.EqNone.eq_none_str (aa1 I q (by simp))
  |_=>exact absurd (show false=true from hs) aB0
 | bl i =>
  cases b
  cases y with
  |non=>cases a;exact PySem.EqNone.eq_bool_none (aa1 I q (by simp))
  |bl j=>cases a;exact eq_bool (aa1 I q al5)
  |str j=>obtain⟨t',rfl⟩:=a;exact PySem.EqMixed.eq_bool_str (aa1 I q (by simp))
  |_=>exact absurd (show false=true from hs) aB0
 | int i =>
  obtain⟨t,rfl⟩:=b
  cases y with
  |non=>cases a;exact PySem.EqNone.eq_int_none (aa1 I q (by simp))
  |int j=>obtain⟨t',rfl⟩:=a;exact eq_int (aa1 I q ag8)
  |str j=>obtain⟨t',rfl⟩:=a;exact PySem.EqMixed.eq_int_str (aa1 I q (by simp))
  |_=>exact absurd (show false=true from hs) aB0
 | str i =>
  obtain⟨t,rfl⟩:=b
  cases y with
  |non=>cases a;exact PySem.EqNone.eq_str_none (aa1 I q (by simp))
  |bl j=>cases a;exact PySem.EqMixed.eq_str_bool (aa1 I q (by simp))
  |int j=>obtain⟨t',rfl⟩:=a;exact PySem.EqMixed.eq_str_int (aa1 I q (by simp))
  |str j=>obtain⟨t',rfl⟩:=a;exact eq_str (aa1 I q aow)
  |_=>exact absurd (show false=true from hs) aB0
 | byt i =>
  obtain⟨t,rfl⟩:=b
  cases y with
  |byt j=>obtain⟨t',rfl⟩:=a;exact PySem.W.eq_bytes (aa1 I q aox)
  |_=>exact absurd (show false=true from hs) aB0
 |_=>cases y <;> exact absurd (show false=true from hs) aB0
theorem afy:OpR X (compareOp .NotEq) rNe:=by
 intro pins s σ H x y v u Q I b a h
 obtain⟨hs,q⟩:=h
 cases x with
 | non =>
  cases b
  cases y with
  |non=>cases a;exact PySem.EqNone.ne_none_none (aa1 I q (by simp))
  |bl j=>cases a;exact PySem.EqNone.ne_none_bool (aa1 I q (by simp))
  |int j=>obtain⟨t',rfl⟩:=a;exact PySem.EqNone.ne_none_int (aa1 I q (by simp))
  |str j=>obtain⟨t',rfl⟩:=a;exact PySem.EqNone.ne_none_str (aa1 I q (by simp))
  |_=>exact absurd (show false=true from hs) aB0
 | bl i =>
  cases b
  cases y with
  |non=>cases a;exact PySem.EqNone.ne_bool_none (aa1 I q (by simp))
  |bl j=>cases a;exact ne_bool (aa1 I q (congrArg not al5))
  |str j=>obtain⟨t',rfl⟩:=a;exact PySem.EqMixed.ne_bool_str (aa1 I q (by simp))
  |_=>exact absurd (show false=true from hs) aB0
 | int i =>
  obtain⟨t,rfl⟩:=b
  cases y with
  |non=>cases a;exact PySem.EqNone.ne_int_none (aa1 I q (by simp))
  |int j=>obtain⟨t',rfl⟩:=a;exact ne_int (aa1 I q (congrArg not ag8))
  |str j=>obtain⟨t',rfl⟩:=a;exact PySem.EqMixed.ne_int_str (aa1 I q (by simp))
  |_=>exact absurd (show false=true from hs) aB0
 | str i =>
  obtain⟨t,rfl⟩:=b
  cases y with
  |non=>cases a;exact PySem.EqNone.ne_str_none (aa1 I q (by simp))
  |bl j=>cases a;exact PySem.EqMixed.ne_str_bool (aa1 I q (by simp))
  |int j=>obtain⟨t',rfl⟩:=a;exact PySem.EqMixed.ne_str_int (aa1 I q (by simp))
  |str j=>obtain⟨t',rfl⟩:=a;exact ne_str (aa1 I q (congrArg not aow))
  |_=>exact absurd (show false=true from hs) aB0
 | byt i =>
  obtain⟨t,rfl⟩:=b
  cases y with
  |byt j=>obtain⟨t',rfl⟩:=a;exact PySem.W.ne_bytes (aa1 I q (congrArg not aox))
  |_=>exact absurd (show false=true from hs) aB0
 |_=>cases y <;> exact absurd (show false=true from hs) aB0
theorem aqq:OpR X (compareOp .Lt) (rI0 λi j=>.bl (decide (i<j))):=opB0 λ_ _ _ _ _ _ _ q=>lt_int q
theorem ag9:OpR X (compareOp .LtE) (rI0 λi j=>.bl (decide (i<=j))):=opB0 λ_ _ _ _ _ _ _ q=>le_int q
theorem alk:OpR X (compareOp .Gt) (rI0 λi j=>.bl (decide (j<i))):=opB0 λ_ _ _ _ _ _ _ q=>gt_int q
theorem a2j:OpR X (compareOp .GtE) (rI0 λi j=>.bl (decide (j<=i))):=opB0 λ_ _ _ _ _ _ _ q=>ge_int q
theorem az3:OpR X (compareOp .Is) (λx y H Q=>y=.non/\Q (.bl (decide (x=.non))) H):=by
 intro pins s σ H x y v u Q I a b h
 obtain⟨rfl,q⟩:=h
 cases b
 refine is_none_gen (aa1 I q ?_)
 cases x <;> first
  |(cases a;rfl)
  |(obtain⟨t,rfl⟩:=a;rfl)
theorem aav(b:Expr){op:CmpOp}(h:op ≠ .In:=by decide)(d:op ≠ .NotIn:=by decide):behindInMarks op b=false:=by
 have a:(op == CmpOp.In)=false:=by cases op <;> first|rfl|exact absurd rfl h
 have c:(op == CmpOp.NotIn)=false:=by cases op <;> first|rfl|exact absurd rfl d
 cases b <;> simp[behindInMarks,a,c]
theorem aci{op:CmpOp}{r:R2}(f:OpR X (compareOp op) r)(ha:PE X a ta)(hb:PE X b tb)(hm:behindInMarks op b=false):PE X (.Compare a [op] [b] pos) (tOp r ta tb):=by
 intro pins s σ H Q I h
 exact wpAny_Compare1 (binT ha hb I h λv u s2 x y H2 c g d q=>f pins s2 σ H2 x y v u Q c g d q) hm
def alm(t:TE):TT:=λσ H Q=>t σ H λx H'=>∃ k,x=.bl k/\Q k H'
theorem aay{op:CmpOp}{r:R2}(i:OpR X (compareOp op) r)(ha:PE X a ta)(hb:PE X b tb)(hm:behindInMarks op b=false):PT X (.Compare a [op] [b] pos) (alm (tOp r ta tb)):=by
 intro pins s σ H Q I h
 refine wpAny_isTrue_Compare1 (thn (ha pins s σ H _ I h) λv s1 ⟨x,l,q,j,d⟩=>thn (hb pins s1 σ l _ q d) λu s2 ⟨y,H2,f,n,o⟩ =>
  thn (i pins s2 σ H2 x y v u _ f j n o) λc w ⟨z,H3,m,g,k,e,p⟩=>?_) hm
 subst e
 cases g
 exact aK5 ⟨H3,m,p⟩
def aie(r r':R2)(ta tb tc:TE):TE:=λσ H Q=>ta σ H λx H1=>tb σ H1 λy H2=>r x y H2 λz H3=>∃ k,z=.bl k /\
 (if k=true then tc σ H3 λw' H4=>r' y w' H4 Q else Q (.bl false) H3)
theorem aut{op f:CmpOp}{r i:R2}(C:OpR X (compareOp op) r)(g:OpR X (compareOp f) i)(ha:PE X a ta)(hb:PE X b tb)(M:PE X c tc)
  (hm:lastMarks [op,f] [b,c]=false:=by with_unfolding_all rfl):PE X (.Compare a [op,f] [b,c] pos) (aie r i ta tb tc):=by
 intro pins s σ H Q I h
 refine Compare_chain (thn (ha pins s σ H _ I h) λv s1 ⟨x,E,K,D,n⟩=>chain_link (thn (hb pins s1 σ E _ K n) λu s2 ⟨y,H2,p,l,L⟩ =>
  thn (C pins s2 σ H2 x y v u _ p D l L) λd G ⟨z,H3,j,w,k,e,m⟩=>?_)) hm
 subst e
 cases w
 refine aK5 ?_
 cases k with
 |false=>exact ite_ff ⟨.bl false,H3,j,rfl,m⟩
 |true=>exact ite_tt (chain_last (thn (M pins G σ H3 _ j m) λq J ⟨F,B,o,A,N⟩=>g pins J σ B y F u q Q o l A N))
theorem al6{op f:CmpOp}{r i:R2}(D:OpR X (compareOp op) r)(g:OpR X (compareOp f) i)(ha:PE X a ta)(hb:PE X b tb)(U:PE X c tc)
  (hm:lastMarks [op,f] [b,c]=false:=by with_unfolding_all rfl):PT X (.Compare a [op,f] [b,c] pos) (alm (aie r i ta tb tc)):=by
 intro pins s σ H Q I h
 refine isTrue_chain (thn (ha pins s σ H _ I h) λv s1 ⟨x,G,P,E,n⟩=>test_link (thn (hb pins s1 σ G _ P n) λu s2 ⟨y,H2,p,l,T⟩ =>
  thn (D pins s2 σ H2 x y v u _ p E l T) λd M ⟨z,H3,j,w,k,e,m⟩=>?_)) hm
 subst e
 cases w
 refine aK5 ?_
 cases k with
 | false =>
  obtain⟨k',R,F⟩:=m
  cases R
  exact ite_ff ⟨H3,j,F⟩
 | true =>
  refine ite_tt (test_last (thn (U pins M σ H3 _ j m) λq O ⟨K,C,o,B,W⟩=>thn (g pins O σ C y K u q _ o l B W) λd' Y ⟨Z,J,A,N,k2,L,S⟩=>?_))
  subst L
  cases N
  exact aK5 ⟨J,A,S⟩
def TruV(K:Frag)(x:V)(H:Hp)(k:Bool):Prop :=
 match x with
 | .non=>k=false
 | .bl b=>k=b
 | .int i=>k=(i != 0)
 | .str y=>y.length<=sizeLine/\k=((y.length:Int) != 0)
 | .byt y=>y.size<=sizeLine/\k=((y.size:Int) != 0)
 | .ref p=>(∃ xs,SqL K H p xs/\k = !xs.isEmpty)\/(∃ xs,SqT K H p xs/\k = !xs.isEmpty)\/∃ kvs,H p=some (.dK kvs)/\k = !kvs.isEmpty
 |_=>False
theorem aqr{κ:Type}{kvs:List (κ × V)}{vs:List (κ × Value)}(r:KV kvs vs):(!vs.isEmpty) = !kvs.isEmpty:=by
 cases r <;> rfl
theorem aif{xs:List V}{its:List Value}(r:Vals xs its):(!its.toArray.isEmpty) = !xs.isEmpty:=by
 cases r <;> simp
theorem agl:(sizeLine:Nat)<2 ^ 63:=by rw[sizeLine_eq];decide
theorem az4:TruR X (λx H Q=>∃ k,TruV X.K x H k/\Q k H):=by
 intro pins s σ H x v Q I d h
 obtain⟨k,e,q⟩:=h
 have l:=agl
 have hs:sizeLine=16777216:=sizeLine_eq
 cases x with
 | non =>
  cases d
  have a:k=false:=e
  subst a
  exact truthy_none ⟨H,I,q⟩
 | bl b =>
  cases d
  have a:k=b:=e
  subst a
  exact aK5 ⟨H,I,q⟩
 | int i =>
  obtain⟨t,rfl⟩:=d
  have a:k=(i != 0):=e
  subst a
  exact PySem.P.truthy_int ⟨H,I,q⟩
 | str y =>
  obtain⟨t,rfl⟩:=d
  obtain⟨g,a⟩:y.length<=sizeLine/\k=((y.length:Int) != 0):=e
  subst a
  exact PySem.P.truthy_str (by lia) ⟨H,I.tok _,q⟩
 | byt y =>
  obtain⟨t,rfl⟩:=d
  obtain⟨g,a⟩:y.size<=sizeLine/\k=((y.size:Int) != 0):=e
  subst a
  exact PySem.W.truthy_bytes (by lia) ⟨H,I.tok _,q⟩
 | ref p =>
  cases d
  have a:(∃ xs,SqL X.K H p xs/\k = !xs.isEmpty)\/(∃ xs,SqT X.K H p xs/\k = !xs.isEmpty)\/∃ kvs,H p=some (.dK kvs)/\k = !kvs.isEmpty:=e
  rcases a with ⟨xs,f,a⟩|⟨xs,f,a⟩|⟨kvs,f,a⟩
  ·subst a
   obtain⟨its,r,pl,hz⟩:=I.list f
   have c:=r.length
   exact wpAny_truthy_list pl.isList (by simp only[aB2];lia) ⟨H,I.tok _,by rw[aif r];exact q⟩
  ·subst a
   obtain⟨its,r,pl,hz⟩:=I.tuple f
   have c:=r.length
   exact truthy_tuple pl (by simp only[aB2];lia) ⟨H,I.tok _,by rw[aif r];exact q⟩
  ·subst a
   obtain⟨hz,j,vs,r,m⟩:kvs.length<=sizeLine/\(p == sysModules)=false/\∃ vs,KV kvs vs/\s.heap.DictOf (aa4 X.prog X.w) p vs:=I.hok p _ f
   have c:kvs.length=vs.length:=Paired.length r
   exact wpAny_truthy_dict j m (by lia) ⟨H,I.tok _,by rw[aqr r];exact q⟩
 |_=>exact(show False from e).elim
theorem auu(ha:PE X a ta)(c:∀ whole,isTrue a X.env whole=(do let v ← whole;standAt a.pos;holding [v] (truthy v))) :
  PT X a (λσ H Q=>ta σ H λx H'=>∃ k,TruV X.K x H' k/\Q k H'):=by
 intro pins s σ H Q I h
 exact isTrue_plain (thn (ha pins s σ H _ I h) λv s1 ⟨x,f,g,d,b⟩=>az4 pins s1 σ f x v Q g d b) (c _)
theorem ab3{x:V}{us:List Value}(r:Vals [x] us):∃ u,us=[u]/\RelV x u:=by
 cases r with
 |cons r1 r2=>cases r2;exact⟨_,rfl,r1⟩
theorem aqs{x y:V}{us:List Value}(r:Vals [x,y] us):∃ u a,us=[u,a]/\RelV x u/\RelV y a:=by
 cases r with
 | cons r1 r2 =>
  cases r2 with
  |cons r3 r4=>cases r4;exact⟨_,_,rfl,r1,r3⟩
theorem asc(a:X.calm=true):aa2 X (.builtin "max") (λxs H Q=>∃ i j,xs=[.int i,.int j]/\Q (.int (if j > i then j else i)) H):=by
 intro pins s σ H xs us Q I r h
 obtain⟨i,j,rfl,q⟩:=h
 obtain⟨u,c,rfl,⟨t,rfl⟩,⟨t',rfl⟩⟩:=aqs r
 refine max_two_ints (I.ok.hd a) λh' b k=>⟨_,H,I.kept k,?_,q⟩
 by_cases hj:j > i
 ·rw[aF5 hj,aF5 hj];exact⟨_,rfl⟩
 ·rw[aF6 hj,aF6 hj];exact⟨_,rfl⟩
theorem asd(a:X.calm=true):aa2 X (.builtin "min") (λxs H Q=>∃ i j,xs=[.int i,.int j]/\Q (.int (if j<i then j else i)) H):=by
 intro pins s σ H xs us Q I r h
 obtain⟨i,j,rfl,q⟩:=h
 obtain⟨u,c,rfl,⟨t,rfl⟩,⟨t',rfl⟩⟩:=aqs r
 refine min_two_ints (I.ok.hd a) λh' b k=>⟨_,H,I.kept k,?_,q⟩
 by_cases hj:j<i
 ·rw[aF5 hj,aF5 hj];exact⟨_,rfl⟩
 ·rw[aF6 hj,aF6 hj];exact⟨_,rfl⟩
theorem ase:aa2 X (.type "int") (λxs H Q=>(∃ i,xs=[.int i]/\Q (.int i) H)\/∃ k,xs=[.bl k]/\Q (.int (if k then 1 else 0)) H):=by
 intro pins s σ H xs us Q I r h
 rcases h with ⟨i,rfl,q⟩|⟨k,rfl,q⟩
 ·obtain⟨u,rfl,t,rfl⟩:=ab3 r
  exact call_int_int ⟨.int i,H,I,⟨_,rfl⟩,q⟩
 ·obtain⟨u,rfl,a⟩:=ab3 r
  cases a
  exact call_int_bool ⟨.int (if k then 1 else 0),H,I.tok _,⟨_,rfl⟩,q⟩
end
structure ObjM(h:Heap)(x dx C:Addr)(mA:Str->Option Value):Prop where
 obj:h.get? x=some (PySem.W.instObj C dx)
 ns:h.Ns1 dx mA
 ne:dx ≠ x
theorem asf{h:Heap}{dx:Addr}{mA:Str->Option Value}(n:h.Ns1 dx mA):∃ od,h.get? dx=some od/\∀ name,PySem.W.lookIn name od=some (mA name):=by
 obtain⟨o,es,ep,f,hd,d,_,hm⟩:=n
 refine⟨o,f,λname=>?_⟩
 have e:=hm name
 unfold nsFind findBy at e
 rw[← Array.find?_toList] at e
 unfold PySem.W.lookIn
 rw[hd]
 dsimp only
 split
 ·rename_i y q
  rw[q] at e
  exact congrArg some e
 ·rename_i q
  rw[q] at e
  have a:es.toList.any (·.refKey)=false:=by
   rw[List.any_eq_false]
   intro y g
   obtain⟨z,t,b⟩:=d y (Array.mem_toList_iff.mp g)
   simp[DictEntry.refKey,b]
  have c:¬ es.toList.any (·.refKey)=true:=by rw[a];exact aB0
  rw[aF6 c]
  exact congrArg some e
theorem ObjM.look{h:Heap}{x dx C:Addr}{mA:Str->Option Value}(I:ObjM h x dx C mA):∃ od,PySem.W.InstAt h x (PySem.W.instObj C dx) C (some od)/\∀ name,PySem.W.lookIn name od=some (mA name) :=
 let ⟨od,b,a⟩:=asf I.ns
 ⟨od,⟨I.obj,rfl,rfl,b⟩,a⟩
section
variable{prog:Program}{w:World}{A:Around}{E:Value->Shared->Prop}{s:Shared}{K:Frag}{x dx C f:Addr}{mA:Str->Option Value}{name:Str}{v:Value}
end
def putF(f:Str)(v:V):List (Str × V)->List (Str × V)
 |[]=>[(f,v)]
 |(g,x)::r=>if g=f then (g,v)::r else (g,x)::putF f v r
theorem RelO.some_of{v:V}{o:Option Value}(r:RelO (some v) o):∃ u,o=some u/\RelV v u:=by
 cases o with
 |none=>exact(show False from r).elim
 |some u=>exact⟨u,rfl,r⟩
section
variable{P:Program}{w:World}{H H':Hp}{h h':Heap}{a C dx:Addr}{fs fs':List (Str × V)}
theorem ins_get(hok:HOk P w H h)(e:H a=some (.ins C dx fs)):∃ mA,ObjM h a dx C mA/\(∀ f,RelO (fs.lookup f) (mA f))/\PySem.Within mA (fs.map (·.1))/\fs.length<=1000/\H dx=some (.own a):=by
 obtain⟨d,z,ne,b,mA,n,r,q⟩:=(show ObjOk P w H h a (.ins C dx fs) from hok a _ e)
 exact⟨mA,⟨b,n,ne⟩,r,q,z,d⟩
end
structure Cls(K:Frag)(C:Addr):Prop where
 pg:PySem.W.plainGet K C Str.empty=true
 hd:PySem.W.hasDictIn K C=true
 po:PySem.W.plainOver K C=true
 sa:PySem.W.findIn K (.ref C) "__setattr__" = some (some (.builtin "object.__setattr__"))
theorem Cls.get{K:Frag}{C:Addr}(c:Cls K C)(f:Str):PySem.W.plainGet K C f=true:=c.pg
section
variable{X:Cx}{pins:List (Addr × Obj)}{σ:St}{H:Hp}{s:Shared}{a C dx:Addr}{fs:List (Str × V)}{f:Str}{v:V}{A:Around}{E:Value->Shared->Prop}
end
section
variable{X:Cx}{o e value:Expr}{f:Str}{pos pos' tpos:Pos}{ta tv:TE}
end
section
variable{X:Cx}{pins:List (Addr × Obj)}{σ:St}{H:Hp}{s:Shared}{A:Around}{E:Value->Shared->Prop}{Q:Value->Shared->Prop}{c:Value}{b:Bool}
inductive TyOf(K:Frag)(H:Hp):V->Value->Prop where
 |non:TyOf K H .non (.type "NoneType")
 |bl (x:Bool):TyOf K H (.bl x) (.type "bool")
 |int (i:Int):TyOf K H (.int i) (.type "int")
 |str (x:Str):TyOf K H (.str x) (.type "str")
 |flt (x:UInt64):TyOf K H (.flt x) (.type "float")
 |lst {a:Addr} {xs:List V} (e:H a=some (.lst xs)):TyOf K H (.ref a) (.type "list")
 |frz {a:Addr} {o:Obj} {xs:List V} (e:H a=some (.frz o (.lst xs))):TyOf K H (.ref a) (.type "list")
 |tup {a:Addr} {xs:List V} (e:H a=some (.tup xs)):TyOf K H (.ref a) (.type "tuple")
 |dK {a:Addr} {kvs:List (Key × V)} (e:H a=some (.dK kvs)):TyOf K H (.ref a) (.type "dict")
 |dT {a:Addr} {kvs:List (List Key × V)} (e:H a=some (.dT kvs)):TyOf K H (.ref a) (.type "dict")
 | ins {a C dx:Addr} {fs:List (Str × V)} (e:H a=some (.ins C dx fs)) (cl:Cls K C) (ha:PySem.W.findIn K (.ref C) "__class__" = some (some (.builtin "object.__class__")))
   (hn:PySem.W.specialIn K (.builtin "object.__class__") "__get__" = some (some (.builtin "getset_descriptor.__get__"))) (htk:PySem.W.takesIn K (.builtin "object.__class__")=some true)
   (hm:mroIn K C (.type "object")=some true):TyOf K H (.ref a) (.ref C)
theorem asg{x:V}{u t:Value}(I:Inv X pins σ H s)(d:RelV x u)(ty:TyOf X.K H x t)(e:kitOne X.K t c=some b)(h:∀ j,Q (.bool b) { s with toks:=j }) :
  wpAny (model X.prog X.w) A (call (.builtin "isinstance") [u,c]) Q E s:=by
 cases ty with
 |non=>cases (show u=Value.none from d);exact PySem.W.kia_one PySem.W.kitx_none I.kIn True.intro e (λz=>nomatch z) h
 |bl y=>cases (show u=Value.bool y from d);exact PySem.W.kia_one PySem.W.kitx_bool I.kIn True.intro e (λz=>nomatch z) h
 |int i=>obtain⟨t,q⟩:=(show ∃ t,u=Value.int i t from d);cases q;exact PySem.W.kia_one PySem.W.kitx_int I.kIn True.intro e (λz=>nomatch z) h
 |str y=>obtain⟨t,q⟩:=(show ∃ t,u=Value.str y t from d);cases q;exact PySem.W.kia_one PySem.W.kitx_str I.kIn True.intro e (λz=>nomatch z) h
 |flt y=>obtain⟨t,q⟩:=(show ∃ t,u=Value.float y t from d);cases q;exact PySem.W.kia_one PySem.W.kitx_float I.kIn True.intro e (λz=>nomatch z) h
 | @lst a xs ea =>
  cases (show u=Value.ref a from d)
  obtain⟨_,_,n,_,f⟩:=(show ObjOk X.prog X.w H s.heap a (.lst xs) from I.hok a _ ea)
  exact PySem.W.kia_one PySem.W.kitx_list I.kIn ⟨_,f,rfl⟩ e (λz=>nomatch z) h
 | @frz a ob xs ea =>
  cases (show u=Value.ref a from d)
  obtain⟨_,_,_,n,_,f⟩:=(show ObjOk X.prog X.w H s.heap a (.frz ob (.lst xs)) from I.hok a _ ea)
  exact PySem.W.kia_one PySem.W.kitx_list I.kIn ⟨_,f,rfl⟩ e (λz=>nomatch z) h
 | @tup a xs ea =>
  cases (show u=Value.ref a from d)
  obtain⟨_,_,_,p⟩:=(show ObjOk X.prog X.w H s.heap a (.tup xs) from I.hok a _ ea)
  obtain⟨o,f,g,_⟩:=p
  exact PySem.W.kia_one PySem.W.kitx_tuple I.kIn ⟨o,f,g⟩ e (λz=>nomatch z) h
 | @dK a kvs ea =>
  cases (show u=Value.ref a from d)
  obtain⟨_,_,vs,_,p⟩:=(show ObjOk X.prog X.w H s.heap a (.dK kvs) from I.hok a _ ea)
  obtain⟨o,es,ep,f,g,_⟩:=p
  exact PySem.W.kia_one PySem.W.kitx_dict I.kIn ⟨o,f,g.1⟩ e (λz=>nomatch z) h
 | @dT a kvs ea =>
  cases (show u=Value.ref a from d)
  obtain⟨_,_,xs,_,o,es,ep,f,g,_⟩:=(show ObjOk X.prog X.w H s.heap a (.dT kvs) from I.hok a _ ea)
  exact PySem.W.kia_one PySem.W.kitx_dict I.kIn ⟨o,f,g.1⟩ e (λz=>nomatch z) h
 | @ins a C dx fs ea cl ha hn htk hm =>
  cases (show u=Value.ref a from d)
  obtain⟨mA,O,_⟩:=ins_get I.hok ea
  obtain⟨od,J,_⟩:=O.look
  exact PySem.W.kia_one (PySem.W.kitx_own (cl.get _) cl.hd ha hn htk hm) I.kIn J e (λz=>nomatch z) h
end
structure Room(k:Nat)(A:Around):Prop where
 hd:A.handled=none
 dp:A.depth+3 * k+5<recursionLimit
 un:A.units+16 * k+200<cLine
 gd:A.guards=some []
theorem Room.mono{j k:Nat}{A:Around}(r:Room k A)(h:j<=k):Room j A:=⟨r.hd,by have:=r.dp;lia,by have:=r.un;lia,r.gd⟩
theorem Room.deeper{k:Nat}{A:Around}(r:Room (k+1) A)(env:Env):Room k (A.deeper env) :=
 ⟨r.hd,by have:=r.dp;show A.depth+1+3 * k+5<_;lia,by have:=r.un;show A.units+3+16 * k+200<_;lia,r.gd⟩
theorem Room.depth{k:Nat}{A:Around}(r:Room k A):A.depth<recursionLimit:=by have:=r.dp;lia
theorem Room.units{k:Nat}{A:Around}(r:Room k A):A.units+64<cLine:=by have:=r.un;lia
def tNil:TA:=λ_ H Q=>Q [] H
def abb(ta:TE)(tr:TA):TA:=λσ H Q=>ta σ H λx H1=>tr σ H1 λxs H2=>Q (x::xs) H2
section
variable{X:Cx}{e:Expr}{es:List Expr}{te:TE}{t:TA}{pos:Pos}
theorem aab:PA X [] tNil:=λ_ _ _ _ H Q I h=>Calls.spliced_nil ⟨[],H,I,.nil,h⟩
theorem aaa(ha:PE X e te)(c:PA X es t)(hs:starEach (e::es) X.env=(false,eval e X.env)::starEach es X.env:=by rfl):PA X (e::es) (abb te t):=by
 intro pos pins s σ H Q I h
 rw[hs]
 show wpAny _ _ (spliced ((false,eval e X.env)::backTo pos (starEach es X.env))) _ _ s
 refine Calls.spliced_cons (thn (ha pins s σ H _ I h) λu s1 ⟨x,f,j,d,a⟩=>?_)
 exact thn (c pos pins s1 σ f _ j a) λus s2 ⟨xs,H2,b,g,i⟩=>⟨x::xs,H2,b,.cons d g,i⟩
def tTup(t:TA):TE:=λσ H Q=>t σ H λxs H1=>xs.length<=sizeLine/\∀ p,H1 p=none->Q (.ref p) (upd H1 p (.tup xs))
def tLst(t:TA):TE:=λσ H Q=>t σ H λxs H1=>xs.length<=sizeLine/\∀ p,H1 p=none->Q (.ref p) (upd H1 p (.lst xs))
theorem abf{x1}(h:PA X es t):PE X (.Tuple es x1 pos) (tTup t):=by
 intro pins s σ H Q I d
 refine wpAny_Tuple_spliced (thn (h pos pins s σ H _ I d) λus s1 ⟨xs,a,c,r,z,q⟩=>⟨by rw[← r.length];exact z,?_⟩)
 have hf:a s1.heap.objs.size=none:=c.hok.fresh (aA6 _)
 refine⟨.ref s1.heap.objs.size,upd a s1.heap.objs.size (.tup xs),c.laid (t':=s1.toks) (λb u e=>aJ3 _ e) (aA6 _) ?_,rfl,q _ hf⟩
 exact⟨z,us,r,⟨_,aJ5 _ rfl,rfl,_,rfl⟩⟩
theorem aaw(h:PA X es t):PE X (.List es pos) (tLst t):=by
 intro pins s σ H Q I d
 refine wpAny_List_spliced (thn (h pos pins s σ H _ I d) λus s1 ⟨xs,a,c,r,z,q⟩=>⟨by rw[← r.length];exact z,?_⟩)
 have hf:a s1.heap.objs.size=none:=c.hok.fresh (aA6 _)
 refine⟨.ref s1.heap.objs.size,upd a s1.heap.objs.size (.lst xs),c.laid (t':=s1.toks) (λb u e=>aJ3 _ e) (aA6 _) ?_,rfl,q _ hf⟩
 exact⟨z,us,0,r,aJ5 _ rfl⟩
end
abbrev Sp:=List V->Hp->VK->XK->Prop
abbrev CXT:=List Env->Hp->Shared->XK->Value->Shared->Prop
structure Env0(P:Program)(w:World)(K:Frag)(mg:Str->Option Value)(base:Heap)(A:Around)(outer:List Env)(s:Shared)(H:Hp):Prop where
 frames:A.frames=some outer
 mod:Mod K mg base
 bs:∀ b o,base.get? b=some o->s.heap.get? b=some o/\H b=none
 bsz:base.objs.size<=s.heap.objs.size
 funs:s.heap.FunFrames base outer
 frf:∀ b∈frs outer,H b=none
 hok:HOk P w H s.heap
 bare:AllBare s.gens
def CE(outer:List Env)(P:Program)(w:World)(H:Hp)(s:Shared)(Q:VK)(u:Value)(s':Shared):Prop :=
 ∃ v H',s'.os=s.os/\AllBare s'.gens/\Un (frs outer) [] H H' s.heap s'.heap/\HOk P w H' s'.heap/\RelV v u/\Q v H'
def CR(CX:CXT)(outer:List Env)(P:Program)(w:World)(H:Hp)(s:Shared)(Q:VK)(E:XK)(r:Result)(s':Shared):Prop :=
 match r with
 | .ok (.ret u)=>CE outer P w H s Q u s'
 | .ok _=>False
 | .error e=>CX outer H s E e s'
structure FnOk(P:Program)(w:World)(K:Frag)(mg:Str->Option Value)(base:Heap)(CX:CXT)(k:Nat)(f:Addr)(fd:FuncData)(ps:List Str)(sp:Sp):Prop where
 len:∀ vs H Q E,sp vs H Q E->vs.length=ps.length
 run:∀(A:Around)(outer:List Env)(s:Shared)(H:Hp)(args:Args)(us:List Value)(vs:List V)(Q:VK)(E:XK),Room k A->Env0 P w K mg base A outer s H->BindsTo s fd args (ps.zip us)->Vals vs us->sp vs H Q E ->
  codeAny (model P w) A (.call (.ref f) args) (CR CX outer P w H s Q E) s
theorem FnOk.imp{P:Program}{w:World}{K:Frag}{mg:Str->Option Value}{base:Heap}{CX:CXT}{k:Nat}{f:Addr}{fd:FuncData}{ps:List Str}{sp a:Sp}(F:FnOk P w K mg base CX k f fd ps sp)
  (h:∀ vs H Q E,a vs H Q E->sp vs H Q E):FnOk P w K mg base CX k f fd ps a :=
 ⟨λvs H Q E q=>F.len vs H Q E (h _ _ _ _ q),λA outer s H args us vs Q E b d hb c hs=>F.run A outer s H args us vs Q E b d hb c (h _ _ _ _ hs)⟩
section
variable{X:Cx}{pins:List (Addr × Obj)}{σ:St}{H:Hp}{s s':Shared}
theorem Inv.env0(I:Inv X pins σ H s):Env0 X.prog X.w X.K X.mg X.base X.A X.stack s H :=
 ⟨I.ok.frames,I.ok.mod,I.bs,aD0 I.ok.bsz I.sz,I.stack,I.stkFree,I.hok,I.bare⟩
theorem Inv.after{Q:VK}{u:Value}(I:Inv X pins σ H s)(h:CE X.stack X.prog X.w H s Q u s'):EP X pins σ Q u s':=by
 obtain⟨v,H',os,bare,un,hok,r,q⟩:=h
 obtain⟨hh,g,d,t,os'⟩:=s'
 obtain rfl:os'=s.os:=os
 exact⟨v,H',I.call (h':=hh) (g':=g) (d':=d) (t':=t) (ch:=[]) un hok bare (λb z=>absurd z (by simp)),r,q⟩
end
def aco(sp:Sp)(dvs:List V)(E:XK)(t:TA):TE:=λσ H Q=>t σ H λvs H1=>sp (vs++dvs) H1 Q E
def Binds(K:Frag)(fd:FuncData)(ps:List Str)(ds:List Value):Prop :=
 ∀(s:Shared)(us:List Value),K.In s.heap->(us++ds).length=ps.length->BindsTo s fd ⟨us,[]⟩ (ps.zip (us++ds))
theorem Binds.all{K:Frag}{fd:FuncData}{ps:List Str}(h:∀ us:List Value,us.length=ps.length->bindArgs fd ⟨us,[]⟩=pure (ps.zip us)):Binds K fd ps []:=λs us _ a=>by
 rw[aF0] at a ⊢
 exact .of_eq (h us a)
def al7(CX:CXT)(X:Cx)(E:XK):Prop:=∀(pins:List (Addr × Obj))(σ:St)(H:Hp)(s:Shared)(e:Value)(s':Shared),Inv X pins σ H s->CX X.stack H s E e s'->X.xe e s'
section
variable{X:Cx}{CX:CXT}{k:Nat}{f C:Addr}{fd:FuncData}{ps:List Str}{sp:Sp}{dvs:List V}{ds:List Value}{E:XK}{x m:Str}{p pos apos:Pos}{e o:Expr}{es:List Expr}{ta:TE}{t:TA}
theorem az5{pins:List (Addr × Obj)}{σ:St}{H:Hp}{s:Shared}{Q:VK}{us:List Value}{vs:List V}(F:FnOk X.prog X.w X.K X.mg X.base CX k f fd ps sp)(d:Room k X.A)(hb:Binds X.K fd ps ds)(hd:Vals dvs ds)(g:al7 CX X E)
  (I:Inv X pins σ H s) (r:Vals vs us) (h:sp (vs++dvs) H Q E):wpAny (model X.prog X.w) X.A (call (.ref f) us) (EP X pins σ Q) X.xe s:=by
 have b:Vals (vs++dvs) (us++ds):=r.append hd
 have c:(us++ds).length=ps.length:=by rw[← b.length];exact F.len _ _ _ _ h
 refine wpAny_call (aJ6 (F.run X.A X.stack s H ⟨us,[]⟩ (us++ds) (vs++dvs) Q E d I.env0 (hb s us I.kIn c) b h) λr s' a=>?_)
 cases r with
 |error e=>exact g pins σ H s e s' I a
 | ok fl =>
  cases fl with
  |ret u=>exact I.after a
  |next=>exact False.elim a
  |brk=>exact False.elim a
  |cont=>exact False.elim a
theorem axj(F:FnOk X.prog X.w X.K X.mg X.base CX k f fd ps sp)(g:Room k X.A)(d:Gl X x)(hm:X.mg x=some (.ref f))(i:keepIn X.K (.ref f)=true)(hb:Binds X.K fd ps ds)(hd:Vals dvs ds)(l:al7 CX X E)
  (ha:PA X (e::es) t) (a:(x == ("__debug__" : Str))=false:=by decide) (j:starEach (e::es) X.env=(false,eval e X.env)::starEach es X.env:=by rfl) (b:(backTo pos (starEach es X.env)).any (·.1)=false:=by rfl) :
  PE X (.Call (.Name x p) (e::es) [] pos) (aco sp dvs E t):=by
 intro pins s σ H Q I h
 refine wpAny_Call_Name_kw (axi I d hm ?_ a)
 refine PySem.W.callWith_K (h₀:=X.base) I.ok.mod.kin i (thn (ha pos pins s σ H _ I h) λus s1 ⟨vs,m,c,r,q⟩=>⟨c.kIn,?_⟩) j b
 exact az5 F g hb hd l c r q
end
section
variable{X:Cx}{CX:CXT}{k:Nat}{f C:Addr}{fd:FuncData}{ps ks:List Str}{sp:Sp}{E:XK}{x m:Str}{p pos apos kpos:Pos}{e o:Expr}{es:List Expr}{kws:List Keyword}{te ta:TE}{t tk:TA}{nm:Option Str}
variable{g:List Value->List Value->List Value}{gV:List V->List V->List V}
end
structure FnScope(N P:List Str)(sc:Scope):Prop where
 kind:sc.kind=.function
 co:sc.isCoroutine=false
 gen:sc.isGenerator=false
 nd:N.Nodup
 pre:N.take P.length=P
 par:∀ x∈P,sc.names.lookup x=some .local\/sc.names.lookup x=some .cell
 nofree:∀ y∈sc.names,y.2 ≠ .free
theorem aj3{kindOf:Str->Option NameKind}{x:Str}:∀{binds:List (Str × Value)}{m:Str->Option Value},(∀ v,(x,v) ∉ binds)->bindL kindOf binds m x=m x
 |[],_,_=>rfl
 | (n,v)::r,m,h=>by
  unfold bindL
  rw[aj3 λw a=>h w (aB5 _ a)]
  split
  ·have:x ≠ n:=by rintro rfl;exact h v aB8
   simp[this]
  ·rfl
theorem aj4{kindOf:Str->Option NameKind}{x:Str}:∀{binds:List (Str × Value)}{m:Str->Option Value},(∀ v,(x,v) ∉ binds)->bindC kindOf binds m x=m x
 |[],_,_=>rfl
 | (n,v)::r,m,h=>by
  unfold bindC
  rw[aj4 λw a=>h w (aB5 _ a)]
  split
  ·rfl
  ·have:x ≠ n:=by rintro rfl;exact h v aB8
   simp[this]
theorem aj5{kindOf:Str->Option NameKind}{x:Str}{v:Value}:∀{P:List Str}{vs:List Value}{i:Nat}{m:Str->Option Value},P.Nodup->P[i]?=some x->vs[i]?=some v->kindOf x=some .local ->
  bindL kindOf (P.zip vs) m x=some v
 |[],_,_,_,_,h,_,_=>by simp at h
 |_::_,[],_,_,_,_,h,_=>by simp at h
 | p::P,w::vs,0,m,nd,h1,h2,hk=>by
  simp at h1 h2;subst h1;subst h2
  show bindL kindOf ((p,w)::P.zip vs) m p=_
  unfold bindL
  rw[aj3 λv a=>(aI5.mp nd).1 (List.of_mem_zip a).1,aF5 hk]
  simp
 | p::P,w::vs,i+1,m,nd,h1,h2,hk=>by
  show bindL kindOf ((p,w)::P.zip vs) m x=_
  unfold bindL
  exact aj5 (i:=i) (aI5.mp nd).2 (by simpa using h1) (by simpa using h2) hk
theorem aj6{kindOf:Str->Option NameKind}{x:Str}{v:Value}:∀{P:List Str}{vs:List Value}{i:Nat}{m:Str->Option Value},P.Nodup->P[i]?=some x->vs[i]?=some v->kindOf x ≠ some .local ->
  bindC kindOf (P.zip vs) m x=some v
 |[],_,_,_,_,h,_,_=>by simp at h
 |_::_,[],_,_,_,_,h,_=>by simp at h
 | p::P,w::vs,0,m,nd,h1,h2,hk=>by
  simp at h1 h2;subst h1;subst h2
  show bindC kindOf ((p,w)::P.zip vs) m p=_
  unfold bindC
  rw[aj4 λv a=>(aI5.mp nd).1 (List.of_mem_zip a).1,aF6 hk]
  simp
 | p::P,w::vs,i+1,m,nd,h1,h2,hk=>by
  show bindC kindOf ((p,w)::P.zip vs) m x=_
  unfold bindC
  exact aj6 (i:=i) (aI5.mp nd).2 (by simpa using h1) (by simpa using h2) hk
def start(N:List Str)(vs:List V):St:=vs.map some++List.replicate (N.length-vs.length) none
def cxOf(CX:CXT)(P:Program)(w:World)(K:Frag)(mg:Str->Option Value)(base:Heap)(N:List Str)(qual:Str)(scope:Scope)(f:Addr)(cd:Value)(A:Around)(outer:List Env)(s:Shared)(H:Hp)(E:XK):Cx where
 prog:=P
 w:=w
 K:=K
 mg:=mg
 base:=base
 A:=A.deeper (envOfC qual scope s.heap.objs.size f cd)
 N:=N
 s₀:=s
 H₀:=H
 env:=envOfC qual scope s.heap.objs.size f cd
 outer:=outer
 stack:=envOfC qual scope s.heap.objs.size f cd::outer
 ex:=[]
 calm:=true
 fn:=λ_=>true
 pn:=[]
 xe:=λe s'=>wpAny (model P w) (A.deeper (envOfC qual scope s.heap.objs.size f cd)) (leaving (envOfC qual scope s.heap.objs.size f cd) e) (λ_ s''=>CX outer H s E e s'') (λe' s''=>CX outer H s E e' s'') s'
theorem al8{sc:Scope}{n:Nat}{x:Str}(h:sc.names.lookup x=some .cell):∃ c,(cellsFrom n sc.names []).lookup x=some c:=by
 have q:=PySem.W.cellsFrom_some sc.names n [] (.inl h)
 exact Option.isSome_iff_exists.mp q
theorem ash{CX:CXT}{P:Program}{w:World}{K:Frag}{mg:Str->Option Value}{base:Heap}{N ps:List Str}{qual:Str}{scope:Scope}{f:Addr}{C:Value}{A:Around}{outer:List Env}{s s1:Shared}{H:Hp}{E:XK}{us:List Value}{vs:List V}
  (S:FnScope N ps scope) (hd:A.handled=none) (g:Env0 P w K mg base A outer s H) (J:vs.length=ps.length) (r:Vals vs us)
  (x:InCallC s s.heap.objs.size (bindL (envOfC qual scope s.heap.objs.size f C).kindOf (ps.zip us) λ_=>none) (cellsFrom (s.heap.objs.size+1) scope.names []) (bindC (envOfC qual scope s.heap.objs.size f C).kindOf (ps.zip us) λ_=>none) s1) :
  Inv (cxOf CX P w K mg base N qual scope f C A outer s H E) [] (start N vs) H s1:=by
 have I:ps.length<=N.length:=by have:=congrArg List.length S.pre;rw[aH0] at this;lia
 obtain⟨B,L,rfl,D⟩:=x.done
 have l:∀ b:Addr,b ∉ (cxOf CX P w K mg base N qual scope f C A outer s H E).ex:=λb z=>absurd (show b∈([]:List Addr) from z) (by simp)
 refine⟨⟨g.mod,S.kind,rfl,rfl,aA6 _,λy z c B d=>?_,λy j=>?_,λy c _ h=>?_,λ_=>hd,Around.frames_deeper g.frames,.inr ⟨rfl,rfl⟩,λb z=>absurd z (l b),g.bs,g.bsz,λb _ _=>l b,λb z=>absurd z (l b),g.funs,g.frf⟩,
  rfl,g.bare,Un.kept D,⟨_,x.toInCall.ns,λi y v B d M=>?_⟩,λy c h=>⟨_,x.cell y c h⟩,g.hok.fresh (aA6 _),λy c h=>?_,λp m=>absurd (show p∈([]:List (Addr × Obj)) from m) (by simp),g.hok.kept D,?_⟩
 ·exact name_of_addr x.apart (PySem.mem_of_lookup B) (PySem.mem_of_lookup d)
 ·have j:scope.names.lookup y=some .cell\/scope.names.lookup y=some .free:=j
  rcases j with j|j
  ·exact al8 j
  ·exact absurd rfl (S.nofree _ (PySem.mem_of_lookup j))
 ·exact aG5 (x.above y c (PySem.mem_of_lookup h))
 ·have hi:i<vs.length:=by
   unfold start at d
   by_cases hi:i<vs.length
   ·exact hi
   ·rw[aC8 (by simpa using hi)] at d
    rw[aH7] at d
    split at d <;> cases d
  have ha:vs[i]?=some v:=by
   unfold start at d
   rw[aC3 (by simpa using hi),aA5] at d
   cases e:vs[i]? with
   |none=>rw[e] at d;cases d
   |some a=>rw[e] at d;cases d;rfl
  obtain⟨u,F,G⟩:=r.get ha
  have m:ps[i]?=some y:=by
   rw[← S.pre,aH5 (by lia)];exact B
  have o:ps.Nodup:=by rw[← S.pre];exact S.nd.sublist (List.take_sublist _ _)
  refine⟨u,G,?_⟩
  rcases S.par y (aA2 m) with k|k
  ·exact .inl ⟨k,aj5 o m F k⟩
  ·obtain⟨c,e⟩:=al8 (n:=s.heap.objs.size+1) k
   refine .inr ⟨.inl k,c,e,?_⟩
   have q:=x.cell y c e
   rw[aj6 o m F (by show scope.names.lookup y ≠ _;rw[k];decide)] at q
   exact q
 ·exact g.hok.fresh (aG5 (x.above y c (PySem.mem_of_lookup h)))
 ·unfold start
  show _=N.length
  rw[aB1,aA3,List.length_replicate]
  lia
theorem a2k{CX:CXT}{P:Program}{w:World}{K:Frag}{mg:Str->Option Value}{base:Heap}{k:Nat}{f:Addr}{name qual:Str}{a:Arguments}{body:List Stmt}{scope:Scope}{z kV doc pm cdv ct oc:Value}{an od:Option Addr}
  {osl:Array (Option Value)} {N ps:List Str} {sp:Sp} (D:K.lookup f=some ⟨oc,od,.func (fnOf name qual a body scope z kV doc pm an cdv ct),osl⟩) (p:codeIn K cdv qual=true) (S:FnScope N ps scope)
  (len:∀ vs H Q E,sp vs H Q E->vs.length=ps.length)
  (d:∀(A:Around)(outer:List Env)(s:Shared)(H:Hp)(vs:List V)(Q:VK)(E:XK),Room k (A.deeper (envOfC qual scope s.heap.objs.size f cdv))->sp vs H Q E ->
   ∃ t,PSs (cxOf CX P w K mg base N qual scope f cdv A outer s H E) body t/\t { nx:=λ_ H'=>Q .non H',rt:=Q } (start N vs) H) :
  FnOk P w K mg base CX (k+1) f (fnOf name qual a body scope z kV doc pm an cdv ct) ps sp:=by
 refine⟨len,λA outer s H args us vs Q E j h hb r i=>?_⟩
 have C:=len _ _ _ _ i
 have B:K.In s.heap:=h.mod.kin.keeps λb o e=>(h.bs b o e).1
 have m:s.heap.NoLimit:=h.mod.nolimit.keeps λb o e=>(h.bs b o e).1
 have g:∀ y∈ps.zip us,scope.names.lookup y.1=some .local\/(scope.names.lookup y.1=some .cell/\((cellsFrom (s.heap.objs.size+1) scope.names []).lookup y.1).isSome=true):=λ⟨n,v⟩ L=>by
  rcases S.par n (List.of_mem_zip L).1 with q|q
  ·exact .inl q
  ·exact .inr ⟨q,PySem.W.cellsFrom_some _ _ _ (.inl q)⟩
 refine codeAny_call_function j.depth (B _ _ D) rfl S.co S.gen rfl (PySem.W.codeRec_of B p) (hb _ _ _ _ ?_)
 refine wpAny_newFunctionEnv_cells S.kind g λenv O s1 x=>?_
 subst O
 refine⟨m.keeps x.toInCall.keep,codeAny_func ?_⟩
 obtain⟨t,M,G⟩:=d A outer s H vs Q E (j.deeper _) i
 have I:Inv (cxOf CX P w K mg base N qual scope f cdv A outer s H E) [] (start N vs) H s1:=ash S j.hd h C r x
 refine aK0 (M [] s1 (start N vs) H _ I G) (λF s' hs=>?_) λe s' hs=>hs
 have fin:∀{c:St}{H':Hp}{v:V}{u:Value},Inv (cxOf CX P w K mg base N qual scope f cdv A outer s H E) [] c H' s'->RelV v u->Q v H'->CE outer P w H s Q u s' :=
  λ{c H' v u} J l q=>⟨v,H',J.os,J.bare,J.base,J.hok,l,q⟩
 cases F with
 | ret u =>
  obtain⟨v,c,H',J,l,q⟩:=hs
  exact fin J l q
 | next =>
  obtain⟨c,H',J,q⟩:=hs
  exact fin (v:=V.non) (u:=Value.none) J rfl q
 | brk =>
  obtain⟨_,_,_,q⟩:=hs
  exact False.elim q
 | cont =>
  obtain⟨_,_,_,q⟩:=hs
  exact False.elim q
section
variable{X:Cx}{x:Str}{p pos:Pos}{e:Expr}{es:List Expr}{t:TA}{id T:String}{r:List V->Hp->VK->Prop}
def tCB(r:List V->Hp->VK->Prop)(t:TA):TE:=λσ H Q=>t σ H λvs H1=>r vs H1 Q
theorem aak(m:aa2 X (.builtin id) r)(c:Gl X x)(hm:X.mg x=none)(f:bootBuiltins x=some (.builtin id))(ha:PA X (e::es) t)(hn:x ≠ "__name__":=by decide)(a:(x == ("__debug__" : Str))=false:=by decide)
  (l:starEach (e::es) X.env=(false,eval e X.env)::starEach es X.env:=by rfl) (b:(backTo pos (starEach es X.env)).any (·.1)=false:=by rfl):PE X (.Call (.Name x p) (e::es) [] pos) (tCB r t):=by
 intro pins s σ H Q I h
 refine wpAny_Call_Name_kw (aem I c hm f ?_ hn a)
 exact PyProof.Rows.callWith_builtin1 (thn (ha pos pins s σ H _ I h) λus s1 ⟨vs,i,j,g,d⟩=>m pins s1 σ i vs us Q j g d) l b
theorem abk(m:aa2 X (.type T) r)(c:Gl X x)(hm:X.mg x=none)(f:bootBuiltins x=some (.type T))(ha:PA X (e::es) t)(hn:x ≠ "__name__":=by decide)(a:(x == ("__debug__" : Str))=false:=by decide)
  (l:starEach (e::es) X.env=(false,eval e X.env)::starEach es X.env:=by rfl) (b:(backTo pos (starEach es X.env)).any (·.1)=false:=by rfl):PE X (.Call (.Name x p) (e::es) [] pos) (tCB r t):=by
 intro pins s σ H Q I h
 refine wpAny_Call_Name_kw (aem I c hm f ?_ hn a)
 exact PyProof.Rows.callWith_type1 (thn (ha pos pins s σ H _ I h) λus s1 ⟨vs,i,j,g,d⟩=>m pins s1 σ i vs us Q j g d) l b
end
end L2
namespace HT
open PySem PyProof.Rows
def lexLt:List Int->List Int->Bool
 |[],[]=>false
 |[],_::_=>true
 |_::_,[]=>false
 |x::xs,y::ys=>if x=y then lexLt xs ys else decide (x<y)
theorem afz(x y:Int)(xs ys:List Int):lexLt (x::xs) (y::ys)=if x=y then lexLt xs ys else decide (x<y):=rfl
section
open PySem.SeqAt
open PySem.AutoSeq1 (wpAny_loadPart')
open PySem.MeetsSeq PySem.MeetsSeq2 PySem.MeetsSeq3
end
section
variable{prog:Program}{w:World}{A:Around}{E:Value->Shared->Prop}{s:Shared}
def sIx(n d:Nat):Option Int->Nat
 |none=>d
 |some v=>if v<0 then (v+(n:Int)).toNat else min v.toNat n
theorem sIx_none(n d:Nat):sIx n d none=d:=rfl
theorem sIx_nat(n d k:Nat):sIx n d (some (k:Int))=min k n:=by
 show(if (k:Int)<0 then ((k:Int)+(n:Int)).toNat else min (k:Int).toNat n)=min k n
 rw[aF6 (by lia),Int.toNat_natCast]
end
end HT
namespace L2
open PySem PySem.Spec PyProof.Rows
abbrev TO:=St->Hp->(Option Int->Hp->Prop)->Prop
def PO(X:Cx)(e:Option Expr)(t:TO):Prop :=
 ∀(pins:List (Addr × Obj))(s:Shared)(σ:St)(H:Hp)(Q:Option Int->Hp->Prop),Inv X pins σ H s->t σ H Q ->
  wpAny (model X.prog X.w) X.A (evalPart e X.env) (λu s'=>∃ o H',Inv X pins σ H' s'/\IsPart u o/\Q o H') X.xe s
def aoy:TO:=λ_ H Q=>Q none H
def awx(t:TE):TO:=λσ H Q=>t σ H λx H1=>∃ i,x=.int i/\Q (some i) H1
theorem acp{ns:List Int}:∀{us:List Value},Vals (ns.map V.int) us->IntsAre us ns:=by
 induction ns with
 |nil=>intro us r;rw[List.map_nil] at r;cases r;exact .nil
 | cons n ns ih =>
  intro us r
  rw[aD1] at r
  cases r with
  | cons r1 r2 =>
   obtain⟨t,e⟩:=r1
   subst e
   exact .cons n t (ih r2)
section
variable{X:Cx}{e:Expr}{te:TE}{lo hi:Option Expr}{tl th:TO}{pos p2:Pos}
theorem afl:PO X none aoy:=by
 intro pins s σ H Q I h
 rw[evalPart_none]
 exact aJ2 ⟨none,H,I,.none,h⟩
theorem afm(h:PE X e te):PO X (some e) (awx te):=by
 intro pins s σ H Q I b
 rw[evalPart_some]
 refine thn (h pins s σ H _ I b) λu s1 ⟨x,d,f,c,a⟩=>?_
 obtain⟨i,rfl,q⟩:=a
 obtain⟨t,rfl⟩:=c
 exact⟨some i,d,f,.int i t,q⟩
def SlR(X:Cx)(r:V->Option Int->Option Int->Hp->VK->Prop):Prop :=
 ∀(pins:List (Addr × Obj))(s:Shared)(σ:St)(H:Hp)(x:V)(v vl vu:Value)(lo hi:Option Int)(sl:Addr)(Q:VK),Inv X pins σ H s->RelV x v->s.heap.IsSliceOf sl vl vu .none->IsPart vl lo->IsPart vu hi->r x lo hi H Q ->
  ∃ T id,typeLookup (.type T) "__getitem__" = pure (some (.builtin id))/\s.TypeIs v T/\wpAny (model X.prog X.w) X.A (getItem v (.ref sl)) (EP X pins σ Q) X.xe s
def tSl(r:V->Option Int->Option Int->Hp->VK->Prop)(te:TE)(tl th:TO):TE:=λσ H Q=>te σ H λx H1=>tl σ H1 λl H2=>th σ H2 λu H3=>r x l u H3 Q
theorem aer{r:V->Option Int->Option Int->Hp->VK->Prop}(n:SlR X r)(J:PE X e te)(i:PO X lo tl)(D:PO X hi th):PE X (.Subscript e (.Slice lo hi none p2) pos) (tSl r te tl th):=by
 intro pins s σ H Q I h
 refine Subscript_ (thn (J pins s σ H _ I h) λv s1 ⟨x,p,C,o,g⟩=>?_)
 refine wpAny_Slice (thn (i pins s1 σ p _ C g) λc s2 ⟨l,H2,m,pl,E⟩=>thn (D pins s2 σ H2 _ m E) λd a ⟨u,H3,B,y,G⟩=>?_)
 rw[evalPart_none]
 refine aJ2 ?_
 have j:Inv X pins σ H3 { a with heap:=a.heap.push { cls:=.type "slice",data:=.fields #[c,d,.none] } }:=B.kept (t':=a.toks) λb K q=>aJ3 _ q
 obtain⟨T,id,z,F,f⟩:=n pins { a with heap:=a.heap.push { cls:=.type "slice",data:=.fields #[c,d,.none] } } σ H3 x v c d l u a.heap.objs.size Q j o (Heap.IsSliceOf.new ..) pl y G
 show wpAny (model X.prog X.w) X.A (subscriptTail e (.Slice lo hi none p2) v (.ref a.heap.objs.size)) (EP X pins σ Q) X.xe { a with heap:=a.heap.push { cls:=.type "slice",data:=.fields #[c,d,.none] } }
 exact tail_any (ops:=[.ref a.heap.objs.size,v]) F z f (by with_unfolding_all rfl)
def cutV(xs:List V)(lo hi:Option Int):List V:=(xs.drop (HT.sIx xs.length 0 lo)).take (HT.sIx xs.length xs.length hi-HT.sIx xs.length 0 lo)
theorem aof(xs:List V)(lo hi:Option Int):(cutV xs lo hi).length<=xs.length:=by
 unfold cutV
 rw[aH0,aI9]
 lia
end
def ixN(n:Nat)(i:Int):Option Nat:=if 0<=i then (if i<n then some i.toNat else none) else if -(n:Int)<=i then some (i+n).toNat else none
def atI{α:Type}(xs:List α)(i:Int):Option α:=(ixN xs.length i).bind λj=>xs[j]?
theorem aoz{n:Nat}{i:Int}{j:Nat}(h:ixN n i=some j):seqIndex? i n=some j/\j<n/\-(n:Int)<=i/\i<n:=by
 unfold ixN at h
 by_cases h0:0<=i
 ·rw[aF5 h0] at h
  by_cases h1:i<n
  ·rw[aF5 h1] at h
   have e:i.toNat=j:=aC6 h
   exact⟨by rw[seqIndex_of h0 h1,e],by lia,by lia,h1⟩
  ·rw[aF6 h1] at h;cases h
 ·rw[aF6 h0] at h
  by_cases h1 : -(n:Int)<=i
  ·rw[aF5 h1] at h
   have e:(i+n).toNat=j:=aC6 h
   exact⟨by rw[seqIndex_neg (by lia) h1,e],by lia,h1,by lia⟩
  ·rw[aF6 h1] at h;cases h
theorem ao0{α:Type}{xs:List α}{i:Int}{v : α}(h:atI xs i=some v):∃ j,seqIndex? i xs.length=some j/\xs[j]?=some v/\j<xs.length/\-(xs.length:Int)<=i/\i<xs.length:=by
 unfold atI at h
 cases e:ixN xs.length i with
 |none=>rw[e] at h;cases h
 | some j =>
  rw[e] at h
  obtain⟨c,d,b,a⟩:=aoz e
  exact⟨j,c,h,d,b,a⟩
theorem adw{α:Type}{xs:List α}{j:Nat}{v : α}(h:xs[j]?=some v):atI xs (j:Int)=some v:=by
 have a:j<xs.length:=(aA1.mp h).1
 have e:ixN xs.length (j:Int)=some j:=by
  unfold ixN
  rw[aF5 (by lia),aF5 (by lia)];simp
 unfold atI;rw[e];exact h
def axk(b:Expr):Prop:=∀ o i,subscripted b false o i=operate [o,i] (getItem o i)
def IxR(X:Cx)(r:R2):Prop :=
 ∀(value slice:Expr)(pins:List (Addr × Obj))(s:Shared)(σ:St)(H:Hp)(x y:V)(v u:Value)(Q:VK),Inv X pins σ H s->RelV x v->RelV y u->r x y H Q ->
  subscripted slice false v u=operate [v,u] (getItem v u)->wpAny (model X.prog X.w) X.A (subscriptTail value slice v u) (EP X pins σ Q) X.xe s
def MtR(X:Cx)(id:String)(r:V->List V->Hp->VK->Prop):Prop :=
 ∀(pins:List (Addr × Obj))(s:Shared)(σ:St)(H:Hp)(x:V)(xs:List V)(v:Value)(us:List Value)(Q:VK),Inv X pins σ H s->RelV x v->Vals xs us->r x xs H Q ->
  wpAny (model X.prog X.w) X.A (call (.builtin id) (v::us)) (EP X pins σ Q) X.xe s
section
variable{X:Cx}{a b:Expr}{ta tb:TE}{pos:Pos}
theorem IxR.or{r d:R2}(h:IxR X r)(h':IxR X d):IxR X (λx y H Q=>r x y H Q\/d x y H Q):=by
 intro a b pins s σ H x y v u Q I f c q hs
 rcases q with q|q
 ·exact h a b pins s σ H x y v u Q I f c q hs
 ·exact h' a b pins s σ H x y v u Q I f c q hs
theorem aal{r:R2}(f:IxR X r)(ha:PE X a ta)(hb:PE X b tb)(hs:axk b):PE X (.Subscript a b pos) (tOp r ta tb):=by
 intro pins s σ H Q I h
 exact Subscript_ (binT ha hb I h λv u s2 x y H2 c g d q=>f a b pins s2 σ H2 x y v u Q c g d q (hs _ _))
def rIxL(K:Frag):R2:=λx y H Q=>∃ p xs i v,x=.ref p/\y=.int i/\SqL K H p xs/\atI xs i=some v/\Q v H
def rIxT(K:Frag):R2:=λx y H Q=>∃ p xs i v,x=.ref p/\y=.int i/\SqT K H p xs/\atI xs i=some v/\Q v H
theorem ix_list:IxR X (rIxL X.K):=by
 intro d f pins s σ H x y v u Q I A n h hs
 obtain⟨p,xs,i,z,rfl,rfl,B,D,q⟩:=h
 cases A
 obtain⟨t,rfl⟩:=n
 obtain⟨its,r,pl,hz⟩:=I.list B
 obtain⟨j,a,C,E,m,o⟩:=ao0 D
 obtain⟨w,g,c⟩:=r.get C
 have l:=r.length
 have hn:=agl
 have fin:EP X pins σ Q w s:=⟨z,H,I,c,q⟩
 by_cases h0:0<=i
 ·have b:i.toNat=j:=by
   rw[seqIndex_of h0 o] at a
   exact aC6 a
  exact item_listR pl.isList h0 (by lia) (by rw[b];simpa using g) fin hs
 ·have b:(i+(its.toArray.size:Int)).toNat=j:=by
   rw[seqIndex_neg (by lia) m] at a
   rw[aB2,← l]
   exact aC6 a
  exact subscriptTail_builtinR (x:=w) pl.isList.typeIs slot_list_getitem.lookup
   (wpAny_getItem_list_neg (Q:=λr s'=>r=w/\EP X pins σ Q r s') pl.isList (by lia) (by rw[aB2] <;> lia) (by lia) (by rw[b];simpa using g) ⟨rfl,fin⟩) hs
theorem az6:IxR X (rIxT X.K):=by
 intro b c pins s σ H x y v u Q I l f h hs
 obtain⟨p,xs,i,z,rfl,rfl,m,A,q⟩:=h
 cases l
 obtain⟨t,rfl⟩:=f
 obtain⟨its,r,pl,hz⟩:=I.tuple m
 obtain⟨j,n,o,D,B,C⟩:=ao0 A
 obtain⟨w,g,a⟩:=r.get o
 have d:=r.length
 have hn:=agl
 have fin:EP X pins σ Q w s:=⟨z,H,I,a,q⟩
 exact subscriptTail_builtinR (x:=w) pl.typeIs slot_tuple_getitem.lookup
  (getItem_tuple (j:=j) (Q:=λr s'=>r=w/\EP X pins σ Q r s') pl (by lia) (by lia) (by rw[aB2,← d];exact n) (by simpa using g) ⟨rfl,fin⟩) hs
theorem aqt(its:List Value)(n j:Nat)(u:Value):Obj.mapSeq (·.setIfInBounds j u) { cls:=.type "list",data:=.seq its.toArray n }={ cls:=.type "list",data:=.seq (its.set j u).toArray n }:=by
 simp[Obj.mapSeq]
theorem Inv.lst{pins:List (Addr × Obj)}{σ:St}{H:Hp}{s:Shared}{p:Addr}{xs:List V}(I:Inv X pins σ H s)(h:H p=some (.lst xs)) :
  ∃(its:List Value)(n:Nat),Vals xs its/\s.heap.get? p=some { cls:=.type "list",data:=.seq its.toArray n }/\xs.length<=sizeLine:=by
 obtain⟨z,its,n,r,e⟩:=I.hok p _ h
 exact⟨its,n,r,e,z⟩
theorem Inv.lstUpd{pins:List (Addr × Obj)}{σ:St}{H:Hp}{s:Shared}{p:Addr}{xs ys:List V}{its its':List Value}{n a:Nat}{f:Obj->Obj}(I:Inv X pins σ H s)(h:H p=some (.lst xs))
  (c:s.heap.get? p=some { cls:=.type "list",data:=.seq its.toArray n }) (hf:f { cls:=.type "list",data:=.seq its.toArray n }={ cls:=.type "list",data:=.seq its'.toArray a }) (r:Vals ys its') (hz:ys.length<=sizeLine) (t:Nat) :
  Inv X pins σ (upd H p (.lst ys)) { s with heap:=s.heap.update p f,toks:=t }:=by
 have e:(s.heap.update p f).get? p=some { cls:=.type "list",data:=.seq its'.toArray a }:=by
  rw[aK7 f c (by rw[hf] <;> rfl),hf]
 refine I.write (x:=p) (e:=p) (by rw[h];trivial) (.inl rfl) (λb u hb q=>(aJ9 _ _ (Ne.symm hb)).trans q) ⟨_,e⟩ ?_
 exact⟨hz,its',a,r,e⟩
def aln:V->V->V->Hp->(Hp->Prop)->Prop:=λo i v H Q=>∃ p xs k j,o=.ref p/\i=.int k/\H p=some (.lst xs)/\ixN xs.length k=some j/\Q (upd H p (.lst (xs.set j v)))
theorem acq:PSet X aln:=by
 intro pins s σ H o i v A C u Q I x z y h
 obtain⟨p,xs,k,j,rfl,rfl,g,w,q⟩:=h
 cases x
 obtain⟨t,rfl⟩:=z
 obtain⟨its,n,r,d,hz⟩:=I.lst g
 obtain⟨a,B,m,f⟩:=aoz w
 have b:=r.length
 have hn:=agl
 have l:Inv X pins σ (upd H p (.lst (xs.set j v))) { s with heap:=s.heap.update p (Obj.mapSeq (·.setIfInBounds j u)) } :=
  I.lstUpd g d (aqt its n j u) (r.set y j) (by rw[List.length_set];exact hz) s.toks
 by_cases h0:0<=k
 ·have c:k.toNat=j:=by
   rw[seqIndex_of h0 f] at a
   exact aC6 a
  exact PySem.W.ki_setAt d h0 (by lia) (by rw[aB2,← b];exact f) (by rw[c];exact⟨_,l,q⟩)
 ·have c:(k+(its.toArray.size:Int)).toNat=j:=by
   rw[seqIndex_neg (by lia) m] at a
   rw[aB2,← b]
   exact aC6 a
  exact PySem.W.ki_setBack d (by lia) (by rw[aB2,← b];exact m) (by lia) (by rw[c];exact⟨_,l,q⟩)
theorem al9(lo hi:Option Int)(n:Nat):(sliceBounds lo hi none n).1=((HT.sIx n 0 lo:Nat):Int)/\(sliceBounds lo hi none n).2.1=((HT.sIx n n hi:Nat):Int)/\(sliceBounds lo hi none n).2.2=1:=by
 refine⟨?_,?_,rfl⟩
 ·cases lo with
  |none=>simp[sliceBounds,HT.sIx]
  | some i =>
   simp only[sliceBounds,HT.sIx,Option.getD_none,show(1:Int) > 0 by decide,if_true]
   by_cases h:i<0
   ·simp only[h,if_true] <;> lia
   ·simp only[h,if_false] <;> lia
 ·cases hi with
  |none=>simp[sliceBounds,HT.sIx]
  | some i =>
   simp only[sliceBounds,HT.sIx,Option.getD_none,show(1:Int) > 0 by decide,if_true]
   by_cases h:i<0
   ·simp only[h,if_true] <;> lia
   ·simp only[h,if_false] <;> lia
theorem akx(its:List Value)(lo hi:Option Int):slicePick its.toArray lo hi none=((its.drop (HT.sIx its.length 0 lo)).take (HT.sIx its.length its.length hi-HT.sIx its.length 0 lo)).toArray:=by
 obtain⟨b,c,a⟩:=al9 lo hi its.toArray.size
 unfold slicePick
 rw[b,c,a]
 simp only[sliceRange_one,pick_run,aB2] <;> rfl
def rSlL(K:Frag):V->Option Int->Option Int->Hp->VK->Prop:=λx lo hi H Q=>∃ a xs,x=.ref a/\SqL K H a xs/\∀ p,H p=none->Q (.ref p) (upd H p (.lst (cutV xs lo hi)))
theorem afn:SlR X (rSlL X.K):=by
 intro pins s σ H x v j l lo hi sl Q I g hs pl i h
 obtain⟨a,xs,rfl,f,q⟩:=h
 cases g
 obtain⟨its,r,d,hz⟩:=I.list f
 have c:=r.length
 refine⟨"list",_,slot_list_getitem.lookup,d.isList.typeIs,?_⟩
 refine wpAny_getItem_list_slice d.isList hs pl i .none (by simp) ?_ (by rw[aB2] <;> lia)
 rw[akx,← c]
 refine⟨.ref s.heap.objs.size,_,I.laid (t':=s.toks) (o:=.lst (cutV xs lo hi)) (λb m q=>aJ3 _ q) (aA6 _) ?_,rfl,q _ (I.hok.fresh (aA6 _))⟩
 exact⟨aD0 (aof xs lo hi) hz,_,0,(r.drop (HT.sIx xs.length 0 lo)).take (HT.sIx xs.length xs.length hi-HT.sIx xs.length 0 lo),aJ5 _ rfl⟩
theorem ama:aa2 X (.builtin "len") (λxs H Q=>∃ p ys,xs=[.ref p]/\(SqL X.K H p ys\/SqT X.K H p ys)/\Q (.int ys.length) H):=by
 intro pins s σ H xs us Q I r h
 obtain⟨p,ys,rfl,b,q⟩:=h
 obtain⟨u,rfl,d⟩:=ab3 r
 cases d
 have hn:=agl
 rcases b with b|b
 ·obtain⟨its,c,pl,hz⟩:=I.list b
  have a:=c.length
  exact Calls.call_len_list pl.isList (by simp only[aB2] <;> lia) ⟨.int ys.length,H,I.tok _,⟨s.toks+1,by rw[aB2,a]⟩,q⟩
 ·obtain⟨its,c,pl,hz⟩:=I.tuple b
  have a:=c.length
  exact len_tuple pl (by simp only[aB2] <;> lia) ⟨.int ys.length,H,I.tok _,⟨s.toks+1,by rw[aB2,a]⟩,q⟩
theorem amb:aa2 X (.type "list") (λxs H Q=>∃ p ys,xs=[.ref p]/\(SqL X.K H p ys\/SqT X.K H p ys)/\∀ l,H l=none->Q (.ref l) (upd H l (.lst ys))):=by
 intro pins s σ H xs us Q I r h
 obtain⟨p,ys,rfl,d,q⟩:=h
 obtain⟨u,rfl,j⟩:=ab3 r
 cases j
 have fin:∀(its:List Value),Vals ys its->ys.length<=sizeLine->∀(h':Heap)(c:Nat),(∀ b o',s.heap.get? b=some o'->h'.get? b=some o') ->
   h'.get? s.heap.objs.size=some { cls:=.type "list",dict:=none,data:=.seq its.toArray c,slots:=#[] }->EP X pins σ Q (.ref s.heap.objs.size) { s with heap:=h' }:=λits a hz h' c kp e =>
  ⟨.ref s.heap.objs.size,_,I.laid (t':=s.toks) kp (aA6 _) (show ObjOk X.prog X.w _ h' _ (.lst ys) from⟨hz,its,c,a,e⟩),rfl,q _ (I.hok.fresh (aA6 _))⟩
 rcases d with d|d
 ·obtain⟨its,a,pl,hz⟩:=I.list d
  have f:=a.length
  obtain⟨o,g,i,n,hd⟩:=pl.isList
  exact call_list_seq p (.inl rfl) g i hd (λh' c kp e=>fin its a hz h' c kp e) (by simp only[aB2] <;> lia)
 ·obtain⟨its,a,pl,hz⟩:=I.tuple d
  have f:=a.length
  obtain⟨o,g,i,n,hd⟩:=pl
  exact call_list_seq p (.inr rfl) g i hd (λh' c kp e=>fin its a hz h' c kp e) (by simp only[aB2] <;> lia)
def tyV(K:Frag)(T:String)(x:V)(H:Hp):Prop:=match x with
 | .str _=>T = "str"
 | .int _=>T = "int"
 | .ref p=>(T = "list"/\∃ xs,SqL K H p xs)\/(T = "tuple"/\∃ o,K.lookup p=some o/\o.cls=.type "tuple"/\o.dict=none) ∨
   (T = "dict"/\((∃ kvs,H p=some (.dK kvs))\/∃ kvs,H p=some (.dT kvs)))\/(T = "set"/\∃ S n,H p=some (.set S n))
 |_=>False
theorem az7{pins:List (Addr × Obj)}{σ:St}{H:Hp}{s:Shared}{T:String}{x:V}{v:Value}(I:Inv X pins σ H s)(r:RelV x v)(ty:tyV X.K T x H) :
  s.TypeIs v T/\∀ a,v=.ref a->∃ f,s.heap.get? a=some f/\f.dict=none:=by
 cases x with
 | str z =>
  obtain⟨t,rfl⟩:=r
  cases (show T = "str" from ty)
  exact⟨typeIs_str s z t,λ_ e=>nomatch e⟩
 | int i =>
  obtain⟨t,rfl⟩:=r
  cases (show T = "int" from ty)
  exact⟨typeIs_int s i t,λ_ e=>nomatch e⟩
 | ref p =>
  cases r
  rcases ty with ⟨rfl,xs,g⟩|⟨rfl,o,b,h,hd⟩|⟨rfl,b⟩|⟨rfl,S,n,b⟩
  ·obtain⟨its,_,pl,_⟩:=I.list g
   refine⟨pl.isList.typeIs,λa e=>?_⟩
   cases e
   obtain⟨o,n,e,c,hd,_⟩:=pl
   exact⟨o,e,hd⟩
  ·refine⟨⟨o,I.kIn p o b,h⟩,λa e=>?_⟩
   cases e
   exact⟨o,I.kIn _ o b,hd⟩
  ·have z:∃ o,s.heap.get? p=some o/\o.ExactDict:=by
    rcases b with ⟨kvs,b⟩|⟨kvs,b⟩
    ·obtain⟨_,_,_,_,o,_,_,e,ex,_⟩:=I.hok p _ b
     exact⟨o,e,ex⟩
    ·obtain⟨_,_,_,_,o,_,_,e,ex,_⟩:=I.hok p _ b
     exact⟨o,e,ex⟩
   obtain⟨o,e,ex⟩:=z
   refine⟨⟨o,e,ex.1⟩,λa d=>?_⟩
   cases d
   exact⟨o,e,ex.2.1⟩
  ·obtain⟨o,_,_,_,e,ex,_⟩:=I.hok p _ b
   refine⟨⟨o,e,ex.1⟩,λa d=>?_⟩
   cases d
   exact⟨o,e,ex.2.1⟩
 |_=>exact False.elim ty
def tBM(K:Frag)(T:String)(r:V->List V->Hp->VK->Prop)(to:TE)(t:TA):TE:=λσ H Q=>to σ H λx H1=>tyV K T x H1/\t σ H1 λxs H2=>r x xs H2 Q
variable{o e:Expr}{es:List Expr}{to:TE}{t:TA}{name:Str}{apos cpos:Pos}{T id:String}{r:V->List V->Hp->VK->Prop}
theorem adl(y:PlainAttrs T)(slot:Slot T name id)(g:typeOf (.builtin id)=pure (.type "method_descriptor"))(hm:MtR X id r)(p:PE X o to)(ha:PA X (e::es) t)
  (c:attributeBase o name X.env (eval o X.env)=eval o X.env:=by rfl)
  (f:((backTo cpos (starEach (e::es) X.env)).all (λx=>!x.1) && (backToKw cpos (keywordEach [] X.env)).all (λx=>x.1.isSome)
   && decide ((e::es).length+([]:List Keyword).length+(if ([]:List Keyword).isEmpty then 0 else 1)<30))=true:=by rfl)
  (d:(apos.endLine == cpos.line)=true:=by rfl) (hs:starEach (e::es) X.env=(false,eval e X.env)::starEach es X.env:=by rfl) (b:(backTo cpos (starEach es X.env)).any (·.1)=false:=by rfl) :
  PE X (.Call (.Attribute o name apos) (e::es) [] cpos) (tBM X.K T r to t):=by
 intro pins s σ H Q I h
 refine wpAny_Call_method_late c f d rfl (thn (p pins s σ H _ I h) λv s1 ⟨x,q,l,i,ty,m⟩=>?_)
 obtain⟨u,A⟩:=az7 l i ty
 refine⟨T,id,y,slot,g,u,A,?_⟩
 have j:=ha cpos pins s1 σ q _ l m
 rw[hs] at j ⊢
 refine Calls.callWith_builtin (by show(false || (backTo cpos (starEach es X.env)).any (·.1))=false;rw[b] <;> rfl) (Calls.evalArgs_plain ?_)
 exact thn j λus s2 ⟨vs,H2,n,w,z⟩=>hm pins s2 σ H2 x vs v us Q n i w z
/- xs.append(e), list.index on a module's tuple .. are MtR facts of 06m -/
end
def MtM(X:Cx)(id:String)(r:V->List V->Hp->VK->Prop):Prop :=
 ∀(pins:List (Addr × Obj))(s:Shared)(σ:St)(H:Hp)(x:V)(xs:List V)(v:Value)(us:List Value)(Q:VK),Inv X pins σ H s->RelV x v->Vals xs us->r x xs H Q ->
  wpAny (model X.prog X.w) X.A (call (.builtin id) (v::us)) (EP X pins σ Q) X.xe s
theorem Vals.one:∀{x:V}{us:List Value},Vals [x] us->∃ u,us=[u]/\RelV x u
 |_,_,.cons r .nil=>⟨_,rfl,r⟩
theorem Vals.eraseIdx:∀{xs:List V}{us:List Value}(i:Nat),Vals xs us->Vals (xs.eraseIdx i) (us.eraseIdx i)
 |_,_,_,.nil=>.nil
 |_,_,0,.cons _ t=>t
 |_,_,i+1,.cons r t=>.cons r (Vals.eraseIdx i t)
theorem Vals.rep{xs:List V}{us:List Value}(h:Vals xs us):∀ k:Nat,Vals (List.replicate k xs).flatten (List.replicate k us).flatten
 |0=>.nil
 | k+1=>by
  rw[aH3,aH3,List.flatten_cons,List.flatten_cons]
  exact Vals.append h (Vals.rep h k)
theorem aj7{α:Type}:∀(l:List α)(i:Nat),(l.eraseIdx i).length<=l.length
 |[],_=>aA6 _
 |_::_,0=>Nat.le_succ _
 |_::r,i+1=>Nat.succ_le_succ (aj7 r i)
theorem aj8(its:List Value):∀(k:Nat)(a:List Value),
  List.foldl (λb d=>b++d) a.toArray (List.replicate k its.toArray)=(a++(List.replicate k its).flatten).toArray
 |0,a=>by simp
 | k+1,a=>by
  have e:a.toArray++its.toArray=(a++its).toArray:=by simp
  have c:(a++its)++(List.replicate k its).flatten=a++(List.replicate (k+1) its).flatten:=by
   rw[aH3,List.flatten_cons,aB4]
  rw[← c,← aj8 its k (a++its),← e,aH3,List.foldl_cons]
section
variable{X:Cx}{pins:List (Addr × Obj)}{σ:St}{H:Hp}{s:Shared}{l b:Addr}{xs ys zs:List V}
theorem Inv.lset{its its':List Value}{n:Nat}{f:Array Value->Array Value}{t':Nat}(I:Inv X pins σ H s)(a:H l=some (.lst xs))
  (e:s.heap.get? l=some { cls:=.type "list",data:=.seq its.toArray n }) (hf:f its.toArray=its'.toArray) (c:Vals ys its') (hz:ys.length<=sizeLine) :
  Inv X pins σ (upd H l (.lst ys)) { s with heap:=s.heap.update l (Obj.mapSeq f),toks:=t' }:=by
 have q:=PySem.IsL.update e f
 rw[hf] at q
 refine I.write (x:=l) (e:=l) (by rw[a];exact trivial) (.inl rfl) (λd u hb b=>(aJ9 s.heap (Obj.mapSeq f) (Ne.symm hb)).trans b) ⟨_,q⟩ ?_
 exact⟨hz,its',_,c,q⟩
theorem Inv.lnew{its:List Value}{t':Nat}(I:Inv X pins σ H s)(a:Vals ys its)(hz:ys.length<=sizeLine) :
  Inv X pins σ (upd H s.heap.objs.size (.lst ys)) { s with heap:=s.heap.push { cls:=.type "list",data:=.seq its.toArray },toks:=t' } :=
 I.laid (λ_ _ q=>aJ3 _ q) (aA6 _) ⟨hz,its,0,a,aJ5 _ rfl⟩
theorem Inv.fresh(I:Inv X pins σ H s):H s.heap.objs.size=none:=I.hok.fresh (aA6 _)
theorem Inv.lstM(I:Inv X pins σ H s)(a:H l=some (.lst xs)):xs.length<=sizeLine/\∃(its:List Value)(n:Nat),Vals xs its/\xs.length=its.length/\s.heap.get? l=some { cls:=.type "list",data:=.seq its.toArray n }:=by
 obtain⟨z,its,n,r,e⟩:=I.hok l _ a
 exact⟨z,its,n,r,r.length,e⟩
theorem amc{n:Nat}(h:n<=sizeLine):Builtin.List.listTooLong n=false:=by
 unfold Builtin.List.listTooLong
 exact aD7 (by lia)
end
section
variable{X:Cx}
def aej:V->List V->Hp->VK->Prop:=λx vs H Q=>∃ l xs y,x=.ref l/\vs=[y]/\H l=some (.lst xs)/\xs.length<sizeLine/\Q .non (upd H l (.lst (xs++[y])))
theorem abt:MtM X "list.append" aej:=by
 intro pins s σ H x vs v us Q I c b h
 obtain⟨l,xs,y,rfl,rfl,a,hz,q⟩:=h
 cases c
 obtain⟨u,rfl,d⟩:=b.one
 obtain⟨z,its,n,r,f,e⟩:=I.lstM a
 refine call_meets F.slot_list_append ⟨_,e,rfl⟩ F.entry_list_append (F.args_list_append_2 _ _) (PySem.list_append l its.toArray n u (by rw[aB2];lia)) ⟨e,?_⟩
 refine⟨.non,_,I.lset (its':=its++[u]) a e (by simp) (r.append (.cons d .nil)) ?_,rfl,q⟩
 rw[aB1,List.length_singleton]
 lia
def ai9:V->List V->Hp->VK->Prop:=λx vs H Q=>∃ l b xs zs,x=.ref l/\vs=[.ref b]/\H l=some (.lst xs)/\H b=some (.lst zs)/\xs.length+zs.length<=sizeLine/\Q .non (upd H l (.lst (xs++zs)))
theorem asi:MtM X "list.extend" ai9:=by
 intro pins s σ H x vs v us Q I i g h
 obtain⟨l,b,xs,A,rfl,rfl,d,m,hz,q⟩:=h
 cases i
 obtain⟨u,rfl,w⟩:=g.one
 cases w
 obtain⟨z,its,n,r,y,e⟩:=I.lstM d
 obtain⟨B,a,o,p,f,j⟩:=I.lstM m
 have hsz:its.toArray.size+a.toArray.size<=sizeLine:=by rw[aB2,aB2];lia
 have c:¬ (!its.toArray.isEmpty && Builtin.List.listTooLong (its.toArray.size+a.toArray.size))=true:=by
  rw[amc hsz,Bool.and_false]
  exact aB0
 refine call_meets F.slot_list_extend ⟨_,e,rfl⟩ F.entry_list_extend (F.args_list_extend_2 _ _)
  (AutoSeq1.list_extend_list_list_0 l its.toArray n b a.toArray o c (by rw[aB2];lia) (by lia)) ⟨e,j,?_⟩
 refine⟨.non,_,I.lset (its':=its++a) d e (by simp) (r.append p) ?_,rfl,q⟩
 rw[aB1]
 lia
def amd:V->List V->Hp->VK->Prop:=λx vs H Q=>∃ l xs i k y,x=.ref l/\vs=[.int i]/\H l=some (.lst xs)/\-(2 ^ 63)<=i/\i<2 ^ 63/\seqIndex? i xs.length=some k/\xs[k]?=some y/\Q y (upd H l (.lst (xs.eraseIdx k)))
theorem auv:MtM X "list.pop" amd:=by
 intro pins s σ H x vs v us Q I j f h
 obtain⟨l,xs,i,k,y,rfl,rfl,b,m,p,d,o,q⟩:=h
 cases j
 obtain⟨u,rfl,A⟩:=f.one
 obtain⟨t,rfl⟩:=A
 obtain⟨z,its,n,r,c,e⟩:=I.lstM b
 obtain⟨w,g,a⟩:=r.get o
 refine call_meets F.slot_list_pop ⟨_,e,rfl⟩ F.entry_list_pop (F.args_list_pop_2 _ _)
  (MeetsSeq.list_pop_at l its.toArray n i t k w (fitsIndex_both m p) (by rw[aB2,← c];exact d) (by rw[← aD6];exact g) (by rw[aB2];lia)) ⟨e,?_⟩
 refine⟨y,_,I.lset (its':=its.eraseIdx k) b e ?_ (r.eraseIdx k) ?_,a,q⟩
 ·show its.toArray.eraseIdxIfInBounds k=(its.eraseIdx k).toArray
  rw[List.eraseIdxIfInBounds_toArray]
 ·have:=aj7 xs k
  lia
def rCat:R2:=λx y H Q=>∃ l b xs zs,x=.ref l/\y=.ref b/\H l=some (.lst xs)/\H b=some (.lst zs)/\xs.length+zs.length<=sizeLine/\∀ p,H p=none->Q (.ref p) (upd H p (.lst (xs++zs)))
theorem afo:OpR X (binaryOp .Add) rCat:=by
 intro pins s σ H x y v u Q I g f h
 obtain⟨l,b,xs,w,rfl,rfl,o,j,hz,q⟩:=h
 cases g
 cases f
 obtain⟨z,its,n,r,p,e⟩:=I.lstM o
 obtain⟨A,a,B,m,c,i⟩:=I.lstM j
 refine PySem.P.add_list e i ?_ (by rw[aB2,aB2];lia)
 have d:its.toArray++a.toArray=(its++a).toArray:=by simp
 rw[d]
 exact⟨.ref _,_,I.lnew (t':=s.toks) (r.append m) (by rw[aB1];lia),rfl,q _ I.fresh⟩
def rRep:R2:=λx y H Q=>∃ l k xs,x=.ref l/\y=.int k/\H l=some (.lst xs)/\-(2 ^ 63)<=k/\k<2 ^ 63/\xs.length * k.toNat<=sizeLine /\
 ∀ p,H p=none->Q (.ref p) (upd H p (.lst (List.replicate k.toNat xs).flatten))
theorem ao1{α:Type}(xs:List α)(k:Nat):(List.replicate k xs).flatten.length=k * xs.length:=by
 induction k with
 |zero=>simp
 |succ k ih=>rw[aH3,List.flatten_cons,aB1,ih,Nat.succ_mul,Nat.add_comm]
theorem asj:OpR X (binaryOp .Mult) rRep:=by
 intro pins s σ H x y v u Q I w p h
 obtain⟨l,k,xs,rfl,rfl,C,B,D,hz,q⟩:=h
 cases w
 obtain⟨t,rfl⟩:=p
 obtain⟨z,its,n,r,o,e⟩:=I.lstM C
 have g:its.toArray.size * k.toNat<=sizeLine:=by rw[aB2,← o];exact hz
 have d:¬ its.toArray.size * k.toNat > (2 ^ 63-1) / 8:=by
  have:(sizeLine:Nat)<=(2 ^ 63-1) / 8:=by decide
  lia
 have f:¬ (!Builtin.List.listFitsIndex k)=true:=by
  rw[fitsIndex_both B D]
  exact aB0
 have b:¬ Builtin.List.listTooLong (its.toArray.size * k.toNat)=true:=by
  rw[amc g]
  exact aB0
 have c:List.foldl (λi j=>i++j) #[] (List.replicate (if its.toArray.isEmpty=true then 0 else k.toNat) its.toArray)=(List.replicate k.toNat its).flatten.toArray:=by
  have A:∀ m:Nat,List.foldl (λi j=>i++j) #[] (List.replicate m its.toArray)=(List.replicate m its).flatten.toArray:=λm=>by
   have:=aj8 its m []
   rw[List.nil_append] at this
   exact this
  rw[A]
  cases its with
  |nil=>simp
  |cons a r'=>rw[aF6 (by simp)]
 refine wpAny_binaryOp_repeat_ref (T:="list") (U:="int") (by decide) ⟨_,e,rfl⟩ (λs'=>typeIs_int s' k t) noFill_list_mul F.fills_int_mul F.slot_int_rmul repeat_list F.slot_int_index.lookup
  (call_meets F.slot_int_rmul (typeIs_int s k t) F.entry_int_rmul (F.args_int_rmul_2 _ _) (int___rmul___int_list k t l its.toArray n)
   ⟨e,rfl,⟨_,e,rfl⟩,call_meets F.slot_list_mul ⟨_,e,rfl⟩ F.entry_list_mul (F.args_list_mul_2 _ _) (AutoListH.list___mul___list_int_3 l its.toArray n k t f d b) ⟨e,?_⟩⟩)
 rw[c]
 exact⟨.ref _,_,I.lnew (t':=s.toks) (r.rep k.toNat) (by rw[ao1,Nat.mul_comm];exact hz),rfl,q _ I.fresh⟩
end
section
variable{prog:Program}{w:World}{A:Around}{E:Value->Shared->Prop}{s:Shared}
end
section
variable{X:Cx}
end
section
variable{κ:Type} [DecidableEq κ]
def valV(kvs:List (κ × V))(k : κ):Option V:=(kvs.find? λkv=>decide (kv.1=k)).map (·.2)
def putK(kvs:List (κ × V))(k : κ)(v:V):List (κ × V) :=
 if (kvs.any λkv=>decide (kv.1=k))=true then kvs.map (λkv=>if kv.1=k then (kv.1,v) else kv) else kvs++[(k,v)]
def awy(kvs:List (κ × V))(k : κ):List (κ × V):=kvs.filter λkv=>decide (kv.1 ≠ k)
theorem af0{p : κ × V}{r:List (κ × V)}{k : κ}(e:p.1=k):valV (p::r) k=some p.2:=by simp[valV,List.find?_cons,e]
theorem af1{p : κ × V}{r:List (κ × V)}{k : κ}(e:¬ p.1=k):valV (p::r) k=valV r k:=by simp[valV,List.find?_cons,e]
theorem ame(k : κ):∀ kvs:List (κ × V),(kvs.any λa=>decide (a.1=k))=(valV kvs k).isSome
 |[]=>rfl
 | p::r=>by
  rw[List.any_cons]
  by_cases e:p.1=k
  ·simp only[af0 e,aD8 e,Bool.true_or,Option.isSome_some]
  ·rw[af1 e,aD7 e,Bool.false_or];exact ame k r
theorem afd(kvs:List (κ × V))(k : κ)(v:V):(putK kvs k v).length<=kvs.length+1:=by
 unfold putK
 split
 ·rw[aA3];lia
 ·rw[aB1,aE4,aJ0];lia
theorem RelO.isSome_eq{o:Option V}{u:Option Value}(r:RelO o u):o.isSome=u.isSome:=by
 cases o with
 | none=>cases u with
  |none=>rfl
  |some _=>exact(show False from r).elim
 | some _=>cases u with
  |none=>exact(show False from r).elim
  |some _=>rfl
theorem RelO.getD{o:Option V}{u:Option Value}{d:V}{d':Value}(r:RelO o u)(a:RelV d d'):RelV (o.getD d) (u.getD d'):=by
 cases o with
 | none=>cases u with
  |none=>exact a
  |some _=>exact(show False from r).elim
 | some _=>cases u with
  |none=>exact(show False from r).elim
  |some _=>exact r
theorem KV.val{kvs:List (κ × V)}{vs:List (κ × Value)}(r:KV kvs vs)(k : κ):RelO (valV kvs k) (valueAt vs k):=by
 unfold KV at r
 induction r with
 |nil=>exact True.intro
 | @cons p q ps qs h t ih =>
  obtain⟨c,d⟩:=h
  by_cases e:p.1=k
  ·have a:q.1=k:=c.symm.trans e
   have b:valueAt (q::qs) k=some q.2:=by simp[valueAt,List.find?_cons,a]
   rw[af0 e,b];exact d
  ·have a:¬ q.1=k:=λz=>e (c.trans z)
   have b:valueAt (q::qs) k=valueAt qs k:=by simp[valueAt,List.find?_cons,a]
   rw[af1 e,b];exact ih
theorem KV.any{kvs:List (κ × V)}{vs:List (κ × Value)}(r:KV kvs vs)(k : κ):(kvs.any λa=>decide (a.1=k))=vs.any λa=>decide (a.1=k):=by
 unfold KV at r
 induction r with
 |nil=>rfl
 |cons h t ih=>rw[List.any_cons,List.any_cons,ih,h.1]
theorem KV.repl{kvs:List (κ × V)}{vs:List (κ × Value)}(r:KV kvs vs)(k : κ){y:V}{u:Value}(d:RelV y u) :
  KV (kvs.map λa=>if a.1=k then (a.1,y) else a) (vs.map λa=>if a.1=k then (a.1,u) else a):=by
 unfold KV at r ⊢
 induction r with
 |nil=>exact .nil
 | @cons p q ps qs h t ih =>
  rw[aD1,aD1]
  refine .cons ?_ ih
  obtain⟨b,c⟩:=h
  by_cases e:p.1=k
  ·rw[aF5 e,aF5 (b.symm.trans e)];exact⟨b,d⟩
  ·rw[aF6 e,aF6 (λz=>e (b.trans z))];exact⟨b,c⟩
theorem KV.put{kvs:List (κ × V)}{vs:List (κ × Value)}(r:KV kvs vs)(k : κ){y:V}{u:Value}(a:RelV y u):KV (putK kvs k y) (stored vs k u):=by
 unfold putK stored
 rw[r.any k]
 by_cases e:(vs.any λb=>decide (b.1=k))=true
 ·rw[aF5 e,aF5 e];exact r.repl k a
 ·rw[aF6 e,aF6 e];exact Paired.snoc r ⟨rfl,a⟩
theorem KV.length{kvs:List (κ × V)}{vs:List (κ × Value)}(r:KV kvs vs):kvs.length=vs.length:=Paired.length r
end
theorem aha{P:Program}{w:World}{k:Key}{u:Value}(r:RelV (kV k) u):(aa4 P w).is k u=true:=by
 cases k with
 |inl i=>obtain⟨t,e⟩:=(show ∃ t,u=Value.int i t from r);subst e;exact ahz P w i t
 |inr x=>obtain⟨t,e⟩:=(show ∃ t,u=Value.str x t from r);subst e;exact aoe P w x t
theorem aj9{P:Program}{w:World}:∀{ks:List Key}{us:List Value},Vals (ks.map kV) us->ItemsAre (aa4 P w) ks us
 |[],_,r=>by rw[List.map_nil] at r;cases r;exact .nil
 | k::ks,_,r=>by
  rw[aD1] at r
  cases r with
  |cons h t=>exact .cons (aha h) (aj9 t)
abbrev KT(H:Hp):List (List Key × V)->List (List Key × Addr × Value)->Prop:=Paired λp q=>p.1=q.1/\H q.2.1=some (.tup (p.1.map kV))/\RelV p.2 q.2.2
theorem KT.val{H:Hp}{kvs:List (List Key × V)}{xs:List (List Key × Addr × Value)}(r:KT H kvs xs)(k:List Key):RelO (valV kvs k) ((atKey xs k).map (·.2)):=by
 induction r with
 |nil=>exact True.intro
 | @cons p q ps qs h t ih =>
  obtain⟨c,_,d⟩:=h
  by_cases e:p.1=k
  ·have a:q.1=k:=c.symm.trans e
   have b:atKey (q::qs) k=some q.2:=by simp[atKey,List.find?_cons,a]
   rw[af0 e,b];exact d
  ·have a:¬ q.1=k:=λz=>e (c.trans z)
   have b:atKey (q::qs) k=atKey qs k:=by simp[atKey,List.find?_cons,a]
   rw[af1 e,b];exact ih
theorem KT.repl{H:Hp}{kvs:List (List Key × V)}{xs:List (List Key × Addr × Value)}(r:KT H kvs xs)(k:List Key){y:V}{u:Value}(f:RelV y u) :
  KT H (kvs.map λb=>if b.1=k then (b.1,y) else b) (xs.map (putAt k u)):=by
 induction r with
 |nil=>exact .nil
 | @cons p q ps qs h t ih =>
  rw[aD1,aD1]
  refine .cons ?_ ih
  obtain⟨a,c,d⟩:=h
  unfold putAt
  by_cases e:p.1=k
  ·rw[aF5 e,aF5 (a.symm.trans e)];exact⟨a,c,f⟩
  ·rw[aF6 e,aF6 (λz=>e (a.trans z))];exact⟨a,c,d⟩
theorem KT.put{H:Hp}{kvs:List (List Key × V)}{xs:List (List Key × Addr × Value)}(r:KT H kvs xs)(k:List Key){b:Addr}{y:V}{u:Value}(hb:H b=some (.tup (k.map kV)))(a:RelV y u) :
  KT H (putK kvs k y) (storedH xs k b u):=by
 have e:(kvs.any λc=>decide (c.1=k))=(atKey xs k).isSome:=by
  rw[ame,(r.val k).isSome_eq,Option.isSome_map]
 unfold putK storedH
 rw[e]
 by_cases q:(atKey xs k).isSome=true
 ·rw[aF5 q,aF5 q];exact r.repl k a
 ·rw[aF6 q,aF6 q];exact Paired.snoc r ⟨rfl,hb,a⟩
theorem KT.keeps{H H':Hp}{kvs:List (List Key × V)}{xs:List (List Key × Addr × Value)}(r:KT H kvs xs)(a:∀ b ys,H b=some (.tup ys)->H' b=some (.tup ys)):KT H' kvs xs :=
 Paired.mapP r λ_ _ z=>⟨z.1,a _ _ z.2.1,z.2.2⟩
section
variable{P:Program}{w:World}{H:Hp}{h:Heap}{a:Addr}
theorem awz{u:HO}(ok:HOk P w H h)(e:Rd H a u):ObjOk P w H h a u:=e.ok ok
theorem af2{kvs:List (Key × V)}(ok:HOk P w H h)(e:Rd H a (.dK kvs)):kvs.length<=sizeLine/\(a == sysModules)=false/\∃ vs,KV kvs vs/\h.DictOf (aa4 P w) a vs :=
 show ObjOk P w H h a (.dK kvs) from awz ok e
theorem aw0{kvs:List (Key × V)}(ok:HOk P w H h)(e:H a=some (.dK kvs)):kvs.length<=sizeLine/\(a == sysModules)=false/\∃ vs,KV kvs vs/\h.DictOf (aa4 P w) a vs:=af2 ok (.inl e)
theorem aes{ks:List Key}(ok:HOk P w H h)(e:H a=some (.tup (ks.map kV))):(tupleKind (aa4 P w)).is h ks a:=by
 obtain⟨_,its,r,o,b,c,n,d⟩:=(show ObjOk P w H h a (.tup (ks.map kV)) from ok a _ e)
 exact⟨o,its.toArray,n,b,c,d,by simpa using aj9 r⟩
theorem ahb{kvs:List (List Key × V)}(ok:HOk P w H h)(e:Rd H a (.dT kvs)):kvs.length<=sizeLine/\(a == sysModules)=false /\
  ∃ xs,KT H kvs xs/\h.DictOfH (tupleKind (aa4 P w)) a xs:=by
 obtain⟨z,y,xs,r,o,es,ep,f,i,g,c,d⟩:=(show ObjOk P w H h a (.dT kvs) from awz ok e)
 refine⟨z,y,xs,r,o,es,ep,f,i,g,c,λx b=>?_,d⟩
 have all:∀{l:List (List Key × V)}{m:List (List Key × Addr × Value)},KT H l m->∀ x∈m,(tupleKind (aa4 P w)).is h x.1 x.2.1:=by
  intro l m q
  induction q with
  |nil=>intro x b;exact nomatch b
  | @cons p q ps qs hq t ih =>
   intro x b
   rcases aA9.mp b with e|b
   ·subst e
    exact aes ok (by rw[← hq.1];exact hq.2.1)
   ·exact ih x b
 exact all r x b
theorem aig{kvs:List (List Key × V)}(ok:HOk P w H h)(e:H a=some (.dT kvs)):kvs.length<=sizeLine/\(a == sysModules)=false /\
  ∃ xs,KT H kvs xs/\h.DictOfH (tupleKind (aa4 P w)) a xs:=ahb ok (.inl e)
end
def DGet(H:Hp)(a:Addr)(y:V)(r:Option V):Prop :=
 (∃ kvs k,Rd H a (.dK kvs)/\y=kV k/\r=valV kvs k)\/∃ kvs k b,Rd H a (.dT kvs)/\y=.ref b/\H b=some (.tup (k.map kV))/\r=valV kvs k
def DPut(H:Hp)(a:Addr)(y v:V)(H':Hp):Prop :=
 (∃ kvs k,H a=some (.dK kvs)/\y=kV k/\kvs.length<sizeLine/\H'=upd H a (.dK (putK kvs k v))) ∨
 ∃ kvs k b,H a=some (.dT kvs)/\y=.ref b/\H b=some (.tup (k.map kV))/\kvs.length<sizeLine/\H'=upd H a (.dT (putK kvs k v))
theorem DGet.k{H:Hp}{a:Addr}{kvs:List (Key × V)}{k:Key}(e:H a=some (.dK kvs)):DGet H a (kV k) (valV kvs k):=.inl ⟨kvs,k,.inl e,rfl,rfl⟩
theorem DPut.k{H:Hp}{a:Addr}{kvs:List (Key × V)}{k:Key}{v:V}(e:H a=some (.dK kvs))(b:kvs.length<sizeLine):DPut H a (kV k) v (upd H a (.dK (putK kvs k v))):=.inl ⟨kvs,k,e,rfl,b,rfl⟩
theorem DPut.t{H:Hp}{a b:Addr}{kvs:List (List Key × V)}{k:List Key}{v:V}(e:H a=some (.dT kvs))(d:H b=some (.tup (k.map kV)))(c:kvs.length<sizeLine) :
  DPut H a (.ref b) v (upd H a (.dT (putK kvs k v))):=.inr ⟨kvs,k,b,e,rfl,d,c,rfl⟩
section
variable{X:Cx}{pins:List (Addr × Obj)}{σ:St}{H:Hp}{s:Shared}{a:Addr}{y v:V}{u r:Value}{o:Option V}{A:Around}{E:Value->Shared->Prop}
theorem Inv.big(I:Inv X pins σ H s):sysModules<s.heap.objs.size:=by
 have h:mainGlobals<s.heap.objs.size:=(I.mod.glob.keeps I.bk).lt
 exact Nat.lt_trans (by decide) h
theorem asl{Q:Value->Shared->Prop}(x:A.units+1<cLine)(I:Inv X pins σ H s)(g:DGet H a y (some v))(n:RelV y u)(h:∀ f s',Inv X pins σ H s'->RelV v f->Q f s') :
  wpAny (model X.prog X.w) A (getItem (.ref a) u) Q E s:=by
 rcases g with ⟨kvs,k,e,i,l⟩|⟨kvs,k,b,e,i,r,l⟩
 ·subst i
  obtain⟨z,hd,vs,d,dd⟩:=af2 I.hok e
  obtain⟨f,j,c⟩:=RelO.some_of (v:=v) (o:=valueAt vs k) (by rw[l];exact d.val k)
  exact wpAny_getItem_of (aha n) dd.mapOf j (h f _ (I.tok _) c)
 ·subst i
  cases (show u=Value.ref b from n)
  obtain⟨z,hd,xs,d,dd⟩:=ahb I.hok e
  obtain⟨f,j,c⟩:=RelO.some_of (v:=v) (o:=(atKey xs k).map (·.2)) (by rw[l];exact d.val k)
  obtain⟨p,q,m⟩:=Option.map_eq_some_iff.mp j
  refine wpAny_getItem_heap (tupleKind_room_in1 x) (aes I.hok r) dd q ?_
  rw[m]
  exact h f _ (I.tok _) c
theorem axl{Q:Value->Shared->Prop}(j:A.units+1<cLine)(I:Inv X pins σ H s)(g:DGet H a y o)(f:RelV y u)(h:∀ s',Inv X pins σ H s'->Q (.bool (!o.isSome)) s') :
  wpAny (model X.prog X.w) A (compareOp .NotIn u (.ref a)) Q E s:=by
 rcases g with ⟨kvs,k,e,d,l⟩|⟨kvs,k,b,e,d,i,l⟩
 ·subst d
  obtain⟨z,hd,vs,c,dd⟩:=af2 I.hok e
  refine wpAny_notIn_of (aha f) hd dd.mapOf ?_
  rw[← (c.val k).isSome_eq,← l]
  exact h _ (I.tok _)
 ·subst d
  cases (show u=Value.ref b from f)
  obtain⟨z,hd,xs,c,dd⟩:=ahb I.hok e
  refine wpAny_notIn_heap (tupleKind_room_in1 j) (aes I.hok i) hd dd ?_
  have q:=(c.val k).isSome_eq
  rw[Option.isSome_map] at q
  rw[← q,← l]
  exact h _ (I.tok _)
theorem ahc{h':Heap}{t':Nat}{c:HO}(I:Inv X pins σ H s)(d:Mut (H a))(hs:Heap.SameBut a s.heap h')(f:∃ q,h'.get? a=some q)(new:ObjOk X.prog X.w (upd H a c) h' a c) :
  Inv X pins σ (upd H a c) { s with heap:=h',toks:=t' } :=
 I.write (x:=a) (e:=a) d (.inl rfl) (λb q hb z=>(hs.2 b hb).trans z) f new
theorem asm{P:Program}{w:World}{H':Hp}{h':Heap}{kvs:List (Key × V)}{vs:List (Key × Value)}(z:kvs.length<=sizeLine)(hd:(a == sysModules)=false)(b:KV kvs vs)(dd:h'.DictOf (aa4 P w) a vs) :
  ObjOk P w H' h' a (.dK kvs):=⟨z,hd,vs,b,dd⟩
theorem asn{H':Hp}{Q:Unit->Shared->Prop}(F:A.units+1<cLine)(I:Inv X pins σ H s)(g:DPut H a y v H')(o:RelV y u)(p:RelV v r)(h:∀ s',Inv X pins σ H' s'->Q () s') :
  wpAny (model X.prog X.w) A (setItem (.ref a) u r) Q E s:=by
 rcases g with ⟨kvs,k,e,m,l,n⟩|⟨kvs,k,b,e,m,x,l,n⟩
 ·subst m n
  obtain⟨z,hd,vs,d,dd⟩:=aw0 I.hok e
  have hz:vs.length<=sizeLine:=by rw[← d.length];exact z
  have j:(putK kvs k v).length<=sizeLine:=by have:=afd kvs k v;lia
  refine wpAny_setItem_pairs (hsz:=hz) (aha o) dd λh' f hs=>h _ ?_
  have K:∃ q,h'.get? a=some q:=let ⟨q,_,_,i,_⟩:=f;⟨q,i⟩
  exact ahc I (by rw[e];exact True.intro) hs K (asm j hd (d.put k p) f)
 ·subst m n
  cases (show u=Value.ref b from o)
  obtain⟨z,hd,xs,d,dd⟩:=aig I.hok e
  have hz:xs.length<=sizeLine:=by rw[← Paired.length d];exact z
  have j:(putK kvs k v).length<=sizeLine:=by have:=afd kvs k v;lia
  refine wpAny_setItem_heap (hsz:=hz) (tupleKind_room_in1 F) (aes I.hok x) dd λh' f hs=>h _ ?_
  obtain⟨q,es,ep,i,J,G,C,_,D⟩:=f
  refine ahc I (by rw[e];exact True.intro) hs ⟨q,i⟩ ⟨j,hd,_,(d.put k x p).keeps λc ys B=>?_,q,es,ep,i,J,G,C,D⟩
  rw[aae (aws B e (λz=>nomatch z))]
  exact B
end
section
variable{X:Cx}{pins:List (Addr × Obj)}{σ:St}{H:Hp}{s:Shared}{a:Addr}{kvs:List (Key × V)}{k:Key}{u:Value}{A:Around}{E:Value->Shared->Prop}
theorem a2l{Q:Value->Shared->Prop}(I:Inv X pins σ H s)(e:Rd H a (.dK kvs))(h:∀ t s',Inv X pins σ H s'->Q (.int kvs.length t) s'):wpAny (model X.prog X.w) A (call (.builtin "len") [.ref a]) Q E s:=by
 obtain⟨z,hd,vs,b,dd⟩:=af2 I.hok e
 refine call_len_dict hd dd (by rw[← b.length];rw[sizeLine_eq] at z;lia) ?_
 rw[← b.length]
 exact h _ _ (I.tok _)
end
def NoSl(i:Expr):Prop:=∀ ov iv,subscripted i false ov iv=operate [ov,iv] (getItem ov iv)
theorem axm{prog:Program}{w:World}{A:Around}{E:Value->Shared->Prop}{s:Shared}{env:Env}{b a:Expr}{pos:Pos}{T id:String}{Q:Value->Shared->Prop}
  (n:typeLookup (.type T) "__getitem__" = pure (some (.builtin id))) (hs:NoSl a)
  (h:wpAny (model prog w) A (eval b env) (λo f=>wpAny (model prog w) A (eval a env) (λi c=>c.TypeIs o T/\wpAny (model prog w) A (getItem o i) Q E c) E f) E s) :
  wpAny (model prog w) A (eval (.Subscript b a pos) env) Q E s:=by
 refine Subscript_ (aK0 h (λo f l=>aK0 l (λi c d=>?_) λ_ _ x=>x) λ_ _ x=>x)
 obtain⟨m,d⟩:=d
 unfold subscriptTail
 refine aJ1 ?_
 rw[getitemInPython_of_ne m.not_modules]
 refine aJ1 (wpAny_specialOf m n ?_)
 have fin:wpAny (model prog w) A (subscripted a false o i) (λr g=>wpAny (model prog w) A (letTemporaryGo b o r >>= λ_=>pure r) Q E g) E c:=by
  rw[hs o i]
  exact wpAny_operating (aK0 d (λr g j=>aJ1 (wpAny_letTemporaryGo (aJ2 j))) λ_ _ x=>x)
 first
  |exact aJ2 (aJ1 fin)
  |exact aJ1 (aJ2 (aJ1 fin))
  |exact aJ1 fin
theorem aog{X:Cx}{pins:List (Addr × Obj)}{σ:St}{H:Hp}{s:Shared}{a:Addr}{y:V}{o:Option V}(I:Inv X pins σ H s)(g:DGet H a y o):s.TypeIs (.ref a) "dict":=by
 rcases g with ⟨kvs,k,e,_,_⟩|⟨kvs,k,b,e,_,_,_⟩
 ·obtain⟨_,_,vs,_,dd⟩:=af2 I.hok e
  exact dd.typeIs
 ·obtain⟨_,_,xs,_,dd⟩:=ahb I.hok e
  exact dd.typeIs
def alo(td ty:TE):TE:=λσ H Q=>td σ H λx H1=>ty σ H1 λy H2=>∃ a v,x=.ref a/\DGet H2 a y (some v)/\Q v H2
def afp(ty td:TE):TE:=λσ H Q=>ty σ H λy H1=>td σ H1 λx H2=>∃ a o,x=.ref a/\DGet H2 a y o/\Q (.bl (!o.isSome)) H2
def aih(td ty tv:TE):TS:=λD σ H=>tv σ H λv H1=>td σ H1 λx H2=>ty σ H2 λy H3=>∃ a H4,x=.ref a/\DPut H3 a y v H4/\D.nx σ H4
section
variable{X:Cx}{o i e value:Expr}{pos pos' tpos:Pos}{td ty tv:TE}
theorem ahd(q:X.A.units+1<cLine)(j:PE X o td)(hi:PE X i ty)(hs:NoSl i):PE X (.Subscript o i pos) (alo td ty):=by
 intro pins s σ H Q I h
 refine axm PySem.F.slot_dict_getitem.lookup hs (thn (j pins s σ H _ I h) λu s1 ⟨x,l,p,m,d⟩=>thn (hi pins s1 σ l _ p d) λB s2 ⟨y,H2,c,f,a,v,ex,g,r⟩=>?_)
 subst ex
 obtain rfl:u=Value.ref a:=m
 exact⟨aog c g,asl q c g f λw z n b=>⟨v,H2,n,b,r⟩⟩
theorem aka(n:X.A.units+1<cLine)(hi:PE X i ty)(f:PE X o td):PC X .NotIn i o (afp ty td):=by
 intro pins s σ H Q I h
 refine thn (hi pins s σ H _ I h) λw s1 ⟨y,j,r,d,b⟩=>thn (f pins s1 σ j _ r b) λu s2 ⟨x,H2,c,l,a,q,ex,g,p⟩=>?_
 subst ex
 obtain rfl:u=Value.ref a:=l
 exact axl n c g d λv m=>⟨.bl (!q.isSome),H2,m,rfl,p⟩
theorem afq(z:X.A.units+1<cLine)(l:PE X o td)(hi:PE X i ty)(m:PE X value tv)(hs:swapsWith value (some (.Subscript o i pos')) pos.line X.env=pure false) :
  PS X (.Assign [.Subscript o i pos'] value pos) (aih td ty tv):=by
 intro pins s σ H D I h
 refine wpAny_Assign_Subscript (thn (m pins s σ H _ I h) λr s1 ⟨v,p,E,n,b⟩=>thn (l pins s1 σ p _ E b) λu s2 ⟨x,H2,d,q,B⟩=>thn (hi pins s2 σ H2 _ d B) λJ F ⟨y,H3,w,f,a,j,ex,g,C⟩=>?_) hs
 subst ex
 obtain rfl:u=Value.ref a:=q
 exact asn z w g f n λG c=>⟨σ,j,c,C⟩
end
theorem auw{P:Program}{w:World}{H:Hp}(h:Heap)(hb:sysModules<h.objs.size):ObjOk P w H (h.push { cls:=.type "dict",data:=.dict #[] }) h.objs.size (.dK []) :=
 ⟨aG0 _,beq_eq_false_iff_ne.mpr (Ne.symm (aB6 hb)),[],.nil,Heap.DictOf.new h⟩
theorem aux{P:Program}{w:World}{H:Hp}(h:Heap)(hb:sysModules<h.objs.size):ObjOk P w H (h.push { cls:=.type "dict",data:=.dict #[] }) h.objs.size (.dT []) :=
 ⟨aG0 _,beq_eq_false_iff_ne.mpr (Ne.symm (aB6 hb)),[],.nil,_,#[],0,aJ5 _ rfl,⟨rfl,rfl,rfl⟩,rfl,rfl,List.nodup_nil⟩
def amf:TE:=λ_ H Q=>∀ p,H p=none->Q (.ref p) (upd H p (.dT []))
section
variable{X:Cx}{pos:Pos}
theorem amg:PE X (.Dict [] [] pos) amf:=λpins s σ H Q I h =>
 wpAny_Dict_empty ⟨.ref s.heap.objs.size,_,I.laid (a:=s.heap.objs.size) (o:=.dT []) (t':=s.toks) (λ_ _ q=>aJ3 _ q) (aA6 _) (aux s.heap I.big),rfl,h _ (I.hok.fresh (aA6 _))⟩
end
def amh:List (TE × TE)->St->Hp->(List (V × V)->Hp->Prop)->Prop
 |[],_,H,Q=>Q [] H
 |(tk,tv)::r,σ,H,Q=>tk σ H λx H1=>tv σ H1 λy H2=>amh r σ H2 λps H3=>Q ((x,y)::ps) H3
abbrev VV:List (V × V)->List (Value × Value)->Prop:=Paired λp q=>RelV p.1 q.1/\RelV p.2 q.2
def PPs(X:Cx)(pos:Pos)(keys:List (Option Expr))(values:List Expr)(trs:List (TE × TE)):Prop :=
 ∀(pins:List (Addr × Obj))(s:Shared)(σ:St)(H:Hp)(Q:List (V × V)->Hp->Prop),Inv X pins σ H s->amh trs σ H Q ->
  wpAny (model X.prog X.w) X.A (evalPairs (pairTrees keys values X.env pos)) (λvs s'=>∃ ps H',Inv X pins σ H' s'/\VV ps vs/\Q ps H') X.xe s
theorem axn{X:Cx}{pos:Pos}:PPs X pos [] [] []:=λpins s σ H Q I h=>pairTrees_nil_walk ⟨[],H,I,.nil,h⟩
theorem auy{X:Cx}{pos:Pos}{k v:Expr}{ks:List (Option Expr)}{vs:List Expr}{c d:TE}{a:List (TE × TE)}(l:PE X k c)(m:PE X v d)(j:PPs X pos ks vs a) :
  PPs X pos (some k::ks) (v::vs) ((c,d)::a):=λpins s σ H Q I h =>
 pairTrees_cons_walk (thn (l pins s σ H _ I h) λu s1 ⟨x,n,w,o,f⟩=>thn (m pins s1 σ n _ w f) λz s2 ⟨y,H2,g,i,q⟩ =>
  thn (j pins s2 σ H2 _ g q) λA B ⟨ps,H3,p,b,r⟩=>⟨(x,y)::ps,H3,p,.cons ⟨o,i⟩ b,r⟩)
def afr(kvs more:List (Key × V)):List (Key × V):=more.foldl (λacc kv=>putK acc kv.1 kv.2) kvs
theorem KV.merge:∀{more:List (Key × V)}{rs:List (Key × Value)}{kvs:List (Key × V)}{vs:List (Key × Value)},KV more rs->KV kvs vs->KV (afr kvs more) (merged vs rs):=by
 intro more rs kvs vs r
 unfold KV at r
 induction r generalizing kvs vs with
 |nil=>intro q;exact q
 | @cons p q ps qs h t ih =>
  intro a
  have e:KV (putK kvs p.1 p.2) (stored vs q.1 q.2):=by
   have:=a.put p.1 h.2
   rw[← h.1];exact this
  exact ih e
theorem agd:∀(more kvs:List (Key × V)),(afr kvs more).length<=kvs.length+more.length
 |[],kvs=>by show kvs.length<=kvs.length+0;lia
 | p::r,kvs=>by
  have a:=agd r (putK kvs p.1 p.2)
  have b:=afd kvs p.1 p.2
  show(afr (putK kvs p.1 p.2) r).length<=_
  rw[aE4];lia
theorem aii{P:Program}{w:World}:∀{kvs:List (Key × V)}{f:List (Value × Value)},VV (kvs.map λd=>(kV d.1,d.2)) f->∃ rs,Carries (aa4 P w) f rs/\KV kvs rs
 |[],_,r=>by rw[List.map_nil] at r;cases r;exact⟨[],True.intro,.nil⟩
 | p::kvs,_,r=>by
  rw[aD1] at r
  cases r with
  | @cons a b as bs h t =>
   obtain⟨rs,c,q⟩:=aii (P:=P) (w:=w) t
   obtain⟨i,g⟩:=b
   exact⟨(p.1,g)::rs,⟨aha h.1,rfl,c⟩,.cons ⟨rfl,h.2⟩ q⟩
def aw1(trs:List (TE × TE)):TE:=λσ H Q=>∀ p,H p=none->amh trs σ (upd H p (.dK [])) λps H2=>H2 p=some (.dK [])/\∃ kvs:List (Key × V),ps=kvs.map (λkv=>(kV kv.1,kv.2))/\kvs.length<=15/\Q (.ref p) (upd H2 p (.dK (afr [] kvs)))
theorem axo{X:Cx}{pos:Pos}{keys:List (Option Expr)}{b:List Expr}{d:List (TE × TE)}(h:PPs X pos keys b d)(g:keys.all (·.isSome)=true)(m:keys.length=b.length)(n:keys ≠ [])
  (i:keys.length<=15):PE X (.Dict keys b pos) (aw1 d):=by
 intro pins s σ H Q I q
 have hn:=I.hok.fresh (aA6 s.heap.objs.size)
 have x:=I.laid (a:=s.heap.objs.size) (o:=.dK []) (h':=s.heap.push { cls:=.type "dict",data:=.dict #[] }) (t':=s.toks) (λ_ _ q=>aJ3 _ q) (aA6 _) (auw s.heap I.big)
 refine wpAny_Dict_walk (knd:=aa4 X.prog X.w) g m n i (thn (h pins _ σ _ _ x (q _ hn)) λC s2 ⟨ps,H2,l,j,e,kvs,ep,D,A⟩=>?_)
 subst ep
 obtain⟨rs,c,y⟩:=aii (P:=X.prog) (w:=X.w) j
 obtain⟨z,hd,r,p,dd⟩:=aw0 l.hok e
 cases p
 refine⟨rs,c,dd,λh' f hs=>⟨.ref s.heap.objs.size,_,?_,rfl,A⟩⟩
 have hz:(afr [] kvs).length<=sizeLine:=by
  have u:=agd kvs []
  rw[aJ0] at u
  rw[sizeLine_eq];lia
 have B:∃ q,h'.get? s.heap.objs.size=some q:=let ⟨q,_,_,v,_⟩:=f;⟨q,v⟩
 exact ahc l (by rw[e];exact True.intro) hs B (asm hz hd (y.merge .nil) f)
structure M1(X:Cx)(o:Expr)(m:Str)(apos:Pos)(e:Expr)(cpos:Pos):Prop where
 base:attributeBase o m X.env (eval o X.env)=eval o X.env
 few:((backTo cpos (starEach [e] X.env)).all (λx=>!x.1) && (backToKw cpos (keywordEach [] X.env)).all (λx=>x.1.isSome)
  && decide (([e]:List Expr).length+([]:List Keyword).length+(if ([]:List Keyword).isEmpty then 0 else 1)<30))=true
 line:(apos.endLine == cpos.line)=true
 trees:backTo cpos (starEach [e] X.env)=[(false,eval e X.env)]
structure M2(X:Cx)(o:Expr)(m:Str)(apos:Pos)(e f:Expr)(cpos:Pos):Prop where
 base:attributeBase o m X.env (eval o X.env)=eval o X.env
 few:((backTo cpos (starEach [e,f] X.env)).all (λx=>!x.1) && (backToKw cpos (keywordEach [] X.env)).all (λx=>x.1.isSome)
  && decide (([e,f]:List Expr).length+([]:List Keyword).length+(if ([]:List Keyword).isEmpty then 0 else 1)<30))=true
 line:(apos.endLine == cpos.line)=true
 trees:backTo cpos (starEach [e,f] X.env)=[(false,eval e X.env),(false,eval f X.env)]
def IsD(H:Hp)(a:Addr):Prop:=(∃ kvs,Rd H a (.dK kvs))\/∃ kvs,Rd H a (.dT kvs)
theorem aso{X:Cx}{pins:List (Addr × Obj)}{σ:St}{H:Hp}{s:Shared}{a:Addr}(I:Inv X pins σ H s)(d:IsD H a) :
  s.TypeIs (.ref a) "dict"/\(∀ b,Value.ref a=.ref b->∃ c,s.heap.get? b=some c/\c.dict=none)/\(a == sysModules)=false:=by
 rcases d with ⟨kvs,e⟩|⟨kvs,e⟩
 ·obtain⟨_,hd,vs,_,dd⟩:=af2 I.hok e
  refine⟨dd.typeIs,λb q=>?_,hd⟩
  cases q
  obtain⟨c,_,_,f,g,_⟩:=dd
  exact⟨c,f,g.2.1⟩
 ·obtain⟨_,hd,xs,_,dd⟩:=ahb I.hok e
  refine⟨dd.typeIs,λb q=>?_,hd⟩
  cases q
  obtain⟨c,_,_,f,g,_⟩:=dd
  exact⟨c,f,g.2.1⟩
section
variable{X:Cx}{pins:List (Addr × Obj)}{σ:St}{H:Hp}{s:Shared}{a:Addr}{y d:V}{u r:Value}{o:Option V}{A:Around}{E:Value->Shared->Prop}
theorem az8{Q:Value->Shared->Prop}(p:A.units+1<cLine)(I:Inv X pins σ H s)(g:DGet H a y o)(m:RelV y u)(i:RelV d r)(h:∀ j s',Inv X pins σ H s'->RelV (o.getD d) j->Q j s') :
  wpAny (model X.prog X.w) A (call (.builtin "dict.get") [.ref a,u,r]) Q E s:=by
 rcases g with ⟨kvs,k,e,f,l⟩|⟨kvs,k,b,e,f,n,l⟩
 ·subst f
  obtain⟨z,hd,vs,c,dd⟩:=af2 I.hok e
  refine call_meetsIn PySem.F.slot_dict_get dd.typeIs PySem.F.entry_dict_get (PySem.F.args_dict_get_3 _ _ _) (meets_dict_get_default (aa4 X.prog X.w) a (aha m) hd r) ⟨_,dd.mapOf,h _ _ (I.tok _) ?_⟩
  rw[l]
  exact(c.val k).getD i
 ·subst f
  cases (show u=Value.ref b from m)
  obtain⟨z,hd,xs,c,dd⟩:=ahb I.hok e
  refine call_meetsIn PySem.F.slot_dict_get dd.typeIs PySem.F.entry_dict_get (PySem.F.args_dict_get_3 _ _ _) (meetsH_dict_get_default (tupleKind (aa4 X.prog X.w)) a b hd r) ⟨tupleKind_room_in1 p,k,xs,aes I.hok n,dd,h _ _ (I.tok _) ?_⟩
  rw[l]
  exact(c.val k).getD i
end
def ami(td ty tx:TE):TE:=λσ H Q=>td σ H λx H1=>∃ a,x=.ref a/\IsD H1 a/\ty σ H1 λy H2=>tx σ H2 λz H3=>∃ o,DGet H3 a y o/\Q (o.getD z) H3
section
variable{X:Cx}{o e f:Expr}{apos cpos:Pos}{td ty tx:TE}
theorem auz(B:X.A.units+1<cLine)(q:PE X o td)(E:PE X e ty)(hf:PE X f tx)(m:M2 X o "get" apos e f cpos):PE X (.Call (.Attribute o "get" apos) [e,f] [] cpos) (ami td ty tx):=by
 intro pins s σ H Q I h
 refine wpAny_Call_method m.base m.few m.line PySem.F.plainAttrs_dict PySem.F.slot_dict_get PySem.F.type_dict_get (thn (q pins s σ H _ I h) λu s1 ⟨x,r,c,v,a,ex,d,i⟩=>?_)
 subst ex
 obtain rfl:u=Value.ref a:=v
 obtain⟨t1,G,_⟩:=aso c d
 refine⟨t1,G,?_⟩
 rw[m.trees]
 refine Calls.callWith_builtin rfl (Calls.evalArgs_plain (Calls.spliced_cons (thn (E pins s1 σ r _ c i) λM s2 ⟨y,H2,l,n,C⟩ =>
  Calls.spliced_cons (thn (hf pins s2 σ H2 _ l C) λfv K ⟨z,H3,w,p,N,g,D⟩=>Calls.spliced_nil ?_))))
 exact az8 B w g n p λJ L j b=>⟨_,H3,j,b,D⟩
end
section
variable{X:Cx}{pins:List (Addr × Obj)}{σ:St}{H:Hp}{s:Shared}{a:Addr}{kvs:List (Key × V)}{A:Around}{E:Value->Shared->Prop}
end
section
variable{X:Cx}{pins:List (Addr × Obj)}{σ:St}{H:Hp}{s:Shared}{a:Addr}{y:V}{u:Value}{A:Around}{E:Value->Shared->Prop}
end
end L2
namespace Att
open PySem PySem.W PySem.Calls PyProof.Rows
theorem aij{P:Params}{h:Heap}:∀(ns:List Int)(vs:List Value),WellAll P h vs (ns.map WData.int)->IntsAre vs ns:=by
 intro ns
 induction ns with
 | nil =>
  intro vs w
  rw[List.map_nil] at w
  cases w
  exact .nil
 | cons n ns ih =>
  intro vs w
  rw[aD1] at w
  cases w with
  | cons a b =>
   cases a
   exact .cons _ _ (ih _ b)
theorem asp{l:OpenLaw}{n:Nat}(hn:l.most=some n){P:Params}{h:Heap}{args:List WData}{b:List Value}
  (c:l.row.toRowW.claim.pre args=true) (j:WellAll P h b args) :
  ∃ a vs ns,b=[Value.ref a]/\args=[WData.list (ns.map WData.int)]/\h.get? a=some { cls:=.type "list",data:=.seq vs.toArray }/\IntsAre vs ns/\ns.length<=n:=by
 have m:WShape.hasAll [] args [.list .int]=true:=(pre_splitW c).1
 have o:l.pre.holds [] { args:=args }=true:=(pre_splitW c).2
 obtain⟨d,r,rfl,s,v⟩:=hasAllW_cons m
 obtain rfl:=hasAllW_nil v
 obtain⟨xs,rfl,u⟩:=hasW_list s
 obtain⟨ns,rfl⟩:=items_int u
 have f:ns.length<=n:=by
  unfold OpenLaw.pre at o
  have g:(WTm.not (.lt (.lit (.int (n:Int))) (.len (.arg 0)))).holds [] { args:=[.list (ns.map .int)] }=true:=by
   have g:=(holds_andW o).1
   rw[hn] at g
   exact g
  have i:=condW_of g (w_not (w_lt w_lit (w_len_list (w_arg rfl))))
  rw[aA3] at i
  refine Nat.le_of_not_lt λq=>?_
  have p:(n:Int)<((ns.length:Nat):Int):=by lia
  first
   |(rw[aD8 p] at i;exact absurd i (by decide))
   |(simp at i;lia)
 cases j with
 | cons w1 w2 =>
  cases w2
  cases w1 with
  |list ho hall=>exact⟨_,_,ns,rfl,rfl,ho,aij ns _ hall,f⟩
theorem asq(l:OpenLaw)(args:List WData):l.row.toRowW.claim.post args (.bool true) args=true :=
 postW_of (r:=l.row.toRowW) (X:=(true == true))
  (show WShape.has [] (.bool true) .bool=true by first|rfl|decide|simp[WShape.has,WShape.arms,WShape.armsAll])
  (show(WTm.eq .res (.lit (.bool true))).value [] { args:=args,res:=some (.bool true),after:=args }=some (.bool (true == true)) from w_eq_bool (w_res rfl) w_lit) rfl
theorem attach_call{l:OpenLaw}{n:Nat}{q:Program}{c:List Str}{B:(Str->Option Value)->Heap->Prop}{A:World->Heap->Prop}{d:DefRec}
  (hn:l.most=some n) (u:d.params.defaults=[])
  (call:∀(w:World)(s₀ b:Shared)(mg mb:Str->Option Value)(i:Addr)(o:Obj)(pm p doc:Value)(a:Addr)(vs:List Value)(ns:List Int),
   Ground q c [] B w s₀ mg mb b.heap->A w b.heap ->
   b.heap.get? i=some o->o.data=.func (docDef d.name d.params d.body d.scope pm p doc)->b.heap.CodeRec p d.name->mg d.name=some (.ref i) ->
   b.heap.get? a=some { cls:=.type "list",data:=.seq vs.toArray }->IntsAre vs ns->ns.length<=n->b.gens = #[] ->
   codeAny (model l.prog w) callerA (.call (.ref i) ⟨[.ref a],[]⟩) (λr s'=>r=.ok (.ret (.bool true))/\OldK b.heap s'.heap/\s'.os=b.os/\AllBare s'.gens) b) :
  WalkO q c B A l.row.toRowW d [] (λf vs=>PySem.call f vs):=by
 intro w s₀ b mg mb G Y i o pm p doc I kV H hd x C v D args y as h z K s F
 obtain rfl:I=.none:=Dflts.none C u
 obtain rfl:kV=.none:=Dflts.noKw C
 obtain⟨a,vs,ns,rfl,rfl,m,g,j⟩:=asp hn h s
 refine enter_call (aJ6 (call w s₀ b mg mb i o pm p doc a vs ns G Y H (fd_plain hd) x v m g j D) λr s' J=>?_)
 obtain⟨rfl,M,L,E⟩:=J
 exact⟨.inl ⟨.bool true,.bool true,[],rfl,λ_=>rfl,.bool true,asq l _,λ_=>⟨List.Pairwise.nil,λ_ hm=>(nomatch hm)⟩⟩,M,L,E⟩
section
variable{prog:Program}{w:World}{A:Around}{E:Value->Shared->Prop}{s:Shared}{K:Frag}
end
end Att
namespace L2
open PySem PySem.Spec PyProof.Rows
theorem akb:∀{vs:List Value}{ns:List Int},IntsAre vs ns->Vals (ns.map V.int) vs
 |_,_,.nil=>.nil
 |_,_,.cons n t h=>.cons ⟨t,rfl⟩ (akb h)
def Only(H:Hp):Prop:=∀ b,H b=none\/∃ o xs,H b=some (.frz o (.lst xs))
theorem au0{P:Program}{w:World}{K:Frag}{mg mb:Str->Option Value}{CX:CXT}{k:Nat}{D a:Addr}{fd:FuncData}{x:Str}{sp:Sp}{c:Shared}{vs:List Value}{ns:List Int}
  (O:K.In c.heap) (l:c.heap.Ns mainGlobals mg) (hb:c.heap.Ns builtinsNs mb) (G:∀ x:Str,x ≠ "__name__"->mb x=bootBuiltins x) (A:c.heap.NoLimit) (T:c.gens = #[])
  (ha:c.heap.get? a=some { cls:=.type "list",data:=.seq vs.toArray }) (hi:IntsAre vs ns) (M:ns.length<=sizeLine) (Y:Room k callerA)
  (F:∀ base:Heap,K.In base->base.Ns mainGlobals mg->FnOk P w K mg base CX k D fd [x] sp) (j:∀(s:Shared)(u:Value),BindsTo s fd ⟨[u],[]⟩ [(x,u)])
  (I:∀ H:Hp,Only H->SqL K H a (ns.map V.int)->sp [.ref a] H (λv _=>v=.bl true) λ_ _ _=>False)
  (E:∀ H e s',CX [] H c (λ_ _ _=>False) e s'->False) :
  codeAny (model P w) callerA (.call (.ref D) ⟨[.ref a],[]⟩) (λr s'=>r=.ok (.ret (.bool true))/\OldK c.heap s'.heap/\s'.os=c.os/\AllBare s'.gens) c:=by
 have N:=akb hi
 have y:=hi.length
 -- from an abstract heap in which nothing but the script may be tracked
 have i:∀ H:Hp,Only H->SqL K H a (ns.map V.int)->HOk P w H c.heap->(∀ b,H b ≠ none->b=a)->(H a ≠ none->K.lookup a=none) ->
   codeAny (model P w) callerA (.call (.ref D) ⟨[.ref a],[]⟩) (λr s'=>r=.ok (.ret (.bool true))/\OldK c.heap s'.heap/\s'.os=c.os/\AllBare s'.gens) c:=by
  intro H S X hok Q W
  have f:∀{b:Addr}{o:Obj},c.heap.get? b=some o->H b=none->(hidT c.heap H).get? b=some o:=λe n=>aus e n
  have L:∀{b:Addr}{o:Obj}{es:Array DictEntry}{ep:Nat},c.heap.get? b=some o->o.data=.dict es ep->H b=none:=λ{b o es ep} e d=>by
   cases q:H b with
   |none=>rfl
   | some u =>
    have J:b=a:=Q b (by rw[q];simp)
    subst J
    rw[ha] at e;cases e
    have d':Data.seq vs.toArray _=Data.dict es ep:=d
    cases d'
  have g:∀{b:Addr}{m:Str->Option Value},c.heap.Ns b m->(hidT c.heap H).Ns b m:=λ{b m} ⟨o,es,ep,e,d,r⟩=>⟨o,es,ep,f e (L e d),d,r⟩
  have B:K.In (hidT c.heap H):=λb o e=>f (O b o e) (by
   cases q:H b with
   |none=>rfl
   | some u =>
    have J:b=a:=Q b (by rw[q];simp)
    subst J
    rw[W (by rw[q];simp)] at e;cases e)
  have hM:Mod K mg (hidT c.heap H):=⟨B,g l,⟨mb,g hb,G⟩,let ⟨U,h1,h2⟩:=A;⟨U,g h1,h2⟩⟩
  have e0:Env0 P w K mg (hidT c.heap H) callerA [] c H:=⟨rfl,hM,λb o e=>axg e,Nat.le_of_eq (ar5 _ _),trivial,λb hb=>absurd (show b∈([]:List Addr) from hb) (by simp),hok,.of_eq T⟩
  refine aJ6 ((F _ B (g l)).run callerA [] c H ⟨[.ref a],[]⟩ [.ref a] [.ref a] _ _ Y e0 (j c (.ref a)) (.cons rfl .nil) (I H S X)) λr s' h=>?_
  cases r with
  |error e=>exact(E H e s' h).elim
  | ok fl =>
   cases fl with
   |next=>exact False.elim h
   |brk=>exact False.elim h
   |cont=>exact False.elim h
   | ret u =>
    obtain⟨v,H',os,bare,un,p,Z,q⟩:=h
    have q':v=.bl true:=q
    subst q'
    obtain rfl:u=Value.bool true:=Z
    refine⟨rfl,OldK.of_keep λb o e=>?_,os,bare⟩
    cases q:H b with
    |none=>exact un.keep b o e q (by intro z;exact absurd (show b∈([]:List Addr) from z) (by simp)) (by simp)
    | some u =>
     rcases S b with z|⟨ob,xs,z⟩
     ·rw[q] at z;cases z
     ·have z2:=un.frzs b ob _ z
      obtain⟨R,_⟩:=hok b _ z
      obtain⟨e2,_⟩:=p b _ z2
      rw[e] at R;cases R
      exact e2
 cases hk:K.lookup a with
 | some o =>
  -- the script is one of the module's own objects
  have e:=O a o hk
  rw[ha] at e
  cases e
  refine i (λ_=>none) (λ_=>.inl rfl) (.inr ⟨_,vs.toArray,_,hk,rfl,rfl,rfl,by rw[aB2,y];exact M,by simpa using N⟩) (λb u z=>by have C:(none:Option HO)=some u:=z;cases C) (λb z=>absurd rfl z) λz=>absurd rfl z
 | none =>
  refine i (λb=>if b=a then some (.frz { cls:=.type "list",data:=.seq vs.toArray } (.lst (ns.map V.int))) else none) (λb=>?_) (.inl (.inr ⟨{ cls:=.type "list",data:=.seq vs.toArray },aF5 rfl⟩)) (λb u z=>?_) (λb z=>?_) λ_=>hk
  ·by_cases hb:b=a
   ·exact .inr ⟨_,_,aF5 hb⟩
   ·exact .inl (aF6 hb)
  ·by_cases hb:b=a
   ·have C:=(aF5 hb).symm.trans z
    cases C
    subst hb
    exact⟨ha,by rw[aA3];exact M,vs,_,N,ha⟩
   ·have C:=(aF6 hb).symm.trans z
    cases C
  ·by_cases hb:b=a
   ·exact hb
   ·exact absurd (aF6 hb) z
abbrev KOf{K:Frag}{h:Heap}(_:K.In h):Frag:=K
theorem walk_of{l:PySem.W.OpenLaw}{n k:Nat}{q:Program}{j:List Str}{O:(Str->Option Value)->Heap->Prop}{D:World->Heap->Prop}{d:DefRec}{K:Params->Frag}{CX:World->CXT}{sp:World->Sp}{x:Str}
  (hn:l.most=some n) (y:n<=sizeLine) (z:d.params.defaults=[]) (J:Room k callerA)
  (L:∀(w:World)(h:Heap),D w h->(K w.params).In h)
  (F:∀(w:World)(mg:Str->Option Value)(r:Addr)(h:Heap),(K w.params).In h->h.Ns mainGlobals mg->mg d.name=some (.ref r) ->
   ∃ fd:FuncData,(∀(s:Shared)(u:Value),BindsTo s fd ⟨[u],[]⟩ [(x,u)]) /\
    ∀ base:Heap,(K w.params).In base->base.Ns mainGlobals mg->FnOk l.prog w (K w.params) mg base (CX w) k r fd [x] (sp w))
  (B:∀(w:World)(H:Hp)(a:Addr)(ns:List Int),ns.length<=n->Only H->SqL (K w.params) H a (ns.map V.int)->sp w [.ref a] H (λv _=>v=.bl true) λ_ _ _=>False)
  (A:∀(w:World)(H:Hp)(s:Shared)(e:Value)(s':Shared),CX w [] H s (λ_ _ _=>False) e s'->False) :
  PySem.W.WalkO q j O D l.row.toRowW d [] (λf vs=>PySem.call f vs):=by
 refine Att.attach_call hn z λw s₀ m mg mb r o pm R doc a vs ns G Y S hd Q C p i c I=>?_
 have E:=L w _ Y
 obtain⟨fd,hb,N⟩:=F w mg r _ E G.T.g C
 exact au0 E G.T.g G.T.b G.T.builtins G.T.nolimit I p i (aD0 c y) J N hb (λH M P=>B w H a ns c M P) λH e s'=>A w H m e s'
end L2
/- THE LAST THEOREM (shape; LID, My.* are yours):
  My.Adr: a structure of the addresses that your layer names (classes,functions);My.Txt K t: a structure (Prop) of the equations over K;
  My.txt_mk:{K} {implicit addresses ..} (e1:nsIn K mainGlobals "law" = some (some (.ref f))) (e2:K.lookup f=some ⟨oc,od,.func (fnOf "law" "law" params body scope dV kV doc pm an cdv ct),sl⟩) (e3:codeIn K cdv "law" = true) .. : ∃ t,My.Txt K t
set_option maxRecDepth 100000 in
set_option maxHeartbeats 0 in
theorem PySem.Challenge.cw_LID_holds : PySem.Challenge.rw_LID.Holds := by
 w_on;o_law;k_head;(case hw=>w_witness2)
 k_fill
 refine L2.walk_of (l:=PySem.Challenge.rw_LID) (n:=63) (k:=40) (x:="script") (CX:=λw=>..) (sp:=λ_=>My.sp_law) rfl (by decide) rfl ⟨rfl,by decide,by decide⟩ (λw h Y=>PySem.W.kIn_of Y) ?F ?S ?C
 case F =>
  intro w mg fa h KX G hmg
  have T:∃ t,My.Txt (L2.KOf KX) t:=by
   dsimp only[L2.KOf]                          -- K must stand as «<heap const> w.params» for k_is
   refine' My.txt_mk ?e1 ?e2 ?e3 ..
   (case e1=>PySem.W.k_is)                    -- in the order: a name -> its address -> its object -> its parts
   (case e2=>PySem.W.k_is)
   ..
  obtain⟨t,T⟩:=T
  have e0:=hmg.symm.trans (mg_of KX G T.law)
  cases e0                                       -- fa is the law's own address
  exact⟨_,λs u=>.of_eq rfl,λbase kb nb=>My.law_fn T kb nb⟩     -- if «.of_eq rfl» comes too early: refine'⟨_,?b,λbase kb nb=>My.law_fn T kb nb⟩;exact λs u=>.of_eq rfl
 case S=>exact λw H a ns hl hO hS=>..
 case C=>exact ..
(the tactic k_is has no namespace: write k_is) -/
namespace L2
open PySem PySem.Spec PyProof.Rows
def acj(s:Stmt):Arguments:=match s with
 | .FunctionDef _ a _ _ _ _ _ _ _ _=>a
 |_=>{ posonlyargs:=[],args:=[],vararg:=none,kwonlyargs:=[],kw_defaults:=[],kwarg:=none,defaults:=[] }
def ab6(s:Stmt):List Stmt:=match s with
 | .FunctionDef _ _ b _ _ _ _ _ _ _=>b
 |_=>[]
def aap(s:Stmt):Scope:=match s with
 | .FunctionDef _ _ _ _ _ _ sc _ _ _=>sc
 |_=>{ kind:=.function,names:=[],isGenerator:=false,isCoroutine:=false }
abbrev CX0:CXT:=λ_ _ _ _ _ _=>False
abbrev E0:XK:=λ_ _ _=>False
theorem a2m{X:Cx}:al7 CX0 X E0:=λ_ _ _ _ _ _ _ h=>h.elim
structure Fun(K:Frag)(x qual:Str)(st:Stmt)(f:Addr)(fd:FuncData):Prop where
 ex:∃(oc:Value)(od:Option Addr)(kV doc pm:Value)(an:Option Addr)(cdv ct:Value)(osl:Array (Option Value)),
  fd=fnOf x qual (acj st) (ab6 st) (aap st) .none kV doc pm an cdv ct/\K.lookup f=some ⟨oc,od,.func fd,osl⟩/\codeIn K cdv qual=true
 kp:keepIn K (.ref f)=true
section
variable{P:Program}{w:World}{K:Frag}{mg:Str->Option Value}{base:Heap}
theorem Fun.ok{x qual:Str}{st:Stmt}{f:Addr}{fd:FuncData}{N ps:List Str}{k:Nat}{sp:Sp}(F:Fun K x qual st f fd)(S:FnScope N ps (aap st))(len:∀ vs H Q E,sp vs H Q E->vs.length=ps.length)
  (a:∀(cdv:Value)(A:Around)(outer:List Env)(s:Shared)(H:Hp)(vs:List V)(Q:VK)(E:XK),Room k (A.deeper (envOfC qual (aap st) s.heap.objs.size f cdv))->sp vs H Q E ->
   ∃ t,PSs (cxOf CX0 P w K mg base N qual (aap st) f cdv A outer s H E).nox (ab6 st) t/\t { nx:=λ_ H'=>Q .non H',rt:=Q } (start N vs) H):FnOk P w K mg base CX0 (k+1) f fd ps sp:=by
 obtain⟨oc,od,kV,doc,pm,an,cdv,ct,osl,rfl,d,c⟩:=F.ex
 refine a2k d c S len λA outer s H vs Q E g b=>?_
 obtain⟨t,h,q⟩:=a cdv A outer s H vs Q E g b
 exact⟨t,h.nox,q⟩
theorem Fun.binds{x qual:Str}{st:Stmt}{f:Addr}{fd:FuncData}{ps:List Str}(F:Fun K x qual st f fd)
  (h:∀(kV doc pm:Value)(an:Option Addr)(cdv ct:Value)(us:List Value),us.length=ps.length->bindArgs (fnOf x qual (acj st) (ab6 st) (aap st) .none kV doc pm an cdv ct) ⟨us,[]⟩=pure (ps.zip us)):Binds K fd ps []:=by
 obtain⟨oc,od,kV,doc,pm,an,cdv,ct,osl,rfl,b,a⟩:=F.ex
 exact .all (h kV doc pm an cdv ct)
theorem az9{x qual:Str}{st:Stmt}{f:Addr}{oc:Value}{od an:Option Addr}{osl:Array (Option Value)}{kV doc pm cdv ct:Value}(l:K.lookup f=some ⟨oc,od,.func (fnOf x qual (acj st) (ab6 st) (aap st) .none kV doc pm an cdv ct),osl⟩)
  (c:codeIn K cdv qual=true) (k:keepIn K (.ref f)=true):Fun K x qual st f (fnOf x qual (acj st) (ab6 st) (aap st) .none kV doc pm an cdv ct):=⟨⟨oc,od,kV,doc,pm,an,cdv,ct,osl,rfl,l,c⟩,k⟩
end
theorem acy{A:Around}{k:Nat}(a:Room k A):A.units+1<cLine:=aE2 (Nat.add_le_add_left (by decide:1<=64) _) a.units
theorem ae2{n:Nat}(h:n<=1000):n<sizeLine:=aE2 h (by decide)
section
variable{X:Cx}
theorem pv(i:Nat){x:Str}{pos:Pos}(b:X.N[i]?=some x:=by rfl)(c:Vis X.env.scope x:=by first|exact Or.inl rfl|exact Or.inr (Or.inl rfl)|exact Or.inr (Or.inr rfl))(hd:(x == ("__debug__" : Str))=false:=by decide)
  (a:(x == ("__classdict__" : Str))=false:=by decide):PE X (.Name x pos) (tVar i):=azz b c hd a
end
theorem iteF{A B:Prop}(h:B):if false=true then A else B:=by
 rw[aF6 aB0]
 exact h
theorem iteT{A B:Prop}(h:A):if true=true then A else B:=by
 rw[aF5 rfl]
 exact h
def Same(H H':Hp):Prop:=∀ b o,H b=some o->H' b=some o
theorem Same.refl(H:Hp):Same H H:=λ_ _ h=>h
theorem Same.trans{H d H2:Hp}(a:Same H d)(b:Same d H2):Same H H2:=λc o h=>b c o (a c o h)
theorem Same.seq{K:Frag}{H H':Hp}{a:Addr}{xs:List V}(e:Same H H')(h:SqL K H a xs):SqL K H' a xs:=by
 rcases h with (h|⟨o,h⟩)|h
 ·exact .inl (.inl (e _ _ h))
 ·exact .inl (.inr ⟨o,e _ _ h⟩)
 ·exact .inr h
section
variable{X:Cx}
theorem asr:aa2 X (.builtin "len") (λxs H Q=>∃ a kvs,xs=[V.ref a]/\H a=some (.dK kvs)/\Q (.int kvs.length) H):=by
 intro pins s σ H xs us Q I r h
 obtain⟨a,kvs,rfl,ha,q⟩:=h
 obtain⟨u,rfl,c⟩:=ab3 r
 cases c
 exact a2l I (.inl ha) λt s' b=>⟨.int kvs.length,H,b,⟨t,rfl⟩,q⟩
end
section
variable{κ:Type} [DecidableEq κ]
end
def clos(env:Env):List (Str × NameKind)->List (Str × Addr)->List (Str × Addr)
 |[],cs=>cs
 |(n,k)::r,cs=>if k == NameKind.free then (match env.cells.lookup n with|some a=>clos env r ((n,a)::cs)|none=>clos env r cs) else clos env r cs
theorem ae3{env:Env}{sc:Scope}(h:∀ n,(n,NameKind.free)∈sc.names->∃ a,env.cells.lookup n=some a):closureFor sc env=pure (clos env sc.names []):=by
 have all:∀(l:List (Str × NameKind))(cs:List (Str × Addr)),(∀ n,(n,NameKind.free)∈l->∃ a,env.cells.lookup n=some a) ->
   (forIn l cs λ(x:Str × NameKind)(cs:List (Str × Addr))=>match x with|(name,kind)=>if kind == NameKind.free then (do let a ← cellOf env name;pure (ForInStep.yield ((name,a)::cs))) else pure (ForInStep.yield cs))=(pure (clos env l cs):Sem _):=by
  intro l
  induction l with
  |nil=>intro cs _;rfl
  | cons p r ih =>
   intro cs c
   obtain⟨n,k⟩:=p
   rw[List.forIn_cons]
   unfold clos
   dsimp only
   cases hk:(k == NameKind.free) with
   | false =>
    simp only[Bool.false_eq_true,if_false,pure_bind]
    exact ih cs λm hm=>c m (aB5 _ hm)
   | true =>
    have f:k=NameKind.free:=by simpa using hk
    subst f
    obtain⟨a,ha⟩:=c n aB8
    have d:cellOf env n=pure a:=by unfold cellOf;rw[ha]
    simp only[if_true,d,pure_bind,ha]
    exact ih _ λm hm=>c m (aB5 _ hm)
 have e:=all sc.names [] h
 unfold closureFor
 refine Eq.trans (b:=(pure (clos env sc.names []):Sem _) >>= λcs=>pure cs) ?_ (pure_bind _ _)
 exact congrArg (λz:Sem (List (Str × Addr))=>z >>= λcs=>pure cs) e
theorem ad7{env:Env}{x:Str}{c:Addr}:∀{l:List (Str × NameKind)}{cs:List (Str × Addr)},(clos env l cs).lookup x=some c->env.cells.lookup x=some c\/cs.lookup x=some c
 |[],cs,h=>.inr h
 | (n,k)::r,cs,h=>by
  unfold clos at h
  by_cases hk:(k == NameKind.free)=true
  ·rw [aF5 hk] at h
   cases ha:env.cells.lookup n with
   |none=>rw[ha] at h;exact ad7 h
   | some a =>
    rw[ha] at h
    rcases ad7 h with e|e
    ·exact .inl e
    ·rw[aG9] at e
     cases hx:(x == n) with
     | true =>
      rw[hx] at e
      have:x=n:=by simpa using hx
      subst this
      cases e
      exact .inl ha
     |false=>rw[hx] at e;exact .inr e
  ·rw[aF6 hk] at h
   exact ad7 h
theorem ae4{env:Env}{x:Str}:∀{l:List (Str × NameKind)}{cs:List (Str × Addr)},(∃ c,cs.lookup x=some c)->∃ c,(clos env l cs).lookup x=some c
 |[],cs,h=>h
 | (n,k)::r,cs,h=>by
  unfold clos
  by_cases hk:(k == NameKind.free)=true
  ·rw[aF5 hk]
   cases ha:env.cells.lookup n with
   |none=>exact ae4 h
   | some a =>
    refine ae4 ?_
    rw[aG9]
    cases hx:(x == n) with
    |true=>exact⟨_,rfl⟩
    |false=>exact h
  ·rw[aF6 hk]
   exact ae4 h
theorem adg{env:Env}{x:Str}(h:∃ a,env.cells.lookup x=some a):∀{l:List (Str × NameKind)}{cs:List (Str × Addr)},(x,NameKind.free)∈l->∃ c,(clos env l cs).lookup x=some c
 |[],_,hm=>absurd hm (by simp)
 | (n,k)::r,cs,hm=>by
  rcases aA9.mp hm with e|hm
  ·cases e
   obtain⟨a,ha⟩:=h
   unfold clos
   rw[aF5 (by rfl),ha]
   refine ae4 ⟨a,?_⟩
   rw[aG9]
   simp
  ·unfold clos
   by_cases hk:(k == NameKind.free)=true
   ·rw[aF5 hk]
    cases ha:env.cells.lookup n with
    |none=>exact adg h hm
    |some a=>exact adg h hm
   ·rw[aF6 hk]
    exact adg h hm
theorem agm{env:Env}{x:Str}:∀{names:List (Str × NameKind)},(∀ y∈names,y.2 ≠ .cell) ->
  ((names.map λ(n,k)=>if (k == NameKind.free && env.scope.kind == .function && env.kindOf n == some .cell) then (n,NameKind.cell) else (n,k)).lookup x=some .cell ∨
   (names.map λ(n,k)=>if (k == NameKind.free && env.scope.kind == .function && env.kindOf n == some .cell) then (n,NameKind.cell) else (n,k)).lookup x=some .free)->names.lookup x=some .free
 |[],_,h=>by rcases h with h|h <;> simp at h
 | (n,k)::r,hc,h=>by
  have a:=@agm env x r λy b=>hc y (aB5 _ b)
  rw[aG9]
  simp only[aD1] at h
  by_cases hq:(k == NameKind.free && env.scope.kind == .function && env.kindOf n == some .cell)=true
  ·rw[aF5 hq] at h
   have c:k=NameKind.free:=by
    have:=hq;simp only[aH1] at this;simpa using this.1.1
   subst c
   cases hx:(x == n) with
   |true=>rfl
   |false=>simp only[aG9,hx] at h;exact a h
  ·rw[aF6 hq] at h
   cases hx:(x == n) with
   | true =>
    simp only[aG9,hx] at h
    rcases h with h|h
    ·cases h;exact absurd rfl (hc (n,NameKind.cell) aB8)
    ·exact h
   |false=>simp only[aG9,hx] at h;exact a h
theorem adm{env:Env}{x:Str}:∀{names:List (Str × NameKind)},names.lookup x=some .free ->
  ((names.map λ(n,k)=>if (k == NameKind.free && env.scope.kind == .function && env.kindOf n == some .cell) then (n,NameKind.cell) else (n,k)).lookup x=some .cell ∨
   (names.map λ(n,k)=>if (k == NameKind.free && env.scope.kind == .function && env.kindOf n == some .cell) then (n,NameKind.cell) else (n,k)).lookup x=some .free)
 |[],h=>by simp at h
 | (n,k)::r,h=>by
  have a:=@adm env x r
  rw[aG9] at h
  simp only[aD1]
  by_cases hq:(k == NameKind.free && env.scope.kind == .function && env.kindOf n == some .cell)=true
  ·rw[aF5 hq]
   cases hx:(x == n) with
   |true=>left;simp[aG9,hx]
   |false=>rw[hx] at h;simp only[aG9,hx];exact a h
  ·rw[aF6 hq]
   cases hx:(x == n) with
   |true=>rw[hx] at h;right;simp only[aG9,hx];exact h
   |false=>rw[hx] at h;simp only[aG9,hx];exact a h
def Cx.comp(X:Cx)(N:List Str)(sc:Scope)(C:Addr)(s0:Shared)(H0:Hp)(ex:List Addr):Cx where
 prog:=X.prog
 w:=X.w
 K:=X.K
 mg:=X.mg
 base:=X.base
 A:=X.A
 N:=N
 s₀:=s0
 H₀:=H0
 env:=compEnvC sc (clos X.env sc.names []) C X.env
 outer:=X.stack
 stack:=X.stack
 ex:=ex
 fn:=λ_=>false
 calm:=X.calm
 pn:=[]
 xe:=λ_ _=>False
def pick(src:List (Option Nat))(σ:St):St:=src.map λo=>match o with|some j=>(σ[j]?).getD none|none=>none
structure LcOk(X:Cx)(N:List Str)(sc:Scope)(src:List (Option Nat)):Prop where
 kind:sc.kind=.function
 nocell:∀ y∈sc.names,y.2 ≠ .cell
 own:∀ y∈sc.names,y.2=.local->sc.names.lookup y.1=some .local
 outs:∀ y∈sc.names,y.2=.free->X.env.kindOf y.1=some .cell\/X.env.kindOf y.1=some .free
 len:src.length=N.length
 from':∀(i j:Nat),src[i]?=some (some j)->∃ x,N[i]?=some x/\X.N[j]?=some x/\sc.names.lookup x=some .free
theorem LcOk.clo{X:Cx}{N:List Str}{sc:Scope}{src:List (Option Nat)}(L:LcOk X N sc src)(ok:X.Ok):closureFor sc X.env=pure (clos X.env sc.names []) :=
 ae3 λn hn=>ok.has n (L.outs (n,.free) hn rfl)
theorem amj{X:Cx}{pins:List (Addr × Obj)}{σ:St}{H:Hp}{s:Shared}{N:List Str}{sc:Scope}{src:List (Option Nat)}{fp:List Addr}{B:Heap}{t':Nat}
  (L:LcOk X N sc src) (I:Inv X pins σ H s) (hf:∀ b∈fp,FpOk X pins H b) (g:∀ b∈fp,b<s.heap.objs.size)
  (hn:B.Ns s.heap.objs.size λ_=>none) (f:∀ b o,s.heap.get? b=some o->B.get? b=some o) :
  Inv (X.comp N sc s.heap.objs.size s H fp) [] (pick src σ) H { s with heap:=B,toks:=t' }:=by
 have look:∀{x c},(clos X.env sc.names []).lookup x=some c->X.env.cells.lookup x=some c:=λ{x c} e=>by
  rcases ad7 e with z|z
  ·exact z
  ·simp at z
 refine⟨⟨I.ok.mod,L.kind,I.ok.glob,I.ok.blt,aA6 _,λx y c n a=>?_,λx K=>?_,λx c z _=>?_,I.ok.hd,I.ok.frames,.inl rfl,λb hb=>⟨?_,λx c e=>?_⟩,I.bs,aD0 I.ok.bsz I.sz,λb o e hb=>?_,λb hb z=>?_,I.stack,I.stkFree⟩,
  rfl,I.bare,Un.kept f,⟨_,hn,λi x v n a P=>?_⟩,λx c e=>?_,I.hok.fresh (aA6 _),λx c e=>I.freeC x c (look e),λp J=>?_,I.hok.kept f,?_⟩
 ·exact I.ok.inj x y c (look n) (look a)
 ·have q:=agm (env:=X.env) (x:=x) L.nocell K
  exact adg (I.ok.has x (L.outs (x,.free) (PySem.mem_of_lookup q) rfl)) (PySem.mem_of_lookup q)
 ·exact Bool.noConfusion z
 ·exact aB6 (g b hb)
 ·exact(hf b hb).2.2.2.2.1 x c (look e)
 ·rcases(hf b hb).2.2.2.1 with z|z
  ·exact I.ok.noex b o e z
  ·exact absurd (aC5 (aJ4 e) (aD0 I.ok.bsz z)) (aG4 _)
 ·rcases aA9.mp (I.stkSub b z) with q|q
  ·exact(hf b hb).2.1 q
  ·exact(hf b hb).2.2.1 q
 ·unfold pick at a
  rw[aA5] at a
  cases q:src[i]? with
  |none=>rw[q] at a;cases a
  | some o =>
   rw[q] at a
   cases o with
   |none=>cases a
   | some j =>
    obtain⟨y,C,O,h⟩:=L.from' i j q
    have A:N[i]?=some x:=n
    rw[A] at C
    cases C
    have M : σ[j]?=some (some v):=by
     cases q2 : σ[j]? with
     |none=>simp[q2] at a
     |some z=>simp[q2] at a;rw[a]
    have g:=L.outs (x,.free) (PySem.mem_of_lookup h) rfl
    have w:Vis X.env.scope x:=by
     rcases g with z|z
     ·exact .inr (.inl z)
     ·exact .inr (.inr z)
    obtain⟨m,_,G⟩:=I.loc
    obtain⟨u,r,l⟩:=G j x v O M w
    refine⟨u,r,.inr ⟨?_,?_⟩⟩
    ·exact adm (env:=X.env) h
    ·rcases l with ⟨z,_⟩|⟨_,c,F,oc,d,hd⟩
     ·rcases g with D|D <;> (rw[D] at z;cases z)
     ·obtain⟨Q,E⟩:=adg (env:=X.env) ⟨c,F⟩ (PySem.mem_of_lookup h) (cs:=[])
      have:=look E
      rw[F] at this;cases this
      exact⟨c,E,oc,f c oc d,hd⟩
 ·obtain⟨v,oc,d,hd⟩:=I.cell x c (look e)
  exact⟨v,oc,f c oc d,hd⟩
 ·exact absurd (show p∈([]:List (Addr × Obj)) from J) (by simp)
 ·show(pick src σ).length=N.length
  unfold pick
  rw[aA3]
  exact L.len
def PIf(X:Cx)(ifs:List Expr)(t:TT):Prop :=
 ∀(pins:List (Addr × Obj))(s:Shared)(σ:St)(H:Hp)(Q:Bool->Hp->Prop),Inv X pins σ H s->t σ H Q ->
  wpAny (model X.prog X.w) X.A (forIn ifs true λc r=>if r=true then do let ok ← isTrue c X.env (eval c X.env);pure (ForInStep.yield ok) else pure (ForInStep.yield r)) (TP X pins σ Q) X.xe s
def tYes:TT:=λ_ H Q=>Q true H
theorem aa9{X:Cx}:PIf X [] tYes:=λ_ _ _ H _ I h=>wpAny_tests_nil ⟨H,I,h⟩
theorem axp{X:Cx}{c:Expr}{t:TT}(h:PT X c t):PIf X [c] t:=λpins s σ H Q I q=>wpAny_tests_one (h pins s σ H Q I q)
abbrev LW:=Nat->Nat->List V->St->Hp->Prop
def afs(J:It)(g:TG)(tif:TT)(te:TE)(acc:Addr)(Qd:List V->Hp->Prop)(W:LW):Prop:=∀(i m:Nat)(ys:List V)(σ:St)(H:Hp),W i m ys σ H->H acc=some (.lst ys)/\((J.stop i H/\Qd ys H)\/(J.go i H /\
 ∃ Nx:List V->St->Hp->Prop,(∀ ys' σ' H',Nx ys' σ' H'->∃ m',m'<m/\W (i+1) m' ys' σ' H')/\∀ x H2,J.yld i H x H2 ->
 g x σ H2 λσ3 H3=>tif σ3 H3 λb H4=>if b=true then te σ3 H4 λy H5=>H5 acc=some (.lst ys)/\ys.length<sizeLine/\Nx (ys++[y]) σ3 (upd H5 acc (.lst (ys++[y]))) else Nx ys σ3 H4))
theorem akc{X:Cx}{tg iter v:Expr}{B:List Expr}{sc:Scope}{pos:Pos}{J:It}{fp:List Addr}{it:Addr}{tn:Nat->Heap->Prop}{g:TG}{G:TT}{te:TE}{a:Addr}{Qd:List V->Hp->Prop}{W:LW}{R:Result->Shared->Prop}
  (T:Turn X.prog X.w X.K tg J fp it tn) (hc:X.calm=true) (l:∀ e s,¬ X.xe e s) (hg:PG X tg g) (a1:PIf X B G) (he:PE X v te)
  (L:afs J g G te a Qd W) (hR:∀ ys σ H s,Inv X [] σ H s->Qd ys H->R (.ok .next) s)
  {i m:Nat} {ys:List V} {σ:St} {H:Hp} {s:Shared} (I:Inv X [] σ H s) (st:tn i s.heap) (hf:∀ b∈fp,FpOk X [] H b) (w:W i m ys σ H) :
  codeAny (model X.prog X.w) X.A (.compLoop (.ListComp v [⟨tg,iter,B,0⟩] sc pos) 0 (.ref it) (.ref a) X.env) R s:=by
 have h:∀{H':Hp},(∀ b∈fp,H' b=none)->∀ b∈fp,FpOk X [] H' b:=λhn b hb=>⟨hn b hb,(hf b hb).2⟩
 refine codeAny_loop rfl (λn s'=>∃ i ys c H',Inv X [] c H' s'/\tn i s'.heap/\(∀ b∈fp,H' b=none)/\W i n ys c H') ?_ m ⟨i,ys,σ,H,I,st,λb hb=>(hf b hb).1,w⟩
 rintro n s1 ⟨i,ys,f,P,I1,D,O,w1⟩
 show wpAny _ X.A ((compTurn (.ListComp v [⟨tg,iter,B,0⟩] sc pos) 0 (.ref it) (.ref a) X.env).onRaise (λx=>do noteFrame x X.env;theTreesLotGoes x)) _ _ s1
 refine wpAny_noted ?_
 rw[compTurn_list]
 refine aJ1 (wpAny_standAt (aJ1 ?_))
 obtain⟨a3,⟨stop,qd⟩|⟨go,Nx,F,step⟩⟩:=L i n ys f P w1
 ·refine thn (T.done X rfl rfl rfl hc i [] s1 f P _ I1 (h O) D stop) λr s2 ⟨Y,I2⟩=>?_
  subst Y
  exact aJ2 (hR ys f P s2 I2 qd)
 ·refine thn (T.item X rfl rfl rfl hc i [] s1 f P _ I1 (h O) D go) λr s2 ⟨u,Y,h2⟩=>?_
  subst Y
  refine aJ1 (thn h2 λ_ s3 ⟨x,H3,I3,r3,y3,q,a2⟩=>?_)
  have a0:=I3.pinned (h a2) (T.obj _ _ q)
  refine aJ1 (aK0 (hg _ s3 f H3 x u _ a0 r3 (step x H3 y3)) (λ_ s4 ⟨C,H4,I4,q4⟩=>?_) λe s' z=>(l e s' z).elim)
  have p:∀{j:St}{N:Hp}{E:Shared}{Z:List V},Inv X ([]++aep fp s3.heap) j N E->(∃ Q,Q<n/\W (i+1) Q Z j N)->∃ m,m<n/\∃ i ys c H',Inv X [] c H' E/\tn i E.heap/\(∀ b∈fp,H' b=none)/\W i m ys c H':=λ{j N E Z} M U=>by
   obtain⟨Q,hm,U⟩:=U
   refine⟨Q,hm,i+1,Z,j,N,M.unpinned,T.keep _ _ _ q λb hb o e=>(M.pin (b,o) (aB3 _ (aB3 _ (ab9 hb e)))).1,λb hb=>?_,U⟩
   obtain⟨o,e,d⟩:=T.obj _ _ q b hb
   exact(M.pin (b,o) (aB3 _ (aB3 _ (ab9 hb e)))).2.1
  refine aJ1 (aK0 (a1 _ s4 C H4 _ I4 q4) (λb s5 ⟨H5,I5,S⟩=>?_) λe s' z=>(l e s' z).elim)
  cases b with
  | false =>
   rw[aF6 aB0] at S
   exact aJ2 ⟨rfl,p I5 (F _ _ _ S)⟩
  | true =>
   rw[aF5 rfl] at S
   refine aJ1 (aJ1 (aK0 (he _ s5 C H5 _ I5 S) (λyv s6 ⟨y,H6,I6,r6,a6,l6,w6⟩=>?_) λe s' z=>(l e s' z).elim))
   have ap:=abt (X:=X) _ s6 C H6 (.ref a) [y] (.ref a) [yv] (λ_ H'=>H'=upd H6 a (.lst (ys++[y]))) I6 rfl (.cons r6 .nil) ⟨a,ys,y,rfl,rfl,a6,l6,rfl⟩
   refine aJ1 (aK0 ap (λ_ E ⟨v7,N,M,_,e7⟩=>?_) λe s' z=>(l e s' z).elim)
   subst e7
   exact aJ2 (aJ2 ⟨rfl,p M (F _ _ _ w6)⟩)
def tLC(src:List (Option Nat))(wi:TI)(g:TG)(tif:TT)(te:TE):TE:=λσ H Q=>wi σ H λJ H1=>∀ acc,H1 acc=none->∃ W:LW,(∃ m,W 0 m [] (pick src σ) (upd H1 acc (.lst [])))/\afs J g tif te acc (λ_ H'=>Q (.ref acc) H') W
section
variable{X:Cx}{N:List Str}{tg iter elt:Expr}{ifs:List Expr}{sc:Scope}{src:List (Option Nat)}{wi:TI}{g:TG}{tif:TT}{te:TE}{pos:Pos}
theorem axq(hc:X.calm=true)(L:LcOk X N sc src)(S:∀ C s E ex,PG (X.comp N sc C s E ex) tg g)(M:∀ C s E ex,PIf (X.comp N sc C s E ex) ifs tif)(he:∀ C s E ex,PE (X.comp N sc C s E ex) elt te)
  {pins:List (Addr × Obj)} {d:Shared} {σ:St} {H3:Hp} {Q:VK} (j:Inv X pins σ H3 d) {it a:Addr} {fp:List Addr} {J:It} {tn:Nat->Heap->Prop} (T:Turn X.prog X.w X.K tg J fp it tn) (l:tn 0 d.heap) (i:∀ b∈fp,FpOk X pins H3 b)
  {W:LW} {Z:Nat} (w0:W 0 Z [] (pick src σ) H3) (D:afs J g tif te a (λ_ H'=>Q (.ref a) H') W) (use:Option (Value->Sem Unit)) (P:Value->Shared->Prop)
  (hP:∀ C H' s' m,Inv X pins σ H' s'->Q (.ref a) H'->s'.heap.Ns C m->H' C=none->C ≠ X.env.locals->(C∈X.ex\/X.s₀.heap.objs.size<=C)->(∀ x c,X.env.cells.lookup x=some c->c ≠ C)->(∀ p∈X.pn++pins,p.1 ≠ C) ->
   compPost (model X.prog X.w) X.A X.xe use P (.ref a) C (.ok .next) s') :
  wpAny (model X.prog X.w) X.A (newFunctionEnv sc X.env.globals (clos X.env sc.names []) [] X.env.qual none .none (some X.env)) (λf r =>
    codeAny (model X.prog X.w) X.A (.compStart (.ListComp elt [⟨tg,iter,ifs,0⟩] sc pos) 0 (.ref it) (.ref a) { f with scope:=relabel sc X.env }) (compPost (model X.prog X.w) X.A X.xe use P (.ref a) f.locals) r) X.xe d:=by
 refine wpAny_newFunctionEnv L.nocell (by intro y Y;simp at Y) (λH q n=>?_) L.kind
 have R:∀ b∈fp,b<d.heap.objs.size:=λb hb=>by
  obtain⟨o,O,_⟩:=T.obj _ _ l b hb
  exact aJ4 O
 have u:∀ b o,d.heap.get? b=some o->H.get? b=some o:=λb o e=>n.extBut b o (aB6 (aJ4 e)) (aJ3 _ e)
 have G:=amj (t':=d.toks+([]:List (Str × Value)).length) L j i R (by simpa using q) u
 have F:tn 0 H:=T.keep _ _ _ l λb _ o e=>u b o e
 have U:∀ b∈fp,FpOk (X.comp N sc d.heap.objs.size d H3 fp) [] H3 b:=λb hb =>
  ⟨(i b hb).1,(G.ok.exf b hb).1,G.ok.exfs b hb,.inl hb,(G.ok.exf b hb).2,λp I=>absurd (show p∈([]:List (Addr × Obj)) from I) (by simp)⟩
 have fin:∀(ys:List V) B H' s',Inv (X.comp N sc d.heap.objs.size d H3 fp) [] B H' s'->Q (.ref a) H'->compPost (model X.prog X.w) X.A X.xe use P (.ref a) d.heap.objs.size (.ok .next) s':=λys B H' s' h q'=>by
  have Jo:Inv X pins σ H' s':=j.call' (ch:=fp) h.os h.base h.hok h.bare λb hb=>⟨(i b hb).2.2.2.1,(i b hb).2.1,(i b hb).2.2.2.2.1,(i b hb).2.2.2.2.2⟩
  obtain⟨m,hn,_⟩:=h.loc
  refine hP _ H' s' m Jo q' hn h.free (Nat.ne_of_gt j.lt) (.inr j.sz) (λx c e z=>?_) λp I z=>?_
  ·obtain⟨v,o,O,_⟩:=j.cell x c e
   exact absurd (aJ4 O) (by rw[z];exact aG4 _)
  ·exact absurd (aJ4 (j.pin p I).1) (by rw[z];exact aG4 _)
 have loop:codeAny (model X.prog X.w) X.A (.compLoop (.ListComp elt [⟨tg,iter,ifs,0⟩] sc pos) 0 (.ref it) (.ref a) (X.comp N sc d.heap.objs.size d H3 fp).env)
   (compPost (model X.prog X.w) X.A X.xe use P (.ref a) d.heap.objs.size) { d with heap:=H,toks:=d.toks+([]:List (Str × Value)).length } :=
  akc (X:=X.comp N sc d.heap.objs.size d H3 fp) T hc (λ_ _ z=>z) (S _ _ _ _) (M _ _ _ _) (he _ _ _ _) D fin G F U w0
 exact codeAny_compStart_list loop (T.self _ 0 _ _ _ F loop)
theorem amk(R:X.calm=true)(L:LcOk X N sc src)(hi:PI X tg iter wi)(z:∀ C d l ex,PG (X.comp N sc C d l ex) tg g)(n:∀ C d l ex,PIf (X.comp N sc C d l ex) ifs tif)(O:∀ C d l ex,PE (X.comp N sc C d l ex) elt te)
  {pins:List (Addr × Obj)} {s:Shared} {σ:St} {H:Hp} {Q:VK} (I:Inv X pins σ H s) (h:tLC src wi g tif te σ H Q) (use:Option (Value->Sem Unit)) (P:Value->Shared->Prop)
  (M:∀ j C H' s' m,Inv X pins σ H' s'->Q (.ref j) H'->s'.heap.Ns C m->H' C=none->C ≠ X.env.locals->(C∈X.ex\/X.s₀.heap.objs.size<=C)->(∀ x c,X.env.cells.lookup x=some c->c ≠ C)->(∀ p∈X.pn++pins,p.1 ≠ C) ->
   compPost (model X.prog X.w) X.A X.xe use P (.ref j) C (.ok .next) s')
  (hs:∀ x,foldedSetIterable iter X.env x=pure x) :
  wpAny (model X.prog X.w) X.A (comprehension (.ListComp elt [⟨tg,iter,ifs,0⟩] sc pos) sc X.env (firstIterPos [⟨tg,iter,ifs,0⟩] pos) (newList []) false (eval iter X.env) use) P X.xe s:=by
 refine wpAny_comprehension_free rfl hs (L.clo I.ok) L.kind L.own (thn (hi pins s σ H _ I h) λv s1 F=>thn F λB s2 K=>?_)
 obtain⟨it,fp,tn,J,H2,e,r,T,a,y,G⟩:=K
 subst e
 have f:H2 s2.heap.objs.size=none:=r.hok.fresh (aA6 _)
 obtain⟨W,⟨S,E⟩,i⟩:=G s2.heap.objs.size f
 have q:∀ b∈fp,b<s2.heap.objs.size:=λb hb=>by
  obtain⟨o,D,_⟩:=T.obj _ _ a b hb
  exact aJ4 D
 refine aK1 ?_
 refine axq R L z n O (H3:=upd H2 s2.heap.objs.size (.lst [])) ?_ T ?_ ?_ E i use P (M _)
 ·exact r.laid (t':=s2.toks) (λb u e=>aJ3 _ e) (aA6 _) ⟨aG0 _,[],0,.nil,aJ5 _ rfl⟩
 ·exact T.keep _ _ _ a λb _ o e=>aJ3 _ e
 ·exact λb hb=>⟨by rw[aae (aB6 (q b hb))];exact(y b hb).1,(y b hb).2⟩
theorem adn(p:X.calm=true)(L:LcOk X N sc src)(hi:PI X tg iter wi)(j:∀ C a c ex,PG (X.comp N sc C a c ex) tg g)(d:∀ C a c ex,PIf (X.comp N sc C a c ex) ifs tif)(u:∀ C a c ex,PE (X.comp N sc C a c ex) elt te)
  (hs:∀ x,foldedSetIterable iter X.env x=pure x:=by intro _;rfl):PE X (.ListComp elt [⟨tg,iter,ifs,0⟩] sc pos) (tLC src wi g tif te):=by
 intro pins s σ H Q I h
 rw[eval_ListComp]
 refine amk p L hi j d u I h none _ (λi C H' s' m J q hn r v n f l=>?_) hs
 refine⟨m,hn,λh' sb=>⟨.ref i,H',?_,rfl,q⟩⟩
 exact J.turned (t':=s'.toks) (λb o hb e=>sb.extBut b o hb e) r v n f l
end
section
variable{X:Cx}{N:List Str}{tg iter elt:Expr}{ifs:List Expr}{sc:Scope}{src:List (Option Nat)}{wi:TI}{g:TG}{tif:TT}{te:TE}{pos spos px:Pos}
theorem aet{i:Nat}{x:Str}(M:X.N.Nodup)(w:X.N[i]?=some x)(G:Loc X.env.scope x)(P:X.calm=true)(L:LcOk X N sc src)(hi:PI X tg iter wi)(B:∀ C c j ex,PG (X.comp N sc C c j ex) tg g)
  (p:∀ C c j ex,PIf (X.comp N sc C c j ex) ifs tif) (Q:∀ C c j ex,PE (X.comp N sc C c j ex) elt te)
  (r:swapsWith (.ListComp elt [⟨tg,iter,ifs,0⟩] sc pos) (some (.Name x px)) spos.line X.env=pure true:=by rfl)
  (hf:X.fn x=true\/X.env.scope.names.lookup x=some .local:=by first|exact .inl rfl|exact .inr rfl|assumption)
  (hs:∀ x,foldedSetIterable iter X.env x=pure x:=by intro _;rfl):PS X (.Assign [.Name x px] (.ListComp elt [⟨tg,iter,ifs,0⟩] sc pos) spos) (tAsg (tLC src wi g tif te) (abi i)):=by
 intro pins s σ H D I h
 rw[exec_Assign_Name_used _ _ _ _ r]
 refine aJ1 (wpAny_standAt (aJ1 ?_))
 show wpAny _ X.A (do let _ ← comprehension (.ListComp elt [⟨tg,iter,ifs,0⟩] sc pos) sc X.env _ (newList []) false (eval iter X.env) (some (assign (.Name x px) X.env))) _ _ s
 refine aJ1 (aK0 (amk P L hi B p Q I h (some (assign (.Name x px) X.env)) (λ_ s'=>SP X pins D .next s') (λf C H' s' m J q hn O y l d F=>?_) hs) (λ_ s' K=>aJ2 (aJ2 K)) λ_ _ e=>e)
 show wpAny _ X.A (assign (.Name x px) X.env (.ref f)) _ _ _
 refine wpAny_assign_Name (aj2 J M w G (v:=.ref f) rfl (λs2 E ⟨a,sb,ha⟩=>?_) hf)
 have u:C ≠ a:=by
  rcases ha with z|z
  ·rw[z];exact y
  ·exact(d x a z).symm
 refine⟨m,hn.sameBut sb u,λh' n=>⟨_,H',?_,q⟩⟩
 exact E.turned (t':=s2.toks) (λb o hb e=>n.extBut b o hb e) O y l d F
end
section
variable{g:TG}{tif:TT}{te:TE}{acc:Addr}{Qd:List V->Hp->Prop}{σ0:St}{H0:Hp}
theorem au1{lo:Int}{n:Nat}(c:Nat->List V->St->Hp->Prop)(l:c 0 [] σ0 H0)(ha:∀ i ys σ H,c i ys σ H->H acc=some (.lst ys))
  (hs:∀ i ys σ H,i<n->c i ys σ H->g (.int (lo+i)) σ H λa H3=>tif a H3 λb d=>if b=true then te a d λy f=>f acc=some (.lst ys)/\ys.length<sizeLine/\c (i+1) (ys++[y]) a (upd f acc (.lst (ys++[y]))) else c (i+1) ys a d)
  (hd:∀ ys σ H,c n ys σ H->Qd ys H):∃ W:LW,(∃ m,W 0 m [] σ0 H0)/\afs (Itr lo n) g tif te acc Qd W:=by
 refine⟨λi m ys σ H=>m=n-i/\i<=n/\c i ys σ H,⟨n,by simp,aG0 _,l⟩,?_⟩
 rintro i m ys σ H ⟨rfl,hi,p⟩
 refine⟨ha i ys σ H p,?_⟩
 by_cases hlt:i<n
 ·refine .inr ⟨hlt,c (i+1),λj o H' h=>⟨n-(i+1),by lia,rfl,hlt,h⟩,λx H' y=>?_⟩
  obtain⟨e,y⟩:=y
  subst e y
  exact hs i ys σ _ hlt p
 ·have e:i=n:=by lia
  subst e
  exact .inl ⟨aA6 _,hd ys σ H p⟩
end
def ao2(J:It)(g:TG)(tif:TT)(te:TE)(acc:Addr)(Qd:List V->St->Hp->Prop)(W:LW):Prop:=∀(i m:Nat)(ys:List V)(σ:St)(H:Hp),W i m ys σ H->H acc=some (.lst ys)/\((J.stop i H/\Qd ys σ H)\/(J.go i H /\
 ∃ Nx:List V->St->Hp->Prop,(∀ ys' σ' H',Nx ys' σ' H'->∃ m',m'<m/\W (i+1) m' ys' σ' H')/\∀ x H2,J.yld i H x H2 ->
 g x σ H2 λσ3 H3=>tif σ3 H3 λb H4=>if b=true then te σ3 H4 λy H5=>H5 acc=some (.lst ys)/\ys.length<sizeLine/\Nx (ys++[y]) σ3 (upd H5 acc (.lst (ys++[y]))) else Nx ys σ3 H4))
def aja(J:It)(g:TG)(tif:TT)(wi2:TI)(g2:TG)(tif2:TT)(te:TE)(acc:Addr)(Qd:List V->Hp->Prop)(W:LW):Prop:=∀(i m:Nat)(ys:List V)(σ:St)(H:Hp),W i m ys σ H->((J.stop i H/\Qd ys H)\/(J.go i H /\
 ∃ Nx:List V->St->Hp->Prop,(∀ ys' σ' H',Nx ys' σ' H'->∃ m',m'<m/\W (i+1) m' ys' σ' H')/\∀ x H2,J.yld i H x H2 ->
 g x σ H2 λσ3 H3=>tif σ3 H3 λb H4=>if b=true then wi2 σ3 H4 λJ2 H5=>∃ W2:LW,(∃ m2,W2 0 m2 ys σ3 H5)/\ao2 J2 g2 tif2 te acc Nx W2 else Nx ys σ3 H4))
theorem aky(a t1 i1 f d:Expr)(f1 g:List Expr)(sc:Scope)(pos:Pos)(it b:Value)(env:Env) :
  compTurn (.ListComp a [⟨t1,i1,f1,0⟩,⟨f,d,g,0⟩] sc pos) 0 it b env=(do
   standAt i1.pos
   match ← pyNext it with
   |none=>pure (.done .next)
   | some v =>
    letOwnedTupleGo t1 it v
    assign t1 env v
    let mut ok:=true
    for c in f1 do
     if ok then ok ← isTrue c env (eval c env)
    if ok then
     let x ← eval d env
     standAt d.pos
     let x ← foldedSetIterable d env x
     let _ ← runOwn (.compStart (.ListComp a [⟨t1,i1,f1,0⟩,⟨f,d,g,0⟩] sc pos) 1 (← holding [x] (pyIter x)) b env) env
    again (.compLoop (.ListComp a [⟨t1,i1,f1,0⟩,⟨f,d,g,0⟩] sc pos) 0 it b env)):=by rfl
theorem akz(a t1 i1 d g:Expr)(f1 f:List Expr)(sc:Scope)(pos:Pos)(it b:Value)(env:Env) :
  compTurn (.ListComp a [⟨t1,i1,f1,0⟩,⟨d,g,f,0⟩] sc pos) 1 it b env=(do
   standAt g.pos
   match ← pyNext it with
   |none=>pure (.done .next)
   | some v =>
    letOwnedTupleGo d it v
    assign d env v
    let mut ok:=true
    for c in f do
     if ok then ok ← isTrue c env (eval c env)
    if ok then
     (do let _ ← call (.builtin "list.append") [b,← eval a env])
    again (.compLoop (.ListComp a [⟨t1,i1,f1,0⟩,⟨d,g,f,0⟩] sc pos) 1 it b env)):=by rfl
theorem ass{prog:Program}{w:World}{A:Around}{R:Result->Shared->Prop}{s:Shared}{b t1 i1 i d:Expr}{f1 g:List Expr}{sc:Scope}{pos:Pos}{it c:Value}{env:Env}
  (j:codeAny (model prog w) A (.compLoop (.ListComp b [⟨t1,i1,f1,0⟩,⟨i,d,g,0⟩] sc pos) 1 it c env) R s)
  (h:wpAny (model prog w) A (pyIter it) (λa s'=>codeAny (model prog w) A (.compLoop (.ListComp b [⟨t1,i1,f1,0⟩,⟨i,d,g,0⟩] sc pos) 1 a c env) R s') (notedBy (model prog w) A env λx s'=>R (.error x) s') s) :
  codeAny (model prog w) A (.compStart (.ListComp b [⟨t1,i1,f1,0⟩,⟨i,d,g,0⟩] sc pos) 1 it c env) R s:=by
 refine codeAny_of_tree ?_
 show wpAny _ _ ((compStart (.ListComp b [⟨t1,i1,f1,0⟩,⟨i,d,g,0⟩] sc pos) 1 it c env).onRaise (λx=>do noteFrame x env;standAt theWindowsPlace)) _ _ s
 refine wpAny_notedAt ?_
 unfold compStart
 show wpAny _ _ (ask >>= _) _ _ s
 apply aJ1;apply wpAny_askSetting;apply wpAny_ite;split
 ·first|exact aJ1 (aJ2 (aJ2 ⟨rfl,j⟩))|exact aJ2 ⟨rfl,j⟩
 ·have q:wpAny (model prog w) A (pyIter it >>= λa=>again (.compLoop (.ListComp b [⟨t1,i1,f1,0⟩,⟨i,d,g,0⟩] sc pos) 1 a c env)) (λfin s'=>match fin with | .done f=>R (.ok f) s' | .again c'=>c'.quiet=true/\codeAny (model prog w) A c' R s') (notedBy (model prog w) A env λx s'=>R (.error x) s') s :=
   aJ1 (aK0 h (λa s' h'=>aJ2 ⟨rfl,h'⟩) λ_ _ x=>x)
  first
   |exact aJ1 (wpAny_rule (aJ1 (wpAny_standAt (aJ1 (aK0 h (λa s' h'=>aJ2 ⟨rfl,h'⟩) λ_ _ x=>x)))))
   |(apply aJ1;apply wpAny_rule;show wpAny _ _ (standAt d.pos >>= _) _ _ s;exact aJ1 (wpAny_standAt (aJ1 (aK0 h (λa s' h'=>aJ2 ⟨rfl,h'⟩) λ_ _ x=>x))))
theorem aqu{X:Cx}{v t1 i1 tg iter:Expr}{f1 B:List Expr}{sc:Scope}{pos:Pos}{J:It}{fp:List Addr}{it:Addr}{tn:Nat->Heap->Prop}{g:TG}{G:TT}{te:TE}{a:Addr}{Qd:List V->St->Hp->Prop}{W:LW}{R:Result->Shared->Prop}{pins:List (Addr × Obj)}
  (T:Turn X.prog X.w X.K tg J fp it tn) (hc:X.calm=true) (l:∀ e s,¬ X.xe e s) (hg:PG X tg g) (a1:PIf X B G) (he:PE X v te)
  (L:ao2 J g G te a Qd W) (hR:∀ ys σ H s,Inv X pins σ H s->Qd ys σ H->R (.ok .next) s)
  {i m:Nat} {ys:List V} {σ:St} {H:Hp} {s:Shared} (I:Inv X pins σ H s) (st:tn i s.heap) (hf:∀ b∈fp,FpOk X pins H b) (w:W i m ys σ H) :
  codeAny (model X.prog X.w) X.A (.compLoop (.ListComp v [⟨t1,i1,f1,0⟩,⟨tg,iter,B,0⟩] sc pos) 1 (.ref it) (.ref a) X.env) R s:=by
 have h:∀{H':Hp},(∀ b∈fp,H' b=none)->∀ b∈fp,FpOk X pins H' b:=λhn b hb=>⟨hn b hb,(hf b hb).2⟩
 refine codeAny_loop rfl (λn s'=>∃ i ys c H',Inv X pins c H' s'/\tn i s'.heap/\(∀ b∈fp,H' b=none)/\W i n ys c H') ?_ m ⟨i,ys,σ,H,I,st,λb hb=>(hf b hb).1,w⟩
 rintro n s1 ⟨i,ys,f,P,I1,D,O,w1⟩
 show wpAny _ X.A ((compTurn (.ListComp v [⟨t1,i1,f1,0⟩,⟨tg,iter,B,0⟩] sc pos) 1 (.ref it) (.ref a) X.env).onRaise (λx=>do noteFrame x X.env;theTreesLotGoes x)) _ _ s1
 refine wpAny_noted ?_
 rw[akz]
 refine aJ1 (wpAny_standAt (aJ1 ?_))
 obtain⟨a3,⟨stop,qd⟩|⟨go,Nx,F,step⟩⟩:=L i n ys f P w1
 ·refine thn (T.done X rfl rfl rfl hc i pins s1 f P _ I1 (h O) D stop) λr s2 ⟨Y,I2⟩=>?_
  subst Y
  exact aJ2 (hR ys f P s2 I2 qd)
 ·refine thn (T.item X rfl rfl rfl hc i pins s1 f P _ I1 (h O) D go) λr s2 ⟨u,Y,h2⟩=>?_
  subst Y
  refine aJ1 (thn h2 λ_ s3 ⟨x,H3,I3,r3,y3,q,a2⟩=>?_)
  have a0:=I3.pinned (h a2) (T.obj _ _ q)
  refine aJ1 (aK0 (hg _ s3 f H3 x u _ a0 r3 (step x H3 y3)) (λ_ s4 ⟨C,H4,I4,q4⟩=>?_) λe s' z=>(l e s' z).elim)
  have p:∀{j:St}{N:Hp}{E:Shared}{Z:List V},Inv X (pins++aep fp s3.heap) j N E->(∃ Q,Q<n/\W (i+1) Q Z j N)->∃ m,m<n/\∃ i ys c H',Inv X pins c H' E/\tn i E.heap/\(∀ b∈fp,H' b=none)/\W i m ys c H':=λ{j N E Z} M U=>by
   obtain⟨Q,hm,U⟩:=U
   refine⟨Q,hm,i+1,Z,j,N,M.unpinned,T.keep _ _ _ q λb hb o e=>(M.pin (b,o) (aB3 _ (aB3 _ (ab9 hb e)))).1,λb hb=>?_,U⟩
   obtain⟨o,e,d⟩:=T.obj _ _ q b hb
   exact(M.pin (b,o) (aB3 _ (aB3 _ (ab9 hb e)))).2.1
  refine aJ1 (aK0 (a1 _ s4 C H4 _ I4 q4) (λb s5 ⟨H5,I5,S⟩=>?_) λe s' z=>(l e s' z).elim)
  cases b with
  | false =>
   rw[aF6 aB0] at S
   exact aJ2 ⟨rfl,p I5 (F _ _ _ S)⟩
  | true =>
   rw[aF5 rfl] at S
   refine aJ1 (aJ1 (aK0 (he _ s5 C H5 _ I5 S) (λyv s6 ⟨y,H6,I6,r6,a6,l6,w6⟩=>?_) λe s' z=>(l e s' z).elim))
   have ap:=abt (X:=X) _ s6 C H6 (.ref a) [y] (.ref a) [yv] (λ_ H'=>H'=upd H6 a (.lst (ys++[y]))) I6 rfl (.cons r6 .nil) ⟨a,ys,y,rfl,rfl,a6,l6,rfl⟩
   refine aJ1 (aK0 ap (λ_ E ⟨v7,N,M,_,e7⟩=>?_) λe s' z=>(l e s' z).elim)
   subst e7
   exact aJ2 (aJ2 ⟨rfl,p M (F _ _ _ w6)⟩)
theorem aqv{X:Cx}{C t1 i1 t2 M:Expr}{f1 f2:List Expr}{sc:Scope}{pos:Pos}{J:It}{fp:List Addr}{it:Addr}{tn:Nat->Heap->Prop}{g:TG}{O:TT}{N:TI}{g2:TG}{q:TT}{te:TE}{D:Addr}{Qd:List V->Hp->Prop}{W:LW}{R:Result->Shared->Prop}
  (T:Turn X.prog X.w X.K t1 J fp it tn) (hc:X.calm=true) (c:∀ e s,¬ X.xe e s) (hg:PG X t1 g) (a5:PIf X f1 O) (a3:PI X t2 M N) (a0:PG X t2 g2) (Q:PIf X f2 q) (he:PE X C te)
  (a1:∀ x,foldedSetIterable M X.env x=pure x)
  (P:aja J g O N g2 q te D Qd W) (hR:∀ ys σ H s,Inv X [] σ H s->Qd ys H->R (.ok .next) s)
  {i m:Nat} {ys:List V} {σ:St} {H:Hp} {s:Shared} (I:Inv X [] σ H s) (st:tn i s.heap) (hf:∀ b∈fp,FpOk X [] H b) (w:W i m ys σ H) :
  codeAny (model X.prog X.w) X.A (.compLoop (.ListComp C [⟨t1,i1,f1,0⟩,⟨t2,M,f2,0⟩] sc pos) 0 (.ref it) (.ref D) X.env) R s:=by
 have l:∀{H':Hp},(∀ b∈fp,H' b=none)->∀ b∈fp,FpOk X [] H' b:=λhn b hb=>⟨hn b hb,(hf b hb).2⟩
 refine codeAny_loop rfl (λn s'=>∃ i ys a H',Inv X [] a H' s'/\tn i s'.heap/\(∀ b∈fp,H' b=none)/\W i n ys a H') ?_ m ⟨i,ys,σ,H,I,st,λb hb=>(hf b hb).1,w⟩
 rintro n s1 ⟨i,ys,j,H1,I1,F,Z,w1⟩
 show wpAny _ X.A ((compTurn (.ListComp C [⟨t1,i1,f1,0⟩,⟨t2,M,f2,0⟩] sc pos) 0 (.ref it) (.ref D) X.env).onRaise (λx=>do noteFrame x X.env;theTreesLotGoes x)) _ _ s1
 refine wpAny_noted ?_
 rw[aky]
 refine aJ1 (wpAny_standAt (aJ1 ?_))
 obtain⟨stop,qd⟩|⟨go,Nx,L,step⟩:=P i n ys j H1 w1
 ·refine thn (T.done X rfl rfl rfl hc i [] s1 j H1 _ I1 (l Z) F stop) λr s2 ⟨hr,I2⟩=>?_
  subst hr
  exact aJ2 (hR ys j H1 s2 I2 qd)
 ·refine thn (T.item X rfl rfl rfl hc i [] s1 j H1 _ I1 (l Z) F go) λr s2 ⟨u,hr,h2⟩=>?_
  subst hr
  refine aJ1 (thn h2 λ_ s3 ⟨x,H3,I3,r3,y3,B,a6⟩=>?_)
  have a4:=I3.pinned (l a6) (T.obj _ _ B)
  refine aJ1 (aK0 (hg _ s3 j H3 x u _ a4 r3 (step x H3 y3)) (λ_ s4 ⟨U,H4,I4,q4⟩=>?_) λe s' z=>(c e s' z).elim)
  have v:∀{p:St}{Y:Hp}{G:Shared}{zs:List V},Inv X ([]++aep fp s3.heap) p Y G->(∃ m',m'<n/\W (i+1) m' zs p Y)->∃ m,m<n/\∃ i ys a H',Inv X [] a H' G/\tn i G.heap/\(∀ b∈fp,H' b=none)/\W i m ys a H':=λ{p Y G zs} S w7=>by
   obtain⟨m',hm,w7⟩:=w7
   refine⟨m',hm,i+1,zs,p,Y,S.unpinned,T.keep _ _ _ B λb hb o e=>(S.pin (b,o) (aB3 _ (aB3 _ (ab9 hb e)))).1,λb hb=>?_,w7⟩
   obtain⟨o,e,d⟩:=T.obj _ _ B b hb
   exact(S.pin (b,o) (aB3 _ (aB3 _ (ab9 hb e)))).2.1
  refine aJ1 (aK0 (a5 _ s4 U H4 _ I4 q4) (λb s5 ⟨H5,I5,q5⟩=>?_) λe s' z=>(c e s' z).elim)
  cases b with
  | false =>
   rw[aF6 aB0] at q5
   exact aJ2 ⟨rfl,v I5 (L _ _ _ q5)⟩
  | true =>
   rw[aF5 rfl] at q5
   refine aJ1 (aK0 (a3 _ s5 U H5 _ I5 q5) (λxv s6 h6=>?_) λe s' z=>(c e s' z).elim)
   refine aJ1 (wpAny_standAt (aJ1 ?_))
   rw[a1 xv]
   refine aJ2 (aJ1 (aJ7 (aK0 h6 (λa9 G h7=>?_) λe s' z=>(c e s' z).elim)))
   obtain⟨a7,b2,a8,J2,Y,e,S,T2,E,a2,W2,⟨m2,w2⟩,y⟩:=h7
   subst e
   refine aJ1 (wpAny_runOwn ?_)
   have loop:=aqu (R:=λr s'=>match r with | .ok f=>(∃ m,m<n/\∃ i ys a H',Inv X [] a H' s'/\tn i s'.heap/\(∀ b∈fp,H' b=none)/\W i m ys a H') | .error e=>False) (t1:=t1) (i1:=i1) (f1:=f1) (iter:=M) (sc:=sc) (pos:=pos) T2 hc c a0 Q he y (λb0 b1 H8 s8 I8 q8=>v I8 (L _ _ _ q8)) S E a2 w2
   have st:=ass loop (T2.self _ 0 _ _ _ E loop)
   refine aJ6 st λr s' h=>?_
   cases r with
   |error e=>exact h.elim
   |ok f=>exact aJ2 ⟨rfl,h⟩
def tLC2(src:List (Option Nat))(wi:TI)(g:TG)(tif:TT)(wi2:TI)(g2:TG)(tif2:TT)(te:TE):TE:=λσ H Q=>wi σ H λJ H1=>∀ acc,H1 acc=none->∃ W:LW,(∃ m,W 0 m [] (pick src σ) (upd H1 acc (.lst [])))/\aja J g tif wi2 g2 tif2 te acc (λ_ H'=>Q (.ref acc) H') W
section
variable{X:Cx}{N:List Str}{t1 i1 t2 i2 elt:Expr}{f1 f2:List Expr}{sc:Scope}{src:List (Option Nat)}{wi wi2:TI}{g g2:TG}{tif tif2:TT}{te:TE}{pos:Pos}
theorem au2(hc:X.calm=true)(L:LcOk X N sc src)(hg:∀ C f h ex,PG (X.comp N sc C f h ex) t1 g)(R:∀ C f h ex,PIf (X.comp N sc C f h ex) f1 tif)(Y:∀ C f h ex,PI (X.comp N sc C f h ex) t2 i2 wi2)(M:∀ C f h ex,PG (X.comp N sc C f h ex) t2 g2)(q:∀ C f h ex,PIf (X.comp N sc C f h ex) f2 tif2)(he:∀ C f h ex,PE (X.comp N sc C f h ex) elt te)
  (U:∀ C f h ex x,foldedSetIterable i2 (X.comp N sc C f h ex).env x=pure x)
  {pins:List (Addr × Obj)} {d:Shared} {σ:St} {H3:Hp} {Q:VK} (n:Inv X pins σ H3 d) {it a:Addr} {fp:List Addr} {J:It} {tn:Nat->Heap->Prop} (T:Turn X.prog X.w X.K t1 J fp it tn) (r:tn 0 d.heap) (l:∀ b∈fp,FpOk X pins H3 b)
  {W:LW} {m0:Nat} (w0:W 0 m0 [] (pick src σ) H3) (F:aja J g tif wi2 g2 tif2 te a (λ_ H'=>Q (.ref a) H') W) (use:Option (Value->Sem Unit)) (P:Value->Shared->Prop)
  (hP:∀ C H' s' m,Inv X pins σ H' s'->Q (.ref a) H'->s'.heap.Ns C m->H' C=none->C ≠ X.env.locals->(C∈X.ex\/X.s₀.heap.objs.size<=C)->(∀ x c,X.env.cells.lookup x=some c->c ≠ C)->(∀ p∈X.pn++pins,p.1 ≠ C) ->
   compPost (model X.prog X.w) X.A X.xe use P (.ref a) C (.ok .next) s') :
  wpAny (model X.prog X.w) X.A (newFunctionEnv sc X.env.globals (clos X.env sc.names []) [] X.env.qual none .none (some X.env)) (λi B =>
    codeAny (model X.prog X.w) X.A (.compStart (.ListComp elt [⟨t1,i1,f1,0⟩,⟨t2,i2,f2,0⟩] sc pos) 0 (.ref it) (.ref a) { i with scope:=relabel sc X.env }) (compPost (model X.prog X.w) X.A X.xe use P (.ref a) i.locals) B) X.xe d:=by
 refine wpAny_newFunctionEnv L.nocell (by intro y hy;simp at hy) (λI u s=>?_) L.kind
 have Z:∀ b∈fp,b<d.heap.objs.size:=λb hb=>by
  obtain⟨o,S,_⟩:=T.obj _ _ r b hb
  exact aJ4 S
 have D:∀ b o,d.heap.get? b=some o->I.get? b=some o:=λb o e=>s.extBut b o (aB6 (aJ4 e)) (aJ3 _ e)
 have H:=amj (t':=d.toks+([]:List (Str × Value)).length) L n l Z (by simpa using u) D
 have G:tn 0 I:=T.keep _ _ _ r λb _ o e=>D b o e
 have f4:∀ b∈fp,FpOk (X.comp N sc d.heap.objs.size d H3 fp) [] H3 b:=λb hb =>
  ⟨(l b hb).1,(H.ok.exf b hb).1,H.ok.exfs b hb,.inl hb,(H.ok.exf b hb).2,λp O=>absurd (show p∈([]:List (Addr × Obj)) from O) (by simp)⟩
 have fin:∀(ys:List V) E H' s',Inv (X.comp N sc d.heap.objs.size d H3 fp) [] E H' s'->Q (.ref a) H'->compPost (model X.prog X.w) X.A X.xe use P (.ref a) d.heap.objs.size (.ok .next) s':=λys E H' s' j q'=>by
  have Jo:Inv X pins σ H' s':=n.call' (ch:=fp) j.os j.base j.hok j.bare λb hb=>⟨(l b hb).2.2.2.1,(l b hb).2.1,(l b hb).2.2.2.2.1,(l b hb).2.2.2.2.2⟩
  obtain⟨m,hn,_⟩:=j.loc
  refine hP _ H' s' m Jo q' hn j.free (Nat.ne_of_gt n.lt) (.inr n.sz) (λx c e z=>?_) λp O z=>?_
  ·obtain⟨v,o,S,_⟩:=n.cell x c e
   exact absurd (aJ4 S) (by rw[z];exact aG4 _)
  ·exact absurd (aJ4 (n.pin p O).1) (by rw[z];exact aG4 _)
 have loop:codeAny (model X.prog X.w) X.A (.compLoop (.ListComp elt [⟨t1,i1,f1,0⟩,⟨t2,i2,f2,0⟩] sc pos) 0 (.ref it) (.ref a) (X.comp N sc d.heap.objs.size d H3 fp).env)
   (compPost (model X.prog X.w) X.A X.xe use P (.ref a) d.heap.objs.size) { d with heap:=I,toks:=d.toks+([]:List (Str × Value)).length } :=
  aqv (X:=X.comp N sc d.heap.objs.size d H3 fp) T hc (λ_ _ z=>z) (hg _ _ _ _) (R _ _ _ _) (Y _ _ _ _) (M _ _ _ _) (q _ _ _ _) (he _ _ _ _) (U _ _ _ _) F fin H G f4 w0
 exact codeAny_compStart_list loop (T.self _ 0 _ _ _ G loop)
theorem ast(U:X.calm=true)(L:LcOk X N sc src)(hi:PI X t1 i1 wi)(B:∀ C a c ex,PG (X.comp N sc C a c ex) t1 g)(p:∀ C a c ex,PIf (X.comp N sc C a c ex) f1 tif)(w:∀ C a c ex,PI (X.comp N sc C a c ex) t2 i2 wi2)(n:∀ C a c ex,PG (X.comp N sc C a c ex) t2 g2)(d:∀ C a c ex,PIf (X.comp N sc C a c ex) f2 tif2)(S:∀ C a c ex,PE (X.comp N sc C a c ex) elt te)
  (hs:∀ x,foldedSetIterable i1 X.env x=pure x:=by intro _;rfl) (y:∀ C a c ex x,foldedSetIterable i2 (X.comp N sc C a c ex).env x=pure x:=by intros;rfl):PE X (.ListComp elt [⟨t1,i1,f1,0⟩,⟨t2,i2,f2,0⟩] sc pos) (tLC2 src wi g tif wi2 g2 tif2 te):=by
 intro pins s σ H Q I h
 rw[eval_ListComp]
 refine wpAny_comprehension_free rfl hs (L.clo I.ok) L.kind L.own (thn (hi pins s σ H _ I h) λv s1 M=>thn M λD s2 P=>?_)
 obtain⟨it,fp,tn,J,H2,e,A,T,f,l,O⟩:=P
 subst e
 have i:H2 s2.heap.objs.size=none:=A.hok.fresh (aA6 _)
 obtain⟨W,⟨Z,K⟩,j⟩:=O s2.heap.objs.size i
 have z:∀ b∈fp,b<s2.heap.objs.size:=λb hb=>by
  obtain⟨o,F,_⟩:=T.obj _ _ f b hb
  exact aJ4 F
 refine aK1 ?_
 refine au2 (pins:=pins) U L B p w n d S y (H3:=upd H2 s2.heap.objs.size (.lst [])) ?_ T ?_ ?_ K j none _ ?_
 ·exact A.laid (t':=s2.toks) (λb u e=>aJ3 _ e) (aA6 _) ⟨aG0 _,[],0,.nil,aJ5 _ rfl⟩
 ·exact T.keep _ _ _ f λb _ o e=>aJ3 _ e
 ·exact λb hb=>⟨by rw[aae (aB6 (z b hb))];exact(l b hb).1,(l b hb).2⟩
 ·intro C H' s' m J q hn R Y G r E
  refine⟨m,hn,λh' sb=>⟨.ref s2.heap.objs.size,H',?_,rfl,q⟩⟩
  exact J.turned (t':=s'.toks) (λb o hb e=>sb.extBut b o hb e) R Y G r E
end
theorem age{env:Env}{x x0:Str}:∀{names:List (Str × NameKind)},(∀ y∈names,y.2=.cell->y.1=x0) ->
  ((names.map λ(n,k)=>if (k == NameKind.free && env.scope.kind == .function && env.kindOf n == some .cell) then (n,NameKind.cell) else (n,k)).lookup x=some .cell ∨
   (names.map λ(n,k)=>if (k == NameKind.free && env.scope.kind == .function && env.kindOf n == some .cell) then (n,NameKind.cell) else (n,k)).lookup x=some .free)->x=x0\/names.lookup x=some .free
 |[],_,h=>by rcases h with h|h <;> simp at h
 | (n,k)::r,hc,h=>by
  have a:=@age env x x0 r λy b=>hc y (aB5 _ b)
  rw[aG9]
  simp only[aD1] at h
  by_cases hq:(k == NameKind.free && env.scope.kind == .function && env.kindOf n == some .cell)=true
  ·rw[aF5 hq] at h
   have c:k=NameKind.free:=by
    have:=hq;simp only[aH1] at this;simpa using this.1.1
   subst c
   cases hx:(x == n) with
   |true=>exact .inr rfl
   |false=>simp only[aG9,hx] at h;exact a h
  ·rw[aF6 hq] at h
   cases hx:(x == n) with
   | true =>
    simp only[aG9,hx] at h
    rcases h with h|h
    ·cases h
     exact .inl ((aG3.mp hx).trans (hc (n,NameKind.cell) aB8 rfl))
    ·exact .inr h
   |false=>simp only[aG9,hx] at h;exact a h
def Cx.compC(X:Cx)(N:List Str)(sc:Scope)(x0:Str)(C:Addr)(s0:Shared)(H0:Hp)(ex:List Addr):Cx where
 prog:=X.prog
 w:=X.w
 K:=X.K
 mg:=X.mg
 base:=X.base
 A:=X.A
 N:=N
 s₀:=s0
 H₀:=H0
 env:=compEnvC sc ((x0,C+1)::clos X.env sc.names []) C X.env
 outer:=X.stack
 stack:=X.stack
 ex:=ex
 fn:=λx=>x == x0
 calm:=X.calm
 pn:=[]
 xe:=λ_ _=>False
structure LcOkC(X:Cx)(N:List Str)(sc:Scope)(src:List (Option Nat))(x0:Str):Prop where
 kind:sc.kind=.function
 cells:∀ a cl,cellsFrom a sc.names cl=(x0,a)::cl
 push:∀ h,pushCells h sc.names=h.push { cls:=.type "cell",data:=.cell none }
 only:∀ y∈sc.names,y.2=.cell->y.1=x0
 own:∀ y∈sc.names,y.2=.local->sc.names.lookup y.1=some .local
 outs:∀ y∈sc.names,y.2=.free->X.env.kindOf y.1=some .cell\/X.env.kindOf y.1=some .free
 nof:∀ y∈sc.names,y.2=.free->y.1 ≠ x0
 len:src.length=N.length
 from':∀(i j:Nat),src[i]?=some (some j)->∃ x,N[i]?=some x/\X.N[j]?=some x/\sc.names.lookup x=some .free
theorem LcOkC.clo{X:Cx}{N:List Str}{sc:Scope}{src:List (Option Nat)}{x0:Str}(L:LcOkC X N sc src x0)(ok:X.Ok):closureFor sc X.env=pure (clos X.env sc.names []) :=
 ae3 λn hn=>ok.has n (L.outs (n,.free) hn rfl)
theorem asu{X:Cx}{pins:List (Addr × Obj)}{σ:St}{H:Hp}{s:Shared}{N:List Str}{sc:Scope}{src:List (Option Nat)}{x0:Str}{fp:List Addr}{E:Heap}{t':Nat}
  (L:LcOkC X N sc src x0) (I:Inv X pins σ H s) (hf:∀ b∈fp,FpOk X pins H b) (h:∀ b∈fp,b<s.heap.objs.size)
  (hn:E.Ns s.heap.objs.size λ_=>none) (B:∀ b o,s.heap.get? b=some o->E.get? b=some o) (J:E.IsCell (s.heap.objs.size+1) none) :
  Inv (X.compC N sc x0 s.heap.objs.size s H fp) [] (pick src σ) H { s with heap:=E,toks:=t' }:=by
 have d:∀{x c},(clos X.env sc.names []).lookup x=some c->X.env.cells.lookup x=some c:=λ{x c} e=>by
  rcases ad7 e with z|z
  ·exact z
  ·simp at z
 have look:∀{x c},(((x0,s.heap.objs.size+1)::clos X.env sc.names []:List (Str × Addr))).lookup x=some c->(x=x0/\c=s.heap.objs.size+1)\/(X.env.cells.lookup x=some c/\(clos X.env sc.names []).lookup x=some c/\x ≠ x0):=λ{x c} e=>by
  rw[aG9] at e
  cases g:(x == x0) with
  |true=>rw[g] at e;cases e;exact .inl ⟨aG3.mp g,rfl⟩
  |false=>rw[g] at e;exact .inr ⟨d e,e,λz=>by rw[z] at g;simp at g⟩
 have old:∀{x c},X.env.cells.lookup x=some c->c<s.heap.objs.size:=λ{x c} e=>by
  obtain⟨v,o,h,_⟩:=I.cell x c e
  exact aJ4 h
 have w:∀{x c},x ≠ x0->(clos X.env sc.names []).lookup x=some c->(((x0,s.heap.objs.size+1)::clos X.env sc.names []:List (Str × Addr))).lookup x=some c:=λ{x c} g e=>by
  rw[aG9,show(x == x0)=false by simpa using g];exact e
 refine⟨⟨I.ok.mod,L.kind,I.ok.glob,I.ok.blt,aA6 _,λx y c F f=>?_,λx g=>?_,λx c z e=>?_,I.ok.hd,I.ok.frames,.inl rfl,λb hb=>⟨?_,λx c e=>?_⟩,I.bs,aD0 I.ok.bsz I.sz,λb o e hb=>?_,λb hb z=>?_,I.stack,I.stkFree⟩,
  rfl,I.bare,Un.kept B,⟨_,hn,λi x v F f e3=>?_⟩,λx c e=>?_,I.hok.fresh (aA6 _),λx c e=>?_,λp T=>?_,I.hok.kept B,?_⟩
 ·rcases look F with ⟨D,U⟩|⟨D,_,_⟩ <;> rcases look f with ⟨C,W⟩|⟨C,_,_⟩
  ·rw[D,C]
  ·exact absurd (old C) (by rw[U];exact Nat.not_lt.mpr (Nat.le_succ _))
  ·exact absurd (old D) (by rw[W];exact Nat.not_lt.mpr (Nat.le_succ _))
  ·exact I.ok.inj x y c D C
 ·rcases age (env:=X.env) (x:=x) L.only g with q|q
  ·exact⟨s.heap.objs.size+1,by rw[q];show List.lookup x0 ((x0,_)::_)=_;rw[aG9];simp⟩
  ·obtain⟨c,e⟩:=adg (I.ok.has x (L.outs (x,.free) (PySem.mem_of_lookup q) rfl)) (PySem.mem_of_lookup q) (cs:=[])
   exact⟨c,w (L.nof (x,.free) (PySem.mem_of_lookup q) rfl) e⟩
 ·rcases look e with ⟨_,b⟩|⟨_,_,M⟩
  ·rw[b];exact Nat.le_succ _
  ·exact absurd (aG3.mp z) M
 ·exact aB6 (h b hb)
 ·rcases look e with ⟨_,b'⟩|⟨a,_,_⟩
  ·rw[b'];exact Nat.ne_of_gt (aF8 (h b hb))
  ·exact(hf b hb).2.2.2.2.1 x c a
 ·rcases(hf b hb).2.2.2.1 with z|z
  ·exact I.ok.noex b o e z
  ·exact absurd (aC5 (aJ4 e) (aD0 I.ok.bsz z)) (aG4 _)
 ·rcases aA9.mp (I.stkSub b z) with q|q
  ·exact(hf b hb).2.1 q
  ·exact(hf b hb).2.2.1 q
 ·unfold pick at f
  rw[aA5] at f
  cases q:src[i]? with
  |none=>rw[q] at f;cases f
  | some o =>
   rw[q] at f
   cases o with
   |none=>cases f
   | some j =>
    obtain⟨y,O,Z,A⟩:=L.from' i j q
    have K:N[i]?=some x:=F
    rw[K] at O
    cases O
    have Y : σ[j]?=some (some v):=by
     cases q2 : σ[j]? with
     |none=>simp[q2] at f
     |some z=>simp[q2] at f;rw[f]
    have h:=L.outs (x,.free) (PySem.mem_of_lookup A) rfl
    have G:Vis X.env.scope x:=by
     rcases h with z|z
     ·exact .inr (.inl z)
     ·exact .inr (.inr z)
    obtain⟨m,_,S⟩:=I.loc
    obtain⟨u,r,l⟩:=S j x v Z Y G
    refine⟨u,r,.inr ⟨?_,?_⟩⟩
    ·exact adm (env:=X.env) A
    ·rcases l with ⟨z,_⟩|⟨_,c,R,oc,n,hd⟩
     ·rcases h with P|P <;> (rw[P] at z;cases z)
     ·obtain⟨c',Q⟩:=adg (env:=X.env) ⟨c,R⟩ (PySem.mem_of_lookup A) (cs:=[])
      have:=d Q
      rw[R] at this;cases this
      exact⟨c,w (L.nof (x,.free) (PySem.mem_of_lookup A) rfl) Q,oc,B c oc n,hd⟩
 ·rcases look e with ⟨_,b⟩|⟨a,_,_⟩
  ·rw[b];exact⟨none,J⟩
  ·obtain⟨v,oc,n,hd⟩:=I.cell x c a
   exact⟨v,oc,B c oc n,hd⟩
 ·rcases look e with ⟨_,b⟩|⟨a,_,_⟩
  ·rw[b];exact I.hok.fresh (Nat.le_succ _)
  ·exact I.freeC x c a
 ·exact absurd (show p∈([]:List (Addr × Obj)) from T) (by simp)
 ·show(pick src σ).length=N.length
  unfold pick
  rw[aA3]
  exact L.len
theorem ajb{sc:Scope}{x0:Str}{g:Addr}{cl:List (Str × Addr)}{qual:Str}{outer:Env}{M:Model}{A:Around}{E:Value->Shared->Prop}{s:Shared}{Q:Env->Shared->Prop}
  (d:∀ a cl,cellsFrom a sc.names cl=(x0,a)::cl) (c:∀ h,pushCells h sc.names=h.push { cls:=.type "cell",data:=.cell none })
  (h:∀ h',h'.Ns s.heap.objs.size (λ_=>none)->(∀ b o,s.heap.get? b=some o->h'.get? b=some o)->h'.IsCell (s.heap.objs.size+1) none ->
   Q { scope:=sc,locals:=s.heap.objs.size,globals:=g,cells:=(x0,s.heap.objs.size+1)::cl,qual:=qual,func:=none,code:=outer.code,frame:=outer.frame,builtins:=outer.builtins } { s with heap:=h' }) :
  wpAny M A (newFunctionEnv sc g cl [] qual none .none (some outer)) Q E s:=by
 simp only[newFunctionEnv,Option.isSome_some,if_true]
 refine aJ1 (wpAny_alloc ?_)
 refine aJ1 (wpAny_layCells _ (λname kind cells=>by cases hkc:kind == NameKind.cell <;> simp[hkc]) _ _ _ _ ?_)
 rw[d,c]
 rw[show({ s with heap:=s.heap.push { cls:=.type "dict",data:=.dict #[] } }:Shared).heap.objs.size=s.heap.objs.size+1 from aK3 ..]
 simp only[List.forIn_nil,pure_bind]
 refine aJ2 ?_
 have hsz:(s.heap.push { cls:=.type "dict",data:=.dict #[] }).objs.size=s.heap.objs.size+1:=aK3 ..
 refine h _ ((Heap.Ns.new s.heap (.type "dict")).keeps λb o e=>aJ3 _ e) (λb o e=>aJ3 _ (aJ3 _ e)) ?_
 rw[← hsz]
 exact⟨_,aJ5 _ rfl,rfl⟩
section
variable{X:Cx}{N:List Str}{tg iter elt:Expr}{ifs:List Expr}{sc:Scope}{src:List (Option Nat)}{x0:Str}{wi:TI}{g:TG}{tif:TT}{te:TE}{pos:Pos}
theorem au3(hc:X.calm=true)(L:LcOkC X N sc src x0)(R:∀ C n D ex,PG (X.compC N sc x0 C n D ex) tg g)(H:∀ C n D ex,PIf (X.compC N sc x0 C n D ex) ifs tif)(he:∀ C n D ex,PE (X.compC N sc x0 C n D ex) elt te)
  {pins:List (Addr × Obj)} {d:Shared} {σ:St} {H3:Hp} {Q:VK} (i:Inv X pins σ H3 d) {it a:Addr} {fp:List Addr} {J:It} {tn:Nat->Heap->Prop} (T:Turn X.prog X.w X.K tg J fp it tn) (u:tn 0 d.heap) (j:∀ b∈fp,FpOk X pins H3 b)
  {W:LW} {Z:Nat} (Y:W 0 Z [] (pick src σ) H3) (y:afs J g tif te a (λ_ H'=>Q (.ref a) H') W) (use:Option (Value->Sem Unit)) (P:Value->Shared->Prop)
  (hP:∀ C H' s' m,Inv X pins σ H' s'->Q (.ref a) H'->s'.heap.Ns C m->H' C=none->C ≠ X.env.locals->(C∈X.ex\/X.s₀.heap.objs.size<=C)->(∀ x c,X.env.cells.lookup x=some c->c ≠ C)->(∀ p∈X.pn++pins,p.1 ≠ C) ->
   compPost (model X.prog X.w) X.A X.xe use P (.ref a) C (.ok .next) s') :
  wpAny (model X.prog X.w) X.A (newFunctionEnv sc X.env.globals (clos X.env sc.names []) [] X.env.qual none .none (some X.env)) (λf l =>
    codeAny (model X.prog X.w) X.A (.compStart (.ListComp elt [⟨tg,iter,ifs,0⟩] sc pos) 0 (.ref it) (.ref a) { f with scope:=relabel sc X.env }) (compPost (model X.prog X.w) X.A X.xe use P (.ref a) f.locals) l) X.xe d:=by
 refine ajb L.cells L.push λO B q s=>?_
 have M:∀ b∈fp,b<d.heap.objs.size:=λb hb=>by
  obtain⟨o,I,_⟩:=T.obj _ _ u b hb
  exact aJ4 I
 have F:=asu (t':=d.toks) L i j M B q s
 have E:tn 0 O:=T.keep _ _ _ u λb _ o e=>q b o e
 have S:∀ b∈fp,FpOk (X.compC N sc x0 d.heap.objs.size d H3 fp) [] H3 b:=λb hb =>
  ⟨(j b hb).1,(F.ok.exf b hb).1,F.ok.exfs b hb,.inl hb,(F.ok.exf b hb).2,λp G=>absurd (show p∈([]:List (Addr × Obj)) from G) (by simp)⟩
 have fin:∀(ys:List V) r H' s',Inv (X.compC N sc x0 d.heap.objs.size d H3 fp) [] r H' s'->Q (.ref a) H'->compPost (model X.prog X.w) X.A X.xe use P (.ref a) d.heap.objs.size (.ok .next) s':=λys r H' s' h U=>by
  have Jo:Inv X pins σ H' s':=i.call' (ch:=fp) h.os h.base h.hok h.bare λb hb=>⟨(j b hb).2.2.2.1,(j b hb).2.1,(j b hb).2.2.2.2.1,(j b hb).2.2.2.2.2⟩
  obtain⟨m,hn,_⟩:=h.loc
  refine hP _ H' s' m Jo U hn h.free (Nat.ne_of_gt i.lt) (.inr i.sz) (λx c e z=>?_) λp G z=>?_
  ·obtain⟨v,o,I,_⟩:=i.cell x c e
   exact absurd (aJ4 I) (by rw[z];exact aG4 _)
  ·exact absurd (aJ4 (i.pin p G).1) (by rw[z];exact aG4 _)
 have loop:codeAny (model X.prog X.w) X.A (.compLoop (.ListComp elt [⟨tg,iter,ifs,0⟩] sc pos) 0 (.ref it) (.ref a) (X.compC N sc x0 d.heap.objs.size d H3 fp).env)
   (compPost (model X.prog X.w) X.A X.xe use P (.ref a) d.heap.objs.size) { d with heap:=O } :=
  akc (X:=X.compC N sc x0 d.heap.objs.size d H3 fp) T hc (λ_ _ z=>z) (R _ _ _ _) (H _ _ _ _) (he _ _ _ _) y fin F E S Y
 exact codeAny_compStart_list loop (T.self _ 0 _ _ _ E loop)
theorem a0a(O:X.calm=true)(L:LcOkC X N sc src x0)(hi:PI X tg iter wi)(w:∀ C c i ex,PG (X.compC N sc x0 C c i ex) tg g)(j:∀ C c i ex,PIf (X.compC N sc x0 C c i ex) ifs tif)(M:∀ C c i ex,PE (X.compC N sc x0 C c i ex) elt te)
  (hs:∀ x,foldedSetIterable iter X.env x=pure x:=by intro _;rfl):PE X (.ListComp elt [⟨tg,iter,ifs,0⟩] sc pos) (tLC src wi g tif te):=by
 intro pins s σ H Q I h
 rw[eval_ListComp]
 refine wpAny_comprehension_free rfl hs (L.clo I.ok) L.kind L.own (thn (hi pins s σ H _ I h) λv s1 E=>thn E λy s2 G=>?_)
 obtain⟨it,fp,tn,J,H2,e,p,T,a,r,F⟩:=G
 subst e
 have d:H2 s2.heap.objs.size=none:=p.hok.fresh (aA6 _)
 obtain⟨W,⟨R,D⟩,f⟩:=F s2.heap.objs.size d
 have n:∀ b∈fp,b<s2.heap.objs.size:=λb hb=>by
  obtain⟨o,A,_⟩:=T.obj _ _ a b hb
  exact aJ4 A
 refine aK1 ?_
 refine au3 (pins:=pins) O L w j M (H3:=upd H2 s2.heap.objs.size (.lst [])) ?_ T ?_ ?_ D f none _ (λC H' s' m J q hn K P B l z=>?_)
 ·exact p.laid (t':=s2.toks) (λb u e=>aJ3 _ e) (aA6 _) ⟨aG0 _,[],0,.nil,aJ5 _ rfl⟩
 ·exact T.keep _ _ _ a λb _ o e=>aJ3 _ e
 ·exact λb hb=>⟨by rw[aae (aB6 (n b hb))];exact(r b hb).1,(r b hb).2⟩
 ·refine⟨m,hn,λh' sb=>⟨.ref _,H',?_,rfl,q⟩⟩
  exact J.turned (t':=s'.toks) (λb o hb e=>sb.extBut b o hb e) K P B l z
end
theorem au4{X:Cx}{N:List Str}{sc:Scope}{src:List (Option Nat)}{x0:Str}(l:sc.kind=.function)(p:∀ a cl,cellsFrom a sc.names cl=(x0,a)::cl)(f:∀ h,pushCells h sc.names=h.push { cls:=.type "cell",data:=.cell none })
  (o:sc.names.all (λy=>y.2 != .cell || y.1 == x0)=true) (n:sc.names.all (λy=>y.2 != .local || sc.names.lookup y.1 == some .local)=true)
  (c:sc.names.all (λy=>y.2 != .free || X.env.kindOf y.1 == some .cell || X.env.kindOf y.1 == some .free)=true) (d:sc.names.all (λy=>y.2 != .free || y.1 != x0)=true) (g:src.length=N.length)
  (m:(List.range src.length).all (λi=>match src[i]? with|some (some j)=>(match N[i]?,X.N[j]? with|some x,some y=>x == y && sc.names.lookup x == some .free|_,_=>false)|_=>true)=true):LcOkC X N sc src x0:=by
 refine⟨l,p,f,λy b e=>?_,λy b e=>?_,λy b e=>?_,λy b e=>?_,g,λi j e=>?_⟩
 ·have:=aF4.mp o y b
  rw[e] at this
  simpa using this
 ·have:=aF4.mp n y b
  rw[e] at this
  simpa using this
 ·have:=aF4.mp c y b
  rw[e] at this
  simpa using this
 ·have:=aF4.mp d y b
  rw[e] at this
  simpa using this
 ·have hi:i<src.length:=(aA1.mp e).1
  have:=aF4.mp m i (aB9.mpr hi)
  simp only[e] at this
  cases hN:N[i]? with
  |none=>rw[hN] at this;simp at this
  | some x =>
   cases hX:X.N[j]? with
   |none=>rw[hN,hX] at this;simp at this
   | some y =>
    rw[hN,hX] at this
    simp only[aH1,aG3] at this
    exact⟨x,rfl,by rw[this.1],this.2⟩
section
variable{X:Cx}{N:List Str}{t1 i1 t2 i2 elt:Expr}{f1 f2:List Expr}{sc:Scope}{src:List (Option Nat)}{wi wi2:TI}{g g2:TG}{tif tif2:TT}{te:TE}{pos spos px:Pos}
end
def rLen(K:Frag):List V->Hp->VK->Prop:=λxs H Q=>∃ p ys,xs=[.ref p]/\(SqL K H p ys\/SqT K H p ys)/\Q (.int ys.length) H
theorem abl{X:Cx}:aa2 X (.builtin "len") (rLen X.K):=ama
def alp:List V->Hp->VK->Prop:=λxs H Q=>∃ i j,xs=[.int i,.int j]/\Q (.int (if j > i then j else i)) H
def alq:List V->Hp->VK->Prop:=λxs H Q=>∃ i j,xs=[.int i,.int j]/\Q (.int (if j<i then j else i)) H
theorem acr{X:Cx}(a:X.calm=true):aa2 X (.builtin "max") alp:=asc a
theorem acz{X:Cx}(a:X.calm=true):aa2 X (.builtin "min") alq:=asd a
def alr:List V->Hp->VK->Prop:=λxs H Q=>(∃ i,xs=[.int i]/\Q (.int i) H)\/∃ k,xs=[.bl k]/\Q (.int (if k then 1 else 0)) H
theorem aeg{X:Cx}:aa2 X (.type "int") alr:=ase
section
variable{σ:St}{H:Hp}{D:Ends}{K:Frag}
theorem a0b{t u:TS}(h:t { D with nx:=u D } σ H):tSeq t u D σ H:=h
theorem a0c{te:TE}{g:TG}(h:te σ H λx a=>g x σ a D.nx):tAsg te g D σ H:=h
theorem a0d{te:TE}(h:te σ H D.rt):tRet te D σ H:=h
theorem axr{te:TE}(h:te σ H λ_ a=>D.nx σ a):aqn te D σ H:=h
theorem axs(h:D.nx σ H):aqm D σ H:=h
theorem a0e{c:TT}{t u:TS}(h:c σ H λb a=>if b=true then t D σ a else u D σ a):tIfS c t u D σ H:=h
theorem aft{i:Nat}{v:V}{Q:St->Hp->Prop}(h:Q (σ.set i (some v)) H):abi i v σ H Q:=h
theorem axt{to a:TE}{t:TSet}{v:V}{Q:St->Hp->Prop}(h:to σ H λo b=>a σ b λi H2=>t o i v H2 λH3=>Q σ H3):gSub to a t v σ H Q:=h
theorem aml{i:Nat}{v:V}{Q:VK}(a : σ[i]?=some (some v))(h:Q v H):tVar i σ H Q:=⟨v,a,h⟩
theorem go_c{v:V}{Q:VK}(h:Q v H):tC v σ H Q:=h
theorem a2n{r:R2}{b a:TE}{Q:VK}(h:b σ H λx c=>a σ c λy H2=>r x y H2 Q):tOp r b a σ H Q:=h
theorem axu{t:TE}{Q:Bool->Hp->Prop}(h:t σ H λx H'=>∃ k,x=.bl k/\Q k H'):alm t σ H Q:=h
theorem a2o{k:Bool}{Q:Bool->Prop}(h:Q k):∃ a,V.bl k=.bl a/\Q a:=⟨k,rfl,h⟩
theorem a0f{t u:TT}{Q:Bool->Hp->Prop}(h:t σ H λc a=>if c=true then u σ a Q else Q false a):tAnd t u σ H Q:=h
theorem afu{a:TE}{tr:TA}{Q:List V->Hp->Prop}(h:a σ H λx b=>tr σ b λxs H2=>Q (x::xs) H2):abb a tr σ H Q:=h
theorem aeu{Q:List V->Hp->Prop}(h:Q [] H):tNil σ H Q:=h
theorem asv{t:TA}{Q:VK}(h:t σ H λxs a=>xs.length<=sizeLine/\∀ p,a p=none->Q (.ref p) (upd a p (.tup xs))):tTup t σ H Q:=h
theorem asw{t:TA}{Q:VK}(h:t σ H λxs a=>xs.length<=sizeLine/\∀ p,a p=none->Q (.ref p) (upd a p (.lst xs))):tLst t σ H Q:=h
theorem a2p{r:List V->Hp->VK->Prop}{t:TA}{Q:VK}(h:t σ H λvs a=>r vs a Q):tCB r t σ H Q:=h
theorem axv{sp:Sp}{E:XK}{t:TA}{Q:VK}(h:t σ H λvs a=>sp vs a Q E):aco sp [] E t σ H Q:=by
 unfold aco
 simp only[aF0]
 exact h
theorem go_I{C:Int->Int->Prop}{g:Int->Int->V}{i j:Int}{Q:VK}(a:C i j)(h:Q (g i j) H):rI C g (.int i) (.int j) H Q:=⟨i,j,rfl,rfl,a,h⟩
theorem a2q{g:Int->Int->V}{i j:Int}{Q:VK}(h:Q (g i j) H):rI0 g (.int i) (.int j) H Q:=⟨i,j,rfl,rfl,h⟩
theorem asx{i j:Int}{Q:VK}(h:Q (.bl (decide (i=j))) H):rEq (.int i) (.int j) H Q:=by
 have e:decide (V.int i=V.int j)=decide (i=j):=by rw[ag8];exact Bool.beq_eq_decide_eq i j
 exact⟨rfl,by rw[e];exact h⟩
theorem a0g{i j:Int}{Q:VK}(h:Q (.bl (!decide (i=j))) H):rNe (.int i) (.int j) H Q:=by
 have e:decide (V.int i=V.int j)=decide (i=j):=by rw[ag8];exact Bool.beq_eq_decide_eq i j
 exact⟨rfl,by rw[e];exact h⟩
theorem a0h{i j:Bool}{Q:VK}(h:Q (.bl (decide (i=j))) H):rEq (.bl i) (.bl j) H Q:=by
 have e:decide (V.bl i=V.bl j)=decide (i=j):=by rw[al5];cases i <;> cases j <;> rfl
 exact⟨rfl,by rw[e];exact h⟩
theorem a0i{a:Addr}{xs:List V}{i:Int}{v:V}{Q:VK}(ha:H a=some (.lst xs))(b:atI xs i=some v)(h:Q v H):rIxL K (.ref a) (.int i) H Q:=⟨a,xs,i,v,rfl,rfl,SqL.of ha,b,h⟩
theorem a0j{a:Addr}{xs:List V}{i:Int}{v:V}{Q:VK}(ha:H a=some (.tup xs))(b:atI xs i=some v)(h:Q v H):rIxT K (.ref a) (.int i) H Q:=⟨a,xs,i,v,rfl,rfl,SqT.of ha,b,h⟩
theorem ajc{a:Addr}{xs:List V}{k:Int}{j:Nat}{v:V}{Q:Hp->Prop}(ha:H a=some (.lst xs))(b:ixN xs.length k=some j)(h:Q (upd H a (.lst (xs.set j v)))):aln (.ref a) (.int k) v H Q:=⟨a,xs,k,j,rfl,rfl,ha,b,h⟩
theorem ae5{a:Addr}{xs:List V}{y:V}{Q:VK}(ha:H a=some (.lst xs))(b:xs.length<sizeLine)(h:Q .non (upd H a (.lst (xs++[y])))):aej (.ref a) [y] H Q:=⟨a,xs,y,rfl,rfl,ha,b,h⟩
theorem asz{a b:Addr}{xs c:List V}{Q:VK}(ha:H a=some (.lst xs))(hb:H b=some (.lst c))(d:xs.length+c.length<=sizeLine)(h:Q .non (upd H a (.lst (xs++c)))):ai9 (.ref a) [.ref b] H Q:=⟨a,b,xs,c,rfl,rfl,ha,hb,d,h⟩
theorem a0k{r:V->List V->Hp->VK->Prop}{to:TE}{t:TA}{Q:VK}(h:to σ H λx a=>tyV K "list" x a/\t σ a λxs H2=>r x xs H2 Q):tBM K "list" r to t σ H Q:=h
theorem a0l{a b:Addr}{xs c:List V}{Q:VK}(ha:H a=some (.lst xs))(hb:H b=some (.lst c))(d:xs.length+c.length<=sizeLine)(h:∀ p,H p=none->Q (.ref p) (upd H p (.lst (xs++c)))):rCat (.ref a) (.ref b) H Q:=⟨a,b,xs,c,rfl,rfl,ha,hb,d,h⟩
theorem ao3{a:Addr}{xs:List V}{Q:VK}(ha:H a=some (.lst xs))(h:Q (.int xs.length) H):rLen K [.ref a] H Q:=⟨a,xs,rfl,.inl (SqL.of ha),h⟩
theorem ao4{i j:Int}{Q:VK}(h:Q (.int (if j > i then j else i)) H):alp [.int i,.int j] H Q:=⟨i,j,rfl,h⟩
theorem ao5{i j:Int}{Q:VK}(h:Q (.int (if j<i then j else i)) H):alq [.int i,.int j] H Q:=⟨i,j,rfl,h⟩
theorem ao6{k:Bool}{Q:VK}(h:Q (.int (if k then 1 else 0)) H):alr [.bl k] H Q:=.inr ⟨k,rfl,h⟩
theorem ajd{c:Prop} [Decidable c] {A B:Prop} (a:c) (h:A):if decide c=true then A else B:=by rw[aD8 a];exact iteT h
theorem aje{c:Prop} [Decidable c] {A B:Prop} (a:¬ c) (h:B):if decide c=true then A else B:=by rw[aD7 a];exact iteF h
theorem abm{c:Prop} [Decidable c] {A B:Prop} (a:c->A) (b:¬ c->B):if decide c=true then A else B:=by
 by_cases hc:c
 ·exact ajd hc (a hc)
 ·exact aje hc (b hc)
theorem axw{c:Prop} [Decidable c] {A B:Prop} (a:¬ c->A) (b:c->B):if (!decide c)=true then A else B:=by
 by_cases hc:c
 ·rw[aD8 hc];exact iteF (b hc)
 ·rw[aD7 hc];exact iteT (a hc)
theorem at0{x:V}{xs:List V}:atI (x::xs) 0=some x:=adw (j:=0) rfl
theorem at1{x y:V}{xs:List V}:atI (x::y::xs) 1=some y:=adw (j:=1) rfl
theorem at2{x y z:V}{xs:List V}:atI (x::y::z::xs) 2=some z:=adw (j:=2) rfl
theorem ixN0{n:Nat}:ixN (n+1) 0=some 0:=by unfold ixN;rw[aF5 (by decide),aF5 (by lia)];rfl
theorem ixN1{n:Nat}:ixN (n+2) 1=some 1:=by unfold ixN;rw[aF5 (by decide),aF5 (by lia)];rfl
theorem ixN2{n:Nat}:ixN (n+3) 2=some 2:=by unfold ixN;rw[aF5 (by decide),aF5 (by lia)];rfl
end
structure CallOk(P:Program)(w:World)(K:Frag)(mg:Str->Option Value)(base:Heap)(x:Str)(k:Nat)(ps:List Str)(sp:Sp)(f:Addr)(fd:FuncData):Prop where
 ok:FnOk P w K mg base CX0 k f fd ps sp
 mgx:mg x=some (.ref f)
 kp:keepIn K (.ref f)=true
 bd:Binds K fd ps []
def Can(P:Program)(w:World)(K:Frag)(mg:Str->Option Value)(base:Heap)(x:Str)(k:Nat)(ps:List Str)(sp:Sp):Prop:=∃ f fd,CallOk P w K mg base x k ps sp f fd
structure DefAt(K:Frag)(mg:Str->Option Value)(x:Str)(st:Stmt)(ps:List Str)(f:Addr)(fd:FuncData):Prop where
 fn:Fun K x x st f fd
 mgx:mg x=some (.ref f)
 bd:Binds K fd ps []
theorem DefAt.can{P:Program}{w:World}{K:Frag}{mg:Str->Option Value}{base:Heap}{x:Str}{st:Stmt}{k:Nat}{ps:List Str}{sp:Sp}{f:Addr}{fd:FuncData}(D:DefAt K mg x st ps f fd)(ok:FnOk P w K mg base CX0 k f fd ps sp):Can P w K mg base x k ps sp :=
 ⟨f,fd,ok,D.mgx,D.fn.kp,D.bd⟩
section
variable{X:Cx}{k j:Nat}{ps:List Str}{sp:Sp}{x:Str}{p pos:Pos}{e:Expr}{es:List Expr}{t:TA}
theorem aag(F:Can X.prog X.w X.K X.mg X.base x k ps sp)(g:Room j X.A)(ha:PA X (e::es) t)(d:k<=j:=by decide)(c:Gl X x:=by rfl)(a:(x == ("__debug__" : Str))=false:=by decide)
  (h:starEach (e::es) X.env=(false,eval e X.env)::starEach es X.env:=by rfl) (b:(backTo pos (starEach es X.env)).any (·.1)=false:=by rfl) :
  PE X (.Call (.Name x p) (e::es) [] pos) (aco sp [] E0 t):=by
 obtain⟨f,fd,C⟩:=F
 exact axj C.ok (g.mono d) c C.mgx C.kp C.bd .nil a2m ha a h b
end
theorem abe{X:Cx}{N:List Str}{sc:Scope}{src:List (Option Nat)}(d:sc.kind=.function)(h:sc.names.all (λy=>y.2 != .cell)=true)(g:sc.names.all (λy=>y.2 != .local || sc.names.lookup y.1 == some .local)=true)
  (b:sc.names.all (λy=>y.2 != .free || X.env.kindOf y.1 == some .cell || X.env.kindOf y.1 == some .free)=true) (l:src.length=N.length)
  (f:(List.range src.length).all (λi=>match src[i]? with|some (some j)=>(match N[i]?,X.N[j]? with|some x,some y=>x == y && sc.names.lookup x == some .free|_,_=>false)|_=>true)=true):LcOk X N sc src:=by
 refine⟨d,λy a e=>?_,λy a e=>?_,λy a e=>?_,l,λi j e=>?_⟩
 ·have:=aF4.mp h y a
  rw[e] at this
  exact absurd this (by decide)
 ·have:=aF4.mp g y a
  rw[e] at this
  simpa using this
 ·have:=aF4.mp b y a
  rw[e] at this
  simpa using this
 ·have hi:i<src.length:=(aA1.mp e).1
  have:=aF4.mp f i (aB9.mpr hi)
  rw[e] at this
  dsimp only at this
  cases h7:N[i]? with
  |none=>rw[h7] at this;cases this
  | some x =>
   cases h8:X.N[j]? with
   |none=>rw[h7,h8] at this;cases this
   | some y =>
    rw[h7,h8] at this
    simp only[aH1] at this
    have c:x=y:=by simpa using this.1
    subst c
    exact⟨x,rfl,rfl,by simpa using this.2⟩
section
variable{σ:St}{H:Hp}{D:Ends}{K:Frag}
def ForW(J:It)(g:TG)(tb:TS)(D:Ends)(σ:St)(H1:Hp):Prop:=∃ W:Nat->Nat->St->Hp->Prop,(∃ m,W 0 m σ H1)/\∀ i m σ H,W i m σ H ->
 (J.stop i H/\D.nx σ H)\/(J.go i H/\∃ N:St->Hp->Prop,(∀ σ' H',N σ' H'->∃ m',m'<m/\W (i+1) m' σ' H')/\∀ x H',J.yld i H x H'->g x σ H' λσ2 H2=>tb { D with nx:=N,ct:=N,bk:=D.nx } σ2 H2)
theorem a0m{b:TI}{g:TG}{a:TS}(h:b σ H λJ c=>ForW J g a D σ c):tFor b g a D σ H:=h
def LcW(J:It)(g:TG)(tif:TT)(te:TE)(σ0:St)(Q:VK)(H1:Hp):Prop:=∀ acc,H1 acc=none->∃ W:LW,(∃ m,W 0 m [] σ0 (upd H1 acc (.lst [])))/\afs J g tif te acc (λ_ H'=>Q (.ref acc) H') W
theorem a2r{src:List (Option Nat)}{b:TI}{g:TG}{a:TT}{te:TE}{Q:VK}(h:b σ H λJ c=>LcW J g a te (pick src σ) Q c):tLC src b g a te σ H Q:=h
def aw2(R:It->Hp->Prop):List V->Hp->Prop:=λvs H1=>∃ j:Int,vs=[.int j]/\-(2 ^ 62)<=j/\j<2 ^ 62/\R (Itr 0 j.toNat) H1
theorem au5{a:TA}{R:It->Hp->Prop}(h:a σ H (aw2 R)):aqp a σ H R:=h
theorem ao7{R:It->Hp->Prop}{j:Int}(b:0<=j)(a:j<2 ^ 62)(h:R (Itr 0 j.toNat) H):aw2 R [.int j] H:=⟨j,rfl,by lia,a,h⟩
theorem a0n{a:Addr}{xs:List V}{i:Int}{v:V}{Q:VK}(ha:SqL K H a xs)(b:atI xs i=some v)(h:Q v H):rIxL K (.ref a) (.int i) H Q:=⟨a,xs,i,v,rfl,rfl,ha,b,h⟩
theorem ao8{a:Addr}{xs:List V}{Q:VK}(ha:SqL K H a xs)(h:Q (.int xs.length) H):rLen K [.ref a] H Q:=⟨a,xs,rfl,.inl ha,h⟩
theorem a0o{a:Addr}{xs:List V}{R:Prop}(ha:H a=some (.lst xs))(h:R):tyV K "list" (.ref a) H/\R:=⟨.inl ⟨rfl,_,SqL.of ha⟩,h⟩
theorem agn{Q:Bool->Hp->Prop}(h:Q true H):tYes σ H Q:=h
theorem au6{a:Addr}{xs:List V}{i:Int}{k:Nat}{y:V}{Q:VK}(ha:H a=some (.lst xs))(d : -(2 ^ 63)<=i)(f:i<2 ^ 63)(c:seqIndex? i xs.length=some k)(b:xs[k]?=some y)(h:Q y (upd H a (.lst (xs.eraseIdx k)))):amd (.ref a) [.int i] H Q :=
 ⟨a,xs,i,k,y,rfl,rfl,ha,d,f,c,b,h⟩
end
end L2
namespace L2
open PySem
theorem aca:bootBuiltins "len" = some (.builtin "len"):=by decide +kernel
theorem ada:bootBuiltins "max" = some (.builtin "max"):=by decide +kernel
theorem aev:bootBuiltins "min" = some (.builtin "min"):=by decide +kernel
theorem as0:bootBuiltins "sum" = some (.builtin "sum"):=by decide +kernel
theorem ad8:bootBuiltins "sorted" = some (.builtin "sorted"):=by decide +kernel
theorem adc:bootBuiltins "isinstance" = some (.builtin "isinstance"):=by decide +kernel
theorem amm:bootBuiltins "all" = some (.builtin "all"):=by decide +kernel
theorem a0p:bootBuiltins "any" = some (.builtin "any"):=by decide +kernel
theorem ago:bootBuiltins "int" = some (.type "int"):=by decide +kernel
theorem adx:bootBuiltins "list" = some (.type "list"):=by decide +kernel
theorem ao9:bootBuiltins "dict" = some (.type "dict"):=by decide +kernel
theorem a0q:bootBuiltins "set" = some (.type "set"):=by decide +kernel
theorem apa:bootBuiltins "bool" = some (.type "bool"):=by decide +kernel
end L2
namespace TS
open PySem PyProof.Rows
def ajf:Bool->Keyed->Array Keyed->Nat->Nat->Nat->StateT SortSt Sem (Option Nat):=sortPriv% PySem.Builtin.gallop
def au7:Array Keyed->Array Keyed->StateT SortSt Sem (Array Keyed):=sortPriv% PySem.Builtin.mergeLo
def au8:Array Keyed->Array Keyed->StateT SortSt Sem (Array Keyed):=sortPriv% PySem.Builtin.mergeHi
def amn:Nat->StateT SortSt Sem Bool:=sortPriv% PySem.Builtin.mergeAt
def axx:Nat->Nat->StateT SortSt Sem (Option Nat):=sortPriv% PySem.Builtin.countRun
def au9:Nat->Nat->Nat->StateT SortSt Sem Bool:=sortPriv% PySem.Builtin.binarySort
def a2s:StateT SortSt Sem Unit:=sortPriv% PySem.Builtin.sortRuns
structure Cmp(M:Model)(A:Around)(E:Value->Shared->Prop)(s:Shared)(κ:SortKind)(S:Keyed->Prop)(R:Keyed->Keyed->Bool):Prop where
 ask:∀ x y,S x->S y->∀(Q:Option Bool->SortSt->Prop)(st:SortSt),kindOf st = κ->Q (some (R x y)) st->wpS M A E s (lt' x y) Q st
 asy:∀ x y,S x->S y->R x y=true->R y x=false
 tr:∀ x y z,S x->S y->S z->R y x=false->R z y=false->R z x=false
section
variable{M:Model}{A:Around}{E:Value->Shared->Prop}{s:Shared}{κ:SortKind}{S:Keyed->Prop}{R:Keyed->Keyed->Bool}
theorem aa0{arr:Array Keyed}{i:Nat}{x:Keyed}{Q:Keyed->SortSt->Prop}{st:SortSt}(a:arr[i]?=some x)(h:Q x st):wpS M A E s (elem' arr i) Q st:=by
 rw[elem'_eq,a]
 exact wpS_pure h
theorem ady{x:String}{Q:Unit->SortSt->Prop}{st:SortSt}(h:Q () st):wpS M A E s (liftM (PySem.rule x):StateT SortSt Sem Unit) Q st :=
 wpS_lift (wpAny_rule ⟨rfl,h⟩)
def bey(left:Bool)(key:Keyed)(arr:Array Keyed)(base i:Nat):StateT SortSt Sem (Option Bool):=do
 let x ← elem' arr (base+i)
 if left=true then lt' x key else do
  let r ← lt' key x
  pure (Option.map (λb=>!b) r)
theorem akd{left:Bool}{p:Keyed}{arr:Array Keyed}{base n a:Nat}{B:Nat->Bool}
  (hb:∀ i,i<n->∀(Q:Option Bool->SortSt->Prop)(st:SortSt),kindOf st = κ->Q (some (B i)) st->wpS M A E s (bey left p arr base i) Q st)
  (mono:∀ i j,i<j->j<n->B j=true->B i=true) (hh:a<n) {Q:Option Nat->SortSt->Prop} {st:SortSt} (x:kindOf st = κ)
  (h:∀ k,k<=n->(∀ i,i<k->B i=true)->(∀ i,k<=i->i<n->B i=false)->Q (some k) st):wpS M A E s (ajf left p arr base n a) Q st:=by
 have c:∀ i j,i<j->j<n->B i=false->B j=false:=λi j y H hi=>by
  cases e:B j with
  |false=>rfl
  |true=>rw[mono i j y H e] at hi;cases hi
 -- the last loop
 have last:∀(lo hi:Nat)(F:Option (Option Nat) × Nat × Nat->StateT SortSt Sem (Option Nat)),lo<=hi->hi<=n->(∀ i,i<lo->B i=true)->(∀ i,hi<=i->i<n->B i=false) ->
   (∀ lo hi,F (none,lo,hi)=pure (some hi)) ->
   wpS M A E s (forIn [:n] ((none,lo,hi):Option (Option Nat) × Nat × Nat) (λ(_:Nat) z=>if z.2.1 ≥ z.2.2 then pure (ForInStep.done (none,z.2.1,z.2.2)) else bey left p arr base (z.2.1+(z.2.2-z.2.1) / 2) >>= λr=>match r with
    |some more=>if more=true then pure (ForInStep.yield (none,z.2.1+(z.2.2-z.2.1) / 2+1,z.2.2)) else pure (ForInStep.yield (none,z.2.1,z.2.1+(z.2.2-z.2.1) / 2))
    |_=>pure (ForInStep.done (some none,z.2.1,z.2.2))) >>= F) Q st:=by
  intro lo hi F J L K G C
  refine wpS_bind (wpS_forRange (λt z st'=>st'=st/\z.1=none/\z.2.1<=z.2.2/\z.2.2<=n/\z.2.2-z.2.1+t<=n/\(∀ i,i<z.2.1->B i=true)/\(∀ i,z.2.2<=i->i<n->B i=false)) ?_ ?_ ⟨rfl,rfl,J,L,by dsimp only;lia,K,G⟩)
  ·rintro t ⟨o,l,u⟩ st' _ D ⟨rfl,e,q,d,b,g,w⟩
   dsimp only at e q d b g w ⊢
   subst e
   by_cases hlu:l ≥ u
   ·rw[aF5 hlu]
    have:l=u:=by lia
    subst this
    exact wpS_pure (by dsimp only;rw[C];exact wpS_pure (h l d g w))
   ·rw[aF6 hlu]
    have hm:l+(u-l) / 2<u:=by lia
    refine wpS_bind (hb _ (by lia) _ _ x ?_)
    dsimp only
    cases e:B (l+(u-l) / 2) with
    | true =>
     rw[aF5 rfl]
     refine wpS_pure ⟨rfl,rfl,by dsimp only;lia,d,by dsimp only;lia,λi hi=>?_,w⟩
     dsimp only at hi
     by_cases hi2:i=l+(u-l) / 2
     ·rw[hi2];exact e
     ·exact mono i _ (by lia) (by lia) e
    | false =>
     rw[aF6 (by simp)]
     refine wpS_pure ⟨rfl,rfl,by dsimp only;lia,by dsimp only;lia,by dsimp only;lia,g,λi hi hn=>?_⟩
     dsimp only at hi
     by_cases hi2:i=l+(u-l) / 2
     ·rw[hi2];exact e
     ·exact c _ i (by lia) hn e
  ·rintro ⟨o,l,u⟩ st' ⟨rfl,e,q,d,b,g,w⟩
   dsimp only at e q d b g w ⊢
   subst e
   have : l = u := by have:n ≤ max 0 n := by lia
                      lia
   subst this
   rw[C]
   exact wpS_pure (h l d g w)
 refine wpS_bind (f:=λI=>_) (m:=bey left p arr base a) (hb a hh _ st x ?_)
 dsimp only
 cases e0:B a with
 | true =>
  rw[aF5 rfl]
  refine wpS_bind ?_
  refine wpS_forRange (λt (z:Option (Option Nat) × Nat × Nat) st'=>st'=st/\z.1=none/\z.2.1<z.2.2/\a+z.2.1<n/\B (a+z.2.1)=true/\t+1<=z.2.2) ?_ ?_ ⟨rfl,rfl,by decide,by dsimp only;lia,e0,Nat.le_refl _⟩
  ·rintro t ⟨o,l,u⟩ st' _ D ⟨rfl,e,q,d,b,g⟩
   dsimp only at e q d b g ⊢
   subst e
   by_cases hu:u ≥ n-a
   ·rw[aF5 hu]
    refine wpS_pure ?_
    dsimp only
    refine last _ _ _ (by lia) (by lia) (λi hi=>?_) (λi hi hn=>by lia) (λ_ _=>rfl)
    by_cases hi2:i=a+l
    ·rw[hi2];exact b
    ·exact mono i _ (by lia) d b
   ·rw[aF6 hu]
    refine wpS_bind (m:=bey left p arr base (a+u)) (hb _ (by lia) _ _ x ?_)
    dsimp only
    cases e1:B (a+u) with
    | true =>
     rw[aF6 (by decide)]
     exact wpS_pure ⟨rfl,rfl,by dsimp only;lia,by dsimp only;lia,e1,by dsimp only;lia⟩
    | false =>
     rw[aF5 (by decide)]
     refine wpS_pure ?_
     dsimp only
     refine last _ _ _ (by lia) (by lia) (λi hi=>?_) (λi hi hn=>?_) (λ_ _=>rfl)
     ·by_cases hi2:i=a+l
      ·rw[hi2];exact b
      ·exact mono i _ (by lia) d b
     ·by_cases hi2:i=a+u
      ·rw[hi2];exact e1
      ·exact c _ i (by lia) hn e1
  ·rintro⟨o,l,u⟩ st' ⟨rfl,e,q,d,b,g⟩
   dsimp only at e q d b g ⊢
   subst e
   dsimp only
   refine last _ _ _ (by lia) (by lia) (λi hi=>?_) (λi hi hn=>by lia) (λ_ _=>rfl)
   by_cases hi2:i=a+l
   ·rw[hi2];exact b
   ·exact mono i _ (by lia) d b
 | false =>
  rw[aF6 (by decide)]
  refine wpS_bind ?_
  refine wpS_forRange (λt (z:Option (Option Nat) × Nat × Nat) st'=>st'=st/\z.1=none/\z.2.1<z.2.2/\z.2.1<=a/\B (a-z.2.1)=false/\t+1<=z.2.2) ?_ ?_ ⟨rfl,rfl,by decide,aG0 _,e0,aA6 _⟩
  ·rintro t ⟨o,l,u⟩ st' _ D ⟨rfl,e,q,d,b,g⟩
   dsimp only at e q d b g ⊢
   subst e
   have v:∀ i,a-l<=i->i<n->B i=false:=λi hi hn=>by
    by_cases hi2:i=a-l
    ·rw[hi2];exact b
    ·exact c _ i (by lia) hn b
   by_cases hu:u ≥ a+1
   ·rw[aF5 hu]
    refine wpS_pure ?_
    dsimp only
    exact last _ _ _ (by lia) (by lia) (λi hi=>by lia) v (λ_ _=>rfl)
   ·rw[aF6 hu]
    refine wpS_bind (m:=bey left p arr base (a-u)) (hb _ (by lia) _ _ x ?_)
    dsimp only
    cases e1:B (a-u) with
    | true =>
     rw[aF5 rfl]
     refine wpS_pure ?_
     dsimp only
     refine last _ _ _ (by lia) (by lia) (λi hi=>?_) v (λ_ _=>rfl)
     by_cases hi2:i=a-u
     ·rw[hi2];exact e1
     ·exact mono i _ (by lia) (by lia) e1
    | false =>
     rw[aF6 (by decide)]
     exact wpS_pure ⟨rfl,rfl,by dsimp only;lia,by dsimp only;lia,e1,by dsimp only;lia⟩
  ·rintro⟨o,l,u⟩ st' ⟨rfl,e,q,d,b,g⟩
   dsimp only at e q d b g ⊢
   subst e
   dsimp only
   refine last _ _ _ (by lia) (by lia) (λi hi=>by lia) (λi hi hn=>?_) (λ_ _=>rfl)
   by_cases hi2:i=a-l
   ·rw[hi2];exact b
   ·exact c _ i (by lia) hn b
end
def Srt(R:Keyed->Keyed->Bool)(l:List Keyed):Prop:=l.Pairwise λx y=>R y x=false
structure Mid(R:Keyed->Keyed->Bool)(L out a b:List Keyed):Prop where
 perm:(out++a++b).Perm L
 so:Srt R out
 le:∀ x∈out,∀ y∈a++b,R y x=false
 sa:Srt R a
 sb:Srt R b
section
variable{R:Keyed->Keyed->Bool}{L out a b p:List Keyed}
theorem Mid.takeA(m:Mid R L out (p++a) b)(h:∀ x∈p,∀ y∈b,R y x=false):Mid R L (out++p) a b:=by
 have sp:=aC9.mp m.sa
 refine⟨by have:=m.perm;rw[← aB4] at this;exact this,aC9.mpr ⟨m.so,sp.1,λx d y c=>m.le x d y (aC7 _ (aC7 _ c))⟩,λx d y c=>?_,sp.2.1,m.sb⟩
 rcases aA7.mp d with d|d
 ·refine m.le x d y ?_
  rcases aA7.mp c with c|c
  ·exact aC7 _ (aB3 _ c)
  ·exact aB3 _ c
 ·rcases aA7.mp c with c|c
  ·exact sp.2.2 x d y c
  ·exact h x d y c
theorem Mid.takeB(m:Mid R L out a (p++b))(h:∀ x∈p,∀ y∈a,R y x=false):Mid R L (out++p) a b:=by
 have sp:=aC9.mp m.sb
 refine⟨List.Perm.trans ?_ m.perm,aC9.mpr ⟨m.so,sp.1,λx d y c=>m.le x d y (aB3 _ (aC7 _ c))⟩,λx d y c=>?_,m.sa,sp.2.1⟩
 ·rw[← aB4 (out++a) p b]
  refine List.Perm.append_right b ?_
  rw[aB4,aB4]
  exact List.Perm.append_left out List.perm_append_comm
 ·rcases aA7.mp d with d|d
  ·refine m.le x d y ?_
   rcases aA7.mp c with c|c
   ·exact aC7 _ c
   ·exact aB3 _ (aB3 _ c)
  ·rcases aA7.mp c with c|c
   ·exact h x d y c
   ·exact sp.2.2 x d y c
theorem Mid.done(m:Mid R L out a b)(h:a=[]\/b=[]):(out++a++b).Perm L/\Srt R (out++a++b):=by
 refine⟨m.perm,?_⟩
 rw[aB4]
 refine aC9.mpr ⟨m.so,?_,m.le⟩
 rcases h with h|h
 ·subst h;exact m.sb
 ·subst h;rw[aF0];exact m.sa
theorem Mid.last(m:Mid R L out a b)(h:∀ y∈b,∀ x∈a,R x y=false):(out++b++a).Perm L/\Srt R (out++b++a):=by
 refine⟨List.Perm.trans ?_ m.perm,?_⟩
 ·rw[aB4,aB4]
  exact List.Perm.append_left out List.perm_append_comm
 ·rw[aB4]
  refine aC9.mpr ⟨m.so,aC9.mpr ⟨m.sb,m.sa,h⟩,λx d y c=>m.le x d y ?_⟩
  rcases aA7.mp c with c|c
  ·exact aB3 _ c
  ·exact aC7 _ c
end
structure Eqv(st st':SortSt):Prop where
 k:kindOf st'=kindOf st
 a:arrOf st'=arrOf st
 p:pendingOf st'=pendingOf st
 f:failedOf st'=failedOf st
theorem Eqv.refl(st:SortSt):Eqv st st:=⟨rfl,rfl,rfl,rfl⟩
theorem Eqv.trans{a b c:SortSt}(h:Eqv a b)(g:Eqv b c):Eqv a c:=⟨g.k.trans h.k,g.a.trans h.a,g.p.trans h.p,g.f.trans h.f⟩
theorem ahe(a:Array Keyed)(i:Nat):(a.extract i a.size).toList=a.toList.drop i:=by
 rw[Array.toList_extract];simp only[List.extract_eq_take_drop];exact aF1 (by simp)
theorem ajg(a:Array Keyed)(i k:Nat):(a.extract i (i+k)).toList=(a.toList.drop i).take k:=by
 rw[Array.toList_extract];simp[List.extract]
theorem abn{a:Array Keyed}{i:Nat}(h:i<a.size):a.toList.drop i=a[i]::a.toList.drop (i+1):=by
 rw[List.drop_eq_getElem_cons (by simpa using h)];simp
section
variable{M:Model}{A:Around}{E:Value->Shared->Prop}{s:Shared}{κ:SortKind}{S:Keyed->Prop}{R:Keyed->Keyed->Bool}
theorem Cmp.irr{x:Keyed}(C:Cmp M A E s κ S R)(a:S x):R x x=false:=by
 cases e:R x x with
 |false=>rfl
 |true=>have:=C.asy x x a a e;rw[e] at this;cases this
theorem agp(C:Cmp M A E s κ S R){a:Keyed}{arr:Array Keyed}{base n f:Nat}(g:S a)(P:∀ x∈arr.toList,S x)(hn:base+n<=arr.size)(hs:Srt R ((arr.toList.drop base).take n))(hh:f<n)
  {Q:Option Nat->SortSt->Prop} {st:SortSt} (I:kindOf st = κ)
  (h:∀ k,k<=n->(∀ x∈(arr.toList.drop base).take k,R a x=false)->(∀ x∈((arr.toList.drop base).take n).drop k,R a x=true)->Q (some k) st) :
  wpS M A E s (ajf false a arr base n f) Q st:=by
 have at':∀ i,i<n->∃ x,arr[base+i]?=some x/\S x/\((arr.toList.drop base).take n)[i]?=some x:=λi hi=>by
  have o:base+i<arr.size:=by lia
  refine⟨arr[base+i],aA4 o,P _ (by simp),?_⟩
  rw[aH5 hi,aI3]
  simp[o]
 have l:∀ i j x y,i<j->j<n->arr[base+i]?=some x->arr[base+j]?=some y->R y x=false:=λi j x y m q ex H=>by
  obtain⟨W,c,_,b⟩:=at' i (by lia)
  obtain⟨U,F,_,z⟩:=at' j q
  rw[ex] at c;cases c
  rw[H] at F;cases F
  obtain⟨G,b⟩:=aA1.mp b
  obtain⟨J,z⟩:=aA1.mp z
  have:=aG7.mp hs i j G J m
  rw[b,z] at this
  exact this
 refine akd (κ:=κ) (B:=λi=>match arr[base+i]? with|some x=>!(R a x)|none=>false) (λi hi X st' v D=>?_) (λi j m q p=>?_) hh I λk u N T=>h k u (λx w=>?_) λx w=>?_
 ·obtain⟨x,c,r,_⟩:=at' i hi
  unfold bey
  refine wpS_bind (aa0 c ?_)
  rw[aF6 (by decide)]
  refine wpS_bind (C.ask _ _ g r _ _ v ?_)
  refine wpS_pure ?_
  simp only[c] at D
  exact D
 ·obtain⟨x,c,r,_⟩:=at' i (by lia)
  obtain⟨y,b,L,_⟩:=at' j q
  simp only[c,b] at p ⊢
  have K:=l i j x y m q c b
  have O:R a y=false:=by simpa using p
  have:=C.tr x y a r L g K O
  simp[this]
 ·obtain⟨i,hi,e⟩:=List.getElem_of_mem w
  have d:i<k:=by rw[aH0] at hi;lia
  obtain⟨y,c,_,b⟩:=at' i (by lia)
  have hb:=N i d
  simp only[c] at hb
  have ex:x=y:=by
   have:((arr.toList.drop base).take k)[i]?=some x:=by rw[aA0 hi,e]
   rw[aH5 d] at this
   rw[aH5 (by lia)] at b
   rw[this] at b;exact aC6 b
  subst ex
  simpa using hb
 ·obtain⟨i,hi,e⟩:=List.getElem_of_mem w
  have d:k+i<n:=by rw[aI9,aH0] at hi;lia
  obtain⟨y,c,_,b⟩:=at' (k+i) d
  have hb:=T (k+i) (by lia) d
  simp only[c] at hb
  have ex:x=y:=by
   have:(((arr.toList.drop base).take n).drop k)[i]?=some x:=by rw[aA0 hi,e]
   rw[aI3] at this
   rw[this] at b;exact aC6 b
  subst ex
  simpa using hb
theorem ah4(C:Cmp M A E s κ S R){a:Keyed}{arr:Array Keyed}{base n f:Nat}(g:S a)(O:∀ x∈arr.toList,S x)(hn:base+n<=arr.size)(hs:Srt R ((arr.toList.drop base).take n))(hh:f<n)
  {Q:Option Nat->SortSt->Prop} {st:SortSt} (I:kindOf st = κ)
  (h:∀ k,k<=n->(∀ x∈(arr.toList.drop base).take k,R x a=true)->(∀ x∈((arr.toList.drop base).take n).drop k,R x a=false)->Q (some k) st) :
  wpS M A E s (ajf true a arr base n f) Q st:=by
 have at':∀ i,i<n->∃ x,arr[base+i]?=some x/\S x/\((arr.toList.drop base).take n)[i]?=some x:=λi hi=>by
  have p:base+i<arr.size:=by lia
  refine⟨arr[base+i],aA4 p,O _ (by simp),?_⟩
  rw[aH5 hi,aI3]
  simp[p]
 have l:∀ i j x y,i<j->j<n->arr[base+i]?=some x->arr[base+j]?=some y->R y x=false:=λi j x y m q ex H=>by
  obtain⟨U,c,_,b⟩:=at' i (by lia)
  obtain⟨T,F,_,z⟩:=at' j q
  rw[ex] at c;cases c
  rw[H] at F;cases F
  obtain⟨G,b⟩:=aA1.mp b
  obtain⟨J,z⟩:=aA1.mp z
  have:=aG7.mp hs i j G J m
  rw[b,z] at this
  exact this
 refine akd (κ:=κ) (B:=λi=>match arr[base+i]? with|some x=>R x a|none=>false) (λi hi W st' v D=>?_) (λi j m q o=>?_) hh I λk u N P=>h k u (λx w=>?_) λx w=>?_
 ·obtain⟨x,c,r,_⟩:=at' i hi
  unfold bey
  refine wpS_bind (aa0 c ?_)
  rw[aF5 rfl]
  simp only[c] at D
  exact C.ask _ _ r g _ _ v D
 ·obtain⟨x,c,r,_⟩:=at' i (by lia)
  obtain⟨y,b,L,_⟩:=at' j q
  simp only[c,b] at o ⊢
  have K:=l i j x y m q c b
  cases e:R x a with
  |true=>rfl
  | false =>
   have:=C.tr a x y g r L e K
   rw[this] at o;cases o
 ·obtain⟨i,hi,e⟩:=List.getElem_of_mem w
  have d:i<k:=by rw[aH0] at hi;lia
  obtain⟨y,c,_,b⟩:=at' i (by lia)
  have hb:=N i d
  simp only[c] at hb
  have ex:x=y:=by
   have:((arr.toList.drop base).take k)[i]?=some x:=by rw[aA0 hi,e]
   rw[aH5 d] at this
   rw[aH5 (by lia)] at b
   rw[this] at b;exact aC6 b
  subst ex
  exact hb
 ·obtain⟨i,hi,e⟩:=List.getElem_of_mem w
  have d:k+i<n:=by rw[aI9,aH0] at hi;lia
  obtain⟨y,c,_,b⟩:=at' (k+i) d
  have hb:=P (k+i) (by lia) d
  simp only[c] at hb
  have ex:x=y:=by
   have:(((arr.toList.drop base).take n).drop k)[i]?=some x:=by rw[aA0 hi,e]
   rw[aI3] at this
   rw[this] at b;exact aC6 b
  subst ex
  exact hb
end
section
variable{M:Model}{A:Around}{E:Value->Shared->Prop}{s:Shared}{κ:SortKind}{S:Keyed->Prop}{R:Keyed->Keyed->Bool}
structure Two(S:Keyed->Prop)(R:Keyed->Keyed->Bool)(a b:Array Keyed):Prop where
 ha:∀ x∈a.toList,S x
 hb:∀ x∈b.toList,S x
 sa:Srt R a.toList
 sb:Srt R b.toList
 a0:0<a.size
 b0:0<b.size
 first:∀ x∈a.toList,∀ y,b[0]?=some y->R x y=false
 last:∀ y∈b.toList,∀ x,a[a.size-1]?=some x->R x y=false
def Fin2(R:Keyed->Keyed->Bool)(a b m:Array Keyed):Prop:=m.toList.Perm (a.toList++b.toList)/\Srt R m.toList
structure Lo(S:Keyed->Prop)(R:Keyed->Keyed->Bool)(a b out:Array Keyed)(ia ib:Nat):Prop where
 mid:Mid R (a.toList++b.toList) out.toList (a.toList.drop ia) (b.toList.drop ib)
 ia:ia<=a.size
 ib:ib<=b.size
theorem Lo.len{a b out:Array Keyed}{ia ib:Nat}(l:Lo S R a b out ia ib):out.size+(a.size-ia)+(b.size-ib)=a.size+b.size:=by
 have:=l.mid.perm.length_eq
 simp at this
 lia
theorem Lo.doneA{a b out:Array Keyed}{ia ib:Nat}(l:Lo S R a b out ia ib)(h:ib=b.size\/ia=a.size):Fin2 R a b (out++a.extract ia++b.extract ib):=by
 have:=l.mid.done (by
  rcases h with h|h
  ·right;rw[h];simp
  ·left;rw[h];simp)
 unfold Fin2
 rw[aG6,aG6,ahe,ahe]
 exact this
theorem as4{a:Array Keyed}{i:Nat}(h:i+1=a.size):a.toList.drop i=[a[a.size-1]'(by lia)]:=by
 have hi:i<a.size:=by lia
 rw[abn hi]
 have:i=a.size-1:=by lia
 subst this
 have e:a.toList.drop (a.size-1+1)=[]:=by
  apply List.drop_eq_nil_of_le
  simp;lia
 rw[e]
theorem Lo.lastA{a b out:Array Keyed}{ia ib:Nat}(T:Two S R a b)(l:Lo S R a b out ia ib)(h:ia+1=a.size):Fin2 R a b (out++b.extract ib++a.extract ia):=by
 have:=l.mid.last (by
  intro y d x c
  rw[as4 h] at c
  have ex:x=a[a.size-1]'(by lia):=by simpa using c
  refine T.last y (aC4 d) x ?_
  rw[ex]
  exact aA4 _)
 unfold Fin2
 rw[aG6,aG6,ahe,ahe]
 exact this
theorem aew{x:Keyed}{l:List Keyed}(C:Cmp M A E s κ S R)(h:Srt R (x::l))(b:S x):∀ y∈x::l,R y x=false:=by
 intro y a
 rcases aA9.mp a with e|a
 ·rw[e];exact C.irr b
 ·exact(aI6.mp h).1 y a
theorem Lo.pushB{a b out:Array Keyed}{ia ib:Nat}(C:Cmp M A E s κ S R)(T:Two S R a b)(l:Lo S R a b out ia ib)(hb:ib<b.size)(h:∀ x∈a.toList.drop ia,R x b[ib]=false):Lo S R a b (out.push b[ib]) ia (ib+1):=by
 refine⟨?_,l.ia,hb⟩
 have m:=l.mid
 rw[abn hb] at m
 rw[Array.toList_push]
 exact m.takeB (p:=[b[ib]]) (λx d y c=>by
  have:x=b[ib]:=by simpa using d
  rw[this];exact h y c)
theorem Lo.pushA{a b out:Array Keyed}{ia ib:Nat}(l:Lo S R a b out ia ib)(ha:ia<a.size)(h:∀ y∈b.toList.drop ib,R y a[ia]=false):Lo S R a b (out.push a[ia]) (ia+1) ib:=by
 refine⟨?_,ha,l.ib⟩
 have m:=l.mid
 rw[abn ha] at m
 rw[Array.toList_push]
 exact m.takeA (p:=[a[ia]]) (λx d y c=>by
  have:x=a[ia]:=by simpa using d
  rw[this];exact h y c)
theorem Lo.runA{a b out:Array Keyed}{ia ib k:Nat}(l:Lo S R a b out ia ib)(d:ia+k<=a.size)(h:∀ x∈(a.toList.drop ia).take k,∀ y∈b.toList.drop ib,R y x=false):Lo S R a b (out++a.extract ia (ia+k)) (ia+k) ib:=by
 refine⟨?_,d,l.ib⟩
 have m:=l.mid
 rw[← aC1 k (a.toList.drop ia)] at m
 rw[aG6,ajg]
 have c:=m.takeA h
 rw[List.drop_drop] at c
 exact c
theorem Lo.runB{a b out:Array Keyed}{ia ib k:Nat}(l:Lo S R a b out ia ib)(d:ib+k<=b.size)(h:∀ x∈(b.toList.drop ib).take k,∀ y∈a.toList.drop ia,R y x=false):Lo S R a b (out++b.extract ib (ib+k)) ia (ib+k):=by
 refine⟨?_,l.ia,d⟩
 have m:=l.mid
 rw[← aC1 k (b.toList.drop ib)] at m
 rw[aG6,ajg]
 have c:=m.takeB h
 rw[List.drop_drop] at c
 exact c
theorem acu{l:List Keyed}{i:Nat}(h:Srt R l):Srt R (l.drop i):=List.Pairwise.sublist (List.drop_sublist i l) h
theorem jpn{α β:Type}{prog : β->StateT SortSt Sem α}{P : β->Prop}{Q : α->SortSt->Prop}{st:SortSt}{G:Prop}(use:(∀ m,P m->wpS M A E s (prog m) Q st)->G)(a:∀ m,P m->wpS M A E s (prog m) Q st):G:=use a
theorem jpn2{α:Type}{prog:Array Keyed->Nat->StateT SortSt Sem α}{P:Array Keyed->Nat->Prop}{Q : α->SortSt->Prop}{st:SortSt}{G:Prop}(use:(∀ o i,P o i->wpS M A E s (prog o i) Q st)->G)(a:∀ o i,P o i->wpS M A E s (prog o i) Q st):G:=use a
section
variable{ρ β γ δ ε ζ η:Type}
@[elab_as_elim] theorem un5 {J : β->γ->δ->ε->Prop} {G:Option ρ × β × γ × δ × ε->Prop} (z:Option ρ × β × γ × δ × ε) (h:z.1=none/\J z.2.1 z.2.2.1 z.2.2.2.1 z.2.2.2.2) (k:∀ x y u v,J x y u v->G (none,x,y,u,v)):G z:=by
 have e:z=(none,z.2.1,z.2.2.1,z.2.2.2.1,z.2.2.2.2):=by rw[← h.1]
 rw[e];exact k _ _ _ _ h.2
@[elab_as_elim] theorem un6 {J : β->γ->δ->ε->ζ->Prop} {G:Option ρ × β × γ × δ × ε × ζ->Prop} (z:Option ρ × β × γ × δ × ε × ζ) (h:z.1=none/\J z.2.1 z.2.2.1 z.2.2.2.1 z.2.2.2.2.1 z.2.2.2.2.2) (k:∀ x y u v a,J x y u v a->G (none,x,y,u,v,a)):G z:=by
 have e:z=(none,z.2.1,z.2.2.1,z.2.2.2.1,z.2.2.2.2.1,z.2.2.2.2.2):=by rw[← h.1]
 rw[e];exact k _ _ _ _ _ h.2
@[elab_as_elim] theorem un7 {J : β->γ->δ->ε->ζ->η->Prop} {G:Option ρ × β × γ × δ × ε × ζ × η->Prop} (z:Option ρ × β × γ × δ × ε × ζ × η) (h:z.1=none/\J z.2.1 z.2.2.1 z.2.2.2.1 z.2.2.2.2.1 z.2.2.2.2.2.1 z.2.2.2.2.2.2) (k:∀ x y u v a b,J x y u v a b->G (none,x,y,u,v,a,b)):G z:=by
 have e:z=(none,z.2.1,z.2.2.1,z.2.2.2.1,z.2.2.2.2.1,z.2.2.2.2.2.1,z.2.2.2.2.2.2):=by rw[← h.1]
 rw[e];exact k _ _ _ _ _ _ h.2
@[elab_as_elim] theorem unR {κ:Type} {F : ρ->Prop} {J : κ->Prop} {G:Option ρ × κ->Prop} (z:Option ρ × κ) (h:(∃ r,z.1=some r/\F r)\/(z.1=none/\J z.2)) (k1:∀ r x,F r->G (some r,x)) (a:z.1=none/\J z.2->G z):G z:=by
 rcases h with ⟨r,e,b⟩|h
 ·have e:z=(some r,z.2):=by rw[← e]
  rw[e];exact k1 _ _ b
 ·exact a h
end
theorem aaq{c:Prop} [Decidable c] {α:Type} {b a:StateT SortSt Sem α} {Q : α->SortSt->Prop} {st:SortSt} (f:c->wpS M A E s b Q st) (d:¬ c->wpS M A E s a Q st):wpS M A E s (if c then b else a) Q st:=by
 by_cases h:c
 ·rw[aF5 h];exact f h
 ·rw[aF6 h];exact d h
theorem aqw (C:Cmp M A E s κ S R) {a b:Array Keyed} (T:Two S R a b) {Q:Array Keyed->SortSt->Prop} {st:SortSt} (hk:kindOf st = κ)
  (h:∀ m st',Eqv st st'->Fin2 R a b m->Q m st'):wpS M A E s (au7 a b) Q st:=by
 have L:∀ i (h:i<a.size),S a[i]:=λi h=>T.ha _ (by simp)
 have N:∀ i (h:i<b.size),S b[i]:=λi h=>T.hb _ (by simp)
 have b0:=T.b0
 have a0:=T.a0
 refine wpS_bind (ady ?_)
 refine wpS_bind (aa0 (x:=b[0]'b0) (aA4 b0) ?_)
 have l1:Lo S R a b #[b[0]'b0] 0 1:=by
  have l0:Lo S R a b #[] 0 0:=⟨⟨by simp,List.Pairwise.nil,λx w=>by simp at w,T.sa,T.sb⟩,aG0 _,aG0 _⟩
  exact l0.pushB C T b0 λx w=>T.first x (by simpa using w) _ (aA4 b0)
 refine aaq (λe1=>wpS_pure (h _ _ (Eqv.refl _) (l1.doneA (.inl (aG3.mp e1))))) (λe1=>?_)
 refine aaq (λe2=>wpS_pure (h _ _ (Eqv.refl _) (l1.lastA T (aG3.mp e2)))) (λe2=>?_)
 replace e1:1 ≠ b.size:=λq=>e1 (aG3.mpr q)
 replace e2:0+1 ≠ a.size:=λq=>e2 (aG3.mpr q)
 refine wpS_bind (wpS_get ?_)
 refine wpS_bind (wpS_mono (Q:=λ(z:Option (Array Keyed) × Array Keyed × Nat × Nat × Nat) st'=>Eqv st st'/\∃ r,z.1=some r/\Fin2 R a b r) ?_ ?_)
 ·refine wpS_forRange (λt (z:Option (Array Keyed) × Array Keyed × Nat × Nat × Nat) st'=>Eqv st st'/\z.1=none/\Lo S R a b z.2.1 z.2.2.1 z.2.2.2.1/\z.2.2.1+1<a.size/\z.2.2.2.1<b.size/\t+1<=z.2.1.size) ?_ ?_ ⟨Eqv.refl _,rfl,l1,by dsimp only;lia,by dsimp only;lia,by simp⟩
  ·intro t z a6 _ ht n
   have q1:=n.1
   refine un5 (J:=λout ia ib _=>Lo S R a b out ia ib/\ia+1<a.size/\ib<b.size/\t+1<=out.size) z n.2 λout ia ib mg v=>?_
   dsimp only
   refine wpS_bind (wpS_mono (Q:=λ(z:Option (Array Keyed) × Array Keyed × Nat × Nat × Nat × Nat) st'=>Eqv st st'/\((∃ r,z.1=some r/\Fin2 R a b r)\/(z.1=none/\Lo S R a b z.2.1 z.2.2.1 z.2.2.2.1/\z.2.2.1+1<a.size/\z.2.2.2.1<b.size/\t+2<=z.2.1.size))) ?_ ?_)
   ·refine wpS_forRange (λi (z:Option (Array Keyed) × Array Keyed × Nat × Nat × Nat × Nat) st'=>Eqv st st'/\z.1=none/\Lo S R a b z.2.1 z.2.2.1 z.2.2.2.1/\z.2.2.1+1<a.size/\z.2.2.2.1<b.size/\t+1+min i 1<=z.2.1.size) ?_ ?_ ⟨q1,rfl,v.1,v.2.1,v.2.2.1,v.2.2.2⟩
    ·intro i z o _ hi n
     have q:=n.1
     refine un6 (J:=λout ia ib _ _=>Lo S R a b out ia ib/\ia+1<a.size/\ib<b.size/\t+1+min i 1<=out.size) z n.2 λout ia ib ac bc v=>?_
     have l:=v.1
     have I:=v.2.1
     have d:=v.2.2.1
     have hsz:=v.2.2.2
     have g:ia<a.size:=Nat.lt_of_succ_lt I
     refine wpS_bind (aa0 (x:=b[ib]) (aA4 d) ?_)
     refine wpS_bind (aa0 (x:=a[ia]) (aA4 g) ?_)
     refine wpS_bind (C.ask _ _ (N ib d) (L ia g) _ _ (q.k.trans hk) ?_)
     dsimp only
     refine aaq (λer=>?_) (λer=>?_)
     ·refine wpS_bind (aa0 (x:=b[ib]) (aA4 d) ?_)
      have F:Lo S R a b (out.push b[ib]) ia (ib+1):=l.pushB C T d λx w=>by
       rw[abn g] at w
       have hd:Srt R (a[ia]::a.toList.drop (ia+1)):=by rw[← abn g];exact acu T.sa
       have sx:S x:=T.ha x (aC4 (i:=ia) (by rw[abn g];exact w))
       exact C.tr _ _ _ (N ib d) (L ia g) sx (C.asy _ _ (N ib d) (L ia g) er) (aew C hd (L ia g) x w)
      refine aaq (λD=>wpS_pure ⟨q,.inl ⟨_,rfl,F.doneA (.inl (aG3.mp D))⟩⟩) (λD=>?_)
      have hf:ib+1<b.size/\t+2<=(out.push b[ib]).size:=by
       have a1:ib+1 ≠ b.size:=λq=>D (aG3.mpr q)
       rw[aH9];lia
      refine aaq (λ_=>wpS_pure ⟨q,.inr ⟨rfl,F,I,hf⟩⟩) (λ_=>wpS_pure ⟨q,rfl,F,I,hf.1,aD0 (by lia) hf.2⟩)
     ·refine wpS_bind (aa0 (x:=a[ia]) (aA4 g) ?_)
      have F:Lo S R a b (out.push a[ia]) (ia+1) ib:=l.pushA g λy G=>by
       rw[abn d] at G
       have hd:Srt R (b[ib]::b.toList.drop (ib+1)):=by rw[← abn d];exact acu T.sb
       have sy:S y:=T.hb y (aC4 (i:=ib) (by rw[abn d];exact G))
       exact C.tr _ _ _ (L ia g) (N ib d) sy (eq_false_of_ne_true er) (aew C hd (N ib d) y G)
      refine aaq (λD=>wpS_pure ⟨q,.inl ⟨_,rfl,F.lastA T (aG3.mp D)⟩⟩) (λD=>?_)
      have hf:ia+1+1<a.size/\ib<b.size/\t+2<=(out.push a[ia]).size:=by
       have a1:ia+1+1 ≠ a.size:=λq=>D (aG3.mpr q)
       rw[aH9];lia
      refine aaq (λ_=>wpS_pure ⟨q,.inr ⟨rfl,F,hf⟩⟩) (λ_=>wpS_pure ⟨q,rfl,F,hf.1,d,aD0 (by lia) hf.2.2⟩)
    ·exact λz o n=>⟨n.1,.inr ⟨n.2.1,n.2.2.1,n.2.2.2.1,n.2.2.2.2.1,aD0 (by lia) n.2.2.2.2.2⟩⟩
   ·intro z o n
    have W:=n.1
    refine unR (J:=λy:Array Keyed × Nat × Nat × Nat × Nat=>Lo S R a b y.1 y.2.1 y.2.2.1/\y.2.1+1<a.size/\y.2.2.1<b.size/\t+2<=y.1.size) z n.2 (λr x Z=>wpS_pure ⟨W,r,rfl,Z⟩) λY=>?_
    refine un6 (J:=λout ia ib _ _=>Lo S R a b out ia ib/\ia+1<a.size/\ib<b.size/\t+2<=out.size) z Y λout ia ib ac bc v=>?_
    dsimp only
    refine wpS_bind (ady ?_)
    refine wpS_bind (wpS_mono (Q:=λ(z:Option (Array Keyed) × Array Keyed × Nat × Nat × Nat × Nat × Nat) st'=>Eqv st st'/\((∃ r,z.1=some r/\Fin2 R a b r)\/(z.1=none/\Lo S R a b z.2.1 z.2.2.1 z.2.2.2.1/\z.2.2.1+1<a.size/\z.2.2.2.1<b.size/\t+2<=z.2.1.size))) ?_ ?_)
    ·refine wpS_forRange (λi (z:Option (Array Keyed) × Array Keyed × Nat × Nat × Nat × Nat × Nat) st'=>Eqv st st'/\z.1=none/\Lo S R a b z.2.1 z.2.2.1 z.2.2.2.1/\z.2.2.1+1<a.size/\z.2.2.2.1<b.size/\t+2<=z.2.1.size) ?_ (λz o n=>⟨n.1,.inr n.2⟩) ⟨W,rfl,v⟩
     intro i z o _ hi n
     have q:=n.1
     refine un7 (J:=λout ia ib _ _ _=>Lo S R a b out ia ib/\ia+1<a.size/\ib<b.size/\t+2<=out.size) z n.2 λout ia ib mg ac bc v=>?_
     have l:=v.1
     have I:=v.2.1
     have d:=v.2.2.1
     have hsz:=v.2.2.2
     dsimp only
     refine' jpn (M:=M) (A:=A) (E:=E) (s:=s) (st:=o) (β:=Nat) (P:=λ_=>True) (prog:=?prog) (λU=>?use) (λa7 _=>?pf)
     case use =>
      refine aaq (λhm=>?_) (λhm=>?_)
      ·generalize mg-1=m
       exact U m trivial
      ·exact U mg trivial
     refine wpS_bind (wpS_mono (Q:=λ_ O=>Eqv o O) (wpS_modify ⟨rfl,rfl,rfl,rfl⟩) λ_ O K=>?_)
     replace K:=q.trans K
     refine wpS_bind (aa0 (x:=b[ib]) (aA4 d) ?_)
     refine wpS_bind (agp C (N ib d) T.ha (by lia) (by rw[aF1 (by simp)];exact acu T.sa) (by lia) (K.k.trans hk) λk b1 h1 h2=>?_)
     rw[aF1 (by simp),List.drop_drop] at h2
     dsimp only
     refine' jpn2 (M:=M) (A:=A) (E:=E) (s:=s) (st:=O) (P:=λj c=>Lo S R a b j c ib/\c+1<a.size/\(∀ x∈a.toList.drop c,R x b[ib]=false)/\t+2<=j.size) (prog:=?prog2) (λU=>?use2) (λj c h5=>?pf2)
     case use2 =>
      have u:∀ x∈a.toList.drop (ia+k),R x b[ib]=false:=λx w=>C.asy _ _ (N ib d) (T.ha x (aC4 w)) (h2 x w)
      refine aaq (λk0=>?_) (λk0=>?_)
      ·have F:Lo S R a b (out++a.extract ia (ia+k)) (ia+k) ib:=l.runA (by lia) λx w y G=>by
        rw[abn d] at G
        have hd:Srt R (b[ib]::b.toList.drop (ib+1)):=by rw[← abn d];exact acu T.sb
        have sy:S y:=T.hb y (aC4 (i:=ib) (by rw[abn d];exact G))
        exact C.tr _ _ _ (T.ha x (aC4 (aC0 w))) (N ib d) sy (h1 x w) (aew C hd (N ib d) y G)
       refine aaq (λD=>wpS_pure ⟨K,.inl ⟨_,rfl,F.lastA T (aG3.mp D)⟩⟩) (λD=>?_)
       refine aaq (λe4=>wpS_pure ⟨K,.inl ⟨_,rfl,F.doneA (.inr (aG3.mp e4))⟩⟩) (λe4=>?_)
       have X:Lo S R a b (out++a.extract ia (ia+k)) (ia+k) ib/\ia+k+1<a.size/\(∀ x∈a.toList.drop (ia+k),R x b[ib]=false)/\t+2<=(out++a.extract ia (ia+k)).size:=by
        have a1:ia+k+1 ≠ a.size:=λq=>D (aG3.mpr q)
        have a9:ia+k ≠ a.size:=λq=>e4 (aG3.mpr q)
        exact⟨F,by lia,u,by rw[Array.size_append];lia⟩
       revert X
       clear D e4 F u
       generalize out++a.extract ia (ia+k)=j
       generalize ia+k=c
       intro X
       exact U j c X
      ·have:k=0:=by lia
       rw[this] at u
       exact U out ia ⟨l,I,u,hsz⟩
     have l3:=h5.1
     have a2:=h5.2.1
     have a3:=h5.2.2.1
     have a4:=h5.2.2.2
     have f:c<a.size:=Nat.lt_of_succ_lt a2
     refine wpS_bind (aa0 (x:=b[ib]) (aA4 d) ?_)
     have l4:=l3.pushB C T d a3
     refine aaq (λe5=>wpS_pure ⟨K,.inl ⟨_,rfl,l4.doneA (.inl (aG3.mp e5))⟩⟩) (λe5=>?_)
     replace e5:ib+1 ≠ b.size:=λq=>e5 (aG3.mpr q)
     refine wpS_bind (aa0 (x:=a[c]) (aA4 f) ?_)
     refine wpS_bind (ah4 C (L c f) T.hb (by lia) (by rw[aF1 (by simp)];exact acu T.sb) (by lia) (K.k.trans hk) λH a5 h3 h4=>?_)
     rw[aF1 (by simp),List.drop_drop] at h4
     dsimp only
     refine' jpn2 (M:=M) (A:=A) (E:=E) (s:=s) (st:=O) (P:=λp B=>Lo S R a b p c B/\B<b.size/\(∀ y∈b.toList.drop B,R y a[c]=false)/\t+2<=p.size) (prog:=?prog3) (λU=>?use3) (λp B h6=>?pf3)
     case use3 =>
      refine aaq (λk0=>?_) (λk0=>?_)
      ·have hd:Srt R (a[c]::a.toList.drop (c+1)):=by rw[← abn f];exact acu T.sa
       have l5:Lo S R a b (j.push b[ib]++b.extract (ib+1) (ib+1+H)) c (ib+1+H):=l4.runB (by lia) λx w y G=>by
        rw[abn f] at G
        have sy:S y:=T.ha y (aC4 (i:=c) (by rw[abn f];exact G))
        have sx:S x:=T.hb x (aC4 (aC0 w))
        exact C.tr _ _ _ sx (L c f) sy (C.asy _ _ sx (L c f) (h3 x w)) (aew C hd (L c f) y G)
       refine aaq (λe6=>wpS_pure ⟨K,.inl ⟨_,rfl,l5.doneA (.inl (aG3.mp e6))⟩⟩) (λe6=>?_)
       have X:Lo S R a b (j.push b[ib]++b.extract (ib+1) (ib+1+H)) c (ib+1+H)/\ib+1+H<b.size/\(∀ y∈b.toList.drop (ib+1+H),R y a[c]=false)/\t+2<=(j.push b[ib]++b.extract (ib+1) (ib+1+H)).size:=by
        have b2:ib+1+H ≠ b.size:=λq=>e6 (aG3.mpr q)
        exact⟨l5,by lia,h4,by rw[Array.size_append,aH9];lia⟩
       revert X
       clear e6 l5 hd
       generalize j.push b[ib]++b.extract (ib+1) (ib+1+H)=p
       generalize ib+1+H=B
       intro X
       exact U p B X
      ·have:H=0:=by lia
       rw[this] at h4
       exact U (j.push b[ib]) (ib+1) ⟨l4,by lia,h4,by rw[aH9];lia⟩
     refine wpS_bind (aa0 (x:=a[c]) (aA4 f) ?_)
     have l7:=h6.1.pushA f h6.2.2.1
     refine aaq (λe7=>wpS_pure ⟨K,.inl ⟨_,rfl,l7.lastA T (aG3.mp e7)⟩⟩) (λe7=>?_)
     have hf:c+1+1<a.size/\B<b.size/\t+2<=(p.push a[c]).size:=by
      have a8:c+1+1 ≠ a.size:=λq=>e7 (aG3.mpr q)
      have h7:=h6.2.2.2
      exact⟨by lia,h6.2.1,by rw[aH9];lia⟩
     exact aaq (λ_=>wpS_pure ⟨K,.inr ⟨rfl,l7,hf⟩⟩) (λ_=>wpS_pure ⟨K,rfl,l7,hf⟩)
    ·intro z o n
     have W:=n.1
     refine unR (J:=λy:Array Keyed × Nat × Nat × Nat × Nat × Nat=>Lo S R a b y.1 y.2.1 y.2.2.1/\y.2.1+1<a.size/\y.2.2.1<b.size/\t+2<=y.1.size) z n.2 (λr x Z=>wpS_pure ⟨W,r,rfl,Z⟩) λY=>?_
     refine un7 (J:=λout ia ib _ _ _=>Lo S R a b out ia ib/\ia+1<a.size/\ib<b.size/\t+2<=out.size) z Y λout ia ib mg ac bc v=>?_
     dsimp only
     refine wpS_bind (wpS_modify ?_)
     exact wpS_pure ⟨W.trans ⟨rfl,rfl,rfl,rfl⟩,rfl,v⟩
  ·intro z o n
   exfalso
   have h1:=n.2.2.1.len
   have h2:=n.2.2.2
   have:a.size+b.size<=max 0 (a.size+b.size):=by lia
   lia
 ·intro z o n
  have W:=n.1
  exact unR (J:=λ_=>False) z (.inl n.2) (λr x Z=>wpS_pure (h r o W Z)) λY=>Y.2.elim
end
structure MidH(R:Keyed->Keyed->Bool)(L a b tl:List Keyed):Prop where
 perm:(a++b++tl).Perm L
 so:Srt R tl
 le:∀ x∈a++b,∀ y∈tl,R y x=false
 sa:Srt R a
 sb:Srt R b
section
variable{R:Keyed->Keyed->Bool}{L tl a b p:List Keyed}
theorem MidH.takeA(m:MidH R L (a++p) b tl)(h:∀ x∈b,∀ y∈p,R y x=false):MidH R L a b (p++tl):=by
 have sp:=aC9.mp m.sa
 refine⟨List.Perm.trans ?_ m.perm,aC9.mpr ⟨sp.2.1,m.so,λx c y d=>m.le x (aC7 _ (aB3 _ c)) y d⟩,λx c y d=>?_,sp.1,m.sb⟩
 ·rw[← aB4,aB4 a p b,aB4 a b p]
  exact List.Perm.append_right tl (List.Perm.append_left a List.perm_append_comm)
 ·rcases aA7.mp d with d|d
  ·rcases aA7.mp c with c|c
   ·exact sp.2.2 x c y d
   ·exact h x c y d
  ·refine m.le x ?_ y d
   rcases aA7.mp c with c|c
   ·exact aC7 _ (aC7 _ c)
   ·exact aB3 _ c
theorem MidH.takeB(m:MidH R L a (b++p) tl)(h:∀ x∈a,∀ y∈p,R y x=false):MidH R L a b (p++tl):=by
 have sp:=aC9.mp m.sb
 refine⟨by have:=m.perm;simp only[aB4] at this ⊢;exact this,aC9.mpr ⟨sp.2.1,m.so,λx c y d=>m.le x (aB3 _ (aB3 _ c)) y d⟩,λx c y d=>?_,m.sa,sp.1⟩
 rcases aA7.mp d with d|d
 ·rcases aA7.mp c with c|c
  ·exact h x c y d
  ·exact sp.2.2 x c y d
 ·refine m.le x ?_ y d
  rcases aA7.mp c with c|c
  ·exact aC7 _ c
  ·exact aB3 _ (aC7 _ c)
theorem MidH.done(m:MidH R L a b tl)(h:a=[]\/b=[]):(a++b++tl).Perm L/\Srt R (a++b++tl):=by
 refine⟨m.perm,aC9.mpr ⟨?_,m.so,m.le⟩⟩
 rcases h with h|h
 ·subst h;exact m.sb
 ·subst h;rw[aF0];exact m.sa
theorem MidH.first(m:MidH R L a b tl)(h:∀ y∈b,∀ x∈a,R x y=false):(b++a++tl).Perm L/\Srt R (b++a++tl):=by
 refine⟨List.Perm.trans (List.Perm.append_right tl List.perm_append_comm) m.perm,aC9.mpr ⟨aC9.mpr ⟨m.sb,m.sa,h⟩,m.so,λx c y d=>m.le x ?_ y d⟩⟩
 rcases aA7.mp c with c|c
 ·exact aB3 _ c
 ·exact aC7 _ c
end
theorem ack{a:Array Keyed}{i:Nat}(c:0<i)(h:i<=a.size):a.toList.take i=a.toList.take (i-1)++[a[i-1]'(by lia)]:=by
 obtain⟨j,rfl⟩:∃ j,i=j+1:=⟨i-1,by lia⟩
 rw[List.take_succ]
 have b:j<a.size:=by lia
 simp[b]
theorem als(a:Array Keyed)(k:Nat):(a.extract 0 k).toList=a.toList.take k:=by
 rw[Array.toList_extract];simp[List.extract]
theorem amo(a:Array Keyed)(k n:Nat):(a.extract k n).toList=(a.toList.take n).drop k:=by
 rw[Array.toList_extract];simp[List.extract,List.drop_take]
section
variable{M:Model}{A:Around}{E:Value->Shared->Prop}{s:Shared}{κ:SortKind}{S:Keyed->Prop}{R:Keyed->Keyed->Bool}
structure Hi(S:Keyed->Prop)(R:Keyed->Keyed->Bool)(a b out:Array Keyed)(na nb:Nat):Prop where
 mid:MidH R (a.toList++b.toList) (a.toList.take na) (b.toList.take nb) out.toList.reverse
 na:na<=a.size
 nb:nb<=b.size
theorem Hi.len{a b out:Array Keyed}{na nb:Nat}(l:Hi S R a b out na nb):out.size+na+nb=a.size+b.size:=by
 have:=l.mid.perm.length_eq
 have c:=l.na
 have d:=l.nb
 simp at this
 lia
theorem Hi.doneA{a b out:Array Keyed}{na nb:Nat}(l:Hi S R a b out na nb)(h:na=0\/nb=0):Fin2 R a b (a.extract 0 na++b.extract 0 nb++out.reverse):=by
 have:=l.mid.done (by
  rcases h with h|h
  ·left;rw[h];simp
  ·right;rw[h];simp)
 unfold Fin2
 rw[aG6,aG6,als,als,Array.toList_reverse]
 exact this
theorem Hi.firstB{a b out:Array Keyed}{na nb:Nat}(T:Two S R a b)(l:Hi S R a b out na nb)(h:nb=1):Fin2 R a b (b.extract 0 nb++a.extract 0 na++out.reverse):=by
 subst h
 have:=l.mid.first (by
  intro y c x d
  rw[ack (by decide) l.nb] at c
  have f:y=b[0]'T.b0:=by simpa using c
  exact T.first x (aC0 d) y (by rw[f];exact aA4 _))
 unfold Fin2
 rw[aG6,aG6,als,als,Array.toList_reverse]
 exact this
theorem ace{l:List Keyed}{i:Nat}(h:Srt R l):Srt R (l.take i):=List.Pairwise.sublist (List.take_sublist i l) h
theorem ad9{x:Keyed}{l:List Keyed}(C:Cmp M A E s κ S R)(h:Srt R (l++[x]))(b:S x):∀ y∈l++[x],R x y=false:=by
 intro y a
 rcases aA7.mp a with a|a
 ·exact(aC9.mp h).2.2 y a x (by simp)
 ·have:y=x:=by simpa using a
  rw[this];exact C.irr b
theorem Hi.pushA{a b out:Array Keyed}{na nb:Nat}(l:Hi S R a b out na nb)(d:0<na)(h:∀ x∈b.toList.take nb,R (a[na-1]'(by have:=l.na;lia)) x=false):Hi S R a b (out.push (a[na-1]'(by have:=l.na;lia))) (na-1) nb:=by
 refine⟨?_,by have:=l.na;lia,l.nb⟩
 have m:=l.mid
 rw[ack d l.na] at m
 rw[Array.toList_push,List.reverse_append]
 exact m.takeA (p:=[_]) (λx f y c=>by
  rw[aC2.mp c];exact h x f)
theorem Hi.pushB{a b out:Array Keyed}{na nb:Nat}(l:Hi S R a b out na nb)(d:0<nb)(h:∀ x∈a.toList.take na,R (b[nb-1]'(by have:=l.nb;lia)) x=false):Hi S R a b (out.push (b[nb-1]'(by have:=l.nb;lia))) na (nb-1):=by
 refine⟨?_,l.na,by have:=l.nb;lia⟩
 have m:=l.mid
 rw[ack d l.nb] at m
 rw[Array.toList_push,List.reverse_append]
 exact m.takeB (p:=[_]) (λx f y c=>by
  rw[aC2.mp c];exact h x f)
theorem Hi.runA{a b out:Array Keyed}{na nb k:Nat}(l:Hi S R a b out na nb)(d:k<=na)(h:∀ x∈b.toList.take nb,∀ y∈(a.toList.take na).drop k,R y x=false):Hi S R a b (out++(a.extract k na).reverse) k nb:=by
 refine⟨?_,by have:=l.na;lia,l.nb⟩
 have m:=l.mid
 rw[← aC1 k (a.toList.take na)] at m
 rw[aG6,Array.toList_reverse,amo,List.reverse_append,List.reverse_reverse]
 have c:=m.takeA h
 rw[List.take_take,Nat.min_eq_left d] at c
 exact c
theorem Hi.runB{a b out:Array Keyed}{na nb k:Nat}(l:Hi S R a b out na nb)(d:k<=nb)(h:∀ x∈a.toList.take na,∀ y∈(b.toList.take nb).drop k,R y x=false):Hi S R a b (out++(b.extract k nb).reverse) na k:=by
 refine⟨?_,l.na,by have:=l.nb;lia⟩
 have m:=l.mid
 rw[← aC1 k (b.toList.take nb)] at m
 rw[aG6,Array.toList_reverse,amo,List.reverse_append,List.reverse_reverse]
 have c:=m.takeB h
 rw[List.take_take,Nat.min_eq_left d] at c
 exact c
theorem aqx (C:Cmp M A E s κ S R) {a b:Array Keyed} (T:Two S R a b) {Q:Array Keyed->SortSt->Prop} {st:SortSt} (hk:kindOf st = κ)
  (h:∀ m st',Eqv st st'->Fin2 R a b m->Q m st'):wpS M A E s (au8 a b) Q st:=by
 have I:∀ i (h:i<a.size),S a[i]:=λi h=>T.ha _ (by simp)
 have K:∀ i (h:i<b.size),S b[i]:=λi h=>T.hb _ (by simp)
 have b0:=T.b0
 have a0:=T.a0
 have la:a.size-1<a.size:=by lia
 refine wpS_bind (ady ?_)
 refine wpS_bind (aa0 (x:=a[a.size-1]'la) (aA4 la) ?_)
 have l1:Hi S R a b #[a[a.size-1]'la] (a.size-1) b.size:=by
  have l0:Hi S R a b #[] a.size b.size:=⟨⟨by simp[aF1],List.Pairwise.nil,λx j y Z=>by simp at Z,ace T.sa,ace T.sb⟩,aA6 _,aA6 _⟩
  exact l0.pushA a0 λx j=>T.last x (aC0 j) _ (aA4 la)
 refine aaq (λe1=>wpS_pure (h _ _ (Eqv.refl _) (l1.doneA (.inl (aG3.mp e1))))) (λe1=>?_)
 refine aaq (λe2=>wpS_pure (h _ _ (Eqv.refl _) (l1.firstB T (aG3.mp e2)))) (λe2=>?_)
 replace e1:a.size-1 ≠ 0:=λq=>e1 (aG3.mpr q)
 replace e2:b.size ≠ 1:=λq=>e2 (aG3.mpr q)
 refine wpS_bind (wpS_get ?_)
 have a6:∀{na nb:Nat}(H:0<na)(N:na<=a.size)(Y:0<nb)(O:nb<=b.size),R (b[nb-1]'(by lia)) (a[na-1]'(by lia))=true->∀ x∈b.toList.take nb,R (a[na-1]'(by lia)) x=false:=λ{na nb} H N Y O er x j=>by
  have sx:S x:=T.hb x (aC0 j)
  have hs:Srt R (b.toList.take (nb-1)++[b[nb-1]'(by lia)]):=by rw[← ack Y O];exact ace T.sb
  rw[ack Y O] at j
  exact C.tr _ _ _ sx (K _ _) (I _ _) (ad9 C hs (K _ _) x j) (C.asy _ _ (K _ _) (I _ _) er)
 have a5:∀{na nb:Nat}(H:0<na)(N:na<=a.size)(Y:0<nb)(O:nb<=b.size),R (b[nb-1]'(by lia)) (a[na-1]'(by lia))=false->∀ x∈a.toList.take na,R (b[nb-1]'(by lia)) x=false:=λ{na nb} H N Y O er x j=>by
  have sx:S x:=T.ha x (aC0 j)
  have hs:Srt R (a.toList.take (na-1)++[a[na-1]'(by lia)]):=by rw[← ack H N];exact ace T.sa
  rw[ack H N] at j
  exact C.tr _ _ _ sx (I _ _) (K _ _) (ad9 C hs (I _ _) x j) er
 refine wpS_bind (wpS_mono (Q:=λ(z:Option (Array Keyed) × Nat × Nat × Array Keyed × Nat) st'=>Eqv st st'/\∃ r,z.1=some r/\Fin2 R a b r) ?_ ?_)
 ·refine wpS_forRange (λt (z:Option (Array Keyed) × Nat × Nat × Array Keyed × Nat) st'=>Eqv st st'/\z.1=none/\Hi S R a b z.2.2.2.1 z.2.1 z.2.2.1/\0<z.2.1/\1<z.2.2.1/\t+1<=z.2.2.2.1.size) ?_ ?_ ⟨Eqv.refl _,rfl,l1,by dsimp only;lia,by dsimp only;lia,by simp⟩
  ·intro t z b5 _ ht f
   have q1:=f.1
   refine un5 (J:=λna nb out _=>Hi S R a b out na nb/\0<na/\1<nb/\t+1<=out.size) z f.2 λna nb out mg o=>?_
   dsimp only
   refine wpS_bind (wpS_mono (Q:=λ(z:Option (Array Keyed) × Nat × Nat × Array Keyed × Nat × Nat) st'=>Eqv st st'/\((∃ r,z.1=some r/\Fin2 R a b r)\/(z.1=none/\Hi S R a b z.2.2.2.1 z.2.1 z.2.2.1/\0<z.2.1/\1<z.2.2.1/\t+2<=z.2.2.2.1.size))) ?_ ?_)
   ·refine wpS_forRange (λi (z:Option (Array Keyed) × Nat × Nat × Array Keyed × Nat × Nat) st'=>Eqv st st'/\z.1=none/\Hi S R a b z.2.2.2.1 z.2.1 z.2.2.1/\0<z.2.1/\1<z.2.2.1/\t+1+min i 1<=z.2.2.2.1.size) ?_ ?_ ⟨q1,rfl,o.1,o.2.1,o.2.2.1,o.2.2.2⟩
    ·intro i z g _ hi f
     have q:=f.1
     refine un6 (J:=λna nb out _ _=>Hi S R a b out na nb/\0<na/\1<nb/\t+1+min i 1<=out.size) z f.2 λna nb out ac bc o=>?_
     have l:=o.1
     have u:=o.2.1
     have a2:=o.2.2.1
     have hsz:=o.2.2.2
     have ia:na-1<a.size:=by have:=l.na;lia
     have ib:nb-1<b.size:=by have:=l.nb;lia
     refine wpS_bind (aa0 (x:=b[nb-1]) (aA4 ib) ?_)
     refine wpS_bind (aa0 (x:=a[na-1]) (aA4 ia) ?_)
     refine wpS_bind (C.ask _ _ (K _ ib) (I _ ia) _ _ (q.k.trans hk) ?_)
     dsimp only
     refine aaq (λer=>?_) (λer=>?_)
     ·refine wpS_bind (aa0 (x:=a[na-1]) (aA4 ia) ?_)
      have F:=l.pushA u (a6 u l.na (by lia) l.nb er)
      refine aaq (λw=>wpS_pure ⟨q,.inl ⟨_,rfl,F.doneA (.inl (aG3.mp w))⟩⟩) (λw=>?_)
      have hf:0<na-1/\1<nb/\t+2<=(out.push a[na-1]).size:=by
       have a3:na-1 ≠ 0:=λq=>w (aG3.mpr q)
       rw[aH9];lia
      exact aaq (λ_=>wpS_pure ⟨q,.inr ⟨rfl,F,hf⟩⟩) (λ_=>wpS_pure ⟨q,rfl,F,hf.1,a2,aD0 (by lia) hf.2.2⟩)
     ·refine wpS_bind (aa0 (x:=b[nb-1]) (aA4 ib) ?_)
      have F:=l.pushB (by lia) (a5 u l.na (by lia) l.nb (eq_false_of_ne_true er))
      refine aaq (λw=>wpS_pure ⟨q,.inl ⟨_,rfl,F.firstB T (aG3.mp w)⟩⟩) (λw=>?_)
      have hf:1<nb-1/\t+2<=(out.push b[nb-1]).size:=by
       have a3:nb-1 ≠ 1:=λq=>w (aG3.mpr q)
       rw[aH9];lia
      exact aaq (λ_=>wpS_pure ⟨q,.inr ⟨rfl,F,u,hf⟩⟩) (λ_=>wpS_pure ⟨q,rfl,F,u,hf.1,aD0 (by lia) hf.2⟩)
    ·exact λz g f=>⟨f.1,.inr ⟨f.2.1,f.2.2.1,f.2.2.2.1,f.2.2.2.2.1,aD0 (by lia) f.2.2.2.2.2⟩⟩
   ·intro z g f
    have q2:=f.1
    refine unR (J:=λy:Nat × Nat × Array Keyed × Nat × Nat=>Hi S R a b y.2.2.1 y.1 y.2.1/\0<y.1/\1<y.2.1/\t+2<=y.2.2.1.size) z f.2 (λr x hr=>wpS_pure ⟨q2,r,rfl,hr⟩) λhN=>?_
    refine un6 (J:=λna nb out _ _=>Hi S R a b out na nb/\0<na/\1<nb/\t+2<=out.size) z hN λna nb out ac bc o=>?_
    dsimp only
    refine wpS_bind (ady ?_)
    refine wpS_bind (wpS_mono (Q:=λ(z:Option (Array Keyed) × Nat × Nat × Array Keyed × Nat × Nat × Nat) st'=>Eqv st st'/\((∃ r,z.1=some r/\Fin2 R a b r)\/(z.1=none/\Hi S R a b z.2.2.2.1 z.2.1 z.2.2.1/\0<z.2.1/\1<z.2.2.1/\t+2<=z.2.2.2.1.size))) ?_ ?_)
    ·refine wpS_forRange (λi (z:Option (Array Keyed) × Nat × Nat × Array Keyed × Nat × Nat × Nat) st'=>Eqv st st'/\z.1=none/\Hi S R a b z.2.2.2.1 z.2.1 z.2.2.1/\0<z.2.1/\1<z.2.2.1/\t+2<=z.2.2.2.1.size) ?_ (λz g f=>⟨f.1,.inr f.2⟩) ⟨q2,rfl,o⟩
     intro i z g _ hi f
     have q:=f.1
     refine un7 (J:=λna nb out _ _ _=>Hi S R a b out na nb/\0<na/\1<nb/\t+2<=out.size) z f.2 λna nb out mg ac bc o=>?_
     have l:=o.1
     have u:=o.2.1
     have a2:=o.2.2.1
     have hsz:=o.2.2.2
     have b3:=l.na
     have U:=l.nb
     have ib:nb-1<b.size:=by lia
     dsimp only
     refine' jpn (M:=M) (A:=A) (E:=E) (s:=s) (st:=g) (β:=Nat) (P:=λ_=>True) (prog:=?prog) (λW=>?use) (λb6 _=>?pf)
     case use =>
      refine aaq (λhm=>?_) (λhm=>?_)
      ·generalize mg-1=m
       exact W m trivial
      ·exact W mg trivial
     refine wpS_bind (wpS_mono (Q:=λ_ L=>Eqv g L) (wpS_modify ⟨rfl,rfl,rfl,rfl⟩) λ_ L G=>?_)
     replace G:=q.trans G
     refine wpS_bind (aa0 (x:=b[nb-1]) (aA4 ib) ?_)
     refine wpS_bind (agp C (K _ ib) T.ha (by lia) (by rw[List.drop_zero];exact ace T.sa) (by lia) (G.k.trans hk) λk b2 H N=>?_)
     rw[List.drop_zero] at H N
     dsimp only
     generalize hac:na-k=ac2
     refine' jpn2 (M:=M) (A:=A) (E:=E) (s:=s) (st:=L) (P:=λd c=>Hi S R a b d c nb/\0<c/\(∀ x∈a.toList.take c,R b[nb-1] x=false)/\t+2<=d.size) (prog:=?prog2) (λW=>?use2) (λd c h5=>?pf2)
     case use2 =>
      refine aaq (λk0=>?_) (λk0=>?_)
      ·have a9:Srt R (b.toList.take (nb-1)++[b[nb-1]]):=by rw[← ack (by lia) U];exact ace T.sb
       have F:Hi S R a b (out++(a.extract k na).reverse) k nb:=l.runA b2 λx j y Z=>by
        have sx:S x:=T.hb x (aC0 j)
        have sy:S y:=T.ha y (aC0 (aC4 Z))
        rw[ack (by lia) U] at j
        exact C.tr _ _ _ sx (K _ ib) sy (ad9 C a9 (K _ ib) x j) (C.asy _ _ (K _ ib) sy (N y Z))
       refine aaq (λw=>wpS_pure ⟨G,.inl ⟨_,rfl,F.doneA (.inl (aG3.mp w))⟩⟩) (λw=>?_)
       have hP:Hi S R a b (out++(a.extract k na).reverse) k nb/\0<k/\(∀ x∈a.toList.take k,R b[nb-1] x=false)/\t+2<=(out++(a.extract k na).reverse).size:=by
        have a3:k ≠ 0:=λq=>w (aG3.mpr q)
        exact⟨F,by lia,H,by rw[Array.size_append];lia⟩
       revert hP
       clear w F
       generalize out++(a.extract k na).reverse=d
       generalize k=c
       intro hP
       exact W d c hP
      ·have:k=na:=by lia
       rw[this] at H
       exact W out na ⟨l,u,H,hsz⟩
     have l3:=h5.1
     have B:=h5.2.1
     have a8:=h5.2.2.1
     have b4:=h5.2.2.2
     have D:=l3.na
     have ia:c-1<a.size:=by lia
     refine wpS_bind (aa0 (x:=b[nb-1]) (aA4 ib) ?_)
     have l4:=l3.pushB (by lia) a8
     refine aaq (λe5=>wpS_pure ⟨G,.inl ⟨_,rfl,l4.firstB T (aG3.mp e5)⟩⟩) (λe5=>?_)
     replace e5:nb-1 ≠ 1:=λq=>e5 (aG3.mpr q)
     refine wpS_bind (aa0 (x:=a[c-1]) (aA4 ia) ?_)
     refine wpS_bind (ah4 C (I _ ia) T.hb (by lia) (by rw[List.drop_zero];exact ace T.sb) (by lia) (G.k.trans hk) λv a4 Y O=>?_)
     rw[List.drop_zero] at Y O
     dsimp only
     generalize hbc:nb-1-v=bc2
     refine' jpn2 (M:=M) (A:=A) (E:=E) (s:=s) (st:=L) (P:=λn p=>Hi S R a b n c p/\1<p/\(∀ x∈b.toList.take p,R a[c-1] x=false)/\t+2<=n.size) (prog:=?prog3) (λW=>?use3) (λn p h6=>?pf3)
     case use3 =>
      have a1:∀ x∈b.toList.take v,R a[c-1] x=false:=λx j=>C.asy _ _ (T.hb x (aC0 j)) (I _ ia) (Y x j)
      refine aaq (λk0=>?_) (λk0=>?_)
      ·have a7:Srt R (a.toList.take (c-1)++[a[c-1]]):=by rw[← ack B D];exact ace T.sa
       have l5:Hi S R a b (d.push b[nb-1]++(b.extract v (nb-1)).reverse) c v:=l4.runB a4 λx j y Z=>by
        have sx:S x:=T.ha x (aC0 j)
        have sy:S y:=T.hb y (aC0 (aC4 Z))
        rw[ack B D] at j
        exact C.tr _ _ _ sx (I _ ia) sy (ad9 C a7 (I _ ia) x j) (O y Z)
       refine aaq (λe6=>wpS_pure ⟨G,.inl ⟨_,rfl,l5.firstB T (aG3.mp e6)⟩⟩) (λe6=>?_)
       refine aaq (λX=>wpS_pure ⟨G,.inl ⟨_,rfl,l5.doneA (.inr (aG3.mp X))⟩⟩) (λX=>?_)
       have hP:Hi S R a b (d.push b[nb-1]++(b.extract v (nb-1)).reverse) c v/\1<v/\(∀ x∈b.toList.take v,R a[c-1] x=false)/\t+2<=(d.push b[nb-1]++(b.extract v (nb-1)).reverse).size:=by
        have b7:v ≠ 1:=λq=>e6 (aG3.mpr q)
        have b1:v ≠ 0:=λq=>X (aG3.mpr q)
        exact⟨l5,by lia,a1,by rw[Array.size_append,aH9];lia⟩
       revert hP
       clear e6 X l5
       generalize d.push b[nb-1]++(b.extract v (nb-1)).reverse=n
       generalize v=p
       intro hP
       exact W n p hP
      ·have:v=nb-1:=by lia
       rw[this] at a1
       exact W (d.push b[nb-1]) (nb-1) ⟨l4,by lia,a1,by rw[aH9];lia⟩
     refine wpS_bind (aa0 (x:=a[c-1]) (aA4 ia) ?_)
     have l7:=h6.1.pushA B h6.2.2.1
     refine aaq (λX=>wpS_pure ⟨G,.inl ⟨_,rfl,l7.doneA (.inl (aG3.mp X))⟩⟩) (λX=>?_)
     have hf:0<c-1/\1<p/\t+2<=(n.push a[c-1]).size:=by
      have b1:c-1 ≠ 0:=λq=>X (aG3.mpr q)
      have h7:=h6.2.2.2
      exact⟨by lia,h6.2.1,by rw[aH9];lia⟩
     exact aaq (λ_=>wpS_pure ⟨G,.inr ⟨rfl,l7,hf⟩⟩) (λ_=>wpS_pure ⟨G,rfl,l7,hf⟩)
    ·intro z g f
     have q2:=f.1
     refine unR (J:=λy:Nat × Nat × Array Keyed × Nat × Nat × Nat=>Hi S R a b y.2.2.1 y.1 y.2.1/\0<y.1/\1<y.2.1/\t+2<=y.2.2.1.size) z f.2 (λr x hr=>wpS_pure ⟨q2,r,rfl,hr⟩) λhN=>?_
     refine un7 (J:=λna nb out _ _ _=>Hi S R a b out na nb/\0<na/\1<nb/\t+2<=out.size) z hN λna nb out mg ac bc o=>?_
     dsimp only
     refine wpS_bind (wpS_modify ?_)
     exact wpS_pure ⟨q2.trans ⟨rfl,rfl,rfl,rfl⟩,rfl,o⟩
  ·intro z g f
   exfalso
   have H:=f.2.2.1.len
   have N:=f.2.2.2
   have:a.size+b.size<=max 0 (a.size+b.size):=by lia
   lia
 ·intro z g f
  have q2:=f.1
  exact unR (J:=λ_=>False) z (.inl f.2) (λr x hr=>wpS_pure (h r g q2 hr)) λhN=>hN.2.elim
end
theorem ake(base:Nat):∀(b v u w:List Keyed)(j:Nat)(xs:Array Keyed),xs.toList=u++v++w->v.length=b.length->u.length=base+j ->
  ((b.zipIdx j).foldl (λa x=>match x with|(p,j)=>a.setIfInBounds (base+j) p) xs).toList=u++b++w
 | [],v,u,w,j,xs,h1,h2,h3=>by
  have:v=[]:=aH2 h2
  subst this
  exact h1
 | m::b,v,u,w,j,xs,h1,h2,h3=>by
  cases v with
  |nil=>cases h2
  | cons y v =>
   rw[List.zipIdx_cons,List.foldl_cons]
   have c:=ake base b v (u++[m]) w (j+1) (xs.setIfInBounds (base+j) m) (by
    rw[Array.toList_setIfInBounds,h1,← h3]
    simp[List.set_append]) (by simpa using h2) (by simp[h3];lia)
   rw[c]
   simp
section
variable{M:Model}{A:Around}{E:Value->Shared->Prop}{s:Shared}{κ:SortKind}{S:Keyed->Prop}{R:Keyed->Keyed->Bool}
theorem axy{σ:Type}{st st' : σ}{Q:PUnit->σ->Prop}(h:Q ⟨⟩ st'):wpS M A E s (set st':StateT σ Sem PUnit) Q st:=by
 unfold wpS
 rw[StateT.run_set]
 exact aJ2 ⟨rfl,h⟩
theorem aqy(C:Cmp M A E s κ S R){st:SortSt}{i pw pw2:Nat}{pre a b g:List Keyed}(F:(arrOf st).toList=pre++a++b++g)(hS:∀ x∈(arrOf st).toList,S x)
  (a4:(pendingOf st)[i]?=some (pre.length,a.length,pw)) (a6:(pendingOf st)[i+1]?=some (pre.length+a.length,b.length,pw2)) (na:a ≠ []) (nb:b ≠ []) (U:Srt R a) (O:Srt R b) (hk:kindOf st = κ) (hf:failedOf st=none)
  {Q:Bool->SortSt->Prop}
  (h:∀ st' m,kindOf st' = κ->failedOf st'=none->pendingOf st'=((pendingOf st).setIfInBounds i (pre.length,a.length+b.length,pw)).eraseIdxIfInBounds (i+1)->(arrOf st').toList=pre++m++g->m.Perm (a++b)->Srt R m->Q true st') :
  wpS M A E s (amn i) Q st:=by
 have la:0<a.length:=aF9.mpr na
 have lb:0<b.length:=aF9.mpr nb
 have K:∀ x∈a,S x:=λx c=>hS x (by rw[F];simp[c])
 have L:∀ x∈b,S x:=λx c=>hS x (by rw[F];simp[c])
 have lx:(arrOf st).size=pre.length+a.length+b.length+g.length:=by
  have:=congrArg List.length F
  simp at this
  lia
 have D:((arrOf st).toList.drop pre.length).take a.length=a:=by rw[F];simp[aB4]
 have w:((arrOf st).toList.drop (pre.length+a.length)).take b.length=b:=by
  rw[show pre.length+a.length=(pre++a).length by simp,F,aB4 (pre++a),List.drop_left,List.take_left]
 refine wpS_bind (wpS_get ?_)
 rw[a4,a6]
 refine wpS_bind (wpS_mono (Q:=λ_ n=>kindOf n = κ/\failedOf n=none/\arrOf n=arrOf st/\pendingOf n=((pendingOf st).setIfInBounds i (pre.length,a.length+b.length,pw)).eraseIdxIfInBounds (i+1)) (axy ⟨hk,hf,rfl,rfl⟩) λ_ n ⟨k1,f1,a1,p1⟩=>?_)
 obtain⟨b0,bt,eb⟩:∃ b0 bt,b=b0::bt:=by cases b with|nil=>exact absurd rfl nb|cons x r=>exact⟨x,r,rfl⟩
 have a0:(arrOf st)[pre.length+a.length]?=some b0:=by
  rw[← aD6,F,eb]
  simp[List.getElem?_append]
 have v:S b0:=L b0 (by rw[eb];simp)
 have B:∀ y∈b,R y b0=false:=λy d=>by rw[eb] at d O;exact aew C O v y d
 -- nothing is laid together: the two stand in order already
 have plain:(∀ x∈a,∀ y∈b,R y x=false)->∀ st',Eqv n st'->Q true st':=λhc st' q=>by
  refine h st' (a++b) (q.k.trans k1) (q.f.trans f1) (q.p.trans p1) ?_ (List.Perm.refl _) (aC9.mpr ⟨U,O,hc⟩)
  rw[q.a,a1,F]
  simp[aB4]
 refine wpS_bind (aa0 a0 ?_)
 refine wpS_bind (agp C v hS (by lia) (by rw[D];exact U) la k1 λk a7 h1 h2=>?_)
 rw[D] at h2
 have G:∀ x∈a.take k,R b0 x=false:=λx c=>h1 x (by
  have:((arrOf st).toList.drop pre.length).take k=a.take k:=by rw[← D,List.take_take,Nat.min_eq_left a7]
  rw[this];exact c)
 dsimp only
 refine aaq (λe=>?_) (λe=>?_)
 ·have e':a.length-k=0:=by simpa using e
  refine wpS_pure (plain (λx c y d=>?_) n (Eqv.refl _))
  have:a.take k=a:=aF1 (by lia)
  rw[this] at G
  exact C.tr x b0 y (K x c) v (L y d) (G x c) (B y d)
 ·have e':a.length-k ≠ 0:=by simpa using e
  -- the last of a
  have N:pre.length+k+(a.length-k)-1=pre.length+(a.length-1):=by lia
  have o:a.length-1<a.length:=by lia
  have a3:(arrOf st)[pre.length+k+(a.length-k)-1]?=some (a[a.length-1]'o):=by
   rw[← aD6,F,N]
   simp[List.getElem?_append,o,aB4]
  have Sl:S (a[a.length-1]'o):=K _ (aF2 o)
  have u:a=a.take (a.length-1)++[a[a.length-1]'o]:=by
   have:=List.take_succ (l:=a) (i:=a.length-1)
   rw[show a.length-1+1=a.length by lia,aG8] at this
   simpa[o] using this
  have J:∀ x∈a,R (a[a.length-1]'o) x=false:=λx c=>by
   have hs:Srt R (a.take (a.length-1)++[a[a.length-1]'o]):=by rw[← u];exact U
   exact ad9 C hs Sl x (by rw[← u];exact c)
  refine wpS_bind (aa0 a3 ?_)
  refine wpS_bind (ah4 C Sl hS (by lia) (by rw[w];exact O) (by lia) k1 λj a2 h3 h4=>?_)
  rw[w] at h4
  have W:((arrOf st).toList.drop (pre.length+a.length)).take j=b.take j:=by rw[← w,List.take_take,Nat.min_eq_left a2]
  rw[W] at h3
  dsimp only
  refine aaq (λe2=>?_) (λe2=>?_)
  ·have Z:j=0:=by simpa using e2
   subst Z
   refine wpS_pure (plain (λx c y d=>?_) n (Eqv.refl _))
   exact C.tr x _ y (K x c) Sl (L y d) (J x c) (h4 y (by simpa using d))
  ·have Z:j ≠ 0:=by simpa using e2
   have ex:((arrOf st).extract (pre.length+k) (pre.length+a.length)).toList=a.drop k:=by
    rw[amo,F]
    simp[aB4,List.take_append,List.drop_append]
   have P:((arrOf st).extract (pre.length+a.length) (pre.length+a.length+j)).toList=b.take j:=by
    rw[ajg,W]
   generalize hX:(arrOf st).extract (pre.length+k) (pre.length+a.length)=X at ex
   generalize hY:(arrOf st).extract (pre.length+a.length) (pre.length+a.length+j)=Y at P
   have sX:X.size=a.length-k:=by have:=congrArg List.length ex;simpa using this
   have sY:Y.size=j:=by have:=congrArg List.length P;simp at this;lia
   have T:Two S R X Y:=by
    refine⟨λx c=>K x (aC4 (by rw[← ex];exact c)),λx c=>L x (aC0 (by rw[← P];exact c)),by rw[ex];exact acu U,by rw[P];exact ace O,by lia,by lia,λx c y d=>?_,λy d x c=>?_⟩
    ·rw[← aD6,P,eb] at d
     have:y=b0:=by
      obtain⟨j',rfl⟩:∃ j',j=j'+1:=⟨j-1,by lia⟩
      simpa using d.symm
     rw[this]
     rw[ex] at c
     exact C.asy _ _ v (K x (aC4 c)) (h2 x c)
    ·rw[← aD6,ex,sX] at c
     rw[aI3,show k+(a.length-k-1)=a.length-1 by lia,aA0 o] at c
     cases c
     rw[P] at d
     exact C.asy _ _ (L y (aC0 d)) Sl (h3 y d)
   have fin:∀(m:Array Keyed)(st':SortSt),Eqv n st'->Fin2 R X Y m->wpS M A E s (do
     modify λ(z:SortSt)=>setArr z (List.foldl (λa x=>match x with|(p,j)=>a.setIfInBounds (pre.length+k+j) p) (arrOf z) m.toList.zipIdx)
     let z ← get
     pure (failedOf z).isNone) Q st':=by
    intro m st' q ⟨H,ms⟩
    rw[ex,P] at H
    refine wpS_bind (wpS_modify ?_)
    refine wpS_bind (wpS_get ?_)
    refine wpS_pure ?_
    show Q (failedOf st').isNone _
    rw[q.f,f1]
    have lm:m.toList.length=(a.drop k).length+(b.take j).length:=by rw[H.length_eq,aB1]
    have I:∀ z∈m.toList,z∈a.drop k\/z∈b.take j:=λz hz=>aA7.mp (H.mem_iff.mp hz)
    refine h _ (a.take k++m.toList++b.drop j) (q.k.trans k1) (q.f.trans f1) (q.p.trans p1) ?_ ?_ ?_
    ·show(List.foldl _ (arrOf st') m.toList.zipIdx).toList=_
     have base:(arrOf st').toList=(pre++a.take k)++(a.drop k++b.take j)++(b.drop j++g):=by
      rw[q.a,a1,F]
      have t1:=aC1 k a
      have t2:=aC1 j b
      calc pre++a++b++g=pre++(a.take k++a.drop k)++(b.take j++b.drop j)++g:=by rw[t1,t2]
       _=_:=by simp only[aB4]
     have:=ake (pre.length+k) m.toList (a.drop k++b.take j) (pre++a.take k) (b.drop j++g) 0 (arrOf st') base (by rw[aB1,lm]) (by rw[aB1,aH0];lia)
     rw[this]
     simp only[aB4]
    ·have t1:=aC1 k a
     have t2:=aC1 j b
     calc (a.take k++m.toList++b.drop j).Perm (a.take k++(a.drop k++b.take j)++b.drop j):=List.Perm.append_right _ (List.Perm.append_left _ H)
      _ = a++b:=by
       simp only[aB4]
       rw[t2,← aB4,t1]
    ·have a5:Srt R (a.take k++a.drop k):=by rw[aC1];exact U
     have a8:Srt R (b.take j++b.drop j):=by rw[aC1];exact O
     have ca:=(aC9.mp a5).2.2
     have cb:=(aC9.mp a8).2.2
     refine aC9.mpr ⟨aC9.mpr ⟨ace U,ms,λx c y d=>?_⟩,acu O,λx c y d=>?_⟩
     ·rcases I y d with d|d
      ·exact ca x c y d
      ·exact C.tr x b0 y (K x (aC0 c)) v (L y (aC0 d)) (G x c) (B y (aC0 d))
     ·have Sy:=L y (aC4 d)
      rcases aA7.mp c with c|c
      ·exact C.tr x b0 y (K x (aC0 c)) v Sy (G x c) (B y (aC4 d))
      ·rcases I x c with c|c
       ·exact C.tr x _ y (K x (aC4 c)) Sl Sy (J x (aC4 c)) (h4 y d)
       ·exact cb x c y d
   refine aaq (λe3=>?_) (λe3=>?_)
   ·exact wpS_bind (aqw C T k1 λm st' q fm=>fin m st' q fm)
   ·exact wpS_bind (aqx C T k1 λm st' q fm=>fin m st' q fm)
end
def e(xs:Array Keyed)(k:Nat):Keyed:=(xs[k]?).getD (.none,.none)
theorem aik{xs:Array Keyed}{k:Nat}(h:k<xs.size):xs[k]?=some (e xs k):=by
 unfold e;rw[aA4 h];rfl
def Asc(R:Keyed->Keyed->Bool)(xs:Array Keyed)(l h:Nat):Prop:=∀ i j,l<=i->i<=j->j<h->R (e xs j) (e xs i)=false
def Des(R:Keyed->Keyed->Bool)(xs:Array Keyed)(l h:Nat):Prop:=∀ i j,l<=i->i<=j->j<h->R (e xs i) (e xs j)=false
structure Bs(κ:SortKind)(p0:Array (Nat × Nat × Nat))(a0:Array Keyed)(lo:Nat)(st:SortSt):Prop where
 k:kindOf st = κ
 f:failedOf st=none
 p:pendingOf st=p0
 perm:(arrOf st).toList.Perm a0.toList
 pre:∀ k,k<lo->(arrOf st)[k]?=a0[k]?
theorem ava{xs:Array Keyed}{src d:Nat}(hs:src<xs.size)(hd:d<=src)(k:Nat):e (bubble xs src d) k=if k=src-d then e xs src else if src-d<k/\k<=src then e xs (k-1) else e xs k:=by
 unfold e
 rw[getElem?_bubble hs d hd]
 repeat' split
 all_goals rfl
theorem adh{xs:Array Keyed}{i j:Nat}(a:j<=xs.size)(k:Nat):e (mirror xs i j ((j-i) / 2)) k=if i<=k/\k<j then e xs (i+j-1-k) else e xs k:=by
 unfold e
 rw[getElem?_mirror_all a]
 split <;> rfl
section
variable{M:Model}{A:Around}{E:Value->Shared->Prop}{s:Shared}{κ:SortKind}{S:Keyed->Prop}{R:Keyed->Keyed->Bool}{p0:Array (Nat × Nat × Nat)}{a0:Array Keyed}{lo:Nat}
theorem Bs.size{st:SortSt}(B:Bs κ p0 a0 lo st):(arrOf st).size=a0.size:=by
 have:=B.perm.length_eq
 simpa using this
theorem Bs.sat{st:SortSt}(B:Bs κ p0 a0 lo st)(a:∀ x∈a0.toList,S x){k:Nat}(b:k<a0.size):S (e (arrOf st) k):=by
 have h:=aik (xs:=arrOf st) (k:=k) (by rw[B.size];exact b)
 refine a _ (B.perm.mem_iff.mp ?_)
 rw[← aD6] at h
 exact aA2 h
theorem agq(C:Cmp M A E s κ S R)(a:∀ x∈a0.toList,S x){st:SortSt}(B:Bs κ p0 a0 lo st){i j:Nat}(hi:i<a0.size)(b:j<a0.size){Q:Option Bool->SortSt->Prop}(h:Q (some (R (e (arrOf st) i) (e (arrOf st) j))) st) :
  wpS M A E s (ltAt' i j) Q st:=by
 rw[ltAt'_eq]
 refine wpS_bind (wpS_get ?_)
 refine wpS_bind (aa0 (aik (by rw[B.size];exact hi)) ?_)
 refine wpS_bind (aa0 (aik (by rw[B.size];exact b)) ?_)
 exact C.ask _ _ (B.sat a hi) (B.sat a b) _ _ B.k h
theorem avb(C:Cmp M A E s κ S R){xs:Array Keyed}{l h:Nat}(b:∀ k,k<=h->S (e xs k))(f:l<h)(a:Asc R xs l h)(n:R (e xs h) (e xs (h-1))=false):Asc R xs l (h+1):=by
 intro i j c d g
 by_cases hj:j=h
 ·subst hj
  by_cases hi:i=j
  ·subst hi;exact C.irr (b _ (aA6 _))
  ·exact C.tr _ (e xs (j-1)) _ (b _ (by lia)) (b _ (by lia)) (b _ (by lia)) (a i (j-1) c (by lia) (by lia)) n
 ·exact a i j c d (by lia)
theorem af3(C:Cmp M A E s κ S R){xs:Array Keyed}{l h:Nat}(b:∀ k,k<=h->S (e xs k))(f:l<h)(a:Des R xs l h)(n:R (e xs (h-1)) (e xs h)=false):Des R xs l (h+1):=by
 intro i j c d g
 by_cases hj:j=h
 ·subst hj
  by_cases hi:i=j
  ·subst hi;exact C.irr (b _ (aA6 _))
  ·exact C.tr _ (e xs (j-1)) _ (b _ (by lia)) (b _ (by lia)) (b _ (by lia)) n (a i (j-1) c (by lia) (by lia))
 ·exact a i j c d (by lia)
theorem Bs.set{st:SortSt}(B:Bs κ p0 a0 lo st){xs:Array Keyed}(c:xs.Perm (arrOf st))(b:∀ k,k<lo->xs[k]?=(arrOf st)[k]?):Bs κ p0 a0 lo (setArr st xs) :=
 ⟨B.k,B.f,B.p,c.toList.trans B.perm,λk a=>(b k a).trans (B.pre k a)⟩
theorem aqz (C:Cmp M A E s κ S R) (F:∀ x∈a0.toList,S x) {st:SortSt} (B:Bs κ p0 a0 lo st) {n ok:Nat} (hn:lo+n<=a0.size) (hok:ok<=n) (N:1<=n) (hs:Asc R (arrOf st) lo (lo+ok)) {Q:Bool->SortSt->Prop}
  (h:∀ st',Bs κ p0 a0 lo st'->Asc R (arrOf st') lo (lo+n)->Q true st'):wpS M A E s (au9 lo n ok) Q st:=by
 refine wpS_bind (wpS_mono (Q:=λ(z:Option Bool × Unit) st'=>z.1=none/\Bs κ p0 a0 lo st'/\Asc R (arrOf st') lo (lo+n)) ?_ ?_)
 ·refine wpS_forRange (λk (z:Option Bool × Unit) st'=>z.1=none/\Bs κ p0 a0 lo st'/\Asc R (arrOf st') lo (lo+k)) ?_ ?_ ⟨rfl,B,λi j f m u=>?_⟩
  ·rintro k ⟨o,_⟩ b I K ⟨rfl,q,as⟩
   have d:∀ j,j<lo+n->S (e (arrOf b) j):=λj v=>q.sat F (by lia)
   refine wpS_bind (wpS_mono (Q:=λ(z:Option Bool × Nat × Nat) st'=>st'=b/\z.1=none/\z.2.1<=k/\(∀ i,i<z.2.1->R (e (arrOf b) (lo+k)) (e (arrOf b) (lo+i))=false)/\(∀ i,z.2.1<=i->i<k->R (e (arrOf b) (lo+k)) (e (arrOf b) (lo+i))=true)) ?_ ?_)
   ·refine wpS_forRange (λt (z:Option Bool × Nat × Nat) st'=>st'=b/\z.1=none/\z.2.1<=z.2.2/\z.2.2<=k/\z.2.2-z.2.1+t<=k/\(∀ i,i<z.2.1->R (e (arrOf b) (lo+k)) (e (arrOf b) (lo+i))=false)/\(∀ i,z.2.2<=i->i<k->R (e (arrOf b) (lo+k)) (e (arrOf b) (lo+i))=true)) ?_ ?_
     ⟨rfl,rfl,Nat.zero_le _,Nat.le_refl _,by dsimp only;lia,λi hi=>absurd hi (Nat.not_lt_zero _),λi f m=>by dsimp only at f;lia⟩
    ·rintro t ⟨o,l,r⟩ a _ O ⟨rfl,c,f,m,u,p,g⟩
     dsimp only at c f m u p g ⊢
     subst c
     refine aaq (λw=>?_) (λw=>?_)
     ·have:l=r:=by lia
      subst this
      exact wpS_pure ⟨rfl,rfl,m,p,g⟩
     ·have hm:(l+r) / 2<r:=by lia
      have D:l<=(l+r) / 2:=by lia
      refine wpS_bind (agq C F q (by lia) (by lia) ?_)
      dsimp only
      cases er:R (e (arrOf a) (lo+k)) (e (arrOf a) (lo+(l+r) / 2)) with
      | true =>
       rw[aF5 rfl]
       refine wpS_pure ⟨rfl,rfl,D,by dsimp only;lia,by dsimp only;lia,p,λi i1 y=>?_⟩
       dsimp only at i1
       cases e2:R (e (arrOf a) (lo+k)) (e (arrOf a) (lo+i)) with
       |true=>rfl
       | false =>
        have:=C.tr _ _ _ (d _ (by lia)) (d _ (by lia)) (d _ (by lia)) (as (lo+(l+r) / 2) (lo+i) (by lia) (by lia) (by lia)) e2
        rw[this] at er;cases er
      | false =>
       rw[aF6 (by decide)]
       refine wpS_pure ⟨rfl,rfl,by dsimp only;lia,m,by dsimp only;lia,λi i1=>?_,g⟩
       dsimp only at i1
       exact C.tr _ _ _ (d _ (by lia)) (d _ (by lia)) (d _ (by lia)) (as (lo+i) (lo+(l+r) / 2) (by lia) (by lia) (by lia)) er
    ·rintro⟨o,l,r⟩ a ⟨rfl,c,f,m,u,p,g⟩
     dsimp only at c f m u p g ⊢
     have : l = r := by have:k ≤ max 0 k := by lia
                        lia
     subst this
     exact⟨rfl,c,m,p,g⟩
   ·rintro⟨o,l,r⟩ a ⟨rfl,c,f,p,g⟩
    dsimp only at c f p g ⊢
    subst c
    dsimp only
    have hsz:lo+k<(arrOf a).size:=by rw[q.size];lia
    have hd:(lo+k)-(lo+l)=k-l:=by lia
    refine wpS_bind (wpS_modify ?_)
    have G:∀ j,e (bubble (arrOf a) (lo+k) (lo+k-(lo+l))) j=if j=lo+l then e (arrOf a) (lo+k) else if lo+l<j/\j<=lo+k then e (arrOf a) (j-1) else e (arrOf a) j:=λj=>by
     rw[ava hsz (by lia),show lo+k-(lo+k-(lo+l))=lo+l by lia]
    refine wpS_pure ⟨rfl,q.set (bubble_perm _ _ _) (λj v=>?_),λi j i1 y L=>?_⟩
    ·show(bubble (arrOf a) (lo+k) (lo+k-(lo+l)))[j]?=_
     rw[getElem?_bubble hsz _ (by lia),aF6 (by lia),aF6 (by lia)]
    ·show R (e (bubble (arrOf a) (lo+k) (lo+k-(lo+l))) j) (e (bubble (arrOf a) (lo+k) (lo+k-(lo+l))) i)=false
     rw[G,G]
     have J:∀ j,j<lo+n->S (e (arrOf a) j):=d
     by_cases j1:j=lo+l
     ·rw[aF5 j1]
      by_cases i4:i=lo+l
      ·rw[aF5 i4];exact C.irr (d _ (by lia))
      ·rw[aF6 i4,aF6 (by lia)]
       have:=p (i-lo) (by lia)
       rw[show lo+(i-lo)=i by lia] at this
       exact this
     ·rw[aF6 j1]
      by_cases j2:lo+l<j/\j<=lo+k
      ·rw[aF5 j2]
       have H:=g (j-1-lo) (by lia) (by lia)
       rw[show lo+(j-1-lo)=j-1 by lia] at H
       by_cases i4:i=lo+l
       ·rw[aF5 i4];exact C.asy _ _ (d _ (by lia)) (d _ (by lia)) H
       ·rw[aF6 i4]
        by_cases i5:lo+l<i/\i<=lo+k
        ·rw[aF5 i5];exact as (i-1) (j-1) (by lia) (by lia) (by lia)
        ·rw[aF6 i5];exact as i (j-1) (by lia) (by lia) (by lia)
      ·rw[aF6 j2,aF6 (by lia),aF6 (by lia)]
       exact as i j (by lia) (by lia) (by lia)
  ·rintro⟨o,_⟩ b ⟨c,q,as⟩
   exact⟨c,q,λi j i1 y L=>as i j i1 y (by lia)⟩
  ·by_cases v:j<lo+ok
   ·exact hs i j f m v
   ·have:i=j:=by lia
    subst this
    exact C.irr (B.sat F (by lia))
 ·rintro⟨o,_⟩ b ⟨c,q,as⟩
  dsimp only at c ⊢
  subst c
  exact wpS_pure (h b q as)
end
def Eqb(R:Keyed->Keyed->Bool)(xs:Array Keyed)(l h:Nat):Prop:=∀ i j,l<=i->i<h->l<=j->j<h->R (e xs i) (e xs j)=false
section
variable{M:Model}{A:Around}{E:Value->Shared->Prop}{s:Shared}{κ:SortKind}{S:Keyed->Prop}{R:Keyed->Keyed->Bool}{p0:Array (Nat × Nat × Nat)}{a0:Array Keyed}{lo:Nat}
theorem apb{α:Type}{prog:StateT SortSt Sem α}{P:SortSt->Prop}{Q : α->SortSt->Prop}{G:Prop}(use:(∀ st,P st->wpS M A E s prog Q st)->G)(a:∀ st,P st->wpS M A E s prog Q st):G:=use a
theorem amp(C:Cmp M A E s κ S R)(f:∀ x∈a0.toList,S x){st:SortSt}(B:Bs κ p0 a0 lo st){a nrem:Nat}(j:1<=a)(g:a<=nrem)(hn:lo+nrem<=a0.size)(as:Asc R (arrOf st) lo (lo+a)){Q:Option (Option Nat) × Nat->SortSt->Prop}
  (h:∀ n,a<=n->n<=nrem->Asc R (arrOf st) lo (lo+n)->(n<nrem->R (e (arrOf st) (lo+n)) (e (arrOf st) (lo+n-1))=true)->Q (none,n) st) :
  wpS M A E s (forIn [a:nrem] ((none,a):Option (Option Nat) × Nat) (λ(_:Nat) z=>ltAt' (lo+z.2) (lo+z.2-1) >>= λx=>match x with
   |some smaller=>if smaller=true then pure (ForInStep.done (none,z.2)) else pure (ForInStep.yield (none,z.2+1))
   |_=>pure (ForInStep.done (some none,z.2)))) Q st:=by
 refine wpS_forRange (λt (z:Option (Option Nat) × Nat) st'=>st'=st/\z=(none,t)/\Asc R (arrOf st) lo (lo+t)) ?_ ?_ ⟨rfl,rfl,as⟩
 ·rintro t ⟨o,n⟩ c t1 l ⟨rfl,d,b⟩
  cases d
  dsimp only
  refine wpS_bind (agq C f B (by lia) (by lia) ?_)
  dsimp only
  cases er:R (e (arrOf c) (lo+t)) (e (arrOf c) (lo+t-1)) with
  | true =>
   rw[aF5 rfl]
   exact wpS_pure (h t t1 (by lia) b λ_=>er)
  | false =>
   rw[aF6 (by decide)]
   exact wpS_pure ⟨rfl,rfl,avb C (h:=lo+t) (λk i=>B.sat f (by lia)) (by lia) b er⟩
 ·rintro⟨o,n⟩ c ⟨rfl,d,b⟩
  cases d
  rw[show max a nrem=nrem by lia] at b ⊢
  exact h nrem g (aA6 _) b λz=>absurd z (aG4 _)
theorem avc(C:Cmp M A E s κ S R){st:SortSt}(B:Bs κ p0 a0 lo st){n:Nat}(hn:lo+n<=a0.size)(a:Des R (arrOf st) lo (lo+n)) :
  Bs κ p0 a0 lo (setArr st (mirror (arrOf st) lo (lo+n) ((lo+n-lo) / 2)))/\Asc R (mirror (arrOf st) lo (lo+n) ((lo+n-lo) / 2)) lo (lo+n):=by
 have hz:lo+n<=(arrOf st).size:=by rw[B.size];exact hn
 refine⟨B.set (mirror_perm _ _ _ _) (λk f=>by rw[getElem?_mirror_all hz,aF6 (by lia)]),λi j d c b=>?_⟩
 rw[adh hz,adh hz,aF5 (by lia),aF5 (by lia)]
 exact a _ _ (by lia) (by lia) (by lia)
theorem ajh(C:Cmp M A E s κ S R)(d:∀ x∈a0.toList,S x){st:SortSt}(B:Bs κ p0 a0 lo st){l h m:Nat}(f:lo<=l)(hh:h<=a0.size)(hm:h<=m)(c:m<=a0.size)(a:Des R (arrOf st) lo m)(eq:Eqb R (arrOf st) l h) :
  Bs κ p0 a0 lo (setArr st (mirror (arrOf st) l h ((h-l) / 2)))/\Des R (mirror (arrOf st) l h ((h-l) / 2)) lo m:=by
 have hz:h<=(arrOf st).size:=by rw[B.size];exact hh
 refine⟨B.set (mirror_perm _ _ _ _) (λk b=>by rw[getElem?_mirror_all hz,aF6 (by lia)]),λi j g p o=>?_⟩
 rw[adh hz,adh hz]
 have n:∀ k,k<m->S (e (arrOf st) k):=λk b=>B.sat d (by lia)
 by_cases c1:l<=i/\i<h
 ·rw[aF5 c1]
  by_cases c2:l<=j/\j<h
  ·rw[aF5 c2]
   exact eq _ _ (by lia) (by lia) (by lia) (by lia)
  ·rw[aF6 c2]
   exact a _ _ (by lia) (by lia) (by lia)
 ·rw[aF6 c1]
  by_cases c2:l<=j/\j<h
  ·rw[aF5 c2]
   exact a _ _ (by lia) (by lia) (by lia)
  ·rw[aF6 c2]
   exact a _ _ (by lia) (by lia) (by lia)
theorem as6 (C:Cmp M A E s κ S R) (p:∀ x∈a0.toList,S x) {st:SortSt} (B:Bs κ p0 a0 lo st) {nrem:Nat} (h1:1<=nrem) (hn:lo+nrem<=a0.size) {Q:Option Nat->SortSt->Prop}
  (h:∀ st' n,Bs κ p0 a0 lo st'->1<=n->n<=nrem->Asc R (arrOf st') lo (lo+n)->Q (some n) st'):wpS M A E s (axx lo nrem) Q st:=by
 refine wpS_bind (amp C p B (aA6 1) h1 hn (λi j i1 r X=>?_) λn n1 n2 as br=>?_)
 ·have:i=j:=by lia
  subst this
  exact C.irr (B.sat p (by lia))
 dsimp only
 refine aaq (λen=>wpS_pure (h st n B n1 n2 as)) (λen=>?_)
 have a5:n ≠ nrem:=by simpa using en
 have a3:n<nrem:=by lia
 have H:=br a3
 refine apb (M:=M) (A:=A) (E:=E) (s:=s) (α:=Option Nat) (Q:=Q) (P:=λu=>Bs κ p0 a0 lo u/\Des R (arrOf u) lo (lo+n)/\R (e (arrOf u) (lo+n)) (e (arrOf u) (lo+n-1))=true) (prog:=?prog) (λK=>?use) (λu ⟨L,Z,U⟩=>?pf)
 case use =>
  refine aaq (λg1=>?_) (λg1=>?_)
  ·refine wpS_bind (agq C p B (by lia) (by lia) ?_)
   dsimp only
   cases er:R (e (arrOf st) lo) (e (arrOf st) (lo+n-1)) with
   |true=>rw[aF5 rfl];exact wpS_pure (h st n B n1 n2 as)
   | false =>
    rw[aF6 (by decide)]
    -- all of them are equal
    have c:∀ k,k<lo+n->S (e (arrOf st) k):=λk J=>B.sat p (by lia)
    have all:Eqb R (arrOf st) lo (lo+n):=λi j i1 r y w=>by
     -- j<=last<=first<=i
     have a1:=as j (lo+n-1) y (by lia) (by lia)
     have a2:=as lo i (aA6 _) i1 r
     exact C.tr _ _ _ (c j w) (c lo (by lia)) (c i r) (C.tr _ _ _ (c j w) (c (lo+n-1) (by lia)) (c lo (by lia)) a1 er) a2
    have Z:Des R (arrOf st) lo (lo+n):=λi j i1 r X=>all i j i1 (by lia) (by lia) X
    have hz:lo+n<=(arrOf st).size:=by rw[B.size];lia
    obtain⟨q,a⟩:=ajh C p B (aA6 lo) (show lo+n<=a0.size by lia) (aA6 _) (by lia) Z all
    refine wpS_bind (wpS_modify ?_)
    refine K _ ⟨q,a,?_⟩
    show R (e (mirror (arrOf st) lo (lo+n) ((lo+n-lo) / 2)) (lo+n)) (e (mirror (arrOf st) lo (lo+n) ((lo+n-lo) / 2)) (lo+n-1))=true
    rw[adh hz,adh hz,aF6 (by lia),aF5 (by lia)]
    rw[show lo+(lo+n)-1-(lo+n-1)=lo by lia]
    cases e2:R (e (arrOf st) (lo+n)) (e (arrOf st) lo) with
    |true=>rfl
    | false =>
     have:=C.tr _ _ _ (c (lo+n-1) (by lia)) (c lo (by lia)) (B.sat p (show lo+n<a0.size by lia)) er e2
     rw[this] at H;cases H
  ·have:n=1:=by lia
   subst this
   refine K st ⟨B,λi j i1 r X=>?_,H⟩
   have:i=j:=by lia
   subst this
   exact C.irr (B.sat p (by lia))
 case pf =>
  -- the falling part
  refine wpS_bind (ady ?_)
  refine wpS_bind (wpS_mono (Q:=λ(z:Option (Option Nat) × Nat × Nat) st'=>z.1=none/\Bs κ p0 a0 lo st'/\z.2.1<=nrem/\z.2.2+1<=z.2.1/\Des R (arrOf st') lo (lo+z.2.1)/\Eqb R (arrOf st') (lo+z.2.1-(z.2.2+1)) (lo+z.2.1)) ?_ ?_)
  ·refine wpS_forRange (λt (z:Option (Option Nat) × Nat × Nat) st'=>z.1=none/\z.2.1=t/\Bs κ p0 a0 lo st'/\z.2.2+1<=z.2.1/\Des R (arrOf st') lo (lo+z.2.1)/\Eqb R (arrOf st') (lo+z.2.1-(z.2.2+1)) (lo+z.2.1)) ?_ ?_ ⟨rfl,rfl,L,by dsimp only;lia,?_,λi j i1 r y w=>?_⟩
   ·rintro t ⟨o,m,b⟩ f t1 t2 ⟨D,O,q,G,a,d⟩
    dsimp only at D O G a d ⊢
    subst D O
    have c:∀ k,k<a0.size->S (e (arrOf f) k):=λk J=>q.sat p J
    refine wpS_bind (agq C p q (by lia) (by lia) ?_)
    dsimp only
    cases er:R (e (arrOf f) (lo+m)) (e (arrOf f) (lo+m-1)) with
    | true =>
     rw[aF5 rfl]
     refine aaq (λg=>?_) (λg=>?_)
     ·have hz:lo+m<=(arrOf f).size:=by rw[q.size];lia
      obtain⟨F,v⟩:=ajh C p q (l:=lo+m-(b+1)) (h:=lo+m) (by lia) (by lia) (aA6 _) (by lia) a d
      have N:∀ k,e (mirror (arrOf f) (lo+m-(b+1)) (lo+m) ((lo+m-(lo+m-(b+1))) / 2)) k=if lo+m-(b+1)<=k/\k<lo+m then e (arrOf f) (lo+m-(b+1)+(lo+m)-1-k) else e (arrOf f) k:=λk=>adh hz k
      refine wpS_bind (wpS_modify ?_)
      refine wpS_pure ⟨rfl,rfl,F,by dsimp only;lia,?_,λi j i1 r y w=>?_⟩
      ·show Des R (mirror (arrOf f) (lo+m-(b+1)) (lo+m) ((lo+m-(lo+m-(b+1))) / 2)) lo (lo+(m+1))
       refine af3 C (h:=lo+m) (λk J=>F.sat p (by lia)) (by lia) v ?_
       rw[N,N,aF5 (by lia),aF6 (by lia)]
       rw[show lo+m-(b+1)+(lo+m)-1-(lo+m-1)=lo+m-(b+1) by lia]
       exact C.tr _ _ _ (c _ (by lia)) (c (lo+m-1) (by lia)) (c _ (by lia)) (C.asy _ _ (c _ (by lia)) (c _ (by lia)) er) (a _ _ (by lia) (by lia) (by lia))
      ·dsimp only at i1 r y w
       have:i=j:=by lia
       subst this
       exact C.irr (F.sat p (by lia))
     ·have:b=0:=by lia
      subst this
      refine wpS_pure ⟨rfl,rfl,q,by dsimp only;lia,af3 C (h:=lo+m) (λk J=>c k (by lia)) (by lia) a (C.asy _ _ (c _ (by lia)) (c _ (by lia)) er),λi j i1 r y w=>?_⟩
      dsimp only at i1 r y w
      have:i=j:=by lia
      subst this
      exact C.irr (c _ (by lia))
    | false =>
     rw[aF6 (by decide)]
     refine wpS_bind (agq C p q (by lia) (by lia) ?_)
     dsimp only
     cases er2:R (e (arrOf f) (lo+m-1)) (e (arrOf f) (lo+m)) with
     | true =>
      rw[aF5 rfl]
      exact wpS_pure ⟨rfl,q,by dsimp only;lia,G,a,d⟩
     | false =>
      rw[aF6 (by decide)]
      refine wpS_pure ⟨rfl,rfl,q,by dsimp only;lia,af3 C (h:=lo+m) (λk J=>c k (by lia)) (by lia) a er2,λi j i1 r y w=>?_⟩
      dsimp only at i1 r y w
      by_cases ci:i=lo+m
      ·by_cases cj:j=lo+m
       ·rw[ci,cj];exact C.irr (c _ (by lia))
       ·rw[ci]
        exact C.tr _ _ _ (c j (by lia)) (c (lo+m-1) (by lia)) (c _ (by lia)) (d (lo+m-1) j (by lia) (by lia) (by lia) (by lia)) er
      ·by_cases cj:j=lo+m
       ·rw[cj]
        exact C.tr _ _ _ (c _ (by lia)) (c (lo+m-1) (by lia)) (c i (by lia)) er2 (d i (lo+m-1) (by lia) (by lia) (by lia) (by lia))
       ·exact d i j (by lia) (by lia) (by lia) (by lia)
   ·rintro⟨o,m,b⟩ f ⟨D,O,q,G,a,d⟩
    dsimp only at D O G a d ⊢
    exact⟨D,q,by lia,G,a,d⟩
   ·exact af3 C (h:=lo+n) (λk J=>L.sat p (by lia)) (by lia) Z (C.asy _ _ (L.sat p (by lia)) (L.sat p (by lia)) U)
   ·dsimp only at i1 r y w
    have:i=j:=by lia
    subst this
    exact C.irr (L.sat p (by lia))
  ·rintro⟨o,m,b⟩ f ⟨D,q,hm,G,a,d⟩
   dsimp only at D hm G a d ⊢
   subst D
   dsimp only
   refine apb (M:=M) (A:=A) (E:=E) (s:=s) (α:=Option Nat) (Q:=Q) (P:=λI=>Bs κ p0 a0 lo I/\Des R (arrOf I) lo (lo+m)) (prog:=?prog2) (λK=>?use2) (λI ⟨F,v⟩=>?pf2)
   case use2 =>
    refine aaq (λg=>?_) (λg=>?_)
    ·obtain⟨F,v⟩:=ajh C p q (l:=lo+m-(b+1)) (h:=lo+m) (by lia) (by lia) (aA6 _) (by lia) a d
     refine wpS_bind (wpS_modify ?_)
     exact K _ ⟨F,v⟩
    ·exact K _ ⟨q,a⟩
   case pf2 =>
    obtain⟨B5,T⟩:=avc C F (n:=m) (by lia) v
    refine wpS_bind (wpS_modify ?_)
    refine wpS_bind (amp C p B5 (by lia) hm hn T λn' a4 W Y _=>?_)
    exact wpS_pure (h _ n' B5 (by lia) W Y)
end
def flat(rs:List (List Keyed × Nat)):List Keyed:=(rs.map (·.1)).flatten
def pend:Nat->List (List Keyed × Nat)->List (Nat × Nat × Nat)
 |_,[]=>[]
 |k,(r,pw)::t=>(k,r.length,pw)::pend (k+r.length) t
theorem ah5:flat []=[]:=rfl
theorem ab0(r:List Keyed × Nat)(t:List (List Keyed × Nat)):flat (r::t)=r.1++flat t:=rfl
theorem abr(p q:List (List Keyed × Nat)):flat (p++q)=flat p++flat q:=by simp[flat]
theorem acf:∀(k:Nat)(p q:List (List Keyed × Nat)),pend k (p++q)=pend k p++pend (k+(flat p).length) q
 |k,[],q=>by simp[pend,ah5]
 | k,(r,pw)::t,q=>by
  simp only[List.cons_append,pend,ab0,aB1,List.cons.injEq,true_and]
  rw[acf (k+r.length) t q,Nat.add_assoc]
theorem ad2:∀(k:Nat)(p:List (List Keyed × Nat)),(pend k p).length=p.length
 |_,[]=>rfl
 |k,(r,pw)::t=>by simp[pend,ad2 _ t]
section
variable{M:Model}{A:Around}{E:Value->Shared->Prop}{s:Shared}{κ:SortKind}{S:Keyed->Prop}{R:Keyed->Keyed->Bool}{a0:Array Keyed}
structure Rn(κ:SortKind)(R:Keyed->Keyed->Bool)(a0:Array Keyed)(rs:List (List Keyed × Nat))(rest:List Keyed)(st:SortSt):Prop where
 k:kindOf st = κ
 f:failedOf st=none
 arr:(arrOf st).toList=flat rs++rest
 pn:(pendingOf st).toList=pend 0 rs
 ok:∀ r∈rs,r.1 ≠ []/\Srt R r.1
 perm:(arrOf st).toList.Perm a0.toList
theorem axz{α:Type}(a c:List α)(x b y : α):((a++x::y::c).set a.length b).eraseIdx (a.length+1)=a++b::c:=by
 rw[List.set_append_right _ _ (aA6 _),aI7,List.set_cons_zero,List.eraseIdx_append_of_length_le (by lia)]
 rw[show a.length+1-a.length=1 by lia]
 rfl
theorem ail(C:Cmp M A E s κ S R)(I:∀ x∈a0.toList,S x){st:SortSt}{rs:List (List Keyed × Nat)}{rest:List Keyed}(N:Rn κ R a0 rs rest st){i:Nat}(hi:i+1<rs.length){Q:Bool->SortSt->Prop}
  (h:∀ st' o,Rn κ R a0 o rest st'->o.length+1=rs.length->(flat o).length=(flat rs).length->Q true st'):wpS M A E s (amn i) Q st:=by
 obtain⟨p,a,pw,b,pw2,q,e,v⟩:∃ p a pw b pw2 q,rs=p++(a,pw)::(b,pw2)::q/\p.length=i:=by
  have w:rs=rs.take i++rs.drop i:=(aC1 i rs).symm
  have hd:rs.drop i=rs[i]::rs[i+1]::rs.drop (i+2):=by
   rw[List.drop_eq_getElem_cons (by lia),List.drop_eq_getElem_cons hi]
  exact⟨rs.take i,rs[i].1,rs[i].2,rs[i+1].1,rs[i+1].2,rs.drop (i+2),by rw[← hd];exact w,by simp;lia⟩
 subst v
 have c:=N.ok (a,pw) (by rw[e];simp)
 have j:=N.ok (b,pw2) (by rw[e];simp)
 have n:(pendingOf st).toList=pend 0 p++((flat p).length,a.length,pw)::((flat p).length+a.length,b.length,pw2)::pend ((flat p).length+a.length+b.length) q:=by
  rw[N.pn,e,acf];simp[pend]
 have d:(pend 0 p).length=p.length:=ad2 0 p
 have g:(arrOf st).toList=flat p++a++b++(flat q++rest):=by
  rw[N.arr,e,abr,ab0,ab0];simp[aB4]
 refine aqy C (i:=p.length) (pw:=pw) (pw2:=pw2) g (λx B=>I x (N.perm.mem_iff.mp B)) ?_ ?_ c.1 j.1 c.2 j.2 N.k N.f λst' m H G y u pm F=>?_
 ·rw[← aD6,n,aC8 (by lia),d,aI7];rfl
 ·rw[← aD6,n,aC8 (by lia),d,show p.length+1-p.length=1 by lia];rfl
 ·refine h st' (p++(m,pw)::q) ⟨H,G,?_,?_,λr l=>?_,?_⟩ (by rw[e];simp;lia) ?_
  ·rw[u,abr,ab0];simp[aB4]
  ·rw[y,Array.toList_eraseIdxIfInBounds,Array.toList_setIfInBounds,n,← d,axz,acf]
   simp[pend,pm.length_eq,Nat.add_assoc]
  ·rcases aA7.mp l with l|l
   ·exact N.ok r (by rw[e];simp[l])
   ·rcases aA9.mp l with rfl|l
    ·refine⟨?_,F⟩
     intro z
     have:=pm.length_eq
     have D:m=[]:=z
     rw[D] at this
     have:=aF9.mpr c.1
     simp at *
     lia
    ·exact N.ok r (by rw[e];simp[l])
  ·rw[u]
   refine List.Perm.trans ?_ N.perm
   rw[g]
   have:(flat p++a++b++(flat q++rest))=flat p++(a++b)++(flat q++rest):=by simp[aB4]
   rw[this]
   exact(pm.append_left (flat p)).append_right _
  ·rw[e,abr,abr,ab0,ab0,ab0]
   simp[pm.length_eq]
   lia
theorem Rn.run{rs:List (List Keyed × Nat)}{rest:List Keyed}{st st':SortSt}{n:Nat}(N:Rn κ R a0 rs rest st)(B:Bs κ (pendingOf st) (arrOf st) (flat rs).length st')(u:1<=n)(hn:(flat rs).length+n<=(arrOf st).size)(as:Asc R (arrOf st') (flat rs).length ((flat rs).length+n)) :
  ∃ r a,r.length=n/\r ≠ []/\Srt R r/\Rn κ R a0 rs (r++a) st':=by
 have hsz:=B.size
 have c:(arrOf st').toList.take (flat rs).length=flat rs:=by
  have m:(arrOf st').toList.take (flat rs).length=(arrOf st).toList.take (flat rs).length:=by
   apply aG2
   intro k
   rw[List.getElem?_take,List.getElem?_take]
   split
   ·rename_i d
    have:=B.pre k d
    simpa using this
   ·rfl
  rw[m,N.arr,List.take_left]
 refine⟨((arrOf st').toList.drop (flat rs).length).take n,((arrOf st').toList.drop (flat rs).length).drop n,?_,?_,?_,B.k,B.f,?_,?_,N.ok,B.perm.trans N.perm⟩
 ·simp;lia
 ·intro z
  have:=congrArg List.length z
  simp at this
  lia
 ·unfold Srt
  rw[aG7]
  intro i j hi g q
  have b:j<n:=by simp at g;lia
  have get:∀ k,k<n->∀(d:k<(((arrOf st').toList.drop (flat rs).length).take n).length),(((arrOf st').toList.drop (flat rs).length).take n)[k]=e (arrOf st') ((flat rs).length+k):=by
   intro k d o
   rw[List.getElem_take,List.getElem_drop]
   have s:=aik (xs:=arrOf st') (k:=(flat rs).length+k) (by lia)
   have l:(flat rs).length+k<(arrOf st').toList.length:=by simp;lia
   have h:(arrOf st').toList[(flat rs).length+k]?=some (e (arrOf st') ((flat rs).length+k)):=by simpa using s
   rw[aA0 l] at h
   exact aC6 h
  rw[get i (by lia) hi,get j b g]
  exact as _ _ (by lia) (by lia) (by lia)
 ·rw[aC1]
  conv=>lhs;rw[← aC1 (flat rs).length (arrOf st').toList,c]
 ·rw[B.p];exact N.pn
theorem Rn.bs{rs:List (List Keyed × Nat)}{rest:List Keyed}{st:SortSt}(N:Rn κ R a0 rs rest st):Bs κ (pendingOf st) (arrOf st) (flat rs).length st:=⟨N.k,N.f,rfl,List.Perm.refl _,λ_ _=>rfl⟩
theorem Rn.size{rs:List (List Keyed × Nat)}{rest:List Keyed}{st:SortSt}(N:Rn κ R a0 rs rest st):(arrOf st).size=a0.size:=by
 have:=N.perm.length_eq;simpa using this
theorem Rn.len{rs:List (List Keyed × Nat)}{rest:List Keyed}{st:SortSt}(N:Rn κ R a0 rs rest st):(flat rs).length+rest.length=a0.size:=by
 have:=congrArg List.length N.arr
 have a:=N.size
 simp at this
 lia
theorem avd{rs:List (List Keyed × Nat)}(h:∀ r∈rs,r.1 ≠ []):rs.length<=(flat rs).length:=by
 induction rs with
 |nil=>simp[flat]
 | cons r t ih =>
  rw[ab0,aB1,aE4]
  have:=ih λq a=>h q (aB5 _ a)
  have:=aF9.mpr (h r aB8)
  lia
theorem amq{α:Type}(f : α->α):∀(l:List α)(x : α),(l++[x]).modify l.length f=l++[f x]
 |[],x=>rfl
 | y::l,x=>by
  show(y::(l++[x])).modify (l.length+1) f=_
  rw[List.modify_succ_cons,amq f l x];rfl
theorem aoh{α:Type}(arr:Array α)(f : α->α){l:List α}{x : α}(h:arr.toList=l++[x]):(arr.modify (arr.size-1) f).toList=l++[f x]:=by
 have hs:arr.size=l.length+1:=by have:=congrArg List.length h;simpa using this
 rw[Array.toList_modify,h,hs,show l.length+1-1=l.length by lia]
 exact amq f l x
theorem ax0{α:Type}(arr:Array α){l:List α}{x : α}(h:arr.toList=l++[x]):arr.back?=some x:=by
 have hs:arr.size=l.length+1:=by have:=congrArg List.length h;simpa using this
 rw[Array.back?_eq_getElem?,← aD6,h,hs]
 simp
theorem apc:∀(rs:List (List Keyed × Nat)),rs ≠ []->∃ p x,rs=p++[x]
 |rs,h=>⟨rs.dropLast,rs.getLast h,(List.dropLast_concat_getLast h).symm⟩
theorem Rn.push{rs:List (List Keyed × Nat)}{r rest:List Keyed}{st st':SortSt}(N:Rn κ R a0 rs (r++rest) st)(c:r ≠ [])(hs:Srt R r)(k:kindOf st'=kindOf st)(f:failedOf st'=failedOf st)(a:arrOf st'=arrOf st)
  (p:pendingOf st'=(pendingOf st).push ((flat rs).length,r.length,0)):Rn κ R a0 (rs++[(r,0)]) rest st':=by
 refine⟨k.trans N.k,f.trans N.f,?_,?_,λq b=>?_,by rw[a];exact N.perm⟩
 ·rw[a,N.arr,abr];simp[flat,aB4]
 ·rw[p,Array.toList_push,N.pn,acf];simp[pend]
 ·rcases aA7.mp b with b|b
  ·exact N.ok q b
  ·have:q=(r,0):=by simpa using b
   subst this;exact⟨c,hs⟩
theorem Rn.pow{rs:List (List Keyed × Nat)}{rest:List Keyed}{st st':SortSt}{pw:Nat}(N:Rn κ R a0 rs rest st)(hz:rs ≠ [])(k:kindOf st'=kindOf st)(f:failedOf st'=failedOf st)(a:arrOf st'=arrOf st)
  (p:pendingOf st'=(pendingOf st).modify ((pendingOf st).size-1) λx=>(x.1,x.2.1,pw)):∃ c,Rn κ R a0 c rest st'/\(flat c).length=(flat rs).length:=by
 obtain⟨q,⟨b,g⟩,e⟩:=apc rs hz
 subst e
 have h:(pendingOf st).toList=pend 0 q++[((flat q).length,b.length,g)]:=by rw[N.pn,acf];simp[pend]
 refine⟨q++[(b,pw)],⟨k.trans N.k,f.trans N.f,?_,?_,λx d=>?_,by rw[a];exact N.perm⟩,by simp[abr,ab0,ah5]⟩
 ·rw[a,N.arr];simp[abr,ab0,ah5]
 ·rw[p,aoh _ _ h,acf];simp[pend]
 ·rcases aA7.mp d with d|d
  ·exact N.ok x (by simp[d])
  ·have:x=(b,pw):=by simpa using d
   subst this
   exact N.ok (b,g) (by simp)
theorem a0r{c:Prop} [Decidable c] {x y z:Nat} (a:x+1<z) (b:y+1<z):(if c then x else y)+1<z:=by
 split
 ·exact a
 ·exact b
theorem Rn.powK{rs:List (List Keyed × Nat)}{rest:List Keyed}{st st':SortSt}{pw:Nat}{G:SortSt->Prop}(N:Rn κ R a0 rs rest st)(hz:rs ≠ [])(h:∀ b,Rn κ R a0 b rest st'->(flat b).length=(flat rs).length->G st')(k:kindOf st'=kindOf st)(f:failedOf st'=failedOf st)(a:arrOf st'=arrOf st)
  (p:pendingOf st'=(pendingOf st).modify ((pendingOf st).size-1) λx=>(x.1,x.2.1,pw)):G st':=by
 obtain⟨b,d,c⟩:=N.pow hz k f a p
 exact h b d c
theorem ax1 (C:Cmp M A E s κ S R) (X:∀ x∈a0.toList,S x) {st:SortSt} (h0:arrOf st=a0) (hk:kindOf st = κ) (hf:failedOf st=none) (hp:pendingOf st = #[]) {Q:Unit->SortSt->Prop}
  (h:∀ st',failedOf st'=none->(arrOf st').toList.Perm a0.toList->Srt R (arrOf st').toList->Q () st'):wpS M A E s a2s Q st:=by
 have o:(arrOf st).size=a0.size:=by rw[h0]
 refine wpS_bind (wpS_get ?_)
 dsimp only
 refine wpS_bind (wpS_mono (Q:=λ(c:Option Unit × Nat) v=>c.1=none/\∃ rs,Rn κ R a0 rs [] v) ?_ ?_)
 ·refine wpS_forRange (λi (c:Option Unit × Nat) v=>c.1=none/\∃ rs rest,Rn κ R a0 rs rest v/\c.2=(flat rs).length/\i<=c.2) ?_ ?_ ⟨rfl,[],a0.toList,⟨hk,hf,by rw[h0];rfl,by rw[hp];rfl,λr I=>(by cases I),by rw[h0]⟩,rfl,aA6 _⟩
  ·rintro i ⟨c1,lo⟩ v _ hi ⟨F,rs,rest,N,e2,D⟩
   dsimp only at F e2 D ⊢
   subst F e2
   have W:=N.len
   have b3:i<a0.size:=by rw[← o];exact hi
   refine aaq (λa7=>?_) (λa1=>?_)
   ·have a9:a0.size<=(flat rs).length:=by rw[← o];exact a7
    refine wpS_pure ⟨rfl,rs,?_⟩
    have:rest=[]:=aH2 (by lia)
    subst this
    exact N
   ·have b0:(flat rs).length<a0.size:=by
     have:¬ (flat rs).length ≥ (arrOf st).size:=a1
     lia
    refine wpS_bind (as6 C (λx hx=>X x (N.perm.mem_iff.mp hx)) N.bs (nrem:=(arrOf st).size-(flat rs).length) (by lia) (by rw[N.size];lia) λb1 n B2 n1 n2 P=>?_)
    dsimp only
    have y:=N.size
    refine aaq (λm=>?g1) (λm=>?g2)
    case' g1 =>
     refine wpS_bind (ady ?_)
     generalize hmr:min (_:Nat) _=nn
     refine wpS_bind (aqz C (λx hx=>X x (N.perm.mem_iff.mp hx)) B2 (n:=nn) (ok:=n) ?_ ?_ ?_ P λb2 B3 a5=>?_)
     ·have:nn<=(arrOf st).size-(flat rs).length:=by rw[← hmr];exact Nat.min_le_left _ _
      rw[y];lia
     ·rw[← hmr];exact Nat.le_min.mpr ⟨n2,aG5 m⟩
     ·have:n<=nn:=by rw[← hmr];exact Nat.le_min.mpr ⟨n2,aG5 m⟩
      lia
     rw[aF6 (by decide)]
     have T:1<=nn:=by
      have:n<=nn:=by rw[← hmr];exact Nat.le_min.mpr ⟨n2,aG5 m⟩
      lia
     have a8:nn<=(arrOf st).size-(flat rs).length:=by rw[← hmr];exact Nat.min_le_left _ _
     obtain⟨r,g,I,w,J,U⟩:=N.run B3 T (by rw[y];lia) a5
     clear hmr
     subst I
    case' g2 =>
     obtain⟨r,g,I,w,J,U⟩:=N.run B2 n1 (by rw[y];lia) P
     clear m
     subst I
    all_goals
     refine wpS_bind (wpS_get ?_)
     rcases Classical.em (rs=[]) with hz|hz
     ·have B:=U.pn
      rw[hz] at B
      have hb:=Array.back?_eq_none_iff.mpr (Array.toList_eq_nil_iff.mp B)
      rw[hb]
      dsimp only
      refine wpS_bind (wpS_modify (wpS_pure ⟨rfl,rs++[(r,0)],g,U.push w J rfl rfl rfl rfl,?_,?_⟩))
      ·rw[abr,aB1];simp[flat]
      ·have:=aF9.mpr w
       show i+1<=(flat rs).length+r.length
       lia
     ·obtain⟨q,⟨b,L⟩,eq⟩:=apc rs hz
      have B:=U.pn
      rw[eq,acf,show pend (0+(flat q).length) [(b,L)]=[((flat q).length,b.length,L)] by simp[pend]] at B
      have hb:=ax0 _ B
      rw[hb]
      dsimp only
      refine wpS_bind (wpS_mono (Q:=λ(c:Option Unit × Unit) d=>c.1=none/\∃ a,Rn κ R a0 a (r++g) d/\a ≠ []/\(flat a).length=(flat rs).length) ?_ ?_)
      ·refine wpS_forRange (λ_ (c:Option Unit × Unit) d=>c.1=none/\∃ a,Rn κ R a0 a (r++g) d/\a ≠ []/\(flat a).length=(flat rs).length) ?_ (λc d h4=>h4) ⟨rfl,rs,U,hz,rfl⟩
       rintro i4 ⟨Y,u4⟩ d _ _ ⟨u,a,l,Z,p⟩
       dsimp only at u
       subst u
       refine wpS_bind (wpS_get ?_)
       have O:(pendingOf d).size=a.length:=by
        have:=congrArg List.length l.pn
        rw[ad2] at this
        simpa using this
       by_cases K:(pendingOf d).size > 1
       ·rw[aF5 K]
        obtain⟨x4,a2⟩:∃ x4,(pendingOf d)[(pendingOf d).size-2]?=some x4:=⟨_,aA4 (by lia)⟩
        obtain⟨y1,y2,y3⟩:=x4
        rw[a2]
        dsimp only
        refine aaq (λ_=>wpS_pure ⟨rfl,a,l,Z,p⟩) (λ_=>?_)
        rw[O]
        refine wpS_bind (ail C X l (i:=a.length-2) (by lia) λa3 H N5 l5 f5=>?_)
        rw[aF6 (by decide)]
        refine wpS_pure ⟨rfl,H,N5,?_,by lia⟩
        rintro rfl
        simp at l5
        lia
       ·rw[aF6 K]
        exact wpS_pure ⟨rfl,a,l,Z,p⟩
      ·rintro⟨Y,u4⟩ d ⟨u,a,l,Z,p⟩
       dsimp only at u ⊢
       subst u
       dsimp only
       refine wpS_bind (wpS_modify ?_)
       refine l.powK (G:=λz=>wpS M A E s _ _ z) Z (λa4 N6 l6=>?_) rfl rfl rfl rfl
       refine wpS_bind (wpS_modify (wpS_pure ⟨rfl,a4++[(r,0)],g,N6.push w J rfl rfl rfl ?_,?_,?_⟩))
       ·rw[l6,p]
       ·rw[abr,aB1,l6,p];simp[flat]
       ·have:=aF9.mpr w
        show i+1<=(flat rs).length+r.length
        lia
  ·rintro⟨c1,lo⟩ v ⟨F,rs,rest,N,e2,D⟩
   dsimp only at F e2 D ⊢
   refine⟨F,rs,?_⟩
   have W:=N.len
   have a6:(arrOf st).size<=lo:=aD0 (Nat.le_max_right 0 _) D
   have:rest=[]:=aH2 (by rw[o] at a6;lia)
   subst this
   exact N
 ·rintro⟨c1,lo⟩ v ⟨F,rs,N⟩
  dsimp only at F ⊢
  subst F
  dsimp only
  refine wpS_bind (wpS_mono (Q:=λ(c:Option Unit × Unit) d=>c.1=none/\∃ a,Rn κ R a0 a [] d/\a.length<=1) ?_ ?_)
  ·refine wpS_forRange (λj (c:Option Unit × Unit) d=>c.1=none/\∃ a,Rn κ R a0 a [] d/\(a.length<=1\/a.length+j<=a0.size)) ?_ ?_ ⟨rfl,rs,N,.inr ?_⟩
   ·rintro j ⟨Y,u4⟩ d _ _ ⟨u,a,l,p⟩
    dsimp only at u
    subst u
    refine wpS_bind (wpS_get ?_)
    have O:(pendingOf d).size=a.length:=by
     have:=congrArg List.length l.pn
     rw[ad2] at this
     simpa using this
    refine aaq (λK=>wpS_pure ⟨rfl,a,l,?_⟩) (λK=>?_)
    ·have:(pendingOf d).size<=1:=K
     lia
    ·have b4:¬ (pendingOf d).size<=1:=K
     refine wpS_bind (ail C X l (i:=_) ?_ λa3 H N5 l5 f5=>?_)
     ·refine a0r ?_ ?_
      ·show(pendingOf d).size-2-1+1<a.length
       lia
      ·show(pendingOf d).size-2+1<a.length
       lia
     rw[aF6 (by decide)]
     exact wpS_pure ⟨rfl,H,N5,by lia⟩
   ·rintro⟨Y,u4⟩ d ⟨u,a,l,p⟩
    refine⟨u,a,l,?_⟩
    rcases p with p|p
    ·exact p
    ·have:(arrOf st).size<=max 0 (arrOf st).size:=Nat.le_max_right _ _
     have h3:a.length+max 0 (arrOf st).size<=a0.size:=p
     lia
   ·have:=avd λr I=>(N.ok r I).1
    have:=N.len
    lia
  ·rintro⟨Y,u4⟩ d ⟨u,a,l,p⟩
   dsimp only at u ⊢
   subst u
   dsimp only
   refine wpS_pure (h d l.f l.perm ?_)
   rw[l.arr]
   match a,p with
   |[],_=>exact List.Pairwise.nil
   |[x],_=>simpa[flat] using (l.ok x (by simp)).2
end
end TS
namespace L2
open PySem PySem.Spec PyProof.Rows
mutual
inductive Rep(H:Hp):V->PyData->Prop
 |non:Rep H .non .none
 |bl (b:Bool):Rep H (.bl b) (.bool b)
 |int (i:Int):Rep H (.int i) (.int i)
 |str (x:Str):Rep H (.str x) (.str x)
 |lst {a:Addr} {xs:List V} {ds:List PyData}:H a=some (.lst xs)->Reps H xs ds->Rep H (.ref a) (.list ds)
 |tup {a:Addr} {xs:List V} {ds:List PyData}:H a=some (.tup xs)->Reps H xs ds->Rep H (.ref a) (.tuple ds)
inductive Reps(H:Hp):List V->List PyData->Prop
 |nil:Reps H [] []
 |cons {v:V} {vs:List V} {d:PyData} {ds:List PyData}:Rep H v d->Reps H vs ds->Reps H (v::vs) (d::ds)
end
mutual
theorem Rep.same{H H':Hp}(s:Same H H'):∀{v:V}{d:PyData},Rep H v d->Rep H' v d
 |_,_,.non=>.non
 |_,_,.bl b=>.bl b
 |_,_,.int i=>.int i
 |_,_,.str x=>.str x
 |_,_,.lst h r=>.lst (s _ _ h) (Reps.same s r)
 |_,_,.tup h r=>.tup (s _ _ h) (Reps.same s r)
theorem Reps.same{H H':Hp}(s:Same H H'):∀{vs:List V}{ds:List PyData},Reps H vs ds->Reps H' vs ds
 |_,_,.nil=>.nil
 |_,_,.cons r t=>.cons (Rep.same s r) (Reps.same s t)
end
section
variable{X:Cx}{pins:List (Addr × Obj)}{σ:St}{H:Hp}{s:Shared}
mutual
theorem Rep.reads(I:Inv X pins σ H s):∀{v:V}{d:PyData}{u:Value},Rep H v d->RelV v u->∃ as,Reads s.heap u d as
 |_,_,_,.non,r=>by cases r;exact⟨_,.none⟩
 |_,_,_,.bl b,r=>by cases r;exact⟨_,.bool b⟩
 |_,_,_,.int i,r=>by obtain⟨t,rfl⟩:=r;exact⟨_,.int i t⟩
 |_,_,_,.str x,r=>by obtain⟨t,rfl⟩:=r;exact⟨_,.str x t⟩
 | _,_,_,.lst (a:=a) (xs:=xs) h q,r=>by
  cases r
  obtain⟨_,its,n,f,e⟩:=(show ObjOk X.prog X.w H s.heap a (.lst xs) from I.hok a _ h)
  obtain⟨as,g⟩:=Reps.reads I q f
  exact⟨_,.list e rfl rfl (by simpa using g)⟩
 | _,_,_,.tup (a:=a) (xs:=xs) h q,r=>by
  cases r
  obtain⟨_,its,f,o,e,c,n,dd⟩:=(show ObjOk X.prog X.w H s.heap a (.tup xs) from I.hok a _ h)
  obtain⟨as,g⟩:=Reps.reads I q f
  exact⟨_,.tuple e c dd (by simpa using g)⟩
theorem Reps.reads(I:Inv X pins σ H s):∀{vs:List V}{ds:List PyData}{us:List Value},Reps H vs ds->Vals vs us->∃ as,ReadsAll s.heap us ds as
 |_,_,_,.nil,.nil=>⟨_,.nil⟩
 | _,_,_,.cons r t,.cons q qs=>by
  obtain⟨as,a⟩:=Rep.reads I r q
  obtain⟨bs,rb⟩:=Reps.reads I t qs
  exact⟨_,.cons a rb⟩
end
end
mutual
def aat:PyData->Bool
 | .none | .int _=>true
 | .list xs | .tuple xs=>plainDs xs
 |_=>false
def plainDs:List PyData->Bool
 |[]=>true
 |x::xs=>aat x && plainDs xs
end
mutual
theorem acv:∀(d:PyData),aat d=true->d.canLay0=true
 | .none,_=>by simp[PyData.canLay0]
 | .int _,_=>by simp[PyData.canLay0]
 | .list xs,h=>by simp only[PyData.canLay0];exact plain_lays xs (by simpa[aat] using h)
 | .tuple xs,h=>by simp only[PyData.canLay0];exact plain_lays xs (by simpa[aat] using h)
 | .bool _,h=>by simp[aat] at h
 | .str _,h=>by simp[aat] at h
 | .dict _,h=>by simp[aat] at h
theorem plain_lays:∀(ds:List PyData),plainDs ds=true->PyData.canLayAll0 ds=true
 |[],_=>by simp[PyData.canLayAll0]
 | x::xs,h=>by
  have h':aat x=true/\plainDs xs=true:=by simpa[plainDs] using h
  simp only[PyData.canLayAll0,acv x h'.1,plain_lays xs h'.2,Bool.and_self]
end
mutual
theorem akf:∀(d e:PyData),aat d=true->aat e=true->(PyData.eqv d e=true ↔ d=e)
 | .none,e,_,h=>by cases e <;> simp_all [aat,PyData.eqv]
 | .int i,e,_,h=>by cases e <;> simp_all [aat,PyData.eqv]
 | .list xs,e,g,h=>by
  cases e with
  |list ys=>simp only[PyData.eqv,PyData.list.injEq];exact eqvAll_plain xs ys (by simpa[aat] using g) (by simpa[aat] using h)
  |_=>simp_all [aat,PyData.eqv]
 | .tuple xs,e,g,h=>by
  cases e with
  |tuple ys=>simp only[PyData.eqv,PyData.tuple.injEq];exact eqvAll_plain xs ys (by simpa[aat] using g) (by simpa[aat] using h)
  |_=>simp_all [aat,PyData.eqv]
 | .bool _,_,h,_=>by simp[aat] at h
 | .str _,_,h,_=>by simp[aat] at h
 | .dict _,_,h,_=>by simp[aat] at h
theorem eqvAll_plain:∀(ds es:List PyData),plainDs ds=true->plainDs es=true->(PyData.eqvAll ds es=true ↔ ds=es)
 |[],[],_,_=>by simp[PyData.eqvAll]
 |[],_::_,_,_=>by simp[PyData.eqvAll]
 |_::_,[],_,_=>by simp[PyData.eqvAll]
 | x::xs,y::ys,g,h=>by
  have g':aat x=true/\plainDs xs=true:=by simpa[plainDs] using g
  have h':aat y=true/\plainDs ys=true:=by simpa[plainDs] using h
  simp only[PyData.eqvAll,aH1,List.cons.injEq,akf x y g'.1 h'.1,eqvAll_plain xs ys g'.2 h'.2]
end
theorem afe(ds:List PyData):plainDs ds=true ↔ ∀ d∈ds,aat d=true:=by
 induction ds with
 |nil=>simp[plainDs]
 |cons d ds ih=>simp[plainDs,ih]
def rEqD:R2:=λx y H Q=>∃ d e,Rep H x d/\Rep H y e/\aat d=true/\aat e=true/\d.depth<=60/\Q (.bl (PyData.eqv d e)) H
def rNeD:R2:=λx y H Q=>∃ d e,Rep H x d/\Rep H y e/\aat d=true/\aat e=true/\d.depth<=60/\Q (.bl (!PyData.eqv d e)) H
section
variable{X:Cx}
theorem as7(j:X.A.units+64<cLine):OpR X (compareOp .Eq) rEqD:=by
 intro pins s σ H x y v u Q I c b h
 obtain⟨d,e,a,g,hd,i,hz,q⟩:=h
 obtain⟨as,f⟩:=a.reads I c
 obtain⟨bs,rb⟩:=g.reads I b
 refine SeqAt.compareEq_reads f rb (acv _ hd) (acv _ i) ?_ ⟨.bl _,H,I,rfl,q⟩
 have:=Nat.min_le_left d.depth e.depth
 lia
theorem as8(j:X.A.units+64<cLine):OpR X (compareOp .NotEq) rNeD:=by
 intro pins s σ H x y v u Q I c b h
 obtain⟨d,e,a,g,hd,i,hz,q⟩:=h
 obtain⟨as,f⟩:=a.reads I c
 obtain⟨bs,rb⟩:=g.reads I b
 refine SeqAt.compareNe_reads f rb (acv _ hd) (acv _ i) ?_ ⟨.bl _,H,I,rfl,q⟩
 have:=Nat.min_le_left d.depth e.depth
 lia
def rInD(neg:Bool):R2:=λx y H Q=>∃ d es,Rep H x d/\(Rep H y (.list es)\/Rep H y (.tuple es))/\aat d=true/\plainDs es=true/\d.depth<=60/\Q (.bl (if neg then !es.any (λz=>PyData.eqv z d) else es.any (λz=>PyData.eqv z d))) H
theorem akg(j:X.A.units+64<cLine):OpR X (compareOp .NotIn) (rInD true):=by
 intro pins s σ H x y v u Q I i b h
 obtain⟨d,es,g,a,hd,c,hz,q⟩:=h
 obtain⟨as,f⟩:=g.reads I i
 have hm:=Nat.min_le_right (PyData.depthAll es) d.depth
 rcases a with a|a
 ·obtain⟨bs,rb⟩:=a.reads I b
  exact SeqAt.notIn_list_reads rb f (plain_lays _ c) (acv _ hd) (by lia) ⟨.bl _,H,I,rfl,q⟩
 ·obtain⟨bs,rb⟩:=a.reads I b
  exact SeqAt.notIn_tuple_reads rb f (plain_lays _ c) (acv _ hd) (by lia) ⟨.bl _,H,I,rfl,q⟩
def rIsi(K:Frag):List V->Hp->VK->Prop:=λxs H Q=>∃(x:V)(T:String)(t:Value)(b:Bool),xs=[x,.ty T]/\TyOf K H x t/\kitOne K t (.type T)=some b/\Q (.bl b) H
theorem af4:aa2 X (.builtin "isinstance") (rIsi X.K):=by
 intro pins s σ H xs us Q I r h
 obtain⟨x,T,t,b,rfl,ty,e,q⟩:=h
 obtain⟨u,c,rfl,d,a⟩:=aqs r
 cases a
 exact asg I d ty e λf=>⟨.bl b,H,I.tok _,rfl,q⟩
end
end L2
namespace HT
open PySem PyProof.Rows
section
open PySem.SeqAt
open PySem.AutoSeq1 (wpAny_loadPart')
open PySem.MeetsSeq PySem.MeetsSeq2 PySem.MeetsSeq3
end
section
variable{prog:Program}{w:World}{A:Around}{E:Value->Shared->Prop}{s:Shared}
end
end HT
namespace L2
open PySem PySem.Spec PyProof.Rows
section
variable{X:Cx}
end
end L2
namespace HT
open PySem PyProof.Rows
theorem aji (val:Nat->Int):∀ k,argBest (λi j=>decide (val i > val j)) k<=k/\∀ i,i<=k->val i<=val (argBest (λi j=>decide (val i > val j)) k)
 | 0 => ⟨Nat.le_refl _, fun i hi => by have:i=0 := by lia
                                       subst this;exact Int.le_refl _⟩
 | k+1=>by
  obtain⟨b,a⟩:=aji val k
  unfold argBest
  by_cases hc:val (k+1) > val (argBest (λi j=>decide (val i > val j)) k)
  ·rw[aF5 (aD8 hc)]
   refine⟨aA6 _,λi hi=>?_⟩
   by_cases e:i=k+1
   ·subst e;exact Int.le_refl _
   ·have:=a i (by lia)
    exact Int.le_trans this (Int.le_of_lt hc)
  ·rw[aF6 (by simpa using hc)]
   refine⟨by lia,λi hi=>?_⟩
   by_cases e:i=k+1
   ·subst e;lia
   ·exact a i (by lia)
theorem ajj (val:Nat->Int):∀ k,argBest (λi j=>decide (val i<val j)) k<=k/\∀ i,i<=k->val (argBest (λi j=>decide (val i<val j)) k)<=val i
 | 0 => ⟨Nat.le_refl _, fun i hi => by have:i=0 := by lia
                                       subst this;exact Int.le_refl _⟩
 | k+1=>by
  obtain⟨b,a⟩:=ajj val k
  unfold argBest
  by_cases hc:val (k+1)<val (argBest (λi j=>decide (val i<val j)) k)
  ·rw[aF5 (aD8 hc)]
   refine⟨aA6 _,λi hi=>?_⟩
   by_cases e:i=k+1
   ·subst e;exact Int.le_refl _
   ·have:=a i (by lia)
    exact Int.le_trans (Int.le_of_lt hc) this
  ·rw[aF6 (by simpa using hc)]
   refine⟨by lia,λi hi=>?_⟩
   by_cases e:i=k+1
   ·subst e;lia
   ·exact a i (by lia)
def val(ns:List Int)(i:Nat):Int:=(ns[i]?).getD 0
theorem ado{us:List Value}{ns:List Int}(hi:IntsAre us ns)(i:Nat)(v:Value)(h:us.toArray[i]?=some v):∃ t,v=.int (val ns i) t:=by
 induction hi generalizing i with
 |nil=>simp at h
 | cons n t r ih =>
  cases i with
  |zero=>simp at h;subst h;exact⟨t,by simp[val]⟩
  | succ i =>
   obtain⟨t',e⟩:=ih i (by simpa using h)
   exact⟨t',by simpa[val] using e⟩
theorem ahf{ns:List Int}{i:Nat}(h:i<ns.length):val ns i∈ns:=by
 unfold val
 rw[aA0 h]
 exact aF2 h
theorem aim{ns:List Int}{x:Int}(h:x∈ns):∃ i,i<ns.length/\val ns i=x:=by
 obtain⟨i,hi,e⟩:=aH6.mp h
 exact⟨i,hi,by unfold val;rw[aA0 hi];exact e⟩
section
variable{prog:Program}{w:World}{A:Around}{E:Value->Shared->Prop}{s:Shared}
theorem max_list{l:Addr}{us:List Value}{ns:List Int}{Q:Value->Shared->Prop}(hh:A.handled=none)(c:s.heap.IsList l us.toArray)(hi:IntsAre us ns)(f:ns ≠ [])
  (h:∀ m t h' d,m∈ns->(∀ x∈ns,x<=m)->(∀ b o,s.heap.get? b=some o->h'.get? b=some o)->Q (.int m t) { s with heap:=h',toks:=d }) :
  wpAny (model prog w) A (call (.builtin "max") [.ref l]) Q E s:=by
 have a:l<s.heap.objs.size:=by obtain⟨_,e,_⟩:=c;exact aJ4 e
 have hz:us.length=ns.length:=hi.length
 have y:0<ns.length:=aF9.mpr f
 refine call_max_walk (aK6 c ?_)
 refine⟨_,[s.heap.objs.size,l],_,_,_,_,_,rfl,Walks.list (A:=A.in1) hh _ l (aB6 a) us.toArray,⟨⟨_,aJ5 _ rfl,rfl,rfl⟩,c.push _⟩,λb hb=>?_,by simp;lia,CmpOf.ints_gt (val ns) (λi v=>ado hi i v),λv h' d r p=>?_⟩
 ·show b<(s.heap.push _).objs.size
  rw[aK3]
  rcases aA9.mp hb with rfl|hb
  ·exact aI8 _
  ·rcases aA9.mp hb with rfl|hb
   ·exact aF8 a
   ·cases hb
 ·obtain⟨t,e⟩:=ado hi _ _ r
  obtain⟨n,g⟩:=aji (val ns) (us.toArray.size-1)
  have hs:us.toArray.size=ns.length:=by simp[hz]
  rw[hs] at n g
  subst e
  refine h _ t h' d (ahf (by rw[hs];lia)) (λx q=>?_) λb o e=>?_
  ·obtain⟨i,u,e⟩:=aim q
   have:=g i (by lia)
   rw[e] at this
   rw[hs]
   exact this
  ·refine p b o (λhm=>?_) (aJ3 _ e)
   rcases aA9.mp hm with j|hm
   ·exact absurd (j ▸ aJ4 e) (aG4 _)
   ·cases hm
theorem min_list{l:Addr}{us:List Value}{ns:List Int}{Q:Value->Shared->Prop}(hh:A.handled=none)(c:s.heap.IsList l us.toArray)(hi:IntsAre us ns)(f:ns ≠ [])
  (h:∀ m t h' d,m∈ns->(∀ x∈ns,m<=x)->(∀ b o,s.heap.get? b=some o->h'.get? b=some o)->Q (.int m t) { s with heap:=h',toks:=d }) :
  wpAny (model prog w) A (call (.builtin "min") [.ref l]) Q E s:=by
 have a:l<s.heap.objs.size:=by obtain⟨_,e,_⟩:=c;exact aJ4 e
 have hz:us.length=ns.length:=hi.length
 have y:0<ns.length:=aF9.mpr f
 refine call_min_walk (aK6 c ?_)
 refine⟨_,[s.heap.objs.size,l],_,_,_,_,_,rfl,Walks.list (A:=A.in1) hh _ l (aB6 a) us.toArray,⟨⟨_,aJ5 _ rfl,rfl,rfl⟩,c.push _⟩,λb hb=>?_,by simp;lia,CmpOf.ints_lt (val ns) (λi v=>ado hi i v),λv h' d r p=>?_⟩
 ·show b<(s.heap.push _).objs.size
  rw[aK3]
  rcases aA9.mp hb with rfl|hb
  ·exact aI8 _
  ·rcases aA9.mp hb with rfl|hb
   ·exact aF8 a
   ·cases hb
 ·obtain⟨t,e⟩:=ado hi _ _ r
  obtain⟨n,g⟩:=ajj (val ns) (us.toArray.size-1)
  have hs:us.toArray.size=ns.length:=by simp[hz]
  rw[hs] at n g
  subst e
  refine h _ t h' d (ahf (by rw[hs];lia)) (λx q=>?_) λb o e=>?_
  ·obtain⟨i,u,e⟩:=aim q
   have:=g i (by lia)
   rw[e] at this
   rw[hs]
   exact this
  ·refine p b o (λhm=>?_) (aJ3 _ e)
   rcases aA9.mp hm with j|hm
   ·exact absurd (j ▸ aJ4 e) (aG4 _)
   ·cases hm
theorem max_tup{l:Addr}{us:List Value}{ns:List Int}{Q:Value->Shared->Prop}(hh:A.handled=none)(f:s.heap.IsTuple l us.toArray)(hi:IntsAre us ns)(g:ns ≠ [])
  (h:∀ m t h' c,m∈ns->(∀ x∈ns,x<=m)->(∀ b o,s.heap.get? b=some o->h'.get? b=some o)->Q (.int m t) { s with heap:=h',toks:=c }) :
  wpAny (model prog w) A.in1 (pyIter (.ref l)) (λit a=>∃ I fp j n P St bt,it=.ref I/\Walks prog w A.in1 I fp j n P St/\St 0 a.heap/\(∀ b∈fp,b<a.heap.objs.size)/\0<n/\CmpOf prog w A.in1 .Gt P bt /\
   ∀ v h' c,P (argBest bt (n-1)) v->(∀ b o,b ∉ j->a.heap.get? b=some o->h'.get? b=some o)->Q v { a with heap:=h',toks:=c }) E s:=by
 have d:l<s.heap.objs.size:=by obtain⟨_,e,_⟩:=f;exact aJ4 e
 have hz:us.length=ns.length:=hi.length
 have C:0<ns.length:=aF9.mpr g
 refine wpAny_pyIter_tuple f ?_
 refine⟨_,[s.heap.objs.size,l],[_],_,_,_,_,rfl,Walks.tuple (A:=A.in1) hh _ l (aB6 d) us.toArray,⟨⟨_,aJ5 _ rfl,rfl,rfl⟩,f.push _⟩,λb hb=>?_,by simp;lia,CmpOf.ints_gt (val ns) (λi v=>ado hi i v),λv h' c z u=>?_⟩
 ·show b<(s.heap.push _).objs.size
  rw[aK3]
  rcases aA9.mp hb with rfl|hb
  ·exact aI8 _
  ·rcases aA9.mp hb with rfl|hb
   ·exact aF8 d
   ·cases hb
 ·obtain⟨t,e⟩:=ado hi _ _ z
  obtain⟨r,p⟩:=aji (val ns) (us.toArray.size-1)
  have hs:us.toArray.size=ns.length:=by simp[hz]
  rw[hs] at r p
  subst e
  refine h _ t h' c (ahf (by rw[hs];lia)) (λx y=>?_) λb o e=>?_
  ·obtain⟨i,B,e⟩:=aim y
   have:=p i (by lia)
   rw[e] at this
   rw[hs]
   exact this
  ·refine u b o (λhm=>?_) (aJ3 _ e)
   rcases aA9.mp hm with q|hm
   ·exact absurd (q ▸ aJ4 e) (aG4 _)
   ·cases hm
theorem min_tup{l:Addr}{us:List Value}{ns:List Int}{Q:Value->Shared->Prop}(hh:A.handled=none)(f:s.heap.IsTuple l us.toArray)(hi:IntsAre us ns)(g:ns ≠ [])
  (h:∀ m t h' c,m∈ns->(∀ x∈ns,m<=x)->(∀ b o,s.heap.get? b=some o->h'.get? b=some o)->Q (.int m t) { s with heap:=h',toks:=c }) :
  wpAny (model prog w) A.in1 (pyIter (.ref l)) (λit a=>∃ I fp j n P St bt,it=.ref I/\Walks prog w A.in1 I fp j n P St/\St 0 a.heap/\(∀ b∈fp,b<a.heap.objs.size)/\0<n/\CmpOf prog w A.in1 .Lt P bt /\
   ∀ v h' c,P (argBest bt (n-1)) v->(∀ b o,b ∉ j->a.heap.get? b=some o->h'.get? b=some o)->Q v { a with heap:=h',toks:=c }) E s:=by
 have d:l<s.heap.objs.size:=by obtain⟨_,e,_⟩:=f;exact aJ4 e
 have hz:us.length=ns.length:=hi.length
 have C:0<ns.length:=aF9.mpr g
 refine wpAny_pyIter_tuple f ?_
 refine⟨_,[s.heap.objs.size,l],[_],_,_,_,_,rfl,Walks.tuple (A:=A.in1) hh _ l (aB6 d) us.toArray,⟨⟨_,aJ5 _ rfl,rfl,rfl⟩,f.push _⟩,λb hb=>?_,by simp;lia,CmpOf.ints_lt (val ns) (λi v=>ado hi i v),λv h' c z u=>?_⟩
 ·show b<(s.heap.push _).objs.size
  rw[aK3]
  rcases aA9.mp hb with rfl|hb
  ·exact aI8 _
  ·rcases aA9.mp hb with rfl|hb
   ·exact aF8 d
   ·cases hb
 ·obtain⟨t,e⟩:=ado hi _ _ z
  obtain⟨r,p⟩:=ajj (val ns) (us.toArray.size-1)
  have hs:us.toArray.size=ns.length:=by simp[hz]
  rw[hs] at r p
  subst e
  refine h _ t h' c (ahf (by rw[hs];lia)) (λx y=>?_) λb o e=>?_
  ·obtain⟨i,B,e⟩:=aim y
   have:=p i (by lia)
   rw[e] at this
   rw[hs]
   exact this
  ·refine u b o (λhm=>?_) (aJ3 _ e)
   rcases aA9.mp hm with q|hm
   ·exact absurd (q ▸ aJ4 e) (aG4 _)
   ·cases hm
end
end HT
namespace L2
open PySem PySem.Spec PyProof.Rows
section
variable{X:Cx}
def ae6(ns:List Int)(m:Int):Prop:=m∈ns/\∀ x∈ns,x<=m
def aq0(ns:List Int)(m:Int):Prop:=m∈ns/\∀ x∈ns,m<=x
def ahg(K:Frag):List V->Hp->VK->Prop:=λxs H Q=>∃(a:Addr)(ns:List Int),xs=[.ref a]/\(SqL K H a (ns.map V.int)\/SqT K H a (ns.map V.int))/\ns ≠ []/\∀ m,ae6 ns m->Q (.int m) H
def alt(K:Frag):List V->Hp->VK->Prop:=λxs H Q=>∃(a:Addr)(ns:List Int),xs=[.ref a]/\(SqL K H a (ns.map V.int)\/SqT K H a (ns.map V.int))/\ns ≠ []/\∀ m,aq0 ns m->Q (.int m) H
theorem agr(i:X.calm=true):aa2 X (.builtin "max") (ahg X.K):=by
 intro pins s σ H xs us Q I r h
 obtain⟨a,ns,rfl,ha,b,q⟩:=h
 obtain⟨u,rfl,l⟩:=ab3 r
 cases l
 rcases ha with ha|ha
 ·obtain⟨its,d,f,_⟩:=I.list ha
  have i1:IntsAre its.toArray.toList ns:=acp d
  exact HT.max_list (I.ok.hd i) f.isList (by simpa using i1) b λm t h' j c g kp=>⟨.int m,H,I.kept kp,⟨_,rfl⟩,q m ⟨c,g⟩⟩
 ·obtain⟨its,d,f,_⟩:=I.tuple ha
  have i1:IntsAre its.toArray.toList ns:=acp d
  refine call_max_walk (HT.max_tup (I.ok.hd i) f (by simpa using i1) b λm t h' j c g kp=>⟨.int m,H,I.kept kp,⟨_,rfl⟩,q m ⟨c,g⟩⟩)
theorem as9(i:X.calm=true):aa2 X (.builtin "min") (alt X.K):=by
 intro pins s σ H xs us Q I r h
 obtain⟨a,ns,rfl,ha,b,q⟩:=h
 obtain⟨u,rfl,l⟩:=ab3 r
 cases l
 rcases ha with ha|ha
 ·obtain⟨its,d,f,_⟩:=I.list ha
  have i1:IntsAre its.toArray.toList ns:=acp d
  exact HT.min_list (I.ok.hd i) f.isList (by simpa using i1) b λm t h' j c g kp=>⟨.int m,H,I.kept kp,⟨_,rfl⟩,q m ⟨c,g⟩⟩
 ·obtain⟨its,d,f,_⟩:=I.tuple ha
  have i1:IntsAre its.toArray.toList ns:=acp d
  refine call_min_walk (HT.min_tup (I.ok.hd i) f (by simpa using i1) b λm t h' j c g kp=>⟨.int m,H,I.kept kp,⟨_,rfl⟩,q m ⟨c,g⟩⟩)
end
def tTru(K:Frag)(ta:TE):TT:=λσ H Q=>ta σ H λx H'=>∃ k,TruV K x H' k/\Q k H'
def rIsN:R2:=λx y H Q=>y=.non/\Q (.bl (decide (x=.non))) H
section
variable{X:Cx}{a:Expr}{ta:TE}
theorem a0s(ha:PE X a ta)(b:∀ whole,isTrue a X.env whole=(do let v ← whole;standAt a.pos;holding [v] (truthy v)):=by intro _;rfl):PT X a (tTru X.K ta):=auu ha b
def ach(K:Frag):R2:=λx y H Q=>rIxL K x y H Q\/rIxT K x y H Q
theorem aam:IxR X (ach X.K):=ix_list.or az6
theorem ajk{i j n:Int}{a c:Nat}{b p2 pos:Pos}(h:i ^ j.toNat=n)(d:CPow i j):PE X (.BinOp (.Constant (.int i) a b) .Pow (.Constant (.int j) c p2) pos) (tC (.int n)):=by
 intro pins s σ H Q I q
 subst h
 exact aar az2 aac aac pins s σ H Q I ⟨i,j,rfl,rfl,d,q⟩
theorem ax2:OpR X (compareOp .Is) rIsN:=az3
end
section
variable{σ:St}{H:Hp}{D:Ends}{K:Frag}
theorem aex{a:Addr}{xs:List V}{i:Int}{v:V}{Q:VK}(ha:H a=some (.lst xs))(b:atI xs i=some v)(h:Q v H):ach K (.ref a) (.int i) H Q:=.inl (a0i ha b h)
theorem ave{a:Addr}{xs:List V}{i:Int}{v:V}{Q:VK}(ha:H a=some (.tup xs))(b:atI xs i=some v)(h:Q v H):ach K (.ref a) (.int i) H Q:=.inr (a0j ha b h)
theorem avf{a:Addr}{xs:List V}{i:Int}{v:V}{Q:VK}(ha:SqL K H a xs)(b:atI xs i=some v)(h:Q v H):ach K (.ref a) (.int i) H Q:=.inl (a0n ha b h)
theorem acl{A B:Prop}(h:A):if true=true then A else B:=by rw[aF5 rfl];exact h
theorem adp{A B:Prop}(h:B):if false=true then A else B:=by rw[aF6 aB0];exact h
theorem apd{A B:Prop}(h:B):if (!true)=true then A else B:=by rw[aF6 (by decide)];exact h
theorem ape{A B:Prop}(h:A):if (!false)=true then A else B:=by rw[aF5 (by decide)];exact h
theorem avg{c:Prop} [Decidable c] {A B:Prop} (a:c) (h:B):if (!decide c)=true then A else B:=by rw[aD8 a];exact apd h
theorem avh{c:Prop} [Decidable c] {A B:Prop} (a:¬ c) (h:A):if (!decide c)=true then A else B:=by rw[aD7 a];exact ape h
theorem ah6{K:Frag}:kitOne K (.type "NoneType") (.type "int")=some false:=by first|rfl|decide
theorem ahw{K:Frag}:kitOne K (.type "NoneType") (.type "bool")=some false:=by first|rfl|decide
theorem ags{K:Frag}:kitOne K (.type "NoneType") (.type "tuple")=some false:=by first|rfl|decide
theorem ahx{K:Frag}:kitOne K (.type "NoneType") (.type "list")=some false:=by first|rfl|decide
theorem ah7{K:Frag}:kitOne K (.type "NoneType") (.type "str")=some false:=by first|rfl|decide
theorem ahy{K:Frag}:kitOne K (.type "NoneType") (.type "dict")=some false:=by first|rfl|decide
theorem amr{K:Frag}:kitOne K (.type "bool") (.type "int")=some true:=by first|rfl|decide
theorem ak0{K:Frag}:kitOne K (.type "bool") (.type "bool")=some true:=by first|rfl|decide
theorem ajl{K:Frag}:kitOne K (.type "bool") (.type "tuple")=some false:=by first|rfl|decide
theorem ak1{K:Frag}:kitOne K (.type "bool") (.type "list")=some false:=by first|rfl|decide
theorem ams{K:Frag}:kitOne K (.type "bool") (.type "str")=some false:=by first|rfl|decide
theorem ak2{K:Frag}:kitOne K (.type "bool") (.type "dict")=some false:=by first|rfl|decide
theorem aoi{K:Frag}:kitOne K (.type "int") (.type "int")=some true:=by first|rfl|decide
theorem amt{K:Frag}:kitOne K (.type "int") (.type "bool")=some false:=by first|rfl|decide
theorem ak3{K:Frag}:kitOne K (.type "int") (.type "tuple")=some false:=by first|rfl|decide
theorem amu{K:Frag}:kitOne K (.type "int") (.type "list")=some false:=by first|rfl|decide
theorem aoj{K:Frag}:kitOne K (.type "int") (.type "str")=some false:=by first|rfl|decide
theorem amv{K:Frag}:kitOne K (.type "int") (.type "dict")=some false:=by first|rfl|decide
theorem aok{K:Frag}:kitOne K (.type "str") (.type "int")=some false:=by first|rfl|decide
theorem amw{K:Frag}:kitOne K (.type "str") (.type "bool")=some false:=by first|rfl|decide
theorem ak4{K:Frag}:kitOne K (.type "str") (.type "tuple")=some false:=by first|rfl|decide
theorem amx{K:Frag}:kitOne K (.type "str") (.type "list")=some false:=by first|rfl|decide
theorem aol{K:Frag}:kitOne K (.type "str") (.type "str")=some true:=by first|rfl|decide
theorem amy{K:Frag}:kitOne K (.type "str") (.type "dict")=some false:=by first|rfl|decide
theorem amz{K:Frag}:kitOne K (.type "list") (.type "int")=some false:=by first|rfl|decide
theorem ak5{K:Frag}:kitOne K (.type "list") (.type "bool")=some false:=by first|rfl|decide
theorem ajm{K:Frag}:kitOne K (.type "list") (.type "tuple")=some false:=by first|rfl|decide
theorem ak6{K:Frag}:kitOne K (.type "list") (.type "list")=some true:=by first|rfl|decide
theorem am0{K:Frag}:kitOne K (.type "list") (.type "str")=some false:=by first|rfl|decide
theorem ak7{K:Frag}:kitOne K (.type "list") (.type "dict")=some false:=by first|rfl|decide
theorem ak8{K:Frag}:kitOne K (.type "tuple") (.type "int")=some false:=by first|rfl|decide
theorem ajn{K:Frag}:kitOne K (.type "tuple") (.type "bool")=some false:=by first|rfl|decide
theorem ain{K:Frag}:kitOne K (.type "tuple") (.type "tuple")=some true:=by first|rfl|decide
theorem ajo{K:Frag}:kitOne K (.type "tuple") (.type "list")=some false:=by first|rfl|decide
theorem ak9{K:Frag}:kitOne K (.type "tuple") (.type "str")=some false:=by first|rfl|decide
theorem ajp{K:Frag}:kitOne K (.type "tuple") (.type "dict")=some false:=by first|rfl|decide
theorem am1{K:Frag}:kitOne K (.type "dict") (.type "int")=some false:=by first|rfl|decide
theorem ala{K:Frag}:kitOne K (.type "dict") (.type "bool")=some false:=by first|rfl|decide
theorem ajq{K:Frag}:kitOne K (.type "dict") (.type "tuple")=some false:=by first|rfl|decide
theorem alb{K:Frag}:kitOne K (.type "dict") (.type "list")=some false:=by first|rfl|decide
theorem am2{K:Frag}:kitOne K (.type "dict") (.type "str")=some false:=by first|rfl|decide
theorem alc{K:Frag}:kitOne K (.type "dict") (.type "dict")=some true:=by first|rfl|decide
end
end L2
namespace L2
open PySem
section
variable{σ:St}{H:Hp}{K:Frag}
theorem abj{p:Addr}{o:HO}(a:H p=none):Same H (upd H p o):=λb u e=>by rw[aae (aao e a)];exact e
theorem Same.at{H H':Hp}{b:Addr}{o:HO}(s:Same H H')(h:H b=some o):H' b=some o:=s b o h
end
section
variable{σ:St}{H:Hp}{K:Frag}
abbrev NewL(Q:VK):List V->Hp->Prop:=λxs H1=>xs.length<=sizeLine/\∀ p,H1 p=none->Q (.ref p) (upd H1 p (.lst xs))
theorem ax3{t:TA}{Q:VK}(h:t σ H (NewL Q)):tLst t σ H Q:=h
end
end L2
namespace Gr
inductive Walk(T:Int->Int->Prop)(u:Int):Nat->Int->Prop
 |refl:Walk T u 0 u
 |step {k:Nat} {v w:Int}:Walk T u k v->T v w->Walk T u (k+1) w
def Dist(T:Int->Int->Prop)(u v:Int)(d:Nat):Prop:=Walk T u d v/\∀ k,Walk T u k v->d<=k
theorem Dist.uniq{T:Int->Int->Prop}{u v:Int}{d e:Nat}(h:Dist T u v d)(g:Dist T u v e):d=e:=Nat.le_antisymm (h.2 _ g.1) (g.2 _ h.1)
theorem Dist.self(T:Int->Int->Prop)(u:Int):Dist T u u 0:=⟨.refl,λ_ _=>aG0 _⟩
theorem Dist.of_walk{T:Int->Int->Prop}{u v:Int}{k:Nat}(h:Walk T u k v):∃ d,d<=k/\Dist T u v d:=by
 induction k using Nat.strongRecOn with
 | ind k ih =>
  by_cases hx:∃ j,j<k/\Walk T u j v
  ·obtain⟨j,a,w⟩:=hx
   obtain⟨d,hd,e⟩:=ih j a w
   exact⟨d,by lia,e⟩
  ·refine⟨k,aA6 _,h,λj w=>?_⟩
   by_cases a:j<k
   ·exact absurd ⟨j,a,w⟩ hx
   ·lia
theorem Dist.pred{T:Int->Int->Prop}{u w:Int}{d:Nat}(h:Dist T u w (d+1)):∃ v,T v w/\Dist T u v d:=by
 obtain⟨a,hm⟩:=h
 cases a with
 | step hv ht =>
  rename_i v
  refine⟨v,ht,hv,λk b=>?_⟩
  have:=hm (k+1) (.step b ht)
  lia
theorem Dist.next{T:Int->Int->Prop}{u v w:Int}{d:Nat}(h:Dist T u v d)(t:T v w):∃ e,e<=d+1/\Dist T u w e:=Dist.of_walk (.step h.1 t)
structure Bfs(T:Int->Int->Prop)(a:Int)(line:List Int)(ds:List Nat)(at_:Nat):Prop where
 len:ds.length=line.length
 fst:line[0]?=some a
 nd:line.Nodup
 le:at_<=line.length
 dist:∀(i:Nat) v d,line[i]?=some v->ds[i]?=some d->Dist T a v d
 mono:∀(i j:Nat) d e,i<=j->ds[i]?=some d->ds[j]?=some e->d<=e
 near:∀(i j:Nat) d e,at_<=i->ds[i]?=some d->ds[j]?=some e->e<=d+1
 done:∀(i:Nat) v w,i<at_->line[i]?=some v->T v w->w∈line
end Gr
namespace L2
open PySem PySem.Spec PyProof.Rows
section
variable{σ:St}{H:Hp}{D:Ends}{K:Frag}
end
end L2
namespace L2
open PySem
end L2
namespace HT
open PySem PyProof.Rows
theorem aio(ns:List Int):∀ k,k<=ns.length->preSum (val ns) k=(ns.take k).sum
 |0,_=>by simp[preSum]
 | k+1,h=>by
  have a:=aio ns k (by lia)
  have e:ns.take (k+1)=ns.take k++[ns[k]]:=by rw[aH4,aA0 (by lia)];rfl
  rw[e,List.sum_append]
  unfold preSum
  rw[a]
  unfold val
  rw[aA0 (by lia)]
  simp
section
variable{prog:Program}{w:World}{A:Around}{E:Value->Shared->Prop}{s:Shared}
theorem sum_list{l:Addr}{us:List Value}{ns:List Int}{Q:Value->Shared->Prop}(hh:A.handled=none)(c:s.heap.IsList l us.toArray)(hi:IntsAre us ns)
  (h:∀ t h' d,(∀ b o,s.heap.get? b=some o->h'.get? b=some o)->Q (.int ns.sum t) { s with heap:=h',toks:=d }) :
  wpAny (model prog w) A (call (.builtin "sum") [.ref l]) Q E s:=by
 have a:l<s.heap.objs.size:=by obtain⟨_,e,_⟩:=c;exact aJ4 e
 have hz:us.length=ns.length:=hi.length
 refine call_sum_walkG (aK6 c ?_)
 refine⟨_,[s.heap.objs.size,l],_,_,_,_,val ns,rfl,Walks.list (A:=A.in1) hh _ l (aB6 a) us.toArray,⟨⟨_,aJ5 _ rfl,rfl,rfl⟩,c.push _⟩,λb hb=>?_,λi v=>ado hi i v,λh' d t' g=>?_⟩
 ·show b<(s.heap.push _).objs.size
  rw[aK3]
  rcases aA9.mp hb with rfl|hb
  ·exact aI8 _
  ·rcases aA9.mp hb with rfl|hb
   ·exact aF8 a
   ·cases hb
 ·have hs:us.toArray.size=ns.length:=by simp[hz]
  rw[hs,aio ns _ (aA6 _),aG8]
  refine h t' h' d λb o e=>?_
  refine g b o (λhm=>?_) (aJ3 _ e)
  rcases aA9.mp hm with f|hm
  ·exact absurd (f ▸ aJ4 e) (aG4 _)
  ·cases hm
end
end HT
namespace L2
open PySem PySem.Spec PyProof.Rows
section
variable{X:Cx}
def aq1(K:Frag):List V->Hp->VK->Prop:=λxs H Q=>∃(a:Addr)(ns:List Int),xs=[.ref a]/\SqL K H a (ns.map V.int)/\Q (.int ns.sum) H
theorem akh(f:X.calm=true):aa2 X (.builtin "sum") (aq1 X.K):=by
 intro pins s σ H xs us Q I r h
 obtain⟨a,ns,rfl,ha,q⟩:=h
 obtain⟨u,rfl,d⟩:=ab3 r
 cases d
 obtain⟨its,b,c,_⟩:=I.list ha
 have i1:IntsAre its.toArray.toList ns:=acp b
 exact HT.sum_list (I.ok.hd f) c.isList (by simpa using i1) λt h' g kp=>⟨.int _,H,I.kept kp,⟨_,rfl⟩,q⟩
end
section
variable{X:Cx}{pins:List (Addr × Obj)}{σ:St}{H:Hp}{s:Shared}{A:Around}{E:Value->Shared->Prop}{Q:Value->Shared->Prop}{b:Bool}
end
section
variable{X:Cx}
end
end L2
namespace HT
open PySem PyProof.Rows L2
def LtAt(A:Around)(s:Shared)(y x:Value)(b:Bool):Prop :=
 ∀(prog:Program)(w:World)(E:Value->Shared->Prop)(Q:Value->Shared->Prop),Q (.bool b) s->wpAny (model prog w) A (richCompare .Lt y x) Q E s
section
open PySem.SeqAt
open PySem.AutoSeq1 (wpAny_loadPart')
open PySem.MeetsSeq PySem.MeetsSeq2 PySem.MeetsSeq3
inductive Its(A:Around)(s:Shared):List Value->List Value->Bool->Prop
 |nn:Its A s [] [] false
 |nc {x:Value} {ys:List Value}:Its A s [] (x::ys) true
 |cn {x:Value} {xs:List Value}:Its A s (x::xs) [] false
 |eq {x y:Value} {xs ys:List Value} {b:Bool}:EqAt A s x y true->Its A s xs ys b->Its A s (x::xs) (y::ys) b
 |ne {x y:Value} {xs ys:List Value} {b:Bool}:EqAt A s x y false->LtAt A s x y b->Its A s (x::xs) (y::ys) b
end
section
variable{A:Around}{s:Shared}
end
end HT
namespace L2
open PySem PySem.Spec PyProof.Rows
section
variable{X:Cx}
end
end L2
namespace L2
open PySem
end L2
namespace TS
open PySem PyProof.Rows HT
theorem apf:∀ x y:List Int,HT.lexLt x y=true->HT.lexLt y x=false
 |[],[],h=>by simp[HT.lexLt] at h
 |[],_::_,_=>rfl
 |_::_,[],h=>by simp[HT.lexLt] at h
 | a::x,b::y,h=>by
  rw[afz] at h ⊢
  by_cases e:a=b
  ·subst e
   rw[aF5 rfl] at h ⊢
   exact apf x y h
  ·rw[aF6 e] at h
   rw[aF6 (λz=>e z.symm)]
   have:=of_decide_eq_true h
   exact aD7 (by lia)
theorem ata:∀ x y z:List Int,HT.lexLt y x=false->HT.lexLt z y=false->HT.lexLt z x=false
 |_,[],[],h,_=>h
 |[],[],_::_,_,_=>rfl
 |_::_,[],_::_,h,_=>by simp[HT.lexLt] at h
 |_,_::_,[],_,h=>by simp[HT.lexLt] at h
 |[],_::_,_::_,_,_=>rfl
 | a::x,b::y,c::z,h,g=>by
  rw[afz] at h g ⊢
  by_cases e:b=a
  ·subst e
   rw[aF5 rfl] at h
   by_cases e2:c=b
   ·subst e2
    rw[aF5 rfl] at g ⊢
    exact ata x y z h g
   ·rw[aF6 e2] at g ⊢
    exact g
  ·rw[aF6 e] at h
   have h':=of_decide_eq_false h
   by_cases e2:c=b
   ·subst e2
    rw[aF6 e]
    exact h
   ·rw[aF6 e2] at g
    have g':=of_decide_eq_false g
    rw[aF6 (by lia)]
    exact aD7 (by lia)
def TI(h:Heap)(a:Addr)(ns:List Int):Prop:=∃ o xs n,h.get? a=some o/\o.cls=.type "tuple"/\o.data=.seq xs n/\IntsAre xs.toList ns
def kfV(kf:Addr->List Int):Value->List Int
 | .ref a=>kf a
 |_=>[]
section
variable{prog:Program}{w:World}{A:Around}{E:Value->Shared->Prop}{s:Shared}
theorem ah0{fin:Bool}{Q:Bool->Shared->Prop}:∀{xs ys:List Value}{ns c:List Int}(i:Nat),IntsAre xs ns->IntsAre ys c->(ns.length<c.length->fin=true)->(c.length<=ns.length->fin=false)->Q (HT.lexLt ns c) s ->
  PySem.W.KatLex prog w A true fin Q (xs.zip ys) i s
 | _,_,_,_,i,.nil,.nil,_,h2,q=>by
  rw[h2 (aA6 _)];exact q
 | _,_,_,_,i,.nil,.cons b u r,h1,_,q=>by
  rw[h1 (by simp)];exact q
 | _,_,_,_,i,.cons a t r,.nil,_,h2,q=>by
  rw[List.zip_nil_right,h2 (by simp)];exact q
 | _,_,_,_,i,.cons a t r,.cons b u r2,h1,h2,q=>by
  rw[List.zip_cons_cons]
  refine PySem.W.kat_cons (SeqAt.EqAt.int_int a t b u prog w _ _ ?_)
  rw[afz] at q
  by_cases e:a=b
  ·subst e
   rw[aF5 rfl] at q
   rw[show(a == a)=true by simp]
   exact PySem.W.kat_yes (ah0 (i+1) r r2 (λz=>h1 (by simpa using z)) (λz=>h2 (by simpa using z)) q)
  ·rw[aF6 e] at q
   rw[show(a == b)=false by simpa using e]
   refine PySem.W.kat_no ?_
   by_cases hi:i=0
   ·subst hi
    exact oneLt_int q
   ·rw[show(true && i == 0)=false by simpa using hi]
    exact PySem.W.kat_one _ _ (PyProof.Rows.lt_int q)
def tS(h:Heap)(kf:Addr->List Int)(x:Keyed):Prop:=x.1=x.2/\∃ a,x.1=.ref a/\TI h a (kf a)
def tR(kf:Addr->List Int)(x y:Keyed):Bool:=HT.lexLt (kfV kf x.1) (kfV kf y.1)
theorem cmp_tups(i:Addr->List Int):Cmp (model prog w) A E s (tuples' true) (tS s.heap i) (tR i):=by
 refine⟨λx y p u Q st m q=>?_,λx y _ _=>apf _ _,λx y z _ _ _=>ata _ _ _⟩
 obtain⟨I,J⟩:=x
 obtain⟨F,H⟩:=y
 obtain⟨_,a,h,o,xs,n,l,D,B,d⟩:=p
 obtain⟨_,b,j,o',ys,G,v,C,r,c⟩:=u
 dsimp only at h j
 subst h j
 rw[lt'_eq]
 refine wpS_bind (wpS_get ?_)
 rw[m]
 refine wpS_bind (wpS_lift (wpAny_attempt (PySem.W.kat_lt l B v r (ah0 0 d c (λz=>?_) (λz=>?_) ⟨rfl,?_⟩))))
 ·have f:=d.length;have g:=c.length
  simp at f g
  exact aD8 (by lia)
 ·have f:=d.length;have g:=c.length
  simp at f g
  exact aD7 (by lia)
 ·exact wpS_pure q
theorem aq2{vs:List Value}{ps:List Keyed}(h:ps.Perm (vs.zip vs)):(∀ p∈ps,p.1=p.2/\p.1∈vs)/\(ps.map (·.2)).Perm vs:=by
 refine⟨λp a=>mem_zip_self (h.mem_iff.mp a),?_⟩
 have b:=h.map (λp=>p.2)
 have e:(vs.zip vs).map (λp=>p.2)=vs:=List.map_snd_zip (aA6 _)
 rwa [e] at b
theorem list_sort_any{a:Addr}{vs:List Value}{n:Nat}{P:PySem.Fin->Shared->Prop}(j:s.heap.get? a=some (seqObj "list" vs.toArray n))(c:vs.length<=sizeLine)
  (q:2<=vs.length->∀ h',(∀ b o,b ≠ a->s.heap.get? b=some o->h'.get? b=some o)->∃ κ S R,(∀(Q:SortKind->Shared->Prop),Q κ { s with heap:=h' }->wpAny (model prog w) A (keyKind' vs.toArray) Q E { s with heap:=h' })/\Cmp (model prog w) A E { s with heap:=h' } κ S R/\(∀ v∈vs,S (v,v)) /\
   ∀ out:List Value,out.Perm vs->out.Pairwise (λx y=>R (y,y) (x,x)=false)->P (.done (.ret .none)) { s with heap:=sortedHeap s.heap a vs out.toArray })
  (G:vs.length<2->P (.done (.ret .none)) { s with heap:=sortedHeap s.heap a vs vs.toArray }) :
  wpAny (model prog w) A (Builtin.«list.sort» ⟨[.ref a],[]⟩) P E s:=by
 rw[list_sort_plain]
 have ha:a<s.heap.objs.size:=aJ4 j
 refine aJ1 (listItems_at j rfl ?_)
 refine aJ1 (listUpdate_at j rfl ?_ (by rw[aB2];exact c) (aG0 _))
 obtain⟨p,g⟩:∃ p,(s.heap.update a (Obj.mapSeq λ_=>#[])).get? a=some (seqObj "list" #[] p):=⟨_,get?_update_seq j (λ_=>#[])⟩
 refine aJ1 (seqEpoch_at g rfl ?_)
 refine aJ1 (wpAny_newTuple ?_ (by show vs.length<=_;exact c))
 refine aJ1 (wpAny_newList ?_ (aG0 _))
 refine aJ7 ?_
 have d:(((s.heap.update a (Obj.mapSeq λ_=>#[])).push (seqObj "tuple" vs.toArray 0)).push (seqObj "list" #[] 0)).get? a=some (seqObj "list" #[] p):=by
  rw[Heap.get?_push_ne _ _ _ (by rw[size_push',Heap.size_update];exact aB6 (aF8 ha)),Heap.get?_push_ne _ _ _ (by rw[Heap.size_update];exact aB6 ha)]
  exact g
 show wpAny (model prog w) A _ P E { s with heap:=((s.heap.update a (Obj.mapSeq λ_=>#[])).push (seqObj "tuple" vs.toArray 0)).push (seqObj "list" #[] 0) }
 dsimp only
 have hsz:vs.toArray.size=vs.length:=by simp
 have kp:∀ b o,b ≠ a->s.heap.get? b=some o->(((s.heap.update a (Obj.mapSeq λ_=>#[])).push (seqObj "tuple" vs.toArray 0)).push (seqObj "list" #[] 0)).get? b=some o:=λb o hb e=>by
  refine aJ3 _ (aJ3 _ ?_)
  rw[Heap.get?_update_ne _ _ _ _ hb];exact e
 by_cases h2:vs.toArray.size<2
 ·rw[aF5 h2,aF5 h2]
  refine aJ1 (aJ2 ?_)
  rw[StateT.run_pure]
  refine aJ1 (aJ2 ?_)
  dsimp only
  have m:(arrOf (SortSt.mk' general' (vs.toArray.zip vs.toArray) #[] 7 none)).map (·.2)=vs.toArray:=by
   show(vs.toArray.zip vs.toArray).map (·.2)=vs.toArray
   apply Array.toList_inj.mp
   rw[Array.toList_map,Array.toList_zip]
   exact List.map_snd_zip (aA6 _)
  rw[m]
  refine aJ1 (seqEpoch_at d rfl ?_)
  refine aJ1 (listUpdate_at d rfl ?_ (aG0 _) (by rw[aB2];exact Nat.le_succ_of_le c))
  simp only[bne_self_eq_false,Bool.false_eq_true,if_false]
  exact aJ2 (G (by lia))
 ·rw[aF6 h2,aF6 h2]
  obtain⟨κ,S,R,F,C,K,h⟩:=q (by lia) _ kp
  refine aJ1 (F _ ?_)
  refine aJ1 (aK0 (ax1 C (a0:=vs.toArray.zip vs.toArray) (st:=SortSt.mk' κ (vs.toArray.zip vs.toArray) #[] 7 none) (Q:=λ_ st'=>failedOf st'=none/\(arrOf st').toList.Perm (vs.zip vs)/\Srt R (arrOf st').toList) (λx r=>?_) rfl rfl rfl rfl λst' I D s'=>⟨I,by simpa using D,s'⟩) ?_ λ_ _ e=>e)
  ·have:x∈vs.zip vs:=by simpa using r
   obtain⟨f,i⟩:=mem_zip_self this
   obtain⟨J,L⟩:=x
   dsimp only at f i
   subst f
   exact K _ i
  rintro⟨⟨⟩,st'⟩ s' ⟨rfl,hf,z,hs⟩
  dsimp only
  obtain⟨f,i⟩:=aq2 z
  have m:(arrOf st').map (·.2)=(((arrOf st').toList.map (·.2)).toArray):=by
   apply Array.toList_inj.mp
   simp
  rw[m]
  have l:((arrOf st').toList.map (·.2)).length=vs.length:=i.length_eq
  refine aJ1 (seqEpoch_at d rfl ?_)
  refine aJ1 (listUpdate_at d rfl ?_ (aG0 _) (by rw[aB2,l];exact Nat.le_succ_of_le c))
  rw[hf]
  simp only[bne_self_eq_false,Bool.false_eq_true,if_false]
  refine aJ2 (h _ i ?_)
  rw[aG1]
  refine aI0 ?_ hs
  intro x y r H B
  have ex:=(f x r).1
  have u:=(f y H).1
  obtain⟨J,L⟩:=x
  obtain⟨M,N⟩:=y
  dsimp only at ex u
  subst ex u
  exact B
theorem sorted_any{l:Addr}{vs:List Value}{Q:Value->Shared->Prop}(j:s.heap.IsList l vs.toArray)(c:vs.length<=sizeLine)
  (g:2<=vs.length->∀ h',(∀ b o,s.heap.get? b=some o->h'.get? b=some o)->∃ κ S R,(∀(Q:SortKind->Shared->Prop),Q κ { s with heap:=h' }->wpAny (model prog w) A.in1.in1 (keyKind' vs.toArray) Q E { s with heap:=h' })/\Cmp (model prog w) A.in1.in1 E { s with heap:=h' } κ S R/\(∀ v∈vs,S (v,v)) /\
   ∀ out:List Value,out.Perm vs->out.Pairwise (λx y=>R (y,y) (x,x)=false)->Q (.ref (s.heap.objs.size+1)) { s with heap:=sortedAll s.heap vs out.toArray })
  (p:vs.length<2->Q (.ref (s.heap.objs.size+1)) { s with heap:=sortedAll s.heap vs vs.toArray }) :
  wpAny (model prog w) A (call (.builtin "sorted") [.ref l]) Q E s:=by
 refine Calls.call_function_entry kind_sorted plain_sorted entry_sorted (args_sorted1 _) ?_
 unfold Builtin.«sorted»
 refine aJ1 (m:=checkCount "sorted" 1 1 _) (aJ2 ?_)
 refine aJ1 (collect_list j ?_ c)
 refine aJ1 (wpAny_newList ?_ c)
 have hsz:((s.heap.push (seqObj "list" #[] 0)).update s.heap.objs.size (Obj.mapSeq (· ++ vs.toArray))).objs.size=s.heap.objs.size+1:=by
  rw[Heap.size_update,size_push']
 have d:(((s.heap.push (seqObj "list" #[] 0)).update s.heap.objs.size (Obj.mapSeq (· ++ vs.toArray))).push (seqObj "list" vs.toArray 0)).get? (s.heap.objs.size+1)=some (seqObj "list" vs.toArray 0):=by
  rw[← hsz];exact aJ5 _ rfl
 have keep:∀ b o,s.heap.get? b=some o->(((s.heap.push (seqObj "list" #[] 0)).update s.heap.objs.size (Obj.mapSeq (· ++ vs.toArray))).push (seqObj "list" vs.toArray 0)).get? b=some o:=λb o q=>by
  have a:b<s.heap.objs.size:=aJ4 q
  rw[Heap.get?_push_ne _ _ _ (by rw[hsz];exact aB6 (aF8 a)),Heap.get?_update_ne _ _ _ _ (aB6 a),Heap.get?_push_ne _ _ _ (aB6 a)]
  exact q
 show wpAny _ _ _ _ _ { s with heap:=((s.heap.push (seqObj "list" #[] 0)).update s.heap.objs.size (Obj.mapSeq (· ++ vs.toArray))).push (seqObj "list" vs.toArray 0) }
 rw[hsz]
 refine aJ1 (aJ7 (aK4 slot_list_sort ⟨_,d,rfl⟩ entry_list_sort ?body (args_list_sort _)))
 case body =>
  refine list_sort_any (s:={ s with heap:=((s.heap.push (seqObj "list" #[] 0)).update s.heap.objs.size (Obj.mapSeq (· ++ vs.toArray))).push (seqObj "list" vs.toArray 0) }) d c (λh h' kp=>?_) λa=>?_
  ·obtain⟨κ,S,R,n,C,u,f⟩:=g h h' λb o e=>kp b o (aB6 (aF8 (aJ4 e))) (keep b o e)
   exact⟨κ,S,R,n,C,u,λout i r=>⟨_,rfl,aJ2 ⟨_,rfl,f out i r⟩⟩⟩
  ·exact⟨_,rfl,aJ2 ⟨_,rfl,p a⟩⟩
end
end TS
namespace L2
open PySem PySem.Spec PyProof.Rows
def toI:V->Int
 | .int i=>i
 |_=>0
def kH(H:Hp):V->List Int
 | .ref t=>match H t with
  |some (.tup xs)=>xs.map toI
  |_=>[]
 |_=>[]
theorem ax4(ns:List Int):(ns.map V.int).map toI=ns:=by
 rw[aD9]
 have:(toI ∘ V.int)=id:=by funext i;rfl
 rw[this,List.map_id]
theorem ahh{H:Hp}{t:Addr}{ns:List Int}(h:H t=some (.tup (ns.map V.int))):kH H (.ref t)=ns:=by
 simp only[kH,h];exact ax4 ns
def TupI(H:Hp)(v:V):Prop:=∃ t ns,v=.ref t/\H t=some (.tup (ns.map V.int))/\ns ≠ []
def ab4:Value->V
 | .ref a=>.ref a
 |_=>.non
theorem ae7:∀{us:List Value},(∀ u∈us,∃ a,u=.ref a)->Vals (us.map ab4) us
 |[],_=>.nil
 | u::us,h=>by
  obtain⟨a,e⟩:=h u aB8
  subst e
  exact .cons rfl (ae7 λv b=>h v (aB5 _ b))
theorem agt{H:Hp}:∀{vs:List V}{us:List Value},Vals vs us->(∀ v∈vs,TupI H v)->(∀ u∈us,∃ a,u=.ref a)/\us.map ab4=vs
 |_,_,.nil,_=>⟨λu c=>(by cases c),rfl⟩
 | v::vs,u::us,.cons r t,h=>by
  obtain⟨a,ns,rfl,_,_⟩:=h v aB8
  cases r
  obtain⟨d,f⟩:=agt t λv g=>h v (aB5 _ g)
  refine⟨λx b=>?_,by rw[aD1,f];rfl⟩
  rcases aA9.mp b with rfl|b
  ·exact⟨_,rfl⟩
  ·exact d x b
section
variable{X:Cx}
def aip(K:Frag):List V->Hp->VK->Prop:=λxs H Q=>∃(a:Addr)(vs:List V),xs=[.ref a]/\SqL K H a vs/\(∀ v∈vs,TupI H v) /\
 ∀(vs':List V)(p:Addr),vs'.Perm vs->vs'.Pairwise (λx y=>HT.lexLt (kH H y) (kH H x)=false)->H p=none->Q (.ref p) (upd H p (.lst vs'))
theorem af5{H:Hp}{pins:List (Addr × Obj)}{σ:St}{s:Shared}(I:Inv X pins σ H s){h':Heap}(kp:∀ b o,s.heap.get? b=some o->h'.get? b=some o):∀{vs:List V}{us:List Value},Vals vs us->(∀ v∈vs,TupI H v) ->
  (∃ fs,PySem.W.KatTups h' us fs/\fs.length=us.length/\∀ f∈fs,∃ i t,f=.int i t)/\∀ u∈us,∃ a,u=.ref a/\TS.TI h' a (kH H (.ref a))
 |_,_,.nil,_=>⟨⟨[],trivial,rfl,λf hf=>by cases hf⟩,λu E=>by cases E⟩
 | v::vs,u::us,.cons r t,h=>by
  obtain⟨a,ns,rfl,e,l⟩:=h v aB8
  cases r
  obtain⟨⟨fs,k1,F,y⟩,C⟩:=af5 I kp t λv z=>h v (aB5 _ z)
  obtain⟨_,its,A,o,m,p,n,q⟩:=(show ObjOk X.prog X.w H s.heap a (.tup (ns.map V.int)) from I.hok a _ e)
  have hi:IntsAre its ns:=by simpa using (acp A:IntsAre its.toArray.toList ns)
  have B:TS.TI h' a (kH H (.ref a)):=⟨o,its.toArray,n,kp _ _ m,p,q,by rw[ahh e];simpa using hi⟩
  obtain⟨f,hf,i,d,D⟩:∃ f,its.toArray[0]?=some f/\∃ i t,f=.int i t:=by
   cases hi with
   |nil=>exact absurd rfl l
   |cons i d _=>exact⟨_,by simp,i,d,rfl⟩
  refine⟨⟨f::fs,PySem.W.KatTups.cons (kp _ _ m) p q hf k1,by simp[F],λg c=>?_⟩,λx j=>?_⟩
  ·rcases aA9.mp c with rfl|c
   ·exact⟨i,d,D⟩
   ·exact y g c
  ·rcases aA9.mp j with rfl|j
   ·exact⟨a,rfl,B⟩
   ·exact C x j
theorem ah8{α:Type}{R : α->α->Prop}:∀{l:List α},l.length<2->l.Pairwise R
 |[],_=>List.Pairwise.nil
 |[_],_=>List.pairwise_singleton _ _
 |_::_::_,h=>absurd h (by simp)
theorem aq3:aa2 X (.builtin "sorted") (aip X.K):=by
 intro pins s σ H xs us Q I r h
 obtain⟨a,vs,rfl,ha,p,q⟩:=h
 obtain⟨u,rfl,L⟩:=ab3 r
 cases L
 obtain⟨its,l,C,hz⟩:=I.list ha
 obtain⟨j,z⟩:=agt l p
 have c:its.length<=sizeLine:=by rw[← l.length];exact hz
 have d:H (s.heap.objs.size+1)=none:=I.hok.fresh (Nat.le_succ _)
 have fin:∀ out:List Value,out.Perm its->(out.map ab4).Pairwise (λx y=>HT.lexLt (kH H y) (kH H x)=false)->EP X pins σ Q (.ref (s.heap.objs.size+1)) { s with heap:=sortedAll s.heap its out.toArray }:=by
  intro out f hs
  obtain⟨e,N⟩:=sortedAll_at s.heap its out.toArray
  have g:Vals (out.map ab4) out:=ae7 λu G=>j u (f.mem_iff.mp G)
  refine⟨.ref (s.heap.objs.size+1),_,I.laid (t':=s.toks) (o:=.lst (out.map ab4)) (λb S q=>sortedAll_old q) (Nat.le_succ _) ?_,rfl,q _ _ ?_ hs d⟩
  ·refine⟨by rw[aA3,f.length_eq];exact c,out,e,g,by rw[N]⟩
  ·rw[← z];exact f.map ab4
 refine TS.sorted_any C.isList c (λM h' kp=>?_) λn=>?_
 ·obtain⟨⟨fs,k1,R,A⟩,F⟩:=af5 I kp l p
  have m:(Value.type "int" != Value.type "tuple")=true:=by rfl
  refine⟨tuples' true,TS.tS h' (λa=>kH H (.ref a)),TS.tR (λa=>kH H (.ref a)),λU D=>?_,TS.cmp_tups (s:={ s with heap:=h' }) (λa=>kH H (.ref a)),λv g=>?_,λout f hs=>fin out f ?_⟩
  ·refine PySem.W.kat_kind (T:=.type "int") (s:={ s with heap:=h' }) k1 (by lia) (λv g=>?_) (by rfl) ?_
   ·obtain⟨i,t,rfl⟩:=A v g
    exact .now
   ·rw[m];exact D
  ·obtain⟨a,e,J⟩:=F v g
   exact⟨rfl,a,e,J⟩
  ·rw[aG1]
   refine aI0 ?_ hs
   intro x y B E w
   obtain⟨O,rfl⟩:=j x (f.mem_iff.mp B)
   obtain⟨P,rfl⟩:=j y (f.mem_iff.mp E)
   exact w
 ·refine fin its (List.Perm.refl _) ?_
  exact ah8 (by rw[aA3];exact n)
end
end L2
namespace HT
open PySem PySem.Spec PyProof.Rows L2
section
variable{prog:Program}{w:World}{A:Around}{kw:List (Str × Value)}{R:Result->Shared->Prop}{I S:Addr}{fp wr:List Addr}{n:Nat}{P:Nat->Value->Prop}{St:Nat->Heap->Prop}{Hd:Heap->Prop}
end
section
variable{prog:Program}{w:World}{A:Around}{E:Value->Shared->Prop}{s:Shared}
end
end HT
namespace L2
open PySem PySem.Spec PyProof.Rows
section
variable{X:Cx}{x:Str}{p pos kpos:Pos}{e en:Expr}{t:TA}
end
end L2
namespace HT
open PySem PySem.Spec PyProof.Rows
section
variable{prog:Program}{w:World}{A:Around}{E:Value->Shared->Prop}{s:Shared}
end
end HT
namespace L2
open PySem PySem.Spec PyProof.Rows
section
variable{X:Cx}
end
end L2
namespace VL
open PySem PySem.Spec L2
def kD:Key->PyData
 | .inl i=>.int i
 | .inr x=>.str x
mutual
inductive Rp(G:Hp):V->PyData->Prop
 |non:Rp G .non .none
 |bl (b:Bool):Rp G (.bl b) (.bool b)
 |int (i:Int):Rp G (.int i) (.int i)
 |str (x:Str):Rp G (.str x) (.str x)
 |lst {a:Addr} {xs:List V} {ds:List PyData}:G a=some (.lst xs)->Rps G xs ds->Rp G (.ref a) (.list ds)
 |tup {a:Addr} {xs:List V} {ds:List PyData}:G a=some (.tup xs)->Rps G xs ds->Rp G (.ref a) (.tuple ds)
 |dk {a:Addr} {kvs:List (Key × V)} {es:List (Key × PyData)} {ds:List (PyData × PyData)}:G a=some (.dK kvs)->RpK G kvs es->ds=es.map (λp=>(kD p.1,p.2))->Rp G (.ref a) (.dict ds)
 |dt {a:Addr} {kvs:List (List Key × V)} {es:List (List Key × PyData)} {ds:List (PyData × PyData)}:G a=some (.dT kvs)->RpT G kvs es->ds=es.map (λp=>(.tuple (p.1.map kD),p.2))->Rp G (.ref a) (.dict ds)
inductive Rps(G:Hp):List V->List PyData->Prop
 |nil:Rps G [] []
 |cons {v:V} {vs:List V} {d:PyData} {ds:List PyData}:Rp G v d->Rps G vs ds->Rps G (v::vs) (d::ds)
inductive RpK(G:Hp):List (Key × V)->List (Key × PyData)->Prop
 |nil:RpK G [] []
 |cons {k:Key} {v:V} {d:PyData} {r:List (Key × V)} {s:List (Key × PyData)}:Rp G v d->RpK G r s->RpK G ((k,v)::r) ((k,d)::s)
inductive RpT(G:Hp):List (List Key × V)->List (List Key × PyData)->Prop
 |nil:RpT G [] []
 |cons {k:List Key} {v:V} {d:PyData} {r:List (List Key × V)} {s:List (List Key × PyData)}:Rp G v d->RpT G r s->RpT G ((k,v)::r) ((k,d)::s)
end
mutual
theorem Rp.same{G G':Hp}(s:Same G G'):∀{v:V}{d:PyData},Rp G v d->Rp G' v d
 |_,_,.non=>.non
 |_,_,.bl b=>.bl b
 |_,_,.int i=>.int i
 |_,_,.str x=>.str x
 |_,_,.lst h r=>.lst (s _ _ h) (Rps.same s r)
 |_,_,.tup h r=>.tup (s _ _ h) (Rps.same s r)
 |_,_,.dk h r e=>.dk (s _ _ h) (RpK.same s r) e
 |_,_,.dt h r e=>.dt (s _ _ h) (RpT.same s r) e
theorem Rps.same{G G':Hp}(s:Same G G'):∀{vs:List V}{ds:List PyData},Rps G vs ds->Rps G' vs ds
 |_,_,.nil=>.nil
 |_,_,.cons r t=>.cons (Rp.same s r) (Rps.same s t)
theorem RpK.same{G G':Hp}(s:Same G G'):∀{vs:List (Key × V)}{ds:List (Key × PyData)},RpK G vs ds->RpK G' vs ds
 |_,_,.nil=>.nil
 |_,_,.cons r t=>.cons (Rp.same s r) (RpK.same s t)
theorem RpT.same{G G':Hp}(s:Same G G'):∀{vs:List (List Key × V)}{ds:List (List Key × PyData)},RpT G vs ds->RpT G' vs ds
 |_,_,.nil=>.nil
 |_,_,.cons r t=>.cons (Rp.same s r) (RpT.same s t)
end
theorem Rps.length{G:Hp}:∀{vs:List V}{ds:List PyData},Rps G vs ds->vs.length=ds.length
 |_,_,.nil=>rfl
 |_,_,.cons _ t=>by simp[Rps.length t]
theorem Rps.get{G:Hp}:∀{vs:List V}{ds:List PyData}{i:Nat}{d:PyData},Rps G vs ds->ds[i]?=some d->∃ v,vs[i]?=some v/\Rp G v d
 |_,_,_,_,.nil,e=>by simp at e
 |_,_,0,_,.cons r _,e=>by simp at e;subst e;exact⟨_,rfl,r⟩
 | _,_,i+1,d,.cons _ t,e=>by
  obtain⟨u,b,a⟩:=Rps.get (i:=i) (d:=d) t (by simpa using e)
  exact⟨u,by simpa using b,a⟩
theorem Rps.append{G:Hp}:∀{vs a:List V}{ds es:List PyData},Rps G vs ds->Rps G a es->Rps G (vs++a) (ds++es)
 |_,_,_,_,.nil,s=>s
 |_,_,_,_,.cons r t,s=>.cons r (Rps.append t s)
theorem Rps.set{G:Hp}{v:V}{d:PyData}(h:Rp G v d):∀{vs:List V}{ds:List PyData}(i:Nat),Rps G vs ds->Rps G (vs.set i v) (ds.set i d)
 |_,_,_,.nil=>.nil
 |_,_,0,.cons _ t=>.cons h t
 |_,_,i+1,.cons r t=>.cons r (Rps.set h i t)
theorem Rps.take{G:Hp}:∀{vs:List V}{ds:List PyData}(i:Nat),Rps G vs ds->Rps G (vs.take i) (ds.take i)
 |_,_,0,_=>.nil
 |_,_,_+1,.nil=>.nil
 |_,_,i+1,.cons r t=>.cons r (Rps.take i t)
theorem Rps.drop{G:Hp}:∀{vs:List V}{ds:List PyData}(i:Nat),Rps G vs ds->Rps G (vs.drop i) (ds.drop i)
 |_,_,0,r=>r
 |_,_,_+1,.nil=>.nil
 |_,_,i+1,.cons _ t=>Rps.drop i t
theorem Rps.rep{G:Hp}{vs:List V}{ds:List PyData}(h:Rps G vs ds):∀(k:Nat),Rps G (List.replicate k vs).flatten (List.replicate k ds).flatten
 |0=>.nil
 | k+1=>by
  rw[aH3,aH3,List.flatten_cons,List.flatten_cons]
  exact h.append (Rps.rep h k)
theorem Rps.ints{G:Hp}:∀(ns:List Int),Rps G (ns.map V.int) (ns.map PyData.int)
 |[]=>.nil
 |n::ns=>.cons (.int n) (Rps.ints ns)
theorem Rps.ints_inv{G:Hp}:∀{ns:List Int}{vs:List V},Rps G vs (ns.map PyData.int)->vs=ns.map V.int
 |[],_,.nil=>rfl
 | n::ns,_,.cons r t=>by
  cases r
  rw[Rps.ints_inv t];rfl
mutual
theorem Rp.rep{G:Hp}:∀{v:V}{d:PyData},Rp G v d->aat d=true->Rep G v d
 |_,_,.non,_=>.non
 |_,_,.bl b,_=>.bl b
 |_,_,.int i,_=>.int i
 |_,_,.str x,_=>.str x
 |_,_,.lst h r,p=>.lst h (Rps.reps r (by simpa[aat] using p))
 |_,_,.tup h r,p=>.tup h (Rps.reps r (by simpa[aat] using p))
 |_,_,.dk h r e,p=>by simp[aat] at p
 |_,_,.dt h r e,p=>by simp[aat] at p
theorem Rps.reps{G:Hp}:∀{vs:List V}{ds:List PyData},Rps G vs ds->plainDs ds=true->Reps G vs ds
 |_,_,.nil,_=>.nil
 | _,_,.cons r t,p=>by
  simp only[plainDs,aH1] at p
  exact .cons (Rp.rep r p.1) (Rps.reps t p.2)
end
structure Own where
 P:Hp->Hp->V->(Addr->Prop)->Prop
 mono:∀{G H G' H':Hp}{v:V}{F:Addr->Prop},P G H v F->Same G G'->(∀ a o,F a->H a=some o->H' a=some o)->P G' H' v F
 dom:∀{G H:Hp}{v:V}{F:Addr->Prop},P G H v F->∀ a,F a->∃ o,H a=some o
inductive Sl where
 |st (d:PyData)|own (A:Own)|io (A:Own)|scr (ns:List Int)
abbrev En:=List (Option Sl)
structure Bs where
 K:Frag
 G:Hp
 H:Hp
 R:Hp
 S:St
 F:Nat->Addr->Prop
def SlOk(B:Bs)(G H:Hp)(i:Nat)(v:V)(F:Addr->Prop):Sl->Prop
 | .st d=>Rp G v d/\∀ a,¬ F a
 | .own A=>A.P G H v F/\∀ a,F a->B.H a=none
 | .io A=>A.P G H v F/\(∀ a,F a->B.F i a\/B.H a=none)/\B.S[i]?=some (some v)
 | .scr ns=>(∃ a,v=.ref a/\SqL B.K G a (ns.map V.int))/\∀ a,¬ F a
def FT(G H:Hp):Prop:=∀(a:Addr)(ks:List Key),H a=some (.tup (ks.map kV))->G a=some (.tup (ks.map kV))
structure VI(B:Bs)(G H:Hp)(σ:St)(env:En)(F:Nat->Addr->Prop):Prop where
 gh:Same G H
 g0:Same B.G G
 gn:∀ a o,G a=some o->B.G a=some o\/B.H a=none
 rs:Same B.R H
 rb:Same B.R B.H
 bh:∀ a o,B.H a=some o->∃ o',H a=some o'
 fg:∀ i a,F i a->G a=none
 fr:∀ i a,F i a->B.R a=none
 fd:∀ i j a,F i a->F j a->i=j
 fo:∀ i a,F i a->∃ o,H a=some o
 sl:∀ i s,env[i]?=some (some s)->∃ v,σ[i]?=some (some v)/\SlOk B G H i v (F i) s
 ln : σ.length=env.length
 ft:FT G H
def RsOk(G H:Hp)(v:V)(F:Addr->Prop):Sl->Prop
 | .st d=>Rp G v d/\∀ a,¬ F a
 | .own A=>A.P G H v F
 |_=>False
structure RsX(B:Bs)(G H:Hp)(v:V)(Fv:Addr->Prop)(s:Sl)(F:Nat->Addr->Prop):Prop where
 ok:RsOk G H v Fv s
 fb:∀ a,Fv a->B.H a=none
 fg:∀ a,Fv a->G a=none
 fo:∀ a,Fv a->∃ o,H a=some o
 fd:∀ j a,Fv a->¬ F j a
structure Out(G H:Hp)(v:V)(G' H':Hp)(s:Sl)(Fv:Addr->Prop):Prop where
 gg:Same G G'
 gh:Same G' H'
 hh:Same H H'
 gn:∀ a o,G' a=some o->G a=some o\/H a=none
 fn:∀ a,Fv a->H a=none
 fg:∀ a,Fv a->G' a=none
 fo:∀ a,Fv a->∃ o,H' a=some o
 ok:RsOk G' H' v Fv s
 ft:FT G H->FT G' H'
theorem aq4{α:Type}{o:Option α}(h:o ≠ none):∃ x,o=some x:=by
 cases o with
 |none=>exact absurd rfl h
 |some x=>exact⟨x,rfl⟩
theorem SlOk.mono{B:Bs}{G H G' H':Hp}{i:Nat}{v:V}{F:Addr->Prop}{s:Sl}(h:SlOk B G H i v F s)(g:Same G G')(hh:∀ a o,F a->H a=some o->H' a=some o):SlOk B G' H' i v F s:=by
 cases s with
 |st d=>exact⟨h.1.same g,h.2⟩
 |own A=>exact⟨A.mono h.1 g hh,h.2⟩
 |io A=>exact⟨A.mono h.1 g hh,h.2⟩
 | scr ns =>
  obtain⟨⟨a,e,q⟩,n⟩:=h
  exact⟨⟨a,e,g.seq q⟩,n⟩
section
variable{B:Bs}{G H G' H':Hp}{σ:St}{env:En}{F:Nat->Addr->Prop}{v:V}{s:Sl}{Fv:Addr->Prop}
theorem VI.no_r(I:VI B G H σ env F){a:Addr}(h:H a=none):B.R a=none:=by
 cases e:B.R a with
 |none=>rfl
 |some o=>rw[I.rs a o e] at h;cases h
theorem VI.no_b(I:VI B G H σ env F){a:Addr}(h:H a=none):B.H a=none:=by
 cases e:B.H a with
 |none=>rfl
 |some o=>obtain⟨o',b⟩:=I.bh a o e;rw[b] at h;cases h
theorem VI.no_g(I:VI B G H σ env F){a:Addr}(h:H a=none):G a=none:=by
 cases e:G a with
 |none=>rfl
 |some o=>rw[I.gh a o e] at h;cases h
theorem VI.no_f(I:VI B G H σ env F){a:Addr}(h:H a=none)(i:Nat):¬ F i a:=λz=>by
 obtain⟨o,e⟩:=I.fo i a z;rw[e] at h;cases h
theorem VI.grow(I:VI B G H σ env F)(gg:Same G G')(gh:Same G' H')(hh:Same H H')(gn:∀ a o,G' a=some o->G a=some o\/H a=none)(ft:FT G' H'):VI B G' H' σ env F where
 gh:=gh
 g0:=I.g0.trans gg
 gn:=λa o e=>by
  rcases gn a o e with e|e
  ·exact I.gn a o e
  ·exact .inr (I.no_b e)
 rs:=I.rs.trans hh
 rb:=I.rb
 bh:=λa o e=>by obtain⟨o',d⟩:=I.bh a o e;exact⟨o',hh _ _ d⟩
 fg:=λi a z=>by
  cases e:G' a with
  |none=>rfl
  | some o =>
   rcases gn a o e with e|e
   ·rw[I.fg i a z] at e;cases e
   ·exact absurd z (I.no_f e i)
 fr:=I.fr
 fd:=I.fd
 fo:=λi a z=>by obtain⟨o,e⟩:=I.fo i a z;exact⟨o,hh _ _ e⟩
 sl:=λi s e=>by
  obtain⟨v,b,c⟩:=I.sl i s e
  exact⟨v,b,c.mono gg λa o _ q=>hh _ _ q⟩
 ln:=I.ln
 ft:=ft
theorem VI.out(I:VI B G H σ env F)(o:Out G H v G' H' s Fv):VI B G' H' σ env F/\RsX B G' H' v Fv s F :=
 ⟨I.grow o.gg o.gh o.hh o.gn (o.ft I.ft),o.ok,λa z=>I.no_b (o.fn a z),o.fg,o.fo,λj a z y=>I.no_f (o.fn a z) j y⟩
theorem VI.b_r(I:VI B G H σ env F){a:Addr}(h:B.H a=none):B.R a=none:=by
 cases e:B.R a with
 |none=>rfl
 |some o=>rw[I.rb a o e] at h;cases h
def putF(F:Nat->Addr->Prop)(i:Nat)(Fv:Addr->Prop):Nat->Addr->Prop:=λj a=>if j=i then Fv a else F j a
theorem putF_same{i:Nat}{a:Addr}:putF F i Fv i a ↔ Fv a:=by unfold putF;rw[aF5 rfl]
theorem afv{i:Nat}:putF F i Fv i=Fv:=by funext a;unfold putF;rw[aF5 rfl]
theorem abc{i j:Nat}(h:j ≠ i):putF F i Fv j=F j:=by funext a;unfold putF;rw[aF6 h]
theorem VI.slot(I:VI B G H σ env F)(i:Nat)(o:Option V)(os:Option Sl)(fg:∀ a,Fv a->G a=none)(fr:∀ a,Fv a->B.R a=none)(fo:∀ a,Fv a->∃ o,H a=some o)(fd:∀ j a,j ≠ i->Fv a->¬ F j a)
  (ok:∀ s,os=some s->∃ v,o=some v/\SlOk B G H i v Fv s):VI B G H (σ.set i o) (env.set i os) (putF F i Fv) where
 gh:=I.gh
 g0:=I.g0
 gn:=I.gn
 rs:=I.rs
 rb:=I.rb
 bh:=I.bh
 fg:=λj a z=>by
  by_cases h:j=i
  ·subst h;exact fg a (putF_same.mp z)
  ·rw[abc h] at z;exact I.fg j a z
 fr:=λj a z=>by
  by_cases h:j=i
  ·subst h;exact fr a (putF_same.mp z)
  ·rw[abc h] at z;exact I.fr j a z
 fd:=λj k a y z=>by
  by_cases h:j=i
  ·by_cases g:k=i
   ·rw[h,g]
   ·subst h;rw[abc g] at z;exact absurd z (fd k a g (putF_same.mp y))
  ·by_cases g:k=i
   ·subst g;rw[abc h] at y;exact absurd y (fd j a h (putF_same.mp z))
   ·rw[abc h] at y;rw[abc g] at z;exact I.fd j k a y z
 fo:=λj a z=>by
  by_cases h:j=i
  ·subst h;exact fo a (putF_same.mp z)
  ·rw[abc h] at z;exact I.fo j a z
 sl:=λj t e=>by
  by_cases h:j=i
  ·subst h
   rw[aD2,aF5 rfl] at e
   by_cases hl:j<env.length
   ·rw[aF5 hl] at e
    obtain⟨v,b,q⟩:=ok t (aC6 e)
    refine⟨v,by rw[aD2,aF5 rfl,aF5 (by rw[I.ln];exact hl),b],?_⟩
    rw[afv];exact q
   ·rw[aF6 hl] at e;cases e
  ·rw[aD2,aF6 (λz=>h z.symm)] at e
   obtain⟨v,b,q⟩:=I.sl j t e
   refine⟨v,by rw[aD2,aF6 (λz=>h z.symm)];exact b,?_⟩
   rw[abc h];exact q
 ln:=by simp[I.ln]
 ft:=I.ft
theorem VI.store(I:VI B G H σ env F)(r:RsX B G H v Fv s F)(i:Nat):VI B G H (σ.set i (some v)) (env.set i (some s)) (putF F i Fv):=by
 refine I.slot i (some v) (some s) r.fg (λa z=>I.b_r (r.fb a z)) r.fo (λj a _ z=>r.fd j a z) λt e=>?_
 cases e
 refine⟨v,rfl,?_⟩
 have:=r.ok
 cases s with
 |st d=>exact this
 |own A=>exact⟨this,r.fb⟩
 |io A=>exact this.elim
 |scr ns=>exact this.elim
theorem VI.drop(I:VI B G H σ env F)(i:Nat):VI B G H σ (env.set i none) (putF F i λ_=>False):=by
 have:=I.slot (Fv:=λ_=>False) i ((σ[i]?).getD none) none (λa z=>z.elim) (λa z=>z.elim) (λa z=>z.elim) (λj a _ z=>z.elim) (λs e=>by cases e)
 rwa [show σ.set i ((σ[i]?).getD none) = σ from ?_] at this
 apply aG2
 intro j
 rw[aD2]
 by_cases h:i=j
 ·subst h
  rw[aF5 rfl]
  by_cases hl:i<σ.length
  ·rw[aF5 hl,aA0 hl];rfl
  ·rw[aF6 hl,aF7.mpr (by lia)]
 ·rw[aF6 h]
theorem VI.change{A:Own}(I:VI B G H σ env F)(i:Nat){H2:Hp}{F2:Addr->Prop}{os os':Sl}(e:env[i]?=some (some os))(g : σ[i]?=some (some v))
  (keep:∀ a o,¬ F i a->H a=some o->H2 a=some o) (n:∀ a o,H a=some o->∃ o',H2 a=some o') (c:∀ a,F2 a->(F i a\/H a=none)/\∃ o,H2 a=some o) (m:A.P G H2 v F2) (M:FT G H2)
  (hs:(os'=.own A/\∃ f,os=.own f)\/(os'=.io A/\∃ f,os=.io f)):VI B G H2 σ (env.set i (some os')) (putF F i F2):=by
 obtain⟨Q,d,q⟩:=I.sl i os e
 rw[g] at d;cases d
 have p:∀ j a,j ≠ i->F j a->¬ F i a:=λj a b y z=>b (I.fd j i a y z)
 have w:∀ a,F2 a->G a=none:=λa z=>by
  rcases(c a z).1 with y|y
  ·exact I.fg i a y
  ·exact I.no_g y
 have J:VI B G H2 σ (env.set i none) (putF F i λ_=>False):=by
  have D:=I.drop i
  refine⟨λa o x=>keep a o (λz=>by rw[I.fg i a z] at x;cases x) (I.gh a o x),D.g0,D.gn,λa o x=>keep a o (λz=>by rw[I.fr i a z] at x;cases x) (I.rs a o x),D.rb,λa o x=>?_,D.fg,D.fr,D.fd,λj a z=>?_,λj s x=>?_,D.ln,M⟩
  ·obtain⟨o',E⟩:=I.bh a o x
   exact n a o' E
  ·obtain⟨o,x⟩:=D.fo j a z
   exact n a o x
  ·obtain⟨u,K,N⟩:=D.sl j s x
   refine⟨u,K,N.mono (Same.refl G) λa o z y=>?_⟩
   by_cases b:j=i
   ·subst b;exact(putF_same.mp z).elim
   ·rw[abc b] at z
    exact keep a o (p j a b z) y
 have l:=J.slot (Fv:=F2) i (some v) (some os') w (λa z=>by
   rcases(c a z).1 with y|y
   ·exact I.fr i a y
   ·exact I.no_r y) (λa z=>(c a z).2) (λj a b z y=>by
   rw[abc b] at y
   rcases(c a z).1 with x|x
   ·exact p j a b y x
   ·exact I.no_f x j y) λt C=>by
   cases C
   refine⟨v,rfl,?_⟩
   rcases hs with ⟨rfl,f,rfl⟩|⟨rfl,f,rfl⟩
   ·refine⟨m,λa z=>?_⟩
    rcases(c a z).1 with y|y
    ·exact q.2 a y
    ·exact I.no_b y
   ·refine⟨m,λa z=>?_,q.2.2⟩
    rcases(c a z).1 with y|y
    ·exact q.2.1 a y
    ·exact .inr (I.no_b y)
 have r : σ.set i (some v) = σ:=by
  apply aG2
  intro j
  rw[aD2]
  by_cases h:i=j
  ·subst h
   rw[aF5 rfl,g,aF5 (aA1.mp g).1]
  ·rw[aF6 h]
 have L:(env.set i none).set i (some os')=env.set i (some os'):=by simp
 have O:putF (putF F i λ_=>False) i F2=putF F i F2:=by
  funext j a
  by_cases h:j=i
  ·subst h;rw[afv,afv]
  ·rw[abc h,abc h,abc h]
 rw[r,L,O] at l
 exact l
end
open Classical in
def jn(G H:Hp)(F:Addr->Prop):Hp:=λa=>if F a then H a else G a
theorem ae8{G H:Hp}{F:Addr->Prop}{a:Addr}(h:F a):jn G H F a=H a:=aF5 h
theorem aiq{G H:Hp}{F:Addr->Prop}{a:Addr}(h:¬ F a):jn G H F a=G a:=aF6 h
theorem abv{G H:Hp}{F:Addr->Prop}(h:∀ a,F a->G a=none):Same G (jn G H F):=λa o e=>by
 rw[aiq (λz=>by rw[h a z] at e;cases e)];exact e
theorem aq5{G H:Hp}{F:Addr->Prop}(h:Same G H):Same (jn G H F) H:=λa o e=>by
 by_cases z:F a
 ·rw[ae8 z] at e;exact e
 ·rw[aiq z] at e;exact h a o e
def Frz(A:Own)(d:PyData):Prop:=∀(G H:Hp)(v:V)(F:Addr->Prop),A.P G H v F->(∀ a,F a->G a=none)->Same G H->Rp (jn G H F) v d
def FQ:Sl->(PyData->Prop)->Prop
 | .st d,R=>R d
 | .own A,R=>∃ d,Frz A d/\R d
 |_,_=>False
def OL(ds:List PyData):Own where
 P:=λG H v F=>∃ a vs,v=.ref a/\H a=some (.lst vs)/\Rps G vs ds/\∀ b,F b ↔ b=a
 mono:=λ⟨a,vs,e,h,r,f⟩ g hh=>⟨a,vs,e,hh a _ ((f a).mpr rfl) h,r.same g,f⟩
 dom:=λ⟨a,vs,e,h,r,f⟩ b z=>by rw[(f b).mp z];exact⟨_,h⟩
def OD(es:List (Key × PyData)):Own where
 P:=λG H v F=>∃ a kvs,v=.ref a/\H a=some (.dK kvs)/\RpK G kvs es/\∀ b,F b ↔ b=a
 mono:=λ⟨a,vs,e,h,r,f⟩ g hh=>⟨a,vs,e,hh a _ ((f a).mpr rfl) h,r.same g,f⟩
 dom:=λ⟨a,vs,e,h,r,f⟩ b z=>by rw[(f b).mp z];exact⟨_,h⟩
def OT(es:List (List Key × PyData)):Own where
 P:=λG H v F=>∃ a kvs,v=.ref a/\H a=some (.dT kvs)/\RpT G kvs es/\∀ b,F b ↔ b=a
 mono:=λ⟨a,vs,e,h,r,f⟩ g hh=>⟨a,vs,e,hh a _ ((f a).mpr rfl) h,r.same g,f⟩
 dom:=λ⟨a,vs,e,h,r,f⟩ b z=>by rw[(f b).mp z];exact⟨_,h⟩
theorem acb{ds:List PyData}:Frz (OL ds) (.list ds):=λG H v F ⟨a,vs,e,h,r,f⟩ n g=>by
 subst e
 exact .lst (by rw[ae8 ((f a).mpr rfl)];exact h) (r.same (abv n))
theorem a0t{es:List (Key × PyData)}:Frz (OD es) (.dict (es.map λp=>(kD p.1,p.2))):=λG H v F ⟨a,vs,e,h,r,f⟩ n g=>by
 subst e
 exact .dk (by rw[ae8 ((f a).mpr rfl)];exact h) (r.same (abv n)) rfl
theorem af6{d:PyData}{R:PyData->Prop}(h:R d):FQ (.st d) R:=h
theorem ac0{ds:List PyData}{R:PyData->Prop}(h:R (.list ds)):FQ (.own (OL ds)) R:=⟨_,acb,h⟩
section
variable{B:Bs}{G H G' H':Hp}{σ:St}{env:En}{F:Nat->Addr->Prop}{v:V}{s:Sl}{Fv:Addr->Prop}
theorem VI.freeze(I:VI B G H σ env F)(fb:∀ a,Fv a->B.H a=none)(fd:∀ j a,Fv a->¬ F j a)(fg:∀ a,Fv a->G a=none):VI B (jn G H Fv) H σ env F where
 gh:=aq5 I.gh
 g0:=I.g0.trans (abv fg)
 gn:=λa o e=>by
  by_cases z:Fv a
  ·exact .inr (fb a z)
  ·rw[aiq z] at e;exact I.gn a o e
 rs:=I.rs
 rb:=I.rb
 bh:=I.bh
 fg:=λi a z=>by
  rw[aiq (λy=>fd i a y z)];exact I.fg i a z
 fr:=I.fr
 fd:=I.fd
 fo:=I.fo
 sl:=λi s e=>by
  obtain⟨v,b,c⟩:=I.sl i s e
  exact⟨v,b,c.mono (abv fg) λa o _ q=>q⟩
 ln:=I.ln
 ft:=λa ks e=>abv fg _ _ (I.ft a ks e)
theorem VI.frz{A:Own}{d:PyData}{i:Nat}(I:VI B G H σ env F)(e:env[i]?=some (some (.own A)))(f:Frz A d) :
  ∃ v,σ[i]?=some (some v)/\Rp (jn G H (F i)) v d/\Same G (jn G H (F i))/\VI B (jn G H (F i)) H σ (env.set i (some (.st d))) (putF F i λ_=>False):=by
 obtain⟨v,b,q⟩:=I.sl i _ e
 have c:=f G H v (F i) q.1 (I.fg i) I.gh
 refine⟨v,b,c,abv (I.fg i),?_⟩
 have D:=(I.drop i).freeze (Fv:=F i) q.2 (λj a z y=>by
  by_cases h:j=i
  ·subst h;exact(putF_same.mp y).elim
  ·rw[abc h] at y;exact h (I.fd j i a y z)) (I.fg i)
 have J:=D.slot (Fv:=λ_=>False) i (some v) (some (.st d)) (λa z=>z.elim) (λa z=>z.elim) (λa z=>z.elim) (λj a _ z=>z.elim) (λt l=>by cases l;exact⟨v,rfl,c,λa z=>z⟩)
 have g : σ.set i (some v) = σ:=by
  apply aG2
  intro j
  rw[aD2]
  by_cases h:i=j
  ·subst h
   rw[aF5 rfl,b,aF5 (aA1.mp b).1]
  ·rw[aF6 h]
 have m:putF (putF F i λ_=>False) i (λ_=>False)=putF F i λ_=>False:=by
  funext j a
  by_cases h:j=i
  ·subst h;rw[afv,afv]
  ·rw[abc h,abc h]
 rw[g,m,List.set_set] at J
 exact J
theorem Out.refl{d:PyData}(g:Same G H)(r:Rp G v d):Out G H v G H (.st d) (λ_=>False):=⟨Same.refl _,g,Same.refl _,λa o e=>.inl e,λa z=>z.elim,λa z=>z.elim,λa z=>z.elim,⟨r,λa z=>z⟩,λt=>t⟩
theorem ax5{p:Addr}{o:HO}(g:Same G H)(h:H p=none):Same (upd G p o) (upd H p o):=λa u e=>by
 by_cases z:a=p
 ·subst z;rw[aaf] at e ⊢;exact e
 ·rw[aae z] at e ⊢;exact g a u e
theorem aaz{p:Addr}(g:Same G H)(h:H p=none):G p=none:=by
 cases e:G p with
 |none=>rfl
 |some o=>rw[g p o e] at h;cases h
theorem Out.newT{p:Addr}{xs:List V}{ds:List PyData}(g:Same G H)(h:H p=none)(r:Rps G xs ds):Out G H (.ref p) (upd G p (.tup xs)) (upd H p (.tup xs)) (.st (.tuple ds)) (λ_=>False) where
 gg:=abj (aaz g h)
 gh:=ax5 g h
 hh:=abj h
 gn:=λa o e=>by
  by_cases z:a=p
  ·subst z;exact .inr h
  ·rw[aae z] at e;exact .inl e
 fn:=λa z=>z.elim
 fg:=λa z=>z.elim
 fo:=λa z=>z.elim
 ok:=⟨.tup aaf (r.same (abj (aaz g h))),λa z=>z⟩
 ft:=λt a ks e=>by
  by_cases z:a=p
  ·subst z;rw[aaf] at e ⊢;exact e
  ·rw[aae z] at e ⊢;exact t a ks e
theorem Out.newO{p:Addr}{o:HO}{A:Own}(g:Same G H)(h:H p=none)(b:∀ xs,o ≠ .tup xs)(r:A.P G (upd H p o) (.ref p) (· = p)):Out G H (.ref p) G (upd H p o) (.own A) (· = p) where
 gg:=Same.refl _
 gh:=g.trans (abj h)
 hh:=abj h
 gn:=λa o e=>.inl e
 fn:=λa z=>by rw[z];exact h
 fg:=λa z=>by rw[z];exact aaz g h
 fo:=λa z=>by rw[z];exact⟨_,aaf⟩
 ok:=r
 ft:=λt a ks e=>by
  by_cases z:a=p
  ·subst z;rw[aaf] at e;exact absurd (aC6 e) (b _)
  ·rw[aae z] at e;exact t a ks e
theorem Out.newL{p:Addr}{xs:List V}{ds:List PyData}(g:Same G H)(h:H p=none)(r:Rps G xs ds):Out G H (.ref p) G (upd H p (.lst xs)) (.own (OL ds)) (· = p) :=
 .newO g h (λ_ z=>nomatch z) ⟨p,xs,rfl,aaf,r,λb=>Iff.rfl⟩
theorem Out.newD{p:Addr}{xs:List (Key × V)}{ds:List (Key × PyData)}(g:Same G H)(h:H p=none)(r:RpK G xs ds):Out G H (.ref p) G (upd H p (.dK xs)) (.own (OD ds)) (· = p) :=
 .newO g h (λ_ z=>nomatch z) ⟨p,xs,rfl,aaf,r,λb=>Iff.rfl⟩
theorem Out.newDT{p:Addr}{xs:List (List Key × V)}{ds:List (List Key × PyData)}(g:Same G H)(h:H p=none)(r:RpT G xs ds):Out G H (.ref p) G (upd H p (.dT xs)) (.own (OT ds)) (· = p) :=
 .newO g h (λ_ z=>nomatch z) ⟨p,xs,rfl,aaf,r,λb=>Iff.rfl⟩
end
def EvO(B:Bs)(te:TE)(env:En)(Q':Sl->En->Prop):Prop:=∀(σ:St)(G H:Hp)(F:Nat->Addr->Prop)(Q:VK),VI B G H σ env F ->
 (∀ v G' H' F' Fv s env',VI B G' H' σ env' F'->Same G G'->RsX B G' H' v Fv s F'->Q' s env'->Q v H')->te σ H Q
def Ev(B:Bs)(te:TE)(env:En)(Q':PyData->En->Prop):Prop:=∀(σ:St)(G H:Hp)(F:Nat->Addr->Prop)(Q:VK),VI B G H σ env F ->
 (∀ v G' H' F' d env',VI B G' H' σ env' F'->Same G G'->Rp G' v d->Q' d env'->Q v H')->te σ H Q
def EvT(B:Bs)(tt:TT)(env:En)(Q':Bool->En->Prop):Prop:=∀(σ:St)(G H:Hp)(F:Nat->Addr->Prop)(Q:Bool->Hp->Prop),VI B G H σ env F ->
 (∀ b G' H' F' env',VI B G' H' σ env' F'->Same G G'->Q' b env'->Q b H')->tt σ H Q
def EvA(B:Bs)(ta:TA)(env:En)(Q':List PyData->En->Prop):Prop:=∀(σ:St)(G H:Hp)(F:Nat->Addr->Prop)(Q:List V->Hp->Prop),VI B G H σ env F ->
 (∀ vs G' H' F' ds env',VI B G' H' σ env' F'->Same G G'->Rps G' vs ds->Q' ds env'->Q vs H')->ta σ H Q
structure ItOk(G:Hp)(J:It)(ds:List PyData):Prop where
 go:∀ i G' H',Same G G'->Same G' H'->i<ds.length->J.go i H'
 stop:∀ i G' H',Same G G'->Same G' H'->i=ds.length->J.stop i H'
 yld:∀ i G' H' x H'' d,Same G G'->Same G' H'->FT G' H'->ds[i]?=some d->J.yld i H' x H''->∃ G'',Out G' H' x G'' H'' (.st d) (λ_=>False)
def EvI(B:Bs)(ti:TI)(env:En)(Q':List PyData->En->Prop):Prop:=∀(σ:St)(G H:Hp)(F:Nat->Addr->Prop)(R:It->Hp->Prop),VI B G H σ env F ->
 (∀ J G' H' F' ds env',VI B G' H' σ env' F'->Same G G'->ItOk G' J ds->Q' ds env'->R J H')->ti σ H R
def EvG(B:Bs)(g:TG)(s:Sl)(env:En)(Q':En->Prop):Prop:=∀(σ:St)(G H:Hp)(F:Nat->Addr->Prop)(v:V)(Fv:Addr->Prop)(Q:St->Hp->Prop),VI B G H σ env F->RsX B G H v Fv s F ->
 (∀ σ' G' H' F' env',VI B G' H' σ' env' F'->Same G G'->Q' env'->Q σ' H')->g v σ H Q
def EvGs(B:Bs)(g:TGs)(ds:List PyData)(env:En)(Q':En->Prop):Prop:=∀(σ:St)(G H:Hp)(F:Nat->Addr->Prop)(vs:List V)(Q:St->Hp->Prop),VI B G H σ env F->Rps G vs ds ->
 (∀ σ' G' H' F' env',VI B G' H' σ' env' F'->Same G G'->Q' env'->Q σ' H')->g vs σ H Q
structure VEnds where
 nx:En->Prop
 rt:Sl->En->Prop
 bk:En->Prop:=λ_=>False
 ct:En->Prop:=λ_=>False
structure RelE(B:Bs)(G:Hp)(D:Ends)(D':VEnds):Prop where
 nx:∀ σ G' H F env,VI B G' H σ env F->Same G G'->D'.nx env->D.nx σ H
 rt:∀ σ G' H F env v Fv s,VI B G' H σ env F->Same G G'->RsX B G' H v Fv s F->D'.rt s env->D.rt v H
 bk:∀ σ G' H F env,VI B G' H σ env F->Same G G'->D'.bk env->D.bk σ H
 ct:∀ σ G' H F env,VI B G' H σ env F->Same G G'->D'.ct env->D.ct σ H
def EvS(B:Bs)(ts:TS)(D':VEnds)(env:En):Prop:=∀(σ:St)(G H:Hp)(F:Nat->Addr->Prop)(D:Ends),VI B G H σ env F->RelE B G D D'->ts D σ H
theorem RelE.later{B:Bs}{G G':Hp}{D:Ends}{D':VEnds}(r:RelE B G D D')(g:Same G G'):RelE B G' D D' :=
 ⟨λσ a H F env I q=>r.nx σ a H F env I (g.trans q),λσ a H F env v Fv s I q=>r.rt σ a H F env v Fv s I (g.trans q),λσ a H F env I q=>r.bk σ a H F env I (g.trans q),λσ a H F env I q=>r.ct σ a H F env I (g.trans q)⟩
section
variable{B:Bs}{env:En}{Q':PyData->En->Prop}{QO:Sl->En->Prop}{QT:Bool->En->Prop}{QA:List PyData->En->Prop}{te ta tb:TE}
theorem aea{G H:Hp}{v:V}{d:PyData}{F:Nat->Addr->Prop}(r:Rp G v d):RsX B G H v (λ_=>False) (.st d) F:=⟨⟨r,λa z=>z⟩,λa z=>z.elim,λa z=>z.elim,λa z=>z.elim,λj a z=>z.elim⟩
theorem aba(h:Ev B te env λd e=>QO (.st d) e):EvO B te env QO:=λσ G H F Q I k =>
 h σ G H F Q I λv G' H' F' d a b g r q=>k v G' H' F' _ (.st d) a b g (aea r) q
theorem abu(h:EvO B te env λs e=>FQ s λd=>Q' d e):Ev B te env Q':=λσ G H F Q I k =>
 h σ G H F Q I λv G' H' F' Fv s a b g r q=>by
  cases s with
  |st d=>exact k v G' H' F' d a b g r.ok.1 q
  | own A =>
   obtain⟨d,f,q⟩:=q
   exact k v _ H' F' d a (b.freeze r.fb r.fd r.fg) (g.trans (abv r.fg)) (f G' H' v Fv r.ok r.fg b.gh) q
  |io A=>exact q.elim
  |scr ns=>exact q.elim
theorem a0u{i:Nat}{d:PyData}(e:env[i]?=some (some (.st d)))(q:Q' d env):Ev B (tVar i) env Q':=λσ G H F Q I k=>by
 obtain⟨v,a,r⟩:=I.sl i _ e
 exact⟨v,a,k v G H F d env I (Same.refl _) r.1 q⟩
theorem ax6{i:Nat}{A:Own}{d:PyData}(e:env[i]?=some (some (.own A)))(f:Frz A d)(q:Q' d (env.set i (some (.st d)))):Ev B (tVar i) env Q':=λσ G H F Q I k=>by
 obtain⟨v,a,r,g,J⟩:=I.frz e f
 exact⟨v,a,k v _ H _ d _ J g r q⟩
theorem avi{i:Nat}{A:Own}(e:env[i]?=some (some (.own A)))(q:QO (.own A) (env.set i none)):EvO B (tVar i) env QO:=λσ G H F Q I k=>by
 obtain⟨v,b,r⟩:=I.sl i _ e
 refine⟨v,b,k v G H _ (F i) (.own A) _ (I.drop i) (Same.refl _) ⟨r.1,r.2,I.fg i,I.fo i,λj a z y=>?_⟩ q⟩
 by_cases h:j=i
 ·subst h;exact putF_same.mp y
 ·rw[abc h] at y;exact h (I.fd j i a y z)
theorem a0v{i:Int}(q:Q' (.int i) env):Ev B (tC (.int i)) env Q':=λσ G H F Q I k=>k _ G H F _ env I (Same.refl _) (.int i) q
theorem a2t{b:Bool}(q:Q' (.bool b) env):Ev B (tC (.bl b)) env Q':=λσ G H F Q I k=>k _ G H F _ env I (Same.refl _) (.bl b) q
theorem a0w(q:Q' .none env):Ev B (tC .non) env Q':=λσ G H F Q I k=>k _ G H F _ env I (Same.refl _) .non q
def Op2(r:R2)(x y:PyData)(R:Sl->Prop):Prop:=∀(G H:Hp)(vx vy:V)(Q:VK),Same G H->Rp G vx x->Rp G vy y->(∀ v G' H' s Fv,Out G H v G' H' s Fv->R s->Q v H')->r vx vy H Q
def Op1(r:V->Hp->VK->Prop)(x:PyData)(R:Sl->Prop):Prop:=∀(G H:Hp)(vx:V)(Q:VK),Same G H->Rp G vx x->(∀ v G' H' s Fv,Out G H v G' H' s Fv->R s->Q v H')->r vx H Q
def OpA(r:List V->Hp->VK->Prop)(ds:List PyData)(R:Sl->Prop):Prop:=∀(G H:Hp)(vs:List V)(Q:VK),Same G H->Rps G vs ds->(∀ v G' H' s Fv,Out G H v G' H' s Fv->R s->Q v H')->r vs H Q
theorem am4{r:R2}(h:Ev B ta env λx c=>Ev B tb c λy b=>Op2 r x y λs=>QO s b):EvO B (tOp r ta tb) env QO:=λσ G H F Q I k =>
 h σ G H F _ I λq j n p x c C u m f=>f σ j n p _ C λl g H2 F2 y b a d w z =>
  z g H2 q l Q a.gh (m.same d) w λv i H3 s Fv o A=>k v i H3 F2 Fv s b (a.out o).1 (u.trans (d.trans o.gg)) (a.out o).2 A
theorem aw3{r:R2}(h:Ev B ta env λx a=>Ev B tb a λy b=>Op2 r x y λs=>FQ s λd=>Q' d b):Ev B (tOp r ta tb) env Q':=abu (am4 h)
theorem a0x{r:V->Hp->VK->Prop}(h:Ev B ta env λx a=>Op1 r x λs=>QO s a):EvO B (tUn r ta) env QO:=λσ G H F Q I k =>
 h σ G H F _ I λl f i j x a b m g c=>c f i l Q b.gh g λv d H3 s Fv o n=>k v d H3 j Fv s a (b.out o).1 (m.trans o.gg) (b.out o).2 n
theorem a2u{r:V->Hp->VK->Prop}(h:Ev B ta env λx a=>Op1 r x λs=>FQ s λd=>Q' d a):Ev B (tUn r ta) env Q':=abu (a0x h)
theorem ax7(q:QA [] env):EvA B tNil env QA:=λσ G H F Q I k=>k [] G H F [] env I (Same.refl _) .nil q
theorem am5{tr:TA}(h:Ev B ta env λx b=>EvA B tr b λxs a=>QA (x::xs) a):EvA B (abb ta tr) env QA:=λσ G H F Q I k =>
 h σ G H F _ I λr i l m x b q n j d=>d σ i l m _ q λvs f H2 F2 ds a g c o p=>k _ f H2 F2 _ a g (n.trans c) (.cons (j.same c) o) p
theorem atb{r:List V->Hp->VK->Prop}{t:TA}(h:EvA B t env λds a=>OpA r ds λs=>QO s a):EvO B (tCB r t) env QO:=λσ G H F Q I k =>
 h σ G H F _ I λvs f i j ds a b l g c=>c f i vs Q b.gh g λv d H3 s Fv o m=>k v d H3 j Fv s a (b.out o).1 (l.trans o.gg) (b.out o).2 m
theorem a2v{r:List V->Hp->VK->Prop}{t:TA}(h:EvA B t env λds a=>OpA r ds λs=>FQ s λd=>Q' d a):Ev B (tCB r t) env Q':=abu (atb h)
theorem apg{t:TA}(h:EvA B t env λds a=>ds.length<=1000/\QO (.st (.tuple ds)) a):EvO B (tTup t) env QO:=λσ G H F Q I k =>
 h σ G H F _ I λvs j l g ds a b i d c=>⟨by rw[d.length];exact aG5 (ae2 c.1),λp f=>by
  have o:=Out.newT b.gh f d
  exact k _ _ _ g _ _ a (b.out o).1 (i.trans o.gg) (b.out o).2 c.2⟩
theorem a0y{t:TA}(h:EvA B t env λds a=>ds.length<=1000/\Q' (.tuple ds) a):Ev B (tTup t) env Q':=abu (apg h)
theorem aph{t:TA}(h:EvA B t env λds a=>ds.length<=1000/\QO (.own (OL ds)) a):EvO B (tLst t) env QO:=λσ G H F Q I k =>
 h σ G H F _ I λvs j l g ds a b i d c=>⟨by rw[d.length];exact aG5 (ae2 c.1),λp f=>by
  have o:=Out.newL b.gh f d
  exact k _ _ _ g _ _ a (b.out o).1 (i.trans o.gg) (b.out o).2 c.2⟩
theorem a0z{t:TA}(h:EvA B t env λds a=>ds.length<=1000/\Q' (.list ds) a):Ev B (tLst t) env Q':=abu (aph λσ G H F Q I k=>h σ G H F Q I λvs G' H' F' ds a b g r q=>k vs G' H' F' ds a b g r ⟨q.1,ac0 q.2⟩)
theorem am6(h:Ev B te env λx a=>∃ b,x=.bool b/\QT b a):EvT B (alm te) env QT:=λσ G H F Q I k =>
 h σ G H F _ I λv c g i x a l j f d=>by
  obtain⟨b,e,q⟩:=d
  subst e
  cases f
  exact⟨b,rfl,k b c g i a l j q⟩
theorem a2w(h:Ev B te env λx a=>∃ b,x=.bool b/\QT b a):EvT B (tB te) env QT:=am6 h
theorem x_bl{b:Bool}{R:Bool->Prop}(h:R b):∃ c,PyData.bool b=.bool c/\R c:=⟨b,rfl,h⟩
theorem ax8{t u:TT}(h:EvT B t env λc a=>if c=true then EvT B u a QT else QT false a):EvT B (tAnd t u) env QT:=λσ G H F Q I k =>
 h σ G H F _ I λb d f g a j i q=>by
  cases b with
  |true=>rw[aF5 rfl] at q ⊢;exact q σ d f g Q j λc l H2 F2 o m n p=>k c l H2 F2 o m (i.trans n) p
  |false=>rw[aF6 aB0] at q ⊢;exact k false d f g a j i q
theorem a00{t u:TT}(h:EvT B t env λc a=>if c=true then QT true a else EvT B u a QT):EvT B (tOr t u) env QT:=λσ G H F Q I k =>
 h σ G H F _ I λb d f g a j i q=>by
  cases b with
  |false=>rw[aF6 aB0] at q ⊢;exact q σ d f g Q j λc l H2 F2 o m n p=>k c l H2 F2 o m (i.trans n) p
  |true=>rw[aF5 rfl] at q ⊢;exact k true d f g a j i q
theorem ax9{t:TT}(h:EvT B t env λc a=>QT (!c) a):EvT B (tNot t) env QT:=λσ G H F Q I k =>
 h σ G H F _ I λb f d g a i j q=>k (!b) f d g a i j q
theorem ahi(q:QT true env):EvT B tYes env QT:=λσ G H F Q I k=>k true G H F env I (Same.refl _) q
def TruD:PyData->Bool->Prop
 | .bool b,k=>k=b
 | .list ds,k=>k = !ds.isEmpty
 |_,_=>False
theorem aya{K:Frag}(h:Ev B te env λx a=>∃ b,TruD x b/\QT b a):EvT B (tTru K te) env QT:=λσ G H F Q I k =>
 h σ G H F _ I λv f g i x a d j m l=>by
  obtain⟨b,e,q⟩:=l
  cases m with
  |bl c=>cases e;exact⟨_,rfl,k _ f g i a d j q⟩
  | lst ha rs =>
   refine⟨b,.inl ⟨_,SqL.of (d.gh _ _ ha),?_⟩,k _ f g i a d j q⟩
   have n:b = !_:=e
   rw[n]
   cases rs <;> rfl
  |_=>exact e.elim
theorem ayb(h:Ev B ta env λx a=>∃ b,x=.bool b/\if b=true then Ev B tb a Q' else Q' (.bool false) a):Ev B (aqk ta tb) env Q':=λσ G H F Q I k =>
 h σ G H F _ I λv c f g x a j i p o=>by
  obtain⟨b,e,q⟩:=o
  subst e
  cases p
  refine⟨b,rfl,?_⟩
  cases b with
  |true=>rw[aF5 rfl] at q ⊢;exact q σ c f g Q j λv l H2 F2 d r m n s u=>k v l H2 F2 d r m (i.trans n) s u
  |false=>rw[aF6 aB0] at q ⊢;exact k _ c f g _ a j i (.bl false) q
theorem ayc(h:Ev B ta env λx a=>∃ b,x=.bool b/\Q' (.bool (!b)) a):Ev B (aql ta) env Q':=λσ G H F Q I k =>
 h σ G H F _ I λv c g i x a l j f d=>by
  obtain⟨b,e,q⟩:=d
  subst e
  cases f
  exact⟨b,rfl,k _ c g i _ a l j (.bl _) q⟩
theorem avj{r L:R2}{C:TE}(h:Ev B ta env λx w=>Ev B tb w λy a=>Op2 r x y λs=>∃ b,s=.st (.bool b)/\if b=true then Ev B C a λz e3=>Op2 L y z λs'=>FQ s' λd=>Q' d e3 else Q' (.bool false) a):Ev B (aie r L ta tb C) env Q':=λσ G H F Q I k =>
 h σ G H F _ I λv1 Y H1 F1 x w I1 R r1 U=>U σ Y H1 F1 _ I1 λM W H2 F2 y a D j T q2 =>
  q2 W H2 v1 M _ D.gh (r1.same j) T λv E H3 s Fv o z_=>by
   obtain⟨b,es,g⟩:=z_
   have P:=(D.out o).1
   have l:=o.ok
   subst es
   obtain⟨l,_⟩:=l
   cases l
   refine⟨b,rfl,?_⟩
   cases b with
   |false=>rw[aF6 aB0] at g ⊢;exact k _ E H3 F2 _ a P (R.trans (j.trans o.gg)) (.bl _) g
   | true =>
    rw[aF5 rfl] at g ⊢
    refine g σ E H3 F2 _ P λv3 G4 Z K z O u N X q4=>q4 G4 Z M v3 Q u.gh (T.same (o.gg.trans N)) X λn S m s5 i p c=>?_
    have J:=u.out p
    have gg:=R.trans (j.trans (o.gg.trans (N.trans p.gg)))
    cases s5 with
    |st d=>exact k n S m K d O J.1 gg p.ok.1 c
    | own A =>
     obtain⟨d,f,q⟩:=c
     exact k n _ m K d O (J.1.freeze J.2.fb J.2.fd J.2.fg) (gg.trans (abv J.2.fg)) (f S m n i J.2.ok J.2.fg J.1.gh) q
    |io A=>exact c.elim
    |scr ns=>exact c.elim
end
section
variable{B:Bs}{env:En}{D':VEnds}{t u tb:TS}{te:TE}{g:TG}{c:TT}{QE:En->Prop}
theorem ayd(h:EvS B t { D' with nx:=λe=>EvS B u D' e } env):EvS B (tSeq t u) D' env:=λσ G H F D I r =>
 h σ G H F { D with nx:=u D } I ⟨λσ G' H F env a g q=>q σ G' H F D a (r.later g),r.rt,r.bk,r.ct⟩
theorem avk(h:D'.nx env):EvS B aqm D' env:=λσ G H F D I r=>r.nx σ G H F env I (Same.refl _) h
theorem api(h:EvO B te env λs e=>EvG B g s e D'.nx):EvS B (tAsg te g) D' env:=λσ G H F D I r =>
 h σ G H F _ I λv i j l Fv s u q n o b=>b σ i j l v Fv D.nx q o λa c H2 F2 m d f p=>r.nx a c H2 F2 m d (n.trans f) p
theorem abh{i:Nat}{s:Sl}(h:QE (env.set i (some s))):EvG B (abi i) s env QE:=λσ G H F v Fv Q I x k=>k _ G H _ _ (I.store x i) (Same.refl _) h
theorem am7(h:QE env):EvGs B gNil [] env QE:=λσ G H F vs Q I x k=>by cases x;exact⟨rfl,k σ G H F env I (Same.refl _) h⟩
theorem atc{f:TGs}{d:PyData}{ds:List PyData}(h:EvG B g (.st d) env λe=>EvGs B f ds e QE):EvGs B (awt g f) (d::ds) env QE:=λσ G H F vs Q I x k=>by
 cases x with
 | cons r rs =>
  refine⟨_,_,rfl,h σ G H F _ _ _ I (aea r) λb n o p v u c i=>i b n o p _ Q u (rs.same c) λa j H2 F2 q l m s=>k a j H2 F2 q l (c.trans m) s⟩
theorem aye{K:Frag}{n:Nat}{a:TGs}{ds:List PyData}(b:ds.length=n)(h:EvGs B a ds env QE):EvG B (gTup K n a) (.st (.tuple ds)) env QE:=λσ G H F v Fv Q I x k=>by
 obtain⟨r,_⟩:=x.ok
 cases r with
 |tup ha rs=>exact⟨_,_,rfl,SqT.of (I.gh _ _ ha),by rw[rs.length,b],h σ G H F _ Q I rs k⟩
theorem apj(h:EvO B te env λs e=>D'.rt s e):EvS B (tRet te) D' env:=λσ G H F D I r =>
 h σ G H F _ I λv c d f Fv s b j g i a=>r.rt σ c d f b v Fv s j g i a
theorem am8(h:EvO B te env λ_ e=>D'.nx e):EvS B (aqn te) D' env:=λσ G H F D I r =>
 h σ G H F _ I λv c d f Fv s b i g j a=>r.nx σ c d f b i g a
theorem a01(h:EvT B c env λb e=>if b=true then EvS B t D' e else EvS B u D' e):EvS B (tIfS c t u) D' env:=λσ G H F D I r =>
 h σ G H F _ I λb d a f j g i q=>by
  cases b with
  |true=>rw[aF5 rfl] at q ⊢;exact q σ d a f D g (r.later i)
  |false=>rw[aF6 aB0] at q ⊢;exact q σ d a f D g (r.later i)
def ForV(B:Bs)(g:TG)(tb:TS)(D':VEnds)(ds:List PyData)(e1:En):Prop:=∃ J:Nat->En->Prop,J 0 e1/\(∀ i d e,ds[i]?=some d->J i e->EvG B g (.st d) e λe2=>EvS B tb { D' with nx:=J (i+1),ct:=J (i+1),bk:=D'.nx } e2)/\∀ e,J ds.length e->D'.nx e
theorem ayf{K:TI}(h:EvI B K env λds w=>ForV B g tb D' ds w):EvS B (tFor K g tb) D' env:=λσ G H F D I r =>
 h σ G H F _ I λJ z H1 F1 ds w I1 C it X=>by
  obtain⟨N,R,S,U⟩:=X
  refine⟨λi m σ H=>m=ds.length-i/\i<=ds.length/\∃ b F2 p,VI B b H σ p F2/\Same z b/\N i p,⟨ds.length,by simp,aG0 _,z,F1,w,I1,Same.refl _,R⟩,?_⟩
  rintro i m σ H ⟨rfl,hi,b,F2,p,n,q,L⟩
  by_cases hlt:i<ds.length
  ·refine .inr ⟨it.go i b H q n.gh hlt,λσ H=>∃ u W O,VI B u H σ O W/\Same z u/\N (i+1) O,λY H' h'=>⟨ds.length-(i+1),by lia,rfl,hlt,h'⟩,λx H' y=>?_⟩
   obtain⟨u,o⟩:=it.yld i b H x H' _ q n.gh n.ft (aA0 hlt) y
   have M:=n.out o
   refine S i _ p (aA0 hlt) L σ u H' F2 x _ _ M.1 M.2 λA G4 T Q e4 P Z q4=>?_
   have gg:=q.trans (o.gg.trans Z)
   refine q4 A G4 T Q _ P ⟨λa f s j d c l E=>⟨f,j,d,c,gg.trans l,E⟩,λa f s j d v5 v s5 c l=>r.rt a f s j d v5 v s5 c (C.trans (gg.trans l)),λa f s j d c l=>r.nx a f s j d c (C.trans (gg.trans l)),λa f s j d c l E=>⟨f,j,d,c,gg.trans l,E⟩⟩
  ·have e:i=ds.length:=by lia
   subst e
   exact .inl ⟨it.stop _ b H q n.gh rfl,r.nx σ b H F2 p n (C.trans q) (U p L)⟩
theorem aki(J:Nat->En->Prop)(x:∃ m,J m env)(h:∀ m e,J m e->EvT B c e λb z=>if b=true then EvS B tb { D' with nx:=λf=>∃ d,d<m/\J d f,ct:=λf=>∃ d,d<m/\J d f,bk:=D'.nx } z else D'.nx z):EvS B (ar7 c tb) D' env:=λσ G H F D I r=>by
 obtain⟨T,x⟩:=x
 refine⟨λm σ H=>∃ p F2 f,VI B p H σ f F2/\Same G p/\J m f,⟨T,G,F,env,I,Same.refl _,x⟩,?_⟩
 rintro m σ H ⟨p,F2,f,L,M,U⟩
 refine h m f U σ p H F2 _ L λb A H3 C W E R s=>?_
 have gg:=M.trans R
 cases b with
 |false=>rw[aF6 aB0] at s ⊢;exact r.nx σ A H3 C W E gg s
 | true =>
  rw[aF5 rfl] at s ⊢
  refine⟨λσ H=>∃ u w q,VI B u H σ q w/\Same G u/\∃ d,d<m/\J d q,λO H' ⟨u,w,q,K,P,d,hm,N⟩=>⟨d,hm,u,w,q,K,P,N⟩,?_⟩
  exact s σ A H3 C _ E ⟨λa j o l i g n y=>⟨j,l,i,g,gg.trans n,y⟩,λa j o l i S v Q g n=>r.rt a j o l i S v Q g (gg.trans n),λa j o l i g n=>r.nx a j o l i g (gg.trans n),λa j o l i g n y=>⟨j,l,i,g,gg.trans n,y⟩⟩
variable{QI:List PyData->En->Prop}
theorem avl{K:Frag}(h:Ev B te env λd e=>∃ ds,d=.list ds/\QI ds e):EvI B (alj K te) env QI:=λσ G H F R I k =>
 h σ G H F _ I λv l q r d f b s p m=>by
  obtain⟨ds,j,c⟩:=m
  subst j
  cases p with
  | @lst a vs ds ha rs =>
   refine⟨a,rfl,⟨vs,SqL.of (b.gh _ _ ha)⟩,k _ l q r ds f b s ⟨λi G' H' g h hi=>?_,λi G' H' g h hi=>?_,λi G' H' x H'' d g h ft hd y=>?_⟩ c⟩
   ·have:i<vs.length:=by rw[rs.length];exact hi
    exact⟨vs,vs[i],SqL.of (h _ _ (g _ _ ha)),aA0 this⟩
   ·exact⟨vs,SqL.of (h _ _ (g _ _ ha)),by rw[rs.length];exact Nat.le_of_eq hi.symm⟩
   ·obtain⟨e,y⟩:=y
    subst e
    obtain⟨v,n,o⟩:=rs.get hd
    have:=y vs (SqL.of (h _ _ (g _ _ ha)))
    rw[n] at this
    cases this
    exact⟨G',Out.refl h (o.same g)⟩
theorem a02{ds:List PyData}{R:List PyData->Prop}(h:R ds):∃ xs,PyData.list ds=.list xs/\R xs:=⟨ds,rfl,h⟩
def rngD(lo:Int)(n:Nat):List PyData:=(List.range n).map λ(i:Nat)=>.int (lo+(i:Int))
theorem adb{lo:Int}{n:Nat}:(rngD lo n).length=n:=by simp[rngD]
theorem am9{lo:Int}{n i:Nat}{d:PyData}(h:(rngD lo n)[i]?=some d):i<n/\d=.int (lo+(i:Int)):=by
 unfold rngD at h
 rw[aA5] at h
 have hi:i<n:=by
  have:=(aA1 (l:=(List.range n).map λ(i:Nat)=>PyData.int (lo+(i:Int)))).mp (by rw[aA5];exact h)
  obtain⟨q,_⟩:=this
  simpa using q
 rw[aA0 (by simpa using hi)] at h
 simp at h
 exact⟨hi,h.symm⟩
theorem atd{G:Hp}{lo:Int}{n:Nat}:ItOk G (Itr lo n) (rngD lo n):=by
 refine⟨λi G' H' g h hi=>?_,λi G' H' g h hi=>?_,λi G' H' x H'' d g h ft hd y=>?_⟩
 ·rw[adb] at hi;exact hi
 ·rw[adb] at hi;exact Nat.le_of_eq hi.symm
 ·obtain⟨e,y⟩:=y
  subst e y
  rw[(am9 hd).2]
  exact⟨G',Out.refl h (.int _)⟩
def alu(ds:List PyData)(R:List PyData->Prop):Prop:=∃ j:Int,ds=[.int j]/\-(2 ^ 62)<=j/\j<2 ^ 62/\R (rngD 0 j.toNat)
def alv(ds:List PyData)(R:List PyData->Prop):Prop:=∃ i j:Int,ds=[.int i,.int j]/\(-(2 ^ 62)<=i/\i<2 ^ 62/\-(2 ^ 62)<=j/\j<2 ^ 62)/\R (rngD i (j-i).toNat)
theorem avm{a:TA}(h:EvA B a env λds e=>alu ds λxs=>QI xs e):EvI B (aqp a) env QI:=λσ G H F R I k =>
 h σ G H F _ I λvs i n o ds c q p m l=>by
  obtain⟨j,d,f,g,b⟩:=l
  subst d
  obtain rfl:vs=[V.int j]:=Rps.ints_inv (ns:=[j]) m
  exact⟨j,rfl,f,g,k _ i n o _ c q p atd b⟩
theorem avn{a:TA}(h:EvA B a env λds e=>alv ds λxs=>QI xs e):EvI B (awv a) env QI:=λσ G H F R I k =>
 h σ G H F _ I λvs g n o ds c q p m l=>by
  obtain⟨i,j,d,f,b⟩:=l
  subst d
  obtain rfl:vs=[V.int i,V.int j]:=Rps.ints_inv (ns:=[i,j]) m
  exact⟨i,j,rfl,f,k _ g n o _ c q p atd b⟩
theorem a03{j:Int}{R:List PyData->Prop}(a : -4611686018427387904<=j)(b:j<4611686018427387904)(h:R (rngD 0 j.toNat)):alu [.int j] R:=⟨j,rfl,by lia,by lia,h⟩
theorem a04{a b:Int}{R:List PyData->Prop}(c : -4611686018427387904<=a/\a<4611686018427387904/\-4611686018427387904<=b/\b<4611686018427387904)(h:R (rngD a (b-a).toNat)):alv [.int a,.int b] R:=⟨a,b,rfl,by lia,h⟩
theorem abo{lo:Int}{n:Nat}(J:Nat->En->Prop)(a:J 0 env)(hs:∀ i e,i<n->J i e->EvG B g (.st (.int (lo+(i:Int)))) e λb=>EvS B tb { D' with nx:=J (i+1),ct:=J (i+1),bk:=D'.nx } b)(hd:∀ e,J n e->D'.nx e):ForV B g tb D' (rngD lo n) env :=
 ⟨J,a,λi d e h j=>by obtain⟨hi,rfl⟩:=am9 h;exact hs i e hi j,λe j=>hd e (by rw[adb] at j;exact j)⟩
theorem acw{α:Type}{f : α->PyData}{xs:List α}(J:Nat->En->Prop)(a:J 0 env)(hs:∀ i x e,xs[i]?=some x->J i e->EvG B g (.st (f x)) e λb=>EvS B tb { D' with nx:=J (i+1),ct:=J (i+1),bk:=D'.nx } b)(hd:∀ e,J xs.length e->D'.nx e):ForV B g tb D' (xs.map f) env :=
 ⟨J,a,λi d e h j=>by
  rw[aA5] at h
  cases hx:xs[i]? with
  |none=>rw[hx] at h;cases h
  |some x=>rw[hx] at h;cases h;exact hs i x e hx j,λe j=>hd e (by rw[aA3] at j;exact j)⟩
end
theorem ah9{B:Bs}{a b:TS}{D':VEnds}{env:En}(h:∀ c:TS,c=b->EvS B a { D' with nx:=λe=>EvS B c D' e } env):EvS B (tSeq a b) D' env:=ayd (h b rfl)
theorem apk{B:Bs}{c b:TS}{D':VEnds}{env:En}(e:c=b)(h:EvS B b D' env):EvS B c D' env:=by rw[e];exact h
@[elab_as_elim] theorem exS1 {b:Type} {σ:Type} {f : b->σ} {p : b->Prop} {a : σ->Prop} (s : σ) (h:∃ x0,s=f x0/\p x0) (k:∀ x0,p x0->a (f x0)):a s:=by
 obtain⟨x0,e,h⟩:=h
 rw[e];exact k _ h
@[elab_as_elim] theorem exE1 {b:Type} {σ:Type} {f : b->σ} {a : σ->Prop} (s : σ) (h:∃ x0,s=f x0) (k:∀ x0,a (f x0)):a s:=by
 obtain⟨x0,e⟩:=h
 rw[e];exact k _
@[elab_as_elim] theorem exS2 {c:Type} {d:Type} {σ:Type} {f : c->d->σ} {p : c->d->Prop} {a : σ->Prop} (s : σ) (h:∃ x0 b,s=f x0 b/\p x0 b) (k:∀ x0 b,p x0 b->a (f x0 b)):a s:=by
 obtain⟨x0,b,e,h⟩:=h
 rw[e];exact k _ _ h
@[elab_as_elim] theorem exE2 {c:Type} {d:Type} {σ:Type} {f : c->d->σ} {a : σ->Prop} (s : σ) (h:∃ x0 b,s=f x0 b) (k:∀ x0 b,a (f x0 b)):a s:=by
 obtain⟨x0,b,e⟩:=h
 rw[e];exact k _ _
@[elab_as_elim] theorem exS3 {d:Type} {i:Type} {g:Type} {σ:Type} {f : d->i->g->σ} {p : d->i->g->Prop} {a : σ->Prop} (s : σ) (h:∃ x0 b c,s=f x0 b c/\p x0 b c) (k:∀ x0 b c,p x0 b c->a (f x0 b c)):a s:=by
 obtain⟨x0,b,c,e,h⟩:=h
 rw[e];exact k _ _ _ h
@[elab_as_elim] theorem exS4 {i:Type} {l:Type} {j:Type} {g:Type} {σ:Type} {f : i->l->j->g->σ} {p : i->l->j->g->Prop} {a : σ->Prop} (s : σ) (h:∃ x0 b c d,s=f x0 b c d/\p x0 b c d) (k:∀ x0 b c d,p x0 b c d->a (f x0 b c d)):a s:=by
 obtain⟨x0,b,c,d,e,h⟩:=h
 rw[e];exact k _ _ _ _ h
@[elab_as_elim] theorem exS5 {l:Type} {n:Type} {m:Type} {i:Type} {j:Type} {σ:Type} {f : l->n->m->i->j->σ} {p : l->n->m->i->j->Prop} {a : σ->Prop} (s : σ) (h:∃ x0 b d g c,s=f x0 b d g c/\p x0 b d g c) (k:∀ x0 b d g c,p x0 b d g c->a (f x0 b d g c)):a s:=by
 obtain⟨x0,b,d,g,c,e,h⟩:=h
 rw[e];exact k _ _ _ _ _ h
@[elab_as_elim] theorem exE5 {i:Type} {n:Type} {m:Type} {j:Type} {l:Type} {σ:Type} {f : i->n->m->j->l->σ} {a : σ->Prop} (s : σ) (h:∃ x0 b d g c,s=f x0 b d g c) (k:∀ x0 b d g c,a (f x0 b d g c)):a s:=by
 obtain⟨x0,b,d,g,c,e⟩:=h
 rw[e];exact k _ _ _ _ _
@[elab_as_elim] theorem exS6 {l:Type} {q:Type} {m:Type} {j:Type} {o:Type} {n:Type} {σ:Type} {f : l->q->m->j->o->n->σ} {p : l->q->m->j->o->n->Prop} {a : σ->Prop} (s : σ) (h:∃ x0 g i d c b,s=f x0 g i d c b/\p x0 g i d c b) (k:∀ x0 g i d c b,p x0 g i d c b->a (f x0 g i d c b)):a s:=by
 obtain⟨x0,g,i,d,c,b,e,h⟩:=h
 rw[e];exact k _ _ _ _ _ _ h
@[elab_as_elim] theorem exS7 {m:Type} {u:Type} {n:Type} {l:Type} {r:Type} {o:Type} {q:Type} {σ:Type} {f : m->u->n->l->r->o->q->σ} {p : m->u->n->l->r->o->q->Prop} {a : σ->Prop} (s : σ) (h:∃ x0 i j g d b c,s=f x0 i j g d b c/\p x0 i j g d b c) (k:∀ x0 i j g d b c,p x0 i j g d b c->a (f x0 i j g d b c)):a s:=by
 obtain⟨x0,i,j,g,d,b,c,e,h⟩:=h
 rw[e];exact k _ _ _ _ _ _ _ h
@[elab_as_elim] theorem exE7 {m:Type} {r:Type} {n:Type} {l:Type} {q:Type} {o:Type} {p:Type} {σ:Type} {f : m->r->n->l->q->o->p->σ} {a : σ->Prop} (s : σ) (h:∃ x0 i j g d b c,s=f x0 i j g d b c) (k:∀ x0 i j g d b c,a (f x0 i j g d b c)):a s:=by
 obtain⟨x0,i,j,g,d,b,c,e⟩:=h
 rw[e];exact k _ _ _ _ _ _ _
@[elab_as_elim] theorem exS8 {o:Type} {w:Type} {q:Type} {n:Type} {v:Type} {r:Type} {u:Type} {m:Type} {σ:Type} {f : o->w->q->n->v->r->u->m->σ} {p : o->w->q->n->v->r->u->m->Prop} {a : σ->Prop} (s : σ) (h:∃ x0 j l g d b c i,s=f x0 j l g d b c i/\p x0 j l g d b c i) (k:∀ x0 j l g d b c i,p x0 j l g d b c i->a (f x0 j l g d b c i)):a s:=by
 obtain⟨x0,j,l,g,d,b,c,i,e,h⟩:=h
 rw[e];exact k _ _ _ _ _ _ _ _ h
theorem big{n:Nat}(h:n<=1000000):n<sizeLine:=aE2 h (by decide)
section
variable{B B1:Bs}{G H G' H':Hp}{σ σI:St}{env envI:En}{F F':Nat->Addr->Prop}{v:V}{s:Sl}{Fv:Addr->Prop}{inv:Nat->Option Nat}
open Classical in
def acs(H:Hp)(F:Nat->Addr->Prop)(inv:Nat->Option Nat):Hp:=λa=>if ∃ i j,inv i=some j/\F i a then none else H a
theorem af7{i j:Nat}{a:Addr}(h:inv i=some j)(f:F i a):acs H F inv a=none:=aF5 ⟨i,j,h,f⟩
theorem aia{a:Addr}(h:∀ i j,inv i=some j->¬ F i a):acs H F inv a=H a:=aF6 λ⟨i,j,x,y⟩=>h i j x y
theorem adq:Same (acs H F inv) H:=λa o e=>by
 unfold acs at e
 split at e
 ·cases e
 ·exact e
theorem VI.enter(I:VI B G H σ env F)(inj:∀ i b j,inv i=some j->inv b=some j->i=b)(ln : σI.length=envI.length)
  (sl:∀ j s,envI[j]?=some (some s)->∃ v,σI[j]?=some (some v)/\((∃ d,s=.st d/\Rp G v d/\∀ i,inv i ≠ some j)\/(∃ ns a,s=.scr ns/\v=.ref a/\SqL B.K G a (ns.map V.int)/\∀ i,inv i ≠ some j) ∨
   ∃ i A,inv i=some j/\s=.io A/\σ[i]?=some (some v)/\(env[i]?=some (some (.own A))\/env[i]?=some (some (.io A))))) :
  VI ⟨B.K,G,H,acs H F inv,σI,λj a=>∃ i,inv i=some j/\F i a⟩ G H σI envI (λj a=>∃ i,inv i=some j/\F i a) where
 gh:=I.gh
 g0:=Same.refl _
 gn:=λa o e=>.inl e
 rs:=adq
 rb:=adq
 bh:=λa o e=>⟨o,e⟩
 fg:=λj a ⟨i,_,z⟩=>I.fg i a z
 fr:=λj a ⟨i,h,z⟩=>af7 h z
 fd:=λj k a ⟨i,h,z⟩ ⟨b,h',m⟩=>by
  have:=I.fd i b a z m
  subst this
  rw[h] at h';cases h';rfl
 fo:=λj a ⟨i,h,z⟩=>I.fo i a z
 sl:=λj s e=>by
  obtain⟨v,l,q⟩:=sl j s e
  refine⟨v,l,?_⟩
  rcases q with ⟨d,rfl,r,n⟩|⟨ns,a,rfl,rfl,q,n⟩|⟨i,A,hi,rfl,hs,f⟩
  ·exact⟨r,λa ⟨i,h,_⟩=>n i h⟩
  ·exact⟨⟨a,rfl,q⟩,λa ⟨i,h,_⟩=>n i h⟩
  ·refine⟨?_,λa z=>.inl z,l⟩
   have p:(λa=>∃ b,inv b=some j/\F b a)=F i:=by
    funext a
    exact propext ⟨λ⟨b,h,z⟩=>by rw[inj i b j hi h];exact z,λz=>⟨i,hi,z⟩⟩
   show A.P G H v (λa=>∃ b,inv b=some j/\F b a)
   rw[p]
   rcases f with f|f
   ·obtain⟨u,c,g⟩:=I.sl i _ f
    rw[hs] at c;cases c;exact g.1
   ·obtain⟨u,c,g⟩:=I.sl i _ f
    rw[hs] at c;cases c;exact g.1
 ln:=ln
 ft:=I.ft
theorem VI.leave(I:VI B G H σ env F)(inj:∀ i p j,inv i=some j->inv p=some j->i=p)(r:B1.G=G)(m:B1.H=H)(C:∀ a o,H a=some o->(∀ i j,inv i=some j->¬ F i a)->B1.R a=some o)
  (L:∀ i j,inv i=some j->∀ a,B1.F j a->F i a) (E:∀ i j,inv i=some j->B1.S[j]? = σ[i]?) (J:VI B1 G' H' σI envI F') (io:∀ i j,inv i=some j->∃ A',envI[j]?=some (some (.io A'))) {env2:En} (O:env2.length=env.length)
  (N:∀ i s,env2[i]?=some (some s)->(inv i=none/\env[i]?=some (some s))\/∃ j A A',inv i=some j/\envI[j]?=some (some (.io A'))/\((env[i]?=some (some (.own A))/\s=.own A')\/(env[i]?=some (some (.io A))/\s=.io A'))) :
  VI B G' H' σ env2 (λi a=>match inv i with|some j=>F' j a|none=>F i a):=by
 have f:∀ a o,G' a=some o->G a=some o\/H a=none:=λa o e=>by
  have:=J.gn a o e
  rw[r,m] at this;exact this
 have fi:∀ i j a,inv i=some j->F' j a->F i a\/H a=none:=λi j a hi z=>by
  obtain⟨A',e⟩:=io i j hi
  obtain⟨v,_,q⟩:=J.sl j _ e
  rcases q.2.1 a z with y|y
  ·exact .inl (L i j hi a y)
  ·rw[m] at y;exact .inr y
 have kp:∀ a o,H a=some o->(∀ i j,inv i=some j->¬ F i a)->H' a=some o:=λa o e n=>J.rs a o (C a o e n)
 refine⟨J.gh,I.g0.trans (r ▸ J.g0),λa o e=>?_,λa o e=>?_,I.rb,λa o e=>?_,λi a z=>?_,λi a z=>?_,λi k a y z=>?_,λi a z=>?_,λi t e=>?_,by rw[O];exact I.ln,J.ft⟩
 ·rcases f a o e with e|e
  ·exact I.gn a o e
  ·exact .inr (I.no_b e)
 ·refine kp a o (I.rs a o e) λi j _ z=>?_
  rw[I.fr i a z] at e;cases e
 ·obtain⟨D,b⟩:=I.bh a o e
  exact J.bh a D (by rw[m];exact b)
 ·cases hi:inv i with
  |some j=>rw[hi] at z;exact J.fg j a z
  | none =>
   rw[hi] at z
   cases e:G' a with
   |none=>rfl
   | some o =>
    rcases f a o e with e|e
    ·rw[I.fg i a z] at e;cases e
    ·exact absurd z (I.no_f e i)
 ·cases hi:inv i with
  | some j =>
   rw[hi] at z
   rcases fi i j a hi z with y|y
   ·exact I.fr i a y
   ·exact I.no_r y
  |none=>rw[hi] at z;exact I.fr i a z
 ·cases hi:inv i with
  | some j =>
   rw[hi] at y
   cases hk:inv k with
   | some l =>
    rw[hk] at z
    have:=J.fd j l a y z
    subst this
    exact inj i k j hi hk
   | none =>
    rw[hk] at z
    rcases fi i j a hi y with x|x
    ·exact I.fd i k a x z
    ·exact absurd z (I.no_f x k)
  | none =>
   rw[hi] at y
   cases hk:inv k with
   | some l =>
    rw[hk] at z
    rcases fi k l a hk z with x|x
    ·exact I.fd i k a y x
    ·exact absurd y (I.no_f x i)
   |none=>rw[hk] at z;exact I.fd i k a y z
 ·cases hi:inv i with
  |some j=>rw[hi] at z;exact J.fo j a z
  | none =>
   rw[hi] at z
   obtain⟨o,e⟩:=I.fo i a z
   exact J.bh a o (by rw[m];exact e)
 ·rcases N i t e with ⟨hi,b⟩|⟨j,A,A',hi,b,d⟩
  ·obtain⟨v,u,q⟩:=I.sl i t b
   refine⟨v,u,?_⟩
   simp only[hi]
   refine q.mono (r ▸ J.g0) λa o z y=>kp a o y λp j' g K=>?_
   have:=I.fd i p a z K
   subst this
   rw[hi] at g;cases g
  ·obtain⟨v,u,q⟩:=J.sl j _ b
   have w : σ[i]?=some (some v):=by rw[← E i j hi];exact q.2.2
   refine⟨v,w,?_⟩
   simp only[hi]
   rcases d with ⟨d,rfl⟩|⟨d,rfl⟩
   ·obtain⟨M,_,h⟩:=I.sl i _ d
    refine⟨q.1,λa z=>?_⟩
    rcases fi i j a hi z with y|y
    ·exact h.2 a y
    ·exact I.no_b y
   ·obtain⟨M,c,h⟩:=I.sl i _ d
    rw[w] at c;cases c
    refine⟨q.1,λa z=>?_,h.2.2⟩
    rcases fi i j a hi z with y|y
    ·exact h.2.1 a y
    ·exact .inr (I.no_b y)
theorem RsX.leave(I:VI B G H σ env F)(b:B1.H=H)(r:RsX B1 G' H' v Fv s F'):RsX B G' H' v Fv s (λi a=>match inv i with|some j=>F' j a|none=>F i a):=by
 have hn:∀ a,Fv a->H a=none:=λa z=>b ▸ r.fb a z
 refine⟨r.ok,λa z=>I.no_b (hn a z),r.fg,r.fo,λi a z y=>?_⟩
 cases hi:inv i with
 |some j=>rw[hi] at y;exact r.fd j a z y
 |none=>rw[hi] at y;exact I.no_f (hn a z) i y
end
abbrev VP:=List Sl->(Sl->Prop)->Prop
abbrev VIo:=Own->List Sl->(Own->Sl->Prop)->Prop
def noF:Nat->Addr->Prop:=λ_ _=>False
def bsP(K:Frag)(G H:Hp)(vs:List V):Bs:=⟨K,G,H,H,vs.map some,noF⟩
def aw4(K:Frag)(G:Hp):V->Sl->Prop
 |v,.st d=>Rp G v d
 |v,.scr ns=>∃ a,v=.ref a/\SqL K G a (ns.map V.int)
 |_,_=>False
inductive ArgsOk(K:Frag)(G:Hp):List V->List Sl->Prop
 |nil:ArgsOk K G [] []
 |cons {v:V} {s:Sl} {vs:List V} {ss:List Sl}:aw4 K G v s->ArgsOk K G vs ss->ArgsOk K G (v::vs) (s::ss)
theorem ArgsOk.length{K:Frag}{G:Hp}:∀{vs:List V}{ss:List Sl},ArgsOk K G vs ss->vs.length=ss.length
 |_,_,.nil=>rfl
 |_,_,.cons _ t=>by simp[ArgsOk.length t]
theorem ArgsOk.get{K:Frag}{G:Hp}:∀{vs:List V}{ss:List Sl}{i:Nat}{s:Sl},ArgsOk K G vs ss->ss[i]?=some s->∃ v,vs[i]?=some v/\aw4 K G v s
 |_,_,_,_,.nil,e=>by simp at e
 |_,_,0,_,.cons r _,e=>by simp at e;subst e;exact⟨_,rfl,r⟩
 | _,_,i+1,s,.cons _ t,e=>by
  obtain⟨u,a,b⟩:=ArgsOk.get (i:=i) (s:=s) t (by simpa using e)
  exact⟨u,by simpa using a,b⟩
theorem ArgsOk.of{K:Frag}{G:Hp}:∀{vs:List V}{ds:List PyData},Rps G vs ds->ArgsOk K G vs (ds.map Sl.st)
 |_,_,.nil=>.nil
 |_,_,.cons r t=>.cons r (ArgsOk.of t)
theorem apl{α:Type}{xs:List α}{n i:Nat}{s : α}(e:(xs.map some++List.replicate n none)[i]?=some (some s)):xs[i]?=some s:=by
 by_cases h:i<xs.length
 ·rw[aC3 (by simpa using h),aA5] at e
  rw[aA0 h] at e ⊢
  simpa using e
 ·rw[aC8 (by simpa using h),aH7] at e
  split at e <;> cases e
theorem apm{α:Type}{xs:List α}{n i:Nat}{s : α}(e:xs[i]?=some s):(xs.map some++List.replicate n none)[i]?=some (some s):=by
 have h:i<xs.length:=(aA1.mp e).1
 rw[aC3 (by simpa using h),aA5,e];rfl
def spP(K:Frag)(f:VP):Sp:=λvs H Q _=>∃ G ss Q',Same G H/\FT G H/\ArgsOk K G vs ss/\f ss Q'/\∀ s,Q' s->∀ v G' H' Fv,Out G H v G' H' s Fv->Q v H'
structure OutI(G H R:Hp)(F0:Addr->Prop)(v0:V)(A':Own)(s:Sl)(v:V)(G' H':Hp)(F' Fv:Addr->Prop):Prop where
 gg:Same G G'
 gh:Same G' H'
 ft:FT G' H'
 gn:∀ a o,G' a=some o->G a=some o\/H a=none
 rs:Same R H'
 bh:∀ a o,H a=some o->∃ o',H' a=some o'
 ap:A'.P G' H' v0 F'
 fi:∀ a,F' a->F0 a\/H a=none
 fg:∀ a,F' a->G' a=none
 ok:RsOk G' H' v Fv s
 fv:∀ a,Fv a->H a=none/\G' a=none/\(∃ o,H' a=some o)/\¬ F' a
def spI(K:Frag)(f:VIo):Sp:=λvs H Q _=>∃ v0 vr G R A ss F0 Q',vs=v0::vr/\Same G H/\FT G H/\Same R H/\A.P G H v0 F0/\(∀ a,F0 a->G a=none)/\(∀ a,F0 a->R a=none)/\ArgsOk K G vr ss /\
 f A ss Q'/\∀ A' s,Q' A' s->∀ v G' H' F' Fv,OutI G H R F0 v0 A' s v G' H' F' Fv->Q v H'
theorem abz{K:Frag}{f:VP}{c:TS}{N:List Str}{vs:List V}{H:Hp}{Q:VK}{E:XK}(h:spP K f vs H Q E)
  (hb:∀ ss b,f ss b->∀ B,B.K=K->EvS B c { nx:=λ_=>b (.st .none),rt:=λs _=>b s } (ss.map some++List.replicate (N.length-ss.length) none)):c { nx:=λ_ H'=>Q .non H',rt:=Q } (L2.start N vs) H:=by
 obtain⟨G,ss,b,gh,ft,l,hf,m⟩:=h
 have fin:∀{σ G' H' F env v Fv s},VI (bsP K G H vs) G' H' σ env F->RsX (bsP K G H vs) G' H' v Fv s F->Out G H v G' H' s Fv:=λI r =>
  ⟨I.g0,I.gh,I.rs,I.gn,r.fb,r.fg,r.fo,r.ok,λ_=>I.ft⟩
 refine hb ss _ hf (bsP K G H vs) rfl (L2.start N vs) G H noF _ ?_ ⟨λσ G' H' F env I g q=>m _ q _ _ _ _ (fin I (aea .non)),λσ G' H' F env v Fv s I g r q=>m _ q v G' H' Fv (fin I r),λ_ _ _ _ _ _ _ q=>q,λ_ _ _ _ _ _ _ q=>q⟩
 refine⟨gh,Same.refl _,λa o e=>.inl e,Same.refl _,Same.refl _,λa o e=>⟨o,e⟩,λi a z=>z.elim,λi a z=>z.elim,λi j a z=>z.elim,λi a z=>z.elim,λi s e=>?_,?_,ft⟩
 ·obtain⟨v,n,q⟩:=l.get (apl e)
  refine⟨v,by unfold L2.start;exact apm n,?_⟩
  cases s with
  |st d=>exact⟨q,λa z=>z⟩
  |scr ns=>exact⟨q,λa z=>z⟩
  |own A=>exact q.elim
  |io A=>exact q.elim
 ·unfold L2.start;simp[l.length]
theorem air{K:Frag}{f:VIo}{n:TS}{N:List Str}{vs:List V}{H:Hp}{Q:VK}{E:XK}(h:spI K f vs H Q E)
  (hb:∀ A ss c,f A ss c->∀ B,B.K=K->EvS B n { nx:=λe=>∃ A',e[0]?=some (some (.io A'))/\c A' (.st .none),rt:=λs e=>∃ A',e[0]?=some (some (.io A'))/\c A' s } (some (.io A)::(ss.map some++List.replicate (N.length-(ss.length+1)) none))):n { nx:=λ_ H'=>Q .non H',rt:=Q } (L2.start N vs) H:=by
 obtain⟨v0,b,G,R,A,ss,F0,c,rfl,gh,ft,p,ap,fg,fr,l,hf,M⟩:=h
 have O:(v0::b).length=ss.length+1:=by simp[l.length]
 refine hb A ss _ hf ⟨K,G,H,R,(v0::b).map some,λi a=>i=0/\F0 a⟩ rfl (L2.start N (v0::b)) G H (λi a=>i=0/\F0 a) _ ?_ ?_
 ·refine⟨gh,Same.refl _,λa o e=>.inl e,p,p,λa o e=>⟨o,e⟩,λi a z=>fg a z.2,λi a z=>fr a z.2,λi j a z y=>by rw[z.1,y.1],λi a z=>A.dom ap a z.2,λi s e=>?_,?_,ft⟩
  ·cases i with
   | zero =>
    simp at e
    subst e
    refine⟨v0,rfl,?_,λa z=>.inl z,rfl⟩
    have:(λa=>0=0/\F0 a)=F0:=by funext a;simp
    rw[this];exact ap
   | succ i =>
    have D:(ss.map some++List.replicate (N.length-(ss.length+1)) none)[i]?=some (some s):=by simpa using e
    obtain⟨v,C,q⟩:=l.get (apl D)
    refine⟨v,?_,?_⟩
    ·unfold L2.start;exact apm (by simpa using C)
    ·cases s with
     |st d=>exact⟨q,λa z=>by cases z.1⟩
     |scr ns=>exact⟨q,λa z=>by cases z.1⟩
     |own A=>exact q.elim
     |io A=>exact q.elim
  ·unfold L2.start;simp[l.length]
 ·have fin:∀ σ G' H' F env v Fv s,VI ⟨K,G,H,R,(v0::b).map some,λi a=>i=0/\F0 a⟩ G' H' σ env F->RsX ⟨K,G,H,R,(v0::b).map some,λi a=>i=0/\F0 a⟩ G' H' v Fv s F->(∃ A',env[0]?=some (some (.io A'))/\c A' s)->Q v H':=by
   intro σ G' H' F env v Fv s I r ⟨A',e,q⟩
   obtain⟨u,x,w,J,L⟩:=I.sl 0 _ e
   have:u=v0:=by
    have m:((v0::b).map some)[0]?=some (some u):=L
    simpa using m.symm
   subst this
   exact M A' s q v G' H' (F 0) Fv ⟨I.g0,I.gh,I.ft,I.gn,I.rs,I.bh,w,λa z=>by
    rcases J a z with y|y
    ·exact .inl y.2
    ·exact .inr y,I.fg 0,r.ok,λa z=>⟨r.fb a z,r.fg a z,r.fo a z,r.fd 0 a z⟩⟩
  refine⟨λσ G' H' F env I g q=>fin σ G' H' F env .non _ (.st .none) I (aea .non) q,λσ G' H' F env v Fv s I g r q=>fin σ G' H' F env v Fv s I r q,λ_ _ _ _ _ _ _ q=>q,λ_ _ _ _ _ _ _ q=>q⟩
section
variable{B:Bs}{env:En}{Q':PyData->En->Prop}{QO:Sl->En->Prop}{K:Frag}{E:XK}
theorem akj{f:VP}{t:TA}(h:EvA B t env λds b=>f (ds.map Sl.st) λs=>QO s b):EvO B (aco (spP K f) [] E t) env QO:=λσ G H F Q I k=>by
 unfold aco
 simp only[aF0]
 exact h σ G H F _ I λvs d l i ds b a j g c=>⟨d,_,_,a.gh,a.ft,ArgsOk.of g,c,λs q v G' H' Fv o=>k v G' H' i Fv s b (a.out o).1 (j.trans o.gg) (a.out o).2 q⟩
theorem avo{f:VP}{t:TA}(h:EvA B t env λds a=>f (ds.map Sl.st) λs=>FQ s λd=>Q' d a):Ev B (aco (spP K f) [] E t) env Q':=abu (akj h)
theorem ate{f:VP}{t:TA}{i:Nat}{ns:List Int}(e:env[i]?=some (some (.scr ns)))(u:B.K=K)(h:EvA B t env λds c=>f (.scr ns::ds.map Sl.st) λs=>QO s c):EvO B (aco (spP K f) [] E (abb (tVar i) t)) env QO:=λσ G H F Q I k=>by
 subst u
 unfold aco
 simp only[aF0]
 obtain⟨v0,m,⟨a,j,p⟩,_⟩:=I.sl i _ e
 refine⟨v0,m,h σ G H F _ I λvs l w r ds c b d n g=>⟨l,_,_,b.gh,b.ft,.cons (s:=.scr ns) ⟨a,j,d.seq p⟩ (ArgsOk.of n),g,λs q v G' H' Fv o=>k v G' H' r Fv s c (b.out o).1 (d.trans o.gg) (b.out o).2 q⟩⟩
def reS:Sl->Own->Sl
 | .io _,A=>.io A
 |_,A=>.own A
theorem akk{f:VIo}{t:TA}{i:Nat}(S:∃ s,env[i]?=some (some s))(h:EvA B t env λds C=>∃ r A,C[i]?=some (some r)/\(r=.own A\/r=.io A)/\f A (ds.map Sl.st) λA' s=>QO s (C.set i (some (reS r A')))):EvO B (aco (spI K f) [] E (abb (tVar i) t)) env QO:=λσ G H F Q I k=>by
 unfold aco
 simp only[aF0]
 obtain⟨s,e⟩:=S
 obtain⟨v0,O,_⟩:=I.sl i _ e
 refine⟨v0,O,h σ G H F _ I λvs M p m ds C w U T ⟨r,A,N,hs,R⟩=>?_⟩
 obtain⟨W,D,q⟩:=w.sl i _ N
 rw[O] at D;cases D
 have ap:A.P M p v0 (m i):=by
  rcases hs with rfl|rfl
  ·exact q.1
  ·exact q.1
 let inv:Nat->Option Nat:=λj=>if j=i then some 0 else none
 have d:inv i=some 0:=aF5 rfl
 have g:∀ j,j ≠ i->inv j=none:=λj h=>aF6 h
 have c:∀ j l,inv j=some l->j=i/\l=0:=λj l h=>by
  by_cases hj:j=i
  ·subst hj;rw[d] at h;cases h;exact⟨rfl,rfl⟩
  ·rw[g j hj] at h;cases h
 refine⟨v0,vs,M,acs p m inv,A,_,m i,_,rfl,w.gh,w.ft,adq,ap,w.fg i,λa z=>af7 d z,ArgsOk.of T,R,λA' s q v G' H' F' Fv o=>?_⟩
 have hi:i<C.length:=(aA1.mp N).1
 have J:VI ⟨K,M,p,acs p m inv,[some v0],λj a=>j=0/\m i a⟩ G' H' [some v0] [some (.io A')] (λj a=>j=0/\F' a):=by
  refine⟨o.gh,o.gg,o.gn,o.rs,adq,o.bh,λj a z=>o.fg a z.2,λj a z=>?_,λj l a y z=>by rw[y.1,z.1],λj a z=>A'.dom o.ap a z.2,λj s e=>?_,rfl,o.ft⟩
  ·rcases o.fi a z.2 with y|y
   ·exact af7 d y
   ·cases e:acs p m inv a with
    |none=>exact e
    |some u=>rw[adq a u e] at y;cases y
  ·cases j with
   | zero =>
    simp at e
    subst e
    refine⟨v0,rfl,?_,λa z=>?_,rfl⟩
    ·have:(λa=>0=0/\F' a)=F':=by funext a;simp
     rw[this];exact o.ap
    ·rcases o.fi a z.2 with y|y
     ·exact .inl ⟨rfl,y⟩
     ·exact .inr y
   |succ j=>simp at e
 have L:=w.leave (inv:=inv) (env2:=C.set i (some (reS r A'))) (λa b j ha hb=>by rw[(c a j ha).1,(c b j hb).1]) rfl rfl (λa u e n=>by show acs p m inv a=_;rw[aia n];exact e)
  (λa j ha x z=>by rw[(c a j ha).1];exact z.2) (λa j ha=>by rw[(c a j ha).1,(c a j ha).2,O];rfl) J (λa j ha=>⟨A',by rw[(c a j ha).2];rfl⟩) (by simp) λj s' e=>by
   by_cases hj:j=i
   ·subst hj
    rw[aD2,aF5 rfl,aF5 hi] at e
    cases e
    refine .inr ⟨0,A,A',d,rfl,?_⟩
    rcases hs with rfl|rfl
    ·exact .inl ⟨N,rfl⟩
    ·exact .inr ⟨N,rfl⟩
   ·rw[aD2,aF6 (λz=>hj z.symm)] at e
    exact .inl ⟨g j hj,e⟩
 have X:RsX ⟨K,M,p,acs p m inv,[some v0],λj a=>j=0/\m i a⟩ G' H' v Fv s (λj a=>j=0/\F' a):=⟨o.ok,λa z=>(o.fv a z).1,λa z=>(o.fv a z).2.1,λa z=>(o.fv a z).2.2.1,λj a z y=>(o.fv a z).2.2.2 y.2⟩
 exact k v G' H' _ Fv s _ L (U.trans o.gg) (X.leave (inv:=inv) w rfl) q
end
def ais:Option Sl->Option Sl
 |some (.own A)=>some (.io A)
 |s=>s
def aas(src:List (Option Nat))(env:En):En:=src.map λo=>match o with|some j=>ais ((env[j]?).getD none)|none=>none
def isIo:Option Sl->Bool
 |some (.io _)=>true
 |_=>false
def idxE(i:Nat):List (Option Nat)->Nat->Option Nat
 |[],_=>none
 |o::r,k=>if o=some i then some k else idxE i r (k+1)
def ahj(src:List (Option Nat))(e:En)(i:Nat)(s:Option Sl):Option Sl :=
 match s with
 |some (.own A)=>(match idxE i src 0 with|some j=>(match e[j]? with|some (some (.io A'))=>some (.own A')|_=>none)|none=>some (.own A))
 |some (.io A)=>(match idxE i src 0 with|some j=>(match e[j]? with|some (some (.io A'))=>some (.io A')|_=>none)|none=>some (.io A))
 |s=>s
def afw(src:List (Option Nat))(e:En):Nat->En->En
 |_,[]=>[]
 |k,s::r=>ahj src e k s::afw src e (k+1) r
def ait(src:List (Option Nat))(e1 e:En):En:=afw src e 0 e1
theorem af8(src:List (Option Nat))(e:En):∀(k:Nat)(l:En)(i:Nat),(afw src e k l)[i]?=(l[i]?).map (ahj src e (k+i))
 |_,[],i=>by simp[afw]
 |k,s::r,0=>by simp[afw]
 | k,s::r,i+1=>by
  have:=af8 src e (k+1) r i
  simp only[afw,aI1,this]
  rw[show k+1+i=k+(i+1) by lia]
theorem ae9{i:Nat}:∀{src:List (Option Nat)}{k j:Nat},idxE i src k=some j->k<=j/\src[j-k]?=some (some i)
 |[],_,_,h=>by cases h
 | o::r,k,j,h=>by
  unfold idxE at h
  by_cases e:o=some i
  ·rw[aF5 e] at h;cases h
   exact⟨aA6 _,by simp[e]⟩
  ·rw[aF6 e] at h
   obtain⟨b,a⟩:=ae9 h
   refine⟨by lia,?_⟩
   rw[show j-k=(j-(k+1))+1 by lia]
   simpa using a
theorem akl{i:Nat}:∀{src:List (Option Nat)}{k:Nat},idxE i src k=none->∀ j:Nat,src[j]? ≠ some (some i)
 |[],_,_,j=>by simp
 | o::r,k,h,j=>by
  unfold idxE at h
  by_cases e:o=some i
  ·rw[aF5 e] at h;cases h
  ·rw[aF6 e] at h
   cases j with
   |zero=>simpa using e
   |succ j=>simpa using akl h j
theorem ana:∀(src:List (Option Nat)),(src.filterMap id).Nodup->∀ j j' i:Nat,src[j]?=some (some i)->src[j']?=some (some i)->j=j'
 |[],_,j,_,_,h,_=>by simp at h
 | none::r,h,j,j',i,h1,h2=>by
  cases j with
  |zero=>simp at h1
  | succ j =>
   cases j' with
   |zero=>simp at h2
   |succ j'=>rw[ana r (by simpa using h) j j' i (by simpa using h1) (by simpa using h2)]
 | some x::r,h,j,j',i,h1,h2=>by
  have h':=aI5.mp (show(x::r.filterMap id).Nodup by simpa using h)
  have b:∀ k,r[k]?=some (some x)->False:=λk c=>h'.1 (List.mem_filterMap.mpr ⟨some x,aA2 c,rfl⟩)
  cases j with
  | zero =>
   have a:x=i:=by simpa using h1
   subst a
   cases j' with
   |zero=>rfl
   |succ j'=>exact(b j' (by simpa using h2)).elim
  | succ j =>
   cases j' with
   | zero =>
    have a:x=i:=by simpa using h2
    subst a
    exact(b j (by simpa using h1)).elim
   |succ j'=>rw[ana r h'.2 j j' i (by simpa using h1) (by simpa using h2)]
def ahk:Option Sl->Bool
 |some (.own _)=>true
 |_=>false
def ioLe:En->En->Prop
 |a::r,b::s=>(isIo a=isIo b/\ahk b=false)/\ioLe r s
 |[],[]=>True
 |_,_=>False
theorem anb{x:Option Sl}(h:isIo x=true):∃ A,x=some (.io A):=by
 cases x with
 |none=>simp[isIo] at h
 | some y =>
  cases y with
  |io A=>exact⟨A,rfl⟩
  |_=>simp[isIo] at h
theorem ioLe.get:∀{a b:En}{j:Nat}{x:Option Sl},ioLe a b->a[j]?=some x->isIo x=true->∃ A,b[j]?=some (some (.io A))
 |[],_,_,_,_,e,_=>by simp at e
 |x::r,[],_,_,h,_,_=>h.elim
 | x::r,y::s,0,z,h,e,p=>by
  simp at e;subst e
  have:=h.1.1
  rw[p] at this
  obtain⟨A,q⟩:=anb this.symm
  exact⟨A,by simp[q]⟩
 | x::r,y::s,j+1,z,h,e,p=>by
  obtain⟨A,q⟩:=ioLe.get (j:=j) h.2 (by simpa using e) p
  exact⟨A,by simpa using q⟩
theorem ioLe.got:∀{a b:En}{j:Nat}{x:Option Sl},ioLe a b->b[j]?=some x->(isIo x=true->∃ A,a[j]?=some (some (.io A)))/\ahk x=false
 |[],[],_,_,_,e=>by simp at e
 |[],_::_,_,_,h,e=>h.elim
 |x::r,[],_,_,h,_=>h.elim
 | x::r,y::s,0,z,h,e=>by
  simp at e;subst e
  refine⟨λp=>?_,h.1.2⟩
  have:=h.1.1
  rw[p] at this
  obtain⟨A,q⟩:=anb this
  exact⟨A,by simp[q]⟩
 | x::r,y::s,j+1,z,h,e=>by
  obtain⟨p,q⟩:=ioLe.got (j:=j) (x:=z) h.2 (by simpa using e)
  exact⟨λt=>by obtain⟨A,u⟩:=p t;exact⟨A,by simpa using u⟩,q⟩
section
variable{B:Bs}{G H:Hp}{σ:St}{env:En}{F:Nat->Addr->Prop}
theorem VI.aside(I:VI B G H σ env F){p:Addr}{o:HO}(c:∀ xs,o ≠ .tup xs)(b:G p=none)(hf:∀ j,¬ F j p)(hb:B.H p=none):VI B G (upd H p o) σ env F where
 gh:=λa u e=>by rw[aae (aao e b)];exact I.gh a u e
 g0:=I.g0
 gn:=I.gn
 rs:=λa u e=>by rw[aae (aao e (I.b_r hb))];exact I.rs a u e
 rb:=I.rb
 bh:=λa u e=>by rw[aae (aao e hb)];exact I.bh a u e
 fg:=I.fg
 fr:=I.fr
 fd:=I.fd
 fo:=λj a z=>by rw[aae (λe:a=p=>hf j (e ▸ z))];exact I.fo j a z
 sl:=λi s e=>by
  obtain⟨v,d,q⟩:=I.sl i s e
  exact⟨v,d,q.mono (Same.refl _) λa u z y=>by rw[aae (λe:a=p=>hf i (e ▸ z))];exact y⟩
 ln:=I.ln
 ft:=λa ks e=>by
  by_cases z:a=p
  ·subst z;rw[aaf] at e;exact absurd (aC6 e) (c _)
  ·rw[aae z] at e;exact I.ft a ks e
def LcV(K:Frag)(src:List (Option Nat))(g:TG)(tif:TT)(te:TE)(ds:List PyData)(e1:En)(R:List PyData->En->Prop):Prop:=∃ J:Nat->List PyData->En->Prop,J 0 [] (aas src e1)/\(∀ i ys e,J i ys e->ioLe (aas src e1) e) /\
 (∀ i d ys e,ds[i]?=some d->J i ys e->∀ B':Bs,B'.K=K->EvG B' g (.st d) e λe2=>EvT B' tif e2 λb e3=>if b=true then Ev B' te e3 λy e4=>ys.length<=999999/\J (i+1) (ys++[y]) e4 else J (i+1) ys e3)/\∀ ys e,J ds.length ys e->R ys (ait src e1 e)
theorem afa{src:List (Option Nat)}{j:Nat}{s:Sl}(h:(aas src env)[j]?=some (some s)):∃ i t,src[j]?=some (some i)/\env[i]?=some (some t)/\ais (some t)=some s:=by
 unfold aas at h
 rw[aA5] at h
 cases e:src[j]? with
 |none=>rw[e] at h;cases h
 | some o =>
  rw[e] at h
  cases o with
  |none=>cases h
  | some i =>
   simp only[aI2,Option.some.injEq] at h
   cases e2:env[i]? with
   |none=>rw[e2] at h;cases h
   | some o2 =>
    rw[e2] at h
    cases o2 with
    |none=>cases h
    |some t=>exact⟨i,t,rfl,e2,h⟩
theorem aib{src:List (Option Nat)}{i j:Nat}{v:V}(h:src[j]?=some (some i))(a : σ[i]?=some (some v)):(pick src σ)[j]?=some (some v):=by
 unfold pick
 rw[aA5,h]
 simp[a]
theorem atf {src:List (Option Nat)} {wi:TI} {g:TG} {b1:TT} {te:TE} {QO:Sl->En->Prop} (nd:(src.filterMap id).Nodup) (h:EvI B wi env λds W=>LcV B.K src g b1 te ds W λys X=>QO (.own (OL ys)) X):EvO B (tLC src wi g b1 te) env QO:=λσ G H F Q I k=>by
 refine h σ G H F _ I λJ G1 H1 F1 ds W I1 g1 it ⟨Jv,j0,a9,js,jd⟩ p R=>?_
 let M:Nat->Bool:=λi=>match W[i]? with|some (some (.own _))=>true|some (some (.io _))=>true|_=>false
 let inv:Nat->Option Nat:=λi=>if M i=true then idxE i src 0 else none
 have E:∀ i j,inv i=some j->src[j]?=some (some i)/\M i=true:=λi j hi=>by
  by_cases hm:M i=true
  ·have f:idxE i src 0=some j:=by simpa[inv,hm] using hi
   have:=(ae9 f).2
   exact⟨by simpa using this,hm⟩
  ·simp[inv,hm] at hi
 have a4:∀ i j,src[j]?=some (some i)->M i=true->inv i=some j:=λi j hs hm=>by
  have e0:inv i=idxE i src 0:=by simp[inv,hm]
  cases e:idxE i src 0 with
  |none=>exact absurd hs (akl e j)
  | some j' =>
   have:=(ae9 e).2
   rw[e0,e,ana src nd j j' i hs (by simpa using this)]
 have inj:∀ i c j,inv i=some j->inv c=some j->i=c:=λi c j Y C=>by
  have a:=(E i j Y).1
  rw[(E c j C).1] at a
  simpa using a.symm
 have b3:∀ i,M i=true->∃ A,W[i]?=some (some (.own A))\/W[i]?=some (some (.io A)):=λi hm=>by
  cases e:W[i]? with
  |none=>simp[M,e] at hm
  | some o =>
   cases o with
   |none=>simp[M,e] at hm
   | some s =>
    cases s with
    |own A=>exact⟨A,.inl rfl⟩
    |io A=>exact⟨A,.inr rfl⟩
    |st d=>simp[M,e] at hm
    |scr ns=>simp[M,e] at hm
 have b4:∀ i ys e,Jv i ys e->∀ c j,inv c=some j->∃ A,e[j]?=some (some (.io A)):=λi ys e hj c j hi=>by
  obtain⟨hs,hm⟩:=E c j hi
  obtain⟨A,O⟩:=b3 c hm
  refine(a9 i ys e hj).get (x:=some (.io A)) ?_ rfl
  unfold aas
  rw[aA5,hs]
  rcases O with O|O <;> simp[O,ais]
 -- between two turns
 let Wv:Nat->List V->St->Hp->Prop:=λi ys σI H=>∃ G2 F2 e env2 yd,VI B G2 H σ env2 F2/\Same G1 G2/\H p=some (.lst ys)/\Rps G2 ys yd/\G2 p=none/\(∀ j,¬ F2 j p)/\Jv i yd e/\σI.length=e.length/\env2.length=W.length /\
  (∀ j s,e[j]?=some (some s)->∃ v,σI[j]?=some (some v)/\((∃ d,s=.st d/\Rp G2 v d/\∀ i,inv i ≠ some j)\/(∃ ns a,s=.scr ns/\v=.ref a/\SqL B.K G2 a (ns.map V.int)/\∀ i,inv i ≠ some j) ∨
   ∃ i A,inv i=some j/\s=.io A/\σ[i]?=some (some v)/\(env2[i]?=some (some (.own A))\/env2[i]?=some (some (.io A))))) /\
  (∀ i,inv i=none->env2[i]?=W[i]?)/\(∀ i j,inv i=some j->∃ A0 A,e[j]?=some (some (.io A))/\((W[i]?=some (some (.own A0))/\env2[i]?=some (some (.own A)))\/(W[i]?=some (some (.io A0))/\env2[i]?=some (some (.io A)))))
 have hb:B.H p=none:=I1.no_b R
 refine⟨λi m ys σI H=>m=ds.length-i/\i<=ds.length/\Wv i ys σI H,⟨ds.length,by simp,aG0 _,?_⟩,?_⟩
 ·refine⟨G1,F1,aas src W,W,[],I1.aside (λ_ z=>nomatch z) (I1.no_g R) (I1.no_f R) hb,Same.refl _,aaf,.nil,I1.no_g R,I1.no_f R,j0,by simp[pick,aas],rfl,λj s e=>?_,λ_ _=>rfl,λi j hi=>?_⟩
  ·obtain⟨i,t,hs,ht,hp⟩:=afa e
   obtain⟨v,hv,q⟩:=I1.sl i t ht
   refine⟨v,aib hs hv,?_⟩
   cases t with
   | st d =>
    cases hp
    refine .inl ⟨d,rfl,q.1,λc f=>?_⟩
    have a:=(E c j f).1
    rw[hs] at a
    have:i=c:=by simpa using a
    subst this
    have:=(E i j f).2
    simp[M,ht] at this
   | scr ns =>
    cases hp
    obtain⟨⟨a,ea,sq⟩,_⟩:=q
    refine .inr (.inl ⟨ns,a,rfl,ea,sq,λc f=>?_⟩)
    have a:=(E c j f).1
    rw[hs] at a
    have:i=c:=by simpa using a
    subst this
    have:=(E i j f).2
    simp[M,ht] at this
   |own A=>cases hp;exact .inr (.inr ⟨i,A,a4 i j hs (by simp[M,ht]),rfl,hv,.inl ht⟩)
   |io A=>cases hp;exact .inr (.inr ⟨i,A,a4 i j hs (by simp[M,ht]),rfl,hv,.inr ht⟩)
  ·obtain⟨hs,hm⟩:=E i j hi
   obtain⟨A,O⟩:=b3 i hm
   refine⟨A,A,?_,?_⟩
   ·unfold aas
    rw[aA5,hs]
    rcases O with O|O <;> simp[O,ais]
   ·rcases O with O|O
    ·exact .inl ⟨O,O⟩
    ·exact .inr ⟨O,O⟩
 ·rintro i m ys σI H2 ⟨rfl,hi,G2,F2,e,env2,yd,I2,g2,Z,ry,ga,fa,jv,ln,b5,sl,un,mv⟩
  refine⟨Z,?_⟩
  by_cases hlt:i<ds.length
  ·refine .inr ⟨it.go i G2 H2 g2 I2.gh hlt,Wv (i+1),λa3 c2 H' hw=>⟨ds.length-(i+1),by lia,rfl,hlt,hw⟩,λx H3 y=>?_⟩
   obtain⟨G3,o⟩:=it.yld i G2 H2 x H3 _ g2 I2.gh I2.ft (aA0 hlt) y
   obtain⟨I3,X3⟩:=I2.out o
   have a6:=o.hh _ _ Z
   have a8:=fa
   have c1:G3 p=none:=by
    cases e':G3 p with
    |none=>rfl
    | some u =>
     rcases o.gn p u e' with q|q
     ·rw[ga] at q;cases q
     ·rw[Z] at q;cases q
   have b7:∀ j s,e[j]?=some (some s)->∃ v,σI[j]?=some (some v)/\((∃ d,s=.st d/\Rp G3 v d/\∀ i,inv i ≠ some j)\/(∃ ns a,s=.scr ns/\v=.ref a/\SqL B.K G3 a (ns.map V.int)/\∀ i,inv i ≠ some j) ∨
     ∃ i A,inv i=some j/\s=.io A/\σ[i]?=some (some v)/\(env2[i]?=some (some (.own A))\/env2[i]?=some (some (.io A)))):=λj s es=>by
    obtain⟨v,hv,q⟩:=sl j s es
    refine⟨v,hv,?_⟩
    rcases q with ⟨d,a7,r,n⟩|⟨ns,a,a7,c0,r,n⟩|q
    ·exact .inl ⟨d,a7,r.same o.gg,n⟩
    ·exact .inr (.inl ⟨ns,a,a7,c0,o.gg.seq r,n⟩)
    ·exact .inr (.inr q)
   have E3:=I3.enter (inv:=inv) (σI:=σI) (envI:=e) inj ln b7
   -- back from the turn
   have fin:∀(T:St)(G4 H4:Hp)(F4:Nat->Addr->Prop)(e4:En)(a1:List PyData)(a3:List V)(o4:HO),VI ⟨B.K,G3,H3,acs H3 F2 inv,σI,λj a=>∃ i,inv i=some j/\F2 i a⟩ G4 H4 T e4 F4->Jv (i+1) a1 e4->Rps G4 a3 a1 ->
     Wv (i+1) a3 T (upd H4 p (.lst a3))/\H4 p=some (.lst ys):=by
    intro T G4 H4 F4 e4 a1 a3 o4 I4 j4 r4
    have a0:=b4 (i+1) a1 e4 j4
    have b9:H4 p=some (.lst ys):=I4.rs p _ (by show acs H3 F2 inv p=_;rw[aia (λc _ _=>a8 c)];exact a6)
    have b0:G4 p=none:=by
     cases e':G4 p with
     |none=>rfl
     | some u =>
      rcases I4.gn p u e' with q|q
      ·change G3 p=_ at q;rw[c1] at q;cases q
      ·change H3 p=_ at q;rw[a6] at q;cases q
    -- the slots of the outer frame
    let D:En:=(List.range env2.length).map λc=>match inv c with
     |some j=>(match env2[c]?,e4[j]? with|some (some (.own _)),some (some (.io A))=>some (.own A)|some (some (.io _)),some (some (.io A))=>some (.io A)|_,_=>none)
     |none=>(env2[c]?).getD none
    have N:∀ c,c<env2.length->D[c]?=some (match inv c with
     |some j=>(match env2[c]?,e4[j]? with|some (some (.own _)),some (some (.io A))=>some (.own A)|some (some (.io _)),some (some (.io A))=>some (.io A)|_,_=>none)
     |none=>(env2[c]?).getD none):=λc hl=>by
     simp only[D,aA5]
     rw[aA0 (by simpa using hl)]
     simp
    have L:=I3.leave (inv:=inv) (env2:=D) inj rfl rfl (λa u q n=>by show acs H3 F2 inv a=_;rw[aia n];exact q) (λc j f a z=>by obtain⟨U,Y,C⟩:=z;rw[inj c U j f Y];exact C)
     (λc j f=>by
      obtain⟨A0,A,Y,C⟩:=mv c j f
      obtain⟨v,hv,q⟩:=sl j _ Y
      rcases q with ⟨d,q,_⟩|⟨ns,a,q,_⟩|⟨U,b8,q1,q2,q3,_⟩
      ·cases q
      ·cases q
      ·rw[inj c U j f q1]
       show σI[j]?=_
       rw[hv,q3]) I4 a0 (by simp[D]) (λc s es=>by
      have hl:c<env2.length:=by
       have:=(aA1.mp es).1
       simpa[D] using this
      rw[N c hl] at es
      cases f:inv c with
      | none =>
       refine .inl ⟨rfl,?_⟩
       rw[f] at es
       simp only[Option.some.injEq] at es
       cases q:env2[c]? with
       |none=>rw[q] at es;cases es
       |some u=>rw[q] at es;simp at es;rw[es]
      | some j =>
       rw[f] at es
       obtain⟨A',S⟩:=a0 c j f
       obtain⟨A0,A,Y,C⟩:=mv c j f
       simp only[S] at es
       rcases C with ⟨_,C⟩|⟨_,C⟩
       ·rw[C] at es
        simp only[Option.some.injEq] at es
        exact .inr ⟨j,A,A',rfl,S,.inl ⟨C,es.symm⟩⟩
       ·rw[C] at es
        simp only[Option.some.injEq] at es
        exact .inr ⟨j,A,A',rfl,S,.inr ⟨C,es.symm⟩⟩)
    have b2:∀ j,¬ (match inv j with|some j=>F4 j p|none=>F2 j p):=λj z=>by
     cases hj:inv j with
     |none=>rw[hj] at z;exact a8 j z
     | some l =>
      rw[hj] at z
      obtain⟨A',S⟩:=a0 j l hj
      obtain⟨v,_,q⟩:=I4.sl l _ S
      rcases q.2.1 p z with ⟨U,_,q⟩|q
      ·exact a8 U q
      ·change H3 p=_ at q;rw[a6] at q;cases q
    refine⟨⟨G4,_,e4,D,a1,L.aside (λ_ z=>nomatch z) b0 b2 hb,g2.trans (o.gg.trans I4.g0),aaf,r4,b0,b2,j4,I4.ln,by simp[D,b5],λj s es=>?_,λc f=>?_,λc j f=>?_⟩,b9⟩
    ·obtain⟨v,hv,q⟩:=I4.sl j s es
     refine⟨v,hv,?_⟩
     have a2:(∀ A,s ≠ .io A)->∀ c,inv c ≠ some j:=λhn c f=>by
      obtain⟨A,O⟩:=a0 c j f
      rw[es] at O
      exact hn A (by simpa using O)
     cases s with
     |st d=>exact .inl ⟨d,rfl,q.1,a2 (by intro A z;cases z)⟩
     | scr ns =>
      obtain⟨⟨a,ea,sq⟩,_⟩:=q
      exact .inr (.inl ⟨ns,a,rfl,ea,sq,a2 (by intro A z;cases z)⟩)
     | own A =>
      have:=((a9 _ _ _ j4).got es).2
      simp[ahk] at this
     | io A =>
      obtain⟨A0,h0⟩:=((a9 _ _ _ j4).got es).1 rfl
      obtain⟨c,t,hs,ht,hp⟩:=afa h0
      have hm:M c=true:=by
       cases t with
       |own A=>simp[M,ht]
       |io A=>simp[M,ht]
       |st d=>cases hp
       |scr ns=>cases hp
      have f:=a4 c j hs hm
      obtain⟨B0,A1,Y,C⟩:=mv c j f
      have hl:c<env2.length:=by
       rcases C with ⟨_,C⟩|⟨_,C⟩ <;> exact(aA1.mp C).1
      refine .inr (.inr ⟨c,A,f,rfl,?_,?_⟩)
      ·have hS : σI[j]?=some (some v):=q.2.2
       obtain⟨v',b6,q'⟩:=sl j _ Y
       rcases q' with ⟨d,q',_⟩|⟨ns,a,q',_⟩|⟨U,b8,q1,q2,q3,_⟩
       ·cases q'
       ·cases q'
       ·rw[inj c U j f q1,q3,← b6,hS]
      ·rw[N c hl,f]
       simp only[es]
       rcases C with ⟨_,C⟩|⟨_,C⟩
       ·rw[C];exact .inl rfl
       ·rw[C];exact .inr rfl
    ·by_cases hl:c<env2.length
     ·rw[N c hl,f]
      simp only
      rw[← un c f]
      rw[aA0 hl];rfl
     ·rw[aF7.mpr (by simp[D];lia),← un c f,aF7.mpr (by lia)]
    ·obtain⟨A',S⟩:=a0 c j f
     obtain⟨A0,A,Y,C⟩:=mv c j f
     have hl:c<env2.length:=by
      rcases C with ⟨_,C⟩|⟨_,C⟩ <;> exact(aA1.mp C).1
     refine⟨A0,A',S,?_⟩
     rw[N c hl,f]
     simp only[S]
     rcases C with ⟨h3,C⟩|⟨h3,C⟩
     ·rw[C];exact .inl ⟨h3,rfl⟩
     ·rw[C];exact .inr ⟨h3,rfl⟩
   have hd:ds[i]?=some ds[i]:=aA0 hlt
   refine js i _ yd e hd jv ⟨B.K,G3,H3,acs H3 F2 inv,σI,λj a=>∃ i,inv i=some j/\F2 i a⟩ rfl σI G3 H3 _ x _ _ E3 (aea o.ok.1) λT G4 H4 F4 e4 I4 g4 q4=>?_
   refine q4 T G4 H4 F4 _ I4 λb G5 H5 F5 e5 I5 g5 q5=>?_
   cases b with
   | false =>
    rw[aF6 aB0] at q5 ⊢
    obtain⟨w,ac⟩:=fin T G5 H5 F5 e5 yd ys (.lst ys) I5 q5 (ry.same (o.gg.trans (g4.trans g5)))
    have:upd H5 p (.lst ys)=H5:=by
     funext b
     unfold upd
     split
     ·rename_i hb';rw[hb'];exact ac.symm
     ·rfl
    rw[this] at w
    exact w
   | true =>
    rw[aF5 rfl] at q5 ⊢
    refine q5 T G5 H5 F5 _ I5 λy G6 H6 F6 d6 e6 I6 g6 r6 q6=>?_
    obtain⟨w,ac⟩:=fin T G6 H6 F6 e6 (yd++[d6]) (ys++[y]) (.lst ys) I6 q6.2 ((ry.same (o.gg.trans (g4.trans (g5.trans g6)))).append (.cons r6 .nil))
    exact⟨ac,by rw[ry.length];exact big (by have:=q6.1;lia),w⟩
  ·have ei:i=ds.length:=by lia
   subst ei
   refine .inl ⟨it.stop _ G2 H2 g2 I2.gh rfl,?_⟩
   have q:=jd yd e jv
   have eb:ait src W e=env2:=by
    apply aG2
    intro c
    unfold ait
    rw[af8,Nat.zero_add]
    have P:M c=false->env2[c]?=W[c]?:=λhm=>un c (by simp[inv,hm])
    cases X:W[c]? with
    | none =>
     rw[P (by simp[M,X]),X];rfl
    | some o =>
     cases o with
     |none=>rw[P (by simp[M,X]),X];rfl
     | some t =>
      have a5:∀ A,(t=.own A\/t=.io A)->M c=true:=λA h=>by rcases h with rfl|rfl <;> simp[M,X]
      cases t with
      |st d=>rw[P (by simp[M,X]),X];rfl
      |scr ns=>rw[P (by simp[M,X]),X];rfl
      | own A =>
       have hm:=a5 A (.inl rfl)
       simp only[aI2,ahj]
       cases e3:idxE c src 0 with
       | none =>
        have:inv c=none:=by simp[inv,e3]
        rw[un c this,X]
       | some j =>
        have f:inv c=some j:=by simp[inv,hm,e3]
        obtain⟨A0,A1,Y,C⟩:=mv c j f
        simp only[Y]
        rcases C with ⟨h3,C⟩|⟨h3,C⟩
        ·rw[C]
        ·rw[X] at h3;cases h3
      | io A =>
       have hm:=a5 A (.inr rfl)
       simp only[aI2,ahj]
       cases e3:idxE c src 0 with
       | none =>
        have:inv c=none:=by simp[inv,e3]
        rw[un c this,X]
       | some j =>
        have f:inv c=some j:=by simp[inv,hm,e3]
        obtain⟨A0,A1,Y,C⟩:=mv c j f
        simp only[Y]
        rcases C with ⟨h3,C⟩|⟨h3,C⟩
        ·rw[X] at h3;cases h3
        ·rw[C]
   rw[eb] at q
   refine k (.ref p) G2 H2 F2 (· = p) (.own (OL yd)) env2 I2 (g1.trans g2) ⟨⟨p,ys,rfl,Z,ry,λb=>Iff.rfl⟩,λa z=>by rw[z];exact hb,λa z=>by rw[z];exact ga,λa z=>by rw[z];exact⟨_,Z⟩,λj a z=>by rw[z];exact fa j⟩ q
end
def noIo(e:En):Bool:=e.all λs=>!isIo s
theorem avp{e:En}{j:Nat}{x:Option Sl}(h:noIo e=true)(a:e[j]?=some x):isIo x=false:=by
 have:=aF4.mp h x (aA2 a)
 simpa using this
theorem ajr{src:List (Option Nat)}{b e:En}(h:noIo (aas src b)=true):ait src b e=b:=by
 apply aG2
 intro i
 unfold ait
 rw[af8,Nat.zero_add]
 cases e2:b[i]? with
 |none=>rfl
 | some o =>
  have a:∀ A,(o=some (.own A)\/o=some (.io A))->idxE i src 0=none:=λA c=>by
   cases e3:idxE i src 0 with
   |none=>rfl
   | some j =>
    have hs:=(ae9 e3).2
    have:(aas src b)[j]?=some (some (.io A)):=by
     unfold aas
     rw[aA5,show src[j]?=some (some i) by simpa using hs]
     rcases c with rfl|rfl <;> simp[e2,ais]
    have:=avp h this
    simp[isIo] at this
  cases o with
  |none=>rfl
  | some t =>
   cases t with
   |st d=>rfl
   |scr ns=>rfl
   |own A=>simp only[aI2,ahj,a A (.inl rfl)]
   |io A=>simp only[aI2,ahj,a A (.inr rfl)]
def stO:Option PyData->Option Sl:=Option.map Sl.st
theorem isIo_stO{o:Option PyData}:isIo (stO o)=false:=by cases o <;> rfl
theorem agu{o:Option PyData}:ahk (stO o)=false:=by cases o <;> rfl
theorem aff{src:List (Option Nat)}{a:En}:∀ x∈aas src a,ahk x=false:=by
 intro x b
 unfold aas at b
 obtain⟨o,_,rfl⟩:=aB7.mp b
 cases o with
 |none=>rfl
 | some j =>
  dsimp only
  cases (a[j]?).getD none with
  |none=>rfl
  |some t=>cases t <;> rfl
theorem afb:∀{e:En},(∀ x∈e,ahk x=false)->ioLe e e
 |[],_=>True.intro
 |x::r,h=>⟨⟨rfl,h x aB8⟩,afb λy a=>h y (aB5 _ a)⟩
section
variable{B:Bs}{env:En}{g:TG}{tif:TT}{te:TE}{K:Frag}{src:List (Option Nat)}{ds:List PyData}{e1:En}{R:List PyData->En->Prop}
theorem avq(f:PyData->PyData)(p:PyData->Bool)(l:noIo (aas src e1)=true)(B:ds.length<=999999)
  (h:∀ d∈ds,∀ a:Bs,a.K=K->EvT a tif (some (.st d)::aas src e1) λb m=>b=p d/\m=some (.st d)::aas src e1/\(b=true->Ev a te (some (.st d)::aas src e1) λy g=>y=f d/\g=some (.st d)::aas src e1))
  (A:R ((ds.filter p).map f) e1):LcV K (none::src) (abi 0) tif te ds e1 R:=by
 have c:noIo (aas (none::src) e1)=true:=by
  show((none::aas src e1).all λs=>!isIo s)=true
  rw[List.all_cons]
  exact(aH1 _ _).mpr ⟨rfl,l⟩
 refine⟨λi ys e=>ys=((ds.take i).filter p).map f/\∃ o,e=stO o::aas src e1,⟨by simp,none,rfl⟩,?_,?_,?_⟩
 ·rintro i ys e ⟨_,o,rfl⟩
  exact⟨⟨isIo_stO.symm,agu⟩,afb aff⟩
 ·rintro i d ys e hd ⟨rfl,o,rfl⟩ a x
  have hi:i<ds.length:=(aA1.mp hd).1
  have q:ds.take (i+1)=ds.take i++[d]:=by rw[aH4,hd];rfl
  refine abh ?_
  show EvT a tif (some (.st d)::aas src e1) _
  intro σ G H F Q I k
  refine h d (aA2 hd) a x σ G H F Q I λb G' H' F' m j g' ⟨hb,z,u⟩=>k b G' H' F' m j g' ?_
  subst z
  by_cases hp:b=true
  ·rw[aF5 hp]
   intro σ G H F Q I k
   refine u hp σ G H F Q I λv G' H' F' d' g j g' r ⟨w,n⟩=>k v G' H' F' d' g j g' r ?_
   subst w n
   refine⟨?_,?_,some d,rfl⟩
   ·have:=List.length_filter_le p (ds.take i)
    simp only[aA3]
    have C:(ds.take i).length<=i:=by simp;lia
    lia
   ·rw[q,List.filter_append,aE3]
    have:p d=true:=by rw[← hb];exact hp
    simp[this]
  ·rw[aF6 hp]
   refine⟨?_,some d,rfl⟩
   rw[q,List.filter_append,aE3]
   have:p d=false:=by rw[← hb];simpa using hp
   simp[this]
 ·rintro ys e ⟨rfl,o,rfl⟩
  rw[ajr c,aG8]
  exact A
theorem aq6{α:Type}(xs:List α):xs.filter (λ_=>true)=xs:=by simp
theorem apn(f:PyData->PyData)(b:noIo (aas src e1)=true)(c:ds.length<=999999)
  (h:∀ d∈ds,∀ a:Bs,a.K=K->Ev a te (some (.st d)::aas src e1) λy g=>y=f d/\g=some (.st d)::aas src e1)
  (i:R (ds.map f) e1):LcV K (none::src) (abi 0) tYes te ds e1 R :=
 avq f (λ_=>true) b c (λd hd a j=>ahi ⟨rfl,rfl,λ_=>h d hd a j⟩) (by rw[aq6];exact i)
end
section
variable{R:Sl->Prop}
theorem ayg{g:Int->Int->Int}{i j:Int}(h:R (.st (.int (g i j)))):Op2 (rI0 λi j=>.int (g i j)) (.int i) (.int j) R:=λG H c d Q gh a b k=>by
 cases a;cases b
 exact⟨i,j,rfl,rfl,k _ _ _ _ _ (Out.refl gh (.int _)) h⟩
theorem ayh{g:Int->Int->Bool}{i j:Int}(h:R (.st (.bool (g i j)))):Op2 (rI0 λi j=>.bl (g i j)) (.int i) (.int j) R:=λG H c d Q gh a b k=>by
 cases a;cases b
 exact⟨i,j,rfl,rfl,k _ _ _ _ _ (Out.refl gh (.bl _)) h⟩
theorem a05{C:Int->Int->Prop}{g:Int->Int->Int}{i j:Int}(c:C i j)(h:R (.st (.int (g i j)))):Op2 (rI C λi j=>.int (g i j)) (.int i) (.int j) R:=λG H d f Q gh a b k=>by
 cases a;cases b
 exact⟨i,j,rfl,rfl,c,k _ _ _ _ _ (Out.refl gh (.int _)) h⟩
theorem a06{g:Int->Int}{i:Int}(h:R (.st (.int (g i)))):Op1 (rU λi=>.int (g i)) (.int i) R:=λG H b Q gh a k=>by
 cases a
 exact⟨i,rfl,k _ _ _ _ _ (Out.refl gh (.int _)) h⟩
theorem ayi{i j:Int}(h:R (.st (.bool (decide (i=j))))):Op2 rEq (.int i) (.int j) R:=λG H c d Q gh a b k=>by
 cases a;cases b
 exact asx (k _ _ _ _ _ (Out.refl gh (.bl _)) h)
theorem ayj{i j:Int}(h:R (.st (.bool (!decide (i=j))))):Op2 rNe (.int i) (.int j) R:=λG H c d Q gh a b k=>by
 cases a;cases b
 exact a0g (k _ _ _ _ _ (Out.refl gh (.bl _)) h)
theorem ayk{i j:Bool}(h:R (.st (.bool (decide (i=j))))):Op2 rEq (.bool i) (.bool j) R:=λG H c d Q gh a b k=>by
 cases a;cases b
 exact a0h (k _ _ _ _ _ (Out.refl gh (.bl _)) h)
theorem ahl{x y:PyData}(a:aat x=true)(b:aat y=true)(hd:x.depth<=60)(h:R (.st (.bool (PyData.eqv x y)))):Op2 rEqD x y R:=λG H f g Q gh c d k =>
 ⟨x,y,(c.rep a).same gh,(d.rep b).same gh,a,b,hd,k _ _ _ _ _ (Out.refl gh (.bl _)) h⟩
theorem apo{x y:PyData}(a:aat x=true)(b:aat y=true)(hd:x.depth<=60)(h:R (.st (.bool (!PyData.eqv x y)))):Op2 rNeD x y R:=λG H f g Q gh c d k =>
 ⟨x,y,(c.rep a).same gh,(d.rep b).same gh,a,b,hd,k _ _ _ _ _ (Out.refl gh (.bl _)) h⟩
theorem app{a:Bool}{x:PyData}{es:List PyData}(b:aat x=true)(c:plainDs es=true)(hd:x.depth<=60)(h:R (.st (.bool (if a then !es.any (λz=>PyData.eqv z x) else es.any (λz=>PyData.eqv z x))))):Op2 (rInD a) x (.list es) R:=λG H g i Q gh d f k =>
 ⟨x,es,(d.rep b).same gh,.inl ((f.rep (by simpa[aat] using c)).same gh),b,c,hd,k _ _ _ _ _ (Out.refl gh (.bl _)) h⟩
theorem Rps.at{G:Hp}{vs:List V}{ds:List PyData}{i:Int}{d:PyData}(r:Rps G vs ds)(h:atI ds i=some d):∃ v,atI vs i=some v/\Rp G v d:=by
 unfold atI at h ⊢
 rw[r.length]
 cases e:ixN ds.length i with
 |none=>rw[e] at h;cases h
 | some j =>
  rw[e] at h
  exact r.get h
theorem ahm{K:Frag}{ds:List PyData}{i:Int}{d:PyData}(hd:atI ds i=some d)(h:R (.st d)):Op2 (ach K) (.list ds) (.int i) R:=λG H g j Q gh a c k=>by
 cases c
 cases a with
 | lst ha rs =>
  obtain⟨v,b,f⟩:=rs.at hd
  exact aex (gh _ _ ha) b (k _ _ _ _ _ (Out.refl gh f) h)
theorem ayl{K:Frag}{ds:List PyData}{i:Int}{d:PyData}(hd:atI ds i=some d)(h:R (.st d)):Op2 (ach K) (.tuple ds) (.int i) R:=λG H g j Q gh a c k=>by
 cases c
 cases a with
 | tup ha rs =>
  obtain⟨v,b,f⟩:=rs.at hd
  exact ave (gh _ _ ha) b (k _ _ _ _ _ (Out.refl gh f) h)
def isNone:PyData->Bool
 | .none=>true
 |_=>false
theorem aym{G:Hp}{v:V}{x:PyData}(r:Rp G v x):decide (v=.non)=isNone x:=by cases r <;> rfl
theorem ayn{x:PyData}(h:R (.st (.bool (isNone x)))):Op2 rIsN x .none R:=λG H c d Q gh a b k=>by
 cases b
 refine⟨rfl,?_⟩
 rw[aym a]
 exact k _ _ _ _ _ (Out.refl gh (.bl _)) h
theorem ayo{xs ys:List PyData}(a:xs.length+ys.length<=1000000)(h:R (.own (OL (xs++ys)))):Op2 rCat (.list xs) (.list ys) R:=λG H f g Q gh b d k=>by
 cases b with
 | lst ha ra =>
  cases d with
  | lst hb rb =>
   refine a0l (gh _ _ ha) (gh _ _ hb) ?_ λp c=>k _ _ _ _ _ (Out.newL gh c (ra.append rb)) h
   rw[ra.length,rb.length];exact aG5 (big a)
theorem apq{xs:List PyData}{n:Int}(d : -(2 ^ 63)<=n)(g:n<2 ^ 63)(a:xs.length * n.toNat<=1000000)(h:R (.own (OL (List.replicate n.toNat xs).flatten))):Op2 rRep (.list xs) (.int n) R:=λG H j i Q gh b f k=>by
 cases f
 cases b with
 | lst ha ra =>
  refine⟨_,n,_,rfl,rfl,gh _ _ ha,d,g,?_,λp c=>k _ _ _ _ _ (Out.newL gh c (ra.rep _)) h⟩
  rw[ra.length];exact aG5 (big a)
theorem avr{K:Frag}{xs:List PyData}(h:R (.st (.int xs.length))):OpA (rLen K) [.list xs] R:=λG H vs Q gh rs k=>by
 cases rs with
 | cons r t =>
  cases t
  cases r with
  | lst ha ra =>
   refine ao3 (gh _ _ ha) ?_
   rw[ra.length]
   exact k _ _ _ _ _ (Out.refl gh (.int _)) h
theorem avs{i j:Int}(h:R (.st (.int (if j > i then j else i)))):OpA alp [.int i,.int j] R:=λG H vs Q gh rs k=>by
 obtain rfl:vs=[V.int i,V.int j]:=Rps.ints_inv (ns:=[i,j]) rs
 exact ao4 (k _ _ _ _ _ (Out.refl gh (.int _)) h)
theorem avt{i j:Int}(h:R (.st (.int (if j<i then j else i)))):OpA alq [.int i,.int j] R:=λG H vs Q gh rs k=>by
 obtain rfl:vs=[V.int i,V.int j]:=Rps.ints_inv (ns:=[i,j]) rs
 exact ao5 (k _ _ _ _ _ (Out.refl gh (.int _)) h)
theorem avu{b:Bool}(h:R (.st (.int (if b then 1 else 0)))):OpA alr [.bool b] R:=λG H vs Q gh rs k=>by
 cases rs with
 | cons r t =>
  cases t;cases r
  exact ao6 (k _ _ _ _ _ (Out.refl gh (.int _)) h)
theorem anc{K:Frag}{ns:List Int}(a:ns ≠ [])(h:∀ m,ae6 ns m->R (.st (.int m))):OpA (ahg K) [.list (ns.map .int)] R:=λG H vs Q gh rs k=>by
 cases rs with
 | cons r t =>
  cases t
  cases r with
  | lst ha ra =>
   have:=Rps.ints_inv ra
   subst this
   exact⟨_,ns,rfl,.inl (SqL.of (gh _ _ ha)),a,λm hm=>k _ _ _ _ _ (Out.refl gh (.int _)) (h m hm)⟩
theorem avv{K:Frag}{ns:List Int}{ds:List PyData}(e:ds=ns.map .int)(a:ns ≠ [])(h:∀ m,ae6 ns m->R (.st (.int m))):OpA (ahg K) [.tuple ds] R:=λG H vs Q gh rs k=>by
 subst e
 cases rs with
 | cons r t =>
  cases t
  cases r with
  | tup ha ra =>
   have:=Rps.ints_inv ra
   subst this
   exact⟨_,ns,rfl,.inr (SqT.of (gh _ _ ha)),a,λm hm=>k _ _ _ _ _ (Out.refl gh (.int _)) (h m hm)⟩
theorem avw{K:Frag}{ns:List Int}{ds:List PyData}(e:ds=ns.map .int)(a:ns ≠ [])(h:∀ m,aq0 ns m->R (.st (.int m))):OpA (alt K) [.tuple ds] R:=λG H vs Q gh rs k=>by
 subst e
 cases rs with
 | cons r t =>
  cases t
  cases r with
  | tup ha ra =>
   have:=Rps.ints_inv ra
   subst this
   exact⟨_,ns,rfl,.inr (SqT.of (gh _ _ ha)),a,λm hm=>k _ _ _ _ _ (Out.refl gh (.int _)) (h m hm)⟩
theorem apr{K:Frag}{ns:List Int}{ds:List PyData}(e:ds=ns.map .int)(h:R (.st (.int ns.sum))):OpA (aq1 K) [.list ds] R:=λG H vs Q gh rs k=>by
 subst e
 cases rs with
 | cons r t =>
  cases t
  cases r with
  | lst ha ra =>
   have:=Rps.ints_inv ra
   subst this
   exact⟨_,ns,rfl,SqL.of (gh _ _ ha),k _ _ _ _ _ (Out.refl gh (.int _)) h⟩
end
section
variable{B:Bs}{env:En}{QO:Sl->En->Prop}{Q':PyData->En->Prop}{te tl th:TE}{K:Frag}
def cutD(xs:List PyData)(lo hi:Option Int):List PyData:=(xs.drop (HT.sIx xs.length 0 lo)).take (HT.sIx xs.length xs.length hi-HT.sIx xs.length 0 lo)
def EvOp(B:Bs)(t:TO)(env:En)(Q':Option Int->En->Prop):Prop:=∀(σ:St)(G H:Hp)(F:Nat->Addr->Prop)(Q:Option Int->Hp->Prop),VI B G H σ env F->(∀ o G' H' F' env',VI B G' H' σ env' F'->Same G G'->Q' o env'->Q o H')->t σ H Q
theorem avx{a:Option Int->En->Prop}(q:a none env):EvOp B aoy env a:=λσ G H F Q I k=>k none G H F env I (Same.refl _) q
theorem avy{a:Option Int->En->Prop}(h:Ev B te env λd e=>∃ i,d=.int i/\a (some i) e):EvOp B (awx te) env a:=λσ G H F Q I k =>
 h σ G H F _ I λv f l m d b o n j g=>by
  obtain⟨i,c,q⟩:=g
  subst c;cases j
  exact⟨i,rfl,k _ f l m b o n q⟩
theorem a2x{i:Int}{R:Int->Prop}(h:R i):∃ j,PyData.int i=.int j/\R j:=⟨i,rfl,h⟩
theorem akm{tl m:TO}(h:Ev B te env λd j=>∃ ds,d=.list ds/\EvOp B tl j λlo l=>EvOp B m l λhi i=>QO (.own (OL (cutD ds lo hi))) i):EvO B (tSl (rSlL K) te tl m) env QO:=λσ G H F Q I k =>
 h σ G H F _ I λv w A C d j L D z y=>by
  obtain⟨ds,r,n⟩:=y
  subst r
  cases z with
  | @lst a vs _ ha rs =>
   refine n σ w A C _ L λlo q H2 F2 l s c E=>E σ q H2 F2 _ s λhi M H3 x i b f J=>?_
   have g:=rs.same (c.trans f)
   refine⟨a,vs,rfl,SqL.of (b.gh _ _ (f _ _ (c _ _ ha))),λp u=>?_⟩
   have e:cutV vs lo hi=(vs.drop (HT.sIx ds.length 0 lo)).take (HT.sIx ds.length ds.length hi-HT.sIx ds.length 0 lo):=by unfold cutV;rw[rs.length]
   have o:=Out.newL (xs:=cutV vs lo hi) (ds:=cutD ds lo hi) b.gh u (by rw[e];exact(g.drop _).take _)
   exact k _ _ _ x _ _ i (b.out o).1 (D.trans (c.trans (f.trans o.gg))) (b.out o).2 J
theorem avz{tl c:TO}(h:Ev B te env λd a=>∃ ds,d=.list ds/\EvOp B tl a λlo i=>EvOp B c i λhi l=>Q' (.list (cutD ds lo hi)) l):Ev B (tSl (rSlL K) te tl c) env Q':=abu (akm (by
 intro σ G H F Q I k
 refine h σ G H F Q I λv G' H' F' d a m j g ⟨ds,f,q⟩=>k v G' H' F' d a m j g ⟨ds,f,?_⟩
 intro σ G H F Q I k
 refine q σ G H F Q I λlo G' H' F' e b g' q=>k lo G' H' F' e b g' ?_
 intro σ G H F Q I k
 exact q σ G H F Q I λhi G' H' F' e b g' q=>k hi G' H' F' e b g' (ac0 q)))
end
def ahn:PyData->Bool
 | .none | .bool _ | .int _ | .str _=>true
 |_=>false
theorem aps{G G':Hp}{v:V}{d:PyData}(r:Rp G v d)(h:ahn d=true):Rp G' v d:=by
 cases r with
 |non=>exact .non
 |bl b=>exact .bl b
 |int i=>exact .int i
 |str x=>exact .str x
 |_=>simp[ahn] at h
def Has(env:En)(i:Nat)(A:Own):Prop:=env[i]?=some (some (.own A))\/env[i]?=some (some (.io A))
section
variable{B:Bs}{env:En}{QO:Sl->En->Prop}{Q':PyData->En->Prop}{QT:Bool->En->Prop}{QE:En->Prop}{te ta tb tk:TE}{K:Frag}{i:Nat}
theorem VI.has{G H:Hp}{σ:St}{F:Nat->Addr->Prop}{A:Own}(I:VI B G H σ env F)(h:Has env i A):∃ v,σ[i]?=some (some v)/\A.P G H v (F i):=by
 rcases h with h|h
 ·obtain⟨v,a,q⟩:=I.sl i _ h;exact⟨v,a,q.1⟩
 ·obtain⟨v,a,q⟩:=I.sl i _ h;exact⟨v,a,q.1⟩
theorem VI.moment{G c b H H3:Hp}{σ:St}{F:Nat->Addr->Prop}{v:V}{s:Sl}{Fv:Addr->Prop}(I:VI B G H σ env F)(g:Same G c)(o:Out c H v b H3 s Fv):∃ d,Same G d/\VI B d H3 σ env F:=by
 refine⟨λa=>if H a=none then b a else G a,λa u e=>?_,I.grow (λa u e=>?_) (λa u e=>?_) o.hh (λa u e=>?_) λa ks e=>?_⟩
 ·show(if H a=none then b a else G a)=some u;rw[aF6 (by rw[I.gh a u e];simp)];exact e
 ·rw[aF6 (by rw[I.gh a u e];simp)];exact e
 ·by_cases h:H a=none
  ·rw[aF5 h] at e;exact o.gh a u e
  ·rw[aF6 h] at e;exact o.hh _ _ (I.gh a u e)
 ·by_cases h:H a=none
  ·exact .inr h
  ·rw[aF6 h] at e;exact .inl e
 ·have f1:FT c H:=λa ks e=>g _ _ (I.ft a ks e)
  by_cases h:H a=none
  ·rw[aF5 h];exact o.ft f1 a ks e
  ·rw[aF6 h]
   obtain⟨u,f⟩:=aq4 h
   have:=o.hh _ _ f
   rw[e] at this
   exact I.ft a ks (by rw[f,← this])
theorem a07{r:List V->Hp->VK->Prop}{A:Own}{dx:PyData}(g:Has env i A)(f:Frz A dx)(h:OpA r [dx] λs=>∃ d,s=.st d/\ahn d=true/\Q' d env):Ev B (tCB r (abb (tVar i) tNil)) env Q':=λσ G H F Q I k=>by
 obtain⟨v,b,ap⟩:=I.has g
 refine⟨v,b,h (jn G H (F i)) H [v] Q (aq5 I.gh) (.cons (f _ _ _ _ ap (I.fg i) I.gh) .nil) λw m H3 s Fv o ⟨d,es,hs,j⟩=>?_⟩
 subst es
 obtain⟨l,c,a⟩:=I.moment (abv (I.fg i)) o
 exact k w l H3 F d env a c (aps o.ok.1 hs) j
theorem x_sc{d:PyData}{R:PyData->Prop}(a:ahn d=true)(h:R d):∃ d',Sl.st d=.st d'/\ahn d'=true/\R d':=⟨d,rfl,a,h⟩
theorem a08{g:List PyData}(z:Has env i (OL g))(h:Ev B tb env λy c=>∃ ds k d,Has c i (OL ds)/\y=.int k/\atI ds k=some d/\Q' d c):Ev B (tOp (ach K) (tVar i) tb) env Q':=λσ G H F Q I k=>by
 obtain⟨v,n,_⟩:=I.has z
 refine⟨v,n,h σ G H F _ I λu p H2 F2 y c m s A ⟨ds,j,d,C,r,l,q⟩=>?_⟩
 subst r
 cases A
 obtain⟨D,b,a,vs,o,ha,rs,_⟩:=m.has C
 rw[n] at b;cases b
 subst o
 obtain⟨w,x,f⟩:=rs.at l
 exact aex ha x (k w p H2 F2 d c m s f q)
theorem VI.upd1{G H:Hp}{σ:St}{F:Nat->Addr->Prop}{s:Sl}{A A':Own}{a:Addr}{o:HO}(I:VI B G H σ env F)(e:env[i]?=some (some s))(hs:s=.own A\/s=.io A)(g : σ[i]?=some (some (.ref a)))(hf:∀ b,F i b ↔ b=a)(d:A'.P G (upd H a o) (.ref a) (· = a))(f:∀ xs,o ≠ .tup xs:=by intro _ z;cases z) :
  VI B G (upd H a o) σ (env.set i (some (reS s A'))) (putF F i (· = a)):=by
 refine I.change (A:=A') i e g (λb u hb c=>by rw[aae (λz=>hb ((hf b).mpr z))];exact c) (λb u c=>?_) (λb z=>⟨.inl ((hf b).mpr z),by rw[z];exact⟨_,aaf⟩⟩) d (λb ks e=>?_) ?_
 ·by_cases z:b=a
  ·rw[z];exact⟨_,aaf⟩
  ·rw[aae z];exact⟨u,c⟩
 ·by_cases z:b=a
  ·subst z;rw[aaf] at e;exact absurd (aC6 e) (f _)
  ·rw[aae z] at e;exact I.ft b ks e
 ·rcases hs with rfl|rfl
  ·exact .inl ⟨rfl,A,rfl⟩
  ·exact .inr ⟨rfl,A,rfl⟩
theorem atg{m:List PyData}(x:Has env i (OL m))(h:Ev B te env λy f=>∃ s ds,f[i]?=some (some s)/\(s=.own (OL ds)\/s=.io (OL ds))/\ds.length<=999999/\Q' .none (f.set i (some (reS s (OL (ds++[y])))))):Ev B (tBM K "list" aej (tVar i) (abb te tNil)) env Q':=λσ G H F Q I k=>by
 obtain⟨v,l,a,vs,o,ha,rs,_⟩:=I.has x
 subst o
 refine⟨_,l,.inl ⟨rfl,_,SqL.of ha⟩,h σ G H F _ I λu p H2 F2 y f n r z ⟨s,ds,es,hs,C,q⟩=>?_⟩
 have A:Has f i (OL ds):=by rcases hs with rfl|rfl;exact .inl es;exact .inr es
 obtain⟨E,c,D,w,g,j,d,hf⟩:=n.has A
 rw[l] at c;cases c;cases g
 refine ae5 j (by rw[d.length];exact big (by lia)) ?_
 exact k _ p _ _ _ _ (n.upd1 (A':=OL (ds++[y])) es hs l hf ⟨a,_,rfl,aaf,d.append (.cons z .nil),λb=>Iff.rfl⟩) r .non q
theorem aq7{a:List PyData}(c:Has env i (OL a))(h:Ev B te env λy b=>∃ ds,b[i]?=some (some (.own (OL ds)))/\ds.length<=999999/\Q' .none (b.set i (some (.own (OL (ds++[y])))))):Ev B (tBM K "list" aej (tVar i) (abb te tNil)) env Q' :=
 atg c λσ G H F Q I k=>h σ G H F Q I λv G' H' F' d e j g r ⟨ds,f,l,q⟩=>k v G' H' F' d e j g r ⟨_,ds,f,.inl rfl,l,q⟩
theorem aq8{n:List PyData}(z:Has env i (OL n))(h:Ev B te env λy m=>∃ ds ys,y=.list ys/\m[i]?=some (some (.own (OL ds)))/\ds.length+ys.length<=1000000/\Q' .none (m.set i (some (.own (OL (ds++ys)))))):Ev B (tBM K "list" ai9 (tVar i) (abb te tNil)) env Q':=λσ G H F Q I k=>by
 obtain⟨v,l,a,vs,p,ha,rs,_⟩:=I.has z
 subst p
 refine⟨_,l,.inl ⟨rfl,_,SqL.of ha⟩,h σ G H F _ I λu r H2 F2 y m f w A ⟨ds,ys,s,es,o,q⟩=>?_⟩
 subst s
 cases A with
 | lst hb rb =>
  obtain⟨D,c,C,x,g,j,d,hf⟩:=f.has (.inl es)
  rw[l] at c;cases c;cases g
  refine asz j (f.gh _ _ hb) (by rw[d.length,rb.length];exact aG5 (big o)) ?_
  exact k _ r _ _ _ _ (f.upd1 (A':=OL (ds++ys)) es (.inl rfl) l hf ⟨a,_,rfl,aaf,d.append rb,λb=>Iff.rfl⟩) w .non q
theorem av0{d:PyData}{p:List PyData}(K:Has env i (OL p))(h:Ev B tk env λy g=>∃ s ds k j,y=.int k/\g[i]?=some (some s)/\(s=.own (OL ds)\/s=.io (OL ds))/\ixN ds.length k=some j/\QE (g.set i (some (reS s (OL (ds.set j d)))))):EvG B (gSub (tVar i) tk aln) (.st d) env QE:=λσ G H F v Fv Q I x k=>by
 obtain⟨J,_⟩:=x.ok
 obtain⟨O,o,a,vs,z,ha,rs,_⟩:=I.has K
 subst z
 refine⟨_,o,h σ G H F _ I λu A H2 F2 y g r w L ⟨s,ds,n,j,C,es,hs,D,q⟩=>?_⟩
 subst C
 cases L
 have M:Has g i (OL ds):=by rcases hs with rfl|rfl;exact .inl es;exact .inr es
 obtain⟨P,c,N,E,l,m,f,hf⟩:=r.has M
 rw[o] at c;cases c;cases l
 refine ajc m (by rw[f.length];exact D) ?_
 exact k _ A _ _ _ (r.upd1 (A':=OL (ds.set j d)) es hs o hf ⟨a,_,rfl,aaf,f.set (J.same w) j,λb=>Iff.rfl⟩) w q
theorem aho{t:TS}{D':VEnds}{A:Own}{d:PyData}(i:Nat)(e:env[i]?=some (some (.own A)))(f:Frz A d)(h:EvS B t D' (env.set i (some (.st d)))):EvS B t D' env:=λσ G H F D I r=>by
 obtain⟨v,a,b,g,J⟩:=I.frz e f
 exact h σ _ H _ D J (r.later g)
end
def tyD:PyData->String
 | .none=>"NoneType" | .bool _=>"bool" | .int _=>"int" | .str _=>"str" | .list _=>"list" | .tuple _=>"tuple" | .dict _=>"dict"
def afx(T:String):Prop:=T = "int"\/T = "bool"\/T = "tuple"\/T = "list"\/T = "str"\/T = "dict"
def isiD(T:String)(d:PyData):Bool:=tyD d == T || (T == "int" && tyD d == "bool")
theorem a2y{K:Frag}{H:Hp}{v:V}{d:PyData}(r:Rp H v d):TyOf K H v (.type (tyD d)):=by
 cases r with
 |non=>exact .non
 |bl b=>exact .bl b
 |int i=>exact .int i
 |str x=>exact .str x
 |lst h _=>exact .lst h
 |tup h _=>exact .tup h
 |dk h _ _=>exact .dK h
 |dt h _ _=>exact .dT h
theorem a2z{K:Frag}{T:String}(h:afx T)(d:PyData):kitOne K (.type (tyD d)) (.type T)=some (isiD T d):=by
 rcases h with rfl|rfl|rfl|rfl|rfl|rfl
 ·cases d with
  |none=>exact ah6
  |bool _=>exact amr
  |int _=>exact aoi
  |str _=>exact aok
  |list _=>exact amz
  |tuple _=>exact ak8
  |dict _=>exact am1
 ·cases d with
  |none=>exact ahw
  |bool _=>exact ak0
  |int _=>exact amt
  |str _=>exact amw
  |list _=>exact ak5
  |tuple _=>exact ajn
  |dict _=>exact ala
 ·cases d with
  |none=>exact ags
  |bool _=>exact ajl
  |int _=>exact ak3
  |str _=>exact ak4
  |list _=>exact ajm
  |tuple _=>exact ain
  |dict _=>exact ajq
 ·cases d with
  |none=>exact ahx
  |bool _=>exact ak1
  |int _=>exact amu
  |str _=>exact amx
  |list _=>exact ak6
  |tuple _=>exact ajo
  |dict _=>exact alb
 ·cases d with
  |none=>exact ah7
  |bool _=>exact ams
  |int _=>exact aoj
  |str _=>exact aol
  |list _=>exact am0
  |tuple _=>exact ak9
  |dict _=>exact am2
 ·cases d with
  |none=>exact ahy
  |bool _=>exact ak2
  |int _=>exact amv
  |str _=>exact amy
  |list _=>exact ak7
  |tuple _=>exact ajp
  |dict _=>exact alc
section
variable{B:Bs}{env:En}{QO:Sl->En->Prop}{Q':PyData->En->Prop}{QT:Bool->En->Prop}{QE:En->Prop}{te ta tb tk:TE}{K:Frag}{i:Nat}
theorem a09{T:String}(l:afx T)(h:Ev B te env λd e=>Q' (.bool (isiD T d)) e):Ev B (tCB (rIsi K) (abb te (abb (tC (.ty T)) tNil))) env Q':=λσ G H F Q I k =>
 h σ G H F _ I λv f i j d c a m g b=>⟨v,T,_,_,rfl,a2y (g.same a.gh),a2z l d,k _ f i j _ c a m (.bl _) b⟩
theorem a1c:afx "int":=.inl rfl
theorem ayp:afx "bool":=.inr (.inl rfl)
theorem ayq:afx "list":=.inr (.inr (.inr (.inl rfl)))
theorem av1{A:Own}{D':VEnds}(e:env[i]?=some (some (.own A)))(q:D'.rt (.own A) (env.set i none)):EvS B (tRet (tVar i)) D' env:=apj (avi e q)
theorem a20{n m:Nat}{P:Prop}(h:n<=m)(q:P):n<=m/\P:=⟨h,q⟩
theorem a1d{ds:List PyData}{a:En}{R:List PyData->Prop}(e:a[i]?=some (some (.own (OL ds))))(b:ds.length<=999999)(q:R ds):∃ ds,a[i]?=some (some (.own (OL ds)))/\ds.length<=999999/\R ds:=⟨ds,e,b,q⟩
theorem a21{ds:List PyData}{d:PyData}{k:Int}{a:En}{R:PyData->Prop}(c:Has a i (OL ds))(h:atI ds k=some d)(q:R d):∃ ds b d,Has a i (OL ds)/\PyData.int k=.int b/\atI ds b=some d/\R d:=⟨ds,k,d,c,rfl,h,q⟩
theorem aq9{ds:List PyData}{k:Int}{j:Nat}{a:En}{R:Sl->List PyData->Nat->Prop}(e:a[i]?=some (some (.own (OL ds))))(c:ixN ds.length k=some j)(q:R (.own (OL ds)) ds j):∃ s ds b j,PyData.int k=.int b/\a[i]?=some (some s)/\(s=.own (OL ds)\/s=.io (OL ds))/\ixN ds.length b=some j/\R s ds j:=⟨_,ds,k,j,rfl,e,.inl rfl,c,q⟩
theorem x_rt{A:Own}{a:En}{R:Own->Prop}(e:a[0]?=some (some (.io A)))(q:R A):∃ A',a[0]?=some (some (.io A'))/\R A':=⟨A,e,q⟩
theorem x_st{b:Bool}{R:Bool->Prop}(h:R b):∃ c,Sl.st (.bool b)=.st (.bool c)/\R c:=⟨b,rfl,h⟩
theorem av2{ds:List PyData}{R:Bool->Prop}(h:R (!ds.isEmpty)):∃ k,TruD (.list ds) k/\R k:=⟨_,rfl,h⟩
theorem lenP{f:VP}{n:Nat}{vs:List V}{H:Hp}{Q:VK}{E:XK}(h:spP K f vs H Q E)(hf:∀ ss a,f ss a->ss.length=n):vs.length=n:=by
 obtain⟨G,ss,a,_,_,b,q,_⟩:=h
 rw[b.length];exact hf ss a q
theorem lenI{f:VIo}{n:Nat}{vs:List V}{H:Hp}{Q:VK}{E:XK}(h:spI K f vs H Q E)(hf:∀ A ss a,f A ss a->ss.length+1=n):vs.length=n:=by
 obtain⟨v0,c,G,R,A,ss,F0,a,rfl,_,_,_,_,_,_,b,q,_⟩:=h
 rw[aE4,b.length];exact hf A ss a q
theorem aiu{f:VIo}{t:TA}{E:XK}{A:Own}(b:env[i]?=some (some (.io A)))(h:EvA B t env λds a=>a[i]?=some (some (.io A))/\f A (ds.map Sl.st) λA' s=>QO s (a.set i (some (.io A')))):EvO B (aco (spI K f) [] E (abb (tVar i) t)) env QO :=
 akk ⟨_,b⟩ λσ G H F Q I k=>h σ G H F Q I λvs G' H' F' ds a d g r ⟨c,q⟩=>k vs G' H' F' ds a d g r ⟨_,A,c,.inr rfl,q⟩
theorem aiv{f:VIo}{t:TA}{E:XK}{A:Own}(b:env[i]?=some (some (.own A)))(h:EvA B t env λds a=>a[i]?=some (some (.own A))/\f A (ds.map Sl.st) λA' s=>QO s (a.set i (some (.own A')))):EvO B (aco (spI K f) [] E (abb (tVar i) t)) env QO :=
 akk ⟨_,b⟩ λσ G H F Q I k=>h σ G H F Q I λvs G' H' F' ds a d g r ⟨c,q⟩=>k vs G' H' F' ds a d g r ⟨_,A,c,.inl rfl,q⟩
theorem akn{f:VIo}{t:TA}{E:XK}{A:Own}(b:env[i]?=some (some (.io A)))(h:EvA B t env λds a=>a[i]?=some (some (.io A))/\f A (ds.map Sl.st) λA' s=>FQ s λd=>Q' d (a.set i (some (.io A')))):Ev B (aco (spI K f) [] E (abb (tVar i) t)) env Q':=abu (aiu b h)
theorem ath{f:VIo}{t:TA}{E:XK}{A:Own}(b:env[i]?=some (some (.own A)))(h:EvA B t env λds a=>a[i]?=some (some (.own A))/\f A (ds.map Sl.st) λA' s=>FQ s λd=>Q' d (a.set i (some (.own A')))):Ev B (aco (spI K f) [] E (abb (tVar i) t)) env Q':=abu (aiv b h)
theorem a22{P Q:Prop}(h:P)(q:Q):P/\Q:=⟨h,q⟩
theorem a23{src:List (Option Nat)}{j:TI}{g:TG}{f:TT}(nd:(src.filterMap id).Nodup)(h:EvI B j env λds i=>LcV B.K src g f te ds i λys l=>Q' (.list ys) l):Ev B (tLC src j g f te) env Q':=abu (atf nd λσ G H F R I k=>h σ G H F R I λJ G' H' F' ds i m g' it ⟨n,a,b,c,d⟩=>k J G' H' F' ds i m g' it ⟨n,a,b,c,λys e q=>ac0 (d ys e q)⟩)
end
end VL
namespace VL
open PySem L2
section
variable{B:Bs}{QE:En->Prop}{Q':PyData->En->Prop}{s:Sl}{r:En}{A:Own}{d:PyData}{x0 x1 x2 x3 x4 x5 x6 x7 x8 x9 x10 x11 x12 x13 x14 x15 x16 x17 x18 x19 x20 x21 x22 x23 x24 x25:Option Sl}
theorem a1e(h:QE (x0::some s::r)):EvG B (abi 1) s (x0::x1::r) QE:=abh h
theorem a1f(h:QE (x0::x1::some s::r)):EvG B (abi 2) s (x0::x1::x2::r) QE:=abh h
theorem a1g(h:QE (x0::x1::x2::some s::r)):EvG B (abi 3) s (x0::x1::x2::x3::r) QE:=abh h
theorem a1h(h:QE (x0::x1::x2::x3::some s::r)):EvG B (abi 4) s (x0::x1::x2::x3::x4::r) QE:=abh h
theorem a1i(h:QE (x0::x1::x2::x3::x4::some s::r)):EvG B (abi 5) s (x0::x1::x2::x3::x4::x5::r) QE:=abh h
theorem a1j(h:QE (x0::x1::x2::x3::x4::x5::some s::r)):EvG B (abi 6) s (x0::x1::x2::x3::x4::x5::x6::r) QE:=abh h
theorem a1k(h:QE (x0::x1::x2::x3::x4::x5::x6::some s::r)):EvG B (abi 7) s (x0::x1::x2::x3::x4::x5::x6::x7::r) QE:=abh h
theorem a1l(h:QE (x0::x1::x2::x3::x4::x5::x6::x7::some s::r)):EvG B (abi 8) s (x0::x1::x2::x3::x4::x5::x6::x7::x8::r) QE:=abh h
theorem a1m(h:QE (x0::x1::x2::x3::x4::x5::x6::x7::x8::some s::r)):EvG B (abi 9) s (x0::x1::x2::x3::x4::x5::x6::x7::x8::x9::r) QE:=abh h
end
end VL
namespace Gr
structure Ring(T:Int->Int->Prop)(a:Int)(k:Nat)(far:Int->Option Nat)(edge:List Int):Prop where
 lab:∀ v d,far v=some d ↔ (Dist T a v d/\d<=k)
 edg:∀ v,v∈edge ↔ Dist T a v k
structure Mid(T:Int->Int->Prop)(k:Nat)(far0:Int->Option Nat)(edge:List Int)(done:Int->Prop)(far:Int->Option Nat)(beyond:List Int):Prop where
 old:∀ v d,far0 v=some d->far v=some d
 new:∀ v,v∈beyond ↔ (far0 v=none/\far v ≠ none)
 val:∀ v d,far0 v=none->far v=some d->d=k+1/\∃ u,u∈edge/\T u v
 dn:∀ u w,done u->T u w->far w ≠ none
def label(far:Int->Option Nat)(w:Int)(d:Nat):Int->Option Nat:=λv=>if v=w then some d else far v
theorem label_same{far:Int->Option Nat}{w:Int}{d:Nat}:label far w d w=some d:=aF5 rfl
theorem label_ne{far:Int->Option Nat}{w v:Int}{d:Nat}(h:v ≠ w):label far w d v=far v:=aF6 h
variable{T:Int->Int->Prop}{a:Int}{k:Nat}{far0 far:Int->Option Nat}{edge beyond:List Int}{done:Int->Prop}
theorem Ring.start:Ring T a 0 (label (λ_=>none) a 0) [a]:=by
 refine⟨λv d=>?_,λv=>?_⟩
 ·by_cases h:v=a
  ·subst h
   rw[label_same]
   constructor
   ·intro e;cases e;exact⟨Dist.self T v,aA6 _⟩
   ·rintro⟨h,_⟩;rw[h.uniq (Dist.self T v)]
  ·rw[label_ne h]
   constructor
   ·intro e;cases e
   ·rintro⟨b,c⟩
    have:d=0:=by lia
    subst this
    cases b.1
    exact absurd rfl h
 ·simp only[aC2]
  constructor
  ·rintro rfl;exact Dist.self T v
  ·intro h;cases h.1;rfl
theorem Mid.start:Mid T k far0 edge (λ_=>False) far0 [] :=
 ⟨λv d h=>h,λv=>⟨λh=>by simp at h,λh=>absurd h.1 h.2⟩,λv d h g=>(by rw[h] at g;cases g),λu w h=>h.elim⟩
theorem Mid.add(m:Mid T k far0 edge done far beyond){u w:Int}(c:u∈edge)(t:T u w)(a:far w=none):Mid T k far0 edge done (label far w (k+1)) (beyond++[w]):=by
 have b:far0 w=none:=by
  cases e:far0 w with
  |none=>rfl
  |some d=>rw[m.old w d e] at a;cases a
 refine⟨λv d h=>?_,λv=>?_,λv d h g=>?_,λx y i f=>?_⟩
 ·rw[label_ne (by rintro rfl;rw[b] at h;cases h)];exact m.old v d h
 ·by_cases hv:v=w
  ·subst hv
   simp[label_same,b]
  ·rw[label_ne hv]
   simp only[aA7,aC2,hv,or_false]
   exact m.new v
 ·by_cases hv:v=w
  ·subst hv
   rw[label_same] at g
   cases g
   exact⟨rfl,u,c,t⟩
  ·rw[label_ne hv] at g
   exact m.val v d h g
 ·by_cases hv:y=w
  ·subst hv;rw[label_same];simp
  ·rw[label_ne hv];exact m.dn x y i f
theorem Mid.did(m:Mid T k far0 edge done far beyond){u:Int}(h:∀ w,T u w->far w ≠ none):Mid T k far0 edge (λx=>done x\/x=u) far beyond :=
 ⟨m.old,m.new,m.val,λx w a t=>by rcases a with a|rfl;exact m.dn x w a t;exact h w t⟩
theorem Mid.imp{a:Int->Prop}(m:Mid T k far0 edge done far beyond)(h:∀ u,a u->done u):Mid T k far0 edge a far beyond :=
 ⟨m.old,m.new,m.val,λx w b t=>m.dn x w (h x b) t⟩
theorem Ring.next(r:Ring T a k far0 edge)(m:Mid T k far0 edge done far beyond)(hd:∀ u∈edge,done u):Ring T a (k+1) far beyond:=by
 have g:∀ v,far0 v=none->far v ≠ none->Dist T a v (k+1):=λv f b=>by
  cases e:far v with
  |none=>exact absurd e b
  | some d =>
   obtain⟨rfl,u,l,t⟩:=m.val v d f e
   obtain⟨j,p,h⟩:=((r.edg u).mp l).next t
   by_cases i:j<=k
   ·rw[(r.lab v j).mpr ⟨h,i⟩] at f;cases f
   ·have:j=k+1:=by lia
    rw[← this];exact h
 have c:∀ v,Dist T a v (k+1)->far0 v=none/\far v ≠ none:=λv h=>by
  refine⟨?_,?_⟩
  ·cases e:far0 v with
   |none=>rfl
   | some d =>
    obtain⟨b,o⟩:=(r.lab v d).mp e
    have:=b.uniq h
    lia
  ·obtain⟨u,t,l⟩:=h.pred
   exact m.dn u v (hd u ((r.edg u).mpr l)) t
 refine⟨λv d=>?_,λv=>⟨λh=>?_,λh=>(m.new v).mpr (c v h)⟩⟩
 ·constructor
  ·intro e
   cases e0:far0 v with
   | some d0 =>
    rw[m.old v d0 e0] at e
    cases e
    obtain⟨b,o⟩:=(r.lab v d).mp e0
    exact⟨b,by lia⟩
   | none =>
    have i:=(m.val v d e0 e).1
    subst i
    exact⟨g v e0 (by rw[e];simp),aA6 _⟩
  ·rintro⟨h,i⟩
   by_cases hd':d<=k
   ·exact m.old v d ((r.lab v d).mpr ⟨h,hd'⟩)
   ·have n:d=k+1:=by lia
    subst n
    obtain⟨f,b⟩:=c v h
    cases e:far v with
    |none=>exact absurd e b
    |some d=>rw[(m.val v d f e).1]
 ·obtain⟨f,b⟩:=(m.new v).mp h
  exact g v f b
theorem Dist.down{v:Int}:∀{d:Nat},Dist T a v d->∀ j,j<=d->∃ u,Dist T a u j
 |0,h,j,hj=>⟨v,by rw[show j=0 by lia];exact h⟩
 | d+1,h,j,hj=>by
  by_cases e:j=d+1
  ·rw[e];exact⟨v,h⟩
  ·obtain⟨u,_,b⟩:=h.pred
   exact Dist.down b j (by lia)
def farO(T:Int->Int->Prop)(a v:Int):Option Nat:=open Classical in if h:∃ d,Dist T a v d then some (Classical.choose h) else none
theorem farO_some{v:Int}{d:Nat}:farO T a v=some d ↔ Dist T a v d:=by
 unfold farO
 constructor
 ·intro h
  split at h
  ·rename_i b
   cases h
   exact Classical.choose_spec b
  ·cases h
 ·intro h
  have b:∃ d,Dist T a v d:=⟨d,h⟩
  rw[dif_pos b,(Classical.choose_spec b).uniq h]
theorem farO_none{v:Int}:farO T a v=none ↔ ∀ d,¬ Dist T a v d:=by
 constructor
 ·intro h d hd
  rw[farO_some.mpr hd] at h;cases h
 ·intro h
  cases e:farO T a v with
  |none=>rfl
  |some d=>exact absurd (farO_some.mp e) (h d)
theorem ayr{v:Int}{o:Option Nat}(h:∀ d,o=some d ↔ Dist T a v d):o=farO T a v:=by
 cases o with
 |some d=>exact(farO_some.mpr ((h d).mp rfl)).symm
 |none=>exact(farO_none.mpr λd hd=>by cases (h d).mpr hd).symm
theorem Ring.fin(r:Ring T a k far0 [])(v:Int):far0 v=farO T a v:=by
 refine ayr λd=>?_
 rw[r.lab]
 refine⟨λh=>h.1,λh=>⟨h,?_⟩⟩
 apply aD5
 intro c
 obtain⟨u,b⟩:=h.down k (by lia)
 have:=(r.edg u).mpr b
 simp at this
theorem farO_self:farO T a a=some 0:=farO_some.mpr (Dist.self T a)
end Gr
namespace VL
open PySem PySem.Spec L2
theorem nodup_ix{α:Type}{xs:List α}(h:xs.Nodup){i j:Nat}(hi:i<xs.length)(a:j<xs.length)(e:xs[i]=xs[j]):i=j:=by
 have p:=aG7.mp h
 rcases Nat.lt_trichotomy i j with q|q|q
 ·exact absurd e (p i j hi a q)
 ·exact q
 ·exact absurd e.symm (p j i a hi q)
def OLL(dss:List (List PyData)):Own where
 P:=λG H v F=>∃(a:Addr)(as:List Addr),v=.ref a/\H a=some (.lst (as.map V.ref))/\as.Nodup/\a ∉ as/\as.length=dss.length/\(∀(i:Nat) b ds,as[i]?=some b->dss[i]?=some ds->∃ vs,H b=some (.lst vs)/\Rps G vs ds)/\∀ b,F b ↔ b=a\/b∈as
 mono:=λ⟨a,as,e,h,n1,n2,l,r,f⟩ g hh=>⟨a,as,e,hh a _ ((f a).mpr (.inl rfl)) h,n1,n2,l,λi b ds hb hd=>by
  obtain⟨vs,h1,h2⟩:=r i b ds hb hd
  exact⟨vs,hh b _ ((f b).mpr (.inr (aA2 hb))) h1,h2.same g⟩,f⟩
 dom:=λ⟨a,as,e,h,n1,n2,l,r,f⟩ b z=>by
  rcases(f b).mp z with rfl|z
  ·exact⟨_,h⟩
  ·obtain⟨i,hi,e⟩:=aH6.mp z
   have hb:as[i]?=some b:=by rw[aA0 hi,e]
   obtain⟨vs,h1,_⟩:=r i b _ hb (aA0 (by rw[← l];exact hi))
   exact⟨_,h1⟩
theorem aiw{G:Hp}:∀{vs:List V}{ds:List PyData},vs.length=ds.length->(∀(i:Nat) v d,vs[i]?=some v->ds[i]?=some d->Rp G v d)->Rps G vs ds
 |[],[],_,_=>.nil
 |[],_::_,h,_=>by simp at h
 |_::_,[],h,_=>by simp at h
 |v::vs,d::ds,h,k=>.cons (k 0 v d rfl rfl) (aiw (by simpa using h) λi v d b a=>k (i+1) v d (by simpa using b) (by simpa using a))
theorem aek{c:List (List PyData)}:Frz (OLL c) (.list (c.map .list)):=λG H v F ⟨a,as,e,h,p,q,l,r,f⟩ n g=>by
 subst e
 refine .lst (by rw[ae8 ((f a).mpr (.inl rfl))];exact h) (aiw (by simp[l]) λi u d j hd=>?_)
 rw[aA5] at j hd
 cases hb:as[i]? with
 |none=>rw[hb] at j;cases j
 | some b =>
  cases hds:c[i]? with
  |none=>rw[hds] at hd;cases hd
  | some ds =>
   rw[hb] at j;rw[hds] at hd
   cases j;cases hd
   obtain⟨vs,m,o⟩:=r i b ds hb hds
   exact .lst (by rw[ae8 ((f b).mpr (.inr (aA2 hb)))];exact m) (o.same (abv n))
section
variable{B:Bs}{env:En}{QO:Sl->En->Prop}{Q':PyData->En->Prop}{D':VEnds}{K:Frag}{i:Nat}
theorem a1n{a:List (List PyData)}{R:PyData->Prop}(h:R (.list (a.map .list))):FQ (.own (OLL a)) R:=⟨_,aek,h⟩
theorem ays{src:List (Option Nat)}{wi:TI}{j:Nat}(h:EvI B wi env λds X=>ds.length<=1000000/\QO (.own (OLL (List.replicate ds.length []))) X):EvO B (tLC src wi (abi j) tYes (tLst tNil)) env QO:=λσ G H F Q I k=>by
 refine h σ G H F _ I λJ N L F1 ds X s g1 it ⟨a0,q⟩ c d=>?_
 let W:Nat->List V->Hp->Prop:=λn ys H=>∃(as:List Addr)(g:Hp),ys=as.map V.ref/\as.length=n/\as.Nodup/\c ∉ as/\(∀ b∈as,L b=none/\g b=none/\H b=some (.lst []))/\H c=some (.lst ys)/\g c=none/\Same N g/\Same g H/\Same L H/\(∀ a o,g a=some o->N a=some o\/L a=none)/\FT g H
 refine⟨λn m ys σI H=>m=ds.length-n/\n<=ds.length/\W n ys H,⟨ds.length,by simp,aG0 _,[],N,rfl,rfl,List.nodup_nil,by simp,λb hb=>by simp at hb,aaf,s.no_g d,Same.refl _,s.gh.trans (abj d),abj d,λa o e=>.inl e,λa ks e=>?_⟩,?_⟩
 ·by_cases z:a=c
  ·subst z;rw[aaf] at e;cases e
  ·rw[aae z] at e;exact s.ft a ks e
 rintro n m ys σI H2 ⟨rfl,hn,as,g,rfl,P,nd,na,all,f,O,C,l,r,E,v⟩
 refine⟨f,?_⟩
 by_cases hlt:n<ds.length
 ·refine .inr ⟨it.go n g H2 C l hlt,λK R H'=>W (n+1) K H',λK R H' hw=>⟨ds.length-(n+1),by lia,rfl,hlt,hw⟩,λx H3 y=>?_⟩
  obtain⟨M,o⟩:=it.yld n g H2 x H3 _ C l v (aA0 hlt) y
  refine aft (agn (acl (asw (aeu ⟨by decide,λp A=>?_⟩))))
  have n2:H2 p=none:=aaz o.hh A
  have n1:L p=none:=aaz r n2
  have T:p ≠ c:=(aao (o.hh _ _ f) A).symm
  have D:p ∉ as:=λz=>by
   have:=o.hh _ _ (all p z).2.2
   rw[this] at A;cases A
  refine⟨by rw[aae T.symm];exact o.hh _ _ f,by rw[aA3,P];exact big (by lia),as++[p],M,by simp,by simp[P],?_,?_,λb hb=>?_,aaf,?_,C.trans o.gg,λa u e=>?_,λa u e=>?_,λa u e=>?_,λa ks e=>?_⟩
  ·rw[aE7]
   exact⟨nd,by simp,λx hx y Z=>by simp at Z;subst Z;intro e;subst e;exact D hx⟩
  ·intro z
   rcases aA7.mp z with z|z
   ·exact na z
   ·exact T (aC2.mp z).symm
  ·have gb:∀ b,g b=none->(∃ u,H2 b=some u)->M b=none:=λb Y z_=>by
    obtain⟨u,U⟩:=z_
    cases e:M b with
    |none=>rfl
    | some w =>
     rcases o.gn b w e with e|e
     ·rw[Y] at e;cases e
     ·rw[U] at e;cases e
   rcases aA7.mp hb with hb|hb
   ·obtain⟨Y,U,h3⟩:=all b hb
    refine⟨Y,gb b U ⟨_,h3⟩,?_⟩
    rw[aae (λz:b=c=>na (by rw[← z];exact hb)),aae (λz:b=p=>D (by rw[← z];exact hb))]
    exact o.hh _ _ h3
   ·have e:b=p:=by simpa using hb
    subst e
    exact⟨n1,aaz o.gh A,by rw[aae T,aaf]⟩
  ·cases e:M c with
   |none=>rfl
   | some w =>
    rcases o.gn c w e with e|e
    ·rw[O] at e;cases e
    ·rw[f] at e;cases e
  ·have ap:a ≠ p:=aao (o.gh a u e) A
   have S:a ≠ c:=by
    rintro rfl
    rcases o.gn _ u e with e|e
    ·rw[O] at e;cases e
    ·rw[f] at e;cases e
   rw[aae S,aae ap];exact o.gh a u e
  ·have ap:a ≠ p:=aao e n1
   have S:a ≠ c:=aao e d
   rw[aae S,aae ap];exact o.hh _ _ (r a u e)
  ·rcases o.gn a u e with e|e
   ·exact E a u e
   ·exact .inr (aaz r e)
  ·by_cases z:a=c
   ·subst z;rw[aaf] at e;cases e
   ·rw[aae z] at e
    by_cases y:a=p
    ·subst y;rw[aaf] at e;cases e
    ·rw[aae y] at e;exact o.ft v a ks e
 ·have e:n=ds.length:=by lia
  subst e
  refine .inl ⟨it.stop _ g H2 C l rfl,?_⟩
  have I2:=s.grow C l r E v
  refine k (.ref c) g H2 F1 (λb=>b=c\/b∈as) (.own (OLL (List.replicate ds.length []))) X I2 (g1.trans C) ⟨⟨c,as,rfl,f,nd,na,by simp[P],λi b a1 hb hd=>?_,λb=>Iff.rfl⟩,λb z=>?_,λb z=>?_,λb z=>?_,λj b z y=>?_⟩ q
  ·rw[aH7] at hd
   split at hd
   ·cases hd;exact⟨[],(all b (aA2 hb)).2.2,.nil⟩
   ·cases hd
  ·rcases z with rfl|z
   ·exact s.no_b d
   ·exact s.no_b (all b z).1
  ·rcases z with rfl|z
   ·exact O
   ·exact(all b z).2.1
  ·rcases z with rfl|z
   ·exact⟨_,f⟩
   ·exact⟨_,(all b z).2.2⟩
  ·rcases z with rfl|z
   ·exact s.no_f d j y
   ·exact s.no_f (all b z).1 j y
theorem aix{d:List (List PyData)}{l j n:Nat}{k:Int}{y:PyData}{ds:List PyData}(e:env[i]?=some (some (.own (OLL d))))(ek:env[l]?=some (some (.st (.int k))))(S:env[j]?=some (some (.st y)))
  (W:ixN d.length k=some n) (hd:d[n]?=some ds) (hl:ds.length<=999999) (q:Q' .none (env.set i (some (.own (OLL (d.set n (ds++[y]))))))):Ev B (tBM K "list" aej (tOp (ach K) (tVar i) (tVar l)) (abb (tVar j) tNil)) env Q':=λσ G H F Q I Y=>by
 obtain⟨v,L,⟨a,as,rfl,h,E,N,ln,r,f⟩,_⟩:=I.sl i _ e
 obtain⟨vk,C,rk,_⟩:=I.sl l _ ek
 obtain⟨vy,w,U,_⟩:=I.sl j _ S
 cases rk
 have hn:n<d.length:=(aA1.mp hd).1
 have hb:as[n]?=some (as[n]'(by lia)):=aA0 _
 generalize as[n]'(by lia)=b at hb
 have s:b∈as:=aA2 hb
 obtain⟨vs,M,O⟩:=r n b ds hb hd
 have D:atI (as.map V.ref) k=some (.ref b):=by
  unfold atI
  rw[aA3,ln,W]
  simp[hb]
 refine⟨_,L,_,C,aex h D ⟨.inl ⟨rfl,_,SqL.of M⟩,_,w,ae5 M (by rw[O.length];exact big (by lia)) ?_⟩⟩
 have x:a ≠ b:=λz=>N (z ▸ s)
 have J:=I.change (A:=OLL (d.set n (ds++[y]))) (H2:=upd H b (.lst (vs++[vy]))) (F2:=F i) (os':=.own (OLL (d.set n (ds++[y])))) i e L (λc o p u=>by rw[aae (λz:c=b=>p ((f c).mpr (.inr (by rw[z];exact s))))];exact u)
  (λc o u=>by
   by_cases z:c=b
   ·rw[z];exact⟨_,aaf⟩
   ·rw[aae z];exact⟨o,u⟩)
  (λc z=>⟨.inl z,by
   by_cases y:c=b
   ·rw[y];exact⟨_,aaf⟩
   ·rw[aae y];exact I.fo i c z⟩) ?_ (λc ks e=>by
   by_cases z:c=b
   ·subst z;rw[aaf] at e;cases e
   ·rw[aae z] at e;exact I.ft c ks e) (.inl ⟨rfl,_,rfl⟩)
 ·exact Y _ G _ _ _ _ J (Same.refl _) .non q
 ·refine⟨a,as,rfl,by rw[aae x];exact h,E,N,by simp[ln],λm c es p g=>?_,f⟩
  by_cases hm:m=n
  ·subst hm
   rw[hb] at p;cases p
   rw[aD2,aF5 rfl,aF5 hn] at g
   cases g
   exact⟨_,aaf,O.append (.cons U .nil)⟩
  ·rw[aD2,aF6 (λz=>hm z.symm)] at g
   obtain⟨us,h3,P⟩:=r m c es p g
   refine⟨us,?_,P⟩
   rw[aae]
   ·exact h3
   ·rintro rfl
    have i1:=(aA1.mp hb)
    have Z:=(aA1.mp p)
    obtain⟨R,T⟩:=i1
    obtain⟨X,e2⟩:=Z
    exact hm (nodup_ix E X R (e2.trans T.symm))
end
@[reducible] def prD (p:Int × Int):PyData:=.tuple [.int p.1,.int p.2]
@[reducible] def webD (n:Int) (es:List (Int × Int)):PyData:=.tuple [.int n,.list (es.map prD)]
def Tied(es:List (Int × Int))(u v:Int):Prop:=(u,v)∈es\/(v,u)∈es
def InN(n:Int)(es:List (Int × Int)):Prop:=∀ p∈es,0<=p.1/\p.1<n/\0<=p.2/\p.2<n
theorem Tied.in{n:Int}{es:List (Int × Int)}{u v:Int}(hi:InN n es)(h:Tied es u v):(0<=u/\u<n)/\0<=v/\v<n:=by
 rcases h with h|h
 ·have:=hi _ h;exact⟨⟨this.1,this.2.1⟩,this.2.2⟩
 ·have:=hi _ h;exact⟨⟨this.2.2.1,this.2.2.2⟩,this.1,this.2.1⟩
theorem Tied.snoc{es:List (Int × Int)}{i:Nat}{a b:Int}(h:es[i]?=some (a,b))(u v:Int):Tied (es.take (i+1)) u v ↔ (Tied (es.take i) u v\/(u=a/\v=b))\/(u=b/\v=a):=by
 have e:es.take (i+1)=es.take i++[(a,b)]:=by rw[aH4,h];rfl
 unfold Tied
 rw[e]
 simp only[aA7,aC2,Prod.mk.injEq]
 constructor
 ·rintro((h|⟨rfl,rfl⟩)|(h|⟨rfl,rfl⟩))
  ·exact .inl (.inl (.inl h))
  ·exact .inl (.inr ⟨rfl,rfl⟩)
  ·exact .inl (.inl (.inr h))
  ·exact .inr ⟨rfl,rfl⟩
 ·rintro(((h|h)|⟨rfl,rfl⟩)|⟨rfl,rfl⟩)
  ·exact .inl (.inl h)
  ·exact .inr (.inl h)
  ·exact .inl (.inr ⟨rfl,rfl⟩)
  ·exact .inr (.inr ⟨rfl,rfl⟩)
def TiedL(n:Int)(T:Int->Int->Prop)(tl:List (List Int)):Prop:=(tl.length:Int)=n/\∀(i:Nat) ws,tl[i]?=some ws->∀ w,w∈ws ↔ T i w
def oD:Option Nat->PyData
 |none=>.none
 |some d=>.int d
def lab(n:Nat)(far:Int->Option Nat):List PyData:=(List.range n).map λ(i:Nat)=>oD (far (i:Int))
theorem ac1{n:Nat}{far:Int->Option Nat}:(lab n far).length=n:=by simp[lab]
theorem ael{n:Nat}{far:Int->Option Nat}{i:Nat}(h:i<n):(lab n far)[i]?=some (oD (far i)):=by
 unfold lab
 rw[aA5,aA0 (by simpa using h)]
 simp
theorem ati{n:Nat}{far:Int->Option Nat}{v:Int}(a:0<=v)(h:v<n):atI (lab n far) v=some (oD (far v)):=by
 have:=adw (xs:=lab n far) (j:=v.toNat) (ael (by lia))
 rwa [show((v.toNat:Nat):Int)=v by lia] at this
theorem aiy{n:Nat}{v:Int}(a:0<=v)(h:v<n):ixN n v=some v.toNat:=by
 unfold ixN;rw[aF5 a,aF5 h]
theorem apt{n:Nat}{far:Int->Option Nat}{v:Int}{d:Nat}(a:0<=v)(h:v<n):(lab n far).set v.toNat (.int d)=lab n (Gr.label far v d):=by
 apply aG2
 intro i
 rw[aD2]
 by_cases e:v.toNat=i
 ·rw[aF5 e,aF5 (by rw[ac1];lia),ael (by lia)]
  have:(i:Int)=v:=by lia
  rw[this,Gr.label_same];rfl
 ·rw[aF6 e]
  by_cases hi:i<n
  ·rw[ael hi,ael hi,Gr.label_ne (by lia)]
  ·rw[aF7.mpr (by rw[ac1];lia),aF7.mpr (by rw[ac1];lia)]
theorem atj{n:Nat}{f g:Int->Option Nat}(h:∀ v,0<=v->v<(n:Int)->f v=g v):lab n f=lab n g:=by
 unfold lab
 apply aE9
 intro i hi
 rw[h i (by lia) (by have:=aB9.mp hi;lia)]
theorem ayt{o:Option Nat}:isNone (oD o)=o.isNone:=by cases o <;> rfl
theorem acx{α:Type}{f : α->PyData}{xs:List α}{i:Int}{x : α}(h:atI xs i=some x):atI (xs.map f) i=some (f x):=by
 unfold atI at h ⊢
 rw[aA3]
 cases e:ixN xs.length i with
 |none=>rw[e] at h;cases h
 |some j=>rw[e] at h;simp at h ⊢;exact⟨_,h,rfl⟩
theorem ab5{α:Type}{xs:List α}{i:Int}{x : α}(a:0<=i)(h:xs[i.toNat]?=some x):atI xs i=some x:=by
 have:=adw (xs:=xs) (j:=i.toNat) h
 rwa [show((i.toNat:Nat):Int)=i by lia] at this
@[reducible] def tlD (tl:List (List Int)):List (List PyData):=tl.map λws=>ws.map .int
theorem TiedL.get{n:Int}{T:Int->Int->Prop}{tl:List (List Int)}(h:TiedL n T tl){v:Int}(d:0<=v)(c:v<n):∃ b,tl[v.toNat]?=some b/\∀ w,w∈b ↔ T v w:=by
 have a:v.toNat<tl.length:=by have:=h.1;lia
 refine⟨tl[v.toNat],aA0 a,λw=>?_⟩
 rw[h.2 _ _ (aA0 a) w,show((v.toNat:Nat):Int)=v by lia]
theorem adi{tl:List (List Int)}{i:Nat}{a:List Int}(h:tl[i]?=some a):(tlD tl)[i]?=some (a.map .int):=by
 rw[aA5,h];rfl
theorem TiedL.put{n:Int}{T:Int->Int->Prop}{tl:List (List Int)}(h:TiedL n T tl){v q:Int}{c:List Int}(j:0<=v)(l:v<n)(d:tl[v.toNat]?=some c):TiedL n (λa b=>T a b\/(a=v/\b=q)) (tl.set v.toNat (c++[q])):=by
 refine⟨by rw[List.length_set];exact h.1,λi us hi w=>?_⟩
 rw[aD2] at hi
 by_cases e:v.toNat=i
 ·rw[aF5 e] at hi
  have g:v.toNat<tl.length:=(aA1.mp d).1
  rw[aF5 (by lia)] at hi
  cases hi
  have f:(i:Int)=v:=by lia
  rw[aA7,aC2,h.2 i c (by rw[← e];exact d) w,f]
  simp
 ·rw[aF6 e] at hi
  rw[h.2 i us hi w]
  exact⟨.inl,λz=>z.elim id λz=>by lia⟩
theorem ahp{tl:List (List Int)}{i:Nat}{a:List Int}:(tlD tl).set i (a.map .int)=tlD (tl.set i a):=by
 unfold tlD;rw[List.map_set]
theorem TiedL.iff{n:Int}{T a:Int->Int->Prop}{tl:List (List Int)}(h:TiedL n T tl)(e:∀ u v,T u v ↔ a u v):TiedL n a tl:=⟨h.1,λi b hi w=>(h.2 i b hi w).trans (e _ _)⟩
end VL
namespace VL
open PySem L2
def cnt(far:Int->Option Nat):Nat->Nat
 |0=>0
 |n+1=>cnt far n+(if far (n:Int)=none then 1 else 0)
theorem agf{far:Int->Option Nat}{w:Int}{d:Nat}:∀{n:Nat},(w:Int) ≥ n->cnt (Gr.label far w d) n=cnt far n
 |0,_=>rfl
 | n+1,h=>by
  unfold cnt
  rw[agf (by lia),Gr.label_ne (by lia)]
theorem aeb{far:Int->Option Nat}{w:Int}{d:Nat}(b:0<=w)(a:far w=none):∀{n:Nat},w<(n:Int)->cnt (Gr.label far w d) n+1=cnt far n
 |0,h=>by lia
 | n+1,h=>by
  unfold cnt
  by_cases e:w=n
  ·subst e
   rw[agf (by lia),Gr.label_same,a];simp
  ·rw[Gr.label_ne (by lia)]
   have:=aeb b a (n:=n) (d:=d) (by lia)
   lia
theorem ayu(n:Nat):(List.replicate n [PyData.none]).flatten=lab n (λ_=>none):=by
 apply aG2
 intro i
 by_cases hi:i<n
 ·rw[ael hi]
  have:(List.replicate n [PyData.none]).flatten=List.replicate n PyData.none:=by
   clear hi
   induction n with
   |zero=>rfl
   |succ n ih=>rw[aH3,List.flatten_cons,ih,aH3];rfl
  rw[this,aH7,aF5 hi];rfl
 ·rw[aF7.mpr (by rw[ao1];simp;lia),aF7.mpr (by rw[ac1];lia)]
theorem aom{α:Type}{f : α->PyData}{xs:List α}:(xs.map f).isEmpty=xs.isEmpty:=by cases xs <;> rfl
theorem ab7{xs:List Int}{j:Nat}{u w:Int}(a:xs[j]?=some u)(hm:w∈xs.take (j+1)):w∈xs.take j\/w=u:=by
 rw[aH4,a] at hm
 rcases aA7.mp hm with q|q
 ·exact .inl q
 ·exact .inr (by simpa using q)
theorem atk{n:Nat}{far:Int->Option Nat}:plainDs (lab n far)=true:=by
 rw[afe]
 intro d hd
 obtain⟨i,_,rfl⟩:=aB7.mp hd
 cases far (i:Int) <;> rfl
theorem ayv{n:Nat}{far:Int->Option Nat}:((lab n far).any λz=>PyData.eqv z .none)=true ↔ ∃ v:Int,0<=v/\v<n/\far v=none:=by
 rw[aF3]
 constructor
 ·rintro⟨d,hd,e⟩
  obtain⟨i,hi,rfl⟩:=aB7.mp hd
  refine⟨i,by lia,by have:=aB9.mp hi;lia,?_⟩
  cases h:far (i:Int) with
  |none=>rfl
  |some d=>rw[h] at e;simp[oD,PyData.eqv] at e
 ·rintro⟨v,b,a,h⟩
  refine⟨oD (far v),?_,by rw[h];rfl⟩
  have:=ael (far:=far) (show v.toNat<n by lia)
  rw[show((v.toNat:Nat):Int)=v by lia] at this
  exact aA2 this
def aey(n:Int)(es:List (Int × Int)):Prop:=∀ v,0<=v->v<n->∃ d,Gr.Dist (Tied es) 0 v d
end VL
namespace DI
open PySem PySem.W
def Raw(h:Heap)(d:Addr)(es:Array DictEntry)(ep:Nat):Prop:=∃ o,h.get? d=some o/\o.ExactDict/\o.data=.dict es ep
theorem Raw.keep{h h':Heap}{d:Addr}{es:Array DictEntry}{ep:Nat}(r:Raw h d es ep)(k:∀ o,h.get? d=some o->h'.get? d=some o):Raw h' d es ep:=let ⟨o,e,x⟩:=r;⟨o,k o e,x⟩
theorem Raw.ty{s:Shared}{d:Addr}{es:Array DictEntry}{ep:Nat}(r:Raw s.heap d es ep):s.TypeIs (.ref d) "dict":=let ⟨o,e,x,_⟩:=r;⟨o,e,x.1⟩
section
variable{prog:Program}{w:World}{A:Around}{E:Value->Shared->Prop}{s:Shared}{d it:Addr}{es:Array DictEntry}{ep i:Nat}
theorem av3{Q:Value->Shared->Prop}(hd:(d == sysModules)=false)(r:Raw s.heap d es ep)
  (c:Q (.ref s.heap.objs.size) { s with heap:=s.heap.push { cls:=.type "dict_keyiterator",data:=.fields #[.ref d,.int 0 0,.int es.size 0,.int ep 0] } }):wpAny (model prog w) A (pyIter (.ref d)) Q E s:=by
 obtain⟨o,b,f,a⟩:=id r
 refine wpAny_pyIter_slot r.ty PySem.F.slot_dict_iter (aK4 PySem.F.slot_dict_iter r.ty PySem.F.entry_dict_iter ?body (PySem.F.args_dict_iter_1 _))
 case body =>
  unfold Builtin.«dict.__iter__»
  refine aJ1 ?slot
  case slot =>
   unfold Builtin.Dict.dictSlotNone
   refine aJ1 (wpAny_notOrdered_dict r.ty ?pl)
   case pl =>
    show wpAny _ _ (pure (Value.ref d)) _ _ s
    refine aJ2 ?rest
    case rest =>
     show wpAny _ _ (Builtin.Dict.showsAll d >>= _) _ _ s
     unfold Builtin.Dict.showsAll
     rw[aF6 (by rw[hd];exact aB0)]
     refine aJ1 (aJ2 (aJ1 (wpAny_dictEntries b a (aJ1 (wpAny_dictEpoch b a (aJ1 (aK1 (aJ2 ⟨_,rfl,"dict_keyiterator",_,⟨_,aJ5 _ rfl,rfl⟩,PySem.F.slot_dict_keyiterator_next.lookup,?fin⟩))))))))
     case fin=>simpa[rawInt] using c
theorem av4 {Q:Option Value->Shared->Prop} (a:s.heap.IsKeyIter it d i es.size ep) (r:Raw s.heap d es ep) (hi:i<es.size)
  (x:∀ h',h'.IsKeyIter it d (i+1) es.size ep->Heap.SameBut it s.heap h'->Q (some es[i].key) { s with heap:=h' }):wpAny (model prog w) A (pyNext (.ref it)) Q E s:=by
 obtain⟨o,q,v,hd⟩:=id a
 obtain⟨od,p,u,n⟩:=r
 unfold pyNext
 refine aJ1 (wpAny_attempt (wpAny_callSpecial?_slot (name:=Str.ofString "__next__") a.typeIs PySem.F.slot_dict_keyiterator_next (aK4 PySem.F.slot_dict_keyiterator_next a.typeIs PySem.F.entry_dict_keyiterator_next ?b (PySem.F.args_dict_keyiterator_next_1 _))))
 case b =>
  refine aJ1 (aJ2 (aJ1 (aJ1 ?c)))
  case c =>
   first|refine aJ1 (wpAny_typeNameOfWhole_keyiter a.typeIs (aJ2 (aJ1 (wpAny_fieldsOf q hd ?e))))|refine aJ1 (wpAny_typeNameOf_keyiter a.typeIs (aJ2 (aJ1 (wpAny_fieldsOf q hd ?e))))
   case e =>
    simp only[show Builtin.Dict_items.ownsTuple "dict_keyiterator" = false by decide,Bool.false_eq_true,if_false]
    show wpAny _ _ (if (Value.ref d == Value.none)=true then _ else _) _ _ s;rw[aF6 (show ¬ ((Value.ref d == Value.none)=true) from aB0)]
    refine aJ1 (aJ2 (aJ1 (wpAny_dictEntries p n ?f)))
    case f =>
     rw[aF6 (by simp)];refine aJ1 (aJ2 (aJ1 (wpAny_dictEpoch p n ?g)))
     case g =>
      rw[aF6 (by simp)];refine aJ2 ?h
      case h =>
       simp only[show ¬ ((i:Int)<0) by lia,if_false,Int.toNat_natCast,aA4 hi];refine aJ1 ?j
       case j =>
        first|refine aJ1 (wpAny_typeNameOfWhole_keyiter a.typeIs (aJ2 (aJ1 (wpAny_isOneOf_keyiter a.typeIs ?k))))|refine aJ1 (wpAny_typeNameOf_keyiter a.typeIs (aJ2 (aJ1 (wpAny_isOneOf_keyiter a.typeIs ?k))))
        case k =>
         show wpAny _ _ (setField (.ref it) 1 (rawInt ((i:Int)+1)) >>= _) _ _ s;refine aJ1 (wpAny_setField q hd (by simp) ?l)
         case l =>
          have nx:(s.heap.update it (Obj.mapFields (·.setIfInBounds 1 (rawInt ((i:Int)+1))))).IsKeyIter it d (i+1) es.size ep:=⟨_,aK7 _ q (Obj.isFreed_of_fields (Obj.data_mapFields hd _)),(Obj.cls_mapFields ..).trans v,by rw[Obj.data_mapFields hd];simp[rawInt]⟩
          refine aJ1 (aJ7 (aJ1 (wpAny_isOneOf_keyiter (s:={ s with heap:=s.heap.update it (Obj.mapFields (·.setIfInBounds 1 (rawInt ((i:Int)+1)))) }) nx.typeIs ?m)))
          case m=>show wpAny _ _ (pure es[i].key) _ _ _;exact aJ2 (aJ2 ⟨_,rfl,aJ2 (x _ nx (Heap.SameBut.update ..))⟩)
theorem ayw {Q:Option Value->Shared->Prop} (hh:A.handled=none) (i:s.heap.IsKeyIter it d es.size es.size ep) (r:Raw s.heap d es ep) (x:∀ h',Heap.ExtBut it s.heap h'->Q none { s with heap:=h' }):wpAny (model prog w) A (pyNext (.ref it)) Q E s:=by
 obtain⟨o,u,y,hd⟩:=id i
 obtain⟨od,p,v,n⟩:=r
 unfold pyNext
 refine aJ1 (wpAny_attempt (wpAny_callSpecial?_slot (name:=Str.ofString "__next__") i.typeIs PySem.F.slot_dict_keyiterator_next (aK4 PySem.F.slot_dict_keyiterator_next i.typeIs PySem.F.entry_dict_keyiterator_next ?b (PySem.F.args_dict_keyiterator_next_1 _))))
 case b =>
  refine aJ1 (aJ2 (aJ1 (aJ1 ?c)))
  case c =>
   first|refine aJ1 (wpAny_typeNameOfWhole_keyiter i.typeIs (aJ2 (aJ1 (wpAny_fieldsOf u hd ?e))))|refine aJ1 (wpAny_typeNameOf_keyiter i.typeIs (aJ2 (aJ1 (wpAny_fieldsOf u hd ?e))))
   case e =>
    simp only[show Builtin.Dict_items.ownsTuple "dict_keyiterator" = false by decide,Bool.false_eq_true,if_false]
    show wpAny _ _ (if (Value.ref d == Value.none)=true then _ else _) _ _ s;rw[aF6 (show ¬ ((Value.ref d == Value.none)=true) from aB0)]
    refine aJ1 (aJ2 (aJ1 (wpAny_dictEntries p n ?f)))
    case f =>
     rw[aF6 (by simp)];refine aJ1 (aJ2 (aJ1 (wpAny_dictEpoch p n ?g)))
     case g =>
      rw[aF6 (by simp)];refine aJ2 ?h
      case h =>
       simp only[show ¬ ((es.size:Int)<0) by lia,if_false,Int.toNat_natCast,Array.getElem?_eq_none (aA6 es.size)];refine aJ1 ?j
       case j =>
        first|refine aJ1 (wpAny_typeNameOfWhole_keyiter i.typeIs (aJ2 ?k))|refine aJ1 (wpAny_typeNameOf_keyiter i.typeIs (aJ2 ?k))
        case k =>
         show wpAny _ _ (setField (.ref it) 0 .none >>= _) _ _ s;refine aJ1 (wpAny_setField u hd (by simp) ?l)
         case l =>
          show wpAny _ _ (newExc (.type "StopIteration") [] >>= _) _ _ _;refine aJ1 ?m
          case m =>
           simp only[newExc,newTuple];refine aJ1 (aK1 ?zz2 (by size_fits))
           case zz2 =>
            refine aJ1 (m:=firstArgMember _ _) (wpAny_of_eq (a:=Value.none) (by first|rfl|(simp only[firstArgMember];rfl)) (aK1 ?zz1 (by size_fits)))
            case zz1 =>
             simp only[raiseNew];refine aJ1 (wpAny_handled ?q)
             case q =>
              rw[show A.in1.handled=none from hh];refine aJ1 (aJ2 (wpAny_throw ?u1))
              case u1=>refine aJ1 (wpAny_isInstance (T:="StopIteration") (b:=true) ⟨_,aJ5 _ rfl,rfl⟩ isSubtype_stop ?u2);exact aJ2 (x _ (((Heap.SameBut.update ..).extBut.push _).push _))
end
theorem walks{prog:Program}{w:World}{A:Around}(hh:A.handled=none)(I d:Addr)(c:d ≠ I)(es:Array DictEntry)(ep:Nat) :
  Walks prog w A I [I,d] [I] es.size (λi v=>(es[i]?).map (·.key)=some v) (λi h=>h.IsKeyIter I d i es.size ep/\Raw h d es ep) where
 sub:=λb hb=>by simp at hb;simp[hb]
 frame:=λ_ _ _ st f=>⟨st.1.at λo e=>f I (by simp) o e,st.2.keep λo e=>f d (by simp) o e⟩
 item:=λi s Q E hi st a=>av4 st.1 st.2 hi λh' nx sb=>a _ h' s.toks (by rw[aA4 hi];rfl) ⟨nx,st.2.keep λo e=>sb.extBut d o c e⟩ λb o hb e=>sb.extBut b o (λz=>hb (by simp[z])) e
 done:=λs Q E st a=>ayw hh st.1 st.2 λh' g=>a h' s.toks λb o hb e=>g b o (λz=>hb (by simp[z])) e
 self:=λ_ _ _ _ st a=>wpAny_pyIter_keyiter st.1 a
end DI
namespace DI
open PySem PySem.W PyProof.Rows
section
variable{prog:Program}{w:World}{A:Around}{E:Value->Shared->Prop}{s:Shared}
theorem src(d:Addr)(es:Array DictEntry)(ep:Nat)(hd:(d == sysModules)=false):KdlSrc prog w "dict" d d es.size (λi v=>(es[i]?).map (·.key)=some v) (λh=>Raw h d es ep) where
 type:=λs r=>r.ty
 there:=λh r=>let ⟨o,e,_⟩:=r;⟨aJ4 e,aJ4 e⟩
 keep:=λh h' r k=>r.keep λo e=>k d (.inl rfl) o e
 notList:=by decide
 notTuple:=by decide
 hint:=λA E s Q r q=>kdl_hint_dict r.ty q
 iter:=λA s hh r=>⟨{ cls:=.type "dict_keyiterator",data:=.fields #[.ref d,.int 0 0,.int es.size 0,.int ep 0] },λi h=>h.IsKeyIter s.heap.objs.size d i es.size ep/\Raw h d es ep,λE Q q=>av3 hd r q,
  walks hh s.heap.objs.size d (by obtain⟨o,e,_⟩:=r;exact aB6 (aJ4 e)) es ep,⟨_,aJ5 _ rfl,rfl,rfl⟩,r.keep λo e=>aJ3 _ e⟩
theorem collect_src{T:String}{r d:Addr}{n:Nat}{P:Nat->Value->Prop}{j:Heap->Prop}{Q:List Value->Shared->Prop}(K:KdlSrc prog w T r d n P j)(hh:A.handled=none)(hok:j s.heap)(hn:n<=sizeLine)
  (q:∀ h' i (f:Array Value),(∀ b o,s.heap.get? b=some o->h'.get? b=some o)->s.heap.objs.size<=h'.objs.size->ItemsOf P f n->Q f.toList { s with heap:=h',toks:=i }):wpAny (model prog w) A (collect (.ref r)) Q E s:=by
 unfold collect
 refine aJ1 (wpAny_runValue (aK8 PySem.F.entry_proto_collect ?a1))
 case a1 =>
  rw[aK2 PySem.F.plain_proto_collect _];show wpAny _ A.in1 (newList [] >>= λl=>again (.builtin "list.__iadd__" ⟨[l,.ref r],[]⟩)) _ _ s
  refine aJ1 (aK1 (aJ2 ⟨plainId_quiet PySem.F.plain_list_iadd _,aK8 PySem.F.entry_list_iadd ?a2⟩))
  case a2 =>
   rw[aK2 PySem.F.plain_list_iadd _];show wpAny _ A.in1 (Builtin.List.listExtendWith (.ref s.heap.objs.size) (.ref r) (.ref s.heap.objs.size)) _ _ _
   have m:(s.heap.push { cls:=.type "list",data:=.seq ([]:List Value).toArray }).get? s.heap.objs.size=some { cls:=.type "list",data:=.seq #[] 0 }:=aJ5 _ rfl
   obtain⟨t1,p⟩:=K.there _ hok
   refine kdl_extend (R:=wants (λv s'=>wpAny (model prog w) A (match v with | .ref a=>(do match (← load a).data with | .seq xs _=>pure xs.toList|_=>unsupported "internal:collect")|_=>unsupported "internal:collect") Q E s') E) (s:={ s with heap:=s.heap.push { cls:=.type "list",data:=.seq ([]:List Value).toArray } }) K hh (K.keep _ _ hok λb _ o e=>aJ3 _ e) s.heap.objs.size (Nat.ne_of_gt t1) (Nat.ne_of_gt p) _ 0 m (λh' i f c k h g=>?a3) hn
   case a3 =>
    show wpAny (model prog w) A _ Q E _
    refine aJ1 (wpAny_load h ?a4)
    case a4=>exact aJ2 (q h' i f (λb o e=>k b o (aB6 (aJ4 e)) (aJ3 _ e)) (aG5 (aJ4 h)) g)
end
end DI
namespace TS
open PySem PySem.W PyProof.Rows
section
variable{prog:Program}{w:World}{A:Around}{E:Value->Shared->Prop}{s:Shared}
theorem sorted_gen{l:Addr}{Ok:List Value->Prop}{Q:Value->Shared->Prop}
  (h:∀(D:List Value->Shared->Prop),(∀ vs i d,(∀ b o,s.heap.get? b=some o->i.get? b=some o)->s.heap.objs.size<=i.objs.size->Ok vs->D vs { s with heap:=i,toks:=d })->wpAny (model prog w) A.in1 (collect (.ref l)) D E s)
  (c:∀ vs,Ok vs->vs.length<=sizeLine)
  (p:∀ vs,Ok vs->2<=vs.length->∀ h' d,(∀ b o,s.heap.get? b=some o->h'.get? b=some o)->∃ κ S R,(∀(Q:SortKind->Shared->Prop),Q κ { s with heap:=h',toks:=d }->wpAny (model prog w) A.in1.in1 (keyKind' vs.toArray) Q E { s with heap:=h',toks:=d }) /\
   Cmp (model prog w) A.in1.in1 E { s with heap:=h',toks:=d } κ S R/\(∀ v∈vs,S (v,v))/\∀ out:List Value,out.Perm vs->out.Pairwise (λx y=>R (y,y) (x,x)=false) ->
    ∀ a h' d e,(∀ b o,s.heap.get? b=some o->h'.get? b=some o)->s.heap.objs.size<=a->h'.get? a=some (seqObj "list" out.toArray e)->Q (.ref a) { s with heap:=h',toks:=d })
  (i:∀ vs,Ok vs->vs.length<2->∀ a h' d e,(∀ b o,s.heap.get? b=some o->h'.get? b=some o)->s.heap.objs.size<=a->h'.get? a=some (seqObj "list" vs.toArray e)->Q (.ref a) { s with heap:=h',toks:=d }) :
  wpAny (model prog w) A (call (.builtin "sorted") [.ref l]) Q E s:=by
 refine Calls.call_function_entry kind_sorted plain_sorted entry_sorted (args_sorted1 _) ?_
 unfold Builtin.«sorted»
 refine aJ1 (m:=checkCount "sorted" 1 1 _) (aJ2 (aJ1 (h _ λvs g d kp hsz r=>?_)))
 have c:=c vs r
 refine aJ1 (wpAny_newList ?_ c)
 have f:(g.push (seqObj "list" vs.toArray 0)).get? g.objs.size=some (seqObj "list" vs.toArray 0):=aJ5 _ rfl
 have keep:∀ b o,s.heap.get? b=some o->(g.push (seqObj "list" vs.toArray 0)).get? b=some o:=λb o q=>aJ3 _ (kp b o q)
 refine aJ1 (aJ7 (aK4 slot_list_sort ⟨_,f,rfl⟩ entry_list_sort ?body (args_list_sort _)))
 case body =>
  have fin:∀ out:List Value,∃ e,(sortedHeap (g.push (seqObj "list" vs.toArray 0)) g.objs.size vs out.toArray).get? g.objs.size=some (seqObj "list" out.toArray e):=λout=>sortedHeap_at (n:=0) f
  have old:∀(out:List Value) b o,s.heap.get? b=some o->(sortedHeap (g.push (seqObj "list" vs.toArray 0)) g.objs.size vs out.toArray).get? b=some o:=λout b o e=>by
   have lt:=aJ4 (kp b o e)
   rw[sortedHeap_old (aB6 lt) (by rw[size_push'];exact aF8 lt)];exact keep b o e
  refine list_sort_any (s:={ s with heap:=g.push (seqObj "list" vs.toArray 0),toks:=d }) f c (λu h' H=>?_) λz=>?_
  ·obtain⟨κ,S,R,G,C,J,j⟩:=p vs r u h' d λb o e=>H b o (aB6 (aJ4 (kp b o e))) (keep b o e)
   refine⟨κ,S,R,G,C,J,λout F I=>⟨_,rfl,aJ2 ⟨_,rfl,?_⟩⟩⟩
   obtain⟨e,B⟩:=fin out
   exact j out F I _ _ _ e (old out) hsz B
  ·obtain⟨e,B⟩:=fin vs
   exact⟨_,rfl,aJ2 ⟨_,rfl,i vs r z _ _ _ e (old vs) hsz B⟩⟩
end
end TS
namespace L2
open PySem PySem.Spec PyProof.Rows
section
variable{X:Cx}{pins:List (Addr × Obj)}{σ:St}{H:Hp}{s:Shared}{h':Heap}
end
section
variable{X:Cx}{elts:List Expr}{k:Nat}{tpos:Pos}
end
section
variable{X:Cx}{elts:List Expr}{k:Nat}{tpos:Pos}
end
theorem ajs:∀{xs:List V}{us:List Value},xs.length=us.length->(∀(i:Nat) v u,xs[i]?=some v->us[i]?=some u->RelV v u)->Vals xs us
 |[],[],_,_=>.nil
 |[],_::_,h,_=>by simp at h
 |_::_,[],h,_=>by simp at h
 |x::xs,u::us,h,k=>.cons (k 0 x u rfl rfl) (ajs (by simpa using h) λi v w b a=>k (i+1) v w (by simpa using b) (by simpa using a))
theorem ah1(prog:Program)(w:World)(A:Around){bs:List Bool}{us:List Value}(r:Vals (bs.map V.bl) us):TruthOf prog w A (λi v=>us.toArray[i]?=some v) (λi=>bs.getD i false):=by
 intro i v s Q E d h
 have a:us[i]?=some v:=by simpa using d
 have hi:i<us.length:=(aA1.mp a).1
 have hb:i<bs.length:=by have:=r.length;simp at this;lia
 obtain⟨u,b,c⟩:=r.get (i:=i) (x:=.bl bs[i]) (by simp[hb])
 rw[a] at b;cases b
 cases (show v=Value.bool bs[i] from c)
 have e:bs.getD i false=bs[i]:=by simp[List.getD,hb]
 have h':Q (bs.getD i false) s:=h
 rw[e] at h'
 exact aK5 h'
section
variable{X:Cx}
theorem atl(bs:List Bool):((List.range bs.length).all λi=>bs.getD i false)=bs.all id:=by
 rw[aH8,aF4,aF4]
 constructor
 ·intro h b hb
  obtain⟨i,hi,e⟩:=aH6.mp hb
  have:=h i (aB9.mpr hi)
  simp[List.getD,hi,e] at this
  exact this
 ·intro h i hi
  have a:=aB9.mp hi
  have:=h bs[i] (aF2 a)
  simp[List.getD,a];exact this
theorem atm(bs:List Bool):((List.range bs.length).any λi=>bs.getD i false)=bs.any id:=by
 rw[aH8,aF3,aF3]
 constructor
 ·rintro⟨i,hi,h⟩
  have a:=aB9.mp hi
  refine⟨bs[i],aF2 a,?_⟩
  simp[List.getD,a] at h;exact h
 ·rintro⟨b,hb,h⟩
  obtain⟨i,hi,e⟩:=aH6.mp hb
  refine⟨i,aB9.mpr hi,?_⟩
  simp[List.getD,hi,e];exact h
def rAll(K:Frag):List V->Hp->VK->Prop:=λxs H Q=>∃(a:Addr)(bs:List Bool),xs=[.ref a]/\SqL K H a (bs.map V.bl)/\Q (.bl (bs.all id)) H
def rAny(K:Frag):List V->Hp->VK->Prop:=λxs H Q=>∃(a:Addr)(bs:List Bool),xs=[.ref a]/\SqL K H a (bs.map V.bl)/\Q (.bl (bs.any id)) H
theorem agv(i:X.calm=true):aa2 X (.builtin "all") (rAll X.K):=by
 intro pins s σ H xs us Q I r h
 obtain⟨a,bs,rfl,ha,q⟩:=h
 obtain⟨u,rfl,g⟩:=ab3 r
 cases g
 obtain⟨its,d,c,_⟩:=I.list ha
 have f:a<s.heap.objs.size:=by obtain⟨o,n,e,_⟩:=c;exact aJ4 e
 have hz:its.toArray.size=bs.length:=by have:=d.length;simp at this;simp[this]
 refine call_all_walk (aK6 c.isList ⟨_,[s.heap.objs.size,a],_,_,_,_,_,rfl,Walks.list (A:=X.A.in1) (I.ok.hd i) _ a (aB6 f) its.toArray,⟨⟨_,aJ5 _ rfl,rfl,rfl⟩,c.isList.push _⟩,ah1 _ _ _ d,λl j kp=>?_⟩)
 rw[hz,atl]
 refine⟨.bl _,H,I.kept λb o e=>kp b o (λz=>?_) (aJ3 _ e),rfl,q⟩
 exact absurd (aJ4 e) (by rw[aC2.mp z];exact aG4 _)
theorem atn(i:X.calm=true):aa2 X (.builtin "any") (rAny X.K):=by
 intro pins s σ H xs us Q I r h
 obtain⟨a,bs,rfl,ha,q⟩:=h
 obtain⟨u,rfl,g⟩:=ab3 r
 cases g
 obtain⟨its,d,c,_⟩:=I.list ha
 have f:a<s.heap.objs.size:=by obtain⟨o,n,e,_⟩:=c;exact aJ4 e
 have hz:its.toArray.size=bs.length:=by have:=d.length;simp at this;simp[this]
 refine call_any_walk (aK6 c.isList ⟨_,[s.heap.objs.size,a],_,_,_,_,_,rfl,Walks.list (A:=X.A.in1) (I.ok.hd i) _ a (aB6 f) its.toArray,⟨⟨_,aJ5 _ rfl,rfl,rfl⟩,c.isList.push _⟩,ah1 _ _ _ d,λl j kp=>?_⟩)
 rw[hz,atm]
 refine⟨.bl _,H,I.kept λb o e=>kp b o (λz=>?_) (aJ3 _ e),rfl,q⟩
 exact absurd (aJ4 e) (by rw[aC2.mp z];exact aG4 _)
def agw(K:Frag):List V->Hp->VK->Prop:=λxs H Q=>∃ p ys,xs=[.ref p]/\(SqL K H p ys\/SqT K H p ys)/\∀ l,H l=none->Q (.ref l) (upd H l (.lst ys))
theorem adr:aa2 X (.type "list") (agw X.K):=amb
def aiz(ta:TA):TE:=λσ H Q=>ta σ H λvs H1=>∃ j:Int,vs=[.int j]/\0<=j/\j<=1000000/\∀ l,H1 l=none->Q (.ref l) (upd H1 l (.lst ((List.range j.toNat).map λ(i:Nat)=>V.int (i:Int))))
theorem ane{a:Expr}{y:TA}{E p2 pos d:Pos}(z:Gl X "list")(hm:X.mg "list" = none)(p:Gl X "range")(w:X.mg "range" = none)(N:X.calm=true)(ha:PA X [a] y)(hs:starEach [a] X.env=[(false,eval a X.env)]:=by rfl)
  (l:starEach [.Call (.Name "range" p2) [a] [] d] X.env=[(false,eval (.Call (.Name "range" p2) [a] [] d) X.env)]:=by rfl):PE X (.Call (.Name "list" E) [.Call (.Name "range" p2) [a] [] d] [] pos) (aiz y):=by
 intro pins s σ H Q I h
 refine Call_ (aem I z hm adx (PyProof.Rows.callWith_type1 ?_ l rfl))
 rw[l]
 refine Calls.spliced_cons (Call_ (aem I p w boot_range (PyProof.Rows.callWith_type1 (thn (ha d pins s σ H _ I h) λus s1 ⟨vs,P,x,C,j,D,O,R,q⟩=>?_) hs rfl)))
 subst D
 obtain⟨u,rfl,t,rfl⟩:=ab3 C
 refine call_range_1 (Calls.spliced_nil ?_)
 have B:IsRange (s1.heap.push { cls:=.type "range",data:=.fields #[.int 0 s1.toks,.int j t,.int 1 (s1.toks+1)] }) s1.heap.objs.size 0 j 1 s1.toks t (s1.toks+1):=aJ5 _ rfl
 have hn:Builtin.Range.rangeSize 0 j 1=((j.toNat:Nat):Int):=by rw[rangeSize_one];split <;> lia
 refine call_list_range (s:={ s1 with heap:=s1.heap.push { cls:=.type "range",data:=.fields #[.int 0 s1.toks,.int j t,.int 1 (s1.toks+1)] },toks:=s1.toks+1+1 }) (x.ok.hd N) B (small_one (by lia) (by lia) (by lia) (by lia)) hn (by lia) λK A m c kp L items=>?_
 have M:∀ b o,s1.heap.get? b=some o->K.get? b=some o:=λb o e=>kp b o (aJ3 _ e)
 have f:s1.heap.objs.size<=(s1.heap.push { cls:=.type "range",data:=.fields #[.int 0 s1.toks,.int j t,.int 1 (s1.toks+1)] }).objs.size:=by rw[aK3];exact Nat.le_succ _
 refine⟨.ref _,_,x.laid (t':=A) (o:=.lst ((List.range j.toNat).map λ(i:Nat)=>V.int (i:Int))) M f ?_,rfl,q _ (x.hok.fresh f)⟩
 refine⟨by rw[aA3,aE0];exact aG5 (VL.big (by lia)),m.toList,c,?_,by simpa using L⟩
 obtain⟨F,r⟩:=items
 refine ajs (by simp[F]) λi v u n J=>?_
 have g:m[i]?=some u:=by simpa using J
 obtain⟨t',G⟩:=r i u g
 rw[aA5] at n
 have hi:i<j.toNat:=by
  have:=(Array.getElem?_eq_some_iff.mp g).1
  lia
 rw[aA0 (by simpa using hi)] at n
 simp at n
 subst n
 exact⟨t',by rw[G];simp⟩
end
section
variable{X:Cx}{pins:List (Addr × Obj)}{σ:St}{H:Hp}{s:Shared}
end
section
variable{X:Cx}{tg:Expr}
def ahq:List V->Hp->VK->Prop:=λxs H Q=>∃(a:Addr)(kvs:List (List Key × V))(kss:List (List Int)),xs=[.ref a]/\H a=some (.dT kvs)/\kvs.map (·.1)=kss.map (λns=>ns.map Sum.inl)/\(∀ ns∈kss,ns ≠ []) /\
 ∀(vs:List V)(p:Addr),(∀ v∈vs,TupI H v)->(vs.map (kH H)).Perm kss->vs.Pairwise (λx y=>HT.lexLt (kH H y) (kH H x)=false)->H p=none->Q (.ref p) (upd H p (.lst vs))
theorem apu{H:Hp}:∀{kvs:List (List Key × V)}{xs:List (List Key × Addr × Value)}{a:List (List Int)},KT H kvs xs->kvs.map (·.1)=a.map (λns=>ns.map Sum.inl)->(∀ ns∈a,ns ≠ []) ->
  (∀ v∈xs.map (λq=>V.ref q.2.1),TupI H v)/\(xs.map (λq=>V.ref q.2.1)).map (kH H)=a
 |_,_,[],.nil,_,_=>⟨λv b=>by simp at b,rfl⟩
 |_,_,_::_,.nil,h,_=>by simp at h
 |_,_,[],.cons _ _,h,_=>by simp at h
 | p::kvs,q::xs,ns::a,.cons r t,h,hn=>by
  simp only[aD1,List.cons.injEq] at h
  obtain⟨i1,d⟩:=apu t h.2 λc hm=>hn c (aB5 _ hm)
  have e:H q.2.1=some (.tup (ns.map V.int)):=by
   rw[r.2.1,h.1,aD9];rfl
  refine⟨λv b=>?_,?_⟩
  ·rcases aA9.mp b with rfl|b
   ·exact⟨_,ns,rfl,e,hn ns aB8⟩
   ·exact i1 v b
  ·rw[aD1,aD1,ahh e,d]
theorem afg(S:X.calm=true):aa2 X (.builtin "sorted") ahq:=by
 intro pins s σ H xs us Q I r h
 obtain⟨a,kvs,a0,rfl,P,hk,E,q⟩:=h
 obtain⟨u,rfl,ru⟩:=ab3 r
 cases ru
 obtain⟨z,y,ys,B,o,es,ep,h1,m,h3,K,h5⟩:=(show ObjOk X.prog X.w H s.heap a (.dT kvs) from I.hok a _ P)
 obtain⟨t1,U⟩:=apu B hk E
 have hz:es.size=ys.length:=by
  have e1:es.toList.length=ys.length:=by rw[K];simp
  simpa using e1
 have j:ys.length<=sizeLine:=by have:=Paired.length B;lia
 let c:List Value:=ys.map λq=>.ref q.2.1
 have N:Vals (ys.map λq=>V.ref q.2.1) c:=ajs (by simp[c]) λi v u d n=>by
  rw[aA5] at d n
  cases e:ys[i]? with
  |none=>rw[e] at d;cases d
  |some q=>rw[e] at d n;cases d;cases n;rfl
 obtain⟨J,L⟩:=agt N t1
 have fin:∀ out:List Value,out.Perm c->(out.map ab4).Pairwise (λx y=>HT.lexLt (kH H y) (kH H x)=false)->∀ p m g e,(∀ b o,s.heap.get? b=some o->m.get? b=some o)->s.heap.objs.size<=p->m.get? p=some (seqObj "list" out.toArray e)->EP X pins σ Q (.ref p) { s with heap:=m,toks:=g }:=by
  intro out f hs p m g e kp hsz he
  have d:Vals (out.map ab4) out:=ae7 λu n=>J u (f.mem_iff.mp n)
  refine⟨.ref p,_,I.laid (t':=g) (o:=.lst (out.map ab4)) kp hsz ?_,rfl,q _ _ (λv C=>?_) ?_ hs (I.hok.fresh hsz)⟩
  ·refine⟨by rw[aA3,f.length_eq];simp[c];exact j,out,e,d,by rw[he]⟩
  ·have:=(f.map ab4).mem_iff.mp C
   rw[L] at this;exact t1 v this
  ·have:=(f.map ab4).map (kH H)
   rw[L,U] at this;exact this
 refine TS.sorted_gen (Ok:=λvs=>vs=c) (λQc F=>DI.collect_src (DI.src a es ep y) (I.ok.hd S) ⟨o,h1,m,h3⟩ (by lia) λh' g l kp hsz items=>F _ h' g kp hsz ?_) (λvs e=>by subst e;simp[c];exact j) (λvs e a1 h' g kp=>?_) λvs e D=>?_
 ·obtain⟨i1,Z⟩:=items
  apply aG2
  intro i
  simp only[c,aA5]
  by_cases hi:i<ys.length
  ·have ha:l[i]?=some l[i]:=aA4 (by lia)
   have:(es[i]?).map (·.key)=some l[i]:=Z i _ ha
   have M:es[i]?=some es[i]:=aA4 (by lia)
   rw[M] at this
   have G:es.toList[i]?=some es[i]:=by rw[aD6];exact M
   rw[K,aA5,aA0 hi] at G
   rw[aA0 hi]
   simp at this G
   rw[aD6,ha,← this,← G];rfl
  ·rw[aF7.mpr (by simp;lia),aF7.mpr (by lia)];rfl
 ·subst e
  obtain⟨⟨fs,k1,k2,k3⟩,k4⟩:=af5 I kp N t1
  have A:(Value.type "int" != Value.type "tuple")=true:=by rfl
  refine⟨tuples' true,TS.tS h' (λa=>kH H (.ref a)),TS.tR (λa=>kH H (.ref a)),λQ' F=>?_,TS.cmp_tups (s:={ s with heap:=h',toks:=g }) (λa=>kH H (.ref a)),λv d=>?_,λout f hs=>fin out f ?_⟩
  ·refine PySem.W.kat_kind (T:=.type "int") (s:={ s with heap:=h',toks:=g }) k1 (by lia) (λv d=>?_) (by rfl) ?_
   ·obtain⟨i,t,rfl⟩:=k3 v d
    exact .now
   ·rw[A];exact F
  ·obtain⟨a,e,R⟩:=k4 v d
   exact⟨rfl,a,e,R⟩
  ·rw[aG1]
   refine aI0 ?_ hs
   intro x y hx O Y
   obtain⟨ax,rfl⟩:=J x (f.mem_iff.mp hx)
   obtain⟨ay,rfl⟩:=J y (f.mem_iff.mp O)
   exact Y
 ·subst e
  exact fin c (List.Perm.refl _) (ah8 (by rw[aA3];exact D))
end
end L2
namespace VL
open PySem PySem.Spec L2
section
variable{B:Bs}{env:En}{QI:List PyData->En->Prop}{QO:Sl->En->Prop}{Q':PyData->En->Prop}{K:Frag}{i:Nat}{ta:TA}
theorem RpT.len{G:Hp}:∀{kvs:List (List Key × V)}{es:List (List Key × PyData)},RpT G kvs es->kvs.length=es.length/\kvs.map (·.1)=es.map (·.1)
 |_,_,.nil=>⟨rfl,rfl⟩
 | _,_,.cons _ t=>by
  obtain⟨b,a⟩:=RpT.len t
  exact⟨by simp[b],by simp[a]⟩
@[reducible] def tkD (ks:List Key):PyData:=.tuple (ks.map kD)
@[reducible] def tiD (ns:List Int):PyData:=.tuple (ns.map .int)
def lexS(pss:List (List Int)):Prop:=pss.Pairwise λx y=>HT.lexLt y x=false
theorem af9{G H:Hp}(ft:FT G H):∀{vs:List V},(∀ v∈vs,TupI H v)->Rps G vs ((vs.map (kH H)).map tiD)
 |[],_=>.nil
 | v::vs,h=>by
  obtain⟨t,ns,rfl,e,_⟩:=h v aB8
  rw[aD1,aD1,ahh e]
  have:(ns.map V.int)=(ns.map (λi=>(Sum.inl i:Key))).map kV:=by rw[aD9];rfl
  refine .cons (.tup ?_ (Rps.ints ns)) (af9 ft λu a=>h u (aB5 _ a))
  rw[this];exact ft t _ (by rw[← this];exact e)
theorem afh{G H:Hp}(gh:Same G H):∀{vs:List V}{pss:List (List Int)},Rps G vs (pss.map tiD)->(∀ ns∈pss,ns ≠ [])->(∀ v∈vs,TupI H v)/\vs.map (kH H)=pss
 |_,[],.nil,_=>⟨λv c=>by simp at c,rfl⟩
 | v::vs,ns::pss,.cons r t,hn=>by
  obtain⟨i1,d⟩:=afh gh t λb hm=>hn b (aB5 _ hm)
  cases r with
  | tup h rs =>
   have:=Rps.ints_inv rs
   subst this
   have e:=gh _ _ h
   refine⟨λu a=>?_,by rw[aD1,ahh e,d]⟩
   rcases aA9.mp a with rfl|a
   ·exact⟨_,ns,rfl,e,hn ns aB8⟩
   ·exact i1 u a
theorem ato{pss:List (List Int)}(hn:∀ ns∈pss,ns ≠ [])(h:EvA B ta env λds e=>ds=[.list (pss.map tiD)]/\∀ b:List (List Int),b.Perm pss->lexS b->QO (.own (OL (b.map tiD))) e):EvO B (tCB (aip K) ta) env QO:=λσ G H F Q I k =>
 h σ G H F _ I λvs y f u ds j c w s n=>by
  obtain⟨l,g⟩:=n
  subst l
  cases s with
  | cons r t =>
   cases t
   cases r with
   | @lst a us _ ha rs =>
    obtain⟨t1,x⟩:=afh c.gh rs hn
    refine⟨a,us,rfl,SqL.of (c.gh _ _ ha),t1,λm p d hs hf=>?_⟩
    have i:∀ v∈m,TupI f v:=λv q=>t1 v (d.mem_iff.mp q)
    have o:=Out.newL c.gh hf (af9 c.ft i)
    refine k _ _ _ u _ _ j (c.out o).1 (w.trans o.gg) (c.out o).2 (g _ ?_ ?_)
    ·have:=d.map (kH f);rw[x] at this;exact this
    ·unfold lexS;rw[aG1];exact hs
theorem ara{es:List (List Key × PyData)}{b:List (List Int)}(m:Has env i (OT es))(h:es.map (·.1)=b.map (λns=>ns.map Sum.inl))(hn:∀ ns∈b,ns ≠ [])(q:∀ c:List (List Int),c.Perm b->lexS c->QO (.own (OL (c.map tiD))) env):EvO B (tCB ahq (abb (tVar i) tNil)) env QO:=λσ G H F Q I k=>by
 obtain⟨v,j,a,kvs,rfl,ha,rt,hf⟩:=I.has m
 obtain⟨n,l⟩:=RpT.len rt
 refine⟨_,j,a,kvs,b,rfl,ha,by rw[l,h],hn,λr p f g hs d=>?_⟩
 have o:=Out.newL I.gh d (af9 I.ft f)
 refine k _ _ _ F _ _ env (I.out o).1 o.gg (I.out o).2 (q _ g ?_)
 unfold lexS;rw[aG1];exact hs
end
section
variable{B:Bs}{env:En}{QO:Sl->En->Prop}{Q':PyData->En->Prop}{K:Frag}{i:Nat}{ta:TA}{R:Sl->Prop}
theorem Rps.bools_inv{G:Hp}:∀{bs:List Bool}{vs:List V},Rps G vs (bs.map PyData.bool)->vs=bs.map V.bl
 |[],_,.nil=>rfl
 | b::bs,_,.cons r t=>by
  cases r
  rw[Rps.bools_inv t];rfl
theorem ajt{bs:List Bool}(h:R (.st (.bool (bs.all id)))):OpA (rAll K) [.list (bs.map .bool)] R:=λG H vs Q gh rs k=>by
 cases rs with
 | cons r t =>
  cases t
  cases r with
  | lst ha ra =>
   have:=Rps.bools_inv ra
   subst this
   exact⟨_,bs,rfl,SqL.of (gh _ _ ha),k _ _ _ _ _ (Out.refl gh (.bl _)) h⟩
theorem ayx{bs:List Bool}(h:R (.st (.bool (bs.any id)))):OpA (rAny K) [.list (bs.map .bool)] R:=λG H vs Q gh rs k=>by
 cases rs with
 | cons r t =>
  cases t
  cases r with
  | lst ha ra =>
   have:=Rps.bools_inv ra
   subst this
   exact⟨_,bs,rfl,SqL.of (gh _ _ ha),k _ _ _ _ _ (Out.refl gh (.bl _)) h⟩
theorem av5{ds:List PyData}(h:R (.own (OL ds))):OpA (agw K) [.list ds] R:=λG H vs Q gh rs k=>by
 cases rs with
 | cons r t =>
  cases t
  cases r with
  |lst ha ra=>exact⟨_,_,rfl,.inl (SqL.of (gh _ _ ha)),λp a=>k _ _ _ _ _ (Out.newL gh a ra) h⟩
theorem atp{G:Hp}(n:Nat):Rps G ((List.range n).map λ(i:Nat)=>V.int (i:Int)) (rngD 0 n):=by
 unfold rngD
 refine aiw (by simp) λi v d a hd=>?_
 rw[aA5] at a hd
 cases e:(List.range n)[i]? with
 |none=>rw[e] at a;cases a
 |some m=>rw[e] at a hd;cases a;cases hd;show Rp G (.int (m:Int)) (.int (0+(m:Int)));rw[Int.zero_add];exact .int _
theorem ako(h:EvA B ta env λds e=>∃ j:Int,ds=[.int j]/\0<=j/\j<=1000000/\QO (.own (OL (rngD 0 j.toNat))) e):EvO B (aiz ta) env QO:=λσ G H F Q I k =>
 h σ G H F _ I λvs r s m ds c a q l i=>by
  obtain⟨j,d,g,n,b⟩:=i
  subst d
  obtain rfl:vs=[V.int j]:=Rps.ints_inv (ns:=[j]) l
  refine⟨j,rfl,g,n,λp f=>?_⟩
  have o:=Out.newL a.gh f (atp j.toNat)
  exact k _ _ _ m _ _ c (a.out o).1 (q.trans o.gg) (a.out o).2 b
theorem av6(h:EvA B ta env λds e=>∃ j:Int,ds=[.int j]/\0<=j/\j<=1000000/\Q' (.list (rngD 0 j.toNat)) e):Ev B (aiz ta) env Q':=abu (ako λσ G H F Q I k=>h σ G H F Q I λvs G' H' F' ds d f g r ⟨j,a,b,c,q⟩=>k vs G' H' F' ds d f g r ⟨j,a,b,c,ac0 q⟩)
end
section
variable{κ:Type} [DecidableEq κ] {α:Type}
def valD(es:List (κ × α))(k : κ):Option α:=(es.find? λe=>decide (e.1=k)).map (·.2)
def putD(es:List (κ × α))(k : κ)(d : α):List (κ × α):=if (es.any λe=>decide (e.1=k))=true then es.map (λe=>if e.1=k then (e.1,d) else e) else es++[(k,d)]
end
theorem RpK.val{G:Hp}{k:Key}:∀{kvs:List (Key × V)}{es:List (Key × PyData)},RpK G kvs es->(valD es k=none->valV kvs k=none)/\∀ d,valD es k=some d->∃ v,valV kvs k=some v/\Rp G v d
 |_,_,.nil=>⟨λ_=>rfl,λd h=>by cases h⟩
 | _,_,.cons (k:=k') r t=>by
  obtain⟨i1,c⟩:=RpK.val (k:=k) t
  by_cases e:k'=k
  ·refine⟨λh=>by simp[valD,e] at h,λd h=>?_⟩
   simp[valD,e] at h
   subst h
   exact⟨_,by simp[valV,e],r⟩
  ·refine⟨λh=>?_,λd h=>?_⟩
   ·simp[valV,e];simp[valD,e] at h
    have:=i1 (by simp[valD];exact h)
    simpa[valV] using this
   ·obtain⟨v,a,b⟩:=c d (by simpa[valD,e] using h)
    exact⟨v,by simpa[valV,e] using a,b⟩
theorem RpK.any{G:Hp}{k:Key}:∀{kvs:List (Key × V)}{es:List (Key × PyData)},RpK G kvs es->(kvs.any λe=>decide (e.1=k))=es.any λe=>decide (e.1=k)
 |_,_,.nil=>rfl
 |_,_,.cons r t=>by simp[RpK.any t]
theorem RpK.map{G:Hp}{k:Key}{v:V}{d:PyData}(h:Rp G v d):∀{kvs:List (Key × V)}{es:List (Key × PyData)},RpK G kvs es->RpK G (kvs.map λe=>if e.1=k then (e.1,v) else e) (es.map λe=>if e.1=k then (e.1,d) else e)
 |_,_,.nil=>.nil
 | _,_,.cons (k:=k') r t=>by
  by_cases e:k'=k
  ·simp only[aD1,e,if_true];exact .cons h (RpK.map h t)
  ·simp only[aD1,e,if_false];exact .cons r (RpK.map h t)
theorem RpK.append{G:Hp}:∀{a b:List (Key × V)}{c d:List (Key × PyData)},RpK G a c->RpK G b d->RpK G (a++b) (c++d)
 |_,_,_,_,.nil,s=>s
 |_,_,_,_,.cons r t,s=>.cons r (RpK.append t s)
theorem RpK.put{G:Hp}{k:Key}{v:V}{d:PyData}(h:Rp G v d){kvs:List (Key × V)}{es:List (Key × PyData)}(r:RpK G kvs es):RpK G (putK kvs k v) (putD es k d):=by
 unfold putK putD
 rw[r.any]
 split
 ·exact r.map h
 ·exact r.append (.cons h .nil)
theorem RpT.any{G:Hp}{k:List Key}:∀{kvs:List (List Key × V)}{es:List (List Key × PyData)},RpT G kvs es->(kvs.any λe=>decide (e.1=k))=es.any λe=>decide (e.1=k)
 |_,_,.nil=>rfl
 |_,_,.cons r t=>by simp[RpT.any t]
theorem RpT.map{G:Hp}{k:List Key}{v:V}{d:PyData}(h:Rp G v d):∀{kvs:List (List Key × V)}{es:List (List Key × PyData)},RpT G kvs es->RpT G (kvs.map λe=>if e.1=k then (e.1,v) else e) (es.map λe=>if e.1=k then (e.1,d) else e)
 |_,_,.nil=>.nil
 | _,_,.cons (k:=k') r t=>by
  by_cases e:k'=k
  ·simp only[aD1,e,if_true];exact .cons h (RpT.map h t)
  ·simp only[aD1,e,if_false];exact .cons r (RpT.map h t)
theorem RpT.append{G:Hp}:∀{a b:List (List Key × V)}{c d:List (List Key × PyData)},RpT G a c->RpT G b d->RpT G (a++b) (c++d)
 |_,_,_,_,.nil,s=>s
 |_,_,_,_,.cons r t,s=>.cons r (RpT.append t s)
theorem RpT.put{G:Hp}{k:List Key}{v:V}{d:PyData}(h:Rp G v d){kvs:List (List Key × V)}{es:List (List Key × PyData)}(r:RpT G kvs es):RpT G (putK kvs k v) (putD es k d):=by
 unfold putK putD
 rw[r.any]
 split
 ·exact r.map h
 ·exact r.append (.cons h .nil)
theorem RpK.length{G:Hp}:∀{kvs:List (Key × V)}{es:List (Key × PyData)},RpK G kvs es->kvs.length=es.length
 |_,_,.nil=>rfl
 |_,_,.cons _ t=>by simp[RpK.length t]
theorem ahr{G:Hp}{v:V}{k:Key}(r:Rp G v (kD k)):v=kV k:=by
 cases k with
 |inl i=>cases r;rfl
 |inr x=>cases r;rfl
theorem anf{G:Hp}:∀{ks:List Key}{vs:List V},Rps G vs (ks.map kD)->vs=ks.map kV
 |[],_,.nil=>rfl
 |k::ks,_,.cons r t=>by rw[ahr r,anf t];rfl
section
variable{B:Bs}{env:En}{QO:Sl->En->Prop}{Q':PyData->En->Prop}{D':VEnds}{i:Nat}{te ty tv td:TE}
theorem atq(q:QO (.own (OT [])) env):EvO B amf env QO:=λσ G H F Q I k p a=>by
 have o:=Out.newDT (ds:=[]) I.gh a .nil
 exact k _ _ _ F _ _ env (I.out o).1 o.gg (I.out o).2 q
theorem atr{es0:List (List Key × PyData)}(h:Ev B tv env λd j=>Has j i (OT es0)/\Ev B ty j λy p=>∃ es ks,p[i]?=some (some (.own (OT es)))/\y=tkD ks/\es.length<=999999/\D'.nx (p.set i (some (.own (OT (putD es ks d)))))):EvS B (aih (tVar i) ty tv) D' env:=λσ G H F D I r =>
 h σ G H F _ I λv A K L d j u M J C=>by
  obtain⟨E,w⟩:=C
  obtain⟨v0,o,a,kvs,rfl,ha,rt,_⟩:=u.has E
  refine⟨_,o,w σ A K L _ u λR x H2 F2 y p l s N ⟨es,ks,f,z,P,O⟩=>?_⟩
  subst z
  obtain⟨S,c,⟨Q,q,m,n,g,hf⟩,hb⟩:=l.sl i _ f
  rw[o] at c;cases c;cases m
  cases N with
  | tup hk rs =>
   have:=anf rs
   subst this
   refine⟨a,_,rfl,DPut.t n (l.gh _ _ hk) (by rw[(RpT.len g).1];exact big (by lia)),?_⟩
   exact r.nx σ x _ _ _ (l.upd1 (A':=OT (putD es ks d)) f (.inl rfl) o hf ⟨a,_,rfl,aaf,g.put (J.same s),λb=>Iff.rfl⟩) (M.trans s) O
theorem ats{es0:List (Key × PyData)}(h:Ev B tv env λd j=>Has j i (OD es0)/\Ev B ty j λy o=>∃ es k,o[i]?=some (some (.own (OD es)))/\y=kD k/\es.length<=999999/\D'.nx (o.set i (some (.own (OD (putD es k d)))))):EvS B (aih (tVar i) ty tv) D' env:=λσ G H F D I r =>
 h σ G H F _ I λv A K L d j u M J C=>by
  obtain⟨E,w⟩:=C
  obtain⟨v0,n,a,kvs,rfl,ha,rt,_⟩:=u.has E
  refine⟨_,n,w σ A K L _ u λR x H2 F2 y o q s N ⟨es,ks,f,z,P,O⟩=>?_⟩
  subst z
  obtain⟨S,c,⟨Q,p,l,m,g,hf⟩,hb⟩:=q.sl i _ f
  rw[n] at c;cases c;cases l
  have:=ahr N
  subst this
  refine⟨a,_,rfl,DPut.k m (by rw[g.length];exact big (by lia)),?_⟩
  exact r.nx σ x _ _ _ (q.upd1 (A':=OD (putD es ks d)) f (.inl rfl) n hf ⟨a,_,rfl,aaf,g.put (J.same s),λb=>Iff.rfl⟩) (M.trans s) O
theorem arb{es0:List (Key × PyData)}(h:Ev B ty env λy c=>∃ es k,Has c i (OD es)/\y=kD k/\Q' (.bool (!(valD es k).isSome)) c):Ev B (afp ty (tVar i)) env Q':=λσ G H F Q I k =>
 h σ G H F _ I λu g H2 F2 y c f l r m=>by
  obtain⟨es,b,s,j,q⟩:=m
  subst j
  obtain⟨v,n,a,kvs,rfl,ha,rt,_⟩:=f.has s
  have:=ahr r
  subst this
  refine⟨_,n,a,_,rfl,DGet.k ha,?_⟩
  have e:(valV kvs b).isSome=(valD es b).isSome:=by
   obtain⟨i1,o⟩:=rt.val (k:=b)
   cases hd:valD es b with
   |none=>rw[i1 hd];rfl
   |some d=>obtain⟨v,p,_⟩:=o d hd;rw[p];rfl
  rw[e]
  exact k _ g H2 F2 _ c f l (.bl _) q
end
section
variable{B:Bs}{env:En}{QO:Sl->En->Prop}{Q':PyData->En->Prop}{QE:En->Prop}{D':VEnds}{K:Frag}{i:Nat}{ta:TA}
theorem ayy{j:Int}{R:Int->Prop}(b:0<=j)(a:j<=1000000)(h:R j):∃ i:Int,[PyData.int j]=[.int i]/\0<=i/\i<=1000000/\R i:=⟨j,rfl,b,a,h⟩
theorem x_dT{es:List (List Key × PyData)}{a b:Int}{c:En}{R:List (List Key × PyData)->List Key->Prop}(e:c[i]?=some (some (.own (OT es))))(d:es.length<=999999)(q:R es [.inl a,.inl b]):∃ es ks,c[i]?=some (some (.own (OT es)))/\PyData.tuple [.int a,.int b]=tkD ks/\es.length<=999999/\R es ks:=⟨es,_,e,rfl,d,q⟩
theorem x_dK{es:List (Key × PyData)}{a:Int}{b:En}{R:List (Key × PyData)->Key->Prop}(e:b[i]?=some (some (.own (OD es))))(c:es.length<=999999)(q:R es (.inl a)):∃ es k,b[i]?=some (some (.own (OD es)))/\PyData.int a=kD k/\es.length<=999999/\R es k:=⟨es,_,e,rfl,c,q⟩
theorem x_dN{es:List (Key × PyData)}{a:Int}{b:En}{R:List (Key × PyData)->Key->Prop}(e:Has b i (OD es))(q:R es (.inl a)):∃ es k,Has b i (OD es)/\PyData.int a=kD k/\R es k:=⟨es,_,e,rfl,q⟩
end
def ltP(p q:Int × Int):Prop:=p.1<q.1\/(p.1=q.1/\p.2<q.2)
@[reducible] def p2 (p:Int × Int):List Int:=[p.1,p.2]
theorem ai0{a:List (List Int)}{ps:List (Int × Int)}(h:a.Perm (ps.map p2)):∃ qs:List (Int × Int),a=qs.map p2/\qs.Perm ps:=by
 refine⟨a.map λl=>(l.getD 0 0,l.getD 1 0),?_,?_⟩
 ·rw[aD9]
  symm
  conv=>rhs;rw[← List.map_id a]
  apply aE9
  intro l b
  obtain⟨p,_,rfl⟩:=aB7.mp (h.mem_iff.mp b)
  rfl
 ·have:=h.map λl=>(l.getD 0 0,l.getD 1 0)
  rw[aD9] at this
  have e:((λl:List Int=>(l.getD 0 0,l.getD 1 0)) ∘ p2)=id:=by funext p;rfl
  rw[e,List.map_id] at this
  exact this
def Rise(es:List (Int × Int)):Prop:=es.Pairwise ltP
structure WebOk(n:Int)(es:List (Int × Int)):Prop where
 lo:1<=n
 hi:n<=60
 inn:∀ p∈es,0<=p.1/\p.1<p.2/\p.2<n
 rise:Rise es
def kE(ps:List (Int × Int)):List (List Key × PyData):=ps.map λp=>([Sum.inl p.1,Sum.inl p.2],.bool true)
def addP(ps:List (Int × Int))(p:Int × Int):List (Int × Int):=if p∈ps then ps else ps++[p]
theorem aec{ps:List (Int × Int)}:(kE ps).length=ps.length:=by simp[kE]
theorem agx(ps:List (Int × Int))(a b:Int):putD (kE ps) [Sum.inl a,Sum.inl b] (.bool true)=kE (addP ps (a,b)):=by
 have c:((kE ps).any λe=>decide (e.1=[Sum.inl a,Sum.inl b]))=decide ((a,b)∈ps):=by
  rw[aH8,aF3,decide_eq_true_iff]
  constructor
  ·rintro⟨e,f,h⟩
   obtain⟨p,d,rfl⟩:=aB7.mp f
   simp at h
   obtain⟨g,p2⟩:=p
   simp at h
   rw[← h.1,← h.2];exact d
  ·intro h
   exact⟨_,aB7.mpr ⟨(a,b),h,rfl⟩,by simp⟩
 unfold putD
 rw[c]
 unfold addP
 by_cases h:(a,b)∈ps
 ·rw[aF5 (by simpa using h),aF5 h]
  unfold kE
  rw[aD9]
  apply aE9
  intro p _
  simp only[Function.comp]
  split <;> rfl
 ·rw[aF6 (by simpa using h),aF6 h]
  simp[kE]
theorem addP_mem{ps:List (Int × Int)}{p q:Int × Int}:q∈addP ps p ↔ q∈ps\/q=p:=by
 unfold addP
 split
 ·rename_i h
  exact⟨.inl,λz=>z.elim id λe=>e ▸ h⟩
 ·simp
theorem aez{ps:List (Int × Int)}{p:Int × Int}:(addP ps p).length<=ps.length+1:=by
 unfold addP;split <;> simp
theorem ayz(ps:List (Int × Int)):(kE ps).map (·.1)=(ps.map p2).map (λns=>ns.map Sum.inl):=by
 unfold kE;rw[aD9,aD9];rfl
theorem a1p:([]:List (List Key × PyData))=kE []:=rfl
theorem agy(ps:List (Int × Int)):(ps.map p2).map tiD=ps.map prD:=by rw[aD9];rfl
theorem ard{ps:List (Int × Int)}:∀ ns∈ps.map p2,ns ≠ []:=λns h=>by
 obtain⟨p,_,rfl⟩:=aB7.mp h
 simp
section
variable{B:Bs}{env:En}{QO:Sl->En->Prop}{K:Frag}{i:Nat}{ta:TA}
theorem att{ps:List (Int × Int)}(h:EvA B ta env λds e=>ds=[.list (ps.map prD)]/\∀ qs:List (Int × Int),qs.Perm ps->lexS (qs.map p2)->QO (.own (OL (qs.map prD))) e):EvO B (tCB (aip K) ta) env QO :=
 ato (pss:=ps.map p2) ard λσ G H F Q I k=>h σ G H F Q I λvs G' H' F' ds e f g r ⟨d,q⟩=>k vs G' H' F' ds e f g r ⟨by rw[agy];exact d,λb a hs=>by
  obtain⟨qs,rfl,c⟩:=ai0 a
  rw[agy];exact q qs c hs⟩
theorem aga{ps:List (Int × Int)}(a:Has env i (OT (kE ps)))(q:∀ qs:List (Int × Int),qs.Perm ps->lexS (qs.map p2)->QO (.own (OL (qs.map prD))) env):EvO B (tCB ahq (abb (tVar i) tNil)) env QO :=
 ara a (ayz ps) ard λd b hs=>by
  obtain⟨qs,rfl,c⟩:=ai0 b
  rw[agy];exact q qs c hs
end
section
variable{B:Bs}{env:En}{QO:Sl->En->Prop}{Q':PyData->En->Prop}{K:Frag}{i j:Nat}{ta te:TE}
end
section
variable{B:Bs}{env:En}{Q':PyData->En->Prop}{D':VEnds}{i:Nat}{ty tv:TE}
theorem arf{a:List (List Key × PyData)}(f:env[i]?=some (some (.own (OT a))))(h:Ev B tv env λd b=>Has b i (OT a)/\Ev B ty b λy c=>∃ es ks,c[i]?=some (some (.own (OT es)))/\y=tkD ks/\es.length<=999999/\D'.nx (c.set i (some (.own (OT (putD es ks d)))))):EvS B (aih (tVar i) ty tv) D' env:=atr h
theorem arh{a:List (Key × PyData)}(f:env[i]?=some (some (.own (OD a))))(h:Ev B tv env λd b=>Has b i (OD a)/\Ev B ty b λy c=>∃ es k,c[i]?=some (some (.own (OD es)))/\y=kD k/\es.length<=999999/\D'.nx (c.set i (some (.own (OD (putD es k d)))))):EvS B (aih (tVar i) ty tv) D' env:=ats h
theorem aon{a:List (Key × PyData)}(c:Has env i (OD a))(h:Ev B ty env λy b=>∃ es k,Has b i (OD es)/\y=kD k/\Q' (.bool (!(valD es k).isSome)) b):Ev B (afp ty (tVar i)) env Q':=arb (es0:=[]) h
end
section
variable{R:Sl->Prop}{K:Frag}
end
theorem ari(ps:List (Int × Int)):plainDs (ps.map prD)=true:=by
 rw[afe]
 intro d hd
 obtain⟨p,_,rfl⟩:=aB7.mp hd
 rfl
theorem ad3{ds:List PyData}{m:Nat}(h:∀ d∈ds,d.depth<=m):PyData.depthAll ds<=m:=by
 induction ds with
 |nil=>simp[PyData.depthAll]
 | cons d ds ih =>
  simp only[PyData.depthAll]
  exact Nat.max_le.mpr ⟨h d aB8,ih λe a=>h e (aB5 _ a)⟩
theorem atu(p:Int × Int):(prD p).depth<=1:=by simp[prD,PyData.depth,PyData.depthAll]
theorem agb{d:PyData}(h:aat d=true):PyData.eqv d d=true:=(akf d d h h).mpr rfl
end VL
namespace VL
end VL
namespace VL
open PySem PySem.Spec L2
section
variable{B:Bs}{env:En}{Q':PyData->En->Prop}{K:Frag}{E:XK}{i:Nat}
end
end VL
namespace VL
open PySem L2
theorem a24{B:Bs}{t:TS}{D':VEnds}{e:En}(h:EvS B t D' e):EvS B t D' e:=h
theorem a25{B:Bs}{g:TG}{s:Sl}{e:En}{Q:En->Prop}(h:EvG B g s e Q):EvG B g s e Q:=h
theorem a1q{B:Bs}{g:TGs}{s:List PyData}{e:En}{Q:En->Prop}(h:EvGs B g s e Q):EvGs B g s e Q:=h
theorem g_Ev{B:Bs}{t:TE}{e:En}{Q:PyData->En->Prop}(h:Ev B t e Q):Ev B t e Q:=h
theorem a26{B:Bs}{t:TE}{e:En}{Q:Sl->En->Prop}(h:EvO B t e Q):EvO B t e Q:=h
theorem a27{B:Bs}{t:TT}{e:En}{Q:Bool->En->Prop}(h:EvT B t e Q):EvT B t e Q:=h
theorem a28{B:Bs}{t:TA}{e:En}{Q:List PyData->En->Prop}(h:EvA B t e Q):EvA B t e Q:=h
theorem a29{B:Bs}{t:TI}{e:En}{Q:List PyData->En->Prop}(h:EvI B t e Q):EvI B t e Q:=h
theorem a1r{B:Bs}{t:TO}{e:En}{Q:Option Int->En->Prop}(h:EvOp B t e Q):EvOp B t e Q:=h
theorem a3c{r:R2}{x y:PyData}{R:Sl->Prop}(h:Op2 r x y R):Op2 r x y R:=h
theorem a3d{r:V->Hp->VK->Prop}{x:PyData}{R:Sl->Prop}(h:Op1 r x R):Op1 r x R:=h
theorem a3e{r:List V->Hp->VK->Prop}{x:List PyData}{R:Sl->Prop}(h:OpA r x R):OpA r x R:=h
theorem g_FQ{s:Sl}{R:PyData->Prop}(h:FQ s R):FQ s R:=h
theorem ay0{ds:List PyData}{R:List PyData->Prop}(h:alu ds R):alu ds R:=h
theorem ay1{ds:List PyData}{R:List PyData->Prop}(h:alv ds R):alv ds R:=h
structure PsOk(n:Int)(ps:List (Int × Int)):Prop where
 nd:ps.Nodup
 inn:∀ p∈ps,0<=p.1/\p.1<p.2/\p.2<n
def Tr(n:Int)(ps:List (Int × Int)):Prop:=∀ k,1<=k->k<n->∃ h,0<=h/\h<k/\(h,k)∈ps
def Conn(n:Int)(T:Int->Int->Prop):Prop:=∀ u v,0<=u->u<n->0<=v->v<n->∃ k,Gr.Walk T u k v
def Order(n:Int)(row:List Int):Prop:=row.Perm ((List.range n.toNat).map λ(i:Nat)=>(i:Int))
theorem Order.len{n:Int}{row:List Int}(h:Order n row):row.length=n.toNat:=by have:=h.length_eq;simpa using this
theorem Order.mem{n:Int}{row:List Int}(h:Order n row){v:Int}:v∈row ↔ 0<=v/\v<n:=by
 rw[h.mem_iff,aB7]
 constructor
 ·rintro⟨i,hi,rfl⟩
  have:=aB9.mp hi
  lia
 ·rintro⟨b,a⟩
  exact⟨v.toNat,aB9.mpr (by lia),by lia⟩
theorem Order.get{n:Int}{row:List Int}(h:Order n row){a:Int}(c:0<=a)(d:a<n):∃ x,row[a.toNat]?=some x/\atI row a=some x/\0<=x/\x<n:=by
 have b:a.toNat<row.length:=by rw[h.len];lia
 have e:row[a.toNat]?=some row[a.toNat]:=aA0 b
 have:=h.mem.mp (aA2 e)
 exact⟨_,e,ab5 c e,this.1,this.2⟩
theorem Order.id(n:Int):Order n ((List.range n.toNat).map λ(i:Nat)=>(i:Int)):=List.Perm.refl _
def ade(row:List Int)(a:Int):Int:=row.getD a.toNat 0
theorem Order.at{n:Int}{row:List Int}(h:Order n row){a:Int}(c:0<=a)(b:a<n):row[a.toNat]?=some (ade row a)/\0<=ade row a/\ade row a<n:=by
 obtain⟨x,e,_,x0,d⟩:=h.get c b
 have:ade row a=x:=by unfold ade;rw[aD4,e];rfl
 rw[this];exact⟨e,x0,d⟩
theorem ai1{α:Type}:∀{l:List α}{k:Nat}{x : α},l[k]?=some x->(x::l.eraseIdx k).Perm l
 |[],_,_,h=>by simp at h
 |a::l,0,x,h=>by simp at h;subst h;exact List.Perm.refl _
 | a::l,k+1,x,h=>by
  have b:=ai1 (l:=l) (k:=k) (x:=x) (by simpa using h)
  exact(List.Perm.swap a x _).trans (b.cons a)
theorem arj{n:Int}{row left:List Int}{k:Nat}{x:Int}(h:Order n (row++left))(a:left[k]?=some x):Order n ((row++[x])++left.eraseIdx k):=by
 refine List.Perm.trans ?_ h
 rw[aB4]
 refine List.Perm.append_left row ?_
 exact ai1 a
section
variable{B:Bs}{env:En}{g:TG}{tif:TT}{te:TE}{K:Frag}{src:List (Option Nat)}{ds:List PyData}{e1:En}{R:List PyData->En->Prop}
end
theorem ay2(n:Nat):rngD 0 n=((List.range n).map λ(i:Nat)=>(i:Int)).map PyData.int:=by simp[rngD]
theorem av7{B:Bs}{t:TS}{D':VEnds}{env:En}(J:En->Prop)(h:EvS B t { D' with nx:=J } env)(k:∀ e,J e->D'.nx e):EvS B t D' env:=λσ G H F D I r=>h σ G H F D I ⟨λσ G' H F env a g q=>r.nx _ _ _ _ _ a g (k _ q),r.rt,r.bk,r.ct⟩
theorem acm{B:Bs}{g:TG}{A:Own}{d:PyData}{env:En}{b:En->Prop}(f:Frz A d)(h:EvG B g (.st d) env b):EvG B g (.own A) env b:=λσ G H F v Fv Q I x k =>
 h σ _ H F v _ Q (I.freeze x.fb x.fd x.fg) (aea (f G H v Fv x.ok x.fg I.gh)) λa G' H' F' i c g' q=>k a G' H' F' i c ((abv x.fg).trans g') q
theorem cutR{R X:Prop}(h:R->X)(r:R):X:=h r
end VL
namespace VL
open PySem PySem.Spec L2
def ae0(e:En):Prop:=∀(j:Nat)(s:Sl),e[j]?=some (some s)->(∃ d,s=.st d)\/∃ ns:List Int,s=.scr ns
def Sls(K:Frag)(G:Hp)(σ:St)(e:En):Prop:=∀(j:Nat)(s:Sl),e[j]?=some (some s)->∃ v,σ[j]?=some (some v)/\((∃ d,s=.st d/\Rp G v d)\/∃(ns:List Int)(a:Addr),s=.scr ns/\v=.ref a/\SqL K G a (ns.map V.int))
theorem Sls.same{K:Frag}{G G':Hp}{σ:St}{e:En}(h:Sls K G σ e)(g:Same G G'):Sls K G' σ e:=λj s es=>by
 obtain⟨v,c,q⟩:=h j s es
 refine⟨v,c,?_⟩
 rcases q with ⟨d,b,r⟩|⟨ns,a,b,f,r⟩
 ·exact .inl ⟨d,b,r.same g⟩
 ·exact .inr ⟨ns,a,b,f,g.seq r⟩
def bsC(K:Frag)(G H:Hp)(σ:St):Bs:=⟨K,G,H,H,σ,noF⟩
theorem akq{K:Frag}{G H:Hp}{σ:St}{e:En}(gh:Same G H)(ft:FT G H)(ln : σ.length=e.length)(sl:Sls K G σ e):VI (bsC K G H σ) G H σ e noF:=by
 refine⟨gh,Same.refl _,λa o e=>.inl e,Same.refl _,Same.refl _,λa o e=>⟨o,e⟩,λi a z=>z.elim,λi a z=>z.elim,λi j a z=>z.elim,λi a z=>z.elim,λi s es=>?_,ln,ft⟩
 obtain⟨v,c,q⟩:=sl i s es
 refine⟨v,c,?_⟩
 rcases q with ⟨d,b,r⟩|⟨ns,a,b,f,r⟩
 ·subst b;exact⟨r,λa z=>z⟩
 ·subst b;exact⟨⟨a,f,r⟩,λa z=>z⟩
theorem ai2{B:Bs}{K:Frag}{G H:Hp}{σ:St}{e:En}{F:Nat->Addr->Prop}(I:VI B G H σ e F)(c:ae0 e)(h:B.K=K:=by rfl):Sls K G σ e:=λj s es=>by
 subst h
 obtain⟨v,f,q⟩:=I.sl j s es
 refine⟨v,f,?_⟩
 rcases c j s es with ⟨d,rfl⟩|⟨ns,rfl⟩
 ·exact .inl ⟨d,rfl,q.1⟩
 ·obtain⟨⟨a,b,g⟩,_⟩:=q
  exact .inr ⟨ns,a,rfl,b,g⟩
def LcV2(K:Frag)(src:List (Option Nat))(g:TG)(tif:TT)(wi2:TI)(g2:TG)(tif2:TT)(te:TE)(ds:List PyData)(e1:En)(R:List PyData->Prop):Prop:=∃ J:Nat->List PyData->En->Prop,J 0 [] (aas src e1)/\(∀ i ys e,J i ys e->ae0 e) /\
 (∀ i d ys e,ds[i]?=some d->J i ys e->∀ B':Bs,B'.K=K->EvG B' g (.st d) e λe2=>EvT B' tif e2 λb e3=>if b=true then EvI B' wi2 e3 λds2 e4=>∃ J2:Nat->List PyData->En->Prop,J2 0 ys e4/\(∀ j ys e,J2 j ys e->ae0 e) /\
  (∀ j d2 ys2 e,ds2[j]?=some d2->J2 j ys2 e->∀ B2:Bs,B2.K=K->EvG B2 g2 (.st d2) e λe5=>EvT B2 tif2 e5 λb e6=>if b=true then Ev B2 te e6 λy e7=>ys2.length<=999999/\J2 (j+1) (ys2++[y]) e7 else J2 (j+1) ys2 e6)/\(∀ ys2 e,J2 ds2.length ys2 e->J (i+1) ys2 e) else J (i+1) ys e3)/\∀ ys e,J ds.length ys e->R ys
section
variable{B:Bs}{env:En}
theorem apv{src:List (Option Nat)}{wi:TI}{g:TG}{a6:TT}{a4:TI}{g2:TG}{L:TT}{te:TE}{QO:Sl->En->Prop}(h:EvI B wi env λds r=>LcV2 B.K src g a6 a4 g2 L te ds r λys=>QO (.own (OL ys)) r):EvO B (tLC2 src wi g a6 a4 g2 L te) env QO:=λσ G H F Q I k=>by
 refine h σ G H F _ I λJ G1 H1 N ds r W g1 it ⟨Jv,j0,jc,js,jd⟩ c l=>?_
 have fa:∀ j,¬ N j c:=W.no_f l
 have hb:B.H c=none:=W.no_b l
 -- between two turns
 let Wv:(List PyData->En->Prop)->List V->St->Hp->Prop:=λJ ys σI H=>∃ f e D,VI B f H σ r N/\Same G1 f/\H c=some (.lst ys)/\Rps f ys D/\f c=none/\J D e/\σI.length=e.length/\Sls B.K f σI e
 -- out of a frame within
 have leave:∀{n H3:Hp}{σI:St}{ys:List V},VI B n H3 σ r N->n c=none->H3 c=some (.lst ys)->∀{S Z:Hp}{C:St}{F4:Nat->Addr->Prop}{e4:En},VI (bsC B.K n H3 σI) S Z C e4 F4->VI B S Z σ r N/\S c=none/\Z c=some (.lst ys):=by
  intro n H3 σI ys U T ac S Z C F4 e4 E
  refine⟨U.grow E.g0 E.gh E.rs E.gn E.ft,?_,E.rs _ _ ac⟩
  cases e':S c with
  |none=>rfl
  | some u =>
   rcases E.gn c u e' with q|q
   ·change n c=_ at q;rw[T] at q;cases q
   ·change H3 c=_ at q;rw[ac] at q;cases q
 have step:∀{f H2:Hp}{ys:List V}{x:V}{n H3:Hp}{d:PyData},VI B f H2 σ r N->f c=none->H2 c=some (.lst ys)->Out f H2 x n H3 (.st d) (λ_=>False)->VI B n H3 σ r N/\n c=none/\H3 c=some (.lst ys):=by
  intro f H2 ys x n H3 d M T ac o
  refine⟨(M.out o).1,?_,o.hh _ _ ac⟩
  cases e':n c with
  |none=>rfl
  | some u =>
   rcases o.gn c u e' with q|q
   ·rw[T] at q;cases q
   ·rw[ac] at q;cases q
 refine⟨λi m ys σI H=>m=ds.length-i/\i<=ds.length/\Wv (Jv i) ys σI H,⟨ds.length,by simp,aG0 _,?_⟩,?_⟩
 ·refine⟨G1,aas src r,[],W.aside (λ_ z=>nomatch z) (W.no_g l) fa hb,Same.refl _,aaf,.nil,W.no_g l,j0,by simp[pick,aas],λj s e=>?_⟩
  obtain⟨i,t,hs,ht,hp⟩:=afa e
  obtain⟨v,hv,q⟩:=W.sl i t ht
  refine⟨v,aib hs hv,?_⟩
  cases t with
  |st d=>cases hp;exact .inl ⟨d,rfl,q.1⟩
  | scr ns =>
   cases hp
   obtain⟨⟨a,ea,sq⟩,_⟩:=q
   exact .inr ⟨ns,a,rfl,ea,sq⟩
  |own A=>cases hp;rcases jc _ _ _ j0 j _ e with ⟨d,z⟩|⟨ns,z⟩ <;> cases z
  |io A=>cases hp;rcases jc _ _ _ j0 j _ e with ⟨d,z⟩|⟨ns,z⟩ <;> cases z
 ·rintro i m ys σI H2 ⟨rfl,hi,f,e,D,M,w,O,ry,T,jv,ln,sl⟩
  by_cases hlt:i<ds.length
  ·refine .inr ⟨it.go i f H2 w M.gh hlt,Wv (Jv (i+1)),λc1 b9 H' hw=>⟨ds.length-(i+1),by lia,rfl,hlt,hw⟩,λx H3 y=>?_⟩
   obtain⟨n,o⟩:=it.yld i f H2 x H3 _ w M.gh M.ft (aA0 hlt) y
   obtain⟨U,b3,a2⟩:=step M T O o
   have E3:=akq (K:=B.K) U.gh U.ft ln (sl.same o.gg)
   refine js i _ D e (aA0 hlt) jv (bsC B.K n H3 σI) rfl σI n H3 _ x _ _ E3 (aea o.ok.1) λC S Z F4 e4 E g4 q4=>?_
   refine q4 C S Z F4 _ E λb G5 H5 F5 e5 I5 g5 q5=>?_
   have b2:=ry.same (o.gg.trans (g4.trans g5))
   have s5:=w.trans (o.gg.trans (g4.trans g5))
   cases b with
   | false =>
    rw[aF6 aB0] at q5 ⊢
    obtain⟨K5,b7,c2⟩:=leave U b3 a2 I5
    exact⟨G5,e5,D,K5,s5,c2,b2,b7,q5,I5.ln,ai2 I5 (jc _ _ _ q5)⟩
   | true =>
    rw[aF5 rfl] at q5 ⊢
    refine q5 C G5 H5 F5 _ I5 λJ2 G6 H6 F6 p e6 I6 g6 P ⟨Jw,w0,wc,ws,wd⟩=>?_
    obtain⟨K6,b5,c0⟩:=leave U b3 a2 I6
    have s6:=s5.trans g6
    let Wi:Nat->List V->St->Hp->Prop:=λj ys σI H=>∃ f e D,VI B f H σ r N/\Same G6 f/\H c=some (.lst ys)/\Rps f ys D/\f c=none/\Jw j D e/\σI.length=e.length/\Sls B.K f σI e
    refine⟨λj m ys σI H=>m=p.length-j/\j<=p.length/\Wi j ys σI H,⟨p.length,by simp,aG0 _,G6,e6,D,K6,Same.refl _,c0,b2.same g6,b5,w0,I6.ln,ai2 I6 (wc _ _ _ w0)⟩,?_⟩
    rintro j m zs b1 H7 ⟨rfl,hj,G7,e7,zd,Y,X,R,rz,a0,jw,b0,a9⟩
    refine⟨R,?_⟩
    by_cases hlt2:j<p.length
    ·refine .inr ⟨P.go j G7 H7 X Y.gh hlt2,Wi (j+1),λc1 b9 H' hw=>⟨p.length-(j+1),by lia,rfl,hlt2,hw⟩,λx2 H8 y2=>?_⟩
     obtain⟨G8,o2⟩:=P.yld j G7 H7 x2 H8 _ X Y.gh Y.ft (aA0 hlt2) y2
     obtain⟨I8,a3,a7⟩:=step Y a0 R o2
     have E8:=akq (K:=B.K) I8.gh I8.ft b0 (a9.same o2.gg)
     refine ws j _ zd e7 (aA0 hlt2) jw (bsC B.K G8 H8 b1) rfl b1 G8 H8 _ x2 _ _ E8 (aea o2.ok.1) λa5 G9 H9 F9 e9 I9 g9 q9=>?_
     refine q9 a5 G9 H9 F9 _ I9 λb GA HA FA eA IA gA qA=>?_
     cases b with
     | false =>
      rw[aF6 aB0] at qA ⊢
      obtain⟨KA,b8,b6⟩:=leave I8 a3 a7 IA
      have sA:=o2.gg.trans (g9.trans gA)
      exact⟨GA,eA,zd,KA,X.trans sA,b6,rz.same sA,b8,qA,IA.ln,ai2 IA (wc _ _ _ qA)⟩
     | true =>
      rw[aF5 rfl] at qA ⊢
      refine qA a5 GA HA FA _ IA λyv GB HB FB dB eB IB gB rB ⟨lB,qB⟩=>?_
      obtain⟨KB,a8,b4⟩:=leave I8 a3 a7 IB
      have sB:=o2.gg.trans (g9.trans (gA.trans gB))
      have a1:=rz.same sB
      refine⟨b4,by rw[a1.length];exact aE2 lB (by decide),GB,eB,zd++[dB],KB.aside (λ_ z=>nomatch z) a8 fa hb,X.trans sB,aaf,a1.append (.cons rB .nil),a8,qB,IB.ln,ai2 IB (wc _ _ _ qB)⟩
    ·have ej:j=p.length:=by lia
     subst ej
     refine .inl ⟨P.stop _ G7 H7 X Y.gh rfl,G7,e7,zd,Y,s6.trans X,R,rz,a0,wd _ _ jw,b0,a9⟩
  ·have ei:i=ds.length:=by lia
   subst ei
   refine .inl ⟨it.stop _ f H2 w M.gh rfl,?_⟩
   refine k (.ref c) f H2 N (· = c) (.own (OL D)) r M (g1.trans w) ⟨⟨c,ys,rfl,O,ry,λb=>Iff.rfl⟩,λa z=>by rw[z];exact hb,λa z=>by rw[z];exact T,λa z=>by rw[z];exact⟨_,O⟩,λj a z=>by rw[z];exact fa j⟩ (jd _ _ jv)
end
theorem ad4{o:Option PyData}{e:En}(h:ae0 e):ae0 (stO o::e):=λj s es=>by
 cases j with
 | zero =>
  cases o with
  |none=>simp[stO] at es
  | some d =>
   have:s=.st d:=by simpa[stO] using es.symm
   exact .inl ⟨d,this⟩
 |succ j=>exact h j s (by simpa using es)
theorem ang{α β:Type}{K:Frag}{src:List (Option Nat)}{c:En}{s:TI}{g:TT}{te:TE}{R:List PyData->Prop}{xs:List α}{fx : α->PyData}(a : α->List β)(n : β->PyData)(f : α->β->PyData)(q : α->β->Bool)(T:ae0 (aas src c))
  (hl:(xs.flatMap λx=>((a x).filter (q x)).map (f x)).length<=999999)
  (h1:∀ x∈xs,∀ m:Bs,m.K=K->∀ o,EvI m s (some (.st (fx x))::stO o::aas src c) λp A=>p=(a x).map n/\A=some (.st (fx x))::stO o::aas src c)
  (h2:∀ x∈xs,∀ y∈a x,∀ m:Bs,m.K=K->EvT m g (some (.st (fx x))::some (.st (n y))::aas src c) λb Z=>b=q x y/\Z=some (.st (fx x))::some (.st (n y))::aas src c/\(b=true->Ev m te (some (.st (fx x))::some (.st (n y))::aas src c) λz Y=>z=f x y/\Y=some (.st (fx x))::some (.st (n y))::aas src c))
  (hR:R (xs.flatMap λx=>((a x).filter (q x)).map (f x))):LcV2 K (none::none::src) (abi 0) tYes s (abi 1) g te (xs.map fx) c R:=by
 refine⟨λi ys e=>ys=(xs.take i).flatMap (λx=>((a x).filter (q x)).map (f x))/\∃ o o',e=stO o::stO o'::aas src c,⟨by simp,none,none,rfl⟩,?_,?_,?_⟩
 ·rintro i ys e ⟨_,o,o',rfl⟩
  exact ad4 (ad4 T)
 ·rintro i d ys e hd ⟨rfl,o,o',rfl⟩ m hB
  rw[aA5] at hd
  cases hx:xs[i]? with
  |none=>rw[hx] at hd;cases hd
  | some x =>
   rw[hx] at hd
   cases hd
   have w:=aA2 hx
   have S:xs.take (i+1)=xs.take i++[x]:=by rw[aH4,hx];rfl
   have E:((xs.take (i+1)).flatMap (λx=>((a x).filter (q x)).map (f x))).length<=999999:=by
    refine aD0 ?_ hl
    conv=>rhs;rw[← aC1 (i+1) xs,List.flatMap_append,aB1]
    exact Nat.le_add_right _ _
   refine abh (ahi ?_)
   rw[aF5 rfl]
   show EvI m s (some (.st (fx x))::stO o'::aas src c) _
   intro σ G H F Q I k
   refine h1 x w m hB o' σ G H F Q I λJ G' H' F' p A B g' D ⟨O,r⟩=>k J G' H' F' p A B g' D ?_
   subst O r
   refine⟨λj l e=>l=(xs.take i).flatMap (λx=>((a x).filter (q x)).map (f x))++(((a x).take j).filter (q x)).map (f x)/\∃ o',e=some (.st (fx x))::stO o'::aas src c,⟨by simp,o',rfl⟩,?_,?_,?_⟩
   ·rintro j l e ⟨_,u,rfl⟩
    exact ad4 (o:=some (fx x)) (ad4 T)
   ·rintro j d2 l e h ⟨rfl,u,rfl⟩ U M
    rw[aA5] at h
    cases hy:(a x)[j]? with
    |none=>rw[hy] at h;cases h
    | some y =>
     rw[hy] at h
     cases h
     have C:(a x).take (j+1)=(a x).take j++[y]:=by rw[aH4,hy];rfl
     refine abh ?_
     show EvT U g (some (.st (fx x))::some (.st (n y))::aas src c) _
     intro σ G H F Q I k
     refine h2 x w y (aA2 hy) U M σ G H F Q I λb G' H' F' e3 B g' ⟨hb,W,X⟩=>k b G' H' F' e3 B g' ?_
     subst W
     by_cases hp:b=true
     ·rw[aF5 hp]
      intro σ G H F Q I k
      refine X hp σ G H F Q I λv G' H' F' d' A B g' r' ⟨P,r⟩=>k v G' H' F' d' A B g' r' ?_
      subst P r
      have N:q x y=true:=by rw[← hb];exact hp
      refine⟨?_,?_,some (n y),rfl⟩
      ·refine aD0 ?_ E
       rw[S,List.flatMap_append,aB1,aB1]
       refine Nat.add_le_add_left ?_ _
       simp only[List.flatMap_cons,List.flatMap_nil,aF0,aA3]
       exact(List.Sublist.filter (q x) (List.take_sublist j (a x))).length_le
      ·rw[C,List.filter_append,aE3,← aB4]
       simp[N]
     ·rw[aF6 hp]
      have L:q x y=false:=by rw[← hb];simpa using hp
      refine⟨?_,some (n y),rfl⟩
      rw[C,List.filter_append,aE3]
      simp[L]
   ·rintro l e ⟨rfl,u,rfl⟩
    refine⟨?_,some (fx x),u,rfl⟩
    rw[S,List.flatMap_append]
    simp
 ·rintro ys e ⟨rfl,o,o',rfl⟩
  rw[aA3,aG8]
  exact hR
section
variable{B:Bs}{env:En}{Q':PyData->En->Prop}{QO:Sl->En->Prop}{c:TT}{ta tb:TE}
theorem a1s{src:List (Option Nat)}{n:TI}{g:TG}{j:TT}{i:TI}{m:TG}{f:TT}{te:TE}(h:EvI B n env λds l=>LcV2 B.K src g j i m f te ds l λys=>Q' (.list ys) l):Ev B (tLC2 src n g j i m f te) env Q':=abu (apv λσ G H F R I k=>h σ G H F R I λJ o p r ds l v s it ⟨u,a,b,c,d⟩=>k J o p r ds l v s it ⟨u,a,b,c,λys e q=>ac0 (d ys e q)⟩)
end
def a1t(e:En):Bool:=e.all λo=>match o with|some (.own _)=>false|some (.io _)=>false|_=>true
theorem akr{e:En}(h:a1t e=true):ae0 e:=λj s es=>by
 have:=aF4.mp h (some s) (aA2 es)
 cases s with
 |st d=>exact .inl ⟨d,rfl⟩
 |scr ns=>exact .inr ⟨ns,rfl⟩
 |own A=>simp at this
 |io A=>simp at this
end VL
namespace VL
open PySem PySem.Spec L2 PyProof.Rows
end VL
namespace VL
open PySem PySem.Spec L2
section
variable{B:Bs}{env:En}{QO:Sl->En->Prop}{i:Nat}
theorem atv{k c:Int}(e:env[i]?=some (some (.st (.int k))))(q:QO (.own (OD [(.inl k,.int c)])) env):EvO B (aw1 [(tVar i,tC (.int c))]) env QO:=λσ G H F Q I f p a=>by
 obtain⟨v,d,r⟩:=I.sl i _ e
 obtain⟨r,_⟩:=r
 cases r
 refine⟨_,d,aaf,[(.inl k,.int c)],rfl,by simp,?_⟩
 have o:=Out.newD (ds:=[(.inl k,.int c)]) (xs:=[(.inl k,.int c)]) I.gh a (.cons (.int c) .nil)
 have g:upd (upd H p (.dK [])) p (.dK (afr [] [(Sum.inl k,V.int c)]))=upd H p (.dK [(.inl k,.int c)]):=by
  funext b
  unfold upd
  split <;> rfl
 rw[g]
 exact f _ _ _ F _ _ env (I.out o).1 o.gg (I.out o).2 q
end
section
variable{X:Cx}
end
section
variable{R:Sl->Prop}
end
end VL
namespace L2
open PySem PySem.Spec PyProof.Rows
section
variable{X:Cx}
variable{e est:Expr}{te:TE}{ts:TO}{pos p2:Pos}
end
end L2
namespace VL
open PySem PySem.Spec L2
section
variable{B:Bs}{env:En}{QO:Sl->En->Prop}{Q':PyData->En->Prop}{te tl:TE}{ts:TO}{K:Frag}{i:Nat}
end
structure But(n:Int)(es rem:List (Int × Int)):Prop where
 rise:Rise es
 inn:∀ p∈es,0<=p.1/\p.1<p.2/\p.2<n
 all:∀ p:Int × Int,0<=p.1->p.1<p.2->p.2<n->p∈es\/p∈rem
end VL
namespace PopT
open PySem PyProof.Rows
section
variable{prog:Program}{w:World}{K:Type} [DecidableEq K] {knd:HeapKind prog w K} {A:Around} {E:Value->Shared->Prop} {s:Shared}
theorem anh{d a:Addr}{xs:List (K × Addr × Value)}{k:K}{j:Nat}{p:Addr × Value}{Q:Option DictEntry->Shared->Prop}(z:knd.room A)(b:knd.is s.heap k a)(hm:s.heap.DictOfH knd d xs)(m:xs[j]?=some (k,p))
  (H:∀ e h',e.val=p.2->h'.DictOfH knd d (xs.eraseIdx j)->Heap.SameBut d s.heap h'->Q (some e) { s with heap:=h',toks:=s.toks+knd.draws k })
  (hsz:xs.length<=sizeLine):wpAny (model prog w) A (Builtin.Dict.takeOut d (.ref a)) Q E s:=by
 obtain⟨o,es,ep,g,G,hd,c,h,hn⟩:=hm
 unfold Builtin.Dict.takeOut
 try with_reducible refine aJ7 ?_
 refine aJ1 (knd.pyHash z b ?_)
 refine aJ1 (wpAny_dictFind_heap (s:={ s with toks:=s.toks+knd.draws k }) z b g hd c h hn (λu=>absurd m (u j p)) ?_)
 intro i q hi
 have r:i=j:=by
  have v:(xs.map (·.1))[i]?=some k:=by rw[aA5,hi];rfl
  have y:(xs.map (·.1))[j]?=some k:=by rw[aA5,m];rfl
  have C:=(aA1.mp v).1
  have I:=(aA1.mp y).1
  exact(List.getElem?_inj C hn).mp (v.trans y.symm)
 subst r
 have n:es.size<=sizeLine:=by have e:=size_of_entries c;lia
 refine aJ1 (wpAny_dictEntries (s:={ s with toks:=s.toks+knd.draws k }) g hd ?_)
 rw[entry_at c i,m]
 refine aJ1 (wpAny_updateDictKeys (hz:=n) (s:={ s with toks:=s.toks+knd.draws k }) g hd (aJ2 (H _ _ rfl ⟨_,_,ep+1,aK7 _ g (Obj.isFreed_of_dict (Obj.data_mapDictKeys hd _)),
  G.mapDictKeys _,Obj.data_mapDictKeys hd _,?_,?_,?_⟩ (Heap.SameBut.update ..))))
 ·have F:∀{α β:Type}(f : α->β)(l:List α)(k:Nat),(l.map f).eraseIdx k=(l.eraseIdx k).map f:=by
   intro α β f l
   induction l with
   |nil=>intro k;rfl
   | cons a l ih =>
    intro k
    cases k with
    |zero=>rfl
    |succ k=>simp[ih k]
  rw[← F,← c]
  obtain⟨l⟩:=es
  have B:i<l.length:=by
   have:=(aA1.mp m).1
   have e:=size_of_entries c
   simp at e;lia
  simp[Array.eraseIdxIfInBounds,B]
 ·intro x D
  exact knd.keeps (h x ((List.eraseIdx_sublist xs i).mem D)) g hd (Heap.SameBut.update ..)
 ·exact hn.sublist ((List.eraseIdx_sublist xs i).map _)
theorem meetsH_dict_pop{d a:Addr}(kp:keyPart (.ref a)=none) :
  MeetsIn prog w (Builtin.«dict.pop» ⟨[.ref d,.ref a],[]⟩) (λA R s=>knd.room A.in1/\∃ k xs j p,knd.is s.heap k a/\s.heap.DictOfH knd d xs/\xs.length<=sizeLine/\xs[j]?=some (k,p) /\
   ∀ h',h'.DictOfH knd d (xs.eraseIdx j)->Heap.SameBut d s.heap h'->R (.ok (.ret p.2)) { s with heap:=h',toks:=s.toks+knd.draws k }) :=
 .of_wp λA R s r=>by
  obtain⟨u,k,xs,j,p,b,hm,hsz,m,h⟩:=r
  have c:=hm
  obtain⟨o,es,ep,n,y,hd,x,v,hn⟩:=c
  have l:es.isEmpty=false:=by
   have e:=size_of_entries x
   have:=(aA1.mp m).1
   cases q:es.isEmpty with
   |false=>rfl
   |true=>have:=Array.isEmpty_iff.mp q;rw[this] at e;simp at e;lia
  unfold Builtin.«dict.pop»
  refine aJ1 ?_
  unfold Builtin.Dict.keyAndDefault
  refine aJ1 (wpAny_notOrdered_dict hm.typeIs ?_)
  show wpAny _ _ (pure (d,Value.ref a,none)) _ _ s
  refine aJ2 ?_
  simp only[kp,Option.isSome_none,Bool.false_eq_true,if_false]
  refine aJ1 (wpAny_dictEntries n hd ?_)
  refine aJ1 (aJ2 ?_)
  simp only[l,Bool.false_eq_true,if_false]
  refine aJ1 (anh u b hm m (λe h' f g i=>?_) hsz)
  simp only[Option.isNone_some,Bool.false_eq_true,if_false]
  exact aJ1 (wpAny_letGo (aJ2 ⟨e.val,rfl,by rw[f];exact h h' g i⟩))
end
end PopT
namespace L2
open PySem PySem.Spec PySem.W PyProof.Rows
theorem KT.at{H:Hp}{kvs:List (List Key × V)}{xs:List (List Key × Addr × Value)}(r:KT H kvs xs):∀{j:Nat}{k:List Key}{v:V},kvs[j]?=some (k,v)->∃ p:Addr × Value,xs[j]?=some (k,p)/\RelV v p.2:=by
 induction r with
 |nil=>intro j k v e;simp at e
 | @cons p q ps qs hq t ih =>
  intro j k v e
  cases j with
  | zero =>
   have e:p=(k,v):=by simpa using e
   subst e
   exact⟨q.2,by rw[List.getElem?_cons_zero,show k=q.1 from hq.1],hq.2.2⟩
  |succ j=>exact ih (by simpa using e)
theorem KT.erase{H:Hp}{kvs:List (List Key × V)}{xs:List (List Key × Addr × Value)}(r:KT H kvs xs):∀(j:Nat),KT H (kvs.eraseIdx j) (xs.eraseIdx j):=by
 induction r with
 |nil=>intro j;exact .nil
 | @cons p q ps qs hq t ih =>
  intro j
  cases j with
  |zero=>exact t
  |succ j=>exact .cons hq (ih j)
section
variable{X:Cx}{pins:List (Addr × Obj)}{σ:St}{H:Hp}{s:Shared}{a b:Addr}{A:Around}{E:Value->Shared->Prop}
theorem a1u{kvs:List (List Key × V)}{k:List Key}{j:Nat}{v:V}{Q:Value->Shared->Prop}(B:A.units+1<cLine)(I:Inv X pins σ H s)(e:H a=some (.dT kvs))(x:H b=some (.tup (k.map kV)))(l:kvs[j]?=some (k,v))
  (h:∀ g s',Inv X pins σ (upd H a (.dT (kvs.eraseIdx j))) s'->RelV v g->Q g s'):wpAny (model X.prog X.w) A (call (.builtin "dict.pop") [.ref a,.ref b]) Q E s:=by
 obtain⟨z,hd,xs,d,dd⟩:=aig I.hok e
 have hz:xs.length<=sizeLine:=by rw[← Paired.length d];exact z
 obtain⟨p,o,n⟩:=KT.at d l
 refine call_meetsIn PySem.F.slot_dict_pop dd.typeIs PySem.F.entry_dict_pop (PySem.F.args_dict_pop_2 _ _) (PopT.meetsH_dict_pop (knd:=tupleKind (aa4 X.prog X.w)) rfl)
  ⟨tupleKind_room_in1 B,k,xs,j,p,aes I.hok x,dd,hz,o,λh' f hs=>h p.2 _ ?_ n⟩
 obtain⟨q,es,ep,i,r,y,u,_,C⟩:=f
 refine ahc I (by rw[e];exact True.intro) hs ⟨q,i⟩ ⟨aD0 (List.length_eraseIdx_le kvs j) z,hd,_,(KT.erase d j).keeps λc ys m=>?_,q,es,ep,i,r,y,u,C⟩
 rw[aae (aws m e (λz=>nomatch z))]
 exact m
end
def atw(td ty:TE):TE:=λσ H Q=>td σ H λx H1=>∃ a,x=.ref a/\IsD H1 a/\ty σ H1 λy H2=>∃ kvs k j v b,H2 a=some (.dT kvs)/\y=.ref b/\H2 b=some (.tup (k.map kV))/\kvs[j]?=some (k,v)/\Q v (upd H2 a (.dT (kvs.eraseIdx j)))
section
variable{X:Cx}{o e f:Expr}{apos cpos:Pos}{td ty tx:TE}
theorem av8(D:X.A.units+1<cLine)(r:PE X o td)(J:PE X e ty)(m:M1 X o "pop" apos e cpos):PE X (.Call (.Attribute o "pop" apos) [e] [] cpos) (atw td ty):=by
 intro pins s σ H Q I h
 refine wpAny_Call_method m.base m.few m.line PySem.F.plainAttrs_dict PySem.F.slot_dict_pop PySem.F.type_dict_pop (thn (r pins s σ H _ I h) λu s1 ⟨x,w,f,z,a,ex,d,g⟩=>?_)
 subst ex
 obtain rfl:u=Value.ref a:=z
 obtain⟨t1,K,_⟩:=aso f d
 refine⟨t1,K,?_⟩
 rw[m.trees]
 refine Calls.callWith_builtin rfl (Calls.evalArgs_plain (Calls.spliced_cons (thn (J pins s1 σ w _ f g) λG s2 ⟨y,H2,p,q,kvs,k,j,v,b,i,n,B,l,E⟩=>Calls.spliced_nil ?_)))
 subst n
 obtain rfl:G=Value.ref b:=q
 exact a1u D p i B l λL M C c=>⟨v,_,C,c,E⟩
end
end L2
namespace DNe
open PySem PyProof.Rows
theorem dict_ne_some(l b:Addr)(es:Array DictEntry)(n i:Nat)(dd c:Option Addr)(sl a:Array (Option Value))(j:(l == sysModules)=false)(f:(b == sysModules)=false)(m:(es.size != 0)=true) :
  Meets (Builtin.«dict.__ne__» ⟨[.ref l,.ref b],[]⟩)
   (λ_ R s=>s.heap.get? l=some { cls:=.type "dict",dict:=dd,data:=.dict es n,slots:=sl }/\s.heap.get? b=some { cls:=.type "dict",dict:=c,data:=.dict #[] i,slots:=a } /\
    R (.ok (.ret (.bool true))) s) :=
 .of_wp λprog w A R s h=>by
  obtain⟨q,g,d,p,os⟩:=s;obtain⟨o,hb,h⟩:=h
  have r:=PySem.F.sub_dict_dict
  wp_walk
  exact⟨_,rfl,h⟩
theorem atx{prog:Program}{w:World}{A:Around}{E:Value->Shared->Prop}{s:Shared}{Q:Bool->Shared->Prop}{id:String}{l b:Addr}{o g:Obj}{n i:Nat}(d:(l == sysModules)=false)(a:(b == sysModules)=false)
  (f:s.heap.get? l=some o) (hd:o.data=.dict #[] n) (hb:s.heap.get? b=some g) (c:g.data=.dict #[] i) (h:Q true s):wpAny (model prog w) A (Builtin.Dict.samePairs id l b) Q E s:=by
 unfold Builtin.Dict.samePairs Builtin.Dict.showsAll
 rw[d,a]
 simp only[Bool.false_eq_true,if_false]
 refine aJ1 (aJ2 (aJ1 (aJ2 ?_)))
 refine aJ1 (wpAny_dictEntries f hd (aJ1 (wpAny_dictEntries hb c ?_)))
 simp only[bne_self_eq_false,Bool.false_eq_true,if_false]
 refine aJ1 (wpAny_dictEpoch f hd ?_)
 rw[Std.Legacy.Range.forIn_eq_forIn_range']
 simp only[Std.Legacy.Range.size]
 exact aJ1 (aJ2 (aJ2 h))
theorem dict_ne_none(l b:Addr)(n m:Nat)(dd f:Option Addr)(sl a:Array (Option Value))(i:(l == sysModules)=false)(c:(b == sysModules)=false) :
  Meets (Builtin.«dict.__ne__» ⟨[.ref l,.ref b],[]⟩)
   (λ_ R s=>s.heap.get? l=some { cls:=.type "dict",dict:=dd,data:=.dict #[] n,slots:=sl }/\s.heap.get? b=some { cls:=.type "dict",dict:=f,data:=.dict #[] m,slots:=a } /\
    R (.ok (.ret (.bool false))) s) :=
 .of_wp λprog w A R s h=>by
  obtain⟨p,g,d,o,os⟩:=s;obtain⟨j,hb,h⟩:=h
  have q:=PySem.F.sub_dict_dict
  wp_walk using atx i c j rfl hb rfl
  exact⟨_,rfl,h⟩
end DNe
namespace L2
open PySem PySem.Spec PySem.W PyProof.Rows
def rNeE:R2:=λx y H Q=>∃ a b kvs,x=.ref a/\y=.ref b/\H a=some (.dT kvs)/\H b=some (.dT [])/\Q (.bl (!kvs.isEmpty)) H
theorem a1v{X:Cx}(R:X.A.units+64<cLine):OpR X (compareOp .NotEq) rNeE:=by
 intro pins s σ H x y v u Q I M J h
 obtain⟨a,b,kvs,rfl,rfl,G,O,q⟩:=h
 obtain rfl:v=Value.ref a:=M
 obtain rfl:u=Value.ref b:=J
 obtain⟨_,c,xs,z,⟨cls,dd,data,sl⟩,es,ep,n,P,E,p,_,_⟩:=aig I.hok G
 obtain⟨_,f,ys,i,⟨j,m,r,d⟩,fs,g,o,K,D,C,_,_⟩:=aig I.hok O
 cases i
 have hf:fs = #[]:=by
  obtain⟨l⟩:=fs
  simp at C
  rw[C]
 subst hf
 have L:cls=.type "dict":=P.1
 have N:j=.type "dict":=K.1
 simp only at E D
 subst L N E D
 have hn:Value.bool true ≠ Value.notImplemented:=λx=>nomatch x
 have w:Value.bool false ≠ Value.notImplemented:=λx=>nomatch x
 cases z with
 | nil =>
  have B:es = #[]:=by
   obtain⟨l⟩:=es
   simp at p
   rw[p]
  subst B
  exact richCompare_meets_room (op:=.NotEq) ⟨_,n,rfl⟩ ⟨_,o,rfl⟩ PySem.F.slot_dict_ne PySem.F.entry_dict_ne (PySem.F.args_dict_ne_2 _ _) (DNe.dict_ne_none a b ep g dd m sl d c f)
   ⟨n,o,show Value.bool false ≠ Value.notImplemented/\_ from⟨w,⟨.bl false,H,I,rfl,q⟩⟩⟩ (by lia)
 | cons hq t =>
  have B:(es.size != 0)=true:=by
   have:=congrArg List.length p
   simp at this
   simp[this]
  exact richCompare_meets_room (op:=.NotEq) ⟨_,n,rfl⟩ ⟨_,o,rfl⟩ PySem.F.slot_dict_ne PySem.F.entry_dict_ne (PySem.F.args_dict_ne_2 _ _) (DNe.dict_ne_some a b es ep g dd m sl d c f B)
   ⟨n,o,show Value.bool true ≠ Value.notImplemented/\_ from⟨hn,⟨.bl true,H,I,rfl,q⟩⟩⟩ (by lia)
end L2
namespace DNe
open PySem PyProof.Rows
theorem ani(l:Addr)(es:Array DictEntry)(n:Nat)(dd:Option Addr)(sl:Array (Option Value))(a:(l == sysModules)=false) :
  Meets (Builtin.«dict.__len__» ⟨[.ref l],[]⟩)
   (λ_ R s=>s.heap.get? l=some { cls:=.type "dict",dict:=dd,data:=.dict es n,slots:=sl }/\R (.ok (.ret (.int (es.size:Int) s.toks))) { s with toks:=s.toks+1 }) :=
 .of_wp λprog w A R s h=>by
  obtain⟨f,g,d,c,os⟩:=s;obtain⟨b,h⟩:=h
  wp_walk
  exact⟨_,rfl,h⟩
section
variable{prog:Program}{w:World}{A:Around}{E:Value->Shared->Prop}{s:Shared}
theorem call_len_raw{d:Addr}{es:Array DictEntry}{n:Nat}{dd:Option Addr}{sl:Array (Option Value)}{Q:Value->Shared->Prop}(hd:(d == sysModules)=false)(c:s.heap.get? d=some { cls:=.type "dict",dict:=dd,data:=.dict es n,slots:=sl })(b:(es.size:Int)<2 ^ 63)
  (h:Q (.int (es.size:Int) (s.toks+1)) { s with toks:=s.toks+1+1 }):wpAny (model prog w) A (call (.builtin "len") [.ref d]) Q E s:=by
 have a:s.TypeIs (.ref d) "dict":=⟨_,c,rfl⟩
 refine Calls.call_function_entry kind_len plain_len entry_len (args_len1 _) ?_
 unfold Builtin.«len»
 refine aJ1 (m:=oneArg "len" _) (aJ2 ?_)
 refine aJ1 (m:=callSpecial? (.ref d) (Str.ofString "__len__")) (wpAny_callSpecial?_slot (name:=Str.ofString "__len__") a PySem.F.slot_dict_len
  (call_meets PySem.F.slot_dict_len a PySem.F.entry_dict_len (PySem.F.args_dict_len_1 _) (ani d es n dd sl hd) ⟨c,?_⟩))
 show wpAny _ _ _ _ _ { s with toks:=s.toks+1 }
 refine aJ1 (aJ7 (aJ2 ?_))
 refine aJ1 (wpAny_letGo ?_)
 show wpAny _ _ (if (es.size:Int)<0 then _ else _) _ _ _
 rw[aF6 (by lia)]
 show wpAny _ _ (if (es.size:Int) ≥ 2 ^ 63 then _ else _) _ _ _
 rw[aF6 (by lia)]
 exact aJ1 (wpAny_mkInt (aJ2 ⟨_,rfl,h⟩))
end
end DNe
namespace L2
open PySem PySem.Spec PySem.W PyProof.Rows
def aw6:List V->Hp->VK->Prop:=λxs H Q=>∃ a kvs,xs=[V.ref a]/\H a=some (.dT kvs)/\Q (.int kvs.length) H
theorem aty{X:Cx}:aa2 X (.builtin "len") aw6:=by
 intro pins s σ H xs us Q I r h
 obtain⟨a,kvs,rfl,ha,q⟩:=h
 obtain⟨u,rfl,i⟩:=ab3 r
 cases i
 obtain⟨z,hd,ys,b,⟨cls,dd,data,sl⟩,es,ep,g,j,c,d,_,_⟩:=aig I.hok ha
 have f:cls=.type "dict":=j.1
 simp only at c
 subst f c
 have hs:es.size=kvs.length:=by
  have:=congrArg List.length d
  simp at this
  rw[this];exact(Paired.length b).symm
 refine DNe.call_len_raw hd g (by rw[sizeLine_eq] at z;lia) ?_
 rw[hs]
 exact⟨.int kvs.length,H,(I.tok _).tok _,⟨_,rfl⟩,q⟩
end L2
namespace VL
open PySem PySem.Spec L2
section
variable{B:Bs}{env:En}{Q':PyData->En->Prop}{QO:Sl->En->Prop}{i:Nat}{ty:TE}
theorem RpT.at{G:Hp}:∀{kvs:List (List Key × V)}{es:List (List Key × PyData)},RpT G kvs es->∀{j:Nat}{ks:List Key}{d:PyData},es[j]?=some (ks,d)->∃ v,kvs[j]?=some (ks,v)/\Rp G v d
 |_,_,.nil,j,ks,d,e=>by simp at e
 | _,_,.cons (k:=k) (v:=v) (d:=d0) h t,0,ks,d,e=>by
  have e:(k,d0)=(ks,d):=by simpa using e
  cases e
  exact⟨v,rfl,h⟩
 | _,_,.cons h t,j+1,ks,d,e=>by
  obtain⟨v,a,r⟩:=RpT.at t (j:=j) (by simpa using e)
  exact⟨v,by simpa using a,r⟩
theorem RpT.erase{G:Hp}:∀{kvs:List (List Key × V)}{es:List (List Key × PyData)},RpT G kvs es->∀(j:Nat),RpT G (kvs.eraseIdx j) (es.eraseIdx j)
 |_,_,.nil,_=>.nil
 |_,_,.cons _ t,0=>t
 |_,_,.cons h t,j+1=>.cons h (RpT.erase t j)
theorem av9{es0:List (List Key × PyData)}(D:Has env i (OT es0))(h:Ev B ty env λy r=>∃ es ks j d,r[i]?=some (some (.own (OT es)))/\y=tkD ks/\es[j]?=some (ks,d)/\Q' d (r.set i (some (.own (OT (es.eraseIdx j)))))):Ev B (atw (tVar i) ty) env Q':=λσ G H F Q I k=>by
 obtain⟨v,p,a,kvs,s,ha,rt,_⟩:=I.has D
 subst s
 refine⟨_,p,a,rfl,.inr ⟨kvs,.inl ha⟩,h σ G H F _ I λu w H2 F2 y r m A J ⟨es,ks,j,d,g,x,z,q⟩=>?_⟩
 subst x
 obtain⟨M,f,⟨L,c,n,o,l,hf⟩,hb⟩:=m.sl i _ g
 rw[p] at f;cases f;cases n
 cases J with
 | @tup b vs ds hk rs =>
  have:=anf rs
  subst this
  obtain⟨K,E,C⟩:=RpT.at l z
  refine⟨c,ks,j,K,b,o,rfl,m.gh _ _ hk,E,?_⟩
  exact k _ w _ _ _ _ (m.upd1 (A':=OT (es.eraseIdx j)) g (.inl rfl) p hf ⟨a,_,rfl,aaf,RpT.erase l j,λb=>Iff.rfl⟩) A C q
theorem a1w{es:List (List Key × PyData)}(f:Has env i (OT es))(q:Q' (.bool (!es.isEmpty)) env):Ev B (tOp rNeE (tVar i) amf) env Q':=λσ G H F Q I k=>by
 obtain⟨v,d,a,kvs,c,ha,rt,_⟩:=I.has f
 subst c
 refine⟨_,d,λp b=>⟨a,p,kvs,rfl,rfl,by rw[aae (aao ha b)];exact ha,aaf,?_⟩⟩
 have o:=Out.newDT (xs:=[]) (ds:=[]) I.gh b .nil
 have e:kvs.isEmpty=es.isEmpty:=by cases rt <;> rfl
 rw[e]
 exact k _ G _ F _ env (I.out o).1 (Same.refl _) (.bl _) q
theorem ay3{es:List (List Key × PyData)}(c:Has env i (OT es))(q:Q' (.int es.length) env):Ev B (tCB aw6 (abb (tVar i) tNil)) env Q':=λσ G H F Q I k=>by
 obtain⟨v,d,a,kvs,b,ha,rt,_⟩:=I.has c
 subst b
 refine⟨_,d,a,kvs,rfl,ha,?_⟩
 rw[(RpT.len rt).1]
 exact k _ G H F _ env I (Same.refl _) (.int _) q
@[reducible] def abg (es:List (Key × PyData)):PyData:=.dict (es.map λp=>(kD p.1,p.2))
theorem ay4{a b:Key}(h:kD a=kD b):a=b:=by
 cases a <;> cases b <;> simp[kD] at h <;> rw[h]
theorem atz:∀{es fs:List (Key × PyData)},es.map (λp=>(kD p.1,p.2))=fs.map (λp=>(kD p.1,p.2))->es=fs
 |[],[],_=>rfl
 |[],_::_,h=>by simp at h
 |_::_,[],h=>by simp at h
 | (a,x)::es,(b,y)::fs,h=>by
  simp only[aD1,List.cons.injEq,Prod.mk.injEq] at h
  rw[ay4 h.1.1,h.1.2,atz h.2]
theorem aht{G:Hp}{v:V}{es:List (Key × PyData)}(r:Rp G v (abg es))(b:es ≠ []):∃ a kvs,v=.ref a/\G a=some (.dK kvs)/\RpK G kvs es:=by
 cases r with
 |dk h rk e=>exact⟨_,_,rfl,h,by rw[atz e];exact rk⟩
 | @dt a kvs es' ds h rt e =>
  cases es with
  |nil=>exact absurd rfl b
  | cons p es =>
   cases es' with
   |nil=>simp at e
   | cons q es' =>
    simp only[aD1,List.cons.injEq,Prod.mk.injEq] at e
    have:=e.1.1
    obtain⟨k,x⟩:=p
    cases k <;> simp[kD] at this
theorem adz{l:TE}(h:Ev B l env λx g=>Ev B ty g λy c=>∃ es k d,x=abg es/\es ≠ []/\y=kD k/\valD es k=some d/\Q' d c):Ev B (alo l ty) env Q':=λσ G H F Q I z =>
 h σ G H F _ I λv o C D x g M J A E=>E σ o C D _ M λu m H2 F2 y c i j K p=>by
  obtain⟨es,k,d,ex,f,n,r,q⟩:=p
  subst ex n
  obtain⟨a,kvs,rfl,ha,L⟩:=aht (A.same j) f
  obtain⟨w,s,b⟩:=(RpK.val L).2 d r
  have:=ahr K
  subst this
  exact⟨a,w,rfl,.inl ⟨kvs,k,.inl (i.gh _ _ ha),rfl,s.symm⟩,z _ m H2 F2 _ c i (J.trans j) b q⟩
theorem ark{m:TE}(h:Ev B ty env λy j=>Ev B m j λx c=>∃ es k,x=abg es/\es ≠ []/\y=kD k/\Q' (.bool (!(valD es k).isSome)) c):Ev B (afp ty m) env Q':=λσ G H F Q I n =>
 h σ G H F _ I λv z E J y j M o D K=>K σ z E J _ M λu i H2 F2 x c f l L A=>by
  obtain⟨es,k,ex,g,r,q⟩:=A
  subst ex r
  obtain⟨a,kvs,rfl,ha,p⟩:=aht L g
  have:=ahr D
  subst this
  have b:=f.gh _ _ ha
  cases hv:valD es k with
  | none =>
   rw[hv] at q
   exact⟨a,none,rfl,.inl ⟨kvs,k,.inl b,rfl,((RpK.val p).1 hv).symm⟩,n _ i H2 F2 _ c f (o.trans l) (.bl _) q⟩
  | some d =>
   rw[hv] at q
   obtain⟨w,C,s⟩:=(RpK.val p).2 d hv
   exact⟨a,some w,rfl,.inl ⟨kvs,k,.inl b,rfl,C.symm⟩,n _ i H2 F2 _ c f (o.trans l) (.bl _) q⟩
end
section
variable{B:Bs}{env:En}{QO:Sl->En->Prop}{Q':PyData->En->Prop}{K:Frag}{i:Nat}
end
theorem at3{α:Type}{K:Frag}{src:List (Option Nat)}{a:En}{te:TE}{c:TT}{R:List PyData->En->Prop}{xs:List α}{f : α->PyData}(g : α->PyData)(p : α->Bool)(q:noIo (aas src a)=true)(J:xs.length<=999999)
  (h:∀ x∈xs,∀ j:Bs,j.K=K->EvT j c (some (.st (f x))::aas src a) λb r=>b=p x/\r=some (.st (f x))::aas src a/\(b=true->Ev j te (some (.st (f x))::aas src a) λy m=>y=g x/\m=some (.st (f x))::aas src a))
  (E:R ((xs.filter p).map g) a):LcV K (none::src) (abi 0) c te (xs.map f) a R:=by
 have l:noIo (aas (none::src) a)=true:=by
  show((none::aas src a).all λs=>!isIo s)=true
  rw[List.all_cons]
  exact(aH1 _ _).mpr ⟨rfl,q⟩
 refine⟨λi ys e=>ys=((xs.take i).filter p).map g/\∃ o,e=stO o::aas src a,⟨by simp,none,rfl⟩,?_,?_,?_⟩
 ·rintro i ys e ⟨_,o,rfl⟩
  exact⟨⟨isIo_stO.symm,agu⟩,afb aff⟩
 ·rintro i d ys e hd ⟨rfl,o,rfl⟩ j C
  rw[aA5] at hd
  cases hx:xs[i]? with
  |none=>rw[hx] at hd;cases hd
  |some x =>
  rw[hx] at hd
  cases hd
  have hi:i<xs.length:=(aA1.mp hx).1
  have w:xs.take (i+1)=xs.take i++[x]:=by rw[aH4,hx];rfl
  refine abh ?_
  show EvT j c (some (.st (f x))::aas src a) _
  intro σ G H F Q I k
  refine h x (aA2 hx) j C σ G H F Q I λb G' H' F' r n g' ⟨hb,D,A⟩=>k b G' H' F' r n g' ?_
  subst D
  by_cases hp:b=true
  ·rw[aF5 hp]
   intro σ G H F Q I k
   refine A hp σ G H F Q I λv G' H' F' d' m n g' z ⟨B,u⟩=>k v G' H' F' d' m n g' z ?_
   subst B u
   refine⟨?_,?_,some _,rfl⟩
   ·have:=List.length_filter_le p (xs.take i)
    simp only[aA3]
    have L:(xs.take i).length<=i:=by simp;lia
    lia
   ·rw[w,List.filter_append,aE3]
    have:p x=true:=by rw[← hb];exact hp
    simp[this]
  ·rw[aF6 hp]
   refine⟨?_,some _,rfl⟩
   rw[w,List.filter_append,aE3]
   have:p x=false:=by rw[← hb];simpa using hp
   simp[this]
 ·rintro ys e ⟨rfl,o,rfl⟩
  rw[ajr l,aA3,aG8]
  exact E
section
variable{B:Bs}{env:En}{QO:Sl->En->Prop}{Q':PyData->En->Prop}{K:Frag}{i:Nat}
end
end VL
namespace L2
open PySem PySem.W PyProof.Rows
def aw7:List V->Hp->VK->Prop:=λxs H Q=>∃ a kvs,xs=[V.ref a]/\H a=some (.dK kvs)/\Q (.int (kvs.length:Int)) H
section
variable{X:Cx}
theorem arl:aa2 X (.builtin "len") aw7:=asr
end
end L2
namespace VL
open PySem PySem.Spec L2
section
variable{B:Bs}{env:En}{Q':PyData->En->Prop}{R:Sl->Prop}{td:TE}
theorem awa{es:List (Key × PyData)}(b:es ≠ [])(h:R (.st (.int (es.length:Int)))):OpA aw7 [abg es] R:=λG H vs Q gh rs k=>by
 cases rs with
 | cons r t =>
  cases t
  obtain⟨a,kvs,rfl,ha,c⟩:=aht r b
  refine⟨a,kvs,rfl,gh _ _ ha,?_⟩
  rw[RpK.length c]
  exact k _ _ _ _ _ (Out.refl gh (.int _)) h
end
end VL
namespace DictL
open PySem PyProof.Rows
theorem aeh:entryFor table "dict.update.loop" = some Builtin.«dict.update.loop»:=entryFor_of_tree (by kernel_rfl)
theorem acd:plainId "dict.update.loop" = true:=by decide +kernel
section
variable{prog:Program}{w:World}{A:Around}{R:Result->Shared->Prop}{I:Addr}{fp wr:List Addr}{n:Nat}{P:Nat->Value->Prop}{St:Nat->Heap->Prop}{K:Type} [DecidableEq K] {knd:KeyKind prog w K}
theorem apw{M:Model}{E:Value->Shared->Prop}{s:Shared}{t:Addr}{k v:Value}{Q:List Value->Shared->Prop}{c:Value->Sem (List Value)}(b:s.heap.IsTuple t #[k,v])(h:Q [k,v] s):wpAny M A ((Builtin.Dict.pairItems (.ref t)).tryCatch c) Q E s:=by
 obtain⟨⟨cls,dd,data,sl⟩,j,a,m,hd⟩:=b
 simp only at a hd
 subst a hd
 refine wpAny_tryCatch ?_
 unfold Builtin.Dict.pairItems
 obtain⟨i,g,d,f,os⟩:=s
 wp_walk
 exact h
theorem at4(W:Walks prog w A.in1 I fp wr n P St)(S:Addr)(p:S ∉ fp)(m:Nat->K)(G val:Nat->Value)(tup:Nat->Addr)(g:Nat->List (K × Value))(Y:∀ i,g (i+1)=stored (g i) (m i) (val i))(hz:∀ i,i<=n->(g i).length<=sizeLine)
  (hP:∀ i v,P i v->v=.ref (tup i)) (f:∀ i,i<n->tup i ≠ S/\tup i ∉ wr) (x:∀ i,i<n->knd.is (m i) (G i)=true) :
  ∀(k i:Nat)(s:Shared),n-i=k->i<=n->St i s.heap->(∀ j,i<=j->j<n->s.heap.IsTuple (tup j) #[G j,val j])->s.heap.DictOf knd S (g i) ->
   (∀ h' y,h'.DictOf knd S (g n)->(∀ b o,b ≠ S->b ∉ wr->s.heap.get? b=some o->h'.get? b=some o)->R (.ok (.ret .none)) { s with heap:=h',toks:=y }) ->
   codeAny (model prog w) A (.builtin "dict.update.loop" ⟨[.ref S,.ref I,rawInt i,.none],[]⟩) R s:=by
 have l:S ∉ wr:=λh=>p (W.sub _ h)
 intro k
 induction k with
 | zero =>
  intro i s X hi c N U H
  have F:i=n:=by lia
  subst F
  refine aK8 aeh ?_
  rw[aK2 acd _]
  show wpAny _ A.in1 (pyNext (.ref I) >>= _) _ _ s
  refine aJ1 (W.done s _ _ c λh' y hm=>?_)
  dsimp only
  unfold Builtin.Dict.addKeywords
  refine aJ1 (aJ1 (aJ2 (aJ2 ?_)))
  refine aJ2 ?_
  exact H h' y (by obtain⟨o,es,ep,d,r⟩:=U;exact⟨o,es,ep,hm S o l d,r⟩) λb o _ hb e=>hm b o hb e
 | succ k ih =>
  intro i s X hi c N U H
  have a:i<n:=by lia
  refine aK8 aeh ?_
  rw[aK2 acd _]
  show wpAny _ A.in1 (pyNext (.ref I) >>= _) _ _ s
  refine aJ1 (W.item i s _ _ a c λv h' y D q hm=>?_)
  have Z:=hP i v D
  subst Z
  dsimp only
  have E:h'.IsTuple (tup i) #[G i,val i]:=by
   obtain⟨o,d,r⟩:=N i (aA6 _) a
   exact⟨o,hm _ o (f i a).2 d,r⟩
  have M:h'.DictOf knd S (g i):=by obtain⟨o,es,ep,d,r⟩:=U;exact⟨o,es,ep,hm S o l d,r⟩
  refine aJ1 (aJ7 ?_)
  refine aJ1 (apw E ?_)
  dsimp only
  refine aJ7 (wpAny_dictSet_pairs (x i a) M (λh2 J u=>?_) (hz i hi))
  have keep:∀ b o,b ≠ S->b ∉ wr->s.heap.get? b=some o->h2.get? b=some o:=λb o B C e=>by rw[u.2 b B];exact hm b o C e
  refine aJ2 ⟨plainId_quiet acd _,ih (i+1) _ (by lia) a ?_ ?_ (by rw[Y];exact J) ?_⟩
  ·exact W.frame _ _ _ q λb hb o e=>by rw[u.2 b (λz:b=S=>p (by rw[← z];exact hb))];exact e
  ·intro j j1 Q
   obtain⟨o,d,r⟩:=N j (by lia) Q
   exact⟨o,keep _ o (f j Q).1 (f j Q).2 d,r⟩
  ·intro h3 O L T
   exact H h3 O L λb o B C e=>T b o B C (keep b o B C e)
end
section
variable{prog:Program}{w:World}{A:Around}{E:Value->Shared->Prop}{s:Shared}
theorem a1x:typeLookup (.type "list") (Str.ofString "keys")=pure none:=by rw[typeLookup_type,builtinLookup_eq_fast];kernel_rfl
theorem apx{a:Addr}{xs:Array Value}{k:Nat}{Q:Option Value->Shared->Prop}(j:s.heap.get? a=some { cls:=.type "list",data:=.seq xs k })(n:A.handled=none)
  (h:∀ h' i,(∀ b o,s.heap.get? b=some o->h'.get? b=some o)->Q none { s with heap:=h',toks:=i }):wpAny (model prog w) A (getAttr? (.ref a) (Str.ofString "keys")) Q E s:=by
 obtain⟨m,g,d,i,os⟩:=s
 have l:∀ f,(⟨m,g,d,f,os⟩:Shared).TypeIs (.ref a) "list":=λ_=>⟨_,j,rfl⟩
 have f1:=sub_AttributeError
 have r:=PySem.F.slot_list_getattribute.lookup
 have q:=PySem.F.slot_list_getattribute.bind (.ref a)
 have v:=am_list_getattr_none
 unfold getAttr? getAttrBy? getAttrBy
 repeat (any_goals (first|assumption|exact l _|((with_reducible show wpAny _ _ (call (Value.builtin "list.__getattribute__") _ _) _ _ _);refine call_meets PySem.F.slot_list_getattribute (l _) am_entry_list_getattribute (PySem.F.args_list_getattribute_2 _ _) (meets_getattribute_miss_list a xs k #[] (Str.ofString "keys") _ a1x (by decide +kernel) (by size_fits)) ⟨j,n,λh' f e c=>?_⟩)|wp_step))
 obtain⟨t',p,u⟩:=c.there
 show wpAny _ _ (getattributeRaised _ _ _ _ _ _ _) _ _ _
 unfold getattributeRaised
 repeat (any_goals (first|assumption|wp_step))
 exact h _ _ c.keeps
end
section
variable{prog:Program}{w:World}{A:Around}{E:Value->Shared->Prop}{s:Shared}{K:Type} [DecidableEq K] {knd:KeyKind prog w K}
theorem call_dict_list{l:Addr}{items:Array Value}{nl:Nat}{Q:Value->Shared->Prop}(f:Nat->K)(I val:Nat->Value)(tup:Nat->Addr)(n:Nat->List (K × Value))(R:n 0=[])(O:∀ i,n (i+1)=stored (n i) (f i) (val i))(hz:∀ i,i<=items.size->(n i).length<=sizeLine)
  (hh:A.handled=none) (u:s.heap.get? l=some { cls:=.type "list",data:=.seq items nl }) (T:∀ i v,items[i]?=some v->v=Value.ref (tup i)) (M:∀ j,j<items.size->s.heap.IsTuple (tup j) #[I j,val j]) (q:∀ i,i<items.size->knd.is (f i) (I i)=true)
  (h:∀(h':Heap)(D:Nat),h'.DictOf knd s.heap.objs.size (n items.size)->(∀ b o,s.heap.get? b=some o->h'.get? b=some o)->Q (.ref s.heap.objs.size) { s with heap:=h',toks:=D }) :
  wpAny (model prog w) A (call (.type "dict") [.ref l]) Q E s:=by
 refine callType_codes (Q₁:=λobj a=>obj=.ref s.heap.objs.size/\a={ s with heap:=s.heap.push { cls:=.type "dict",data:=.dict #[] } }) F.kt_called_dict (F.kt_typeCall_dict_1 _) F.entry_dict_init (kt_code_dict_new (.ref l) ⟨rfl,rfl⟩) λobj a x=>?_
 obtain⟨rfl,rfl⟩:=x
 have N:(s.heap.push { cls:=.type "dict",data:=.dict #[] }).get? s.heap.objs.size=some { cls:=.type "dict",data:=.dict #[] }:=aJ5 _ rfl
 refine⟨⟨_,N,rfl⟩,F.args_dict_init_2 _ _,?_⟩
 have c:(s.heap.push { cls:=.type "dict",data:=.dict #[] }).get? l=some { cls:=.type "list",data:=.seq items nl }:=aJ3 _ u
 have S:(Value.type "list" == Value.type "dict")=false:=by decide
 unfold Builtin.«dict.__init__» Builtin.Dict.updateCommon Builtin.Dict.updateFrom
 obtain⟨m,g,d,D,os⟩:=s
 dsimp only at *
 generalize hPI:pyIter=PI
 generalize hGA:getAttr?=GA
 wp_walk
 subst hGA hPI
 refine apx (s:={ heap:=m.push { cls:=.type "dict",data:=.dict #[] },gens:=g,drawn:=d,toks:=D,os:=os }) c hh λp L k1=>?_
 rw[aF5 (show(none:Option Value).isNone=true from rfl)]
 refine aJ1 (wpAny_rule ?_)
 have B:p.IsList l items:=⟨_,k1 _ _ c,rfl,nl,rfl⟩
 have z:l<m.objs.size:=aJ4 u
 have y:=k1 _ _ N
 have hsz:m.objs.size<p.objs.size:=aJ4 y
 refine aJ1 (aK6 (s:={ heap:=p,gens:=g,drawn:=d,toks:=L,os:=os }) B ?_)
 refine aJ2 ⟨plainId_quiet acd _,?_⟩
 have C:l ≠ p.objs.size:=aB6 (Nat.lt_trans z hsz)
 have J:m.objs.size ∉ [p.objs.size,l]:=by
  simp only[aA9,aI4,or_false,not_or]
  exact⟨aB6 hsz,Nat.ne_of_gt z⟩
 have tl:∀ j,j<items.size->tup j<m.objs.size:=λj G=>let ⟨_,e,_⟩:=M j G;aJ4 e
 refine at4 (A:=A.in1) (knd:=knd) (Walks.list (A:=A.in1.in1) hh p.objs.size l C items) m.objs.size J f I val tup n O hz T (λi hi=>⟨aB6 (tl i hi),by simp only[aC2];exact aB6 (Nat.lt_trans (tl i hi) hsz)⟩) q (items.size-0) 0 _ (by lia) (aG0 _)
  ⟨⟨_,aJ5 _ rfl,rfl,rfl⟩,B.push _⟩ (λj _ G=>?_) ?_ λh' H U kp=>?_
 ·obtain⟨o,e,r⟩:=M j G
  exact⟨o,aJ3 _ (k1 _ _ (aJ3 _ e)),r⟩
 ·rw[R]
  exact⟨_,#[],0,aJ3 _ y,⟨rfl,rfl,rfl⟩,rfl,λe P=>by simp at P,.nil,List.nodup_nil⟩
 ·refine⟨rfl,h h' H U λb o e=>kp b o (aB6 (aJ4 e)) (by simp only[aC2];exact aB6 (Nat.lt_trans (aJ4 e) hsz)) (aJ3 _ (k1 _ _ (aJ3 _ e)))⟩
end
end DictL
namespace L2
open PySem PySem.W PyProof.Rows
def dkOf:List (Int × V)->List (Key × V):=λkvs=>kvs.map λp=>(.inl p.1,p.2)
def at5:List V->Hp->VK->Prop:=λxs H Q=>∃(a:Addr)(ts:List Addr)(kvs:List (Int × V)),xs=[.ref a]/\H a=some (.lst (ts.map V.ref))/\ts.length=kvs.length/\kvs.length<4000/\(kvs.map (·.1)).Nodup /\
 (∀(i:Nat) t kv,ts[i]?=some t->kvs[i]?=some kv->H t=some (.tup [.int kv.1,kv.2]))/\∀ p,H p=none->Q (.ref p) (upd H p (.dK (dkOf kvs)))
section
variable{K:Type} [DecidableEq K]
def kfOf(key:Nat->K)(val:Nat->Value):Nat->List (K × Value)
 |0=>[]
 |i+1=>stored (kfOf key val i) (key i) (val i)
theorem anj(a:Nat->K)(val:Nat->Value):∀ i,(kfOf a val i).length<=i
 |0=>aA6 _
 |i+1=>aD0 (stored_length_le _ _ _) (Nat.succ_le_succ (anj a val i))
theorem ank{kvs:List (K × Value)}{k:K}(h:∀ p∈kvs,p.1 ≠ k):valueAt kvs k=none:=by
 unfold valueAt
 rw[Option.map_eq_none_iff,List.find?_eq_none]
 intro p a e
 exact h p a (by simpa using e)
theorem apy(a:Nat->K)(val:Nat->Value):∀ n,(∀ i j,i<n->j<n->i ≠ j->a i ≠ a j)->kfOf a val n=(List.range n).map λi=>(a i,val i)
 |0,_=>rfl
 | n+1,h=>by
  have c:=apy a val n λi j hi d=>h i j (by lia) (by lia)
  show stored (kfOf a val n) (a n) (val n)=_
  rw[c,stored_absent,List.range_succ,aE3]
  ·rfl
  ·refine ank λp b=>?_
   obtain⟨i,hi,rfl⟩:=aB7.mp b
   have:=aB9.mp hi
   exact h i n (by lia) (by lia) (by lia)
end
theorem at6{k:Nat->Key}{g:Nat->V}{g':Nat->Value}:∀{l:List Nat},(∀ i∈l,RelV (g i) (g' i))->KV (l.map λi=>(k i,g i)) (l.map λi=>(k i,g' i))
 |[],_=>.nil
 |i::l,h=>.cons ⟨rfl,h i aB8⟩ (at6 λj a=>h j (aB5 _ a))
section
variable{X:Cx}
theorem arm(P:X.calm=true):aa2 X (.type "dict") at5:=by
 intro pins s σ H xs us Q I r h
 obtain⟨a,b,kvs,rfl,ha,R,S,hn,N,q⟩:=h
 obtain⟨u,rfl,C⟩:=ab3 r
 cases C
 obtain⟨hz,its,nl,E,e⟩:=(show ObjOk X.prog X.w H s.heap a (.lst (b.map V.ref)) from I.hok a _ ha)
 have c:its.length=b.length:=by have:=E.length;rw[aA3] at this;lia
 have y:∀ i:Nat,∃ p:Value × Value,i<b.length->s.heap.IsTuple (b.getD i 0) #[p.1,p.2]/\(∃ t,p.1=.int ((kvs.getD i (0,.non)).1) t)/\RelV (kvs.getD i (0,.non)).2 p.2:=λi=>by
  by_cases hi:i<b.length
  ·have n:b[i]?=some (b.getD i 0):=by rw[aD4,aA0 hi];rfl
   have L:kvs[i]?=some (kvs.getD i (0,.non)):=by rw[aD4,aA0 (by lia)];rfl
   obtain⟨_,M,l,p2⟩:=(show ObjOk X.prog X.w H s.heap _ (.tup _) from I.hok _ _ (N i _ _ n L))
   cases l with
   | cons r1 l =>
    cases l with
    | cons l r3 =>
     cases r3
     exact⟨(_,_),λ_=>⟨p2,r1,l⟩⟩
  ·exact⟨(.none,.none),λh=>absurd h hi⟩
 obtain⟨f,hf⟩:=Classical.skolem.mp y
 have B:∀ i j,i<b.length->j<b.length->i ≠ j->(Sum.inl (kvs.getD i (0,.non)).1:Key) ≠ Sum.inl (kvs.getD j (0,.non)).1:=λi j hi D A e=>by
  have e:=Sum.inl.inj e
  have g:=aG7.mp hn
  rw[aD4,aD4,aA0 (show i<kvs.length by lia),aA0 (show j<kvs.length by lia)] at e
  rcases Nat.lt_or_gt_of_ne A with d|d
  ·exact g i j (by rw[aA3];lia) (by rw[aA3];lia) d (by simpa using e)
  ·exact g j i (by rw[aA3];lia) (by rw[aA3];lia) d (by simpa using e.symm)
 refine DictL.call_dict_list (knd:=aa4 X.prog X.w) (items:=its.toArray) (nl:=nl) (λi=>.inl (kvs.getD i (0,.non)).1) (λi=>(f i).1) (λi=>(f i).2) (λi=>b.getD i 0) (kfOf (λi=>.inl (kvs.getD i (0,.non)).1) λi=>(f i).2) rfl (λi=>rfl) (λi hi=>aD0 (anj _ _ i) (aD0 hi (by rw[sizeLine_eq];simp;lia)))
  (I.ok.hd P) e (λi v m=>?_) (λj D=>(hf j (by simpa[c] using D)).1) (λi hi=>?_) λh' J G kp=>?_
 ·have m:its[i]?=some v:=by simpa using m
  have hi:=(aA1.mp m).1
  have n:(b.map V.ref)[i]?=some (.ref (b.getD i 0)):=by rw[aA5,aD4,aA0 (by lia)];rfl
  obtain⟨u,F,C⟩:=E.get n
  rw[m] at F
  cases F
  exact C
 ·obtain⟨_,⟨t,K⟩,_⟩:=hf i (by simpa[c] using hi)
  rw[K]
  exact ahz _ _ _ _
 ·have z:h'.DictOf (aa4 X.prog X.w) s.heap.objs.size ((List.range b.length).map λi=>(Sum.inl (kvs.getD i (0,.non)).1,(f i).2)):=by
   rw[show its.toArray.size=b.length by simp[c],apy _ _ _ B] at G
   exact G
  have x:KV (dkOf kvs) ((List.range b.length).map λi=>((Sum.inl (kvs.getD i (0,.non)).1:Key),(f i).2)):=by
   have O:dkOf kvs=(List.range b.length).map λi=>((Sum.inl (kvs.getD i (0,.non)).1:Key),(kvs.getD i (0,.non)).2):=by
    refine aG2 λi=>?_
    unfold dkOf
    rw[aA5,aA5]
    by_cases hi:i<b.length
    ·rw[List.getElem?_range hi,aA0 (show i<kvs.length by lia),aI2,aI2,aD4,aA0 (show i<kvs.length by lia)]
     rfl
    ·rw[aE1 (show kvs.length<=i by lia),aE1 (show(List.range b.length).length<=i by rw[aE0];lia)]
     rfl
   rw[O]
   exact at6 λi hi=>(hf i (aB9.mp hi)).2.2
  refine⟨.ref s.heap.objs.size,_,I.laid (t':=J) (o:=.dK (dkOf kvs)) kp (aA6 _) ?_,rfl,q _ (I.hok.fresh (aA6 _))⟩
  refine⟨by unfold dkOf;rw[aA3,sizeLine_eq];lia,beq_eq_false_iff_ne.mpr (Ne.symm (aB6 I.big)),_,x,z⟩
end
end L2
namespace VL
open PySem PySem.Spec L2
def kvI{α:Type}:Nat->List α->List (Int × α)
 |_,[]=>[]
 |k,x::xs=>((k:Int),x)::kvI (k+1) xs
theorem apz{α:Type}:∀(k:Nat)(xs:List α),(kvI k xs).length=xs.length
 |_,[]=>rfl
 |k,_::xs=>by rw[kvI,aE4,aE4,apz]
theorem ap0{α:Type}:∀(k:Nat)(xs:List α)(i:Nat),(kvI k xs)[i]?=xs[i]?.map λx=>(((k+i:Nat):Int),x)
 |_,[],i=>by simp[kvI]
 |k,x::xs,0=>by simp[kvI]
 | k,x::xs,i+1=>by
  rw[kvI,aI1,aI1,ap0 (k+1) xs i,show k+1+i=k+(i+1) by lia]
theorem aks{α:Type}:∀(k:Nat)(xs:List α),((kvI k xs).map (·.1)).Nodup/\∀ p∈kvI k xs,(k:Int)<=p.1
 |_,[]=>⟨List.nodup_nil,λp a=>by simp[kvI] at a⟩
 | k,x::xs=>by
  obtain⟨c,b⟩:=aks (k+1) xs
  refine⟨?_,λp a=>?_⟩
  ·rw[kvI,aD1,aI5]
   refine⟨λhm=>?_,c⟩
   obtain⟨p,a,e⟩:=aB7.mp hm
   have:=b p a
   simp only at e
   lia
  ·rw[kvI] at a
   rcases aA9.mp a with rfl|a
   ·exact Int.le_refl _
   ·have:=b p a;lia
theorem ap1:∀(k:Nat)(xs:List V)(i:Nat),valV (dkOf (kvI k xs)) (.inl ((k+i:Nat):Int))=xs[i]?
 |_,[],i=>rfl
 | k,x::xs,0=>by
  rw[kvI]
  exact af0 (p:=(Sum.inl (k:Int),x)) rfl
 | k,x::xs,i+1=>by
  have e:¬ ((Sum.inl (k:Int):Key)=Sum.inl ((k+(i+1):Nat):Int)):=λe=>by have:=Sum.inl.inj e;lia
  rw[kvI]
  show valV ((Sum.inl (k:Int),x)::dkOf (kvI (k+1) xs)) _=_
  rw[af1 (p:=(Sum.inl (k:Int),x)) e,aI1,← ap1 (k+1) xs i,show k+1+i=k+(i+1) by lia]
@[reducible] def kvD (ds:List PyData):List (Key × PyData):=(kvI 0 ds).map λp=>(.inl p.1,p.2)
theorem anl:∀(k:Nat)(xs:List PyData)(i:Nat),valD ((kvI k xs).map λp=>((.inl p.1:Key),p.2)) (.inl ((k+i:Nat):Int))=xs[i]?
 |_,[],i=>rfl
 |k,x::xs,0=>by simp[kvI,valD]
 | k,x::xs,i+1=>by
  have e:¬ ((k:Int)=((k+(i+1):Nat):Int)):=λe=>by lia
  rw[kvI,aI1,← anl (k+1) xs i,show k+1+i=k+(i+1) by lia]
  simp only[valD,aD1,List.find?_cons]
  rw[aD7 (λz:(Sum.inl (k:Int):Key)=Sum.inl ((k+(i+1):Nat):Int)=>e (Sum.inl.inj z))]
theorem ap2{xs:List PyData}{i:Int}{d:PyData}(a:0<=i)(h:xs[i.toNat]?=some d):valD (kvD xs) (.inl i)=some d:=by
 have:=anl 0 xs i.toNat
 rw[show((0+i.toNat:Nat):Int)=i by lia] at this
 exact this.trans h
theorem anm{xs:List PyData}(h:xs ≠ []):kvD xs ≠ []:=by
 cases xs with
 |nil=>exact absurd rfl h
 |cons x xs=>exact List.cons_ne_nil _ _
def ODL(dss:List (List PyData)):Own where
 P:=λG H v F=>∃(a:Addr)(as:List Addr),v=.ref a/\H a=some (.dK (dkOf (kvI 0 (as.map V.ref))))/\as.Nodup/\a ∉ as/\as.length=dss.length/\(∀(i:Nat) b ds,as[i]?=some b->dss[i]?=some ds->∃ vs,H b=some (.lst vs)/\Rps G vs ds)/\∀ b,F b ↔ b=a\/b∈as
 mono:=λ⟨a,as,e,h,n1,n2,l,r,f⟩ g hh=>⟨a,as,e,hh a _ ((f a).mpr (.inl rfl)) h,n1,n2,l,λi b ds hb hd=>by
  obtain⟨vs,h1,h2⟩:=r i b ds hb hd
  exact⟨vs,hh b _ ((f b).mpr (.inr (aA2 hb))) h1,h2.same g⟩,f⟩
 dom:=λ⟨a,as,e,h,n1,n2,l,r,f⟩ b z=>by
  rcases(f b).mp z with rfl|z
  ·exact⟨_,h⟩
  ·obtain⟨i,hi,e⟩:=aH6.mp z
   have hb:as[i]?=some b:=by rw[aA0 hi,e]
   obtain⟨vs,h1,_⟩:=r i b _ hb (aA0 (by rw[← l];exact hi))
   exact⟨_,h1⟩
theorem at7{G:Hp}:∀(k:Nat){vs:List V}{ds:List PyData},vs.length=ds.length->(∀(i:Nat) v d,vs[i]?=some v->ds[i]?=some d->Rp G v d)->RpK G (dkOf (kvI k vs)) ((kvI k ds).map λp=>(.inl p.1,p.2))
 |_,[],[],_,_=>.nil
 |_,[],_::_,h,_=>by simp at h
 |_,_::_,[],h,_=>by simp at h
 |k,v::vs,d::ds,h,q=>.cons (q 0 v d rfl rfl) (at7 (k+1) (by simpa using h) λi v d b a=>q (i+1) v d (by simpa using b) (by simpa using a))
theorem ap3{c:List (List PyData)}:Frz (ODL c) (abg (kvD (c.map .list))):=λG H v F ⟨a,as,e,h,p,q,l,r,f⟩ n g=>by
 subst e
 refine .dk (by rw[ae8 ((f a).mpr (.inl rfl))];exact h) (at7 0 (by simp[l]) λi u d j hd=>?_) rfl
 rw[aA5] at j hd
 cases hb:as[i]? with
 |none=>rw[hb] at j;cases j
 | some b =>
  cases hds:c[i]? with
  |none=>rw[hds] at hd;cases hd
  | some ds =>
   rw[hb] at j;rw[hds] at hd
   cases j;cases hd
   obtain⟨vs,m,o⟩:=r i b ds hb hds
   exact .lst (by rw[ae8 ((f b).mpr (.inr (aA2 hb)))];exact m) (o.same (abv n))
section
variable{B:Bs}{env:En}{QO:Sl->En->Prop}{Q':PyData->En->Prop}{D':VEnds}{K:Frag}{i:Nat}
theorem at8{src:List (Option Nat)}{wi:TI}(h:EvI B wi env λds e1=>∃ n:Nat,ds=rngD 0 n/\n<=3000/\QO (.own (ODL (List.replicate n []))) e1) :
  EvO B (tCB at5 (abb (tLC (none::src) wi (abi 0) tYes (tTup (abb (tVar 0) (abb (tLst tNil) tNil)))) tNil)) env QO:=λσ G H F Q I k=>by
 refine h σ G H F _ I λJ G1 U F1 ds e1 X g1 it ⟨N,ed,a7,q⟩ d r=>?_
 subst ed
 have hL:(rngD 0 N).length=N:=adb
 let W:Nat->List V->St->Hp->Prop:=λn ys σI H=>∃(K as:List Addr)(s:Hp),ys=K.map V.ref/\K.length=n/\as.length=n/\as.Nodup/\d ∉ as/\0<σI.length /\
  (∀(i:Nat) t b,K[i]?=some t->as[i]?=some b->H t=some (.tup [.int (i:Int),.ref b]))/\(∀ t∈K,U t=none/\t ≠ d/\t ∉ as) /\
  (∀ b∈as,U b=none/\s b=none/\H b=some (.lst []))/\H d=some (.lst ys)/\s d=none/\Same G1 s/\Same s H/\Same U H/\(∀ a o,s a=some o->G1 a=some o\/U a=none)/\FT s H
 refine⟨λn m ys σI H=>m=N-n/\n<=N/\W n ys σI H,⟨N,by simp,aG0 _,[],[],G1,rfl,rfl,rfl,List.nodup_nil,by simp,by simp[pick],λi t b h=>by simp at h,λt A=>by simp at A,λb hb=>by simp at hb,aaf,X.no_g r,Same.refl _,X.gh.trans (abj r),abj r,λa o e=>.inl e,λa ks e=>?_⟩,?_⟩
 ·by_cases z:a=d
  ·subst z;rw[aaf] at e;cases e
  ·rw[aae z] at e;exact X.ft a ks e
 rintro n m ys σI H2 ⟨rfl,hn,K,as,s,rfl,hl,L,nd,na,a2,C,a0,all,l,ga,T,M,E,Z,O⟩
 refine⟨l,?_⟩
 by_cases hlt:n<N
 ·refine .inr ⟨it.go n s H2 T M (by lia),λa1 Y H'=>W (n+1) a1 Y H',λa1 Y H' hw=>⟨N-(n+1),by lia,rfl,hlt,hw⟩,λx H3 y=>?_⟩
  obtain⟨G3,o⟩:=it.yld n s H2 x H3 (.int (0+(n:Int))) T M O (by unfold rngD;rw[aA5,List.getElem?_range hlt];rfl) y
  have rx:=o.ok.1
  cases rx
  refine aft (agn (acl (asv (afu (aml (v:=.int (0+(n:Int))) (by rw[aD2,aF5 rfl,aF5 a2]) (afu (asw (aeu ⟨by decide,λp g=>aeu ⟨show(2:Nat)<=sizeLine by rw[sizeLine_eq];decide,λt A=>?_⟩⟩))))))))
  have n2:H2 p=none:=aaz o.hh g
  have n1:U p=none:=aaz E n2
  have tp:t ≠ p:=λe=>by rw[e,aaf] at A;cases A
  rw[aae tp] at A
  have t2:H2 t=none:=aaz o.hh A
  have t1:U t=none:=aaz E t2
  have pa:p ≠ d:=(aao (o.hh _ _ l) g).symm
  have ta:t ≠ d:=(aao (o.hh _ _ l) A).symm
  have a3:p ∉ as:=λz=>by
   have:=o.hh _ _ (all p z).2.2
   rw[this] at g;cases g
  have a6:t ∉ as:=λz=>by
   have:=o.hh _ _ (all t z).2.2
   rw[this] at A;cases A
  have old:∀ a u,H2 a=some u->a ≠ d->upd (upd (upd H3 p (.lst [])) t (.tup [.int (0+(n:Int)),.ref p])) d (.lst (K.map V.ref++[.ref t])) a=some u:=λa u e aa=>by
   have e3:=o.hh _ _ e
   rw[aae aa,aae (aao e3 A),aae (aao e3 g)]
   exact e3
  have a4:∀ c∈K,∃ u,H2 c=some u:=λc f=>by
   obtain⟨i,hi,e⟩:=aH6.mp f
   have S:K[i]?=some c:=by rw[aA0 hi,e]
   exact⟨_,C i c _ S (aA0 (by lia))⟩
  refine⟨by rw[aae ta.symm,aae pa.symm];exact o.hh _ _ l,by rw[aA3,hl];exact big (by lia),K++[t],as++[p],G3,by simp,by simp[hl],by simp[L],?_,?_,by rw[List.length_set];exact a2,λi c b f hb=>?_,λc f=>?_,λb hb=>?_,aaf,?_,T.trans o.gg,λa u e=>?_,λa u e=>?_,λa u e=>?_,λa ks e=>?_⟩
  ·rw[aE7]
   exact⟨nd,by simp,λx hx y hy=>by simp at hy;subst hy;intro e;subst e;exact a3 hx⟩
  ·intro z
   rcases aA7.mp z with z|z
   ·exact na z
   ·exact pa (aC2.mp z).symm
  ·by_cases hi:i<n
   ·rw[aC3 (by lia)] at f hb
    have R:=C i c b f hb
    exact old c _ R (a0 c (aA2 f)).2.1
   ·have a5:i=n:=by
     have:=(aA1.mp f).1
     simp at this
     lia
    subst a5
    rw[aC8 (by lia),hl,aI7] at f
    rw[aC8 (by lia),L,aI7] at hb
    cases f
    cases hb
    rw[aae ta,aaf,Int.zero_add]
  ·rcases aA7.mp f with f|f
   ·obtain⟨S,R,h3⟩:=a0 c f
    refine⟨S,R,λz=>?_⟩
    rcases aA7.mp z with z|z
    ·exact h3 z
    ·have e:=aC2.mp z
     subst e
     obtain⟨u,e⟩:=a4 c f
     rw[e] at n2;cases n2
   ·have e:=aC2.mp f
    subst e
    refine⟨t1,ta,λz=>?_⟩
    rcases aA7.mp z with z|z
    ·exact a6 z
    ·exact tp (aC2.mp z)
  ·have gb:∀ b,s b=none->(∃ u,H2 b=some u)->G3 b=none:=λb S z_=>by
    obtain⟨u,R⟩:=z_
    cases e:G3 b with
    |none=>rfl
    | some w =>
     rcases o.gn b w e with e|e
     ·rw[S] at e;cases e
     ·rw[R] at e;cases e
   rcases aA7.mp hb with hb|hb
   ·obtain⟨S,R,h3⟩:=all b hb
    exact⟨S,gb b R ⟨_,h3⟩,old b _ h3 (λz:b=d=>na (by rw[← z];exact hb))⟩
   ·have e:b=p:=by simpa using hb
    subst e
    exact⟨n1,aaz o.gh g,by rw[aae pa,aae tp.symm,aaf]⟩
  ·cases e:G3 d with
   |none=>rfl
   | some w =>
    rcases o.gn d w e with e|e
    ·rw[ga] at e;cases e
    ·rw[l] at e;cases e
  ·have ap:a ≠ p:=aao (o.gh a u e) g
   have at':a ≠ t:=aao (o.gh a u e) A
   have aa:a ≠ d:=by
    rintro rfl
    rcases o.gn _ u e with e|e
    ·rw[ga] at e;cases e
    ·rw[l] at e;cases e
   rw[aae aa,aae at',aae ap];exact o.gh a u e
  ·exact old a u (E a u e) (aao e r)
  ·rcases o.gn a u e with e|e
   ·exact Z a u e
   ·exact .inr (aaz E e)
  ·by_cases z:a=d
   ·subst z;rw[aaf] at e;cases e
   ·rw[aae z] at e
    by_cases y:a=t
    ·subst y
     rw[aaf] at e
     exfalso
     have e:=HO.tup.inj (aC6 e)
     match ks,e with
     |[],e=>simp at e
     |[_],e=>simp at e
     |[_,.inl _],e=>simp[kV] at e
     |[_,.inr _],e=>simp[kV] at e
     |_::_::_::_,e=>simp at e
    ·rw[aae y] at e
     by_cases y:a=p
     ·subst y;rw[aaf] at e;cases e
     ·rw[aae y] at e;exact o.ft O a ks e
 ·have e:n=N:=by lia
  subst e
  refine .inl ⟨it.stop _ s H2 T M hL.symm,?_⟩
  have P:=X.grow T M E Z O
  have ke:(kvI 0 (as.map V.ref)).length=n:=by rw[apz,aA3];exact L
  refine aeu ⟨d,K,kvI 0 (as.map V.ref),rfl,l,by lia,by lia,(aks 0 _).1,λi c kv f D=>?_,λp g=>?_⟩
  ·rw[ap0,aA5] at D
   cases hb:as[i]? with
   |none=>rw[hb] at D;cases D
   | some b =>
    rw[hb] at D
    cases D
    rw[Nat.zero_add]
    exact C i c b f hb
  ·have J:=P.aside (p:=p) (o:=.dK (dkOf (kvI 0 (as.map V.ref)))) (λ_ z=>nomatch z) (P.no_g g) (λj z=>P.no_f g j z) (P.no_b g)
   have pn:p ∉ as:=λz=>by have:=(all p z).2.2;rw[this] at g;cases g
   refine k (.ref p) s _ F1 (λb=>b=p\/b∈as) (.own (ODL (List.replicate n []))) e1 J (g1.trans T) ⟨⟨p,as,rfl,aaf,nd,pn,by simp[L],λi b a8 hb hd=>?_,λb=>Iff.rfl⟩,λb z=>?_,λb z=>?_,λb z=>?_,λj b z y=>?_⟩ q
   ·rw[aH7] at hd
    split at hd
    ·cases hd
     have hm:=aA2 hb
     exact⟨[],by rw[aae (λz:b=p=>pn (z ▸ hm))];exact(all b hm).2.2,.nil⟩
    ·cases hd
   ·rcases z with rfl|z
    ·exact P.no_b g
    ·exact X.no_b (all b z).1
   ·rcases z with rfl|z
    ·exact P.no_g g
    ·exact(all b z).2.1
   ·rcases z with rfl|z
    ·exact⟨_,aaf⟩
    ·exact⟨_,by rw[aae (λe:b=p=>pn (e ▸ z))];exact(all b z).2.2⟩
   ·rcases z with rfl|z
    ·exact P.no_f g j y
    ·exact X.no_f (all b z).1 j y
theorem ai3{d:List (List PyData)}{l j n:Nat}{k:Int}{y:PyData}{ds:List PyData}(e:env[i]?=some (some (.own (ODL d))))(ek:env[l]?=some (some (.st (.int k))))(S:env[j]?=some (some (.st y)))
  (W:(n:Int)=k) (hd:d[n]?=some ds) (hl:ds.length<=999999) (q:Q' .none (env.set i (some (.own (ODL (d.set n (ds++[y]))))))):Ev B (tBM K "list" aej (alo (tVar i) (tVar l)) (abb (tVar j) tNil)) env Q':=λσ G H F Q I Y=>by
 obtain⟨v,L,⟨a,as,rfl,h,E,N,ln,r,f⟩,_⟩:=I.sl i _ e
 obtain⟨vk,C,rk,_⟩:=I.sl l _ ek
 obtain⟨vy,w,U,_⟩:=I.sl j _ S
 cases rk
 have hn:n<d.length:=(aA1.mp hd).1
 have hb:as[n]?=some (as[n]'(by lia)):=aA0 _
 generalize as[n]'(by lia)=b at hb
 have s:b∈as:=aA2 hb
 obtain⟨vs,M,O⟩:=r n b ds hb hd
 have D:valV (dkOf (kvI 0 (as.map V.ref))) (.inl k)=some (.ref b):=by
  have:=ap1 0 (as.map V.ref) n
  rw[Nat.zero_add,W,aA5,hb] at this
  exact this
 refine⟨_,L,_,C,a,.ref b,rfl,.inl ⟨_,.inl k,.inl h,rfl,D.symm⟩,.inl ⟨rfl,_,SqL.of M⟩,_,w,ae5 M (by rw[O.length];exact big (by lia)) ?_⟩
 have x:a ≠ b:=λz=>N (z ▸ s)
 have J:=I.change (A:=ODL (d.set n (ds++[y]))) (H2:=upd H b (.lst (vs++[vy]))) (F2:=F i) (os':=.own (ODL (d.set n (ds++[y])))) i e L (λc o p u=>by rw[aae (λz:c=b=>p ((f c).mpr (.inr (by rw[z];exact s))))];exact u)
  (λc o u=>by
   by_cases z:c=b
   ·rw[z];exact⟨_,aaf⟩
   ·rw[aae z];exact⟨o,u⟩)
  (λc z=>⟨.inl z,by
   by_cases y:c=b
   ·rw[y];exact⟨_,aaf⟩
   ·rw[aae y];exact I.fo i c z⟩) ?_ (λc ks e=>by
   by_cases z:c=b
   ·subst z;rw[aaf] at e;cases e
   ·rw[aae z] at e;exact I.ft c ks e) (.inl ⟨rfl,_,rfl⟩)
 ·exact Y _ G _ _ _ _ J (Same.refl _) .non q
 ·refine⟨a,as,rfl,by rw[aae x];exact h,E,N,by simp[ln],λm c es p g=>?_,f⟩
  by_cases hm:m=n
  ·subst hm
   rw[hb] at p;cases p
   rw[aD2,aF5 rfl,aF5 hn] at g
   cases g
   exact⟨_,aaf,O.append (.cons U .nil)⟩
  ·rw[aD2,aF6 (λz=>hm z.symm)] at g
   obtain⟨us,h3,P⟩:=r m c es p g
   refine⟨us,?_,P⟩
   rw[aae]
   ·exact h3
   ·rintro rfl
    have i1:=(aA1.mp hb)
    have Z:=(aA1.mp p)
    obtain⟨R,T⟩:=i1
    obtain⟨X,e2⟩:=Z
    exact hm (nodup_ix E X R (e2.trans T.symm))
end
end VL
namespace DictL
open PySem PyProof.Rows
section
variable{prog:Program}{w:World}{A:Around}{R:Result->Shared->Prop}{I:Addr}{fp wr:List Addr}{n:Nat}{P:Nat->Value->Prop}{St:Nat->Heap->Prop}{K:Type} [DecidableEq K] {knd:HeapKind prog w K}
theorem arn(W:Walks prog w A.in1 I fp wr n P St)(S:Addr)(B:S ∉ fp)(hu:knd.room A.in1)(T:Heap)(p:Nat->K)(F:Nat->Addr)(val:Nat->Value)(tup:Nat->Addr)(g:Nat->List (K × Addr × Value))(hk:∀ i,g (i+1)=storedH (g i) (p i) (F i) (val i))(hz:∀ i,i<=n->(g i).length<=sizeLine)
  (hP:∀ i v,P i v->v=.ref (tup i)) (C:∀ i x,x∈g i->∃ j,j<i/\x.1=p j/\x.2.1=F j) (q:∀ i,i<n->tup i ≠ S/\tup i ∉ wr) (l:∀ h',(∀ b o,b ≠ S->b ∉ wr->T.get? b=some o->h'.get? b=some o)->∀ i,i<n->knd.is h' (p i) (F i)) :
  ∀(k i:Nat)(s:Shared),n-i=k->i<=n->St i s.heap->(∀ b o,b ≠ S->b ∉ wr->T.get? b=some o->s.heap.get? b=some o)->(∀ j,i<=j->j<n->s.heap.IsTuple (tup j) #[.ref (F j),val j])->s.heap.DictOfH knd S (g i)->
   (∀ h' H,h'.DictOfH knd S (g n)->(∀ b o,b ≠ S->b ∉ wr->s.heap.get? b=some o->h'.get? b=some o)->R (.ok (.ret .none)) { s with heap:=h',toks:=H }) ->
   codeAny (model prog w) A (.builtin "dict.update.loop" ⟨[.ref S,.ref I,rawInt i,.none],[]⟩) R s:=by
 have L:S ∉ wr:=λh=>B (W.sub _ h)
 have u:∀(h h':Heap)(i:Nat),i<=n->(∀ b o,b ≠ S->b ∉ wr->T.get? b=some o->h'.get? b=some o)->h.DictOfH knd S (g i)->(∀ b o,b ∉ wr->h.get? b=some o->h'.get? b=some o)->h'.DictOfH knd S (g i):=λh h' i hi c G hm=>by
  obtain⟨o,es,ep,y,g1,g2,g3,_,g5⟩:=G
  refine⟨o,es,ep,hm S o L y,g1,g2,g3,λx hx=>?_,g5⟩
  obtain⟨j,hj,e1,e2⟩:=C i x hx
  rw[e1,e2]
  exact l h' c j (by lia)
 intro k
 induction k with
 | zero =>
  intro i s a1 hi m c X G N
  have M:i=n:=by lia
  subst M
  refine aK8 aeh ?_
  rw[aK2 acd _]
  show wpAny _ A.in1 (pyNext (.ref I) >>= _) _ _ s
  refine aJ1 (W.done s _ _ m λh' H hm=>?_)
  dsimp only
  unfold Builtin.Dict.addKeywords
  refine aJ1 (aJ1 (aJ2 (aJ2 ?_)))
  refine aJ2 ?_
  exact N h' H (u _ _ _ (aA6 _) (λb o d a e=>hm b o a (c b o d a e)) G hm) λb o _ hb e=>hm b o hb e
 | succ k ih =>
  intro i s a1 hi m c X G N
  have f:i<n:=by lia
  refine aK8 aeh ?_
  rw[aK2 acd _]
  show wpAny _ A.in1 (pyNext (.ref I) >>= _) _ _ s
  refine aJ1 (W.item i s _ _ f m λv h' H J D hm=>?_)
  have ev:=hP i v J
  subst ev
  dsimp only
  have a2:h'.IsTuple (tup i) #[.ref (F i),val i]:=by
   obtain⟨o,y,r⟩:=X i (aA6 _) f
   exact⟨o,hm _ o (q i f).2 y,r⟩
  have U:h'.DictOfH knd S (g i):=u _ _ _ hi (λb o d a e=>hm b o a (c b o d a e)) G hm
  refine aJ1 (aJ7 ?_)
  refine aJ1 (apw a2 ?_)
  dsimp only
  refine aJ7 (wpAny_dictSet_heap hu (l h' (λb o d a e=>hm b o a (c b o d a e)) i f) U (λh2 O E=>?_) (hz i hi))
  have keep:∀ b o,b ≠ S->b ∉ wr->s.heap.get? b=some o->h2.get? b=some o:=λb o d a e=>by rw[E.2 b d];exact hm b o a e
  refine aJ2 ⟨plainId_quiet acd _,ih (i+1) _ (by lia) f ?_ ?_ ?_ (by rw[hk];exact O) ?_⟩
  ·exact W.frame _ _ _ D λb hb o e=>by rw[E.2 b (λz:b=S=>B (by rw[← z];exact hb))];exact e
  ·exact λb o d a e=>keep b o d a (c b o d a e)
  ·intro j j1 Z
   obtain⟨o,y,r⟩:=X j (by lia) Z
   exact⟨o,keep _ o (q j Z).1 (q j Z).2 y,r⟩
  ·intro h3 Y Q a0
   exact N h3 Y Q λb o d a e=>a0 b o d a (keep b o d a e)
theorem call_dict_listH{E:Value->Shared->Prop}{s:Shared}{l:Addr}{items:Array Value}{nl:Nat}{Q:Value->Shared->Prop}(U:knd.room A.in1.in1)(a:Nat->K)(C:Nat->Addr)(val:Nat->Value)(tup:Nat->Addr)(n:Nat->List (K × Addr × Value))(S:n 0=[])(R:∀ i,n (i+1)=storedH (n i) (a i) (C i) (val i))(hz:∀ i,i<=items.size->(n i).length<=sizeLine)(B:∀ i x,x∈n i->∃ j,j<i/\x.1=a j/\x.2.1=C j)
  (hh:A.handled=none) (u:s.heap.get? l=some { cls:=.type "list",data:=.seq items nl }) (Y:∀ i v,items[i]?=some v->v=Value.ref (tup i)) (O:∀ j,j<items.size->s.heap.IsTuple (tup j) #[.ref (C j),val j]) (H:∀ h',(∀ b o,s.heap.get? b=some o->h'.get? b=some o)->∀ i,i<items.size->knd.is h' (a i) (C i))
  (h:∀(h':Heap)(I:Nat),h'.DictOfH knd s.heap.objs.size (n items.size)->(∀ b o,s.heap.get? b=some o->h'.get? b=some o)->Q (.ref s.heap.objs.size) { s with heap:=h',toks:=I }) :
  wpAny (model prog w) A (call (.type "dict") [.ref l]) Q E s:=by
 refine callType_codes (Q₁:=λobj c=>obj=.ref s.heap.objs.size/\c={ s with heap:=s.heap.push { cls:=.type "dict",data:=.dict #[] } }) F.kt_called_dict (F.kt_typeCall_dict_1 _) F.entry_dict_init (kt_code_dict_new (.ref l) ⟨rfl,rfl⟩) λobj c y=>?_
 obtain⟨rfl,rfl⟩:=y
 have P:(s.heap.push { cls:=.type "dict",data:=.dict #[] }).get? s.heap.objs.size=some { cls:=.type "dict",data:=.dict #[] }:=aJ5 _ rfl
 refine⟨⟨_,P,rfl⟩,F.args_dict_init_2 _ _,?_⟩
 have f:(s.heap.push { cls:=.type "dict",data:=.dict #[] }).get? l=some { cls:=.type "list",data:=.seq items nl }:=aJ3 _ u
 have X:(Value.type "list" == Value.type "dict")=false:=by decide
 unfold Builtin.«dict.__init__» Builtin.Dict.updateCommon Builtin.Dict.updateFrom
 obtain⟨m,g,d,I,os⟩:=s
 dsimp only at *
 generalize hPI:pyIter=PI
 generalize hGA:getAttr?=GA
 wp_walk
 subst hGA hPI
 refine apx (s:={ heap:=m.push { cls:=.type "dict",data:=.dict #[] },gens:=g,drawn:=d,toks:=I,os:=os }) f hh λp N k1=>?_
 rw[aF5 (show(none:Option Value).isNone=true from rfl)]
 refine aJ1 (wpAny_rule ?_)
 have G:p.IsList l items:=⟨_,k1 _ _ f,rfl,nl,rfl⟩
 have D:l<m.objs.size:=aJ4 u
 have z:=k1 _ _ P
 have hsz:m.objs.size<p.objs.size:=aJ4 z
 refine aJ1 (aK6 (s:={ heap:=p,gens:=g,drawn:=d,toks:=N,os:=os }) G ?_)
 refine aJ2 ⟨plainId_quiet acd _,?_⟩
 have q:l ≠ p.objs.size:=aB6 (Nat.lt_trans D hsz)
 have M:m.objs.size ∉ [p.objs.size,l]:=by
  simp only[aA9,aI4,or_false,not_or]
  exact⟨aB6 hsz,Nat.ne_of_gt D⟩
 have tl:∀ j,j<items.size->tup j<m.objs.size:=λj J=>let ⟨_,e,_⟩:=O j J;aJ4 e
 refine arn (A:=A.in1) (knd:=knd) (Walks.list (A:=A.in1.in1) hh p.objs.size l q items) m.objs.size M U m a C val tup n R hz Y B (λi hi=>⟨aB6 (tl i hi),by simp only[aC2];exact aB6 (Nat.lt_trans (tl i hi) hsz)⟩)
  (λh' W=>H h' λb o e=>W b o (aB6 (aJ4 e)) (by simp only[aC2];exact aB6 (Nat.lt_trans (aJ4 e) hsz)) e) (items.size-0) 0 _ (by lia) (aG0 _)
  ⟨⟨_,aJ5 _ rfl,rfl,rfl⟩,G.push _⟩ (λb o _ _ e=>aJ3 _ (k1 _ _ (aJ3 _ e))) (λj _ J=>?_) ?_ λh' L Z kp=>?_
 ·obtain⟨o,e,r⟩:=O j J
  exact⟨o,aJ3 _ (k1 _ _ (aJ3 _ e)),r⟩
 ·rw[S]
  exact⟨_,#[],0,aJ3 _ z,⟨rfl,rfl,rfl⟩,rfl,rfl,λx T=>by simp at T,List.nodup_nil⟩
 ·refine⟨rfl,h h' L Z λb o e=>kp b o (aB6 (aJ4 e)) (by simp only[aC2];exact aB6 (Nat.lt_trans (aJ4 e) hsz)) (aJ3 _ (k1 _ _ (aJ3 _ e)))⟩
end
end DictL
namespace L2
open PySem PySem.W PyProof.Rows
def ads(kvs:List (List Key × Addr × V)):List (List Key × V):=kvs.foldl (λacc kv=>putK acc kv.1 kv.2.2) []
def at9:List V->Hp->VK->Prop:=λxs H Q=>∃(a:Addr)(ts:List Addr)(kvs:List (List Key × Addr × V)),xs=[.ref a]/\H a=some (.lst (ts.map V.ref))/\ts.length=kvs.length/\kvs.length<40000 /\
 (∀(i:Nat) t kv,ts[i]?=some t->kvs[i]?=some kv->H t=some (.tup [.ref kv.2.1,kv.2.2])/\H kv.2.1=some (.tup (kv.1.map kV)))/\∀ p,H p=none->Q (.ref p) (upd H p (.dT (ads kvs)))
section
variable{K:Type} [DecidableEq K]
def kfH(key:Nat->K)(ka:Nat->Addr)(val:Nat->Value):Nat->List (K × Addr × Value)
 |0=>[]
 |i+1=>storedH (kfH key ka val i) (key i) (ka i) (val i)
theorem aro(xs:List (K × Addr × Value))(k:K)(a:Addr)(v:Value):(storedH xs k a v).length<=xs.length+1:=by
 unfold storedH
 split
 ·rw[aA3];lia
 ·simp
theorem aju(a:Nat->K)(b:Nat->Addr)(val:Nat->Value):∀ i,(kfH a b val i).length<=i
 |0=>aA6 _
 |i+1=>aD0 (aro _ _ _ _) (Nat.succ_le_succ (aju a b val i))
theorem ap4(a:Nat->K)(b:Nat->Addr)(val:Nat->Value):∀ i x,x∈kfH a b val i->∃ j,j<i/\x.1=a j/\x.2.1=b j
 |0,x,h=>by cases h
 | i+1,x,h=>by
  have f:=ap4 a b val i
  change x∈storedH (kfH a b val i) (a i) (b i) (val i) at h
  unfold storedH at h
  split at h
  ·obtain⟨y,l,rfl⟩:=aB7.mp h
   obtain⟨j,g,c,d⟩:=f y l
   refine⟨j,by lia,?_⟩
   unfold putAt
   split
   ·exact⟨c,d⟩
   ·exact⟨c,d⟩
  ·rcases aA7.mp h with h|h
   ·obtain⟨j,g,e⟩:=f x h
    exact⟨j,by lia,e⟩
   ·have:x=(a i,b i,val i):=by simpa using h
    subst this
    exact⟨i,by lia,rfl,rfl⟩
end
theorem aoo{kvs:List (List Key × Addr × V)}{a:List Key × Addr × V}:ads (kvs++[a])=putK (ads kvs) a.1 a.2.2:=by unfold ads;rw[List.foldl_append];rfl
section
variable{X:Cx}
theorem arp(U:X.calm=true)(F:X.A.units+64<cLine):aa2 X (.type "dict") at9:=by
 intro pins s σ H xs us Q I r h
 obtain⟨a,c,kvs,rfl,ha,K,h4,B,q⟩:=h
 obtain⟨u,rfl,G⟩:=ab3 r
 cases G
 obtain⟨hz,its,nl,L,e⟩:=(show ObjOk X.prog X.w H s.heap a (.lst (c.map V.ref)) from I.hok a _ ha)
 have l:its.length=c.length:=by have:=L.length;rw[aA3] at this;lia
 have z:∀{i},i<c.length->c[i]?=some (c.getD i 0):=λ{i} hi=>by rw[aD4,aA0 hi];rfl
 have x:∀{i},i<c.length->kvs[i]?=some (kvs.getD i ([],0,.non)):=λ{i} hi=>by rw[aD4,aA0 (show i<kvs.length by lia)];rfl
 obtain⟨d,g⟩:∃ d:Nat->List Key × Addr × V,d=λi=>kvs.getD i ([],0,.non):=⟨_,rfl⟩
 have D:∀ i:Nat,∃ p:Value,i<c.length->s.heap.IsTuple (c.getD i 0) #[.ref (d i).2.1,p]/\RelV (d i).2.2 p:=λi=>by
  by_cases hi:i<c.length
  ·obtain⟨h1,J⟩:=B i _ _ (z hi) (x hi)
   obtain⟨_,S,n,p2⟩:=(show ObjOk X.prog X.w H s.heap _ (.tup _) from I.hok _ _ h1)
   cases n with
   | cons r1 n =>
    cases n with
    | cons n r3 =>
     cases r3
     cases r1
     exact⟨_,λ_=>⟨by rw[g];exact p2,by rw[g];exact n⟩⟩
  ·exact⟨.none,λh=>absurd h hi⟩
 obtain⟨f,hf⟩:=Classical.skolem.mp D
 have E:∀ i,i<=c.length->KT H (ads (kvs.take i)) (kfH (λi=>(d i).1) (λi=>(d i).2.1) f i):=λi=>by
  induction i with
  |zero=>intro _;exact .nil
  | succ i ih =>
   intro hi
   have R:kvs.take (i+1)=kvs.take i++[d i]:=by rw[aH4,x (by lia),g];rfl
   rw[R,aoo]
   refine(ih (by lia)).put _ ?_ (hf i (by lia)).2
   rw[g]
   exact(B i _ _ (z (by lia)) (x (by lia))).2
 refine DictL.call_dict_listH (knd:=tupleKind (aa4 X.prog X.w)) (items:=its.toArray) (nl:=nl) (tupleKind_room_in1 (by show X.A.units+1+1<cLine;lia)) (λi=>(d i).1) (λi=>(d i).2.1) f (λi=>c.getD i 0) (kfH (λi=>(d i).1) (λi=>(d i).2.1) f) rfl (λi=>rfl) (λi hi=>aD0 (aju _ _ _ i) (aD0 hi (by rw[sizeLine_eq];simp;lia))) (ap4 _ _ _)
  (I.ok.hd U) e (λi v y=>?_) (λj Z=>(hf j (by simpa[l] using Z)).1) (λh' kp i hi=>?_) λh' Y N kp=>?_
 ·have y:its[i]?=some v:=by simpa using y
  have hi:=(aA1.mp y).1
  have e1:(c.map V.ref)[i]?=some (.ref (c.getD i 0)):=by rw[aA5,z (by lia)];rfl
  obtain⟨u,F,G⟩:=L.get e1
  rw[y] at F
  cases F
  exact G
 ·have hi:i<c.length:=by simpa[l] using hi
  have J:=(B i _ _ (z hi) (x hi)).2
  rw[g]
  exact aes (I.hok.kept kp) J
 ·have hsz:its.toArray.size=c.length:=by simp[l]
  rw[hsz] at N
  have C:=E c.length (aA6 _)
  rw[K,aG8,← K] at C
  have m:=I.hok.fresh (a:=s.heap.objs.size) (aA6 _)
  refine⟨.ref s.heap.objs.size,_,I.laid (t':=Y) (o:=.dT (ads kvs)) kp (aA6 _) ?_,rfl,q _ m⟩
  obtain⟨T,es,ep,P,b1,O,b3,_,W⟩:=N
  refine⟨?_,beq_eq_false_iff_ne.mpr (Ne.symm (aB6 I.big)),_,C.keeps λb ys M=>?_,T,es,ep,P,b1,O,b3,W⟩
  ·have:=C.length
   rw[this,sizeLine_eq]
   exact aD0 (aju _ _ _ _) (by lia)
  ·rw[aae (aao M m)]
   exact M
end
end L2
namespace VL
open PySem PySem.Spec L2
theorem ap5{G:Hp}{as:List Addr}:∀{es:List (Int × Int)}{kvs:List (List Key × V)}{ps:List (Int × Int)},RpT G kvs (kE ps)->∀(as:List Addr),as.length=es.length ->
  RpT G ((es.zip as).foldl (λb x=>putK b [Sum.inl x.1.1,Sum.inl x.1.2] (.bl true)) kvs) (kE (es.foldl addP ps))
 |[],_,_,h,as,_=>by simpa using h
 |e::es,kvs,ps,h,[],hl=>by simp at hl
 | e::es,kvs,ps,h,a::as,hl=>by
  rw[List.zip_cons_cons,List.foldl_cons,List.foldl_cons]
  refine ap5 (as:=as) ?_ as (by simpa using hl)
  obtain⟨x,y⟩:=e
  rw[← agx]
  exact h.put (.bl true)
section
variable{B:Bs}{env:En}{QO:Sl->En->Prop}
theorem aua{src:List (Option Nat)}{wi:TI}(h:EvI B wi env λds T=>∃ es:List (Int × Int),ds=es.map prD/\es.length<=30000/\QO (.own (OT (kE (es.foldl addP [])))) T) :
  EvO B (tCB at9 (abb (tLC (none::src) wi (abi 0) tYes (tTup (abb (tVar 0) (abb (tC (V.bl true)) tNil)))) tNil)) env QO:=λσ G H F Q I k=>by
 refine h σ G H F _ I λJ G1 H1 F1 ds T I1 g1 it ⟨es,ed,a2,q⟩ f j=>?_
 subst ed
 have hL:(es.map prD).length=es.length:=aA3 ..
 let W:Nat->List V->St->Hp->Prop:=λn ys σI H=>∃(A as:List Addr)(s:Hp),ys=A.map V.ref/\A.length=n/\as.length=n/\0<σI.length /\
  (∀(i:Nat) t b p,A[i]?=some t->as[i]?=some b->es[i]?=some p->H t=some (.tup [.ref b,.bl true])/\s b=some (.tup [.int p.1,.int p.2]))/\(∀ t∈A,t ≠ f) /\
  H f=some (.lst ys)/\s f=none/\Same G1 s/\Same s H/\Same H1 H/\(∀ a o,s a=some o->G1 a=some o\/H1 a=none)/\FT s H
 refine⟨λn m ys σI H=>m=es.length-n/\n<=es.length/\W n ys σI H,⟨es.length,by simp,aG0 _,[],[],G1,rfl,rfl,rfl,by simp[pick],λi t b p h=>by simp at h,λt O=>by simp at O,aaf,I1.no_g j,Same.refl _,I1.gh.trans (abj j),abj j,λa o e=>.inl e,λa ks e=>?_⟩,?_⟩
 ·by_cases z:a=f
  ·subst z;rw[aaf] at e;cases e
  ·rw[aae z] at e;exact I1.ft a ks e
 rintro n m ys σI H2 ⟨rfl,hn,A,as,s,rfl,hl,D,X,C,S,l,ga,N,r,L,R,K⟩
 refine⟨l,?_⟩
 by_cases hlt:n<es.length
 ·refine .inr ⟨it.go n s H2 N r (by lia),λU P H'=>W (n+1) U P H',λU P H' hw=>⟨es.length-(n+1),by lia,rfl,hlt,hw⟩,λx H3 y=>?_⟩
  obtain⟨p,Y⟩:∃ p,es[n]?=some p:=⟨_,aA0 hlt⟩
  obtain⟨G3,o⟩:=it.yld n s H2 x H3 (prD p) N r K (by rw[aA5,Y];rfl) y
  have rx:Rp G3 x (.tuple [.int p.1,.int p.2]):=o.ok.1
  cases rx with
  | @tup b vs ds' hb rs =>
  cases rs with
  |cons r1 rs =>
  cases rs with
  |cons r2 rs =>
  cases rs
  cases r1
  cases r2
  refine aft (agn (acl (asv (afu (aml (v:=.ref b) (by rw[aD2,aF5 rfl,aF5 X]) (afu (go_c (aeu ⟨show(2:Nat)<=sizeLine by rw[sizeLine_eq];decide,λt O=>?_⟩))))))))
  have t2:H2 t=none:=aaz o.hh O
  have ta:t ≠ f:=(aao (o.hh _ _ l) O).symm
  have old:∀ a u,H2 a=some u->a ≠ f->upd (upd H3 t (.tup [.ref b,.bl true])) f (.lst (A.map V.ref++[.ref t])) a=some u:=λa u e aa=>by
   have Z:=o.hh _ _ e
   rw[aae aa,aae (aao Z O)]
   exact Z
  refine⟨by rw[aae ta.symm];exact o.hh _ _ l,by rw[aA3,hl];exact big (by lia),A++[t],as++[b],G3,by simp,by simp[hl],by simp[D],by rw[List.length_set];exact X,λi c d p' g hd M=>?_,λc g=>?_,aaf,?_,N.trans o.gg,λa u e=>?_,λa u e=>?_,λa u e=>?_,λa ks e=>?_⟩
  ·by_cases hi:i<n
   ·rw[aC3 (by lia)] at g hd
    obtain⟨q1,q2⟩:=C i c d p' g hd M
    exact⟨old c _ q1 (S c (aA2 g)),o.gg _ _ q2⟩
   ·have a1:i=n:=by
     have:=(aA1.mp g).1
     simp at this
     lia
    subst a1
    rw[aC8 (by lia),hl,aI7] at g
    rw[aC8 (by lia),D,aI7] at hd
    rw[Y] at M
    cases g
    cases hd
    cases M
    exact⟨by rw[aae ta,aaf],hb⟩
  ·rcases aA7.mp g with g|g
   ·exact S c g
   ·have e:=aC2.mp g
    subst e
    exact ta
  ·cases e:G3 f with
   |none=>rfl
   | some w =>
    rcases o.gn f w e with e|e
    ·rw[ga] at e;cases e
    ·rw[l] at e;cases e
  ·have at':a ≠ t:=aao (o.gh a u e) O
   have aa:a ≠ f:=by
    rintro rfl
    rcases o.gn _ u e with e|e
    ·rw[ga] at e;cases e
    ·rw[l] at e;cases e
   rw[aae aa,aae at'];exact o.gh a u e
  ·exact old a u (L a u e) (aao e j)
  ·rcases o.gn a u e with e|e
   ·exact R a u e
   ·exact .inr (aaz L e)
  ·by_cases z:a=f
   ·subst z;rw[aaf] at e;cases e
   ·rw[aae z] at e
    by_cases y:a=t
    ·subst y
     rw[aaf] at e
     exfalso
     have e:=HO.tup.inj (aC6 e)
     match ks,e with
     |[],e=>simp at e
     | .inl _::_,e=>simp[kV] at e
     | .inr _::_,e=>simp[kV] at e
    ·rw[aae y] at e;exact o.ft K a ks e
 ·have e:n=es.length:=by lia
  subst e
  refine .inl ⟨it.stop _ s H2 N r hL.symm,?_⟩
  have I2:=I1.grow N r L R K
  obtain⟨kvs,hk⟩:∃ kvs:List (List Key × Addr × V),kvs=(es.zip as).map λx=>([Sum.inl x.1.1,Sum.inl x.1.2],x.2,V.bl true):=⟨_,rfl⟩
  have a3:kvs.length=es.length:=by rw[hk,aA3,List.length_zip];lia
  have a0:ads kvs=(es.zip as).foldl (λf x=>putK f [Sum.inl x.1.1,Sum.inl x.1.2] (.bl true)) []:=by
   unfold ads
   rw[hk,List.foldl_map]
  refine aeu ⟨f,A,kvs,rfl,l,by lia,by lia,λi t kv g E=>?_,λp Y=>?_⟩
  ·rw[hk,aA5] at E
   have hi:=(aA1.mp g).1
   have T:es[i]?=some es[i]:=aA0 (by lia)
   have e2:as[i]?=some as[i]:=aA0 (by lia)
   have Z:(es.zip as)[i]?=some (es[i],as[i]):=by
    rw[aA0 (by rw[List.length_zip];lia)]
    simp
   rw[Z] at E
   cases E
   obtain⟨q1,q2⟩:=C i t _ _ g e2 T
   exact⟨q1,r _ _ q2⟩
  ·have o:=Out.newDT (xs:=ads kvs) (ds:=kE (es.foldl addP [])) I2.gh Y (by rw[a0];exact ap5 (as:=as) .nil as D)
   exact k _ _ _ F1 _ _ T (I2.out o).1 ((g1.trans N).trans o.gg) (I2.out o).2 q
end
end VL
namespace L2
open PySem PySem.W PyProof.Rows
section
variable{X:Cx}
end
end L2
namespace VL
open PySem PySem.Spec L2
section
variable{B:Bs}{env:En}{QO:Sl->En->Prop}{K:Frag}{i:Nat}
end
section
variable{B:Bs}{env:En}{QE:En->Prop}{D':VEnds}{K:Frag}{i:Nat}
theorem aub{g:List (List PyData)}{l j n m:Nat}{k O:Int}{d:PyData}{ds:List PyData}(e:env[i]?=some (some (.own (OLL g))))(ek:env[l]?=some (some (.st (.int k))))(U:env[j]?=some (some (.st (.int O))))
  (X:ixN g.length k=some n) (hd:g[n]?=some ds) (hm:ixN ds.length O=some m) (q:QE (env.set i (some (.own (OLL (g.set n (ds.set m d))))))):EvG B (gSub (tOp (ach K) (tVar i) (tVar l)) (tVar j) aln) (.st d) env QE:=λσ G H F v Fv Q I x kk=>by
 obtain⟨Z,_⟩:=x.ok
 obtain⟨v0,N,⟨a,as,rfl,h,M,R,ln,r,f⟩,_⟩:=I.sl i _ e
 obtain⟨vk,E,rk,_⟩:=I.sl l _ ek
 obtain⟨vy,C,W,_⟩:=I.sl j _ U
 cases rk;cases W
 have hn:n<g.length:=(aA1.mp hd).1
 have hb:as[n]?=some (as[n]'(by lia)):=aA0 _
 generalize as[n]'(by lia)=b at hb
 have u:b∈as:=aA2 hb
 obtain⟨vs,h1,S⟩:=r n b ds hb hd
 have L:atI (as.map V.ref) k=some (.ref b):=by
  unfold atI
  rw[aA3,ln,X]
  simp[hb]
 refine⟨_,N,_,E,aex h L ⟨_,C,ajc h1 (by rw[S.length];exact hm) ?_⟩⟩
 have D:a ≠ b:=λz=>R (z ▸ u)
 have J:=I.change (A:=OLL (g.set n (ds.set m d))) (H2:=upd H b (.lst (vs.set m v))) (F2:=F i) (os':=.own (OLL (g.set n (ds.set m d)))) i e N (λc o s w=>by rw[aae (λz:c=b=>s ((f c).mpr (.inr (by rw[z];exact u))))];exact w)
  (λc o w=>by
   by_cases z:c=b
   ·rw[z];exact⟨_,aaf⟩
   ·rw[aae z];exact⟨o,w⟩)
  (λc z=>⟨.inl z,by
   by_cases y:c=b
   ·rw[y];exact⟨_,aaf⟩
   ·rw[aae y];exact I.fo i c z⟩) ?_ (λc ks e=>by
   by_cases z:c=b
   ·subst z;rw[aaf] at e;cases e
   ·rw[aae z] at e;exact I.ft c ks e) (.inl ⟨rfl,_,rfl⟩)
 ·exact kk _ G _ _ _ J (Same.refl _) q
 ·refine⟨a,as,rfl,by rw[aae D];exact h,M,R,by simp[ln],λP c es s p=>?_,f⟩
  by_cases hm':P=n
  ·subst hm'
   rw[hb] at s;cases s
   rw[aD2,aF5 rfl,aF5 hn] at p
   cases p
   exact⟨_,aaf,S.set Z m⟩
  ·rw[aD2,aF6 (λz=>hm' z.symm)] at p
   obtain⟨us,h3,T⟩:=r P c es s p
   refine⟨us,?_,T⟩
   rw[aae]
   ·exact h3
   ·intro z
    subst z
    obtain⟨p1,p2⟩:=aA1.mp s
    obtain⟨Y,p4⟩:=aA1.mp hb
    exact hm' (nodup_ix M p1 Y (p2.trans p4.symm))
theorem arq{t:TS}{g:List (List PyData)}(i:Nat)(e:env[i]?=some (some (.own (OLL g))))(h:EvS B t D' (env.set i (some (.own (OL (g.map .list)))))):EvS B t D' env:=λσ G H F D I w=>by
 obtain⟨v,p,⟨a,as,rfl,ha,K,C,ln,r,f⟩,fb⟩:=I.sl i _ e
 have fg:∀ b,b∈as->G b=none:=λb hb=>I.fg i b ((f b).mpr (.inr hb))
 have o:=abv (H:=H) fg
 have x:=(I.drop i).freeze (Fv:=λb=>b∈as) (λb hb=>fb b ((f b).mpr (.inr hb))) (λj b z y=>by
  by_cases l:j=i
  ·subst l;exact(putF_same.mp y).elim
  ·rw[abc l] at y;exact l (I.fd j i b y ((f b).mpr (.inr z)))) fg
 have c:F i a:=(f a).mpr (.inl rfl)
 have J:=x.slot (Fv:=λb=>b=a) i (some (.ref a)) (some (.own (OL (g.map .list)))) (λb z=>by rw[z,aiq C];exact I.fg i a c) (λb z=>by rw[z];exact I.fr i a c) (λb z=>by rw[z];exact⟨_,ha⟩) (λj b l z y=>by
  rw[abc l] at y
  subst z
  exact l (I.fd j i b y c)) (λt s=>by
  cases s
  refine⟨_,rfl,⟨a,as.map V.ref,rfl,ha,aiw (by simp[ln]) λm u d n hd=>?_,λb=>Iff.rfl⟩,λb z=>by rw[z];exact fb a c⟩
  rw[aA5] at n hd
  cases hb:as[m]? with
  |none=>rw[hb] at n;cases n
  | some b =>
   cases hds:g[m]? with
   |none=>rw[hds] at hd;cases hd
   | some ds =>
    rw[hb] at n;rw[hds] at hd
    cases n;cases hd
    obtain⟨vs,A,E⟩:=r m b ds hb hds
    exact .lst (by rw[ae8 (aA2 hb)];exact A) (E.same o))
 have q : σ.set i (some (.ref a)) = σ:=by
  apply aG2
  intro j
  rw[aD2]
  by_cases h:i=j
  ·subst h
   rw[aF5 rfl,p,aF5 (aA1.mp p).1]
  ·rw[aF6 h]
 rw[q,List.set_set] at J
 exact h σ _ H _ D J (w.later o)
end
section
variable{B:Bs}{env:En}{QO:Sl->En->Prop}{i:Nat}
end
section
variable{B:Bs}{env:En}{Q':PyData->En->Prop}{i j l:Nat}
end
section
variable{B:Bs}{env:En}{Q':PyData->En->Prop}{ty tx:TE}
theorem auc{o:TE}(h:Ev B o env λx m=>∃ es:List (Key × PyData),x=abg es/\es ≠ []/\Ev B ty m λy s=>∃ k,y=kD k/\Ev B tx s λz f=>Q' ((valD es k).getD z) f):Ev B (ami o ty tx) env Q':=λσ G H F Q I r =>
 h σ G H F _ I λv M R S x m D A P N=>by
  obtain⟨es,ex,l,T⟩:=N
  subst ex
  obtain⟨a,kvs,rfl,ha,C⟩:=aht P l
  refine⟨a,rfl,.inl ⟨kvs,.inl (D.gh _ _ ha)⟩,T σ M R S _ D λu E H2 F2 y s K b U ⟨k,J,W⟩=>?_⟩
  subst J
  have:=ahr U
  subst this
  refine W σ E H2 F2 _ K λz n H3 p X f j c L q=>?_
  have g:=j.gh _ _ (c _ _ (b _ _ ha))
  refine⟨valV kvs k,DGet.k g,?_⟩
  cases hv:valD es k with
  | none =>
   rw[hv] at q
   rw[(RpK.val C).1 hv]
   exact r _ n H3 p _ f j (A.trans (b.trans c)) L q
  | some d =>
   rw[hv] at q
   obtain⟨w,O,i⟩:=(RpK.val C).2 d hv
   rw[O]
   exact r _ n H3 p _ f j (A.trans (b.trans c)) (i.same (b.trans c)) q
end
section
variable{B:Bs}{env:En}{QO:Sl->En->Prop}{Q':PyData->En->Prop}{K:Frag}{E:XK}{i:Nat}
end
def stS:Option Sl->Option Sl
 |some (.st d)=>some (.st d)
 |some (.scr ns)=>some (.scr ns)
 |_=>none
def momE(env:En)(i:Nat)(d:PyData):En:=(env.map stS).set i (some (.st d))
section
variable{B:Bs}{env:En}{QO:Sl->En->Prop}{Q':PyData->En->Prop}{K:Frag}{i j:Nat}{ta te:TE}
theorem agz{A:Own}{d:PyData}(l:Has env i A)(E:Frz A d)(h:∀ b:Bs,b.K=B.K->Ev b te (momE env i d) λd' _=>ahn d'=true/\Q' d' env):Ev B te env Q':=λσ G H F Q I k=>by
 obtain⟨v,y,ap⟩:=I.has l
 have f:=abv (H:=H) (I.fg i)
 let b:Bs:={ K:=B.K,G:=jn G H (F i),H:=H,R:=H,S:=σ,F:=λ_ _=>False }
 have hi:i<env.length:=by
  rcases l with e|e <;> exact(aA1.mp e).1
 have J:VI b (jn G H (F i)) H σ (momE env i d) (λ_ _=>False):={
  gh:=aq5 I.gh
  g0:=Same.refl _
  gn:=λa o e=>.inl e
  rs:=Same.refl _
  rb:=Same.refl _
  bh:=λa o e=>⟨o,e⟩
  fg:=λ_ _ z=>z.elim
  fr:=λ_ _ z=>z.elim
  fd:=λ_ _ _ z=>z.elim
  fo:=λ_ _ z=>z.elim
  sl:=λm s e=>by
   unfold momE at e
   by_cases hm:m=i
   ·subst hm
    rw[aD2,aF5 rfl,aF5 (by simpa using hi)] at e
    cases e
    exact⟨v,y,E _ _ _ _ ap (I.fg m) I.gh,λ_ z=>z⟩
   ·rw [aD2,aF6 (λz=>hm z.symm),aA5] at e
    cases em:env[m]? with
    |none=>rw[em] at e;cases e
    | some o =>
     rw[em] at e
     cases o with
     |none=>cases e
     | some t =>
      obtain⟨u,j,q⟩:=I.sl m t em
      cases t with
      |st d'=>cases e;exact⟨u,j,q.1.same f,λ_ z=>z⟩
      | scr ns =>
       cases e
       obtain⟨⟨a,n,D⟩,_⟩:=q
       exact⟨u,j,⟨a,n,f.seq D⟩,λ_ z=>z⟩
      |own A'=>cases e
      |io A'=>cases e
  ln:=by simp[momE,I.ln]
  ft:=λa ks e=>f _ _ (I.ft a ks e) }
 refine h b rfl σ _ H _ Q J λw p H2 F2 d' M c x g ⟨hs,q⟩=>?_
 have o:Out (jn G H (F i)) H w p H2 (.st d') (λ_=>False):={
  gg:=x
  gh:=c.gh
  hh:=c.rs
  gn:=c.gn
  fn:=λ_ z=>z.elim
  fg:=λ_ z=>z.elim
  fo:=λ_ z=>z.elim
  ok:=⟨g,λ_ z=>z⟩
  ft:=λ_=>c.ft }
 obtain⟨L,C,r⟩:=I.moment f o
 exact k w L H2 F d' env r C (aps g hs) q
end
theorem ay5{o:Option Sl}{s:Sl}(h:stS o=some s):o=some s/\((∃ d,s=.st d)\/∃ ns,s=.scr ns):=by
 cases o with
 |none=>cases h
 | some t =>
  cases t with
  |st d=>cases h;exact⟨rfl,.inl ⟨d,rfl⟩⟩
  |scr ns=>cases h;exact⟨rfl,.inr ⟨ns,rfl⟩⟩
  |own A=>cases h
  |io A=>cases h
section
variable{B:Bs}{env:En}{QO:Sl->En->Prop}{K:Frag}{te:TE}
theorem ay6{src:List (Option Nat)}{wi:TI}(h:EvI B wi env λds e1=>ds.length<=999999/\∃ l:List (List PyData),l.length=ds.length/\(∀(i:Nat) d,ds[i]?=some d->∀ B':Bs,B'.K=B.K->EvO B' te (some (.st d)::(aas src e1).map stS) λs _=>∃ xs,l[i]?=some xs/\s=.own (OL xs))/\QO (.own (OLL l)) e1):EvO B (tLC (none::src) wi (abi 0) tYes te) env QO:=λσ G H F Q I k=>by
 refine h σ G H F _ I λJ G1 H1 F1 ds e1 N g1 it ⟨b1,l,b0,a7,q⟩ c f=>?_
 let W:Nat->List V->St->Hp->Prop:=λn ys σI H=>∃(as:List Addr)(r:Hp)(o:Option V),σI=o::pick src σ/\ys=as.map V.ref/\as.length=n/\as.Nodup/\c ∉ as/\(∀ b∈as,H1 b=none/\r b=none)/\(∀(i:Nat) b xs,as[i]?=some b->l[i]?=some xs->∃ vs,H b=some (.lst vs)/\Rps r vs xs)/\H c=some (.lst ys)/\r c=none/\Same G1 r/\Same r H/\Same H1 H/\(∀ a o,r a=some o->G1 a=some o\/H1 a=none)/\FT r H
 refine⟨λn m ys σI H=>m=ds.length-n/\n<=ds.length/\W n ys σI H,⟨ds.length,by simp,aG0 _,[],G1,none,rfl,rfl,rfl,List.nodup_nil,by simp,λb hb=>by simp at hb,λi b xs hb=>by simp at hb,aaf,N.no_g f,Same.refl _,N.gh.trans (abj f),abj f,λa o e=>.inl e,λa ks e=>?_⟩,?_⟩
 ·by_cases z:a=c
  ·subst z;rw[aaf] at e;cases e
  ·rw[aae z] at e;exact N.ft a ks e
 rintro n m ys σI H2 ⟨rfl,hn,as,r,o0,rfl,rfl,hl,nd,na,all,L,D,ga,P,M,C,U,O⟩
 refine⟨D,?_⟩
 have E:∀ b∈as,∃ u,H2 b=some u:=λb hb=>by
  obtain⟨i,hi,e⟩:=aH6.mp hb
  obtain⟨vs,h1,_⟩:=L i b _ (by rw[aA0 hi,e]) (aA0 (show i<l.length by lia))
  exact⟨_,h1⟩
 by_cases hlt:n<ds.length
 ·refine .inr ⟨it.go n r H2 P M hlt,λa1 a0 H'=>W (n+1) a1 a0 H',λa1 a0 H' hw=>⟨ds.length-(n+1),by lia,rfl,hlt,hw⟩,λx H3 y=>?_⟩
  obtain⟨G3,o⟩:=it.yld n r H2 x H3 _ P M O (aA0 hlt) y
  refine aft (agn (acl ?_))
  have I2:=N.grow P M C U O
  obtain⟨I3,X3⟩:=I2.out o
  let B':Bs:={ K:=B.K,G:=G3,H:=H3,R:=H3,S:=some x::pick src σ,F:=λ_ _=>False }
  have J':VI B' G3 H3 (some x::pick src σ) (some (.st ds[n])::(aas src e1).map stS) (λ_ _=>False):={
   gh:=o.gh
   g0:=Same.refl _
   gn:=λa u e=>.inl e
   rs:=Same.refl _
   rb:=Same.refl _
   bh:=λa u e=>⟨u,e⟩
   fg:=λ_ _ z=>z.elim
   fr:=λ_ _ z=>z.elim
   fd:=λ_ _ _ z=>z.elim
   fo:=λ_ _ z=>z.elim
   sl:=λm s e=>by
    cases m with
    | zero =>
     simp only[List.getElem?_cons_zero,Option.some.injEq] at e
     subst e
     exact⟨x,rfl,X3.ok.1,λ_ z=>z⟩
    | succ m =>
     rw[aI1,aA5] at e
     obtain⟨t,ht,et⟩:=Option.map_eq_some_iff.mp e
     obtain⟨rfl,hs⟩:=ay5 et
     obtain⟨i,t',a9,a2,g⟩:=afa ht
     obtain⟨v,hv,q'⟩:=I3.sl i t' a2
     refine⟨v,by rw[aI1];exact aib a9 hv,?_⟩
     rcases hs with ⟨d,rfl⟩|⟨ns,rfl⟩
     ·cases t' with
      |st d'=>cases g;exact⟨q'.1,λ_ z=>z⟩
      |scr ns=>cases g
      |own A=>cases g
      |io A=>cases g
     ·cases t' with
      |st d'=>cases g
      |scr ns'=>cases g;exact⟨q'.1,λ_ z=>z⟩
      |own A=>cases g
      |io A=>cases g
   ln:=by simp[pick,aas]
   ft:=o.ft O }
  refine a7 n _ (aA0 hlt) B' rfl _ G3 H3 _ _ J' λv G4 H4 F4 Fv s e4 I4 g4 X4 ⟨xs,a4,es⟩=>?_
  subst es
  obtain⟨p,vs,rfl,hp,rp,fp⟩:=X4.ok
  have X:=(fp p).mpr rfl
  have n3:H3 p=none:=X4.fb p X
  have gp:G4 p=none:=X4.fg p X
  have n2:H2 p=none:=aaz o.hh n3
  have n1:H1 p=none:=aaz C n2
  have T:Same H3 H4:=I4.rs
  have Y:=o.hh _ _ D
  have a8:=T _ _ Y
  have pa:p ≠ c:=(aao Y n3).symm
  have a3:p ∉ as:=λz=>by
   obtain⟨u,hu⟩:=E p z
   rw[hu] at n2;cases n2
  have gb:∀ b,r b=none->(∃ u,H2 b=some u)->G4 b=none:=λb h1 z_=>by
   obtain⟨u,h2⟩:=z_
   cases e:G4 b with
   |none=>rfl
   | some w =>
    rcases I4.gn b w e with e|e
    ·rcases o.gn b w e with e|e
     ·rw[h1] at e;cases e
     ·rw[h2] at e;cases e
    ·have:=o.hh _ _ h2;change H3 b=none at e;rw[this] at e;cases e
  have Z:G4 c=none:=gb c ga ⟨_,D⟩
  refine⟨a8,by rw[aA3,hl];exact big (by lia),as++[p],G4,some x,rfl,by simp,by simp[hl],?_,?_,λb hb=>?_,λi b a6 hb hd=>?_,aaf,Z,P.trans (o.gg.trans g4),λa u e=>?_,λa u e=>?_,λa u e=>?_,λa ks e=>?_⟩
  ·rw[aE7]
   exact⟨nd,by simp,λx hx y hy=>by simp at hy;subst hy;intro e;subst e;exact a3 hx⟩
  ·intro z
   rcases aA7.mp z with z|z
   ·exact na z
   ·exact pa (aC2.mp z).symm
  ·rcases aA7.mp hb with hb|hb
   ·exact⟨(all b hb).1,gb b (all b hb).2 (E b hb)⟩
   ·cases aC2.mp hb
    exact⟨n1,gp⟩
  ·by_cases hi:i<as.length
   ·rw[aC3 hi] at hb
    obtain⟨us,h1,h2⟩:=L i b a6 hb hd
    refine⟨us,?_,h2.same (o.gg.trans g4)⟩
    rw[aae (λz:b=c=>na (by rw[← z];exact aA2 hb))]
    exact T _ _ (o.hh _ _ h1)
   ·have a5:i=n:=by
     have:=(aA1.mp hb).1
     simp at this
     lia
    subst a5
    rw[aC8 (by lia)] at hb
    have:b=p:=by
     rw[show i-as.length=0 by lia] at hb
     simpa using hb.symm
    subst this
    rw[a4] at hd
    cases hd
    exact⟨vs,by rw[aae pa];exact hp,rp⟩
  ·have aa:a ≠ c:=by rintro rfl;rw[Z] at e;cases e
   rw[aae aa];exact I4.gh a u e
  ·have aa:a ≠ c:=aao e f
   rw[aae aa];exact T _ _ (o.hh _ _ (C a u e))
  ·rcases I4.gn a u e with e|e
   ·rcases o.gn a u e with e|e
    ·exact U a u e
    ·exact .inr (aaz C e)
   ·exact .inr (aaz C (aaz o.hh e))
  ·by_cases z:a=c
   ·subst z;rw[aaf] at e;cases e
   ·rw[aae z] at e;exact I4.ft a ks e
 ·have e:n=ds.length:=by lia
  subst e
  refine .inl ⟨it.stop _ r H2 P M rfl,?_⟩
  have I2:=N.grow P M C U O
  refine k (.ref c) r H2 F1 (λb=>b=c\/b∈as) (.own (OLL l)) e1 I2 (g1.trans P) ⟨⟨c,as,rfl,D,nd,na,by lia,L,λb=>Iff.rfl⟩,λb z=>?_,λb z=>?_,λb z=>?_,λj b z y=>?_⟩ q
  ·rcases z with rfl|z
   ·exact N.no_b f
   ·exact N.no_b (all b z).1
  ·rcases z with rfl|z
   ·exact ga
   ·exact(all b z).2
  ·rcases z with rfl|z
   ·exact⟨_,D⟩
   ·exact E b z
  ·rcases z with rfl|z
   ·exact N.no_f f j y
   ·exact N.no_f (all b z).1 j y
end
end VL
namespace SS
open PySem
theorem ajv{l:List Nat}(b:l.Pairwise (· < ·)){i j:Nat}(c:i<=j)(a:j<l.length):l[i]'(by lia)<=l[j]:=by
 by_cases e:i=j
 ·subst e;exact aA6 _
 ·exact aG5 (aG7.mp b i j (by lia) a (by lia))
theorem aic(xs:Array Nat)(j:Nat)(c:xs.toList.Pairwise (· < ·)):∀(a lo hi:Nat),hi-lo<=a->lo<=hi->hi<=xs.size->(∀ i (h:i<xs.toList.length),i<lo->xs.toList[i]<j)->(∀ i (h:i<xs.toList.length),hi<=i->j<=xs.toList[i]) ->
  SetTable.below.go xs j a lo hi<=xs.size/\(∀ i (h:i<xs.toList.length),i<SetTable.below.go xs j a lo hi->xs.toList[i]<j)/\(∀ i (h:i<xs.toList.length),SetTable.below.go xs j a lo hi<=i->j<=xs.toList[i])
 | 0,lo,hi,h1,h2,h3,h4,h5=>by
  unfold SetTable.below.go
  have:lo=hi:=by lia
  subst this
  exact⟨h3,h4,h5⟩
 | a+1,lo,hi,h1,h2,h3,h4,h5=>by
  unfold SetTable.below.go
  by_cases hl:lo<hi
  ·rw[aF5 hl]
   have hm:(lo+hi) / 2<xs.size:=by lia
   have d:(lo+hi) / 2<xs.toList.length:=by simpa using hm
   have f:xs.getD ((lo+hi) / 2) j=xs.toList[(lo+hi) / 2]:=by simp[Array.getD,hm]
   dsimp only
   rw[f]
   split
   ·rename_i hlt
    refine aic xs j c a _ hi (by lia) (by lia) h3 (λi h b=>?_) h5
    exact aE2 (ajv c (by lia) d) hlt
   ·rename_i hge
    refine aic xs j c a lo _ (by lia) (by lia) (by lia) h4 (λi h b=>?_)
    exact aD0 (by lia) (ajv c b h)
  ·rw[aF6 hl]
   have:lo=hi:=by lia
   subst this
   exact⟨h3,h4,h5⟩
theorem below_ok(xs:Array Nat)(j:Nat)(a:xs.toList.Pairwise (· < ·)) :
  SetTable.below xs j<=xs.size/\(∀ i (h:i<xs.toList.length),i<SetTable.below xs j->xs.toList[i]<j)/\(∀ i (h:i<xs.toList.length),SetTable.below xs j<=i->j<=xs.toList[i]) :=
 aic xs j a _ 0 _ (by lia) (by lia) (aA6 _) (λi h hi=>by lia) (λi h hi=>by simp at h;lia)
theorem ars(xs:Array Nat)(c:xs.toList.Pairwise (· < ·))(i:Nat)(hi:i<xs.toList.length):SetTable.below xs (xs.toList[i] + 1)=i+1:=by
 obtain⟨g,f,d⟩:=below_ok xs (xs.toList[i] + 1) c
 rcases Nat.lt_trichotomy (SetTable.below xs (xs.toList[i] + 1)) (i+1) with h|h|h
 ·have:=d i hi (by lia);lia
 ·exact h
 ·have hs:i+1<xs.toList.length:=by simp;lia
  have a:=f (i+1) hs (by lia)
  have b:=aG7.mp c i (i+1) hi hs (by lia)
  lia
theorem art(xs:Array Nat)(b:xs.toList.Pairwise (· < ·)):SetTable.below xs 0=0:=by
 obtain⟨d,a,c⟩:=below_ok xs 0 b
 rcases Nat.eq_zero_or_pos (SetTable.below xs 0) with h|h
 ·exact h
 ·have:=a 0 (by simp;lia) (by lia);lia
theorem put_rise{xs:Array Nat}{j:Nat}(c:xs.toList.Pairwise (· < ·))(hn:xs[SetTable.below xs j]? ≠ some j):(SetTable.insertAt xs (SetTable.below xs j) j).toList.Pairwise (· < ·):=by
 obtain⟨n,g,f⟩:=below_ok xs j c
 rw[SetTable.toList_insertAt]
 generalize SetTable.below xs j=p at n g f hn ⊢
 rw[← aD6] at hn
 generalize xs.toList=l at c g f hn ⊢
 have lo:∀ x∈l.take p,x<j:=λx d=>by
  obtain⟨i,hi,e⟩:=List.mem_take_iff_getElem.mp d
  rw[← e];exact g i (by lia) (by lia)
 have m:∀ x∈l.drop p,j<x:=λx d=>by
  obtain⟨i,hi,e⟩:=List.mem_drop_iff_getElem.mp d
  have h:p<l.length:=by lia
  have ne:l[p] ≠ j:=λe=>hn (by rw[aA0 h,e])
  have a:=f p h (aA6 _)
  have b:=ajv c (show p<=p+i by lia) (by lia:p+i<l.length)
  have o:l[p+i]=x:=by rw[← e]
  lia
 rw[aC9]
 refine⟨c.sublist (List.take_sublist _ _),aI6.mpr ⟨m,c.sublist (List.drop_sublist _ _)⟩,λa ha b hb=>?_⟩
 rcases aA9.mp hb with rfl|hb
 ·exact lo a ha
 ·exact Nat.lt_trans (lo a ha) (m b hb)
structure TbI(bt:Bool)(t:SetTable):Prop where
 led:bt=false->t.led=true
 dum:t.dummies = #[]
 ris:t.plain=true->t.place.toList.Pairwise (· < ·)
theorem TbI.fresh(bt:Bool)(f m:Nat):TbI bt (.fresh f m (!bt)):=⟨λh=>by subst h;rfl,rfl,λ_=>List.Pairwise.nil⟩
theorem has_nil(j:Nat):SetTable.has #[] j=false:=by unfold SetTable.has;simp
theorem TbI.put{bt:Bool}{t:SetTable}(x:TbI bt t){j:Nat}(hs:t.slot j=.empty):TbI bt (t.put j).1:=by
 refine⟨x.led,?_,λh=>?_⟩
 ·show(if SetTable.has t.dummies j=true then _ else t.dummies) = #[]
  rw[x.dum,has_nil];rfl
 ·show(SetTable.insertAt t.place (SetTable.below t.place j) j).toList.Pairwise (· < ·)
  refine put_rise (x.ris h) λe=>?_
  unfold SetTable.slot at hs
  dsimp only at hs
  rw[e] at hs
  simp at hs
theorem live_rise(owner:Array (Option Nat))(m:Nat):(((List.range m).filterMap λj=>(owner.getD j none).map (j,·)).map (·.1)).Pairwise (· < ·):=by
 rw[aG1,List.pairwise_filterMap]
 refine List.pairwise_lt_range.imp ?_
 intro a b f p c q d
 cases h1:owner.getD a none with
 |none=>rw[h1] at c;cases c
 | some i =>
  cases h2:owner.getD b none with
  |none=>rw[h2] at d;cases d
  |some k=>rw[h1] at c;rw[h2] at d;cases c;cases d;exact f
theorem akt{α:Type}(next:Nat->Nat):∀(n k:Nat)(left:List α)(out:Array α),left.length=n->(pickOrder.go next n k left out).toList.Perm (out.toList++left)
 | 0,k,left,out,h=>by
  unfold pickOrder.go
  rw[aH2 h];simp
 | n+1,k,left,out,h=>by
  unfold pickOrder.go
  have a:next k % left.length<left.length:=Nat.mod_lt _ (by lia)
  rw[aA0 a]
  dsimp only
  refine(akt next n (k+1) _ _ (by rw[List.length_eraseIdx];split <;> lia)).trans ?_
  rw[Array.toList_push,aB4]
  refine List.Perm.append_left _ ?_
  have e:left=left.take (next k % left.length)++left[next k % left.length]::left.drop (next k % left.length+1):=by
   rw[← List.drop_eq_getElem_cons a,aC1]
  rw[List.eraseIdx_eq_take_drop_succ]
  refine List.Perm.trans ?_ (List.Perm.of_eq e.symm)
  rw[List.singleton_append]
  exact List.perm_middle.symm
theorem ajw{α:Type}(next:Nat->Nat)(xs:Array α):(pickOrder next xs).toList.Perm xs.toList:=by
 unfold pickOrder
 simpa using akt next xs.size 0 xs.toList #[] (by simp)
end SS
namespace SS
open PySem PySem.W PyProof.Rows
section
variable{prog:Program}{w:World}{A:Around}{E:Value->Shared->Prop}{s:Shared}
def bt(w:World):Bool:=w.params.followText "set-order"
def kE(e:Int × Value):Int:=match e.2 with | .int k _=>k|_=>0
def a3f(prog:Program)(w:World)(e:Int × Value):Prop:=e.1=(intKind prog w).hash (kE e)/\∃ t,e.2=.int (kE e) t
def SetR(prog:Program)(w:World)(a:Addr)(es:Array (Int × Value))(ep:Nat)(t:SetTable)(h:Heap):Prop :=
 ∃ o,h.get? a=some o/\o.ExactSet/\o.data=.set es ep t/\t.fits es.size=true/\TbI (bt w) t
def SetI(prog:Program)(w:World)(a:Addr)(L:List Int)(h:Heap):Prop:=∃ es ep t,SetR prog w a es ep t h/\(∀ e∈es.toList,a3f prog w e)/\(es.toList.map kE).Perm L
theorem SetR.at{a:Addr}{es:Array (Int × Value)}{ep:Nat}{t:SetTable}{h h':Heap}(x:SetR prog w a es ep t h)(k:∀ o,h.get? a=some o->h'.get? a=some o):SetR prog w a es ep t h':=let ⟨o,e,r⟩:=x;⟨o,k o e,r⟩
theorem SetR.put{a:Addr}{es es':Array (Int × Value)}{ep:Nat}{t t':SetTable}{h:Heap}(x:SetR prog w a es ep t h)(hf:t'.fits es'.size=true)(c:TbI (bt w) t'):SetR prog w a es' (ep+1) t' (h.update a (Obj.putSet es' t')):=by
 obtain⟨o,d,f,hd,_⟩:=x
 have b:(h.update a (Obj.putSet es' t')).get? a=some { o with data:=.set es' (ep+1) t' }:=by
  have:=aK7 (Obj.putSet es' t') d (by rw[putSet_of es' t' hd];rfl)
  rw[putSet_of es' t' hd] at this;exact this
 exact⟨_,b,f,rfl,hf,c⟩
end
end SS
namespace SH
open PySem PySem.SetTable
def it:Nat->Nat->Nat
 |0,x=>x
 |n+1,x=>it n (5 * x+1)
theorem ai4:∀(a b x:Nat),it (a+b) x=it b (it a x)
 |0,b,x=>by rw[Nat.zero_add];rfl
 |a+1,b,x=>by rw[Nat.add_right_comm];exact ai4 a b (5 * x+1)
theorem a1y(m:Nat):∃ c d:Nat,∀ x,it (2 ^ m) x=(1+2 ^ (m+2) * c) * x+2 ^ m * (2 * d+1):=by
 induction m with
 |zero=>exact⟨1,0,λx=>by show 5 * x+1=_;lia⟩
 | succ m ih =>
  obtain⟨c,d,h⟩:=ih
  refine⟨c+2 ^ (m+1) * (c * c),d+2 ^ m * c * (2 * d+1),λx=>?_⟩
  rw[show 2 ^ (m+1)=2 ^ m+2 ^ m by rw[Nat.pow_succ];lia,ai4,h,h]
  have a:2 ^ (m+2)=4 * 2 ^ m:=by rw[Nat.pow_add];lia
  have b:2 ^ (m+1+2)=8 * 2 ^ m:=by rw[Nat.pow_add,Nat.pow_succ];lia
  rw[a,b]
  generalize 2 ^ m=P
  grind
theorem a1z(m:Nat)(x j:Nat):∃ r,r<2 ^ m/\it r x % 2 ^ m=j % 2 ^ m:=by
 induction m with
 |zero=>exact⟨0,by decide,by rw[Nat.pow_zero,Nat.mod_one,Nat.mod_one]⟩
 | succ m ih =>
  obtain⟨r,p,e⟩:=ih
  obtain⟨c,d,h⟩:=a1y m
  have l:0<2 ^ m:=Nat.pow_pos (by decide)
  have n:2 ^ (m+1)=2 ^ m * 2:=Nat.pow_succ ..
  have i:2 ^ (m+2)=2 ^ m * 4:=by rw[Nat.pow_add]
  rw[n]
  have o:=Nat.mod_mul (x:=it r x) (a:=2 ^ m) (b:=2)
  have f:=Nat.mod_mul (x:=j) (a:=2 ^ m) (b:=2)
  by_cases hq:it r x / 2 ^ m % 2=j / 2 ^ m % 2
  ·exact⟨r,by lia,by rw[o,f,e,hq]⟩
  ·refine⟨r+2 ^ m,by lia,?_⟩
   rw[ai4,h,i]
   have g:(1+2 ^ m * 4 * c) * it r x+2 ^ m * (2 * d+1)=it r x+2 ^ m * (4 * (c * it r x)+2 * d+1):=by
    generalize 2 ^ m=P
    grind
   rw[g,Nat.mod_mul,f,Nat.add_mul_mod_self_left,e,Nat.add_mul_div_left _ _ l]
   have:(it r x / 2 ^ m+(4 * (c * it r x)+2 * d+1)) % 2=j / 2 ^ m % 2:=by
    generalize c * it r x=z
    lia
   rw[this]
theorem ay7(r x:Nat):it (r+1) x=5 * it r x+1:=by rw[ai4];rfl
def adv(mask:Nat)(p:Probe):Probe:=if p.more > 0 then { p with j:=p.j+1,more:=p.more-1 } else { p with j:=(leap mask p.i p.perturb).1,more:=runEnd mask (leap mask p.i p.perturb).1-(leap mask p.i p.perturb).1,i:=(leap mask p.i p.perturb).1,perturb:=(leap mask p.i p.perturb).2 }
def pr0(mask:Nat)(h:Int):Probe:={ j:=bits h % (mask+1),more:=runEnd mask (bits h % (mask+1))-bits h % (mask+1),i:=bits h % (mask+1),perturb:=bits h,dummy:=none }
def pr(mask:Nat)(h:Int):Nat->Probe
 |0=>pr0 mask h
 |k+1=>adv mask (pr mask h k)
theorem ann(mask:Nat)(h:Int):∀ k,(pr mask h k).dummy=none
 |0=>rfl
 | k+1=>by
  have:=ann mask h k
  show(adv mask (pr mask h k)).dummy=none
  unfold adv
  split <;> exact this
def lp(mask:Nat)(h:Int):Nat->Nat × Nat
 |0=>(bits h % (mask+1),bits h)
 |n+1=>leap mask (lp mask h n).1 (lp mask h n).2
def pAt(mask:Nat)(q:Nat × Nat)(a:Nat):Probe:={ j:=q.1+a,more:=runEnd mask q.1-q.1-a,i:=q.1,perturb:=q.2,dummy:=none }
theorem a10(mask i:Nat):runEnd mask i-i<=9:=by unfold runEnd;split <;> lia
theorem ano{mask:Nat}{h:Int}{s:Nat}{q:Nat × Nat}(e:pr mask h s=pAt mask q 0):∀ a,a<=runEnd mask q.1-q.1->pr mask h (s+a)=pAt mask q a
 |0,_=>e
 | a+1,ha=>by
  have b:=ano e a (by lia)
  show adv mask (pr mask h (s+a))=_
  rw[b]
  unfold adv pAt
  rw[aF5 (by show runEnd mask q.1-q.1-a > 0;lia)]
  show Probe.mk _ _ _ _ _=Probe.mk _ _ _ _ _
  congr 1
theorem ay8{mask:Nat}{h:Int}{s:Nat}{q:Nat × Nat}(e:pr mask h s=pAt mask q 0):pr mask h (s+(runEnd mask q.1-q.1)+1)=pAt mask (leap mask q.1 q.2) 0:=by
 have:=ano e _ (aA6 _)
 show adv mask (pr mask h (s+_))=_
 rw[this]
 unfold adv pAt
 rw[aF6 (by show ¬ (runEnd mask q.1-q.1-(runEnd mask q.1-q.1) > 0);lia)]
 rfl
def sp(mask:Nat)(h:Int):Nat->Nat
 |0=>0
 |n+1=>sp mask h n+(runEnd mask (lp mask h n).1-(lp mask h n).1)+1
theorem aw8(mask:Nat)(h:Int):∀ n,sp mask h n<=10 * n
 |0=>aA6 _
 | n+1=>by
  have:=aw8 mask h n
  have:=a10 mask (lp mask h n).1
  unfold sp
  lia
theorem aru(mask:Nat)(h:Int):∀ n,pr mask h (sp mask h n)=pAt mask (lp mask h n) 0
 |0=>rfl
 |n+1=>ay8 (aru mask h n)
theorem ap6(mask:Nat)(h:Int):∀ n,(lp mask h n).2=bits h / 32 ^ n
 |0=>by show bits h=_;rw[Nat.pow_zero,Nat.div_one]
 | n+1=>by
  show(lp mask h n).2 / 32=_
  rw[ap6 mask h n,Nat.div_div_eq_div_mul,Nat.pow_succ]
theorem ay9(h:Int):bits h<2 ^ 64:=by
 unfold bits
 have a:=aE5 h (show(2 ^ 64:Int) ≠ 0 by decide)
 have b:=aE6 h (show(0:Int)<2 ^ 64 by decide)
 lia
theorem aza(mask:Nat)(h:Int)(r:Nat):(lp mask h (13+r)).2=0:=by
 rw[ap6]
 apply Nat.div_eq_of_lt
 refine aC5 (ay9 h) ?_
 rw[Nat.pow_add]
 exact aD0 (show 2 ^ 64<=32 ^ 13 by decide) (Nat.le_mul_of_pos_right _ (Nat.pow_pos (by decide)))
theorem aw9(mask:Nat)(h:Int):∀ r,(lp mask h (13+r)).1 % (mask+1)=it r (lp mask h 13).1 % (mask+1)
 |0=>rfl
 | r+1=>by
  show((lp mask h (13+r)).1 * 5+1+(lp mask h (13+r)).2 / 32) % (mask+1) % (mask+1)=_
  rw[aza,ay7,Nat.mod_mod,show 0 / 32=0 from rfl,Nat.add_zero,Nat.add_mod,Nat.mul_mod,aw9 mask h r,← Nat.mul_mod,← Nat.add_mod,Nat.mul_comm]
theorem axa(mask:Nat)(h:Int):∀ n,(lp mask h n).1<mask+1
 |0=>Nat.mod_lt _ (Nat.succ_pos _)
 |n+1=>Nat.mod_lt _ (Nat.succ_pos _)
theorem aud{mask m:Nat}(hm:mask+1=2 ^ m)(h:Int)(j:Nat)(c:j<=mask):∃ n,n<mask+14/\(lp mask h n).1=j:=by
 obtain⟨r,b,e⟩:=a1z m (lp mask h 13).1 j
 refine⟨13+r,by lia,?_⟩
 have a:=aw9 mask h r
 rw[hm,e,← hm,Nat.mod_eq_of_lt (axa mask h _),Nat.mod_eq_of_lt (show j<mask+1 by lia)] at a
 exact a
theorem a11{mask m:Nat}(hm:mask+1=2 ^ m)(h:Int)(j:Nat)(a:j<=mask):∃ k,k<10 * turns mask/\(pr mask h k).j=j:=by
 obtain⟨n,hn,e⟩:=aud hm h j a
 refine⟨sp mask h n,?_,by rw[aru];exact e⟩
 have:=aw8 mask h n
 unfold turns
 lia
structure TOk(t:SetTable):Prop where
 ris:t.place.toList.Pairwise (· < ·)
 dum:t.dummies = #[]
 le:∀ j∈t.place.toList,j<=t.mask
 two:∃ m,t.mask+1=2 ^ m
 room:t.place.size<=t.mask
theorem aed{t:SetTable}(x:TOk t){j i:Nat}:t.slot j=.live i ↔ t.place.toList[i]?=some j:=by
 have hb:=SS.below_ok t.place j x.ris
 unfold slot
 dsimp only
 rw[x.dum,SS.has_nil]
 constructor
 ·intro h
  split at h
  ·rename_i e
   cases h
   have e:=eq_of_beq e
   rw[aD6]
   exact e
  ·cases h
 ·intro h
  obtain⟨hi,e⟩:=aA1.mp h
  have b:below t.place j=i:=by
   rcases Nat.lt_trichotomy (below t.place j) i with a|a|a
   ·have c:=hb.2.2 (below t.place j) (by lia) (aA6 _)
    have d:=aG7.mp x.ris (below t.place j) i (by lia) hi a
    lia
   ·exact a
   ·have:=hb.2.1 i hi a
    lia
  rw[b,aF5 (by rw[← aD6,h];exact beq_self_eq_true _)]
theorem ai5{t:SetTable}(x:TOk t)(j:Nat):t.slot j=.empty\/∃ i,t.slot j=.live i:=by
 unfold slot
 dsimp only
 rw[x.dum,SS.has_nil]
 split
 ·exact .inr ⟨_,rfl⟩
 ·exact .inl rfl
theorem adt{t:SetTable}(x:TOk t){j:Nat}:t.slot j=.empty ↔ j ∉ t.place.toList:=by
 constructor
 ·intro h hm
  obtain⟨i,hi⟩:=aD3 hm
  rw[(aed x).mpr hi] at h
  cases h
 ·intro h
  rcases ai5 x j with e|⟨i,e⟩
  ·exact e
  ·exact absurd (aA2 ((aed x).mp e)) h
theorem aue{t:SetTable}(x:TOk t):∃ j,j<=t.mask/\t.slot j=.empty:=by
 apply aD5
 intro hn
 have a:∀ j∈List.range (t.mask+1),j∈t.place.toList:=λj b=>by
  have b:=aB9.mp b
  apply aD5
  intro h
  exact hn ⟨j,by lia,(adt x).mpr h⟩
 have:=aE8 List.nodup_range a
 rw[aE0,aA8] at this
 have:=x.room
 lia
theorem anp{t:SetTable}(x:TOk t){ha:Nat->Int}{h:Int}:∀(c k:Nat),(∃ k1,k<=k1/\k1<k+c/\t.slot (pr t.mask h k1).j=.empty) ->
  ∃ k1,k<=k1/\k1<k+c/\(∀ d,k<=d->d<k1->∃ i,t.slot (pr t.mask h d).j=.live i/\ha i ≠ h) /\
   ((t.slot (pr t.mask h k1).j=.empty ∧ probe.go t ha h c (pr t.mask h k)=some (.empty (pr t.mask h k1).j none)) ∨
    ∃ i,t.slot (pr t.mask h k1).j=.live i/\ha i=h/\probe.go t ha h c (pr t.mask h k)=some (.candidate (pr t.mask h k1).j i (pr t.mask h (k1+1))))
 |0,k,⟨k1,h1,h2,_⟩=>by lia
 | c+1,k,⟨k1,h1,h2,h3⟩=>by
  rcases ai5 x (pr t.mask h k).j with e|⟨i,e⟩
  ·refine⟨k,aA6 _,by lia,λd a b=>by lia,.inl ⟨e,?_⟩⟩
   unfold probe.go
   rw[e,ann]
  ·by_cases hi:ha i=h
   ·refine⟨k,aA6 _,by lia,λd a b=>by lia,.inr ⟨i,e,hi,?_⟩⟩
    unfold probe.go
    rw[e]
    dsimp only
    rw[aF5 (by rw[hi];exact beq_self_eq_true _)]
    rfl
   ·have f:k+1<=k1:=by
     rcases Nat.lt_or_eq_of_le h1 with h|h
     ·exact h
     ·rw[← h,e] at h3;cases h3
    obtain⟨p,r,q,n,g⟩:=anp x (ha:=ha) (h:=h) c (k+1) ⟨k1,f,by lia,h3⟩
    have o:probe.go t ha h (c+1) (pr t.mask h k)=probe.go t ha h c (pr t.mask h (k+1)):=by
     conv=>lhs;unfold probe.go
     rw[e]
     dsimp only
     rw[aF6 (by intro z;exact hi (eq_of_beq z))]
     rfl
    refine⟨p,by lia,by lia,λd l m=>?_,?_⟩
    ·rcases Nat.lt_or_eq_of_le l with b|b
     ·exact n d (by lia) m
     ·exact⟨i,by rw[← b];exact e,hi⟩
    ·rw[o]
     exact g
def HI(t:SetTable)(es:List (Int × Value)):Prop:=es.length=t.place.size/\∀(i:Nat)(e:Int × Value)(j:Nat),es[i]?=some e->t.place.toList[i]?=some j->∃ k,(pr t.mask e.1 k).j=j/\∀ k',k'<k->t.slot (pr t.mask e.1 k').j ≠ .empty
theorem HI.found{t:SetTable}{es:List (Int × Value)}(x:TOk t)(f:HI t es){h:Int}{k1:Nat}(g:t.slot (pr t.mask h k1).j=.empty){i:Nat}{e:Int × Value}(hi:es[i]?=some e)(hh:e.1=h):∃ k,k<k1/\t.slot (pr t.mask h k).j=.live i:=by
 have b:i<t.place.toList.length:=by rw[aA8,← f.1];exact(aA1.mp hi).1
 obtain⟨k,c,d⟩:=f.2 i e _ hi (aA0 b)
 rw[hh] at c d
 have hs:t.slot (pr t.mask h k).j=.live i:=(aed x).mpr (by rw[c];exact aA0 b)
 refine⟨k,?_,hs⟩
 rcases Nat.lt_trichotomy k k1 with a|a|a
 ·exact a
 ·subst a;rw[g] at hs;cases hs
 ·exact absurd g (d k1 a)
theorem ins_get{α:Type}(l:List α)(p:Nat)(x : α)(b:p<=l.length)(i:Nat):(l.take p++x::l.drop p)[i]?=if i<p then l[i]? else if i=p then some x else l[i-1]?:=by
 have a:(l.take p).length=p:=by rw[aH0];lia
 by_cases h1:i<p
 ·rw[aF5 h1,aC3 (by lia),List.getElem?_take,aF5 h1]
 ·rw[aF6 h1,aC8 (by lia),a]
  by_cases h2:i=p
  ·rw[aF5 h2,h2,aI7];rfl
  ·rw[aF6 h2]
   obtain⟨d,hd⟩:∃ d,i-p=d+1:=⟨i-p-1,by lia⟩
   rw[hd,aI1,aI3,show p+d=i-1 by lia]
theorem aee(t:SetTable)(j:Nat):(t.put j).1.place.toList=t.place.toList.take (below t.place j)++j::t.place.toList.drop (below t.place j):=SetTable.toList_insertAt ..
theorem awb(t:SetTable)(j:Nat):(t.put j).1.mask=t.mask:=rfl
theorem TOk.put{t:SetTable}(x:TOk t){j:Nat}(b:j<=t.mask)(d:t.slot j=.empty)(c:t.place.size+1<=t.mask):TOk (t.put j).1:=by
 have hb:=SS.below_ok t.place j x.ris
 refine⟨?_,?_,λq a=>?_,x.two,?_⟩
 ·refine SS.put_rise x.ris λe=>?_
  exact(adt x).mp d (by rw[← aD6] at e;exact aA2 e)
 ·show(if has t.dummies j=true then _ else t.dummies) = #[]
  rw[x.dum,SS.has_nil];rfl
 ·rw[aee] at a
  rcases aA7.mp a with h|h
  ·exact x.le q (aC0 h)
  ·rcases aA9.mp h with h|h
   ·rw[h];exact b
   ·exact x.le q (aC4 h)
 ·have:(t.put j).1.place.toList.length=t.place.toList.length+1:=by
   rw[aee,aB1,aE4,aH0,aI9]
   have:=hb.1
   simp only[aA8]
   lia
  simp only[aA8] at this
  rw[this]
  exact c
theorem HI.put{t:SetTable}{es:List (Int × Value)}(x:TOk t)(n:HI t es){j:Nat}(p:j<=t.mask)(r:t.place.size+1<=t.mask){e:Int × Value}{k1:Nat}(v:(pr t.mask e.1 k1).j=j)(A:t.slot j=.empty)(s:∀ d,d<k1->t.slot (pr t.mask e.1 d).j ≠ .empty) :
  HI (t.put j).1 (es.take (below t.place j)++e::es.drop (below t.place j)):=by
 have hb:=SS.below_ok t.place j x.ris
 have w:=x.put p A r
 have u:es.length=t.place.toList.length:=by rw[aA8];exact n.1
 have g:below t.place j<=t.place.toList.length:=by rw[aA8];exact hb.1
 have b:∀ q,t.slot q ≠ .empty->(t.put j).1.slot q ≠ .empty:=λq y z=>by
  rw[adt w] at z
  refine y ((adt x).mpr λhm=>z ?_)
  rw[aee]
  rw[← aC1 (below t.place j) t.place.toList] at hm
  rcases aA7.mp hm with h|h
  ·exact aC7 _ h
  ·exact aB3 _ (aB5 _ h)
 refine⟨?_,λi o j' hi a=>?_⟩
 ·have f:(t.put j).1.place.toList.length=es.length+1:=by
   rw[aee,aB1,aE4,aH0,aI9]
   lia
  rw[← aA8,f,aB1,aE4,aH0,aI9]
  lia
 ·rw[aee,ins_get _ _ _ g] at a
  rw[ins_get _ _ _ (by lia)] at hi
  rw[awb]
  by_cases f:i<below t.place j
  ·rw[aF5 f] at hi a
   obtain⟨k,m,l⟩:=n.2 i o j' hi a
   exact⟨k,m,λd c=>b _ (l d c)⟩
  ·rw[aF6 f] at hi a
   by_cases h2:i=below t.place j
   ·rw[aF5 h2] at hi a
    cases hi
    cases a
    exact⟨k1,v,λd c=>b _ (s d c)⟩
   ·rw[aF6 h2] at hi a
    obtain⟨k,m,l⟩:=n.2 (i-1) o j' hi a
    exact⟨k,m,λd c=>b _ (l d c)⟩
def ow(owner:Array (Option Nat))(j:Nat):Option Nat:=owner.getD j none
theorem arv(f:Nat->Bool):∀(n:Nat),(∃ k,(List.range n).find? f=some k/\k<n/\f k=true/\∀ a,a<k->f a=false)\/((List.range n).find? f=none/\∀ a,a<n->f a=false):=λn=>by
 cases h:(List.range n).find? f with
 | none =>
  refine .inr ⟨rfl,λa b=>?_⟩
  have:=List.find?_eq_none.mp h a (aB9.mpr b)
  simpa using this
 | some k =>
  refine .inl ⟨k,rfl,aB9.mp (List.mem_of_find?_eq_some h),List.find?_some h,λa b=>?_⟩
  rw[List.find?_range_eq_some] at h
  have:=h.2.2 a b
  simpa using this
theorem ap7{mask:Nat}{owner:Array (Option Nat)}(hsz:owner.size=mask+1){h:Int}{ne m:Nat}(i:(lp mask h ne).1=m)(f:ow owner m=none)(g:m<=mask):∀(b n:Nat),n+b > ne->n<=ne->(∀ s',s'<sp mask h n->ow owner (pr mask h s').j ≠ none) ->
  ∃ s,layClean.free mask owner b (lp mask h n).1 (lp mask h n).2=some (pr mask h s).j/\ow owner (pr mask h s).j=none/\(pr mask h s).j<=mask/\∀ s',s'<s->ow owner (pr mask h s').j ≠ none
 |0,n,h1,h2,_=>by lia
 | b+1,n,h1,h2,hall=>by
  have y:=axa mask h n
  have u:runEnd mask (lp mask h n).1<=mask/\(lp mask h n).1<=runEnd mask (lp mask h n).1:=by unfold runEnd;split <;> lia
  have o:∀ j,j<=mask->owner.getD j (some 0)=ow owner j:=λj A=>by
   unfold ow
   simp[Array.getD,hsz,show j<mask+1 by lia]
  have d:∀ a,a<=runEnd mask (lp mask h n).1-(lp mask h n).1->(pr mask h (sp mask h n+a)).j=(lp mask h n).1+a:=λa ha=>by rw[ano (aru mask h n) a ha];rfl
  have c:∀ K,K<=runEnd mask (lp mask h n).1-(lp mask h n).1+1->(∀ l,l<K->(owner.getD ((lp mask h n).1+l) (some 0)).isNone=false)->∀ s',s'<sp mask h n+K->ow owner (pr mask h s').j ≠ none:=λK C hf s' r=>by
   by_cases hs:s'<sp mask h n
   ·exact hall s' hs
   ·obtain⟨a,rfl⟩:∃ a,s'=sp mask h n+a:=⟨s'-sp mask h n,by lia⟩
    rw[d a (by lia),← o _ (by lia)]
    intro z
    have:=hf a (by lia)
    rw[z] at this
    cases this
  unfold layClean.free
  rcases arv (λk=>(owner.getD ((lp mask h n).1+k) (some 0)).isNone) (runEnd mask (lp mask h n).1+1-(lp mask h n).1) with ⟨k,e,B,q,p⟩|⟨e,hf⟩
  ·rw[e]
   refine⟨sp mask h n+k,by rw[d k (by lia)],?_,by rw[d k (by lia)];lia,c k (by lia) p⟩
   rw[d k (by lia),← o _ (by lia)]
   simpa using q
  ·rw[e]
   have v:n ≠ ne:=λz=>by
    subst z
    have:=hf 0 (by lia)
    rw[Nat.add_zero,i,o m g,f] at this
    cases this
   have w:=ap7 hsz i f g b (n+1) (by lia) (by lia) (λs' r=>c _ (aA6 _) (λl x=>hf l (by lia)) s' (by
    have:sp mask h (n+1)=sp mask h n+(runEnd mask (lp mask h n).1-(lp mask h n).1)+1:=rfl
    lia))
   exact w
structure Lay(mask:Nat)(hs:List Int)(owner:Array (Option Nat)):Prop where
 sz:owner.size=mask+1
 at':∀ k h,hs[k]?=some h->∃ s,(pr mask h s).j<=mask/\ow owner (pr mask h s).j=some k/\∀ s',s'<s->ow owner (pr mask h s').j ≠ none
 un:∀ j k,ow owner j=some k->k<hs.length
 inj:∀ j j' k,ow owner j=some k->ow owner j'=some k->j=j'
theorem a12{owner:Array (Option Nat)}{j:Nat}(h:owner.size<=j):ow owner j=none:=by
 unfold ow
 simp[Array.getD,show ¬ (j<owner.size) by lia]
theorem Lay.start(mask:Nat):Lay mask [] (Array.replicate (mask+1) none):=by
 have hn:∀ j,ow (Array.replicate (mask+1) none) j=none:=λj=>by
  unfold ow
  simp only[Array.getD]
  split
  ·simp
  ·rfl
 exact⟨by simp,λk h a=>by simp at a,λj k e=>(by rw[hn] at e;cases e),λj j' k e=>(by rw[hn] at e;cases e)⟩
theorem Lay.gap{mask:Nat}{hs:List Int}{owner:Array (Option Nat)}(x:Lay mask hs owner)(m:hs.length<=mask):∃ j,j<=mask/\ow owner j=none:=by
 apply aD5
 intro hn
 have c:∀ j,j<=mask->∃ k,ow owner j=some k:=λj g=>by
  cases e:ow owner j with
  |some k=>exact⟨k,rfl⟩
  |none=>exact absurd ⟨j,g,e⟩ hn
 have i:((List.range (mask+1)).map λj=>(ow owner j).getD 0).Nodup:=by
  rw[List.Nodup,aG1]
  refine aI0 (λ{a b} ha hb h=>?_) List.nodup_range
  obtain⟨k,f⟩:=c a (by have:=aB9.mp ha;lia)
  obtain⟨l,d⟩:=c b (by have:=aB9.mp hb;lia)
  rw[f,d]
  intro e
  have e:k=l:=e
  subst e
  exact h (x.inj a b k f d)
 have:=aE8 (l₂:=List.range hs.length) i λk f=>by
  obtain⟨j,g,rfl⟩:=aB7.mp f
  obtain⟨k,e⟩:=c j (by have:=aB9.mp g;lia)
  rw[e]
  exact aB9.mpr (x.un j k e)
 rw[aA3,aE0,aE0] at this
 lia
theorem ag0{owner:Array (Option Nat)}{j q:Nat}{o:Option Nat}(a:j<owner.size):ow (owner.setIfInBounds j o) q=if q=j then o else ow owner q:=by
 unfold ow
 simp only[Array.getD,Array.size_setIfInBounds]
 by_cases e:q=j
 ·subst e
  simp[a]
 ·rw[aF6 e]
  split
  ·rename_i hq
   simp[Array.getElem_setIfInBounds,hq,Ne.symm e]
  ·rfl
theorem Lay.next{mask m:Nat}(hm:mask+1=2 ^ m){hs:List Int}{owner:Array (Option Nat)}(x:Lay mask hs owner)(n:hs.length<=mask)(h:Int) :
  ∃ j,layClean.free mask owner (turns mask) (bits h % (mask+1)) (bits h)=some j/\Lay mask (hs++[h]) (owner.setIfInBounds j (some hs.length)):=by
 obtain⟨A,f,p⟩:=x.gap n
 obtain⟨ne,C,D⟩:=aud hm h A f
 obtain⟨s,o,w,B,u⟩:=ap7 x.sz D p f (turns mask) 0 (by unfold turns;lia) (aG0 _) (λs' c=>by cases c)
 have b:(pr mask h s).j<owner.size:=by rw[x.sz];lia
 have a:∀ q,ow owner q ≠ none->ow (owner.setIfInBounds (pr mask h s).j (some hs.length)) q ≠ none:=λq v=>by
  rw[ag0 b]
  split
  ·simp
  ·exact v
 refine⟨_,o,⟨by rw[Array.size_setIfInBounds];exact x.sz,λk h' g=>?_,λj k e=>?_,λj j' k e d=>?_⟩⟩
 ·by_cases hkl:k<hs.length
  ·rw[aC3 hkl] at g
   obtain⟨s2,r,l,y⟩:=x.at' k h' g
   refine⟨s2,r,?_,λs' c=>a _ (y s' c)⟩
   rw[ag0 b,aF6 (λz=>by rw[z,w] at l;cases l)]
   exact l
  ·have i:=(aA1.mp g).1
   rw[aB1] at i
   simp at i
   have:k=hs.length:=by lia
   subst this
   rw[aC8 (aA6 _),aI7] at g
   cases g
   exact⟨s,B,by rw[ag0 b,aF5 rfl],λs' c=>a _ (u s' c)⟩
 ·rw[ag0 b] at e
  rw[aB1]
  split at e
  ·cases e;simp
  ·have:=x.un j k e;lia
 ·rw[ag0 b] at e d
  split at e
  ·rename_i h1
   cases e
   split at d
   ·rename_i h2;rw[h1,h2]
   ·have:=x.un j' _ d;lia
  ·split at d
   ·cases d
    have:=x.un j _ e;lia
   ·exact x.inj j j' k e d
theorem anq{mask m:Nat}(hm:mask+1=2 ^ m):∀(rest pre:List Int)(owner:Array (Option Nat)),Lay mask pre owner->pre.length+rest.length<=mask+1 ->
  ∃ a,rest.foldl (λ(b:Option (Array (Option Nat) × Nat)) h=>do
   let (owner,k) ← b
   let j ← layClean.free mask owner (turns mask) (bits h % (mask+1)) (bits h)
   pure (owner.setIfInBounds j (some k),k+1)) (some (owner,pre.length))=some (a,pre.length+rest.length)/\Lay mask (pre++rest) a
 |[],pre,owner,x,_=>⟨owner,rfl,by rw[aF0];exact x⟩
 | h::rest,pre,owner,x,hl=>by
  rw[aE4] at hl
  obtain⟨j,e,y⟩:=x.next hm (by lia) h
  obtain⟨o',c,d⟩:=anq hm rest (pre++[h]) _ y (by rw[aB1,List.length_singleton];lia)
  refine⟨o',?_,by rw[aB4] at d;exact d⟩
  rw[aB1,List.length_singleton] at c
  rw[List.foldl_cons,aE4]
  have f:(do
   let (owner,k) ← (some (owner,pre.length):Option (Array (Option Nat) × Nat))
   let j ← layClean.free mask owner (turns mask) (bits h % (mask+1)) (bits h)
   pure (owner.setIfInBounds j (some k),k+1))=some (owner.setIfInBounds j (some pre.length),pre.length+1):=by
   show(layClean.free mask owner (turns mask) (bits h % (mask+1)) (bits h) >>= λj=>pure (owner.setIfInBounds j (some pre.length),pre.length+1))=_
   rw[e]
   rfl
  rw[f,c]
  congr 2
  lia
theorem a13{mask m:Nat}(hm:mask+1=2 ^ m)(hs:Array Int)(b:hs.size<=mask+1):∃ owner,layClean mask hs=some owner/\Lay mask hs.toList owner:=by
 obtain⟨o,e,x⟩:=anq hm hs.toList [] _ (Lay.start mask) (by simpa using b)
 refine⟨o,?_,by simpa using x⟩
 unfold layClean
 rw[← Array.foldl_toList]
 have c:hs.toList.foldl (λ(a:Option (Array (Option Nat) × Nat)) h=>do
   let (owner,k) ← a
   let j ← layClean.free mask owner (turns mask) (bits h % (mask+1)) (bits h)
   pure (owner.setIfInBounds j (some k),k+1)) (some (Array.replicate (mask+1) none,0))=_:=e
 rw[c]
 rfl
def live(owner:Array (Option Nat))(mask:Nat):List (Nat × Nat):=(List.range (mask+1)).filterMap λj=>(owner.getD j none).map (j,·)
theorem live_mem{owner:Array (Option Nat)}{mask j k:Nat}:(j,k)∈live owner mask ↔ j<=mask/\ow owner j=some k:=by
 unfold live ow
 rw[List.mem_filterMap]
 constructor
 ·rintro⟨j',a,e⟩
  have a:=aB9.mp a
  cases h:owner.getD j' none with
  |none=>rw[h] at e;cases e
  |some k'=>rw[h] at e;cases e;exact⟨by lia,h⟩
 ·rintro⟨a,e⟩
  exact⟨j,aB9.mpr (by lia),by rw[e];rfl⟩
theorem azb{mask:Nat}{hs:List Int}{owner:Array (Option Nat)}(x:Lay mask hs owner):((live owner mask).map (·.2)).Nodup:=by
 rw[List.Nodup,aG1]
 have d:((live owner mask).map (·.1)).Pairwise (· < ·):=SS.live_rise owner (mask+1)
 rw[aG1] at d
 refine aI0 (λ{a b} ha hb c e=>?_) d
 obtain⟨j,k⟩:=a
 obtain⟨j',f⟩:=b
 have e:k=f:=e
 subst e
 have:=x.inj j j' k (live_mem.mp ha).2 (live_mem.mp hb).2
 have c:j<j':=c
 lia
theorem auf{mask:Nat}{hs:List Int}{owner:Array (Option Nat)}(x:Lay mask hs owner):((live owner mask).map (·.2)).Perm (List.range hs.length):=by
 refine(List.perm_ext_iff_of_nodup (azb x) List.nodup_range).mpr λk=>?_
 rw[aB7,aB9]
 constructor
 ·rintro⟨⟨j,c⟩,h,rfl⟩
  exact x.un j _ (live_mem.mp h).2
 ·intro h
  obtain⟨s,a,b,_⟩:=x.at' k _ (aA0 h)
  exact⟨((pr mask hs[k] s).j,k),live_mem.mpr ⟨a,b⟩,rfl⟩
theorem aku{α:Type}(xs:List α)(d : α):∀(l:List Nat),(∀ k∈l,k<xs.length)->l.filterMap (xs[·]?)=l.map λk=>xs.getD k d
 |[],_=>rfl
 | k::l,h=>by
  have a:=h k aB8
  rw[List.filterMap_cons,aA0 a,aD1,aku xs d l λq b=>h q (aB5 _ b),aD4,aA0 a]
  rfl
theorem azc{mask m finger moves:Nat}{led plain:Bool}(hm:mask+1=2 ^ m)(es:Array (Int × Value))(F:es.size<=mask) :
  ∃ t b es',laid mask finger moves led plain (es.map (·.1))=some (t,b)/\b.filterMap (es[·]?)=es'/\es'.size=es.size/\es'.toList.Perm es.toList/\TOk t/\HI t es'.toList/\t.mask=mask/\t.place.size=es.size/\t.led=led/\t.plain=plain:=by
 obtain⟨owner,e,x⟩:=a13 hm (es.map (·.1)) (by simp;lia)
 have d:(es.map (·.1)).toList.length=es.size:=by simp
 have u:=auf x
 rw[d] at u
 have f:(live owner mask).length=es.size:=by have:=u.length_eq;simpa using this
 have r:=aku es.toList (0,Value.none) ((live owner mask).map (·.2)) λk g=>by rw[aA8];exact aB9.mp (u.mem_iff.mp g)
 have c:((((live owner mask).map (·.2)).toArray).filterMap (es[·]?)).toList=((live owner mask).map (·.2)).map λk=>es.toList.getD k (0,.none):=by
  rw[← r]
  simp
 have o:(((live owner mask).map (·.1)).toArray).toList=(live owner mask).map (·.1):=by simp
 have y:TOk { mask,place:=((live owner mask).map (·.1)).toArray,dummies:=#[],finger,led,moves,plain }:=by
  refine⟨by show(((live owner mask).map (·.1)).toArray).toList.Pairwise _;rw[o];exact SS.live_rise owner (mask+1),rfl,λj a=>?_,⟨m,hm⟩,?_⟩
  ·have a:j∈(live owner mask).map (·.1):=by simpa using a
   obtain⟨⟨j',k⟩,h,rfl⟩:=aB7.mp a
   exact(live_mem.mp h).1
  ·simp only[aB2,aA3]
   lia
 refine⟨_,_,_,by unfold laid;rw[e];rfl,rfl,?_,?_,y,⟨?_,λi q j hi a=>?_⟩,rfl,?_,rfl,rfl⟩
 ·rw[← aA8]
  refine Eq.trans (congrArg List.length c) ?_
  rw[aA3,aA3]
  exact f
 ·refine(List.Perm.of_eq c).trans ?_
  have D:es.toList=(List.range es.size).map λk=>es.toList.getD k (0,.none):=by
   refine aG2 λk=>?_
   rw[aA5]
   by_cases g:k<es.size
   ·rw[List.getElem?_range g,aA0 (by rw[aA8];exact g),aI2,aD4,aA0 (by rw[aA8];exact g)]
    rfl
   ·rw[aE1 (by rw[aA8];lia),aE1 (by rw[aE0];lia)]
    rfl
  refine(u.map _).trans ?_
  rw[← D]
 ·refine Eq.trans (congrArg List.length c) ?_
  rw[aA3,aA3]
  simp
 ·have hi:=(congrArg (·[i]?) c).symm.trans hi
  have a:((live owner mask).map (·.1))[i]?=some j:=by simpa using a
  rw[aD9,aA5] at hi
  rw[aA5] at a
  cases hli:(live owner mask)[i]? with
  |none=>rw[hli] at a;cases a
  | some p =>
   obtain⟨j',k⟩:=p
   rw[hli] at hi a
   cases a
   have n:=live_mem.mp (aA2 hli)
   have l:k<es.size:=by have:=x.un _ _ n.2;rwa [d] at this
   have B:q=es.toList.getD k (0,.none):=by simpa using hi.symm
   have hh:(es.map (·.1)).toList[k]?=some q.1:=by
    rw[B,Array.toList_map,aA5,aA0 (by rw[aA8];exact l),aD4,aA0 (by rw[aA8];exact l)]
    rfl
   obtain⟨s,G,A,C⟩:=x.at' k _ hh
   refine⟨s,x.inj _ _ k A n.2,λs' w z=>?_⟩
   have hn:=C s' w
   cases ho:ow owner (pr mask q.1 s').j with
   |none=>exact hn ho
   | some k' =>
    have v:(pr mask q.1 s').j<=mask:=by
     apply aD5
     intro E
     rw[a12 (by rw[x.sz];lia)] at ho
     cases ho
    refine(adt y).mp z ?_
    show _∈(((live owner mask).map (·.1)).toArray).toList
    rw[o]
    exact aB7.mpr ⟨_,live_mem.mpr ⟨v,ho⟩,rfl⟩
 ·simp only[aB2,aA3]
  exact f
theorem anr(n:Nat):∀(c a:Nat),n<2 ^ (a+c)->∃ b,sizeAbove.go n c (2 ^ a)=2 ^ b/\n<2 ^ b/\a<=b/\(2 ^ b=2 ^ a\/2 ^ b<=2 * n)
 |0,a,h=>⟨a,rfl,by simpa using h,aA6 _,.inl rfl⟩
 | c+1,a,h=>by
  unfold sizeAbove.go
  by_cases hs:2 ^ a<=n
  ·rw[aF5 hs,← Nat.pow_succ]
   obtain⟨b,g,f,i,d⟩:=anr n c (a+1) (by rw[show a+1+c=a+(c+1) by lia];exact h)
   refine⟨b,g,f,by lia,.inr ?_⟩
   rcases d with d|d
   ·rw[d,Nat.pow_succ];lia
   ·exact d
  ·rw[aF6 hs]
   exact⟨a,rfl,by lia,aA6 _,.inl rfl⟩
theorem awc{n:Nat}(h:n<=100000):∃ m,sizeAbove n=2 ^ m/\n<2 ^ m/\3<=m/\(2 ^ m=8\/2 ^ m<=2 * n):=by
 obtain⟨b,f,d,c,a⟩:=anr n 64 3 (aE2 h (by decide))
 exact⟨b,f,d,c,a⟩
theorem aug{m n:Nat}(h:2 ^ m<=2 * n)(hn:n<8192):2 ^ m<=8192:=by
 apply aD5
 intro b
 have:13<m:=(Nat.pow_lt_pow_iff_right (a:=2) (by decide)).mp (by show 2 ^ 13<2 ^ m;lia)
 have:=Nat.pow_le_pow_right (n:=2) (by decide) (show 14<=m by lia)
 lia
end SH
namespace SH
open PySem PySem.W PyProof.Rows
section
variable{prog:Program}{w:World}{A:Around}{E:Value->Shared->Prop}{s:Shared}{U:Addr->Prop}
abbrev TK(prog:Program)(w:World):=tupleKind (intKind prog w)
theorem ah2{ks:List Int}{a:Addr}{Q:Bool->Shared->Prop}(f:(TK prog w).is s.heap ks a)(h:Q false s):wpAny (model prog w) A (ofAClassStatement 8 (.ref a)) Q E s:=by
 have j:=IsTupleKey.typeIs f
 obtain⟨o,items,n,g,_,hd,hi⟩:=f
 unfold ofAClassStatement
 refine aJ1 (wpAny_typeOf j ?_)
 show wpAny _ _ (pure true >>= _) _ _ s
 refine aJ1 (aJ2 ?_)
 simp only[Bool.not_true,Bool.false_eq_true,if_false]
 refine aJ1 (wpAny_seqItems g hd ?_)
 refine aJ1 ?_
 show wpAny _ _ (forIn items _ _) _ _ s
 rw[← Array.forIn_toList]
 refine wpAny_forIn_list _ (λrest r s'=>r.1=none/\s'=s/\∀ v∈rest,carriedByValue v=true) _ ?_ ?_ _ _ ⟨rfl,rfl,hi.byValue⟩
 ·rintro v rest r s' ⟨d,rfl,b⟩
  have i:=b v aB8
  have e:ofAClassStatement 7 v=pure false:=by
   cases v <;> first|(simp[carriedByValue] at i;done)|(unfold ofAClassStatement;rfl)
  rw[e]
  refine aJ1 (aJ2 ?_)
  simp only[Bool.false_eq_true,if_false]
  exact aJ2 ⟨rfl,rfl,λu c=>b u (aB5 _ c)⟩
 ·rintro⟨l,m⟩ s' ⟨d,rfl,_⟩
  simp only at d
  subst d
  exact aJ2 h
theorem arw{ks:List Int}{vs:List Value}(h:ItemsAre (intKind prog w) ks vs):∀ v∈vs,∃ i t,v=.int i t:=by
 induction h with
 |nil=>intro v a;cases a
 | cons h1 _ ih =>
  intro v a
  rcases aA9.mp a with rfl|a
  ·obtain⟨t,rfl⟩:=Value.isInt_shape h1
   exact⟨_,t,rfl⟩
  ·exact ih v a
theorem aop{ks:List Int}{a:Addr}{Q:Bool->Shared->Prop}(f:(TK prog w).is s.heap ks a)(h:Q true s):wpAny (model prog w) A (hashByValue 8 (.ref a)) Q E s:=by
 have j:=IsTupleKey.typeIs f
 obtain⟨o,items,n,g,_,hd,hi⟩:=f
 unfold hashByValue
 refine aJ1 (wpAny_specialOf j F.slot_tuple_hash.lookup ?_)
 show wpAny _ _ (seqItems? (.ref a) >>= _) _ _ s
 refine aJ1 (wpAny_seqItems g hd ?_)
 refine aJ1 ?_
 show wpAny _ _ (forIn items _ _) _ _ s
 rw[← Array.forIn_toList]
 refine wpAny_forIn_list _ (λrest r s'=>r.1=none/\s'=s/\∀ v∈rest,∃ i t,v=Value.int i t) _ ?_ ?_ _ _ ⟨rfl,rfl,arw hi⟩
 ·rintro v rest r s' ⟨d,rfl,b⟩
  obtain⟨i,t,rfl⟩:=b v aB8
  have e:hashByValue 7 (.int i t)=pure true:=by unfold hashByValue;rfl
  rw[e]
  refine aJ1 (aJ2 ?_)
  simp only[Bool.not_true,Bool.false_eq_true,if_false]
  exact aJ2 ⟨rfl,rfl,λu c=>b u (aB5 _ c)⟩
 ·rintro⟨l,m⟩ s' ⟨d,rfl,_⟩
  simp only at d
  subst d
  exact aJ2 h
theorem a14{j:List Int}{b0:Addr}{stored:List Value}{Q:Bool->Shared->Prop}(i:(TK prog w).is s.heap j b0)(g:∀ v∈stored,∃ k b,v=.ref b/\(TK prog w).is s.heap k b)(h:Q false s):wpAny (model prog w) A (searchCouldBeSeen (.ref b0) stored) Q E s:=by
 unfold searchCouldBeSeen
 refine aJ1 ?_
 refine wpAny_forIn_list _ (λrest r s'=>r.1=none/\s'=s/\∀ v∈rest,∃ k b,v=.ref b/\(TK prog w).is s.heap k b) _ ?_ ?_ _ _ ⟨rfl,rfl,g⟩
 ·rintro v rest r s' ⟨f,rfl,c⟩
  obtain⟨k,b,rfl,hb⟩:=c v aB8
  have a:∀ u∈rest,∃ k b,u=Value.ref b/\(TK prog w).is s'.heap k b:=λu d=>c u (aB5 _ d)
  dsimp only
  split
  ·exact aJ2 ⟨rfl,rfl,a⟩
  ·refine aJ1 ((TK prog w).quiet i ?_)
   simp only[Bool.not_true,Bool.false_eq_true,if_false]
   refine aJ1 ((TK prog w).quiet hb ?_)
   simp only[Bool.not_true,Bool.false_eq_true,if_false]
   refine aJ1 (ah2 i ?_)
   simp only[Bool.false_eq_true,if_false]
   refine aJ1 (ah2 hb ?_)
   simp only[Bool.false_eq_true,if_false]
   exact aJ2 ⟨rfl,rfl,a⟩
 ·rintro⟨l,m⟩ s' ⟨f,rfl,_⟩
  simp only at f
  subst f
  exact aJ2 h
theorem a3g(mask:Nat)(h:Int):∀ k,(pr mask h k).j+(pr mask h k).more<=mask:=λk=>by
 have run:∀ i,i<mask+1->i+(SetTable.runEnd mask i-i)<=mask:=λi hi=>by unfold SetTable.runEnd;split <;> lia
 induction k with
 |zero=>exact run _ (Nat.mod_lt _ (Nat.succ_pos _))
 | succ k ih =>
  show(adv mask (pr mask h k)).j+(adv mask (pr mask h k)).more<=mask
  unfold adv
  split
  ·dsimp only;lia
  ·exact run _ (Nat.mod_lt _ (Nat.succ_pos _))
structure ST(prog:Program)(w:World)(U:Addr->Prop)(a:Addr)(es:Array (Int × Value))(ep:Nat)(t:SetTable)(ks:List (List Int))(h:Heap):Prop where
 r:SS.SetR prog w a es ep t h
 ok:TOk t
 hi:HI t es.toList
 pl:t.plain=true
 msk:7<=t.mask/\t.mask<=8191
 len:ks.length=es.size
 gd:∀(i:Nat) e k,es.toList[i]?=some e->ks[i]?=some k->∃ b,e=((TK prog w).hash k,.ref b)/\(TK prog w).is h k b/\U b
 nd:ks.Nodup
theorem ST.stored{a:Addr}{es:Array (Int × Value)}{ep:Nat}{t:SetTable}{ks:List (List Int)}{h:Heap}(x:ST prog w U a es ep t ks h){e:Int × Value}(g:e∈es.toList):∃ k b,e=((TK prog w).hash k,.ref b)/\(TK prog w).is h k b/\U b:=by
 obtain⟨i,hi⟩:=aD3 g
 have c:i<ks.length:=by rw[x.len,← aA8];exact(aA1.mp hi).1
 obtain⟨b,f,d⟩:=x.gd i e _ hi (aA0 c)
 exact⟨_,b,f,d⟩
theorem aoq{a b0:Addr}{es:Array (Int × Value)}{ep:Nat}{t:SetTable}{ks:List (List Int)}{n:List Int}{Q:SetFound->Shared->Prop}(hu:(TK prog w).room A)(x:ST prog w U a es ep t ks s.heap)(R:(TK prog w).is s.heap n b0)
  (h1:n∈ks->Q (.there none) s) (h2:n ∉ ks->∀ k1,(pr t.mask ((TK prog w).hash n) k1).j<=t.mask->t.slot (pr t.mask ((TK prog w).hash n) k1).j=.empty->(∀ l,l<k1->t.slot (pr t.mask ((TK prog w).hash n) l).j ≠ .empty)->Q (.free (pr t.mask ((TK prog w).hash n) k1).j false) s) :
  ∀(d D:Nat)(f:Option SetTable.Probe),d+D > 10 * SetTable.turns t.mask->f.getD (t.probeStart ((TK prog w).hash n))=pr t.mask ((TK prog w).hash n) D->(∀ l,l<D->∃ i,t.slot (pr t.mask ((TK prog w).hash n) l).j=.live i/\ks[i]? ≠ some n) ->
   wpAny (model prog w) A (setSearchFrom a (.ref b0) ((TK prog w).hash n) true d f) Q E s:=by
 obtain⟨o,ho,hx,hd,hf,hT⟩:=id x.r
 generalize hhx:(TK prog w).hash n=hx0 at *
 obtain⟨je,S,B⟩:=aue x.ok
 obtain⟨m,hm⟩:=x.ok.two
 obtain⟨P,a8,F⟩:=a11 hm hx0 je S
 have Z:t.gaveWay=false:=by
  unfold SetTable.gaveWay
  have:m ≠ 0:=λz=>by rw[z] at hm;have:=x.msk.1;simp at hm;lia
  obtain⟨m',rfl⟩:=Nat.exists_eq_succ_of_ne_zero this
  rw[Nat.pow_succ] at hm
  have:t.mask % 2=1:=by lia
  rw[this];rfl
 intro d
 induction d with
 | zero =>
  intro D f a0 _ p
  exfalso
  obtain⟨i,hi,_⟩:=p P (by lia)
  rw[F,B] at hi
  cases hi
 | succ d ih =>
  intro D f a0 T p
  have a6:D<=P:=by
   apply aD5
   intro hc
   obtain⟨i,hi,_⟩:=p P (by lia)
   rw[F,B] at hi
   cases hi
  unfold setSearchFrom
  refine aJ1 (wpAny_setState_of ho hd hf ?_)
  dsimp only
  rw[Z]
  simp only[Bool.false_eq_true,if_false]
  rw[T]
  obtain⟨k1,a1,a2,a3,a4⟩:=anp x.ok (ha:=λi=>(es[i]?.map (·.1)).getD 0) (h:=hx0) (10 * SetTable.turns t.mask) D ⟨P,a6,by lia,by rw[F];exact B⟩
  have c:∀ l,l<k1->∃ i,t.slot (pr t.mask hx0 l).j=.live i/\ks[i]? ≠ some n:=λl C=>by
   by_cases hkk:l<D
   ·exact p l hkk
   ·obtain⟨i,hi,I⟩:=a3 l (by lia) C
    refine⟨i,hi,λW=>?_⟩
    have J:=(aed x.ok).mp hi
    have g:i<es.toList.length:=by rw[x.hi.1,← aA8];exact(aA1.mp J).1
    obtain⟨b,K,_⟩:=x.gd i _ _ (aA0 g) W
    apply I
    rw[← aD6,aA0 g,K]
    exact hhx
  generalize hp:t.probe _ hx0 (pr t.mask hx0 D)=pp
  rcases a4 with ⟨e,G⟩|⟨i,e,a7,G⟩
  ·have H:pp=some (.empty (pr t.mask hx0 k1).j none):=hp.symm.trans G
   subst H
   dsimp only
   refine aJ2 (h2 (λhm=>?_) k1 ?_ e λl C z=>?_)
   ·obtain⟨i,hi⟩:=aD3 hm
    have g:i<es.toList.length:=by rw[aA8,← x.len];exact(aA1.mp hi).1
    obtain⟨b,K,_⟩:=x.gd i _ _ (aA0 g) hi
    obtain⟨k,R,hs⟩:=x.hi.found x.ok e (aA0 g) (by rw[K];exact hhx)
    obtain⟨N,O,I⟩:=c k R
    rw[hs] at O
    cases O
    exact I hi
   ·exact aD0 (Nat.le_add_right _ _) (a3g t.mask hx0 k1)
   ·obtain⟨i,hi,_⟩:=c l C
    rw[z] at hi
    cases hi
  ·have H:pp=some (.candidate (pr t.mask hx0 k1).j i (pr t.mask hx0 (k1+1))):=hp.symm.trans G
   subst H
   have J:=(aed x.ok).mp e
   have g:i<es.toList.length:=by rw[x.hi.1,← aA8];exact(aA1.mp J).1
   have u:i<ks.length:=by rw[x.len,← aA8];exact g
   obtain⟨b,K,e2⟩:=x.gd i _ _ (aA0 g) (aA0 u)
   have M:es[i]?=some ((TK prog w).hash ks[i],.ref b):=by rw[← aD6,aA0 g,K]
   have rest:wpAny (model prog w) A (do
     let some (_,y):=es[i]?|unsupported "internal:set-entry"
     let equal ← holding [y] (eqBool y (.ref b0))
     let (es',_,t') ← setState a
     if true && equal then return .there none
     let some same:=t'.sameMemory t.moves t.mask|unsupported "set.changed-during-lookup:is-the-new-block-at-the-old-address"
     let still ← match (if same then t'.slot (pr t.mask hx0 k1).j else .empty) with
      | .live N=>match es'[N]? with
       |some (_,y')=>do pure (if ← isSame y' y then some N else none)
       |none=>pure none
      |_=>pure none
     match still with
     |none=>rule "set.search.anew";setSearchFrom a (.ref b0) hx0 true d none
     |some N=>if equal then return .there (some N) else setSearchFrom a (.ref b0) hx0 true d (some (pr t.mask hx0 (k1+1)))) Q E s:=by
    rw[M]
    dsimp only
    refine aJ1 (aJ7 ((TK prog w).eqBool hu e2.1 R ?_))
    refine aJ1 (wpAny_setState_of ho hd hf ?_)
    dsimp only
    by_cases heq:ks[i]=n
    ·rw[aD8 heq]
     simp only[Bool.and_self,if_true]
     exact aJ2 (h1 (by rw[← heq];exact aF2 u))
    ·rw[aD7 heq]
     simp only[Bool.and_false,Bool.false_eq_true,if_false]
     have X:t.sameMemory t.moves t.mask=some true:=by
      unfold SetTable.sameMemory
      rw[aF5 (beq_self_eq_true _)]
     rw[X]
     dsimp only
     rw[aF5 rfl,e]
     dsimp only
     rw[M]
     dsimp only
     refine aJ1 (wpAny_isSame_ref_self ?_)
     refine aJ1 (aJ2 ?_)
     rw[aF5 rfl]
     dsimp only
     refine ih (k1+1) (some _) (by lia) rfl λl C=>?_
     rcases Nat.lt_or_eq_of_le (Nat.le_of_lt_succ C) with a5|L
     ·exact c l a5
     ·refine⟨i,by rw[L];exact e,λz=>heq ?_⟩
      rw[aA0 u] at z
      exact aC6 z
   dsimp only
   cases hled:t.led with
   | true =>
    simp only[Bool.not_true,Bool.false_eq_true,if_false]
    exact rest
   | false =>
    simp only[Bool.not_false,if_true]
    refine aJ1 (a14 R (λv hv=>?_) ?_)
    ·obtain⟨q,Y,rfl⟩:=aB7.mp hv
     have Y:q∈es.toList:=by
      have:=Array.mem_toList_iff.mp Y
      exact Array.mem_toList_iff.mpr (Array.mem_filter.mp this).1
     obtain⟨k,b,rfl,hb⟩:=x.stored Y
     exact⟨k,b,rfl,hb.1⟩
    ·simp only[Bool.false_eq_true,if_false]
     exact rest
theorem ST.at{a:Addr}{es:Array (Int × Value)}{ep:Nat}{t:SetTable}{ks:List (List Int)}{h h':Heap}(x:ST prog w U a es ep t ks h)(k:∀ o,h.get? a=some o->h'.get? a=some o)(f:∀ b ks,U b->(TK prog w).is h ks b->(TK prog w).is h' ks b):ST prog w U a es ep t ks h' :=
 ⟨x.r.at k,x.ok,x.hi,x.pl,x.msk,x.len,λi e q g j=>let ⟨b,d,c⟩:=x.gd i e q g j;⟨b,d,f b q c.2 c.1,c.2⟩,x.nd⟩
def SetT(prog:Program)(w:World)(U:Addr->Prop)(a:Addr)(L:List (List Int))(h:Heap):Prop:=∃ es ep t ks,ST prog w U a es ep t ks h/\t.place.size * 5<t.mask * 3/\ks.Perm L
theorem ans{a b:Addr}{ks:List Int}{h h':Heap}(hs:Heap.SameBut a h h')(j:(TK prog w).is h ks b){o:Obj}(g:h.get? a=some o)(i:o.ExactSet):(TK prog w).is h' ks b:=by
 obtain⟨f,items,n,c,d,r⟩:=j
 refine⟨f,items,n,?_,d,r⟩
 rw[hs.2 b λz=>?_]
 ·exact c
 ·subst z
  rw[g] at c
  cases c
  rw[i.1] at d
  exact absurd d (by decide)
theorem ap8{t:SetTable}{n:Nat}(x:TOk t)(h:t.place.size=n):t.fits n=true:=by
 unfold SetTable.fits SetTable.fill
 rw[x.dum,h,beq_self_eq_true,Bool.true_and,decide_eq_true_eq]
 have:=x.room
 show n+0<=t.mask
 lia
theorem ant{α:Type}(l:List α)(x : α)(p:Nat):(l.take p++x::l.drop p).Perm (x::l):=by
 have h:=List.perm_middle (a:=x) (l₁:=l.take p) (l₂:=l.drop p)
 rw[aC1] at h
 exact h
theorem awd{a:Addr}{es:Array (Int × Value)}{ep:Nat}{t:SetTable}{ks:List (List Int)}{Q:Unit->Shared->Prop}(x:ST prog w U a es ep t ks s.heap)(hz:es.size<=2040)(T:1<=es.size)
  (h:∀ h',Heap.SameBut a s.heap h'->∀ es' J t' u,ST prog w U a es' J t' u h'->t'.place.size * 5<t'.mask * 3->u.Perm ks->Q () { s with heap:=h' }):wpAny (model prog w) A (setRelay a (SetTable.grown es.size)) Q E s:=by
 obtain⟨o,I,hx,hd,hf,hT⟩:=id x.r
 have G:SetTable.grown es.size=es.size * 4:=by unfold SetTable.grown;rw[aF6 (by lia)]
 rw[G]
 obtain⟨m,R,a1,M,K⟩:=awc (n:=es.size * 4) (by lia)
 have h8:8<=2 ^ m:=Nat.pow_le_pow_right (n:=2) (by decide) M
 have Z:2 ^ m<=8192:=by
  rcases K with h|h
  ·lia
  ·exact aug h (by lia)
 unfold setRelay
 refine aJ1 (wpAny_setState_of I hd hf ?_)
 dsimp only
 rw[R,aF6 (by rw[sizeLine_eq];lia)]
 obtain⟨l,d,c,Y,e2,O,S,g,L,a0,N,el,F⟩:=azc (mask:=2 ^ m-1) (m:=m) (finger:=t.finger) (moves:=t.movedTo (2 ^ m-1)) (led:=t.led) (plain:=t.plain) (by lia) es (by lia)
 have er:t.relaid (es.map (·.1)) (es.size * 4)=some (l,d):=by
  unfold SetTable.relaid
  rw[R]
  exact Y
 rw[er]
 refine aJ1 ?_
 show wpAny _ _ (do
  let es':=d.filterMap (es[·]?)
  if es'.size != es.size then unsupported "internal:set-table-lost-an-element"
  pure (es',l)) _ _ _
 rw[e2]
 dsimp only
 rw[aF6 (by rw[O];simp)]
 refine aJ2 ?_
 dsimp only
 refine wpAny_storeSet_of I hd ?_ (by rw[O,sizeLine_eq];lia)
 have sb:=Heap.SameBut.update s.heap a (Obj.putSet c l)
 have r2:=x.r.put (es':=c) (t':=l) (ap8 g (by rw[O];exact N)) ⟨λhb=>by rw[el];exact hT.led hb,g.dum,λ_=>g.ris⟩
 have kk:∀ q b,(TK prog w).is s.heap q b->(TK prog w).is (s.heap.update a (Obj.putSet c l)) q b:=λq b hq=>ans sb hq I hx
 have y:∃ f:Int × Value->List Int,∀ e∈es.toList,∃ b,e=((TK prog w).hash (f e),.ref b)/\(TK prog w).is s.heap (f e) b/\U b:=by
  have:=Classical.skolem (p:=λ(e:Int × Value)(k:List Int)=>e∈es.toList->∃ b,e=((TK prog w).hash k,Value.ref b)/\(TK prog w).is s.heap k b/\U b)
  exact this.mp λe=>by
   by_cases he:e∈es.toList
   ·obtain⟨k,b,T,h2⟩:=x.stored he
    exact⟨k,λ_=>⟨b,T,h2⟩⟩
   ·exact⟨[],λz=>absurd z he⟩
 obtain⟨f,B⟩:=y
 have H:ks=es.toList.map f:=by
  refine aG2 λi=>?_
  rw[aA5]
  by_cases hi:i<ks.length
  ·have j:i<es.toList.length:=by rw[aA8,← x.len];exact hi
   rw[aA0 hi,aA0 j,aI2]
   obtain⟨b,D,C⟩:=x.gd i _ _ (aA0 j) (aA0 hi)
   obtain⟨b',g3,g4⟩:=B _ (aF2 j)
   have P:Value.ref b=.ref b':=(Prod.ext_iff.mp (D.symm.trans g3)).2
   cases P
   rw[(TK prog w).inj C.1 g4.1]
  ·rw[aE1 (by lia),aE1 (by rw[aA8,← x.len];lia)]
   rfl
 have v:(c.toList.map f).Perm ks:=by rw[H];exact S.map f
 refine h _ sb c _ l (c.toList.map f) ⟨r2,g,L,by rw[F];exact x.pl,by lia,by rw[aA3,aA8],λi e k D C=>?_,v.nodup_iff.mpr x.nd⟩ (by lia) v
 rw[aA5,D] at C
 cases C
 obtain⟨b,X,W⟩:=B e (S.mem_iff.mp (aA2 D))
 exact⟨b,X,kk _ b W.1,W.2⟩
theorem auh{a b0:Addr}{L:List (List Int)}{d:List Int}{Q:Bool->Shared->Prop}(hu:(TK prog w).room A)(x:SetT prog w U a L s.heap)(T:(TK prog w).is s.heap d b0)(hU:U b0)(hb:L.length+1<=2040)
  (h:∀ b h',Heap.SameBut a s.heap h'->SetT prog w U a (if d∈L then L else L++[d]) h'->Q b { s with heap:=h' }):wpAny (model prog w) A (setAddHashed a (.ref b0) ((TK prog w).hash d)) Q E s:=by
 obtain⟨es,ep,t,ks,x,a0,C⟩:=x
 obtain⟨o,N,hx,hd,hf,hT⟩:=id x.r
 have hsz:es.size=L.length:=by rw[← C.length_eq,x.len]
 have a5:t.place.size=es.size:=by have:=x.hi.1;rw[aA8] at this;lia
 unfold setAddHashed setAddHashedIn
 refine aJ7 (aJ1 (wpAny_setState_of N hd hf ?_))
 dsimp only
 have S:byScan (.ref b0) es=false:=rfl
 rw[S]
 simp only[Bool.false_eq_true,if_false]
 unfold setSearch
 refine aJ1 (aoq hu x T (λhm=>?_) (λhm k1 R M X=>?_) 100000 0 none ?_ rfl λk' P=>absurd P (Nat.not_lt_zero _))
 ·refine aJ2 ?_
  have e:s={ s with heap:=s.heap }:=by cases s;rfl
  have:=h false s.heap (Heap.SameBut.refl a s.heap) (by rw[aF5 (C.mem_iff.mp hm)];exact⟨es,ep,t,ks,x,a0,C⟩)
  rw[e];exact this
 ·have J:d ∉ L:=λz=>hm (C.mem_iff.mpr z)
  have l:t.place.size+1<=t.mask:=by have:=x.msk.1;lia
  obtain⟨j,D⟩:∃ j,j=(pr t.mask ((TK prog w).hash d) k1).j:=⟨_,rfl⟩
  rw[← D] at R M ⊢
  dsimp only
  refine aJ1 (wpAny_setState_of N hd hf ?_)
  dsimp only
  have p:(t.put j).1.plain=true:=x.pl
  rw[aF5 p]
  refine aJ1 (aop T ?_)
  rw[aF5 rfl]
  have a6:=(SS.below_ok t.place j x.ok.ris).1
  obtain⟨c,u⟩:∃ c,c=SetTable.insertAt es (t.put j).2 ((TK prog w).hash d,Value.ref b0):=⟨_,rfl⟩
  have f:c.toList=es.toList.take (SetTable.below t.place j)++((TK prog w).hash d,Value.ref b0)::es.toList.drop (SetTable.below t.place j):=by rw[u];exact SetTable.toList_insertAt ..
  have g:c.size=es.size+1:=by
   rw[← aA8,f,aB1,aE4,aH0,aI9,aA8]
   lia
  have B:=x.ok.put R M l
  have K:HI (t.put j).1 c.toList:=by
   rw[f]
   exact x.hi.put x.ok R l (e:=((TK prog w).hash d,Value.ref b0)) (k1:=k1) D.symm M X
  have G:(t.put j).1.place.size=c.size:=by have:=K.1;rw[aA8] at this;exact this.symm
  have y:(t.put j).1.fits c.size=true:=ap8 B G
  rw[← u]
  refine aJ1 (wpAny_storeSet_of N hd ?_ (by rw[g];rw[sizeLine_eq];lia))
  have r1:=x.r.put (es':=c) (t':=(t.put j).1) y (hT.put M)
  have v:=Heap.SameBut.update s.heap a (Obj.putSet c (t.put j).1)
  have Z:∀ q b,(TK prog w).is s.heap q b->(TK prog w).is (s.heap.update a (Obj.putSet c (t.put j).1)) q b:=λq b hq=>ans v hq N hx
  have x1:ST prog w U a c (ep+1) (t.put j).1 (ks.take (SetTable.below t.place j)++d::ks.drop (SetTable.below t.place j)) (s.heap.update a (Obj.putSet c (t.put j).1)):=by
   have Y:SetTable.below t.place j<=ks.length:=by rw[x.len];lia
   have O:SetTable.below t.place j<=es.toList.length:=by rw[aA8];lia
   refine⟨r1,B,K,p,x.msk,?_,λi e k m n=>?_,?_⟩
   ·rw[aB1,aE4,aH0,aI9,g,← x.len]
    lia
   ·rw[f,ins_get _ _ _ O] at m
    rw[ins_get _ _ _ Y] at n
    by_cases c1:i<SetTable.below t.place j
    ·rw[aF5 c1] at m n
     obtain⟨b,g1,F⟩:=x.gd i e k m n
     exact⟨b,g1,Z k b F.1,F.2⟩
    ·rw[aF6 c1] at m n
     by_cases c2:i=SetTable.below t.place j
     ·rw[aF5 c2] at m n
      cases m
      cases n
      exact⟨b0,rfl,Z d b0 T,hU⟩
     ·rw[aF6 c2] at m n
      obtain⟨b,g1,F⟩:=x.gd (i-1) e k m n
      exact⟨b,g1,Z k b F.1,F.2⟩
   ·refine(ant ks d _).nodup_iff.mpr (aI5.mpr ⟨hm,x.nd⟩)
  have H:(ks.take (SetTable.below t.place j)++d::ks.drop (SetTable.below t.place j)).Perm (L++[d]):=(ant ks d _).trans ((C.cons d).trans (List.perm_append_singleton d L).symm)
  by_cases hfull:(t.put j).1.tooFull=true
  ·rw[aF5 (by rw[hfull];rfl)]
   rw[← g]
   refine aJ1 (awd (s:={ s with heap:=s.heap.update a (Obj.putSet c (t.put j).1) }) x1 (by lia) (by lia) λh' a2 a3 W t2 a1 x2 I a4=>?_)
   refine aJ2 (h true h' (v.trans a2) ?_)
   rw[aF6 J]
   exact⟨a3,W,t2,a1,x2,I,a4.trans H⟩
  ·rw[aF6 (by intro z;exact hfull (by simpa using z))]
   refine aJ2 ?_
   refine h true _ v ?_
   rw[aF6 J]
   refine⟨c,ep+1,_,_,x1,?_,H⟩
   unfold SetTable.tooFull SetTable.fill at hfull
   rw[B.dum] at hfull
   simp at hfull
   lia
 ·have:=x.msk.2
  unfold SetTable.turns
  lia
end
end SH
namespace SS
open PySem PySem.W PyProof.Rows
section
variable{prog:Program}{w:World}{A:Around}{E:Value->Shared->Prop}{s:Shared}
def ab8(w:World):Obj:={ cls:=.type "set",dict:=none,data:=.set #[] 0 (.fresh 0 0 (!bt w)) }
theorem awe(a:Value){Q₁:Value->Shared->Prop}(h:Q₁ (.ref s.heap.objs.size) { s with heap:=s.heap.push (ab8 w) }) :
  codeAny (model prog w) A (.call (.builtin "set.__new__") ⟨[.type "set",a],[]⟩) (wants Q₁ E) s:=by
 refine codeAny_of_tree ?_
 show wpAny _ A.in1 (do checkBuiltinCall "set.__new__" ⟨[.type "set",a],[]⟩;again (.builtin "set.__new__" ⟨[.type "set",a],[]⟩)) _ _ s
 refine aJ1 (wpAny_of_eq (PySem.F.newCall_set_1 a) (aJ2 ⟨plainId_quiet PySem.F.plain_set_new _,aK8 PySem.F.entry_set_new ?_⟩))
 rw[aK2 PySem.F.plain_set_new _]
 unfold Builtin.«set.__new__» Builtin.Frozenset.newClass
 have b:=sub_set_self
 obtain⟨f,g,d,c,os⟩:=s
 dsimp only
 wp_walk
 refine wpAny_askSetting (aJ2 ?_)
 dsimp only
 simp only[newObj]
 refine aJ1 (wpAny_alloc (aJ2 ?_))
 exact aJ2 h
section
variable{R:Result->Shared->Prop}{I:Addr}{fp wr:List Addr}{n:Nat}{P:Nat->Value->Prop}{St:Nat->Heap->Prop}
end
end
end SS
namespace SH
open PySem PySem.W PyProof.Rows SS
section
variable{prog:Program}{w:World}{A:Around}{E:Value->Shared->Prop}{s:Shared}{U:Addr->Prop}
theorem azd(h:Heap):SetT prog w U h.objs.size [] (h.push (ab8 w)):=by
 have tok:TOk (SetTable.fresh 0 0 (!bt w)):=⟨List.Pairwise.nil,rfl,λj a=>(nomatch a),⟨3,rfl⟩,aG0 _⟩
 have hi:HI (SetTable.fresh 0 0 (!bt w)) ([]:List (Int × Value)):=⟨rfl,λi e j hi=>(nomatch hi)⟩
 exact⟨#[],0,_,[],⟨⟨_,aJ5 _ rfl,⟨rfl,rfl,rfl⟩,rfl,rfl,TbI.fresh _ _ _⟩,tok,hi,rfl,⟨aA6 7,show(7:Nat)<=8191 by decide⟩,rfl,λi e k hi=>(nomatch hi),List.nodup_nil⟩,show(0:Nat) * 5<7 * 3 by decide,.refl _⟩
section
variable{R:Result->Shared->Prop}{I:Addr}{fp wr:List Addr}{n:Nat}{P:Nat->Value->Prop}{St:Nat->Heap->Prop}
theorem a3h(W:Walks prog w A.in1 I fp wr n P St)(S:Addr)(T:S ∉ fp)(hu:(TK prog w).room A.in1)(h0:Heap)(val:Nat->List Int)(tup:Nat->Addr)(K:∀ i v,P i v->v=.ref (tup i))(hU:∀ i,i<n->U (tup i))(a4:∀ b,U b->b ≠ S/\b ∉ wr)(hb:n+1<=2040)
  (g:∀ h',(∀ b o,b ≠ S->b ∉ wr->h0.get? b=some o->h'.get? b=some o)->∀ i,i<n->(TK prog w).is h' (val i) (tup i)) :
  ∀(k i:Nat)(s:Shared)(L:List (List Int)),n-i=k->i<=n->St i s.heap->(∀ b o,b ≠ S->b ∉ wr->h0.get? b=some o->s.heap.get? b=some o)->SetT prog w U S L s.heap->L.Nodup->L.length<=i->(∀ x,x∈L ↔ ∃ j,j<i/\val j=x) ->
   (∀ h' Q G,(∀ b o,b ≠ S->b ∉ wr->s.heap.get? b=some o->h'.get? b=some o)->SetT prog w U S G h'->G.Nodup->G.length<=n->(∀ x,x∈G ↔ ∃ j,j<n/\val j=x)->R (.ok (.ret .none)) { s with heap:=h',toks:=Q }) ->
   codeAny (model prog w) A (.builtin "set.update.loop" ⟨[.ref S,.ref I],[]⟩) R s:=by
 have a2:S ∉ wr:=λh=>T (W.sub _ h)
 have mv:∀{h h':Heap}{L:List (List Int)},SetT prog w U S L h->(∀ b o,b ∉ wr->h.get? b=some o->h'.get? b=some o)->SetT prog w U S L h':=λ{h h' L} x hm=>by
  obtain⟨es,ep,t,ks,x,r⟩:=x
  exact⟨es,ep,t,ks,x.at (λo e=>hm S o a2 e) (λb ks hb ⟨o,items,m,e,q⟩=>⟨o,items,m,hm b o (a4 b hb).2 e,q⟩),r⟩
 intro k
 induction k with
 | zero =>
  intro i s L X hi p O hS f l c hR
  have Y:i=n:=by lia
  subst Y
  refine aK8 PyProof.Rows.F.entry_set_update_loop ?_
  rw[aK2 PyProof.Rows.F.plain_set_update_loop _]
  show wpAny _ A.in1 (pyNext (.ref I) >>= _) _ _ s
  refine aJ1 (W.done s _ _ p λh' Q X=>?_)
  show wpAny _ A.in1 (ret Value.none) _ _ _
  exact aJ2 (hR h' Q L (λb o _ hb e=>X b o hb e) (mv hS X) f l c)
 | succ k ih =>
  intro i s L X hi p O hS f l c hR
  have d:i<n:=by lia
  refine aK8 PyProof.Rows.F.entry_set_update_loop ?_
  rw[aK2 PyProof.Rows.F.plain_set_update_loop _]
  show wpAny _ A.in1 (pyNext (.ref I) >>= _) _ _ s
  refine aJ1 (W.item i s _ _ d p λv E Q hP M B=>?_)
  have ev:=K i v hP
  subst ev
  have a1:SetT prog w U S L E:=mv hS B
  have y:∀ b o,b ≠ S->b ∉ wr->h0.get? b=some o->E.get? b=some o:=λb o C u e=>B b o u (O b o C u e)
  show wpAny _ A.in1 (holding [Value.ref (tup i)] (setAdd S (.ref (tup i))) >>= _) _ _ _
  refine aJ1 (aJ7 ?_)
  unfold setAdd
  refine aJ7 ?_
  refine aJ1 ((TK prog w).pyHash hu (g E y i d) ?_)
  refine auh (s:={ s with heap:=E,toks:=Q+(TK prog w).draws (val i) }) hu a1 (g E y i d) (hU i d) (by lia) λb h' D Z=>?_
  refine aJ2 ⟨plainId_quiet PyProof.Rows.F.plain_set_update_loop _,ih (i+1) _ _ (by lia) d (W.frame _ E _ M λb hb o e=>?_) (λb o C u e=>?_) Z ?_ ?_ ?_ λa0 N G J H n1 n2 n3=>?_⟩
  ·rw[D.2 b (λh:b=S=>T (by rw[← h];exact hb))];exact e
  ·show h'.get? b=some o
   rw[D.2 b C];exact y b o C u e
  ·split
   ·exact f
   ·rename_i hm
    rw[aE7]
    refine⟨f,by simp,λa ha b hb=>?_⟩
    rw[aC2] at hb;subst hb
    exact λz=>hm (z ▸ ha)
  ·split
   ·lia
   ·rw[aB1,List.length_singleton];lia
  ·intro x
   have a3:x∈(if val i∈L then L else L++[val i]) ↔ x∈L\/x=val i:=by
    split
    ·rename_i hm;exact⟨.inl,λh=>h.elim id λe=>e ▸ hm⟩
    ·simp
   rw[a3,c x]
   constructor
   ·rintro(⟨j,a,b⟩|rfl)
    ·exact⟨j,by lia,b⟩
    ·exact⟨i,by lia,rfl⟩
   ·rintro⟨j,a,b⟩
    by_cases e:j=i
    ·subst e;exact .inr b.symm
    ·exact .inl ⟨j,by lia,b⟩
  ·refine hR a0 N G (λb o C u e=>J b o C u ?_) H n1 n2 n3
   show h'.get? b=some o
   rw[D.2 b C]
   exact B b o u e
end
theorem call_setT{U:Addr->Prop}{l:Addr}{items:Array Value}{n:Nat}{val:Nat->List Int}{tup:Nat->Addr}{Q:Value->Shared->Prop}
  (hh:A.handled=none) (hu:(TK prog w).room A.in1.in1.in1) (hl:s.heap.IsList l items) (hP:∀(i:Nat)(v:Value),items[i]?=some v->v=Value.ref (tup i)) (hi:∀ i,i<items.size->(TK prog w).is s.heap (val i) (tup i)) (hU:∀ i,i<items.size->U (tup i)) (I:∀ b,U b->b<s.heap.objs.size) (hb:items.size+1<=2040)
  (h:∀(h':Heap)(y:Nat)(L:List (List Int)),SetT prog w U s.heap.objs.size L h'->L.Nodup->L.length<=items.size->(∀ x,x∈L ↔ ∃ j,j<items.size/\val j=x) ->
   (∀ b o,s.heap.get? b=some o->h'.get? b=some o)->Q (.ref s.heap.objs.size) { s with heap:=h',toks:=y }) :
  wpAny (model prog w) A (call (.type "set") [.ref l]) Q E s:=by
 obtain⟨c,tl,a3⟩:=PySem.F.called_set.mro
 have P:=PySem.F.called_set.made
 have a5:=PySem.F.called_set.sub
 refine wpAny_call (codeAny_of_tree ?_)
 show wpAny _ _ (callAny (.type "set") _) _ _ _
 refine aJ2 ⟨Code.quiet_builtin _ (by decide +kernel),aK8 PySem.F.entry_type_call ?_⟩
 rw[Around.under_plain (weight_type_call_type "set" [.ref l] []) rfl]
 have h1:=PySem.F.called_set.notType
 have h2:=PySem.F.called_set.canCreate
 have a7:=PySem.F.typeCall_set_1 (.ref l)
 repeat (any_goals (first|assumption|wp_step))
 refine aJ6 (awe (.ref l) (E:=E) (Q₁:=λobj f=>obj=.ref s.heap.objs.size/\f={ s with heap:=s.heap.push (ab8 w) }) ⟨rfl,rfl⟩) λr f X=>?_
 cases r with
 |error e=>exact X
 | ok fl =>
  cases fl with
  | ret obj =>
   obtain⟨rfl,rfl⟩:=X
   have hS:(s.heap.push (ab8 w)).get? s.heap.objs.size=some (ab8 w):=aJ5 _ rfl
   have hT:Shared.TypeIs { s with heap:=s.heap.push (ab8 w) } (.ref s.heap.objs.size) "set":=⟨_,hS,rfl⟩
   have a9:=PySem.F.called_set.init.lookup
   have b1:=PySem.F.called_set.init.bind (.ref s.heap.objs.size)
   repeat (any_goals (first|assumption|wp_step))
   refine aJ6 (codeAny_call_builtin (R:=wants (λr g=>r=.none/\∃ h' y L,g={ s with heap:=h',toks:=y }/\SetT prog w U s.heap.objs.size L h'/\L.Nodup/\L.length<=items.size/\(∀ x,x∈L ↔ ∃ j,j<items.size/\val j=x) /\
     (∀ b o,s.heap.get? b=some o->h'.get? b=some o)) E) PySem.F.called_set.init.plain PySem.F.entry_set_init (check_set_init_1 hT ?_)) λB g a=>?_
   ·obtain⟨ol,z,H,nl,G⟩:=hl
    obtain⟨a2,p,O,d⟩:=ol
    simp only at H G
    subst H;subst G
    have K:(s.heap.push (ab8 w)).get? l=some { cls:=.type "list",dict:=p,data:=.seq items nl,slots:=d }:=aJ3 _ z
    have a4:=PySem.F.sub_list_set
    have a6:=PySem.F.sub_list_frozenset
    have b0:(Value.type "list" == Value.type "dict")=false:=by decide
    have M:(s.heap.push (ab8 w)).IsList l items:=⟨_,K,rfl,nl,rfl⟩
    unfold Builtin.«set.__init__» noKeywords Builtin.Frozenset.updateFrom
    generalize hPI:pyIter=PI
    unfold ab8 at *
    wp_walk
    subst hPI
    refine aK6 M ?_
    refine aJ1 (wpAny_runValue ?_)
    have J:l<s.heap.objs.size:=aJ4 z
    have a0:A.in1.in1.in1.handled=none:=by simp[hh]
    have D:l ≠ (s.heap.push (ab8 w)).objs.size:=by
     rw[aK3];exact aB6 (aF8 J)
    have a1:s.heap.objs.size ∉ [(s.heap.push (ab8 w)).objs.size,l]:=by
     rw[aK3];simp only[aA9,aC2,aI4,or_false,not_or]
     exact⟨aB6 (aI8 _),Nat.ne_of_gt J⟩
    have a8:∀ i,i<items.size->tup i<s.heap.objs.size:=λi h=>let ⟨_,_,_,e,_⟩:=hi i h;aJ4 e
    refine a3h (U:=U) (Walks.list a0 _ l D items) s.heap.objs.size a1 hu s.heap val tup hP hU (λb hb=>⟨aB6 (I b hb),by rw[aC2,aK3];exact aB6 (aF8 (I b hb))⟩) hb
     (λh' kp i h=>let ⟨o,its,m,e,q⟩:=hi i h;⟨o,its,m,kp _ o (aB6 (aJ4 e)) (by rw[aC2,aK3];exact aB6 (aF8 (aJ4 e))) e,q⟩)
     (items.size-0) 0 _ [] (by lia) (aG0 _)
     ⟨⟨_,aJ5 _ rfl,rfl,rfl⟩,(M.push _)⟩ (λb o _ _ e=>aJ3 _ (aJ3 _ e)) (let ⟨es,ep,t,ks,x,r⟩:=azd s.heap;⟨es,ep,t,ks,x.at (λo e=>aJ3 _ e) (λb ks hb ⟨o,its,m,e,q⟩=>⟨o,its,m,aJ3 _ e,q⟩),r⟩) List.nodup_nil (aA6 _) (λx=>by simp) λh' y L hk u Y S N=>?_
    show wpAny _ _ _ _ _ _
    refine aJ2 ?_
    show wpAny _ _ (ret Value.none) _ _ _
    refine aJ2 ⟨rfl,h',y,L,rfl,u,Y,S,N,λb o e=>?_⟩
    have C:=aJ4 e
    have Z:b ≠ s.heap.objs.size:=aB6 C
    have T:b ≠ (s.heap.push (ab8 w)).objs.size:=by
     rw[aK3];exact aB6 (aF8 C)
    exact hk b o Z (by rw[aC2];exact T) (aJ3 _ (aJ3 _ e))
   ·cases B with
    |error e=>exact a
    | ok fl₂ =>
     cases fl₂ with
     | ret r =>
      obtain⟨rfl,h',y,L,rfl,u,Y,S,N,W⟩:=a
      repeat (any_goals (first|assumption|wp_step))
      exact h _ _ _ u Y S N W
     |_=>exact a.elim
  |_=>exact X.elim
end
end SH
namespace SS
open PySem PySem.W PyProof.Rows
theorem slot_it_next:Slot "set_iterator" "__next__" "set_iterator.__next__" :=
 .of (owner:="set_iterator") (n:="__next__") (by rw[typeLookup_type,builtinLookup_eq_fast];kernel_rfl) (by decide +kernel) (by decide +kernel) (by decide +kernel)
  (by first|exact .inl (by decide +kernel)|exact .inr (by decide +kernel)) (by rw[isSubtype_type];kernel_rfl)
theorem ag1:Slot "set_iterator" "__iter__" "set_iterator.__iter__" :=
 .of (owner:="set_iterator") (n:="__iter__") (by rw[typeLookup_type,builtinLookup_eq_fast];kernel_rfl) (by decide +kernel) (by decide +kernel) (by decide +kernel)
  (by first|exact .inl (by decide +kernel)|exact .inr (by decide +kernel)) (by rw[isSubtype_type];kernel_rfl)
theorem anu:Manifest.owners.lookup (String.ofList ['r','o','t','a','r','e','t','i','_','t','e','s'].reverse)=some Manifest.sig_set_iterator:=by kernel_rfl
theorem anv(a:Value):argsOk "set_iterator.__next__" ⟨[a],[]⟩:=by
 unfold argsOk;rw[signature?_of (id:="set_iterator.__next__") (n:=['_','_','t','x','e','n','_','_']) (o:=['r','o','t','a','r','e','t','i','_','t','e','s']) (by kernel_rfl) anu];kernel_rfl
theorem anw(a:Value):argsOk "set_iterator.__iter__" ⟨[a],[]⟩:=by
 unfold argsOk;rw[signature?_of (id:="set_iterator.__iter__") (n:=['_','_','r','e','t','i','_','_']) (o:=['r','o','t','a','r','e','t','i','_','t','e','s']) (by kernel_rfl) anu];kernel_rfl
theorem ald:entryFor table "set_iterator.__next__" = some Builtin.«set_iterator.__next__»:=entryFor_of_tree (by kernel_rfl)
theorem ale:entryFor table "set_iterator.__iter__" = some Builtin.«dict_keyiterator.__iter__»:=entryFor_alias (id':="dict_keyiterator.__iter__") (by kernel_rfl) rfl (by decide +kernel) (by kernel_rfl)
theorem ajx:entryFor table "set.__iter__" = some Builtin.«frozenset.__iter__»:=entryFor_alias (id':="frozenset.__iter__") (by kernel_rfl) rfl (by decide +kernel) (by kernel_rfl)
section
variable{prog:Program}{w:World}{A:Around}{E:Value->Shared->Prop}{s:Shared}{a I:Addr}{es:Array (Int × Value)}{ep:Nat}{t:SetTable}
def IsIt(h:Heap)(I:Addr)(vs:Array Value):Prop:=∃ o,h.get? I=some o/\o.cls=.type "set_iterator"/\o.data=.fields vs
theorem IsIt.ty{vs:Array Value}(x:IsIt s.heap I vs):s.TypeIs (.ref I) "set_iterator":=let ⟨o,e,c,_⟩:=x;⟨o,e,c⟩
theorem IsIt.at{h h':Heap}{vs:Array Value}(x:IsIt h I vs)(k:∀ o,h.get? I=some o->h'.get? I=some o):IsIt h' I vs:=let ⟨o,e,r⟩:=x;⟨o,k o e,r⟩
theorem SetR.ty(x:SetR prog w a es ep t s.heap):s.TypeIs (.ref a) "set":=let ⟨o,e,c,_⟩:=x;⟨o,e,c.1⟩
theorem ad0{Q:(Array (Int × Value) × Nat × SetTable)->Shared->Prop}(x:SetR prog w a es ep t s.heap)(h:Q (es,ep,t) s):wpAny (model prog w) A (setState a) Q E s:=let ⟨_,b,_,hd,hf,_⟩:=x;wpAny_setState_of b hd hf h
theorem agc{Q:Array (Int × Value)->Shared->Prop}(x:SetR prog w a es ep t s.heap)(h:Q es s):wpAny (model prog w) A (setEntries a) Q E s:=by
 unfold setEntries;exact aJ1 (ad0 x (aJ2 h))
theorem anx{Q:Nat->Shared->Prop}(x:SetR prog w a es ep t s.heap)(h:Q ep s):wpAny (model prog w) A (setEpoch a) Q E s:=by
 unfold setEpoch;exact aJ1 (ad0 x (aJ2 h))
theorem ajy{Q:Bool->Shared->Prop}(h:Q (bt w) s):wpAny (model prog w) A setsByText Q E s:=by
 unfold setsByText;exact aJ1 (wpAny_askSetting (aJ2 h))
theorem aui{M:Model}{src:Source}{n:Nat}{Q:Nat->Shared->Prop}(hn:0<n)(h:∀ i d,i<n->Q i { s with drawn:=d }):wpAny M A (choose src n) Q E s:=fun Γ p _=>by
 unfold choose
 rw[Sem.wp_choose]
 exact⟨by lia,h _ _ (Nat.mod_lt _ hn)⟩
theorem ap9{α:Type}{M:Model}:∀(n:Nat)(xs:List α)(s:Shared)(Q:List α->Shared->Prop),xs.length=n->(∀ ys d,ys.Perm xs->Q ys { s with drawn:=d })->wpAny M A (drawOrder n xs) Q E s
 | 0,xs,s,Q,hn,h=>by
  unfold drawOrder
  rw[aH2 hn] at h
  exact aJ2 (h [] s.drawn (List.Perm.refl _))
 |n+1,[],s,Q,hn,h=>by cases hn
 | n+1,x::xs,s,Q,hn,h=>by
  unfold drawOrder
  refine aJ1 (aui (by simp) λi d hi=>?_)
  rw[aA0 hi]
  dsimp only
  refine aJ1 (ap9 n _ _ _ (by rw[List.length_eraseIdx];split <;> lia) λys d' a=>aJ2 ?_)
  refine h _ d' ?_
  have e:(x::xs)=(x::xs).take i++(x::xs)[i]::(x::xs).drop (i+1):=by
   rw[← List.drop_eq_getElem_cons hi,aC1]
  refine(a.cons _).trans ?_
  rw[List.eraseIdx_eq_take_drop_succ]
  refine List.Perm.trans ?_ (List.Perm.of_eq e.symm)
  exact List.perm_middle.symm
def dr(w:World)(es:Array (Int × Value))(t:SetTable):Bool:=!bt w && (!t.plain && decide (es.size > 1))
def itO(f:Value)(a:Addr)(n ep:Nat):Obj:={ cls:=.type "set_iterator",data:=.fields #[f,rawInt (0:Nat),.ref a,rawInt n,rawInt ep] }
def tuO(pl:List Nat):Obj:={ cls:=.type "tuple",data:=.seq (pl.map λ(i:Nat)=>rawInt i).toArray }
theorem aze{Q:Value->Shared->Prop}(x:SetR prog w a es ep t s.heap)(hz:es.size<=sizeLine)
  (c:dr w es t=false->Q (.ref s.heap.objs.size) { s with heap:=s.heap.push (itO (rawInt (0:Nat)) a es.size ep) })
  (f:dr w es t=true->∀ pl d,pl.Perm (List.range es.size)->Q (.ref (s.heap.objs.size+1)) { s with heap:=(s.heap.push (tuO pl)).push (itO (.ref s.heap.objs.size) a es.size ep),drawn:=d }):wpAny (model prog w) A (pyIter (.ref a)) Q E s:=by
 refine wpAny_pyIter_slot x.ty PySem.F.slot_set_iter (aK4 PySem.F.slot_set_iter x.ty ajx ?body (PySem.F.args_set_iter_1 _))
 unfold Builtin.«frozenset.__iter__»
 show wpAny _ _ (Builtin.Frozenset.sizeOf a >>= _) _ _ s
 unfold Builtin.Frozenset.sizeOf
 refine aJ1 (aJ1 (agc x (aJ2 ?_)))
 unfold setDrawn
 refine aJ1 (aJ1 (ad0 x (aJ1 (ajy (aJ2 ?_)))))
 show wpAny _ _ (if dr w es t=true then _ else _) _ _ s
 cases hd:dr w es t
 ·rw[aF6 (by decide)]
  refine aJ1 (aJ2 (aJ1 (anx x ?_)))
  unfold newFields
  refine aJ1 (aK1 (aJ2 ⟨_,rfl,"set_iterator",_,⟨_,aJ5 _ rfl,rfl⟩,slot_it_next.lookup,c hd⟩))
 ·rw[aF5 rfl]
  refine aJ1 (ap9 es.size (List.range es.size) s _ (by simp) λpl d b=>?_)
  refine aJ1 (wpAny_newTuple ?_ (by rw[aA3,b.length_eq,aE0];exact hz))
  refine aJ1 (anx (x.at λo e=>aJ3 _ e) ?_)
  unfold newFields
  refine aJ1 (aK1 (aJ2 ⟨_,rfl,"set_iterator",_,⟨_,aJ5 _ rfl,rfl⟩,slot_it_next.lookup,?_⟩))
  have:=f hd pl d b
  simp only[aK3]
  exact this
end
section
variable{prog:Program}{w:World}{A:Around}{E:Value->Shared->Prop}{s:Shared}{a I:Addr}{es:Array (Int × Value)}{ep:Nat}{t:SetTable}
def ord(w:World)(a:Addr)(es:Array (Int × Value))(ep:Nat):List (Int × Value):=if bt w=true then (pickOrder (w.params.setOrder a ep) es).toList else es.toList
theorem ord_perm:(ord w a es ep).Perm es.toList:=by
 unfold ord;split
 ·exact ajw _ _
 ·exact List.Perm.refl _
def sl(t:SetTable):Nat->Nat
 |0=>0
 |i+1=>t.place.getD i 0+1
theorem arx(x:SetR prog w a es ep t s.heap)(hb:bt w=false)(hd:dr w es t=false):t.place.toList.Pairwise (· < ·):=by
 obtain⟨o,_,_,_,hf,c⟩:=x
 unfold dr at hd
 rw[hb] at hd
 cases hp:t.plain with
 |true=>exact c.ris hp
 | false =>
  rw[hp] at hd
  have d:es.size<=1:=by simpa using hd
  have b:t.place.toList.length<=1:=by
   simp only[SetTable.fits,aH1,aG3] at hf
   rw[aA8];lia
  match hl:t.place.toList with
  |[]=>exact .nil
  |[y]=>exact List.pairwise_singleton _ _
  |y::z::r=>rw[hl] at b;simp at b
theorem azf{slot i:Nat}{Q:Option (Value × Nat)->Shared->Prop}(x:SetR prog w a es ep t s.heap)(hd:dr w es t=false)(hs:bt w=false->slot=sl t i)(hi:i<=es.size)
  (m:∀ e nx,(ord w a es ep)[i]?=some e->(bt w=false->nx=sl t (i+1))->Q (some (e.2,nx)) s) (n:i=es.size->Q none s):wpAny (model prog w) A (setNext a slot i ep) Q E s:=by
 unfold setNext
 refine aJ1 (ad0 x ?_)
 dsimp only
 refine aJ1 (ajy ?_)
 cases hb:bt w with
 | true =>
  rw[aF5 rfl]
  rw[aF6 (by simp)]
  refine aJ1 ?_
  unfold setWalk
  refine aJ1 (ad0 x ?_)
  dsimp only
  refine aJ1 (ajy ?_)
  rw[hb,aF5 rfl]
  refine aJ1 (wpAny_askSetting (aJ2 (aJ2 ?_)))
  show Q ((pickOrder (w.params.setOrder a ep) es)[i]?.map λe=>(e.2,slot)) s
  have d:ord w a es ep=(pickOrder (w.params.setOrder a ep) es).toList:=by unfold ord;rw[hb,aF5 rfl]
  rw[← aD6,← d]
  cases he:(ord w a es ep)[i]? with
  | none =>
   refine n ?_
   have:=aF7.mp he
   rw[ord_perm.length_eq,aA8] at this
   lia
  |some e=>exact m e slot he λz=>by rw[hb] at z;cases z
 | false =>
  rw[aF6 (by decide)]
  have b:=arx x hb hd
  obtain⟨o,y,B,v,hf,r⟩:=id x
  have p:t.place.size=es.size:=by
   simp only[SetTable.fits,aH1,aG3] at hf;exact hf.1
  have f:SetTable.below t.place slot=i:=by
   rw[hs hb]
   cases i with
   |zero=>exact art _ b
   | succ j =>
    have q:j<t.place.toList.length:=by rw[aA8];lia
    have e:t.place.getD j 0=t.place.toList[j]:=by simp[Array.getD,show j<t.place.size by lia]
    show SetTable.below t.place (t.place.getD j 0+1)=j+1
    rw[e];exact ars _ b j q
  refine aJ1 (aJ2 ?_)
  have g:(!t.plain && decide (es.size > 1))=false:=by unfold dr at hd;rw[hb] at hd;exact hd
  show wpAny _ _ (if (!t.plain && decide (es.size > 1))=true then _ else _) _ _ s
  rw[g,aF6 (by decide)]
  refine aJ1 ?_
  show wpAny _ _ (if (!t.led && !es.isEmpty)=true then _ else _) _ _ s
  rw[r.led hb]
  rw[aF6 (by simp)]
  refine aJ2 ?_
  rw[f]
  have d:ord w a es ep=es.toList:=by unfold ord;rw[hb,aF6 (by decide)]
  rcases Nat.lt_or_ge i es.size with h|l
  ·have c:es[i]?=some es[i]:=aA4 h
   have u:t.place[i]?=some t.place[i]:=aA4 (by lia)
   rw[c,u]
   refine aJ2 (m es[i] _ (by rw[d,aD6];exact c) λ_=>?_)
   show t.place[i] + 1=t.place.getD i 0+1
   simp[Array.getD,show i<t.place.size by lia]
  ·have c:es[i]?=none:=Array.getElem?_eq_none_iff.mpr l
   rw[c]
   exact aJ2 (n (by lia))
theorem upd2{h:Heap}{f x b n e:Value}{i:Value}(a:IsIt h I #[f,i,x,n,e])(j:Nat)(v:Value)(vs:Array Value)(d : #[f,i,x,n,e].setIfInBounds j v=vs):IsIt (h.update I (Obj.mapFields (·.setIfInBounds j v))) I vs:=by
 obtain⟨o,c,g,hd⟩:=a
 exact⟨_,aK7 _ c (Obj.isFreed_of_fields (Obj.data_mapFields hd _)),(Obj.cls_mapFields ..).trans g,by rw[Obj.data_mapFields hd,d]⟩
theorem ad1{vs:Array Value}{i:Nat}{x:Value}{Q:Unit->Shared->Prop}(a:IsIt s.heap I vs)(hi:i<vs.size)(h:Q () { s with heap:=s.heap.update I (Obj.mapFields (·.setIfInBounds i x)) }):wpAny (model prog w) A (setField (.ref I) i x) Q E s:=by
 obtain⟨o,b,c,hd⟩:=a
 exact wpAny_setField b hd hi h
theorem aqa{vs:Array Value}{Q:Option Value->Shared->Prop}(a:IsIt s.heap I vs)
  (h:wpAny (model prog w) A.in1 (Builtin.«set_iterator.__next__» ⟨[.ref I],[]⟩) (λfin s'=>∃ v,fin=.done (.ret v)/\Q (some v) s') (λe s'=>wpAny (model prog w) A (do if ← isInstance e (.type "StopIteration") then pure none else throw e) Q E s') s) :
  wpAny (model prog w) A (pyNext (.ref I)) Q E s:=by
 unfold pyNext
 refine aJ1 (wpAny_attempt (wpAny_callSpecial?_slot (name:=Str.ofString "__next__") a.ty slot_it_next (aK4 slot_it_next a.ty ald ?b (anv _))))
 case b =>
  refine aK0 h ?_ ?_
  ·rintro fin s' ⟨v,rfl,q⟩
   exact⟨v,rfl,aJ2 q⟩
  ·intro e s' q;exact q
theorem aqb{Q:Option Value->Shared->Prop}{F:Type}{c:F->Shared->Prop}(hh:A.handled=none)(h:∀ h',(∀ b o,s.heap.get? b=some o->h'.get? b=some o)->Q none { s with heap:=h' }) :
  wpAny (model prog w) A.in1 (newExc (.type "StopIteration") [] >>= λe=>(raiseNew e:Sem F)) c (λe s'=>wpAny (model prog w) A (do if ← isInstance e (.type "StopIteration") then pure none else throw e) Q E s') s:=by
 refine aJ1 ?_
 simp only[newExc,newTuple];refine aJ1 (aK1 ?_ (by size_fits))
 refine aJ1 (m:=firstArgMember _ _) (wpAny_of_eq (a:=Value.none) (by first|rfl|(simp only[firstArgMember];rfl)) (aK1 ?_ (by size_fits)))
 simp only[raiseNew];refine aJ1 (wpAny_handled ?_)
 rw[show A.in1.handled=none from hh];refine aJ1 (aJ2 (wpAny_throw ?_))
 refine aJ1 (wpAny_isInstance (T:="StopIteration") (b:=true) ⟨_,aJ5 _ rfl,rfl⟩ isSubtype_stop ?_)
 exact aJ2 (h _ λb o e=>aJ3 _ (aJ3 _ e))
theorem aqc{slot i:Nat}{Q:Option Value->Shared->Prop}(hh:A.handled=none)(l:a ≠ I)(c:IsIt s.heap I #[rawInt slot,rawInt i,.ref a,rawInt es.size,rawInt ep])(x:SetR prog w a es ep t s.heap)(hd:dr w es t=false)(hs:bt w=false->slot=sl t i)(hi:i<=es.size)
  (j:∀ e (nx:Nat) h',(ord w a es ep)[i]?=some e->(bt w=false->nx=sl t (i+1))->IsIt h' I #[rawInt nx,rawInt ((i+1:Nat):Int),.ref a,rawInt es.size,rawInt ep]->(∀ b o,b ≠ I->s.heap.get? b=some o->h'.get? b=some o)->Q (some e.2) { s with heap:=h' })
  (m:i=es.size->∀ h',(∀ b o,b ≠ I->s.heap.get? b=some o->h'.get? b=some o)->Q none { s with heap:=h' }):wpAny (model prog w) A (pyNext (.ref I)) Q E s:=by
 refine aqa c ?_
 obtain⟨o,h,p,g⟩:=id c
 unfold Builtin.«set_iterator.__next__»
 refine aJ1 (aJ2 (aJ1 (wpAny_fieldsOf h g ?_)))
 show wpAny _ _ (setEntries a >>= _) _ _ s
 refine aJ1 (agc x ?_)
 rw[aF6 (by simp)]
 show wpAny _ _ (setNext a slot i ep >>= _) _ _ s
 refine aJ1 (azf x hd hs hi (λe nx n hn=>?_) λhz=>?_)
 ·dsimp only
  refine aJ1 (ad1 c (by simp) ?_)
  have d:=upd2 (b:=.none) c 0 (rawInt nx) #[rawInt nx,rawInt i,.ref a,rawInt es.size,rawInt ep] rfl
  refine aJ1 (ad1 (s:={ s with heap:=_ }) d (by simp) ?_)
  have f:=upd2 (b:=.none) d 1 (rawInt ((i+1:Nat):Int)) #[rawInt nx,rawInt ((i+1:Nat):Int),.ref a,rawInt es.size,rawInt ep] rfl
  refine aJ2 ⟨_,rfl,j e nx _ n hn f λb o hb e=>?_⟩
  exact(aJ9 _ _ (Ne.symm hb)).trans ((aJ9 _ _ (Ne.symm hb)).trans e)
 ·dsimp only
  refine aJ1 (ad1 c (by simp) ?_)
  refine aqb (s:={ s with heap:=s.heap.update I _ }) hh λh' k=>m hz h' λb o hb e=>k b o ((aJ9 _ _ (Ne.symm hb)).trans e)
theorem aqd{vs:Array Value}{Q:Value->Shared->Prop}(a:IsIt s.heap I vs)(h:Q (.ref I) s):wpAny (model prog w) A (pyIter (.ref I)) Q E s:=by
 refine wpAny_pyIter_slot a.ty ag1 (aK4 ag1 a.ty ale ?_ (anw _))
 show wpAny _ _ (ret (.ref I)) _ _ s
 exact aJ2 ⟨_,rfl,"set_iterator",_,a.ty,slot_it_next.lookup,h⟩
theorem walks(hh:A.handled=none)(d:a ≠ I)(hd:dr w es t=false):Walks prog w A I [I,a] [I] es.size (λi v=>((ord w a es ep).map (·.2))[i]?=some v)
  (λi h=>∃ slot:Nat,IsIt h I #[rawInt slot,rawInt i,.ref a,rawInt es.size,rawInt ep]/\SetR prog w a es ep t h/\(bt w=false->slot=sl t i)) where
 sub:=λb hb=>by simp at hb;simp[hb]
 frame:=λ_ _ _ st n=>let ⟨slot,c,f,j⟩:=st;⟨slot,c.at λo e=>n I (by simp) o e,f.at λo e=>n a (by simp) o e,j⟩
 item:=λi s Q E hi st l=>by
  obtain⟨slot,c,f,j⟩:=st
  refine aqc hh d c f hd j (aG5 hi) (λe nx h' m hn g k=>?_) λhz=>by lia
  exact l _ h' s.toks (by rw[aA5,m];rfl) ⟨nx,g,f.at λo e=>k a o d e,hn⟩ λb o hb e=>k b o (λz=>hb (by simp[z])) e
 done:=λs Q E st l=>by
  obtain⟨slot,c,f,j⟩:=st
  refine aqc hh d c f hd j (aA6 _) (λe nx h' m hn g k=>?_) λhz h' k=>l h' s.toks λb o hb e=>k b o (λz=>hb (by simp[z])) e
  have:=(aA1.mp m).1
  rw[ord_perm.length_eq,aA8] at this
  lia
 self:=λ_ _ _ _ st l=>let ⟨_,c,_,_⟩:=st;aqd c l
theorem axb{i:Nat}{tu:Addr}{pl:List Nat}{Q:Option Value->Shared->Prop}(hh:A.handled=none)(c:IsIt s.heap I #[.ref tu,rawInt i,.ref a,rawInt es.size,rawInt ep])(q:s.heap.get? tu=some (tuO pl))(x:SetR prog w a es ep t s.heap)(l:pl.Perm (List.range es.size))(hi:i<=es.size)
  (r:∀ e h' j,pl[i]?=some j->es[j]?=some e->IsIt h' I #[.ref tu,rawInt ((i+1:Nat):Int),.ref a,rawInt es.size,rawInt ep]->(∀ b o,b ≠ I->s.heap.get? b=some o->h'.get? b=some o)->Q (some e.2) { s with heap:=h' })
  (u:i=es.size->∀ h',(∀ b o,b ≠ I->s.heap.get? b=some o->h'.get? b=some o)->Q none { s with heap:=h' }):wpAny (model prog w) A (pyNext (.ref I)) Q E s:=by
 refine aqa c ?_
 obtain⟨o,p,B,g⟩:=id c
 unfold Builtin.«set_iterator.__next__»
 refine aJ1 (aJ2 (aJ1 (wpAny_fieldsOf p g ?_)))
 show wpAny _ _ (setEntries a >>= _) _ _ s
 refine aJ1 (agc x ?_)
 rw[aF6 (by simp)]
 show wpAny _ _ (seqItems? (.ref tu) >>= _) _ _ s
 refine aJ1 (wpAny_seqItems q rfl ?_)
 dsimp only
 have n:pl.length=es.size:=by rw[l.length_eq,aE0]
 have z:(rawInt (i:Int))=.int i 0:=rfl
 rcases Nat.lt_or_ge i es.size with v|y
 ·have h:pl[i]?=some pl[i]:=aA0 (by lia)
  have f:(pl.map λ(i:Nat)=>rawInt i).toArray[(i:Int).toNat]?=some (rawInt pl[i]):=by
   rw[Int.toNat_natCast,List.getElem?_toArray,aA5,h];rfl
  rw[f]
  have hm:pl[i]<es.size:=aB9.mp (l.mem_iff.mp (aF2 _))
  have m:es[pl[i]]?=some es[pl[i]]:=aA4 hm
  show wpAny _ _ (setNextDrawn a pl[i] ep >>= _) _ _ s
  unfold setNextDrawn
  refine aJ1 (aJ1 (ad0 x ?_))
  dsimp only
  rw[aF6 (by simp),m]
  refine aJ2 ?_
  refine aJ1 (ad1 c (by simp) ?_)
  have d:=upd2 (b:=.none) c 1 (rawInt ((i+1:Nat):Int)) #[.ref tu,rawInt ((i+1:Nat):Int),.ref a,rawInt es.size,rawInt ep] rfl
  exact aJ2 ⟨_,rfl,r _ _ _ h m d λb o hb e=>(aJ9 _ _ (Ne.symm hb)).trans e⟩
 ·have f:(pl.map λ(i:Nat)=>rawInt i).toArray[(i:Int).toNat]?=none:=by
   rw[Int.toNat_natCast,List.getElem?_toArray,aA5,aF7.mpr (by lia)];rfl
  rw[f]
  dsimp only
  refine aJ1 (ad1 c (by simp) ?_)
  have d:=upd2 (b:=.none) c 0 (rawInt 0) #[rawInt 0,rawInt i,.ref a,rawInt es.size,rawInt ep] rfl
  refine aJ1 (ad1 (s:={ s with heap:=_ }) d (by simp) ?_)
  refine aqb (s:={ s with heap:=(s.heap.update I _).update I _ }) hh λh' k=>u (by lia) h' λb o hb e=>k b o ((aJ9 _ _ (Ne.symm hb)).trans ((aJ9 _ _ (Ne.symm hb)).trans e))
def ordD(es:Array (Int × Value))(pl:List Nat):List Value:=pl.map λj=>(es.toList.map (·.2)).getD j .none
theorem auj{pl:List Nat}(a:pl.Perm (List.range es.size)):(ordD es pl).Perm (es.toList.map (·.2)):=by
 refine(a.map _).trans (List.Perm.of_eq ?_)
 refine List.ext_getElem (by simp) λi b c=>?_
 have:i<es.size:=by simpa using b
 simp[aD4,this]
theorem a15{tu:Addr}{pl:List Nat}(hh:A.handled=none)(r:a ≠ I)(q:tu ≠ I)(n:pl.Perm (List.range es.size)):Walks prog w A I [I,a,tu] [I] es.size (λi v=>(ordD es pl)[i]?=some v)
  (λi h=>IsIt h I #[.ref tu,rawInt i,.ref a,rawInt es.size,rawInt ep]/\SetR prog w a es ep t h/\h.get? tu=some (tuO pl)) where
 sub:=λb hb=>by simp at hb;simp[hb]
 frame:=λ_ _ _ st p=>let ⟨g,d,c⟩:=st;⟨g.at λo e=>p I (by simp) o e,d.at λo e=>p a (by simp) o e,p tu (by simp) _ c⟩
 item:=λi s Q E hi st l=>by
  obtain⟨g,d,c⟩:=st
  refine axb hh g c d n (aG5 hi) (λe h' j m u f k=>?_) λhz=>by lia
  refine l _ h' s.toks ?_ ⟨f,d.at λo e=>k a o r e,k tu _ q c⟩ λb o hb e=>k b o (λz=>hb (by simp[z])) e
  unfold ordD
  rw[aA5,m]
  simp[aD4,u]
 done:=λs Q E st l=>by
  obtain⟨g,d,c⟩:=st
  refine axb hh g c d n (aA6 _) (λe h' j m u f k=>?_) λhz h' k=>l h' s.toks λb o hb e=>k b o (λz=>hb (by simp[z])) e
  have:=(aA1.mp m).1
  rw[n.length_eq,aE0] at this
  lia
 self:=λ_ _ _ _ st l=>aqd st.1 l
end
section
variable{prog:Program}{w:World}{A:Around}{E:Value->Shared->Prop}{s:Shared}{a:Addr}{es:Array (Int × Value)}{ep:Nat}{t:SetTable}
theorem azg{Q:Bool->Shared->Prop}(d:s.TypeIs (.ref a) "set")(h:Q false s):wpAny (model prog w) A (Builtin.List.listLengthHint (.ref a)) Q E s:=by
 unfold Builtin.List.listLengthHint
 refine aJ1 (wpAny_specialOf d PySem.F.slot_set_len.lookup ?_)
 generalize hid:("set.__len__" : String)=id0
 wp_delta
 rw[show splitId id0=some ("set","__len__") from by subst hid;decide +kernel]
 subst hid
 refine aJ1 (wpAny_isInstance (T:="set") (b:=true) d sub_set_self ?_)
 refine wpAny_ite_split (λc=>absurd c (by decide)) (λ_=>?_)
 refine wpAny_ite_split (λ_=>?_) (λc=>absurd (by decide +kernel) c)
 refine aJ1 (wpAny_typeOf d ?_)
 exact aJ2 h
theorem awf{a:List Value}{b:Array Value}(h:ItemsOf (λi v=>a[i]?=some v) b a.length):b.toList=a:=by
 obtain⟨d,f⟩:=h
 refine List.ext_getElem (by simpa using d) λi c g=>?_
 have:=f i b.toList[i] (by rw[← aD6];exact aA0 c)
 exact(aC6 ((aA0 g).symm.trans this)).symm
theorem a16{R:Result->Shared->Prop}(hh:A.handled=none)(x:SetR prog w a es ep t s.heap)(hz:es.size<=sizeLine)(S:Addr)(C:S ≠ a)(res:Value)(z:Nat)(U:s.heap.get? S=some { cls:=.type "list",data:=.seq #[] z })
  (hR:∀ h' M d J c,(∀ b o,b ≠ S->s.heap.get? b=some o->h'.get? b=some o)->h'.get? S=some { cls:=.type "list",dict:=none,data:=.seq J c,slots:=#[] }->J.toList.Perm (es.toList.map (·.2))->R (.ok (.ret res)) { s with heap:=h',toks:=M,drawn:=d }) :
  wpAny (model prog w) A.in1 (Builtin.List.listExtendWith (.ref S) (.ref a) res)
   (λfin s'=>match fin with | .done f=>R (.ok f) s' | .again E=>E.quiet=true/\codeAny (model prog w) A E R s') (λe s'=>R (.error e) s') s:=by
 have H:∀(I:Addr)(fp:List Addr)(St:Nat->Heap->Prop)(g:List Value)(d:Drawn)(h:Heap)(p:Nat)(M:Nat),Walks prog w A.in1 I fp [I] es.size (λi v=>g[i]?=some v) St->S ∉ fp->s.heap.objs.size<=I->g.Perm (es.toList.map (·.2))->St 0 h->(∀ b o,b ≠ S->s.heap.get? b=some o->h.get? b=some o) ->
   h.get? S=some { cls:=.type "list",data:=.seq #[] p }->codeAny (model prog w) A (.builtin "list.extend.loop" ⟨[.ref S,.ref I,res],[]⟩) R { s with heap:=h,toks:=M,drawn:=d }:=by
  intro I fp St g d h p M W q N u O G j
  refine codeAny_extend_loopS W.toS hz S q res es.size 0 _ #[] p rfl (aG0 _) O j (ItemsOf.nil _) λs' K E hm P y=>?_
  have X:es.size=g.length:=by rw[u.length_eq,aA3,aA8]
  rw[X] at y
  rw[Moved.eq_with hm]
  refine hR s'.heap s'.toks d K E (λb o hb e=>hm.heap b o (λl=>?_) (G b o hb e)) P (by rw[awf y];exact u)
  rcases aA9.mp l with Z|l
  ·exact hb Z
  ·rw[aC2] at l
   subst l
   exact absurd (aJ4 e) (Nat.not_lt.mpr N)
 have m:=aJ4 U
 have B:a<s.heap.objs.size:=let ⟨_,e,_⟩:=x;aJ4 e
 unfold Builtin.List.listExtendWith
 refine aJ1 (wpAny_typeOf (T:="set") x.ty ?_)
 have Y:Builtin.List.listSameRef (.ref S) (.ref a)=false:=by simp[Builtin.List.listSameRef,C]
 have h2:(Value.type "set" == Value.type "list")=false:=by decide
 have h3:(Value.type "set" == Value.type "tuple")=false:=by decide
 simp only[Y,h2,h3,Bool.or_false,Bool.false_eq_true,if_false]
 have n:∀(Q:Bool)(I:Addr)(fp:List Addr)(St:Nat->Heap->Prop)(g:List Value)(d:Drawn)(h:Heap),Walks prog w A.in1 I fp [I] es.size (λi v=>g[i]?=some v) St->S ∉ fp->s.heap.objs.size<=I->g.Perm (es.toList.map (·.2))->St 0 h->(∀ b o,s.heap.get? b=some o->h.get? b=some o)->
   wpAny (model prog w) A.in1 (holding [.ref I] (Builtin.List.listLengthHint (.ref a)) >>= λroom=>if (room || Q)=true then (rule "list.extend.makes-room" >>= λ_=>Builtin.List.listTouch (.ref S) >>= λ_=>again (.builtin "list.extend.loop" ⟨[.ref S,.ref I,res],[]⟩)) else again (.builtin "list.extend.loop" ⟨[.ref S,.ref I,res],[]⟩)) (λfin s'=>match fin with | .done f=>R (.ok f) s' | .again E=>E.quiet=true/\codeAny (model prog w) A E R s') (λe s'=>R (.error e) s') { s with heap:=h,drawn:=d }:=by
  intro Q I fp St g d h W q N u st G
  have j:=G _ _ U
  refine aJ1 (aJ7 (azg (s:={ s with heap:=h,drawn:=d }) (SetR.ty (s:={ s with heap:=h,drawn:=d }) (x.at λo e=>G a o e)) ?_))
  refine wpAny_ite_split (λ_=>?_) (λ_=>aJ2 ⟨plainId_quiet PySem.F.plain_extend_loop _,H I fp St g d h z _ W q N u st (λb o _ e=>G b o e) j⟩)
  refine aJ1 (wpAny_rule ?_)
  refine aJ1 ?_
  show wpAny _ _ (updateSeq S (·.push .none) >>= λ_=>updateSeq S (·.pop)) _ _ _
  refine aJ1 (wpAny_updateSeq j rfl ?_)
  have r:=aK7 (Obj.mapSeq (·.push Value.none)) j rfl
  refine wpAny_updateSeq (hz:=by seq_fits) r rfl ?_
  have D:=aK7 (Obj.mapSeq (·.pop)) r rfl
  refine aJ2 ⟨plainId_quiet PySem.F.plain_extend_loop _,H I fp St g d _ _ _ W q N u ?_ (λb o hb e=>?_) D⟩
  ·refine W.frame 0 _ _ st λb hb o e=>?_
   have L:b ≠ S:=λh=>q (h ▸ hb)
   exact(aJ9 _ _ (Ne.symm L)).trans ((aJ9 _ _ (Ne.symm L)).trans e)
  ·exact(aJ9 _ _ (Ne.symm hb)).trans ((aJ9 _ _ (Ne.symm hb)).trans (G b o e))
 refine aJ1 (aze x hz (λhd=>?_) λhd pl d u=>?_)
 ·exact n _ s.heap.objs.size _ _ ((ord w a es ep).map (·.2)) s.drawn _ (walks (A:=A.in1) (prog:=prog) (w:=w) (t:=t) (ep:=ep) hh (aB6 B) hd) (by simp only[aA9,aI4,or_false,not_or];exact⟨aB6 m,C⟩) (aA6 _) (ord_perm.map _)
   ⟨0,⟨_,aJ5 _ rfl,rfl,rfl⟩,x.at λo e=>aJ3 _ e,λ_=>rfl⟩ λb o e=>aJ3 _ e
 ·refine n _ (s.heap.objs.size+1) _ _ (ordD es pl) d _ (a15 (A:=A.in1) (prog:=prog) (w:=w) (t:=t) (ep:=ep) (tu:=s.heap.objs.size) hh (aB6 (aF8 B)) (aB6 (aI8 _)) u) (by simp only[aA9,aI4,or_false,not_or];exact⟨aB6 (aF8 m),C,aB6 m⟩) (Nat.le_succ _) (auj u)
   ⟨⟨itO (.ref s.heap.objs.size) a es.size ep,?_,rfl,rfl⟩,x.at λo e=>aJ3 _ (aJ3 _ e),aJ3 _ (aJ5 _ rfl)⟩ λb o e=>aJ3 _ (aJ3 _ e)
  have:=aJ5 (s.heap.push (tuO pl)) (o:=itO (.ref s.heap.objs.size) a es.size ep) rfl
  rw[aK3] at this
  exact this
theorem aor{Q:List Value->Shared->Prop}(hh:A.handled=none)(x:SetR prog w a es ep t s.heap)(hz:es.size<=sizeLine)
  (n:∀ h' i d (vs:List Value),(∀ b o,s.heap.get? b=some o->h'.get? b=some o)->s.heap.objs.size<=h'.objs.size->vs.Perm (es.toList.map (·.2))->Q vs { s with heap:=h',toks:=i,drawn:=d }):wpAny (model prog w) A (collect (.ref a)) Q E s:=by
 unfold collect
 refine aJ1 (wpAny_runValue (aK8 PySem.F.entry_proto_collect ?a1))
 case a1 =>
  rw[aK2 PySem.F.plain_proto_collect _];show wpAny _ A.in1 (newList [] >>= λl=>again (.builtin "list.__iadd__" ⟨[l,.ref a],[]⟩)) _ _ s
  refine aJ1 (aK1 (aJ2 ⟨plainId_quiet PySem.F.plain_list_iadd _,aK8 PySem.F.entry_list_iadd ?a2⟩))
  case a2 =>
   rw[aK2 PySem.F.plain_list_iadd _];show wpAny _ A.in1 (Builtin.List.listExtendWith (.ref s.heap.objs.size) (.ref a) (.ref s.heap.objs.size)) _ _ _
   have m:(s.heap.push { cls:=.type "list",data:=.seq ([]:List Value).toArray }).get? s.heap.objs.size=some { cls:=.type "list",data:=.seq #[] 0 }:=aJ5 _ rfl
   have g:a<s.heap.objs.size:=let ⟨_,e,_⟩:=x;aJ4 e
   refine a16 (R:=wants (λv s'=>wpAny (model prog w) A (match v with | .ref a=>(do match (← load a).data with | .seq xs _=>pure xs.toList|_=>unsupported "internal:collect")|_=>unsupported "internal:collect") Q E s') E) (s:={ s with heap:=s.heap.push { cls:=.type "list",data:=.seq ([]:List Value).toArray } }) hh (x.at λo e=>aJ3 _ e) hz s.heap.objs.size (Nat.ne_of_gt g) _ 0 m (λh' i d j c k h f=>?a3)
   case a3 =>
    show wpAny (model prog w) A _ Q E _
    refine aJ1 (wpAny_load h ?a4)
    case a4=>exact aJ2 (n h' i d j.toList (λb o e=>k b o (aB6 (aJ4 e)) (aJ3 _ e)) (aG5 (aJ4 h)) f)
end
end SS
namespace SH
open PySem PySem.W PyProof.Rows SS
section
variable{prog:Program}{w:World}{A:Around}{E:Value->Shared->Prop}{s:Shared}{a:Addr}
def SetB(prog:Program)(w:World)(a:Addr)(bs:List Addr)(h:Heap):Prop:=∃ es ep t,SetR prog w a es ep t h/\(es.toList.map (·.2)).Perm (bs.map Value.ref)
theorem sorted_setT{bs:List Addr}{Q:Value->Shared->Prop}(hh:A.handled=none)(x:SetB prog w a bs s.heap)(hb:bs.length<=4000)
  (z:∀ vs:List Value,vs.Perm (bs.map Value.ref)->2<=vs.length->∀ h' f d,(∀ b o,s.heap.get? b=some o->h'.get? b=some o)->∃ κ S R,(∀(Q:SortKind->Shared->Prop),Q κ { s with heap:=h',toks:=f,drawn:=d }->wpAny (model prog w) A.in1.in1 (keyKind' vs.toArray) Q E { s with heap:=h',toks:=f,drawn:=d })/\TS.Cmp (model prog w) A.in1.in1 E { s with heap:=h',toks:=f,drawn:=d } κ S R/\(∀ v∈vs,S (v,v)) /\
   ∀(out:List Value) p c e,out.Perm vs->out.Pairwise (λx y=>R (y,y) (x,x)=false)->(∀ b o,s.heap.get? b=some o->c.get? b=some o)->s.heap.objs.size<=p->c.get? p=some (seqObj "list" out.toArray e)->Q (.ref p) { s with heap:=c,toks:=f,drawn:=d })
  (K:∀(vs:List Value) p c e f d,vs.Perm (bs.map Value.ref)->vs.length<2->(∀ b o,s.heap.get? b=some o->c.get? b=some o)->s.heap.objs.size<=p->c.get? p=some (seqObj "list" vs.toArray e)->Q (.ref p) { s with heap:=c,toks:=f,drawn:=d }) :
  wpAny (model prog w) A (call (.builtin "sorted") [.ref a]) Q E s:=by
 obtain⟨es,ep,t,x,G⟩:=x
 have hsz:es.size=bs.length:=by have:=G.length_eq;simpa using this
 have j:es.size<=sizeLine:=by rw[sizeLine_eq];lia
 refine Calls.call_function_entry kind_sorted plain_sorted entry_sorted (args_sorted1 _) ?_
 unfold Builtin.«sorted»
 refine aJ1 (m:=checkCount "sorted" 1 1 _) (aJ2 (aJ1 (aor (A:=A.in1) hh x j λg f d vs kp hs J=>?_)))
 have i:=J.trans G
 have u:vs.length=bs.length:=by rw[i.length_eq,aA3]
 have l:vs.length<=sizeLine:=by rw[u,sizeLine_eq];lia
 refine aJ1 (wpAny_newList ?_ l)
 have h:(g.push (seqObj "list" vs.toArray 0)).get? g.objs.size=some (seqObj "list" vs.toArray 0):=aJ5 _ rfl
 have keep:∀ b o,s.heap.get? b=some o->(g.push (seqObj "list" vs.toArray 0)).get? b=some o:=λb o e=>aJ3 _ (kp b o e)
 have fin:∀ out:List Value,(∀ b o,s.heap.get? b=some o->(sortedHeap (g.push (seqObj "list" vs.toArray 0)) g.objs.size vs out.toArray).get? b=some o):=λout b o q=>by
  have lt:=aJ4 (kp b o q)
  rw[sortedHeap_old (aB6 lt) (by rw[size_push'];exact aF8 lt)]
  exact keep b o q
 refine aJ1 (aJ7 (aK4 slot_list_sort ⟨_,h,rfl⟩ entry_list_sort ?body (args_list_sort _)))
 case body =>
  refine TS.list_sort_any (s:={ s with heap:=g.push (seqObj "list" vs.toArray 0),toks:=f,drawn:=d }) h l (λB h' L=>?_) λD=>?_
  ·obtain⟨κ,S,R,I,C,N,r⟩:=z vs i B h' f d λb o e=>L b o (aB6 (aJ4 (kp b o e))) (keep b o e)
   refine⟨κ,S,R,I,C,N,λout H M=>⟨_,rfl,aJ2 ⟨_,rfl,?_⟩⟩⟩
   obtain⟨e,F⟩:=sortedHeap_at (vs:=vs) (out:=out.toArray) (n:=0) h
   exact r out _ _ e H M (fin out) hs F
  ·refine⟨_,rfl,aJ2 ⟨_,rfl,?_⟩⟩
   obtain⟨e,F⟩:=sortedHeap_at (vs:=vs) (out:=vs.toArray) (n:=0) h
   exact K vs _ _ e f d i D (fin vs) hs F
end
end SH
namespace SS
open PySem PySem.W PyProof.Rows
section
variable{prog:Program}{w:World}{A:Around}{E:Value->Shared->Prop}{s:Shared}{a:Addr}
end
end SS
namespace L2
open PySem PySem.W PyProof.Rows
section
variable{X:Cx}
theorem Inv.drawn'{pins:List (Addr × Obj)}{σ:St}{H:Hp}{s:Shared}(I:Inv X pins σ H s)(d:Drawn):Inv X pins σ H { s with drawn:=d }:=⟨I.ok,I.os,I.bare,I.base,I.loc,I.cell,I.free,I.freeC,I.pin,I.hok,I.len⟩
end
end L2
namespace VL
open PySem PySem.Spec L2
section
variable{B:Bs}{env:En}{QO:Sl->En->Prop}{K:Frag}{ta:TA}{P:Program}{w:World}
end
end VL
namespace L2
open PySem PySem.W PyProof.Rows
def axc(P:Program)(w:World)(K:Frag):List V->Hp->VK->Prop:=λxs H Q=>∃(a:Addr)(ts:List Addr)(ps:List (List Int)),xs=[.ref a]/\SqL K H a (ts.map V.ref)/\ts.length=ps.length/\ps.length<=2030 /\
 (∀(i:Nat) t k,ts[i]?=some t->ps[i]?=some k->H t=some (.tup (k.map V.int))) /\
 ∀(bs:List Addr)(L:List (List Int))(p:Addr),bs.length=L.length->L.length<=ps.length->(∀(i:Nat) b k,bs[i]?=some b->L[i]?=some k->H b=some (.tup (k.map V.int)))->L.Nodup->(∀ x,x∈L ↔ x∈ps)->H p=none->Q (.ref p) (upd H p (.ext (SH.SetB P w p bs)))
def aqe(P:Program)(w:World):List V->Hp->VK->Prop:=λxs H Q=>∃(a:Addr)(bs:List Addr),xs=[.ref a]/\H a=some (.ext (SH.SetB P w a bs))/\bs.length<=4000/\(∀ b∈bs,TupI H (.ref b)) /\
 ∀(vs':List V)(p:Addr),vs'.Perm (bs.map V.ref)->vs'.Pairwise (λx y=>HT.lexLt (kH H y) (kH H x)=false)->H p=none->Q (.ref p) (upd H p (.lst vs'))
section
variable{X:Cx}
theorem anz{P:Program}{w:World}:∀{its:List Value}{k:List Int},IntsAre its k->ItemsAre (intKind P w) k its
 |_,_,.nil=>.nil
 |_,_,.cons i tk h=>.cons (intKind_is _ _ _ _) (anz h)
theorem axd{H:Hp}{h:Heap}{P:Program}{w:World}(ok:HOk P w H h){t:Addr}{k:List Int}(e:H t=some (.tup (k.map V.int))):(SH.TK P w).is h k t:=by
 obtain⟨_,its,d,o,a,b,n,c⟩:=(show ObjOk P w H h t (.tup (k.map V.int)) from ok t _ e)
 refine⟨o,its.toArray,n,a,b,c,?_⟩
 have hi:IntsAre its k:=by simpa using (acp d:IntsAre its.toArray.toList k)
 show ItemsAre (intKind P w) k its.toArray.toList
 rw[List.toList_toArray]
 exact anz hi
theorem call_setT(hc:X.calm=true)(M:X.A.units+64<cLine):aa2 X (.type "set") (axc X.prog X.w X.K):=by
 intro pins s σ H xs us Q I r h
 obtain⟨a,c,ps,rfl,ha,hl,hz,Z,q⟩:=h
 obtain⟨u,rfl,R⟩:=ab3 r
 cases R
 obtain⟨its,T,p1,_⟩:=I.list ha
 have C:its.length=c.length:=by have:=T.length;rw[aA3] at this;lia
 have hsz:its.toArray.size=c.length:=by simp[C]
 have J:∀{i},i<c.length->c[i]?=some (c.getD i 0):=λ{i} hi=>by rw[aD4,aA0 hi];rfl
 have S:∀{i},i<c.length->ps[i]?=some (ps.getD i []):=λ{i} hi=>by rw[aD4,aA0 (show i<ps.length by lia)];rfl
 have F:∀ i,i<c.length->H (c.getD i 0)=some (.tup ((ps.getD i []).map V.int)):=λi hi=>Z i _ _ (J hi) (S hi)
 refine SH.call_setT (n:=0) (U:=λb=>b∈c) (items:=its.toArray) (val:=λi=>ps.getD i []) (tup:=λi=>c.getD i 0) (I.ok.hd hc) (by show X.A.units+1+1+1<cLine;lia) p1.isList (λi v D=>?_) (λi hi=>axd I.hok (F i (by lia))) (λi hi=>aA2 (J (by lia))) (λb hb=>?_) (by lia) λh' tk L hS nd nl hm kp=>?_
 ·have D:its[i]?=some v:=by simpa using D
  have hi:=(aA1.mp D).1
  have g:(c.map V.ref)[i]?=some (.ref (c.getD i 0)):=by rw[aA5,J (by lia)];rfl
  obtain⟨u,M,R⟩:=T.get g
  rw[D] at M
  cases M
  exact R
 ·obtain⟨i,hi⟩:=aD3 hb
  have l:=(aA1.mp hi).1
  have:=F i l
  rw[aD4,hi] at this
  exact ObjOk.lt (I.hok _ _ this)
 ·obtain⟨es,ep,t,ks,x,_,B⟩:=hS
  have f:∀(i:Nat)(e:Int × Value) k,es.toList[i]?=some e->ks[i]?=some k->∃ b,e.2=.ref b/\H b=some (.tup (k.map V.int)):=λi e k d E=>by
   obtain⟨b,g,P,e3⟩:=x.gd i e k d E
   refine⟨b,by rw[g],?_⟩
   obtain⟨j,m⟩:=aD3 e3
   have p:=(aA1.mp m).1
   have hb:=F j p
   rw[aD4,m] at hb
   have hb:H b=some (.tup ((ps.getD j []).map V.int)):=hb
   have h3:=axd (I.hok.kept kp) hb
   rw[(SH.TK X.prog X.w).inj P h3]
   exact hb
  have N:∃ bs:List Addr,es.toList.map (·.2)=bs.map Value.ref/\bs.length=ks.length/\∀(i:Nat) b k,bs[i]?=some b->ks[i]?=some k->H b=some (.tup (k.map V.int)):=by
   refine⟨es.toList.map λe=>match e.2 with | .ref b=>b|_=>0,?_,?_,λi b k d E=>?_⟩
   ·rw[aD9]
    refine aE9 λe z=>?_
    obtain⟨i,hi⟩:=aD3 z
    have l:i<ks.length:=by rw[x.len,← aA8];exact(aA1.mp hi).1
    obtain⟨b,g,_⟩:=f i e _ hi (aA0 l)
    simp only[Function.comp,g]
   ·rw[aA3,x.len,aA8]
   ·rw[aA5] at d
    cases z:es.toList[i]? with
    |none=>rw[z] at d;cases d
    | some e =>
     rw[z] at d
     obtain⟨b',g,P⟩:=f i e k z E
     rw[aI2,g] at d
     cases d
     exact P
  obtain⟨bs,b1,W,b3⟩:=N
  have G:=I.hok.fresh (a:=s.heap.objs.size) (aA6 _)
  have O:SH.SetB X.prog X.w s.heap.objs.size bs h':=⟨es,ep,t,x.r,by rw[b1]⟩
  refine⟨.ref s.heap.objs.size,_,I.laid (t':=tk) (o:=.ext (SH.SetB X.prog X.w s.heap.objs.size bs)) kp (aA6 _) ⟨O,?_,λd E ⟨es,ep,t,y,r⟩ k=>⟨es,ep,t,y.at k,r⟩⟩,rfl,q bs ks _ W ?_ b3 x.nd (λy=>?_) G⟩
  ·obtain⟨o,e,_⟩:=x.r
   exact⟨o,e⟩
  ·rw[B.length_eq];lia
  ·rw[B.mem_iff,hm]
   constructor
   ·rintro⟨j,m,e⟩
    rw[← e]
    exact aA2 (S (by lia))
   ·intro Y
    obtain⟨j,m⟩:=aD3 Y
    have p:=(aA1.mp m).1
    exact⟨j,by lia,by rw[aD4,m];rfl⟩
theorem aos(R:X.calm=true):aa2 X (.builtin "sorted") (aqe X.prog X.w):=by
 intro pins s σ H xs us Q I r h
 obtain⟨a,bs,rfl,ha,hz,L,q⟩:=h
 obtain⟨u,rfl,ru⟩:=ab3 r
 cases ru
 obtain⟨P,_,_⟩:=(show ObjOk X.prog X.w H s.heap a (.ext (SH.SetB X.prog X.w a bs)) from I.hok a _ ha)
 have f:∀{us:List Value},us.Perm (bs.map Value.ref)->∀ u∈us,∃ b,u=.ref b/\b∈bs:=λ{us} g u A=>by
  obtain⟨b,hb,rfl⟩:=aB7.mp (g.mem_iff.mp A)
  exact⟨b,rfl,hb⟩
 have l:∀{us:List Value},us.Perm (bs.map Value.ref)->Vals (us.map ab4) us/\(∀ v∈us.map ab4,TupI H v)/\(us.map ab4).Perm (bs.map V.ref):=λ{us} g=>by
  refine⟨ae7 λu A=>let ⟨b,e,_⟩:=f g u A;⟨b,e⟩,λv z=>?_,?_⟩
  ·obtain⟨u,A,rfl⟩:=aB7.mp z
   obtain⟨b,rfl,hb⟩:=f g u A
   exact L b hb
  ·have:=g.map ab4
   rw[aD9] at this
   exact this
 have fin:∀(us out:List Value) p c e m d,us.Perm (bs.map Value.ref)->out.Perm us->(out.map ab4).Pairwise (λx y=>HT.lexLt (kH H y) (kH H x)=false)->(∀ b o,s.heap.get? b=some o->c.get? b=some o)->s.heap.objs.size<=p->c.get? p=some (seqObj "list" out.toArray e)->EP X pins σ Q (.ref p) { s with heap:=c,toks:=m,drawn:=d }:=by
  intro us out p c e m d g n hs kp j B
  obtain⟨C,F,G⟩:=l (n.trans g)
  have S:out.length=bs.length:=by rw[(n.trans g).length_eq,aA3]
  have J:=I.laid (t':=m) (o:=.lst (out.map ab4)) kp j (show ObjOk X.prog X.w _ c p (.lst (out.map ab4)) from⟨by rw[aA3,S,sizeLine_eq];lia,out,e,C,by rw[B]⟩)
  exact⟨.ref p,_,J.drawn' d,rfl,q _ _ G hs (I.hok.fresh j)⟩
 refine SH.sorted_setT (I.ok.hd R) P hz (λvs g a0 h' m d kp=>?_) λvs p c e m d g D kp j B=>?_
 ·obtain⟨C,F,G⟩:=l g
  obtain⟨⟨fs,k1,k2,Y⟩,k4⟩:=af5 I kp C F
  have E:(Value.type "int" != Value.type "tuple")=true:=by rfl
  refine⟨tuples' true,TS.tS h' (λa=>kH H (.ref a)),TS.tR (λa=>kH H (.ref a)),λQ' M=>?_,TS.cmp_tups (s:={ s with heap:=h',toks:=m,drawn:=d }) (λa=>kH H (.ref a)),λv z=>?_,λout p c e n hs Z j B=>fin vs out p c e m d g n ?_ Z j B⟩
  ·refine PySem.W.kat_kind (T:=.type "int") (s:={ s with heap:=h',toks:=m,drawn:=d }) k1 (by lia) (λv z=>?_) (by rfl) ?_
   ·obtain⟨i,t,rfl⟩:=Y v z
    exact .now
   ·rw[E];exact M
  ·obtain⟨a,e,O⟩:=k4 v z
   exact⟨rfl,a,e,O⟩
  ·rw[aG1]
   refine aI0 ?_ hs
   intro x y K N U
   obtain⟨ax,rfl,_⟩:=f (n.trans g) x K
   obtain⟨ay,rfl,_⟩:=f (n.trans g) y N
   exact U
 ·exact fin vs vs p c e m d g (List.Perm.refl _) (ah8 (by rw[aA3];exact D)) kp j B
end
end L2
namespace VL
open PySem PySem.Spec L2
section
variable{B:Bs}{env:En}{QO:Sl->En->Prop}{K:Frag}{ta:TA}{P:Program}{w:World}
theorem ary(h:EvA B ta env λds e=>∃ ps:List (Int × Int),ds=[.list (ps.map prD)]/\ps.length<=2030/\∀ qs:List (Int × Int),qs.Nodup->(∀ x,x∈qs ↔ x∈ps)->lexS (qs.map p2)->QO (.own (OL (qs.map prD))) e):EvO B (tCB (aqe P w) (abb (tCB (axc P w K) ta) tNil)) env QO:=λσ G H F Q I k =>
 h σ G H F _ I λvs G1 f F1 ds e1 s g1 r1 z_=>by
  obtain⟨ps,ed,hl,q1⟩:=z_
  subst ed
  cases r1 with
  | cons r t =>
   cases t
   cases r with
   | @lst a us _ ha rs =>
    rw[← agy] at rs
    obtain⟨t1,t2⟩:=afh s.gh rs ard
    have X:us.length=ps.length:=by have:=congrArg List.length t2;simpa using this
    obtain⟨m,O⟩:∃ m:List Addr,us=m.map V.ref:=⟨us.map λv=>match v with | .ref b=>b|_=>0,by
     rw[aD9]
     conv=>lhs;rw[← List.map_id us]
     refine aE9 λv U=>?_
     obtain⟨b,_,rfl,_⟩:=t1 v U
     rfl⟩
    subst O
    have T:m.length=ps.length:=by simpa using X
    have hk:∀(i:Nat) t q,m[i]?=some t->(ps.map p2)[i]?=some q->f t=some (.tup (q.map V.int)):=λi t q h1 Y=>by
     have h3:(m.map V.ref)[i]?=some (.ref t):=by rw[aA5,h1];rfl
     obtain⟨b,ns,e,hb,_⟩:=t1 _ (aA2 h3)
     cases e
     have h4:((m.map V.ref).map (kH f))[i]?=some (kH f (.ref t)):=by rw[aA5,h3];rfl
     rw[t2,Y,ahh hb] at h4
     cases h4
     exact hb
    refine⟨a,m,ps.map p2,rfl,SqL.of (s.gh _ _ ha),by rw[aA3];exact T,by rw[aA3];exact hl,hk,λbs L p a0 Z a2 nd hm hf=>?_⟩
    rw[aA3] at Z
    have J:=s.aside (p:=p) (o:=.ext (SH.SetB P w p bs)) (λ_ z=>nomatch z) (s.no_g hf) (λj z=>s.no_f hf j z) (s.no_b hf)
    have A:∀(i:Nat) b q,bs[i]?=some b->L[i]?=some q->upd f p (.ext (SH.SetB P w p bs)) b=some (.tup (q.map V.int)):=λi b q h1 Y=>by
     have:=a2 i b q h1 Y
     rw[aae (aao this hf)]
     exact this
    have n:∀ q∈L,∃ x∈ps,q=p2 x:=λq W=>by
     obtain⟨x,M,e⟩:=aB7.mp ((hm q).mp W)
     exact⟨x,M,e.symm⟩
    have D:∀ b∈bs,TupI (upd f p (.ext (SH.SetB P w p bs))) (.ref b):=λb hb=>by
     obtain⟨i,hi⟩:=aD3 hb
     have N:i<L.length:=by rw[← a0];exact(aA1.mp hi).1
     refine⟨b,L[i],rfl,A i b _ hi (aA0 N),?_⟩
     obtain⟨x,_,e⟩:=n _ (aF2 N)
     rw[e]
     simp
    have a1:(bs.map V.ref).map (kH (upd f p (.ext (SH.SetB P w p bs))))=L:=by
     refine aG2 λi=>?_
     rw[aA5,aA5]
     by_cases hi:i<bs.length
     ·rw[aA0 hi,aA0 (show i<L.length by lia),aI2,aI2,ahh (A i _ _ (aA0 hi) (aA0 (by lia)))]
     ·rw[aE1 (by lia),aE1 (show L.length<=i by lia)]
      rfl
    refine⟨p,bs,rfl,aaf,by lia,D,λu p' hp hs S=>?_⟩
    have tw:∀ v∈u,TupI (upd f p (.ext (SH.SetB P w p bs))) v:=λv U=>by
     obtain⟨b,hb,rfl⟩:=aB7.mp (hp.mem_iff.mp U)
     exact D b hb
    have o:=Out.newL J.gh S (af9 J.ft tw)
    have g:(u.map (kH (upd f p (.ext (SH.SetB P w p bs))))).Perm L:=by
     have:=hp.map (kH (upd f p (.ext (SH.SetB P w p bs))))
     rw[a1] at this
     exact this
    obtain⟨qs,C⟩:∃ qs:List (Int × Int),u.map (kH (upd f p (.ext (SH.SetB P w p bs))))=qs.map p2:=⟨(u.map (kH (upd f p (.ext (SH.SetB P w p bs))))).map λl=>(l.getD 0 0,l.getD 1 0),by
     rw[aD9]
     conv=>lhs;rw[← List.map_id (u.map (kH (upd f p (.ext (SH.SetB P w p bs)))))]
     refine aE9 λq W=>?_
     obtain⟨x,_,rfl⟩:=n q (g.mem_iff.mp W)
     rfl⟩
    rw[C] at g o
    rw[agy] at o
    have E:∀ x y:Int × Int,p2 x=p2 y->x=y:=λx y e=>by
     obtain⟨a,b⟩:=x
     obtain⟨c,d⟩:=y
     simp[p2] at e
     rw[e.1,e.2]
    refine k _ _ _ F1 _ _ e1 (J.out o).1 (g1.trans o.gg) (J.out o).2 (q1 qs ?_ (λx=>?_) ?_)
    ·have:=g.nodup_iff.mpr nd
     rw[List.Nodup,aG1] at this
     exact this.imp λ{x y} h e=>h (by rw[e])
    ·constructor
     ·intro M
      obtain⟨y,R,e⟩:=n _ (g.mem_iff.mp (List.mem_map_of_mem M))
      rw[E x y e]
      exact R
     ·intro M
      obtain⟨y,R,e⟩:=aB7.mp (g.mem_iff.mpr ((hm (p2 x)).mpr (List.mem_map_of_mem M)))
      rw[← E y x e]
      exact R
    ·rw[← C]
     unfold lexS
     rw[aG1]
     exact hs
end
section
variable{B:Bs}{env:En}{g:TG}{tif:TT}{te:TE}{K:Frag}{src:List (Option Nat)}{ds:List PyData}{e1:En}{R:List PyData->En->Prop}
end
end VL
namespace L2
open PySem PySem.Spec PyProof.Rows
section
variable{X:Cx}
end
end L2
namespace VL
open PySem PySem.Spec L2
end VL
namespace L2
open PySem PySem.Spec PyProof.Rows
section
variable{X:Cx}
end
end L2
namespace VL
open PySem PySem.Spec L2
end VL
namespace L2
open PySem PySem.Spec PyProof.Rows
end L2
namespace VL
open PySem PySem.Spec L2
theorem azh{α:Type}(f : α->PyData)(l:List α)(lo hi:Option Int):∃ a:List α,cutD (l.map f) lo hi=a.map f/\a.Sublist l :=
 ⟨_,by unfold cutD;rw[← List.map_drop,← List.map_take],(List.take_sublist _ _).trans (List.drop_sublist _ _)⟩
structure Sm(b k:Nat)(d:PyData):Prop where
 lay:d.canLay0=true
 sh:d.showable=true/\d.shown.length<=b
 dp:d.depth<=k
end VL
namespace G
open PySem L2 VL
def top(i:Nat):Stmt:=PySem.Challenge.pw_fewties_k11_papers_looked_at.main.body.getD i (.Pass ⟨0,0,0,0⟩)
abbrev s_is_whole:Stmt:=top 5
abbrev s_is_between:Stmt:=top 6
abbrev s_is_place:Stmt:=top 7
abbrev s_tied_places:Stmt:=top 8
abbrev s_far_from:Stmt:=top 9
abbrev s_need_place:Stmt:=top 10
abbrev s_all_far:Stmt:=top 11
abbrev s_is_joined:Stmt:=top 12
abbrev s_need_joined:Stmt:=top 14
abbrev s_far_shows:Stmt:=top 15
abbrev s_is_square:Stmt:=top 16
abbrev s_is_long:Stmt:=top 17
abbrev s_number_holds:Stmt:=top 18
abbrev s_law_deck:Stmt:=top 20
abbrev s_law_draw:Stmt:=top 21
abbrev s_law_tied:Stmt:=top 22
abbrev s_law_fars:Stmt:=top 23
abbrev s_law_order:Stmt:=top 24
abbrev s_law_crowds:Stmt:=top 25
abbrev s_law_web:Stmt:=top 26
abbrev s_law_joined_web:Stmt:=top 27
abbrev s_law_shows:Stmt:=top 28
abbrev s_law_table:Stmt:=top 29
abbrev s_law_some:Stmt:=top 30
abbrev s_law_bent:Stmt:=top 31
abbrev s_law_right:Stmt:=top 32
abbrev s_law:Stmt:=top 33
structure Txt(K:Frag)(mg:Str->Option Value):Prop where
 b_ValueError:mg "ValueError" = none
 b_all:mg "all" = none
 b_any:mg "any" = none
 b_range:mg "range" = none
 b_dict:mg "dict" = none
 b_list:mg "list" = none
 b_isinstance:mg "isinstance" = none
 b_int:mg "int" = none
 b_len:mg "len" = none
 b_max:mg "max" = none
 b_sum:mg "sum" = none
 b_sorted:mg "sorted" = none
 b_bool:mg "bool" = none
 b_min:mg "min" = none
 b_set:mg "set" = none
 d_is_whole:∃ f fd,DefAt K mg "is_whole" s_is_whole ["thing"] f fd
 d_is_between:∃ f fd,DefAt K mg "is_between" s_is_between ["least","most","thing"] f fd
 d_is_place:∃ f fd,DefAt K mg "is_place" s_is_place ["n","thing"] f fd
 d_tied_places:∃ f fd,DefAt K mg "tied_places" s_tied_places ["web"] f fd
 d_far_from:∃ f fd,DefAt K mg "far_from" s_far_from ["tied","start"] f fd
 d_need_place:∃ f fd,DefAt K mg "need_place" s_need_place ["web","thing"] f fd
 d_all_far:∃ f fd,DefAt K mg "all_far" s_all_far ["web","a"] f fd
 d_is_joined:∃ f fd,DefAt K mg "is_joined" s_is_joined ["web"] f fd
 d_need_joined:∃ f fd,DefAt K mg "need_joined" s_need_joined ["web"] f fd
 d_far_shows:∃ f fd,DefAt K mg "far_shows" s_far_shows ["web","d","paper"] f fd
 d_is_square:∃ f fd,DefAt K mg "is_square" s_is_square ["n","paper"] f fd
 d_is_long:∃ f fd,DefAt K mg "is_long" s_is_long ["n","thing"] f fd
 d_number_holds:∃ f fd,DefAt K mg "number_holds" s_number_holds ["tied","d","paper","a","b"] f fd
 d_law_deck:∃ f fd,DefAt K mg "_law_deck" s_law_deck ["script"] f fd
 d_law_draw:∃ f fd,DefAt K mg "_law_draw" s_law_draw ["deck","many"] f fd
 d_law_tied:∃ f fd,DefAt K mg "_law_tied" s_law_tied ["web"] f fd
 d_law_fars:∃ f fd,DefAt K mg "_law_fars" s_law_fars ["web"] f fd
 d_law_order:∃ f fd,DefAt K mg "_law_order" s_law_order ["deck","n"] f fd
 d_law_crowds:∃ f fd,DefAt K mg "_law_crowds" s_law_crowds ["deck"] f fd
 d_law_web:∃ f fd,DefAt K mg "_law_web" s_law_web ["deck"] f fd
 d_law_joined_web:∃ f fd,DefAt K mg "_law_joined_web" s_law_joined_web ["deck"] f fd
 d_law_shows:∃ f fd,DefAt K mg "_law_shows" s_law_shows ["web","d","paper"] f fd
 d_law_table:∃ f fd,DefAt K mg "_law_table" s_law_table ["web"] f fd
 d_law_some:∃ f fd,DefAt K mg "_law_some" s_law_some ["deck","web"] f fd
 d_law_bent:∃ f fd,DefAt K mg "_law_bent" s_law_bent ["deck","paper"] f fd
 d_law_right:∃ f fd,DefAt K mg "_law_right" s_law_right ["web","d","paper"] f fd
 d_law:∃ f fd,DefAt K mg "law" s_law ["script"] f fd
local macro_rules | `(tactic| row_cond sc) => `(tactic| exact ⟨rfl,rfl,rfl,by decide +kernel,rfl,by decide +kernel,by decide +kernel⟩)
local macro_rules | `(tactic| row_cond gn) => `(tactic| first | (with_reducible first | refine evg_n0 ?_ | refine a1e ?_ | refine a1f ?_ | refine a1g ?_ | refine a1h ?_ | refine a1i ?_ | refine a1j ?_ | refine a1k ?_ | refine a1l ?_ | refine a1m ?_ | refine evg_n10 ?_ | refine evg_n11 ?_ | refine evg_n12 ?_ | refine evg_n13 ?_ | refine evg_n14 ?_ | refine evg_n15 ?_ | refine evg_n16 ?_ | refine evg_n17 ?_ | refine evg_n18 ?_ | refine evg_n19 ?_ | refine evg_n20 ?_ | refine evg_n21 ?_ | refine evg_n22 ?_ | refine evg_n23 ?_ | refine evg_n24 ?_ | refine evg_n25 ?_) | ((with_reducible refine abh ?_); dsimp only [List.set_cons_zero, List.set_cons_succ]))
local macro_rules | `(tactic| row_cond dc) => `(tactic| first | assumption | lia | (with_reducible rfl))
local macro_rules | `(tactic| row_cond ar) => `(tactic| first | assumption | (refine ⟨?_, ?_, ?_⟩ <;> decide) | (constructor <;> first | assumption | lia) | (show (0 : Int) < _; first | assumption | lia) | (left; constructor <;> first | assumption | lia) | (right; constructor <;> first | assumption | lia))
local macro_rules | `(tactic| row_cond hs) => `(tactic| first | exact Or.inl rfl | exact Or.inr rfl)
local macro_rules | `(tactic| row_cond fz) => `(tactic| first | exact acb | exact a0t | exact frz_OT | exact frz_OW | exact aek | assumption)
local macro_rules | `(tactic| row_cond le) => `(tactic| first | exact Nat.le_of_ble_eq_true rfl | assumption | lia | (simp only [List.length_append, List.length_map, List.length_cons, List.length_nil, List.length_set, List.length_replicate]; lia))
local macro_rules | `(tactic| row_cond ia) => `(tactic| first | assumption | exact at0 | exact at1 | exact at2 | exact rfl)
local macro_rules | `(tactic| row_cond ty) => `(tactic| first | exact a1c | exact ayp | exact ty_tuple | exact ayq | exact ty_str | exact ty_dict)
local macro_rules | `(tactic| row_cond sEvS) => `(tactic| first | (with_reducible refine ah9 (fun c_ hc_ => ?_)) | (with_reducible first | refine api ?_ | refine a01 ?_ | refine am8 ?_) | ((with_reducible refine' av1 ?h0 ?_); (case h0 => exact rfl)) | (with_reducible first | refine apj ?_ | refine ayf ?_ | refine avk ?_) | ((with_reducible refine' arf ?h0 ?_); (case h0 => exact rfl)) | ((with_reducible refine' arh ?h0 ?_); (case h0 => exact rfl)) | ((with_reducible refine' apk ?h0 ?_); (case h0 => assumption)))
local macro_rules | `(tactic| row_cond sEvG) => `(tactic| first | row_cond gn | ((with_reducible refine' aye ?h0 ?_); (case h0 => exact rfl)) | ((with_reducible refine' av0 ?h0 ?_); (case h0 => row_cond hs)) | (with_reducible refine evg_st ?_))
local macro_rules | `(tactic| row_cond sEvGs) => `(tactic| first | (with_reducible first | refine atc ?_ | refine am7 ?_))
local macro_rules | `(tactic| row_cond sEv) => `(tactic| first | ((with_reducible refine' a0u ?h0 ?_); (case h0 => exact rfl)) | (with_reducible refine a0v ?_) | ((with_reducible refine' a08 ?h0 ?_); (case h0 => row_cond hs)) | (with_reducible refine aw3 ?_) | ((with_reducible refine' a09 ?h0 ?_); (case h0 => row_cond ty)) | ((with_reducible refine' a07 ?h0 ?h1 ?_); (case h0 => row_cond hs); (case h1 => row_cond fz)) | ((with_reducible refine' akn ?h0 ?_); (case h0 => exact rfl)) | ((with_reducible refine' ath ?h0 ?_); (case h0 => exact rfl)) | (with_reducible refine avo ?_) | ((with_reducible refine' ax6 ?h0 ?h1 ?_); (case h0 => exact rfl); (case h1 => row_cond fz); dsimp only [List.set_cons_zero, List.set_cons_succ]) | (with_reducible first | refine a0y ?_ | refine a0z ?_ | refine a2t ?_ | refine a0w ?_ | refine a2u ?_ | refine ayb ?_ | refine ayc ?_ | refine avj ?_ | refine abu (te:=tCB (aip _) _) ?_ | refine abu (te:=tCB ahq _) ?_ | refine a2v ?_) | ((with_reducible refine' aq7 ?h0 ?_); (case h0 => row_cond hs)) | ((with_reducible refine' aq8 ?h0 ?_); (case h0 => row_cond hs)) | ((with_reducible refine' aon ?h0 ?_); (case h0 => row_cond hs)) | (with_reducible refine av6 ?_) | ((with_reducible refine' a23 ?h0 ?_); (case h0 => decide)) | (with_reducible first | refine avz ?_ | refine a1s ?_))
local macro_rules | `(tactic| row_cond sEvO) => `(tactic| first | (with_reducible first | refine am4 (r:=rCat) ?_ | refine am4 (r:=rRep) ?_ | refine aba (te:=tOp _ _ _) ?_ | refine aba (te:=tVar _) ?_ | refine aba (te:=tC _) ?_ | refine aph ?_) | (with_reducible refine apg ?_) | ((with_reducible refine' aiu ?h0 ?_); (case h0 => exact rfl)) | ((with_reducible refine' aiv ?h0 ?_); (case h0 => exact rfl)) | ((with_reducible refine' ate ?h0 ?h1 ?_); (case h0 => exact rfl); (case h1 => assumption)) | (with_reducible first | refine akj ?_ | refine ays ?_) | ((with_reducible refine' atf ?h0 ?_); (case h0 => decide)) | (with_reducible first | refine apv ?_) | (with_reducible first | refine akm ?_ | refine atq ?_ | refine ako ?_ | refine atb (r:=agw _) ?_ | refine aba (te:=tUn _ _) ?_ | refine aba (te:=aqk _ _) ?_ | refine aba (te:=aql _) ?_ | refine aba (te:=aie _ _ _ _ _) ?_ | refine aba (te:=alo _ _) ?_ | refine aba (te:=afp _ _) ?_ | refine aba (te:=ami _ _ _) ?_ | refine aba (te:=tCB (rLen _) _) ?_ | refine aba (te:=tCB (rIsi _) _) ?_ | refine aba (te:=tCB alp _) ?_ | refine aba (te:=tCB alq _) ?_ | refine aba (te:=tCB alr _) ?_ | refine aba (te:=tCB (ahg _) _) ?_ | refine aba (te:=tCB (alt _) _) ?_ | refine aba (te:=tCB (aq1 _) _) ?_ | refine aba (te:=tCB (rAll _) _) ?_ | refine aba (te:=tCB (rAny _) _) ?_ | refine aba (te:=tBM _ _ _ _ _) ?_))
local macro_rules | `(tactic| row_cond sEvT) => `(tactic| first | (with_reducible first | refine am6 ?_ | refine a2w ?_ | refine ax8 ?_ | refine a00 ?_ | refine ax9 ?_ | refine ahi ?_) | (with_reducible refine aya ?_))
local macro_rules | `(tactic| row_cond sEvA) => `(tactic| first | (with_reducible first | refine am5 ?_ | refine ax7 ?_))
local macro_rules | `(tactic| row_cond sEvI) => `(tactic| first | (with_reducible first | refine avm ?_ | refine avn ?_ | refine evi_down ?_ | refine avl ?_) | (with_reducible refine evi_tup ?_))
local macro_rules | `(tactic| row_cond sEvOp) => `(tactic| first | (with_reducible first | refine avx ?_ | refine avy ?_))
local macro_rules | `(tactic| row_cond sOp2) => `(tactic| first | (with_reducible first | refine ayg ?_ | refine ayh ?_) | ((with_reducible refine' a05 ?h0 ?_); (case h0 => row_cond ar)) | (with_reducible first | refine ayi ?_ | refine ayj ?_) | ((with_reducible refine' ahm ?h0 ?_); (case h0 => row_cond ia)) | ((with_reducible refine' ayl ?h0 ?_); (case h0 => row_cond ia)) | (with_reducible first | refine ayk ?_ | refine ayn ?_) | ((with_reducible refine' ayo ?h0 ?_); (case h0 => row_cond le)))
local macro_rules | `(tactic| row_cond sOp1) => `(tactic| first | (with_reducible refine a06 ?_))
local macro_rules | `(tactic| row_cond sOpA) => `(tactic| first | (with_reducible first | refine avr ?_ | refine avs ?_ | refine avt ?_ | refine avu ?_ | refine av5 ?_))
local macro_rules | `(tactic| row_cond sFQ) => `(tactic| first | (with_reducible first | refine af6 ?_ | refine ac0 ?_))
local macro_rules | `(tactic| row_cond sRngA1) => `(tactic| first | ((with_reducible refine' a03 ?h0 ?h1 ?_); (case h0 => lia); (case h1 => lia)))
local macro_rules | `(tactic| row_cond sRngA2) => `(tactic| first | ((with_reducible refine' a04 ?h0 ?_); (case h0 => lia)))
local macro_rules | `(tactic| row_cond sRest) => `(tactic| first | (with_reducible first | refine x_bl ?_ | refine x_st ?_ | refine a02 ?_ | refine a2x ?_) | ((with_reducible refine' a21 ?h0 ?h1 ?_); (case h0 => row_cond hs); (case h1 => row_cond ia)) | ((with_reducible refine' x_sc ?h0 ?_); (case h0 => exact rfl)) | ((with_reducible refine' a20 ?h0 ?_); (case h0 => row_cond le)) | (with_reducible first | refine acl ?_ | refine adp ?_ | refine apd ?_ | refine ape ?_) | ((with_reducible refine' ajd ?h0 ?_); (case h0 => row_cond dc)) | ((with_reducible refine' aje ?h0 ?_); (case h0 => row_cond dc)) | ((with_reducible refine' avg ?h0 ?_); (case h0 => row_cond dc)) | ((with_reducible refine' avh ?h0 ?_); (case h0 => row_cond dc)) | ((with_reducible refine' a22 ?h0 ?_); (case h0 => first | exact rfl | row_cond hs)) | ((with_reducible refine' x_rt ?h0 ?_); (case h0 => exact rfl)) | ((with_reducible refine' a1d ?h0 ?h1 ?_); (case h0 => exact rfl); (case h1 => row_cond le); dsimp only [List.set_cons_zero, List.set_cons_succ]) | ((with_reducible refine' aq9 ?h0 ?h1 ?_); (case h0 => exact rfl); (case h1 => first | exact ixN0 | exact ixN1 | exact ixN2 | assumption); dsimp only [List.set_cons_zero, List.set_cons_succ, reS]) | (with_reducible first | refine av2 ?_) | ((with_reducible refine' x_dT ?h0 ?h1 ?_); (case h0 => exact rfl); (case h1 => row_cond le); dsimp only [List.set_cons_zero, List.set_cons_succ]) | ((with_reducible refine' x_dK ?h0 ?h1 ?_); (case h0 => exact rfl); (case h1 => row_cond le); dsimp only [List.set_cons_zero, List.set_cons_succ]) | ((with_reducible refine' x_dN ?h0 ?_); (case h0 => row_cond hs)) | ((with_reducible refine' ayy ?h0 ?h1 ?_); (case h0 => lia); (case h1 => lia)))
local macro_rules | `(tactic| row_cond st) => `(tactic| first | ((with_reducible refine a24 ?_); row_cond sEvS) | ((with_reducible refine a25 ?_); row_cond sEvG) | ((with_reducible refine a1q ?_); row_cond sEvGs) | ((with_reducible refine g_Ev ?_); row_cond sEv) | ((with_reducible refine a26 ?_); row_cond sEvO) | ((with_reducible refine a27 ?_); row_cond sEvT) | ((with_reducible refine a28 ?_); row_cond sEvA) | ((with_reducible refine a29 ?_); row_cond sEvI) | ((with_reducible refine a1r ?_); row_cond sEvOp) | ((with_reducible refine a3c ?_); row_cond sOp2) | ((with_reducible refine a3d ?_); row_cond sOp1) | ((with_reducible refine a3e ?_); row_cond sOpA) | ((with_reducible refine g_FQ ?_); row_cond sFQ) | ((with_reducible refine ay0 ?_); row_cond sRngA1) | ((with_reducible refine ay1 ?_); row_cond sRngA2) | row_cond sRest)
local macro_rules | `(tactic| row_cond go) => `(tactic| repeat row_cond st)
local macro_rules | `(tactic| row_cond hnx) => `(tactic| first | assumption | (apply Ne.symm; assumption) | exact aao (by assumption) (by assumption) | exact (aao (by assumption) (by assumption)).symm)
local macro_rules | `(tactic| row_cond hhp) => `(tactic| first | assumption | exact aaf | (rw [aae (by row_cond hnx)]; row_cond hhp) | ((refine' Same.at ?ss ?hh); (case ss => assumption); (case hh => row_cond hhp)))
local macro_rules | `(tactic| row_cond hix) => `(tactic| first | assumption | exact at0 | exact at1 | exact at2)
local macro_rules | `(tactic| row_cond hst) => `(tactic| first | (with_reducible first | refine a0b ?_ | refine a0c ?_ | refine aft ?_ | refine a2n ?_ | refine go_c ?_ | refine a2q ?_ | refine go_U ?_ | refine asx ?_ | refine axu ?_ | refine a2o ?_ | refine a0e ?_ | refine a0f ?_ | refine a0d ?_ | refine axr ?_ | refine axs ?_ | refine a2p ?_ | refine afu ?_ | refine aeu ?_ | refine axv ?_ | refine ao4 ?_ | refine ao5 ?_ | refine ao6 ?_ | refine axt ?_ | refine ax3 ?_ | refine a0k ?_ | refine a0m ?_ | refine a2r ?_ | refine au5 ?_ | refine agn ?_ | refine acl ?_ | refine adp ?_) | ((with_reducible refine' aml ?hv ?_); (case hv => exact rfl)) | ((with_reducible refine' aex ?ha ?hv ?_); (case ha => row_cond hhp); (case hv => row_cond hix)) | ((with_reducible refine go_I ?hc ?_); (case hc => row_cond ar)) | ((with_reducible refine' ao3 ?ha ?_); (case ha => row_cond hhp)) | ((with_reducible refine' ajc ?ha ?hj ?_); (case ha => row_cond hhp); (case hj => first | exact ixN0 | exact ixN1 | exact ixN2)) | ((with_reducible refine' a0o ?ha ?_); (case ha => row_cond hhp)) | ((with_reducible refine' ae5 ?ha ?hl ?_); (case ha => row_cond hhp); (case hl => exact ae2 (by simp; lia))) | ((with_reducible refine' ajd ?hc ?_); (case hc => row_cond dc)) | ((with_reducible refine' aje ?hc ?_); (case hc => row_cond dc)) | dsimp only [List.set_cons_zero, List.set_cons_succ])
local macro_rules | `(tactic| row_cond hgo) => `(tactic| repeat row_cond hst)
def isInt:PyData->Bool
 | .int _=>true
 |_=>false
def btwD(a b:Int):PyData->Bool
 | .int i=>decide (a<=i/\i<=b)
 |_=>false
def azi:VP:=λss Q=>∃ d,ss=[.st d]/\Q (.st (.bool (isInt d)))
def auk:VP:=λss Q=>∃(a b:Int)(d:PyData),ss=[.st (.int a),.st (.int b),.st d]/\Q (.st (.bool (btwD a b d)))
def azj:VP:=λss Q=>∃(n:Int)(d:PyData),ss=[.st (.int n),.st d]/\Q (.st (.bool (btwD 0 (n-1) d)))
section
variable{P:Program}{w:World}{K:Frag}{mg:Str->Option Value}{base:Heap}
theorem sc_is_whole:FnScope ["thing"] ["thing"] (aap s_is_whole):=by row_cond sc
theorem ag2(T:Txt K mg):Can P w K mg base "is_whole" 1 ["thing"] (spP K (azi)):=by
 obtain⟨f,fd,D⟩:=T.d_is_whole
 refine D.can (D.fn.ok sc_is_whole (λvs H Q E h=>lenP h λss c q=>by obtain⟨d,rfl,k⟩:=q;rfl) (λcdv A outer s H vs Q E g h=>?_))
 have nd:=sc_is_whole.nd
 refine⟨_,(aah (aau (aeo (aak af4 (by rfl) T.b_isinstance adc (aaa (pv 0) (aaa (ag7 (v:=.ty "int") rfl T.b_int ago rfl) aab))) (agk (az0 (aak af4 (by rfl) T.b_isinstance adc (aaa (pv 0) (aaa (ag7 (v:=.ty "bool") rfl T.b_bool apa rfl) aab)))))))),?_⟩
 refine abz h λss c q B j=>?_
 refine exS1 ss q λd a=>?_
 have k:=a
 clear a q
 show EvS B _ _ [some (.st d)]
 row_cond go
 cases d with
 |int i=>refine acl ?_; row_cond go; exact k
 |bool b=>refine acl ?_; row_cond go; exact k
 |_=>refine adp ?_;exact k
theorem sc_is_between:FnScope ["least","most","thing"] ["least","most","thing"] (aap s_is_between):=by row_cond sc
theorem ajz(T:Txt K mg):Can P w K mg base "is_between" 2 ["least","most","thing"] (spP K (auk)):=by
 obtain⟨f,fd,D⟩:=T.d_is_between
 refine D.can (D.fn.ok sc_is_between (λvs H Q E h=>lenP h λss l q=>by obtain⟨a,b,d,rfl,k⟩:=q;rfl) (λcdv A outer s H vs Q E j h=>?_))
 have nd:=sc_is_between.nd
 refine⟨_,(aah (aau (aeo (aag (ag2 T) j (aaa (pv 2) aab)) (agk (aut ag9 ag9 (pv 0) (pv 2) (pv 1)))))),?_⟩
 refine abz h λss l q B m=>?_
 refine exS3 ss q λa b d c=>?_
 have k:=c
 clear c q
 show EvS B _ _ [some (.st (.int a)),some (.st (.int b)),some (.st d)]
 row_cond go
 refine⟨d,rfl,?_⟩
 row_cond go
 cases d with
 | int i =>
  refine acl ?_
  row_cond go
  refine abm (λg=>?_) (λg=>?_)
  ·row_cond go
   have e:decide (i<=b)=btwD a b (.int i):=by
    show _=decide (a<=i/\i<=b)
    rw[aH8];simp[g]
   rw[e];exact k
  ·have e:false=btwD a b (.int i):=by
    show _=decide (a<=i/\i<=b)
    exact(aD7 (λz=>g z.1)).symm
   rw[e];exact k
 |_=>exact adp k
theorem sc_is_place:FnScope ["n","thing"] ["n","thing"] (aap s_is_place):=by row_cond sc
theorem an0(T:Txt K mg):Can P w K mg base "is_place" 3 ["n","thing"] (spP K (azj)):=by
 obtain⟨f,fd,D⟩:=T.d_is_place
 refine D.can (D.fn.ok sc_is_place (λvs H Q E h=>lenP h λss c q=>by obtain⟨n,d,rfl,k⟩:=q;rfl) (λcdv A outer s H vs Q E b h=>?_))
 have nd:=sc_is_place.nd
 refine⟨_,(aah (aau (aag (ajz T) b (aaa aac (aaa (aar ac9 (pv 0) aac) (aaa (pv 1) aab)))))),?_⟩
 refine abz h λss c q B g=>?_
 refine exS2 ss q λn d a=>?_
 have k:=a
 clear a q
 show EvS B _ _ [some (.st (.int n)),some (.st d)]
 row_cond go
 exact⟨_,_,_,rfl,k⟩
def a17:VP:=λss Q=>∃(n:Int)(es:List (Int × Int)),ss=[.st (webD n es)]/\0<=n/\n<=100/\InN n es/\es.length<=10000/\∀ tl,TiedL n (Tied es) tl->(∀ us∈tl,us.length<=20000)->Q (.own (OLL (tlD tl)))
theorem sc_tied_places:FnScope ["web","n","ties","tied","a","b"] ["web"] (aap s_tied_places):=by row_cond sc
theorem afc(T:Txt K mg):Can P w K mg base "tied_places" 1 ["web"] (spP K (a17)):=by
 obtain⟨f,fd,D⟩:=T.d_tied_places
 refine D.can (D.fn.ok sc_tied_places (λvs H Q E h=>lenP h λss S q=>by obtain⟨n,es,rfl,O,L,p,C,k⟩:=q;rfl) (λcdv A outer s H vs Q E U h=>?_))
 have nd:=sc_tied_places.nd
 refine⟨_,(aad (act (pv 0) (afj rfl (aby (aan (i:=1) nd rfl (Or.inl rfl)) (aby (aan (i:=2) nd rfl (Or.inl rfl)) aei))))
  (aad (aet (i:=3) nd rfl (Or.inl rfl) rfl (N:=["place"]) (src:=[none]) (by exact abe rfl rfl rfl rfl rfl rfl) (aa8 rfl T.b_range (aaa (pv 1) aab)) (λ_ _ _ _=>(aan (i:=0) (show List.Nodup (["place"]:List Str) by decide +kernel) rfl (Or.inl rfl) (hf:=Or.inr rfl))) (λ_ _ _ _=>aa9) (λ_ _ _ _=>(aaw aab)))
  (aad (abd aJ8 rfl (aa5 (pv 2)) (afj rfl (aby (aan (i:=4) nd rfl (Or.inl rfl)) (aby (aan (i:=5) nd rfl (Or.inl rfl)) aei)))
   (aad (ab1 (adl PySem.F.plainAttrs_list PySem.F.slot_list_append PySem.F.type_list_append abt (aal aam (pv 3) (pv 4) (λ_ _=>rfl)) (aaa (pv 5) aab)))
    (aah (ab1 (adl PySem.F.plainAttrs_list PySem.F.slot_list_append PySem.F.type_list_append abt (aal aam (pv 3) (pv 5) (λ_ _=>rfl)) (aaa (pv 4) aab))))))
  (aah (aau (pv 3)))))),?_⟩
 refine abz h λss S q B W=>?_
 refine exS2 ss q λn es c=>?_
 have O:=c.1
 have L:=c.2.1
 have p:=c.2.2.1
 have C:=c.2.2.2.1
 have k:=c.2.2.2.2
 clear c q
 show EvS B _ _ [some (.st (webD n es)),none,none,none,none,none]
 row_cond go
 rw[adb]
 refine⟨by lia,?_⟩
 row_cond go
 refine acw (λi e=>∃ I J tl,e=[some (.st (webD n es)),some (.st (.int n)),some (.st (.list (es.map prD))),some (.own (OLL (tlD tl))),I,J]/\TiedL n (Tied (es.take i)) tl/\∀ g∈tl,g.length<=2 * i)
  ⟨none,none,List.replicate n.toNat [],by simp[tlD],⟨by simp;lia,λi g hi w=>?_⟩,λg R=>?_⟩ ?_ ?_
 ·rw[aH7] at hi
  split at hi
  ·cases hi;simp[Tied]
  ·cases hi
 ·have:=List.eq_of_mem_replicate R
  subst this;simp
 ·rintro i ⟨a,b⟩ e G m
  refine exS3 e m λI J tl c=>?_
  have o:=c.1
  have l:=c.2
  clear c m
  have hi:i<es.length:=(aA1.mp G).1
  obtain⟨a0,y,b0,x⟩:=p _ (aA2 G)
  dsimp only at a0 y b0 x
  row_cond go
  obtain⟨g,j,_⟩:=o.get a0 y
  have M:=l g (aA2 j)
  refine aix (n:=a.toNat) (ds:=g.map .int) rfl rfl rfl (by rw[aA3];exact aiy a0 (by rw[o.1];exact y)) (adi j) (by rw[aA3];lia) ?_
  dsimp only[List.set_cons_zero,List.set_cons_succ]
  have z:=o.put (q:=b) a0 y j
  rw[show g.map PyData.int++[.int b]=(g++[b]).map .int by simp,ahp]
  have d:∀ us∈tl.set a.toNat (g++[b]),us.length<=2 * i+1:=λus r=>by
   rcases List.mem_or_eq_of_mem_set r with h|h
   ·have:=l us h;lia
   ·subst h;simp;lia
  generalize tl.set a.toNat (g++[b])=tl2 at z d
  row_cond go
  obtain⟨g,j,_⟩:=z.get b0 x
  have M:=d g (aA2 j)
  refine aix (n:=b.toNat) (ds:=g.map .int) rfl rfl rfl (by rw[aA3];exact aiy b0 (by rw[z.1];exact x)) (adi j) (by rw[aA3];lia) ?_
  dsimp only[List.set_cons_zero,List.set_cons_succ]
  rw[show g.map PyData.int++[.int a]=(g++[a]).map .int by simp,ahp]
  refine⟨_,_,_,rfl,(z.put (q:=a) b0 x j).iff λu v=>(Tied.snoc G u v).symm,λus r=>?_⟩
  rcases List.mem_or_eq_of_mem_set r with h|h
  ·have:=d us h;lia
  ·subst h;simp;lia
 ·rintro e m
  refine exS3 e m λI J tl c=>?_
  have o:=c.1
  have l:=c.2
  clear c m
  rw[aG8] at o
  row_cond go
  exact k tl o λus r=>by have:=l us r;lia
end
@[reducible] def tlV (tl:List (List Int)):PyData:=.list ((tlD tl).map .list)
def a3i:VP:=λss Q=>∃(n a:Int)(T:Int->Int->Prop)(tl:List (List Int)),ss=[.st (tlV tl),.st (.int a)]/\n<=100/\TiedL n T tl/\(∀ u v,T u v->0<=v/\v<n)/\0<=a/\a<n/\Q (.own (OL (lab n.toNat (Gr.farO T a))))
section
variable{P:Program}{w:World}{K:Frag}{mg:Str->Option Value}{base:Heap}
theorem sc_far_from:FnScope ["tied","start","far","edge","beyond","place","other"] ["tied","start"] (aap s_far_from):=by row_cond sc
theorem an1(T:Txt K mg):Can P w K mg base "far_from" 1 ["tied","start"] (spP K (a3i)):=by
 obtain⟨f,fd,D⟩:=T.d_far_from
 refine D.can (D.fn.ok sc_far_from (λvs H Q E h=>lenP h λss Q' q=>by obtain⟨n,a,T,tl,rfl,n1,U,hT,a0,a1,k⟩:=q;rfl) (λcdv A outer s H vs Q E hr h=>?_))
 have nd:=sc_far_from.nd
 refine ⟨_,(aad (aaj (i:=2) nd rfl (Or.inl rfl) (aar asj (aaw (aaa al0 aab)) (aak abl (by rfl) T.b_len aca (aaa (pv 0) aab))))
  (aad (act aac (adk (pv 2) (pv 1) acq))
  (aad (aaj (i:=3) nd rfl (Or.inl rfl) (aaw (aaa (pv 1) aab)))
  (aad (al3 aJ8 (a0s (pv 3))
   (aad (aaj (i:=4) nd rfl (Or.inl rfl) (aaw aab))
    (aad (abd aJ8 rfl (aa5 (pv 3)) (aan (i:=5) nd rfl (Or.inl rfl))
     (aah (abd aJ8 rfl (aa5 (aal aam (pv 0) (pv 5) (λ_ _=>rfl))) (aan (i:=6) nd rfl (Or.inl rfl))
       (aah (aa6 (aay ax2 (aal aam (pv 2) (pv 6) (λ_ _=>rfl)) al0 (aav _))
         (aad (act (aar aa7 (aal aam (pv 2) (pv 5) (λ_ _=>rfl)) aac) (adk (pv 2) (pv 6) acq))
          (aah (ab1 (adl PySem.F.plainAttrs_list PySem.F.slot_list_append PySem.F.type_list_append abt (pv 4) (aaa (pv 6) aab)))))
         aax)))))
    (aah (aaj (i:=3) nd rfl (Or.inl rfl) (pv 4))))))
  (aah (aau (pv 2))))))),?_⟩
 refine abz h λss Q' q B hK=>?_
 refine exS4 ss q λn a T tl b=>?_
 have n1:=b.1
 have U:=b.2.1
 have hT:=b.2.2.1
 have a0:=b.2.2.2.1
 have a1:=b.2.2.2.2.1
 have k:=b.2.2.2.2.2
 clear b q
 show EvS B _ _ [some (.st (tlV tl)),some (.st (.int a)),none,none,none,none,none]
 have hl:tl.length=n.toNat:=by have:=U.1;lia
 row_cond go
 refine apq (by first|lia|(simp;done)|(simp;lia)) (by first|lia|(simp;done)|(simp;lia)) (by first|lia|(simp;done)|(simp;lia)) ?_
 simp only[aA3,hl]
 rw[show((n.toNat:Nat):Int).toNat=n.toNat by lia,ayu]
 row_cond go
 refine aq9 (j:=a.toNat) rfl (by rw[ac1];exact aiy a0 (by lia)) ?_
 dsimp only[List.set_cons_zero,List.set_cons_succ,reS]
 rw[show(PyData.int 0)=.int ((0:Nat):Int) from rfl,apt a0 (by lia)]
 row_cond go
 refine aho 3 rfl acb ?_
 dsimp only[List.set_cons_zero,List.set_cons_succ]
 refine aki (λm e=>∃ v4 I y far edge r,e=[some (.st (tlV tl)),some (.st (.int a)),some (.own (OL (lab n.toNat far))),some (.st (.list (edge.map .int))),v4,I,y]/\Gr.Ring T a r far edge/\(∀ v∈edge,0<=v/\v<n)/\m=2 * cnt far n.toNat+(if edge=[] then 0 else 1))
  ⟨_,none,none,none,_,[a],0,rfl,Gr.Ring.start,λv N=>by simp at N;subst N;exact⟨a0,a1⟩,rfl⟩ ?_
 rintro m e l
 refine exS6 e l λv4 I y far edge r b=>?_
 have R:=b.1
 have hb:=b.2.1
 have S:=b.2.2
 clear b l
 subst S
 row_cond go
 rw[aom]
 cases hedge:edge with
 | nil =>
  subst hedge
  refine adp ?_
  row_cond go
  rw[atj (g:=Gr.farO T a) λv _ _=>R.fin v]
  exact k
 | cons e0 er =>
  refine acl ?_
  rw[← hedge]
  have Y:edge ≠ []:=by rw[hedge];simp
  row_cond go
  refine acw (λi e=>∃ I y c beyond,e=[some (.st (tlV tl)),some (.st (.int a)),some (.own (OL (lab n.toNat c))),some (.st (.list (edge.map .int))),some (.own (OL (beyond.map .int))),I,y]/\Gr.Mid T r far edge (λu=>u∈edge.take i) c beyond/\cnt c n.toNat+beyond.length=cnt far n.toNat/\∀ v∈beyond,0<=v/\v<n)
   ⟨I,y,far,[],rfl,Gr.Mid.start.imp λu J=>by simp at J,rfl,λv N=>by simp at N⟩ ?_ ?_
  ·rintro i p e hp l
   refine exS4 e l λI y c beyond b=>?_
   have C:=b.1
   have G:=b.2.1
   have o:=b.2.2
   clear b l
   have M:=aA2 hp
   obtain⟨p0,p1⟩:=hb p M
   obtain⟨ws,X,hw⟩:=U.get p0 p1
   have a4:atI ((tlD tl).map PyData.list) p=some (.list (ws.map .int)):=acx (f:=PyData.list) (ab5 p0 (adi X))
   row_cond go
   have a2:far p=some r:=(R.lab p r).mpr ⟨(R.edg p).mp M,aA6 _⟩
   refine acw (λj e=>∃ y c beyond,e=[some (.st (tlV tl)),some (.st (.int a)),some (.own (OL (lab n.toNat c))),some (.st (.list (edge.map .int))),some (.own (OL (beyond.map .int))),some (.st (.int p)),y]/\Gr.Mid T r far edge (λu=>u∈edge.take i) c beyond/\cnt c n.toNat+beyond.length=cnt far n.toNat/\(∀ v∈beyond,0<=v/\v<n)/\∀ x∈ws.take j,c x ≠ none)
    ⟨y,c,beyond,rfl,C,G,o,λx L=>by simp at L⟩ ?_ ?_
   ·rintro j u e J l
    refine exS3 e l λy c beyond b=>?_
    have C:=b.1
    have G:=b.2.1
    have o:=b.2.2.1
    have z:=b.2.2.2
    clear b l
    have tu:T p u:=(hw u).mp (aA2 J)
    obtain⟨O,u1⟩:=hT _ _ tu
    have a5:atI (lab n.toNat c) u=some (oD (c u)):=ati O (by lia)
    have a3:atI (lab n.toNat c) p=some (.int (r:Int)):=by
     rw[ati p0 (by lia),C.old p r a2];rfl
    row_cond go
    rw[ayt]
    cases hf:c u with
    | none =>
     refine acl ?_
     row_cond go
     refine aq9 (j:=u.toNat) rfl (by rw[ac1];exact aiy O (by lia)) ?_
     dsimp only[List.set_cons_zero,List.set_cons_succ,reS]
     rw[show(PyData.int ((r:Int)+1))=.int ((r+1:Nat):Int) by simp,apt O (by lia)]
     have a6:=aeb (d:=r+1) O hf (n:=n.toNat) (by lia)
     have Z:beyond.length<=cnt far n.toNat:=by lia
     have W:∀ m,cnt far m<=m:=λm=>by
      induction m with
      |zero=>exact aA6 _
      |succ m ih=>unfold cnt;split <;> lia
     have:=W n.toNat
     row_cond go
     refine⟨some (.st (.int u)),Gr.label c u (r+1),beyond++[u],by simp,C.add M tu hf,by simp;lia,λv N=>?_,λx L=>?_⟩
     ·rcases aA7.mp N with h|h
      ·exact o v h
      ·have:v=u:=by simpa using h
       subst this;exact⟨O,u1⟩
     ·by_cases hx2:x=u
      ·subst hx2;rw[Gr.label_same];simp
      ·rw[Gr.label_ne hx2]
       rcases ab7 J L with h|h
       ·exact z x h
       ·exact absurd h hx2
    | some d =>
     refine adp ?_
     row_cond go
     refine⟨_,c,beyond,rfl,C,G,o,λx L=>?_⟩
     rcases ab7 J L with h|h
     ·exact z x h
     ·subst h;rw[hf];simp
   ·rintro e l
    refine exS3 e l λy c beyond b=>?_
    have C:=b.1
    have G:=b.2.1
    have o:=b.2.2.1
    have z:=b.2.2.2
    clear b l
    rw[aG8] at z
    refine⟨_,_,c,beyond,rfl,?_,G,o⟩
    refine(C.did (u:=p) λx tx=>z x ((hw x).mpr tx)).imp λx L=>?_
    exact ab7 hp L
  ·rintro e l
   refine exS4 e l λI y c beyond b=>?_
   have C:=b.1
   have G:=b.2.1
   have o:=b.2.2
   clear b l
   row_cond go
   refine⟨_,?_,_,_,_,c,beyond,r+1,rfl,R.next C λu J=>by rw[aG8];exact J,o,rfl⟩
   rw[aF6 Y]
   cases beyond with
   |nil=>rw[aF5 rfl];simp at G;lia
   |cons b0 br=>rw[aF6 (by simp)];simp at G;lia
end
def aot:VP:=λss Q=>∃(n a:Int)(es:List (Int × Int)),ss=[.st (webD n es),.st (.int a)]/\0<=a/\a<n/\Q (.st .none)
def awg:VP:=λss Q=>∃(n a:Int)(es:List (Int × Int)),ss=[.st (webD n es),.st (.int a)]/\n<=100/\InN n es/\es.length<=10000/\0<=a/\a<n/\Q (.own (OL (lab n.toNat (Gr.farO (Tied es) a))))
def awh:VP:=λss Q=>∃(n:Int)(es:List (Int × Int)),ss=[.st (webD n es)]/\1<=n/\n<=100/\InN n es/\es.length<=10000/\∀ b:Bool,(b=true ↔ aey n es)->Q (.st (.bool b))
section
variable{P:Program}{w:World}{K:Frag}{mg:Str->Option Value}{base:Heap}
theorem sc_need_place:FnScope ["web","thing"] ["web","thing"] (aap s_need_place):=by row_cond sc
theorem aj0(T:Txt K mg):Can P w K mg base "need_place" 4 ["web","thing"] (spP K (aot)):=by
 obtain⟨f,fd,D⟩:=T.d_need_place
 refine D.can (D.fn.ok sc_need_place (λvs H Q E h=>lenP h λss g q=>by obtain⟨n,a,es,rfl,a0,d,k⟩:=q;rfl) (λcdv A outer s H vs Q E c h=>?_))
 have nd:=sc_need_place.nd
 refine⟨_,(aah (aa6 (adj (aen (aag (an0 T) c (aaa (aal aam (pv 0) aac (λ_ _=>rfl)) (aaa (pv 1) aab)))))
   (aah al2)
   aax)),?_⟩
 refine abz h λss g q B i=>?_
 refine exS3 ss q λn a es b=>?_
 have a0:=b.1
 have d:=b.2.1
 have k:=b.2.2
 clear b q
 show EvS B _ _ [some (.st (webD n es)),some (.st (.int a))]
 row_cond go
 refine⟨_,_,rfl,?_⟩
 row_cond go
 have e:btwD 0 (n-1) (.int a)=true:=aD8 ⟨a0,by lia⟩
 rw[e]
 row_cond go
 exact k
theorem sc_all_far:FnScope ["web","a"] ["web","a"] (aap s_all_far):=by row_cond sc
theorem aou(T:Txt K mg):Can P w K mg base "all_far" 5 ["web","a"] (spP K (awg)):=by
 obtain⟨f,fd,D⟩:=T.d_all_far
 refine D.can (D.fn.ok sc_all_far (λvs H Q E h=>lenP h λss l q=>by obtain⟨n,a,es,rfl,g,c,d,a0,j,k⟩:=q;rfl) (λcdv A outer s H vs Q E i h=>?_))
 have nd:=sc_all_far.nd
 refine⟨_,(aad (ab1 (aag (aj0 T) i (aaa (pv 0) (aaa (pv 1) aab))))
  (aah (aau (aag (an1 T) i (aaa (aag (afc T) i (aaa (pv 0) aab)) (aaa (pv 1) aab)))))),?_⟩
 refine abz h λss l q B o=>?_
 refine exS3 ss q λn a es b=>?_
 have g:=b.1
 have c:=b.2.1
 have d:=b.2.2.1
 have a0:=b.2.2.2.1
 have j:=b.2.2.2.2.1
 have k:=b.2.2.2.2.2
 clear b q
 show EvS B _ _ [some (.st (webD n es)),some (.st (.int a))]
 row_cond go
 refine⟨n,a,es,rfl,a0,j,?_⟩
 row_cond go
 refine⟨n,es,rfl,by lia,g,c,d,λtl m _=>?_⟩
 refine a1n ?_
 row_cond go
 exact⟨n,a,Tied es,tl,rfl,g,m,λu v h=>(h.in c).2,a0,j,k⟩
theorem sc_is_joined:FnScope ["web"] ["web"] (aap s_is_joined):=by row_cond sc
theorem alf(T:Txt K mg):Can P w K mg base "is_joined" 6 ["web"] (spP K (awh)):=by
 obtain⟨f,fd,D⟩:=T.d_is_joined
 refine D.can (D.fn.ok sc_is_joined (λvs H Q E h=>lenP h λss m q=>by obtain⟨n,es,rfl,j,g,b,c,k⟩:=q;rfl) (λcdv A outer s H vs Q E i h=>?_))
 have nd:=sc_is_joined.nd
 refine⟨_,(aah (aau (aci (akg i.units) al0 (aag (aou T) i (aaa (pv 0) (aaa aac aab))) rfl))),?_⟩
 refine abz h λss m q B o=>?_
 refine exS2 ss q λn es a=>?_
 have j:=a.1
 have g:=a.2.1
 have b:=a.2.2.1
 have c:=a.2.2.2.1
 have k:=a.2.2.2.2
 clear a q
 show EvS B _ _ [some (.st (webD n es))]
 row_cond go
 refine⟨n,0,es,rfl,g,b,c,by lia,by lia,?_⟩
 row_cond go
 refine app rfl atk (by simp[PyData.depth]) ?_
 row_cond go
 refine k _ ?_
 rw[aF5 rfl,Bool.not_eq_true',← Bool.not_eq_true,ayv]
 constructor
 ·intro h v v0 l
  cases e:Gr.farO (Tied es) 0 v with
  |some d=>exact⟨d,Gr.farO_some.mp e⟩
  |none=>exact absurd ⟨v,v0,by lia,e⟩ h
 ·rintro h ⟨v,v0,l,e⟩
  obtain⟨d,hd⟩:=h v v0 (by lia)
  exact Gr.farO_none.mp e d hd
end
def rowD(n:Nat)(r:Int->Int):List PyData:=(List.range n).map λ(i:Nat)=>.int (r (i:Int))
def matD(n:Nat)(m:Int->Int->Int):List PyData:=(List.range n).map λ(u:Nat)=>.list (rowD n (m (u:Int)))
theorem an2{n:Nat}{r:Int->Int}{x:Int}(a:0<=x)(b:x<n):atI (rowD n r) x=some (.int (r x)):=by
 have:=adw (xs:=rowD n r) (j:=x.toNat) (v:=.int (r x)) (by
  unfold rowD
  rw[aA5,aA0 (by simp;lia)]
  simp[Int.max_eq_left a])
 rwa [show((x.toNat:Nat):Int)=x by lia] at this
theorem an3{n:Nat}{m:Int->Int->Int}{x:Int}(a:0<=x)(b:x<n):atI (matD n m) x=some (.list (rowD n (m x))):=by
 have:=adw (xs:=matD n m) (j:=x.toNat) (v:=.list (rowD n (m x))) (by
  unfold matD
  rw[aA5,aA0 (by simp;lia)]
  simp[Int.max_eq_left a])
 rwa [show((x.toNat:Nat):Int)=x by lia] at this
theorem aqf{n:Nat}{m:Int->Int->Int}:(matD n m).length=n:=by simp[matD]
theorem acg{α:Type}{K:Frag}{src:List (Option Nat)}{a:En}{te:TE}{R:List PyData->En->Prop}{xs:List α}{f : α->PyData}(g : α->PyData)(l:noIo (aas src a)=true)(z:xs.length<=999999)
  (h:∀ x∈xs,∀ c:Bs,c.K=K->Ev c te (some (.st (f x))::aas src a) λy j=>y=g x/\j=some (.st (f x))::aas src a)
  (u:R (xs.map g) a):LcV K (none::src) (abi 0) tYes te (xs.map f) a R:=by
 have b:noIo (aas (none::src) a)=true:=by
  show((none::aas src a).all λs=>!isIo s)=true
  rw[List.all_cons]
  exact(aH1 _ _).mpr ⟨rfl,l⟩
 refine⟨λi ys e=>ys=(xs.take i).map g/\∃ o,e=stO o::aas src a,⟨by simp,none,rfl⟩,?_,?_,?_⟩
 ·rintro i ys e ⟨_,o,rfl⟩
  exact⟨⟨isIo_stO.symm,agu⟩,afb aff⟩
 ·rintro i d ys e hd ⟨rfl,o,rfl⟩ c r
  rw[aA5] at hd
  cases hx:xs[i]? with
  |none=>rw[hx] at hd;cases hd
  | some x =>
   rw[hx] at hd
   cases hd
   have hi:i<xs.length:=(aA1.mp hx).1
   have n:xs.take (i+1)=xs.take i++[x]:=by rw[aH4,hx];rfl
   refine abh (ahi ?_)
   rw[aF5 rfl]
   intro σ G H F Q I k
   refine h x (aA2 hx) c r σ G H F Q I λv G' H' F' d' j q g' w ⟨p,m⟩=>k v G' H' F' d' j q g' w ?_
   subst p m
   refine⟨by simp;lia,by rw[n];simp,some _,rfl⟩
 ·rintro ys e ⟨rfl,o,rfl⟩
  rw[ajr b]
  simpa using u
theorem awi{ns:List Int}{x y:Int}(h:ae6 ns x)(g:ae6 ns y):x=y:=Int.le_antisymm (g.2 x h.1) (h.2 y g.1)
def an4:VP:=λss Q=>∃(n:Int)(es:List (Int × Int)),ss=[.st (webD n es)]/\1<=n/\n<=100/\InN n es/\es.length<=10000/\aey n es/\Q (.st .none)
structure FreeAll(n:Int)(es fs:List (Int × Int)):Prop where
 mem:∀ p:Int × Int,p∈fs ↔ (0<=p.1/\p.1<p.2/\p.2<n/\p ∉ es)
 rise:Rise fs
section
variable{P:Program}{w:World}{K:Frag}{mg:Str->Option Value}{base:Heap}
theorem sc_need_joined:FnScope ["web"] ["web"] (aap s_need_joined):=by row_cond sc
theorem ai6(T:Txt K mg):Can P w K mg base "need_joined" 7 ["web"] (spP K (an4)):=by
 obtain⟨f,fd,D⟩:=T.d_need_joined
 refine D.can (D.fn.ok sc_need_joined (λvs H Q E h=>lenP h λss m q=>by obtain⟨n,es,rfl,i,g,c,d,j,k⟩:=q;rfl) (λcdv A outer s H vs Q E l h=>?_))
 have nd:=sc_need_joined.nd
 refine⟨_,(aah (aa6 (adj (aen (aag (alf T) l (aaa (pv 0) aab))))
   (aah al2)
   aax)),?_⟩
 refine abz h λss m q B o=>?_
 refine exS2 ss q λn es a=>?_
 have i:=a.1
 have g:=a.2.1
 have c:=a.2.2.1
 have d:=a.2.2.2.1
 have j:=a.2.2.2.2.1
 have k:=a.2.2.2.2.2
 clear a q
 show EvS B _ _ [some (.st (webD n es))]
 row_cond go
 refine⟨n,es,rfl,i,g,c,d,λb hb=>?_⟩
 have:b=true:=hb.mpr j
 subst this
 row_cond go
 exact k
end
def ad5(n:Int):PyData->Bool
 | .list ds=>decide ((ds.length:Int)=n)
 |_=>false
def arz:PyData->Bool
 | .list ds=>ds.all isInt
 |_=>false
def abw(n:Int):PyData->Bool
 | .list ds=>decide ((ds.length:Int)=n) && ds.all (ad5 n) && ds.all arz
 |_=>false
def adu:PyData->List PyData
 | .list ds=>ds
 |_=>[]
def a18:VP:=λss Q=>∃(n:Int)(d:PyData),ss=[.st (.int n),.st d]/\Q (.st (.bool (ad5 n d)))
def awj:VP:=λss Q=>∃(n:Int)(d:PyData),ss=[.st (.int n),.st d]/\n<=100/\Q (.st (.bool (abw n d)))
def abp(T:Int->Int->Prop)(d:Int)(m:Int->Int->Int)(a b:Int):Prop:=(a=b->m a b=0)/\(a ≠ b->1<=m a b/\m a b<=d/\∃ p,T a p/\m p b=m a b-1)
def azk:VP:=λss Q=>∃(n:Nat)(T:Int->Int->Prop)(tl:List (List Int))(d:Int)(m:Int->Int->Int)(a b:Int),ss=[.st (tlV tl),.st (.int d),.st (.list (matD n m)),.st (.int a),.st (.int b)]/\n<=100/\TiedL n T tl/\(∀ u v,T u v->0<=v/\v<n)/\(∀ ws∈tl,ws.length<=20000)/\0<=a/\a<n/\0<=b/\b<n/\∀ bb:Bool,(bb=true ↔ abp T d m a b)->Q (.st (.bool bb))
def azl(n:Int)(es:List (Int × Int))(d:Int)(m:Int->Int->Int):Prop:=0<=d/\∀ a b:Int,0<=a->a<n->0<=b->b<n->abp (Tied es) d m a b
def azm:VP:=λss Q=>∃(n d:Int)(es:List (Int × Int))(p:PyData),ss=[.st (webD n es),.st (.int d),.st p]/\1<=n/\n<=100/\InN n es/\es.length<=10000/\aey n es/\(abw n p=false->Q (.st (.bool false)))/\∀ m,p=.list (matD n.toNat m)->∀ bb:Bool,(bb=true ↔ azl n es d m)->Q (.st (.bool bb))
def alw:PyData->Int
 | .int i=>i
 |_=>0
theorem akv{n:Int}{p:PyData}(h:abw n p=true):∃ m,p=.list (matD n.toNat m):=by
 cases p with
 | list ds =>
  simp only[abw,aH1,decide_eq_true_eq,aF4] at h
  obtain⟨⟨w,u⟩,v⟩:=h
  refine⟨λa b=>alw ((adu (ds.getD a.toNat .none)).getD b.toNat .none),congrArg PyData.list ?_⟩
  refine List.ext_getElem (by rw[aqf];lia) λi hi q=>?_
  have f:=u ds[i] (aF2 hi)
  have d:=v ds[i] (aF2 hi)
  have l:ds.getD i .none=ds[i]:=by rw[aD4,aA0 hi];rfl
  generalize ds[i]=r at f d l
  cases r with
  | list xs =>
   have y:(xs.length:Int)=n:=of_decide_eq_true f
   simp only[matD,List.getElem_map,List.getElem_range]
   refine congrArg PyData.list (List.ext_getElem (by simp[rowD];lia) λj o s=>?_)
   have c:=aF4.mp d xs[j] (aF2 o)
   have g:xs.getD j .none=xs[j]:=by rw[aD4,aA0 o];rfl
   simp only[rowD,List.getElem_map,List.getElem_range,Int.toNat_natCast,l,adu,g]
   generalize xs[j]=x at c
   cases x with
   |int i=>rfl
   |_=>cases c
  |_=>cases f
 |_=>cases h
theorem akw{n:Int}{d:PyData}(h:ad5 n d=true):∃ ds,d=.list ds/\(ds.length:Int)=n:=by
 cases d with
 |list ds=>exact⟨ds,rfl,of_decide_eq_true h⟩
 |_=>cases h
theorem aqg{α:Type}{k:Nat}{f:PyData->List α}:∀(l:List PyData),(∀ u∈l,(f u).length<=k)->(l.flatMap f).length<=l.length * k
 |[],_=>by simp
 | u::l,h=>by
  have b:=h u aB8
  have c:=aqg l λv a=>h v (aB5 _ a)
  rw[List.flatMap_cons,aB1,aE4,Nat.add_mul]
  lia
theorem an5{n:Nat}{c:Int->Int->Bool}:((List.range n).flatMap λ(u:Nat)=>((List.range n).filter λ_=>true).map λ(v:Nat)=>PyData.bool (c (u:Int) (v:Int)))=((List.range n).flatMap λ(u:Nat)=>(List.range n).map λ(v:Nat)=>c (u:Int) (v:Int)).map .bool:=by
 rw[List.map_flatMap]
 congr 1
 funext u
 rw[aD9,List.filter_eq_self.mpr λ_ _=>rfl]
 rfl
section
variable{P:Program}{w:World}{K:Frag}{mg:Str->Option Value}{base:Heap}
theorem sc_is_long:FnScope ["n","thing"] ["n","thing"] (aap s_is_long):=by row_cond sc
theorem ah3(T:Txt K mg):Can P w K mg base "is_long" 1 ["n","thing"] (spP K (a18)):=by
 obtain⟨f,fd,D⟩:=T.d_is_long
 refine D.can (D.fn.ok sc_is_long (λvs H Q E h=>lenP h λss b q=>by obtain⟨n,d,rfl,k⟩:=q;rfl) (λcdv A outer s H vs Q E c h=>?_))
 have nd:=sc_is_long.nd
 refine⟨_,(aah (aau (aeo (aak af4 (by rfl) T.b_isinstance adc (aaa (pv 1) (aaa (ag7 (v:=.ty "list") rfl T.b_list adx rfl) aab))) (agk (aci ab2 (aak abl (by rfl) T.b_len aca (aaa (pv 1) aab)) (pv 0) (aav _)))))),?_⟩
 refine abz h λss b q B g=>?_
 refine exS2 ss q λn d a=>?_
 have k:=a
 clear a q
 show EvS B _ _ [some (.st (.int n)),some (.st d)]
 row_cond go
 cases d with
 | list ds =>
  refine acl ?_
  row_cond go
  exact k
 | _ =>
  refine adp ?_
  exact k
theorem sc_is_square:FnScope ["n","paper"] ["n","paper"] (aap s_is_square):=by row_cond sc
theorem alg (T:Txt K mg):Can P w K mg base "is_square" 2 ["n","paper"] (spP K (awj)):=by
 obtain⟨f,fd,D⟩:=T.d_is_square
 refine D.can (D.fn.ok sc_is_square (λvs H Q E h=>lenP h λss F q=>by obtain⟨n,d,rfl,v,k⟩:=q;rfl) (λcdv A outer s H vs Q E b h=>?_))
 have nd:=sc_is_square.nd
 refine⟨_,(aad (aa6 (PW.pt (aqj (adj (aen (aag (ah3 T) b (aaa (pv 0) (aaa (pv 1) aab))))) (al1 (adj (aen (aak (agv rfl) (by rfl) T.b_all amm (aaa (adn rfl (N:=["row","n"]) (src:=[none,some 0]) (by exact abe rfl rfl rfl rfl rfl rfl) (aa5 (pv 1)) (λ_ _ _ _=>(aan (i:=0) (show List.Nodup (["row","n"]:List Str) by decide +kernel) rfl (Or.inl rfl) (hf:=Or.inr rfl))) (λ_ _ _ _=>aa9) (λ_ _ _ _=>(aag (ah3 T) b (aaa (pv 1) (aaa (pv 0) aab))))) aab)))))))
   (aah (aau acn))
   aax)
  (aah (aau (aak (agv rfl) (by rfl) T.b_all amm (aaa (ast rfl (N:=["row","number"]) (src:=[none,none]) (by exact abe rfl rfl rfl rfl rfl rfl) (aa5 (pv 1)) (λ_ _ _ _=>(aan (i:=0) (show List.Nodup (["row","number"]:List Str) by decide +kernel) rfl (Or.inl rfl) (hf:=Or.inr rfl))) (λ_ _ _ _=>aa9) (λ_ _ _ _=>(show PI _ _ _ (alj K _) from aa5 (pv 0))) (λ_ _ _ _=>(aan (i:=1) (show List.Nodup (["row","number"]:List Str) by decide +kernel) rfl (Or.inl rfl) (hf:=Or.inr rfl))) (λ_ _ _ _=>aa9) (λ_ _ _ _=>(aag (ag2 T) b (aaa (pv 1) aab)))) aab))))),?_⟩
 refine abz h λss F q B G=>?_
 refine exS2 ss q λn d c=>?_
 have v:=c.1
 have k:=c.2
 clear c q
 show EvS B _ _ [some (.st (.int n)),some (.st d)]
 row_cond go
 refine⟨_,_,rfl,?_⟩
 cases e:ad5 n d with
 | false =>
  row_cond go
  rw[show abw n d=false by
   cases d with
   |list ds=>simp only[abw,show decide ((ds.length:Int)=n)=false from e,Bool.false_and]
   |_=>rfl] at k
  exact k
 | true =>
  obtain⟨ds,rfl,u⟩:=akw e
  row_cond go
  refine apn (λr=>.bool (ad5 n r)) rfl (by lia) (λr _ j p=>?_) ?_
  ·row_cond go
   exact⟨n,r,rfl,rfl,rfl⟩
  ·row_cond go
   rw[show(ds.map λr=>PyData.bool (ad5 n r))=(ds.map (ad5 n)).map .bool by rw[aD9];rfl]
   refine ajt ?_
   rw[show(ds.map (ad5 n)).all id=ds.all (ad5 n) by simp[List.all_map]]
   row_cond go
   cases e2:ds.all (ad5 n) with
   | false =>
    row_cond go
    rw[show abw n (.list ds)=false by simp only[abw,e2,Bool.and_false,Bool.false_and]] at k
    exact k
   | true =>
    have b:∀ r∈ds,∃ xs,r=.list xs/\(xs.length:Int)=n:=λr b=>akw (aF4.mp e2 r b)
    row_cond go
    have l:(ds.flatMap λr=>((adu r).filter λ_=>true).map λx=>PyData.bool (isInt x)).length<=999999:=by
     have:=aqg (k:=100) (f:=λr=>((adu r).filter λ_=>true).map λx=>PyData.bool (isInt x)) ds λr a=>by
      obtain⟨xs,rfl,g⟩:=b r a
      rw[aA3]
      refine aD0 (List.length_filter_le _ _) ?_
      show xs.length<=100
      lia
     have I:ds.length * 100<=100 * 100:=Nat.mul_le_mul_right _ (by lia)
     lia
    have m:ds.map id=ds:=List.map_id ds
    rw[← m]
    refine ang (xs:=ds) (fx:=id) adu id (λ_ x=>.bool (isInt x)) (λ_ _=>true) (akr rfl) l ?_ ?_ ?_
    ·intro r a j p o
     obtain⟨xs,rfl,g⟩:=b r a
     show EvI j _ (some (.st (.list xs))::_) _
     row_cond go
     exact⟨(List.map_id xs).symm,rfl⟩
    ·intro r a x g j p
     show EvT j _ (some (.st r)::some (.st x)::_) _
     row_cond go
     intro _
     row_cond go
     exact⟨x,rfl,rfl,rfl⟩
    ·rw [show(ds.flatMap λr=>((adu r).filter λ_=>true).map λx=>PyData.bool (isInt x))=(ds.flatMap λr=>(adu r).map isInt).map .bool by
      rw[List.map_flatMap]
      congr 1
      funext r
      rw[aD9,List.filter_eq_self.mpr λ_ _=>rfl]
      rfl]
     row_cond go
     refine ajt ?_
     rw [show(ds.flatMap λr=>(adu r).map isInt).all id=abw n (.list ds) by
      have C:(ds.flatMap λr=>(adu r).map isInt).all id=ds.all arz:=by
       rw[aH8]
       simp only[aF4,List.mem_flatMap,aB7,id]
       constructor
       ·intro z r a
        obtain⟨xs,rfl,_⟩:=b r a
        exact aF4.mpr λx g=>z _ ⟨_,a,x,g,rfl⟩
       ·rintro z y ⟨r,a,x,g,rfl⟩
        obtain⟨xs,rfl,_⟩:=b r a
        exact aF4.mp (z _ a) x g
      rw[C]
      simp only[abw,e2,show decide ((ds.length:Int)=n)=true from aD8 u,Bool.and_self,Bool.true_and]]
     row_cond go
     exact k
theorem sc_number_holds:FnScope ["tied","d","paper","a","b","number"] ["tied","d","paper","a","b"] (aap s_number_holds):=by row_cond sc
theorem aid(T:Txt K mg):Can P w K mg base "number_holds" 1 ["tied","d","paper","a","b"] (spP K (azk)):=by
 obtain⟨f,fd,D⟩:=T.d_number_holds
 refine D.can (D.fn.ok sc_number_holds (λvs H Q E h=>lenP h λss S q=>by obtain⟨n,M,tl,d,m,a,b,rfl,I,G,j,F,a0,C,b0,x,k⟩:=q;rfl) (λcdv A outer s H vs Q E U h=>?_))
 have nd:=sc_number_holds.nd
 refine⟨_,(aad (aaj (i:=5) nd rfl (Or.inr rfl) (aal aam (aal aam (pv 2) (pv 3) (λ_ _=>rfl)) (pv 4) (λ_ _=>rfl)))
  (aad (aa6 (aay ab2 (pv 3) (pv 4) (aav _))
   (aah (aau (aci ab2 (pv 5) aac (aav _))))
   aax)
  (aad (aa6 (adj (al6 ag9 ag9 aac (pv 5) (pv 1)))
   (aah (aau acn))
   aax)
  (aah (aau (aak (atn rfl) (by rfl) T.b_any a0p (aaa (adn rfl (N:=["place","b","number","paper"]) (src:=[none,some 4,some 5,some 2]) (by exact abe rfl rfl rfl rfl rfl rfl) (aa5 (aal aam (pv 0) (pv 3) (λ_ _=>rfl))) (λ_ _ _ _=>(aan (i:=0) (show List.Nodup (["place","b","number","paper"]:List Str) by decide +kernel) rfl (Or.inl rfl) (hf:=Or.inr rfl))) (λ_ _ _ _=>aa9) (λ_ _ _ _=>(aci ab2 (aal (show IxR _ (ach K) from aam) (aal (show IxR _ (ach K) from aam) (pv 3) (pv 0) (λ_ _=>rfl)) (pv 1) (λ_ _=>rfl)) (aar ac9 (pv 2) aac) (aav _)))) aab))))))),?_⟩
 refine abz h λss S q B X=>?_
 refine exS7 ss q λn M tl d m a b c=>?_
 have I:=c.1
 have G:=c.2.1
 have j:=c.2.2.1
 have F:=c.2.2.2.1
 have a0:=c.2.2.2.2.1
 have C:=c.2.2.2.2.2.1
 have b0:=c.2.2.2.2.2.2.1
 have x:=c.2.2.2.2.2.2.2.1
 have k:=c.2.2.2.2.2.2.2.2
 clear c q
 show EvS B _ _ [some (.st (tlV tl)),some (.st (.int d)),some (.st (.list (matD n m))),some (.st (.int a)),some (.st (.int b)),none]
 have ha:=an3 (n:=n) (m:=m) a0 C
 have hb:=an2 (n:=n) (r:=m a) b0 x
 row_cond go
 refine abm (λh=>?_) (λh=>?_)
 ·row_cond go
  refine k _ ?_
  rw[decide_eq_true_iff]
  exact⟨λe=>⟨λ_=>e,λz=>absurd h z⟩,λz=>z.1 h⟩
 ·row_cond go
  obtain⟨l,o,y⟩:=G.get (v:=a) a0 (by lia)
  have O:atI ((tlD tl).map PyData.list) a=some (.list (l.map .int)):=acx (f:=PyData.list) (ab5 a0 (adi o))
  have J:=F l (aA2 o)
  by_cases q1:1<=m a b
  ·by_cases q2:m a b<=d
   ·row_cond go
    refine acg (xs:=l) (f:=PyData.int) (λp=>.bool (decide (m p b=m a b-1))) rfl (by lia) (λp g W Y=>?_) ?_
    ·have u:=j _ _ ((y p).mp g)
     have R:=an3 (n:=n) (m:=m) u.1 u.2
     have L:=an2 (n:=n) (r:=m p) b0 x
     row_cond go
     exact rfl
    ·row_cond go
     rw[show(l.map λp=>PyData.bool (decide (m p b=m a b-1)))=(l.map λp=>decide (m p b=m a b-1)).map .bool by rw[aD9];rfl]
     refine ayx ?_
     row_cond go
     refine k _ ?_
     simp only[List.any_map,aF3,Function.comp,id,decide_eq_true_eq]
     constructor
     ·rintro⟨p,g,e⟩
      exact⟨λz=>absurd z h,λ_=>⟨q1,q2,p,(y p).mp g,e⟩⟩
     ·rintro⟨_,z⟩
      obtain⟨_,_,p,g,e⟩:=z h
      exact⟨p,(y p).mpr g,e⟩
   ·row_cond go
    refine k _ ⟨λz=>(by cases z),λz=>absurd (z.2 h).2.1 q2⟩
  ·row_cond go
   refine k _ ⟨λz=>(by cases z),λz=>absurd (z.2 h).1 q1⟩
theorem sc_far_shows:FnScope ["web","d","paper","n","tied"] ["web","d","paper"] (aap s_far_shows):=by row_cond sc
theorem alh(T:Txt K mg):Can P w K mg base "far_shows" 8 ["web","d","paper"] (spP K (azm)):=by
 obtain⟨f,fd,D⟩:=T.d_far_shows
 refine D.can (D.fn.ok sc_far_shows (λvs H Q E h=>lenP h λss W q=>by obtain⟨n,d,es,p,rfl,S,F,j,l,U,k1,R⟩:=q;rfl) (λcdv A outer s H vs Q E G h=>?_))
 have nd:=sc_far_shows.nd
 refine⟨_,(aad (ab1 (aag (ai6 T) G (aaa (pv 0) aab)))
  (aad (aaj (i:=3) nd rfl (Or.inr rfl) (aal aam (pv 0) aac (λ_ _=>rfl)))
  (aad (aa6 (PW.pt (aqj (aay aqq (pv 1) aac (aav _)) (al1 (adj (aen (aag (alg T) G (aaa (pv 3) (aaa (pv 2) aab))))))))
   (aah (aau acn))
   aax)
  (aad (aaj (i:=4) nd rfl (Or.inr rfl) (aag (afc T) G (aaa (pv 0) aab)))
  (aah (aau (aak (agv rfl) (by rfl) T.b_all amm (aaa (ast rfl (N:=["a","b","tied","d","paper","n"]) (src:=[none,none,some 4,some 1,some 2,some 3]) (by exact abe rfl rfl rfl rfl rfl rfl) (aa8 rfl T.b_range (aaa (pv 3) aab)) (λ_ _ _ _=>(aan (i:=0) (show List.Nodup (["a","b","tied","d","paper","n"]:List Str) by decide +kernel) rfl (Or.inl rfl) (hf:=Or.inr rfl))) (λ_ _ _ _=>aa9) (λ_ _ _ _=>(aa8 rfl T.b_range (aaa (pv 5) aab))) (λ_ _ _ _=>(aan (i:=1) (show List.Nodup (["a","b","tied","d","paper","n"]:List Str) by decide +kernel) rfl (Or.inl rfl) (hf:=Or.inr rfl))) (λ_ _ _ _=>aa9) (λ_ _ _ _=>(aag (aid T) G (aaa (pv 2) (aaa (pv 3) (aaa (pv 4) (aaa (pv 0) (aaa (pv 1) aab)))))))) aab)))))))),?_⟩
 refine abz h λss W q B hK=>?_
 refine exS4 ss q λn d es p g=>?_
 have S:=g.1
 have F:=g.2.1
 have j:=g.2.2.1
 have l:=g.2.2.2.1
 have U:=g.2.2.2.2.1
 have k1:=g.2.2.2.2.2.1
 have R:=g.2.2.2.2.2.2
 clear g q
 show EvS B _ _ [some (.st (webD n es)),some (.st (.int d)),some (.st p),none,none]
 row_cond go
 refine⟨n,es,rfl,S,F,j,l,U,?_⟩
 row_cond go
 have x:d<0->W (.st (.bool false)):=λhd=>by
  cases e:abw n p with
  |false=>exact k1 e
  | true =>
   obtain⟨m,rfl⟩:=akv e
   exact R m rfl _ ⟨λz=>(by cases z),λz=>absurd z.1 (by lia)⟩
 by_cases hd:d<0
 ·row_cond go
  exact x hd
 ·row_cond go
  refine⟨n,_,rfl,F,?_⟩
  cases esq:abw n p with
  | false =>
   row_cond go
   exact k1 esq
  |true =>
  obtain⟨m,rfl⟩:=akv esq
  have k:=R m rfl
  row_cond go
  refine⟨n,es,rfl,by lia,F,j,l,λtl ht hu=>acm aek ?_⟩
  row_cond go
  have C:∃ c:Int->Int->Bool,∀ a b,c a b=true ↔ abp (Tied es) d m a b:=⟨λa b=>@decide (abp (Tied es) d m a b) (Classical.propDecidable _),λa b=>@decide_eq_true_iff _ (Classical.propDecidable _)⟩
  obtain⟨c,C⟩:=C
  have O:∀{a b:Int}{I:Bool},(I=true ↔ abp (Tied es) d m a b)->I=c a b:=λ{a b I} h=>by rw[aH8,h,C]
  unfold rngD
  refine ang (xs:=List.range n.toNat) (λ_=>List.range n.toNat) (λv:Nat=>.int (0+(v:Int))) (λu v=>.bool (c (u:Int) (v:Int))) (λ_ _=>true) (akr rfl) ?_ ?_ ?_ ?_
  ·rw[an5,aA3,List.length_flatMap]
   have Y:(List.range n.toNat).map (λu:Nat=>((List.range n.toNat).map λv:Nat=>c (u:Int) (v:Int)).length)=(List.range n.toNat).map λ_=>n.toNat:=aE9 λu _=>by simp
   rw[Y,List.map_const',List.sum_replicate_nat,aE0]
   have h2:n.toNat * n.toNat<=100 * 100:=Nat.mul_le_mul (by lia) (by lia)
   lia
  ·intro u r X Z o
   row_cond go
   exact rfl
  ·intro u r v L X Z
   have J:(u:Int)<n:=by have:=aB9.mp r;lia
   have M:(v:Int)<n:=by have:=aB9.mp L;lia
   row_cond go
   intro _
   row_cond go
   refine⟨n.toNat,Tied es,tl,d,m,0+(u:Int),0+(v:Int),rfl,by lia,by rw[show((n.toNat:Nat):Int)=n by lia];exact ht,λu v h=>by have:=(h.in j).2;lia,hu,by lia,by lia,by lia,by lia,λI hb=>⟨?_,rfl⟩⟩
   rw[Int.zero_add,Int.zero_add] at hb
   rw[O hb]
  ·rw[an5]
   row_cond go
   refine ajt ?_
   row_cond go
   refine k _ ?_
   simp only[aF4,List.mem_flatMap,aB7,aB9,id]
   constructor
   ·intro z
    refine⟨by lia,λa b a0 a1 b0 b1=>(C a b).mp (z _ ⟨a.toNat,by lia,b.toNat,by lia,?_⟩)⟩
    rw[show((a.toNat:Nat):Int)=a by lia,show((b.toNat:Nat):Int)=b by lia]
   ·rintro z y ⟨u,J,v,M,rfl⟩
    exact(C _ _).mpr (z.2 _ _ (by lia) (by lia) (by lia) (by lia))
end
structure Dk(H:Hp)(d p:Addr)(i:Int)(qs:List Addr):Prop where
 dd:H d=some (.lst [.ref p,.int i])
 pp:H p=some (.lst (qs.map V.ref))
 ne:qs ≠ []
 le:qs.length<=63
 dp:d ≠ p
 dq:d ∉ qs
 pq:p ∉ qs
 ql:∀ q∈qs,∃ c f k:Int,H q=some (.lst [.int c,.int f,.int k])
def aqh:Sp:=λvs H Q _=>∃(d p:Addr)(i many:Int)(qs:List Addr),vs=[.ref d,.int many]/\Dk H d p i qs/\0<many/\many<1073741824 /\
 ∀(r:Int)(H':Hp)(i':Int),0<=r->r<many->Dk H' d p i' qs->(∀ a,a ≠ d->a ∉ qs->H' a=H a)->Q (.int r) H'
theorem Dk.pick{H:Hp}{d p:Addr}{i:Int}{qs:List Addr}(h:Dk H d p i qs)(j:Int):∃ q,q∈qs/\atI (qs.map V.ref) (j % ((qs.map V.ref).length:Int))=some (.ref q):=by
 have c:0<qs.length:=aF9.mpr h.ne
 have b:=aE5 j (show((qs.map V.ref).length:Int) ≠ 0 by rw[aA3];lia)
 have a:=aE6 j (show(0:Int)<((qs.map V.ref).length:Int) by rw[aA3];lia)
 generalize j % ((qs.map V.ref).length:Int)=m at b a
 have hm:m.toNat<qs.length:=by rw[aA3] at a;lia
 exact⟨qs[m.toNat],aF2 _,ab5 b (by rw[aA5,aA0 hm];rfl)⟩
theorem Dk.put{H:Hp}{d p q:Addr}{i a:Int}{qs:List Addr}(h:Dk H d p i qs)(b:q∈qs)(c f k:Int):Dk (upd (upd H d (.lst [.ref p,.int a])) q (.lst [.int c,.int f,.int k])) d p a qs:=by
 have j:d ≠ q:=λe=>h.dq (e ▸ b)
 have g:p ≠ q:=λe=>h.pq (e ▸ b)
 refine⟨by rw[aae j,aaf],by rw[aae g,aae h.dp.symm];exact h.pp,h.ne,h.le,h.dp,h.dq,h.pq,λz hz=>?_⟩
 by_cases e:z=q
 ·subst e;exact⟨c,f,k,aaf⟩
 ·rw[aae e,aae (show z ≠ d from λe=>h.dq (e ▸ hz))];exact h.ql z hz
def ODk:Own where
 P:=λ_ H v F=>∃ d p i qs,v=.ref d/\Dk H d p i qs/\∀ b,F b ↔ b=d\/b=p\/b∈qs
 mono:=λ⟨d,p,i,qs,e,h,f⟩ _ hh=>⟨d,p,i,qs,e,⟨hh d _ ((f d).mpr (.inl rfl)) h.dd,hh p _ ((f p).mpr (.inr (.inl rfl))) h.pp,h.ne,h.le,h.dp,h.dq,h.pq,λq hq=>by
  obtain⟨c,g,k,e⟩:=h.ql q hq
  exact⟨c,g,k,hh q _ ((f q).mpr (.inr (.inr hq))) e⟩⟩,f⟩
 dom:=λ⟨d,p,i,qs,e,h,f⟩ b z=>by
  rcases(f b).mp z with rfl|rfl|z
  ·exact⟨_,h.dd⟩
  ·exact⟨_,h.pp⟩
  ·obtain⟨c,g,k,e⟩:=h.ql b z
   exact⟨_,e⟩
theorem azn{P:Program}{w:World}{K:Frag}{mg:Str->Option Value}{base:Heap}{x:Str}{k:Nat}{ps:List Str}{sp a:Sp}(c:Can P w K mg base x k ps sp)(h:∀ vs H Q E,a vs H Q E->sp vs H Q E):Can P w K mg base x k ps a:=by
 obtain⟨f,fd,ok,m,kp,b⟩:=c
 exact⟨f,fd,ok.imp h,m,kp,b⟩
def aul:VIo:=λA ss Q=>∃ many:Int,A=ODk/\ss=[.st (.int many)]/\0<many/\many<1073741824/\∀ r:Int,0<=r->r<many->Q ODk (.st (.int r))
theorem azo{K:Frag}{vs:List V}{H:Hp}{Q:VK}{E:XK}(h:spI K aul vs H Q E):aqh vs H Q E:=by
 obtain⟨v0,C,G,R,A,ss,F0,D,rfl,gh,ft,l,ap,fg,fr,q,⟨many,rfl,rfl,s,v,k⟩,y⟩:=h
 obtain⟨d,p,i,qs,rfl,x,j⟩:=ap
 cases q with
 | cons ha hr =>
  cases hr
  cases (show Rp G _ (.int many) from ha)
  refine⟨d,p,i,many,qs,rfl,x,s,v,λr H' u n m b w=>y ODk _ (k r n m) _ G H' F0 (λ_=>False) ?_⟩
  have out:∀ a,¬ F0 a->H' a=H a:=λa z=>w a (λe=>z ((j a).mpr (.inl e))) (λe=>z ((j a).mpr (.inr (.inr e))))
  have g:∀ a,F0 a->(∃ o,H' a=some o)/\∀ xs,H' a ≠ some (.tup xs):=λa z=>by
   rcases(j a).mp z with rfl|rfl|z
   ·rw[b.dd];exact⟨⟨_,rfl⟩,λxs e=>by cases e⟩
   ·rw[b.pp];exact⟨⟨_,rfl⟩,λxs e=>by cases e⟩
   ·obtain⟨c,f,B,e⟩:=b.ql a z
    rw[e];exact⟨⟨_,rfl⟩,λxs e=>by cases e⟩
  refine⟨Same.refl _,λa o e=>?_,λa ks e=>?_,λa o e=>.inl e,λa o e=>?_,λa o e=>?_,⟨d,p,u,qs,rfl,b,j⟩,λa z=>.inl z,fg,⟨.int _,λa z=>z⟩,λa z=>z.elim⟩
  ·rw[out a λz=>by rw[fg a z] at e;cases e];exact gh a o e
  ·by_cases z:F0 a
   ·exact absurd e ((g a z).2 _)
   ·rw[out a z] at e;exact ft a ks e
  ·rw[out a λz=>by rw[fr a z] at e;cases e];exact l a o e
  ·by_cases z:F0 a
   ·exact(g a z).1
   ·rw[out a z];exact⟨o,e⟩
def aum:VP:=λss Q=>∃ ns:List Int,ss=[.scr ns]/\ns.length<=63/\Q (.own ODk)
theorem aqi{K:Frag}{vs:List V}{H:Hp}{Q:VK}{E:XK}(h:spP K aum vs H Q E):∃(a:Addr)(ns:List Int),vs=[.ref a]/\SqL K H a (ns.map V.int)/\ns.length<=63 /\
  ∀(d p:Addr)(i:Int)(qs:List Addr)(H':Hp),Dk H' d p i qs->(∀ b,b=d\/b=p\/b∈qs->H b=none)->(∀ b,b ≠ d->b ≠ p->b ∉ qs->H' b=H b)->Q (.ref d) H':=by
 obtain⟨G,ss,u,gh,ft,q,⟨ns,rfl,hn,k⟩,r⟩:=h
 cases q with
 | cons ha hr =>
  cases hr
  obtain⟨a,rfl,n⟩:=(show ∃ a,_=V.ref a/\SqL K G a (ns.map V.int) from ha)
  refine⟨a,ns,rfl,gh.seq n,hn,λd p i qs H' l j m=>r _ k _ G H' (λb=>b=d\/b=p\/b∈qs) ?_⟩
  have hh:Same H H':=λa o e=>by
   rw[m a (λz=>by rw[j a (.inl z)] at e;cases e) (λz=>by rw[j a (.inr (.inl z))] at e;cases e) (λz=>by rw[j a (.inr (.inr z))] at e;cases e)];exact e
  have g:∀ a,a=d\/a=p\/a∈qs->(∃ o,H' a=some o)/\∀ xs,H' a ≠ some (.tup xs):=λa z=>by
   rcases z with rfl|rfl|z
   ·rw[l.dd];exact⟨⟨_,rfl⟩,λxs e=>by cases e⟩
   ·rw[l.pp];exact⟨⟨_,rfl⟩,λxs e=>by cases e⟩
   ·obtain⟨c,f,s,e⟩:=l.ql a z
    rw[e];exact⟨⟨_,rfl⟩,λxs e=>by cases e⟩
  refine⟨Same.refl _,gh.trans hh,hh,λa o e=>.inl e,j,λa z=>?_,λa z=>(g a z).1,⟨d,p,i,qs,rfl,l,λb=>Iff.rfl⟩,λ_ a ks e=>?_⟩
  ·cases e:G a with
   |none=>rfl
   |some o=>have:=gh a o e;rw[j a z] at this;cases this
  ·by_cases z:a=d\/a=p\/a∈qs
   ·exact absurd e ((g a z).2 _)
   ·rw[m a (λy=>z (.inl y)) (λy=>z (.inr (.inl y))) (λy=>z (.inr (.inr y)))] at e;exact ft a ks e
section
variable{P:Program}{w:World}{K:Frag}{mg:Str->Option Value}{base:Heap}
theorem sc_law_draw:FnScope ["deck","many","pool","found","number"] ["deck","many"] (aap s_law_draw):=by row_cond sc
theorem agg(T:Txt K mg):Can P w K mg base "_law_draw" 1 ["deck","many"] aqh:=by
 obtain⟨f,fd,D⟩:=T.d_law_draw
 refine D.can (D.fn.ok sc_law_draw (λvs H Q E h=>by obtain⟨d,p,i,many,qs,rfl,b,j,v,k⟩:=h;rfl) (λcdv A outer s H vs Q E z h=>?_))
 obtain⟨d,p,i,many,qs,rfl,b,j,v,k⟩:=h
 have nd:=sc_law_draw.nd
 refine⟨_,(aad (aaj (i:=2) nd rfl (Or.inl rfl) (aal aam (aal aam (pv 0) aac (λ_ _=>rfl)) (aar aeq (aal aam (pv 0) aac (λ_ _=>rfl)) (aak abl (by rfl) T.b_len aca (aaa (aal aam (pv 0) aac (λ_ _=>rfl)) aab))) (λ_ _=>rfl)))
  (aad (act (aar aa7 (aal aam (pv 0) aac (λ_ _=>rfl)) aac) (adk (pv 0) aac acq))
  (aad (aa6 (PW.pt (agj (aay ab2 (aal aam (pv 2) aac (λ_ _=>rfl)) aac (aav _)) (afi (aay alk (aal aam (pv 2) aac (λ_ _=>rfl)) aac (aav _)))))
   (aad (aaj (i:=3) nd rfl (Or.inl rfl) (aar aeq (aal aam (pv 2) aac (λ_ _=>rfl)) (pv 1)))
    (aad (act (aar ai8 (aal aam (pv 2) aac (λ_ _=>rfl)) (pv 1)) (adk (pv 2) aac acq))
    (aah (aau (pv 3)))))
   aax)
  (aad (act (aar aa7 (aal aam (pv 2) aac (λ_ _=>rfl)) aac) (adk (pv 2) aac acq))
  (aad (aaj (i:=4) nd rfl (Or.inl rfl) (aar aeq (aar aa7 (aar aeq (aal aam (pv 2) aac (λ_ _=>rfl)) aac) (aar afk aac (aal aam (pv 2) aac (λ_ _=>rfl)))) aac))
  (aad (aaj (i:=4) nd rfl (Or.inl rfl) (aar aeq (aar afk (pv 4) (pv 4)) aac))
  (aad (aaj (i:=4) nd rfl (Or.inl rfl) (aar aeq (aar afk (pv 4) (aar aa7 (pv 4) aac)) aac))
  (aah (aau (aar aeq (aar ai8 (pv 4) aac) (pv 1))))))))))),?_⟩
 show(_:TS) _ [some (.ref d),some (.int many),none,none,none] H
 obtain⟨q,g,x⟩:=b.pick i
 obtain⟨c,f,B,r⟩:=b.ql q g
 have m:=b.dd
 have o:=b.pp
 have l:(0:Int)<((qs.map V.ref).length:Int):=by have:=aF9.mpr b.ne;rw[aA3];lia
 have C:q ≠ d:=λe=>b.dq (e ▸ g)
 have fin:∀(c f k:Int)(a:Addr),a ≠ d->a ∉ qs->upd (upd H d (.lst [.ref p,.int (i+1)])) q (.lst [.int c,.int f,.int k]) a=H a:=λc f k a n u=>by
  rw[aae (show a ≠ q from λe=>u (e ▸ g)),aae n]
 row_cond hgo
 refine abm (λhf=>?_) (λhf=>?_)
 ·row_cond hgo
  refine abm (λy=>?_) (λy=>?_)
  ·row_cond hgo
   exact k _ _ (i+1) (aE5 _ (by lia)) (aE6 _ j) (b.put g _ _ _) (fin _ _ _)
  ·row_cond hgo
   exact k _ _ (i+1) (aE5 _ (by lia)) (aE6 _ j) (b.put g _ _ _) (fin _ _ _)
 ·row_cond hgo
  exact k _ _ (i+1) (aE5 _ (by lia)) (aE6 _ j) (b.put g _ _ _) (fin _ _ _)
theorem aai(T:Txt K mg):Can P w K mg base "_law_draw" 1 ["deck","many"] (spI K aul):=azn (agg T) λ_ _ _ _ h=>azo h
theorem sc_law_deck:FnScope ["script","pools","k","cell"] ["script"] (aap s_law_deck):=by row_cond sc
theorem an6(T:Txt K mg):Can P w K mg base "_law_deck" 1 ["script"] (spP K aum):=by
 obtain⟨f,fd,D⟩:=T.d_law_deck
 refine D.can (D.fn.ok sc_law_deck (λvs H Q E h=>by obtain⟨a,ns,rfl,I,hn,k⟩:=aqi h;rfl) (λcdv A outer s H vs Q E hr h=>?_))
 obtain⟨a,ns,rfl,I,hn,k⟩:=aqi h
 have nd:=sc_law_deck.nd
 refine⟨_,(aad (aaj (i:=1) nd rfl (Or.inl rfl) (aaw aab))
  (aad (abd aJ8 rfl (aa8 rfl T.b_range (aaa (aak (acr rfl) (by rfl) T.b_max ada (aaa aac (aaa (aak (acz rfl) (by rfl) T.b_min aev (aaa aac (aaa (aak abl (by rfl) T.b_len aca (aaa (pv 0) aab)) aab))) aab))) aab)) (aan (i:=2) nd rfl (Or.inl rfl))
   (aad (aaj (i:=3) nd rfl (Or.inl rfl) aac)
    (aad (aa6 (aay aqq (pv 2) (aak abl (by rfl) T.b_len aca (aaa (pv 0) aab)) (aav _))
     (aah (aaj (i:=3) nd rfl (Or.inl rfl) (aal aam (pv 0) (pv 2) (λ_ _=>rfl))))
     aax)
    (aah (ab1 (adl PySem.F.plainAttrs_list PySem.F.slot_list_append PySem.F.type_list_append abt (pv 1) (aaa (aaw (aaa (pv 3) (aaa (abk aeg (by rfl) T.b_int ago (aaa (aci a2j (pv 3) (ajk (n:=1000000000000000000) (by decide) (by refine⟨by decide,by decide,by decide⟩)) (aav _)) aab)) (aaa (aar afk aac (pv 2)) aab)))) aab)))))))
  (aah (aau (aaw (aaa (pv 1) (aaa aac aab))))))),?_⟩
 show(_:TS) _ [some (.ref a),none,none,none] H
 row_cond hgo
 refine⟨by show 0<=sizeLine;decide,λp C=>?_⟩
 row_cond hgo
 refine ao8 ((abj C).seq I) ?_
 rw[aA3]
 row_cond hgo
 refine ao7 (by split <;> split <;> lia) (by split <;> split <;> lia) ?_
 refine asa (λi σ H2=>∃(u r:Option V)(qs:List Addr),σ=[some (.ref a),some (.ref p),u,r]/\H2 p=some (.lst (qs.map V.ref))/\qs.length=i/\p ∉ qs/\(∀ q∈qs,H q=none/\∃ c f k:Int,H2 q=some (.lst [.int c,.int f,.int k]))/\∀ b,b ≠ p->b ∉ qs->H2 b=H b)
  ⟨_,_,[],rfl,aaf,rfl,by simp,(λq m=>nomatch m),λb hb _=>aae hb⟩ ?_ ?_
 ·rintro i σ H2 hi ⟨u,r,qs,rfl,j,v,pq,m,x⟩
  have S:i<63:=by
   revert hi
   split <;> split <;> lia
  have s2:Same H H2:=λb o e=>by
   rw[x b (λz=>by rw[z,C] at e;cases e) (λz=>by rw[(m b z).1] at e;cases e)];exact e
  have fin:∀(c f k:Int)(q:Addr)(u r:Option V),H2 q=none->∃(R J:Option V)(l:List Addr),[some (V.ref a),some (.ref p),u,r]=[some (.ref a),some (.ref p),R,J]/\upd (upd H2 q (.lst [.int c,.int f,.int k])) p (.lst (qs.map V.ref++[.ref q])) p=some (.lst (l.map V.ref))/\l.length=i+1/\p ∉ l/\(∀ z∈l,H z=none/\∃ Y f' k':Int,upd (upd H2 q (.lst [.int c,.int f,.int k])) p (.lst (qs.map V.ref++[.ref q])) z=some (.lst [.int Y,.int f',.int k']))/\∀ b,b ≠ p->b ∉ l->upd (upd H2 q (.lst [.int c,.int f,.int k])) p (.lst (qs.map V.ref++[.ref q])) b=H b:=λc f k q u r g=>by
   have G:q ≠ p:=λe=>by rw[e,j] at g;cases g
   have M:H q=none:=by
    cases e:H q with
    |none=>rfl
    |some o=>rw[s2 q o e] at g;cases g
   refine⟨u,r,qs++[q],rfl,by rw[aaf,aE3];rfl,by simp[v],λz=>?_,λz hz=>?_,λb hb B=>?_⟩
   ·rcases aA7.mp z with z|z
    ·exact pq z
    ·exact G (aC2.mp z).symm
   ·have zp:z ≠ p:=λe=>by
     subst e
     rcases aA7.mp hz with z|z
     ·exact pq z
     ·exact G (aC2.mp z).symm
    rw[aae zp]
    by_cases zq:z=q
    ·subst zq;exact⟨M,c,f,k,aaf⟩
    ·rw[aae zq]
     exact m z ((aA7.mp hz).resolve_right λy=>zq (aC2.mp y))
   ·rw[aae hb,aae (show b ≠ q from λe=>B (aA7.mpr (.inr (aC2.mpr e))))]
    exact x b hb λz=>B (aA7.mpr (.inl z))
  row_cond hgo
  refine ao8 (s2.seq I) ?_
  rw[aA3]
  row_cond hgo
  refine abm (λW=>?_) (λW=>?_)
  ·have L:i<ns.length:=by lia
   have O:atI (ns.map V.int) (0+(i:Int))=some (.int ns[i]):=ab5 (by lia) (by rw[aA5,show(0+(i:Int)).toNat=i by lia,aA0 L];rfl)
   row_cond hgo
   refine avf (s2.seq I) O ?_
   row_cond hgo
   refine⟨by show 3<=sizeLine;decide,λq g=>?_⟩
   have G:p ≠ q:=λe=>by rw[← e,j] at g;cases g
   row_cond hgo
   exact fin _ _ _ q _ _ g
  ·row_cond hgo
   refine⟨by show 3<=sizeLine;decide,λq g=>?_⟩
   have G:p ≠ q:=λe=>by rw[← e,j] at g;cases g
   row_cond hgo
   exact fin _ _ _ q _ _ g
 ·rintro σ H2 ⟨u,r,qs,rfl,j,v,pq,m,x⟩
  have s2:Same H H2:=λb o e=>by
   rw[x b (λz=>by rw[z,C] at e;cases e) (λz=>by rw[(m b z).1] at e;cases e)];exact e
  row_cond hgo
  refine⟨by show 2<=sizeLine;decide,λd hd=>?_⟩
  have dp:d ≠ p:=λe=>by rw[e,j] at hd;cases hd
  have dq:d ∉ qs:=λz=>by obtain⟨_,c,f,k,e⟩:=m d z;rw[e] at hd;cases hd
  have N:H d=none:=by
   cases e:H d with
   |none=>rfl
   |some o=>rw[s2 d o e] at hd;cases hd
  refine k d p 0 qs _ ⟨aaf,by rw[aae dp.symm];exact j,?_,?_,dp,dq,pq,λq z=>?_⟩ ?_ ?_
  ·intro e
   rw[e] at v
   revert v
   simp only[aJ0]
   split <;> split <;> lia
  ·rw[v]
   split <;> split <;> lia
  ·rw[aae (show q ≠ d from λe=>dq (e ▸ z))];exact(m q z).2
  ·rintro b (rfl|rfl|z)
   ·exact N
   ·exact C
   ·exact(m b z).1
  ·intro b U X Z
   rw[aae U];exact x b X Z
end
theorem ag3{α β:Type}(f : α->β):∀(l:List α)(k:Nat),(l.map f).eraseIdx k=(l.eraseIdx k).map f
 |[],_=>rfl
 |_::_,0=>rfl
 |a::l,k+1=>by simp[ag3 f l k]
theorem a19{j:Int}{n:Nat}(b:0<=j)(a:j<n):seqIndex? j n=some j.toNat:=by unfold seqIndex?;simp;lia
theorem Dk.frame{H H':Hp}{d p:Addr}{i:Int}{qs:List Addr}(h:Dk H d p i qs)(e:∀ a,a=d\/a=p\/a∈qs->H' a=H a):Dk H' d p i qs :=
 ⟨(e d (.inl rfl)).trans h.dd,(e p (.inr (.inl rfl))).trans h.pp,h.ne,h.le,h.dp,h.dq,h.pq,λq b=>by rw[e q (.inr (.inr b))];exact h.ql q b⟩
def an7:VIo:=λA ss Q=>∃ n:Int,A=ODk/\ss=[.st (.int n)]/\0<=n/\n<=61/\∀ row:List Int,Order n row->Q ODk (.own (OL (row.map .int)))
theorem an8{K:Frag}{vs:List V}{H:Hp}{Q:VK}{E:XK}(h:spI K an7 vs H Q E):∃(d p:Addr)(i n:Int)(qs:List Addr),vs=[.ref d,.int n]/\Dk H d p i qs/\0<=n/\n<=61 /\
  ∀(row:List Int)(l:Addr)(H':Hp)(s:Int),Order n row->Dk H' d p s qs->H l=none->H' l=some (.lst (row.map V.int))->(∀ a o,a ≠ d->a ∉ qs->H a=some o->H' a=some o)->(∀ a xs,H' a=some (.tup xs)->H a=some (.tup xs))->Q (.ref l) H':=by
 obtain⟨v0,J,G,R,A,ss,F0,L,rfl,gh,ft,u,ap,fg,fr,y,⟨n,rfl,rfl,B,D,k⟩,I⟩:=h
 obtain⟨d,p,i,qs,rfl,r,q⟩:=ap
 cases y with
 | cons ha hr =>
  cases hr
  cases (show Rp G _ (.int n) from ha)
  refine⟨d,p,i,n,qs,rfl,r,B,D,λrow l H' s w j g m F C=>I ODk _ (k row w) _ G H' F0 (λb=>b=l) ?_⟩
  have out:∀ a o,¬ F0 a->H a=some o->H' a=some o:=λa o z=>F a o (λe=>z ((q a).mpr (.inl e))) (λe=>z ((q a).mpr (.inr (.inr e))))
  have v:G l=none:=by
   cases e:G l with
   |none=>rfl
   |some o=>rw[gh l o e] at g;cases g
  refine⟨Same.refl _,λa o e=>?_,λa ks e=>?_,λa o e=>.inl e,λa o e=>?_,λa o e=>?_,⟨d,p,s,qs,rfl,j,q⟩,λa z=>.inl z,fg,⟨l,row.map V.int,rfl,m,Rps.ints row,λb=>Iff.rfl⟩,λa z=>?_⟩
  ·exact out a o (λz=>by rw[fg a z] at e;cases e) (gh a o e)
  ·exact ft a ks (C a _ e)
  ·exact out a o (λz=>by rw[fr a z] at e;cases e) (u a o e)
  ·by_cases z:F0 a
   ·rcases(q a).mp z with rfl|rfl|z
    ·exact⟨_,j.dd⟩
    ·exact⟨_,j.pp⟩
    ·obtain⟨c,f,x,e⟩:=j.ql a z
     exact⟨_,e⟩
   ·exact⟨o,out a o z e⟩
  ·subst z
   refine⟨g,v,⟨_,m⟩,λz=>?_⟩
   rcases(q a).mp z with rfl|rfl|z
   ·rw[r.dd] at g;cases g
   ·rw[r.pp] at g;cases g
   ·obtain⟨c,f,x,e⟩:=r.ql a z
    rw[e] at g;cases g
section
variable{P:Program}{w:World}{K:Frag}{mg:Str->Option Value}{base:Heap}
theorem sc_law_order:FnScope ["deck","n","left"] ["deck","n"] (aap s_law_order):=by row_cond sc
theorem agh(T:Txt K mg):Can P w K mg base "_law_order" 2 ["deck","n"] (spI K an7):=by
 obtain⟨f,fd,D⟩:=T.d_law_order
 refine D.can (D.fn.ok sc_law_order (λvs H Q E h=>by obtain⟨d,p,i,n,qs,rfl,L,h1,h2,k⟩:=an8 h;rfl) (λcdv A outer s H vs Q E hr h=>?_))
 obtain⟨d,p,i,n,qs,rfl,L,h1,h2,k⟩:=an8 h
 have nd:=sc_law_order.nd
 refine⟨_,(aad (aaj (i:=2) nd rfl (Or.inr rfl) (ane rfl T.b_list rfl T.b_range rfl (aaa (pv 1) aab)))
  (aah (aau (adn rfl (N:=["k","left","deck"]) (src:=[none,some 2,some 0]) (by exact abe rfl rfl rfl rfl rfl rfl) (aa8 rfl T.b_range (aaa (pv 1) aab)) (λ_ _ _ _=>(aan (i:=0) (show List.Nodup (["k","left","deck"]:List Str) by decide +kernel) rfl (Or.inl rfl) (hf:=Or.inr rfl))) (λ_ _ _ _=>aa9) (λ_ _ _ _=>(show PE _ _ (tBM K "list" amd _ _) from(adl PySem.F.plainAttrs_list PySem.F.slot_list_pop PySem.F.type_list_pop auv (pv 1) (aaa (aag (agg T) hr (aaa (pv 2) (aaa (aak (show aa2 _ (.builtin "len") (rLen K) from abl) (by rfl) T.b_len aca (aaa (pv 1) aab)) aab))) aab)))))))),?_⟩
 show(_:TS) _ [some (.ref d),some (.int n),none] H
 row_cond hgo
 unfold aiz
 row_cond hgo
 refine⟨n,rfl,h1,by lia,λm hm=>?_⟩
 row_cond hgo
 refine ao7 (by lia) (by lia) ?_
 intro g b
 have M:∀ a,a=d\/a=p\/a∈qs->∃ o,H a=some o:=λa z=>by
  rcases z with rfl|rfl|z
  ·exact⟨_,L.dd⟩
  ·exact⟨_,L.pp⟩
  ·obtain⟨c,f,kk,e⟩:=L.ql a z
   exact⟨_,e⟩
 have U:∀ a,a=d\/a=p\/a∈qs->a ≠ m:=λa z e=>by
  obtain⟨o,J⟩:=M a z
  rw[e,hm] at J;cases J
 have R:g ≠ m:=λe=>by rw[e,aaf] at b;cases b
 rw[aae R] at b
 have S:∀ a,a=d\/a=p\/a∈qs->a ≠ g:=λa z e=>by
  obtain⟨o,J⟩:=M a z
  rw[e,b] at J;cases J
 refine au1 (λj ys σ H2=>∃(v:Option V)(row left:List Int)(C:Int),σ=[v,some (.ref m),some (.ref d)]/\ys=row.map V.int/\row.length=j/\Order n (row++left)/\H2 m=some (.lst (left.map V.int))/\H2 g=some (.lst ys)/\Dk H2 d p C qs/\∀ a,a ≠ d->a ∉ qs->a ≠ m->a ≠ g->H2 a=H a)
  ⟨_,[],(List.range n.toNat).map λ(i:Nat)=>(i:Int),i,rfl,rfl,rfl,?_,?_,aaf,?_,?_⟩ (λj ys σ H2 h=>by obtain⟨v,row,left,C,_,_,_,_,_,e,_⟩:=h;exact e) ?_ ?_
 ·exact Order.id n
 ·rw[aae R.symm,aaf,aD9];rfl
 ·exact L.frame λa z=>by rw[aae (S a z),aae (U a z)]
 ·intro a _ _ X W
  rw[aae W,aae X]
 ·rintro j ys σ H2 hj ⟨v,row,left,C,rfl,rfl,I,G,x,q,l,u⟩
  have O:left.length=n.toNat-j:=by have:=G.len;simp at this;lia
  have md:m ≠ d:=(U d (.inl rfl)).symm
  have mq:m ∉ qs:=λz=>U m (.inr (.inr z)) rfl
  have ad:g ≠ d:=(S d (.inl rfl)).symm
  have aq:g ∉ qs:=λz=>S g (.inr (.inr z)) rfl
  row_cond hgo
  refine⟨d,p,C,_,qs,rfl,l,by rw[aA3];lia,by rw[aA3];lia,λr H3 i3 r0 r1 Y B=>?_⟩
  rw[aA3] at r1
  row_cond hgo
  obtain⟨y,hy⟩:∃ y,left[r.toNat]?=some y:=⟨_,aA0 (show r.toNat<left.length by lia)⟩
  refine au6 (y:=.int y) ((B m md mq).trans x) (by lia) (by lia) (a19 r0 (by rw[aA3];exact r1)) (by rw[aA5,hy];rfl) ?_
  refine⟨by rw[aae R];exact(B g ad aq).trans q,ae2 (by simp;lia),_,row++[y],left.eraseIdx r.toNat,i3,rfl,by simp,by simp[I],arj G hy,?_,aaf,?_,?_⟩
  ·rw[aae R.symm,aaf,ag3]
  ·exact Y.frame λa z=>by rw[aae (S a z),aae (U a z)]
  ·intro a b1 Z b3 b4
   rw[aae b4,aae b3,B a b1 Z];exact u a b1 Z b3 b4
 ·rintro ys σ H2 ⟨v,row,left,C,rfl,rfl,I,G,x,q,l,u⟩
  have O:left=[]:=by have:=G.len;simp at this;exact List.length_eq_zero_iff.mp (by lia)
  subst O
  rw[aF0] at G
  row_cond hgo
  refine k row g H2 C G l b q (λa o X W e=>?_) λa xs e=>?_
  ·rw[u a X W (λz=>by rw[z,hm] at e;cases e) (λz=>by rw[z,b] at e;cases e)];exact e
  ·rw[← u a (λz=>?_) (λz=>?_) (λz=>?_) (λz=>?_)]
   ·exact e
   ·rw[z,l.dd] at e;cases e
   ·obtain⟨c,f,kk,e2⟩:=l.ql a z
    rw[e2] at e;cases e
   ·rw[z,x] at e;cases e
   ·rw[z,q] at e;cases e
end
def aun:VIo:=λA ss Q=>A=ODk/\ss=[]/\∀(n:Int)(es:List (Int × Int)),1<=n->n<=60->InN n es->es.length<=1900->Q ODk (.st (webD n es))
def mmP(p:Int × Int):Int × Int:=if p.2<p.1 then (p.2,p.1) else p
theorem a2c{p:Int × Int}{x y:Int}(a:aq0 [p.1,p.2] x)(b:ae6 [p.1,p.2] y):mmP p=(x,y):=by
 have f:=a.2 p.1 (by simp)
 have i:=a.2 p.2 (by simp)
 have g:=b.2 p.1 (by simp)
 have h:=b.2 p.2 (by simp)
 have c:=a.1
 have d:=b.1
 simp only[aA9,aI4,or_false] at c d
 unfold mmP
 split
 ·exact Prod.ext (by show p.2=x;lia) (by show p.1=y;lia)
 ·exact Prod.ext (by lia) (by lia)
theorem a2d{n:Int}{ps:List (Int × Int)}(h:InN n ps):InN n (ps.map mmP):=λq b=>by
 obtain⟨p,a,rfl⟩:=aB7.mp b
 have:=h p a
 unfold mmP
 split
 ·exact⟨this.2.2.1,this.2.2.2,this.1,this.2.1⟩
 ·exact this
theorem auo{l:List Int}(h:∀ x∈l,2<=x):0<=l.sum:=by
 induction l with
 |nil=>simp
 | cons a l ih =>
  have:=h a (by simp)
  have:=ih λx b=>h x (by simp[b])
  simp;lia
theorem awk{sz:List Int}(h:∀ x∈sz,2<=x){i:Nat}{x:Int}(b:sz[i]?=some x):(sz.take (i+1)).sum=(sz.take i).sum+x/\(sz.take (i+1)).sum<=sz.sum/\0<=(sz.take i).sum:=by
 refine⟨by rw[aH4,b];simp,?_,auo λy a=>h y (aC0 a)⟩
 have:=congrArg List.sum (aC1 (i+1) sz)
 rw[List.sum_append] at this
 have:=auo λy (a:y∈sz.drop (i+1))=>h y (aC4 a)
 lia
section
variable{P:Program}{w:World}{K:Frag}{mg:Str->Option Value}{base:Heap}
theorem sc_law_crowds:FnScope ["deck","sizes","n","row","ties","at","size","a","b"] ["deck"] (aap s_law_crowds):=by row_cond sc
theorem aj1(T:Txt K mg):Can P w K mg base "_law_crowds" 3 ["deck"] (spI K (aun)):=by
 obtain⟨f,fd,D⟩:=T.d_law_crowds
 refine D.can (D.fn.ok sc_law_crowds (λvs H Q E h=>lenI h λA ss Q' q=>by obtain⟨rfl,rfl,k⟩:=q;rfl) (λcdv A outer s H vs Q E z h=>?_))
 have nd:=sc_law_crowds.nd
 refine⟨_,(aad (aaj (i:=1) nd rfl (Or.inl rfl) (aal aam (aaw (aaa (aaw (aaa (aar aa7 aac (aag (aai T) z (aaa (pv 0) (aaa aac aab)))) aab)) (aaa (aaw (aaa (aar aa7 aac (aag (aai T) z (aaa (pv 0) (aaa aac aab)))) (aaa (aar aa7 aac (aag (aai T) z (aaa (pv 0) (aaa aac aab)))) aab))) aab))) (aag (aai T) z (aaa (pv 0) (aaa aac aab))) (λ_ _=>rfl)))
  (aad (aaj (i:=2) nd rfl (Or.inl rfl) (aar aa7 (aak (akh rfl) (by rfl) T.b_sum as0 (aaa (pv 1) aab)) (aag (aai T) z (aaa (pv 0) (aaa (aar ac9 aac (aak (akh rfl) (by rfl) T.b_sum as0 (aaa (pv 1) aab))) aab)))))
  (aad (aaj (i:=3) nd rfl (Or.inr rfl) (aag (agh T) z (aaa (pv 0) (aaa (pv 2) aab))))
  (aad (aaj (i:=4) nd rfl (Or.inl rfl) (aaw aab))
  (aad (aaj (i:=5) nd rfl (Or.inl rfl) aac)
  (aad (abd aJ8 rfl (aa5 (pv 1)) (aan (i:=6) nd rfl (Or.inl rfl))
   (aad (abd aJ8 rfl (ad6 rfl T.b_range (aaa (pv 5) (aaa (aar aa7 (pv 5) (pv 6)) aab))) (aan (i:=7) nd rfl (Or.inr rfl))
     (aah (ab1 (adl PySem.F.plainAttrs_list PySem.F.slot_list_extend PySem.F.type_list_extend asi (pv 4) (aaa (adn rfl (N:=["b","row","a"]) (src:=[none,some 3,some 7]) (by exact abe rfl rfl rfl rfl rfl rfl) (ad6 rfl T.b_range (aaa (aar aa7 (pv 7) aac) (aaa (aar aa7 (pv 5) (pv 6)) aab))) (λ_ _ _ _=>(aan (i:=0) (show List.Nodup (["b","row","a"]:List Str) by decide +kernel) rfl (Or.inl rfl) (hf:=Or.inr rfl))) (λ_ _ _ _=>aa9) (λ_ _ _ _=>(abf (aaa (aal (show IxR _ (ach K) from aam) (pv 1) (pv 2) (λ_ _=>rfl)) (aaa (aal (show IxR _ (ach K) from aam) (pv 1) (pv 0) (λ_ _=>rfl)) aab))))) aab)))))
    (aah (aaj (i:=5) nd rfl (Or.inl rfl) (aar aa7 (pv 5) (pv 6))))))
  (aad (abd aJ8 rfl (ad6 rfl T.b_range (aaa (pv 5) (aaa (pv 2) aab))) (aan (i:=8) nd rfl (Or.inl rfl))
   (aah (aa6 (aay alk (aag (aai T) z (aaa (pv 0) (aaa aac aab))) aac (aav _))
     (aah (ab1 (adl PySem.F.plainAttrs_list PySem.F.slot_list_append PySem.F.type_list_append abt (pv 4) (aaa (abf (aaa (aal aam (pv 3) (aag (aai T) z (aaa (pv 0) (aaa (pv 8) aab))) (λ_ _=>rfl)) (aaa (aal aam (pv 3) (pv 8) (λ_ _=>rfl)) aab))) aab))))
     aax)))
  (aah (aau (abf (aaa (pv 2) (aaa (aak aq3 (by rfl) T.b_sorted ad8 (aaa (adn rfl (N:=["tie"]) (src:=[none]) (by exact abe rfl rfl rfl rfl rfl rfl) (aa5 (pv 4)) (λ_ _ _ _=>(aan (i:=0) (show List.Nodup (["tie"]:List Str) by decide +kernel) rfl (Or.inl rfl) (hf:=Or.inr rfl))) (λ_ _ _ _=>aa9) (λ_ _ _ _=>(abf (aaa (aak (show aa2 _ (.builtin "min") (alt K) from(as9 rfl)) (by rfl) T.b_min aev (aaa (pv 0) aab)) (aaa (aak (show aa2 _ (.builtin "max") (ahg K) from(agr rfl)) (by rfl) T.b_max ada (aaa (pv 0) aab)) aab))))) aab)) aab)))))))))))),?_⟩
 refine air h λA0 ss Q' q B hK=>?_
 obtain⟨rfl,rfl,k⟩:=q
 show EvS B _ _ [some (.io ODk),none,none,none,none,none,none,none,none]
 row_cond go
 refine⟨11,rfl,rfl,by lia,by lia,λr1 b7 b1=>?_⟩
 row_cond go
 refine⟨15,rfl,rfl,by lia,by lia,λr2 b6 a9=>?_⟩
 row_cond go
 refine⟨15,rfl,rfl,by lia,by lia,λr3 a5 b5=>?_⟩
 row_cond go
 refine⟨2,rfl,rfl,by lia,by lia,λr4 b2 b4=>?_⟩
 obtain⟨sz,r,I,a3,a4⟩:∃ sz:List Int,atI [PyData.list [.int (12+r1)],.list [.int (2+r2),.int (2+r3)]] r4=some (.list (sz.map .int))/\(∀ x∈sz,2<=x)/\(2<=sz.sum/\sz.sum<=32)/\sz.length<=2:=by
  rcases(show r4=0\/r4=1 by lia) with rfl|rfl
  ·exact⟨[12+r1],rfl,λx G=>by simp at G;lia,by simp;lia,by simp⟩
  ·exact⟨[2+r2,2+r3],rfl,λx G=>by simp at G;lia,by simp;lia,by simp⟩
 row_cond go
 refine apr rfl ?_
 row_cond go
 refine apr rfl ?_
 row_cond go
 refine⟨61-sz.sum,rfl,rfl,by lia,by lia,λr5 b0 b3=>?_⟩
 row_cond go
 refine⟨sz.sum+r5,rfl,rfl,by lia,by lia,λrow J=>acm acb ?_⟩
 obtain⟨n,hn,a6,R⟩:∃ n,n=sz.sum+r5/\sz.sum<=n/\n<=60:=⟨_,rfl,by lia,by lia⟩
 rw[← hn] at J
 rw[← hn]
 have r:∀ j:Int,0<=j->j<n->∃ x,atI (row.map PyData.int) j=some (.int x)/\0<=x/\x<n:=λj U j1=>⟨ade row j,ab5 U (by rw[aA5,(J.at U j1).1];rfl),(J.at U j1).2⟩
 row_cond go
 refine acw (λi e=>∃ C o m ps,e=[some (.io ODk),some (.st (.list (sz.map .int))),some (.st (.int n)),some (.st (.list (row.map .int))),some (.own (OL (ps.map prD))),some (.st (.int (sz.take i).sum)),C,o,m]/\InN n ps/\(ps.length:Int)<=32 * (sz.take i).sum) ⟨none,none,none,[],rfl,(λp g=>by cases g),by simp⟩ ?_ ?_
 ·rintro i x e G d
  refine exS4 e d λC o m ps b=>?_
  have l:=b.1
  have v:=b.2
  clear b d
  have a7:=I x (aA2 G)
  obtain⟨t1,t2,t3⟩:=awk I G
  rw[t1] at t2
  rw[t1]
  generalize (sz.take i).sum=c at v t2 t3
  row_cond go
  refine abo (λj e=>∃ o m ps,e=[some (.io ODk),some (.st (.list (sz.map .int))),some (.st (.int n)),some (.st (.list (row.map .int))),some (.own (OL (ps.map prD))),some (.st (.int c)),some (.st (.int x)),o,m]/\InN n ps/\(ps.length:Int)<=32 * (c+j)) ⟨_,_,ps,rfl,l,by simpa using v⟩ ?_ ?_
  ·rintro j e hj d
   refine exS3 e d λo m ps b=>?_
   have l:=b.1
   have v:=b.2
   clear b d
   have a8:c+(j:Int)<c+x:=by lia
   obtain⟨xa,ea,S,Y⟩:=r (c+(j:Int)) (by lia) (by lia)
   row_cond go
   unfold rngD
   refine acg (λu:Nat=>prD (xa,ade row (c+(j:Int)+1+(u:Int)))) rfl (by simp;lia) (λu X B' hB=>?_) ?_
   ·have W:=aB9.mp X
    have hb:=J.at (a:=c+(j:Int)+1+(u:Int)) (by lia) (by lia)
    have eb:atI (row.map PyData.int) (c+(j:Int)+1+(u:Int))=some (.int (ade row (c+(j:Int)+1+(u:Int)))):=ab5 (by lia) (by rw[aA5,hb.1];rfl)
    row_cond go
    rfl
   ·refine⟨_,_,rfl,rfl,by simp;lia,?_⟩
    dsimp only[List.set_cons_zero,List.set_cons_succ]
    refine⟨_,_,ps++(List.range (c+x-(c+(j:Int)+1)).toNat).map λu:Nat=>(xa,ade row (c+(j:Int)+1+(u:Int))),by rw[aE3,aD9];rfl,λp g=>?_,by simp;lia⟩
    rcases aA7.mp g with g|g
    ·exact l p g
    ·obtain⟨u,X,rfl⟩:=aB7.mp g
     have W:=aB9.mp X
     have hb:=J.at (a:=c+(j:Int)+1+(u:Int)) (by lia) (by lia)
     exact⟨S,Y,hb.2.1,hb.2.2⟩
  ·rintro e d
   refine exS3 e d λo m ps b=>?_
   have l:=b.1
   have v:=b.2
   clear b d
   row_cond go
   exact⟨_,_,_,ps,rfl,l,by lia⟩
 ·rintro e d
  refine exS4 e d λC o m ps b=>?_
  have l:=b.1
  have v:=b.2
  clear b d
  rw[aG8] at v ⊢
  row_cond go
  refine abo (λj e=>∃ C o m ps,e=[some (.io ODk),some (.st (.list (sz.map .int))),some (.st (.int n)),some (.st (.list (row.map .int))),some (.own (OL (ps.map prD))),some (.st (.int sz.sum)),C,o,m]/\InN n ps/\(ps.length:Int)<=1024+j) ⟨_,_,_,ps,rfl,l,by lia⟩ ?_ ?_
  ·rintro j e hj d
   refine exS4 e d λC o m ps b=>?_
   have l:=b.1
   have v:=b.2
   clear b d
   obtain⟨xb,eb,M,a1⟩:=r (sz.sum+(j:Int)) (by lia) (by lia)
   row_cond go
   refine⟨5,rfl,rfl,by lia,by lia,λq qa qb=>?_⟩
   row_cond go
   refine abm (λhq=>?_) (λhq=>?_)
   ·row_cond go
    refine⟨sz.sum+(j:Int),rfl,rfl,by lia,by lia,λy ya yb=>?_⟩
    obtain⟨xy,ey,L,O⟩:=r y ya (by lia)
    row_cond go
    refine⟨_,_,_,ps++[(xy,xb)],by rw[aE3];rfl,λp g=>?_,by simp;lia⟩
    rcases aA7.mp g with g|g
    ·exact l p g
    ·rw[aC2.mp g];exact⟨L,O,M,a1⟩
   ·row_cond go
    exact⟨_,_,_,ps,rfl,l,by push_cast;lia⟩
  ·rintro e d
   refine exS4 e d λC o m ps b=>?_
   have l:=b.1
   have v:=b.2
   clear b d
   row_cond go
   refine att (ps:=ps.map mmP) ?_
   row_cond go
   refine acg (λp:Int × Int=>prD (mmP p)) rfl (by lia) (λp g B' hB=>?_) ?_
   ·row_cond go
    refine avw (ns:=[p.1,p.2]) rfl (by simp) λm1 a0=>?_
    row_cond go
    refine avv (ns:=[p.1,p.2]) rfl (by simp) λm2 Z=>?_
    row_cond go
    exact⟨by rw[a2c a0 Z],rfl⟩
   ·row_cond go
    refine⟨by rw[aD9];rfl,λqs g hs=>ac0 ?_⟩
    row_cond go
    exact k n qs (by lia) R (λp a2=>a2d l p (g.mem_iff.mp a2)) (by rw[g.length_eq,aA3];lia)
end
theorem ahu{n a b:Int}{ps:List (Int × Int)}(h:InN n ps)(i:0<=a)(f:a<n)(g:0<=b)(d:b<n):InN n (addP ps (a,b)):=λp c=>by
 rcases addP_mem.mp c with c|rfl
 ·exact h p c
 ·exact⟨i,f,g,d⟩
section
variable{P:Program}{w:World}{K:Frag}{mg:Str->Option Value}{base:Heap}
theorem sc_law_web:FnScope ["deck","n","row","kind","ties","k","heads","head","a","b"] ["deck"] (aap s_law_web):=by row_cond sc
theorem aov(T:Txt K mg):Can P w K mg base "_law_web" 4 ["deck"] (spI K (aun)):=by
 obtain⟨f,fd,D⟩:=T.d_law_web
 refine D.can (D.fn.ok sc_law_web (λvs H Q E h=>lenI h λA ss Q' q=>by obtain⟨rfl,rfl,k⟩:=q;rfl) (λcdv A outer s H vs Q E c h=>?_))
 have nd:=sc_law_web.nd
 refine⟨_,(aad (aa6 (aay ab2 (aag (aai T) c (aaa (pv 0) (aaa aac aab))) aac (aav _))
   (aah (aau (aag (aj1 T) c (aaa (pv 0) aab))))
   aax)
  (aad (aaj (i:=1) nd rfl (Or.inl rfl) (aar aa7 aac (aag (aai T) c (aaa (pv 0) (aaa (aal aam (aaw (aaa aac (aaa aac (aaa aac (aaa aac aab))))) (aag (aai T) c (aaa (pv 0) (aaa aac aab))) (λ_ _=>rfl)) aab)))))
  (aad (aaj (i:=2) nd rfl (Or.inl rfl) (aal aam (aaw (aaa (ane rfl T.b_list rfl T.b_range rfl (aaa (pv 1) aab)) (aaa (aag (agh T) c (aaa (pv 0) (aaa (pv 1) aab))) aab))) (aag (aai T) c (aaa (pv 0) (aaa aac aab))) (λ_ _=>rfl)))
  (aad (aaj (i:=3) nd rfl (Or.inl rfl) (aag (aai T) c (aaa (pv 0) (aaa aac aab))))
  (aad (aaj (i:=4) nd rfl (Or.inl rfl) amg)
  (aad (abd aJ8 rfl (ad6 rfl T.b_range (aaa aac (aaa (pv 1) aab))) (aan (i:=5) nd rfl (Or.inl rfl))
   (aad (aaj (i:=6) nd rfl (Or.inl rfl) (aaw (aaa (aar ac9 (pv 5) aac) (aaa (aag (aai T) c (aaa (pv 0) (aaa (pv 5) aab))) (aaa (aak (acr rfl) (by rfl) T.b_max ada (aaa aac (aaa (aar ac9 (aar ac9 (pv 5) aac) (aag (aai T) c (aaa (pv 0) (aaa aac aab)))) aab))) (aaa aac (aaa (aar ai8 (pv 5) aac) aab)))))))
    (aad (aaj (i:=7) nd rfl (Or.inl rfl) (aal aam (aar afo (pv 6) (aaw (aaa (aag (aai T) c (aaa (pv 0) (aaa (aak (acz rfl) (by rfl) T.b_min aev (aaa (pv 5) (aaa aac aab))) aab))) aab))) (pv 3) (λ_ _=>rfl)))
    (aah (afq (acy c) (pv 4) (abf (aaa (aak (acz rfl) (by rfl) T.b_min aev (aaa (aal aam (pv 2) (pv 5) (λ_ _=>rfl)) (aaa (aal aam (pv 2) (pv 7) (λ_ _=>rfl)) aab))) (aaa (aak (acr rfl) (by rfl) T.b_max ada (aaa (aal aam (pv 2) (pv 5) (λ_ _=>rfl)) (aaa (aal aam (pv 2) (pv 7) (λ_ _=>rfl)) aab))) aab))) acn rfl)))))
  (aad (aa6 (PW.pt (agj (aay ab2 (aag (aai T) c (aaa (pv 0) (aaa aac aab))) aac (aav _)) (afi (aay alk (pv 1) aac (aav _)))))
   (aah (afq (acy c) (pv 4) (abf (aaa (aak (acz rfl) (by rfl) T.b_min aev (aaa (aal aam (pv 2) aac (λ_ _=>rfl)) (aaa (aal aam (pv 2) (aww asb aac) (λ_ _=>rfl)) aab))) (aaa (aak (acr rfl) (by rfl) T.b_max ada (aaa (aal aam (pv 2) aac (λ_ _=>rfl)) (aaa (aal aam (pv 2) (aww asb aac) (λ_ _=>rfl)) aab))) aab))) acn rfl))
   aax)
  (aad (abd aJ8 rfl (aa8 rfl T.b_range (aaa (aal aam (aaw (aaa aac (aaa (aag (aai T) c (aaa (pv 0) (aaa aac aab))) (aaa (aag (aai T) c (aaa (pv 0) (aaa (aar aa7 (pv 1) aac) aab))) (aaa (aag (aai T) c (aaa (pv 0) (aaa (aar afk aac (pv 1)) aab))) aab))))) (aag (aai T) c (aaa (pv 0) (aaa aac aab))) (λ_ _=>rfl)) aab)) (aan (i:=5) nd rfl (Or.inl rfl))
   (aad (aaj (i:=8) nd rfl (Or.inl rfl) (aag (aai T) c (aaa (pv 0) (aaa (pv 1) aab))))
    (aad (aaj (i:=9) nd rfl (Or.inl rfl) (aag (aai T) c (aaa (pv 0) (aaa (pv 1) aab))))
    (aah (aa6 (aay afy (pv 8) (pv 9) (aav _))
     (aah (afq (acy c) (pv 4) (abf (aaa (aak (acz rfl) (by rfl) T.b_min aev (aaa (pv 8) (aaa (pv 9) aab))) (aaa (aak (acr rfl) (by rfl) T.b_max ada (aaa (pv 8) (aaa (pv 9) aab))) aab))) acn rfl))
     aax)))))
  (aad (abd aJ8 rfl (aa8 rfl T.b_range (aaa (aal aam (aaw (aaa aac (aaa aac (aaa (aag (aai T) c (aaa (pv 0) (aaa aac aab))) (aaa (aag (aai T) c (aaa (pv 0) (aaa (aar aa7 (pv 1) aac) aab))) aab))))) (aag (aai T) c (aaa (pv 0) (aaa aac aab))) (λ_ _=>rfl)) aab)) (aan (i:=5) nd rfl (Or.inl rfl))
   (aah (aa6 (aay (a1v c.units) (pv 4) amg (aav _))
     (aah (ab1 (av8 (acy c) (pv 4) (aal aam (aak (afg rfl) (by rfl) T.b_sorted ad8 (aaa (pv 4) aab)) (aag (aai T) c (aaa (pv 0) (aaa (aak aty (by rfl) T.b_len aca (aaa (pv 4) aab)) aab))) (λ_ _=>rfl)) ⟨rfl,rfl,rfl,rfl⟩)))
     aax)))
  (aah (aau (abf (aaa (pv 1) (aaa (aak (afg rfl) (by rfl) T.b_sorted ad8 (aaa (pv 4) aab)) aab)))))))))))))),?_⟩
 refine air h λA0 ss Q' q B hK=>?_
 obtain⟨rfl,rfl,k⟩:=q
 show EvS B _ _ [some (.io ODk),none,none,none,none,none,none,none,none,none]
 row_cond go
 refine⟨8,rfl,rfl,by lia,by lia,λr0 e7 e6=>?_⟩
 row_cond go
 refine abm (λU=>?_) (λU=>?_)
 ·row_cond go
  exact⟨rfl,rfl,λn es Z Y d z=>⟨ODk,rfl,k n es Z Y d z⟩⟩
 ·row_cond go
  refine⟨4,rfl,rfl,by lia,by lia,λL f6 d8=>?_⟩
  obtain⟨J,c5,f9,e9⟩:∃ J:Int,atI [PyData.int 4,PyData.int 12,PyData.int 12,PyData.int 60] L=some (.int J)/\4<=J/\J<=60:=by
   rcases(show L=0\/L=1\/L=2\/L=3 by lia) with rfl|rfl|rfl|rfl
   ·exact⟨4,rfl,by lia,by lia⟩
   ·exact⟨12,rfl,by lia,by lia⟩
   ·exact⟨12,rfl,by lia,by lia⟩
   ·exact⟨60,rfl,by lia,by lia⟩
  row_cond go
  refine⟨J,rfl,rfl,by lia,by lia,λr2 f4 c7=>?_⟩
  row_cond go
  obtain⟨n,hn,Z,Y⟩:∃ n,1+r2=n/\1<=n/\n<=60:=⟨_,rfl,by lia,by lia⟩
  rw[hn]
  row_cond go
  refine⟨n,rfl,rfl,by lia,by lia,λF X=>ac0 ?_⟩
  row_cond go
  refine⟨2,rfl,rfl,by lia,by lia,λO a8 f1=>?_⟩
  obtain⟨row,a6,hO⟩:∃ row:List Int,atI [PyData.list (rngD 0 n.toNat),PyData.list (F.map .int)] O=some (.list (row.map .int))/\Order n row:=by
   rcases(show O=0\/O=1 by lia) with rfl|rfl
   ·exact⟨(List.range n.toNat).map λ(i:Nat)=>(i:Int),by show some _=some _;rw[ay2],Order.id n⟩
   ·exact⟨F,rfl,X⟩
  have C:∀ j:Int,0<=j->j<n->∃ x,atI (row.map PyData.int) j=some (.int x)/\0<=x/\x<n:=λj R j1=>⟨ade row j,ab5 R (by rw[aA5,(hO.at R j1).1];rfl),(hO.at R j1).2⟩
  row_cond go
  refine⟨6,rfl,rfl,by lia,by lia,λkind ka kb=>?_⟩
  row_cond go
  rw[a1p]
  refine abo (λi e=>∃ u l v o g ps,e=[some (.io ODk),some (.st (.int n)),some (.st (.list (row.map .int))),some (.st (.int kind)),some (.own (OT (kE ps))),u,l,v,o,g]/\InN n ps/\ps.length<=i) ⟨_,_,_,_,_,[],rfl,(λp y=>by cases y),aA6 _⟩ ?_ ?_
  ·rintro i e hi b
   refine exS6 e b λu l v o g ps a=>?_
   have d:=a.1
   have z:=a.2
   clear a b
   have W:1+(i:Int)<n:=by lia
   obtain⟨xk,ek,a9,b8⟩:=C (1+(i:Int)) (by lia) W
   have G:(kE ps).length<=999999:=by rw[aec];lia
   row_cond go
   refine⟨1+(i:Int),rfl,rfl,by lia,by lia,λd1 f0 d7=>?_⟩
   row_cond go
   refine⟨3,rfl,rfl,by lia,by lia,λd2 g3 b7=>?_⟩
   iterate 16 row_cond st
   refine acm acb ?_
   row_cond go
   refine⟨_,rfl,rfl,by split <;> lia,by split <;> lia,λd3 b0 S=>?_⟩
   have d6:d3<1+(i:Int):=by split at S <;> lia
   obtain⟨hd,d0,a0,c1⟩:∃ hd:Int,atI ([PyData.int (1+(i:Int)-1),PyData.int d1,PyData.int (if 1+(i:Int)-1-d2 > 0 then 1+(i:Int)-1-d2 else 0),PyData.int 0,PyData.int ((1+(i:Int)) / 2)]++[PyData.int d3]) kind=some (.int hd)/\0<=hd/\hd<1+(i:Int):=by
    rcases(show kind=0\/kind=1\/kind=2\/kind=3\/kind=4\/kind=5 by lia) with rfl|rfl|rfl|rfl|rfl|rfl
    ·exact⟨_,rfl,by lia,by lia⟩
    ·exact⟨_,rfl,by lia,by lia⟩
    ·exact⟨_,rfl,by split <;> lia,by split <;> lia⟩
    ·exact⟨_,rfl,by lia,by lia⟩
    ·exact⟨_,rfl,by lia,by lia⟩
    ·exact⟨_,rfl,by lia,by lia⟩
   obtain⟨xh,eh,c9,c2⟩:=C hd a0 (by lia)
   row_cond go
   rw[agx]
   exact⟨_,_,_,_,_,_,rfl,ahu d (by split <;> lia) (by split <;> lia) (by split <;> lia) (by split <;> lia),aD0 aez (by lia)⟩
  ·rintro e b
   refine exS6 e b λu l v o g ps a=>?_
   have d:=a.1
   have z:=a.2
   clear a b
   have G:(kE ps).length<=999999:=by rw[aec];lia
   obtain⟨x0,e0,b5,e1⟩:=C 0 (by lia) (by lia)
   obtain⟨xl,el,d9,e8⟩:∃ x,atI (row.map PyData.int) (-1)=some (.int x)/\0<=x/\x<n:=by
    obtain⟨x,ex,x0,x1⟩:=C (n-1) (by lia) (by lia)
    refine⟨x,?_,x0,x1⟩
    have hl:(row.map PyData.int).length=n.toNat:=by rw[aA3];exact hO.len
    have h2:ixN n.toNat (-1)=some (n.toNat-1):=by unfold ixN;rw[aF6 (by lia),aF5 (by lia)];congr 1;lia
    have h3:ixN n.toNat (n-1)=some (n.toNat-1):=by unfold ixN;rw[aF5 (by lia),aF5 (by lia)];congr 1;lia
    unfold atI at ex ⊢
    rw[hl,h3] at ex
    rw[hl,h2]
    exact ex
   refine' apk (by assumption) ?_
   refine ah9 (λc_ b6=>?_)
   refine av7 (λe=>∃ ps,e=[some (.io ODk),some (.st (.int n)),some (.st (.list (row.map .int))),some (.st (.int kind)),some (.own (OT (kE ps))),u,l,v,o,g]/\InN n ps/\ps.length<=61) ?_ ?_
   ·row_cond go
    refine⟨4,rfl,rfl,by lia,by lia,λq qa qb=>?_⟩
    row_cond go
    refine abm (λh=>?_) (λh=>?_)
    ·row_cond go
     refine abm (λh=>?_) (λh=>?_)
     ·row_cond go
      rw[agx]
      exact⟨_,rfl,ahu d (by split <;> lia) (by split <;> lia) (by split <;> lia) (by split <;> lia),aD0 aez (by lia)⟩
     ·row_cond go
      exact⟨ps,rfl,d,by lia⟩
    ·row_cond go
     exact⟨ps,rfl,d,by lia⟩
   ·clear d z G ps
    rintro e b
    refine exS1 e b λps a=>?_
    have d:=a.1
    have z:=a.2
    clear a b
    row_cond go
    refine⟨4,rfl,rfl,by lia,by lia,λa1 c8 f5=>?_⟩
    row_cond go
    refine⟨n+1,rfl,rfl,by lia,by lia,λa2 c0 f7=>?_⟩
    row_cond go
    refine⟨4 * n,rfl,rfl,by lia,by lia,λa3 d4 b9=>?_⟩
    row_cond go
    refine⟨4,rfl,rfl,by lia,by lia,λI g0 e4=>?_⟩
    obtain⟨m,em,m0,m1⟩:∃ m:Int,atI [PyData.int 0,PyData.int a1,PyData.int a2,PyData.int a3] I=some (.int m)/\0<=m/\m<=240:=by
     rcases(show I=0\/I=1\/I=2\/I=3 by lia) with rfl|rfl|rfl|rfl <;> exact⟨_,rfl,by lia,by lia⟩
    row_cond go
    refine abo (λi e=>∃ u l v o g ps,e=[some (.io ODk),some (.st (.int n)),some (.st (.list (row.map .int))),some (.st (.int kind)),some (.own (OT (kE ps))),u,l,v,o,g]/\InN n ps/\ps.length<=61+i) ⟨_,_,_,_,_,ps,rfl,d,z⟩ ?_ ?_
    ·rintro i e hi b
     refine exS6 e b λu l v o g ps a=>?_
     have d:=a.1
     have z:=a.2
     clear a b
     have G:(kE ps).length<=999999:=by rw[aec];lia
     row_cond go
     refine⟨n,rfl,rfl,by lia,by lia,λba f3 c6=>?_⟩
     row_cond go
     refine⟨n,rfl,rfl,by lia,by lia,λbb f8 g2=>?_⟩
     row_cond go
     refine axw (λh=>?_) (λh=>?_)
     ·row_cond go
      rw[agx]
      exact⟨_,_,_,_,_,_,rfl,ahu d (by split <;> lia) (by split <;> lia) (by split <;> lia) (by split <;> lia),aD0 aez (by lia)⟩
     ·row_cond go
      exact⟨_,_,_,_,_,ps,rfl,d,by lia⟩
    ·rintro e b
     refine exS6 e b λu l v o g ps a=>?_
     have d:=a.1
     have z:=a.2
     clear a b
     row_cond go
     refine⟨6,rfl,rfl,by lia,by lia,λb1 g1 b4=>?_⟩
     row_cond go
     refine⟨n+1,rfl,rfl,by lia,by lia,λb2 e2 c3=>?_⟩
     row_cond go
     refine⟨4,rfl,rfl,by lia,by lia,λM d5 c4=>?_⟩
     obtain⟨m',f2,e5,e3⟩:∃ m:Int,atI [PyData.int 0,PyData.int 1,PyData.int b1,PyData.int b2] M=some (.int m)/\0<=m/\m<=61:=by
      rcases(show M=0\/M=1\/M=2\/M=3 by lia) with rfl|rfl|rfl|rfl <;> exact⟨_,rfl,by lia,by lia⟩
     row_cond go
     have N:ps.length<=301:=by lia
     refine abo (λi e=>∃ u l v o g ps,e=[some (.io ODk),some (.st (.int n)),some (.st (.list (row.map .int))),some (.st (.int kind)),some (.own (OT (kE ps))),u,l,v,o,g]/\InN n ps/\ps.length<=301) ⟨_,_,_,_,_,ps,rfl,d,N⟩ ?_ ?_
     ·rintro i e hi b
      refine exS6 e b λu l v o g ps a=>?_
      have d:=a.1
      have z:=a.2
      clear a b
      iterate 3 row_cond st
      refine a1w (.inl rfl) ?_
      row_cond go
      cases hps:ps with
      | nil =>
       refine adp ?_
       row_cond go
       exact⟨_,_,_,_,_,[],rfl,(λp y=>by cases y),by simp⟩
      | cons p0 pr =>
       have a7:0<ps.length:=by rw[hps];simp
       rw[← hps]
       rw[aF5 (show(!(kE ps).isEmpty)=true by rw[hps];rfl)]
       refine am8 (aba ?_)
       refine av9 (.inl rfl) ?_
       refine aw3 ?_
       refine abu (aga (.inl rfl) λqs y hs=>ac0 ?_)
       refine akn rfl ?_
       refine am5 (ay3 (.inl rfl) ?_)
       row_cond go
       rw[aec]
       refine⟨_,rfl,rfl,by lia,by lia,λr ra rb=>?_⟩
       obtain⟨q,hq⟩:∃ q,qs[r.toNat]?=some q:=⟨_,aA0 (show r.toNat<qs.length by rw[y.length_eq];lia)⟩
       have eq:atI (qs.map prD) r=some (prD q):=ab5 ra (by rw[aA5,hq];rfl)
       obtain⟨j,hj⟩:=aD3 (y.mem_iff.mp (aA2 hq))
       row_cond go
       refine⟨kE ps,[Sum.inl q.1,Sum.inl q.2],j,.bool true,rfl,rfl,by unfold kE;rw[aA5,hj];rfl,?_⟩
       dsimp only[List.set_cons_zero,List.set_cons_succ]
       row_cond go
       exact⟨_,_,_,_,_,ps.eraseIdx j,by rw[show(kE ps).eraseIdx j=kE (ps.eraseIdx j) from ag3 _ _ _],λp y=>d p ((List.eraseIdx_sublist ps j).mem y),aD0 (List.length_eraseIdx_le ps j) z⟩
     ·rintro e b
      refine exS6 e b λu l v o g ps a=>?_
      have d:=a.1
      have z:=a.2
      clear a b
      iterate 6 row_cond st
      refine abu (aga (.inl rfl) λqs y hs=>ac0 ?_)
      row_cond go
      exact k n qs Z Y (λp a5=>d p (y.mem_iff.mp a5)) (by rw[y.length_eq];lia)
end
structure FarD(n:Int)(f:Int->Option Nat)(es:List (Key × PyData)):Prop where
 mem:∀ k d,(k,d)∈es->∃(v:Int)(j:Nat),k=.inl v/\d=.int (j:Int)/\0<=v/\v<n/\f v=some j
 all:∀(v:Int)(j:Nat),f v=some j->((.inl v:Key),PyData.int (j:Int))∈es
 nd:(es.map (·.1)).Nodup
 len:es.length+cnt f n.toNat=n.toNat
theorem FarD.val{n:Int}{f:Int->Option Nat}{es:List (Key × PyData)}(h:FarD n f es)(v:Int):valD es (.inl v)=(f v).map λj=>.int (j:Int):=by
 unfold valD
 cases e:es.find? λe=>decide (e.1=(.inl v:Key)) with
 | none =>
  rw[List.find?_eq_none] at e
  cases hf:f v with
  |none=>rfl
  |some j=>exact absurd (aD8 rfl) (e _ (h.all v j hf))
 | some p =>
  obtain⟨k,d⟩:=p
  have g:k=.inl v:=by simpa using List.find?_some e
  obtain⟨u,j,a,c,_,_,b⟩:=h.mem k d (List.mem_of_find?_eq_some e)
  rw[g] at a
  cases a
  rw[b,c]
  rfl
theorem awl(n:Nat):cnt (λ_=>none) n=n:=by
 induction n with
 |zero=>rfl
 |succ n ih=>unfold cnt;rw[ih,aF5 rfl]
theorem FarD.start{n a:Int}(a0:0<=a)(c:a<n):FarD n (Gr.label (λ_=>none) a 0) [(.inl a,.int 0)]:=by
 refine⟨λk d hm=>?_,λv j b=>?_,by simp,?_⟩
 ·have:(k,d)=((.inl a:Key),PyData.int 0):=by simpa using hm
  cases this
  exact⟨a,0,rfl,rfl,a0,c,Gr.label_same⟩
 ·by_cases e:v=a
  ·subst e
   rw[Gr.label_same] at b
   cases b
   exact aC2.mpr rfl
  ·rw[Gr.label_ne e] at b
   cases b
 ·have f:=aeb (far:=λ_=>none) (d:=0) a0 rfl (n:=n.toNat) (by lia)
  have g:=awl n.toNat
  simp only[aE4,aJ0]
  lia
theorem FarD.put{n v:Int}{f:Int->Option Nat}{es:List (Key × PyData)}{j:Nat}(h:FarD n f es)(v0:0<=v)(A:v<n)(q:f v=none):FarD n (Gr.label f v j) (putD es (.inl v) (.int (j:Int))):=by
 have a:∀ p∈es,p.1 ≠ (.inl v:Key):=λp c e=>by
  obtain⟨u,i,b,_,_,_,m⟩:=h.mem p.1 p.2 c
  rw[e] at b
  cases b
  rw[q] at m
  cases m
 have g:putD es (.inl v) (.int (j:Int))=es++[(.inl v,.int (j:Int))]:=by
  unfold putD
  rw[aF6]
  rw[aF3]
  rintro⟨p,c,e⟩
  exact a p c (by simpa using e)
 rw[g]
 refine⟨λk d hm=>?_,λu i l=>?_,?_,?_⟩
 ·rcases aA7.mp hm with hm|hm
  ·obtain⟨u,i,b,r,m,s,w⟩:=h.mem k d hm
   have o:u ≠ v:=λe=>a (k,d) hm (by rw[← e];exact b)
   exact⟨u,i,b,r,m,s,by rw[Gr.label_ne o];exact w⟩
  ·have:(k,d)=((.inl v:Key),PyData.int (j:Int)):=by simpa using hm
   cases this
   exact⟨v,j,rfl,rfl,v0,A,Gr.label_same⟩
 ·by_cases e:u=v
  ·subst e
   rw[Gr.label_same] at l
   cases l
   exact aB3 _ (aC2.mpr rfl)
  ·rw[Gr.label_ne e] at l
   exact aC7 _ (h.all u i l)
 ·rw[aE3,aE7]
  refine⟨h.nd,by simp,λx z y B=>?_⟩
  obtain⟨p,c,rfl⟩:=aB7.mp z
  have:y=.inl v:=by simpa using B
  rw[this]
  exact a p c
 ·have b:=aeb (d:=j) v0 q (n:=n.toNat) (by lia)
  have r:=h.len
  rw[aB1]
  simp only[aE4,aJ0]
  lia
theorem FarD.ne{n:Int}{f:Int->Option Nat}{es:List (Key × PyData)}(h:FarD n f es){v:Int}{j:Nat}(a:f v=some j):es ≠ []:=λe=>by
 have:=h.all v j a
 rw[e] at this
 cases this
theorem FarD.congr{n:Int}{f g:Int->Option Nat}{es:List (Key × PyData)}(h:FarD n f es)(e:∀ v,f v=g v):FarD n g es:=by
 have:f=g:=funext e
 rw[← this]
 exact h
theorem alx:∀(ns:List Int),aat (.list (ns.map .int))=true
 |[]=>rfl
 |a::ns=>by have:=alx ns;simp only[aat,aD1,plainDs] at *;simp[this]
theorem a2e(ns:List Int):(PyData.list (ns.map .int)).depth<=60:=by
 have:PyData.depthAll (ns.map .int)<=1:=ad3 λd hd=>by
  obtain⟨_,_,rfl⟩:=aB7.mp hd
  simp[PyData.depth]
 simp only[PyData.depth]
 lia
theorem azp(ns:List Int):PyData.eqv (.list (ns.map .int)) (.list [])=ns.isEmpty:=by cases ns <;> rfl
structure FarsD(n:Int)(es:List (Int × Int))(ess:List (List (Key × PyData))):Prop where
 len:(ess.length:Int)=n
 row:∀(v:Int) fs,0<=v->ess[v.toNat]?=some fs->FarD n (Gr.farO (Tied es) v) fs
def azq:VP:=λss Q=>∃(n:Int)(es:List (Int × Int)),ss=[.st (webD n es)]/\0<=n/\n<=100/\InN n es/\es.length<=10000/\∀ tl,TiedL n (Tied es) tl->(∀ us∈tl,us.length<=20000)->Q (.own (ODL (tlD tl)))
def azr:VP:=λss Q=>∃(n:Int)(es:List (Int × Int)),ss=[.st (webD n es)]/\1<=n/\n<=100/\InN n es/\es.length<=10000/\∀ ess,FarsD n es ess->Q (.own (OL (ess.map abg)))
section
variable{P:Program}{w:World}{K:Frag}{mg:Str->Option Value}{base:Heap}
theorem sc_law_tied:FnScope ["web","found","a","b"] ["web"] (aap s_law_tied):=by row_cond sc
theorem ag4(T:Txt K mg):Can P w K mg base "_law_tied" 1 ["web"] (spP K (azq)):=by
 obtain⟨f,fd,D⟩:=T.d_law_tied
 refine D.can (D.fn.ok sc_law_tied (λvs H Q E h=>lenP h λss U q=>by obtain⟨n,es,rfl,R,M,o,y,k⟩:=q;rfl) (λcdv A outer s H vs Q E L h=>?_))
 have nd:=sc_law_tied.nd
 refine⟨_,(aad (aaj (i:=1) nd rfl (Or.inl rfl) (abk (arm rfl) (by rfl) T.b_dict ao9 (aaa (adn rfl (N:=["place"]) (src:=[none]) (by exact abe rfl rfl rfl rfl rfl rfl) (aa8 rfl T.b_range (aaa (aal aam (pv 0) aac (λ_ _=>rfl)) aab)) (λ_ _ _ _=>(aan (i:=0) (show List.Nodup (["place"]:List Str) by decide +kernel) rfl (Or.inl rfl) (hf:=Or.inr rfl))) (λ_ _ _ _=>aa9) (λ_ _ _ _=>(abf (aaa (pv 0) (aaa (aaw aab) aab))))) aab)))
  (aad (abd aJ8 rfl (aa5 (aal aam (pv 0) aac (λ_ _=>rfl))) (afj rfl (aby (aan (i:=2) nd rfl (Or.inl rfl)) (aby (aan (i:=3) nd rfl (Or.inl rfl)) aei)))
   (aad (ab1 (adl PySem.F.plainAttrs_list PySem.F.slot_list_append PySem.F.type_list_append abt (ahd (acy L) (pv 1) (pv 2) (λ_ _=>rfl)) (aaa (pv 3) aab)))
    (aah (ab1 (adl PySem.F.plainAttrs_list PySem.F.slot_list_append PySem.F.type_list_append abt (ahd (acy L) (pv 1) (pv 3) (λ_ _=>rfl)) (aaa (pv 2) aab))))))
  (aah (aau (pv 1))))),?_⟩
 refine abz h λss U q B W=>?_
 refine exS2 ss q λn es c=>?_
 have R:=c.1
 have M:=c.2.1
 have o:=c.2.2.1
 have y:=c.2.2.2.1
 have k:=c.2.2.2.2
 clear c q
 show EvS B _ _ [some (.st (webD n es)),none,none,none]
 row_cond go
 refine at8 ?_
 row_cond go
 refine⟨n.toNat,rfl,by lia,?_⟩
 row_cond go
 refine acw (λi e=>∃ C J tl,e=[some (.st (webD n es)),some (.own (ODL (tlD tl))),C,J]/\TiedL n (Tied (es.take i)) tl/\∀ g∈tl,g.length<=2 * i)
  ⟨none,none,List.replicate n.toNat [],by simp[tlD],⟨by simp;lia,λi g hi w=>?_⟩,λg S=>?_⟩ ?_ ?_
 ·rw[aH7] at hi
  split at hi
  ·cases hi;simp[Tied]
  ·cases hi
 ·have:=List.eq_of_mem_replicate S
  subst this;simp
 ·rintro i ⟨a,b⟩ e z m
  refine exS3 e m λC J tl c=>?_
  have r:=c.1
  have l:=c.2
  clear c m
  have hi:i<es.length:=(aA1.mp z).1
  obtain⟨a0,G,b0,x⟩:=o _ (aA2 z)
  dsimp only at a0 G b0 x
  row_cond go
  obtain⟨g,j,_⟩:=r.get a0 G
  have O:=l g (aA2 j)
  refine ai3 (n:=a.toNat) (ds:=g.map .int) rfl rfl rfl (by lia) (adi j) (by rw[aA3];lia) ?_
  dsimp only[List.set_cons_zero,List.set_cons_succ]
  have I:=r.put (q:=b) a0 G j
  rw[show g.map PyData.int++[.int b]=(g++[b]).map .int by simp,ahp]
  have d:∀ us∈tl.set a.toNat (g++[b]),us.length<=2 * i+1:=λus p=>by
   rcases List.mem_or_eq_of_mem_set p with h|h
   ·have:=l us h;lia
   ·subst h;simp;lia
  generalize tl.set a.toNat (g++[b])=tl2 at I d
  row_cond go
  obtain⟨g,j,_⟩:=I.get b0 x
  have O:=d g (aA2 j)
  refine ai3 (n:=b.toNat) (ds:=g.map .int) rfl rfl rfl (by lia) (adi j) (by rw[aA3];lia) ?_
  dsimp only[List.set_cons_zero,List.set_cons_succ]
  rw[show g.map PyData.int++[.int a]=(g++[a]).map .int by simp,ahp]
  refine⟨_,_,_,rfl,(I.put (q:=a) b0 x j).iff λu v=>(Tied.snoc z u v).symm,λus p=>?_⟩
  rcases List.mem_or_eq_of_mem_set p with h|h
  ·have:=d us h;lia
  ·subst h;simp;lia
 ·rintro e m
  refine exS3 e m λC J tl c=>?_
  have r:=c.1
  have l:=c.2
  clear c m
  rw[aG8] at r
  row_cond go
  exact k tl r λus p=>by have:=l us p;lia
theorem sc_law_fars:FnScope ["web","tied","table","place","found","ring","far","later","one","other"] ["web"] (aap s_law_fars):=by row_cond sc
theorem ae1 (T:Txt K mg):Can P w K mg base "_law_fars" 2 ["web"] (spP K (azr)):=by
 obtain⟨f,fd,D⟩:=T.d_law_fars
 refine D.can (D.fn.ok sc_law_fars (λvs H Q E h=>lenP h λss Q' q=>by obtain⟨n,es,rfl,n0,n1,N,a2,k⟩:=q;rfl) (λcdv A outer s H vs Q E hr h=>?_))
 have nd:=sc_law_fars.nd
 refine ⟨_,(aad (aaj (i:=1) nd rfl (Or.inl rfl) (aag (ag4 T) hr (aaa (pv 0) aab)))
  (aad (aaj (i:=2) nd rfl (Or.inl rfl) (aaw aab))
  (aad (abd aJ8 rfl (aa8 rfl T.b_range (aaa (aal aam (pv 0) aac (λ_ _=>rfl)) aab)) (aan (i:=3) nd rfl (Or.inl rfl))
   (aad (aaj (i:=4) nd rfl (Or.inl rfl) (axo (auy (pv 3) aac axn) rfl rfl (by simp) (by decide)))
    (aad (aaj (i:=5) nd rfl (Or.inl rfl) (aaw (aaa (pv 3) aab)))
    (aad (aaj (i:=6) nd rfl (Or.inl rfl) aac)
    (aad (al3 aJ8 (aay (as8 hr.units) (pv 5) (aaw aab) (aav _))
     (aad (aaj (i:=6) nd rfl (Or.inl rfl) (aar aa7 (pv 6) aac))
      (aad (aaj (i:=7) nd rfl (Or.inl rfl) (aaw aab))
      (aad (abd aJ8 rfl (aa5 (pv 5)) (aan (i:=8) nd rfl (Or.inl rfl))
       (aah (abd aJ8 rfl (aa5 (ahd (acy hr) (pv 1) (pv 8) (λ_ _=>rfl))) (aan (i:=9) nd rfl (Or.inl rfl))
         (aah (aa6 (ar6 (aka (acy hr) (pv 9) (pv 4)))
           (aad (afq (acy hr) (pv 4) (pv 9) (pv 6) rfl)
            (aah (ab1 (adl PySem.F.plainAttrs_list PySem.F.slot_list_append PySem.F.type_list_append abt (pv 7) (aaa (pv 9) aab)))))
           aax)))))
      (aah (aaj (i:=5) nd rfl (Or.inl rfl) (pv 7)))))))
    (aah (ab1 (adl PySem.F.plainAttrs_list PySem.F.slot_list_append PySem.F.type_list_append abt (pv 2) (aaa (pv 4) aab)))))))))
  (aah (aau (pv 2)))))),?_⟩
 refine abz h λss Q' q B hK=>?_
 refine exS2 ss q λn es b=>?_
 have n0:=b.1
 have n1:=b.2.1
 have N:=b.2.2.1
 have a2:=b.2.2.2.1
 have k:=b.2.2.2.2
 clear b q
 show EvS B _ _ [some (.st (webD n es)),none,none,none,none,none,none,none,none,none]
 row_cond go
 refine⟨n,es,rfl,by lia,n1,N,a2,λtl ht _=>acm ap3 ?_⟩
 have hT:∀ u v:Int,Tied es u v->0<=v/\v<n:=λu v h=>(h.in N).2
 have a8:(tlD tl).map PyData.list ≠ []:=λe=>by
  have:=ht.1
  have h2:=congrArg List.length e
  simp[tlD] at h2
  rw[h2] at this
  simp at this
  lia
 have W:∀ p:Int,0<=p->p<n->∃ X:List Int,valD (kvD ((tlD tl).map PyData.list)) (.inl p)=some (.list (X.map .int))/\∀ u,u∈X ↔ Tied es p u:=λp p0 p1=>by
  obtain⟨X,O,hw⟩:=ht.get p0 p1
  exact⟨X,ap2 p0 (by rw[aA5,adi O];rfl),hw⟩
 row_cond go
 refine abo (λi e=>∃ ess v3 v4 v5 v6 Y C y,e=[some (.st (webD n es)),some (.st (abg (kvD ((tlD tl).map PyData.list)))),some (.own (OL (List.map abg ess))),v3,v4,v5,v6,Y,C,y]/\ess.length=i/\∀(v:Int) fs,0<=v->ess[v.toNat]?=some fs->FarD n (Gr.farO (Tied es) v) fs) ⟨[],_,_,_,_,_,_,_,rfl,rfl,λv fs _ h=>by simp at h⟩ ?_ ?_
 ·rintro i e hi g
  refine exS8 e g λess v3 v4 v5 v6 Y C y b=>?_
  have S:=b.1
  have I:=b.2
  clear b g
  obtain⟨a,ha,a0,a1⟩:∃ a:Int,a=0+(i:Int)/\0<=a/\a<n:=⟨_,rfl,by lia,by lia⟩
  rw[← ha]
  row_cond go
  refine atv rfl ?_
  row_cond go
  refine aho 5 rfl acb ?_
  dsimp only[List.set_cons_zero,List.set_cons_succ]
  refine aki (λm e=>∃ Y C y far fe edge J,e=[some (.st (webD n es)),some (.st (abg (kvD ((tlD tl).map PyData.list)))),some (.own (OL (List.map abg ess))),some (.st (.int a)),some (.own (OD fe)),some (.st (.list (edge.map .int))),some (.st (.int ((J:Nat):Int))),Y,C,y]/\Gr.Ring (Tied es) a J far edge/\FarD n far fe/\(∀ v∈edge,0<=v/\v<n)/\m=2 * cnt far n.toNat+(if edge=[] then 0 else 1))
   ⟨_,_,_,_,_,_,[a],0,rfl,Gr.Ring.start,FarD.start a0 a1,λv z=>by simp at z;subst z;exact⟨a0,a1⟩,rfl⟩ ?_
  rintro m e g
  refine exS7 e g λY C y far fe edge J b=>?_
  have hR:=b.1
  have hF:=b.2.1
  have hb:=b.2.2.1
  have a4:=b.2.2.2
  clear b g
  subst a4
  row_cond go
  refine apo (alx _) rfl (a2e _) ?_
  rw[azp]
  cases hedge:edge with
  | nil =>
   subst hedge
   row_cond go
   rw[aF6 (show ¬ ((!([]:List Int).isEmpty)=true) from aB0)]
   row_cond go
   refine⟨_,rfl,by rw[aA3];lia,?_⟩
   refine⟨ess++[fe],_,_,_,_,_,_,_,by rw[aE3];rfl,by rw[aB1,S];rfl,λv fs v0 z=>?_⟩
   by_cases hvi:v.toNat<i
   ·rw[aC3 (by lia)] at z
    exact I v fs v0 z
   ·have a5:=(aA1.mp z).1
    simp at a5
    have a6:v.toNat=i:=by lia
    rw[a6,aC8 (by lia),S,aI7] at z
    cases z
    rw[show v=a by lia]
    exact hF.congr hR.fin
  | cons e0 er =>
   rw[← hedge]
   have Z:edge ≠ []:=by rw[hedge];simp
   row_cond go
   rw[aF5 (show(!edge.isEmpty)=true by rw[hedge];rfl)]
   row_cond go
   refine acw (λi e=>∃ C y c l beyond,e=[some (.st (webD n es)),some (.st (abg (kvD ((tlD tl).map PyData.list)))),some (.own (OL (List.map abg ess))),some (.st (.int a)),some (.own (OD l)),some (.st (.list (edge.map .int))),some (.st (.int ((J:Int)+1))),some (.own (OL (beyond.map .int))),C,y]/\Gr.Mid (Tied es) J far edge (λu=>u∈edge.take i) c beyond/\FarD n c l/\cnt c n.toNat+beyond.length=cnt far n.toNat/\∀ v∈beyond,0<=v/\v<n)
    ⟨C,y,far,fe,[],rfl,Gr.Mid.start.imp λu R=>by simp at R,hF,rfl,λv z=>by simp at z⟩ ?_ ?_
   ·rintro i p e hp g
    refine exS5 e g λC y c l beyond b=>?_
    have M:=b.1
    have o:=b.2.1
    have L:=b.2.2.1
    have r:=b.2.2.2
    clear b g
    have a3:=aA2 hp
    obtain⟨p0,p1⟩:=hb p a3
    obtain⟨X,O,hw⟩:=W p p0 p1
    row_cond go
    refine adz ?_
    row_cond go
    refine⟨kvD ((tlD tl).map PyData.list),.inl p,_,rfl,anm a8,rfl,O,?_⟩
    row_cond go
    refine acw (λj e=>∃ y c l beyond,e=[some (.st (webD n es)),some (.st (abg (kvD ((tlD tl).map PyData.list)))),some (.own (OL (List.map abg ess))),some (.st (.int a)),some (.own (OD l)),some (.st (.list (edge.map .int))),some (.st (.int ((J:Int)+1))),some (.own (OL (beyond.map .int))),some (.st (.int p)),y]/\Gr.Mid (Tied es) J far edge (λu=>u∈edge.take i) c beyond/\FarD n c l/\cnt c n.toNat+beyond.length=cnt far n.toNat/\(∀ v∈beyond,0<=v/\v<n)/\∀ x∈X.take j,c x ≠ none)
     ⟨y,c,l,beyond,rfl,M,o,L,r,λx U=>by simp at U⟩ ?_ ?_
    ·rintro j u e R g
     refine exS4 e g λy c l beyond b=>?_
     have M:=b.1
     have o:=b.2.1
     have L:=b.2.2.1
     have r:=b.2.2.2.1
     have G:=b.2.2.2.2
     clear b g
     have tu:Tied es p u:=(hw u).mp (aA2 R)
     obtain⟨u0,u1⟩:=hT _ _ tu
     have a9:=o.val u
     have b1:=o.len
     have b2:l.length<=999999:=by lia
     row_cond go
     rw[a9]
     cases hf:c u with
     | none =>
      rw[aF5 (show(!((none:Option Nat).map λ(j:Nat)=>PyData.int (j:Int)).isSome)=true from rfl)]
      have b3:=aeb (d:=J+1) u0 hf (n:=n.toNat) (by lia)
      have a7:∀ m,cnt far m<=m:=λm=>by
       induction m with
       |zero=>exact aA6 _
       |succ m ih=>unfold cnt;split <;> lia
      have:=a7 n.toNat
      row_cond go
      refine⟨some (.st (.int u)),Gr.label c u (J+1),_,beyond++[u],by simp,M.add a3 tu hf,o.put u0 u1 hf,by simp;lia,λv z=>?_,λx U=>?_⟩
      ·rcases aA7.mp z with h|h
       ·exact r v h
       ·have:v=u:=by simpa using h
        subst this;exact⟨u0,u1⟩
      ·by_cases hx2:x=u
       ·subst hx2;rw[Gr.label_same];simp
       ·rw[Gr.label_ne hx2]
        rcases ab7 R U with h|h
        ·exact G x h
        ·exact absurd h hx2
     | some d =>
      rw[aF6 (show ¬ ((!((some d:Option Nat).map λ(j:Nat)=>PyData.int (j:Int)).isSome)=true) from aB0)]
      row_cond go
      refine⟨_,c,l,beyond,rfl,M,o,L,r,λx U=>?_⟩
      rcases ab7 R U with h|h
      ·exact G x h
      ·subst h;rw[hf];simp
    ·rintro e g
     refine exS4 e g λy c l beyond b=>?_
     have M:=b.1
     have o:=b.2.1
     have L:=b.2.2.1
     have r:=b.2.2.2.1
     have G:=b.2.2.2.2
     clear b g
     rw[aG8] at G
     refine⟨_,_,c,l,beyond,rfl,?_,o,L,r⟩
     refine(M.did (u:=p) λx tx=>G x ((hw x).mpr tx)).imp λx U=>?_
     exact ab7 hp U
   ·rintro e g
    refine exS5 e g λC y c l beyond b=>?_
    have M:=b.1
    have o:=b.2.1
    have L:=b.2.2.1
    have r:=b.2.2.2
    clear b g
    row_cond go
    refine⟨_,?_,_,_,_,c,l,beyond,J+1,rfl,hR.next M λu R=>by rw[aG8];exact R,o,r,rfl⟩
    rw[aF6 Z]
    cases beyond with
    |nil=>rw[aF5 rfl];simp at L;lia
    |cons b0 br=>rw[aF6 (by simp)];simp at L;lia
 ·rintro e g
  refine exS8 e g λess v3 v4 v5 v6 Y C y b=>?_
  have S:=b.1
  have I:=b.2
  clear b g
  row_cond go
  exact k ess ⟨by lia,I⟩
end
theorem addAll_mem{p:Int × Int}:∀{es ps:List (Int × Int)},p∈es.foldl addP ps ↔ p∈ps\/p∈es
 |[],ps=>by simp
 | e::es,ps=>by
  rw[List.foldl_cons,addAll_mem,addP_mem,aA9,or_assoc]
theorem ai7:∀{es ps:List (Int × Int)},(es.foldl addP ps).length<=ps.length+es.length
 |[],_=>aA6 _
 | e::es,ps=>by
  rw[List.foldl_cons,aE4]
  have a:=ai7 (es:=es) (ps:=addP ps e)
  have b:=aez (ps:=ps) (p:=e)
  lia
theorem aup{T U:Int->Int->Prop}(h:∀ u v,T u v->U u v){a v:Int}{d:Nat}(w:Gr.Walk T a d v):Gr.Walk U a d v:=by
 induction w with
 |refl=>exact .refl
 |step _ t ih=>exact .step ih (h _ _ t)
def azs:VIo:=λA ss Q=>A=ODk/\ss=[]/\∀(n:Int)(es:List (Int × Int)),1<=n->n<=60->InN n es->es.length<=2000->aey n es->Q ODk (.st (webD n es))
section
variable{P:Program}{w:World}{K:Frag}{mg:Str->Option Value}{base:Heap}
theorem sc_law_joined_web:FnScope ["deck","n","ties","fars","more","place"] ["deck"] (aap s_law_joined_web):=by row_cond sc
theorem aef(T:Txt K mg):Can P w K mg base "_law_joined_web" 5 ["deck"] (spI K (azs)):=by
 obtain⟨f,fd,D⟩:=T.d_law_joined_web
 refine D.can (D.fn.ok sc_law_joined_web (λvs H Q E h=>lenI h λA ss Z q=>by obtain⟨rfl,rfl,k⟩:=q;rfl) (λcdv A outer s H vs Q E m h=>?_))
 have nd:=sc_law_joined_web.nd
 refine⟨_,(aad (act (aag (aov T) m (aaa (pv 0) aab)) (afj rfl (aby (aan (i:=1) nd rfl (Or.inl rfl)) (aby (aan (i:=2) nd rfl (Or.inl rfl)) aei))))
  (aad (aaj (i:=3) nd rfl (Or.inl rfl) (aag (ae1 T) m (aaa (abf (aaa (pv 1) (aaa (pv 2) aab))) aab)))
  (aad (aaj (i:=4) nd rfl (Or.inl rfl) (abk (arp rfl m.units) (by rfl) T.b_dict ao9 (aaa (adn rfl (N:=["tie"]) (src:=[none]) (by exact abe rfl rfl rfl rfl rfl rfl) (aa5 (pv 2)) (λ_ _ _ _=>(aan (i:=0) (show List.Nodup (["tie"]:List Str) by decide +kernel) rfl (Or.inl rfl) (hf:=Or.inr rfl))) (λ_ _ _ _=>aa9) (λ_ _ _ _=>(abf (aaa (pv 0) (aaa acn aab))))) aab)))
  (aad (abd aJ8 rfl (ad6 rfl T.b_range (aaa aac (aaa (pv 1) aab))) (aan (i:=5) nd rfl (Or.inl rfl))
   (aah (aa6 (ar6 (aka (acy m) (pv 5) (aal aam (pv 3) aac (λ_ _=>rfl))))
     (aah (afq (acy m) (pv 4) (abf (aaa aac (aaa (pv 5) aab))) acn rfl))
     aax)))
  (aah (aau (abf (aaa (pv 1) (aaa (aak (afg rfl) (by rfl) T.b_sorted ad8 (aaa (pv 4) aab)) aab))))))))),?_⟩
 refine air h λA0 ss Z q B hK=>?_
 obtain⟨rfl,rfl,k⟩:=q
 show EvS B _ _ [some (.io ODk),none,none,none,none,none]
 row_cond go
 refine⟨rfl,rfl,λn es L O o R=>?_⟩
 row_cond go
 refine⟨n,es,rfl,L,by lia,o,by lia,λess l=>acm acb ?_⟩
 obtain⟨fs,y⟩:∃ fs,ess[(0:Int).toNat]?=some fs:=⟨_,aA0 (by have:=l.len;simp;lia)⟩
 have M:=l.row 0 fs (by lia) y
 have Y:atI (ess.map abg) 0=some (abg fs):=acx (f:=abg) (ab5 (by lia) y)
 have J:fs ≠ []:=M.ne (Gr.farO_self (T:=Tied es) (a:=0))
 row_cond go
 refine aua ?_
 row_cond go
 refine⟨es,rfl,by lia,?_⟩
 row_cond go
 refine abo (λi e=>∃ G ps,e=[some (.io ODk),some (.st (.int n)),some (.st (.list (es.map prD))),some (.st (.list (ess.map abg))),some (.own (OT (kE ps))),G]/\InN n ps/\ps.length<=1900+i/\(∀ p∈es,p∈ps)/\∀ v:Int,1<=v->v<1+(i:Int)->Gr.farO (Tied es) 0 v=none->(0,v)∈ps)
  ⟨_,_,rfl,λp g=>o p ((addAll_mem.mp g).resolve_left (by simp)),by have:=ai7 (es:=es) (ps:=[]);simp at this;lia,λp g=>addAll_mem.mpr (.inr g),λv h1 h2=>by lia⟩ ?_ ?_
 ·rintro i e hi j
  refine exS2 e j λG ps b=>?_
  have C:=b.1
  have hL:=b.2.1
  have x:=b.2.2.1
  have c:=b.2.2.2
  clear b j
  have X:(kE ps).length<=999999:=by rw[aec];lia
  have F:1+(i:Int)<n:=by lia
  row_cond go
  refine ark ?_
  row_cond go
  refine⟨fs,.inl (1+(i:Int)),rfl,J,rfl,?_⟩
  rw[M.val]
  row_cond go
  cases hf:Gr.farO (Tied es) 0 (1+(i:Int)) with
  | none =>
   refine acl ?_
   row_cond go
   rw[agx]
   refine⟨_,_,rfl,ahu C (by lia) (by lia) (by lia) F,by have:=aez (ps:=ps) (p:=(0,1+(i:Int)));lia,λp g=>addP_mem.mpr (.inl (x p g)),λv z U r=>addP_mem.mpr ?_⟩
   by_cases hvi:v=1+(i:Int)
   ·exact .inr (by rw[hvi])
   ·exact .inl (c v z (by lia) r)
  | some d =>
   refine adp ?_
   row_cond go
   refine⟨_,_,rfl,C,by lia,x,λv z U r=>?_⟩
   by_cases hvi:v=1+(i:Int)
   ·rw[hvi,hf] at r;cases r
   ·exact c v z (by lia) r
 ·rintro e j
  refine exS2 e j λG ps b=>?_
  have C:=b.1
  have hL:=b.2.1
  have x:=b.2.2.1
  have c:=b.2.2.2
  clear b j
  iterate 6 row_cond st
  refine abu (aga (.inl rfl) λqs g hs=>ac0 ?_)
  row_cond go
  have W:∀ u v,Tied es u v->Tied qs u v:=λu v h=>by
   rcases h with h|h
   ·exact .inl (g.mem_iff.mpr (x _ h))
   ·exact .inr (g.mem_iff.mpr (x _ h))
  refine k n qs L O (λp I=>C p (g.mem_iff.mp I)) (by rw[g.length_eq];lia) λv v0 z=>?_
  cases hf:Gr.farO (Tied es) 0 v with
  | some d =>
   obtain⟨S,_⟩:=Gr.farO_some.mp hf
   obtain⟨d',_,hd⟩:=Gr.Dist.of_walk (aup W S)
   exact⟨d',hd⟩
  | none =>
   by_cases hv0:v=0
   ·rw[hv0];exact⟨0,Gr.Dist.self _ _⟩
   ·have:=c v (by lia) (by lia) hf
    obtain⟨d',_,hd⟩:=Gr.Dist.of_walk (.step .refl (show Tied qs 0 v from .inl (g.mem_iff.mpr this)))
    exact⟨d',hd⟩
end
@[reducible] def plD (ps:List Int):PyData:=.list (ps.map .int)
def nAt(rows:List (List Int))(a b:Int):Int:=(rows.getD a.toNat []).getD b.toNat 0
def abx(n:Int)(rows:List (List Int)):Prop:=(rows.length:Int)=n/\∀ r∈rows,(r.length:Int)=n
def ag5(n:Int)(es:List (Int × Int))(d:Int)(rows:List (List Int)):Prop:=abx n rows/\∀ a b:Int,0<=a->a<n->0<=b->b<n->abp (Tied es) d (nAt rows) a b
def awm:VP:=λss Q=>∃(n d:Int)(es:List (Int × Int))(rows:List (List Int)),ss=[.st (webD n es),.st (.int d),.st (.list (rows.map plD))]/\1<=n/\n<=60/\InN n es/\es.length<=10000/\rows.length<=100/\(∀ r∈rows,r.length<=100)/\∀ bb:Bool,(bb=true ↔ ag5 n es d rows)->Q (.st (.bool bb))
def azt:VP:=λss Q=>∃(n:Int)(es:List (Int × Int)),ss=[.st (webD n es)]/\1<=n/\n<=60/\InN n es/\es.length<=10000/\∀ rows:List (List Int),abx n rows->(∀ r∈rows,∀ x∈r,0<=x)->Q (.own (OL (rows.map plD)))
theorem awn(ps:List Int)(u:Int):((ps.map PyData.int).any λz=>PyData.eqv z (.int u))=decide (u∈ps):=by
 rw[aH8,aF3,decide_eq_true_iff]
 constructor
 ·rintro⟨d,hd,e⟩
  obtain⟨x,a,rfl⟩:=aB7.mp hd
  simp[PyData.eqv] at e
  exact e ▸ a
 ·intro h
  exact⟨.int u,aB7.mpr ⟨u,h,rfl⟩,by simp[PyData.eqv]⟩
theorem plP(rs:List (List Int)):aat (.list (rs.map plD))=true:=(afe _).mpr λd hd=>by
 obtain⟨x,_,rfl⟩:=aB7.mp hd
 exact alx x
theorem ar0(rs:List (List Int)):(PyData.list (rs.map plD)).depth<=60:=by
 have h:PyData.depthAll (rs.map plD)<=2:=ad3 λd hd=>by
  obtain⟨x,_,rfl⟩:=aB7.mp hd
  have:PyData.depthAll (x.map PyData.int)<=1:=ad3 λd hd=>by
   obtain⟨y,_,rfl⟩:=aB7.mp hd
   simp[PyData.depth]
  simp only[PyData.depth]
  lia
 simp only[PyData.depth]
 lia
theorem a2f(rs:List (List Int)):PyData.eqv (.list (rs.map plD)) (.list [])=rs.isEmpty:=by cases rs <;> rfl
theorem ahv{n:Int}{c:List (List Int)}(h:abx n c){a:Int}(a0:0<=a)(g:a<n):∃ r,atI (c.map plD) a=some (plD r)/\∀ b:Int,0<=b->b<n->atI (r.map PyData.int) b=some (.int (nAt c a b)):=by
 have d:a.toNat<c.length:=by have:=h.1;lia
 refine⟨c[a.toNat],acx (ab5 a0 (aA0 d)),λb b0 j=>?_⟩
 have i:=h.2 _ (aF2 d)
 have hb:b.toNat<c[a.toNat].length:=by lia
 have f:nAt c a b=c[a.toNat][b.toNat]:=by
  unfold nAt
  rw[show c.getD a.toNat []=c[a.toNat] by rw[aD4,aA0 d];rfl,aD4,aA0 hb]
  rfl
 rw[f]
 exact acx (ab5 b0 (aA0 hb))
section
variable{P:Program}{w:World}{K:Frag}{mg:Str->Option Value}{base:Heap}
theorem sc_law_table:FnScope ["web"] ["web"] (aap s_law_table):=by row_cond sc
theorem agi(T:Txt K mg):Can P w K mg base "_law_table" 3 ["web"] (spP K (azt)):=by
 obtain⟨f,fd,D⟩:=T.d_law_table
 refine D.can (D.fn.ok sc_law_table (λvs H Q E h=>lenP h λss M q=>by obtain⟨n,es,rfl,C,G,o,p,F⟩:=q;rfl) (λcdv A outer s H vs Q E m h=>?_))
 have nd:=sc_law_table.nd
 refine⟨_,(aah (aau (a0a rfl (x0:="fars") (N:=["fars","web"]) (src:=[none,some 0]) (by exact au4 rfl (λ_ _=>rfl) (λ_=>rfl) rfl rfl rfl rfl rfl rfl) (aa5 (aag (ae1 T) m (aaa (pv 0) aab))) (λ_ _ _ _=>(aan (i:=0) (show List.Nodup (["fars","web"]:List Str) by decide +kernel) rfl (Or.inr rfl) (hf:=Or.inl rfl))) (λ_ _ _ _=>aa9) (λ_ _ _ _=>(adn rfl (N:=["b","fars"]) (src:=[none,some 0]) (by exact abe rfl rfl rfl rfl rfl rfl) (aa8 rfl T.b_range (aaa (aal (show IxR _ (ach K) from aam) (pv 1) aac (λ_ _=>rfl)) aab)) (λ_ _ _ _=>(aan (i:=0) (show List.Nodup (["b","fars"]:List Str) by decide +kernel) rfl (Or.inl rfl) (hf:=Or.inr rfl))) (λ_ _ _ _=>aa9) (λ_ _ _ _=>(auz (acy m) (pv 1) (pv 0) aac ⟨rfl,rfl,rfl,rfl⟩))))))),?_⟩
 refine abz h λss M q B R=>?_
 refine exS2 ss q λn es d=>?_
 have C:=d.1
 have G:=d.2.1
 have o:=d.2.2.1
 have p:=d.2.2.2.1
 have F:=d.2.2.2.2
 clear d q
 show EvS B _ _ [some (.st (webD n es))]
 row_cond go
 refine⟨n,es,rfl,C,by lia,o,p,λess l=>?_⟩
 have y:=l.len
 row_cond go
 refine acg (xs:=ess) (f:=abg) (λfs=>.list ((List.range n.toNat).map λb:Nat=>(valD fs (.inl (b:Int))).getD (.int 0))) rfl (by lia) (λfs c O S=>?_) ?_
 ·obtain⟨i,hi,rfl⟩:=aH6.mp c
  have u:=l.row (i:Int) ess[i] (by lia) (by rw[Int.toNat_natCast,aA0 hi])
  have z:ess[i] ≠ []:=u.ne (Gr.farO_self (T:=Tied es) (a:=(i:Int)))
  row_cond go
  refine apn (λb=>(valD ess[i] (.inl (alw b))).getD (.int 0)) rfl (by simp[rngD];lia) (λb hb I J=>?_) ?_
  ·obtain⟨j,_,rfl⟩:=aB7.mp hb
   refine auc ?_
   row_cond go
   refine⟨_,rfl,z,?_⟩
   row_cond go
   refine⟨.inl _,rfl,?_⟩
   row_cond go
   exact rfl
  ·refine⟨congrArg PyData.list ?_,rfl⟩
   unfold rngD
   rw[aD9]
   refine aE9 λb _=>?_
   simp only[Function.comp,alw,Int.zero_add]
 ·row_cond go
  obtain⟨g,v⟩:∃ g:List (Key × PyData)->List Int,∀ fs∈ess,(List.range n.toNat).map (λb:Nat=>(valD fs (.inl (b:Int))).getD (.int 0))=(g fs).map .int/\((g fs).length:Int)=n/\∀ x∈g fs,0<=x:=by
   refine⟨λfs=>(List.range n.toNat).map λb:Nat=>alw ((valD fs (.inl (b:Int))).getD (.int 0)),λfs c=>?_⟩
   obtain⟨i,hi,rfl⟩:=aH6.mp c
   have u:=l.row (i:Int) ess[i] (by lia) (by rw[Int.toNat_natCast,aA0 hi])
   refine⟨?_,by simp;lia,λx L=>?_⟩
   ·rw[aD9]
    refine aE9 λb _=>?_
    simp only[Function.comp,u.val]
    cases Gr.farO (Tied es) (i:Int) (b:Int) <;> rfl
   ·obtain⟨b,_,rfl⟩:=aB7.mp L
    rw[u.val]
    cases Gr.farO (Tied es) (i:Int) (b:Int) with
    |none=>exact Int.le_refl _
    |some j=>exact Int.natCast_nonneg _
  rw[show(ess.map λfs=>PyData.list ((List.range n.toNat).map λb:Nat=>(valD fs (.inl (b:Int))).getD (.int 0)))=(ess.map g).map plD by
   rw[aD9]
   exact aE9 λfs c=>congrArg PyData.list (v fs c).1]
  refine F (ess.map g) ⟨by rw[aA3];exact y,λr m=>?_⟩ λr m=>?_
  ·obtain⟨fs,c,rfl⟩:=aB7.mp m
   exact(v fs c).2.1
  ·obtain⟨fs,c,rfl⟩:=aB7.mp m
   exact(v fs c).2.2
theorem sc_law_shows:FnScope ["web","d","paper","n","tied","a","b","down"] ["web","d","paper"] (aap s_law_shows):=by row_cond sc
theorem ali(T:Txt K mg):Can P w K mg base "_law_shows" 2 ["web","d","paper"] (spP K (awm)):=by
 obtain⟨f,fd,D⟩:=T.d_law_shows
 refine D.can (D.fn.ok sc_law_shows (λvs H Q E h=>lenP h λss Q' q=>by obtain⟨n,d,es,c,rfl,n0,n1,I,Z,a4,a5,X⟩:=q;rfl) (λcdv A outer s H vs Q E J h=>?_))
 have nd:=sc_law_shows.nd
 refine⟨_,(aad (aaj (i:=3) nd rfl (Or.inr rfl) (aal aam (pv 0) aac (λ_ _=>rfl)))
  (aad (aa6 (PW.pt (aqj (aay afy (aak abl (by rfl) T.b_len aca (aaa (pv 2) aab)) (pv 3) (aav _)) (al1 (aay (as8 J.units) (adn rfl (N:=["row","n"]) (src:=[none,some 3]) (by exact abe rfl rfl rfl rfl rfl rfl) (aa5 (pv 2)) (λ_ _ _ _=>(aan (i:=0) (show List.Nodup (["row","n"]:List Str) by decide +kernel) rfl (Or.inl rfl) (hf:=Or.inr rfl))) (λ_ _ _ _=>axp (aay afy (aak (show aa2 _ (.builtin "len") (rLen K) from abl) (by rfl) T.b_len aca (aaa (pv 0) aab)) (pv 1) (aav _))) (λ_ _ _ _=>(pv 0))) (aaw aab) (aav _)))))
   (aah (aau acn))
   aax)
  (aad (aaj (i:=4) nd rfl (Or.inl rfl) (aag (ag4 T) J (aaa (pv 0) aab)))
  (aad (abd aJ8 rfl (aa8 rfl T.b_range (aaa (pv 3) aab)) (aan (i:=5) nd rfl (Or.inl rfl))
   (aah (abd aJ8 rfl (aa8 rfl T.b_range (aaa (pv 3) aab)) (aan (i:=6) nd rfl (Or.inr rfl))
     (aad (aa6 (PW.pt (agj (aay ab2 (pv 5) (pv 6) (aav _)) (afi (aay afy (aal aam (aal aam (pv 2) (pv 5) (λ_ _=>rfl)) (pv 6) (λ_ _=>rfl)) aac (aav _)))))
       (aah (aau acn))
       aax)
      (aad (aa6 (PW.pt (agj (aay afy (pv 5) (pv 6) (aav _)) (afi (adj (al6 ag9 ag9 aac (aal aam (aal aam (pv 2) (pv 5) (λ_ _=>rfl)) (pv 6) (λ_ _=>rfl)) (pv 1))))))
       (aah (aau acn))
       aax)
      (aad (aet (i:=7) nd rfl (Or.inl rfl) rfl (N:=["other","b","paper"]) (src:=[none,some 6,some 2]) (by exact abe rfl rfl rfl rfl rfl rfl) (aa5 (ahd (acy J) (pv 4) (pv 5) (λ_ _=>rfl))) (λ_ _ _ _=>(aan (i:=0) (show List.Nodup (["other","b","paper"]:List Str) by decide +kernel) rfl (Or.inl rfl) (hf:=Or.inr rfl))) (λ_ _ _ _=>aa9) (λ_ _ _ _=>(aal (show IxR _ (ach K) from aam) (aal (show IxR _ (ach K) from aam) (pv 2) (pv 0) (λ_ _=>rfl)) (pv 1) (λ_ _=>rfl))))
      (aah (aa6 (PW.pt (agj (aay afy (pv 5) (pv 6) (aav _)) (afi (aay (akg J.units) (aar ac9 (aal aam (aal aam (pv 2) (pv 5) (λ_ _=>rfl)) (pv 6) (λ_ _=>rfl)) aac) (pv 7) rfl))))
       (aah (aau acn))
       aax))))))))
  (aah (aau acn)))))),?_⟩
 refine abz h λss Q' q B hK=>?_
 refine exS4 ss q λn d es c g=>?_
 have n0:=g.1
 have n1:=g.2.1
 have I:=g.2.2.1
 have Z:=g.2.2.2.1
 have a4:=g.2.2.2.2.1
 have a5:=g.2.2.2.2.2.1
 have X:=g.2.2.2.2.2.2
 clear g q
 show EvS B _ _ [some (.st (webD n es)),some (.st (.int d)),some (.st (.list (c.map plD))),none,none,none,none,none]
 row_cond go
 have a2:(List.map plD c).length=c.length:=aA3 ..
 rw[a2]
 by_cases h:(c.length:Int)=n
 rotate_left
 ·rw[aF5 (show(!decide ((c.length:Int)=n))=true by rw[aD7 h];rfl)]
  row_cond go
  exact X false ⟨λe=>(by cases e),λe=>absurd e.1.1 h⟩
 rw[aF6 (show ¬ ((!decide ((c.length:Int)=n))=true) by rw[aD8 h];exact aB0)]
 row_cond go
 refine at3 (xs:=c) (f:=plD) plD (λr=>!decide ((r.length:Int)=n)) rfl (by lia) (λr J B' hB=>?_) ?_
 ·row_cond go
  refine⟨by rw[aA3],rfl,λ_=>?_⟩
  row_cond go
  exact rfl
 row_cond go
 refine apo (plP _) rfl (ar0 _) ?_
 rw[a2f]
 row_cond go
 by_cases hsq:∀ r∈c,(r.length:Int)=n
 rotate_left
 ·rw[aF5 (show(!(List.filter (λr:List Int=>!decide ((r.length:Int)=n)) c).isEmpty)=true from by
   cases hf:List.filter (λr:List Int=>!decide ((r.length:Int)=n)) c with
   |cons _ _=>rfl
   |nil=>exact absurd (λr J=>by simpa using List.filter_eq_nil_iff.mp hf r J) hsq)]
  row_cond go
  exact X false ⟨λe=>(by cases e),λe=>absurd e.1.2 hsq⟩
 rw[aF6 (show ¬ ((!(List.filter (λr:List Int=>!decide ((r.length:Int)=n)) c).isEmpty)=true) from by
   rw[List.filter_eq_nil_iff.mpr λr J=>by simpa using hsq r J]
   exact aB0)]
 have hS:abx n c:=⟨h,hsq⟩
 row_cond go
 refine⟨n,es,rfl,by lia,by lia,I,Z,λtl ht a3=>acm ap3 ?_⟩
 have Y:(tlD tl).map PyData.list ≠ []:=λe=>by
  have:=ht.1
  have F:=congrArg List.length e
  simp[tlD] at F
  rw[F] at this
  simp at this
  lia
 have O:∀ p:Int,0<=p->p<n->∃ C:List Int,valD (kvD ((tlD tl).map PyData.list)) (.inl p)=some (.list (C.map .int))/\(∀ u,u∈C ↔ Tied es p u)/\C.length<=20000:=λp p0 p1=>by
  obtain⟨C,v,R⟩:=ht.get p0 p1
  exact⟨C,ap2 p0 (by rw[aA5,adi v];rfl),R,a3 C (aA2 v)⟩
 row_cond go
 refine abo (λi e=>∃ v5 L M,e=[some (.st (webD n es)),some (.st (.int d)),some (.st (.list (c.map plD))),some (.st (.int n)),some (.st (abg (kvD ((tlD tl).map PyData.list)))),v5,L,M]/\∀ a b:Int,0<=a->a<i->0<=b->b<n->abp (Tied es) d (nAt c) a b) ⟨_,_,_,rfl,λa b G F=>by lia⟩ ?_ ?_
 ·rintro i e hi l
  refine exS3 e l λv5 L M g=>?_
  have x:=g
  clear g l
  row_cond go
  refine abo (λj e=>∃ L M,e=[some (.st (webD n es)),some (.st (.int d)),some (.st (.list (c.map plD))),some (.st (.int n)),some (.st (abg (kvD ((tlD tl).map PyData.list)))),some (.st (.int (0+(i:Int)))),L,M]/\∀ b:Int,0<=b->b<j->abp (Tied es) d (nAt c) i b) ⟨_,_,rfl,λb G F=>by lia⟩ ?_ ?_
  ·rintro j e hj l
   refine exS2 e l λL M g=>?_
   have m:=g
   clear g l
   obtain⟨a,ha,U,a0,a1⟩:∃ a,0+(i:Int)=a/\(i:Int)=a/\0<=a/\a<n:=⟨_,rfl,by lia,by lia,by lia⟩
   obtain⟨b,hb,a6,b0,b1⟩:∃ b,0+(j:Int)=b/\(j:Int)=b/\0<=b/\b<n:=⟨_,rfl,by lia,by lia,by lia⟩
   rw[ha,hb,U]
   rw[U] at m
   obtain⟨ra,q1,q2⟩:=ahv hS a0 a1
   have q2:=q2 b b0 b1
   obtain⟨C,v,R,a7⟩:=O a a0 a1
   have no:¬ abp (Tied es) d (nAt c) a b->Q' (.st (.bool false)):=λhn=>X false ⟨λe=>(by cases e),λe=>absurd (e.2 a b a0 a1 b0 b1) hn⟩
   have W:abp (Tied es) d (nAt c) a b->∀ S:Int,0<=S->S<((j+1:Nat):Int)->abp (Tied es) d (nAt c) a S:=λhh S G F=>by
    by_cases z:S=b
    ·rw[z];exact hh
    ·exact m S G (by lia)
   by_cases hab:a=b
   ·by_cases h0:nAt c a b=0
    ·have hH:abp (Tied es) d (nAt c) a b:=⟨λ_=>h0,λz=>absurd hab z⟩
     repeat (first|(refine adz ?_)|row_cond st)
     refine⟨kvD ((tlD tl).map PyData.list),.inl a,_,rfl,anm Y,rfl,v,?_⟩
     row_cond go
     refine acg (λo:Int=>.int (nAt c o b)) rfl (by lia) (λo ho B' hB=>?_) ?_
     ·have y:=(((R o).mp ho).in I).2
      obtain⟨ro,q3,q4⟩:=ahv hS y.1 y.2
      have q4:=q4 b b0 b1
      row_cond go
      exact rfl
     ·row_cond go
      exact⟨_,_,rfl,W hH⟩
    ·repeat (first|(refine adz ?_)|row_cond st)
     exact no λhh=>h0 (hh.1 hab)
   ·by_cases G:1<=nAt c a b
    rotate_left
    ·repeat (first|(refine adz ?_)|row_cond st)
     exact no λhh=>G (hh.2 hab).1
    by_cases F:nAt c a b<=d
    rotate_left
    ·repeat (first|(refine adz ?_)|row_cond st)
     exact no λhh=>F (hh.2 hab).2.1
    repeat (first|(refine adz ?_)|row_cond st)
    refine⟨kvD ((tlD tl).map PyData.list),.inl a,_,rfl,anm Y,rfl,v,?_⟩
    row_cond go
    refine acg (λo:Int=>.int (nAt c o b)) rfl (by lia) (λo ho B' hB=>?_) ?_
    ·have y:=(((R o).mp ho).in I).2
     obtain⟨ro,q3,q4⟩:=ahv hS y.1 y.2
     have q4:=q4 b b0 b1
     row_cond go
     exact rfl
    ·rw[show(C.map λo:Int=>PyData.int (nAt c o b))=(C.map λo=>nAt c o b).map PyData.int by rw[aD9];rfl]
     row_cond go
     refine app rfl (alx _) (by simp[PyData.depth]) ?_
     rw[awn]
     by_cases hm:nAt c a b-1∈C.map λo=>nAt c o b
     ·rw[aF5 rfl,aD8 hm]
      row_cond go
      obtain⟨p,hp,ep⟩:=aB7.mp hm
      exact⟨_,_,rfl,W ⟨λz=>absurd z hab,λ_=>⟨G,F,p,(R p).mp hp,ep⟩⟩⟩
     ·rw[aF5 rfl,aD7 hm]
      row_cond go
      refine no λhh=>hm ?_
      obtain⟨_,_,p,tp,ep⟩:=hh.2 hab
      exact aB7.mpr ⟨p,(R p).mpr tp,ep⟩
  ·rintro e l
   refine exS2 e l λL M g=>?_
   have m:=g
   clear g l
   refine⟨_,_,_,rfl,λa b G F h3 h4=>?_⟩
   by_cases z:a=(i:Int)
   ·rw[z];exact m b h3 (by lia)
   ·exact x a b G (by lia) h3 h4
 ·rintro e l
  refine exS3 e l λv5 L M g=>?_
  have x:=g
  clear g l
  row_cond go
  exact X true ⟨λ_=>⟨hS,λa b G F h3 h4=>x a b G (by lia) h3 h4⟩,λ_=>rfl⟩
end
def a2g:VIo:=λA ss Q=>∃(n:Int)(es:List (Int × Int)),A=ODk/\ss=[.st (webD n es)]/\1<=n/\n<=60/\InN n es/\es.length<=2000/\∀(n':Int)(rows:List (List Int)),1<=n'->n'<=60->abx n' rows->(∀ r∈rows,∀ x∈r,0<=x)->Q ODk (.own (OL (rows.map plD)))
theorem an9{α:Type}(f : α->PyData)(xs:List α){p:Int}(a:0<=p):∃ as bs:List α,cutD (xs.map f) none (some p)=as.map f/\cutD (xs.map f) (some (p+1)) none=bs.map f/\as.length+bs.length<=xs.length/\as.Sublist xs/\bs.Sublist xs:=by
 obtain⟨k,rfl⟩:=Int.eq_ofNat_of_zero_le a
 refine⟨(xs.drop 0).take (min k xs.length-0),(xs.drop (min (k+1) xs.length)).take (xs.length-min (k+1) xs.length),?_,?_,by simp;lia,(List.take_sublist _ _).trans (List.drop_sublist _ _),(List.take_sublist _ _).trans (List.drop_sublist _ _)⟩
 ·unfold cutD
  rw[aA3,HT.sIx_none,HT.sIx_nat,← List.map_drop,← List.map_take]
 ·unfold cutD
  rw[aA3,HT.sIx_none,show((k:Int)+1)=((k+1:Nat):Int) from rfl,HT.sIx_nat,← List.map_drop,← List.map_take]
section
variable{P:Program}{w:World}{K:Frag}{mg:Str->Option Value}{base:Heap}
theorem sc_law_some:FnScope ["deck","web","n","ties","way","left","k","at","some","a","b"] ["deck","web"] (aap s_law_some):=by row_cond sc
theorem aoa(T:Txt K mg):Can P w K mg base "_law_some" 6 ["deck","web"] (spI K (a2g)):=by
 obtain⟨f,fd,D⟩:=T.d_law_some
 refine D.can (D.fn.ok sc_law_some (λvs H Q E h=>lenI h λA ss Q' q=>by obtain⟨n,es,rfl,rfl,C,M,G,N,S⟩:=q;rfl) (λcdv A outer s H vs Q E o h=>?_))
 have nd:=sc_law_some.nd
 refine⟨_,(aad (act (pv 1) (afj rfl (aby (aan (i:=2) nd rfl (Or.inl rfl)) (aby (aan (i:=3) nd rfl (Or.inl rfl)) aei))))
  (aad (aaj (i:=4) nd rfl (Or.inl rfl) (aag (aai T) o (aaa (pv 0) (aaa aac aab))))
  (aad (aa6 (aay ab2 (pv 4) aac (aav _))
   (aah (aau (aag (agi T) o (aaa (aag (aef T) o (aaa (pv 0) aab)) aab))))
   aax)
  (aad (aaj (i:=5) nd rfl (Or.inl rfl) (abk adr (by rfl) T.b_list adx (aaa (pv 3) aab)))
  (aad (abd aJ8 rfl (aa8 rfl T.b_range (aaa (aar afk (aag (aai T) o (aaa (pv 0) (aaa aac aab))) (abk aeg (by rfl) T.b_int ago (aaa (aci ab2 (pv 4) aac (aav _)) aab))) aab)) (aan (i:=6) nd rfl (Or.inl rfl))
   (aad (aaj (i:=7) nd rfl (Or.inl rfl) (aag (aai T) o (aaa (pv 0) (aaa (aar aa7 (aak abl (by rfl) T.b_len aca (aaa (pv 5) aab)) aac) aab))))
    (aad (aaj (i:=8) nd rfl (Or.inl rfl) (aar afo (aer afn (pv 5) afl (afm (pv 7))) (aer afn (pv 5) (afm (aar aa7 (pv 7) aac)) afl)))
    (aah (aa6 (aay ab2 (aak arl (by rfl) T.b_len aca (aaa (aal aam (aag (ae1 T) o (aaa (abf (aaa (pv 2) (aaa (pv 8) aab))) aab)) aac (λ_ _=>rfl)) aab)) (pv 2) (aav _))
     (aah (aaj (i:=5) nd rfl (Or.inl rfl) (pv 8)))
     aax)))))
  (aad (aa6 (aay ab2 (pv 4) aac (aav _))
   (aad (aaj (i:=9) nd rfl (Or.inl rfl) (aag (aai T) o (aaa (pv 0) (aaa (pv 2) aab))))
    (aad (aaj (i:=10) nd rfl (Or.inl rfl) (aag (aai T) o (aaa (pv 0) (aaa (pv 2) aab))))
    (aah (aaj (i:=5) nd rfl (Or.inl rfl) (aak (aos rfl) (by rfl) T.b_sorted ad8 (aaa (abk (call_setT rfl o.units) (by rfl) T.b_set a0q (aaa (aar afo (pv 5) (aar asj (aaw (aaa (abf (aaa (aak (acz rfl) (by rfl) T.b_min aev (aaa (pv 9) (aaa (pv 10) aab))) (aaa (aak (acr rfl) (by rfl) T.b_max ada (aaa (pv 9) (aaa (pv 10) aab))) aab))) aab)) (abk aeg (by rfl) T.b_int ago (aaa (aci afy (pv 9) (pv 10) (aav _)) aab)))) aab)) aab))))))
   aax)
  (aah (aau (aag (agi T) o (aaa (abf (aaa (pv 2) (aaa (pv 5) aab))) aab)))))))))),?_⟩
 refine air h λA0 ss Q' q B hK=>?_
 obtain⟨n,es,rfl,rfl,C,M,G,N,S⟩:=q
 show EvS B _ _ [some (.io ODk),some (.st (webD n es)),none,none,none,none,none,none,none,none,none]
 row_cond go
 refine⟨_,rfl,rfl,by lia,by lia,λI w0 w1=>?_⟩
 row_cond go
 refine abm (λh=>?_) (λh=>?_)
 ·row_cond go
  refine⟨rfl,rfl,λm fs m0 m1 a6 b3 hJ=>?_⟩
  row_cond go
  refine⟨m,fs,rfl,m0,m1,a6,by lia,λc J x=>?_⟩
  row_cond go
  exact S m c m0 m1 J x
 repeat (first|(refine acm acb ?_)|row_cond st)
 refine⟨_,rfl,rfl,by lia,by lia,λr r0 r1=>?_⟩
 row_cond go
 obtain⟨z,hz,z0,z1⟩:∃ z,(r * if decide (I=1)=true then 1 else 0)=z/\0<=z/\z<6:=⟨_,rfl,by split <;> lia,by split <;> lia⟩
 rw[hz]
 row_cond go
 dsimp only[List.set_cons_zero,List.set_cons_succ]
 refine abo (λi e=>∃ U v7 X u,e=[some (.io ODk),some (.st (webD n es)),some (.st (.int n)),some (.st (.list (es.map prD))),some (.st (.int I)),some (.st (.list (u.map prD))),U,v7,X,none,none]/\InN n u/\u.length<=2000) ⟨_,_,_,es,rfl,G,N⟩ ?_ ?_
 ·rintro i e hi l
  refine exS4 e l λU v7 X u d=>?_
  have j:=d.1
  have R:=d.2
  clear d l
  row_cond go
  rw[aA3]
  refine⟨_,rfl,rfl,by lia,by lia,λat_ at0 at1=>?_⟩
  obtain⟨c1,c2,a7,W,b5,Y,Z⟩:=an9 prD u at0
  have y:InN n (c1++c2):=λp g=>by
   rcases aA7.mp g with g|g
   ·exact j p (Y.subset g)
   ·exact j p (Z.subset g)
  have L:(c1++c2).length<=2000:=by rw[aB1];lia
  repeat (first|(rw[a7])|(rw[W])|(refine acm acb ?_)|row_cond st)
  rw[← aE3]
  generalize c1++c2=cs at y L
  refine⟨n,cs,rfl,C,by lia,y,by lia,λess F=>ac0 ?_⟩
  obtain⟨fs,O⟩:∃ fs,ess[(0:Int).toNat]?=some fs:=⟨_,aA0 (by have:=F.len;simp;lia)⟩
  have hF:=F.row 0 fs (by lia) O
  have b2:atI (ess.map abg) 0=some (abg fs):=acx (f:=abg) (ab5 (by lia) O)
  have a5:fs ≠ []:=hF.ne (Gr.farO_self (T:=Tied cs) (a:=0))
  row_cond go
  refine awa a5 ?_
  row_cond go
  refine abm (λh=>?_) (λh=>?_)
  ·row_cond go
   exact⟨_,_,_,cs,rfl,y,L⟩
  ·row_cond go
   exact⟨_,_,_,u,rfl,j,R⟩
 ·rintro e l
  refine exS4 e l λU v7 X u d=>?_
  have j:=d.1
  have R:=d.2
  clear d l
  row_cond go
  refine abm (λh=>?_) (λh=>?_)
  ·row_cond go
   refine⟨n,rfl,rfl,by lia,by lia,λa a0 a1=>?_⟩
   row_cond go
   refine⟨n,rfl,rfl,by lia,by lia,λb b0 b1=>?_⟩
   obtain⟨lo,a2,l0,l1⟩:∃ lo:Int,(if b<a then b else a)=lo/\0<=lo/\lo<n:=⟨_,rfl,by split <;> lia,by split <;> lia⟩
   obtain⟨hi,a4,x,h1⟩:∃ hi:Int,(if a<b then b else a)=hi/\0<=hi/\hi<n:=⟨_,rfl,by split <;> lia,by split <;> lia⟩
   row_cond go
   refine ary ?_
   row_cond go
   have hm:(if (!decide (a=b))=true then (1:Int) else 0)<=1/\0<=(if (!decide (a=b))=true then (1:Int) else 0):=by split <;> lia
   refine apq (by lia) (by lia) (by simp;lia) ?_
   obtain⟨xs,a3,b4,a8⟩:∃ xs:List (Int × Int),(List.replicate (if (!decide (a=b))=true then (1:Int) else 0).toNat [PyData.tuple [.int (if b<a then b else a),.int (if b > a then b else a)]]).flatten=xs.map prD/\xs.length<=1/\∀ p∈xs,0<=p.1/\p.1<n/\0<=p.2/\p.2<n:=by
    rw[a2,show(if b > a then b else a)=hi from a4]
    split
    ·exact⟨[(lo,hi)],rfl,aA6 _,λp g=>by rw[aC2.mp g];exact⟨l0,l1,x,h1⟩⟩
    ·exact⟨[],rfl,aG0 _,λp g=>by cases g⟩
   rw[a3]
   row_cond go
   refine⟨u++xs,by rw[aE3],by rw[aB1];lia,λqs nd v a9=>acm acb ?_⟩
   row_cond go
   refine⟨n,qs,rfl,C,M,(λp g=>?_),?_,λc J x=>?_⟩
   ·rcases aA7.mp ((v p).mp g) with h|h
    ·exact j p h
    ·exact a8 p h
   ·have:=aE8 nd λp g=>(v p).mp g
    rw[aB1] at this
    lia
   ·row_cond go
    exact S n c C M J x
  ·row_cond go
   refine⟨n,u,rfl,C,M,j,by lia,λc J x=>?_⟩
   row_cond go
   exact S n c C M J x
end
def awo:VIo:=λA ss Q=>∃(n:Int)(rows:List (List Int)),A=ODk/\ss=[.st (.list (rows.map plD))]/\1<=n/\n<=60/\abx n rows/\∀ rows':List (List Int),rows'.length<=61->(∀ r∈rows',r.length<=61)->Q ODk (.own (OL (rows'.map plD)))
@[reducible] def ilD (r:List Int):List PyData:=r.map .int
theorem ar1(a:List (List Int)):(a.map ilD).map PyData.list=a.map plD:=by rw[aD9];rfl
theorem aob{n:Int}{a:List (List Int)}(h:abx n a){k:Nat}{r:List Int}(c:(r.length:Int)=n):abx n (a.set k r) :=
 ⟨by rw[List.length_set];exact h.1,λq b=>by
  rcases List.mem_or_eq_of_mem_set b with z|z
  ·exact h.2 q z
  ·rw[z];exact c⟩
theorem aly{n:Int}{b:List (List Int)}(h:abx n b){a:Int}(a0:0<=a)(d:a<n):∃ r,b[a.toNat]?=some r/\(r.length:Int)=n/\atI (b.map plD) a=some (plD r)/\ixN (b.map plD).length a=some a.toNat:=by
 have c:a.toNat<b.length:=by have:=h.1;lia
 refine⟨b[a.toNat],aA0 c,h.2 _ (aF2 c),acx (ab5 a0 (aA0 c)),?_⟩
 unfold ixN
 rw[aF5 a0,aF5 (by rw[aA3];lia)]
section
variable{P:Program}{w:World}{K:Frag}{mg:Str->Option Value}{base:Heap}
theorem sc_law_bent:FnScope ["deck","paper","found","way","a","b","number","other"] ["deck","paper"] (aap s_law_bent):=by row_cond sc
theorem aoc(T:Txt K mg):Can P w K mg base "_law_bent" 2 ["deck","paper"] (spI K (awo)):=by
 obtain⟨f,fd,D⟩:=T.d_law_bent
 refine D.can (D.fn.ok sc_law_bent (λvs H Q E h=>lenI h λA ss J q=>by obtain⟨n,c,rfl,rfl,n0,n1,G,L⟩:=q;rfl) (λcdv A outer s H vs Q E g h=>?_))
 have nd:=sc_law_bent.nd
 refine⟨_,(aad (aet (i:=2) nd rfl (Or.inl rfl) rfl (N:=["row"]) (src:=[none]) (by exact abe rfl rfl rfl rfl rfl rfl) (aa5 (pv 1)) (λ_ _ _ _=>(aan (i:=0) (show List.Nodup (["row"]:List Str) by decide +kernel) rfl (Or.inl rfl) (hf:=Or.inr rfl))) (λ_ _ _ _=>aa9) (λ_ _ _ _=>(abk (show aa2 _ (.type "list") (agw K) from adr) (by rfl) T.b_list adx (aaa (pv 0) aab))))
  (aad (aaj (i:=3) nd rfl (Or.inl rfl) (aag (aai T) g (aaa (pv 0) (aaa aac aab))))
  (aad (aaj (i:=4) nd rfl (Or.inl rfl) (aag (aai T) g (aaa (pv 0) (aaa (aak abl (by rfl) T.b_len aca (aaa (pv 2) aab)) aab))))
  (aad (aaj (i:=5) nd rfl (Or.inl rfl) (aag (aai T) g (aaa (pv 0) (aaa (aak abl (by rfl) T.b_len aca (aaa (aal aam (pv 2) (pv 4) (λ_ _=>rfl)) aab)) aab))))
  (aad (aa6 (aay aqq (pv 3) aac (aav _))
   (aad (aaj (i:=6) nd rfl (Or.inl rfl) (aal aam (aal aam (pv 2) (pv 4) (λ_ _=>rfl)) (pv 5) (λ_ _=>rfl)))
    (aah (act (aal aam (aaw (aaa (aar aa7 (pv 6) aac) (aaa (aar ac9 (pv 6) aac) (aaa aac (aaa (aar ac9 aac (pv 6)) (aaa (ajk (n:=100000000000000000000) (by decide) (by refine⟨by decide,by decide,by decide⟩)) (aaa aac (aaa aac (aaa (aar aa7 (pv 6) aac) aab))))))))) (aag (aai T) g (aaa (pv 0) (aaa aac aab))) (λ_ _=>rfl)) (adk (aal aam (pv 2) (pv 4) (λ_ _=>rfl)) (pv 5) acq))))
   aax)
  (aad (aa6 (aay ab2 (pv 3) aac (aav _))
   (aad (aaj (i:=7) nd rfl (Or.inl rfl) (aag (aai T) g (aaa (pv 0) (aaa (aak abl (by rfl) T.b_len aca (aaa (pv 2) aab)) aab))))
    (aah (act (abf (aaa (aal aam (pv 1) (pv 7) (λ_ _=>rfl)) (aaa (aal aam (pv 1) (pv 4) (λ_ _=>rfl)) aab))) (afj rfl (aby (adk (pv 2) (pv 4) acq) (aby (adk (pv 2) (pv 7) acq) aei))))))
   aax)
  (aad (aa6 (aay ab2 (pv 3) aac (aav _))
   (aah (aau (aar afo (aer afn (pv 2) afl (afm (pv 4))) (aer afn (pv 2) (afm (aar aa7 (pv 4) aac)) afl))))
   aax)
  (aad (aa6 (aay ab2 (pv 3) aac (aav _))
   (aah (aau (aar afo (pv 2) (aaw (aaa (abk adr (by rfl) T.b_list adx (aaa (aal aam (pv 2) (pv 4) (λ_ _=>rfl)) aab)) aab)))))
   aax)
  (aad (aa6 (aay ab2 (pv 3) aac (aav _))
   (aah (act (aal aam (aaw (aaa (aer afn (aal aam (pv 2) (pv 4) (λ_ _=>rfl)) (afm aac) afl) (aaa (aar afo (aal aam (pv 2) (pv 4) (λ_ _=>rfl)) (aaw (aaa aac aab))) (aaa (aaw aab) aab)))) (aag (aai T) g (aaa (pv 0) (aaa aac aab))) (λ_ _=>rfl)) (adk (pv 2) (pv 4) acq)))
   aax)
  (aad (aa6 (aay ab2 (pv 3) aac (aav _))
   (aah (aet (i:=2) nd rfl (Or.inl rfl) rfl (N:=["row"]) (src:=[none]) (by exact abe rfl rfl rfl rfl rfl rfl) (aa5 (pv 2)) (λ_ _ _ _=>(aan (i:=0) (show List.Nodup (["row"]:List Str) by decide +kernel) rfl (Or.inl rfl) (hf:=Or.inr rfl))) (λ_ _ _ _=>aa9) (λ_ _ _ _=>(adn rfl (N:=["number"]) (src:=[none]) (by exact abe rfl rfl rfl rfl rfl rfl) (show PI _ _ _ (alj K _) from aa5 (pv 0)) (λ_ _ _ _=>(aan (i:=0) (show List.Nodup (["number"]:List Str) by decide +kernel) rfl (Or.inl rfl) (hf:=Or.inr rfl))) (λ_ _ _ _=>aa9) (λ_ _ _ _=>(aar aa7 (pv 0) (abk aeg (by rfl) T.b_int ago (aaa (aci alk (pv 0) aac (aav _)) aab))))))))
   aax)
  (aah (aau (pv 2))))))))))))),?_⟩
 refine air h λA0 ss J q B hK=>?_
 obtain⟨n,c,rfl,rfl,n0,n1,G,L⟩:=q
 show EvS B _ _ [some (.io ODk),some (.st (.list (c.map plD))),none,none,none,none,none,none]
 have M:c.length=n.toNat:=by have:=G.1;lia
 repeat (first|(refine ay6 ?_)|row_cond st)
 refine⟨c.map ilD,by rw[aA3,aA3],λj d hd B2 b6=>?_,?_⟩
 ·rw[aA5] at hd
  obtain⟨xs,a9,rfl⟩:=Option.map_eq_some_iff.mp hd
  show EvO B2 _ [some (.st (plD xs))] _
  row_cond go
  exact⟨ilD xs,by rw[aA5,a9];rfl,rfl⟩
 row_cond go
 refine⟨_,rfl,rfl,by lia,by lia,λF w0 w1=>?_⟩
 repeat (first|(refine agz (i:=2) (.inl rfl) aek λB' hB=>?_)|row_cond st)
 rw[ar1,aA3,M]
 refine⟨_,rfl,rfl,by lia,by lia,λa a0 a1=>?_⟩
 have Y:a.toNat<c.length:=by lia
 obtain⟨u,C⟩:∃ u,c[a.toNat]?=some u:=⟨_,aA0 Y⟩
 have U:u.length=n.toNat:=by have:=G.2 u (aA2 C);lia
 have q1:atI ((c.map ilD).map PyData.list) a=some (plD u):=by rw[ar1];exact acx (ab5 a0 C)
 repeat (first|(refine agz (i:=2) (.inl rfl) aek λB' hB=>?_)|row_cond st)
 rw[aA3,U]
 refine⟨_,rfl,rfl,by lia,by lia,λb b0 b1=>?_⟩
 obtain⟨x,hx⟩:∃ x,u[b.toNat]?=some x:=⟨_,aA0 (by lia)⟩
 have q2:atI (u.map PyData.int) b=some (.int x):=acx (ab5 b0 hx)
 row_cond go
 dsimp only[List.set_cons_zero,List.set_cons_succ]
 rename_i c_ hc_
 refine' cutR (R:=∀(W:Option Sl)(rs:List (List Int)),abx n rs->EvS B c_ { nx:=λe=>∃ A',e[0]?=some (some (Sl.io A'))/\J A' (Sl.st PyData.none),rt:=λs e=>∃ A',e[0]?=some (some (Sl.io A'))/\J A' s } [some (.io ODk),some (.st (.list (c.map plD))),some (.own (OLL (rs.map ilD))),some (.st (.int F)),some (.st (.int a)),some (.st (.int b)),W,none]) (λR=>?K1) ?K2
 case K1 =>
  refine abm (λh=>?_) (λh=>?_)
  rotate_left
  ·repeat (first|exact R _ c G|row_cond st)
  refine ah9 λc2 b8=>?_
  refine api (aba (agz (i:=2) (.inl rfl) aek λB' hB=>?_))
  row_cond go
  refine⟨_,rfl,rfl,by lia,by lia,λr r0 r1=>?_⟩
  obtain⟨y,hy⟩:∃ y,atI [PyData.int (x+1),.int (x-1),.int 0,.int (0-x),.int 100000000000000000000,.int 1,.int 2,.int (x+2)] r=some (.int y):=by
   rcases(show r=0\/r=1\/r=2\/r=3\/r=4\/r=5\/r=6\/r=7 by lia) with h|h|h|h|h|h|h|h <;> rw[h] <;> exact⟨_,rfl⟩
  refine af6 (ahm hy (af6 ?_))
  dsimp only[List.set_cons_zero,List.set_cons_succ]
  refine aub (n:=a.toNat) (m:=b.toNat) (ds:=ilD u) rfl rfl rfl (by unfold ixN;rw[aF5 a0,aF5 (by rw[aA3];lia)]) (by rw[aA5,C];rfl) (by unfold ixN;rw[aF5 b0,aF5 (by rw[aA3];lia)]) ?_
  dsimp only[List.set_cons_zero,List.set_cons_succ]
  rw[show(c.map ilD).set a.toNat ((ilD u).set b.toNat (.int y))=(c.set a.toNat (u.set b.toNat y)).map ilD by rw[List.map_set,ilD,ilD,List.map_set]]
  exact R _ _ (aob G (by rw[List.length_set];lia))
 case K2 =>
  intro W rs X
  refine arq 2 rfl ?_
  dsimp only[List.set_cons_zero,List.set_cons_succ]
  rw[ar1]
  row_cond go
  obtain⟨sa,c0,c4,p1,p2⟩:=aly X a0 (by lia)
  obtain⟨v,Z,O,p3,p4⟩:=aly G a0 (by lia)
  have S:rs.length=n.toNat:=by have:=X.1;lia
  rename_i c_ hc_
  refine' cutR (R:=∀(v7:Option Sl)(l:List (List Int)),abx n l->EvS B c_ { nx:=λe=>∃ A',e[0]?=some (some (Sl.io A'))/\J A' (Sl.st PyData.none),rt:=λs e=>∃ A',e[0]?=some (some (Sl.io A'))/\J A' s } [some (.io ODk),some (.st (.list (c.map plD))),some (.own (OL (l.map plD))),some (.st (.int F)),some (.st (.int a)),some (.st (.int b)),W,v7]) (λR=>?K3) ?K4
  case K3 =>
   refine abm (λh=>?_) (λh=>?_)
   rotate_left
   ·repeat (first|exact R _ rs X|row_cond st)
   row_cond go
   rw[aA3,S]
   refine⟨_,rfl,rfl,by lia,by lia,λo o0 o1=>?_⟩
   obtain⟨so,c6,a2,p5,p6⟩:=aly G o0 (by lia)
   row_cond go
   refine⟨_,_,o,o.toNat,rfl,rfl,.inl rfl,?_,am7 ?_⟩
   ·rw[List.length_set,aA3]
    unfold ixN
    rw[aF5 o0,aF5 (by lia)]
   dsimp only[List.set_cons_zero,List.set_cons_succ,reS]
   rw[show((rs.map plD).set a.toNat (plD so)).set o.toNat (plD v)=((rs.set a.toNat so).set o.toNat v).map plD by rw[List.map_set,List.map_set]]
   exact R _ _ (aob (aob X a2) O)
  case K4 =>
   intro v7 l hT
   obtain⟨v,Z,O,p3,p4⟩:=aly hT a0 (by lia)
   have b4:l.length=n.toNat:=by have:=hT.1;lia
   obtain⟨c1,c2,b3,a3,c5,a7,a8⟩:=an9 plD l a0
   obtain⟨c3,b2,a5⟩:=azh PyData.int v (some 1) none
   have b7:=a5.length_le
   have p:∀ r∈l,r.length<=61:=λr g=>by have:=hT.2 r g;lia
   row_cond go
   refine abm (λh=>?_) (λh=>?_)
   ·refine aho 2 rfl acb ?_
    dsimp only[List.set_cons_zero,List.set_cons_succ]
    repeat (first|(rw[b3])|(rw[a3])|row_cond st)
    rw[← aE3]
    refine L (c1++c2) (by rw[aB1];lia) λr g=>?_
    rcases aA7.mp g with g|g
    ·exact p r (a7.subset g)
    ·exact p r (a8.subset g)
   row_cond go
   refine abm (λh=>?_) (λh=>?_)
   ·refine aho 2 rfl acb ?_
    dsimp only[List.set_cons_zero,List.set_cons_succ]
    row_cond go
    rw[show l.map plD++[PyData.list (v.map PyData.int)]=(l++[v]).map plD by rw[aE3];rfl]
    refine L (l++[v]) (by rw[aB1,List.length_singleton];lia) λr g=>?_
    rcases aA7.mp g with g|g
    ·exact p r g
    ·rw[aC2.mp g];lia
   row_cond go
   rename_i c_ hc_
   refine' cutR (R:=∀ us:List (List Int),us.length<=61->(∀ r∈us,r.length<=61)->EvS B c_ { nx:=λe=>∃ A',e[0]?=some (some (Sl.io A'))/\J A' (Sl.st PyData.none),rt:=λs e=>∃ A',e[0]?=some (some (Sl.io A'))/\J A' s } [some (.io ODk),some (.st (.list (c.map plD))),some (.own (OL (us.map plD))),some (.st (.int F)),some (.st (.int a)),some (.st (.int b)),W,v7]) (λR=>?K5) ?K6
   case K5 =>
    refine abm (λh=>?_) (λh=>?_)
    rotate_left
    ·repeat (first|exact R l (by lia) p|row_cond st)
    repeat (first|(rw[b2])|row_cond st)
    refine⟨_,rfl,rfl,by lia,by lia,λr r0 r1=>?_⟩
    obtain⟨q,hq,a4⟩:∃ q:List Int,atI [PyData.list (c3.map PyData.int),.list (v.map PyData.int++[.int 1]),.list []] r=some (plD q)/\q.length<=61:=by
     rcases(show r=0\/r=1\/r=2 by lia) with h|h|h <;> rw[h]
     ·exact⟨c3,rfl,by lia⟩
     ·exact⟨v++[1],by rw[plD,aE3];rfl,by rw[aB1,List.length_singleton];lia⟩
     ·exact⟨[],rfl,by simp⟩
    refine af6 (ahm hq (af6 ?_))
    row_cond go
    rw[← List.map_set]
    refine L (l.set a.toNat q) (by rw[List.length_set];lia) λr g=>?_
    rcases List.mem_or_eq_of_mem_set g with z|z
    ·exact p r z
    ·rw[z];exact a4
   case K6 =>
    intro us a6 I
    row_cond go
    refine abm (λh=>?_) (λh=>?_)
    ·row_cond go
     refine acg (xs:=us) (f:=plD) (λr=>plD (r.map λx=>x+if x > 0 then 1 else 0)) rfl (by lia) (λr g B' hB=>?_) ?_
     ·have M:=I r g
      row_cond go
      refine acg (xs:=r) (f:=PyData.int) (λx:Int=>.int (x+if x > 0 then 1 else 0)) rfl (by lia) (λx hx b5 b9=>?_) ?_
      ·row_cond go
       refine⟨?_,rfl⟩
       by_cases z:0<x
       ·rw[aD8 z,aF5 rfl,aF5 z]
       ·rw[aD7 z,aF6 aB0,aF6 z]
      ·row_cond go
       exact⟨by rw[plD,aD9];rfl,rfl⟩
     ·rw[show(us.map λr:List Int=>plD (r.map λx=>x+if x > 0 then 1 else 0))=(us.map λr=>r.map λx=>x+if x > 0 then 1 else 0).map plD by rw[aD9];rfl]
      row_cond go
      refine L _ (by rw[aA3];lia) λr g=>?_
      obtain⟨q,hq,rfl⟩:=aB7.mp g
      rw[aA3]
      exact I q hq
    ·row_cond go
     exact L us a6 I
end
def auq:VP:=λss Q=>∃(n d:Int)(es:List (Int × Int))(rows:List (List Int)),ss=[.st (webD n es),.st (.int d),.st (.list (rows.map plD))]/\1<=n/\n<=60/\InN n es/\es.length<=10000/\aey n es/\0<=d/\rows.length<=100/\(∀ r∈rows,r.length<=100)/\Q (.st (.bool true))
theorem aur{n:Int}{a:List (List Int)}(h:abx n a):abw n (.list (a.map plD))=true:=by
 unfold abw
 simp only[aA3,aH1,decide_eq_true_eq,aF4]
 refine⟨⟨h.1,λd hd=>?_⟩,λd hd=>?_⟩
 ·obtain⟨r,b,rfl⟩:=aB7.mp hd
  exact aD8 (by rw[aA3];exact h.2 r b)
 ·obtain⟨r,b,rfl⟩:=aB7.mp hd
  unfold arz
  simp only[plD,List.all_map,aF4]
  intro x _;rfl
theorem a2h{n:Int}{c:List (List Int)}{m:Int->Int->Int}(A:1<=n)(h:PyData.list (c.map plD)=.list (matD n.toNat m)):abx n c/\∀ a b:Int,0<=a->a<n->0<=b->b<n->nAt c a b=m a b:=by
 have h:=PyData.list.inj h
 have z:c.length=n.toNat:=by
  have:=congrArg List.length h
  rw[aA3,aqf] at this
  exact this
 have p:∀(a:Int)(r:List Int),0<=a->a<n->c[a.toNat]?=some r->r.map PyData.int=rowD n.toNat (m a):=λa r a0 j e=>by
  have d:=an3 (n:=n.toNat) (m:=m) (x:=a) a0 (by lia)
  rw[← h,acx (ab5 a0 e)] at d
  exact PyData.list.inj (aC6 d)
 have u:abx n c:=⟨by lia,λr hm=>by
  obtain⟨i,hi,e⟩:=aH6.mp hm
  have d:=p (i:Int) r (by lia) (by lia) (by rw[Int.toNat_natCast,aA0 hi,e])
  have l:=congrArg List.length d
  rw[aA3] at l
  unfold rowD at l
  rw[aA3,aE0] at l
  lia⟩
 refine⟨u,λa b a0 j b0 w=>?_⟩
 have g:a.toNat<c.length:=by lia
 obtain⟨r,s,hb⟩:=ahv u a0 j
 have o:c[a.toNat]?=some c[a.toNat]:=aA0 g
 have y:=p a _ a0 j o
 rw[acx (f:=plD) (ab5 a0 o)] at s
 have v:c[a.toNat].map PyData.int=r.map PyData.int:=PyData.list.inj (aC6 s)
 have q:=hb b b0 w
 rw[← v,y,an2 b0 (by lia)] at q
 exact(PyData.int.inj (aC6 q)).symm
theorem webP(n:Int)(es:List (Int × Int)):aat (webD n es)=true:=by
 have:=ari es
 simp only[webD,aat,plainDs,this,Bool.and_self]
theorem axe(n:Int)(es:List (Int × Int)):(webD n es).depth<=60:=by
 have h:PyData.depthAll (es.map prD)<=1:=ad3 λd hd=>by
  obtain⟨p,_,rfl⟩:=aB7.mp hd
  exact atu p
 simp only[webD,PyData.depth,PyData.depthAll]
 lia
section
variable{P:Program}{w:World}{K:Frag}{mg:Str->Option Value}{base:Heap}
theorem sc_law_right:FnScope ["web","d","paper","handed","given","found"] ["web","d","paper"] (aap s_law_right):=by row_cond sc
theorem adf(T:Txt K mg):Can P w K mg base "_law_right" 12 ["web","d","paper"] (spP K (auq)):=by
 obtain⟨f,fd,D⟩:=T.d_law_right
 refine D.can (D.fn.ok sc_law_right (λvs H Q E h=>lenP h λss Q' q=>by obtain⟨n,d,es,c,rfl,F,R,l,x,hJ,Y,C,u,S⟩:=q;rfl) (λcdv A outer s H vs Q E L h=>?_))
 have nd:=sc_law_right.nd
 refine⟨_,(aad (aaj (i:=3) nd rfl (Or.inl rfl) (abf (aaa (aal aam (pv 0) aac (λ_ _=>rfl)) (aaa (abk adr (by rfl) T.b_list adx (aaa (aal aam (pv 0) aac (λ_ _=>rfl)) aab)) aab))))
  (aad (aet (i:=4) nd rfl (Or.inl rfl) rfl (N:=["row"]) (src:=[none]) (by exact abe rfl rfl rfl rfl rfl rfl) (aa5 (pv 2)) (λ_ _ _ _=>(aan (i:=0) (show List.Nodup (["row"]:List Str) by decide +kernel) rfl (Or.inl rfl) (hf:=Or.inr rfl))) (λ_ _ _ _=>aa9) (λ_ _ _ _=>(abk (show aa2 _ (.type "list") (agw K) from adr) (by rfl) T.b_list adx (aaa (pv 0) aab))))
  (aad (aaj (i:=5) nd rfl (Or.inl rfl) (aag (alh T) L (aaa (pv 3) (aaa (pv 1) (aaa (pv 4) aab)))))
  (aah (aau (aeo (aak af4 (by rfl) T.b_isinstance adc (aaa (pv 5) (aaa (ag7 (v:=.ty "bool") rfl T.b_bool apa rfl) aab))) (aeo (aci ab2 (pv 5) (aag (ali T) L (aaa (pv 0) (aaa (pv 1) (aaa (pv 2) aab)))) (aav _)) (aeo (aci (as7 L.units) (pv 4) (pv 2) (aav _)) (agk (aci (as7 L.units) (pv 3) (pv 0) (aav _))))))))))),?_⟩
 refine abz h λss Q' q B hK=>?_
 refine exS4 ss q λn d es c g=>?_
 have F:=g.1
 have R:=g.2.1
 have l:=g.2.2.1
 have x:=g.2.2.2.1
 have hJ:=g.2.2.2.2.1
 have Y:=g.2.2.2.2.2.1
 have C:=g.2.2.2.2.2.2.1
 have u:=g.2.2.2.2.2.2.2.1
 have S:=g.2.2.2.2.2.2.2.2
 clear g q
 show EvS B _ _ [some (.st (webD n es)),some (.st (.int d)),some (.st (.list (c.map plD))),none,none,none]
 row_cond go
 refine acg (xs:=c) (f:=plD) plD rfl (by lia) (λr L B' hB=>?_) ?_
 ·row_cond go
  exact rfl
 repeat (first|(refine acm acb ?_)|row_cond st)
 have O:∀ j G:Bool,(j=true ↔ ag5 n es d c)->(G=true ↔ ag5 n es d c)->j=G:=λj G h1 h2=>by rw[aH8,h1,h2]
 refine⟨n,d,es,.list (c.map plD),rfl,F,by lia,l,by lia,hJ,(λJ=>?_),λm hm Z W=>?_⟩
 ·have U:(false=true ↔ ag5 n es d c):=⟨λe=>(by cases e),λe=>by rw[aur e.1] at J;cases J⟩
  row_cond go
  rw[aF5 (show isiD "bool" (PyData.bool false)=true from rfl)]
  row_cond go
  refine⟨n,d,es,c,rfl,F,R,l,x,C,u,λG y=>?_⟩
  cases O _ _ U y
  row_cond go
  refine ahl (plP _) (plP _) (ar0 _) ?_
  rw[agb (plP _)]
  row_cond go
  refine ahl (webP n es) (webP n es) (axe n es) ?_
  rw[agb (webP n es)]
  row_cond go
  exact S
 ·obtain⟨hS,M⟩:=a2h F hm
  have I:(Z=true ↔ ag5 n es d c):=by
   rw[W]
   have o:∀ a b:Int,0<=a->a<n->0<=b->b<n->(abp (Tied es) d m a b ↔ abp (Tied es) d (nAt c) a b):=λa b a0 z b0 j=>by
    unfold abp
    rw[M a b a0 z b0 j]
    refine and_congr Iff.rfl (imp_congr Iff.rfl (and_congr Iff.rfl (and_congr Iff.rfl (exists_congr λp=>?_))))
    refine and_congr_right λt=>?_
    have X:=(t.in l).2
    rw[M p b X.1 X.2 b0 j]
   exact⟨λh=>⟨hS,λa b a0 z b0 j=>(o a b a0 z b0 j).mp (h.2 a b a0 z b0 j)⟩,λh=>⟨Y,λa b a0 z b0 j=>(o a b a0 z b0 j).mpr (h.2 a b a0 z b0 j)⟩⟩
  row_cond go
  rw[aF5 (show isiD "bool" (PyData.bool Z)=true from rfl)]
  row_cond go
  refine⟨n,d,es,c,rfl,F,R,l,x,C,u,λG y=>?_⟩
  cases O _ _ I y
  row_cond go
  refine ahl (plP _) (plP _) (ar0 _) ?_
  rw[agb (plP _)]
  row_cond go
  refine ahl (webP n es) (webP n es) (axe n es) ?_
  rw[agb (webP n es)]
  row_cond go
  exact S
end
def ar2(K:Frag):Sp:=λvs H Q _=>∃(a:Addr)(ns:List Int),vs=[.ref a]/\SqL K H a (ns.map V.int)/\ns.length<=63/\∀ H',Q (.bl true) H'
def axf:VP:=λss Q=>∃ ns:List Int,ss=[.scr ns]/\ns.length<=63/\Q (.st (.bool true))
theorem awp{K:Frag}{vs:List V}{H:Hp}{Q:VK}{E:XK}(h:ar2 K vs H Q E):spP K axf vs H Q E:=by
 obtain⟨a,ns,rfl,c,b,k⟩:=h
 refine⟨H,[.scr ns],λs=>s=.st (.bool true),Same.refl _,λa ks h=>h,.cons ⟨a,rfl,c⟩ .nil,⟨ns,rfl,b,rfl⟩,λs e v G' H' Fv o=>?_⟩
 subst e
 have r:=o.ok.1
 cases r
 exact k _
theorem aod:∀{xs:List Int},xs ≠ []->∃ m,ae6 xs m
 |[],h=>absurd rfl h
 |[x],_=>⟨x,aB8,λy c=>by rw[aC2.mp c];exact Int.le_refl _⟩
 | x::y::xs,_=>by
  obtain⟨m,b,a⟩:=aod (xs:=y::xs) (by simp)
  by_cases h:x<=m
  ·refine⟨m,aB5 _ b,λz hz=>?_⟩
   rcases aA9.mp hz with rfl|hz
   ·exact h
   ·exact a z hz
  ·refine⟨x,aB8,λz hz=>?_⟩
   rcases aA9.mp hz with rfl|hz
   ·exact Int.le_refl _
   ·have:=a z hz;lia
theorem awq:aey 1 []:=λv v0 a=>⟨0,by rw[show v=0 by lia];exact Gr.Dist.self _ _⟩
theorem awr:aey 2 [(0,1)]:=λv v0 a=>by
 rcases(show v=0\/v=1 by lia) with h|h
 ·rw[h];exact⟨0,Gr.Dist.self _ _⟩
 ·rw[h]
  obtain⟨d,_,hd⟩:=Gr.Dist.of_walk (.step .refl (show Tied [(0,1)] 0 1 from .inl aB8))
  exact⟨d,hd⟩
section
variable{P:Program}{w:World}{K:Frag}{mg:Str->Option Value}{base:Heap}
theorem sc_law:FnScope ["script","deck","k","web","turn","paper","far","d","j"] ["script"] (aap s_law):=by row_cond sc
theorem azu(T:Txt K mg){f:Addr}{fd:FuncData}(D:DefAt K mg "law" s_law ["script"] f fd):FnOk P w K mg base CX0 13 f fd ["script"] (spP K (axf)):=by
 refine D.fn.ok sc_law (λvs H Q E h=>lenP h λss Q' q=>by obtain⟨ns,rfl,J,kk⟩:=q;rfl) (λcdv A outer s H vs Q E c h=>?_)
 have nd:=sc_law.nd
 refine ⟨_,(aad (aaj (i:=1) nd rfl (Or.inl rfl) (aag (an6 T) c (aaa (pv 0) aab)))
  (aad (abd aJ8 rfl (aa8 rfl T.b_range (aaa aac aab)) (aan (i:=2) nd rfl (Or.inl rfl))
   (aad (aaj (i:=3) nd rfl (Or.inl rfl) (aag (aef T) c (aaa (pv 1) aab)))
    (aah (abd aJ8 rfl (aa8 rfl T.b_range (aaa aac aab)) (aan (i:=4) nd rfl (Or.inl rfl))
     (aad (aaj (i:=5) nd rfl (Or.inl rfl) (aag (aoa T) c (aaa (pv 1) (aaa (pv 3) aab))))
      (aad (aaj (i:=6) nd rfl (Or.inl rfl) (aak (agr rfl) (by rfl) T.b_max ada (aaa (adn rfl (N:=["row"]) (src:=[none]) (by exact abe rfl rfl rfl rfl rfl rfl) (aa5 (pv 5)) (λ_ _ _ _=>(aan (i:=0) (show List.Nodup (["row"]:List Str) by decide +kernel) rfl (Or.inl rfl) (hf:=Or.inr rfl))) (λ_ _ _ _=>aa9) (λ_ _ _ _=>(aak (show aa2 _ (.builtin "max") (ahg K) from(agr rfl)) (by rfl) T.b_max ada (aaa (pv 0) aab)))) aab)))
      (aad (abd aJ8 rfl (aa5 (aaw (aaa (pv 6) (aaa (aak (acr rfl) (by rfl) T.b_max ada (aaa aac (aaa (aar ac9 (pv 6) aac) aab))) (aaa (aar aa7 (pv 6) aac) (aaa (aal aam (aaw (aaa (aal aam (pv 3) aac (λ_ _=>rfl)) (aaa (ajk (n:=100000000000000000000) (by decide) (by refine⟨by decide,by decide,by decide⟩)) aab))) (aag (aai T) c (aaa (pv 1) (aaa aac aab))) (λ_ _=>rfl)) aab)))))) (aan (i:=7) nd rfl (Or.inl rfl))
       (aah (aa6 (adj (aen (aag (adf T) c (aaa (pv 3) (aaa (pv 7) (aaa (pv 5) aab))))))
         (aah (aau acn))
         aax)))
      (aah (abd aJ8 rfl (aa8 rfl T.b_range (aaa aac aab)) (aan (i:=8) nd rfl (Or.inl rfl))
       (aah (aa6 (adj (aen (aag (adf T) c (aaa (pv 3) (aaa (aar aa7 (pv 6) (aag (aai T) c (aaa (pv 1) (aaa aac aab)))) (aaa (aag (aoc T) c (aaa (pv 1) (aaa (pv 5) aab))) aab))))))
         (aah (aau acn))
         aax)))))))))))
  (aah (aau (aeo (aag (adf T) c (aaa (abf (aaa aac (aaa (aaw aab) aab))) (aaa aac (aaa (aaw (aaa (aaw (aaa aac aab)) aab)) aab)))) (agk (aag (adf T) c (aaa (abf (aaa aac (aaa (aaw (aaa (abf (aaa aac (aaa aac aab))) aab)) aab))) (aaa aac (aaa (aaw (aaa (aaw (aaa aac (aaa aac aab))) (aaa (aaw (aaa aac (aaa aac aab))) aab))) aab)))))))))),?_⟩
 refine abz h λss Q' q B hK=>?_
 refine exS1 ss q λns C=>?_
 have J:=C.1
 have kk:=C.2
 clear C q
 show EvS B _ _ [some (.scr ns),none,none,none,none,none,none,none,none]
 row_cond go
 refine⟨ns,rfl,J,?_⟩
 row_cond go
 refine abo (λi e=>∃ Y Z F v u m g,e=[some (.scr ns),some (.own ODk),Y,Z,F,v,u,m,g]) ⟨_,_,_,_,_,_,_,rfl⟩ ?_ ?_
 ·rintro i e hi a
  refine exE7 e a λY Z F v u m g=>?_
  clear a
  row_cond go
  refine⟨rfl,rfl,λn es X W o hL hJ=>?_⟩
  row_cond go
  refine abo (λj e=>∃ F v u m g,e=[some (.scr ns),some (.own ODk),some (.st (.int (0+(i:Int)))),some (.st (webD n es)),F,v,u,m,g]) ⟨_,_,_,_,_,rfl⟩ ?_ ?_
  ·rintro j e hj a
   refine exE5 e a λF v u m g=>?_
   clear a
   row_cond go
   refine⟨n,es,rfl,rfl,X,W,o,hL,λn' b m0 m1 O h0=>acm acb ?_⟩
   have I:b.length=n'.toNat:=by have:=O.1;lia
   have S:∀ r∈b,r.length<=100:=λr c=>by have:=O.2 r c;lia
   obtain⟨L,G⟩:∃ L:List Int->Int,∀ r∈b,r ≠ []/\ae6 r (L r):=by
    refine⟨λr=>if h:r=[] then 0 else (aod h).choose,λr c=>?_⟩
    have y:r ≠ []:=λe=>by
     have:=O.2 r c
     rw[e] at this
     simp at this
     lia
    refine⟨y,?_⟩
    dsimp only
    rw[dif_neg y]
    exact(aod y).choose_spec
   row_cond go
   refine acg (xs:=b) (f:=plD) (λr=>.int (L r)) rfl (by lia) (λr c B' hB=>?_) ?_
   ·row_cond go
    exact anc (G r c).1 λx hx=>⟨by rw[awi hx (G r c).2],rfl⟩
   ·rw[show(b.map λr=>PyData.int (L r))=(b.map L).map .int by rw[aD9];rfl]
    row_cond go
    refine anc (by intro e;have:=congrArg List.length e;simp at this;rw[this] at I;simp at I;lia) λfar M=>?_
    have far0:0<=far:=by
     obtain⟨r,c,e⟩:=aB7.mp M.1
     rw[← e]
     exact h0 r c _ (G r c).2.1
    row_cond go
    refine⟨_,rfl,rfl,by lia,by lia,λr r0 r1=>?_⟩
    obtain⟨z,hz,z0⟩:∃ z:Int,atI [PyData.int n,PyData.int 100000000000000000000] r=some (.int z)/\0<=z:=by
     rcases(show r=0\/r=1 by lia) with h|h <;> rw[h]
     ·exact⟨n,rfl,by lia⟩
     ·exact⟨100000000000000000000,rfl,by lia⟩
    refine af6 (ahm hz (af6 ?_))
    row_cond go
    refine acw (xs:=[far,if far-1 > 0 then far-1 else 0,far+1,z]) (f:=PyData.int) (λl e=>∃ m g,e=[some (.scr ns),some (.own ODk),some (.st (.int (0+(i:Int)))),some (.st (webD n es)),some (.st (.int (0+(j:Int)))),some (.st (.list (b.map plD))),some (.st (.int far)),m,g]) ⟨_,_,rfl⟩ ?_ ?_
    ·rintro l d e hd a
     refine exE2 e a λm g=>?_
     clear a
     have d0:0<=d:=by
      have:=aA2 hd
      simp only[aA9,aI4,or_false] at this
      rcases this with rfl|rfl|rfl|rfl
      ·exact far0
      ·split <;> lia
      ·lia
      ·exact z0
     row_cond go
     refine⟨n,d,es,b,rfl,X,W,o,by lia,hJ,d0,by lia,S,?_⟩
     row_cond go
     exact⟨_,_,rfl⟩
    ·rintro e a
     refine exE2 e a λm g=>?_
     clear a
     row_cond go
     refine abo (λl e=>∃ g,e=[some (.scr ns),some (.own ODk),some (.st (.int (0+(i:Int)))),some (.st (webD n es)),some (.st (.int (0+(j:Int)))),some (.st (.list (b.map plD))),some (.st (.int far)),m,g]) ⟨_,rfl⟩ ?_ ?_
     ·rintro l e hl a
      refine exE1 e a λg=>?_
      clear a
      row_cond go
      refine⟨_,rfl,rfl,by lia,by lia,λr2 a1 a0=>?_⟩
      row_cond go
      refine⟨n',b,rfl,rfl,m0,m1,O,λrs a2 U=>ac0 ?_⟩
      row_cond go
      refine⟨n,far+r2,es,rs,rfl,X,W,o,by lia,hJ,by lia,by lia,λr c=>by have:=U r c;lia,?_⟩
      row_cond go
      exact⟨_,rfl⟩
     ·rintro e a
      refine exE1 e a λg=>?_
      clear a
      row_cond go
      exact⟨_,_,_,_,_,rfl⟩
  ·rintro e a
   refine exE5 e a λF v u m g=>?_
   clear a
   exact⟨_,_,_,_,_,_,_,rfl⟩
 ·rintro e a
  refine exE7 e a λY Z F v u m g=>?_
  clear a
  row_cond go
  refine⟨1,0,[],[[0]],rfl,by lia,by lia,(λp R=>by cases R),by decide,awq,by lia,by decide,λr c=>by rw[aC2.mp c];decide,?_⟩
  row_cond go
  refine⟨2,0,[(0,1)],[[0,1],[1,0]],rfl,by lia,by lia,(λp R=>by cases aC2.mp R;exact⟨by decide,by decide,by decide,by decide⟩),by decide,awr,by lia,by decide,λr c=>?_,?_⟩
  ·simp only[aA9,aI4,or_false] at c
   rcases c with rfl|rfl <;> decide
  row_cond go
  exact kk
theorem a2i(T:Txt K mg){f:Addr}{fd:FuncData}(D:DefAt K mg "law" s_law ["script"] f fd):FnOk P w K mg base CX0 13 f fd ["script"] (ar2 K):=(azu T D).imp λ_ _ _ _ h=>awp h
end
theorem len0{α:Type}{us:List α}(h:us.length=0):us=[]:=aH2 h
theorem len1{α:Type}{us:List α}(h:us.length=1):∃ a0,us=[a0]:=by
 cases us with
 |nil=>cases h
 |cons a us=>exact⟨a,by rw[len0 (Nat.succ.inj h)]⟩
theorem len2{α:Type}{us:List α}(h:us.length=2):∃ a0 b,us=[a0,b]:=by
 cases us with
 |nil=>cases h
 |cons a us=>obtain⟨b,e⟩:=len1 (Nat.succ.inj h);exact⟨a,b,by rw[e]⟩
theorem len3{α:Type}{us:List α}(h:us.length=3):∃ a0 b c,us=[a0,b,c]:=by
 cases us with
 |nil=>cases h
 |cons a us=>obtain⟨b,c,e⟩:=len2 (Nat.succ.inj h);exact⟨a,b,c,by rw[e]⟩
theorem len4{α:Type}{us:List α}(h:us.length=4):∃ a0 b d c,us=[a0,b,d,c]:=by
 cases us with
 |nil=>cases h
 |cons a us=>obtain⟨b,d,c,e⟩:=len3 (Nat.succ.inj h);exact⟨a,b,d,c,by rw[e]⟩
theorem len5{α:Type}{us:List α}(h:us.length=5):∃ a0 b f c d,us=[a0,b,f,c,d]:=by
 cases us with
 |nil=>cases h
 |cons a us=>obtain⟨b,f,c,d,e⟩:=len4 (Nat.succ.inj h);exact⟨a,b,f,c,d,by rw[e]⟩
def Bnd(x:Str)(st:Stmt)(ps:List Str):Prop:=∀(kV doc pm:Value)(an:Option Addr)(cdv ct:Value)(us:List Value),us.length=ps.length->bindArgs (fnOf x x (acj st) (ab6 st) (aap st) .none kV doc pm an cdv ct) ⟨us,[]⟩=pure (ps.zip us)
def FnIn(K:Frag)(x:Str)(st:Stmt):Prop:=∃ f oc od kV dc pm an cd ct sl,nsIn K mainGlobals x=some (some (.ref f))/\K.lookup f=some ⟨oc,od,.func (fnOf x x (acj st) (ab6 st) (aap st) .none kV dc pm an cd ct),sl⟩/\codeIn K cd x=true/\keepIn K (.ref f)=true
theorem fn_in{K:Frag}{x:Str}{st:Stmt}{f:Addr}{od an:Option Addr}{sl:Array (Option Value)}{oc kV d pm b ct:Value}(a:nsIn K mainGlobals x=some (some (.ref f)))(l:K.lookup f=some ⟨oc,od,.func (fnOf x x (acj st) (ab6 st) (aap st) .none kV d pm an b ct),sl⟩)(c:codeIn K b x=true)(k:keepIn K (.ref f)=true):FnIn K x st:=⟨f,oc,od,kV,d,pm,an,b,ct,sl,a,l,c,k⟩
theorem bnd1{st:Stmt}{x:Str}{ps:List Str}(c:ps.length=1)(h:∀(kV doc pm:Value)(an:Option Addr)(cdv ct:Value)(a:Value),bindArgs (fnOf x x (acj st) (ab6 st) (aap st) .none kV doc pm an cdv ct) ⟨[a],[]⟩=pure (ps.zip [a])):Bnd x st ps:=by
 intro kV doc pm an cdv ct us b
 rw[c] at b
 obtain⟨_,rfl⟩:=len1 b
 exact h _ _ _ _ _ _ _
theorem bnd2{st:Stmt}{x:Str}{ps:List Str}(d:ps.length=2)(h:∀(kV doc pm:Value)(an:Option Addr)(cdv ct:Value)(b c:Value),bindArgs (fnOf x x (acj st) (ab6 st) (aap st) .none kV doc pm an cdv ct) ⟨[b,c],[]⟩=pure (ps.zip [b,c])):Bnd x st ps:=by
 intro kV doc pm an cdv ct us a
 rw[d] at a
 obtain⟨_,_,rfl⟩:=len2 a
 exact h _ _ _ _ _ _ _ _
theorem bnd3{st:Stmt}{x:Str}{ps:List Str}(f:ps.length=3)(h:∀(kV doc pm:Value)(an:Option Addr)(cdv ct:Value)(c d b:Value),bindArgs (fnOf x x (acj st) (ab6 st) (aap st) .none kV doc pm an cdv ct) ⟨[c,d,b],[]⟩=pure (ps.zip [c,d,b])):Bnd x st ps:=by
 intro kV doc pm an cdv ct us a
 rw[f] at a
 obtain⟨_,_,_,rfl⟩:=len3 a
 exact h _ _ _ _ _ _ _ _ _
theorem bnd5{st:Stmt}{x:Str}{ps:List Str}(i:ps.length=5)(h:∀(kV doc pm:Value)(an:Option Addr)(cdv ct:Value)(g b d f c:Value),bindArgs (fnOf x x (acj st) (ab6 st) (aap st) .none kV doc pm an cdv ct) ⟨[g,b,d,f,c],[]⟩=pure (ps.zip [g,b,d,f,c])):Bnd x st ps:=by
 intro kV doc pm an cdv ct us a
 rw[i] at a
 obtain⟨_,_,_,_,_,rfl⟩:=len5 a
 exact h _ _ _ _ _ _ _ _ _ _ _
theorem aa3{K:Frag}{h:Heap}{mg:Str->Option Value}{x:Str}{st:Stmt}{ps:List Str}(X:K.In h)(G:h.Ns mainGlobals mg)(q:FnIn K x st)
  (hb:Bnd x st ps):∃ f fd,DefAt K mg x st ps f fd:=by
 obtain⟨f,oc,od,kV,d,pm,an,b,ct,sl,a,l,c,k⟩:=q
 exact⟨_,_,have F:=az9 (st:=st) l c k;⟨F,mg_of X G a,F.binds hb⟩⟩
theorem txt_mk{K:Frag}{h:Heap}{mg:Str->Option Value}(X:K.In h)(G:h.Ns mainGlobals mg)
  (P:FnIn K "is_whole" s_is_whole)
  (R:FnIn K "is_between" s_is_between)
  (W:FnIn K "is_place" s_is_place)
  (U:FnIn K "tied_places" s_tied_places)
  (M:FnIn K "far_from" s_far_from)
  (O:FnIn K "need_place" s_need_place)
  (T:FnIn K "all_far" s_all_far)
  (N:FnIn K "is_joined" s_is_joined)
  (Q:FnIn K "need_joined" s_need_joined)
  (S:FnIn K "far_shows" s_far_shows)
  (D:FnIn K "is_square" s_is_square)
  (B:FnIn K "is_long" s_is_long)
  (u:FnIn K "number_holds" s_number_holds)
  (E:FnIn K "_law_deck" s_law_deck)
  (w:FnIn K "_law_draw" s_law_draw)
  (z:FnIn K "_law_tied" s_law_tied)
  (A:FnIn K "_law_fars" s_law_fars)
  (x:FnIn K "_law_order" s_law_order)
  (C:FnIn K "_law_crowds" s_law_crowds)
  (H:FnIn K "_law_web" s_law_web)
  (L:FnIn K "_law_joined_web" s_law_joined_web)
  (s:FnIn K "_law_shows" s_law_shows)
  (J:FnIn K "_law_table" s_law_table)
  (I:FnIn K "_law_some" s_law_some)
  (v:FnIn K "_law_bent" s_law_bent)
  (F:FnIn K "_law_right" s_law_right)
  (y:FnIn K "law" s_law)
  (b:nsIn K mainGlobals "ValueError" = some none)
  (j:nsIn K mainGlobals "all" = some none)
  (r:nsIn K mainGlobals "any" = some none)
  (d:nsIn K mainGlobals "range" = some none)
  (f:nsIn K mainGlobals "dict" = some none)
  (g:nsIn K mainGlobals "list" = some none)
  (a:nsIn K mainGlobals "isinstance" = some none)
  (l:nsIn K mainGlobals "int" = some none)
  (n:nsIn K mainGlobals "len" = some none)
  (m:nsIn K mainGlobals "max" = some none)
  (p:nsIn K mainGlobals "sum" = some none)
  (c:nsIn K mainGlobals "sorted" = some none)
  (i:nsIn K mainGlobals "bool" = some none)
  (q:nsIn K mainGlobals "min" = some none)
  (o:nsIn K mainGlobals "set" = some none)
  : Txt K mg where
  b_ValueError:=mg_none_of X G b
  b_all:=mg_none_of X G j
  b_any:=mg_none_of X G r
  b_range:=mg_none_of X G d
  b_dict:=mg_none_of X G f
  b_list:=mg_none_of X G g
  b_isinstance:=mg_none_of X G a
  b_int:=mg_none_of X G l
  b_len:=mg_none_of X G n
  b_max:=mg_none_of X G m
  b_sum:=mg_none_of X G p
  b_sorted:=mg_none_of X G c
  b_bool:=mg_none_of X G i
  b_min:=mg_none_of X G q
  b_set:=mg_none_of X G o
  d_is_whole:=aa3 X G P (bnd1 rfl λ_ _ _ _ _ _ _=>rfl)
  d_is_between:=aa3 X G R (bnd3 rfl λ_ _ _ _ _ _ _ _ _=>rfl)
  d_is_place:=aa3 X G W (bnd2 rfl λ_ _ _ _ _ _ _ _=>rfl)
  d_tied_places:=aa3 X G U (bnd1 rfl λ_ _ _ _ _ _ _=>rfl)
  d_far_from:=aa3 X G M (bnd2 rfl λ_ _ _ _ _ _ _ _=>rfl)
  d_need_place:=aa3 X G O (bnd2 rfl λ_ _ _ _ _ _ _ _=>rfl)
  d_all_far:=aa3 X G T (bnd2 rfl λ_ _ _ _ _ _ _ _=>rfl)
  d_is_joined:=aa3 X G N (bnd1 rfl λ_ _ _ _ _ _ _=>rfl)
  d_need_joined:=aa3 X G Q (bnd1 rfl λ_ _ _ _ _ _ _=>rfl)
  d_far_shows:=aa3 X G S (bnd3 rfl λ_ _ _ _ _ _ _ _ _=>rfl)
  d_is_square:=aa3 X G D (bnd2 rfl λ_ _ _ _ _ _ _ _=>rfl)
  d_is_long:=aa3 X G B (bnd2 rfl λ_ _ _ _ _ _ _ _=>rfl)
  d_number_holds:=aa3 X G u (bnd5 rfl λ_ _ _ _ _ _ _ _ _ _ _=>rfl)
  d_law_deck:=aa3 X G E (bnd1 rfl λ_ _ _ _ _ _ _=>rfl)
  d_law_draw:=aa3 X G w (bnd2 rfl λ_ _ _ _ _ _ _ _=>rfl)
  d_law_tied:=aa3 X G z (bnd1 rfl λ_ _ _ _ _ _ _=>rfl)
  d_law_fars:=aa3 X G A (bnd1 rfl λ_ _ _ _ _ _ _=>rfl)
  d_law_order:=aa3 X G x (bnd2 rfl λ_ _ _ _ _ _ _ _=>rfl)
  d_law_crowds:=aa3 X G C (bnd1 rfl λ_ _ _ _ _ _ _=>rfl)
  d_law_web:=aa3 X G H (bnd1 rfl λ_ _ _ _ _ _ _=>rfl)
  d_law_joined_web:=aa3 X G L (bnd1 rfl λ_ _ _ _ _ _ _=>rfl)
  d_law_shows:=aa3 X G s (bnd3 rfl λ_ _ _ _ _ _ _ _ _=>rfl)
  d_law_table:=aa3 X G J (bnd1 rfl λ_ _ _ _ _ _ _=>rfl)
  d_law_some:=aa3 X G I (bnd2 rfl λ_ _ _ _ _ _ _ _=>rfl)
  d_law_bent:=aa3 X G v (bnd2 rfl λ_ _ _ _ _ _ _ _=>rfl)
  d_law_right:=aa3 X G F (bnd3 rfl λ_ _ _ _ _ _ _ _ _=>rfl)
  d_law:=aa3 X G y (bnd1 rfl λ_ _ _ _ _ _ _=>rfl)
theorem walk{l:PySem.W.OpenLaw}{q:Program}{b:List Str}{p:(Str->Option Value)->Heap->Prop}{j:World->Heap->Prop}{d:DefRec}{K:Params->Frag}(hn:l.most=some 63)(c:d.params.defaults=[])(i:d.name = "law")
  (v:∀(w:World)(h:Heap),j w h->(K w.params).In h)
  (F:∀(w:World)(mg:Str->Option Value)(h:Heap),(K w.params).In h->h.Ns mainGlobals mg->Txt (K w.params) mg) :
  PySem.W.WalkO q b p j l.row.toRowW d [] (λf vs=>PySem.call f vs):=by
 refine L2.walk_of (n:=63) (k:=13) (x:="script") (CX:=λ_=>CX0) (sp:=λw=>ar2 (K w.params)) hn (by decide) c ⟨rfl,by decide,by decide,rfl⟩ v (λw mg B h X G e=>?_) (λ_ _ a ns m _ r=>⟨a,ns,rfl,r,m,λ_=>rfl⟩) λ_ _ _ _ _ z=>z
 have T:=F w mg h X G
 rw[i] at e
 obtain⟨f1,g,D⟩:=T.d_law
 have o:=e.symm.trans D.mgx
 cases o
 refine⟨g,λs u=>?_,λbase _ _=>?_⟩
 ·obtain⟨oc,od,kV,doc,pm,an,cdv,ct,osl,rfl,A,y⟩:=D.fn.ex
  exact .of_eq rfl
 ·exact a2i T D
end G
end
namespace PySem.W.Fast
theorem tw13577721545300193193:True:=trivial
theorem tw798446192930240772:True:=trivial
theorem tw6899519459700827505:True:=trivial
theorem tw9414069050031146244:True:=trivial
theorem tw8361888607652056098:True:=trivial
theorem tw10318607559786990926:True:=trivial
theorem tw2404385384665084498:True:=trivial
theorem tw7827871386505582190:True:=trivial
theorem tw9797667155910584867:True:=trivial
theorem tw1489986819194558275:True:=trivial
theorem tw10692365012335896379:True:=trivial
theorem tw4682718628762501074:True:=trivial
theorem tw10909433793006756109:True:=trivial
theorem tw8247769380283743260:True:=trivial
theorem tw6253438738603129107:True:=trivial
theorem tw14941268236244872778:True:=trivial
theorem tw6307815241067106406:True:=trivial
theorem tw12917749796093760023:True:=trivial
theorem tw17708147870925173055:True:=trivial
theorem tw886736636812715796:True:=trivial
theorem tw16106167448275703828:True:=trivial
theorem tw10114814396743582670:True:=trivial
theorem tw10834949612772281980:True:=trivial
theorem tw8253326680797421279:True:=trivial
theorem tw12466393527561049917:True:=trivial
theorem tw9767968152690253286:True:=trivial
theorem tw4567967397861822444:True:=trivial
theorem tw18051894706150965940:True:=trivial
theorem tw10775700355240792822:True:=trivial
theorem tw11879906193324454048:True:=trivial
theorem tw2915252449487485631:True:=trivial
theorem tw2719675112112608640:True:=trivial
theorem tw13803979832010802946:True:=trivial
theorem tw1331781728035050477:True:=trivial
theorem tw13076036325784115920:True:=trivial
theorem tw18357382385050325754:True:=trivial
theorem tw14165472466890375871:True:=trivial
theorem tw7390328453479183964:True:=trivial
theorem tw7420978734020991556:True:=trivial
theorem tw17042431981437710369:True:=trivial
theorem tw1516285623252431397:True:=trivial
theorem tw18153841973174350256:True:=trivial
theorem tw2738629674618271994:True:=trivial
theorem tw5445264685577377548:True:=trivial
theorem tw16914722782105060008:True:=trivial
theorem tw663805458088732935:True:=trivial
theorem tw7577006506544271278:True:=trivial
theorem tw2921200227550042527:True:=trivial
theorem tw3374167492083470654:True:=trivial
theorem tw9659877383085590420:True:=trivial
theorem tw8843731929170727040:True:=trivial
theorem tw7320425314121305727:True:=trivial
theorem tw369041383057459578:True:=trivial
theorem tw11590283555934482725:True:=trivial
theorem tw17973387377883193497:True:=trivial
theorem tw3222081453480301794:True:=trivial
theorem tw12208379598396013393:True:=trivial
theorem tw18330523816495640941:True:=trivial
theorem tw17346543099425760672:True:=trivial
theorem tw2748431591385682983:True:=trivial
theorem tw4062848790088083356:True:=trivial
theorem tw15435946112940156588:True:=trivial
theorem tw4518878396017992810:True:=trivial
end PySem.W.Fast
open PySem PySem.W PyProof.Rows
set_option maxRecDepth 100000 in
set_option maxHeartbeats 0 in
theorem PySem.Challenge.cw_fewties_k11_papers_looked_at_holds : PySem.Challenge.rw_fewties_k11_papers_looked_at.Holds := by
 w_on;o_law;k_head;(case hw=>w_witness2)
 k_fill
 refine G.walk (l:=PySem.Challenge.rw_fewties_k11_papers_looked_at) rfl rfl rfl (fun w h Y=>PySem.W.kIn_of Y) ?F
 case F =>
  intro w mg h KX GG
  refine' G.txt_mk KX GG ..
  all_goals try (refine' G.fn_in ?a_ ?l_ ?c_ ?k_;(case a_=>k_is);(case l_=>k_is);(case c_=>k_is);(case k_=>k_is))
  all_goals try k_is
#print axioms PySem.Challenge.cw_fewties_k11_papers_looked_at_holds
