import PyProof.Rows.All
import Wide.All
import OpenK.AllK
import Wide.FinOn
import PyProof.EqAt
import PyProof.EqKinds
import PyProof.TupleCall
import PyProof.NeData
import PyProof.P3In
import PyProof.WalkInts
import PyProof.Rows.SortWalk
import PyProof.SumWalkG
import PyProof.Rows.CallKwBuiltin
import KE.KDictList
import PyProof.WalksEnum
import PyProof.ZipIter
import PyProof.ConsumeWalk
import PyProof.ListRange
import PyProof.TupleOfSeq
import PyProof.Rows.RuleN_abs
import KE.KRevIter
import PySem.Challenge.RW_fewties_k20_best_papers
open PySem.W (Frag kitOne mg_of nsIn mg_none_of excIn fnOf mroIn keepIn codeIn)
set_option Elab.async false
set_option linter.all false
set_option compiler.extract_closed false
set_option maxRecDepth 100000
set_option maxHeartbeats 4000000
noncomputable section
abbrev ay4:=@List.getElem?_eq_getElem
abbrev ay5:=@List.getElem?_eq_some_iff
abbrev ay6:=@List.mem_of_getElem?
abbrev ay7:=@List.length_map
abbrev ay8:=@Array.getElem?_eq_getElem
abbrev ay9:=@List.getElem?_map
abbrev az0:=@Nat.le_refl
abbrev az1:=@List.mem_append
abbrev az2:=@List.mem_cons
abbrev az3:=@Bool.false_ne_true
abbrev az4:=@List.length_append
abbrev az5:=@List.size_toArray
abbrev az6:=@List.mem_append_right
abbrev az7:=@List.append_assoc
abbrev az8:=@List.mem_cons_of_mem
abbrev az9:=@Nat.ne_of_lt
abbrev aA0:=@List.mem_map
abbrev aA1:=@List.mem_cons_self
abbrev aA2:=@List.mem_range
abbrev aA3:=@List.mem_of_mem_take
abbrev aA4:=@List.take_append_drop
abbrev aA5:=@List.mem_singleton
abbrev aA6:=@List.getElem?_append_left
abbrev aA7:=@List.mem_of_mem_drop
abbrev aA8:=@Nat.lt_of_lt_of_le
abbrev aA9:=@Option.some.inj
abbrev aB0:=@List.mem_append_left
abbrev aB1:=@List.getElem?_append_right
abbrev aB2:=@List.pairwise_append
abbrev aB3:=@Nat.le_trans
abbrev aB4:=@List.map_cons
abbrev aB5:=@List.getElem?_set
abbrev aB6:=@Array.getElem?_toList
abbrev aB7:=@decide_eq_false
abbrev aB8:=@decide_eq_true
abbrev aB9:=@List.map_map
abbrev aC0:=@Nat.lt_of_le_of_lt
abbrev aC1:=@List.map_append
abbrev aC2:=@List.length_cons
abbrev aC3:=@Int.emod_nonneg
abbrev aC4:=@Int.emod_lt_of_pos
abbrev aC5:=@List.map_congr_left
abbrev aC6:=@List.append_nil
abbrev aC7:=@List.take_of_length_le
abbrev aC8:=@List.all_eq_true
abbrev aC9:=@if_pos
abbrev aD0:=@if_neg
abbrev aD1:=@List.getElem?_eq_none_iff
abbrev aD2:=@Nat.lt_succ_of_lt
abbrev aD3:=@List.length_pos_iff
abbrev aD4:=@Nat.zero_le
abbrev aD5:=@List.pairwise_map
abbrev aD6:=@List.ext_getElem?
abbrev aD7:=@beq_iff_eq
abbrev aD8:=@Nat.lt_irrefl
abbrev aD9:=@Nat.le_of_lt
abbrev aE0:=@Array.toList_append
abbrev aE1:=@List.pairwise_iff_getElem
abbrev aE2:=@List.take_length
abbrev aE3:=@List.lookup_cons
abbrev aE4:=@List.length_take
abbrev aE5:=@Bool.and_eq_true
abbrev aE6:=@List.eq_nil_of_length_eq_zero
abbrev aE7:=@List.replicate_succ
abbrev aE8:=@List.take_add_one
abbrev aE9:=@List.getElem?_take_of_lt
abbrev aF0:=@List.mem_iff_getElem
abbrev aF1:=@List.getElem?_replicate
abbrev aF2:=@Bool.eq_iff_iff
abbrev aF3:=@Array.size_push
abbrev aF4:=@List.Pairwise.imp_of_mem
abbrev aF5:=@Option.map_some
abbrev aF6:=@List.getElem?_drop
abbrev aF7:=@List.nodup_cons
abbrev aF8:=@List.pairwise_cons
abbrev aF9:=@Int.zero_add
abbrev aG0:=@List.length_nil
open PySem PySem.Spec in
abbrev aG1:=@wpAny_bind
open PySem PySem.Spec in
abbrev aG2:=@wpAny_pure
open PySem PySem.Spec in
abbrev aG3:=@Heap.get?_push_of_some
open PySem PySem.Spec in
abbrev aG4:=@Heap.lt_size
open PySem PySem.Spec in
abbrev aG5:=@Heap.get?_push_size
open PySem PySem.Spec in
abbrev aG6:=@wpAny_holding
open PySem PySem.Spec in
abbrev aG7:=@PassesOwn.never
open PySem PySem.Spec in
abbrev aG8:=@wpAny_mono
open PySem PySem.Spec in
abbrev aG9:=@wpAny_newObj_type
open PySem PySem.Spec in
abbrev aH0:=@Heap.size_push
open PySem PySem.Spec in
abbrev aH1:=@wpAny_truthy_bool
namespace L2
open PySem PySem.Spec PyProof.Rows
abbrev Key:=Sum Int Str
def afr:Key->Value->Bool
 | .inl k,v=>Value.isInt k v
 | .inr x,v=>Value.isStrOf x v
def keyH (w:World):Key->Int
 | .inl k=>hashInt k
 | .inr x=>hashStr w x
theorem abj:∀ {k:Key} {v:Value},afr k v=true->(∃ i t,k=Sum.inl i/\v=Value.int i t)\/(∃ x t,k=Sum.inr x/\v=Value.str x t)
 | .inl i,v,h=>by
  obtain ⟨t,e⟩:=Value.isInt_shape (k:=i) (v:=v) h
  exact .inl ⟨i,t,rfl,e⟩
 | .inr x,v,h=>by
  obtain ⟨t,e⟩:=Value.isStrOf_shape (x:=x) (v:=v) h
  exact .inr ⟨x,t,rfl,e⟩
theorem aoj (i:Int) (t:Tok):afr (.inl i) (.int i t)=true:=by simp [afr,Value.isInt]
theorem aok (x:Str) (t:Tok):afr (.inr x) (.str x t)=true:=by simp [afr,Value.isStrOf]
theorem av3 (a b:Int):decide ((Sum.inl a:Key)=Sum.inl b)=(a == b):=by
 by_cases e:a=b
 ·subst e;simp
 ·have h:¬ (Sum.inl a:Key)=Sum.inl b:=fun q=>e (Sum.inl.inj q)
  rw [aB7 h]
  exact (beq_eq_false_iff_ne.mpr e).symm
theorem av4 (a b:Str):decide ((Sum.inr a:Key)=Sum.inr b)=decide (a=b):=by
 by_cases e:a=b
 ·subst e;simp
 ·have h:¬ (Sum.inr a:Key)=Sum.inr b:=fun q=>e (Sum.inr.inj q)
  rw [aB7 h,aB7 e]
theorem av5 (a:Int) (b:Str):decide ((Sum.inl a:Key)=Sum.inr b)=false:=aB7 (fun q=>nomatch q)
theorem av6 (a:Str) (b:Int):decide ((Sum.inr a:Key)=Sum.inl b)=false:=aB7 (fun q=>nomatch q)
def aa8 (prog:Program) (w:World):PySem.KeyKind prog w Key where
 is:=afr
 hash:=keyH w
 inj:=fun v a b ha hb=>by
  rcases abj ha with ⟨i,t,rfl,rfl⟩ | ⟨x,t,rfl,rfl⟩
  ·rcases abj hb with ⟨j,u,rfl,e⟩ | ⟨y,u,rfl,e⟩
   ·injection e with e1 _;rw [e1]
   ·exact nomatch e
  ·rcases abj hb with ⟨j,u,rfl,e⟩ | ⟨y,u,rfl,e⟩
   ·exact nomatch e
   ·injection e with e1 _;rw [e1]
 byValue:=fun k v h=>by
  rcases abj h with ⟨i,t,rfl,rfl⟩ | ⟨x,t,rfl,rfl⟩ <;> rfl
 pyHash:=fun hv h=>by
  rcases abj hv with ⟨i,t,rfl,rfl⟩ | ⟨x,t,rfl,rfl⟩
  ·exact wpAny_pyHash_int h
  ·exact wpAny_pyHash_str h
 eqBool:=fun hu hv h=>by
  rcases abj hu with ⟨i,t,rfl,rfl⟩ | ⟨x,t,rfl,rfl⟩
  ·rcases abj hv with ⟨j,u,rfl,rfl⟩ | ⟨y,u,rfl,rfl⟩
   ·rw [av3] at h;exact wpAny_eqBool_int h
   ·rw [av5] at h;exact SeqAt.EqAt.int_str i t y u _ _ _ _ h
  ·rcases abj hv with ⟨j,u,rfl,rfl⟩ | ⟨y,u,rfl,rfl⟩
   ·rw [av6] at h;exact SeqAt.EqAt.str_int x t j u _ _ _ _ h
   ·rw [av4] at h;exact wpAny_eqBool_str h
 «strs»:=fun k x t v h=>by
  rcases abj h with ⟨i,u,rfl,e⟩ | ⟨y,u,rfl,e⟩
  ·exact nomatch e
  ·injection e with e1 _
   subst e1
   cases v <;> rfl
theorem aly (prog:Program) (w:World) (i:Int) (t:Tok):(aa8 prog w).is (.inl i) (.int i t)=true:=aoj i t
theorem alz (prog:Program) (w:World) (x:Str) (t:Tok):(aa8 prog w).is (.inr x) (.str x t)=true:=aok x t
inductive V where
 | non | bl (b:Bool) | int (i:Int) | str (x:Str) | byt (b:Array UInt8) | flt (b:UInt64) | ref (a:Addr) | ty (n:String)
 deriving DecidableEq
def RelV:V->Value->Prop
 | .non,u=>u=Value.none
 | .bl b,u=>u=Value.bool b
 | .int i,u=>∃ t,u=Value.int i t
 | .str x,u=>∃ t,u=Value.str x t
 | .byt b,u=>∃ t,u=Value.bytes b t
 | .flt b,u=>∃ t,u=Value.float b t
 | .ref a,u=>u=Value.ref a
 | .ty n,u=>u=Value.type n
abbrev Vals:List V->List Value->Prop:=Paired RelV
theorem Vals.length {xs:List V} {us:List Value} (r:Vals xs us):xs.length=us.length:=Paired.length r
theorem Vals.get:∀ {xs:List V} {us:List Value} {i:Nat} {x:V},Vals xs us->xs[i]?=some x->∃ u,us[i]?=some u/\RelV x u
 | _,_,_,_,.nil,e=>by simp at e
 | _,_,0,_,.cons r _,e=>by simp at e;subst e;exact ⟨_,rfl,r⟩
 | _,_,i+1,x,.cons _ t,e=>by
  obtain ⟨u,a,b⟩:=Vals.get (i:=i) (x:=x) t (by simpa using e)
  exact ⟨u,by simpa using a,b⟩
theorem Vals.set {x:V} {u:Value} (r:RelV x u):∀ {xs:List V} {us:List Value} (i:Nat),Vals xs us->Vals (xs.set i x) (us.set i u)
 | _,_,_,.nil => .nil
 | _,_,0,.cons _ t => .cons r t
 | _,_,i+1,.cons q t => .cons q (Vals.set r i t)
theorem Vals.append:∀ {xs ys:List V} {us a:List Value},Vals xs us->Vals ys a->Vals (xs ++ ys) (us ++ a)
 | _,_,_,_,.nil,s=>s
 | _,_,_,_,.cons r t,s => .cons r (Vals.append t s)
theorem Vals.take:∀ {xs:List V} {us:List Value} (n:Nat),Vals xs us->Vals (xs.take n) (us.take n)
 | _,_,0,_ => .nil
 | _,_,_+1,.nil => .nil
 | _,_,n+1,.cons r t => .cons r (Vals.take n t)
theorem Vals.drop:∀ {xs:List V} {us:List Value} (n:Nat),Vals xs us->Vals (xs.drop n) (us.drop n)
 | _,_,0,r=>r
 | _,_,_+1,.nil => .nil
 | _,_,n+1,.cons _ t=>Vals.drop n t
def RelO:Option V->Option Value->Prop
 | some v,some u=>RelV v u
 | none,none=>True
 | _,_=>False
def KV {κ:Type}:List (κ × V)->List (κ × Value)->Prop:=Paired fun (p : κ × V) (q : κ × Value)=>p.1=q.1/\RelV p.2 q.2
def kV:Key->V
 | .inl i => .int i
 | .inr x => .str x
inductive HO where
 /-- a list -/
 | lst (xs:List V)
 /-- a tuple (never changes) -/
 | tup (xs:List V)
 /-- a dict whose keys are ints and texts; one whose keys are tuples of ints and texts (the empty one is both) -/
 | dK (kvs:List (Key × V)) | dT (kvs:List (List Key × V))
 /-- a set of ints: its members, its size -/
 | set (S:Int->Bool) (n:Nat)
 /-- an instance of the class at C, its dict at dx, its attributes -/
 | ins (C dx:Addr) (fs:List (Str × V))
 /-- the dict of the instance at x -/
 | own (x:Addr)
 /-- the dict of an exception -/
 | xd (fs:List (Str × V))
 /-- a bound method, f of x -/
 | met (f x:Addr)
 /-- a range object lo, lo + 1, .. below hi -/
 | rng (lo hi:Int)
 /-- a thing that is known to the object (the script; a dict while a loop walks it): read, never written while it is so -/
 | frz (o:Obj) (u:HO)
 /-- a code object's table -/
 | tbl (ps:Array Value)
 /-- any other thing, by what is true of its one object (a def of one's own: SetO a S n:=HO.ext fun h => ..) -/
 | ext (φ:Heap->Prop)
abbrev Hp:=Addr->Option HO
def upd (H:Hp) (a:Addr) (o:HO):Hp:=fun b=>if b=a then some o else H b
theorem aai {H:Hp} {a:Addr} {o:HO}:upd H a o a=some o:=by unfold upd;rw [aC9 rfl]
theorem aag {H:Hp} {a b:Addr} {o:HO} (h:b ≠ a):upd H a o b=H b:=by unfold upd;rw [aD0 h]
theorem asr {H:Hp} {a b:Addr} {o u:HO} (h:H a=some o) (h':H b=some u) (d:o ≠ u):a ≠ b:=by
 intro e;subst e;rw [h] at h';exact d (aA9 h')
theorem aap {H:Hp} {a b:Addr} {o:HO} (h:H a=some o) (h':H b=none):a ≠ b:=by
 intro e;subst e;rw [h] at h';cases h'
section
variable (P:Program) (w:World)
def ObjOk (H:Hp) (h:Heap) (a:Addr):HO->Prop
 | .lst xs=>xs.length<=sizeLine/\∃ (its:List Value) (n:Nat),Vals xs its/\h.get? a=some { cls:=.type "list",data:=.seq its.toArray n }
 | .tup xs=>xs.length<=sizeLine/\∃ its:List Value,Vals xs its/\IsTup h a its.toArray
 | .dK kvs=>kvs.length<=sizeLine/\(a == sysModules)=false/\∃ vs,KV kvs vs/\h.DictOf (aa8 P w) a vs
 | .dT kvs=>kvs.length<=sizeLine/\(a == sysModules)=false/\∃ xs:List (List Key × Addr × Value),
   Paired (fun (p:List Key × V) (q:List Key × Addr × Value)=>p.1=q.1/\H q.2.1=some (.tup (p.1.map kV))/\RelV p.2 q.2.2) kvs xs /\
   ∃ o es ep,h.get? a=some o/\o.ExactDict/\o.data=.dict es ep/\es.toList=xs.map (entryOfKey (tupleKind (aa8 P w)))/\(xs.map (·.1)).Nodup
 | .set S n=>h.SetOf (intKind P w) a S n
 | .ins C dx fs=>H dx=some (.own a)/\fs.length<=1000/\dx ≠ a/\h.get? a=some (PySem.W.instObj C dx) /\
   ∃ mA,h.Ns1 dx mA/\(∀ f,RelO (fs.lookup f) (mA f))/\PySem.Within mA (fs.map (·.1))
 | .own _=>∃ o,h.get? a=some o
 | .xd fs=>∃ mA,h.Ns1 a mA/\∀ f,RelO (fs.lookup f) (mA f)
 | .rng lo hi=>∃ t u v,h.get? a=some { cls:=.type "range",data:=.fields #[.int lo t,.int hi u,.int 1 v] }
 | .frz o u=>h.get? a=some o/\ObjOk H h a u
 | .tbl ps=>h.get? a=some { cls:=.none,data:=.fields ps }
 | .met f x=>h.get? a=some (PySem.W.methodObj (.ref f) (.ref x))
 | .ext φ => φ h/\(∃ o,h.get? a=some o)/\∀ h1 h2:Heap,φ h1->(∀ o,h1.get? a=some o->h2.get? a=some o)->φ h2
def HOk (H:Hp) (h:Heap):Prop:=∀ a o,H a=some o->ObjOk P w H h a o
end
section
variable {P:Program} {w:World} {H H':Hp} {h h':Heap} {a:Addr} {o:HO}
theorem ObjOk.lt (x:ObjOk P w H h a o):a < h.objs.size:=by
 cases o with
 | lst xs=>obtain ⟨_,_,_,_,e⟩:=x;exact aG4 e
 | tup xs=>obtain ⟨_,_,_,p⟩:=x;exact p.lt
 | dK kvs=>obtain ⟨_,_,_,_,o,_,_,e,_⟩:=x;exact aG4 e
 | dT kvs=>obtain ⟨_,_,_,_,o,_,_,e,_⟩:=x;exact aG4 e
 | set S n=>obtain ⟨o,_,_,_,e,_⟩:=x;exact aG4 e
 | ins C dx fs=>obtain ⟨_,_,_,e,_⟩:=x;exact aG4 e
 | own y=>obtain ⟨_,e⟩:=x;exact aG4 e
 | xd fs=>obtain ⟨_,⟨_,_,_,e,_⟩,_⟩:=x;exact aG4 e
 | rng lo hi=>obtain ⟨_,_,_,e⟩:=x;exact aG4 e
 | frz ob u=>obtain ⟨e,_⟩:=x;exact aG4 e
 | tbl ps=>exact aG4 (show h.get? a=some _ from x)
 | met f y=>exact aG4 (show h.get? a=some _ from x)
 | ext φ=>obtain ⟨_,⟨_,e⟩,_⟩:=x;exact aG4 e
theorem Paired.mapP {α β:Type} {F G : α->β->Prop}:∀ {d:List α} {c:List β},Paired F d c->(∀ a b,F a b->G a b)->Paired G d c
 | _,_,.nil,_ => .nil
 | _,_,.cons r t,f => .cons (f _ _ r) (Paired.mapP t f)
theorem ObjOk.stay (x:ObjOk P w H h a o) (k:∀ b u,(b=a\/H b=some (.own a))->h.get? b=some u->h'.get? b=some u)
  (m:∀ b,H b=some (.own a)->H' b=some (.own a)) (j:∀ b xs,H b=some (.tup xs)->H' b=some (.tup xs)):ObjOk P w H' h' a o:=by
 induction o with
 | lst xs=>obtain ⟨z,its,n,r,e⟩:=x;exact ⟨z,its,n,r,k _ _ (.inl rfl) e⟩
 | tup xs=>obtain ⟨z,its,r,g,e,c⟩:=x;exact ⟨z,its,r,g,k _ _ (.inl rfl) e,c⟩
 | dK kvs=>obtain ⟨z,y,vs,r,g,es,i,e,c⟩:=x;exact ⟨z,y,vs,r,g,es,i,k _ _ (.inl rfl) e,c⟩
 | dT kvs =>
  obtain ⟨z,y,xs,r,g,es,i,e,c⟩:=x
  exact ⟨z,y,xs,Paired.mapP r fun p q z=>⟨z.1,j _ _ z.2.1,z.2.2⟩,g,es,i,k _ _ (.inl rfl) e,c⟩
 | set S n=>obtain ⟨g,es,i,t,e,c⟩:=x;exact ⟨g,es,i,t,k _ _ (.inl rfl) e,c⟩
 | ins C dx fs =>
  obtain ⟨d,z,ne,e,mA,⟨od,es,i,l,c⟩,r⟩:=x
  exact ⟨m _ d,z,ne,k _ _ (.inl rfl) e,mA,⟨od,es,i,k _ _ (.inr d) l,c⟩,r⟩
 | own y=>obtain ⟨g,e⟩:=x;exact ⟨g,k _ _ (.inl rfl) e⟩
 | xd fs=>obtain ⟨mA,⟨od,es,i,e,c⟩,r⟩:=x;exact ⟨mA,⟨od,es,i,k _ _ (.inl rfl) e,c⟩,r⟩
 | rng lo hi=>obtain ⟨t,u,v,e⟩:=x;exact ⟨t,u,v,k _ _ (.inl rfl) e⟩
 | frz g u ih=>obtain ⟨e,q⟩:=x;exact ⟨k _ _ (.inl rfl) e,ih q⟩
 | tbl ps =>
  have e:h.get? a=some { cls:=.none,data:=.fields ps }:=x
  show h'.get? a=some { cls:=.none,data:=.fields ps }
  exact k a _ (.inl rfl) e
 | met f y =>
  have e:h.get? a=some (PySem.W.methodObj (.ref f) (.ref y)):=x
  show h'.get? a=some (PySem.W.methodObj (.ref f) (.ref y))
  exact k a _ (.inl rfl) e
 | ext φ=>obtain ⟨p,⟨o,e⟩,st⟩:=x;exact ⟨st _ _ p fun o q=>k _ _ (.inl rfl) q,⟨o,k _ _ (.inl rfl) e⟩,st⟩
theorem HOk.lt (x:HOk P w H h) (e:H a=some o):a < h.objs.size:=(x a o e).lt
theorem HOk.fresh (x:HOk P w H h) (e:h.objs.size<=a):H a=none:=by
 cases q:H a with
 | none=>rfl
 | some u=>exact absurd (aA8 (x.lt q) e) (aD8 _)
theorem HOk.kept (x:HOk P w H h) (k:∀ b u,h.get? b=some u->h'.get? b=some u):HOk P w H h':=fun a o e =>
 (x a o e).stay (fun b u _ q=>k b u q) (fun _ q=>q) fun _ _ q=>q
theorem HOk.laid (x:HOk P w H h) (k:∀ b u,h.get? b=some u->h'.get? b=some u) (d:h.objs.size<=a) (new:ObjOk P w (upd H a o) h' a o):HOk P w (upd H a o) h':=fun b u e=>by
 have hn:=x.fresh d
 by_cases hb:b=a
 ·subst hb;rw [aai] at e;cases e;exact new
 ·rw [aag hb] at e
  exact (x b u e).stay (fun c v _ q=>k c v q) (fun c q=>by rw [aag (aap q hn)];exact q) fun c xs q=>by rw [aag (aap q hn)];exact q
end
def Rd (H:Hp) (a:Addr) (u:HO):Prop:=H a=some u\/∃ o,H a=some (.frz o u)
theorem Rd.of {H:Hp} {a:Addr} {u:HO} (h:H a=some u):Rd H a u:=.inl h
theorem Rd.ok {P:Program} {w:World} {H:Hp} {h:Heap} {a:Addr} {u:HO} (r:Rd H a u) (x:HOk P w H h):ObjOk P w H h a u:=by
 rcases r with r | ⟨o,r⟩
 ·exact x a u r
 ·obtain ⟨_,q⟩:=x a _ r
  exact q
def Mut:Option HO->Prop
 | some (.lst _)=>True
 | some (.dK _)=>True
 | some (.dT _)=>True
 | some (.set _ _)=>True
 | some (.ins _ _ _)=>True
 | some (.ext _)=>True
 | _=>False
section
variable {P:Program} {w:World} {H:Hp} {h h':Heap} {x e:Addr} {o':HO}
theorem HOk.write (ok:HOk P w H h) (f:Mut (H x)) (j:e=x\/H e=some (.own x)) (k:∀ b u,b ≠ e->h.get? b=some u->h'.get? b=some u) (i:∃ u,h'.get? e=some u)
  (new:ObjOk P w (upd H x o') h' x o'):HOk P w (upd H x o') h':=fun b u q=>by
 have a:∀ c y,H c=some (.own y)->c ≠ x:=fun c y r z=>by subst z;rw [r] at f;exact f
 have d:∀ c xs,H c=some (.tup xs)->c ≠ x:=fun c xs r z=>by subst z;rw [r] at f;exact f
 by_cases hb:b=x
 ·subst hb;rw [aai] at q;cases q;exact new
 ·rw [aag hb] at q
  by_cases hbe:b=e
  ·have l:H b=some (.own x):=by
    rcases j with z | z
    ·exact absurd (hbe.trans z) hb
    ·rw [hbe];exact z
   rw [q] at l;cases l
   obtain ⟨v,m⟩:=i
   exact ⟨v,by rw [hbe];exact m⟩
  ·refine (ok b u q).stay (fun c v g r=>k c v ?_ r) (fun c r=>by rw [aag (a c b r)];exact r) fun c xs r=>by rw [aag (d c xs r)];exact r
   rcases g with rfl | g
   ·exact hbe
   ·rintro rfl
    rcases j with z | z
    ·exact a c b g z
    ·rw [g] at z;cases z;exact hb rfl
end
structure Un (fs ex:List Addr) (H H':Hp) (h h':Heap):Prop where
 keep:∀ b o,h.get? b=some o->H b=none->b ∉ fs->b ∉ ex->h'.get? b=some o
 slot:∀ b o,h.get? b=some o->H b=none->b∈fs->b ∉ ex->∃ sl,h'.get? b=some { o with slots:=sl }
 free:∀ b o,h.get? b=some o->H b=none->b ∉ ex->H' b=none
 there:∀ b o,h.get? b=some o->b ∉ ex->∃ o',h'.get? b=some o'
 tups:∀ b xs,H b=some (.tup xs)->H' b=some (.tup xs)
 frzs:∀ b o u,H b=some (.frz o u)->H' b=some (.frz o u)
 tbls:∀ b ps,H b=some (.tbl ps)->∃ more,H' b=some (.tbl (ps ++ more))
section
variable {fs fs' ex ex':List Addr} {H H1 H2:Hp} {h h1 h2 h':Heap} {a x e:Addr} {o:HO}
theorem Un.any (u:Un fs ex H H1 h h1) {b:Addr} {a:Obj} (q:h.get? b=some a) (n:H b=none) (c:b ∉ ex):∃ sl,h1.get? b=some { a with slots:=sl }:=by
 by_cases hb:b∈fs
 ·exact u.slot b a q n hb c
 ·exact ⟨a.slots,u.keep b a q n hb c⟩
theorem Un.trans (a:Un fs ex H H1 h h1) (b:Un fs ex H1 H2 h1 h2):Un fs ex H H2 h h2 where
 keep:=fun c f q n i d=>b.keep c f (a.keep c f q n i d) (a.free c f q n d) i d
 slot:=fun c f q n i d=>by
  obtain ⟨sl,g⟩:=a.slot c f q n i d
  obtain ⟨l,j⟩:=b.slot c _ g (a.free c f q n d) i d
  exact ⟨l,j⟩
 free:=fun c f q n d=>by
  obtain ⟨o',g⟩:=a.there c f q d
  exact b.free c o' g (a.free c f q n d) d
 there:=fun c f q d=>by
  obtain ⟨o',g⟩:=a.there c f q d
  exact b.there c o' g d
 tups:=fun c xs q=>b.tups c xs (a.tups c xs q)
 frzs:=fun c f xs q=>b.frzs c f xs (a.frzs c f xs q)
 tbls:=fun c ps q=>by
  obtain ⟨o,g⟩:=a.tbls c ps q
  obtain ⟨m,j⟩:=b.tbls c _ g
  exact ⟨o ++ m,by rw [j,Array.append_assoc]⟩
theorem Un.kept (k:∀ b u,h.get? b=some u->h'.get? b=some u):Un fs ex H H h h' :=
 ⟨fun b a q _ _ _=>k b a q,fun b a q _ _ _=>⟨a.slots,k b a q⟩,fun _ _ _ n _=>n,fun b a q _=>⟨a,k b a q⟩,fun _ _ q=>q,fun _ _ _ q=>q,fun _ ps q=>⟨#[],by rw [q];simp⟩⟩
theorem Un.refl:Un fs ex H H h h:=Un.kept fun _ _ q=>q
theorem Un.laid (k:∀ b u,h.get? b=some u->h'.get? b=some u) (c:h.objs.size<=a) (hn:H a=none):Un fs ex H (upd H a o) h h' where
 keep:=fun b u q _ _ _=>k b u q
 slot:=fun b u q _ _ _=>⟨u.slots,k b u q⟩
 free:=fun b u q n _=>by rw [aag (az9 (aA8 (aG4 q) c))];exact n
 there:=fun b u q _=>⟨u,k b u q⟩
 tups:=fun b xs q=>by rw [aag (aap q hn)];exact q
 frzs:=fun b u xs q=>by rw [aag (aap q hn)];exact q
 tbls:=fun b ps q=>⟨#[],by rw [aag (aap q hn),q];simp⟩
theorem Un.write (a:Mut (H x)) (f:e=x\/H e=some (.own x)) (k:∀ b u,b ≠ e->h.get? b=some u->h'.get? b=some u) (c:∃ u,h'.get? e=some u):Un fs ex H (upd H x o) h h':=by
 have d:∀ b,H b=none->b ≠ x:=fun b n z=>by subst z;rw [n] at a;exact a
 have hb:∀ b,H b=none->b ≠ e:=fun b n z=>by
  subst z
  rcases f with r | r
  ·exact d b n r
  ·rw [n] at r;cases r
 have hm:∀ b u,H b=some u->¬ Mut (some u)->b ≠ x:=fun b u q g z=>by subst z;rw [q] at a;exact g a
 refine ⟨fun b u q n _ _=>k b u (hb b n) q,fun b u q n _ _=>⟨u.slots,k b u (hb b n) q⟩,fun b u q n _=>by rw [aag (d b n)];exact n,fun b u q _=>?_,
  fun b xs q=>by rw [aag (hm b _ q fun z=>z)];exact q,fun b u xs q=>by rw [aag (hm b _ q fun z=>z)];exact q,fun b ps q=>⟨#[],by rw [aag (hm b _ q fun z=>z),q];simp⟩⟩
 by_cases hbe:b=e
 ·subst hbe;exact c
 ·exact ⟨u,k b u hbe q⟩
theorem Un.mono (u:Un fs ex H H1 h h1) (f:∀ b∈fs,b∈fs') (d:∀ b∈ex,b∈ex'):Un fs' ex' H H1 h h1 :=
 ⟨fun b c q n hb a=>u.keep b c q n (fun z=>hb (f b z)) fun z=>a (d b z),fun _ _ q n _ a=>u.any q n fun z=>a (d _ z),fun b c q n a=>u.free b c q n fun z=>a (d b z),fun b c q a=>u.there b c q fun z=>a (d b z),u.tups,u.frzs,u.tbls⟩
end
def trk (h:Heap) (H:Hp):List Addr:=(List.range h.objs.size).filter fun a=>(H a).isSome
def hidT (h:Heap) (H:Hp):Heap:=PySem.W.hideAll h (trk h H)
theorem aol (h:Heap) (H:Hp):(hidT h H).objs.size=h.objs.size:=PySem.W.hideAll_size _ _
theorem aqq {h:Heap} {H:Hp} {b:Addr} {o:Obj} (e:h.get? b=some o) (n:H b=none):(hidT h H).get? b=some o :=
 PySem.W.hideAll_get _ e fun hm=>by
  have q:(H b).isSome=true:=(List.mem_filter.mp hm).2
  rw [n] at q;simp at q
theorem ath {h:Heap} {H:Hp} {b:Addr} {o:Obj} (e:(hidT h H).get? b=some o):h.get? b=some o/\H b=none:=by
 have a:h.get? b=some o:=PySem.W.of_hideAll (trk h H) e
 refine ⟨a,?_⟩
 cases q:H b with
 | none=>rfl
 | some x =>
  have hm:b∈trk h H:=List.mem_filter.mpr ⟨aA2.mpr (aG4 a),by simp [q]⟩
  have z:(hidT h H).get? b=none:=PySem.W.hideAll_none (trk h H) hm
  rw [z] at e;cases e
def ati (g h:Heap) (L:Addr):List (Addr × Obj):=(List.range h.objs.size).filterMap fun a=>if a=L\/(g.get? a).isSome=true then none else (h.get? a).map fun o=>(a,o)
def rest (g h:Heap) (L d:Addr):List (Addr × Obj):=(ati g h L).filter fun p=>decide (p.1 ≠ d)
structure Mod (K:Frag) (mg:Str->Option Value) (base:Heap):Prop where
 kin:K.In base
 glob:base.Ns mainGlobals mg
 blt:∃ mb,base.Ns builtinsNs mb/\∀ x:Str,x ≠ "__name__"->mb x=bootBuiltins x
 nolimit:base.NoLimit
/-- the context: a def's body (or a comprehension's block) running. base: fixed through the whole law; s₀, H₀: the entry; outer: the frames whose slots others may change (a def's callers); stack: all frames that run;
  ex: iterators that were made ahead of the entry and are walked here (a comprehension's);fn: the names whose cells were made at the entry (a def: all;a comprehension's block: its own);calm: not within an except suite;pn: pins that every state bears;xe: what is wanted of an exception that leaves the code -/
structure Cx where
 prog:Program
 w:World
 K:Frag
 mg:Str->Option Value
 base:Heap
 A:Around
 N:List Str
 s₀:Shared
 H₀:Hp
 env:Env
 outer:List Env
 stack:List Env
 ex:List Addr
 fn:Str->Bool
 calm:Bool
 pn:List (Addr × Obj)
 xe:Value->Shared->Prop
def frs (l:List Env):List Addr:=l.filterMap (·.frame)
abbrev Cx.fs (X:Cx):List Addr:=frs X.outer
def Vis (sc:Scope) (x:Str):Prop:=sc.names.lookup x=some .local\/sc.names.lookup x=some .cell\/sc.names.lookup x=some .free
def Loc (sc:Scope) (x:Str):Prop:=sc.names.lookup x=some .local\/sc.names.lookup x=some .cell
def Look (env:Env) (h:Heap) (m:Str->Option Value) (x:Str) (u:Value):Prop :=
 (env.kindOf x=some .local/\m x=some u)\/((env.kindOf x=some .cell\/env.kindOf x=some .free)/\∃ c,env.cells.lookup x=some c/\h.IsCell c (some u))
structure Cx.Ok (X:Cx):Prop where
 mod:Mod X.K X.mg X.base
 kind:X.env.scope.kind=.function
 glob:X.env.globals=mainGlobals
 blt:X.env.builtins=builtinsNs
 above:X.s₀.heap.objs.size<=X.env.locals
 inj:∀ x y c,X.env.cells.lookup x=some c->X.env.cells.lookup y=some c->x=y
 has:∀ x,(X.env.kindOf x=some .cell\/X.env.kindOf x=some .free)->∃ c,X.env.cells.lookup x=some c
 cab:∀ x c,X.fn x=true->X.env.cells.lookup x=some c->X.s₀.heap.objs.size<=c
 hd:X.calm=true->X.A.handled=none
 frames:X.A.frames=some X.stack
 stk:X.stack=X.outer\/(X.stack=X.env :: X.outer/\X.env.frame=some X.env.locals)
 exf:∀ b∈X.ex,b ≠ X.env.locals/\∀ x c,X.env.cells.lookup x=some c->c ≠ b
 bs:∀ b o,X.base.get? b=some o->X.s₀.heap.get? b=some o/\X.H₀ b=none
 bsz:X.base.objs.size<=X.s₀.heap.objs.size
 noex:∀ b o,X.base.get? b=some o->b ∉ X.ex
 exfs:∀ b∈X.ex,b ∉ X.fs
 funs:X.s₀.heap.FunFrames X.base X.outer
 frf:∀ b∈X.fs,X.H₀ b=none
structure Inv (X:Cx) (pins:List (Addr × Obj)) (σ:List (Option V)) (H:Hp) (s:Shared):Prop where
 ok:X.Ok
 os:s.os=X.s₀.os
 bare:AllBare s.gens
 base:Un X.fs X.ex X.H₀ H X.s₀.heap s.heap
 loc:∃ m,s.heap.Ns X.env.locals m/\∀ (i:Nat) (x:Str) (v:V),X.N[i]?=some x->σ[i]?=some (some v)->Vis X.env.scope x->∃ u,RelV v u/\Look X.env s.heap m x u
 cell:∀ x c,X.env.cells.lookup x=some c->∃ v,s.heap.IsCell c v
 free:H X.env.locals=none
 freeC:∀ x c,X.env.cells.lookup x=some c->H c=none
 pin:∀ p∈X.pn ++ pins,s.heap.get? p.1=some p.2/\H p.1=none/\p.1 ≠ X.env.locals/\p.1 ∉ X.fs/\∀ v,p.2.data ≠ .cell v
 hok:HOk X.prog X.w H s.heap
 len : σ.length=X.N.length
section
variable {X:Cx} {pins:List (Addr × Obj)} {σ:List (Option V)} {H H':Hp} {s:Shared} {h':Heap}
theorem Cx.Ok.nofr (ok:X.Ok) {b:Addr} {o:Obj} (e:X.base.get? b=some o):b ∉ X.fs:=fun hb=>by
 have:=(ok.funs.mem hb).1
 rw [e] at this;cases this
theorem Inv.bs (I:Inv X pins σ H s):∀ b o,X.base.get? b=some o->s.heap.get? b=some o/\H b=none:=fun b o e =>
 ⟨I.base.keep b o (I.ok.bs b o e).1 (I.ok.bs b o e).2 (I.ok.nofr e) (I.ok.noex b o e),I.base.free b o (I.ok.bs b o e).1 (I.ok.bs b o e).2 (I.ok.noex b o e)⟩
theorem Inv.bk (I:Inv X pins σ H s):∀ b o,X.base.get? b=some o->s.heap.get? b=some o:=fun b o e=>(I.bs b o e).1
theorem Inv.mod (I:Inv X pins σ H s):Mod X.K X.mg X.base:=I.ok.mod
theorem Inv.kIn (I:Inv X pins σ H s):X.K.In s.heap:=I.ok.mod.kin.keeps I.bk
theorem Inv.fr (I:Inv X pins σ H s):∃ m,Fr X.base X.env.locals s.heap m :=
 let ⟨m,hn,_⟩:=I.loc
 ⟨m,hn,I.bk,aB3 I.ok.bsz I.ok.above⟩
theorem Inv.lt (I:Inv X pins σ H s):X.env.locals < s.heap.objs.size:=let ⟨_,hn,_⟩:=I.loc;hn.lt
theorem Inv.sz (I:Inv X pins σ H s):X.s₀.heap.objs.size<=s.heap.objs.size:=aB3 I.ok.above (aD9 I.lt)
theorem Inv.nofs (I:Inv X pins σ H s) {a:Addr} (h:s.heap.objs.size<=a):a ∉ X.fs:=fun hb=>by
 obtain ⟨_,o,b,_⟩:=I.ok.funs.mem hb
 exact absurd (aA8 (aG4 b) (aB3 I.sz h)) (aD8 _)
theorem Inv.cne (I:Inv X pins σ H s):∀ x c,X.env.cells.lookup x=some c->c ≠ X.env.locals:=fun x c e z=>by
 obtain ⟨v,o,d,hd⟩:=I.cell x c e
 obtain ⟨m,⟨o',es,f,b,a,_⟩,_⟩:=I.loc
 rw [z,b] at d;cases d;rw [a] at hd;cases hd
theorem Inv.funs (I:Inv X pins σ H s):s.heap.FunFrames X.base X.outer:=by
 have all:∀ (l:List Env),(∀ b∈frs l,b∈X.fs)->X.s₀.heap.FunFrames X.base l->s.heap.FunFrames X.base l:=by
  intro l
  induction l with
  | nil=>intro _ _;trivial
  | cons env r ih =>
   intro c f
   obtain ⟨g,⟨L,o,hf,hn,h,hd⟩,d⟩:=f
   have a:L∈X.fs:=c L (by unfold frs;rw [List.filterMap_cons,hf];exact aA1)
   obtain ⟨sl,e⟩:=I.base.slot L o h (I.ok.frf L a) a fun z=>I.ok.exfs L z a
   exact ⟨g,⟨L,_,hf,hn,e,hd⟩,ih (fun b hb=>c b (by unfold frs;rw [List.filterMap_cons,hf];exact az8 _ hb)) d⟩
 exact all X.outer (fun _ hb=>hb) I.ok.funs
theorem Inv.stack (I:Inv X pins σ H s):s.heap.FunFrames X.base X.stack:=by
 rcases I.ok.stk with e | ⟨e,hf⟩
 ·rw [e];exact I.funs
 ·rw [e]
  obtain ⟨m,hn,_⟩:=I.loc
  refine .cons (by rw [I.ok.kind];decide) hf hn ?_ I.funs
  exact Heap.get?_none_of_le (aB3 I.ok.bsz I.ok.above)
theorem Inv.stkSub (I:Inv X pins σ H s):∀ b∈frs X.stack,b∈X.env.locals :: X.fs:=fun b hb=>by
 rcases I.ok.stk with e | ⟨e,hf⟩
 ·rw [e] at hb;exact az8 _ hb
 ·rw [e] at hb
  unfold frs at hb
  rw [List.filterMap_cons,hf] at hb
  exact hb
theorem Inv.stkFree (I:Inv X pins σ H s):∀ b∈frs X.stack,H b=none:=fun b hb=>by
 rcases az2.mp (I.stkSub b hb) with e | hb
 ·rw [e];exact I.free
 ·obtain ⟨_,o,a,_⟩:=I.ok.funs.mem hb
  exact I.base.free b o a (I.ok.frf b hb) fun z=>I.ok.exfs b z hb
theorem Inv.step {g':Array GenState} {t':Nat} {d':Drawn} {ch:List Addr} (I:Inv X pins σ H s)
  (f:∀ b∈ch,(b∈X.ex\/X.s₀.heap.objs.size<=b)/\b ≠ X.env.locals/\(∀ x c,X.env.cells.lookup x=some c->c ≠ b)/\∀ p∈X.pn ++ pins,p.1 ≠ b)
  (keep:∀ b o,b ≠ X.env.locals->b ∉ X.fs->b ∉ ch->s.heap.get? b=some o->H b=none->h'.get? b=some o)
  (slot:∀ b o,b ≠ X.env.locals->b∈X.fs->b ∉ ch->s.heap.get? b=some o->H b=none->∃ sl,h'.get? b=some { o with slots:=sl }) (free:∀ b o,b ∉ ch->s.heap.get? b=some o->H b=none->H' b=none)
  (there:∀ b o,b ∉ ch->s.heap.get? b=some o->∃ o',h'.get? b=some o')
  (tups:∀ b xs,H b=some (.tup xs)->H' b=some (.tup xs)) (frzs:∀ b o u,H b=some (.frz o u)->H' b=some (.frz o u)) (tbls:∀ b ps,H b=some (.tbl ps)->∃ more,H' b=some (.tbl (ps ++ more)))
  (ns:∀ m,s.heap.Ns X.env.locals m->h'.Ns X.env.locals m) (hok:HOk X.prog X.w H' h') (J:AllBare g') :
  Inv X pins σ H' { s with heap:=h',gens:=g',drawn:=d',toks:=t' }:=by
 have B:∀ b o,X.s₀.heap.get? b=some o->b ≠ X.env.locals:=fun b o e=>az9 (aA8 (aG4 e) I.ok.above)
 have j:∀ b o,X.s₀.heap.get? b=some o->b ∉ X.ex->b ∉ ch:=fun b o e a hb=>by
  rcases (f b hb).1 with z | z
  ·exact a z
  ·exact absurd (aA8 (aG4 e) z) (aD8 _)
 have h:∀ x c,X.env.cells.lookup x=some c->∀ v,s.heap.IsCell c v->h'.IsCell c v:=fun x c e v G=>by
  obtain ⟨o,A,hd⟩:=G
  have g:c ∉ ch:=fun z=>(f c z).2.2.1 x c e rfl
  by_cases hc:c∈X.fs
  ·obtain ⟨sl,q⟩:=slot c o (I.cne x c e) hc g A (I.freeC x c e)
   exact ⟨_,q,hd⟩
  ·exact ⟨o,keep c o (I.cne x c e) hc g A (I.freeC x c e),hd⟩
 refine ⟨I.ok,I.os,J,⟨fun b o e n hb a=>?_,fun b o e n hb a=>?_,fun b o e n a=>?_,fun b o e a=>?_,fun b xs e=>tups b xs (I.base.tups b xs e),fun b o xs e=>frzs b o xs (I.base.frzs b o xs e),fun b ps e=>?_⟩,?_,fun x c e=>?_,?_,fun x c e=>?_,fun p E=>?_,hok,I.len⟩
 ·exact keep b o (B b o e) hb (j b o e a) (I.base.keep b o e n hb a) (I.base.free b o e n a)
 ·obtain ⟨sl,y⟩:=I.base.slot b o e n hb a
  obtain ⟨D,C⟩:=slot b _ (B b o e) hb (j b o e a) y (I.base.free b o e n a)
  exact ⟨D,C⟩
 ·obtain ⟨o',y⟩:=I.base.there b o e a
  exact free b o' (j b o e a) y (I.base.free b o e n a)
 ·obtain ⟨o',y⟩:=I.base.there b o e a
  exact there b o' (j b o e a) y
 ·obtain ⟨K,y⟩:=I.base.tbls b ps e
  obtain ⟨N,C⟩:=tbls b _ y
  exact ⟨K ++ N,by rw [C,Array.append_assoc]⟩
 ·obtain ⟨m,hn,M⟩:=I.loc
  refine ⟨m,ns m hn,fun i x v y C L=>?_⟩
  obtain ⟨u,r,l⟩:=M i x v y C L
  refine ⟨u,r,?_⟩
  rcases l with l | ⟨k,c,e,z⟩
  ·exact .inl l
  ·exact .inr ⟨k,c,e,h x c e _ z⟩
 ·obtain ⟨v,z⟩:=I.cell x c e
  exact ⟨v,h x c e v z⟩
 ·obtain ⟨m,⟨o,_,_,A,_⟩,_⟩:=I.loc
  exact free _ o (fun z=>(f _ z).2.1 rfl) A I.free
 ·obtain ⟨v,o,A,hd⟩:=I.cell x c e
  exact free c o (fun z=>(f c z).2.2.1 x c e rfl) A (I.freeC x c e)
 ·obtain ⟨e,n,ne,F,d⟩:=I.pin p E
  have g:p.1 ∉ ch:=fun z=>(f p.1 z).2.2.2 p E rfl
  exact ⟨keep p.1 p.2 ne F g e n,free p.1 p.2 g e n,ne,F,d⟩
theorem Inv.un {t':Nat} (I:Inv X pins σ H s) (u:Un X.fs [] H H' s.heap h') (hok:HOk X.prog X.w H' h'):Inv X pins σ H' { s with heap:=h',toks:=t' }:=by
 obtain ⟨m,⟨o,es,j,f,r⟩,_⟩:=id I.loc
 obtain ⟨sl,h⟩:=u.any f I.free (by simp)
 exact I.step (g':=s.gens) (d':=s.drawn) (ch:=[]) (fun _ z=>nomatch z) (fun b o _ hb _ e n=>u.keep b o e n hb (by simp)) (fun b o _ hb _ e n=>u.slot b o e n hb (by simp)) (fun b o _ e n=>u.free b o e n (by simp)) (fun b o _ e=>u.there b o e (by simp)) u.tups u.frzs u.tbls (fun i hm=>by
  obtain ⟨o',c,d,a,g⟩:=hm
  rw [f] at a;cases a
  exact ⟨_,c,d,h,g⟩) hok I.bare
theorem Inv.call {g':Array GenState} {t':Nat} {d':Drawn} {ch:List Addr} (I:Inv X pins σ H s) (u:Un (frs X.stack) ch H H' s.heap h') (hok:HOk X.prog X.w H' h') (q:AllBare g')
  (f:∀ b∈ch,(b∈X.ex\/X.s₀.heap.objs.size<=b)/\b ≠ X.env.locals/\(∀ x c,X.env.cells.lookup x=some c->c ≠ b)/\∀ p∈X.pn ++ pins,p.1 ≠ b) :
  Inv X pins σ H' { s with heap:=h',gens:=g',drawn:=d',toks:=t' }:=by
 obtain ⟨m,⟨o,es,y,j,r⟩,_⟩:=id I.loc
 obtain ⟨sl,h⟩:=u.any j I.free fun z=>(f _ z).2.1 rfl
 exact I.step (ch:=ch) f (fun b o h hb a e n=>u.keep b o e n (fun z=>(az2.mp (I.stkSub b z)).elim h hb) a) (fun b o _ _ a e n=>u.any e n a) (fun b o a e n=>u.free b o e n a) (fun b o a e=>u.there b o e a) u.tups u.frzs u.tbls (fun v hm=>by
  obtain ⟨o',g,i,d,l⟩:=hm
  rw [j] at d;cases d
  exact ⟨_,g,i,h,l⟩) hok q
theorem Inv.turned {t':Nat} {it:Addr} (I:Inv X pins σ H s) (k:∀ b o,b ≠ it->s.heap.get? b=some o->h'.get? b=some o) (hn:H it=none) (f:it ≠ X.env.locals)
  (g:it∈X.ex\/X.s₀.heap.objs.size<=it) (h:∀ x c,X.env.cells.lookup x=some c->c ≠ it) (i:∀ p∈X.pn ++ pins,p.1 ≠ it):Inv X pins σ H { s with heap:=h',toks:=t' }:=by
 have d:∀ b u,H b=some u->b ≠ it:=fun b u e z=>by rw [z,hn] at e;cases e
 refine I.step (g':=s.gens) (d':=s.drawn) (ch:=[it]) (fun b hb=>?_) (fun b o _ _ a e _=>k b o (fun z=>a (by simp [z])) e) (fun b o _ _ a e _=>⟨o.slots,k b o (fun z=>a (by simp [z])) e⟩) (fun _ _ _ _ n=>n)
  (fun b o a e=>⟨o,k b o (fun z=>a (by simp [z])) e⟩) (fun _ _ e=>e) (fun _ _ _ e=>e) (fun b ps e=>⟨#[],by rw [e];simp⟩) (fun m hm=>?_) (fun b u e=>?_) I.bare
 ·have e:b=it:=by simpa using hb
  subst e
  exact ⟨g,f,h,i⟩
 ·obtain ⟨o,es,j,l,r⟩:=hm
  exact ⟨o,es,j,k _ o (Ne.symm f) l,r⟩
 ·refine (I.hok b u e).stay (fun c v a q=>k c v ?_ q) (fun _ q=>q) fun _ _ q=>q
  rcases a with z | z
  ·rw [z];exact d b u e
  ·exact d c _ z
theorem Inv.tok (I:Inv X pins σ H s) (t:Nat):Inv X pins σ H { s with toks:=t }:=I.un (h':=s.heap) (t':=t) Un.refl I.hok
theorem Inv.kept {t':Nat} (I:Inv X pins σ H s) (k:∀ b u,s.heap.get? b=some u->h'.get? b=some u):Inv X pins σ H { s with heap:=h',toks:=t' }:=I.un (Un.kept k) (I.hok.kept k)
theorem Inv.laid {a:Addr} {o:HO} {t':Nat} (I:Inv X pins σ H s) (k:∀ b u,s.heap.get? b=some u->h'.get? b=some u) (c:s.heap.objs.size<=a) (new:ObjOk X.prog X.w (upd H a o) h' a o) :
  Inv X pins σ (upd H a o) { s with heap:=h',toks:=t' }:=I.un (Un.laid k c (I.hok.fresh c)) (I.hok.laid k c new)
theorem Inv.write {x e:Addr} {o:HO} {t':Nat} (I:Inv X pins σ H s) (d:Mut (H x)) (c:e=x\/H e=some (.own x)) (k:∀ b u,b ≠ e->s.heap.get? b=some u->h'.get? b=some u) (a:∃ u,h'.get? e=some u)
  (new:ObjOk X.prog X.w (upd H x o) h' x o):Inv X pins σ (upd H x o) { s with heap:=h',toks:=t' }:=I.un (Un.write d c k a) (I.hok.write d c k a new)
theorem Inv.pins_of {a:List (Addr × Obj)} (I:Inv X pins σ H s) (h:∀ p∈a,s.heap.get? p.1=some p.2/\H p.1=none/\p.1 ≠ X.env.locals/\p.1 ∉ X.fs/\∀ v,p.2.data ≠ .cell v):Inv X a σ H s :=
 ⟨I.ok,I.os,I.bare,I.base,I.loc,I.cell,I.free,I.freeC,fun p b=>(az1.mp b).elim (fun z=>I.pin p (aB0 _ z)) (h p),I.hok,I.len⟩
theorem nodup_ix {N:List Str} (f:N.Nodup) {i j:Nat} {x:Str} (a:N[i]?=some x) (b:N[j]?=some x):i=j:=by
 obtain ⟨g,d⟩:=ay5.mp a
 obtain ⟨h,c⟩:=ay5.mp b
 exact (List.getElem_inj f).mp (d.trans c.symm)
theorem afb {M:Model} {A:Around} {E:Value->Shared->Prop} {i:Nat} {x:Str} {v:V} {u:Value} {Q:Unit->Shared->Prop} (I:Inv X pins σ H s) (hN:X.N.Nodup) (hi:X.N[i]?=some x) (C:Loc X.env.scope x) (r:RelV v u)
  (h:∀ s',Inv X pins (σ.set i (some v)) H s'->(∃ a,Heap.SameBut a s.heap s'.heap/\(a=X.env.locals\/X.env.cells.lookup x=some a))->Q () s') (hf:X.fn x=true\/X.env.scope.names.lookup x=some .local:=by first | exact .inl rfl | exact .inr rfl | assumption):wpAny M A (storeName X.env x u) Q E s:=by
 obtain ⟨m,hn,hl⟩:=id I.loc
 have R:(X.env.scope.kind == .class || (X.env.scope.kind == .module && X.env.locals != X.env.globals))=false:=by rw [I.ok.kind];rfl
 have G:i < σ.length:=by rw [I.len];exact (ay5.mp hi).1
 have cne:=I.cne
 have g:∀ {a:Addr} {h':Heap},(∃ o,s.heap.get? a=some o/\H a=none)->Heap.SameBut a s.heap h'->HOk X.prog X.w H h':=fun {a h'} ha f b ob e=>by
  obtain ⟨_,_,D⟩:=ha
  refine (I.hok b ob e).stay (fun c T B q=>(f.2 c ?_).trans q) (fun _ q=>q) fun _ _ q=>q
  rintro rfl
  rcases B with rfl | B
  ·rw [D] at e;cases e
  ·rw [D] at B;cases B
 rcases C with J | J
 ·refine wpAny_storeName_local J hn (fun h' a0 f=>?_) R
  obtain ⟨oL,_,_,Y,_⟩:=id hn
  refine h _ ⟨I.ok,I.os,I.bare,⟨fun b o e n hb C=>?_,fun b o e n hb C=>?_,I.base.free,fun b o e C=>?_,I.base.tups,I.base.frzs,I.base.tbls⟩,⟨_,a0,fun j y U l F e3=>?_⟩,fun y c e=>?_,I.free,I.freeC,fun p W=>?_,g ⟨oL,Y,I.free⟩ f,by simpa using I.len⟩ ⟨_,f,.inl rfl⟩
  ·exact (f.2 b (az9 (aA8 (aG4 e) I.ok.above))).trans (I.base.keep b o e n hb C)
  ·obtain ⟨sl,l⟩:=I.base.slot b o e n hb C
   exact ⟨sl,(f.2 b (az9 (aA8 (aG4 e) I.ok.above))).trans l⟩
  ·obtain ⟨o',l⟩:=I.base.there b o e C
   exact ⟨o',(f.2 b (az9 (aA8 (aG4 e) I.ok.above))).trans l⟩
  ·by_cases hj:j=i
   ·subst hj
    rw [hi] at l;cases l
    rw [List.getElem?_set_self G] at F
    cases F
    exact ⟨u,r,.inl ⟨J,by simp⟩⟩
   ·rw [List.getElem?_set_ne (Ne.symm hj)] at F
    obtain ⟨Z,r',q⟩:=hl j y U l F e3
    refine ⟨Z,r',?_⟩
    rcases q with ⟨k,e⟩ | ⟨k,c,e,z⟩
    ·refine .inl ⟨k,?_⟩
     have:y ≠ x:=fun e=>hj (nodup_ix hN l (e ▸ hi))
     simp [this,e]
    ·exact .inr ⟨k,c,e,z.sameBut f (cne y c e)⟩
  ·obtain ⟨T,z⟩:=I.cell y c e
   exact ⟨T,z.sameBut f (cne y c e)⟩
  ·obtain ⟨e,n,ne,nf,d⟩:=I.pin p W
   exact ⟨(f.2 p.1 ne).trans e,n,ne,nf,d⟩
 ·have K:X.fn x=true:=by
   rcases hf with z | z
   ·exact z
   ·rw [z] at J;cases J
  obtain ⟨c,B⟩:=I.ok.has x (.inl J)
  obtain ⟨T,z⟩:=I.cell x c B
  refine wpAny_storeName_cell I.ok.kind J B z (fun h' O f=>?_)
  obtain ⟨oc,P,L⟩:=id z
  refine h { s with heap:=h' } ⟨I.ok,I.os,I.bare,⟨fun b o e n hb C=>?_,fun b o e n hb C=>?_,I.base.free,fun b o e C=>?_,I.base.tups,I.base.frzs,I.base.tbls⟩,⟨m,hn.sameBut f (Ne.symm (cne x c B)),fun j y U l F e3=>?_⟩,fun y S e=>?_,I.free,I.freeC,fun p W=>?_,g ⟨oc,P,I.freeC x c B⟩ f,by simpa using I.len⟩ ⟨c,f,.inr B⟩
  ·exact (f.2 b (az9 (aA8 (aG4 e) (I.ok.cab x c K B)))).trans (I.base.keep b o e n hb C)
  ·obtain ⟨sl,l⟩:=I.base.slot b o e n hb C
   exact ⟨sl,(f.2 b (az9 (aA8 (aG4 e) (I.ok.cab x c K B)))).trans l⟩
  ·obtain ⟨o',l⟩:=I.base.there b o e C
   exact ⟨o',(f.2 b (az9 (aA8 (aG4 e) (I.ok.cab x c K B)))).trans l⟩
  ·by_cases hj:j=i
   ·subst hj
    rw [hi] at l;cases l
    rw [List.getElem?_set_self G] at F
    cases F
    exact ⟨u,r,.inr ⟨.inl J,c,B,O⟩⟩
   ·rw [List.getElem?_set_ne (Ne.symm hj)] at F
    obtain ⟨Z,r',q⟩:=hl j y U l F e3
    refine ⟨Z,r',?_⟩
    rcases q with q | ⟨k,S,e,z'⟩
    ·exact .inl q
    ·refine .inr ⟨k,S,e,z'.sameBut f ?_⟩
     rintro rfl
     exact hj (nodup_ix hN l (I.ok.inj _ _ _ e B ▸ hi))
  ·by_cases hcc:S=c
   ·subst hcc;exact ⟨_,O⟩
   ·obtain ⟨w2,z2⟩:=I.cell y S e
    exact ⟨w2,z2.sameBut f hcc⟩
  ·obtain ⟨e,n,ne,nf,d⟩:=I.pin p W
   refine ⟨(f.2 p.1 ?_).trans e,n,ne,nf,d⟩
   intro q
   rw [q,P] at e
   have q':oc=p.2:=aA9 e
   exact d T (by rw [← q'];exact L)
theorem aj3 {M:Model} {A:Around} {E:Value->Shared->Prop} {i:Nat} {x:Str} {v:V} {u:Value} {Q:Unit->Shared->Prop} (I:Inv X pins σ H s) (c:X.N.Nodup) (hi:X.N[i]?=some x) (d:Loc X.env.scope x) (r:RelV v u)
  (h:∀ a,Inv X pins (σ.set i (some v)) H a->Q () a) (hf:X.fn x=true\/X.env.scope.names.lookup x=some .local:=by first | exact .inl rfl | exact .inr rfl | assumption):wpAny M A (storeName X.env x u) Q E s :=
 afb I c hi d r (fun a b _=>h a b) hf
theorem Inv.call' {a:Shared} {ch:List Addr} (I:Inv X pins σ H s) (f:a.os=s.os) (u:Un (frs X.stack) ch H H' s.heap a.heap) (hok:HOk X.prog X.w H' a.heap) (g:AllBare a.gens)
  (d:∀ b∈ch,(b∈X.ex\/X.s₀.heap.objs.size<=b)/\b ≠ X.env.locals/\(∀ x c,X.env.cells.lookup x=some c->c ≠ b)/\∀ p∈X.pn ++ pins,p.1 ≠ b):Inv X pins σ H' a:=by
 obtain ⟨h',g',d',t',o'⟩:=a
 have e:o'=s.os:=f
 subst e
 exact I.call (g':=g') (t':=t') (d':=d') u hok g d
end
abbrev XK:=Value->Option Addr->Hp->Prop
abbrev St:=List (Option V)
abbrev VK:=V->Hp->Prop
abbrev TE:=St->Hp->VK->Prop
abbrev TT:=St->Hp->(Bool->Hp->Prop)->Prop
abbrev TA:=St->Hp->(List V->Hp->Prop)->Prop
structure Ends where
 nx:St->Hp->Prop
 rt:VK
 bk:St->Hp->Prop:=fun _ _=>False
 ct:St->Hp->Prop:=fun _ _=>False
abbrev TS:=Ends->St->Hp->Prop
def EP (X:Cx) (pins:List (Addr × Obj)) (σ:St) (Q:VK) (u:Value) (s':Shared):Prop:=∃ v H',Inv X pins σ H' s'/\RelV v u/\Q v H'
def TP (X:Cx) (pins:List (Addr × Obj)) (σ:St) (Q:Bool->Hp->Prop) (b:Bool) (s':Shared):Prop:=∃ H',Inv X pins σ H' s'/\Q b H'
def AP (X:Cx) (pins:List (Addr × Obj)) (σ:St) (Q:List V->Hp->Prop) (us:List Value) (s':Shared):Prop:=∃ vs H',Inv X pins σ H' s'/\Vals vs us/\Q vs H'
def SP (X:Cx) (pins:List (Addr × Obj)) (D:Ends) (f:Flow) (s':Shared):Prop :=
 match f with
 | .next=>∃ σ' H',Inv X pins σ' H' s'/\D.nx σ' H'
 | .brk=>∃ σ' H',Inv X pins σ' H' s'/\D.bk σ' H'
 | .cont=>∃ σ' H',Inv X pins σ' H' s'/\D.ct σ' H'
 | .ret u=>∃ v σ' H',Inv X pins σ' H' s'/\RelV v u/\D.rt v H'
def PE (X:Cx) (e:Expr) (t:TE):Prop :=
 ∀ (pins:List (Addr × Obj)) (s:Shared) (σ:St) (H:Hp) (Q:VK),Inv X pins σ H s->t σ H Q->wpAny (model X.prog X.w) X.A (eval e X.env) (EP X pins σ Q) X.xe s
def PT (X:Cx) (e:Expr) (t:TT):Prop :=
 ∀ (pins:List (Addr × Obj)) (s:Shared) (σ:St) (H:Hp) (Q:Bool->Hp->Prop),Inv X pins σ H s->t σ H Q->wpAny (model X.prog X.w) X.A (isTrue e X.env (eval e X.env)) (TP X pins σ Q) X.xe s
def PW (X:Cx) (e:Expr) (t:TT):Prop :=
 ∀ (whole:Sem Value) (pins:List (Addr × Obj)) (s:Shared) (σ:St) (H:Hp) (Q:Bool->Hp->Prop),Inv X pins σ H s->t σ H Q->wpAny (model X.prog X.w) X.A (isTrue e X.env whole) (TP X pins σ Q) X.xe s
theorem PW.pt {X:Cx} {e:Expr} {t:TT} (h:PW X e t):PT X e t:=h _
def PA (X:Cx) (es:List Expr) (t:TA):Prop :=
 ∀ (pos:Pos) (pins:List (Addr × Obj)) (s:Shared) (σ:St) (H:Hp) (Q:List V->Hp->Prop),Inv X pins σ H s->t σ H Q->wpAny (model X.prog X.w) X.A (spliced (backTo pos (starEach es X.env))) (AP X pins σ Q) X.xe s
def PS (X:Cx) (st:Stmt) (t:TS):Prop :=
 ∀ (pins:List (Addr × Obj)) (s:Shared) (σ:St) (H:Hp) (D:Ends),Inv X pins σ H s->t D σ H->wpAny (model X.prog X.w) X.A (exec st X.env) (SP X pins D) X.xe s
def PSs (X:Cx) (st:List Stmt) (t:TS):Prop :=
 ∀ (pins:List (Addr × Obj)) (s:Shared) (σ:St) (H:Hp) (D:Ends),Inv X pins σ H s->t D σ H->wpAny (model X.prog X.w) X.A (execs st X.env) (SP X pins D) X.xe s
theorem thn {α:Type} {t:Sem α} {Q b : α->Shared->Prop} {M:Model} {A:Around} {E:Value->Shared->Prop} {s:Shared} (h:wpAny M A t Q E s) (c:∀ a s,Q a s->b a s):wpAny M A t b E s:=aG8 h c fun _ _ x=>x
section
variable {X:Cx}
def tVar (i:Nat):TE:=fun σ H Q=>∃ v,σ[i]?=some (some v)/\Q v H
def tC (v:V):TE:=fun _ H Q=>Q v H
theorem av7 {i:Nat} {x:Str} {pos:Pos} (j:X.N[i]?=some x) (g:Vis X.env.scope x) (hd:(x == ("__debug__" : Str))=false:=by decide) (d:(x == ("__classdict__" : Str))=false:=by decide):PE X (.Name x pos) (tVar i):=by
 intro pins s σ H Q I h
 obtain ⟨v,e,h⟩:=h
 obtain ⟨m,hn,n⟩:=I.loc
 obtain ⟨u,r,l⟩:=n i x v j e g
 have fin:EP X pins σ Q u s:=⟨v,H,I,r,h⟩
 rcases l with ⟨b,hm⟩ | ⟨b,c,f,a⟩
 ·exact wpAny_Name (wpAny_loadName_local I.ok.kind b hn hm fin) hd
 ·rcases b with b | b
  ·exact wpAny_Name (wpAny_loadName_cell I.ok.kind b f a fin) hd
  ·exact wpAny_Name (wpAny_loadName_free I.ok.kind b f a fin d) hd
theorem aab {i j pos}:PE X (.Constant (.int i) j pos) (tC (.int i)):=fun _ _ _ H _ I h=>wpAny_Constant_int ⟨.int i,H,I.tok _,⟨_,rfl⟩,h⟩
theorem acs {b j pos}:PE X (.Constant (.bool b) j pos) (tC (.bl b)):=fun _ _ _ H _ I h=>Constant_bool ⟨.bl b,H,I,rfl,h⟩
theorem act {j pos}:PE X (.Constant .none j pos) (tC .non):=fun _ _ _ H _ I h=>Constant_none ⟨.non,H,I,rfl,h⟩
def Gl (X:Cx) (x:Str):Prop:=X.env.kindOf x=some .globalImplicit
theorem amg {E:Value->Shared->Prop} {pins:List (Addr × Obj)} {s:Shared} {σ:St} {H:Hp} {x:Str} {u:Value} {pos:Pos} {Q:Value->Shared->Prop} (I:Inv X pins σ H s) (a:Gl X x) (hm:X.mg x=some u) (h:Q u s)
  (hd:(x == ("__debug__" : Str))=false:=by decide):wpAny (model X.prog X.w) X.A (eval (.Name x pos) X.env) Q E s :=
 Calls.Name_function_global I.ok.kind a (Calls.loadGlobal_global (by rw [I.ok.glob];exact I.mod.glob.keeps I.bk) hm h) hd
theorem acl {E:Value->Shared->Prop} {pins:List (Addr × Obj)} {s:Shared} {σ:St} {H:Hp} {x:Str} {u:Value} {pos:Pos} {Q:Value->Shared->Prop} (I:Inv X pins σ H s) (d:Gl X x) (hm:X.mg x=none) (a:bootBuiltins x=some u) (h:Q u s)
  (hn:x ≠ "__name__":=by decide) (hd:(x == ("__debug__" : Str))=false:=by decide):wpAny (model X.prog X.w) X.A (eval (.Name x pos) X.env) Q E s:=by
 obtain ⟨mb,b,c⟩:=I.mod.blt
 exact Calls.Name_function_global I.ok.kind d (Calls.loadGlobal_builtin (by rw [I.ok.glob];exact I.mod.glob.keeps I.bk) hm (by rw [I.ok.blt];exact b.keeps I.bk) ((c x hn).trans a) h) hd
theorem amh {x:Str} {v:V} {u:Value} {pos:Pos} (a:Gl X x) (hm:X.mg x=some u) (r:RelV v u) (hd:(x == ("__debug__" : Str))=false:=by decide):PE X (.Name x pos) (tC v) :=
 fun _ _ _ H _ I h=>amg I a hm ⟨v,H,I,r,h⟩ hd
theorem adt {x:Str} {v:V} {u:Value} {pos:Pos} (b:Gl X x) (hm:X.mg x=none) (a:bootBuiltins x=some u) (r:RelV v u) (hn:x ≠ "__name__":=by decide) (hd:(x == ("__debug__" : Str))=false:=by decide):PE X (.Name x pos) (tC v) :=
 fun _ _ _ H _ I h=>acl I b hm a ⟨v,H,I,r,h⟩ hn hd
variable {a b:Expr} {ta tb:TE} {pos:Pos}
def PC (X:Cx) (op:CmpOp) (a b:Expr) (t:TE):Prop :=
 ∀ (pins:List (Addr × Obj)) (s:Shared) (σ:St) (H:Hp) (Q:VK),Inv X pins σ H s->t σ H Q ->
  wpAny (model X.prog X.w) X.A (eval a X.env) (fun v s₁=>wpAny (model X.prog X.w) X.A (eval b X.env) (fun u s₂=>wpAny (model X.prog X.w) X.A (compareOp op v u) (EP X pins σ Q) X.xe s₂) X.xe s₁) X.xe s
def tB (t:TE):TT:=fun σ H Q=>t σ H fun x H1=>∃ c,x=.bl c/\Q c H1
theorem av8 {op:CmpOp} {t:TE} (h:PC X op a b t) (f:behindInMarks op b=false:=by first | exact nobehind _ (by decide) (by decide) | rfl):PT X (.Compare a [op] [b] pos) (tB t):=by
 intro pins s σ H Q I g
 refine wpAny_isTrue_Compare1 (thn (h pins s σ H _ I g) fun v s1 f=>thn f fun u s2 j=>thn j fun c o ⟨x,i,n,l,m⟩=>?_) f
 obtain ⟨d,rfl,q⟩:=m
 cases l
 exact aH1 ⟨i,n,q⟩
theorem ad0 {e:Expr} {t:TE} (h:PE X e t) (c:∀ whole,isTrue e X.env whole=(do let v ← whole;standAt e.pos;holding [v] (truthy v)):=by intro _;rfl):PT X e (tB t):=by
 intro pins s σ H Q I a
 refine isTrue_plain (thn (h pins s σ H _ I a) fun v s1 ⟨x,b,i,f,g⟩=>?_) (c _)
 obtain ⟨d,rfl,q⟩:=g
 cases f
 exact aH1 ⟨b,i,q⟩
variable {tA tB':TT} {rest:List Expr}
def tAnd (t u:TT):TT:=fun σ H Q=>t σ H fun c H1=>if c=true then u σ H1 Q else Q false H1
def tOr (t u:TT):TT:=fun σ H Q=>t σ H fun c H1=>if c=true then Q true H1 else u σ H1 Q
def tNot (t:TT):TT:=fun σ H Q=>t σ H fun c H1=>Q (!c) H1
theorem ahu (ha:PT X a tA):PW X (.BoolOp .And [a] pos) tA:=by
 intro b pins s σ H Q I h
 refine isTrue_and (thn (ha pins s σ H Q I h) fun c s1 e=>?_)
 cases c with
 | true=>exact isTrue_and_nil e
 | false=>exact e
theorem ags (ha:PT X a tA):PW X (.BoolOp .Or [a] pos) tA:=by
 intro b pins s σ H Q I h
 refine isTrue_or (thn (ha pins s σ H Q I h) fun c s1 e=>?_)
 cases c with
 | false=>exact isTrue_or_nil e
 | true=>exact e
theorem aj4 (ha:PT X a tA) (hb:PW X (.BoolOp .And (b :: rest) pos) tB'):PW X (.BoolOp .And (a :: b :: rest) pos) (tAnd tA tB'):=by
 intro i pins s σ H Q I h
 refine isTrue_and (thn (ha pins s σ H _ I h) fun c s1 ⟨f,g,d⟩=>?_)
 cases c with
 | true=>exact hb i pins s1 σ f Q g d
 | false=>exact ⟨f,g,d⟩
theorem ajq (ha:PT X a tA) (hb:PW X (.BoolOp .Or (b :: rest) pos) tB'):PW X (.BoolOp .Or (a :: b :: rest) pos) (tOr tA tB'):=by
 intro i pins s σ H Q I h
 refine isTrue_or (thn (ha pins s σ H _ I h) fun c s1 ⟨f,g,d⟩=>?_)
 cases c with
 | true=>exact ⟨f,g,d⟩
 | false=>exact hb i pins s1 σ f Q g d
theorem afc (ha:PT X a tA):PT X (.UnaryOp .Not a pos) (tNot tA):=by
 intro pins s σ H Q I h
 exact isTrue_not (ha pins s σ H (fun c b=>Q (!c) b) I h)
def ane (ta tb:TE):TE:=fun σ H Q=>ta σ H fun x H1=>∃ c,x=.bl c/\if c=true then tb σ H1 Q else Q (.bl false) H1
def anf (ta:TE):TE:=fun σ H Q=>ta σ H fun x H1=>∃ c,x=.bl c/\Q (.bl (!c)) H1
theorem aj5 {op} {t:TE} (h:PE X a t):PE X (.BoolOp op [a] pos) t:=fun pins s σ H Q I b=>BoolOp_one (h pins s σ H Q I b)
theorem agt (ha:PE X a ta) (hb:PE X (.BoolOp .And (b :: rest) pos) tb):PE X (.BoolOp .And (a :: b :: rest) pos) (ane ta tb):=by
 intro pins s σ H Q I h
 refine BoolOp_and (thn (ha pins s σ H _ I h) fun v s1 ⟨x,f,g,i,d⟩=>?_)
 obtain ⟨c,rfl,d⟩:=d
 cases i
 refine aH1 ?_
 cases c with
 | true=>exact hb pins s1 σ f Q g d
 | false=>exact ⟨.bl false,f,g,rfl,d⟩
theorem av9 (ha:PE X a ta):PE X (.UnaryOp .Not a pos) (anf ta):=by
 intro pins s σ H Q I h
 refine UnaryOp_ (thn (ha pins s σ H _ I h) fun v s1 ⟨x,f,g,d,b⟩=>?_)
 obtain ⟨c,rfl,b⟩:=b
 cases d
 exact not_of (aH1 ⟨.bl (!c),f,g,rfl,b⟩)
def tIf (t:TT) (ta tb:TE):TE:=fun σ H Q=>t σ H fun c H1=>if c=true then ta σ H1 Q else tb σ H1 Q
theorem aqr {c:Expr} (j:PT X c tA) (ha:PE X a ta) (hb:PE X b tb):PE X (.IfExp c a b pos) (tIf tA ta tb):=by
 intro pins s σ H Q I h
 refine wpAny_IfExp (thn (j pins s σ H _ I h) fun d s1 ⟨g,i,f⟩=>?_)
 cases d with
 | true=>exact ha pins s1 σ g Q i f
 | false=>exact hb pins s1 σ g Q i f
end
def SqL (K:Frag) (H:Hp) (a:Addr) (xs:List V):Prop :=
 Rd H a (.lst xs) ∨
  ∃ (o:Obj) (its:Array Value) (n:Nat),K.lookup a=some o/\o.cls=.type "list"/\o.dict=none/\o.data=.seq its n/\its.size<=sizeLine/\Vals xs its.toList
def SqT (K:Frag) (H:Hp) (a:Addr) (xs:List V):Prop :=
 Rd H a (.tup xs) ∨
  ∃ (o:Obj) (its:Array Value) (n:Nat),K.lookup a=some o/\o.cls=.type "tuple"/\o.data=.seq its n/\its.size<=sizeLine/\Vals xs its.toList
def absV:Value->Option V
 | .none=>some .non
 | .bool b=>some (.bl b)
 | .int i _=>some (.int i)
 | .str x _=>some (.str x)
 | .bytes b _=>some (.byt b)
 | .float b _=>some (.flt b)
 | .ref a=>some (.ref a)
 | .type n=>some (.ty n)
 | _=>none
theorem RelV.abs {x:V} {u:Value} (r:RelV x u):absV u=some x:=by
 cases x with
 | non=>cases r;rfl
 | bl _=>cases r;rfl
 | int _=>obtain ⟨t,rfl⟩:=r;rfl
 | str _=>obtain ⟨t,rfl⟩:=r;rfl
 | byt _=>obtain ⟨t,rfl⟩:=r;rfl
 | flt _=>obtain ⟨t,rfl⟩:=r;rfl
 | ref _=>cases r;rfl
 | ty _=>cases r;rfl
theorem RelV.inj {x y:V} {u:Value} (r:RelV x u) (q:RelV y u):x=y:=aA9 (r.abs.symm.trans q.abs)
theorem Vals.inj:∀ {xs ys:List V} {us:List Value},Vals xs us->Vals ys us->xs=ys
 | _,_,_,.nil,.nil=>rfl
 | _,_,_,.cons r t,.cons r' t'=>by rw [r.inj r',Vals.inj t t']
section
variable {X:Cx} {pins:List (Addr × Obj)} {σ:St} {H:Hp} {s:Shared} {a:Addr} {xs ys:List V}
theorem SqL.of {K:Frag} (h:H a=some (.lst xs)):SqL K H a xs:=.inl (.inl h)
theorem SqT.of {K:Frag} (h:H a=some (.tup xs)):SqT K H a xs:=.inl (.inl h)
theorem Inv.list (I:Inv X pins σ H s) (h:SqL X.K H a xs):∃ its:List Value,Vals xs its/\PlainL s.heap a its.toArray/\xs.length<=sizeLine:=by
 rcases h with h | ⟨o,its,n,d,c,hd,b,f,r⟩
 ·obtain ⟨z,its,n,r,e⟩:=h.ok I.hok
  exact ⟨its,r,⟨_,n,e,rfl,rfl,rfl⟩,z⟩
 ·refine ⟨its.toList,r,⟨o,n,I.kIn a o d,c,hd,by simpa using b⟩,?_⟩
  have e:=r.length
  simp only [Array.length_toList] at e
  omega
theorem Inv.tuple (I:Inv X pins σ H s) (h:SqT X.K H a xs):∃ its:List Value,Vals xs its/\IsTup s.heap a its.toArray/\xs.length<=sizeLine:=by
 rcases h with h | ⟨o,its,n,d,c,b,f,r⟩
 ·obtain ⟨z,its,r,p⟩:=h.ok I.hok
  exact ⟨its,r,p,z⟩
 ·refine ⟨its.toList,r,⟨o,I.kIn a o d,c,n,by simpa using b⟩,?_⟩
  have e:=r.length
  simp only [Array.length_toList] at e
  omega
theorem Inv.list_inj (I:Inv X pins σ H s) (h:SqL X.K H a xs) (h':SqL X.K H a ys):xs=ys:=by
 obtain ⟨its,r,⟨o,n,e,_,_,d⟩,_⟩:=I.list h
 obtain ⟨its',c,⟨o',g,b,_,_,d'⟩,_⟩:=I.list h'
 rw [e] at b;cases b
 rw [d] at d'
 injection d' with f _
 have:its=its':=by simpa using congrArg Array.toList f
 subst this
 exact r.inj c
end
abbrev Cx.wish (X:Cx) (E:Value->Shared->Prop):Cx:={ X with xe:=E }
abbrev Cx.nox (X:Cx):Cx:=X.wish fun _ _=>False
theorem Cx.Ok.wish {X:Cx} (ok:X.Ok) (E:Value->Shared->Prop):(X.wish E).Ok :=
 ⟨ok.mod,ok.kind,ok.glob,ok.blt,ok.above,ok.inj,ok.has,ok.cab,ok.hd,ok.frames,ok.stk,ok.exf,ok.bs,ok.bsz,ok.noex,ok.exfs,ok.funs,ok.frf⟩
theorem Cx.Ok.unwish {X:Cx} {E:Value->Shared->Prop} (ok:(X.wish E).Ok):X.Ok :=
 ⟨ok.mod,ok.kind,ok.glob,ok.blt,ok.above,ok.inj,ok.has,ok.cab,ok.hd,ok.frames,ok.stk,ok.exf,ok.bs,ok.bsz,ok.noex,ok.exfs,ok.funs,ok.frf⟩
section
variable {X:Cx} {pins:List (Addr × Obj)} {σ:St} {H:Hp} {s:Shared} {E:Value->Shared->Prop}
theorem Inv.wish (I:Inv X pins σ H s) (E:Value->Shared->Prop):Inv (X.wish E) pins σ H s:=⟨I.ok.wish E,I.os,I.bare,I.base,I.loc,I.cell,I.free,I.freeC,I.pin,I.hok,I.len⟩
theorem Inv.unwish (I:Inv (X.wish E) pins σ H s):Inv X pins σ H s:=⟨I.ok.unwish,I.os,I.bare,I.base,I.loc,I.cell,I.free,I.freeC,I.pin,I.hok,I.len⟩
theorem SP.unwish {D:Ends} {f:Flow} {b:Shared} (h:SP (X.wish E) pins D f b):SP X pins D f b:=by
 cases f with
 | next=>obtain ⟨a,H',I,q⟩:=h;exact ⟨a,H',I.unwish,q⟩
 | brk=>obtain ⟨a,H',I,q⟩:=h;exact ⟨a,H',I.unwish,q⟩
 | cont=>obtain ⟨a,H',I,q⟩:=h;exact ⟨a,H',I.unwish,q⟩
 | ret u=>obtain ⟨v,a,H',I,r,q⟩:=h;exact ⟨v,a,H',I.unwish,r,q⟩
theorem PSs.nox {st:List Stmt} {t:TS} (h:PSs X.nox st t):PSs X st t:=fun pins s σ H D I a =>
 aG8 (h pins s σ H D (I.wish _) a) (fun _ _ q=>q.unwish) fun _ _ z=>False.elim z
end
section
variable {X:Cx} {st:Stmt} {rest:List Stmt} {t u:TS} {e:Expr} {te:TE} {pos:Pos}
def ass:TS:=fun D σ H=>D.nx σ H
def tSeq (t u:TS):TS:=fun D σ H=>t { D with nx:=u D } σ H
theorem aa6:PSs X [] ass:=fun _ _ σ H _ I h=>wpAny_execs_nil ⟨σ,H,I,h⟩
theorem aad (b:PS X st t) (d:PSs X rest u):PSs X (st :: rest) (tSeq t u):=by
 intro pins s σ H D I h
 refine wpAny_execs_cons (thn (b pins s σ H { D with nx:=u D } I h) fun f s1 q=>?_)
 cases f with
 | next =>
  obtain ⟨a,H',c,q⟩:=q
  exact d pins s1 a H' D c q
 | ret v=>exact q
 | brk=>exact q
 | cont=>exact q
theorem aaf (a:PS X st t):PSs X [st] t:=by
 intro pins s σ H D I h
 refine wpAny_execs_cons (thn (a pins s σ H D I h) fun f s1 q=>?_)
 cases f with
 | next=>exact wpAny_execs_nil q
 | ret v=>exact q
 | brk=>exact q
 | cont=>exact q
theorem Inv.quiet {pins:List (Addr × Obj)} {σ:St} {H:Hp} {s:Shared} (I:Inv X pins σ H s):interactive X.env=false:=by simp [interactive,I.ok.kind]
def ast (te:TE):TS:=fun D σ H=>te σ H fun _ H1=>D.nx σ H1
theorem aa9 (d:PE X e te) (c:swapsWith e none pos.line X.env=pure false:=by rfl):PS X (.Expr e pos) (ast te):=by
 intro pins s σ H D I h
 exact wpAny_Expr_any (thn (d pins s σ H _ I h) fun v s1 ⟨x,a,f,g,b⟩=>⟨σ,a,f,b⟩) I.quiet c
def tRet (te:TE):TS:=fun D σ H=>te σ H D.rt
theorem aaz (d:PE X e te):PS X (.Return (some e) pos) (tRet te):=by
 intro pins s σ H D I h
 exact wpAny_Return_some (thn (d pins s σ H _ I h) fun v s1 ⟨x,b,f,a,c⟩=>⟨x,σ,b,f,a,c⟩)
def tIfS (c:TT) (t u:TS):TS:=fun D σ H=>c σ H fun b H1=>if b=true then t D σ H1 else u D σ H1
theorem abm {c:Expr} {a b:List Stmt} {j:TT} (l:PT X c j) (ha:PSs X a t) (hb:PSs X b u):PS X (.If c a b pos) (tIfS j t u):=by
 intro pins s σ H D I h
 refine wpAny_If (thn (l pins s σ H _ I h) fun d s1 ⟨f,i,g⟩=>?_)
 cases d with
 | true=>exact ha pins s1 σ f D i g
 | false=>exact hb pins s1 σ f D i g
def awa:TS:=fun _ _ _=>False
theorem agb:PS X st awa:=fun _ _ _ _ _ _ h=>h.elim
end
abbrev TG:=V->St->Hp->(St->Hp->Prop)->Prop
abbrev TGs:=List V->St->Hp->(St->Hp->Prop)->Prop
def PG (X:Cx) (target:Expr) (t:TG):Prop :=
 ∀ (pins:List (Addr × Obj)) (s:Shared) (σ:St) (H:Hp) (v:V) (u:Value) (Q:St->Hp->Prop),Inv X pins σ H s->RelV v u->t v σ H Q ->
  wpAny (model X.prog X.w) X.A (assign target X.env u) (fun _ s'=>∃ σ' H',Inv X pins σ' H' s'/\Q σ' H') X.xe s
def PGs (X:Cx) (ts:List Expr) (t:TGs):Prop :=
 ∀ (pins:List (Addr × Obj)) (s:Shared) (σ:St) (H:Hp) (vs:List V) (us:List Value) (Q:St->Hp->Prop),Inv X pins σ H s->Vals vs us->t vs σ H Q ->
  wpAny (model X.prog X.w) X.A (assignInOrder ((assignEach ts X.env).map (·.2)) us) (fun _ s'=>∃ σ' H',Inv X pins σ' H' s'/\Q σ' H') X.xe s
abbrev TSet:=V->V->V->Hp->(Hp->Prop)->Prop
def PSet (X:Cx) (t:TSet):Prop :=
 ∀ (pins:List (Addr × Obj)) (s:Shared) (σ:St) (H:Hp) (o i v:V) (ov iv u:Value) (Q:Hp->Prop),Inv X pins σ H s->RelV o ov->RelV i iv->RelV v u->t o i v H Q ->
  wpAny (model X.prog X.w) X.A (setItem ov iv u) (fun _ s'=>∃ H',Inv X pins σ H' s'/\Q H') X.xe s
section
variable {X:Cx} {pos:Pos}
def aay (i:Nat):TG:=fun v σ H Q=>Q (σ.set i (some v)) H
theorem aao {i:Nat} {x:Str} (b:X.N.Nodup) (hi:X.N[i]?=some x) (c:Loc X.env.scope x) (hf:X.fn x=true\/X.env.scope.names.lookup x=some .local:=by first | exact .inl rfl | exact .inr rfl | assumption):PG X (.Name x pos) (aay i):=by
 intro pins s σ H v u Q I r h
 exact wpAny_assign_Name (aj3 I b hi c r (fun d a=>⟨_,H,a,h⟩) hf)
def gNil:TGs:=fun vs σ H Q=>vs=[]/\Q σ H
def adb (t:TG) (u:TGs):TGs:=fun vs σ H Q=>∃ v r,vs=v :: r/\t v σ H fun σ' H'=>u r σ' H' Q
theorem acx:PGs X [] gNil:=by
 intro pins s σ H vs us Q I r h
 obtain ⟨e,h⟩:=h
 subst e
 cases r
 exact assignInOrder_nil ⟨σ,H,I,h⟩
theorem abf {e:Expr} {es:List Expr} {t:TG} {u:TGs} (c:PG X e t) (f:PGs X es u)
  (d:(assignEach (e :: es) X.env).map (·.2)=assign e X.env :: (assignEach es X.env).map (·.2):=by rfl):PGs X (e :: es) (adb t u):=by
 intro pins s σ H vs us Q I r h
 obtain ⟨v,l,i,h⟩:=h
 subst i
 cases r with
 | cons r rr =>
  rw [d]
  refine assignInOrder_cons (thn (c pins s σ H _ _ _ I r h) fun _ s1 ⟨a,b,j,g⟩=>?_)
  exact f pins s1 a b _ _ Q j rr g
def gTup (K:Frag) (n:Nat) (t:TGs):TG:=fun v σ H Q=>∃ a xs,v=.ref a/\SqT K H a xs/\xs.length=n/\t xs σ H Q
theorem aem {es:List Expr} {k:Nat} {t:TGs} {n:Nat} (i:X.calm=true) (h:PGs X es t)
  (hn:(assignEach es X.env).length=n:=by rfl) (d:(assignEach es X.env).findIdx? (·.1)=none:=by rfl):PG X (.Tuple es k pos) (gTup X.K n t):=by
 intro pins s σ H v u Q I r c
 obtain ⟨a,xs,p,g,m,c⟩:=c
 subst p
 cases r
 obtain ⟨its,f,j,w⟩:=I.tuple g
 refine assign_Tuple_tuple (I.ok.hd i) j (by simp [hn,← m,f.length]) d fun h' l=>?_
 have q:Inv X pins σ H { s with heap:=h' }:=I.kept (t':=s.toks) fun b o e=>l b o (az9 (aG4 e)) e
 exact h pins _ σ H xs _ Q q (by simpa using f) c
def gSub (to ti:TE) (t:TSet):TG:=fun v σ H Q=>to σ H fun o H1=>ti σ H1 fun i H2=>t o i v H2 fun H3=>Q σ H3
theorem aom {o i:Expr} {to c:TE} {t:TSet} (z:PE X o to) (hi:PE X i c) (j:PSet X t)
  (ha:∀ v,assign (.Subscript o i pos) X.env v=(do
   let a ← holding [v] (eval o X.env)
   let b ← holding [v,a] (eval i X.env)
   standAt pos
   holding [v,a,b] (setItem a b v)
   release [v,a,b] []):=by intro _;rfl):PG X (.Subscript o i pos) (gSub to c t):=by
 intro pins s σ H v u Q I r h
 rw [ha]
 refine aG1 (aG6 (thn (z pins s σ H _ I h) fun a s1 ⟨x,f,w,m,n⟩=>?_))
 refine aG1 (aG6 (thn (hi pins s1 σ f _ w n) fun b s2 ⟨y,H2,l,d,g⟩=>?_))
 refine aG1 (wpAny_standAt (aG1 (aG6 (thn (j pins s2 σ H2 x y v a b u _ l m d r g) fun _ A ⟨H3,p,q⟩=>?_))))
 exact wpAny_release ⟨σ,H3,p,q⟩
def tAsg (te:TE) (g:TG):TS:=fun D σ H=>te σ H fun x H1=>g x σ H1 D.nx
theorem agu {tg e:Expr} {te:TE} {g:TG} (f:PE X e te) (i:PG X tg g) (d:swapsWithSole [tg] e pos.line X.env=pure false:=by rfl) (a:swappedStores [tg] e X.env=pure none:=by rfl)
  (c:(assignEach [tg] X.env).map (·.2)=[assign tg X.env]:=by rfl):PS X (.Assign [tg] e pos) (tAsg te g):=by
 intro pins s σ H D I h
 refine wpAny_Assign_stores (thn (f pins s σ H _ I h) fun v s1 ⟨x,b,m,j,l⟩=>?_) d a
 rw [c]
 exact thn (i pins s1 σ b x v _ m j l) fun _ s2 q=>q
theorem aam {i:Nat} {x:Str} {e:Expr} {te:TE} {a:Pos} (g:X.N.Nodup) (hi:X.N[i]?=some x) (m:Loc X.env.scope x) (d:PE X e te) (c:swapsWith e (some (.Name x a)) pos.line X.env=pure false:=by rfl) (hf:X.fn x=true\/X.env.scope.names.lookup x=some .local:=by first | exact .inl rfl | exact .inr rfl | assumption) :
  PS X (.Assign [.Name x a] e pos) (tAsg te (aay i)):=by
 intro pins s σ H D I h
 refine wpAny_Assign_Name (thn (d pins s σ H _ I h) fun v s1 ⟨y,b,n,j,l⟩=>?_) c
 exact aj3 n g hi m j (fun s2 f=>⟨_,b,f,l⟩) hf
end
section
variable {X:Cx} {pos:Pos}
def aon (c:TT) (tb:TS):TS:=fun D σ H=>∃ W:Nat->St->Hp->Prop,(∃ m,W m σ H)/\∀ m σ H,W m σ H ->
 c σ H fun b H1=>if b=true then ∃ N:St->Hp->Prop,(∀ σ' H',N σ' H'->∃ m',m' < m/\W m' σ' H')/\tb { D with nx:=N,ct:=N,bk:=D.nx } σ H1 else D.nx σ H1
theorem agc {c:Expr} {body:List Stmt} {B:TT} {r:TS} (u:PassesOwn (model X.prog X.w) X.A X.env X.xe) (G:PT X c B) (hb:PSs X body r):PS X (.While c body [] pos) (aon B r):=by
 intro pins s σ H D I h
 obtain ⟨W,⟨E,K⟩,i⟩:=h
 refine wpAny_While (codeAny_whileLoop (fun n F=>∃ g H',Inv X pins g H' F/\W n g H') ?_ E ⟨σ,H,I,K⟩)
 rintro n s1 ⟨d,x,J,C⟩
 refine wpAny_passesOwn u (thn (G pins s1 d x _ J (i n d x C)) fun b s2 ⟨H2,y,j⟩=>?_)
 cases b with
 | true =>
  obtain ⟨N,z,j⟩:=j
  rw [aC9 rfl]
  refine wpAny_passesOwn u (thn (hb pins s2 d H2 _ y j) fun f L l=>?_)
  cases f with
  | next =>
   obtain ⟨a,H3,p,m⟩:=l
   obtain ⟨o,hm,q⟩:=z a H3 m
   exact ⟨o,hm,a,H3,p,q⟩
  | cont =>
   obtain ⟨a,H3,p,m⟩:=l
   obtain ⟨o,hm,q⟩:=z a H3 m
   exact ⟨o,hm,a,H3,p,q⟩
  | brk=>exact l
  | ret v=>exact l
 | false =>
  rw [aD0 az3]
  exact wpAny_execs_nil ⟨d,H2,y,j⟩
end
structure It where
 go:Nat->Hp->Prop
 yld:Nat->Hp->V->Hp->Prop
 stop:Nat->Hp->Prop
def FpOk (X:Cx) (pins:List (Addr × Obj)) (H:Hp) (b:Addr):Prop :=
 H b=none/\b ≠ X.env.locals/\b ∉ X.fs/\(b∈X.ex\/X.s₀.heap.objs.size<=b)/\(∀ x c,X.env.cells.lookup x=some c->c ≠ b)/\∀ p∈X.pn ++ pins,p.1 ≠ b
theorem Inv.fpOk {X:Cx} {pins:List (Addr × Obj)} {σ:St} {H H':Hp} {s:Shared} {b:Addr} (I:Inv X pins σ H s) (hb:s.heap.objs.size<=b) (hn:H' b=none):FpOk X pins H' b:=by
 refine ⟨hn,Nat.ne_of_gt (aA8 I.lt hb),I.nofs hb,.inr (aB3 I.sz hb),fun x c e z=>?_,fun p a z=>?_⟩
 ·obtain ⟨v,q⟩:=I.cell x c e
  exact absurd (aA8 q.lt (by rw [z];exact hb)) (aD8 _)
 ·exact absurd (aA8 (aG4 (I.pin p a).1) (by rw [z];exact hb)) (aD8 _)
structure Turn (P:Program) (w:World) (K:Frag) (tg:Expr) (J:It) (fp:List Addr) (it:Addr) (tn:Nat->Heap->Prop):Prop where
 mem:it∈fp
 obj:∀ i h,tn i h->∀ b∈fp,∃ o,h.get? b=some o/\∀ v,o.data ≠ .cell v
 keep:∀ i h h',tn i h->(∀ b∈fp,∀ o,h.get? b=some o->h'.get? b=some o)->tn i h'
 item:∀ (X:Cx),X.prog=P->X.w=w->X.K=K->X.calm=true->∀ (i:Nat) (pins:List (Addr × Obj)) (s:Shared) (σ:St) (H:Hp) (E:Value->Shared->Prop),Inv X pins σ H s->(∀ b∈fp,FpOk X pins H b)->tn i s.heap->J.go i H ->
  wpAny (model P w) X.A (pyNext (.ref it)) (fun r s1=>∃ u,r=some u /\
   wpAny (model P w) X.A (letOwnedTupleGo tg (.ref it) u) (fun _ s2=>∃ x H',Inv X pins σ H' s2/\RelV x u/\J.yld i H x H'/\tn (i+1) s2.heap/\∀ b∈fp,H' b=none) E s1) E s
 done:∀ (X:Cx),X.prog=P->X.w=w->X.K=K->X.calm=true->∀ (i:Nat) (pins:List (Addr × Obj)) (s:Shared) (σ:St) (H:Hp) (E:Value->Shared->Prop),Inv X pins σ H s->(∀ b∈fp,FpOk X pins H b)->tn i s.heap->J.stop i H ->
  wpAny (model P w) X.A (pyNext (.ref it)) (fun r s1=>r=none/\Inv X pins σ H s1) E s
 self:∀ (A:Around) (i:Nat) (s:Shared) (Q:Value->Shared->Prop) (E:Value->Shared->Prop),tn i s.heap->Q (.ref it) s->wpAny (model P w) A (pyIter (.ref it)) Q E s
abbrev TI:=St->Hp->(It->Hp->Prop)->Prop
def PIE (X:Cx) (pins:List (Addr × Obj)) (σ:St) (tg:Expr) (R:It->Hp->Prop) (itv:Value) (s2:Shared):Prop :=
 ∃ (it:Addr) (fp:List Addr) (tn:Nat->Heap->Prop) (J:It) (H':Hp),itv=.ref it/\Inv X pins σ H' s2/\Turn X.prog X.w X.K tg J fp it tn/\tn 0 s2.heap/\(∀ b∈fp,FpOk X pins H' b)/\R J H'
def PI (X:Cx) (tg iter:Expr) (wi:TI):Prop :=
 ∀ (pins:List (Addr × Obj)) (s:Shared) (σ:St) (H:Hp) (R:It->Hp->Prop),Inv X pins σ H s->wi σ H R ->
  wpAny (model X.prog X.w) X.A (eval iter X.env) (fun v s1=>wpAny (model X.prog X.w) X.A (pyIter v) (PIE X pins σ tg R) X.xe s1) X.xe s
theorem ajr {M:Model} {A:Around} {E:Value->Shared->Prop} {s:Shared} {tg:Expr} {it:Addr} {u:Value} {o:Obj} {n:String} {vs:Array Value} {Q:Unit->Shared->Prop} (b:s.heap.get? it=some o) (c:o.cls=.type n) (hd:o.data=.fields vs)
  (hn:["enumerate","zip","dict_itemiterator","dict_reverseitemiterator","odict_iterator","itertools.zip_longest","itertools.pairwise"].contains n=false) (a:Q () s):wpAny M A (letOwnedTupleGo tg (.ref it) u) Q E s:=by
 unfold letOwnedTupleGo
 cases tg <;> first
  | exact aG2 a
  | (cases u <;> first
    | exact aG2 a
    | (refine aG1 (wpAny_load b ?_)
       rw [c,hd]
       show wpAny M A (if (["enumerate","zip","dict_itemiterator","dict_reverseitemiterator","odict_iterator","itertools.zip_longest","itertools.pairwise"].contains n && vs[0]? == some (rawInt _))=true then _ else _) Q E s
       rw [aD0 (by intro h;rw [hn,Bool.false_and] at h;cases h)]
       exact aG2 a))
def Itl (K:Frag) (a:Addr):It :=
 ⟨fun i H=>∃ xs x,SqL K H a xs/\xs[i]?=some x,fun i H x H'=>H'=H/\∀ xs,SqL K H a xs->xs[i]?=some x,fun i H=>∃ xs,SqL K H a xs/\xs.length<=i⟩
def Itr (lo:Int) (n:Nat):It:=⟨fun i _=>i < n,fun i H x H'=>H'=H/\x=.int (lo+i),fun i _=>n<=i⟩
theorem aoo {P:Program} {w:World} {K:Frag} {tg:Expr} (a it:Addr):Turn P w K tg (Itl K a) [it] it (fun i h=>h.IsListIter it a i) where
 mem:=by simp
 obj:=fun i h st b hb=>by
  have e:b=it:=by simpa using hb
  subst e
  obtain ⟨o,e,c,d⟩:=st
  exact ⟨o,e,fun v z=>by rw [d] at z;cases z⟩
 keep:=fun i h h' st k=>st.at fun o e=>k it (by simp) o e
 item:=by
  intro X j A r C i pins s σ H E I hf st n
  subst j A r
  obtain ⟨xs,x,f,y⟩:=n
  obtain ⟨its,m,p,N⟩:=I.list f
  obtain ⟨u,J,F⟩:=m.get y
  obtain ⟨B,f1,G,l,q,g⟩:=hf it (by simp)
  refine wpAny_pyNext_list_item st p.isList (x:=u) (by simpa using J) fun h' st' sb=>?_
  have L:Inv X pins σ H { s with heap:=h' }:=I.turned (t':=s.toks) (fun b o hb e=>(sb.2 b hb).trans e) B f1 l q g
  obtain ⟨o,e,c,d⟩:=id st'
  exact ⟨u,rfl,ajr (s:={ s with heap:=h' }) e c d (by decide) ⟨x,H,L,F,⟨rfl,fun ys M=>by rw [I.list_inj M f];exact y⟩,st',fun b hb=>(hf b hb).1⟩⟩
 done:=by
  intro X j A r C i pins s σ H E I hf st n
  subst j A r
  obtain ⟨xs,f,y⟩:=n
  obtain ⟨its,m,p,N⟩:=I.list f
  obtain ⟨B,f1,G,l,q,g⟩:=hf it (by simp)
  have O:=m.length
  exact wpAny_pyNext_list_end (I.ok.hd C) st p.isList (by simp;omega) fun h' D=>⟨rfl,I.turned (t':=s.toks) (fun b o hb e=>D b o hb e) B f1 l q g⟩
 self:=fun _ _ _ _ _ st h=>wpAny_pyIter_listiter st h
theorem ang {P:Program} {w:World} {K:Frag} {tg:Expr} (it:Addr) (lo:Int) (n:Nat):Turn P w K tg (Itr lo n) [it] it (fun i h=>IsRangeIter h it (lo+(i:Nat) * 1) ((n:Int) - (i:Nat)) 1) where
 mem:=by simp
 obj:=fun i h st b hb=>by
  have e:b=it:=by simpa using hb
  subst e
  exact ⟨_,st,fun v z=>by
   have B:Data.fields _=Data.cell v:=z
   cases B⟩
 keep:=fun i h h' st k=>k it (by simp) _ st
 item:=by
  intro X c m l j i pins s σ H E I hf st f
  subst c m l
  obtain ⟨p,f1,y,d,g,a⟩:=hf it (by simp)
  have W:=Walks.range (prog:=X.prog) (w:=X.w) (I.ok.hd j) it lo 1 n
  refine W.item i s _ _ f st fun v h' q u st' x=>?_
  obtain ⟨t,rfl⟩:=u
  have A:Inv X pins σ H { s with heap:=h',toks:=q }:=I.turned (fun b o hb e=>x b o (by simpa using hb) e) p f1 d g a
  refine ⟨_,rfl,ajr (s:={ s with heap:=h',toks:=q }) (n:="range_iterator") st' rfl rfl (by decide) ⟨.int (lo+i),H,A,⟨t,?_⟩,⟨rfl,rfl⟩,st',fun b hb=>(hf b hb).1⟩⟩
  rw [Int.mul_one]
 done:=by
  intro X c m l j i pins s σ H E I hf st f
  subst c m l
  obtain ⟨p,f1,y,d,g,a⟩:=hf it (by simp)
  exact wpAny_pyNext_range_end (I.ok.hd j) st (by have:n<=i:=f;omega) fun h' r=>⟨rfl,I.turned (t':=s.toks) (fun b o hb e=>r b o hb e) p f1 d g a⟩
 self:=fun _ _ _ _ _ st h=>wpAny_pyIter_rangeiter st h
section
variable {X:Cx} {tg:Expr}
def ajs (K:Frag) (tl:TE):TI:=fun σ H R=>tl σ H fun x H1=>∃ a,x=.ref a/\(∃ xs,SqL K H1 a xs)/\R (Itl K a) H1
theorem abp {l:Expr} {tl:TE} (j:PE X l tl):PI X tg l (ajs X.K tl):=by
 intro pins s σ H R I h
 refine thn (j pins s σ H _ I h) fun v s1 ⟨x,d,c,g,i⟩=>?_
 obtain ⟨a,e,⟨xs,f⟩,q⟩:=i
 subst e
 cases g
 obtain ⟨its,m,p,n⟩:=c.list f
 refine wpAny_pyIter_list p.isList ?_
 refine ⟨s1.heap.objs.size,[s1.heap.objs.size],_,_,d,rfl,c.kept (t':=s1.toks) fun b o e=>aG3 _ e,aoo a _,⟨_,aG5 _ rfl,rfl,rfl⟩,fun b hb=>?_,q⟩
 have e:b=s1.heap.objs.size:=by simpa using hb
 subst e
 exact c.fpOk (az0 _) (c.hok.fresh (az0 _))
theorem aj6 {pins:List (Addr × Obj)} {σ:St} {H:Hp} {s:Shared} {R:It->Hp->Prop} {E:Value->Shared->Prop} {lo hi:Int} {t u v:Tok} {a:Nat} (I:Inv X pins σ H s) (d : -(2 ^ 62)<=lo) (f:lo < 2 ^ 62) (h : -(2 ^ 62)<=hi) (g:hi < 2 ^ 62)
  (q:R (Itr lo (hi - lo).toNat) H):wpAny (model X.prog X.w) X.A (pyIter (.ref s.heap.objs.size)) (PIE X pins σ tg R) E { s with heap:=s.heap.push { cls:=.type "range",data:=.fields #[.int lo t,.int hi u,.int 1 v] },toks:=a }:=by
 refine wpAny_pyIter_range (IsRange.new ..) (small_one d f h g) ?_
 have c:Inv X pins σ H { s with heap:=s.heap.push { cls:=.type "range",data:=.fields #[.int lo t,.int hi u,.int 1 v] },toks:=a }:=I.kept fun b o e=>aG3 _ e
 refine ⟨(s.heap.push { cls:=.type "range",data:=.fields #[.int lo t,.int hi u,.int 1 v] }).objs.size,[(s.heap.push { cls:=.type "range",data:=.fields #[.int lo t,.int hi u,.int 1 v] }).objs.size],_,_,H,rfl,
  c.kept (t':=a) fun b o e=>aG3 _ e,ang _ lo (hi - lo).toNat,?_,fun b hb=>?_,q⟩
 ·have j:lo+((0:Nat):Int) * 1=lo:=by simp
  have i:(((hi - lo).toNat:Nat):Int) - ((0:Nat):Int)=Builtin.Range.rangeSize lo hi 1:=by rw [rangeSize_one];split <;> omega
  show IsRangeIter _ _ (lo+((0:Nat):Int) * 1) ((((hi - lo).toNat:Nat):Int) - ((0:Nat):Int)) 1
  rw [j,i]
  exact aG5 _ rfl
 ·have e:b=(s.heap.push { cls:=.type "range",data:=.fields #[.int lo t,.int hi u,.int 1 v] }).objs.size:=by simpa using hb
  subst e
  exact c.fpOk (az0 _) (c.hok.fresh (az0 _))
def asu (ta:TA):TI:=fun σ H R=>ta σ H fun vs H1=>∃ j:Int,vs=[.int j]/\-(2 ^ 62)<=j/\j < 2 ^ 62/\R (Itr 0 j.toNat) H1
def asv (ta:TA):TI:=fun σ H R=>ta σ H fun vs H1=>∃ i j:Int,vs=[.int i,.int j]/\(-(2 ^ 62)<=i/\i < 2 ^ 62/\-(2 ^ 62)<=j/\j < 2 ^ 62)/\R (Itr i (j - i).toNat) H1
theorem aba {a:Expr} {c:TA} {p pos:Pos} (g:Gl X "range") (hm:X.mg "range" = none) (ha:PA X [a] c) (f:starEach [a] X.env=[(false,eval a X.env)]:=by rfl):PI X tg (.Call (.Name "range" p) [a] [] pos) (asu c):=by
 intro pins s σ H R I h
 refine Call_ (acl I g hm boot_range (PyProof.Rows.callWith_type1 (thn (ha pos pins s σ H _ I h) fun us s1 ⟨vs,m,l,i,b⟩=>?_) f rfl))
 obtain ⟨j,e,b,d,q⟩:=b
 subst e
 cases i with
 | cons r rr =>
  cases rr
  obtain ⟨t,rfl⟩:=r
  exact call_range_1 (aj6 l (by omega) (by omega) b d (by simpa using q))
theorem afd {a b:Expr} {f:TA} {p pos:Pos} (m:Gl X "range") (hm:X.mg "range" = none) (ha:PA X [a,b] f) (l:starEach [a,b] X.env=[(false,eval a X.env),(false,eval b X.env)]:=by rfl) (c:starEach [b] X.env=[(false,eval b X.env)]:=by rfl) :
  PI X tg (.Call (.Name "range" p) [a,b] [] pos) (asv f):=by
 intro pins s σ H R I h
 refine Call_ (acl I m hm boot_range (PyProof.Rows.callWith_type1 (thn (ha pos pins s σ H _ I h) fun us s1 ⟨vs,w,v,o,d⟩=>?_) (by rw [l,c]) (by rw [c];rfl)))
 obtain ⟨i,j,e,⟨d,g,u,n⟩,q⟩:=d
 subst e
 cases o with
 | cons r rr =>
  cases rr with
  | cons r' rr =>
   cases rr
   obtain ⟨t,rfl⟩:=r
   obtain ⟨t',rfl⟩:=r'
   exact call_range_2 (aj6 v d g u n q)
def tFor (wi:TI) (g:TG) (tb:TS):TS:=fun D σ H=>wi σ H fun J H1=>∃ W:Nat->Nat->St->Hp->Prop,(∃ m,W 0 m σ H1)/\∀ i m σ H,W i m σ H ->
 (J.stop i H/\D.nx σ H)\/(J.go i H/\∃ N:St->Hp->Prop,(∀ σ' H',N σ' H'->∃ m',m' < m/\W (i+1) m' σ' H')/\∀ x H',J.yld i H x H'->g x σ H' fun σ2 H2=>tb { D with nx:=N,ct:=N,bk:=D.nx } σ2 H2)
def ad1 (fp:List Addr) (h:Heap):List (Addr × Obj):=fp.filterMap fun b=>(h.get? b).map fun o=>(b,o)
theorem abw {fp:List Addr} {h:Heap} {b:Addr} {o:Obj} (hb:b∈fp) (e:h.get? b=some o):(b,o)∈ad1 fp h:=List.mem_filterMap.mpr ⟨b,hb,by rw [e];rfl⟩
theorem aop {fp:List Addr} {h:Heap} {p:Addr × Obj} (c:p∈ad1 fp h):p.1∈fp/\h.get? p.1=some p.2:=by
 obtain ⟨b,hb,e⟩:=List.mem_filterMap.mp c
 cases q:h.get? b with
 | none=>rw [q] at e;cases e
 | some o =>
  rw [q] at e
  have a:(b,o)=p:=aA9 e
  subst a
  exact ⟨hb,q⟩
theorem Inv.pinned {pins:List (Addr × Obj)} {σ:St} {H:Hp} {s:Shared} {fp:List Addr} (I:Inv X pins σ H s) (hf:∀ b∈fp,FpOk X pins H b) (g:∀ b∈fp,∃ o,s.heap.get? b=some o/\∀ v,o.data ≠ .cell v):Inv X (pins ++ ad1 fp s.heap) σ H s :=
 I.pins_of fun p c=>(az1.mp c).elim (fun z=>I.pin p (az6 _ z)) fun z=>by
  obtain ⟨hb,e⟩:=aop z
  obtain ⟨h,f1,f,_⟩:=hf p.1 hb
  obtain ⟨o,a,d⟩:=g p.1 hb
  rw [e] at a;cases a
  exact ⟨e,h,f1,f,d⟩
theorem Inv.unpinned {pins a:List (Addr × Obj)} {σ:St} {H:Hp} {s:Shared} (I:Inv X (pins ++ a) σ H s):Inv X pins σ H s:=I.pins_of fun p b=>I.pin p (az6 _ (aB0 _ b))
theorem abg {iter:Expr} {body:List Stmt} {wi:TI} {g:TG} {S:TS} {pos:Pos} (E:PassesOwn (model X.prog X.w) X.A X.env X.xe) (hc:X.calm=true) (hi:PI X tg iter wi) (hg:PG X tg g) (hb:PSs X body S)
  (hs:∀ x,foldedSetIterable iter X.env x=pure x:=by intro _;rfl):PS X (.For tg iter body [] pos) (tFor wi g S):=by
 intro pins s σ H D I h
 refine wpAny_For (thn (hi pins s σ H _ I h) fun v s1 h1=>thn h1 fun a0 s2 h2=>?_) hs
 obtain ⟨it,fp,tn,J,H2,e,I2,T,P,Y,W,⟨m0,w0⟩,G⟩:=h2
 subst e
 -- what stays true of the iterator's objects through the loop
 have q:∀ {H':Hp},(∀ b∈fp,H' b=none)->∀ b∈fp,FpOk X pins H' b:=fun hn b hb=>⟨hn b hb,(Y b hb).2⟩
 refine codeAny_forLoop_any (fun n s'=>∃ i c H',Inv X pins c H' s'/\tn i s'.heap/\(∀ b∈fp,H' b=none)/\W i n c H') ?_ m0 ⟨0,σ,H2,I2,P,fun b hb=>(Y b hb).1,w0⟩
 rintro n U ⟨i,p,H3,I3,F,C,w3⟩
 rcases G i n p H3 w3 with ⟨stop,qn⟩ | ⟨go,N,hN,step⟩
 ·refine wpAny_passesOwn E (thn (T.done X rfl rfl rfl hc i pins U p H3 X.xe I3 (q C) F stop) fun r s4 ⟨M,I4⟩=>?_)
  subst M
  exact wpAny_execs_nil ⟨p,H3,I4,qn⟩
 ·refine wpAny_passesOwn E (thn (T.item X rfl rfl rfl hc i pins U p H3 X.xe I3 (q C) F go) fun r s4 ⟨u,M,h4⟩=>?_)
  subst M
  refine wpAny_passesOwn E (thn h4 fun _ s5 ⟨x,Z,I5,r5,y5,B,L⟩=>?_)
  have Q:=I5.pinned (q L) (T.obj _ _ B)
  refine wpAny_passesOwn E (thn (hg _ s5 p Z x u _ Q r5 (step x Z y5)) fun _ s6 ⟨O,H6,I6,q6⟩=>?_)
  refine wpAny_passesOwn E (thn (hb _ s6 O H6 _ I6 q6) fun f R z=>?_)
  have y:∀ {a:St} {j:Hp},Inv X (pins ++ ad1 fp s5.heap) a j R->N a j->∃ m,m < n/\∃ i c H',Inv X pins c H' R/\tn i R.heap/\(∀ b∈fp,H' b=none)/\W i m c H':=fun {a j} l K=>by
   obtain ⟨m',hm,w7⟩:=hN a j K
   refine ⟨m',hm,i+1,a,j,l.unpinned,T.keep _ _ _ B fun b hb o e=>(l.pin (b,o) (az6 _ (az6 _ (abw hb e)))).1,fun b hb=>?_,w7⟩
   obtain ⟨o,e,d⟩:=T.obj _ _ B b hb
   exact (l.pin (b,o) (az6 _ (az6 _ (abw hb e)))).2.1
  cases f with
  | next=>obtain ⟨a,j,l,K⟩:=z;exact y l K
  | cont=>obtain ⟨a,j,l,K⟩:=z;exact y l K
  | brk=>obtain ⟨a,j,l,z⟩:=z;exact ⟨a,j,l.unpinned,z⟩
  | ret v=>obtain ⟨x7,a,j,l,r7,z⟩:=z;exact ⟨x7,a,j,l.unpinned,r7,z⟩
end
abbrev R2:=V->V->Hp->VK->Prop
def OpR (X:Cx) (f:Value->Value->Sem Value) (r:R2):Prop :=
 ∀ (pins:List (Addr × Obj)) (s:Shared) (σ:St) (H:Hp) (x y:V) (v u:Value) (Q:VK),Inv X pins σ H s->RelV x v->RelV y u->r x y H Q ->
  wpAny (model X.prog X.w) X.A (f v u) (EP X pins σ Q) X.xe s
def UnR (X:Cx) (f:Value->Sem Value) (r:V->Hp->VK->Prop):Prop :=
 ∀ (pins:List (Addr × Obj)) (s:Shared) (σ:St) (H:Hp) (x:V) (v:Value) (Q:VK),Inv X pins σ H s->RelV x v->r x H Q ->
  wpAny (model X.prog X.w) X.A (f v) (EP X pins σ Q) X.xe s
def abh (X:Cx) (f:Value) (r:List V->Hp->VK->Prop):Prop :=
 ∀ (pins:List (Addr × Obj)) (s:Shared) (σ:St) (H:Hp) (xs:List V) (us:List Value) (Q:VK),Inv X pins σ H s->Vals xs us->r xs H Q ->
  wpAny (model X.prog X.w) X.A (call f us) (EP X pins σ Q) X.xe s
def TruR (X:Cx) (r:V->Hp->(Bool->Hp->Prop)->Prop):Prop :=
 ∀ (pins:List (Addr × Obj)) (s:Shared) (σ:St) (H:Hp) (x:V) (v:Value) (Q:Bool->Hp->Prop),Inv X pins σ H s->RelV x v->r x H Q ->
  wpAny (model X.prog X.w) X.A (truthy v) (TP X pins σ Q) X.xe s
def tOp (r:R2) (ta tb:TE):TE:=fun σ H Q=>ta σ H fun x H1=>tb σ H1 fun y H2=>r x y H2 Q
def tUn (r:V->Hp->VK->Prop) (ta:TE):TE:=fun σ H Q=>ta σ H fun x H1=>r x H1 Q
def rI (C:Int->Int->Prop) (g:Int->Int->V):R2:=fun x y H Q=>∃ i j,x=.int i/\y=.int j/\C i j/\Q (g i j) H
def rI0 (g:Int->Int->V):R2:=fun x y H Q=>∃ i j,x=.int i/\y=.int j/\Q (g i j) H
def rU (g:Int->V):V->Hp->VK->Prop:=fun x H Q=>∃ i,x=.int i/\Q (g i) H
section
variable {X:Cx} {a b c:Expr} {ta tb tc:TE} {pos:Pos}
theorem binT (ha:PE X a ta) (hb:PE X b tb) {pins:List (Addr × Obj)} {s:Shared} {σ:St} {H:Hp} {R:V->V->Hp->Prop} (I:Inv X pins σ H s)
  (h:ta σ H fun x g=>tb σ g fun y H2=>R x y H2) {Q:Value->Shared->Prop} {f:Value->Value->Sem Value}
  (hf:∀ v u s2 x y H2,Inv X pins σ H2 s2->RelV x v->RelV y u->R x y H2->wpAny (model X.prog X.w) X.A (f v u) Q X.xe s2) :
  wpAny (model X.prog X.w) X.A (eval a X.env) (fun v c=>wpAny (model X.prog X.w) X.A (eval b X.env) (fun u d=>wpAny (model X.prog X.w) X.A (f v u) Q X.xe d) X.xe c) X.xe s:=by
 refine thn (ha pins s σ H _ I h) fun v s1 ⟨x,g,o,m,n⟩=>?_
 refine thn (hb pins s1 σ g _ o n) fun u s2 ⟨y,H2,l,i,j⟩=>?_
 exact hf v u s2 x y H2 l m i j
theorem aae {op:Operator} {r:R2} (g:OpR X (binaryOp op) r) (ha:PE X a ta) (hb:PE X b tb):PE X (.BinOp a op b pos) (tOp r ta tb):=by
 intro pins s σ H Q I h
 exact wpAny_BinOp (binT ha hb I h fun v u s2 x y H2 f d c q=>g pins s2 σ H2 x y v u Q f d c q)
theorem anh {op:UnaryOp} {r:V->Hp->VK->Prop} (g:UnR X (unaryOp op) r) (ha:PE X a ta):PE X (.UnaryOp op a pos) (tUn r ta):=by
 intro pins s σ H Q I h
 exact UnaryOp_ (thn (ha pins s σ H _ I h) fun v s1 ⟨x,c,f,b,d⟩=>g pins s1 σ c x v Q f b d)
theorem opI {f:Value->Value->Sem Value} {C:Int->Int->Prop} {g:Int->Int->Int}
  (a:∀ (i j:Int) (t u:Tok) (s:Shared) (Q:Value->Shared->Prop) (E:Value->Shared->Prop),C i j->Q (.int (g i j) s.toks) { s with toks:=s.toks+1 }->wpAny (model X.prog X.w) X.A (f (.int i t) (.int j u)) Q E s) :
  OpR X f (rI C fun i j => .int (g i j)):=by
 intro pins s σ H x y v u Q I c b h
 obtain ⟨i,j,rfl,rfl,d,q⟩:=h
 obtain ⟨t,rfl⟩:=c
 obtain ⟨t',rfl⟩:=b
 exact a i j t t' s _ _ d ⟨.int (g i j),H,I.tok _,⟨_,rfl⟩,q⟩
theorem opI0 {f:Value->Value->Sem Value} {g:Int->Int->Int}
  (a:∀ (i j:Int) (t u:Tok) (s:Shared) (Q:Value->Shared->Prop) (E:Value->Shared->Prop),Q (.int (g i j) s.toks) { s with toks:=s.toks+1 }->wpAny (model X.prog X.w) X.A (f (.int i t) (.int j u)) Q E s) :
  OpR X f (rI0 fun i j => .int (g i j)):=by
 intro pins s σ H x y v u Q I c b h
 obtain ⟨i,j,rfl,rfl,q⟩:=h
 obtain ⟨t,rfl⟩:=c
 obtain ⟨t',rfl⟩:=b
 exact a i j t t' s _ _ ⟨.int (g i j),H,I.tok _,⟨_,rfl⟩,q⟩
theorem opB0 {f:Value->Value->Sem Value} {g:Int->Int->Bool}
  (a:∀ (i j:Int) (t u:Tok) (s:Shared) (Q:Value->Shared->Prop) (E:Value->Shared->Prop),Q (.bool (g i j)) s->wpAny (model X.prog X.w) X.A (f (.int i t) (.int j u)) Q E s) :
  OpR X f (rI0 fun i j => .bl (g i j)):=by
 intro pins s σ H x y v u Q I c b h
 obtain ⟨i,j,rfl,rfl,q⟩:=h
 obtain ⟨t,rfl⟩:=c
 obtain ⟨t',rfl⟩:=b
 exact a i j t t' s _ _ ⟨.bl (g i j),H,I,rfl,q⟩
def CDiv (i j:Int):Prop:=0 < j/\j < 1073741824
def CPow (i j:Int):Prop:=0<=j/\j<=1000000/\i.natAbs < 2 ^ 64
def CMul (i j:Int):Prop:=(-(2 ^ 64) < i/\i < 2 ^ 64)\/(-(2 ^ 64) < j/\j < 2 ^ 64)
theorem CMul.ok {i j:Int} (h:CMul i j):IntMulOk i j:=by
 rcases h with ⟨a,b⟩ | ⟨a,b⟩
 ·exact .of_left (intBits_le_64 a b)
 ·exact .of_right (intBits_le_64 a b)
theorem aas:OpR X (binaryOp .Add) (rI0 fun i j => .int (i+j)):=opI0 fun _ _ _ _ _ _ _ q=>add_int q
theorem acm:OpR X (binaryOp .Sub) (rI0 fun i j => .int (i - j)):=opI0 fun _ _ _ _ _ _ _ q=>sub_int q
theorem abn:OpR X (binaryOp .Mult) (rI CMul fun i j => .int (i * j)):=opI fun _ _ _ _ _ _ _ a q=>mul_int q a.ok
theorem abt:OpR X (binaryOp .FloorDiv) (rI CDiv fun i j => .int (i / j)):=opI fun i j _ _ _ _ _ a q=>by
 have b:(0:Int) < j:=a.1
 have c:j < 1073741824:=a.2
 exact floordiv_int (by omega) (by rw [Int.fdiv_eq_ediv_of_nonneg i (by omega)];exact q) (.inl (PyProof.noPylong_small (by omega)))
theorem aax:OpR X (binaryOp .Mod) (rI (fun _ j=>0 < j) fun i j => .int (i % j)):=opI fun i j _ _ _ _ _ a q=>by
 have b:(0:Int) < j:=a
 exact mod_int' (by omega) (by rw [Int.fmod_eq_emod_of_nonneg i (by omega)];exact q)
theorem awb:OpR X (binaryOp .Pow) (rI CPow fun i j => .int (i ^ j.toNat)):=opI fun _ _ _ _ _ _ _ a q=>pow_int_small a.1 a.2.1 a.2.2 q
theorem unI {f:Value->Sem Value} {g:Int->Int}
  (a:∀ (i:Int) (t:Tok) (s:Shared) (Q:Value->Shared->Prop) (E:Value->Shared->Prop),Q (.int (g i) s.toks) { s with toks:=s.toks+1 }->wpAny (model X.prog X.w) X.A (f (.int i t)) Q E s) :
  UnR X f (rU fun i => .int (g i)):=by
 intro pins s σ H x v Q I b h
 obtain ⟨i,rfl,q⟩:=h
 obtain ⟨t,rfl⟩:=b
 exact a i t s _ _ ⟨.int (g i),H,I.tok _,⟨_,rfl⟩,q⟩
theorem aj7:UnR X (unaryOp .USub) (rU fun i => .int (-i)):=unI fun _ _ _ _ _ q=>neg_int q
end
def scal:V->V->Bool
 | .non,.non=>true | .non,.int _=>true | .int _,.non=>true | .non,.bl _=>true | .bl _,.non=>true | .non,.str _=>true | .str _,.non=>true
 | .int _,.int _=>true | .bl _,.bl _=>true | .str _,.str _=>true | .byt _,.byt _=>true
 | .int _,.str _=>true | .str _,.int _=>true | .bl _,.str _=>true | .str _,.bl _=>true
 | _,_=>false
def rEq:R2:=fun x y H Q=>scal x y=true/\Q (.bl (decide (x=y))) H
theorem ami {i j:Int}:decide (V.int i=V.int j)=(i == j):=by
 rw [aF2]
 simp
theorem awc {i j:Bool}:decide (V.bl i=V.bl j)=(i == j):=by
 rw [aF2]
 simp
theorem atj {i j:Str}:decide (V.str i=V.str j)=(i == j):=by
 rw [aF2]
 simp
theorem atk {i j:Array UInt8}:decide (V.byt i=V.byt j)=(i.toList == j.toList):=by
 rw [aF2]
 cases i
 cases j
 simp
section
variable {X:Cx} {a b c:Expr} {ta tb tc:TE} {pos:Pos}
theorem abl {pins:List (Addr × Obj)} {σ:St} {H:Hp} {s:Shared} {Q:VK} {k a:Bool} (I:Inv X pins σ H s) (q:Q (.bl k) H) (e:k=a):EP X pins σ Q (.bool a) s:=by
 subst e
 exact ⟨.bl k,H,I,rfl,q⟩
theorem ani:OpR X (compareOp .Eq) rEq:=by
 intro pins s σ H x y v u Q I c a h
 obtain ⟨b,q⟩:=h
 cases x with
 | non =>
  cases c
  cases y with
  | non=>cases a;exact PySem.EqNone.eq_none_none (abl I q (by simp))
  | bl j=>cases a;exact PySem.EqNone.eq_none_bool (abl I q (by simp))
  | int j=>obtain ⟨t',rfl⟩:=a;exact PySem.EqNone.eq_none_int (abl I q (by simp))
  | str j=>obtain ⟨t',rfl⟩:=a;exact PySem.EqNone.eq_none_str (abl I q (by simp))
  | _=>exact absurd (show false=true from b) az3
 | bl i =>
  cases c
  cases y with
  | non=>cases a;exact PySem.EqNone.eq_bool_none (abl I q (by simp))
  | bl j=>cases a;exact eq_bool (abl I q awc)
  | str j=>obtain ⟨t',rfl⟩:=a;exact PySem.EqMixed.eq_bool_str (abl I q (by simp))
  | _=>exact absurd (show false=true from b) az3
 | int i =>
  obtain ⟨t,rfl⟩:=c
  cases y with
  | non=>cases a;exact PySem.EqNone.eq_int_none (abl I q (by simp))
  | int j=>obtain ⟨t',rfl⟩:=a;exact eq_int (abl I q ami)
  | str j=>obtain ⟨t',rfl⟩:=a;exact PySem.EqMixed.eq_int_str (abl I q (by simp))
  | _=>exact absurd (show false=true from b) az3
 | str i =>
  obtain ⟨t,rfl⟩:=c
  cases y with
  | non=>cases a;exact PySem.EqNone.eq_str_none (abl I q (by simp))
  | bl j=>cases a;exact PySem.EqMixed.eq_str_bool (abl I q (by simp))
  | int j=>obtain ⟨t',rfl⟩:=a;exact PySem.EqMixed.eq_str_int (abl I q (by simp))
  | str j=>obtain ⟨t',rfl⟩:=a;exact eq_str (abl I q atj)
  | _=>exact absurd (show false=true from b) az3
 | byt i =>
  obtain ⟨t,rfl⟩:=c
  cases y with
  | byt j=>obtain ⟨t',rfl⟩:=a;exact PySem.W.eq_bytes (abl I q atk)
  | _=>exact absurd (show false=true from b) az3
 | _=>cases y <;> exact absurd (show false=true from b) az3
theorem agv:OpR X (compareOp .Lt) (rI0 fun i j => .bl (decide (i < j))):=opB0 fun _ _ _ _ _ _ _ q=>lt_int q
theorem asw:OpR X (compareOp .LtE) (rI0 fun i j => .bl (decide (i<=j))):=opB0 fun _ _ _ _ _ _ _ q=>le_int q
theorem ajt:OpR X (compareOp .Gt) (rI0 fun i j => .bl (decide (j < i))):=opB0 fun _ _ _ _ _ _ _ q=>gt_int q
theorem anj:OpR X (compareOp .GtE) (rI0 fun i j => .bl (decide (j<=i))):=opB0 fun _ _ _ _ _ _ _ q=>ge_int q
theorem awd:OpR X (compareOp .Is) (fun x y H Q=>y=.non/\Q (.bl (decide (x=.non))) H):=by
 intro pins s σ H x y v u Q I a b h
 obtain ⟨rfl,q⟩:=h
 cases b
 refine is_none_gen (abl I q ?_)
 cases x <;> first
  | (cases a;rfl)
  | (obtain ⟨t,rfl⟩:=a;rfl)
theorem atl:OpR X (compareOp .IsNot) (fun x y H Q=>y=.non/\Q (.bl (!decide (x=.non))) H):=by
 intro pins s σ H x y v u Q I a b h
 obtain ⟨rfl,q⟩:=h
 cases b
 refine isnot_none_gen (abl I q ?_)
 cases x <;> first
  | (cases a;rfl)
  | (obtain ⟨t,rfl⟩:=a;rfl)
theorem aa0 (b:Expr) {op:CmpOp} (h:op ≠ .In:=by decide) (d:op ≠ .NotIn:=by decide):behindInMarks op b=false:=by
 have c:(op == CmpOp.In)=false:=by cases op <;> first | rfl | exact absurd rfl h
 have a:(op == CmpOp.NotIn)=false:=by cases op <;> first | rfl | exact absurd rfl d
 cases b <;> simp [behindInMarks,c,a]
theorem acy {op:CmpOp} {r:R2} (g:OpR X (compareOp op) r) (ha:PE X a ta) (hb:PE X b tb) (hm:behindInMarks op b=false):PE X (.Compare a [op] [b] pos) (tOp r ta tb):=by
 intro pins s σ H Q I h
 exact wpAny_Compare1 (binT ha hb I h fun v u s2 x y H2 f d c q=>g pins s2 σ H2 x y v u Q f d c q) hm
def asx (t:TE):TT:=fun σ H Q=>t σ H fun x H'=>∃ k,x=.bl k/\Q k H'
theorem aa2 {op:CmpOp} {r:R2} (q:OpR X (compareOp op) r) (ha:PE X a ta) (hb:PE X b tb) (hm:behindInMarks op b=false):PT X (.Compare a [op] [b] pos) (asx (tOp r ta tb)):=by
 intro pins s σ H Q I h
 refine wpAny_isTrue_Compare1 (thn (ha pins s σ H _ I h) fun v s1 ⟨x,g,p,l,m⟩=>thn (hb pins s1 σ g _ p m) fun u s2 ⟨y,H2,j,f,i⟩ =>
  thn (q pins s2 σ H2 x y v u _ j l f i) fun c w ⟨z,H3,n,d,k,e,o⟩=>?_) hm
 subst e
 cases d
 exact aH1 ⟨H3,n,o⟩
def aj8 (r r':R2) (ta tb tc:TE):TE:=fun σ H Q=>ta σ H fun x H1=>tb σ H1 fun y H2=>r x y H2 fun z H3=>∃ k,z=.bl k /\
 (if k=true then tc σ H3 fun w' H4=>r' y w' H4 Q else Q (.bl false) H3)
theorem aqs {op f:CmpOp} {r j:R2} (N:OpR X (compareOp op) r) (g:OpR X (compareOp f) j) (ha:PE X a ta) (hb:PE X b tb) (E:PE X c tc)
  (hm:lastMarks [op,f] [b,c]=false:=by with_unfolding_all rfl):PE X (.Compare a [op,f] [b,c] pos) (aj8 r j ta tb tc):=by
 intro pins s σ H Q I h
 refine Compare_chain (thn (ha pins s σ H _ I h) fun v s1 ⟨x,p,M,C,D⟩=>chain_link (thn (hb pins s1 σ p _ M D) fun u s2 ⟨y,H2,w,i,q⟩ =>
  thn (N pins s2 σ H2 x y v u _ w C i q) fun d o ⟨z,H3,l,n,k,e,m⟩=>?_)) hm
 subst e
 cases n
 refine aH1 ?_
 cases k with
 | false=>exact ite_ff ⟨.bl false,H3,l,rfl,m⟩
 | true=>exact ite_tt (chain_last (thn (E pins o σ H3 _ l m) fun G J ⟨K,L,A,F,B⟩=>g pins J σ L y K u G Q A i F B))
def TruV (K:Frag) (x:V) (H:Hp) (k:Bool):Prop :=
 match x with
 | .non=>k=false
 | .bl b=>k=b
 | .int i=>k=(i != 0)
 | .str y=>y.length<=sizeLine/\k=((y.length:Int) != 0)
 | .byt y=>y.size<=sizeLine/\k=((y.size:Int) != 0)
 | .ref p=>(∃ xs,SqL K H p xs/\k = !xs.isEmpty)\/(∃ xs,SqT K H p xs/\k = !xs.isEmpty)\/∃ kvs,H p=some (.dK kvs)/\k = !kvs.isEmpty
 | _=>False
theorem ank {κ:Type} {kvs:List (κ × V)} {vs:List (κ × Value)} (r:KV kvs vs):(!vs.isEmpty) = !kvs.isEmpty:=by
 cases r <;> rfl
theorem agw {xs:List V} {its:List Value} (r:Vals xs its):(!its.toArray.isEmpty) = !xs.isEmpty:=by
 cases r <;> simp
theorem afe:(sizeLine:Nat) < 2 ^ 63:=by rw [sizeLine_eq];decide
theorem awe:TruR X (fun x H Q=>∃ k,TruV X.K x H k/\Q k H):=by
 intro pins s σ H x v Q I d h
 obtain ⟨k,e,q⟩:=h
 have u:=afe
 have o:sizeLine=16777216:=sizeLine_eq
 cases x with
 | non =>
  cases d
  have a:k=false:=e
  subst a
  exact truthy_none ⟨H,I,q⟩
 | bl b =>
  cases d
  have a:k=b:=e
  subst a
  exact aH1 ⟨H,I,q⟩
 | int i =>
  obtain ⟨t,rfl⟩:=d
  have a:k=(i != 0):=e
  subst a
  exact PySem.P.truthy_int ⟨H,I,q⟩
 | str y =>
  obtain ⟨t,rfl⟩:=d
  obtain ⟨n,a⟩:y.length<=sizeLine/\k=((y.length:Int) != 0):=e
  subst a
  exact PySem.P.truthy_str (by omega) ⟨H,I.tok _,q⟩
 | byt y =>
  obtain ⟨t,rfl⟩:=d
  obtain ⟨n,a⟩:y.size<=sizeLine/\k=((y.size:Int) != 0):=e
  subst a
  exact PySem.W.truthy_bytes (by omega) ⟨H,I.tok _,q⟩
 | ref p =>
  cases d
  have a:(∃ xs,SqL X.K H p xs/\k = !xs.isEmpty)\/(∃ xs,SqT X.K H p xs/\k = !xs.isEmpty)\/∃ kvs,H p=some (.dK kvs)/\k = !kvs.isEmpty:=e
  rcases a with ⟨xs,f,a⟩ | ⟨xs,f,a⟩ | ⟨kvs,f,a⟩
  ·subst a
   obtain ⟨its,r,g,j⟩:=I.list f
   have c:=r.length
   exact wpAny_truthy_list g.isList (by simp only [az5];omega) ⟨H,I.tok _,by rw [agw r];exact q⟩
  ·subst a
   obtain ⟨its,r,g,j⟩:=I.tuple f
   have c:=r.length
   exact truthy_tuple g (by simp only [az5];omega) ⟨H,I.tok _,by rw [agw r];exact q⟩
  ·subst a
   obtain ⟨j,l,vs,r,m⟩:kvs.length<=sizeLine/\(p == sysModules)=false/\∃ vs,KV kvs vs/\s.heap.DictOf (aa8 X.prog X.w) p vs:=I.hok p _ f
   have c:kvs.length=vs.length:=Paired.length r
   exact wpAny_truthy_dict l m (by omega) ⟨H,I.tok _,by rw [ank r];exact q⟩
 | _=>exact (show False from e).elim
theorem aqt (ha:PE X a ta) (c:∀ whole,isTrue a X.env whole=(do let v ← whole;standAt a.pos;holding [v] (truthy v))) :
  PT X a (fun σ H Q=>ta σ H fun x H'=>∃ k,TruV X.K x H' k/\Q k H'):=by
 intro pins s σ H Q I h
 exact isTrue_plain (thn (ha pins s σ H _ I h) fun v s1 ⟨x,b,g,d,f⟩=>awe pins s1 σ b x v Q g d f) (c _)
theorem acu {x:V} {us:List Value} (r:Vals [x] us):∃ u,us=[u]/\RelV x u:=by
 cases r with
 | cons r1 r2=>cases r2;exact ⟨_,rfl,r1⟩
theorem anl {x y:V} {us:List Value} (r:Vals [x,y] us):∃ u a,us=[u,a]/\RelV x u/\RelV y a:=by
 cases r with
 | cons r1 r2 =>
  cases r2 with
  | cons r3 r4=>cases r4;exact ⟨_,_,rfl,r1,r3⟩
theorem aoq (a:X.calm=true):abh X (.builtin "max") (fun xs H Q=>∃ i j,xs=[.int i,.int j]/\Q (.int (if j > i then j else i)) H):=by
 intro pins s σ H xs us Q I r h
 obtain ⟨i,j,rfl,q⟩:=h
 obtain ⟨u,b,rfl,⟨t,rfl⟩,⟨t',rfl⟩⟩:=anl r
 refine max_two_ints (I.ok.hd a) fun h' c k=>⟨_,H,I.kept k,?_,q⟩
 by_cases hj:j > i
 ·rw [aC9 hj,aC9 hj];exact ⟨_,rfl⟩
 ·rw [aD0 hj,aD0 hj];exact ⟨_,rfl⟩
theorem aor (a:X.calm=true):abh X (.builtin "min") (fun xs H Q=>∃ i j,xs=[.int i,.int j]/\Q (.int (if j < i then j else i)) H):=by
 intro pins s σ H xs us Q I r h
 obtain ⟨i,j,rfl,q⟩:=h
 obtain ⟨u,b,rfl,⟨t,rfl⟩,⟨t',rfl⟩⟩:=anl r
 refine min_two_ints (I.ok.hd a) fun h' c k=>⟨_,H,I.kept k,?_,q⟩
 by_cases hj:j < i
 ·rw [aC9 hj,aC9 hj];exact ⟨_,rfl⟩
 ·rw [aD0 hj,aD0 hj];exact ⟨_,rfl⟩
theorem aos:abh X (.type "int") (fun xs H Q=>(∃ i,xs=[.int i]/\Q (.int i) H)\/∃ k,xs=[.bl k]/\Q (.int (if k then 1 else 0)) H):=by
 intro pins s σ H xs us Q I r h
 rcases h with ⟨i,rfl,q⟩ | ⟨k,rfl,q⟩
 ·obtain ⟨u,rfl,t,rfl⟩:=acu r
  exact call_int_int ⟨.int i,H,I,⟨_,rfl⟩,q⟩
 ·obtain ⟨u,rfl,a⟩:=acu r
  cases a
  exact call_int_bool ⟨.int (if k then 1 else 0),H,I.tok _,⟨_,rfl⟩,q⟩
end
structure ObjM (h:Heap) (x dx C:Addr) (mA:Str->Option Value):Prop where
 obj:h.get? x=some (PySem.W.instObj C dx)
 ns:h.Ns1 dx mA
 ne:dx ≠ x
theorem aot {h:Heap} {dx:Addr} {mA:Str->Option Value} (n:h.Ns1 dx mA):∃ od,h.get? dx=some od/\∀ name,PySem.W.lookIn name od=some (mA name):=by
 obtain ⟨o,es,i,g,hd,d,_,hm⟩:=n
 refine ⟨o,g,fun name=>?_⟩
 have e:=hm name
 unfold nsFind findBy at e
 rw [← Array.find?_toList] at e
 unfold PySem.W.lookIn
 rw [hd]
 dsimp only
 split
 ·rename_i y q
  rw [q] at e
  exact congrArg some e
 ·rename_i q
  rw [q] at e
  have a:es.toList.any (·.refKey)=false:=by
   rw [List.any_eq_false]
   intro y f
   obtain ⟨z,t,b⟩:=d y (Array.mem_toList_iff.mp f)
   simp [DictEntry.refKey,b]
  have c:¬ es.toList.any (·.refKey)=true:=by rw [a];exact az3
  rw [aD0 c]
  exact congrArg some e
theorem ObjM.look {h:Heap} {x dx C:Addr} {mA:Str->Option Value} (I:ObjM h x dx C mA):∃ od,PySem.W.InstAt h x (PySem.W.instObj C dx) C (some od)/\∀ name,PySem.W.lookIn name od=some (mA name) :=
 let ⟨od,b,a⟩:=aot I.ns
 ⟨od,⟨I.obj,rfl,rfl,b⟩,a⟩
section
variable {prog:Program} {w:World} {A:Around} {E:Value->Shared->Prop} {s:Shared} {K:Frag} {x dx C f:Addr} {mA:Str->Option Value} {name:Str} {v:Value}
end
def putF (f:Str) (v:V):List (Str × V)->List (Str × V)
 | []=>[(f,v)]
 | (g,x) :: r=>if g=f then (g,v) :: r else (g,x) :: putF f v r
theorem RelO.some_of {v:V} {o:Option Value} (r:RelO (some v) o):∃ u,o=some u/\RelV v u:=by
 cases o with
 | none=>exact (show False from r).elim
 | some u=>exact ⟨u,rfl,r⟩
section
variable {P:Program} {w:World} {H H':Hp} {h h':Heap} {a C dx:Addr} {fs fs':List (Str × V)}
theorem atm (hok:HOk P w H h) (e:H a=some (.ins C dx fs)):∃ mA,ObjM h a dx C mA/\(∀ f,RelO (fs.lookup f) (mA f))/\PySem.Within mA (fs.map (·.1))/\fs.length<=1000/\H dx=some (.own a):=by
 obtain ⟨d,z,ne,b,mA,n,r,q⟩:=(show ObjOk P w H h a (.ins C dx fs) from hok a _ e)
 exact ⟨mA,⟨b,n,ne⟩,r,q,z,d⟩
end
structure Cls (K:Frag) (C:Addr):Prop where
 pg:PySem.W.plainGet K C Str.empty=true
 hd:PySem.W.hasDictIn K C=true
 po:PySem.W.plainOver K C=true
 sa:PySem.W.findIn K (.ref C) "__setattr__" = some (some (.builtin "object.__setattr__"))
theorem Cls.get {K:Frag} {C:Addr} (c:Cls K C) (f:Str):PySem.W.plainGet K C f=true:=c.pg
section
variable {X:Cx} {pins:List (Addr × Obj)} {σ:St} {H:Hp} {s:Shared} {a C dx:Addr} {fs:List (Str × V)} {f:Str} {v:V} {A:Around} {E:Value->Shared->Prop}
end
section
variable {X:Cx} {o e value:Expr} {f:Str} {pos pos' tpos:Pos} {ta tv:TE}
end
section
variable {X:Cx} {pins:List (Addr × Obj)} {σ:St} {H:Hp} {s:Shared} {A:Around} {E:Value->Shared->Prop} {Q:Value->Shared->Prop} {c:Value} {b:Bool}
inductive TyOf (K:Frag) (H:Hp):V->Value->Prop where
 | non:TyOf K H .non (.type "NoneType")
 | bl (x:Bool):TyOf K H (.bl x) (.type "bool")
 | int (i:Int):TyOf K H (.int i) (.type "int")
 | str (x:Str):TyOf K H (.str x) (.type "str")
 | flt (x:UInt64):TyOf K H (.flt x) (.type "float")
 | lst {a:Addr} {xs:List V} (e:H a=some (.lst xs)):TyOf K H (.ref a) (.type "list")
 | frz {a:Addr} {o:Obj} {xs:List V} (e:H a=some (.frz o (.lst xs))):TyOf K H (.ref a) (.type "list")
 | tup {a:Addr} {xs:List V} (e:H a=some (.tup xs)):TyOf K H (.ref a) (.type "tuple")
 | dK {a:Addr} {kvs:List (Key × V)} (e:H a=some (.dK kvs)):TyOf K H (.ref a) (.type "dict")
 | dT {a:Addr} {kvs:List (List Key × V)} (e:H a=some (.dT kvs)):TyOf K H (.ref a) (.type "dict")
 | ins {a C dx:Addr} {fs:List (Str × V)} (e:H a=some (.ins C dx fs)) (cl:Cls K C) (ha:PySem.W.findIn K (.ref C) "__class__" = some (some (.builtin "object.__class__")))
   (hn:PySem.W.specialIn K (.builtin "object.__class__") "__get__" = some (some (.builtin "getset_descriptor.__get__"))) (htk:PySem.W.takesIn K (.builtin "object.__class__")=some true)
   (hm:mroIn K C (.type "object")=some true):TyOf K H (.ref a) (.ref C)
theorem aou {x:V} {u t:Value} (I:Inv X pins σ H s) (d:RelV x u) (ty:TyOf X.K H x t) (e:kitOne X.K t c=some b) (h:∀ l,Q (.bool b) { s with toks:=l }) :
  wpAny (model X.prog X.w) A (call (.builtin "isinstance") [u,c]) Q E s:=by
 cases ty with
 | non=>cases (show u=Value.none from d);exact PySem.W.kia_one PySem.W.kitx_none I.kIn True.intro e (fun z=>nomatch z) h
 | bl y=>cases (show u=Value.bool y from d);exact PySem.W.kia_one PySem.W.kitx_bool I.kIn True.intro e (fun z=>nomatch z) h
 | int i=>obtain ⟨t,q⟩:=(show ∃ t,u=Value.int i t from d);cases q;exact PySem.W.kia_one PySem.W.kitx_int I.kIn True.intro e (fun z=>nomatch z) h
 | str y=>obtain ⟨t,q⟩:=(show ∃ t,u=Value.str y t from d);cases q;exact PySem.W.kia_one PySem.W.kitx_str I.kIn True.intro e (fun z=>nomatch z) h
 | flt y=>obtain ⟨t,q⟩:=(show ∃ t,u=Value.float y t from d);cases q;exact PySem.W.kia_one PySem.W.kitx_float I.kIn True.intro e (fun z=>nomatch z) h
 | @lst a xs ea =>
  cases (show u=Value.ref a from d)
  obtain ⟨_,_,n,_,f⟩:=(show ObjOk X.prog X.w H s.heap a (.lst xs) from I.hok a _ ea)
  exact PySem.W.kia_one PySem.W.kitx_list I.kIn ⟨_,f,rfl⟩ e (fun z=>nomatch z) h
 | @frz a ob xs ea =>
  cases (show u=Value.ref a from d)
  obtain ⟨_,_,_,n,_,f⟩:=(show ObjOk X.prog X.w H s.heap a (.frz ob (.lst xs)) from I.hok a _ ea)
  exact PySem.W.kia_one PySem.W.kitx_list I.kIn ⟨_,f,rfl⟩ e (fun z=>nomatch z) h
 | @tup a xs ea =>
  cases (show u=Value.ref a from d)
  obtain ⟨_,_,_,p⟩:=(show ObjOk X.prog X.w H s.heap a (.tup xs) from I.hok a _ ea)
  obtain ⟨o,f,g,_⟩:=p
  exact PySem.W.kia_one PySem.W.kitx_tuple I.kIn ⟨o,f,g⟩ e (fun z=>nomatch z) h
 | @dK a kvs ea =>
  cases (show u=Value.ref a from d)
  obtain ⟨_,_,vs,_,p⟩:=(show ObjOk X.prog X.w H s.heap a (.dK kvs) from I.hok a _ ea)
  obtain ⟨o,es,j,f,g,_⟩:=p
  exact PySem.W.kia_one PySem.W.kitx_dict I.kIn ⟨o,f,g.1⟩ e (fun z=>nomatch z) h
 | @dT a kvs ea =>
  cases (show u=Value.ref a from d)
  obtain ⟨_,_,xs,_,o,es,j,f,g,_⟩:=(show ObjOk X.prog X.w H s.heap a (.dT kvs) from I.hok a _ ea)
  exact PySem.W.kia_one PySem.W.kitx_dict I.kIn ⟨o,f,g.1⟩ e (fun z=>nomatch z) h
 | @ins a C dx fs ea cl ha hn htk hm =>
  cases (show u=Value.ref a from d)
  obtain ⟨mA,O,_⟩:=atm I.hok ea
  obtain ⟨od,J,_⟩:=O.look
  exact PySem.W.kia_one (PySem.W.kitx_own (cl.get _) cl.hd ha hn htk hm) I.kIn J e (fun z=>nomatch z) h
end
structure Room (k:Nat) (A:Around):Prop where
 hd:A.handled=none
 dp:A.depth+3 * k+5 < recursionLimit
 un:A.units+16 * k+200 < cLine
theorem Room.mono {j k:Nat} {A:Around} (r:Room k A) (h:j<=k):Room j A:=⟨r.hd,by have:=r.dp;omega,by have:=r.un;omega⟩
theorem Room.deeper {k:Nat} {A:Around} (r:Room (k+1) A) (env:Env):Room k (A.deeper env) :=
 ⟨r.hd,by have:=r.dp;show A.depth+1+3 * k+5 < _;omega,by have:=r.un;show A.units+3+16 * k+200 < _;omega⟩
theorem Room.in1 {k:Nat} {A:Around} (r:Room (k+1) A):Room k A.in1 :=
 ⟨r.hd,by have:=r.dp;show A.depth+3 * k+5 < _;omega,by have:=r.un;show A.units+1+16 * k+200 < _;omega⟩
theorem Room.depth {k:Nat} {A:Around} (r:Room k A):A.depth < recursionLimit:=by have:=r.dp;omega
theorem Room.units {k:Nat} {A:Around} (r:Room k A):A.units+64 < cLine:=by have:=r.un;omega
def tNil:TA:=fun _ H Q=>Q [] H
def aci (ta:TE) (tr:TA):TA:=fun σ H Q=>ta σ H fun x H1=>tr σ H1 fun xs H2=>Q (x :: xs) H2
section
variable {X:Cx} {e:Expr} {es:List Expr} {te:TE} {t:TA} {pos:Pos}
theorem aac:PA X [] tNil:=fun _ _ _ _ H Q I h=>Calls.spliced_nil ⟨[],H,I,.nil,h⟩
theorem aaa (ha:PE X e te) (g:PA X es t) (d:starEach (e :: es) X.env=(false,eval e X.env) :: starEach es X.env:=by rfl):PA X (e :: es) (aci te t):=by
 intro pos pins s σ H Q I h
 rw [d]
 show wpAny _ _ (spliced ((false,eval e X.env) :: backTo pos (starEach es X.env))) _ _ s
 refine Calls.spliced_cons (thn (ha pins s σ H _ I h) fun u s1 ⟨x,b,l,i,j⟩=>?_)
 exact thn (g pos pins s1 σ b _ l j) fun us s2 ⟨xs,H2,f,a,c⟩=>⟨x :: xs,H2,f,.cons i a,c⟩
def tTup (t:TA):TE:=fun σ H Q=>t σ H fun xs H1=>xs.length<=sizeLine/\∀ p,H1 p=none->Q (.ref p) (upd H1 p (.tup xs))
def tLst (t:TA):TE:=fun σ H Q=>t σ H fun xs H1=>xs.length<=sizeLine/\∀ p,H1 p=none->Q (.ref p) (upd H1 p (.lst xs))
theorem acv {x1} (h:PA X es t):PE X (.Tuple es x1 pos) (tTup t):=by
 intro pins s σ H Q I d
 refine wpAny_Tuple_spliced (thn (h pos pins s σ H _ I d) fun us s1 ⟨xs,a,c,r,z,q⟩=>⟨by rw [← r.length];exact z,?_⟩)
 have hf:a s1.heap.objs.size=none:=c.hok.fresh (az0 _)
 refine ⟨.ref s1.heap.objs.size,upd a s1.heap.objs.size (.tup xs),c.laid (t':=s1.toks) (fun b u e=>aG3 _ e) (az0 _) ?_,rfl,q _ hf⟩
 exact ⟨z,us,r,⟨_,aG5 _ rfl,rfl,_,rfl⟩⟩
theorem aa7 (h:PA X es t):PE X (.List es pos) (tLst t):=by
 intro pins s σ H Q I d
 refine wpAny_List_spliced (thn (h pos pins s σ H _ I d) fun us s1 ⟨xs,a,c,r,z,q⟩=>⟨by rw [← r.length];exact z,?_⟩)
 have hf:a s1.heap.objs.size=none:=c.hok.fresh (az0 _)
 refine ⟨.ref s1.heap.objs.size,upd a s1.heap.objs.size (.lst xs),c.laid (t':=s1.toks) (fun b u e=>aG3 _ e) (az0 _) ?_,rfl,q _ hf⟩
 exact ⟨z,us,0,r,aG5 _ rfl⟩
end
abbrev Sp:=List V->Hp->VK->XK->Prop
abbrev CXT:=List Env->Hp->Shared->XK->Value->Shared->Prop
structure Env0 (P:Program) (w:World) (K:Frag) (mg:Str->Option Value) (base:Heap) (A:Around) (outer:List Env) (s:Shared) (H:Hp):Prop where
 frames:A.frames=some outer
 mod:Mod K mg base
 bs:∀ b o,base.get? b=some o->s.heap.get? b=some o/\H b=none
 bsz:base.objs.size<=s.heap.objs.size
 funs:s.heap.FunFrames base outer
 frf:∀ b∈frs outer,H b=none
 hok:HOk P w H s.heap
 bare:AllBare s.gens
def CE (outer:List Env) (P:Program) (w:World) (H:Hp) (s:Shared) (Q:VK) (u:Value) (s':Shared):Prop :=
 ∃ v H',s'.os=s.os/\AllBare s'.gens/\Un (frs outer) [] H H' s.heap s'.heap/\HOk P w H' s'.heap/\RelV v u/\Q v H'
def CR (CX:CXT) (outer:List Env) (P:Program) (w:World) (H:Hp) (s:Shared) (Q:VK) (E:XK) (r:Result) (s':Shared):Prop :=
 match r with
 | .ok (.ret u)=>CE outer P w H s Q u s'
 | .ok _=>False
 | .error e=>CX outer H s E e s'
structure FnOk (P:Program) (w:World) (K:Frag) (mg:Str->Option Value) (base:Heap) (CX:CXT) (k:Nat) (f:Addr) (fd:FuncData) (ps:List Str) (sp:Sp):Prop where
 len:∀ vs H Q E,sp vs H Q E->vs.length=ps.length
 run:∀ (A:Around) (outer:List Env) (s:Shared) (H:Hp) (args:Args) (us:List Value) (vs:List V) (Q:VK) (E:XK),Room k A->Env0 P w K mg base A outer s H->BindsTo s fd args (ps.zip us)->Vals vs us->sp vs H Q E ->
  codeAny (model P w) A (.call (.ref f) args) (CR CX outer P w H s Q E) s
theorem FnOk.mono {P:Program} {w:World} {K:Frag} {mg:Str->Option Value} {base:Heap} {CX:CXT} {j k:Nat} {f:Addr} {fd:FuncData} {ps:List Str} {sp:Sp} (F:FnOk P w K mg base CX j f fd ps sp) (h:j<=k) :
  FnOk P w K mg base CX k f fd ps sp:=⟨F.len,fun A outer s H args us vs Q E a=>F.run A outer s H args us vs Q E (a.mono h)⟩
theorem FnOk.imp {P:Program} {w:World} {K:Frag} {mg:Str->Option Value} {base:Heap} {CX:CXT} {k:Nat} {f:Addr} {fd:FuncData} {ps:List Str} {sp a:Sp} (F:FnOk P w K mg base CX k f fd ps sp)
  (h:∀ vs H Q E,a vs H Q E->sp vs H Q E):FnOk P w K mg base CX k f fd ps a :=
 ⟨fun vs H Q E q=>F.len vs H Q E (h _ _ _ _ q),fun A outer s H args us vs Q E g d hb b c=>F.run A outer s H args us vs Q E g d hb b (h _ _ _ _ c)⟩
theorem Env0.in1 {P:Program} {w:World} {K:Frag} {mg:Str->Option Value} {base:Heap} {A:Around} {outer:List Env} {s:Shared} {H:Hp} (e:Env0 P w K mg base A outer s H) :
  Env0 P w K mg base A.in1 outer s H:=⟨e.frames,e.mod,e.bs,e.bsz,e.funs,e.frf,e.hok,e.bare⟩
section
variable {X:Cx} {pins:List (Addr × Obj)} {σ:St} {H:Hp} {s s':Shared}
theorem Inv.env0 (I:Inv X pins σ H s):Env0 X.prog X.w X.K X.mg X.base X.A X.stack s H :=
 ⟨I.ok.frames,I.ok.mod,I.bs,aB3 I.ok.bsz I.sz,I.stack,I.stkFree,I.hok,I.bare⟩
theorem Inv.after {Q:VK} {u:Value} (I:Inv X pins σ H s) (h:CE X.stack X.prog X.w H s Q u s'):EP X pins σ Q u s':=by
 obtain ⟨v,H',os,bare,un,hok,r,q⟩:=h
 obtain ⟨hh,g,d,t,os'⟩:=s'
 obtain rfl:os'=s.os:=os
 exact ⟨v,H',I.call (h':=hh) (g':=g) (d':=d) (t':=t) (ch:=[]) un hok bare (fun b z=>absurd z (by simp)),r,q⟩
end
def aev (sp:Sp) (dvs:List V) (E:XK) (t:TA):TE:=fun σ H Q=>t σ H fun vs H1=>sp (vs ++ dvs) H1 Q E
def Binds (K:Frag) (fd:FuncData) (ps:List Str) (ds:List Value):Prop :=
 ∀ (s:Shared) (us:List Value),K.In s.heap->(us ++ ds).length=ps.length->BindsTo s fd ⟨us,[]⟩ (ps.zip (us ++ ds))
theorem Binds.all {K:Frag} {fd:FuncData} {ps:List Str} (h:∀ us:List Value,us.length=ps.length->bindArgs fd ⟨us,[]⟩=pure (ps.zip us)):Binds K fd ps []:=fun s us _ a=>by
 rw [aC6] at a ⊢
 exact .of_eq (h us a)
def aj9 (CX:CXT) (X:Cx) (E:XK):Prop:=∀ (pins:List (Addr × Obj)) (σ:St) (H:Hp) (s:Shared) (e:Value) (s':Shared),Inv X pins σ H s->CX X.stack H s E e s'->X.xe e s'
section
variable {X:Cx} {CX:CXT} {k:Nat} {f C:Addr} {fd:FuncData} {ps:List Str} {sp:Sp} {dvs:List V} {ds:List Value} {E:XK} {x m:Str} {p pos apos:Pos} {e o:Expr} {es:List Expr} {ta:TE} {t:TA}
theorem awf {pins:List (Addr × Obj)} {σ:St} {H:Hp} {s:Shared} {Q:VK} {us:List Value} {vs:List V} (F:FnOk X.prog X.w X.K X.mg X.base CX k f fd ps sp) (c:Room k X.A) (hb:Binds X.K fd ps ds) (hd:Vals dvs ds) (d:aj9 CX X E)
  (I:Inv X pins σ H s) (r:Vals vs us) (h:sp (vs ++ dvs) H Q E):wpAny (model X.prog X.w) X.A (call (.ref f) us) (EP X pins σ Q) X.xe s:=by
 have b:Vals (vs ++ dvs) (us ++ ds):=r.append hd
 have g:(us ++ ds).length=ps.length:=by rw [← b.length];exact F.len _ _ _ _ h
 refine wpAny_call (codeAny_mono (F.run X.A X.stack s H ⟨us,[]⟩ (us ++ ds) (vs ++ dvs) Q E c I.env0 (hb s us I.kIn g) b h) fun r i a=>?_)
 cases r with
 | error e=>exact d pins σ H s e i I a
 | ok fl =>
  cases fl with
  | ret u=>exact I.after a
  | next=>exact False.elim a
  | brk=>exact False.elim a
  | cont=>exact False.elim a
theorem atn (F:FnOk X.prog X.w X.K X.mg X.base CX k f fd ps sp) (g:Room k X.A) (i:Gl X x) (hm:X.mg x=some (.ref f)) (l:keepIn X.K (.ref f)=true) (hb:Binds X.K fd ps ds) (hd:Vals dvs ds) (j:aj9 CX X E)
  (ha:PA X (e :: es) t) (a:(x == ("__debug__" : Str))=false:=by decide) (d:starEach (e :: es) X.env=(false,eval e X.env) :: starEach es X.env:=by rfl) (b:(backTo pos (starEach es X.env)).any (·.1)=false:=by rfl) :
  PE X (.Call (.Name x p) (e :: es) [] pos) (aev sp dvs E t):=by
 intro pins s σ H Q I h
 refine wpAny_Call_Name_kw (amg I i hm ?_ a)
 refine PySem.W.callWith_K (h₀:=X.base) I.ok.mod.kin l (thn (ha pos pins s σ H _ I h) fun us s1 ⟨vs,m,c,r,q⟩=>⟨c.kIn,?_⟩) d b
 exact awf F g hb hd j c r q
end
section
variable {X:Cx} {CX:CXT} {k:Nat} {f C:Addr} {fd:FuncData} {ps ks:List Str} {sp:Sp} {E:XK} {x m:Str} {p pos apos kpos:Pos} {e o:Expr} {es:List Expr} {kws:List Keyword} {te ta:TE} {t tk:TA} {nm:Option Str}
variable {g:List Value->List Value->List Value} {gV:List V->List V->List V}
end
structure FnScope (N P:List Str) (sc:Scope):Prop where
 kind:sc.kind=.function
 co:sc.isCoroutine=false
 gen:sc.isGenerator=false
 nd:N.Nodup
 pre:N.take P.length=P
 par:∀ x∈P,sc.names.lookup x=some .local\/sc.names.lookup x=some .cell
 nofree:∀ y∈sc.names,y.2 ≠ .free
theorem aih {kindOf:Str->Option NameKind} {x:Str}:∀ {binds:List (Str × Value)} {m:Str->Option Value},(∀ v,(x,v) ∉ binds)->bindL kindOf binds m x=m x
 | [],_,_=>rfl
 | (n,v) :: r,m,h=>by
  unfold bindL
  rw [aih fun w a=>h w (az8 _ a)]
  split
  ·have:x ≠ n:=by rintro rfl;exact h v aA1
   simp [this]
  ·rfl
theorem aii {kindOf:Str->Option NameKind} {x:Str}:∀ {binds:List (Str × Value)} {m:Str->Option Value},(∀ v,(x,v) ∉ binds)->bindC kindOf binds m x=m x
 | [],_,_=>rfl
 | (n,v) :: r,m,h=>by
  unfold bindC
  rw [aii fun w a=>h w (az8 _ a)]
  split
  ·rfl
  ·have:x ≠ n:=by rintro rfl;exact h v aA1
   simp [this]
theorem aij {kindOf:Str->Option NameKind} {x:Str} {v:Value}:∀ {P:List Str} {vs:List Value} {i:Nat} {m:Str->Option Value},P.Nodup->P[i]?=some x->vs[i]?=some v->kindOf x=some .local ->
  bindL kindOf (P.zip vs) m x=some v
 | [],_,_,_,_,h,_,_=>by simp at h
 | _ :: _,[],_,_,_,_,h,_=>by simp at h
 | p :: P,w :: vs,0,m,nd,h1,h2,hk=>by
  simp at h1 h2;subst h1;subst h2
  show bindL kindOf ((p,w) :: P.zip vs) m p=_
  unfold bindL
  rw [aih fun v a=>(aF7.mp nd).1 (List.of_mem_zip a).1,aC9 hk]
  simp
 | p :: P,w :: vs,i+1,m,nd,h1,h2,hk=>by
  show bindL kindOf ((p,w) :: P.zip vs) m x=_
  unfold bindL
  exact aij (i:=i) (aF7.mp nd).2 (by simpa using h1) (by simpa using h2) hk
theorem aik {kindOf:Str->Option NameKind} {x:Str} {v:Value}:∀ {P:List Str} {vs:List Value} {i:Nat} {m:Str->Option Value},P.Nodup->P[i]?=some x->vs[i]?=some v->kindOf x ≠ some .local ->
  bindC kindOf (P.zip vs) m x=some v
 | [],_,_,_,_,h,_,_=>by simp at h
 | _ :: _,[],_,_,_,_,h,_=>by simp at h
 | p :: P,w :: vs,0,m,nd,h1,h2,hk=>by
  simp at h1 h2;subst h1;subst h2
  show bindC kindOf ((p,w) :: P.zip vs) m p=_
  unfold bindC
  rw [aii fun v a=>(aF7.mp nd).1 (List.of_mem_zip a).1,aD0 hk]
  simp
 | p :: P,w :: vs,i+1,m,nd,h1,h2,hk=>by
  show bindC kindOf ((p,w) :: P.zip vs) m x=_
  unfold bindC
  exact aik (i:=i) (aF7.mp nd).2 (by simpa using h1) (by simpa using h2) hk
def start (N:List Str) (vs:List V):St:=vs.map some ++ List.replicate (N.length - vs.length) none
def cxOf (CX:CXT) (P:Program) (w:World) (K:Frag) (mg:Str->Option Value) (base:Heap) (N:List Str) (qual:Str) (scope:Scope) (f:Addr) (cd:Value) (A:Around) (outer:List Env) (s:Shared) (H:Hp) (E:XK):Cx where
 prog:=P
 w:=w
 K:=K
 mg:=mg
 base:=base
 A:=A.deeper (envOfC qual scope s.heap.objs.size f cd)
 N:=N
 s₀:=s
 H₀:=H
 env:=envOfC qual scope s.heap.objs.size f cd
 outer:=outer
 stack:=envOfC qual scope s.heap.objs.size f cd :: outer
 ex:=[]
 calm:=true
 fn:=fun _=>true
 pn:=[]
 xe:=fun e s'=>wpAny (model P w) (A.deeper (envOfC qual scope s.heap.objs.size f cd)) (leaving (envOfC qual scope s.heap.objs.size f cd) e) (fun _ s''=>CX outer H s E e s'') (fun e' s''=>CX outer H s E e' s'') s'
theorem aka {sc:Scope} {n:Nat} {x:Str} (h:sc.names.lookup x=some .cell):∃ c,(cellsFrom n sc.names []).lookup x=some c:=by
 have q:=PySem.W.cellsFrom_some sc.names n [] (.inl h)
 exact Option.isSome_iff_exists.mp q
theorem aov {CX:CXT} {P:Program} {w:World} {K:Frag} {mg:Str->Option Value} {base:Heap} {N ps:List Str} {qual:Str} {scope:Scope} {f:Addr} {C:Value} {A:Around} {outer:List Env} {s s1:Shared} {H:Hp} {E:XK} {us:List Value} {vs:List V}
  (S:FnScope N ps scope) (hd:A.handled=none) (g:Env0 P w K mg base A outer s H) (L:vs.length=ps.length) (r:Vals vs us)
  (x:InCallC s s.heap.objs.size (bindL (envOfC qual scope s.heap.objs.size f C).kindOf (ps.zip us) fun _=>none) (cellsFrom (s.heap.objs.size+1) scope.names []) (bindC (envOfC qual scope s.heap.objs.size f C).kindOf (ps.zip us) fun _=>none) s1) :
  Inv (cxOf CX P w K mg base N qual scope f C A outer s H E) [] (start N vs) H s1:=by
 have G:ps.length<=N.length:=by have:=congrArg List.length S.pre;rw [aE4] at this;omega
 obtain ⟨B,M,rfl,F⟩:=x.done
 have j:∀ b:Addr,b ∉ (cxOf CX P w K mg base N qual scope f C A outer s H E).ex:=fun b z=>absurd (show b∈([]:List Addr) from z) (by simp)
 refine ⟨⟨g.mod,S.kind,rfl,rfl,az0 _,fun y z c B d=>?_,fun y l=>?_,fun y c _ h=>?_,fun _=>hd,Around.frames_deeper g.frames,.inr ⟨rfl,rfl⟩,fun b z=>absurd z (j b),g.bs,g.bsz,fun b _ _=>j b,fun b z=>absurd z (j b),g.funs,g.frf⟩,
  rfl,g.bare,Un.kept F,⟨_,x.toInCall.ns,fun i y v B d J=>?_⟩,fun y c h=>⟨_,x.cell y c h⟩,g.hok.fresh (az0 _),fun y c h=>?_,fun p m=>absurd (show p∈([]:List (Addr × Obj)) from m) (by simp),g.hok.kept F,?_⟩
 ·exact name_of_addr x.apart (PySem.mem_of_lookup B) (PySem.mem_of_lookup d)
 ·have l:scope.names.lookup y=some .cell\/scope.names.lookup y=some .free:=l
  rcases l with l | l
  ·exact aka l
  ·exact absurd rfl (S.nofree _ (PySem.mem_of_lookup l))
 ·exact aD9 (x.above y c (PySem.mem_of_lookup h))
 ·have hi:i < vs.length:=by
   unfold start at d
   by_cases hi:i < vs.length
   ·exact hi
   ·rw [aB1 (by simpa using hi)] at d
    rw [aF1] at d
    split at d <;> cases d
  have ha:vs[i]?=some v:=by
   unfold start at d
   rw [aA6 (by simpa using hi),ay9] at d
   cases e:vs[i]? with
   | none=>rw [e] at d;cases d
   | some a=>rw [e] at d;cases d;rfl
  obtain ⟨u,D,I⟩:=r.get ha
  have m:ps[i]?=some y:=by
   rw [← S.pre,aE9 (by omega)];exact B
  have o:ps.Nodup:=by rw [← S.pre];exact S.nd.sublist (List.take_sublist _ _)
  refine ⟨u,I,?_⟩
  rcases S.par y (ay6 m) with k | k
  ·exact .inl ⟨k,aij o m D k⟩
  ·obtain ⟨c,e⟩:=aka (n:=s.heap.objs.size+1) k
   refine .inr ⟨.inl k,c,e,?_⟩
   have q:=x.cell y c e
   rw [aik o m D (by show scope.names.lookup y ≠ _;rw [k];decide)] at q
   exact q
 ·exact g.hok.fresh (aD9 (x.above y c (PySem.mem_of_lookup h)))
 ·unfold start
  show _=N.length
  rw [az4,ay7,List.length_replicate]
  omega
theorem ax5 {CX:CXT} {P:Program} {w:World} {K:Frag} {mg:Str->Option Value} {base:Heap} {k:Nat} {f:Addr} {name qual:Str} {a:Arguments} {body:List Stmt} {scope:Scope} {C kV doc pm cdv ct oc:Value} {an od:Option Addr}
  {osl:Array (Option Value)} {N ps:List Str} {sp:Sp} (F:K.lookup f=some ⟨oc,od,.func (fnOf name qual a body scope C kV doc pm an cdv ct),osl⟩) (z:codeIn K cdv qual=true) (S:FnScope N ps scope)
  (len:∀ vs H Q E,sp vs H Q E->vs.length=ps.length)
  (d:∀ (A:Around) (outer:List Env) (s:Shared) (H:Hp) (vs:List V) (Q:VK) (E:XK),Room k (A.deeper (envOfC qual scope s.heap.objs.size f cdv))->sp vs H Q E ->
   ∃ t,PSs (cxOf CX P w K mg base N qual scope f cdv A outer s H E) body t/\t { nx:=fun _ H'=>Q .non H',rt:=Q } (start N vs) H) :
  FnOk P w K mg base CX (k+1) f (fnOf name qual a body scope C kV doc pm an cdv ct) ps sp:=by
 refine ⟨len,fun A outer s H args us vs Q E l j hb r i=>?_⟩
 have R:=len _ _ _ _ i
 have D:K.In s.heap:=j.mod.kin.keeps fun b o e=>(j.bs b o e).1
 have m:s.heap.NoLimit:=j.mod.nolimit.keeps fun b o e=>(j.bs b o e).1
 have g:∀ y∈ps.zip us,scope.names.lookup y.1=some .local\/(scope.names.lookup y.1=some .cell/\((cellsFrom (s.heap.objs.size+1) scope.names []).lookup y.1).isSome=true):=fun ⟨n,v⟩ T=>by
  rcases S.par n (List.of_mem_zip T).1 with q | q
  ·exact .inl q
  ·exact .inr ⟨q,PySem.W.cellsFrom_some _ _ _ (.inl q)⟩
 refine codeAny_call_function l.depth (D _ _ F) rfl S.co S.gen rfl (PySem.W.codeRec_of D z) (hb _ _ _ _ ?_)
 refine wpAny_newFunctionEnv_cells S.kind g fun env G s1 x=>?_
 subst G
 refine ⟨m.keeps x.toInCall.keep,codeAny_func ?_⟩
 obtain ⟨t,O,L⟩:=d A outer s H vs Q E (l.deeper _) i
 have I:Inv (cxOf CX P w K mg base N qual scope f cdv A outer s H E) [] (start N vs) H s1:=aov S l.hd j R r x
 refine aG8 (O [] s1 (start N vs) H _ I L) (fun M B h=>?_) fun e B h=>h
 have fin:∀ {c:St} {H':Hp} {v:V} {u:Value},Inv (cxOf CX P w K mg base N qual scope f cdv A outer s H E) [] c H' B->RelV v u->Q v H'->CE outer P w H s Q u B :=
  fun {c H' v u} J p q=>⟨v,H',J.os,J.bare,J.base,J.hok,p,q⟩
 cases M with
 | ret u =>
  obtain ⟨v,c,H',J,p,q⟩:=h
  exact fin J p q
 | next =>
  obtain ⟨c,H',J,q⟩:=h
  exact fin (v:=V.non) (u:=Value.none) J rfl q
 | brk =>
  obtain ⟨_,_,_,q⟩:=h
  exact False.elim q
 | cont =>
  obtain ⟨_,_,_,q⟩:=h
  exact False.elim q
section
variable {X:Cx} {x:Str} {p pos:Pos} {e:Expr} {es:List Expr} {t:TA} {id T:String} {r:List V->Hp->VK->Prop}
def tCB (r:List V->Hp->VK->Prop) (t:TA):TE:=fun σ H Q=>t σ H fun vs H1=>r vs H1 Q
theorem aat (l:abh X (.builtin id) r) (g:Gl X x) (hm:X.mg x=none) (d:bootBuiltins x=some (.builtin id)) (ha:PA X (e :: es) t) (hn:x ≠ "__name__":=by decide) (a:(x == ("__debug__" : Str))=false:=by decide)
  (f:starEach (e :: es) X.env=(false,eval e X.env) :: starEach es X.env:=by rfl) (b:(backTo pos (starEach es X.env)).any (·.1)=false:=by rfl):PE X (.Call (.Name x p) (e :: es) [] pos) (tCB r t):=by
 intro pins s σ H Q I h
 refine wpAny_Call_Name_kw (acl I g hm d ?_ hn a)
 exact PyProof.Rows.callWith_builtin1 (thn (ha pos pins s σ H _ I h) fun us s1 ⟨vs,c,m,i,j⟩=>l pins s1 σ c vs us Q m i j) f b
theorem aff (l:abh X (.type T) r) (g:Gl X x) (hm:X.mg x=none) (d:bootBuiltins x=some (.type T)) (ha:PA X (e :: es) t) (hn:x ≠ "__name__":=by decide) (a:(x == ("__debug__" : Str))=false:=by decide)
  (f:starEach (e :: es) X.env=(false,eval e X.env) :: starEach es X.env:=by rfl) (b:(backTo pos (starEach es X.env)).any (·.1)=false:=by rfl):PE X (.Call (.Name x p) (e :: es) [] pos) (tCB r t):=by
 intro pins s σ H Q I h
 refine wpAny_Call_Name_kw (acl I g hm d ?_ hn a)
 exact PyProof.Rows.callWith_type1 (thn (ha pos pins s σ H _ I h) fun us s1 ⟨vs,c,m,i,j⟩=>l pins s1 σ c vs us Q m i j) f b
end
end L2
namespace HT
open PySem PyProof.Rows
def lexLt:List Int->List Int->Bool
 | [],[]=>false
 | [],_ :: _=>true
 | _ :: _,[]=>false
 | x :: xs,y :: ys=>if x=y then lexLt xs ys else decide (x < y)
theorem aew (x y:Int) (xs ys:List Int):lexLt (x :: xs) (y :: ys)=if x=y then lexLt xs ys else decide (x < y):=rfl
section
open PySem.SeqAt
open PySem.AutoSeq1 (wpAny_loadPart')
open PySem.MeetsSeq PySem.MeetsSeq2 PySem.MeetsSeq3
end
section
variable {prog:Program} {w:World} {A:Around} {E:Value->Shared->Prop} {s:Shared}
def sIx (n d:Nat):Option Int->Nat
 | none=>d
 | some v=>if v < 0 then (v+(n:Int)).toNat else min v.toNat n
end
end HT
namespace L2
open PySem PySem.Spec PyProof.Rows
abbrev TO:=St->Hp->(Option Int->Hp->Prop)->Prop
def PO (X:Cx) (e:Option Expr) (t:TO):Prop :=
 ∀ (pins:List (Addr × Obj)) (s:Shared) (σ:St) (H:Hp) (Q:Option Int->Hp->Prop),Inv X pins σ H s->t σ H Q ->
  wpAny (model X.prog X.w) X.A (evalPart e X.env) (fun u s'=>∃ o H',Inv X pins σ H' s'/\IsPart u o/\Q o H') X.xe s
def amj:TO:=fun _ H Q=>Q none H
def asz (t:TE):TO:=fun σ H Q=>t σ H fun x H1=>∃ i,x=.int i/\Q (some i) H1
theorem adp {ns:List Int}:∀ {us:List Value},Vals (ns.map V.int) us->IntsAre us ns:=by
 induction ns with
 | nil=>intro us r;rw [List.map_nil] at r;cases r;exact .nil
 | cons n ns ih =>
  intro us r
  rw [aB4] at r
  cases r with
  | cons r1 r2 =>
   obtain ⟨t,e⟩:=r1
   subst e
   exact .cons n t (ih r2)
section
variable {X:Cx} {e:Expr} {te:TE} {lo hi:Option Expr} {tl th:TO} {pos p2:Pos}
theorem ato:PO X none amj:=by
 intro pins s σ H Q I h
 rw [evalPart_none]
 exact aG2 ⟨none,H,I,.none,h⟩
theorem atp (h:PE X e te):PO X (some e) (asz te):=by
 intro pins s σ H Q I a
 rw [evalPart_some]
 refine thn (h pins s σ H _ I a) fun u s1 ⟨x,b,f,c,d⟩=>?_
 obtain ⟨i,rfl,q⟩:=d
 obtain ⟨t,rfl⟩:=c
 exact ⟨some i,b,f,.int i t,q⟩
def SlR (X:Cx) (r:V->Option Int->Option Int->Hp->VK->Prop):Prop :=
 ∀ (pins:List (Addr × Obj)) (s:Shared) (σ:St) (H:Hp) (x:V) (v vl vu:Value) (lo hi:Option Int) (sl:Addr) (Q:VK),Inv X pins σ H s->RelV x v->s.heap.IsSliceOf sl vl vu .none->IsPart vl lo->IsPart vu hi->r x lo hi H Q ->
  ∃ T id,typeLookup (.type T) "__getitem__" = pure (some (.builtin id))/\s.TypeIs v T/\wpAny (model X.prog X.w) X.A (getItem v (.ref sl)) (EP X pins σ Q) X.xe s
def tSl (r:V->Option Int->Option Int->Hp->VK->Prop) (te:TE) (tl th:TO):TE:=fun σ H Q=>te σ H fun x H1=>tl σ H1 fun l H2=>th σ H2 fun u H3=>r x l u H3 Q
theorem aqu {r:V->Option Int->Option Int->Hp->VK->Prop} (p:SlR X r) (o:PE X e te) (J:PO X lo tl) (E:PO X hi th):PE X (.Subscript e (.Slice lo hi none p2) pos) (tSl r te tl th):=by
 intro pins s σ H Q I h
 refine Subscript_ (thn (o pins s σ H _ I h) fun v s1 ⟨x,j,K,C,D⟩=>?_)
 refine wpAny_Slice (thn (J pins s1 σ j _ K D) fun c s2 ⟨l,H2,n,g,m⟩=>thn (E pins s2 σ H2 _ n m) fun d a ⟨u,H3,G,f,i⟩=>?_)
 rw [evalPart_none]
 refine aG2 ?_
 have B:Inv X pins σ H3 { a with heap:=a.heap.push { cls:=.type "slice",data:=.fields #[c,d,.none] } }:=G.kept (t':=a.toks) fun b L q=>aG3 _ q
 obtain ⟨T,id,y,F,z⟩:=p pins { a with heap:=a.heap.push { cls:=.type "slice",data:=.fields #[c,d,.none] } } σ H3 x v c d l u a.heap.objs.size Q B C (Heap.IsSliceOf.new ..) g f i
 show wpAny (model X.prog X.w) X.A (subscriptTail e (.Slice lo hi none p2) v (.ref a.heap.objs.size)) (EP X pins σ Q) X.xe { a with heap:=a.heap.push { cls:=.type "slice",data:=.fields #[c,d,.none] } }
 exact tail_any (ops:=[.ref a.heap.objs.size,v]) F y z (by with_unfolding_all rfl)
def cutV (xs:List V) (lo hi:Option Int):List V:=(xs.drop (HT.sIx xs.length 0 lo)).take (HT.sIx xs.length xs.length hi - HT.sIx xs.length 0 lo)
theorem al0 (xs:List V) (lo hi:Option Int):(cutV xs lo hi).length<=xs.length:=by
 unfold cutV
 rw [aE4,List.length_drop]
 omega
end
def ixN (n:Nat) (i:Int):Option Nat:=if 0<=i then (if i < n then some i.toNat else none) else if -(n:Int)<=i then some (i+n).toNat else none
def atI {α:Type} (xs:List α) (i:Int):Option α:=(ixN xs.length i).bind fun j=>xs[j]?
theorem amk {n:Nat} {i:Int} {j:Nat} (h:ixN n i=some j):seqIndex? i n=some j/\j < n/\-(n:Int)<=i/\i < n:=by
 unfold ixN at h
 by_cases h0:0<=i
 ·rw [aC9 h0] at h
  by_cases h1:i < n
  ·rw [aC9 h1] at h
   have e:i.toNat=j:=aA9 h
   exact ⟨by rw [seqIndex_of h0 h1,e],by omega,by omega,h1⟩
  ·rw [aD0 h1] at h;cases h
 ·rw [aD0 h0] at h
  by_cases h1 : -(n:Int)<=i
  ·rw [aC9 h1] at h
   have e:(i+n).toNat=j:=aA9 h
   exact ⟨by rw [seqIndex_neg (by omega) h1,e],by omega,h1,by omega⟩
  ·rw [aD0 h1] at h;cases h
theorem aml {α:Type} {xs:List α} {i:Int} {v : α} (h:atI xs i=some v):∃ j,seqIndex? i xs.length=some j/\xs[j]?=some v/\j < xs.length/\-(xs.length:Int)<=i/\i < xs.length:=by
 unfold atI at h
 cases e:ixN xs.length i with
 | none=>rw [e] at h;cases h
 | some j =>
  rw [e] at h
  obtain ⟨a,c,d,b⟩:=amk e
  exact ⟨j,a,h,c,d,b⟩
theorem adu {α:Type} {xs:List α} {j:Nat} {v : α} (h:xs[j]?=some v):atI xs (j:Int)=some v:=by
 have hj:j < xs.length:=(ay5.mp h).1
 have e:ixN xs.length (j:Int)=some j:=by
  unfold ixN
  rw [aC9 (by omega),aC9 (by omega)];simp
 unfold atI;rw [e];exact h
def atq (b:Expr):Prop:=∀ o i,subscripted b false o i=operate [o,i] (getItem o i)
def IxR (X:Cx) (r:R2):Prop :=
 ∀ (value slice:Expr) (pins:List (Addr × Obj)) (s:Shared) (σ:St) (H:Hp) (x y:V) (v u:Value) (Q:VK),Inv X pins σ H s->RelV x v->RelV y u->r x y H Q ->
  subscripted slice false v u=operate [v,u] (getItem v u)->wpAny (model X.prog X.w) X.A (subscriptTail value slice v u) (EP X pins σ Q) X.xe s
def MtR (X:Cx) (id:String) (r:V->List V->Hp->VK->Prop):Prop :=
 ∀ (pins:List (Addr × Obj)) (s:Shared) (σ:St) (H:Hp) (x:V) (xs:List V) (v:Value) (us:List Value) (Q:VK),Inv X pins σ H s->RelV x v->Vals xs us->r x xs H Q ->
  wpAny (model X.prog X.w) X.A (call (.builtin id) (v :: us)) (EP X pins σ Q) X.xe s
section
variable {X:Cx} {a b:Expr} {ta tb:TE} {pos:Pos}
theorem IxR.or {r g:R2} (h:IxR X r) (h':IxR X g):IxR X (fun x y H Q=>r x y H Q\/g x y H Q):=by
 intro b a pins s σ H x y v u Q I d c q f
 rcases q with q | q
 ·exact h b a pins s σ H x y v u Q I d c q f
 ·exact h' b a pins s σ H x y v u Q I d c q f
theorem aav {r:R2} (i:IxR X r) (ha:PE X a ta) (hb:PE X b tb) (f:atq b):PE X (.Subscript a b pos) (tOp r ta tb):=by
 intro pins s σ H Q I h
 exact Subscript_ (binT ha hb I h fun v u s2 x y H2 g d c q=>i a b pins s2 σ H2 x y v u Q g d c q (f _ _))
def rIxL (K:Frag):R2:=fun x y H Q=>∃ p xs i v,x=.ref p/\y=.int i/\SqL K H p xs/\atI xs i=some v/\Q v H
def rIxT (K:Frag):R2:=fun x y H Q=>∃ p xs i v,x=.ref p/\y=.int i/\SqT K H p xs/\atI xs i=some v/\Q v H
theorem ix_list:IxR X (rIxL X.K):=by
 intro d c pins s σ H x y v u Q I n m h g
 obtain ⟨p,xs,i,z,rfl,rfl,A,o,q⟩:=h
 cases n
 obtain ⟨t,rfl⟩:=m
 obtain ⟨its,r,b,J⟩:=I.list A
 obtain ⟨j,a,B,G,C,E⟩:=aml o
 obtain ⟨w,l,f⟩:=r.get B
 have D:=r.length
 have hn:=afe
 have fin:EP X pins σ Q w s:=⟨z,H,I,f,q⟩
 by_cases h0:0<=i
 ·have hj:i.toNat=j:=by
   rw [seqIndex_of h0 E] at a
   exact aA9 a
  exact item_listR b.isList h0 (by omega) (by rw [hj];simpa using l) fin g
 ·have hj:(i+(its.toArray.size:Int)).toNat=j:=by
   rw [seqIndex_neg (by omega) C] at a
   rw [az5,← D]
   exact aA9 a
  exact subscriptTail_builtinR (x:=w) b.isList.typeIs slot_list_getitem.lookup
   (wpAny_getItem_list_neg (Q:=fun r F=>r=w/\EP X pins σ Q r F) b.isList (by omega) (by rw [az5] <;> omega) (by omega) (by rw [hj];simpa using l) ⟨rfl,fin⟩) g
theorem awg:IxR X (rIxT X.K):=by
 intro b a pins s σ H x y v u Q I g f h l
 obtain ⟨p,xs,i,z,rfl,rfl,o,m,q⟩:=h
 cases g
 obtain ⟨t,rfl⟩:=f
 obtain ⟨its,r,d,J⟩:=I.tuple o
 obtain ⟨j,n,A,F,E,G⟩:=aml m
 obtain ⟨w,C,c⟩:=r.get A
 have B:=r.length
 have hn:=afe
 have fin:EP X pins σ Q w s:=⟨z,H,I,c,q⟩
 exact subscriptTail_builtinR (x:=w) d.typeIs slot_tuple_getitem.lookup
  (getItem_tuple (j:=j) (Q:=fun r D=>r=w/\EP X pins σ Q r D) d (by omega) (by omega) (by rw [az5,← B];exact n) (by simpa using C) ⟨rfl,fin⟩) l
theorem anm (its:List Value) (n j:Nat) (u:Value):Obj.mapSeq (·.setIfInBounds j u) { cls:=.type "list",data:=.seq its.toArray n }={ cls:=.type "list",data:=.seq (its.set j u).toArray n }:=by
 simp [Obj.mapSeq]
theorem Inv.lst {pins:List (Addr × Obj)} {σ:St} {H:Hp} {s:Shared} {p:Addr} {xs:List V} (I:Inv X pins σ H s) (h:H p=some (.lst xs)) :
  ∃ (its:List Value) (n:Nat),Vals xs its/\s.heap.get? p=some { cls:=.type "list",data:=.seq its.toArray n }/\xs.length<=sizeLine:=by
 obtain ⟨z,its,n,r,e⟩:=I.hok p _ h
 exact ⟨its,n,r,e,z⟩
theorem Inv.lstUpd {pins:List (Addr × Obj)} {σ:St} {H:Hp} {s:Shared} {p:Addr} {xs ys:List V} {its its':List Value} {n a:Nat} {f:Obj->Obj} (I:Inv X pins σ H s) (h:H p=some (.lst xs))
  (d:s.heap.get? p=some { cls:=.type "list",data:=.seq its.toArray n }) (hf:f { cls:=.type "list",data:=.seq its.toArray n }={ cls:=.type "list",data:=.seq its'.toArray a }) (r:Vals ys its') (c:ys.length<=sizeLine) (t:Nat) :
  Inv X pins σ (upd H p (.lst ys)) { s with heap:=s.heap.update p f,toks:=t }:=by
 have e:(s.heap.update p f).get? p=some { cls:=.type "list",data:=.seq its'.toArray a }:=by
  rw [Heap.get?_update_self f d (by rw [hf] <;> rfl),hf]
 refine I.write (x:=p) (e:=p) (by rw [h];trivial) (.inl rfl) (fun b u hb q=>(Heap.get?_update_other _ _ (Ne.symm hb)).trans q) ⟨_,e⟩ ?_
 exact ⟨c,its',a,r,e⟩
def ann:V->V->V->Hp->(Hp->Prop)->Prop:=fun o i v H Q=>∃ p xs k j,o=.ref p/\i=.int k/\H p=some (.lst xs)/\ixN xs.length k=some j/\Q (upd H p (.lst (xs.set j v)))
theorem akb:PSet X ann:=by
 intro pins s σ H o i v C A u Q I w z y h
 obtain ⟨p,xs,k,j,rfl,rfl,f,hj,q⟩:=h
 cases w
 obtain ⟨t,rfl⟩:=z
 obtain ⟨its,n,r,d,x⟩:=I.lst f
 obtain ⟨a,B,m,l⟩:=amk hj
 have b:=r.length
 have hn:=afe
 have g:Inv X pins σ (upd H p (.lst (xs.set j v))) { s with heap:=s.heap.update p (Obj.mapSeq (·.setIfInBounds j u)) } :=
  I.lstUpd f d (anm its n j u) (r.set y j) (by rw [List.length_set];exact x) s.toks
 by_cases h0:0<=k
 ·have c:k.toNat=j:=by
   rw [seqIndex_of h0 l] at a
   exact aA9 a
  exact PySem.W.ki_setAt d h0 (by omega) (by rw [az5,← b];exact l) (by rw [c];exact ⟨_,g,q⟩)
 ·have c:(k+(its.toArray.size:Int)).toNat=j:=by
   rw [seqIndex_neg (by omega) m] at a
   rw [az5,← b]
   exact aA9 a
  exact PySem.W.ki_setBack d (by omega) (by rw [az5,← b];exact m) (by omega) (by rw [c];exact ⟨_,g,q⟩)
theorem akc (lo hi:Option Int) (n:Nat):(sliceBounds lo hi none n).1=((HT.sIx n 0 lo:Nat):Int)/\(sliceBounds lo hi none n).2.1=((HT.sIx n n hi:Nat):Int)/\(sliceBounds lo hi none n).2.2=1:=by
 refine ⟨?_,?_,rfl⟩
 ·cases lo with
  | none=>simp [sliceBounds,HT.sIx]
  | some i =>
   simp only [sliceBounds,HT.sIx,Option.getD_none,show (1:Int) > 0 by decide,if_true]
   by_cases h:i < 0
   ·simp only [h,if_true] <;> omega
   ·simp only [h,if_false] <;> omega
 ·cases hi with
  | none=>simp [sliceBounds,HT.sIx]
  | some i =>
   simp only [sliceBounds,HT.sIx,Option.getD_none,show (1:Int) > 0 by decide,if_true]
   by_cases h:i < 0
   ·simp only [h,if_true] <;> omega
   ·simp only [h,if_false] <;> omega
theorem ai6 (its:List Value) (lo hi:Option Int):slicePick its.toArray lo hi none=((its.drop (HT.sIx its.length 0 lo)).take (HT.sIx its.length its.length hi - HT.sIx its.length 0 lo)).toArray:=by
 obtain ⟨a,b,c⟩:=akc lo hi its.toArray.size
 unfold slicePick
 rw [a,b,c]
 simp only [sliceRange_one,pick_run,az5] <;> rfl
def rSlL (K:Frag):V->Option Int->Option Int->Hp->VK->Prop:=fun x lo hi H Q=>∃ a xs,x=.ref a/\SqL K H a xs/\∀ p,H p=none->Q (.ref p) (upd H p (.lst (cutV xs lo hi)))
theorem atr:SlR X (rSlL X.K):=by
 intro pins s σ H x v n p lo hi sl Q I g j i f h
 obtain ⟨a,xs,rfl,l,q⟩:=h
 cases g
 obtain ⟨its,r,d,m⟩:=I.list l
 have c:=r.length
 refine ⟨"list",_,slot_list_getitem.lookup,d.isList.typeIs,?_⟩
 refine wpAny_getItem_list_slice d.isList j i f .none (by simp) ?_ (by rw [az5] <;> omega)
 rw [ai6,← c]
 refine ⟨.ref s.heap.objs.size,_,I.laid (t':=s.toks) (o:=.lst (cutV xs lo hi)) (fun b u q=>aG3 _ q) (az0 _) ?_,rfl,q _ (I.hok.fresh (az0 _))⟩
 exact ⟨aB3 (al0 xs lo hi) m,_,0,(r.drop (HT.sIx xs.length 0 lo)).take (HT.sIx xs.length xs.length hi - HT.sIx xs.length 0 lo),aG5 _ rfl⟩
theorem akd:abh X (.builtin "len") (fun xs H Q=>∃ p ys,xs=[.ref p]/\(SqL X.K H p ys\/SqT X.K H p ys)/\Q (.int ys.length) H):=by
 intro pins s σ H xs us Q I r h
 obtain ⟨p,ys,rfl,b,q⟩:=h
 obtain ⟨u,rfl,f⟩:=acu r
 cases f
 have hn:=afe
 rcases b with b | b
 ·obtain ⟨its,d,c,g⟩:=I.list b
  have a:=d.length
  exact Calls.call_len_list c.isList (by simp only [az5] <;> omega) ⟨.int ys.length,H,I.tok _,⟨s.toks+1,by rw [az5,a]⟩,q⟩
 ·obtain ⟨its,d,c,g⟩:=I.tuple b
  have a:=d.length
  exact len_tuple c (by simp only [az5] <;> omega) ⟨.int ys.length,H,I.tok _,⟨s.toks+1,by rw [az5,a]⟩,q⟩
theorem ake:abh X (.type "list") (fun xs H Q=>∃ p ys,xs=[.ref p]/\(SqL X.K H p ys\/SqT X.K H p ys)/\∀ l,H l=none->Q (.ref l) (upd H l (.lst ys))):=by
 intro pins s σ H xs us Q I r h
 obtain ⟨p,ys,rfl,f,q⟩:=h
 obtain ⟨u,rfl,v⟩:=acu r
 cases v
 have fin:∀ (its:List Value),Vals ys its->ys.length<=sizeLine->∀ (h':Heap) (c:Nat),(∀ b o',s.heap.get? b=some o'->h'.get? b=some o') ->
   h'.get? s.heap.objs.size=some { cls:=.type "list",dict:=none,data:=.seq its.toArray c,slots:=#[] }->EP X pins σ Q (.ref s.heap.objs.size) { s with heap:=h' }:=fun its a d h' c kp e =>
  ⟨.ref s.heap.objs.size,_,I.laid (t':=s.toks) kp (az0 _) (show ObjOk X.prog X.w _ h' _ (.lst ys) from ⟨d,its,c,a,e⟩),rfl,q _ (I.hok.fresh (az0 _))⟩
 rcases f with f | f
 ·obtain ⟨its,a,i,d⟩:=I.list f
  have g:=a.length
  obtain ⟨o,m,j,n,hd⟩:=i.isList
  exact call_list_seq p (.inl rfl) m j hd (fun h' c kp e=>fin its a d h' c kp e) (by simp only [az5] <;> omega)
 ·obtain ⟨its,a,i,d⟩:=I.tuple f
  have g:=a.length
  obtain ⟨o,m,j,n,hd⟩:=i
  exact call_list_seq p (.inr rfl) m j hd (fun h' c kp e=>fin its a d h' c kp e) (by simp only [az5] <;> omega)
def tyV (K:Frag) (T:String) (x:V) (H:Hp):Prop:=match x with
 | .str _=>T = "str"
 | .int _=>T = "int"
 | .ref p=>(T = "list"/\∃ xs,SqL K H p xs)\/(T = "tuple"/\∃ o,K.lookup p=some o/\o.cls=.type "tuple"/\o.dict=none) ∨
   (T = "dict"/\((∃ kvs,H p=some (.dK kvs))\/∃ kvs,H p=some (.dT kvs)))\/(T = "set"/\∃ S n,H p=some (.set S n))
 | _=>False
theorem awh {pins:List (Addr × Obj)} {σ:St} {H:Hp} {s:Shared} {T:String} {x:V} {v:Value} (I:Inv X pins σ H s) (r:RelV x v) (ty:tyV X.K T x H) :
  s.TypeIs v T/\∀ a,v=.ref a->∃ g,s.heap.get? a=some g/\g.dict=none:=by
 cases x with
 | str z =>
  obtain ⟨t,rfl⟩:=r
  cases (show T = "str" from ty)
  exact ⟨typeIs_str s z t,fun _ e=>nomatch e⟩
 | int i =>
  obtain ⟨t,rfl⟩:=r
  cases (show T = "int" from ty)
  exact ⟨typeIs_int s i t,fun _ e=>nomatch e⟩
 | ref p =>
  cases r
  rcases ty with ⟨rfl,xs,h⟩ | ⟨rfl,o,b,j,hd⟩ | ⟨rfl,b⟩ | ⟨rfl,S,n,b⟩
  ·obtain ⟨its,_,f,_⟩:=I.list h
   refine ⟨f.isList.typeIs,fun a e=>?_⟩
   cases e
   obtain ⟨o,n,e,c,hd,_⟩:=f
   exact ⟨o,e,hd⟩
  ·refine ⟨⟨o,I.kIn p o b,j⟩,fun a e=>?_⟩
   cases e
   exact ⟨o,I.kIn _ o b,hd⟩
  ·have z:∃ o,s.heap.get? p=some o/\o.ExactDict:=by
    rcases b with ⟨kvs,b⟩ | ⟨kvs,b⟩
    ·obtain ⟨_,_,_,_,o,_,_,e,ex,_⟩:=I.hok p _ b
     exact ⟨o,e,ex⟩
    ·obtain ⟨_,_,_,_,o,_,_,e,ex,_⟩:=I.hok p _ b
     exact ⟨o,e,ex⟩
   obtain ⟨o,e,ex⟩:=z
   refine ⟨⟨o,e,ex.1⟩,fun a d=>?_⟩
   cases d
   exact ⟨o,e,ex.2.1⟩
  ·obtain ⟨o,_,_,_,e,ex,_⟩:=I.hok p _ b
   refine ⟨⟨o,e,ex.1⟩,fun a d=>?_⟩
   cases d
   exact ⟨o,e,ex.2.1⟩
 | _=>exact False.elim ty
def tBM (K:Frag) (T:String) (r:V->List V->Hp->VK->Prop) (to:TE) (t:TA):TE:=fun σ H Q=>to σ H fun x H1=>tyV K T x H1/\t σ H1 fun xs H2=>r x xs H2 Q
variable {o e:Expr} {es:List Expr} {to:TE} {t:TA} {name:Str} {apos cpos:Pos} {T id:String} {r:V->List V->Hp->VK->Prop}
theorem ab6 (n:PlainAttrs T) (slot:Slot T name id) (g:typeOf (.builtin id)=pure (.type "method_descriptor")) (hm:MtR X id r) (B:PE X o to) (ha:PA X (e :: es) t)
  (d:attributeBase o name X.env (eval o X.env)=eval o X.env:=by rfl)
  (f:((backTo cpos (starEach (e :: es) X.env)).all (fun x => !x.1) && (backToKw cpos (keywordEach [] X.env)).all (fun x=>x.1.isSome)
   && decide ((e :: es).length+([]:List Keyword).length+(if ([]:List Keyword).isEmpty then 0 else 1) < 30))=true:=by rfl)
  (c:(apos.endLine == cpos.line)=true:=by rfl) (w:starEach (e :: es) X.env=(false,eval e X.env) :: starEach es X.env:=by rfl) (b:(backTo cpos (starEach es X.env)).any (·.1)=false:=by rfl) :
  PE X (.Call (.Attribute o name apos) (e :: es) [] cpos) (tBM X.K T r to t):=by
 intro pins s σ H Q I h
 refine wpAny_Call_method_late d f c rfl (thn (B pins s σ H _ I h) fun v s1 ⟨x,p,j,i,ty,A⟩=>?_)
 obtain ⟨u,z⟩:=awh j i ty
 refine ⟨T,id,n,slot,g,u,z,?_⟩
 have l:=ha cpos pins s1 σ p _ j A
 rw [w] at l ⊢
 refine Calls.callWith_builtin (by show (false || (backTo cpos (starEach es X.env)).any (·.1))=false;rw [b] <;> rfl) (Calls.evalArgs_plain ?_)
 exact thn l fun us s2 ⟨vs,H2,y,m,q⟩=>hm pins s2 σ H2 x vs v us Q y i m q
/- xs.append(e), list.index on a module's tuple .. are MtR facts of 06m -/
end
def MtM (X:Cx) (id:String) (r:V->List V->Hp->VK->Prop):Prop :=
 ∀ (pins:List (Addr × Obj)) (s:Shared) (σ:St) (H:Hp) (x:V) (xs:List V) (v:Value) (us:List Value) (Q:VK),Inv X pins σ H s->RelV x v->Vals xs us->r x xs H Q ->
  wpAny (model X.prog X.w) X.A (call (.builtin id) (v :: us)) (EP X pins σ Q) X.xe s
theorem Vals.one:∀ {x:V} {us:List Value},Vals [x] us->∃ u,us=[u]/\RelV x u
 | _,_,.cons r .nil=>⟨_,rfl,r⟩
theorem Vals.eraseIdx:∀ {xs:List V} {us:List Value} (i:Nat),Vals xs us->Vals (xs.eraseIdx i) (us.eraseIdx i)
 | _,_,_,.nil => .nil
 | _,_,0,.cons _ t=>t
 | _,_,i+1,.cons r t => .cons r (Vals.eraseIdx i t)
theorem Vals.rep {xs:List V} {us:List Value} (h:Vals xs us):∀ k:Nat,Vals (List.replicate k xs).flatten (List.replicate k us).flatten
 | 0 => .nil
 | k+1=>by
  rw [aE7,aE7,List.flatten_cons,List.flatten_cons]
  exact Vals.append h (Vals.rep h k)
theorem ail {α:Type}:∀ (l:List α) (i:Nat),(l.eraseIdx i).length<=l.length
 | [],_=>az0 _
 | _ :: _,0=>Nat.le_succ _
 | _ :: r,i+1=>Nat.succ_le_succ (ail r i)
theorem aim (its:List Value):∀ (k:Nat) (a:List Value),
  List.foldl (fun c d=>c ++ d) a.toArray (List.replicate k its.toArray)=(a ++ (List.replicate k its).flatten).toArray
 | 0,a=>by simp
 | k+1,a=>by
  have e:a.toArray ++ its.toArray=(a ++ its).toArray:=by simp
  have b:(a ++ its) ++ (List.replicate k its).flatten=a ++ (List.replicate (k+1) its).flatten:=by
   rw [aE7,List.flatten_cons,az7]
  rw [← b,← aim its k (a ++ its),← e,aE7,List.foldl_cons]
section
variable {X:Cx} {pins:List (Addr × Obj)} {σ:St} {H:Hp} {s:Shared} {l b:Addr} {xs ys zs:List V}
theorem Inv.lset {its its':List Value} {n:Nat} {f:Array Value->Array Value} {t':Nat} (I:Inv X pins σ H s) (b:H l=some (.lst xs))
  (e:s.heap.get? l=some { cls:=.type "list",data:=.seq its.toArray n }) (hf:f its.toArray=its'.toArray) (a:Vals ys its') (d:ys.length<=sizeLine) :
  Inv X pins σ (upd H l (.lst ys)) { s with heap:=s.heap.update l (Obj.mapSeq f),toks:=t' }:=by
 have q:=PySem.IsL.update e f
 rw [hf] at q
 refine I.write (x:=l) (e:=l) (by rw [b];exact trivial) (.inl rfl) (fun g u hb c=>(Heap.get?_update_other s.heap (Obj.mapSeq f) (Ne.symm hb)).trans c) ⟨_,q⟩ ?_
 exact ⟨d,its',_,a,q⟩
theorem Inv.lnew {its:List Value} {t':Nat} (I:Inv X pins σ H s) (a:Vals ys its) (b:ys.length<=sizeLine) :
  Inv X pins σ (upd H s.heap.objs.size (.lst ys)) { s with heap:=s.heap.push { cls:=.type "list",data:=.seq its.toArray },toks:=t' } :=
 I.laid (fun _ _ q=>aG3 _ q) (az0 _) ⟨b,its,0,a,aG5 _ rfl⟩
theorem Inv.fresh (I:Inv X pins σ H s):H s.heap.objs.size=none:=I.hok.fresh (az0 _)
theorem Inv.lstM (I:Inv X pins σ H s) (a:H l=some (.lst xs)):xs.length<=sizeLine/\∃ (its:List Value) (n:Nat),Vals xs its/\xs.length=its.length/\s.heap.get? l=some { cls:=.type "list",data:=.seq its.toArray n }:=by
 obtain ⟨z,its,n,r,e⟩:=I.hok l _ a
 exact ⟨z,its,n,r,r.length,e⟩
theorem aqv {n:Nat} (h:n<=sizeLine):Builtin.List.listTooLong n=false:=by
 unfold Builtin.List.listTooLong
 exact aB7 (by omega)
end
section
variable {X:Cx}
def adv:V->List V->Hp->VK->Prop:=fun x vs H Q=>∃ l xs y,x=.ref l/\vs=[y]/\H l=some (.lst xs)/\xs.length < sizeLine/\Q .non (upd H l (.lst (xs ++ [y])))
theorem aa5:MtM X "list.append" adv:=by
 intro pins s σ H x vs v us Q I b c h
 obtain ⟨l,xs,y,rfl,rfl,a,g,q⟩:=h
 cases b
 obtain ⟨u,rfl,d⟩:=c.one
 obtain ⟨z,its,n,r,f,e⟩:=I.lstM a
 refine call_meets F.slot_list_append ⟨_,e,rfl⟩ F.entry_list_append (F.args_list_append_2 _ _) (PySem.list_append l its.toArray n u (by rw [az5];omega)) ⟨e,?_⟩
 refine ⟨.non,_,I.lset (its':=its ++ [u]) a e (by simp) (r.append (.cons d .nil)) ?_,rfl,q⟩
 rw [az4,List.length_singleton]
 omega
def akf:V->List V->Hp->VK->Prop:=fun x vs H Q=>∃ l xs i k y,x=.ref l/\vs=[.int i]/\H l=some (.lst xs)/\-(2 ^ 63)<=i/\i < 2 ^ 63/\seqIndex? i xs.length=some k/\xs[k]?=some y/\Q y (upd H l (.lst (xs.eraseIdx k)))
theorem akg:MtM X "list.pop" akf:=by
 intro pins s σ H x vs v us Q I c g h
 obtain ⟨l,xs,i,k,y,rfl,rfl,b,d,f,o,A,q⟩:=h
 cases c
 obtain ⟨u,rfl,j⟩:=g.one
 obtain ⟨t,rfl⟩:=j
 obtain ⟨z,its,n,r,m,e⟩:=I.lstM b
 obtain ⟨w,p,a⟩:=r.get A
 refine call_meets F.slot_list_pop ⟨_,e,rfl⟩ F.entry_list_pop (F.args_list_pop_2 _ _)
  (MeetsSeq.list_pop_at l its.toArray n i t k w (fitsIndex_both d f) (by rw [az5,← m];exact o) (by rw [← aB6];exact p) (by rw [az5];omega)) ⟨e,?_⟩
 refine ⟨y,_,I.lset (its':=its.eraseIdx k) b e ?_ (r.eraseIdx k) ?_,a,q⟩
 ·show its.toArray.eraseIdxIfInBounds k=(its.eraseIdx k).toArray
  rw [List.eraseIdxIfInBounds_toArray]
 ·have:=ail xs k
  omega
def rCat:R2:=fun x y H Q=>∃ l b xs zs,x=.ref l/\y=.ref b/\H l=some (.lst xs)/\H b=some (.lst zs)/\xs.length+zs.length<=sizeLine/\∀ p,H p=none->Q (.ref p) (upd H p (.lst (xs ++ zs)))
theorem akh:OpR X (binaryOp .Add) rCat:=by
 intro pins s σ H x y v u Q I d c h
 obtain ⟨l,b,xs,w,rfl,rfl,j,g,C,q⟩:=h
 cases d
 cases c
 obtain ⟨z,its,n,r,B,e⟩:=I.lstM j
 obtain ⟨A,a,p,f,o,m⟩:=I.lstM g
 refine PySem.P.add_list e m ?_ (by rw [az5,az5];omega)
 have i:its.toArray ++ a.toArray=(its ++ a).toArray:=by simp
 rw [i]
 exact ⟨.ref _,_,I.lnew (t':=s.toks) (r.append f) (by rw [az4];omega),rfl,q _ I.fresh⟩
def rRep:R2:=fun x y H Q=>∃ l k xs,x=.ref l/\y=.int k/\H l=some (.lst xs)/\-(2 ^ 63)<=k/\k < 2 ^ 63/\xs.length * k.toNat<=sizeLine /\
 ∀ p,H p=none->Q (.ref p) (upd H p (.lst (List.replicate k.toNat xs).flatten))
theorem amm {α:Type} (xs:List α) (k:Nat):(List.replicate k xs).flatten.length=k * xs.length:=by
 induction k with
 | zero=>simp
 | succ k ih=>rw [aE7,List.flatten_cons,az4,ih,Nat.succ_mul,Nat.add_comm]
theorem awi:OpR X (binaryOp .Mult) rRep:=by
 intro pins s σ H x y v u Q I w p h
 obtain ⟨l,k,xs,rfl,rfl,C,A,B,o,q⟩:=h
 cases w
 obtain ⟨t,rfl⟩:=p
 obtain ⟨z,its,n,r,D,e⟩:=I.lstM C
 have f:its.toArray.size * k.toNat<=sizeLine:=by rw [az5,← D];exact o
 have c:¬ its.toArray.size * k.toNat > (2 ^ 63 - 1) / 8:=by
  have:(sizeLine:Nat)<=(2 ^ 63 - 1) / 8:=by decide
  omega
 have d:¬ (!Builtin.List.listFitsIndex k)=true:=by
  rw [fitsIndex_both A B]
  exact az3
 have b:¬ Builtin.List.listTooLong (its.toArray.size * k.toNat)=true:=by
  rw [aqv f]
  exact az3
 have g:List.foldl (fun j i=>j ++ i) #[] (List.replicate (if its.toArray.isEmpty=true then 0 else k.toNat) its.toArray)=(List.replicate k.toNat its).flatten.toArray:=by
  have G:∀ m:Nat,List.foldl (fun j i=>j ++ i) #[] (List.replicate m its.toArray)=(List.replicate m its).flatten.toArray:=fun m=>by
   have:=aim its m []
   rw [List.nil_append] at this
   exact this
  rw [G]
  cases its with
  | nil=>simp
  | cons a r'=>rw [aD0 (by simp)]
 refine wpAny_binaryOp_repeat_ref (T:="list") (U:="int") (by decide) ⟨_,e,rfl⟩ (fun E=>typeIs_int E k t) noFill_list_mul F.fills_int_mul F.slot_int_rmul repeat_list F.slot_int_index.lookup
  (call_meets F.slot_int_rmul (typeIs_int s k t) F.entry_int_rmul (F.args_int_rmul_2 _ _) (int___rmul___int_list k t l its.toArray n)
   ⟨e,rfl,⟨_,e,rfl⟩,call_meets F.slot_list_mul ⟨_,e,rfl⟩ F.entry_list_mul (F.args_list_mul_2 _ _) (AutoListH.list___mul___list_int_3 l its.toArray n k t d c b) ⟨e,?_⟩⟩)
 rw [g]
 exact ⟨.ref _,_,I.lnew (t':=s.toks) (r.rep k.toNat) (by rw [amm,Nat.mul_comm];exact o),rfl,q _ I.fresh⟩
end
section
variable {prog:Program} {w:World} {A:Around} {E:Value->Shared->Prop} {s:Shared}
end
section
variable {X:Cx}
end
section
variable {κ:Type} [DecidableEq κ]
def valV (kvs:List (κ × V)) (k : κ):Option V:=(kvs.find? fun kv=>decide (kv.1=k)).map (·.2)
def putK (kvs:List (κ × V)) (k : κ) (v:V):List (κ × V) :=
 if (kvs.any fun kv=>decide (kv.1=k))=true then kvs.map (fun kv=>if kv.1=k then (kv.1,v) else kv) else kvs ++ [(k,v)]
def as0 (kvs:List (κ × V)) (k : κ):List (κ × V):=kvs.filter fun kv=>decide (kv.1 ≠ k)
theorem agd {p : κ × V} {r:List (κ × V)} {k : κ} (e:p.1=k):valV (p :: r) k=some p.2:=by simp [valV,List.find?_cons,e]
theorem age {p : κ × V} {r:List (κ × V)} {k : κ} (e:¬ p.1=k):valV (p :: r) k=valV r k:=by simp [valV,List.find?_cons,e]
theorem aki (k : κ):∀ kvs:List (κ × V),(kvs.any fun a=>decide (a.1=k))=(valV kvs k).isSome
 | []=>rfl
 | p :: r=>by
  rw [List.any_cons]
  by_cases e:p.1=k
  ·simp only [agd e,aB8 e,Bool.true_or,Option.isSome_some]
  ·rw [age e,aB7 e,Bool.false_or];exact aki k r
theorem aek (kvs:List (κ × V)) (k : κ) (v:V):(putK kvs k v).length<=kvs.length+1:=by
 unfold putK
 split
 ·rw [ay7];omega
 ·rw [az4,aC2,aG0];omega
theorem RelO.isSome_eq {o:Option V} {u:Option Value} (r:RelO o u):o.isSome=u.isSome:=by
 cases o with
 | none=>cases u with
  | none=>rfl
  | some _=>exact (show False from r).elim
 | some _=>cases u with
  | none=>exact (show False from r).elim
  | some _=>rfl
theorem RelO.getD {o:Option V} {u:Option Value} {d:V} {d':Value} (r:RelO o u) (a:RelV d d'):RelV (o.getD d) (u.getD d'):=by
 cases o with
 | none=>cases u with
  | none=>exact a
  | some _=>exact (show False from r).elim
 | some _=>cases u with
  | none=>exact (show False from r).elim
  | some _=>exact r
theorem KV.val {kvs:List (κ × V)} {vs:List (κ × Value)} (r:KV kvs vs) (k : κ):RelO (valV kvs k) (valueAt vs k):=by
 unfold KV at r
 induction r with
 | nil=>exact True.intro
 | @cons p q ps qs h t ih =>
  obtain ⟨c,d⟩:=h
  by_cases e:p.1=k
  ·have a:q.1=k:=c.symm.trans e
   have b:valueAt (q :: qs) k=some q.2:=by simp [valueAt,List.find?_cons,a]
   rw [agd e,b];exact d
  ·have a:¬ q.1=k:=fun z=>e (c.trans z)
   have b:valueAt (q :: qs) k=valueAt qs k:=by simp [valueAt,List.find?_cons,a]
   rw [age e,b];exact ih
theorem KV.any {kvs:List (κ × V)} {vs:List (κ × Value)} (r:KV kvs vs) (k : κ):(kvs.any fun a=>decide (a.1=k))=vs.any fun a=>decide (a.1=k):=by
 unfold KV at r
 induction r with
 | nil=>rfl
 | cons h t ih=>rw [List.any_cons,List.any_cons,ih,h.1]
theorem KV.repl {kvs:List (κ × V)} {vs:List (κ × Value)} (r:KV kvs vs) (k : κ) {y:V} {u:Value} (c:RelV y u) :
  KV (kvs.map fun a=>if a.1=k then (a.1,y) else a) (vs.map fun a=>if a.1=k then (a.1,u) else a):=by
 unfold KV at r ⊢
 induction r with
 | nil=>exact .nil
 | @cons p q ps qs h t ih =>
  rw [aB4,aB4]
  refine .cons ?_ ih
  obtain ⟨b,d⟩:=h
  by_cases e:p.1=k
  ·rw [aC9 e,aC9 (b.symm.trans e)];exact ⟨b,c⟩
  ·rw [aD0 e,aD0 (fun z=>e (b.trans z))];exact ⟨b,d⟩
theorem KV.put {kvs:List (κ × V)} {vs:List (κ × Value)} (r:KV kvs vs) (k : κ) {y:V} {u:Value} (a:RelV y u):KV (putK kvs k y) (stored vs k u):=by
 unfold putK stored
 rw [r.any k]
 by_cases e:(vs.any fun b=>decide (b.1=k))=true
 ·rw [aC9 e,aC9 e];exact r.repl k a
 ·rw [aD0 e,aD0 e];exact Paired.snoc r ⟨rfl,a⟩
theorem KV.drop {kvs:List (κ × V)} {vs:List (κ × Value)} (r:KV kvs vs) (k : κ):KV (as0 kvs k) (without vs k):=by
 unfold KV at r ⊢
 unfold as0 without
 induction r with
 | nil=>exact .nil
 | @cons p q ps qs h t ih =>
  obtain ⟨c,d⟩:=h
  rw [List.filter_cons,List.filter_cons]
  by_cases e:p.1=k
  ·have a:¬ decide (p.1 ≠ k)=true:=by simp [e]
   have b:¬ decide (q.1 ≠ k)=true:=by simp [c.symm.trans e]
   rw [aD0 a,aD0 b];exact ih
  ·have f:¬ q.1=k:=fun z=>e (c.trans z)
   have a:decide (p.1 ≠ k)=true:=by simp [e]
   have b:decide (q.1 ≠ k)=true:=by simp [f]
   rw [aC9 a,aC9 b];exact .cons ⟨c,d⟩ ih
theorem KV.length {kvs:List (κ × V)} {vs:List (κ × Value)} (r:KV kvs vs):kvs.length=vs.length:=Paired.length r
end
theorem afs {P:Program} {w:World} {k:Key} {u:Value} (r:RelV (kV k) u):(aa8 P w).is k u=true:=by
 cases k with
 | inl i=>obtain ⟨t,e⟩:=(show ∃ t,u=Value.int i t from r);subst e;exact aly P w i t
 | inr x=>obtain ⟨t,e⟩:=(show ∃ t,u=Value.str x t from r);subst e;exact alz P w x t
theorem ain {P:Program} {w:World}:∀ {a:List Key} {us:List Value},Vals (a.map kV) us->ItemsAre (aa8 P w) a us
 | [],_,r=>by rw [List.map_nil] at r;cases r;exact .nil
 | k :: a,_,r=>by
  rw [aB4] at r
  cases r with
  | cons h t=>exact .cons (afs h) (ain t)
abbrev KT (H:Hp):List (List Key × V)->List (List Key × Addr × Value)->Prop:=Paired fun p q=>p.1=q.1/\H q.2.1=some (.tup (p.1.map kV))/\RelV p.2 q.2.2
theorem KT.val {H:Hp} {kvs:List (List Key × V)} {xs:List (List Key × Addr × Value)} (r:KT H kvs xs) (k:List Key):RelO (valV kvs k) ((atKey xs k).map (·.2)):=by
 induction r with
 | nil=>exact True.intro
 | @cons p q ps qs h t ih =>
  obtain ⟨c,_,d⟩:=h
  by_cases e:p.1=k
  ·have a:q.1=k:=c.symm.trans e
   have b:atKey (q :: qs) k=some q.2:=by simp [atKey,List.find?_cons,a]
   rw [agd e,b];exact d
  ·have a:¬ q.1=k:=fun z=>e (c.trans z)
   have b:atKey (q :: qs) k=atKey qs k:=by simp [atKey,List.find?_cons,a]
   rw [age e,b];exact ih
theorem KT.repl {H:Hp} {kvs:List (List Key × V)} {xs:List (List Key × Addr × Value)} (r:KT H kvs xs) (k:List Key) {y:V} {u:Value} (d:RelV y u) :
  KT H (kvs.map fun b=>if b.1=k then (b.1,y) else b) (xs.map (putAt k u)):=by
 induction r with
 | nil=>exact .nil
 | @cons p q ps qs h t ih =>
  rw [aB4,aB4]
  refine .cons ?_ ih
  obtain ⟨a,c,f⟩:=h
  unfold putAt
  by_cases e:p.1=k
  ·rw [aC9 e,aC9 (a.symm.trans e)];exact ⟨a,c,d⟩
  ·rw [aD0 e,aD0 (fun z=>e (a.trans z))];exact ⟨a,c,f⟩
theorem KT.put {H:Hp} {kvs:List (List Key × V)} {xs:List (List Key × Addr × Value)} (r:KT H kvs xs) (k:List Key) {b:Addr} {y:V} {u:Value} (hb:H b=some (.tup (k.map kV))) (a:RelV y u) :
  KT H (putK kvs k y) (storedH xs k b u):=by
 have e:(kvs.any fun c=>decide (c.1=k))=(atKey xs k).isSome:=by
  rw [aki,(r.val k).isSome_eq,Option.isSome_map]
 unfold putK storedH
 rw [e]
 by_cases q:(atKey xs k).isSome=true
 ·rw [aC9 q,aC9 q];exact r.repl k a
 ·rw [aD0 q,aD0 q];exact Paired.snoc r ⟨rfl,hb,a⟩
theorem KT.keeps {H H':Hp} {kvs:List (List Key × V)} {xs:List (List Key × Addr × Value)} (r:KT H kvs xs) (a:∀ b ys,H b=some (.tup ys)->H' b=some (.tup ys)):KT H' kvs xs :=
 Paired.mapP r fun _ _ z=>⟨z.1,a _ _ z.2.1,z.2.2⟩
section
variable {P:Program} {w:World} {H:Hp} {h:Heap} {a:Addr}
theorem as4 {u:HO} (ok:HOk P w H h) (e:Rd H a u):ObjOk P w H h a u:=e.ok ok
theorem aft {kvs:List (Key × V)} (ok:HOk P w H h) (e:Rd H a (.dK kvs)):kvs.length<=sizeLine/\(a == sysModules)=false/\∃ vs,KV kvs vs/\h.DictOf (aa8 P w) a vs :=
 show ObjOk P w H h a (.dK kvs) from as4 ok e
theorem as6 {kvs:List (Key × V)} (ok:HOk P w H h) (e:H a=some (.dK kvs)):kvs.length<=sizeLine/\(a == sysModules)=false/\∃ vs,KV kvs vs/\h.DictOf (aa8 P w) a vs:=aft ok (.inl e)
theorem afg {b:List Key} (ok:HOk P w H h) (e:H a=some (.tup (b.map kV))):(tupleKind (aa8 P w)).is h b a:=by
 obtain ⟨_,its,r,o,c,d,n,f⟩:=(show ObjOk P w H h a (.tup (b.map kV)) from ok a _ e)
 exact ⟨o,its.toArray,n,c,d,f,by simpa using ain r⟩
theorem afu {kvs:List (List Key × V)} (ok:HOk P w H h) (e:Rd H a (.dT kvs)):kvs.length<=sizeLine/\(a == sysModules)=false /\
  ∃ xs,KT H kvs xs/\h.DictOfH (tupleKind (aa8 P w)) a xs:=by
 obtain ⟨z,y,xs,r,o,es,i,c,d,g,f,j⟩:=(show ObjOk P w H h a (.dT kvs) from as4 ok e)
 refine ⟨z,y,xs,r,o,es,i,c,d,g,f,fun x b=>?_,j⟩
 have all:∀ {l:List (List Key × V)} {m:List (List Key × Addr × Value)},KT H l m->∀ x∈m,(tupleKind (aa8 P w)).is h x.1 x.2.1:=by
  intro l m q
  induction q with
  | nil=>intro x b;exact nomatch b
  | @cons p q ps qs hq t ih =>
   intro x b
   rcases az2.mp b with e | b
   ·subst e
    exact afg ok (by rw [← hq.1];exact hq.2.1)
   ·exact ih x b
 exact all r x b
theorem ax6 {kvs:List (List Key × V)} (ok:HOk P w H h) (e:H a=some (.dT kvs)):kvs.length<=sizeLine/\(a == sysModules)=false /\
  ∃ xs,KT H kvs xs/\h.DictOfH (tupleKind (aa8 P w)) a xs:=afu ok (.inl e)
end
def DGet (H:Hp) (a:Addr) (y:V) (r:Option V):Prop :=
 (∃ kvs k,Rd H a (.dK kvs)/\y=kV k/\r=valV kvs k)\/∃ kvs k b,Rd H a (.dT kvs)/\y=.ref b/\H b=some (.tup (k.map kV))/\r=valV kvs k
def DPut (H:Hp) (a:Addr) (y v:V) (H':Hp):Prop :=
 (∃ kvs k,H a=some (.dK kvs)/\y=kV k/\kvs.length < sizeLine/\H'=upd H a (.dK (putK kvs k v))) ∨
 ∃ kvs k b,H a=some (.dT kvs)/\y=.ref b/\H b=some (.tup (k.map kV))/\kvs.length < sizeLine/\H'=upd H a (.dT (putK kvs k v))
theorem DGet.k {H:Hp} {a:Addr} {kvs:List (Key × V)} {k:Key} (e:H a=some (.dK kvs)):DGet H a (kV k) (valV kvs k):=.inl ⟨kvs,k,.inl e,rfl,rfl⟩
theorem DGet.t {H:Hp} {a b:Addr} {kvs:List (List Key × V)} {k:List Key} (e:H a=some (.dT kvs)) (c:H b=some (.tup (k.map kV))):DGet H a (.ref b) (valV kvs k):=.inr ⟨kvs,k,b,.inl e,rfl,c,rfl⟩
theorem DPut.k {H:Hp} {a:Addr} {kvs:List (Key × V)} {k:Key} {v:V} (e:H a=some (.dK kvs)) (b:kvs.length < sizeLine):DPut H a (kV k) v (upd H a (.dK (putK kvs k v))):=.inl ⟨kvs,k,e,rfl,b,rfl⟩
theorem DPut.t {H:Hp} {a b:Addr} {kvs:List (List Key × V)} {k:List Key} {v:V} (e:H a=some (.dT kvs)) (d:H b=some (.tup (k.map kV))) (c:kvs.length < sizeLine) :
  DPut H a (.ref b) v (upd H a (.dT (putK kvs k v))):=.inr ⟨kvs,k,b,e,rfl,d,c,rfl⟩
section
variable {X:Cx} {pins:List (Addr × Obj)} {σ:St} {H:Hp} {s:Shared} {a:Addr} {y v:V} {u r:Value} {o:Option V} {A:Around} {E:Value->Shared->Prop}
theorem Inv.big (I:Inv X pins σ H s):sysModules < s.heap.objs.size:=by
 have h:mainGlobals < s.heap.objs.size:=(I.mod.glob.keeps I.bk).lt
 exact Nat.lt_trans (by decide) h
theorem aow {Q:Value->Shared->Prop} (C:A.units+1 < cLine) (I:Inv X pins σ H s) (g:DGet H a y (some v)) (q:RelV y u) (h:∀ f r,Inv X pins σ H r->RelV v f->Q f r) :
  wpAny (model X.prog X.w) A (getItem (.ref a) u) Q E s:=by
 rcases g with ⟨kvs,k,e,i,l⟩ | ⟨kvs,k,b,e,i,B,l⟩
 ·subst i
  obtain ⟨z,hd,vs,d,n⟩:=aft I.hok e
  obtain ⟨f,m,c⟩:=RelO.some_of (v:=v) (o:=valueAt vs k) (by rw [l];exact d.val k)
  exact wpAny_getItem_of (afs q) n.mapOf m (h f _ (I.tok _) c)
 ·subst i
  cases (show u=Value.ref b from q)
  obtain ⟨z,hd,xs,d,n⟩:=afu I.hok e
  obtain ⟨f,m,c⟩:=RelO.some_of (v:=v) (o:=(atKey xs k).map (·.2)) (by rw [l];exact d.val k)
  obtain ⟨p,x,j⟩:=Option.map_eq_some_iff.mp m
  refine wpAny_getItem_heap (tupleKind_room_in1 C) (afg I.hok B) n x ?_
  rw [j]
  exact h f _ (I.tok _) c
theorem ats {Q:Value->Shared->Prop} (n:A.units+1 < cLine) (I:Inv X pins σ H s) (g:DGet H a y o) (i:RelV y u) (h:∀ j,Inv X pins σ H j->Q (.bool (!o.isSome)) j) :
  wpAny (model X.prog X.w) A (compareOp .NotIn u (.ref a)) Q E s:=by
 rcases g with ⟨kvs,k,e,d,l⟩ | ⟨kvs,k,b,e,d,m,l⟩
 ·subst d
  obtain ⟨z,hd,vs,c,f⟩:=aft I.hok e
  refine wpAny_notIn_of (afs i) hd f.mapOf ?_
  rw [← (c.val k).isSome_eq,← l]
  exact h _ (I.tok _)
 ·subst d
  cases (show u=Value.ref b from i)
  obtain ⟨z,hd,xs,c,f⟩:=afu I.hok e
  refine wpAny_notIn_heap (tupleKind_room_in1 n) (afg I.hok m) hd f ?_
  have q:=(c.val k).isSome_eq
  rw [Option.isSome_map] at q
  rw [← q,← l]
  exact h _ (I.tok _)
theorem ahv {h':Heap} {t':Nat} {c:HO} (I:Inv X pins σ H s) (g:Mut (H a)) (d:Heap.SameBut a s.heap h') (f:∃ q,h'.get? a=some q) (new:ObjOk X.prog X.w (upd H a c) h' a c) :
  Inv X pins σ (upd H a c) { s with heap:=h',toks:=t' } :=
 I.write (x:=a) (e:=a) g (.inl rfl) (fun b q hb z=>(d.2 b hb).trans z) f new
theorem aox {P:Program} {w:World} {H':Hp} {h':Heap} {kvs:List (Key × V)} {vs:List (Key × Value)} (z:kvs.length<=sizeLine) (hd:(a == sysModules)=false) (b:KV kvs vs) (c:h'.DictOf (aa8 P w) a vs) :
  ObjOk P w H' h' a (.dK kvs):=⟨z,hd,vs,b,c⟩
theorem aoy {H':Hp} {Q:Unit->Shared->Prop} (M:A.units+1 < cLine) (I:Inv X pins σ H s) (g:DPut H a y v H') (B:RelV y u) (D:RelV v r) (h:∀ G,Inv X pins σ H' G->Q () G) :
  wpAny (model X.prog X.w) A (setItem (.ref a) u r) Q E s:=by
 rcases g with ⟨kvs,k,e,j,l,m⟩ | ⟨kvs,k,b,e,j,C,l,m⟩
 ·subst j m
  obtain ⟨z,hd,vs,d,o⟩:=as6 I.hok e
  have x:vs.length<=sizeLine:=by rw [← d.length];exact z
  have p:(putK kvs k v).length<=sizeLine:=by have:=aek kvs k v;omega
  refine wpAny_setItem_pairs (hsz:=x) (afs B) o fun h' f n=>h _ ?_
  have J:∃ q,h'.get? a=some q:=let ⟨q,_,_,i,_⟩:=f;⟨q,i⟩
  exact ahv I (by rw [e];exact True.intro) n J (aox p hd (d.put k D) f)
 ·subst j m
  cases (show u=Value.ref b from B)
  obtain ⟨z,hd,xs,d,o⟩:=ax6 I.hok e
  have x:xs.length<=sizeLine:=by rw [← Paired.length d];exact z
  have p:(putK kvs k v).length<=sizeLine:=by have:=aek kvs k v;omega
  refine wpAny_setItem_heap (hsz:=x) (tupleKind_room_in1 M) (afg I.hok C) o fun h' f n=>h _ ?_
  obtain ⟨q,es,O,i,K,N,L,_,P⟩:=f
  refine ahv I (by rw [e];exact True.intro) n ⟨q,i⟩ ⟨p,hd,_,(d.put k C D).keeps fun c ys F=>?_,q,es,O,i,K,N,L,P⟩
  rw [aag (asr F e (fun z=>nomatch z))]
  exact F
end
section
variable {X:Cx} {pins:List (Addr × Obj)} {σ:St} {H:Hp} {s:Shared} {a:Addr} {kvs:List (Key × V)} {k:Key} {u:Value} {A:Around} {E:Value->Shared->Prop}
end
def NoSl (i:Expr):Prop:=∀ ov iv,subscripted i false ov iv=operate [ov,iv] (getItem ov iv)
theorem att {prog:Program} {w:World} {A:Around} {E:Value->Shared->Prop} {s:Shared} {env:Env} {b a:Expr} {pos:Pos} {T id:String} {Q:Value->Shared->Prop}
  (p:typeLookup (.type T) "__getitem__" = pure (some (.builtin id))) (n:NoSl a)
  (h:wpAny (model prog w) A (eval b env) (fun o f=>wpAny (model prog w) A (eval a env) (fun i c=>c.TypeIs o T/\wpAny (model prog w) A (getItem o i) Q E c) E f) E s) :
  wpAny (model prog w) A (eval (.Subscript b a pos) env) Q E s:=by
 refine Subscript_ (aG8 h (fun o f l=>aG8 l (fun i c d=>?_) fun _ _ x=>x) fun _ _ x=>x)
 obtain ⟨m,d⟩:=d
 unfold subscriptTail
 refine aG1 ?_
 rw [getitemInPython_of_ne m.not_modules]
 refine aG1 (wpAny_specialOf m p ?_)
 have fin:wpAny (model prog w) A (subscripted a false o i) (fun r g=>wpAny (model prog w) A (letTemporaryGo b o r >>= fun _=>pure r) Q E g) E c:=by
  rw [n o i]
  exact wpAny_operating (aG8 d (fun r g j=>aG1 (wpAny_letTemporaryGo (aG2 j))) fun _ _ x=>x)
 first
  | exact aG2 (aG1 fin)
  | exact aG1 (aG2 (aG1 fin))
  | exact aG1 fin
theorem al1 {X:Cx} {pins:List (Addr × Obj)} {σ:St} {H:Hp} {s:Shared} {a:Addr} {y:V} {o:Option V} (I:Inv X pins σ H s) (g:DGet H a y o):s.TypeIs (.ref a) "dict":=by
 rcases g with ⟨kvs,k,e,_,_⟩ | ⟨kvs,k,b,e,_,_,_⟩
 ·obtain ⟨_,_,vs,_,c⟩:=aft I.hok e
  exact c.typeIs
 ·obtain ⟨_,_,xs,_,c⟩:=afu I.hok e
  exact c.typeIs
def ano (td ty:TE):TE:=fun σ H Q=>td σ H fun x H1=>ty σ H1 fun y H2=>∃ a v,x=.ref a/\DGet H2 a y (some v)/\Q v H2
def afv (ty td:TE):TE:=fun σ H Q=>ty σ H fun y H1=>td σ H1 fun x H2=>∃ a o,x=.ref a/\DGet H2 a y o/\Q (.bl (!o.isSome)) H2
def agx (td ty tv:TE):TS:=fun D σ H=>tv σ H fun v H1=>td σ H1 fun x H2=>ty σ H2 fun y H3=>∃ a H4,x=.ref a/\DPut H3 a y v H4/\D.nx σ H4
section
variable {X:Cx} {o i e value:Expr} {pos pos' tpos:Pos} {td ty tv:TE}
theorem atu (p:X.A.units+1 < cLine) (w:PE X o td) (hi:PE X i ty) (m:NoSl i):PE X (.Subscript o i pos) (ano td ty):=by
 intro pins s σ H Q I h
 refine att PySem.F.slot_dict_getitem.lookup m (thn (w pins s σ H _ I h) fun u s1 ⟨x,j,r,f,n⟩=>thn (hi pins s1 σ j _ r n) fun B s2 ⟨y,H2,c,d,a,v,ex,g,l⟩=>?_)
 subst ex
 obtain rfl:u=Value.ref a:=f
 exact ⟨al1 c g,aow p c g d fun C z q b=>⟨v,H2,q,b,l⟩⟩
theorem aoz (m:X.A.units+1 < cLine) (hi:PE X i ty) (r:PE X o td):PC X .NotIn i o (afv ty td):=by
 intro pins s σ H Q I h
 refine thn (hi pins s σ H _ I h) fun w s1 ⟨y,d,q,b,l⟩=>thn (r pins s1 σ d _ q l) fun u s2 ⟨x,H2,j,c,a,p,ex,g,f⟩=>?_
 subst ex
 obtain rfl:u=Value.ref a:=c
 exact ats m j g b fun v n=>⟨.bl (!p.isSome),H2,n,rfl,f⟩
theorem aen (w:X.A.units+1 < cLine) (F:PE X o td) (hi:PE X i ty) (f:PE X value tv) (l:swapsWith value (some (.Subscript o i pos')) pos.line X.env=pure false) :
  PS X (.Assign [.Subscript o i pos'] value pos) (agx td ty tv):=by
 intro pins s σ H D I h
 refine wpAny_Assign_Subscript (thn (f pins s σ H _ I h) fun r s1 ⟨v,d,E,n,q⟩=>thn (F pins s1 σ d _ E q) fun u s2 ⟨x,H2,m,c,j⟩=>thn (hi pins s2 σ H2 _ m j) fun J G ⟨y,H3,z,b,a,B,ex,g,C⟩=>?_) l
 subst ex
 obtain rfl:u=Value.ref a:=c
 exact aoy w z g b n fun K p=>⟨σ,B,p,C⟩
end
theorem aqw {P:Program} {w:World} {H:Hp} (h:Heap) (hb:sysModules < h.objs.size):ObjOk P w H (h.push { cls:=.type "dict",data:=.dict #[] }) h.objs.size (.dK []) :=
 ⟨aD4 _,beq_eq_false_iff_ne.mpr (Ne.symm (az9 hb)),[],.nil,Heap.DictOf.new h⟩
theorem aqx {P:Program} {w:World} {H:Hp} (h:Heap) (hb:sysModules < h.objs.size):ObjOk P w H (h.push { cls:=.type "dict",data:=.dict #[] }) h.objs.size (.dT []) :=
 ⟨aD4 _,beq_eq_false_iff_ne.mpr (Ne.symm (az9 hb)),[],.nil,_,#[],0,aG5 _ rfl,⟨rfl,rfl,rfl⟩,rfl,rfl,List.nodup_nil⟩
def ao0:TE:=fun _ H Q=>∀ p,H p=none->Q (.ref p) (upd H p (.dT []))
section
variable {X:Cx} {pos:Pos}
theorem aqy:PE X (.Dict [] [] pos) ao0:=fun pins s σ H Q I h =>
 wpAny_Dict_empty ⟨.ref s.heap.objs.size,_,I.laid (a:=s.heap.objs.size) (o:=.dT []) (t':=s.toks) (fun _ _ q=>aG3 _ q) (az0 _) (aqx s.heap I.big),rfl,h _ (I.hok.fresh (az0 _))⟩
end
def akj:List (TE × TE)->St->Hp->(List (V × V)->Hp->Prop)->Prop
 | [],_,H,Q=>Q [] H
 | (tk,tv) :: r,σ,H,Q=>tk σ H fun x H1=>tv σ H1 fun y H2=>akj r σ H2 fun ps H3=>Q ((x,y) :: ps) H3
abbrev VV:List (V × V)->List (Value × Value)->Prop:=Paired fun p q=>RelV p.1 q.1/\RelV p.2 q.2
def PPs (X:Cx) (pos:Pos) (keys:List (Option Expr)) (values:List Expr) (trs:List (TE × TE)):Prop :=
 ∀ (pins:List (Addr × Obj)) (s:Shared) (σ:St) (H:Hp) (Q:List (V × V)->Hp->Prop),Inv X pins σ H s->akj trs σ H Q ->
  wpAny (model X.prog X.w) X.A (evalPairs (pairTrees keys values X.env pos)) (fun vs s'=>∃ ps H',Inv X pins σ H' s'/\VV ps vs/\Q ps H') X.xe s
theorem atv {X:Cx} {pos:Pos}:PPs X pos [] [] []:=fun pins s σ H Q I h=>pairTrees_nil_walk ⟨[],H,I,.nil,h⟩
theorem aqz {X:Cx} {pos:Pos} {k v:Expr} {d:List (Option Expr)} {vs:List Expr} {f c:TE} {a:List (TE × TE)} (r:PE X k f) (l:PE X v c) (o:PPs X pos d vs a) :
  PPs X pos (some k :: d) (v :: vs) ((f,c) :: a):=fun pins s σ H Q I h =>
 pairTrees_cons_walk (thn (r pins s σ H _ I h) fun u s1 ⟨x,j,z,i,p⟩=>thn (l pins s1 σ j _ z p) fun B s2 ⟨y,H2,n,g,m⟩ =>
  thn (o pins s2 σ H2 _ n m) fun C A ⟨ps,H3,q,b,w⟩=>⟨(x,y) :: ps,H3,q,.cons ⟨i,g⟩ b,w⟩)
def aeo (kvs more:List (Key × V)):List (Key × V):=more.foldl (fun acc kv=>putK acc kv.1 kv.2) kvs
theorem KV.merge:∀ {more:List (Key × V)} {rs:List (Key × Value)} {kvs:List (Key × V)} {vs:List (Key × Value)},KV more rs->KV kvs vs->KV (aeo kvs more) (merged vs rs):=by
 intro more rs kvs vs r
 unfold KV at r
 induction r generalizing kvs vs with
 | nil=>intro q;exact q
 | @cons p q ps qs h t ih =>
  intro a
  have e:KV (putK kvs p.1 p.2) (stored vs q.1 q.2):=by
   have:=a.put p.1 h.2
   rw [← h.1];exact this
  exact ih e
theorem ae5:∀ (more kvs:List (Key × V)),(aeo kvs more).length<=kvs.length+more.length
 | [],kvs=>by show kvs.length<=kvs.length+0;omega
 | p :: r,kvs=>by
  have a:=ae5 r (putK kvs p.1 p.2)
  have b:=aek kvs p.1 p.2
  show (aeo (putK kvs p.1 p.2) r).length<=_
  rw [aC2];omega
theorem agy {P:Program} {w:World}:∀ {kvs:List (Key × V)} {d:List (Value × Value)},VV (kvs.map fun f=>(kV f.1,f.2)) d->∃ rs,Carries (aa8 P w) d rs/\KV kvs rs
 | [],_,r=>by rw [List.map_nil] at r;cases r;exact ⟨[],True.intro,.nil⟩
 | p :: kvs,_,r=>by
  rw [aB4] at r
  cases r with
  | @cons a b as bs h t =>
   obtain ⟨rs,c,q⟩:=agy (P:=P) (w:=w) t
   obtain ⟨i,g⟩:=b
   exact ⟨(p.1,g) :: rs,⟨afs h.1,rfl,c⟩,.cons ⟨rfl,h.2⟩ q⟩
def as7 (trs:List (TE × TE)):TE:=fun σ H Q=>∀ p,H p=none->akj trs σ (upd H p (.dK [])) fun ps H2=>H2 p=some (.dK [])/\∃ kvs:List (Key × V),ps=kvs.map (fun kv=>(kV kv.1,kv.2))/\kvs.length<=15/\Q (.ref p) (upd H2 p (.dK (aeo [] kvs)))
theorem atw {X:Cx} {pos:Pos} {keys:List (Option Expr)} {b:List Expr} {d:List (TE × TE)} (h:PPs X pos keys b d) (g:keys.all (·.isSome)=true) (B:keys.length=b.length) (A:keys ≠ [])
  (i:keys.length<=15):PE X (.Dict keys b pos) (as7 d):=by
 intro pins s σ H Q I q
 have hn:=I.hok.fresh (az0 s.heap.objs.size)
 have E:=I.laid (a:=s.heap.objs.size) (o:=.dK []) (h':=s.heap.push { cls:=.type "dict",data:=.dict #[] }) (t':=s.toks) (fun _ _ q=>aG3 _ q) (az0 _) (aqw s.heap I.big)
 refine wpAny_Dict_walk (knd:=aa8 X.prog X.w) g B A i (thn (h pins _ σ _ _ E (q _ hn)) fun J s2 ⟨ps,H2,l,j,e,kvs,C,G,n⟩=>?_)
 subst C
 obtain ⟨rs,c,D⟩:=agy (P:=X.prog) (w:=X.w) j
 obtain ⟨z,hd,m,y,x⟩:=as6 l.hok e
 cases y
 refine ⟨rs,c,x,fun h' f p=>⟨.ref s.heap.objs.size,_,?_,rfl,n⟩⟩
 have F:(aeo [] kvs).length<=sizeLine:=by
  have r:=ae5 kvs []
  rw [aG0] at r
  rw [sizeLine_eq];omega
 have u:∃ q,h'.get? s.heap.objs.size=some q:=let ⟨q,_,_,v,_⟩:=f;⟨q,v⟩
 exact ahv l (by rw [e];exact True.intro) p u (aox F hd (D.merge .nil) f)
structure M1 (X:Cx) (o:Expr) (m:Str) (apos:Pos) (e:Expr) (cpos:Pos):Prop where
 base:attributeBase o m X.env (eval o X.env)=eval o X.env
 few:((backTo cpos (starEach [e] X.env)).all (fun x => !x.1) && (backToKw cpos (keywordEach [] X.env)).all (fun x=>x.1.isSome)
  && decide (([e]:List Expr).length+([]:List Keyword).length+(if ([]:List Keyword).isEmpty then 0 else 1) < 30))=true
 line:(apos.endLine == cpos.line)=true
 trees:backTo cpos (starEach [e] X.env)=[(false,eval e X.env)]
def IsD (H:Hp) (a:Addr):Prop:=(∃ kvs,Rd H a (.dK kvs))\/∃ kvs,Rd H a (.dT kvs)
theorem awj {X:Cx} {pins:List (Addr × Obj)} {σ:St} {H:Hp} {s:Shared} {a:Addr} (I:Inv X pins σ H s) (d:IsD H a) :
  s.TypeIs (.ref a) "dict"/\(∀ b,Value.ref a=.ref b->∃ c,s.heap.get? b=some c/\c.dict=none)/\(a == sysModules)=false:=by
 rcases d with ⟨kvs,e⟩ | ⟨kvs,e⟩
 ·obtain ⟨_,hd,vs,_,f⟩:=aft I.hok e
  refine ⟨f.typeIs,fun b q=>?_,hd⟩
  cases q
  obtain ⟨c,_,_,g,h,_⟩:=f
  exact ⟨c,g,h.2.1⟩
 ·obtain ⟨_,hd,xs,_,f⟩:=afu I.hok e
  refine ⟨f.typeIs,fun b q=>?_,hd⟩
  cases q
  obtain ⟨c,_,_,g,h,_⟩:=f
  exact ⟨c,g,h.2.1⟩
section
variable {X:Cx} {pins:List (Addr × Obj)} {σ:St} {H:Hp} {s:Shared} {a:Addr} {y d:V} {u r:Value} {o:Option V} {A:Around} {E:Value->Shared->Prop}
theorem awk {Q:Value->Shared->Prop} (p:A.units+1 < cLine) (I:Inv X pins σ H s) (g:DGet H a y o) (i:RelV y u) (h:∀ j m,Inv X pins σ H m->RelV (o.getD .non) j->Q j m) :
  wpAny (model X.prog X.w) A (call (.builtin "dict.get") [.ref a,u]) Q E s:=by
 rcases g with ⟨kvs,k,e,f,l⟩ | ⟨kvs,k,b,e,f,n,l⟩
 ·subst f
  obtain ⟨z,hd,vs,c,d⟩:=aft I.hok e
  refine call_meetsIn PySem.F.slot_dict_get d.typeIs PySem.F.entry_dict_get (PySem.F.args_dict_get_2 _ _) (meets_dict_get (aa8 X.prog X.w) a (afs i) hd) ⟨_,d.mapOf,h _ _ (I.tok _) ?_⟩
  rw [l]
  exact (c.val k).getD rfl
 ·subst f
  cases (show u=Value.ref b from i)
  obtain ⟨z,hd,xs,c,d⟩:=afu I.hok e
  refine call_meetsIn PySem.F.slot_dict_get d.typeIs PySem.F.entry_dict_get (PySem.F.args_dict_get_2 _ _) (meetsH_dict_get (tupleKind (aa8 X.prog X.w)) a b hd) ⟨tupleKind_room_in1 p,k,xs,afg I.hok n,d,h _ _ (I.tok _) ?_⟩
  rw [l]
  exact (c.val k).getD rfl
end
def akk (td ty:TE):TE:=fun σ H Q=>td σ H fun x H1=>∃ a,x=.ref a/\IsD H1 a/\ty σ H1 fun y H2=>∃ o,DGet H2 a y o/\Q (o.getD .non) H2
section
variable {X:Cx} {o e f:Expr} {apos cpos:Pos} {td ty tx:TE}
theorem aq0 (v:X.A.units+1 < cLine) (z:PE X o td) (q:PE X e ty) (m:M1 X o "get" apos e cpos):PE X (.Call (.Attribute o "get" apos) [e] [] cpos) (akk td ty):=by
 intro pins s σ H Q I h
 refine wpAny_Call_method m.base m.few m.line PySem.F.plainAttrs_dict PySem.F.slot_dict_get PySem.F.type_dict_get (thn (z pins s σ H _ I h) fun u s1 ⟨x,j,c,i,a,ex,d,r⟩=>?_)
 subst ex
 obtain rfl:u=Value.ref a:=i
 obtain ⟨t1,l,_⟩:=awj c d
 refine ⟨t1,l,?_⟩
 rw [m.trees]
 refine Calls.callWith_builtin rfl (Calls.evalArgs_plain (Calls.spliced_cons (thn (q pins s1 σ j _ c r) fun C s2 ⟨y,H2,p,f,E,g,n⟩=>Calls.spliced_nil ?_)))
 exact awk v p g f fun D B w b=>⟨_,H2,w,b,n⟩
end
section
variable {X:Cx} {pins:List (Addr × Obj)} {σ:St} {H:Hp} {s:Shared} {a:Addr} {kvs:List (Key × V)} {A:Around} {E:Value->Shared->Prop}
end
section
variable {X:Cx} {pins:List (Addr × Obj)} {σ:St} {H:Hp} {s:Shared} {a:Addr} {y:V} {u:Value} {A:Around} {E:Value->Shared->Prop}
end
end L2
namespace Att
open PySem PySem.W PySem.Calls PyProof.Rows
theorem agz {P:Params} {h:Heap}:∀ (ns:List Int) (vs:List Value),WellAll P h vs (ns.map WData.int)->IntsAre vs ns:=by
 intro ns
 induction ns with
 | nil =>
  intro vs w
  rw [List.map_nil] at w
  cases w
  exact .nil
 | cons n ns ih =>
  intro vs w
  rw [aB4] at w
  cases w with
  | cons a b =>
   cases a
   exact .cons _ _ (ih _ b)
theorem ao1 {l:OpenLaw} {n:Nat} (hn:l.most=some n) {P:Params} {h:Heap} {args:List WData} {c:List Value}
  (b:l.row.toRowW.claim.pre args=true) (m:WellAll P h c args) :
  ∃ a vs ns,c=[Value.ref a]/\args=[WData.list (ns.map WData.int)]/\h.get? a=some { cls:=.type "list",data:=.seq vs.toArray }/\IntsAre vs ns/\ns.length<=n:=by
 have j:WShape.hasAll [] args [.list .int]=true:=(pre_splitW b).1
 have o:l.pre.holds [] { args:=args }=true:=(pre_splitW b).2
 obtain ⟨d,r,rfl,p,s⟩:=hasAllW_cons j
 obtain rfl:=hasAllW_nil s
 obtain ⟨xs,rfl,v⟩:=hasW_list p
 obtain ⟨ns,rfl⟩:=items_int v
 have f:ns.length<=n:=by
  unfold OpenLaw.pre at o
  have g:(WTm.not (.lt (.lit (.int (n:Int))) (.len (.arg 0)))).holds [] { args:=[.list (ns.map .int)] }=true:=by
   have g:=(holds_andW o).1
   rw [hn] at g
   exact g
  have i:=condW_of g (w_not (w_lt w_lit (w_len_list (w_arg rfl))))
  rw [ay7] at i
  refine Nat.le_of_not_lt fun q=>?_
  have u:(n:Int) < ((ns.length:Nat):Int):=by omega
  first
   | (rw [aB8 u] at i;exact absurd i (by decide))
   | (simp at i;omega)
 cases m with
 | cons w1 w2 =>
  cases w2
  cases w1 with
  | list ho hall=>exact ⟨_,_,ns,rfl,rfl,ho,agz ns _ hall,f⟩
theorem ao2 (l:OpenLaw) (args:List WData):l.row.toRowW.claim.post args (.bool true) args=true :=
 postW_of (r:=l.row.toRowW) (X:=(true == true))
  (show WShape.has [] (.bool true) .bool=true by first | rfl | decide | simp [WShape.has,WShape.arms,WShape.armsAll])
  (show (WTm.eq .res (.lit (.bool true))).value [] { args:=args,res:=some (.bool true),after:=args }=some (.bool (true == true)) from w_eq_bool (w_res rfl) w_lit) rfl
theorem attach_call {l:OpenLaw} {n:Nat} {q:Program} {c:List Str} {A:(Str->Option Value)->Heap->Prop} {C:World->Heap->Prop} {d:DefRec}
  (hn:l.most=some n) (s:d.params.defaults=[])
  (call:∀ (w:World) (s₀ b:Shared) (mg mb:Str->Option Value) (fa:Addr) (o:Obj) (pm m doc:Value) (a:Addr) (vs:List Value) (ns:List Int),
   Ground q c [] A w s₀ mg mb b.heap->C w b.heap ->
   b.heap.get? fa=some o->o.data=.func (docDef d.name d.params d.body d.scope pm m doc)->b.heap.CodeRec m d.name->mg d.name=some (.ref fa) ->
   b.heap.get? a=some { cls:=.type "list",data:=.seq vs.toArray }->IntsAre vs ns->ns.length<=n->b.gens = #[] ->
   codeAny (model l.prog w) callerA (.call (.ref fa) ⟨[.ref a],[]⟩) (fun r p=>r=.ok (.ret (.bool true))/\OldK b.heap p.heap/\p.os=b.os/\AllBare p.gens) b) :
  WalkO q c A C l.row.toRowW d [] (fun f vs=>PySem.call f vs):=by
 intro w s₀ b mg mb G Y fa o pm m doc D kV L hd x z u I args B as h y M v E
 obtain rfl:D=.none:=Dflts.none z s
 obtain rfl:kV=.none:=Dflts.noKw z
 obtain ⟨a,vs,ns,rfl,rfl,j,g,i⟩:=ao1 hn h v
 refine enter_call (codeAny_mono (call w s₀ b mg mb fa o pm m doc a vs ns G Y L (fd_plain hd) x u j g i I) fun r p F=>?_)
 obtain ⟨rfl,H,K,J⟩:=F
 exact ⟨.inl ⟨.bool true,.bool true,[],rfl,fun _=>rfl,.bool true,ao2 l _,fun _=>⟨List.Pairwise.nil,fun _ hm=>(nomatch hm)⟩⟩,H,K,J⟩
section
variable {prog:Program} {w:World} {A:Around} {E:Value->Shared->Prop} {s:Shared} {K:Frag}
end
end Att
namespace L2
open PySem PySem.Spec PyProof.Rows
theorem afh:∀ {vs:List Value} {ns:List Int},IntsAre vs ns->Vals (ns.map V.int) vs
 | _,_,.nil => .nil
 | _,_,.cons n t h => .cons ⟨t,rfl⟩ (afh h)
def Only (H:Hp):Prop:=∀ b,H b=none\/∃ o xs,H b=some (.frz o (.lst xs))
theorem aq1 {P:Program} {w:World} {K:Frag} {mg mb:Str->Option Value} {CX:CXT} {k:Nat} {fa a:Addr} {fd:FuncData} {x:Str} {sp:Sp} {c:Shared} {vs:List Value} {ns:List Int}
  (T:K.In c.heap) (B:c.heap.Ns mainGlobals mg) (hb:c.heap.Ns builtinsNs mb) (J:∀ x:Str,x ≠ "__name__"->mb x=bootBuiltins x) (y:c.heap.NoLimit) (W:c.gens = #[])
  (ha:c.heap.get? a=some { cls:=.type "list",data:=.seq vs.toArray }) (hi:IntsAre vs ns) (Q:ns.length<=sizeLine) (Z:Room k callerA)
  (F:∀ base:Heap,K.In base->base.Ns mainGlobals mg->FnOk P w K mg base CX k fa fd [x] sp) (l:∀ (s:Shared) (u:Value),BindsTo s fd ⟨[u],[]⟩ [(x,u)])
  (I:∀ H:Hp,Only H->SqL K H a (ns.map V.int)->sp [.ref a] H (fun v _=>v=.bl true) fun _ _ _=>False)
  (G:∀ H e g,CX [] H c (fun _ _ _=>False) e g->False) :
  codeAny (model P w) callerA (.call (.ref fa) ⟨[.ref a],[]⟩) (fun r g=>r=.ok (.ret (.bool true))/\OldK c.heap g.heap/\g.os=c.os/\AllBare g.gens) c:=by
 have O:=afh hi
 have C:=hi.length
 -- from an abstract heap in which nothing but the script may be tracked
 have j:∀ H:Hp,Only H->SqL K H a (ns.map V.int)->HOk P w H c.heap->(∀ b,H b ≠ none->b=a)->(H a ≠ none->K.lookup a=none) ->
   codeAny (model P w) callerA (.call (.ref fa) ⟨[.ref a],[]⟩) (fun r g=>r=.ok (.ret (.bool true))/\OldK c.heap g.heap/\g.os=c.os/\AllBare g.gens) c:=by
  intro H R U hok N hK
  have f:∀ {b:Addr} {o:Obj},c.heap.get? b=some o->H b=none->(hidT c.heap H).get? b=some o:=fun e n=>aqq e n
  have L:∀ {b:Addr} {o:Obj} {es:Array DictEntry} {E:Nat},c.heap.get? b=some o->o.data=.dict es E->H b=none:=fun {b o es E} e d=>by
   cases q:H b with
   | none=>rfl
   | some u =>
    have M:b=a:=N b (by rw [q];simp)
    subst M
    rw [ha] at e;cases e
    have d':Data.seq vs.toArray _=Data.dict es E:=d
    cases d'
  have i:∀ {b:Addr} {m:Str->Option Value},c.heap.Ns b m->(hidT c.heap H).Ns b m:=fun {b m} ⟨o,es,E,e,d,r⟩=>⟨o,es,E,f e (L e d),d,r⟩
  have A:K.In (hidT c.heap H):=fun b o e=>f (T b o e) (by
   cases q:H b with
   | none=>rfl
   | some u =>
    have M:b=a:=N b (by rw [q];simp)
    subst M
    rw [hK (by rw [q];simp)] at e;cases e)
  have Y:Mod K mg (hidT c.heap H):=⟨A,i B,⟨mb,i hb,J⟩,let ⟨mc,h1,h2⟩:=y;⟨mc,i h1,h2⟩⟩
  have e0:Env0 P w K mg (hidT c.heap H) callerA [] c H:=⟨rfl,Y,fun b o e=>ath e,Nat.le_of_eq (aol _ _),trivial,fun b hb=>absurd (show b∈([]:List Addr) from hb) (by simp),hok,.of_eq W⟩
  refine codeAny_mono ((F _ A (i B)).run callerA [] c H ⟨[.ref a],[]⟩ [.ref a] [.ref a] _ _ Z e0 (l c (.ref a)) (.cons rfl .nil) (I H R U)) fun r g h=>?_
  cases r with
  | error e=>exact (G H e g h).elim
  | ok fl =>
   cases fl with
   | next=>exact False.elim h
   | brk=>exact False.elim h
   | cont=>exact False.elim h
   | ret u =>
    obtain ⟨v,H',os,bare,un,D,r',q⟩:=h
    have X:v=.bl true:=q
    subst X
    obtain rfl:u=Value.bool true:=r'
    refine ⟨rfl,OldK.of_keep fun b o e=>?_,os,bare⟩
    cases q:H b with
    | none=>exact un.keep b o e q (by intro z;exact absurd (show b∈([]:List Addr) from z) (by simp)) (by simp)
    | some u =>
     rcases R b with z | ⟨ob,xs,z⟩
     ·rw [q] at z;cases z
     ·have z2:=un.frzs b ob _ z
      obtain ⟨S,_⟩:=hok b _ z
      obtain ⟨e2,_⟩:=D b _ z2
      rw [e] at S;cases S
      exact e2
 cases hk:K.lookup a with
 | some o =>
  -- the script is one of the module's own objects
  have e:=T a o hk
  rw [ha] at e
  cases e
  refine j (fun _=>none) (fun _ => .inl rfl) (.inr ⟨_,vs.toArray,_,hk,rfl,rfl,rfl,by rw [az5,C];exact Q,by simpa using O⟩) (fun b u z=>by have p:(none:Option HO)=some u:=z;cases p) (fun b z=>absurd rfl z) fun z=>absurd rfl z
 | none =>
  refine j (fun b=>if b=a then some (.frz { cls:=.type "list",data:=.seq vs.toArray } (.lst (ns.map V.int))) else none) (fun b=>?_) (.inl (.inr ⟨{ cls:=.type "list",data:=.seq vs.toArray },aC9 rfl⟩)) (fun b u z=>?_) (fun b z=>?_) fun _=>hk
  ·by_cases hb:b=a
   ·exact .inr ⟨_,_,aC9 hb⟩
   ·exact .inl (aD0 hb)
  ·by_cases hb:b=a
   ·have p:=(aC9 hb).symm.trans z
    cases p
    subst hb
    exact ⟨ha,by rw [ay7];exact Q,vs,_,O,ha⟩
   ·have p:=(aD0 hb).symm.trans z
    cases p
  ·by_cases hb:b=a
   ·exact hb
   ·exact absurd (aD0 hb) z
abbrev KOf {K:Frag} {h:Heap} (_:K.In h):Frag:=K
theorem walk_of {l:PySem.W.OpenLaw} {n k:Nat} {q:Program} {i:List Str} {N:(Str->Option Value)->Heap->Prop} {D:World->Heap->Prop} {d:DefRec} {K:Params->Frag} {CX:World->CXT} {sp:World->Sp} {x:Str}
  (hn:l.most=some n) (B:n<=sizeLine) (y:d.params.defaults=[]) (M:Room k callerA)
  (L:∀ (w:World) (h:Heap),D w h->(K w.params).In h)
  (F:∀ (w:World) (mg:Str->Option Value) (fa:Addr) (h:Heap),(K w.params).In h->h.Ns mainGlobals mg->mg d.name=some (.ref fa) ->
   ∃ fd:FuncData,(∀ (s:Shared) (u:Value),BindsTo s fd ⟨[u],[]⟩ [(x,u)]) /\
    ∀ base:Heap,(K w.params).In base->base.Ns mainGlobals mg->FnOk l.prog w (K w.params) mg base (CX w) k fa fd [x] (sp w))
  (r:∀ (w:World) (H:Hp) (a:Addr) (ns:List Int),ns.length<=n->Only H->SqL (K w.params) H a (ns.map V.int)->sp w [.ref a] H (fun v _=>v=.bl true) fun _ _ _=>False)
  (A:∀ (w:World) (H:Hp) (s:Shared) (e:Value) (C:Shared),CX w [] H s (fun _ _ _=>False) e C->False) :
  PySem.W.WalkO q i N D l.row.toRowW d [] (fun f vs=>PySem.call f vs):=by
 refine Att.attach_call hn y fun w s₀ m mg mb fa o pm R doc a vs ns G Y S hd P z p j c O=>?_
 have E:=L w _ Y
 obtain ⟨fd,hb,J⟩:=F w mg fa _ E G.T.g z
 exact aq1 E G.T.g G.T.b G.T.builtins G.T.nolimit O p j (aB3 c B) M J hb (fun H Q I=>r w H a ns c Q I) fun H e C=>A w H m e C
end L2
/- THE LAST THEOREM (shape; LID, My.* are yours):
  My.Adr: a structure of the addresses that your layer names (classes,functions);My.Txt K t: a structure (Prop) of the equations over K;
  My.txt_mk:{K} {implicit addresses ..} (e1:nsIn K mainGlobals "law" = some (some (.ref f))) (e2:K.lookup f=some ⟨oc,od,.func (fnOf "law" "law" params body scope dV kV doc pm an cdv ct),sl⟩) (e3:codeIn K cdv "law" = true) .. : ∃ t,My.Txt K t
set_option maxRecDepth 100000 in
set_option maxHeartbeats 0 in
theorem PySem.Challenge.cw_LID_holds : PySem.Challenge.rw_LID.Holds := by
 w_on;o_law;k_head;(case hw=>w_witness2)
 k_fill
 refine L2.walk_of (l:=PySem.Challenge.rw_LID) (n:=63) (k:=40) (x:="script") (CX:=fun w => ..) (sp:=fun _=>My.sp_law) rfl (by decide) rfl ⟨rfl,by decide,by decide⟩ (fun w h Y=>PySem.W.kIn_of Y) ?F ?S ?C
 case F =>
  intro w mg fa h KX G hmg
  have T:∃ t,My.Txt (L2.KOf KX) t:=by
   dsimp only [L2.KOf]                          -- K must stand as «<heap const> w.params» for k_is
   refine' My.txt_mk ?e1 ?e2 ?e3 ..
   (case e1=>PySem.W.k_is)                    -- in the order: a name -> its address -> its object -> its parts
   (case e2=>PySem.W.k_is)
   ..
  obtain ⟨t,T⟩:=T
  have e0:=hmg.symm.trans (mg_of KX G T.law)
  cases e0                                       -- fa is the law's own address
  exact ⟨_,fun s u => .of_eq rfl,fun base kb nb=>My.law_fn T kb nb⟩     -- if «.of_eq rfl» comes too early: refine' ⟨_,?b,fun base kb nb=>My.law_fn T kb nb⟩;exact fun s u => .of_eq rfl
 case S=>exact fun w H a ns hl hO hS => ..
 case C=>exact ..
(the tactic k_is has no namespace: write k_is) -/
namespace L2
open PySem PySem.Spec PyProof.Rows
def ab0 (s:Stmt):Arguments:=match s with
 | .FunctionDef _ a _ _ _ _ _ _ _ _=>a
 | _=>{ posonlyargs:=[],args:=[],vararg:=none,kwonlyargs:=[],kw_defaults:=[],kwarg:=none,defaults:=[] }
def abu (s:Stmt):List Stmt:=match s with
 | .FunctionDef _ _ b _ _ _ _ _ _ _=>b
 | _=>[]
def aak (s:Stmt):Scope:=match s with
 | .FunctionDef _ _ _ _ _ _ sc _ _ _=>sc
 | _=>{ kind:=.function,names:=[],isGenerator:=false,isCoroutine:=false }
abbrev CX0:CXT:=fun _ _ _ _ _ _=>False
abbrev E0:XK:=fun _ _ _=>False
theorem ax7 {X:Cx}:aj9 CX0 X E0:=fun _ _ _ _ _ _ _ h=>h.elim
structure Fun (K:Frag) (x qual:Str) (st:Stmt) (f:Addr) (fd:FuncData):Prop where
 ex:∃ (oc:Value) (od:Option Addr) (kV doc pm:Value) (an:Option Addr) (cdv ct:Value) (osl:Array (Option Value)),
  fd=fnOf x qual (ab0 st) (abu st) (aak st) .none kV doc pm an cdv ct/\K.lookup f=some ⟨oc,od,.func fd,osl⟩/\codeIn K cdv qual=true
 kp:keepIn K (.ref f)=true
section
variable {P:Program} {w:World} {K:Frag} {mg:Str->Option Value} {base:Heap}
theorem Fun.ok {x qual:Str} {st:Stmt} {f:Addr} {fd:FuncData} {N ps:List Str} {k:Nat} {sp:Sp} (F:Fun K x qual st f fd) (S:FnScope N ps (aak st)) (len:∀ vs H Q E,sp vs H Q E->vs.length=ps.length)
  (a:∀ (cdv:Value) (A:Around) (outer:List Env) (s:Shared) (H:Hp) (vs:List V) (Q:VK) (E:XK),Room k (A.deeper (envOfC qual (aak st) s.heap.objs.size f cdv))->sp vs H Q E ->
   ∃ t,PSs (cxOf CX0 P w K mg base N qual (aak st) f cdv A outer s H E).nox (abu st) t/\t { nx:=fun _ H'=>Q .non H',rt:=Q } (start N vs) H):FnOk P w K mg base CX0 (k+1) f fd ps sp:=by
 obtain ⟨oc,od,kV,doc,pm,an,cdv,ct,osl,rfl,g,c⟩:=F.ex
 refine ax5 g c S len fun A outer s H vs Q E d b=>?_
 obtain ⟨t,h,q⟩:=a cdv A outer s H vs Q E d b
 exact ⟨t,h.nox,q⟩
theorem Fun.binds {x qual:Str} {st:Stmt} {f:Addr} {fd:FuncData} {ps:List Str} (F:Fun K x qual st f fd)
  (h:∀ (kV doc pm:Value) (an:Option Addr) (cdv ct:Value) (us:List Value),us.length=ps.length->bindArgs (fnOf x qual (ab0 st) (abu st) (aak st) .none kV doc pm an cdv ct) ⟨us,[]⟩=pure (ps.zip us)):Binds K fd ps []:=by
 obtain ⟨oc,od,kV,doc,pm,an,cdv,ct,osl,rfl,b,a⟩:=F.ex
 exact .all (h kV doc pm an cdv ct)
theorem awl {x qual:Str} {st:Stmt} {f:Addr} {oc:Value} {od an:Option Addr} {osl:Array (Option Value)} {kV doc pm cdv ct:Value} (l:K.lookup f=some ⟨oc,od,.func (fnOf x qual (ab0 st) (abu st) (aak st) .none kV doc pm an cdv ct),osl⟩)
  (c:codeIn K cdv qual=true) (k:keepIn K (.ref f)=true):Fun K x qual st f (fnOf x qual (ab0 st) (abu st) (aak st) .none kV doc pm an cdv ct):=⟨⟨oc,od,kV,doc,pm,an,cdv,ct,osl,rfl,l,c⟩,k⟩
end
theorem ad8 {A:Around} {k:Nat} (a:Room k A):A.units+1 < cLine:=aC0 (Nat.add_le_add_left (by decide:1<=64) _) a.units
theorem ad9 {n:Nat} (h:n<=1000):n < sizeLine:=aC0 h (by decide)
section
variable {X:Cx}
theorem pv (i:Nat) {x:Str} {pos:Pos} (c:X.N[i]?=some x:=by rfl) (b:Vis X.env.scope x:=by first | exact Or.inl rfl | exact Or.inr (Or.inl rfl) | exact Or.inr (Or.inr rfl)) (hd:(x == ("__debug__" : Str))=false:=by decide)
  (a:(x == ("__classdict__" : Str))=false:=by decide):PE X (.Name x pos) (tVar i):=av7 c b hd a
end
theorem iteF {A B:Prop} (h:B):if false=true then A else B:=by
 rw [aD0 az3]
 exact h
theorem iteT {A B:Prop} (h:A):if true=true then A else B:=by
 rw [aC9 rfl]
 exact h
def Same (H H':Hp):Prop:=∀ b o,H b=some o->H' b=some o
theorem Same.refl (H:Hp):Same H H:=fun _ _ h=>h
theorem Same.trans {H d H2:Hp} (a:Same H d) (b:Same d H2):Same H H2:=fun c o h=>b c o (a c o h)
theorem Same.free {H H':Hp} (e:Same H H') {l:Addr} (h:H' l=Option.none):H l=Option.none:=by
 cases q:H l with
 | none=>rfl
 | some o =>
  rw [e l o q] at h
  cases h
theorem Same.seq {K:Frag} {H H':Hp} {a:Addr} {xs:List V} (e:Same H H') (h:SqL K H a xs):SqL K H' a xs:=by
 rcases h with (h | ⟨o,h⟩) | h
 ·exact .inl (.inl (e _ _ h))
 ·exact .inl (.inr ⟨o,e _ _ h⟩)
 ·exact .inr h
section
variable {X:Cx}
end
section
variable {κ:Type} [DecidableEq κ]
end
def clos (env:Env):List (Str × NameKind)->List (Str × Addr)->List (Str × Addr)
 | [],cs=>cs
 | (n,k) :: r,cs=>if k == NameKind.free then (match env.cells.lookup n with | some a=>clos env r ((n,a) :: cs) | none=>clos env r cs) else clos env r cs
theorem aea {env:Env} {sc:Scope} (h:∀ n,(n,NameKind.free)∈sc.names->∃ a,env.cells.lookup n=some a):closureFor sc env=pure (clos env sc.names []):=by
 have all:∀ (l:List (Str × NameKind)) (cs:List (Str × Addr)),(∀ n,(n,NameKind.free)∈l->∃ a,env.cells.lookup n=some a) ->
   (forIn l cs fun (x:Str × NameKind) (cs:List (Str × Addr))=>match x with | (name,kind)=>if kind == NameKind.free then (do let a ← cellOf env name;pure (ForInStep.yield ((name,a) :: cs))) else pure (ForInStep.yield cs))=(pure (clos env l cs):Sem _):=by
  intro l
  induction l with
  | nil=>intro cs _;rfl
  | cons p r ih =>
   intro cs c
   obtain ⟨n,k⟩:=p
   rw [List.forIn_cons]
   unfold clos
   dsimp only
   cases hk:(k == NameKind.free) with
   | false =>
    simp only [Bool.false_eq_true,if_false,pure_bind]
    exact ih cs fun m hm=>c m (az8 _ hm)
   | true =>
    have f:k=NameKind.free:=by simpa using hk
    subst f
    obtain ⟨a,ha⟩:=c n aA1
    have d:cellOf env n=pure a:=by unfold cellOf;rw [ha]
    simp only [if_true,d,pure_bind,ha]
    exact ih _ fun m hm=>c m (az8 _ hm)
 have e:=all sc.names [] h
 unfold closureFor
 refine Eq.trans (b:=(pure (clos env sc.names []):Sem _) >>= fun cs=>pure cs) ?_ (pure_bind _ _)
 exact congrArg (fun z:Sem (List (Str × Addr))=>z >>= fun cs=>pure cs) e
theorem adh {env:Env} {x:Str} {c:Addr}:∀ {l:List (Str × NameKind)} {cs:List (Str × Addr)},(clos env l cs).lookup x=some c->env.cells.lookup x=some c\/cs.lookup x=some c
 | [],cs,h => .inr h
 | (n,k) :: r,cs,h=>by
  unfold clos at h
  by_cases hk:(k == NameKind.free)=true
  ·rw [aC9 hk] at h
   cases ha:env.cells.lookup n with
   | none=>rw [ha] at h;exact adh h
   | some a =>
    rw [ha] at h
    rcases adh h with e | e
    ·exact .inl e
    ·rw [aE3] at e
     cases hx:(x == n) with
     | true =>
      rw [hx] at e
      have:x=n:=by simpa using hx
      subst this
      cases e
      exact .inl ha
     | false=>rw [hx] at e;exact .inr e
  ·rw [aD0 hk] at h
   exact adh h
theorem aeb {env:Env} {x:Str}:∀ {l:List (Str × NameKind)} {cs:List (Str × Addr)},(∃ c,cs.lookup x=some c)->∃ c,(clos env l cs).lookup x=some c
 | [],cs,h=>h
 | (n,k) :: r,cs,h=>by
  unfold clos
  by_cases hk:(k == NameKind.free)=true
  ·rw [aC9 hk]
   cases ha:env.cells.lookup n with
   | none=>exact aeb h
   | some a =>
    refine aeb ?_
    rw [aE3]
    cases hx:(x == n) with
    | true=>exact ⟨_,rfl⟩
    | false=>exact h
  ·rw [aD0 hk]
   exact aeb h
theorem aco {env:Env} {x:Str} (h:∃ a,env.cells.lookup x=some a):∀ {l:List (Str × NameKind)} {cs:List (Str × Addr)},(x,NameKind.free)∈l->∃ c,(clos env l cs).lookup x=some c
 | [],_,hm=>absurd hm (by simp)
 | (n,k) :: r,cs,hm=>by
  rcases az2.mp hm with e | hm
  ·cases e
   obtain ⟨a,ha⟩:=h
   unfold clos
   rw [aC9 (by rfl),ha]
   refine aeb ⟨a,?_⟩
   rw [aE3]
   simp
  ·unfold clos
   by_cases hk:(k == NameKind.free)=true
   ·rw [aC9 hk]
    cases ha:env.cells.lookup n with
    | none=>exact aco h hm
    | some a=>exact aco h hm
   ·rw [aD0 hk]
    exact aco h hm
theorem afi {env:Env} {x:Str}:∀ {names:List (Str × NameKind)},(∀ y∈names,y.2 ≠ .cell) ->
  ((names.map fun (n,k)=>if (k == NameKind.free && env.scope.kind == .function && env.kindOf n == some .cell) then (n,NameKind.cell) else (n,k)).lookup x=some .cell ∨
   (names.map fun (n,k)=>if (k == NameKind.free && env.scope.kind == .function && env.kindOf n == some .cell) then (n,NameKind.cell) else (n,k)).lookup x=some .free)->names.lookup x=some .free
 | [],_,h=>by rcases h with h | h <;> simp at h
 | (n,k) :: r,hc,h=>by
  have a:=@afi env x r fun y b=>hc y (az8 _ b)
  rw [aE3]
  simp only [aB4] at h
  by_cases hq:(k == NameKind.free && env.scope.kind == .function && env.kindOf n == some .cell)=true
  ·rw [aC9 hq] at h
   have c:k=NameKind.free:=by
    have:=hq;simp only [aE5] at this;simpa using this.1.1
   subst c
   cases hx:(x == n) with
   | true=>rfl
   | false=>simp only [aE3,hx] at h;exact a h
  ·rw [aD0 hq] at h
   cases hx:(x == n) with
   | true =>
    simp only [aE3,hx] at h
    rcases h with h | h
    ·cases h;exact absurd rfl (hc (n,NameKind.cell) aA1)
    ·exact h
   | false=>simp only [aE3,hx] at h;exact a h
theorem acw {env:Env} {x:Str}:∀ {names:List (Str × NameKind)},names.lookup x=some .free ->
  ((names.map fun (n,k)=>if (k == NameKind.free && env.scope.kind == .function && env.kindOf n == some .cell) then (n,NameKind.cell) else (n,k)).lookup x=some .cell ∨
   (names.map fun (n,k)=>if (k == NameKind.free && env.scope.kind == .function && env.kindOf n == some .cell) then (n,NameKind.cell) else (n,k)).lookup x=some .free)
 | [],h=>by simp at h
 | (n,k) :: r,h=>by
  have a:=@acw env x r
  rw [aE3] at h
  simp only [aB4]
  by_cases hq:(k == NameKind.free && env.scope.kind == .function && env.kindOf n == some .cell)=true
  ·rw [aC9 hq]
   cases hx:(x == n) with
   | true=>left;simp [aE3,hx]
   | false=>rw [hx] at h;simp only [aE3,hx];exact a h
  ·rw [aD0 hq]
   cases hx:(x == n) with
   | true=>rw [hx] at h;right;simp only [aE3,hx];exact h
   | false=>rw [hx] at h;simp only [aE3,hx];exact a h
def Cx.comp (X:Cx) (N:List Str) (sc:Scope) (C:Addr) (s0:Shared) (H0:Hp) (ex:List Addr):Cx where
 prog:=X.prog
 w:=X.w
 K:=X.K
 mg:=X.mg
 base:=X.base
 A:=X.A
 N:=N
 s₀:=s0
 H₀:=H0
 env:=compEnvC sc (clos X.env sc.names []) C X.env
 outer:=X.stack
 stack:=X.stack
 ex:=ex
 fn:=fun _=>false
 calm:=X.calm
 pn:=[]
 xe:=fun _ _=>False
def pick (src:List (Option Nat)) (σ:St):St:=src.map fun o=>match o with | some j=>(σ[j]?).getD none | none=>none
structure LcOk (X:Cx) (N:List Str) (sc:Scope) (src:List (Option Nat)):Prop where
 kind:sc.kind=.function
 nocell:∀ y∈sc.names,y.2 ≠ .cell
 own:∀ y∈sc.names,y.2=.local->sc.names.lookup y.1=some .local
 outs:∀ y∈sc.names,y.2=.free->X.env.kindOf y.1=some .cell\/X.env.kindOf y.1=some .free
 len:src.length=N.length
 from':∀ (i j:Nat),src[i]?=some (some j)->∃ x,N[i]?=some x/\X.N[j]?=some x/\sc.names.lookup x=some .free
theorem LcOk.clo {X:Cx} {N:List Str} {sc:Scope} {src:List (Option Nat)} (L:LcOk X N sc src) (ok:X.Ok):closureFor sc X.env=pure (clos X.env sc.names []) :=
 aea fun n hn=>ok.has n (L.outs (n,.free) hn rfl)
theorem akl {X:Cx} {pins:List (Addr × Obj)} {σ:St} {H:Hp} {s:Shared} {N:List Str} {sc:Scope} {src:List (Option Nat)} {fp:List Addr} {n:Heap} {t':Nat}
  (L:LcOk X N sc src) (I:Inv X pins σ H s) (hf:∀ b∈fp,FpOk X pins H b) (g:∀ b∈fp,b < s.heap.objs.size)
  (hn:n.Ns s.heap.objs.size fun _=>none) (f:∀ b o,s.heap.get? b=some o->n.get? b=some o) :
  Inv (X.comp N sc s.heap.objs.size s H fp) [] (pick src σ) H { s with heap:=n,toks:=t' }:=by
 have look:∀ {x c},(clos X.env sc.names []).lookup x=some c->X.env.cells.lookup x=some c:=fun {x c} e=>by
  rcases adh e with z | z
  ·exact z
  ·simp at z
 refine ⟨⟨I.ok.mod,L.kind,I.ok.glob,I.ok.blt,az0 _,fun x y c B a=>?_,fun x M=>?_,fun x c z _=>?_,I.ok.hd,I.ok.frames,.inl rfl,fun b hb=>⟨?_,fun x c e=>?_⟩,I.bs,aB3 I.ok.bsz I.sz,fun b o e hb=>?_,fun b hb z=>?_,I.stack,I.stkFree⟩,
  rfl,I.bare,Un.kept f,⟨_,hn,fun i x v B a P=>?_⟩,fun x c e=>?_,I.hok.fresh (az0 _),fun x c e=>I.freeC x c (look e),fun p G=>?_,I.hok.kept f,?_⟩
 ·exact I.ok.inj x y c (look B) (look a)
 ·have q:=afi (env:=X.env) (x:=x) L.nocell M
  exact aco (I.ok.has x (L.outs (x,.free) (PySem.mem_of_lookup q) rfl)) (PySem.mem_of_lookup q)
 ·exact Bool.noConfusion z
 ·exact az9 (g b hb)
 ·exact (hf b hb).2.2.2.2.1 x c (look e)
 ·rcases (hf b hb).2.2.2.1 with z | z
  ·exact I.ok.noex b o e z
  ·exact absurd (aA8 (aG4 e) (aB3 I.ok.bsz z)) (aD8 _)
 ·rcases az2.mp (I.stkSub b z) with q | q
  ·exact (hf b hb).2.1 q
  ·exact (hf b hb).2.2.1 q
 ·unfold pick at a
  rw [ay9] at a
  cases q:src[i]? with
  | none=>rw [q] at a;cases a
  | some o =>
   rw [q] at a
   cases o with
   | none=>cases a
   | some j =>
    obtain ⟨y,C,K,h⟩:=L.from' i j q
    have w:N[i]?=some x:=B
    rw [w] at C
    cases C
    have J : σ[j]?=some (some v):=by
     cases q2 : σ[j]? with
     | none=>simp [q2] at a
     | some z=>simp [q2] at a;rw [a]
    have g:=L.outs (x,.free) (PySem.mem_of_lookup h) rfl
    have A:Vis X.env.scope x:=by
     rcases g with z | z
     ·exact .inr (.inl z)
     ·exact .inr (.inr z)
    obtain ⟨m,_,O⟩:=I.loc
    obtain ⟨u,r,l⟩:=O j x v K J A
    refine ⟨u,r,.inr ⟨?_,?_⟩⟩
    ·exact acw (env:=X.env) h
    ·rcases l with ⟨z,_⟩ | ⟨_,c,D,oc,d,hd⟩
     ·rcases g with F | F <;> (rw [F] at z;cases z)
     ·obtain ⟨Q,E⟩:=aco (env:=X.env) ⟨c,D⟩ (PySem.mem_of_lookup h) (cs:=[])
      have:=look E
      rw [D] at this;cases this
      exact ⟨c,E,oc,f c oc d,hd⟩
 ·obtain ⟨v,oc,d,hd⟩:=I.cell x c (look e)
  exact ⟨v,oc,f c oc d,hd⟩
 ·exact absurd (show p∈([]:List (Addr × Obj)) from G) (by simp)
 ·show (pick src σ).length=N.length
  unfold pick
  rw [ay7]
  exact L.len
def PIf (X:Cx) (ifs:List Expr) (t:TT):Prop :=
 ∀ (pins:List (Addr × Obj)) (s:Shared) (σ:St) (H:Hp) (Q:Bool->Hp->Prop),Inv X pins σ H s->t σ H Q ->
  wpAny (model X.prog X.w) X.A (forIn ifs true fun c r=>if r=true then do let ok ← isTrue c X.env (eval c X.env);pure (ForInStep.yield ok) else pure (ForInStep.yield r)) (TP X pins σ Q) X.xe s
def tYes:TT:=fun _ H Q=>Q true H
theorem ab1 {X:Cx}:PIf X [] tYes:=fun _ _ _ H _ I h=>wpAny_tests_nil ⟨H,I,h⟩
theorem amn {X:Cx} {c:Expr} {t:TT} (h:PT X c t):PIf X [c] t:=fun pins s σ H Q I q=>wpAny_tests_one (h pins s σ H Q I q)
abbrev LW:=Nat->Nat->List V->St->Hp->Prop
def ag0 (J:It) (g:TG) (tif:TT) (te:TE) (acc:Addr) (Qd:List V->Hp->Prop) (W:LW):Prop:=∀ (i m:Nat) (ys:List V) (σ:St) (H:Hp),W i m ys σ H->H acc=some (.lst ys)/\((J.stop i H/\Qd ys H)\/(J.go i H /\
 ∃ Nx:List V->St->Hp->Prop,(∀ ys' σ' H',Nx ys' σ' H'->∃ m',m' < m/\W (i+1) m' ys' σ' H')/\∀ x H2,J.yld i H x H2 ->
 g x σ H2 fun σ3 H3=>tif σ3 H3 fun b H4=>if b=true then te σ3 H4 fun y H5=>H5 acc=some (.lst ys)/\ys.length < sizeLine/\Nx (ys ++ [y]) σ3 (upd H5 acc (.lst (ys ++ [y]))) else Nx ys σ3 H4))
theorem aio {X:Cx} {tg iter v:Expr} {D:List Expr} {sc:Scope} {pos:Pos} {J:It} {fp:List Addr} {it:Addr} {tn:Nat->Heap->Prop} {g:TG} {L:TT} {te:TE} {a:Addr} {Qd:List V->Hp->Prop} {W:LW} {R:Result->Shared->Prop}
  (T:Turn X.prog X.w X.K tg J fp it tn) (hc:X.calm=true) (l:∀ e s,¬ X.xe e s) (hg:PG X tg g) (a1:PIf X D L) (he:PE X v te)
  (N:ag0 J g L te a Qd W) (hR:∀ ys σ H s,Inv X [] σ H s->Qd ys H->R (.ok .next) s)
  {i m:Nat} {ys:List V} {σ:St} {H:Hp} {s:Shared} (I:Inv X [] σ H s) (st:tn i s.heap) (hf:∀ b∈fp,FpOk X [] H b) (w:W i m ys σ H) :
  codeAny (model X.prog X.w) X.A (.compLoop (.ListComp v [⟨tg,iter,D,0⟩] sc pos) 0 (.ref it) (.ref a) X.env) R s:=by
 have h:∀ {H':Hp},(∀ b∈fp,H' b=none)->∀ b∈fp,FpOk X [] H' b:=fun hn b hb=>⟨hn b hb,(hf b hb).2⟩
 refine codeAny_loop rfl (fun n j=>∃ i ys c H',Inv X [] c H' j/\tn i j.heap/\(∀ b∈fp,H' b=none)/\W i n ys c H') ?_ m ⟨i,ys,σ,H,I,st,fun b hb=>(hf b hb).1,w⟩
 rintro n s1 ⟨i,ys,f,Q,I1,O,F,w1⟩
 show wpAny _ X.A ((compTurn (.ListComp v [⟨tg,iter,D,0⟩] sc pos) 0 (.ref it) (.ref a) X.env).onRaise (fun x=>do noteFrame x X.env;theTreesLotGoes x)) _ _ s1
 refine wpAny_noted ?_
 rw [compTurn_list]
 refine aG1 (wpAny_standAt (aG1 ?_))
 obtain ⟨a3,⟨stop,qd⟩ | ⟨go,Nx,M,step⟩⟩:=N i n ys f Q w1
 ·refine thn (T.done X rfl rfl rfl hc i [] s1 f Q _ I1 (h F) O stop) fun r s2 ⟨hr,I2⟩=>?_
  subst hr
  exact aG2 (hR ys f Q s2 I2 qd)
 ·refine thn (T.item X rfl rfl rfl hc i [] s1 f Q _ I1 (h F) O go) fun r s2 ⟨u,hr,h2⟩=>?_
  subst hr
  refine aG1 (thn h2 fun _ s3 ⟨x,H3,I3,r3,y3,C,a0⟩=>?_)
  have a2:=I3.pinned (h a0) (T.obj _ _ C)
  refine aG1 (aG8 (hg _ s3 f H3 x u _ a2 r3 (step x H3 y3)) (fun _ s4 ⟨B,H4,I4,q4⟩=>?_) fun e j z=>(l e j z).elim)
  have q:∀ {p:St} {E:Hp} {P:Shared} {Y:List V},Inv X ([] ++ ad1 fp s3.heap) p E P->(∃ S,S < n/\W (i+1) S Y p E)->∃ m,m < n/\∃ i ys c H',Inv X [] c H' P/\tn i P.heap/\(∀ b∈fp,H' b=none)/\W i m ys c H':=fun {p E P Y} G Z=>by
   obtain ⟨S,hm,Z⟩:=Z
   refine ⟨S,hm,i+1,Y,p,E,G.unpinned,T.keep _ _ _ C fun b hb o e=>(G.pin (b,o) (az6 _ (az6 _ (abw hb e)))).1,fun b hb=>?_,Z⟩
   obtain ⟨o,e,d⟩:=T.obj _ _ C b hb
   exact (G.pin (b,o) (az6 _ (az6 _ (abw hb e)))).2.1
  refine aG1 (aG8 (a1 _ s4 B H4 _ I4 q4) (fun b s5 ⟨H5,I5,U⟩=>?_) fun e j z=>(l e j z).elim)
  cases b with
  | false =>
   rw [aD0 az3] at U
   exact aG2 ⟨rfl,q I5 (M _ _ _ U)⟩
  | true =>
   rw [aC9 rfl] at U
   refine aG1 (aG1 (aG8 (he _ s5 B H5 _ I5 U) (fun yv s6 ⟨y,H6,I6,r6,a6,l6,w6⟩=>?_) fun e j z=>(l e j z).elim))
   have ap:=aa5 (X:=X) _ s6 B H6 (.ref a) [y] (.ref a) [yv] (fun _ H'=>H'=upd H6 a (.lst (ys ++ [y]))) I6 rfl (.cons r6 .nil) ⟨a,ys,y,rfl,rfl,a6,l6,rfl⟩
   refine aG1 (aG8 ap (fun _ P ⟨v7,E,G,_,e7⟩=>?_) fun e j z=>(l e j z).elim)
   subst e7
   exact aG2 (aG2 ⟨rfl,q G (M _ _ _ w6)⟩)
def tLC (src:List (Option Nat)) (wi:TI) (g:TG) (tif:TT) (te:TE):TE:=fun σ H Q=>wi σ H fun J H1=>∀ acc,H1 acc=none->∃ W:LW,(∃ m,W 0 m [] (pick src σ) (upd H1 acc (.lst [])))/\ag0 J g tif te acc (fun _ H'=>Q (.ref acc) H') W
section
variable {X:Cx} {N:List Str} {tg iter elt:Expr} {ifs:List Expr} {sc:Scope} {src:List (Option Nat)} {wi:TI} {g:TG} {tif:TT} {te:TE} {pos:Pos}
theorem atx (hc:X.calm=true) (L:LcOk X N sc src) (Y:∀ C u r ex,PG (X.comp N sc C u r ex) tg g) (R:∀ C u r ex,PIf (X.comp N sc C u r ex) ifs tif) (he:∀ C u r ex,PE (X.comp N sc C u r ex) elt te)
  {pins:List (Addr × Obj)} {d:Shared} {σ:St} {H3:Hp} {Q:VK} (l:Inv X pins σ H3 d) {it a:Addr} {fp:List Addr} {J:It} {tn:Nat->Heap->Prop} (T:Turn X.prog X.w X.K tg J fp it tn) (q:tn 0 d.heap) (i:∀ b∈fp,FpOk X pins H3 b)
  {W:LW} {U:Nat} (w0:W 0 U [] (pick src σ) H3) (B:ag0 J g tif te a (fun _ H'=>Q (.ref a) H') W) (use:Option (Value->Sem Unit)) (P:Value->Shared->Prop)
  (hP:∀ C H' f m,Inv X pins σ H' f->Q (.ref a) H'->f.heap.Ns C m->H' C=none->C ≠ X.env.locals->(C∈X.ex\/X.s₀.heap.objs.size<=C)->(∀ x c,X.env.cells.lookup x=some c->c ≠ C)->(∀ p∈X.pn ++ pins,p.1 ≠ C) ->
   compPost (model X.prog X.w) X.A X.xe use P (.ref a) C (.ok .next) f) :
  wpAny (model X.prog X.w) X.A (newFunctionEnv sc X.env.globals (clos X.env sc.names []) [] X.env.qual none .none (some X.env)) (fun h D =>
    codeAny (model X.prog X.w) X.A (.compStart (.ListComp elt [⟨tg,iter,ifs,0⟩] sc pos) 0 (.ref it) (.ref a) { h with scope:=relabel sc X.env }) (compPost (model X.prog X.w) X.A X.xe use P (.ref a) h.locals) D) X.xe d:=by
 refine wpAny_newFunctionEnv L.nocell (by intro y hy;simp at hy) (fun S n F=>?_) L.kind
 have M:∀ b∈fp,b < d.heap.objs.size:=fun b hb=>by
  obtain ⟨o,O,_⟩:=T.obj _ _ q b hb
  exact aG4 O
 have G:∀ b o,d.heap.get? b=some o->S.get? b=some o:=fun b o e=>F.extBut b o (az9 (aG4 e)) (aG3 _ e)
 have H:=akl (t':=d.toks+([]:List (Str × Value)).length) L l i M (by simpa using n) G
 have E:tn 0 S:=T.keep _ _ _ q fun b _ o e=>G b o e
 have Z:∀ b∈fp,FpOk (X.comp N sc d.heap.objs.size d H3 fp) [] H3 b:=fun b hb =>
  ⟨(i b hb).1,(H.ok.exf b hb).1,H.ok.exfs b hb,.inl hb,(H.ok.exf b hb).2,fun p I=>absurd (show p∈([]:List (Addr × Obj)) from I) (by simp)⟩
 have fin:∀ (ys:List V) s H' f,Inv (X.comp N sc d.heap.objs.size d H3 fp) [] s H' f->Q (.ref a) H'->compPost (model X.prog X.w) X.A X.xe use P (.ref a) d.heap.objs.size (.ok .next) f:=fun ys s H' f j q'=>by
  have Jo:Inv X pins σ H' f:=l.call' (ch:=fp) j.os j.base j.hok j.bare fun b hb=>⟨(i b hb).2.2.2.1,(i b hb).2.1,(i b hb).2.2.2.2.1,(i b hb).2.2.2.2.2⟩
  obtain ⟨m,hn,_⟩:=j.loc
  refine hP _ H' f m Jo q' hn j.free (Nat.ne_of_gt l.lt) (.inr l.sz) (fun x c e z=>?_) fun p I z=>?_
  ·obtain ⟨v,o,O,_⟩:=l.cell x c e
   exact absurd (aG4 O) (by rw [z];exact aD8 _)
  ·exact absurd (aG4 (l.pin p I).1) (by rw [z];exact aD8 _)
 have loop:codeAny (model X.prog X.w) X.A (.compLoop (.ListComp elt [⟨tg,iter,ifs,0⟩] sc pos) 0 (.ref it) (.ref a) (X.comp N sc d.heap.objs.size d H3 fp).env)
   (compPost (model X.prog X.w) X.A X.xe use P (.ref a) d.heap.objs.size) { d with heap:=S,toks:=d.toks+([]:List (Str × Value)).length } :=
  aio (X:=X.comp N sc d.heap.objs.size d H3 fp) T hc (fun _ _ z=>z) (Y _ _ _ _) (R _ _ _ _) (he _ _ _ _) B fin H E Z w0
 exact codeAny_compStart_list loop (T.self _ 0 _ _ _ E loop)
theorem akm (O:X.calm=true) (L:LcOk X N sc src) (hi:PI X tg iter wi) (M:∀ C f a ex,PG (X.comp N sc C f a ex) tg g) (n:∀ C f a ex,PIf (X.comp N sc C f a ex) ifs tif) (G:∀ C f a ex,PE (X.comp N sc C f a ex) elt te)
  {pins:List (Addr × Obj)} {s:Shared} {σ:St} {H:Hp} {Q:VK} (I:Inv X pins σ H s) (h:tLC src wi g tif te σ H Q) (use:Option (Value->Sem Unit)) (P:Value->Shared->Prop)
  (B:∀ i C H' r m,Inv X pins σ H' r->Q (.ref i) H'->r.heap.Ns C m->H' C=none->C ≠ X.env.locals->(C∈X.ex\/X.s₀.heap.objs.size<=C)->(∀ x c,X.env.cells.lookup x=some c->c ≠ C)->(∀ p∈X.pn ++ pins,p.1 ≠ C) ->
   compPost (model X.prog X.w) X.A X.xe use P (.ref i) C (.ok .next) r)
  (F:∀ x,foldedSetIterable iter X.env x=pure x) :
  wpAny (model X.prog X.w) X.A (comprehension (.ListComp elt [⟨tg,iter,ifs,0⟩] sc pos) sc X.env (firstIterPos [⟨tg,iter,ifs,0⟩] pos) (newList []) false (eval iter X.env) use) P X.xe s:=by
 refine wpAny_comprehension_free rfl F (L.clo I.ok) L.kind L.own (thn (hi pins s σ H _ I h) fun v s1 E=>thn E fun R s2 K=>?_)
 obtain ⟨it,fp,tn,J,H2,e,y,T,l,z,D⟩:=K
 subst e
 have d:H2 s2.heap.objs.size=none:=y.hok.fresh (az0 _)
 obtain ⟨W,⟨Y,S⟩,j⟩:=D s2.heap.objs.size d
 have q:∀ b∈fp,b < s2.heap.objs.size:=fun b hb=>by
  obtain ⟨o,U,_⟩:=T.obj _ _ l b hb
  exact aG4 U
 refine aG9 ?_
 refine atx O L M n G (H3:=upd H2 s2.heap.objs.size (.lst [])) ?_ T ?_ ?_ S j use P (B _)
 ·exact y.laid (t':=s2.toks) (fun b u e=>aG3 _ e) (az0 _) ⟨aD4 _,[],0,.nil,aG5 _ rfl⟩
 ·exact T.keep _ _ _ l fun b _ o e=>aG3 _ e
 ·exact fun b hb=>⟨by rw [aag (az9 (q b hb))];exact (z b hb).1,(z b hb).2⟩
theorem aex (u:X.calm=true) (L:LcOk X N sc src) (hi:PI X tg iter wi) (p:∀ C c a ex,PG (X.comp N sc C c a ex) tg g) (d:∀ C c a ex,PIf (X.comp N sc C c a ex) ifs tif) (n:∀ C c a ex,PE (X.comp N sc C c a ex) elt te)
  (l:∀ x,foldedSetIterable iter X.env x=pure x:=by intro _;rfl):PE X (.ListComp elt [⟨tg,iter,ifs,0⟩] sc pos) (tLC src wi g tif te):=by
 intro pins s σ H Q I h
 rw [eval_ListComp]
 refine akm u L hi p d n I h none _ (fun f C H' y m J q hn w r v i j=>?_) l
 refine ⟨m,hn,fun h' sb=>⟨.ref f,H',?_,rfl,q⟩⟩
 exact J.turned (t':=y.toks) (fun b o hb e=>sb.extBut b o hb e) w r v i j
end
section
variable {X:Cx} {N:List Str} {tg iter elt:Expr} {ifs:List Expr} {sc:Scope} {src:List (Option Nat)} {wi:TI} {g:TG} {tif:TT} {te:TE} {pos spos px:Pos}
theorem agf {i:Nat} {x:Str} (M:X.N.Nodup) (u:X.N[i]?=some x) (Q:Loc X.env.scope x) (P:X.calm=true) (L:LcOk X N sc src) (hi:PI X tg iter wi) (O:∀ C d c ex,PG (X.comp N sc C d c ex) tg g)
  (l:∀ C d c ex,PIf (X.comp N sc C d c ex) ifs tif) (G:∀ C d c ex,PE (X.comp N sc C d c ex) elt te)
  (w:swapsWith (.ListComp elt [⟨tg,iter,ifs,0⟩] sc pos) (some (.Name x px)) spos.line X.env=pure true:=by rfl)
  (hf:X.fn x=true\/X.env.scope.names.lookup x=some .local:=by first | exact .inl rfl | exact .inr rfl | assumption)
  (F:∀ x,foldedSetIterable iter X.env x=pure x:=by intro _;rfl):PS X (.Assign [.Name x px] (.ListComp elt [⟨tg,iter,ifs,0⟩] sc pos) spos) (tAsg (tLC src wi g tif te) (aay i)):=by
 intro pins s σ H D I h
 rw [exec_Assign_Name_used _ _ _ _ w]
 refine aG1 (wpAny_standAt (aG1 ?_))
 show wpAny _ X.A (do let _ ← comprehension (.ListComp elt [⟨tg,iter,ifs,0⟩] sc pos) sc X.env _ (newList []) false (eval iter X.env) (some (assign (.Name x px) X.env))) _ _ s
 refine aG1 (aG8 (akm P L hi O l G I h (some (assign (.Name x px) X.env)) (fun _ y=>SP X pins D .next y) (fun f C H' y m J q hn R B r j E=>?_) F) (fun _ y K=>aG2 (aG2 K)) fun _ _ e=>e)
 show wpAny _ X.A (assign (.Name x px) X.env (.ref f)) _ _ _
 refine wpAny_assign_Name (afb J M u Q (v:=.ref f) rfl (fun s2 S ⟨a,sb,ha⟩=>?_) hf)
 have p:C ≠ a:=by
  rcases ha with z | z
  ·rw [z];exact B
  ·exact (j x a z).symm
 refine ⟨m,hn.sameBut sb p,fun h' n=>⟨_,H',?_,q⟩⟩
 exact S.turned (t':=s2.toks) (fun b o hb e=>n.extBut b o hb e) R B r j E
end
section
variable {g:TG} {tif:TT} {te:TE} {acc:Addr} {Qd:List V->Hp->Prop} {σ0:St} {H0:Hp}
end
def amo (J:It) (g:TG) (tif:TT) (te:TE) (acc:Addr) (Qd:List V->St->Hp->Prop) (W:LW):Prop:=∀ (i m:Nat) (ys:List V) (σ:St) (H:Hp),W i m ys σ H->H acc=some (.lst ys)/\((J.stop i H/\Qd ys σ H)\/(J.go i H /\
 ∃ Nx:List V->St->Hp->Prop,(∀ ys' σ' H',Nx ys' σ' H'->∃ m',m' < m/\W (i+1) m' ys' σ' H')/\∀ x H2,J.yld i H x H2 ->
 g x σ H2 fun σ3 H3=>tif σ3 H3 fun b H4=>if b=true then te σ3 H4 fun y H5=>H5 acc=some (.lst ys)/\ys.length < sizeLine/\Nx (ys ++ [y]) σ3 (upd H5 acc (.lst (ys ++ [y]))) else Nx ys σ3 H4))
def ahw (J:It) (g:TG) (tif:TT) (wi2:TI) (g2:TG) (tif2:TT) (te:TE) (acc:Addr) (Qd:List V->Hp->Prop) (W:LW):Prop:=∀ (i m:Nat) (ys:List V) (σ:St) (H:Hp),W i m ys σ H->((J.stop i H/\Qd ys H)\/(J.go i H /\
 ∃ Nx:List V->St->Hp->Prop,(∀ ys' σ' H',Nx ys' σ' H'->∃ m',m' < m/\W (i+1) m' ys' σ' H')/\∀ x H2,J.yld i H x H2 ->
 g x σ H2 fun σ3 H3=>tif σ3 H3 fun b H4=>if b=true then wi2 σ3 H4 fun J2 H5=>∃ W2:LW,(∃ m2,W2 0 m2 ys σ3 H5)/\amo J2 g2 tif2 te acc Nx W2 else Nx ys σ3 H4))
theorem ai7 (b t1 i1 f d:Expr) (f1 g:List Expr) (sc:Scope) (pos:Pos) (it a:Value) (env:Env) :
  compTurn (.ListComp b [⟨t1,i1,f1,0⟩,⟨f,d,g,0⟩] sc pos) 0 it a env=(do
   standAt i1.pos
   match ← pyNext it with
   | none=>pure (.done .next)
   | some v =>
    letOwnedTupleGo t1 it v
    assign t1 env v
    let mut ok:=true
    for c in f1 do
     if ok then ok ← isTrue c env (eval c env)
    if ok then
     let x ← eval d env
     standAt d.pos
     let x ← foldedSetIterable d env x
     let _ ← runOwn (.compStart (.ListComp b [⟨t1,i1,f1,0⟩,⟨f,d,g,0⟩] sc pos) 1 (← holding [x] (pyIter x)) a env) env
    again (.compLoop (.ListComp b [⟨t1,i1,f1,0⟩,⟨f,d,g,0⟩] sc pos) 0 it a env)):=by rfl
theorem ai8 (b t1 i1 d f:Expr) (f1 g:List Expr) (sc:Scope) (pos:Pos) (it a:Value) (env:Env) :
  compTurn (.ListComp b [⟨t1,i1,f1,0⟩,⟨d,f,g,0⟩] sc pos) 1 it a env=(do
   standAt f.pos
   match ← pyNext it with
   | none=>pure (.done .next)
   | some v =>
    letOwnedTupleGo d it v
    assign d env v
    let mut ok:=true
    for c in g do
     if ok then ok ← isTrue c env (eval c env)
    if ok then
     (do let _ ← call (.builtin "list.append") [a,← eval b env])
    again (.compLoop (.ListComp b [⟨t1,i1,f1,0⟩,⟨d,f,g,0⟩] sc pos) 1 it a env)):=by rfl
theorem ao3 {prog:Program} {w:World} {A:Around} {R:Result->Shared->Prop} {s:Shared} {b t1 i1 i g:Expr} {f1 j:List Expr} {sc:Scope} {pos:Pos} {it c:Value} {env:Env}
  (l:codeAny (model prog w) A (.compLoop (.ListComp b [⟨t1,i1,f1,0⟩,⟨i,g,j,0⟩] sc pos) 1 it c env) R s)
  (h:wpAny (model prog w) A (pyIter it) (fun a d=>codeAny (model prog w) A (.compLoop (.ListComp b [⟨t1,i1,f1,0⟩,⟨i,g,j,0⟩] sc pos) 1 a c env) R d) (notedBy (model prog w) A env fun x d=>R (.error x) d) s) :
  codeAny (model prog w) A (.compStart (.ListComp b [⟨t1,i1,f1,0⟩,⟨i,g,j,0⟩] sc pos) 1 it c env) R s:=by
 refine codeAny_of_tree ?_
 show wpAny _ _ ((compStart (.ListComp b [⟨t1,i1,f1,0⟩,⟨i,g,j,0⟩] sc pos) 1 it c env).onRaise (fun x=>do noteFrame x env;standAt theWindowsPlace)) _ _ s
 refine wpAny_notedAt ?_
 unfold compStart
 show wpAny _ _ (ask >>= _) _ _ s
 apply aG1;apply wpAny_askSetting;apply wpAny_ite;split
 ·first | exact aG1 (aG2 (aG2 ⟨rfl,l⟩)) | exact aG2 ⟨rfl,l⟩
 ·have q:wpAny (model prog w) A (pyIter it >>= fun a=>again (.compLoop (.ListComp b [⟨t1,i1,f1,0⟩,⟨i,g,j,0⟩] sc pos) 1 a c env)) (fun fin d=>match fin with | .done f=>R (.ok f) d | .again c'=>c'.quiet=true/\codeAny (model prog w) A c' R d) (notedBy (model prog w) A env fun x d=>R (.error x) d) s :=
   aG1 (aG8 h (fun a d h'=>aG2 ⟨rfl,h'⟩) fun _ _ x=>x)
  first
   | exact aG1 (wpAny_rule (aG1 (wpAny_standAt (aG1 (aG8 h (fun a d h'=>aG2 ⟨rfl,h'⟩) fun _ _ x=>x)))))
   | (apply aG1;apply wpAny_rule;show wpAny _ _ (standAt g.pos >>= _) _ _ s;exact aG1 (wpAny_standAt (aG1 (aG8 h (fun a d h'=>aG2 ⟨rfl,h'⟩) fun _ _ x=>x))))
theorem anp {X:Cx} {v t1 i1 tg iter:Expr} {f1 D:List Expr} {sc:Scope} {pos:Pos} {J:It} {fp:List Addr} {it:Addr} {tn:Nat->Heap->Prop} {g:TG} {L:TT} {te:TE} {a:Addr} {Qd:List V->St->Hp->Prop} {W:LW} {R:Result->Shared->Prop} {pins:List (Addr × Obj)}
  (T:Turn X.prog X.w X.K tg J fp it tn) (hc:X.calm=true) (l:∀ e s,¬ X.xe e s) (hg:PG X tg g) (a1:PIf X D L) (he:PE X v te)
  (N:amo J g L te a Qd W) (hR:∀ ys σ H s,Inv X pins σ H s->Qd ys σ H->R (.ok .next) s)
  {i m:Nat} {ys:List V} {σ:St} {H:Hp} {s:Shared} (I:Inv X pins σ H s) (st:tn i s.heap) (hf:∀ b∈fp,FpOk X pins H b) (w:W i m ys σ H) :
  codeAny (model X.prog X.w) X.A (.compLoop (.ListComp v [⟨t1,i1,f1,0⟩,⟨tg,iter,D,0⟩] sc pos) 1 (.ref it) (.ref a) X.env) R s:=by
 have h:∀ {H':Hp},(∀ b∈fp,H' b=none)->∀ b∈fp,FpOk X pins H' b:=fun hn b hb=>⟨hn b hb,(hf b hb).2⟩
 refine codeAny_loop rfl (fun n j=>∃ i ys c H',Inv X pins c H' j/\tn i j.heap/\(∀ b∈fp,H' b=none)/\W i n ys c H') ?_ m ⟨i,ys,σ,H,I,st,fun b hb=>(hf b hb).1,w⟩
 rintro n s1 ⟨i,ys,f,Q,I1,O,F,w1⟩
 show wpAny _ X.A ((compTurn (.ListComp v [⟨t1,i1,f1,0⟩,⟨tg,iter,D,0⟩] sc pos) 1 (.ref it) (.ref a) X.env).onRaise (fun x=>do noteFrame x X.env;theTreesLotGoes x)) _ _ s1
 refine wpAny_noted ?_
 rw [ai8]
 refine aG1 (wpAny_standAt (aG1 ?_))
 obtain ⟨a3,⟨stop,qd⟩ | ⟨go,Nx,M,step⟩⟩:=N i n ys f Q w1
 ·refine thn (T.done X rfl rfl rfl hc i pins s1 f Q _ I1 (h F) O stop) fun r s2 ⟨hr,I2⟩=>?_
  subst hr
  exact aG2 (hR ys f Q s2 I2 qd)
 ·refine thn (T.item X rfl rfl rfl hc i pins s1 f Q _ I1 (h F) O go) fun r s2 ⟨u,hr,h2⟩=>?_
  subst hr
  refine aG1 (thn h2 fun _ s3 ⟨x,H3,I3,r3,y3,C,a0⟩=>?_)
  have a2:=I3.pinned (h a0) (T.obj _ _ C)
  refine aG1 (aG8 (hg _ s3 f H3 x u _ a2 r3 (step x H3 y3)) (fun _ s4 ⟨B,H4,I4,q4⟩=>?_) fun e j z=>(l e j z).elim)
  have q:∀ {p:St} {E:Hp} {P:Shared} {Y:List V},Inv X (pins ++ ad1 fp s3.heap) p E P->(∃ S,S < n/\W (i+1) S Y p E)->∃ m,m < n/\∃ i ys c H',Inv X pins c H' P/\tn i P.heap/\(∀ b∈fp,H' b=none)/\W i m ys c H':=fun {p E P Y} G Z=>by
   obtain ⟨S,hm,Z⟩:=Z
   refine ⟨S,hm,i+1,Y,p,E,G.unpinned,T.keep _ _ _ C fun b hb o e=>(G.pin (b,o) (az6 _ (az6 _ (abw hb e)))).1,fun b hb=>?_,Z⟩
   obtain ⟨o,e,d⟩:=T.obj _ _ C b hb
   exact (G.pin (b,o) (az6 _ (az6 _ (abw hb e)))).2.1
  refine aG1 (aG8 (a1 _ s4 B H4 _ I4 q4) (fun b s5 ⟨H5,I5,U⟩=>?_) fun e j z=>(l e j z).elim)
  cases b with
  | false =>
   rw [aD0 az3] at U
   exact aG2 ⟨rfl,q I5 (M _ _ _ U)⟩
  | true =>
   rw [aC9 rfl] at U
   refine aG1 (aG1 (aG8 (he _ s5 B H5 _ I5 U) (fun yv s6 ⟨y,H6,I6,r6,a6,l6,w6⟩=>?_) fun e j z=>(l e j z).elim))
   have ap:=aa5 (X:=X) _ s6 B H6 (.ref a) [y] (.ref a) [yv] (fun _ H'=>H'=upd H6 a (.lst (ys ++ [y]))) I6 rfl (.cons r6 .nil) ⟨a,ys,y,rfl,rfl,a6,l6,rfl⟩
   refine aG1 (aG8 ap (fun _ P ⟨v7,E,G,_,e7⟩=>?_) fun e j z=>(l e j z).elim)
   subst e7
   exact aG2 (aG2 ⟨rfl,q G (M _ _ _ w6)⟩)
theorem anq {X:Cx} {B t1 i1 t2 N:Expr} {f1 f2:List Expr} {sc:Scope} {pos:Pos} {J:It} {fp:List Addr} {it:Addr} {tn:Nat->Heap->Prop} {g:TG} {P:TT} {S:TI} {g2:TG} {y:TT} {te:TE} {C:Addr} {Qd:List V->Hp->Prop} {W:LW} {R:Result->Shared->Prop}
  (T:Turn X.prog X.w X.K t1 J fp it tn) (hc:X.calm=true) (l:∀ e s,¬ X.xe e s) (hg:PG X t1 g) (a5:PIf X f1 P) (a4:PI X t2 N S) (a0:PG X t2 g2) (O:PIf X f2 y) (he:PE X B te)
  (a2:∀ x,foldedSetIterable N X.env x=pure x)
  (U:ahw J g P S g2 y te C Qd W) (hR:∀ ys σ H s,Inv X [] σ H s->Qd ys H->R (.ok .next) s)
  {i m:Nat} {ys:List V} {σ:St} {H:Hp} {s:Shared} (I:Inv X [] σ H s) (st:tn i s.heap) (hf:∀ b∈fp,FpOk X [] H b) (w:W i m ys σ H) :
  codeAny (model X.prog X.w) X.A (.compLoop (.ListComp B [⟨t1,i1,f1,0⟩,⟨t2,N,f2,0⟩] sc pos) 0 (.ref it) (.ref C) X.env) R s:=by
 have p:∀ {H':Hp},(∀ b∈fp,H' b=none)->∀ b∈fp,FpOk X [] H' b:=fun hn b hb=>⟨hn b hb,(hf b hb).2⟩
 refine codeAny_loop rfl (fun n c=>∃ i ys a H',Inv X [] a H' c/\tn i c.heap/\(∀ b∈fp,H' b=none)/\W i n ys a H') ?_ m ⟨i,ys,σ,H,I,st,fun b hb=>(hf b hb).1,w⟩
 rintro n s1 ⟨i,ys,j,H1,I1,Z,L,w1⟩
 show wpAny _ X.A ((compTurn (.ListComp B [⟨t1,i1,f1,0⟩,⟨t2,N,f2,0⟩] sc pos) 0 (.ref it) (.ref C) X.env).onRaise (fun x=>do noteFrame x X.env;theTreesLotGoes x)) _ _ s1
 refine wpAny_noted ?_
 rw [ai7]
 refine aG1 (wpAny_standAt (aG1 ?_))
 obtain ⟨stop,qd⟩ | ⟨go,Nx,Q,step⟩:=U i n ys j H1 w1
 ·refine thn (T.done X rfl rfl rfl hc i [] s1 j H1 _ I1 (p L) Z stop) fun r s2 ⟨hr,I2⟩=>?_
  subst hr
  exact aG2 (hR ys j H1 s2 I2 qd)
 ·refine thn (T.item X rfl rfl rfl hc i [] s1 j H1 _ I1 (p L) Z go) fun r s2 ⟨u,hr,h2⟩=>?_
  subst hr
  refine aG1 (thn h2 fun _ s3 ⟨x,H3,I3,r3,y3,D,a3⟩=>?_)
  have a6:=I3.pinned (p a3) (T.obj _ _ D)
  refine aG1 (aG8 (hg _ s3 j H3 x u _ a6 r3 (step x H3 y3)) (fun _ s4 ⟨F,H4,I4,q4⟩=>?_) fun e c z=>(l e c z).elim)
  have v:∀ {q:St} {G:Hp} {s7:Shared} {zs:List V},Inv X ([] ++ ad1 fp s3.heap) q G s7->(∃ m',m' < n/\W (i+1) m' zs q G)->∃ m,m < n/\∃ i ys a H',Inv X [] a H' s7/\tn i s7.heap/\(∀ b∈fp,H' b=none)/\W i m ys a H':=fun {q G s7 zs} M w7=>by
   obtain ⟨m',hm,w7⟩:=w7
   refine ⟨m',hm,i+1,zs,q,G,M.unpinned,T.keep _ _ _ D fun b hb o e=>(M.pin (b,o) (az6 _ (az6 _ (abw hb e)))).1,fun b hb=>?_,w7⟩
   obtain ⟨o,e,d⟩:=T.obj _ _ D b hb
   exact (M.pin (b,o) (az6 _ (az6 _ (abw hb e)))).2.1
  refine aG1 (aG8 (a5 _ s4 F H4 _ I4 q4) (fun b s5 ⟨H5,I5,q5⟩=>?_) fun e c z=>(l e c z).elim)
  cases b with
  | false =>
   rw [aD0 az3] at q5
   exact aG2 ⟨rfl,v I5 (Q _ _ _ q5)⟩
  | true =>
   rw [aC9 rfl] at q5
   refine aG1 (aG8 (a4 _ s5 F H5 _ I5 q5) (fun xv s6 h6=>?_) fun e c z=>(l e c z).elim)
   refine aG1 (wpAny_standAt (aG1 ?_))
   rw [a2 xv]
   refine aG2 (aG1 (aG6 (aG8 h6 (fun a7 s7 h7=>?_) fun e c z=>(l e c z).elim)))
   obtain ⟨b1,a8,a9,J2,G,e,M,T2,Y,a1,W2,⟨m2,w2⟩,E⟩:=h7
   subst e
   refine aG1 (wpAny_runOwn ?_)
   have loop:=anp (R:=fun r c=>match r with | .ok f=>(∃ m,m < n/\∃ i ys a H',Inv X [] a H' c/\tn i c.heap/\(∀ b∈fp,H' b=none)/\W i m ys a H') | .error e=>False) (t1:=t1) (i1:=i1) (f1:=f1) (iter:=N) (sc:=sc) (pos:=pos) T2 hc l a0 O he E (fun b0 b2 H8 s8 I8 q8=>v I8 (Q _ _ _ q8)) M Y a1 w2
   have st:=ao3 loop (T2.self _ 0 _ _ _ Y loop)
   refine codeAny_mono st fun r c h=>?_
   cases r with
   | error e=>exact h.elim
   | ok f=>exact aG2 ⟨rfl,h⟩
def tLC2 (src:List (Option Nat)) (wi:TI) (g:TG) (tif:TT) (wi2:TI) (g2:TG) (tif2:TT) (te:TE):TE:=fun σ H Q=>wi σ H fun J H1=>∀ acc,H1 acc=none->∃ W:LW,(∃ m,W 0 m [] (pick src σ) (upd H1 acc (.lst [])))/\ahw J g tif wi2 g2 tif2 te acc (fun _ H'=>Q (.ref acc) H') W
section
variable {X:Cx} {N:List Str} {t1 i1 t2 i2 elt:Expr} {f1 f2:List Expr} {sc:Scope} {src:List (Option Nat)} {wi wi2:TI} {g g2:TG} {tif tif2:TT} {te:TE} {pos:Pos}
theorem aq2 (hc:X.calm=true) (L:LcOk X N sc src) (hg:∀ C h f ex,PG (X.comp N sc C h f ex) t1 g) (Y:∀ C h f ex,PIf (X.comp N sc C h f ex) f1 tif) (R:∀ C h f ex,PI (X.comp N sc C h f ex) t2 i2 wi2) (M:∀ C h f ex,PG (X.comp N sc C h f ex) t2 g2) (F:∀ C h f ex,PIf (X.comp N sc C h f ex) f2 tif2) (he:∀ C h f ex,PE (X.comp N sc C h f ex) elt te)
  (a0:∀ C h f ex x,foldedSetIterable i2 (X.comp N sc C h f ex).env x=pure x)
  {pins:List (Addr × Obj)} {d:Shared} {σ:St} {H3:Hp} {Q:VK} (q:Inv X pins σ H3 d) {it a:Addr} {fp:List Addr} {J:It} {tn:Nat->Heap->Prop} (T:Turn X.prog X.w X.K t1 J fp it tn) (s:tn 0 d.heap) (l:∀ b∈fp,FpOk X pins H3 b)
  {W:LW} {m0:Nat} (w0:W 0 m0 [] (pick src σ) H3) (B:ahw J g tif wi2 g2 tif2 te a (fun _ H'=>Q (.ref a) H') W) (use:Option (Value->Sem Unit)) (P:Value->Shared->Prop)
  (hP:∀ C H' i m,Inv X pins σ H' i->Q (.ref a) H'->i.heap.Ns C m->H' C=none->C ≠ X.env.locals->(C∈X.ex\/X.s₀.heap.objs.size<=C)->(∀ x c,X.env.cells.lookup x=some c->c ≠ C)->(∀ p∈X.pn ++ pins,p.1 ≠ C) ->
   compPost (model X.prog X.w) X.A X.xe use P (.ref a) C (.ok .next) i) :
  wpAny (model X.prog X.w) X.A (newFunctionEnv sc X.env.globals (clos X.env sc.names []) [] X.env.qual none .none (some X.env)) (fun j D =>
    codeAny (model X.prog X.w) X.A (.compStart (.ListComp elt [⟨t1,i1,f1,0⟩,⟨t2,i2,f2,0⟩] sc pos) 0 (.ref it) (.ref a) { j with scope:=relabel sc X.env }) (compPost (model X.prog X.w) X.A X.xe use P (.ref a) j.locals) D) X.xe d:=by
 refine wpAny_newFunctionEnv L.nocell (by intro y hy;simp at hy) (fun Z r G=>?_) L.kind
 have S:∀ b∈fp,b < d.heap.objs.size:=fun b hb=>by
  obtain ⟨o,U,_⟩:=T.obj _ _ s b hb
  exact aG4 U
 have H:∀ b o,d.heap.get? b=some o->Z.get? b=some o:=fun b o e=>G.extBut b o (az9 (aG4 e)) (aG3 _ e)
 have I:=akl (t':=d.toks+([]:List (Str × Value)).length) L q l S (by simpa using r) H
 have E:tn 0 Z:=T.keep _ _ _ s fun b _ o e=>H b o e
 have f4:∀ b∈fp,FpOk (X.comp N sc d.heap.objs.size d H3 fp) [] H3 b:=fun b hb =>
  ⟨(l b hb).1,(I.ok.exf b hb).1,I.ok.exfs b hb,.inl hb,(I.ok.exf b hb).2,fun p O=>absurd (show p∈([]:List (Addr × Obj)) from O) (by simp)⟩
 have fin:∀ (ys:List V) u H' i,Inv (X.comp N sc d.heap.objs.size d H3 fp) [] u H' i->Q (.ref a) H'->compPost (model X.prog X.w) X.A X.xe use P (.ref a) d.heap.objs.size (.ok .next) i:=fun ys u H' i n q'=>by
  have Jo:Inv X pins σ H' i:=q.call' (ch:=fp) n.os n.base n.hok n.bare fun b hb=>⟨(l b hb).2.2.2.1,(l b hb).2.1,(l b hb).2.2.2.2.1,(l b hb).2.2.2.2.2⟩
  obtain ⟨m,hn,_⟩:=n.loc
  refine hP _ H' i m Jo q' hn n.free (Nat.ne_of_gt q.lt) (.inr q.sz) (fun x c e z=>?_) fun p O z=>?_
  ·obtain ⟨v,o,U,_⟩:=q.cell x c e
   exact absurd (aG4 U) (by rw [z];exact aD8 _)
  ·exact absurd (aG4 (q.pin p O).1) (by rw [z];exact aD8 _)
 have loop:codeAny (model X.prog X.w) X.A (.compLoop (.ListComp elt [⟨t1,i1,f1,0⟩,⟨t2,i2,f2,0⟩] sc pos) 0 (.ref it) (.ref a) (X.comp N sc d.heap.objs.size d H3 fp).env)
   (compPost (model X.prog X.w) X.A X.xe use P (.ref a) d.heap.objs.size) { d with heap:=Z,toks:=d.toks+([]:List (Str × Value)).length } :=
  anq (X:=X.comp N sc d.heap.objs.size d H3 fp) T hc (fun _ _ z=>z) (hg _ _ _ _) (Y _ _ _ _) (R _ _ _ _) (M _ _ _ _) (F _ _ _ _) (he _ _ _ _) (a0 _ _ _ _) B fin I E f4 w0
 exact codeAny_compStart_list loop (T.self _ 0 _ _ _ E loop)
end
theorem ae6 {env:Env} {x x0:Str}:∀ {names:List (Str × NameKind)},(∀ y∈names,y.2=.cell->y.1=x0) ->
  ((names.map fun (n,k)=>if (k == NameKind.free && env.scope.kind == .function && env.kindOf n == some .cell) then (n,NameKind.cell) else (n,k)).lookup x=some .cell ∨
   (names.map fun (n,k)=>if (k == NameKind.free && env.scope.kind == .function && env.kindOf n == some .cell) then (n,NameKind.cell) else (n,k)).lookup x=some .free)->x=x0\/names.lookup x=some .free
 | [],_,h=>by rcases h with h | h <;> simp at h
 | (n,k) :: r,hc,h=>by
  have a:=@ae6 env x x0 r fun y c=>hc y (az8 _ c)
  rw [aE3]
  simp only [aB4] at h
  by_cases hq:(k == NameKind.free && env.scope.kind == .function && env.kindOf n == some .cell)=true
  ·rw [aC9 hq] at h
   have b:k=NameKind.free:=by
    have:=hq;simp only [aE5] at this;simpa using this.1.1
   subst b
   cases hx:(x == n) with
   | true=>exact .inr rfl
   | false=>simp only [aE3,hx] at h;exact a h
  ·rw [aD0 hq] at h
   cases hx:(x == n) with
   | true =>
    simp only [aE3,hx] at h
    rcases h with h | h
    ·cases h
     exact .inl ((aD7.mp hx).trans (hc (n,NameKind.cell) aA1 rfl))
    ·exact .inr h
   | false=>simp only [aE3,hx] at h;exact a h
def Cx.compC (X:Cx) (N:List Str) (sc:Scope) (x0:Str) (C:Addr) (s0:Shared) (H0:Hp) (ex:List Addr):Cx where
 prog:=X.prog
 w:=X.w
 K:=X.K
 mg:=X.mg
 base:=X.base
 A:=X.A
 N:=N
 s₀:=s0
 H₀:=H0
 env:=compEnvC sc ((x0,C+1) :: clos X.env sc.names []) C X.env
 outer:=X.stack
 stack:=X.stack
 ex:=ex
 fn:=fun x=>x == x0
 calm:=X.calm
 pn:=[]
 xe:=fun _ _=>False
structure LcOkC (X:Cx) (N:List Str) (sc:Scope) (src:List (Option Nat)) (x0:Str):Prop where
 kind:sc.kind=.function
 cells:∀ a cl,cellsFrom a sc.names cl=(x0,a) :: cl
 push:∀ h,pushCells h sc.names=h.push { cls:=.type "cell",data:=.cell none }
 only:∀ y∈sc.names,y.2=.cell->y.1=x0
 own:∀ y∈sc.names,y.2=.local->sc.names.lookup y.1=some .local
 outs:∀ y∈sc.names,y.2=.free->X.env.kindOf y.1=some .cell\/X.env.kindOf y.1=some .free
 nof:∀ y∈sc.names,y.2=.free->y.1 ≠ x0
 len:src.length=N.length
 from':∀ (i j:Nat),src[i]?=some (some j)->∃ x,N[i]?=some x/\X.N[j]?=some x/\sc.names.lookup x=some .free
theorem LcOkC.clo {X:Cx} {N:List Str} {sc:Scope} {src:List (Option Nat)} {x0:Str} (L:LcOkC X N sc src x0) (ok:X.Ok):closureFor sc X.env=pure (clos X.env sc.names []) :=
 aea fun n hn=>ok.has n (L.outs (n,.free) hn rfl)
theorem ao4 {X:Cx} {pins:List (Addr × Obj)} {σ:St} {H:Hp} {s:Shared} {N:List Str} {sc:Scope} {src:List (Option Nat)} {x0:Str} {fp:List Addr} {C:Heap} {t':Nat}
  (L:LcOkC X N sc src x0) (I:Inv X pins σ H s) (hf:∀ b∈fp,FpOk X pins H b) (n:∀ b∈fp,b < s.heap.objs.size)
  (hn:C.Ns s.heap.objs.size fun _=>none) (E:∀ b o,s.heap.get? b=some o->C.get? b=some o) (J:C.IsCell (s.heap.objs.size+1) none) :
  Inv (X.compC N sc x0 s.heap.objs.size s H fp) [] (pick src σ) H { s with heap:=C,toks:=t' }:=by
 have d:∀ {x c},(clos X.env sc.names []).lookup x=some c->X.env.cells.lookup x=some c:=fun {x c} e=>by
  rcases adh e with z | z
  ·exact z
  ·simp at z
 have look:∀ {x c},(((x0,s.heap.objs.size+1) :: clos X.env sc.names []:List (Str × Addr))).lookup x=some c->(x=x0/\c=s.heap.objs.size+1)\/(X.env.cells.lookup x=some c/\(clos X.env sc.names []).lookup x=some c/\x ≠ x0):=fun {x c} e=>by
  rw [aE3] at e
  cases g:(x == x0) with
  | true=>rw [g] at e;cases e;exact .inl ⟨aD7.mp g,rfl⟩
  | false=>rw [g] at e;exact .inr ⟨d e,e,fun z=>by rw [z] at g;simp at g⟩
 have old:∀ {x c},X.env.cells.lookup x=some c->c < s.heap.objs.size:=fun {x c} e=>by
  obtain ⟨v,o,n,_⟩:=I.cell x c e
  exact aG4 n
 have w:∀ {x c},x ≠ x0->(clos X.env sc.names []).lookup x=some c->(((x0,s.heap.objs.size+1) :: clos X.env sc.names []:List (Str × Addr))).lookup x=some c:=fun {x c} g e=>by
  rw [aE3,show (x == x0)=false by simpa using g];exact e
 refine ⟨⟨I.ok.mod,L.kind,I.ok.glob,I.ok.blt,az0 _,fun x y c M f=>?_,fun x g=>?_,fun x c z e=>?_,I.ok.hd,I.ok.frames,.inl rfl,fun b hb=>⟨?_,fun x c e=>?_⟩,I.bs,aB3 I.ok.bsz I.sz,fun b o e hb=>?_,fun b hb z=>?_,I.stack,I.stkFree⟩,
  rfl,I.bare,Un.kept E,⟨_,hn,fun i x v M f e3=>?_⟩,fun x c e=>?_,I.hok.fresh (az0 _),fun x c e=>?_,fun p T=>?_,I.hok.kept E,?_⟩
 ·rcases look M with ⟨A,Y⟩ | ⟨A,_,_⟩ <;> rcases look f with ⟨D,S⟩ | ⟨D,_,_⟩
  ·rw [A,D]
  ·exact absurd (old D) (by rw [Y];exact Nat.not_lt.mpr (Nat.le_succ _))
  ·exact absurd (old A) (by rw [S];exact Nat.not_lt.mpr (Nat.le_succ _))
  ·exact I.ok.inj x y c A D
 ·rcases ae6 (env:=X.env) (x:=x) L.only g with q | q
  ·exact ⟨s.heap.objs.size+1,by rw [q];show List.lookup x0 ((x0,_) :: _)=_;rw [aE3];simp⟩
  ·obtain ⟨c,e⟩:=aco (I.ok.has x (L.outs (x,.free) (PySem.mem_of_lookup q) rfl)) (PySem.mem_of_lookup q) (cs:=[])
   exact ⟨c,w (L.nof (x,.free) (PySem.mem_of_lookup q) rfl) e⟩
 ·rcases look e with ⟨_,b⟩ | ⟨_,_,F⟩
  ·rw [b];exact Nat.le_succ _
  ·exact absurd (aD7.mp z) F
 ·exact az9 (n b hb)
 ·rcases look e with ⟨_,W⟩ | ⟨a,_,_⟩
  ·rw [W];exact Nat.ne_of_gt (aD2 (n b hb))
  ·exact (hf b hb).2.2.2.2.1 x c a
 ·rcases (hf b hb).2.2.2.1 with z | z
  ·exact I.ok.noex b o e z
  ·exact absurd (aA8 (aG4 e) (aB3 I.ok.bsz z)) (aD8 _)
 ·rcases az2.mp (I.stkSub b z) with q | q
  ·exact (hf b hb).2.1 q
  ·exact (hf b hb).2.2.1 q
 ·unfold pick at f
  rw [ay9] at f
  cases q:src[i]? with
  | none=>rw [q] at f;cases f
  | some o =>
   rw [q] at f
   cases o with
   | none=>cases f
   | some j =>
    obtain ⟨y,O,Z,B⟩:=L.from' i j q
    have G:N[i]?=some x:=M
    rw [G] at O
    cases O
    have U : σ[j]?=some (some v):=by
     cases q2 : σ[j]? with
     | none=>simp [q2] at f
     | some z=>simp [q2] at f;rw [f]
    have n:=L.outs (x,.free) (PySem.mem_of_lookup B) rfl
    have K:Vis X.env.scope x:=by
     rcases n with z | z
     ·exact .inr (.inl z)
     ·exact .inr (.inr z)
    obtain ⟨m,_,hl⟩:=I.loc
    obtain ⟨u,r,l⟩:=hl j x v Z U K
    refine ⟨u,r,.inr ⟨?_,?_⟩⟩
    ·exact acw (env:=X.env) B
    ·rcases l with ⟨z,_⟩ | ⟨_,c,P,oc,h,hd⟩
     ·rcases n with R | R <;> (rw [R] at z;cases z)
     ·obtain ⟨c',Q⟩:=aco (env:=X.env) ⟨c,P⟩ (PySem.mem_of_lookup B) (cs:=[])
      have:=d Q
      rw [P] at this;cases this
      exact ⟨c,w (L.nof (x,.free) (PySem.mem_of_lookup B) rfl) Q,oc,E c oc h,hd⟩
 ·rcases look e with ⟨_,b⟩ | ⟨a,_,_⟩
  ·rw [b];exact ⟨none,J⟩
  ·obtain ⟨v,oc,h,hd⟩:=I.cell x c a
   exact ⟨v,oc,E c oc h,hd⟩
 ·rcases look e with ⟨_,b⟩ | ⟨a,_,_⟩
  ·rw [b];exact I.hok.fresh (Nat.le_succ _)
  ·exact I.freeC x c a
 ·exact absurd (show p∈([]:List (Addr × Obj)) from T) (by simp)
 ·show (pick src σ).length=N.length
  unfold pick
  rw [ay7]
  exact L.len
theorem ahx {sc:Scope} {x0:Str} {g:Addr} {cl:List (Str × Addr)} {qual:Str} {outer:Env} {M:Model} {A:Around} {E:Value->Shared->Prop} {s:Shared} {Q:Env->Shared->Prop}
  (d:∀ a cl,cellsFrom a sc.names cl=(x0,a) :: cl) (c:∀ h,pushCells h sc.names=h.push { cls:=.type "cell",data:=.cell none })
  (h:∀ h',h'.Ns s.heap.objs.size (fun _=>none)->(∀ b o,s.heap.get? b=some o->h'.get? b=some o)->h'.IsCell (s.heap.objs.size+1) none ->
   Q { scope:=sc,locals:=s.heap.objs.size,globals:=g,cells:=(x0,s.heap.objs.size+1) :: cl,qual:=qual,func:=none,code:=outer.code,frame:=outer.frame,builtins:=outer.builtins } { s with heap:=h' }) :
  wpAny M A (newFunctionEnv sc g cl [] qual none .none (some outer)) Q E s:=by
 simp only [newFunctionEnv,Option.isSome_some,if_true]
 refine aG1 (wpAny_alloc ?_)
 refine aG1 (wpAny_layCells _ (fun name kind cells=>by cases hkc:kind == NameKind.cell <;> simp [hkc]) _ _ _ _ ?_)
 rw [d,c]
 rw [show ({ s with heap:=s.heap.push { cls:=.type "dict",data:=.dict #[] } }:Shared).heap.objs.size=s.heap.objs.size+1 from aH0 ..]
 simp only [List.forIn_nil,pure_bind]
 refine aG2 ?_
 have hsz:(s.heap.push { cls:=.type "dict",data:=.dict #[] }).objs.size=s.heap.objs.size+1:=aH0 ..
 refine h _ ((Heap.Ns.new s.heap (.type "dict")).keeps fun b o e=>aG3 _ e) (fun b o e=>aG3 _ (aG3 _ e)) ?_
 rw [← hsz]
 exact ⟨_,aG5 _ rfl,rfl⟩
section
variable {X:Cx} {N:List Str} {tg iter elt:Expr} {ifs:List Expr} {sc:Scope} {src:List (Option Nat)} {x0:Str} {wi:TI} {g:TG} {tif:TT} {te:TE} {pos:Pos}
theorem aq3 (hc:X.calm=true) (L:LcOkC X N sc src x0) (U:∀ C u r ex,PG (X.compC N sc x0 C u r ex) tg g) (O:∀ C u r ex,PIf (X.compC N sc x0 C u r ex) ifs tif) (he:∀ C u r ex,PE (X.compC N sc x0 C u r ex) elt te)
  {pins:List (Addr × Obj)} {d:Shared} {σ:St} {H3:Hp} {Q:VK} (l:Inv X pins σ H3 d) {it a:Addr} {fp:List Addr} {J:It} {tn:Nat->Heap->Prop} (T:Turn X.prog X.w X.K tg J fp it tn) (q:tn 0 d.heap) (i:∀ b∈fp,FpOk X pins H3 b)
  {W:LW} {S:Nat} (w0:W 0 S [] (pick src σ) H3) (y:ag0 J g tif te a (fun _ H'=>Q (.ref a) H') W) (use:Option (Value->Sem Unit)) (P:Value->Shared->Prop)
  (hP:∀ C H' f m,Inv X pins σ H' f->Q (.ref a) H'->f.heap.Ns C m->H' C=none->C ≠ X.env.locals->(C∈X.ex\/X.s₀.heap.objs.size<=C)->(∀ x c,X.env.cells.lookup x=some c->c ≠ C)->(∀ p∈X.pn ++ pins,p.1 ≠ C) ->
   compPost (model X.prog X.w) X.A X.xe use P (.ref a) C (.ok .next) f) :
  wpAny (model X.prog X.w) X.A (newFunctionEnv sc X.env.globals (clos X.env sc.names []) [] X.env.qual none .none (some X.env)) (fun h B =>
    codeAny (model X.prog X.w) X.A (.compStart (.ListComp elt [⟨tg,iter,ifs,0⟩] sc pos) 0 (.ref it) (.ref a) { h with scope:=relabel sc X.env }) (compPost (model X.prog X.w) X.A X.xe use P (.ref a) h.locals) B) X.xe d:=by
 refine ahx L.cells L.push fun R n F D=>?_
 have I:∀ b∈fp,b < d.heap.objs.size:=fun b hb=>by
  obtain ⟨o,M,_⟩:=T.obj _ _ q b hb
  exact aG4 M
 have G:=ao4 (t':=d.toks) L l i I n F D
 have E:tn 0 R:=T.keep _ _ _ q fun b _ o e=>F b o e
 have Y:∀ b∈fp,FpOk (X.compC N sc x0 d.heap.objs.size d H3 fp) [] H3 b:=fun b hb =>
  ⟨(i b hb).1,(G.ok.exf b hb).1,G.ok.exfs b hb,.inl hb,(G.ok.exf b hb).2,fun p H=>absurd (show p∈([]:List (Addr × Obj)) from H) (by simp)⟩
 have fin:∀ (ys:List V) s H' f,Inv (X.compC N sc x0 d.heap.objs.size d H3 fp) [] s H' f->Q (.ref a) H'->compPost (model X.prog X.w) X.A X.xe use P (.ref a) d.heap.objs.size (.ok .next) f:=fun ys s H' f j Z=>by
  have Jo:Inv X pins σ H' f:=l.call' (ch:=fp) j.os j.base j.hok j.bare fun b hb=>⟨(i b hb).2.2.2.1,(i b hb).2.1,(i b hb).2.2.2.2.1,(i b hb).2.2.2.2.2⟩
  obtain ⟨m,hn,_⟩:=j.loc
  refine hP _ H' f m Jo Z hn j.free (Nat.ne_of_gt l.lt) (.inr l.sz) (fun x c e z=>?_) fun p H z=>?_
  ·obtain ⟨v,o,M,_⟩:=l.cell x c e
   exact absurd (aG4 M) (by rw [z];exact aD8 _)
  ·exact absurd (aG4 (l.pin p H).1) (by rw [z];exact aD8 _)
 have loop:codeAny (model X.prog X.w) X.A (.compLoop (.ListComp elt [⟨tg,iter,ifs,0⟩] sc pos) 0 (.ref it) (.ref a) (X.compC N sc x0 d.heap.objs.size d H3 fp).env)
   (compPost (model X.prog X.w) X.A X.xe use P (.ref a) d.heap.objs.size) { d with heap:=R } :=
  aio (X:=X.compC N sc x0 d.heap.objs.size d H3 fp) T hc (fun _ _ z=>z) (U _ _ _ _) (O _ _ _ _) (he _ _ _ _) y fin G E Y w0
 exact codeAny_compStart_list loop (T.self _ 0 _ _ _ E loop)
theorem awm (G:X.calm=true) (L:LcOkC X N sc src x0) (hi:PI X tg iter wi) (E:∀ C d a ex,PG (X.compC N sc x0 C d a ex) tg g) (j:∀ C d a ex,PIf (X.compC N sc x0 C d a ex) ifs tif) (B:∀ C d a ex,PE (X.compC N sc x0 C d a ex) elt te)
  (A:∀ x,foldedSetIterable iter X.env x=pure x:=by intro _;rfl):PE X (.ListComp elt [⟨tg,iter,ifs,0⟩] sc pos) (tLC src wi g tif te):=by
 intro pins s σ H Q I h
 rw [eval_ListComp]
 refine wpAny_comprehension_free rfl A (L.clo I.ok) L.kind L.own (thn (hi pins s σ H _ I h) fun v s1 z=>thn z fun K s2 D=>?_)
 obtain ⟨it,fp,tn,J,H2,e,p,T,i,r,y⟩:=D
 subst e
 have c:H2 s2.heap.objs.size=none:=p.hok.fresh (az0 _)
 obtain ⟨W,⟨U,P⟩,f⟩:=y s2.heap.objs.size c
 have n:∀ b∈fp,b < s2.heap.objs.size:=fun b hb=>by
  obtain ⟨o,S,_⟩:=T.obj _ _ i b hb
  exact aG4 S
 refine aG9 ?_
 refine aq3 (pins:=pins) G L E j B (H3:=upd H2 s2.heap.objs.size (.lst [])) ?_ T ?_ ?_ P f none _ (fun C H' R m J q hn O F M l w=>?_)
 ·exact p.laid (t':=s2.toks) (fun b u e=>aG3 _ e) (az0 _) ⟨aD4 _,[],0,.nil,aG5 _ rfl⟩
 ·exact T.keep _ _ _ i fun b _ o e=>aG3 _ e
 ·exact fun b hb=>⟨by rw [aag (az9 (n b hb))];exact (r b hb).1,(r b hb).2⟩
 ·refine ⟨m,hn,fun h' sb=>⟨.ref _,H',?_,rfl,q⟩⟩
  exact J.turned (t':=R.toks) (fun b o hb e=>sb.extBut b o hb e) O F M l w
end
theorem aq4 {X:Cx} {N:List Str} {sc:Scope} {src:List (Option Nat)} {x0:Str} (d:sc.kind=.function) (l:∀ a cl,cellsFrom a sc.names cl=(x0,a) :: cl) (c:∀ h,pushCells h sc.names=h.push { cls:=.type "cell",data:=.cell none })
  (g:sc.names.all (fun y=>y.2 != .cell || y.1 == x0)=true) (o:sc.names.all (fun y=>y.2 != .local || sc.names.lookup y.1 == some .local)=true)
  (m:sc.names.all (fun y=>y.2 != .free || X.env.kindOf y.1 == some .cell || X.env.kindOf y.1 == some .free)=true) (f:sc.names.all (fun y=>y.2 != .free || y.1 != x0)=true) (p:src.length=N.length)
  (n:(List.range src.length).all (fun i=>match src[i]? with | some (some j)=>(match N[i]?,X.N[j]? with | some x,some y=>x == y && sc.names.lookup x == some .free | _,_=>false) | _=>true)=true):LcOkC X N sc src x0:=by
 refine ⟨d,l,c,fun y b e=>?_,fun y b e=>?_,fun y b e=>?_,fun y b e=>?_,p,fun i j e=>?_⟩
 ·have:=aC8.mp g y b
  rw [e] at this
  simpa using this
 ·have:=aC8.mp o y b
  rw [e] at this
  simpa using this
 ·have:=aC8.mp m y b
  rw [e] at this
  simpa using this
 ·have:=aC8.mp f y b
  rw [e] at this
  simpa using this
 ·have hi:i < src.length:=(ay5.mp e).1
  have:=aC8.mp n i (aA2.mpr hi)
  simp only [e] at this
  cases hN:N[i]? with
  | none=>rw [hN] at this;simp at this
  | some x =>
   cases hX:X.N[j]? with
   | none=>rw [hN,hX] at this;simp at this
   | some y =>
    rw [hN,hX] at this
    simp only [aE5,aD7] at this
    exact ⟨x,rfl,by rw [this.1],this.2⟩
section
variable {X:Cx} {N:List Str} {t1 i1 t2 i2 elt:Expr} {f1 f2:List Expr} {sc:Scope} {src:List (Option Nat)} {wi wi2:TI} {g g2:TG} {tif tif2:TT} {te:TE} {pos spos px:Pos}
theorem ao5 {i:Nat} {x:Str} (hN:X.N.Nodup) (M:X.N[i]?=some x) (hx:Loc X.env.scope x) (hc:X.calm=true) (L:LcOk X N sc src) (hi:PI X t1 i1 wi) (hg:∀ C d c ex,PG (X.comp N sc C d c ex) t1 g)
  (P:∀ C d c ex,PIf (X.comp N sc C d c ex) f1 tif) (O:∀ C d c ex,PI (X.comp N sc C d c ex) t2 i2 wi2) (w:∀ C d c ex,PG (X.comp N sc C d c ex) t2 g2) (l:∀ C d c ex,PIf (X.comp N sc C d c ex) f2 tif2) (he:∀ C d c ex,PE (X.comp N sc C d c ex) elt te)
  (R:swapsWith (.ListComp elt [⟨t1,i1,f1,0⟩,⟨t2,i2,f2,0⟩] sc pos) (some (.Name x px)) spos.line X.env=pure true:=by rfl)
  (hf:X.fn x=true\/X.env.scope.names.lookup x=some .local:=by first | exact .inl rfl | exact .inr rfl | assumption)
  (hs:∀ x,foldedSetIterable i1 X.env x=pure x:=by intro _;rfl) (F:∀ C d c ex x,foldedSetIterable i2 (X.comp N sc C d c ex).env x=pure x:=by intros;rfl) :
  PS X (.Assign [.Name x px] (.ListComp elt [⟨t1,i1,f1,0⟩,⟨t2,i2,f2,0⟩] sc pos) spos) (tAsg (tLC2 src wi g tif wi2 g2 tif2 te) (aay i)):=by
 intro pins s σ H D I h
 rw [exec_Assign_Name_used _ _ _ _ R]
 refine aG1 (wpAny_standAt (aG1 ?_))
 show wpAny _ X.A (do let _ ← comprehension (.ListComp elt [⟨t1,i1,f1,0⟩,⟨t2,i2,f2,0⟩] sc pos) sc X.env _ (newList []) false (eval i1 X.env) (some (assign (.Name x px) X.env))) _ _ s
 refine aG1 (aG8 (Q:=fun _ G=>SP X pins D .next G) ?_ (fun _ G hq=>aG2 (aG2 hq)) fun _ _ e=>e)
 refine wpAny_comprehension_free rfl hs (L.clo I.ok) L.kind L.own (thn (hi pins s σ H _ I h) fun v s1 h1=>thn h1 fun a0 s2 h2=>?_)
 obtain ⟨it,fp,tn,J,H2,e,U,T,r,j,Z⟩:=h2
 subst e
 have f:H2 s2.heap.objs.size=none:=U.hok.fresh (az0 _)
 obtain ⟨W,⟨m0,w0⟩,p⟩:=Z s2.heap.objs.size f
 have E:∀ b∈fp,b < s2.heap.objs.size:=fun b hb=>by
  obtain ⟨o,ho,_⟩:=T.obj _ _ r b hb
  exact aG4 ho
 refine aG9 ?_
 refine aq2 (pins:=pins) (Q:=fun x Y=>aay i x σ Y D.nx) hc L hg P O w l he F (H3:=upd H2 s2.heap.objs.size (.lst [])) ?_ T ?_ ?_ w0 p (some (assign (.Name x px) X.env)) _ ?_
 ·exact U.laid (t':=s2.toks) (fun b u e=>aG3 _ e) (az0 _) ⟨aD4 _,[],0,.nil,aG5 _ rfl⟩
 ·exact T.keep _ _ _ r fun b _ o e=>aG3 _ e
 ·exact fun b hb=>⟨by rw [aag (az9 (E b hb))];exact (j b hb).1,(j b hb).2⟩
 ·intro C H' G m J q hn hC S B n hp
  show wpAny _ X.A (assign (.Name x px) X.env (.ref s2.heap.objs.size)) _ _ _
  refine wpAny_assign_Name (afb J hN M hx (v:=.ref s2.heap.objs.size) rfl (fun s2 J2 ⟨a,sb,ha⟩=>?_) hf)
  have K:C ≠ a:=by
   rcases ha with z | z
   ·rw [z];exact S
   ·exact (n x a z).symm
  refine ⟨m,hn.sameBut sb K,fun h' y=>⟨_,H',?_,q⟩⟩
  exact J2.turned (t':=s2.toks) (fun b o hb e=>y.extBut b o hb e) hC S B n hp
end
def rLen (K:Frag):List V->Hp->VK->Prop:=fun xs H Q=>∃ p ys,xs=[.ref p]/\(SqL K H p ys\/SqT K H p ys)/\Q (.int ys.length) H
theorem ab4 {X:Cx}:abh X (.builtin "len") (rLen X.K):=akd
def aju:List V->Hp->VK->Prop:=fun xs H Q=>∃ i j,xs=[.int i,.int j]/\Q (.int (if j > i then j else i)) H
def ajv:List V->Hp->VK->Prop:=fun xs H Q=>∃ i j,xs=[.int i,.int j]/\Q (.int (if j < i then j else i)) H
theorem ag1 {X:Cx} (a:X.calm=true):abh X (.builtin "max") aju:=aoq a
theorem ag2 {X:Cx} (a:X.calm=true):abh X (.builtin "min") ajv:=aor a
def ajw:List V->Hp->VK->Prop:=fun xs H Q=>(∃ i,xs=[.int i]/\Q (.int i) H)\/∃ k,xs=[.bl k]/\Q (.int (if k then 1 else 0)) H
theorem ag3 {X:Cx}:abh X (.type "int") ajw:=aos
section
variable {σ:St} {H:Hp} {D:Ends} {K:Frag}
theorem amp {i:Nat} {v:V} {Q:St->Hp->Prop} (h:Q (σ.set i (some v)) H):aay i v σ H Q:=h
theorem ao6 {Q:List V->Hp->Prop} (h:Q [] H):tNil σ H Q:=h
theorem awn {t:TA} {Q:VK} (h:t σ H fun xs a=>xs.length<=sizeLine/\∀ p,a p=none->Q (.ref p) (upd a p (.lst xs))):tLst t σ H Q:=h
theorem ao7 {i j:Int} {Q:VK} (h:Q (.bl (decide (i=j))) H):rEq (.int i) (.int j) H Q:=by
 have e:decide (V.int i=V.int j)=decide (i=j):=by rw [ami];exact Bool.beq_eq_decide_eq i j
 exact ⟨rfl,by rw [e];exact h⟩
theorem awo {a:Addr} {xs:List V} {i:Int} {v:V} {Q:VK} (ha:H a=some (.lst xs)) (b:atI xs i=some v) (h:Q v H):rIxL K (.ref a) (.int i) H Q:=⟨a,xs,i,v,rfl,rfl,SqL.of ha,b,h⟩
theorem awp {a:Addr} {xs:List V} {i:Int} {v:V} {Q:VK} (ha:H a=some (.tup xs)) (b:atI xs i=some v) (h:Q v H):rIxT K (.ref a) (.int i) H Q:=⟨a,xs,i,v,rfl,rfl,SqT.of ha,b,h⟩
theorem amq {a:Addr} {xs:List V} {k:Int} {j:Nat} {v:V} {Q:Hp->Prop} (ha:H a=some (.lst xs)) (hj:ixN xs.length k=some j) (h:Q (upd H a (.lst (xs.set j v)))):ann (.ref a) (.int k) v H Q:=⟨a,xs,k,j,rfl,rfl,ha,hj,h⟩
theorem aec {a:Addr} {xs:List V} {y:V} {Q:VK} (ha:H a=some (.lst xs)) (b:xs.length < sizeLine) (h:Q .non (upd H a (.lst (xs ++ [y])))):adv (.ref a) [y] H Q:=⟨a,xs,y,rfl,rfl,ha,b,h⟩
theorem awq {a b:Addr} {xs c:List V} {Q:VK} (ha:H a=some (.lst xs)) (hb:H b=some (.lst c)) (d:xs.length+c.length<=sizeLine) (h:∀ p,H p=none->Q (.ref p) (upd H p (.lst (xs ++ c)))):rCat (.ref a) (.ref b) H Q:=⟨a,b,xs,c,rfl,rfl,ha,hb,d,h⟩
theorem amr {a:Addr} {xs:List V} {Q:VK} (ha:H a=some (.lst xs)) (h:Q (.int xs.length) H):rLen K [.ref a] H Q:=⟨a,xs,rfl,.inl (SqL.of ha),h⟩
theorem ams {i j:Int} {Q:VK} (h:Q (.int (if j > i then j else i)) H):aju [.int i,.int j] H Q:=⟨i,j,rfl,h⟩
theorem amt {i j:Int} {Q:VK} (h:Q (.int (if j < i then j else i)) H):ajv [.int i,.int j] H Q:=⟨i,j,rfl,h⟩
theorem amu {k:Bool} {Q:VK} (h:Q (.int (if k then 1 else 0)) H):ajw [.bl k] H Q:=.inr ⟨k,rfl,h⟩
theorem ahy {c:Prop} [Decidable c] {A B:Prop} (a:c) (h:A):if decide c=true then A else B:=by rw [aB8 a];exact iteT h
theorem ahz {c:Prop} [Decidable c] {A B:Prop} (a:¬ c) (h:B):if decide c=true then A else B:=by rw [aB7 a];exact iteF h
theorem acd {c:Prop} [Decidable c] {A B:Prop} (a:c->A) (b:¬ c->B):if decide c=true then A else B:=by
 by_cases hc:c
 ·exact ahy hc (a hc)
 ·exact ahz hc (b hc)
theorem at0 {x:V} {xs:List V}:atI (x :: xs) 0=some x:=adu (j:=0) rfl
theorem at1 {x y:V} {xs:List V}:atI (x :: y :: xs) 1=some y:=adu (j:=1) rfl
end
structure CallOk (P:Program) (w:World) (K:Frag) (mg:Str->Option Value) (base:Heap) (x:Str) (k:Nat) (ps:List Str) (sp:Sp) (f:Addr) (fd:FuncData):Prop where
 ok:FnOk P w K mg base CX0 k f fd ps sp
 mgx:mg x=some (.ref f)
 kp:keepIn K (.ref f)=true
 bd:Binds K fd ps []
def Can (P:Program) (w:World) (K:Frag) (mg:Str->Option Value) (base:Heap) (x:Str) (k:Nat) (ps:List Str) (sp:Sp):Prop:=∃ f fd,CallOk P w K mg base x k ps sp f fd
structure DefAt (K:Frag) (mg:Str->Option Value) (x:Str) (st:Stmt) (ps:List Str) (f:Addr) (fd:FuncData):Prop where
 fn:Fun K x x st f fd
 mgx:mg x=some (.ref f)
 bd:Binds K fd ps []
theorem DefAt.can {P:Program} {w:World} {K:Frag} {mg:Str->Option Value} {base:Heap} {x:Str} {st:Stmt} {k:Nat} {ps:List Str} {sp:Sp} {f:Addr} {fd:FuncData} (D:DefAt K mg x st ps f fd) (ok:FnOk P w K mg base CX0 k f fd ps sp):Can P w K mg base x k ps sp :=
 ⟨f,fd,ok,D.mgx,D.fn.kp,D.bd⟩
section
variable {X:Cx} {k j:Nat} {ps:List Str} {sp:Sp} {x:Str} {p pos:Pos} {e:Expr} {es:List Expr} {t:TA}
theorem aaq (F:Can X.prog X.w X.K X.mg X.base x k ps sp) (d:Room j X.A) (ha:PA X (e :: es) t) (hj:k<=j:=by decide) (g:Gl X x:=by rfl) (a:(x == ("__debug__" : Str))=false:=by decide)
  (c:starEach (e :: es) X.env=(false,eval e X.env) :: starEach es X.env:=by rfl) (b:(backTo pos (starEach es X.env)).any (·.1)=false:=by rfl) :
  PE X (.Call (.Name x p) (e :: es) [] pos) (aev sp [] E0 t):=by
 obtain ⟨f,fd,C⟩:=F
 exact atn C.ok (d.mono hj) g C.mgx C.kp C.bd .nil ax7 ha a c b
end
theorem ab2 {X:Cx} {N:List Str} {sc:Scope} {src:List (Option Nat)} (f:sc.kind=.function) (h:sc.names.all (fun y=>y.2 != .cell)=true) (d:sc.names.all (fun y=>y.2 != .local || sc.names.lookup y.1 == some .local)=true)
  (b:sc.names.all (fun y=>y.2 != .free || X.env.kindOf y.1 == some .cell || X.env.kindOf y.1 == some .free)=true) (l:src.length=N.length)
  (c:(List.range src.length).all (fun i=>match src[i]? with | some (some j)=>(match N[i]?,X.N[j]? with | some x,some y=>x == y && sc.names.lookup x == some .free | _,_=>false) | _=>true)=true):LcOk X N sc src:=by
 refine ⟨f,fun y a e=>?_,fun y a e=>?_,fun y a e=>?_,l,fun i j e=>?_⟩
 ·have:=aC8.mp h y a
  rw [e] at this
  exact absurd this (by decide)
 ·have:=aC8.mp d y a
  rw [e] at this
  simpa using this
 ·have:=aC8.mp b y a
  rw [e] at this
  simpa using this
 ·have hi:i < src.length:=(ay5.mp e).1
  have:=aC8.mp c i (aA2.mpr hi)
  rw [e] at this
  dsimp only at this
  cases h7:N[i]? with
  | none=>rw [h7] at this;cases this
  | some x =>
   cases h8:X.N[j]? with
   | none=>rw [h7,h8] at this;cases this
   | some y =>
    rw [h7,h8] at this
    simp only [aE5] at this
    have g:x=y:=by simpa using this.1
    subst g
    exact ⟨x,rfl,rfl,by simpa using this.2⟩
section
variable {σ:St} {H:Hp} {D:Ends} {K:Frag}
theorem ao8 {Q:Bool->Hp->Prop} (h:Q true H):tYes σ H Q:=h
theorem aq5 {a:Addr} {xs:List V} {i:Int} {k:Nat} {y:V} {Q:VK} (ha:H a=some (.lst xs)) (b : -(2 ^ 63)<=i) (d:i < 2 ^ 63) (f:seqIndex? i xs.length=some k) (c:xs[k]?=some y) (h:Q y (upd H a (.lst (xs.eraseIdx k)))):akf (.ref a) [.int i] H Q :=
 ⟨a,xs,i,k,y,rfl,rfl,ha,b,d,f,c,h⟩
end
end L2
namespace L2
open PySem
theorem adi:bootBuiltins "len" = some (.builtin "len"):=by decide +kernel
theorem ag4:bootBuiltins "max" = some (.builtin "max"):=by decide +kernel
theorem ao9:bootBuiltins "min" = some (.builtin "min"):=by decide +kernel
theorem aip:bootBuiltins "sorted" = some (.builtin "sorted"):=by decide +kernel
theorem abv:bootBuiltins "isinstance" = some (.builtin "isinstance"):=by decide +kernel
theorem awr:bootBuiltins "all" = some (.builtin "all"):=by decide +kernel
theorem akn:bootBuiltins "int" = some (.type "int"):=by decide +kernel
theorem ah0:bootBuiltins "list" = some (.type "list"):=by decide +kernel
theorem aq6:bootBuiltins "tuple" = some (.type "tuple"):=by decide +kernel
theorem ako:bootBuiltins "enumerate" = some (.type "enumerate"):=by decide +kernel
theorem ah1:bootBuiltins "bool" = some (.type "bool"):=by decide +kernel
end L2
namespace TS
open PySem PyProof.Rows
def ah2:Bool->Keyed->Array Keyed->Nat->Nat->Nat->StateT SortSt Sem (Option Nat):=sortPriv% PySem.Builtin.gallop
def aq7:Array Keyed->Array Keyed->StateT SortSt Sem (Array Keyed):=sortPriv% PySem.Builtin.mergeLo
def aq8:Array Keyed->Array Keyed->StateT SortSt Sem (Array Keyed):=sortPriv% PySem.Builtin.mergeHi
def akp:Nat->StateT SortSt Sem Bool:=sortPriv% PySem.Builtin.mergeAt
def aty:Nat->Nat->StateT SortSt Sem (Option Nat):=sortPriv% PySem.Builtin.countRun
def aq9:Nat->Nat->Nat->StateT SortSt Sem Bool:=sortPriv% PySem.Builtin.binarySort
def ax8:StateT SortSt Sem Unit:=sortPriv% PySem.Builtin.sortRuns
structure Cmp (M:Model) (A:Around) (E:Value->Shared->Prop) (s:Shared) (κ:SortKind) (S:Keyed->Prop) (R:Keyed->Keyed->Bool):Prop where
 ask:∀ x y,S x->S y->∀ (Q:Option Bool->SortSt->Prop) (st:SortSt),kindOf st = κ->Q (some (R x y)) st->wpS M A E s (lt' x y) Q st
 asy:∀ x y,S x->S y->R x y=true->R y x=false
 tr:∀ x y z,S x->S y->S z->R y x=false->R z y=false->R z x=false
section
variable {M:Model} {A:Around} {E:Value->Shared->Prop} {s:Shared} {κ:SortKind} {S:Keyed->Prop} {R:Keyed->Keyed->Bool}
theorem aau {arr:Array Keyed} {i:Nat} {x:Keyed} {Q:Keyed->SortSt->Prop} {st:SortSt} (a:arr[i]?=some x) (h:Q x st):wpS M A E s (elem' arr i) Q st:=by
 rw [elem'_eq,a]
 exact wpS_pure h
theorem acz {x:String} {Q:Unit->SortSt->Prop} {st:SortSt} (h:Q () st):wpS M A E s (liftM (PySem.rule x):StateT SortSt Sem Unit) Q st :=
 wpS_lift (wpAny_rule ⟨rfl,h⟩)
def bey (left:Bool) (key:Keyed) (arr:Array Keyed) (base i:Nat):StateT SortSt Sem (Option Bool):=do
 let x ← elem' arr (base+i)
 if left=true then lt' x key else do
  let r ← lt' key x
  pure (Option.map (fun b => !b) r)
theorem aiq {left:Bool} {p:Keyed} {arr:Array Keyed} {base n a:Nat} {B:Nat->Bool}
  (hb:∀ i,i < n->∀ (Q:Option Bool->SortSt->Prop) (st:SortSt),kindOf st = κ->Q (some (B i)) st->wpS M A E s (bey left p arr base i) Q st)
  (mono:∀ i j,i < j->j < n->B j=true->B i=true) (hh:a < n) {Q:Option Nat->SortSt->Prop} {st:SortSt} (x:kindOf st = κ)
  (h:∀ k,k<=n->(∀ i,i < k->B i=true)->(∀ i,k<=i->i < n->B i=false)->Q (some k) st):wpS M A E s (ah2 left p arr base n a) Q st:=by
 have c:∀ i j,i < j->j < n->B i=false->B j=false:=fun i j y hj hi=>by
  cases e:B j with
  | false=>rfl
  | true=>rw [mono i j y hj e] at hi;cases hi
 -- the last loop
 have last:∀ (lo hi:Nat) (F:Option (Option Nat) × Nat × Nat->StateT SortSt Sem (Option Nat)),lo<=hi->hi<=n->(∀ i,i < lo->B i=true)->(∀ i,hi<=i->i < n->B i=false) ->
   (∀ lo hi,F (none,lo,hi)=pure (some hi)) ->
   wpS M A E s (forIn [:n] ((none,lo,hi):Option (Option Nat) × Nat × Nat) (fun (_:Nat) z=>if z.2.1 ≥ z.2.2 then pure (ForInStep.done (none,z.2.1,z.2.2)) else bey left p arr base (z.2.1+(z.2.2 - z.2.1) / 2) >>= fun r=>match r with
    | some more=>if more=true then pure (ForInStep.yield (none,z.2.1+(z.2.2 - z.2.1) / 2+1,z.2.2)) else pure (ForInStep.yield (none,z.2.1,z.2.1+(z.2.2 - z.2.1) / 2))
    | _=>pure (ForInStep.done (some none,z.2.1,z.2.2))) >>= F) Q st:=by
  intro lo hi F H I K J C
  refine wpS_bind (wpS_forRange (fun t z st'=>st'=st/\z.1=none/\z.2.1<=z.2.2/\z.2.2<=n/\z.2.2 - z.2.1+t<=n/\(∀ i,i < z.2.1->B i=true)/\(∀ i,z.2.2<=i->i < n->B i=false)) ?_ ?_ ⟨rfl,rfl,H,I,by dsimp only;omega,K,J⟩)
  ·rintro t ⟨o,l,u⟩ st' _ D ⟨rfl,e,q,d,b,g,w⟩
   dsimp only at e q d b g w ⊢
   subst e
   by_cases hlu:l ≥ u
   ·rw [aC9 hlu]
    have:l=u:=by omega
    subst this
    exact wpS_pure (by dsimp only;rw [C];exact wpS_pure (h l d g w))
   ·rw [aD0 hlu]
    have hm:l+(u - l) / 2 < u:=by omega
    refine wpS_bind (hb _ (by omega) _ _ x ?_)
    dsimp only
    cases e:B (l+(u - l) / 2) with
    | true =>
     rw [aC9 rfl]
     refine wpS_pure ⟨rfl,rfl,by dsimp only;omega,d,by dsimp only;omega,fun i hi=>?_,w⟩
     dsimp only at hi
     by_cases hi2:i=l+(u - l) / 2
     ·rw [hi2];exact e
     ·exact mono i _ (by omega) (by omega) e
    | false =>
     rw [aD0 (by simp)]
     refine wpS_pure ⟨rfl,rfl,by dsimp only;omega,by dsimp only;omega,by dsimp only;omega,g,fun i hi hn=>?_⟩
     dsimp only at hi
     by_cases hi2:i=l+(u - l) / 2
     ·rw [hi2];exact e
     ·exact c _ i (by omega) hn e
  ·rintro ⟨o,l,u⟩ st' ⟨rfl,e,q,d,b,g,w⟩
   dsimp only at e q d b g w ⊢
   subst e
   have : l = u := by have:n ≤ max 0 n := by omega
                      omega
   subst this
   rw [C]
   exact wpS_pure (h l d g w)
 refine wpS_bind (f:=fun G=>_) (m:=bey left p arr base a) (hb a hh _ st x ?_)
 dsimp only
 cases e0:B a with
 | true =>
  rw [aC9 rfl]
  refine wpS_bind ?_
  refine wpS_forRange (fun t (z:Option (Option Nat) × Nat × Nat) st'=>st'=st/\z.1=none/\z.2.1 < z.2.2/\a+z.2.1 < n/\B (a+z.2.1)=true/\t+1<=z.2.2) ?_ ?_ ⟨rfl,rfl,by decide,by dsimp only;omega,e0,Nat.le_refl _⟩
  ·rintro t ⟨o,l,u⟩ st' _ D ⟨rfl,e,q,d,b,g⟩
   dsimp only at e q d b g ⊢
   subst e
   by_cases hu:u ≥ n - a
   ·rw [aC9 hu]
    refine wpS_pure ?_
    dsimp only
    refine last _ _ _ (by omega) (by omega) (fun i hi=>?_) (fun i hi hn=>by omega) (fun _ _=>rfl)
    by_cases hi2:i=a+l
    ·rw [hi2];exact b
    ·exact mono i _ (by omega) d b
   ·rw [aD0 hu]
    refine wpS_bind (m:=bey left p arr base (a+u)) (hb _ (by omega) _ _ x ?_)
    dsimp only
    cases e1:B (a+u) with
    | true =>
     rw [aD0 (by decide)]
     exact wpS_pure ⟨rfl,rfl,by dsimp only;omega,by dsimp only;omega,e1,by dsimp only;omega⟩
    | false =>
     rw [aC9 (by decide)]
     refine wpS_pure ?_
     dsimp only
     refine last _ _ _ (by omega) (by omega) (fun i hi=>?_) (fun i hi hn=>?_) (fun _ _=>rfl)
     ·by_cases hi2:i=a+l
      ·rw [hi2];exact b
      ·exact mono i _ (by omega) d b
     ·by_cases hi2:i=a+u
      ·rw [hi2];exact e1
      ·exact c _ i (by omega) hn e1
  ·rintro ⟨o,l,u⟩ st' ⟨rfl,e,q,d,b,g⟩
   dsimp only at e q d b g ⊢
   subst e
   dsimp only
   refine last _ _ _ (by omega) (by omega) (fun i hi=>?_) (fun i hi hn=>by omega) (fun _ _=>rfl)
   by_cases hi2:i=a+l
   ·rw [hi2];exact b
   ·exact mono i _ (by omega) d b
 | false =>
  rw [aD0 (by decide)]
  refine wpS_bind ?_
  refine wpS_forRange (fun t (z:Option (Option Nat) × Nat × Nat) st'=>st'=st/\z.1=none/\z.2.1 < z.2.2/\z.2.1<=a/\B (a - z.2.1)=false/\t+1<=z.2.2) ?_ ?_ ⟨rfl,rfl,by decide,aD4 _,e0,az0 _⟩
  ·rintro t ⟨o,l,u⟩ st' _ D ⟨rfl,e,q,d,b,g⟩
   dsimp only at e q d b g ⊢
   subst e
   have v:∀ i,a - l<=i->i < n->B i=false:=fun i hi hn=>by
    by_cases hi2:i=a - l
    ·rw [hi2];exact b
    ·exact c _ i (by omega) hn b
   by_cases hu:u ≥ a+1
   ·rw [aC9 hu]
    refine wpS_pure ?_
    dsimp only
    exact last _ _ _ (by omega) (by omega) (fun i hi=>by omega) v (fun _ _=>rfl)
   ·rw [aD0 hu]
    refine wpS_bind (m:=bey left p arr base (a - u)) (hb _ (by omega) _ _ x ?_)
    dsimp only
    cases e1:B (a - u) with
    | true =>
     rw [aC9 rfl]
     refine wpS_pure ?_
     dsimp only
     refine last _ _ _ (by omega) (by omega) (fun i hi=>?_) v (fun _ _=>rfl)
     by_cases hi2:i=a - u
     ·rw [hi2];exact e1
     ·exact mono i _ (by omega) (by omega) e1
    | false =>
     rw [aD0 (by decide)]
     exact wpS_pure ⟨rfl,rfl,by dsimp only;omega,by dsimp only;omega,e1,by dsimp only;omega⟩
  ·rintro ⟨o,l,u⟩ st' ⟨rfl,e,q,d,b,g⟩
   dsimp only at e q d b g ⊢
   subst e
   dsimp only
   refine last _ _ _ (by omega) (by omega) (fun i hi=>by omega) (fun i hi hn=>?_) (fun _ _=>rfl)
   by_cases hi2:i=a - l
   ·rw [hi2];exact b
   ·exact c _ i (by omega) hn b
end
def Srt (R:Keyed->Keyed->Bool) (l:List Keyed):Prop:=l.Pairwise fun x y=>R y x=false
structure Mid (R:Keyed->Keyed->Bool) (L out a b:List Keyed):Prop where
 perm:(out ++ a ++ b).Perm L
 so:Srt R out
 le:∀ x∈out,∀ y∈a ++ b,R y x=false
 sa:Srt R a
 sb:Srt R b
section
variable {R:Keyed->Keyed->Bool} {L out a b p:List Keyed}
theorem Mid.takeA (m:Mid R L out (p ++ a) b) (h:∀ x∈p,∀ y∈b,R y x=false):Mid R L (out ++ p) a b:=by
 have sp:=aB2.mp m.sa
 refine ⟨by have:=m.perm;rw [← az7] at this;exact this,aB2.mpr ⟨m.so,sp.1,fun x d y c=>m.le x d y (aB0 _ (aB0 _ c))⟩,fun x d y c=>?_,sp.2.1,m.sb⟩
 rcases az1.mp d with d | d
 ·refine m.le x d y ?_
  rcases az1.mp c with c | c
  ·exact aB0 _ (az6 _ c)
  ·exact az6 _ c
 ·rcases az1.mp c with c | c
  ·exact sp.2.2 x d y c
  ·exact h x d y c
theorem Mid.takeB (m:Mid R L out a (p ++ b)) (h:∀ x∈p,∀ y∈a,R y x=false):Mid R L (out ++ p) a b:=by
 have sp:=aB2.mp m.sb
 refine ⟨List.Perm.trans ?_ m.perm,aB2.mpr ⟨m.so,sp.1,fun x d y c=>m.le x d y (az6 _ (aB0 _ c))⟩,fun x d y c=>?_,m.sa,sp.2.1⟩
 ·rw [← az7 (out ++ a) p b]
  refine List.Perm.append_right b ?_
  rw [az7,az7]
  exact List.Perm.append_left out List.perm_append_comm
 ·rcases az1.mp d with d | d
  ·refine m.le x d y ?_
   rcases az1.mp c with c | c
   ·exact aB0 _ c
   ·exact az6 _ (az6 _ c)
  ·rcases az1.mp c with c | c
   ·exact h x d y c
   ·exact sp.2.2 x d y c
theorem Mid.done (m:Mid R L out a b) (h:a=[]\/b=[]):(out ++ a ++ b).Perm L/\Srt R (out ++ a ++ b):=by
 refine ⟨m.perm,?_⟩
 rw [az7]
 refine aB2.mpr ⟨m.so,?_,m.le⟩
 rcases h with h | h
 ·subst h;exact m.sb
 ·subst h;rw [aC6];exact m.sa
theorem Mid.last (m:Mid R L out a b) (h:∀ y∈b,∀ x∈a,R x y=false):(out ++ b ++ a).Perm L/\Srt R (out ++ b ++ a):=by
 refine ⟨List.Perm.trans ?_ m.perm,?_⟩
 ·rw [az7,az7]
  exact List.Perm.append_left out List.perm_append_comm
 ·rw [az7]
  refine aB2.mpr ⟨m.so,aB2.mpr ⟨m.sb,m.sa,h⟩,fun x d y c=>m.le x d y ?_⟩
  rcases az1.mp c with c | c
  ·exact az6 _ c
  ·exact aB0 _ c
end
structure Eqv (st st':SortSt):Prop where
 k:kindOf st'=kindOf st
 a:arrOf st'=arrOf st
 p:pendingOf st'=pendingOf st
 f:failedOf st'=failedOf st
theorem Eqv.refl (st:SortSt):Eqv st st:=⟨rfl,rfl,rfl,rfl⟩
theorem Eqv.trans {a b c:SortSt} (h:Eqv a b) (g:Eqv b c):Eqv a c:=⟨g.k.trans h.k,g.a.trans h.a,g.p.trans h.p,g.f.trans h.f⟩
theorem afw (a:Array Keyed) (i:Nat):(a.extract i a.size).toList=a.toList.drop i:=by
 rw [Array.toList_extract];simp only [List.extract_eq_take_drop];exact aC7 (by simp)
theorem ah3 (a:Array Keyed) (i k:Nat):(a.extract i (i+k)).toList=(a.toList.drop i).take k:=by
 rw [Array.toList_extract];simp [List.extract]
theorem abi {a:Array Keyed} {i:Nat} (h:i < a.size):a.toList.drop i=a[i] :: a.toList.drop (i+1):=by
 rw [List.drop_eq_getElem_cons (by simpa using h)];simp
section
variable {M:Model} {A:Around} {E:Value->Shared->Prop} {s:Shared} {κ:SortKind} {S:Keyed->Prop} {R:Keyed->Keyed->Bool}
theorem Cmp.irr {x:Keyed} (C:Cmp M A E s κ S R) (a:S x):R x x=false:=by
 cases e:R x x with
 | false=>rfl
 | true=>have:=C.asy x x a a e;rw [e] at this;cases this
theorem afj (C:Cmp M A E s κ S R) {b:Keyed} {arr:Array Keyed} {base n l:Nat} (g:S b) (G:∀ x∈arr.toList,S x) (hn:base+n<=arr.size) (L:Srt R ((arr.toList.drop base).take n)) (hh:l < n)
  {Q:Option Nat->SortSt->Prop} {st:SortSt} (U:kindOf st = κ)
  (h:∀ k,k<=n->(∀ x∈(arr.toList.drop base).take k,R b x=false)->(∀ x∈((arr.toList.drop base).take n).drop k,R b x=true)->Q (some k) st) :
  wpS M A E s (ah2 false b arr base n l) Q st:=by
 have a:∀ i,i < n->∃ x,arr[base+i]?=some x/\S x/\((arr.toList.drop base).take n)[i]?=some x:=fun i hi=>by
  have q:base+i < arr.size:=by omega
  refine ⟨arr[base+i],ay8 q,G _ (by simp),?_⟩
  rw [aE9 hi,aF6]
  simp [q]
 have m:∀ i j x y,i < j->j < n->arr[base+i]?=some x->arr[base+j]?=some y->R y x=false:=fun i j x y o hj ex H=>by
  obtain ⟨Y,d,_,c⟩:=a i (by omega)
  obtain ⟨W,F,_,z⟩:=a j hj
  rw [ex] at d;cases d
  rw [H] at F;cases F
  obtain ⟨I,c⟩:=ay5.mp c
  obtain ⟨J,z⟩:=ay5.mp z
  have:=aE1.mp L i j I J o
  rw [c,z] at this
  exact this
 refine aiq (κ:=κ) (B:=fun i=>match arr[base+i]? with | some x => !(R b x) | none=>false) (fun i hi X st' r D=>?_) (fun i j o hj p=>?_) hh U fun k u N O=>h k u (fun x w=>?_) fun x w=>?_
 ·obtain ⟨x,d,v,_⟩:=a i hi
  unfold bey
  refine wpS_bind (aau d ?_)
  rw [aD0 (by decide)]
  refine wpS_bind (C.ask _ _ g v _ _ r ?_)
  refine wpS_pure ?_
  simp only [d] at D
  exact D
 ·obtain ⟨x,d,v,_⟩:=a i (by omega)
  obtain ⟨y,c,T,_⟩:=a j hj
  simp only [d,c] at p ⊢
  have P:=m i j x y o hj d c
  have K:R b y=false:=by simpa using p
  have:=C.tr x y b v T g P K
  simp [this]
 ·obtain ⟨i,hi,e⟩:=List.getElem_of_mem w
  have f:i < k:=by rw [aE4] at hi;omega
  obtain ⟨y,d,_,c⟩:=a i (by omega)
  have hb:=N i f
  simp only [d] at hb
  have ex:x=y:=by
   have:((arr.toList.drop base).take k)[i]?=some x:=by rw [ay4 hi,e]
   rw [aE9 f] at this
   rw [aE9 (by omega)] at c
   rw [this] at c;exact aA9 c
  subst ex
  simpa using hb
 ·obtain ⟨i,hi,e⟩:=List.getElem_of_mem w
  have f:k+i < n:=by rw [List.length_drop,aE4] at hi;omega
  obtain ⟨y,d,_,c⟩:=a (k+i) f
  have hb:=O (k+i) (by omega) f
  simp only [d] at hb
  have ex:x=y:=by
   have:(((arr.toList.drop base).take n).drop k)[i]?=some x:=by rw [ay4 hi,e]
   rw [aF6] at this
   rw [this] at c;exact aA9 c
  subst ex
  simpa using hb
theorem agg (C:Cmp M A E s κ S R) {b:Keyed} {arr:Array Keyed} {base n l:Nat} (g:S b) (G:∀ x∈arr.toList,S x) (hn:base+n<=arr.size) (K:Srt R ((arr.toList.drop base).take n)) (hh:l < n)
  {Q:Option Nat->SortSt->Prop} {st:SortSt} (T:kindOf st = κ)
  (h:∀ k,k<=n->(∀ x∈(arr.toList.drop base).take k,R x b=true)->(∀ x∈((arr.toList.drop base).take n).drop k,R x b=false)->Q (some k) st) :
  wpS M A E s (ah2 true b arr base n l) Q st:=by
 have a:∀ i,i < n->∃ x,arr[base+i]?=some x/\S x/\((arr.toList.drop base).take n)[i]?=some x:=fun i hi=>by
  have q:base+i < arr.size:=by omega
  refine ⟨arr[base+i],ay8 q,G _ (by simp),?_⟩
  rw [aE9 hi,aF6]
  simp [q]
 have o:∀ i j x y,i < j->j < n->arr[base+i]?=some x->arr[base+j]?=some y->R y x=false:=fun i j x y p hj ex H=>by
  obtain ⟨X,d,_,c⟩:=a i (by omega)
  obtain ⟨U,F,_,z⟩:=a j hj
  rw [ex] at d;cases d
  rw [H] at F;cases F
  obtain ⟨I,c⟩:=ay5.mp c
  obtain ⟨J,z⟩:=ay5.mp z
  have:=aE1.mp K i j I J p
  rw [c,z] at this
  exact this
 refine aiq (κ:=κ) (B:=fun i=>match arr[base+i]? with | some x=>R x b | none=>false) (fun i hi W st' r D=>?_) (fun i j p hj m=>?_) hh T fun k u L N=>h k u (fun x w=>?_) fun x w=>?_
 ·obtain ⟨x,d,v,_⟩:=a i hi
  unfold bey
  refine wpS_bind (aau d ?_)
  rw [aC9 rfl]
  simp only [d] at D
  exact C.ask _ _ v g _ _ r D
 ·obtain ⟨x,d,v,_⟩:=a i (by omega)
  obtain ⟨y,c,P,_⟩:=a j hj
  simp only [d,c] at m ⊢
  have O:=o i j x y p hj d c
  cases e:R x b with
  | true=>rfl
  | false =>
   have:=C.tr b x y g v P e O
   rw [this] at m;cases m
 ·obtain ⟨i,hi,e⟩:=List.getElem_of_mem w
  have f:i < k:=by rw [aE4] at hi;omega
  obtain ⟨y,d,_,c⟩:=a i (by omega)
  have hb:=L i f
  simp only [d] at hb
  have ex:x=y:=by
   have:((arr.toList.drop base).take k)[i]?=some x:=by rw [ay4 hi,e]
   rw [aE9 f] at this
   rw [aE9 (by omega)] at c
   rw [this] at c;exact aA9 c
  subst ex
  exact hb
 ·obtain ⟨i,hi,e⟩:=List.getElem_of_mem w
  have f:k+i < n:=by rw [List.length_drop,aE4] at hi;omega
  obtain ⟨y,d,_,c⟩:=a (k+i) f
  have hb:=N (k+i) (by omega) f
  simp only [d] at hb
  have ex:x=y:=by
   have:(((arr.toList.drop base).take n).drop k)[i]?=some x:=by rw [ay4 hi,e]
   rw [aF6] at this
   rw [this] at c;exact aA9 c
  subst ex
  exact hb
end
section
variable {M:Model} {A:Around} {E:Value->Shared->Prop} {s:Shared} {κ:SortKind} {S:Keyed->Prop} {R:Keyed->Keyed->Bool}
structure Two (S:Keyed->Prop) (R:Keyed->Keyed->Bool) (a b:Array Keyed):Prop where
 ha:∀ x∈a.toList,S x
 hb:∀ x∈b.toList,S x
 sa:Srt R a.toList
 sb:Srt R b.toList
 a0:0 < a.size
 b0:0 < b.size
 first:∀ x∈a.toList,∀ y,b[0]?=some y->R x y=false
 last:∀ y∈b.toList,∀ x,a[a.size - 1]?=some x->R x y=false
def Fin2 (R:Keyed->Keyed->Bool) (a b m:Array Keyed):Prop:=m.toList.Perm (a.toList ++ b.toList)/\Srt R m.toList
structure Lo (S:Keyed->Prop) (R:Keyed->Keyed->Bool) (a b out:Array Keyed) (ia ib:Nat):Prop where
 mid:Mid R (a.toList ++ b.toList) out.toList (a.toList.drop ia) (b.toList.drop ib)
 ia:ia<=a.size
 ib:ib<=b.size
theorem Lo.len {a b out:Array Keyed} {ia ib:Nat} (l:Lo S R a b out ia ib):out.size+(a.size - ia)+(b.size - ib)=a.size+b.size:=by
 have:=l.mid.perm.length_eq
 simp at this
 omega
theorem Lo.doneA {a b out:Array Keyed} {ia ib:Nat} (l:Lo S R a b out ia ib) (h:ib=b.size\/ia=a.size):Fin2 R a b (out ++ a.extract ia ++ b.extract ib):=by
 have:=l.mid.done (by
  rcases h with h | h
  ·right;rw [h];simp
  ·left;rw [h];simp)
 unfold Fin2
 rw [aE0,aE0,afw,afw]
 exact this
theorem apa {a:Array Keyed} {i:Nat} (h:i+1=a.size):a.toList.drop i=[a[a.size - 1]'(by omega)]:=by
 have hi:i < a.size:=by omega
 rw [abi hi]
 have:i=a.size - 1:=by omega
 subst this
 have e:a.toList.drop (a.size - 1+1)=[]:=by
  apply List.drop_eq_nil_of_le
  simp;omega
 rw [e]
theorem Lo.lastA {a b out:Array Keyed} {ia ib:Nat} (T:Two S R a b) (l:Lo S R a b out ia ib) (h:ia+1=a.size):Fin2 R a b (out ++ b.extract ib ++ a.extract ia):=by
 have:=l.mid.last (by
  intro y d x c
  rw [apa h] at c
  have ex:x=a[a.size - 1]'(by omega):=by simpa using c
  refine T.last y (aA7 d) x ?_
  rw [ex]
  exact ay8 _)
 unfold Fin2
 rw [aE0,aE0,afw,afw]
 exact this
theorem ad2 {x:Keyed} {l:List Keyed} (C:Cmp M A E s κ S R) (h:Srt R (x :: l)) (b:S x):∀ y∈x :: l,R y x=false:=by
 intro y a
 rcases az2.mp a with e | a
 ·rw [e];exact C.irr b
 ·exact (aF8.mp h).1 y a
theorem Lo.pushB {a b out:Array Keyed} {ia ib:Nat} (C:Cmp M A E s κ S R) (T:Two S R a b) (l:Lo S R a b out ia ib) (hb:ib < b.size) (h:∀ x∈a.toList.drop ia,R x b[ib]=false):Lo S R a b (out.push b[ib]) ia (ib+1):=by
 refine ⟨?_,l.ia,hb⟩
 have m:=l.mid
 rw [abi hb] at m
 rw [Array.toList_push]
 exact m.takeB (p:=[b[ib]]) (fun x d y c=>by
  have:x=b[ib]:=by simpa using d
  rw [this];exact h y c)
theorem Lo.pushA {a b out:Array Keyed} {ia ib:Nat} (l:Lo S R a b out ia ib) (ha:ia < a.size) (h:∀ y∈b.toList.drop ib,R y a[ia]=false):Lo S R a b (out.push a[ia]) (ia+1) ib:=by
 refine ⟨?_,ha,l.ib⟩
 have m:=l.mid
 rw [abi ha] at m
 rw [Array.toList_push]
 exact m.takeA (p:=[a[ia]]) (fun x d y c=>by
  have:x=a[ia]:=by simpa using d
  rw [this];exact h y c)
theorem Lo.runA {a b out:Array Keyed} {ia ib k:Nat} (l:Lo S R a b out ia ib) (d:ia+k<=a.size) (h:∀ x∈(a.toList.drop ia).take k,∀ y∈b.toList.drop ib,R y x=false):Lo S R a b (out ++ a.extract ia (ia+k)) (ia+k) ib:=by
 refine ⟨?_,d,l.ib⟩
 have m:=l.mid
 rw [← aA4 k (a.toList.drop ia)] at m
 rw [aE0,ah3]
 have c:=m.takeA h
 rw [List.drop_drop] at c
 exact c
theorem Lo.runB {a b out:Array Keyed} {ia ib k:Nat} (l:Lo S R a b out ia ib) (d:ib+k<=b.size) (h:∀ x∈(b.toList.drop ib).take k,∀ y∈a.toList.drop ia,R y x=false):Lo S R a b (out ++ b.extract ib (ib+k)) ia (ib+k):=by
 refine ⟨?_,l.ia,d⟩
 have m:=l.mid
 rw [← aA4 k (b.toList.drop ib)] at m
 rw [aE0,ah3]
 have c:=m.takeB h
 rw [List.drop_drop] at c
 exact c
theorem acf {l:List Keyed} {i:Nat} (h:Srt R l):Srt R (l.drop i):=List.Pairwise.sublist (List.drop_sublist i l) h
theorem jpn {α β:Type} {prog : β->StateT SortSt Sem α} {P : β->Prop} {Q : α->SortSt->Prop} {st:SortSt} {G:Prop} (use:(∀ m,P m->wpS M A E s (prog m) Q st)->G) (a:∀ m,P m->wpS M A E s (prog m) Q st):G:=use a
theorem jpn2 {α:Type} {prog:Array Keyed->Nat->StateT SortSt Sem α} {P:Array Keyed->Nat->Prop} {Q : α->SortSt->Prop} {st:SortSt} {G:Prop} (use:(∀ o i,P o i->wpS M A E s (prog o i) Q st)->G) (a:∀ o i,P o i->wpS M A E s (prog o i) Q st):G:=use a
section
variable {ρ β γ δ ε ζ η:Type}
@[elab_as_elim] theorem un5 {J : β->γ->δ->ε->Prop} {G:Option ρ × β × γ × δ × ε->Prop} (z:Option ρ × β × γ × δ × ε) (h:z.1=none/\J z.2.1 z.2.2.1 z.2.2.2.1 z.2.2.2.2) (k:∀ x y u v,J x y u v->G (none,x,y,u,v)):G z:=by
 have e:z=(none,z.2.1,z.2.2.1,z.2.2.2.1,z.2.2.2.2):=by rw [← h.1]
 rw [e];exact k _ _ _ _ h.2
@[elab_as_elim] theorem un6 {J : β->γ->δ->ε->ζ->Prop} {G:Option ρ × β × γ × δ × ε × ζ->Prop} (z:Option ρ × β × γ × δ × ε × ζ) (h:z.1=none/\J z.2.1 z.2.2.1 z.2.2.2.1 z.2.2.2.2.1 z.2.2.2.2.2) (k:∀ x y u v a,J x y u v a->G (none,x,y,u,v,a)):G z:=by
 have e:z=(none,z.2.1,z.2.2.1,z.2.2.2.1,z.2.2.2.2.1,z.2.2.2.2.2):=by rw [← h.1]
 rw [e];exact k _ _ _ _ _ h.2
@[elab_as_elim] theorem un7 {J : β->γ->δ->ε->ζ->η->Prop} {G:Option ρ × β × γ × δ × ε × ζ × η->Prop} (z:Option ρ × β × γ × δ × ε × ζ × η) (h:z.1=none/\J z.2.1 z.2.2.1 z.2.2.2.1 z.2.2.2.2.1 z.2.2.2.2.2.1 z.2.2.2.2.2.2) (k:∀ x y u v a b,J x y u v a b->G (none,x,y,u,v,a,b)):G z:=by
 have e:z=(none,z.2.1,z.2.2.1,z.2.2.2.1,z.2.2.2.2.1,z.2.2.2.2.2.1,z.2.2.2.2.2.2):=by rw [← h.1]
 rw [e];exact k _ _ _ _ _ _ h.2
@[elab_as_elim] theorem unR {κ:Type} {F : ρ->Prop} {J : κ->Prop} {G:Option ρ × κ->Prop} (z:Option ρ × κ) (h:(∃ r,z.1=some r/\F r)\/(z.1=none/\J z.2)) (a:∀ r x,F r->G (some r,x)) (c:z.1=none/\J z.2->G z):G z:=by
 rcases h with ⟨r,e,b⟩ | h
 ·have e:z=(some r,z.2):=by rw [← e]
  rw [e];exact a _ _ b
 ·exact c h
end
theorem aaj {c:Prop} [Decidable c] {α:Type} {b a:StateT SortSt Sem α} {Q : α->SortSt->Prop} {st:SortSt} (d:c->wpS M A E s b Q st) (f:¬ c->wpS M A E s a Q st):wpS M A E s (if c then b else a) Q st:=by
 by_cases h:c
 ·rw [aC9 h];exact d h
 ·rw [aD0 h];exact f h
theorem anr (C:Cmp M A E s κ S R) {a b:Array Keyed} (T:Two S R a b) {Q:Array Keyed->SortSt->Prop} {st:SortSt} (hk:kindOf st = κ)
  (h:∀ m st',Eqv st st'->Fin2 R a b m->Q m st'):wpS M A E s (aq7 a b) Q st:=by
 have L:∀ i (h:i < a.size),S a[i]:=fun i h=>T.ha _ (by simp)
 have O:∀ i (h:i < b.size),S b[i]:=fun i h=>T.hb _ (by simp)
 have b0:=T.b0
 have a0:=T.a0
 refine wpS_bind (acz ?_)
 refine wpS_bind (aau (x:=b[0]'b0) (ay8 b0) ?_)
 have l1:Lo S R a b #[b[0]'b0] 0 1:=by
  have l0:Lo S R a b #[] 0 0:=⟨⟨by simp,List.Pairwise.nil,fun x w=>by simp at w,T.sa,T.sb⟩,aD4 _,aD4 _⟩
  exact l0.pushB C T b0 fun x w=>T.first x (by simpa using w) _ (ay8 b0)
 refine aaj (fun e1=>wpS_pure (h _ _ (Eqv.refl _) (l1.doneA (.inl (aD7.mp e1))))) (fun e1=>?_)
 refine aaj (fun e2=>wpS_pure (h _ _ (Eqv.refl _) (l1.lastA T (aD7.mp e2)))) (fun e2=>?_)
 replace e1:1 ≠ b.size:=fun q=>e1 (aD7.mpr q)
 replace e2:0+1 ≠ a.size:=fun q=>e2 (aD7.mpr q)
 refine wpS_bind (wpS_get ?_)
 refine wpS_bind (wpS_mono (Q:=fun (z:Option (Array Keyed) × Array Keyed × Nat × Nat × Nat) st'=>Eqv st st'/\∃ r,z.1=some r/\Fin2 R a b r) ?_ ?_)
 ·refine wpS_forRange (fun t (z:Option (Array Keyed) × Array Keyed × Nat × Nat × Nat) st'=>Eqv st st'/\z.1=none/\Lo S R a b z.2.1 z.2.2.1 z.2.2.2.1/\z.2.2.1+1 < a.size/\z.2.2.2.1 < b.size/\t+1<=z.2.1.size) ?_ ?_ ⟨Eqv.refl _,rfl,l1,by dsimp only;omega,by dsimp only;omega,by simp⟩
  ·intro t z a8 _ ht n
   have q1:=n.1
   refine un5 (J:=fun out ia ib _=>Lo S R a b out ia ib/\ia+1 < a.size/\ib < b.size/\t+1<=out.size) z n.2 fun out ia ib mg v=>?_
   dsimp only
   refine wpS_bind (wpS_mono (Q:=fun (z:Option (Array Keyed) × Array Keyed × Nat × Nat × Nat × Nat) st'=>Eqv st st'/\((∃ r,z.1=some r/\Fin2 R a b r)\/(z.1=none/\Lo S R a b z.2.1 z.2.2.1 z.2.2.2.1/\z.2.2.1+1 < a.size/\z.2.2.2.1 < b.size/\t+2<=z.2.1.size))) ?_ ?_)
   ·refine wpS_forRange (fun i (z:Option (Array Keyed) × Array Keyed × Nat × Nat × Nat × Nat) st'=>Eqv st st'/\z.1=none/\Lo S R a b z.2.1 z.2.2.1 z.2.2.2.1/\z.2.2.1+1 < a.size/\z.2.2.2.1 < b.size/\t+1+min i 1<=z.2.1.size) ?_ ?_ ⟨q1,rfl,v.1,v.2.1,v.2.2.1,v.2.2.2⟩
    ·intro i z o _ hi n
     have q:=n.1
     refine un6 (J:=fun out ia ib _ _=>Lo S R a b out ia ib/\ia+1 < a.size/\ib < b.size/\t+1+min i 1<=out.size) z n.2 fun out ia ib ac bc v=>?_
     have l:=v.1
     have I:=v.2.1
     have d:=v.2.2.1
     have hsz:=v.2.2.2
     have g:ia < a.size:=Nat.lt_of_succ_lt I
     refine wpS_bind (aau (x:=b[ib]) (ay8 d) ?_)
     refine wpS_bind (aau (x:=a[ia]) (ay8 g) ?_)
     refine wpS_bind (C.ask _ _ (O ib d) (L ia g) _ _ (q.k.trans hk) ?_)
     dsimp only
     refine aaj (fun er=>?_) (fun er=>?_)
     ·refine wpS_bind (aau (x:=b[ib]) (ay8 d) ?_)
      have D:Lo S R a b (out.push b[ib]) ia (ib+1):=l.pushB C T d fun x w=>by
       rw [abi g] at w
       have hd:Srt R (a[ia] :: a.toList.drop (ia+1)):=by rw [← abi g];exact acf T.sa
       have sx:S x:=T.ha x (aA7 (i:=ia) (by rw [abi g];exact w))
       exact C.tr _ _ _ (O ib d) (L ia g) sx (C.asy _ _ (O ib d) (L ia g) er) (ad2 C hd (L ia g) x w)
      refine aaj (fun F=>wpS_pure ⟨q,.inl ⟨_,rfl,D.doneA (.inl (aD7.mp F))⟩⟩) (fun F=>?_)
      have hf:ib+1 < b.size/\t+2<=(out.push b[ib]).size:=by
       have Y:ib+1 ≠ b.size:=fun q=>F (aD7.mpr q)
       rw [aF3];omega
      refine aaj (fun _=>wpS_pure ⟨q,.inr ⟨rfl,D,I,hf⟩⟩) (fun _=>wpS_pure ⟨q,rfl,D,I,hf.1,aB3 (by omega) hf.2⟩)
     ·refine wpS_bind (aau (x:=a[ia]) (ay8 g) ?_)
      have D:Lo S R a b (out.push a[ia]) (ia+1) ib:=l.pushA g fun y K=>by
       rw [abi d] at K
       have hd:Srt R (b[ib] :: b.toList.drop (ib+1)):=by rw [← abi d];exact acf T.sb
       have sy:S y:=T.hb y (aA7 (i:=ib) (by rw [abi d];exact K))
       exact C.tr _ _ _ (L ia g) (O ib d) sy (eq_false_of_ne_true er) (ad2 C hd (O ib d) y K)
      refine aaj (fun F=>wpS_pure ⟨q,.inl ⟨_,rfl,D.lastA T (aD7.mp F)⟩⟩) (fun F=>?_)
      have hf:ia+1+1 < a.size/\ib < b.size/\t+2<=(out.push a[ia]).size:=by
       have Y:ia+1+1 ≠ a.size:=fun q=>F (aD7.mpr q)
       rw [aF3];omega
      refine aaj (fun _=>wpS_pure ⟨q,.inr ⟨rfl,D,hf⟩⟩) (fun _=>wpS_pure ⟨q,rfl,D,hf.1,d,aB3 (by omega) hf.2.2⟩)
    ·exact fun z o n=>⟨n.1,.inr ⟨n.2.1,n.2.2.1,n.2.2.2.1,n.2.2.2.2.1,aB3 (by omega) n.2.2.2.2.2⟩⟩
   ·intro z o n
    have W:=n.1
    refine unR (J:=fun y:Array Keyed × Nat × Nat × Nat × Nat=>Lo S R a b y.1 y.2.1 y.2.2.1/\y.2.1+1 < a.size/\y.2.2.1 < b.size/\t+2<=y.1.size) z n.2 (fun r x Z=>wpS_pure ⟨W,r,rfl,Z⟩) fun hN=>?_
    refine un6 (J:=fun out ia ib _ _=>Lo S R a b out ia ib/\ia+1 < a.size/\ib < b.size/\t+2<=out.size) z hN fun out ia ib ac bc v=>?_
    dsimp only
    refine wpS_bind (acz ?_)
    refine wpS_bind (wpS_mono (Q:=fun (z:Option (Array Keyed) × Array Keyed × Nat × Nat × Nat × Nat × Nat) st'=>Eqv st st'/\((∃ r,z.1=some r/\Fin2 R a b r)\/(z.1=none/\Lo S R a b z.2.1 z.2.2.1 z.2.2.2.1/\z.2.2.1+1 < a.size/\z.2.2.2.1 < b.size/\t+2<=z.2.1.size))) ?_ ?_)
    ·refine wpS_forRange (fun i (z:Option (Array Keyed) × Array Keyed × Nat × Nat × Nat × Nat × Nat) st'=>Eqv st st'/\z.1=none/\Lo S R a b z.2.1 z.2.2.1 z.2.2.2.1/\z.2.2.1+1 < a.size/\z.2.2.2.1 < b.size/\t+2<=z.2.1.size) ?_ (fun z o n=>⟨n.1,.inr n.2⟩) ⟨W,rfl,v⟩
     intro i z o _ hi n
     have q:=n.1
     refine un7 (J:=fun out ia ib _ _ _=>Lo S R a b out ia ib/\ia+1 < a.size/\ib < b.size/\t+2<=out.size) z n.2 fun out ia ib mg ac bc v=>?_
     have l:=v.1
     have I:=v.2.1
     have d:=v.2.2.1
     have hsz:=v.2.2.2
     dsimp only
     refine' jpn (M:=M) (A:=A) (E:=E) (s:=s) (st:=o) (β:=Nat) (P:=fun _=>True) (prog:=?prog) (fun U=>?use) (fun a6 _=>?pf)
     case use =>
      refine aaj (fun hm=>?_) (fun hm=>?_)
      ·generalize mg - 1=m
       exact U m trivial
      ·exact U mg trivial
     refine wpS_bind (wpS_mono (Q:=fun _ N=>Eqv o N) (wpS_modify ⟨rfl,rfl,rfl,rfl⟩) fun _ N G=>?_)
     replace G:=q.trans G
     refine wpS_bind (aau (x:=b[ib]) (ay8 d) ?_)
     refine wpS_bind (afj C (O ib d) T.ha (by omega) (by rw [aC7 (by simp)];exact acf T.sa) (by omega) (G.k.trans hk) fun k a4 h1 h2=>?_)
     rw [aC7 (by simp),List.drop_drop] at h2
     dsimp only
     refine' jpn2 (M:=M) (A:=A) (E:=E) (s:=s) (st:=N) (P:=fun j c=>Lo S R a b j c ib/\c+1 < a.size/\(∀ x∈a.toList.drop c,R x b[ib]=false)/\t+2<=j.size) (prog:=?prog2) (fun U=>?use2) (fun j c h5=>?pf2)
     case use2 =>
      have u:∀ x∈a.toList.drop (ia+k),R x b[ib]=false:=fun x w=>C.asy _ _ (O ib d) (T.ha x (aA7 w)) (h2 x w)
      refine aaj (fun k0=>?_) (fun k0=>?_)
      ·have D:Lo S R a b (out ++ a.extract ia (ia+k)) (ia+k) ib:=l.runA (by omega) fun x w y K=>by
        rw [abi d] at K
        have hd:Srt R (b[ib] :: b.toList.drop (ib+1)):=by rw [← abi d];exact acf T.sb
        have sy:S y:=T.hb y (aA7 (i:=ib) (by rw [abi d];exact K))
        exact C.tr _ _ _ (T.ha x (aA7 (aA3 w))) (O ib d) sy (h1 x w) (ad2 C hd (O ib d) y K)
       refine aaj (fun F=>wpS_pure ⟨G,.inl ⟨_,rfl,D.lastA T (aD7.mp F)⟩⟩) (fun F=>?_)
       refine aaj (fun e4=>wpS_pure ⟨G,.inl ⟨_,rfl,D.doneA (.inr (aD7.mp e4))⟩⟩) (fun e4=>?_)
       have X:Lo S R a b (out ++ a.extract ia (ia+k)) (ia+k) ib/\ia+k+1 < a.size/\(∀ x∈a.toList.drop (ia+k),R x b[ib]=false)/\t+2<=(out ++ a.extract ia (ia+k)).size:=by
        have Y:ia+k+1 ≠ a.size:=fun q=>F (aD7.mpr q)
        have b1:ia+k ≠ a.size:=fun q=>e4 (aD7.mpr q)
        exact ⟨D,by omega,u,by rw [Array.size_append];omega⟩
       revert X
       clear F e4 D u
       generalize out ++ a.extract ia (ia+k)=j
       generalize ia+k=c
       intro X
       exact U j c X
      ·have:k=0:=by omega
       rw [this] at u
       exact U out ia ⟨l,I,u,hsz⟩
     have l3:=h5.1
     have a1:=h5.2.1
     have a2:=h5.2.2.1
     have a3:=h5.2.2.2
     have f:c < a.size:=Nat.lt_of_succ_lt a1
     refine wpS_bind (aau (x:=b[ib]) (ay8 d) ?_)
     have l4:=l3.pushB C T d a2
     refine aaj (fun e5=>wpS_pure ⟨G,.inl ⟨_,rfl,l4.doneA (.inl (aD7.mp e5))⟩⟩) (fun e5=>?_)
     replace e5:ib+1 ≠ b.size:=fun q=>e5 (aD7.mpr q)
     refine wpS_bind (aau (x:=a[c]) (ay8 f) ?_)
     refine wpS_bind (agg C (L c f) T.hb (by omega) (by rw [aC7 (by simp)];exact acf T.sb) (by omega) (G.k.trans hk) fun H a5 h3 h4=>?_)
     rw [aC7 (by simp),List.drop_drop] at h4
     dsimp only
     refine' jpn2 (M:=M) (A:=A) (E:=E) (s:=s) (st:=N) (P:=fun p B=>Lo S R a b p c B/\B < b.size/\(∀ y∈b.toList.drop B,R y a[c]=false)/\t+2<=p.size) (prog:=?prog3) (fun U=>?use3) (fun p B h6=>?pf3)
     case use3 =>
      refine aaj (fun k0=>?_) (fun k0=>?_)
      ·have hd:Srt R (a[c] :: a.toList.drop (c+1)):=by rw [← abi f];exact acf T.sa
       have l5:Lo S R a b (j.push b[ib] ++ b.extract (ib+1) (ib+1+H)) c (ib+1+H):=l4.runB (by omega) fun x w y K=>by
        rw [abi f] at K
        have sy:S y:=T.ha y (aA7 (i:=c) (by rw [abi f];exact K))
        have sx:S x:=T.hb x (aA7 (aA3 w))
        exact C.tr _ _ _ sx (L c f) sy (C.asy _ _ sx (L c f) (h3 x w)) (ad2 C hd (L c f) y K)
       refine aaj (fun e6=>wpS_pure ⟨G,.inl ⟨_,rfl,l5.doneA (.inl (aD7.mp e6))⟩⟩) (fun e6=>?_)
       have X:Lo S R a b (j.push b[ib] ++ b.extract (ib+1) (ib+1+H)) c (ib+1+H)/\ib+1+H < b.size/\(∀ y∈b.toList.drop (ib+1+H),R y a[c]=false)/\t+2<=(j.push b[ib] ++ b.extract (ib+1) (ib+1+H)).size:=by
        have a9:ib+1+H ≠ b.size:=fun q=>e6 (aD7.mpr q)
        exact ⟨l5,by omega,h4,by rw [Array.size_append,aF3];omega⟩
       revert X
       clear e6 l5 hd
       generalize j.push b[ib] ++ b.extract (ib+1) (ib+1+H)=p
       generalize ib+1+H=B
       intro X
       exact U p B X
      ·have:H=0:=by omega
       rw [this] at h4
       exact U (j.push b[ib]) (ib+1) ⟨l4,by omega,h4,by rw [aF3];omega⟩
     refine wpS_bind (aau (x:=a[c]) (ay8 f) ?_)
     have l7:=h6.1.pushA f h6.2.2.1
     refine aaj (fun e7=>wpS_pure ⟨G,.inl ⟨_,rfl,l7.lastA T (aD7.mp e7)⟩⟩) (fun e7=>?_)
     have hf:c+1+1 < a.size/\B < b.size/\t+2<=(p.push a[c]).size:=by
      have a7:c+1+1 ≠ a.size:=fun q=>e7 (aD7.mpr q)
      have h7:=h6.2.2.2
      exact ⟨by omega,h6.2.1,by rw [aF3];omega⟩
     exact aaj (fun _=>wpS_pure ⟨G,.inr ⟨rfl,l7,hf⟩⟩) (fun _=>wpS_pure ⟨G,rfl,l7,hf⟩)
    ·intro z o n
     have W:=n.1
     refine unR (J:=fun y:Array Keyed × Nat × Nat × Nat × Nat × Nat=>Lo S R a b y.1 y.2.1 y.2.2.1/\y.2.1+1 < a.size/\y.2.2.1 < b.size/\t+2<=y.1.size) z n.2 (fun r x Z=>wpS_pure ⟨W,r,rfl,Z⟩) fun hN=>?_
     refine un7 (J:=fun out ia ib _ _ _=>Lo S R a b out ia ib/\ia+1 < a.size/\ib < b.size/\t+2<=out.size) z hN fun out ia ib mg ac bc v=>?_
     dsimp only
     refine wpS_bind (wpS_modify ?_)
     exact wpS_pure ⟨W.trans ⟨rfl,rfl,rfl,rfl⟩,rfl,v⟩
  ·intro z o n
   exfalso
   have h1:=n.2.2.1.len
   have h2:=n.2.2.2
   have:a.size+b.size<=max 0 (a.size+b.size):=by omega
   omega
 ·intro z o n
  have W:=n.1
  exact unR (J:=fun _=>False) z (.inl n.2) (fun r x Z=>wpS_pure (h r o W Z)) fun hN=>hN.2.elim
end
structure MidH (R:Keyed->Keyed->Bool) (L a b tl:List Keyed):Prop where
 perm:(a ++ b ++ tl).Perm L
 so:Srt R tl
 le:∀ x∈a ++ b,∀ y∈tl,R y x=false
 sa:Srt R a
 sb:Srt R b
section
variable {R:Keyed->Keyed->Bool} {L tl a b p:List Keyed}
theorem MidH.takeA (m:MidH R L (a ++ p) b tl) (h:∀ x∈b,∀ y∈p,R y x=false):MidH R L a b (p ++ tl):=by
 have sp:=aB2.mp m.sa
 refine ⟨List.Perm.trans ?_ m.perm,aB2.mpr ⟨sp.2.1,m.so,fun x c y d=>m.le x (aB0 _ (az6 _ c)) y d⟩,fun x c y d=>?_,sp.1,m.sb⟩
 ·rw [← az7,az7 a p b,az7 a b p]
  exact List.Perm.append_right tl (List.Perm.append_left a List.perm_append_comm)
 ·rcases az1.mp d with d | d
  ·rcases az1.mp c with c | c
   ·exact sp.2.2 x c y d
   ·exact h x c y d
  ·refine m.le x ?_ y d
   rcases az1.mp c with c | c
   ·exact aB0 _ (aB0 _ c)
   ·exact az6 _ c
theorem MidH.takeB (m:MidH R L a (b ++ p) tl) (h:∀ x∈a,∀ y∈p,R y x=false):MidH R L a b (p ++ tl):=by
 have sp:=aB2.mp m.sb
 refine ⟨by have:=m.perm;simp only [az7] at this ⊢;exact this,aB2.mpr ⟨sp.2.1,m.so,fun x c y d=>m.le x (az6 _ (az6 _ c)) y d⟩,fun x c y d=>?_,m.sa,sp.1⟩
 rcases az1.mp d with d | d
 ·rcases az1.mp c with c | c
  ·exact h x c y d
  ·exact sp.2.2 x c y d
 ·refine m.le x ?_ y d
  rcases az1.mp c with c | c
  ·exact aB0 _ c
  ·exact az6 _ (aB0 _ c)
theorem MidH.done (m:MidH R L a b tl) (h:a=[]\/b=[]):(a ++ b ++ tl).Perm L/\Srt R (a ++ b ++ tl):=by
 refine ⟨m.perm,aB2.mpr ⟨?_,m.so,m.le⟩⟩
 rcases h with h | h
 ·subst h;exact m.sb
 ·subst h;rw [aC6];exact m.sa
theorem MidH.first (m:MidH R L a b tl) (h:∀ y∈b,∀ x∈a,R x y=false):(b ++ a ++ tl).Perm L/\Srt R (b ++ a ++ tl):=by
 refine ⟨List.Perm.trans (List.Perm.append_right tl List.perm_append_comm) m.perm,aB2.mpr ⟨aB2.mpr ⟨m.sb,m.sa,h⟩,m.so,fun x c y d=>m.le x ?_ y d⟩⟩
 rcases az1.mp c with c | c
 ·exact az6 _ c
 ·exact aB0 _ c
end
theorem ab3 {a:Array Keyed} {i:Nat} (b:0 < i) (h:i<=a.size):a.toList.take i=a.toList.take (i - 1) ++ [a[i - 1]'(by omega)]:=by
 obtain ⟨j,rfl⟩:∃ j,i=j+1:=⟨i - 1,by omega⟩
 rw [List.take_succ]
 have hj:j < a.size:=by omega
 simp [hj]
theorem ajx (a:Array Keyed) (k:Nat):(a.extract 0 k).toList=a.toList.take k:=by
 rw [Array.toList_extract];simp [List.extract]
theorem akq (a:Array Keyed) (k n:Nat):(a.extract k n).toList=(a.toList.take n).drop k:=by
 rw [Array.toList_extract];simp [List.extract,List.drop_take]
section
variable {M:Model} {A:Around} {E:Value->Shared->Prop} {s:Shared} {κ:SortKind} {S:Keyed->Prop} {R:Keyed->Keyed->Bool}
structure Hi (S:Keyed->Prop) (R:Keyed->Keyed->Bool) (a b out:Array Keyed) (na nb:Nat):Prop where
 mid:MidH R (a.toList ++ b.toList) (a.toList.take na) (b.toList.take nb) out.toList.reverse
 na:na<=a.size
 nb:nb<=b.size
theorem Hi.len {a b out:Array Keyed} {na nb:Nat} (l:Hi S R a b out na nb):out.size+na+nb=a.size+b.size:=by
 have:=l.mid.perm.length_eq
 have c:=l.na
 have d:=l.nb
 simp at this
 omega
theorem Hi.doneA {a b out:Array Keyed} {na nb:Nat} (l:Hi S R a b out na nb) (h:na=0\/nb=0):Fin2 R a b (a.extract 0 na ++ b.extract 0 nb ++ out.reverse):=by
 have:=l.mid.done (by
  rcases h with h | h
  ·left;rw [h];simp
  ·right;rw [h];simp)
 unfold Fin2
 rw [aE0,aE0,ajx,ajx,Array.toList_reverse]
 exact this
theorem Hi.firstB {a b out:Array Keyed} {na nb:Nat} (T:Two S R a b) (l:Hi S R a b out na nb) (h:nb=1):Fin2 R a b (b.extract 0 nb ++ a.extract 0 na ++ out.reverse):=by
 subst h
 have:=l.mid.first (by
  intro y c x f
  rw [ab3 (by decide) l.nb] at c
  have d:y=b[0]'T.b0:=by simpa using c
  exact T.first x (aA3 f) y (by rw [d];exact ay8 _))
 unfold Fin2
 rw [aE0,aE0,ajx,ajx,Array.toList_reverse]
 exact this
theorem abx {l:List Keyed} {i:Nat} (h:Srt R l):Srt R (l.take i):=List.Pairwise.sublist (List.take_sublist i l) h
theorem adj {x:Keyed} {l:List Keyed} (C:Cmp M A E s κ S R) (h:Srt R (l ++ [x])) (b:S x):∀ y∈l ++ [x],R x y=false:=by
 intro y a
 rcases az1.mp a with a | a
 ·exact (aB2.mp h).2.2 y a x (by simp)
 ·have:y=x:=by simpa using a
  rw [this];exact C.irr b
theorem Hi.pushA {a b out:Array Keyed} {na nb:Nat} (l:Hi S R a b out na nb) (c:0 < na) (h:∀ x∈b.toList.take nb,R (a[na - 1]'(by have:=l.na;omega)) x=false):Hi S R a b (out.push (a[na - 1]'(by have:=l.na;omega))) (na - 1) nb:=by
 refine ⟨?_,by have:=l.na;omega,l.nb⟩
 have m:=l.mid
 rw [ab3 c l.na] at m
 rw [Array.toList_push,List.reverse_append]
 exact m.takeA (p:=[_]) (fun x f y d=>by
  rw [aA5.mp d];exact h x f)
theorem Hi.pushB {a b out:Array Keyed} {na nb:Nat} (l:Hi S R a b out na nb) (c:0 < nb) (h:∀ x∈a.toList.take na,R (b[nb - 1]'(by have:=l.nb;omega)) x=false):Hi S R a b (out.push (b[nb - 1]'(by have:=l.nb;omega))) na (nb - 1):=by
 refine ⟨?_,l.na,by have:=l.nb;omega⟩
 have m:=l.mid
 rw [ab3 c l.nb] at m
 rw [Array.toList_push,List.reverse_append]
 exact m.takeB (p:=[_]) (fun x f y d=>by
  rw [aA5.mp d];exact h x f)
theorem Hi.runA {a b out:Array Keyed} {na nb k:Nat} (l:Hi S R a b out na nb) (d:k<=na) (h:∀ x∈b.toList.take nb,∀ y∈(a.toList.take na).drop k,R y x=false):Hi S R a b (out ++ (a.extract k na).reverse) k nb:=by
 refine ⟨?_,by have:=l.na;omega,l.nb⟩
 have m:=l.mid
 rw [← aA4 k (a.toList.take na)] at m
 rw [aE0,Array.toList_reverse,akq,List.reverse_append,List.reverse_reverse]
 have c:=m.takeA h
 rw [List.take_take,Nat.min_eq_left d] at c
 exact c
theorem Hi.runB {a b out:Array Keyed} {na nb k:Nat} (l:Hi S R a b out na nb) (d:k<=nb) (h:∀ x∈a.toList.take na,∀ y∈(b.toList.take nb).drop k,R y x=false):Hi S R a b (out ++ (b.extract k nb).reverse) na k:=by
 refine ⟨?_,l.na,by have:=l.nb;omega⟩
 have m:=l.mid
 rw [← aA4 k (b.toList.take nb)] at m
 rw [aE0,Array.toList_reverse,akq,List.reverse_append,List.reverse_reverse]
 have c:=m.takeB h
 rw [List.take_take,Nat.min_eq_left d] at c
 exact c
theorem ans (C:Cmp M A E s κ S R) {a b:Array Keyed} (T:Two S R a b) {Q:Array Keyed->SortSt->Prop} {st:SortSt} (hk:kindOf st = κ)
  (h:∀ m st',Eqv st st'->Fin2 R a b m->Q m st'):wpS M A E s (aq8 a b) Q st:=by
 have I:∀ i (h:i < a.size),S a[i]:=fun i h=>T.ha _ (by simp)
 have N:∀ i (h:i < b.size),S b[i]:=fun i h=>T.hb _ (by simp)
 have b0:=T.b0
 have a0:=T.a0
 have la:a.size - 1 < a.size:=by omega
 refine wpS_bind (acz ?_)
 refine wpS_bind (aau (x:=a[a.size - 1]'la) (ay8 la) ?_)
 have l1:Hi S R a b #[a[a.size - 1]'la] (a.size - 1) b.size:=by
  have l0:Hi S R a b #[] a.size b.size:=⟨⟨by simp [aC7],List.Pairwise.nil,fun x g y hy=>by simp at hy,abx T.sa,abx T.sb⟩,az0 _,az0 _⟩
  exact l0.pushA a0 fun x g=>T.last x (aA3 g) _ (ay8 la)
 refine aaj (fun e1=>wpS_pure (h _ _ (Eqv.refl _) (l1.doneA (.inl (aD7.mp e1))))) (fun e1=>?_)
 refine aaj (fun e2=>wpS_pure (h _ _ (Eqv.refl _) (l1.firstB T (aD7.mp e2)))) (fun e2=>?_)
 replace e1:a.size - 1 ≠ 0:=fun q=>e1 (aD7.mpr q)
 replace e2:b.size ≠ 1:=fun q=>e2 (aD7.mpr q)
 refine wpS_bind (wpS_get ?_)
 have a6:∀ {na nb:Nat} (F:0 < na) (L:na<=a.size) (U:0 < nb) (Y:nb<=b.size),R (b[nb - 1]'(by omega)) (a[na - 1]'(by omega))=true->∀ x∈b.toList.take nb,R (a[na - 1]'(by omega)) x=false:=fun {na nb} F L U Y er x g=>by
  have sx:S x:=T.hb x (aA3 g)
  have hs:Srt R (b.toList.take (nb - 1) ++ [b[nb - 1]'(by omega)]):=by rw [← ab3 U Y];exact abx T.sb
  rw [ab3 U Y] at g
  exact C.tr _ _ _ sx (N _ _) (I _ _) (adj C hs (N _ _) x g) (C.asy _ _ (N _ _) (I _ _) er)
 have b2:∀ {na nb:Nat} (F:0 < na) (L:na<=a.size) (U:0 < nb) (Y:nb<=b.size),R (b[nb - 1]'(by omega)) (a[na - 1]'(by omega))=false->∀ x∈a.toList.take na,R (b[nb - 1]'(by omega)) x=false:=fun {na nb} F L U Y er x g=>by
  have sx:S x:=T.ha x (aA3 g)
  have hs:Srt R (a.toList.take (na - 1) ++ [a[na - 1]'(by omega)]):=by rw [← ab3 F L];exact abx T.sa
  rw [ab3 F L] at g
  exact C.tr _ _ _ sx (I _ _) (N _ _) (adj C hs (I _ _) x g) er
 refine wpS_bind (wpS_mono (Q:=fun (z:Option (Array Keyed) × Nat × Nat × Array Keyed × Nat) st'=>Eqv st st'/\∃ r,z.1=some r/\Fin2 R a b r) ?_ ?_)
 ·refine wpS_forRange (fun t (z:Option (Array Keyed) × Nat × Nat × Array Keyed × Nat) st'=>Eqv st st'/\z.1=none/\Hi S R a b z.2.2.2.1 z.2.1 z.2.2.1/\0 < z.2.1/\1 < z.2.2.1/\t+1<=z.2.2.2.1.size) ?_ ?_ ⟨Eqv.refl _,rfl,l1,by dsimp only;omega,by dsimp only;omega,by simp⟩
  ·intro t z b6 _ ht f
   have q1:=f.1
   refine un5 (J:=fun na nb out _=>Hi S R a b out na nb/\0 < na/\1 < nb/\t+1<=out.size) z f.2 fun na nb out mg o=>?_
   dsimp only
   refine wpS_bind (wpS_mono (Q:=fun (z:Option (Array Keyed) × Nat × Nat × Array Keyed × Nat × Nat) st'=>Eqv st st'/\((∃ r,z.1=some r/\Fin2 R a b r)\/(z.1=none/\Hi S R a b z.2.2.2.1 z.2.1 z.2.2.1/\0 < z.2.1/\1 < z.2.2.1/\t+2<=z.2.2.2.1.size))) ?_ ?_)
   ·refine wpS_forRange (fun i (z:Option (Array Keyed) × Nat × Nat × Array Keyed × Nat × Nat) st'=>Eqv st st'/\z.1=none/\Hi S R a b z.2.2.2.1 z.2.1 z.2.2.1/\0 < z.2.1/\1 < z.2.2.1/\t+1+min i 1<=z.2.2.2.1.size) ?_ ?_ ⟨q1,rfl,o.1,o.2.1,o.2.2.1,o.2.2.2⟩
    ·intro i z j _ hi f
     have q:=f.1
     refine un6 (J:=fun na nb out _ _=>Hi S R a b out na nb/\0 < na/\1 < nb/\t+1+min i 1<=out.size) z f.2 fun na nb out ac bc o=>?_
     have l:=o.1
     have p:=o.2.1
     have a2:=o.2.2.1
     have hsz:=o.2.2.2
     have ia:na - 1 < a.size:=by have:=l.na;omega
     have ib:nb - 1 < b.size:=by have:=l.nb;omega
     refine wpS_bind (aau (x:=b[nb - 1]) (ay8 ib) ?_)
     refine wpS_bind (aau (x:=a[na - 1]) (ay8 ia) ?_)
     refine wpS_bind (C.ask _ _ (N _ ib) (I _ ia) _ _ (q.k.trans hk) ?_)
     dsimp only
     refine aaj (fun er=>?_) (fun er=>?_)
     ·refine wpS_bind (aau (x:=a[na - 1]) (ay8 ia) ?_)
      have D:=l.pushA p (a6 p l.na (by omega) l.nb er)
      refine aaj (fun w=>wpS_pure ⟨q,.inl ⟨_,rfl,D.doneA (.inl (aD7.mp w))⟩⟩) (fun w=>?_)
      have hf:0 < na - 1/\1 < nb/\t+2<=(out.push a[na - 1]).size:=by
       have a3:na - 1 ≠ 0:=fun q=>w (aD7.mpr q)
       rw [aF3];omega
      exact aaj (fun _=>wpS_pure ⟨q,.inr ⟨rfl,D,hf⟩⟩) (fun _=>wpS_pure ⟨q,rfl,D,hf.1,a2,aB3 (by omega) hf.2.2⟩)
     ·refine wpS_bind (aau (x:=b[nb - 1]) (ay8 ib) ?_)
      have D:=l.pushB (by omega) (b2 p l.na (by omega) l.nb (eq_false_of_ne_true er))
      refine aaj (fun w=>wpS_pure ⟨q,.inl ⟨_,rfl,D.firstB T (aD7.mp w)⟩⟩) (fun w=>?_)
      have hf:1 < nb - 1/\t+2<=(out.push b[nb - 1]).size:=by
       have a3:nb - 1 ≠ 1:=fun q=>w (aD7.mpr q)
       rw [aF3];omega
      exact aaj (fun _=>wpS_pure ⟨q,.inr ⟨rfl,D,p,hf⟩⟩) (fun _=>wpS_pure ⟨q,rfl,D,p,hf.1,aB3 (by omega) hf.2⟩)
    ·exact fun z j f=>⟨f.1,.inr ⟨f.2.1,f.2.2.1,f.2.2.2.1,f.2.2.2.2.1,aB3 (by omega) f.2.2.2.2.2⟩⟩
   ·intro z j f
    have Z:=f.1
    refine unR (J:=fun y:Nat × Nat × Array Keyed × Nat × Nat=>Hi S R a b y.2.2.1 y.1 y.2.1/\0 < y.1/\1 < y.2.1/\t+2<=y.2.2.1.size) z f.2 (fun r x hr=>wpS_pure ⟨Z,r,rfl,hr⟩) fun hN=>?_
    refine un6 (J:=fun na nb out _ _=>Hi S R a b out na nb/\0 < na/\1 < nb/\t+2<=out.size) z hN fun na nb out ac bc o=>?_
    dsimp only
    refine wpS_bind (acz ?_)
    refine wpS_bind (wpS_mono (Q:=fun (z:Option (Array Keyed) × Nat × Nat × Array Keyed × Nat × Nat × Nat) st'=>Eqv st st'/\((∃ r,z.1=some r/\Fin2 R a b r)\/(z.1=none/\Hi S R a b z.2.2.2.1 z.2.1 z.2.2.1/\0 < z.2.1/\1 < z.2.2.1/\t+2<=z.2.2.2.1.size))) ?_ ?_)
    ·refine wpS_forRange (fun i (z:Option (Array Keyed) × Nat × Nat × Array Keyed × Nat × Nat × Nat) st'=>Eqv st st'/\z.1=none/\Hi S R a b z.2.2.2.1 z.2.1 z.2.2.1/\0 < z.2.1/\1 < z.2.2.1/\t+2<=z.2.2.2.1.size) ?_ (fun z j f=>⟨f.1,.inr f.2⟩) ⟨Z,rfl,o⟩
     intro i z j _ hi f
     have q:=f.1
     refine un7 (J:=fun na nb out _ _ _=>Hi S R a b out na nb/\0 < na/\1 < nb/\t+2<=out.size) z f.2 fun na nb out mg ac bc o=>?_
     have l:=o.1
     have p:=o.2.1
     have a2:=o.2.2.1
     have hsz:=o.2.2.2
     have b4:=l.na
     have W:=l.nb
     have ib:nb - 1 < b.size:=by omega
     dsimp only
     refine' jpn (M:=M) (A:=A) (E:=E) (s:=s) (st:=j) (β:=Nat) (P:=fun _=>True) (prog:=?prog) (fun X=>?use) (fun b5 _=>?pf)
     case use =>
      refine aaj (fun hm=>?_) (fun hm=>?_)
      ·generalize mg - 1=m
       exact X m trivial
      ·exact X mg trivial
     refine wpS_bind (wpS_mono (Q:=fun _ K=>Eqv j K) (wpS_modify ⟨rfl,rfl,rfl,rfl⟩) fun _ K B=>?_)
     replace B:=q.trans B
     refine wpS_bind (aau (x:=b[nb - 1]) (ay8 ib) ?_)
     refine wpS_bind (afj C (N _ ib) T.ha (by omega) (by rw [List.drop_zero];exact abx T.sa) (by omega) (B.k.trans hk) fun k a4 F L=>?_)
     rw [List.drop_zero] at F L
     dsimp only
     generalize hac:na - k=ac2
     refine' jpn2 (M:=M) (A:=A) (E:=E) (s:=s) (st:=K) (P:=fun d c=>Hi S R a b d c nb/\0 < c/\(∀ x∈a.toList.take c,R b[nb - 1] x=false)/\t+2<=d.size) (prog:=?prog2) (fun X=>?use2) (fun d c h5=>?pf2)
     case use2 =>
      refine aaj (fun k0=>?_) (fun k0=>?_)
      ·have a7:Srt R (b.toList.take (nb - 1) ++ [b[nb - 1]]):=by rw [← ab3 (by omega) W];exact abx T.sb
       have D:Hi S R a b (out ++ (a.extract k na).reverse) k nb:=l.runA a4 fun x g y hy=>by
        have sx:S x:=T.hb x (aA3 g)
        have sy:S y:=T.ha y (aA3 (aA7 hy))
        rw [ab3 (by omega) W] at g
        exact C.tr _ _ _ sx (N _ ib) sy (adj C a7 (N _ ib) x g) (C.asy _ _ (N _ ib) sy (L y hy))
       refine aaj (fun w=>wpS_pure ⟨B,.inl ⟨_,rfl,D.doneA (.inl (aD7.mp w))⟩⟩) (fun w=>?_)
       have hP:Hi S R a b (out ++ (a.extract k na).reverse) k nb/\0 < k/\(∀ x∈a.toList.take k,R b[nb - 1] x=false)/\t+2<=(out ++ (a.extract k na).reverse).size:=by
        have a3:k ≠ 0:=fun q=>w (aD7.mpr q)
        exact ⟨D,by omega,F,by rw [Array.size_append];omega⟩
       revert hP
       clear w D
       generalize out ++ (a.extract k na).reverse=d
       generalize k=c
       intro hP
       exact X d c hP
      ·have:k=na:=by omega
       rw [this] at F
       exact X out na ⟨l,p,F,hsz⟩
     have l3:=h5.1
     have G:=h5.2.1
     have b1:=h5.2.2.1
     have b3:=h5.2.2.2
     have H:=l3.na
     have ia:c - 1 < a.size:=by omega
     refine wpS_bind (aau (x:=b[nb - 1]) (ay8 ib) ?_)
     have l4:=l3.pushB (by omega) b1
     refine aaj (fun e5=>wpS_pure ⟨B,.inl ⟨_,rfl,l4.firstB T (aD7.mp e5)⟩⟩) (fun e5=>?_)
     replace e5:nb - 1 ≠ 1:=fun q=>e5 (aD7.mpr q)
     refine wpS_bind (aau (x:=a[c - 1]) (ay8 ia) ?_)
     refine wpS_bind (agg C (I _ ia) T.hb (by omega) (by rw [List.drop_zero];exact abx T.sb) (by omega) (B.k.trans hk) fun v a5 U Y=>?_)
     rw [List.drop_zero] at U Y
     dsimp only
     generalize hbc:nb - 1 - v=bc2
     refine' jpn2 (M:=M) (A:=A) (E:=E) (s:=s) (st:=K) (P:=fun n u=>Hi S R a b n c u/\1 < u/\(∀ x∈b.toList.take u,R a[c - 1] x=false)/\t+2<=n.size) (prog:=?prog3) (fun X=>?use3) (fun n u h6=>?pf3)
     case use3 =>
      have a1:∀ x∈b.toList.take v,R a[c - 1] x=false:=fun x g=>C.asy _ _ (T.hb x (aA3 g)) (I _ ia) (U x g)
      refine aaj (fun k0=>?_) (fun k0=>?_)
      ·have a9:Srt R (a.toList.take (c - 1) ++ [a[c - 1]]):=by rw [← ab3 G H];exact abx T.sa
       have l5:Hi S R a b (d.push b[nb - 1] ++ (b.extract v (nb - 1)).reverse) c v:=l4.runB a5 fun x g y hy=>by
        have sx:S x:=T.ha x (aA3 g)
        have sy:S y:=T.hb y (aA3 (aA7 hy))
        rw [ab3 G H] at g
        exact C.tr _ _ _ sx (I _ ia) sy (adj C a9 (I _ ia) x g) (Y y hy)
       refine aaj (fun e6=>wpS_pure ⟨B,.inl ⟨_,rfl,l5.firstB T (aD7.mp e6)⟩⟩) (fun e6=>?_)
       refine aaj (fun O=>wpS_pure ⟨B,.inl ⟨_,rfl,l5.doneA (.inr (aD7.mp O))⟩⟩) (fun O=>?_)
       have hP:Hi S R a b (d.push b[nb - 1] ++ (b.extract v (nb - 1)).reverse) c v/\1 < v/\(∀ x∈b.toList.take v,R a[c - 1] x=false)/\t+2<=(d.push b[nb - 1] ++ (b.extract v (nb - 1)).reverse).size:=by
        have b7:v ≠ 1:=fun q=>e6 (aD7.mpr q)
        have a8:v ≠ 0:=fun q=>O (aD7.mpr q)
        exact ⟨l5,by omega,a1,by rw [Array.size_append,aF3];omega⟩
       revert hP
       clear e6 O l5
       generalize d.push b[nb - 1] ++ (b.extract v (nb - 1)).reverse=n
       generalize v=u
       intro hP
       exact X n u hP
      ·have:v=nb - 1:=by omega
       rw [this] at a1
       exact X (d.push b[nb - 1]) (nb - 1) ⟨l4,by omega,a1,by rw [aF3];omega⟩
     refine wpS_bind (aau (x:=a[c - 1]) (ay8 ia) ?_)
     have l7:=h6.1.pushA G h6.2.2.1
     refine aaj (fun O=>wpS_pure ⟨B,.inl ⟨_,rfl,l7.doneA (.inl (aD7.mp O))⟩⟩) (fun O=>?_)
     have hf:0 < c - 1/\1 < u/\t+2<=(n.push a[c - 1]).size:=by
      have a8:c - 1 ≠ 0:=fun q=>O (aD7.mpr q)
      have h7:=h6.2.2.2
      exact ⟨by omega,h6.2.1,by rw [aF3];omega⟩
     exact aaj (fun _=>wpS_pure ⟨B,.inr ⟨rfl,l7,hf⟩⟩) (fun _=>wpS_pure ⟨B,rfl,l7,hf⟩)
    ·intro z j f
     have Z:=f.1
     refine unR (J:=fun y:Nat × Nat × Array Keyed × Nat × Nat × Nat=>Hi S R a b y.2.2.1 y.1 y.2.1/\0 < y.1/\1 < y.2.1/\t+2<=y.2.2.1.size) z f.2 (fun r x hr=>wpS_pure ⟨Z,r,rfl,hr⟩) fun hN=>?_
     refine un7 (J:=fun na nb out _ _ _=>Hi S R a b out na nb/\0 < na/\1 < nb/\t+2<=out.size) z hN fun na nb out mg ac bc o=>?_
     dsimp only
     refine wpS_bind (wpS_modify ?_)
     exact wpS_pure ⟨Z.trans ⟨rfl,rfl,rfl,rfl⟩,rfl,o⟩
  ·intro z j f
   exfalso
   have F:=f.2.2.1.len
   have L:=f.2.2.2
   have:a.size+b.size<=max 0 (a.size+b.size):=by omega
   omega
 ·intro z j f
  have Z:=f.1
  exact unR (J:=fun _=>False) z (.inl f.2) (fun r x hr=>wpS_pure (h r j Z hr)) fun hN=>hN.2.elim
end
theorem air (base:Nat):∀ (b v u w:List Keyed) (j:Nat) (xs:Array Keyed),xs.toList=u ++ v ++ w->v.length=b.length->u.length=base+j ->
  ((b.zipIdx j).foldl (fun a x=>match x with | (p,j)=>a.setIfInBounds (base+j) p) xs).toList=u ++ b ++ w
 | [],v,u,w,j,xs,h1,h2,h3=>by
  have:v=[]:=aE6 h2
  subst this
  exact h1
 | m :: b,v,u,w,j,xs,h1,h2,h3=>by
  cases v with
  | nil=>cases h2
  | cons y v =>
   rw [List.zipIdx_cons,List.foldl_cons]
   have c:=air base b v (u ++ [m]) w (j+1) (xs.setIfInBounds (base+j) m) (by
    rw [Array.toList_setIfInBounds,h1,← h3]
    simp [List.set_append]) (by simpa using h2) (by simp [h3];omega)
   rw [c]
   simp
section
variable {M:Model} {A:Around} {E:Value->Shared->Prop} {s:Shared} {κ:SortKind} {S:Keyed->Prop} {R:Keyed->Keyed->Bool}
theorem atz {σ:Type} {st st' : σ} {Q:PUnit->σ->Prop} (h:Q ⟨⟩ st'):wpS M A E s (set st':StateT σ Sem PUnit) Q st:=by
 unfold wpS
 rw [StateT.run_set]
 exact aG2 ⟨rfl,h⟩
theorem ant (C:Cmp M A E s κ S R) {st:SortSt} {i pw pw2:Nat} {pre a b g:List Keyed} (G:(arrOf st).toList=pre ++ a ++ b ++ g) (hS:∀ x∈(arrOf st).toList,S x)
  (a4:(pendingOf st)[i]?=some (pre.length,a.length,pw)) (a3:(pendingOf st)[i+1]?=some (pre.length+a.length,b.length,pw2)) (na:a ≠ []) (nb:b ≠ []) (Z:Srt R a) (N:Srt R b) (hk:kindOf st = κ) (hf:failedOf st=none)
  {Q:Bool->SortSt->Prop}
  (h:∀ st' m,kindOf st' = κ->failedOf st'=none->pendingOf st'=((pendingOf st).setIfInBounds i (pre.length,a.length+b.length,pw)).eraseIdxIfInBounds (i+1)->(arrOf st').toList=pre ++ m ++ g->m.Perm (a ++ b)->Srt R m->Q true st') :
  wpS M A E s (akp i) Q st:=by
 have la:0 < a.length:=aD3.mpr na
 have lb:0 < b.length:=aD3.mpr nb
 have J:∀ x∈a,S x:=fun x c=>hS x (by rw [G];simp [c])
 have U:∀ x∈b,S x:=fun x c=>hS x (by rw [G];simp [c])
 have lx:(arrOf st).size=pre.length+a.length+b.length+g.length:=by
  have:=congrArg List.length G
  simp at this
  omega
 have w:((arrOf st).toList.drop pre.length).take a.length=a:=by rw [G];simp [az7]
 have B:((arrOf st).toList.drop (pre.length+a.length)).take b.length=b:=by
  rw [show pre.length+a.length=(pre ++ a).length by simp,G,az7 (pre ++ a),List.drop_left,List.take_left]
 refine wpS_bind (wpS_get ?_)
 rw [a4,a3]
 refine wpS_bind (wpS_mono (Q:=fun _ o=>kindOf o = κ/\failedOf o=none/\arrOf o=arrOf st/\pendingOf o=((pendingOf st).setIfInBounds i (pre.length,a.length+b.length,pw)).eraseIdxIfInBounds (i+1)) (atz ⟨hk,hf,rfl,rfl⟩) fun _ o ⟨W,f1,a1,p1⟩=>?_)
 obtain ⟨b0,bt,eb⟩:∃ b0 bt,b=b0 :: bt:=by cases b with | nil=>exact absurd rfl nb | cons x r=>exact ⟨x,r,rfl⟩
 have a8:(arrOf st)[pre.length+a.length]?=some b0:=by
  rw [← aB6,G,eb]
  simp [List.getElem?_append]
 have v:S b0:=U b0 (by rw [eb];simp)
 have F:∀ y∈b,R y b0=false:=fun y d=>by rw [eb] at d N;exact ad2 C N v y d
 -- nothing is laid together: the two stand in order already
 have D:(∀ x∈a,∀ y∈b,R y x=false)->∀ st',Eqv o st'->Q true st':=fun hc st' q=>by
  refine h st' (a ++ b) (q.k.trans W) (q.f.trans f1) (q.p.trans p1) ?_ (List.Perm.refl _) (aB2.mpr ⟨Z,N,hc⟩)
  rw [q.a,a1,G]
  simp [az7]
 refine wpS_bind (aau a8 ?_)
 refine wpS_bind (afj C v hS (by omega) (by rw [w];exact Z) la W fun k a5 h1 h2=>?_)
 rw [w] at h2
 have H:∀ x∈a.take k,R b0 x=false:=fun x c=>h1 x (by
  have:((arrOf st).toList.drop pre.length).take k=a.take k:=by rw [← w,List.take_take,Nat.min_eq_left a5]
  rw [this];exact c)
 dsimp only
 refine aaj (fun e=>?_) (fun e=>?_)
 ·have e':a.length - k=0:=by simpa using e
  refine wpS_pure (D (fun x c y d=>?_) o (Eqv.refl _))
  have:a.take k=a:=aC7 (by omega)
  rw [this] at H
  exact C.tr x b0 y (J x c) v (U y d) (H x c) (F y d)
 ·have e':a.length - k ≠ 0:=by simpa using e
  -- the last of a
  have O:pre.length+k+(a.length - k) - 1=pre.length+(a.length - 1):=by omega
  have n:a.length - 1 < a.length:=by omega
  have a9:(arrOf st)[pre.length+k+(a.length - k) - 1]?=some (a[a.length - 1]'n):=by
   rw [← aB6,G,O]
   simp [List.getElem?_append,n,az7]
  have Sl:S (a[a.length - 1]'n):=J _ (List.getElem_mem n)
  have u:a=a.take (a.length - 1) ++ [a[a.length - 1]'n]:=by
   have:=List.take_succ (l:=a) (i:=a.length - 1)
   rw [show a.length - 1+1=a.length by omega,aE2] at this
   simpa [n] using this
  have K:∀ x∈a,R (a[a.length - 1]'n) x=false:=fun x c=>by
   have hs:Srt R (a.take (a.length - 1) ++ [a[a.length - 1]'n]):=by rw [← u];exact Z
   exact adj C hs Sl x (by rw [← u];exact c)
  refine wpS_bind (aau a9 ?_)
  refine wpS_bind (agg C Sl hS (by omega) (by rw [B];exact N) (by omega) W fun j b1 h3 h4=>?_)
  rw [B] at h4
  have a2:((arrOf st).toList.drop (pre.length+a.length)).take j=b.take j:=by rw [← B,List.take_take,Nat.min_eq_left b1]
  rw [a2] at h3
  dsimp only
  refine aaj (fun e2=>?_) (fun e2=>?_)
  ·have a0:j=0:=by simpa using e2
   subst a0
   refine wpS_pure (D (fun x c y d=>?_) o (Eqv.refl _))
   exact C.tr x _ y (J x c) Sl (U y d) (K x c) (h4 y (by simpa using d))
  ·have a0:j ≠ 0:=by simpa using e2
   have ex:((arrOf st).extract (pre.length+k) (pre.length+a.length)).toList=a.drop k:=by
    rw [akq,G]
    simp [az7,List.take_append,List.drop_append]
   have P:((arrOf st).extract (pre.length+a.length) (pre.length+a.length+j)).toList=b.take j:=by
    rw [ah3,a2]
   generalize hX:(arrOf st).extract (pre.length+k) (pre.length+a.length)=X at ex
   generalize hY:(arrOf st).extract (pre.length+a.length) (pre.length+a.length+j)=Y at P
   have sX:X.size=a.length - k:=by have:=congrArg List.length ex;simpa using this
   have sY:Y.size=j:=by have:=congrArg List.length P;simp at this;omega
   have T:Two S R X Y:=by
    refine ⟨fun x c=>J x (aA7 (by rw [← ex];exact c)),fun x c=>U x (aA3 (by rw [← P];exact c)),by rw [ex];exact acf Z,by rw [P];exact abx N,by omega,by omega,fun x c y d=>?_,fun y d x c=>?_⟩
    ·rw [← aB6,P,eb] at d
     have:y=b0:=by
      obtain ⟨j',rfl⟩:∃ j',j=j'+1:=⟨j - 1,by omega⟩
      simpa using d.symm
     rw [this]
     rw [ex] at c
     exact C.asy _ _ v (J x (aA7 c)) (h2 x c)
    ·rw [← aB6,ex,sX] at c
     rw [aF6,show k+(a.length - k - 1)=a.length - 1 by omega,ay4 n] at c
     cases c
     rw [P] at d
     exact C.asy _ _ (U y (aA3 d)) Sl (h3 y d)
   have fin:∀ (m:Array Keyed) (st':SortSt),Eqv o st'->Fin2 R X Y m->wpS M A E s (do
     modify fun (z:SortSt)=>setArr z (List.foldl (fun a x=>match x with | (p,j)=>a.setIfInBounds (pre.length+k+j) p) (arrOf z) m.toList.zipIdx)
     let z ← get
     pure (failedOf z).isNone) Q st':=by
    intro m st' q ⟨I,ms⟩
    rw [ex,P] at I
    refine wpS_bind (wpS_modify ?_)
    refine wpS_bind (wpS_get ?_)
    refine wpS_pure ?_
    show Q (failedOf st').isNone _
    rw [q.f,f1]
    have lm:m.toList.length=(a.drop k).length+(b.take j).length:=by rw [I.length_eq,az4]
    have L:∀ z∈m.toList,z∈a.drop k\/z∈b.take j:=fun z hz=>az1.mp (I.mem_iff.mp hz)
    refine h _ (a.take k ++ m.toList ++ b.drop j) (q.k.trans W) (q.f.trans f1) (q.p.trans p1) ?_ ?_ ?_
    ·show (List.foldl _ (arrOf st') m.toList.zipIdx).toList=_
     have base:(arrOf st').toList=(pre ++ a.take k) ++ (a.drop k ++ b.take j) ++ (b.drop j ++ g):=by
      rw [q.a,a1,G]
      have t1:=aA4 k a
      have t2:=aA4 j b
      calc pre ++ a ++ b ++ g=pre ++ (a.take k ++ a.drop k) ++ (b.take j ++ b.drop j) ++ g:=by rw [t1,t2]
       _=_:=by simp only [az7]
     have:=air (pre.length+k) m.toList (a.drop k ++ b.take j) (pre ++ a.take k) (b.drop j ++ g) 0 (arrOf st') base (by rw [az4,lm]) (by rw [az4,aE4];omega)
     rw [this]
     simp only [az7]
    ·have t1:=aA4 k a
     have t2:=aA4 j b
     calc (a.take k ++ m.toList ++ b.drop j).Perm (a.take k ++ (a.drop k ++ b.take j) ++ b.drop j):=List.Perm.append_right _ (List.Perm.append_left _ I)
      _ = a ++ b:=by
       simp only [az7]
       rw [t2,← az7,t1]
    ·have a6:Srt R (a.take k ++ a.drop k):=by rw [aA4];exact Z
     have a7:Srt R (b.take j ++ b.drop j):=by rw [aA4];exact N
     have ca:=(aB2.mp a6).2.2
     have cb:=(aB2.mp a7).2.2
     refine aB2.mpr ⟨aB2.mpr ⟨abx Z,ms,fun x c y d=>?_⟩,acf N,fun x c y d=>?_⟩
     ·rcases L y d with d | d
      ·exact ca x c y d
      ·exact C.tr x b0 y (J x (aA3 c)) v (U y (aA3 d)) (H x c) (F y (aA3 d))
     ·have Sy:=U y (aA7 d)
      rcases az1.mp c with c | c
      ·exact C.tr x b0 y (J x (aA3 c)) v Sy (H x c) (F y (aA7 d))
      ·rcases L x c with c | c
       ·exact C.tr x _ y (J x (aA7 c)) Sl Sy (K x (aA7 c)) (h4 y d)
       ·exact cb x c y d
   refine aaj (fun e3=>?_) (fun e3=>?_)
   ·exact wpS_bind (anr C T W fun m st' q fm=>fin m st' q fm)
   ·exact wpS_bind (ans C T W fun m st' q fm=>fin m st' q fm)
end
def e (xs:Array Keyed) (k:Nat):Keyed:=(xs[k]?).getD (.none,.none)
theorem ag5 {xs:Array Keyed} {k:Nat} (h:k < xs.size):xs[k]?=some (e xs k):=by
 unfold e;rw [ay8 h];rfl
def Asc (R:Keyed->Keyed->Bool) (xs:Array Keyed) (l h:Nat):Prop:=∀ i j,l<=i->i<=j->j < h->R (e xs j) (e xs i)=false
def Des (R:Keyed->Keyed->Bool) (xs:Array Keyed) (l h:Nat):Prop:=∀ i j,l<=i->i<=j->j < h->R (e xs i) (e xs j)=false
structure Bs (κ:SortKind) (p0:Array (Nat × Nat × Nat)) (a0:Array Keyed) (lo:Nat) (st:SortSt):Prop where
 k:kindOf st = κ
 f:failedOf st=none
 p:pendingOf st=p0
 perm:(arrOf st).toList.Perm a0.toList
 pre:∀ k,k < lo->(arrOf st)[k]?=a0[k]?
theorem ara {xs:Array Keyed} {src d:Nat} (a:src < xs.size) (hd:d<=src) (k:Nat):e (bubble xs src d) k=if k=src - d then e xs src else if src - d < k/\k<=src then e xs (k - 1) else e xs k:=by
 unfold e
 rw [getElem?_bubble a d hd]
 repeat' split
 all_goals rfl
theorem acp {xs:Array Keyed} {i j:Nat} (hj:j<=xs.size) (k:Nat):e (mirror xs i j ((j - i) / 2)) k=if i<=k/\k < j then e xs (i+j - 1 - k) else e xs k:=by
 unfold e
 rw [getElem?_mirror_all hj]
 split <;> rfl
section
variable {M:Model} {A:Around} {E:Value->Shared->Prop} {s:Shared} {κ:SortKind} {S:Keyed->Prop} {R:Keyed->Keyed->Bool} {p0:Array (Nat × Nat × Nat)} {a0:Array Keyed} {lo:Nat}
theorem Bs.size {st:SortSt} (B:Bs κ p0 a0 lo st):(arrOf st).size=a0.size:=by
 have:=B.perm.length_eq
 simpa using this
theorem Bs.sat {st:SortSt} (B:Bs κ p0 a0 lo st) (a:∀ x∈a0.toList,S x) {k:Nat} (b:k < a0.size):S (e (arrOf st) k):=by
 have h:=ag5 (xs:=arrOf st) (k:=k) (by rw [B.size];exact b)
 refine a _ (B.perm.mem_iff.mp ?_)
 rw [← aB6] at h
 exact ay6 h
theorem afk (C:Cmp M A E s κ S R) (a:∀ x∈a0.toList,S x) {st:SortSt} (B:Bs κ p0 a0 lo st) {i j:Nat} (hi:i < a0.size) (hj:j < a0.size) {Q:Option Bool->SortSt->Prop} (h:Q (some (R (e (arrOf st) i) (e (arrOf st) j))) st) :
  wpS M A E s (ltAt' i j) Q st:=by
 rw [ltAt'_eq]
 refine wpS_bind (wpS_get ?_)
 refine wpS_bind (aau (ag5 (by rw [B.size];exact hi)) ?_)
 refine wpS_bind (aau (ag5 (by rw [B.size];exact hj)) ?_)
 exact C.ask _ _ (B.sat a hi) (B.sat a hj) _ _ B.k h
theorem arb (C:Cmp M A E s κ S R) {xs:Array Keyed} {l h:Nat} (b:∀ k,k<=h->S (e xs k)) (f:l < h) (a:Asc R xs l h) (n:R (e xs h) (e xs (h - 1))=false):Asc R xs l (h+1):=by
 intro i j c d g
 by_cases hj:j=h
 ·subst hj
  by_cases hi:i=j
  ·subst hi;exact C.irr (b _ (az0 _))
  ·exact C.tr _ (e xs (j - 1)) _ (b _ (by omega)) (b _ (by omega)) (b _ (by omega)) (a i (j - 1) c (by omega) (by omega)) n
 ·exact a i j c d (by omega)
theorem aey (C:Cmp M A E s κ S R) {xs:Array Keyed} {l h:Nat} (b:∀ k,k<=h->S (e xs k)) (f:l < h) (a:Des R xs l h) (n:R (e xs (h - 1)) (e xs h)=false):Des R xs l (h+1):=by
 intro i j c d g
 by_cases hj:j=h
 ·subst hj
  by_cases hi:i=j
  ·subst hi;exact C.irr (b _ (az0 _))
  ·exact C.tr _ (e xs (j - 1)) _ (b _ (by omega)) (b _ (by omega)) (b _ (by omega)) n (a i (j - 1) c (by omega) (by omega))
 ·exact a i j c d (by omega)
theorem Bs.set {st:SortSt} (B:Bs κ p0 a0 lo st) {xs:Array Keyed} (c:xs.Perm (arrOf st)) (b:∀ k,k < lo->xs[k]?=(arrOf st)[k]?):Bs κ p0 a0 lo (setArr st xs) :=
 ⟨B.k,B.f,B.p,c.toList.trans B.perm,fun k a=>(b k a).trans (B.pre k a)⟩
theorem anu (C:Cmp M A E s κ S R) (v:∀ x∈a0.toList,S x) {st:SortSt} (B:Bs κ p0 a0 lo st) {n ok:Nat} (hn:lo+n<=a0.size) (hok:ok<=n) (N:1<=n) (I:Asc R (arrOf st) lo (lo+ok)) {Q:Bool->SortSt->Prop}
  (h:∀ st',Bs κ p0 a0 lo st'->Asc R (arrOf st') lo (lo+n)->Q true st'):wpS M A E s (aq9 lo n ok) Q st:=by
 refine wpS_bind (wpS_mono (Q:=fun (z:Option Bool × Unit) st'=>z.1=none/\Bs κ p0 a0 lo st'/\Asc R (arrOf st') lo (lo+n)) ?_ ?_)
 ·refine wpS_forRange (fun k (z:Option Bool × Unit) st'=>z.1=none/\Bs κ p0 a0 lo st'/\Asc R (arrOf st') lo (lo+k)) ?_ ?_ ⟨rfl,B,fun i j p g u=>?_⟩
  ·rintro k ⟨o,_⟩ b J K ⟨rfl,q,as⟩
   have d:∀ j,j < lo+n->S (e (arrOf b) j):=fun j hj=>q.sat v (by omega)
   refine wpS_bind (wpS_mono (Q:=fun (z:Option Bool × Nat × Nat) st'=>st'=b/\z.1=none/\z.2.1<=k/\(∀ i,i < z.2.1->R (e (arrOf b) (lo+k)) (e (arrOf b) (lo+i))=false)/\(∀ i,z.2.1<=i->i < k->R (e (arrOf b) (lo+k)) (e (arrOf b) (lo+i))=true)) ?_ ?_)
   ·refine wpS_forRange (fun t (z:Option Bool × Nat × Nat) st'=>st'=b/\z.1=none/\z.2.1<=z.2.2/\z.2.2<=k/\z.2.2 - z.2.1+t<=k/\(∀ i,i < z.2.1->R (e (arrOf b) (lo+k)) (e (arrOf b) (lo+i))=false)/\(∀ i,z.2.2<=i->i < k->R (e (arrOf b) (lo+k)) (e (arrOf b) (lo+i))=true)) ?_ ?_
     ⟨rfl,rfl,Nat.zero_le _,Nat.le_refl _,by dsimp only;omega,fun i hi=>absurd hi (Nat.not_lt_zero _),fun i p g=>by dsimp only at p;omega⟩
    ·rintro t ⟨o,l,r⟩ a _ O ⟨rfl,c,p,g,u,m,f⟩
     dsimp only at c p g u m f ⊢
     subst c
     refine aaj (fun y=>?_) (fun y=>?_)
     ·have:l=r:=by omega
      subst this
      exact wpS_pure ⟨rfl,rfl,g,m,f⟩
     ·have hm:(l+r) / 2 < r:=by omega
      have w:l<=(l+r) / 2:=by omega
      refine wpS_bind (afk C v q (by omega) (by omega) ?_)
      dsimp only
      cases er:R (e (arrOf a) (lo+k)) (e (arrOf a) (lo+(l+r) / 2)) with
      | true =>
       rw [aC9 rfl]
       refine wpS_pure ⟨rfl,rfl,w,by dsimp only;omega,by dsimp only;omega,m,fun i i1 D=>?_⟩
       dsimp only at i1
       cases e2:R (e (arrOf a) (lo+k)) (e (arrOf a) (lo+i)) with
       | true=>rfl
       | false =>
        have:=C.tr _ _ _ (d _ (by omega)) (d _ (by omega)) (d _ (by omega)) (as (lo+(l+r) / 2) (lo+i) (by omega) (by omega) (by omega)) e2
        rw [this] at er;cases er
      | false =>
       rw [aD0 (by decide)]
       refine wpS_pure ⟨rfl,rfl,by dsimp only;omega,g,by dsimp only;omega,fun i i1=>?_,f⟩
       dsimp only at i1
       exact C.tr _ _ _ (d _ (by omega)) (d _ (by omega)) (d _ (by omega)) (as (lo+i) (lo+(l+r) / 2) (by omega) (by omega) (by omega)) er
    ·rintro ⟨o,l,r⟩ a ⟨rfl,c,p,g,u,m,f⟩
     dsimp only at c p g u m f ⊢
     have : l = r := by have:k ≤ max 0 k := by omega
                        omega
     subst this
     exact ⟨rfl,c,g,m,f⟩
   ·rintro ⟨o,l,r⟩ a ⟨rfl,c,p,m,f⟩
    dsimp only at c p m f ⊢
    subst c
    dsimp only
    have hsz:lo+k < (arrOf a).size:=by rw [q.size];omega
    have hd:(lo+k) - (lo+l)=k - l:=by omega
    refine wpS_bind (wpS_modify ?_)
    have F:∀ j,e (bubble (arrOf a) (lo+k) (lo+k - (lo+l))) j=if j=lo+l then e (arrOf a) (lo+k) else if lo+l < j/\j<=lo+k then e (arrOf a) (j - 1) else e (arrOf a) j:=fun j=>by
     rw [ara hsz (by omega),show lo+k - (lo+k - (lo+l))=lo+l by omega]
    refine wpS_pure ⟨rfl,q.set (bubble_perm _ _ _) (fun j hj=>?_),fun i j i1 D H=>?_⟩
    ·show (bubble (arrOf a) (lo+k) (lo+k - (lo+l)))[j]?=_
     rw [getElem?_bubble hsz _ (by omega),aD0 (by omega),aD0 (by omega)]
    ·show R (e (bubble (arrOf a) (lo+k) (lo+k - (lo+l))) j) (e (bubble (arrOf a) (lo+k) (lo+k - (lo+l))) i)=false
     rw [F,F]
     have L:∀ j,j < lo+n->S (e (arrOf a) j):=d
     by_cases j1:j=lo+l
     ·rw [aC9 j1]
      by_cases i4:i=lo+l
      ·rw [aC9 i4];exact C.irr (d _ (by omega))
      ·rw [aD0 i4,aD0 (by omega)]
       have:=m (i - lo) (by omega)
       rw [show lo+(i - lo)=i by omega] at this
       exact this
     ·rw [aD0 j1]
      by_cases j2:lo+l < j/\j<=lo+k
      ·rw [aC9 j2]
       have G:=f (j - 1 - lo) (by omega) (by omega)
       rw [show lo+(j - 1 - lo)=j - 1 by omega] at G
       by_cases i4:i=lo+l
       ·rw [aC9 i4];exact C.asy _ _ (d _ (by omega)) (d _ (by omega)) G
       ·rw [aD0 i4]
        by_cases i5:lo+l < i/\i<=lo+k
        ·rw [aC9 i5];exact as (i - 1) (j - 1) (by omega) (by omega) (by omega)
        ·rw [aD0 i5];exact as i (j - 1) (by omega) (by omega) (by omega)
      ·rw [aD0 j2,aD0 (by omega),aD0 (by omega)]
       exact as i j (by omega) (by omega) (by omega)
  ·rintro ⟨o,_⟩ b ⟨c,q,as⟩
   exact ⟨c,q,fun i j i1 D H=>as i j i1 D (by omega)⟩
  ·by_cases hj:j < lo+ok
   ·exact I i j p g hj
   ·have:i=j:=by omega
    subst this
    exact C.irr (B.sat v (by omega))
 ·rintro ⟨o,_⟩ b ⟨c,q,as⟩
  dsimp only at c ⊢
  subst c
  exact wpS_pure (h b q as)
end
def Eqb (R:Keyed->Keyed->Bool) (xs:Array Keyed) (l h:Nat):Prop:=∀ i j,l<=i->i < h->l<=j->j < h->R (e xs i) (e xs j)=false
section
variable {M:Model} {A:Around} {E:Value->Shared->Prop} {s:Shared} {κ:SortKind} {S:Keyed->Prop} {R:Keyed->Keyed->Bool} {p0:Array (Nat × Nat × Nat)} {a0:Array Keyed} {lo:Nat}
theorem amv {α:Type} {prog:StateT SortSt Sem α} {P:SortSt->Prop} {Q : α->SortSt->Prop} {G:Prop} (use:(∀ st,P st->wpS M A E s prog Q st)->G) (a:∀ st,P st->wpS M A E s prog Q st):G:=use a
theorem akr (C:Cmp M A E s κ S R) (f:∀ x∈a0.toList,S x) {st:SortSt} (B:Bs κ p0 a0 lo st) {a nrem:Nat} (j:1<=a) (g:a<=nrem) (hn:lo+nrem<=a0.size) (as:Asc R (arrOf st) lo (lo+a)) {Q:Option (Option Nat) × Nat->SortSt->Prop}
  (h:∀ n,a<=n->n<=nrem->Asc R (arrOf st) lo (lo+n)->(n < nrem->R (e (arrOf st) (lo+n)) (e (arrOf st) (lo+n - 1))=true)->Q (none,n) st) :
  wpS M A E s (forIn [a:nrem] ((none,a):Option (Option Nat) × Nat) (fun (_:Nat) z=>ltAt' (lo+z.2) (lo+z.2 - 1) >>= fun x=>match x with
   | some smaller=>if smaller=true then pure (ForInStep.done (none,z.2)) else pure (ForInStep.yield (none,z.2+1))
   | _=>pure (ForInStep.done (some none,z.2)))) Q st:=by
 refine wpS_forRange (fun t (z:Option (Option Nat) × Nat) st'=>st'=st/\z=(none,t)/\Asc R (arrOf st) lo (lo+t)) ?_ ?_ ⟨rfl,rfl,as⟩
 ·rintro t ⟨o,n⟩ c t1 i ⟨rfl,d,b⟩
  cases d
  dsimp only
  refine wpS_bind (afk C f B (by omega) (by omega) ?_)
  dsimp only
  cases er:R (e (arrOf c) (lo+t)) (e (arrOf c) (lo+t - 1)) with
  | true =>
   rw [aC9 rfl]
   exact wpS_pure (h t t1 (by omega) b fun _=>er)
  | false =>
   rw [aD0 (by decide)]
   exact wpS_pure ⟨rfl,rfl,arb C (h:=lo+t) (fun k l=>B.sat f (by omega)) (by omega) b er⟩
 ·rintro ⟨o,n⟩ c ⟨rfl,d,b⟩
  cases d
  rw [show max a nrem=nrem by omega] at b ⊢
  exact h nrem g (az0 _) b fun z=>absurd z (aD8 _)
theorem arc (C:Cmp M A E s κ S R) {st:SortSt} (B:Bs κ p0 a0 lo st) {n:Nat} (hn:lo+n<=a0.size) (b:Des R (arrOf st) lo (lo+n)) :
  Bs κ p0 a0 lo (setArr st (mirror (arrOf st) lo (lo+n) ((lo+n - lo) / 2)))/\Asc R (mirror (arrOf st) lo (lo+n) ((lo+n - lo) / 2)) lo (lo+n):=by
 have a:lo+n<=(arrOf st).size:=by rw [B.size];exact hn
 refine ⟨B.set (mirror_perm _ _ _ _) (fun k f=>by rw [getElem?_mirror_all a,aD0 (by omega)]),fun i j c d g=>?_⟩
 rw [acp a,acp a,aC9 (by omega),aC9 (by omega)]
 exact b _ _ (by omega) (by omega) (by omega)
theorem ah4 (C:Cmp M A E s κ S R) (c:∀ x∈a0.toList,S x) {st:SortSt} (B:Bs κ p0 a0 lo st) {l h m:Nat} (p:lo<=l) (hh:h<=a0.size) (hm:h<=m) (d:m<=a0.size) (a:Des R (arrOf st) lo m) (eq:Eqb R (arrOf st) l h) :
  Bs κ p0 a0 lo (setArr st (mirror (arrOf st) l h ((h - l) / 2)))/\Des R (mirror (arrOf st) l h ((h - l) / 2)) lo m:=by
 have b:h<=(arrOf st).size:=by rw [B.size];exact hh
 refine ⟨B.set (mirror_perm _ _ _ _) (fun k f=>by rw [getElem?_mirror_all b,aD0 (by omega)]),fun i j g n o=>?_⟩
 rw [acp b,acp b]
 have q:∀ k,k < m->S (e (arrOf st) k):=fun k f=>B.sat c (by omega)
 by_cases c1:l<=i/\i < h
 ·rw [aC9 c1]
  by_cases c2:l<=j/\j < h
  ·rw [aC9 c2]
   exact eq _ _ (by omega) (by omega) (by omega) (by omega)
  ·rw [aD0 c2]
   exact a _ _ (by omega) (by omega) (by omega)
 ·rw [aD0 c1]
  by_cases c2:l<=j/\j < h
  ·rw [aC9 c2]
   exact a _ _ (by omega) (by omega) (by omega)
  ·rw [aD0 c2]
   exact a _ _ (by omega) (by omega) (by omega)
theorem apb (C:Cmp M A E s κ S R) (p:∀ x∈a0.toList,S x) {st:SortSt} (B:Bs κ p0 a0 lo st) {nrem:Nat} (h1:1<=nrem) (hn:lo+nrem<=a0.size) {Q:Option Nat->SortSt->Prop}
  (h:∀ st' n,Bs κ p0 a0 lo st'->1<=n->n<=nrem->Asc R (arrOf st') lo (lo+n)->Q (some n) st'):wpS M A E s (aty lo nrem) Q st:=by
 refine wpS_bind (akr C p B (az0 1) h1 hn (fun i j i1 r U=>?_) fun n n1 n2 as br=>?_)
 ·have:i=j:=by omega
  subst this
  exact C.irr (B.sat p (by omega))
 dsimp only
 refine aaj (fun en=>wpS_pure (h st n B n1 n2 as)) (fun en=>?_)
 have a4:n ≠ nrem:=by simpa using en
 have X:n < nrem:=by omega
 have I:=br X
 refine amv (M:=M) (A:=A) (E:=E) (s:=s) (α:=Option Nat) (Q:=Q) (P:=fun v=>Bs κ p0 a0 lo v/\Des R (arrOf v) lo (lo+n)/\R (e (arrOf v) (lo+n)) (e (arrOf v) (lo+n - 1))=true) (prog:=?prog) (fun K=>?use) (fun v ⟨N,de,Z⟩=>?pf)
 case use =>
  refine aaj (fun g1=>?_) (fun g1=>?_)
  ·refine wpS_bind (afk C p B (by omega) (by omega) ?_)
   dsimp only
   cases er:R (e (arrOf st) lo) (e (arrOf st) (lo+n - 1)) with
   | true=>rw [aC9 rfl];exact wpS_pure (h st n B n1 n2 as)
   | false =>
    rw [aD0 (by decide)]
    -- all of them are equal
    have c:∀ k,k < lo+n->S (e (arrOf st) k):=fun k J=>B.sat p (by omega)
    have all:Eqb R (arrOf st) lo (lo+n):=fun i j i1 r y w=>by
     -- j<=last<=first<=i
     have a1:=as j (lo+n - 1) y (by omega) (by omega)
     have a2:=as lo i (az0 _) i1 r
     exact C.tr _ _ _ (c j w) (c lo (by omega)) (c i r) (C.tr _ _ _ (c j w) (c (lo+n - 1) (by omega)) (c lo (by omega)) a1 er) a2
    have de:Des R (arrOf st) lo (lo+n):=fun i j i1 r U=>all i j i1 (by omega) (by omega) U
    have T:lo+n<=(arrOf st).size:=by rw [B.size];omega
    obtain ⟨q,a⟩:=ah4 C p B (az0 lo) (show lo+n<=a0.size by omega) (az0 _) (by omega) de all
    refine wpS_bind (wpS_modify ?_)
    refine K _ ⟨q,a,?_⟩
    show R (e (mirror (arrOf st) lo (lo+n) ((lo+n - lo) / 2)) (lo+n)) (e (mirror (arrOf st) lo (lo+n) ((lo+n - lo) / 2)) (lo+n - 1))=true
    rw [acp T,acp T,aD0 (by omega),aC9 (by omega)]
    rw [show lo+(lo+n) - 1 - (lo+n - 1)=lo by omega]
    cases e2:R (e (arrOf st) (lo+n)) (e (arrOf st) lo) with
    | true=>rfl
    | false =>
     have:=C.tr _ _ _ (c (lo+n - 1) (by omega)) (c lo (by omega)) (B.sat p (show lo+n < a0.size by omega)) er e2
     rw [this] at I;cases I
  ·have:n=1:=by omega
   subst this
   refine K st ⟨B,fun i j i1 r U=>?_,I⟩
   have:i=j:=by omega
   subst this
   exact C.irr (B.sat p (by omega))
 case pf =>
  -- the falling part
  refine wpS_bind (acz ?_)
  refine wpS_bind (wpS_mono (Q:=fun (z:Option (Option Nat) × Nat × Nat) st'=>z.1=none/\Bs κ p0 a0 lo st'/\z.2.1<=nrem/\z.2.2+1<=z.2.1/\Des R (arrOf st') lo (lo+z.2.1)/\Eqb R (arrOf st') (lo+z.2.1 - (z.2.2+1)) (lo+z.2.1)) ?_ ?_)
  ·refine wpS_forRange (fun t (z:Option (Option Nat) × Nat × Nat) st'=>z.1=none/\z.2.1=t/\Bs κ p0 a0 lo st'/\z.2.2+1<=z.2.1/\Des R (arrOf st') lo (lo+z.2.1)/\Eqb R (arrOf st') (lo+z.2.1 - (z.2.2+1)) (lo+z.2.1)) ?_ ?_ ⟨rfl,rfl,N,by dsimp only;omega,?_,fun i j i1 r y w=>?_⟩
   ·rintro t ⟨o,m,b⟩ d t1 t2 ⟨D,O,q,G,a,f⟩
    dsimp only at D O G a f ⊢
    subst D O
    have c:∀ k,k < a0.size->S (e (arrOf d) k):=fun k J=>q.sat p J
    refine wpS_bind (afk C p q (by omega) (by omega) ?_)
    dsimp only
    cases er:R (e (arrOf d) (lo+m)) (e (arrOf d) (lo+m - 1)) with
    | true =>
     rw [aC9 rfl]
     refine aaj (fun g=>?_) (fun g=>?_)
     ·have T:lo+m<=(arrOf d).size:=by rw [q.size];omega
      obtain ⟨F,u⟩:=ah4 C p q (l:=lo+m - (b+1)) (h:=lo+m) (by omega) (by omega) (az0 _) (by omega) a f
      have L:∀ k,e (mirror (arrOf d) (lo+m - (b+1)) (lo+m) ((lo+m - (lo+m - (b+1))) / 2)) k=if lo+m - (b+1)<=k/\k < lo+m then e (arrOf d) (lo+m - (b+1)+(lo+m) - 1 - k) else e (arrOf d) k:=fun k=>acp T k
      refine wpS_bind (wpS_modify ?_)
      refine wpS_pure ⟨rfl,rfl,F,by dsimp only;omega,?_,fun i j i1 r y w=>?_⟩
      ·show Des R (mirror (arrOf d) (lo+m - (b+1)) (lo+m) ((lo+m - (lo+m - (b+1))) / 2)) lo (lo+(m+1))
       refine aey C (h:=lo+m) (fun k J=>F.sat p (by omega)) (by omega) u ?_
       rw [L,L,aC9 (by omega),aD0 (by omega)]
       rw [show lo+m - (b+1)+(lo+m) - 1 - (lo+m - 1)=lo+m - (b+1) by omega]
       exact C.tr _ _ _ (c _ (by omega)) (c (lo+m - 1) (by omega)) (c _ (by omega)) (C.asy _ _ (c _ (by omega)) (c _ (by omega)) er) (a _ _ (by omega) (by omega) (by omega))
      ·dsimp only at i1 r y w
       have:i=j:=by omega
       subst this
       exact C.irr (F.sat p (by omega))
     ·have:b=0:=by omega
      subst this
      refine wpS_pure ⟨rfl,rfl,q,by dsimp only;omega,aey C (h:=lo+m) (fun k J=>c k (by omega)) (by omega) a (C.asy _ _ (c _ (by omega)) (c _ (by omega)) er),fun i j i1 r y w=>?_⟩
      dsimp only at i1 r y w
      have:i=j:=by omega
      subst this
      exact C.irr (c _ (by omega))
    | false =>
     rw [aD0 (by decide)]
     refine wpS_bind (afk C p q (by omega) (by omega) ?_)
     dsimp only
     cases er2:R (e (arrOf d) (lo+m - 1)) (e (arrOf d) (lo+m)) with
     | true =>
      rw [aC9 rfl]
      exact wpS_pure ⟨rfl,q,by dsimp only;omega,G,a,f⟩
     | false =>
      rw [aD0 (by decide)]
      refine wpS_pure ⟨rfl,rfl,q,by dsimp only;omega,aey C (h:=lo+m) (fun k J=>c k (by omega)) (by omega) a er2,fun i j i1 r y w=>?_⟩
      dsimp only at i1 r y w
      by_cases ci:i=lo+m
      ·by_cases cj:j=lo+m
       ·rw [ci,cj];exact C.irr (c _ (by omega))
       ·rw [ci]
        exact C.tr _ _ _ (c j (by omega)) (c (lo+m - 1) (by omega)) (c _ (by omega)) (f (lo+m - 1) j (by omega) (by omega) (by omega) (by omega)) er
      ·by_cases cj:j=lo+m
       ·rw [cj]
        exact C.tr _ _ _ (c _ (by omega)) (c (lo+m - 1) (by omega)) (c i (by omega)) er2 (f i (lo+m - 1) (by omega) (by omega) (by omega) (by omega))
       ·exact f i j (by omega) (by omega) (by omega) (by omega)
   ·rintro ⟨o,m,b⟩ d ⟨D,O,q,G,a,f⟩
    dsimp only at D O G a f ⊢
    exact ⟨D,q,by omega,G,a,f⟩
   ·exact aey C (h:=lo+n) (fun k J=>N.sat p (by omega)) (by omega) de (C.asy _ _ (N.sat p (by omega)) (N.sat p (by omega)) Z)
   ·dsimp only at i1 r y w
    have:i=j:=by omega
    subst this
    exact C.irr (N.sat p (by omega))
  ·rintro ⟨o,m,b⟩ d ⟨D,q,hm,G,a,f⟩
   dsimp only at D hm G a f ⊢
   subst D
   dsimp only
   refine amv (M:=M) (A:=A) (E:=E) (s:=s) (α:=Option Nat) (Q:=Q) (P:=fun H=>Bs κ p0 a0 lo H/\Des R (arrOf H) lo (lo+m)) (prog:=?prog2) (fun K=>?use2) (fun H ⟨F,u⟩=>?pf2)
   case use2 =>
    refine aaj (fun g=>?_) (fun g=>?_)
    ·obtain ⟨F,u⟩:=ah4 C p q (l:=lo+m - (b+1)) (h:=lo+m) (by omega) (by omega) (az0 _) (by omega) a f
     refine wpS_bind (wpS_modify ?_)
     exact K _ ⟨F,u⟩
    ·exact K _ ⟨q,a⟩
   case pf2 =>
    obtain ⟨B5,Y⟩:=arc C F (n:=m) (by omega) u
    refine wpS_bind (wpS_modify ?_)
    refine wpS_bind (akr C p B5 (by omega) hm hn Y fun n' a5 W a3 _=>?_)
    exact wpS_pure (h _ n' B5 (by omega) W a3)
end
def flat (rs:List (List Keyed × Nat)):List Keyed:=(rs.map (·.1)).flatten
def pend:Nat->List (List Keyed × Nat)->List (Nat × Nat × Nat)
 | _,[]=>[]
 | k,(r,pw) :: t=>(k,r.length,pw) :: pend (k+r.length) t
theorem agh:flat []=[]:=rfl
theorem abo (r:List Keyed × Nat) (t:List (List Keyed × Nat)):flat (r :: t)=r.1 ++ flat t:=rfl
theorem abk (p q:List (List Keyed × Nat)):flat (p ++ q)=flat p ++ flat q:=by simp [flat]
theorem aby:∀ (k:Nat) (p q:List (List Keyed × Nat)),pend k (p ++ q)=pend k p ++ pend (k+(flat p).length) q
 | k,[],q=>by simp [pend,agh]
 | k,(r,pw) :: t,q=>by
  simp only [List.cons_append,pend,abo,az4,List.cons.injEq,true_and]
  rw [aby (k+r.length) t q,Nat.add_assoc]
theorem adc:∀ (k:Nat) (p:List (List Keyed × Nat)),(pend k p).length=p.length
 | _,[]=>rfl
 | k,(r,pw) :: t=>by simp [pend,adc _ t]
section
variable {M:Model} {A:Around} {E:Value->Shared->Prop} {s:Shared} {κ:SortKind} {S:Keyed->Prop} {R:Keyed->Keyed->Bool} {a0:Array Keyed}
structure Rn (κ:SortKind) (R:Keyed->Keyed->Bool) (a0:Array Keyed) (rs:List (List Keyed × Nat)) (rest:List Keyed) (st:SortSt):Prop where
 k:kindOf st = κ
 f:failedOf st=none
 arr:(arrOf st).toList=flat rs ++ rest
 pn:(pendingOf st).toList=pend 0 rs
 ok:∀ r∈rs,r.1 ≠ []/\Srt R r.1
 perm:(arrOf st).toList.Perm a0.toList
theorem at3 {α:Type} (a c:List α) (x b y : α):((a ++ x :: y :: c).set a.length b).eraseIdx (a.length+1)=a ++ b :: c:=by
 rw [List.set_append_right _ _ (az0 _),Nat.sub_self,List.set_cons_zero,List.eraseIdx_append_of_length_le (by omega)]
 rw [show a.length+1 - a.length=1 by omega]
 rfl
theorem ag6 (C:Cmp M A E s κ S R) (v:∀ x∈a0.toList,S x) {st:SortSt} {rs:List (List Keyed × Nat)} {rest:List Keyed} (N:Rn κ R a0 rs rest st) {i:Nat} (hi:i+1 < rs.length) {Q:Bool->SortSt->Prop}
  (h:∀ st' l,Rn κ R a0 l rest st'->l.length+1=rs.length->(flat l).length=(flat rs).length->Q true st'):wpS M A E s (akp i) Q st:=by
 obtain ⟨p,a,pw,b,pw2,q,e,y⟩:∃ p a pw b pw2 q,rs=p ++ (a,pw) :: (b,pw2) :: q/\p.length=i:=by
  have I:rs=rs.take i ++ rs.drop i:=(aA4 i rs).symm
  have hd:rs.drop i=rs[i] :: rs[i+1] :: rs.drop (i+2):=by
   rw [List.drop_eq_getElem_cons (by omega),List.drop_eq_getElem_cons hi]
  exact ⟨rs.take i,rs[i].1,rs[i].2,rs[i+1].1,rs[i+1].2,rs.drop (i+2),by rw [← hd];exact I,by simp;omega⟩
 subst y
 have d:=N.ok (a,pw) (by rw [e];simp)
 have g:=N.ok (b,pw2) (by rw [e];simp)
 have o:(pendingOf st).toList=pend 0 p ++ ((flat p).length,a.length,pw) :: ((flat p).length+a.length,b.length,pw2) :: pend ((flat p).length+a.length+b.length) q:=by
  rw [N.pn,e,aby];simp [pend]
 have c:(pend 0 p).length=p.length:=adc 0 p
 have j:(arrOf st).toList=flat p ++ a ++ b ++ (flat q ++ rest):=by
  rw [N.arr,e,abk,abo,abo];simp [az7]
 refine ant C (i:=p.length) (pw:=pw) (pw2:=pw2) j (fun x F=>v x (N.perm.mem_iff.mp F)) ?_ ?_ d.1 g.1 d.2 g.2 N.k N.f fun st' m B D w u pm G=>?_
 ·rw [← aB6,o,aB1 (by omega),c,Nat.sub_self];rfl
 ·rw [← aB6,o,aB1 (by omega),c,show p.length+1 - p.length=1 by omega];rfl
 ·refine h st' (p ++ (m,pw) :: q) ⟨B,D,?_,?_,fun r n=>?_,?_⟩ (by rw [e];simp;omega) ?_
  ·rw [u,abk,abo];simp [az7]
  ·rw [w,Array.toList_eraseIdxIfInBounds,Array.toList_setIfInBounds,o,← c,at3,aby]
   simp [pend,pm.length_eq,Nat.add_assoc]
  ·rcases az1.mp n with n | n
   ·exact N.ok r (by rw [e];simp [n])
   ·rcases az2.mp n with rfl | n
    ·refine ⟨?_,G⟩
     intro z
     have:=pm.length_eq
     have H:m=[]:=z
     rw [H] at this
     have:=aD3.mpr d.1
     simp at *
     omega
    ·exact N.ok r (by rw [e];simp [n])
  ·rw [u]
   refine List.Perm.trans ?_ N.perm
   rw [j]
   have:(flat p ++ a ++ b ++ (flat q ++ rest))=flat p ++ (a ++ b) ++ (flat q ++ rest):=by simp [az7]
   rw [this]
   exact (pm.append_left (flat p)).append_right _
  ·rw [e,abk,abk,abo,abo,abo]
   simp [pm.length_eq]
   omega
theorem Rn.run {rs:List (List Keyed × Nat)} {rest:List Keyed} {st st':SortSt} {n:Nat} (N:Rn κ R a0 rs rest st) (B:Bs κ (pendingOf st) (arrOf st) (flat rs).length st') (s:1<=n) (hn:(flat rs).length+n<=(arrOf st).size) (as:Asc R (arrOf st') (flat rs).length ((flat rs).length+n)) :
  ∃ r a,r.length=n/\r ≠ []/\Srt R r/\Rn κ R a0 rs (r ++ a) st':=by
 have hsz:=B.size
 have b:(arrOf st').toList.take (flat rs).length=flat rs:=by
  have q:(arrOf st').toList.take (flat rs).length=(arrOf st).toList.take (flat rs).length:=by
   apply aD6
   intro k
   rw [List.getElem?_take,List.getElem?_take]
   split
   ·rename_i d
    have:=B.pre k d
    simpa using this
   ·rfl
  rw [q,N.arr,List.take_left]
 refine ⟨((arrOf st').toList.drop (flat rs).length).take n,((arrOf st').toList.drop (flat rs).length).drop n,?_,?_,?_,B.k,B.f,?_,?_,N.ok,B.perm.trans N.perm⟩
 ·simp;omega
 ·intro z
  have:=congrArg List.length z
  simp at this
  omega
 ·unfold Srt
  rw [aE1]
  intro i j hi hj o
  have c:j < n:=by simp at hj;omega
  have get:∀ k,k < n->∀ (d:k < (((arrOf st').toList.drop (flat rs).length).take n).length),(((arrOf st').toList.drop (flat rs).length).take n)[k]=e (arrOf st') ((flat rs).length+k):=by
   intro k d h
   rw [List.getElem_take,List.getElem_drop]
   have m:=ag5 (xs:=arrOf st') (k:=(flat rs).length+k) (by omega)
   have l:(flat rs).length+k < (arrOf st').toList.length:=by simp;omega
   have g:(arrOf st').toList[(flat rs).length+k]?=some (e (arrOf st') ((flat rs).length+k)):=by simpa using m
   rw [ay4 l] at g
   exact aA9 g
  rw [get i (by omega) hi,get j c hj]
  exact as _ _ (by omega) (by omega) (by omega)
 ·rw [aA4]
  conv=>lhs;rw [← aA4 (flat rs).length (arrOf st').toList,b]
 ·rw [B.p];exact N.pn
theorem Rn.bs {rs:List (List Keyed × Nat)} {rest:List Keyed} {st:SortSt} (N:Rn κ R a0 rs rest st):Bs κ (pendingOf st) (arrOf st) (flat rs).length st:=⟨N.k,N.f,rfl,List.Perm.refl _,fun _ _=>rfl⟩
theorem Rn.size {rs:List (List Keyed × Nat)} {rest:List Keyed} {st:SortSt} (N:Rn κ R a0 rs rest st):(arrOf st).size=a0.size:=by
 have:=N.perm.length_eq;simpa using this
theorem Rn.len {rs:List (List Keyed × Nat)} {rest:List Keyed} {st:SortSt} (N:Rn κ R a0 rs rest st):(flat rs).length+rest.length=a0.size:=by
 have:=congrArg List.length N.arr
 have a:=N.size
 simp at this
 omega
theorem ard {rs:List (List Keyed × Nat)} (h:∀ r∈rs,r.1 ≠ []):rs.length<=(flat rs).length:=by
 induction rs with
 | nil=>simp [flat]
 | cons r t ih =>
  rw [abo,az4,aC2]
  have:=ih fun q a=>h q (az8 _ a)
  have:=aD3.mpr (h r aA1)
  omega
theorem aks {α:Type} (f : α->α):∀ (l:List α) (x : α),(l ++ [x]).modify l.length f=l ++ [f x]
 | [],x=>rfl
 | y :: l,x=>by
  show (y :: (l ++ [x])).modify (l.length+1) f=_
  rw [List.modify_succ_cons,aks f l x];rfl
theorem al2 {α:Type} (arr:Array α) (f : α->α) {l:List α} {x : α} (h:arr.toList=l ++ [x]):(arr.modify (arr.size - 1) f).toList=l ++ [f x]:=by
 have a:arr.size=l.length+1:=by have:=congrArg List.length h;simpa using this
 rw [Array.toList_modify,h,a,show l.length+1 - 1=l.length by omega]
 exact aks f l x
theorem at4 {α:Type} (arr:Array α) {l:List α} {x : α} (h:arr.toList=l ++ [x]):arr.back?=some x:=by
 have a:arr.size=l.length+1:=by have:=congrArg List.length h;simpa using this
 rw [Array.back?_eq_getElem?,← aB6,h,a]
 simp
theorem amw:∀ (rs:List (List Keyed × Nat)),rs ≠ []->∃ p x,rs=p ++ [x]
 | rs,h=>⟨rs.dropLast,rs.getLast h,(List.dropLast_concat_getLast h).symm⟩
theorem Rn.push {rs:List (List Keyed × Nat)} {r rest:List Keyed} {st st':SortSt} (N:Rn κ R a0 rs (r ++ rest) st) (c:r ≠ []) (d:Srt R r) (k:kindOf st'=kindOf st) (f:failedOf st'=failedOf st) (a:arrOf st'=arrOf st)
  (p:pendingOf st'=(pendingOf st).push ((flat rs).length,r.length,0)):Rn κ R a0 (rs ++ [(r,0)]) rest st':=by
 refine ⟨k.trans N.k,f.trans N.f,?_,?_,fun q b=>?_,by rw [a];exact N.perm⟩
 ·rw [a,N.arr,abk];simp [flat,az7]
 ·rw [p,Array.toList_push,N.pn,aby];simp [pend]
 ·rcases az1.mp b with b | b
  ·exact N.ok q b
  ·have:q=(r,0):=by simpa using b
   subst this;exact ⟨c,d⟩
theorem Rn.pow {rs:List (List Keyed × Nat)} {rest:List Keyed} {st st':SortSt} {pw:Nat} (N:Rn κ R a0 rs rest st) (i:rs ≠ []) (k:kindOf st'=kindOf st) (f:failedOf st'=failedOf st) (a:arrOf st'=arrOf st)
  (p:pendingOf st'=(pendingOf st).modify ((pendingOf st).size - 1) fun x=>(x.1,x.2.1,pw)):∃ c,Rn κ R a0 c rest st'/\(flat c).length=(flat rs).length:=by
 obtain ⟨q,⟨b,d⟩,e⟩:=amw rs i
 subst e
 have h:(pendingOf st).toList=pend 0 q ++ [((flat q).length,b.length,d)]:=by rw [N.pn,aby];simp [pend]
 refine ⟨q ++ [(b,pw)],⟨k.trans N.k,f.trans N.f,?_,?_,fun x g=>?_,by rw [a];exact N.perm⟩,by simp [abk,abo,agh]⟩
 ·rw [a,N.arr];simp [abk,abo,agh]
 ·rw [p,al2 _ _ h,aby];simp [pend]
 ·rcases az1.mp g with g | g
  ·exact N.ok x (by simp [g])
  ·have:x=(b,pw):=by simpa using g
   subst this
   exact N.ok (b,d) (by simp)
theorem aws {c:Prop} [Decidable c] {x y z:Nat} (a:x+1 < z) (b:y+1 < z):(if c then x else y)+1 < z:=by
 split
 ·exact a
 ·exact b
theorem Rn.powK {rs:List (List Keyed × Nat)} {rest:List Keyed} {st st':SortSt} {pw:Nat} {G:SortSt->Prop} (N:Rn κ R a0 rs rest st) (g:rs ≠ []) (h:∀ b,Rn κ R a0 b rest st'->(flat b).length=(flat rs).length->G st') (k:kindOf st'=kindOf st) (f:failedOf st'=failedOf st) (a:arrOf st'=arrOf st)
  (p:pendingOf st'=(pendingOf st).modify ((pendingOf st).size - 1) fun x=>(x.1,x.2.1,pw)):G st':=by
 obtain ⟨b,d,c⟩:=N.pow g k f a p
 exact h b d c
theorem at6 (C:Cmp M A E s κ S R) (X:∀ x∈a0.toList,S x) {st:SortSt} (h0:arrOf st=a0) (hk:kindOf st = κ) (hf:failedOf st=none) (hp:pendingOf st = #[]) {Q:Unit->SortSt->Prop}
  (h:∀ st',failedOf st'=none->(arrOf st').toList.Perm a0.toList->Srt R (arrOf st').toList->Q () st'):wpS M A E s ax8 Q st:=by
 have o:(arrOf st).size=a0.size:=by rw [h0]
 refine wpS_bind (wpS_get ?_)
 dsimp only
 refine wpS_bind (wpS_mono (Q:=fun (c:Option Unit × Nat) v=>c.1=none/\∃ rs,Rn κ R a0 rs [] v) ?_ ?_)
 ·refine wpS_forRange (fun i (c:Option Unit × Nat) v=>c.1=none/\∃ rs rest,Rn κ R a0 rs rest v/\c.2=(flat rs).length/\i<=c.2) ?_ ?_ ⟨rfl,[],a0.toList,⟨hk,hf,by rw [h0];rfl,by rw [hp];rfl,fun r H=>(by cases H),by rw [h0]⟩,rfl,az0 _⟩
  ·rintro i ⟨c1,lo⟩ v _ hi ⟨F,rs,rest,N,Z,D⟩
   dsimp only at F Z D ⊢
   subst F Z
   have O:=N.len
   have b3:i < a0.size:=by rw [← o];exact hi
   refine aaj (fun a6=>?_) (fun a7=>?_)
   ·have b0:a0.size<=(flat rs).length:=by rw [← o];exact a6
    refine wpS_pure ⟨rfl,rs,?_⟩
    have:rest=[]:=aE6 (by omega)
    subst this
    exact N
   ·have a9:(flat rs).length < a0.size:=by
     have:¬ (flat rs).length ≥ (arrOf st).size:=a7
     omega
    refine wpS_bind (apb C (fun x hx=>X x (N.perm.mem_iff.mp hx)) N.bs (nrem:=(arrOf st).size - (flat rs).length) (by omega) (by rw [N.size];omega) fun b4 n B2 n1 n2 U=>?_)
    dsimp only
    have y:=N.size
    refine aaj (fun m=>?g1) (fun m=>?g2)
    case' g1 =>
     refine wpS_bind (acz ?_)
     generalize hmr:min (_:Nat) _=nn
     refine wpS_bind (anu C (fun x hx=>X x (N.perm.mem_iff.mp hx)) B2 (n:=nn) (ok:=n) ?_ ?_ ?_ U fun b2 B3 a2=>?_)
     ·have:nn<=(arrOf st).size - (flat rs).length:=by rw [← hmr];exact Nat.min_le_left _ _
      rw [y];omega
     ·rw [← hmr];exact Nat.le_min.mpr ⟨n2,aD9 m⟩
     ·have:n<=nn:=by rw [← hmr];exact Nat.le_min.mpr ⟨n2,aD9 m⟩
      omega
     rw [aD0 (by decide)]
     have L:1<=nn:=by
      have:n<=nn:=by rw [← hmr];exact Nat.le_min.mpr ⟨n2,aD9 m⟩
      omega
     have a8:nn<=(arrOf st).size - (flat rs).length:=by rw [← hmr];exact Nat.min_le_left _ _
     obtain ⟨r,g,H,w,J,T⟩:=N.run B3 L (by rw [y];omega) a2
     clear hmr
     subst H
    case' g2 =>
     obtain ⟨r,g,H,w,J,T⟩:=N.run B2 n1 (by rw [y];omega) U
     clear m
     subst H
    all_goals
     refine wpS_bind (wpS_get ?_)
     rcases Classical.em (rs=[]) with Y | Y
     ·have B:=T.pn
      rw [Y] at B
      have hb:=Array.back?_eq_none_iff.mpr (Array.toList_eq_nil_iff.mp B)
      rw [hb]
      dsimp only
      refine wpS_bind (wpS_modify (wpS_pure ⟨rfl,rs ++ [(r,0)],g,T.push w J rfl rfl rfl rfl,?_,?_⟩))
      ·rw [abk,az4];simp [flat]
      ·have:=aD3.mpr w
       show i+1<=(flat rs).length+r.length
       omega
     ·obtain ⟨q,⟨b,W⟩,eq⟩:=amw rs Y
      have B:=T.pn
      rw [eq,aby,show pend (0+(flat q).length) [(b,W)]=[((flat q).length,b.length,W)] by simp [pend]] at B
      have hb:=at4 _ B
      rw [hb]
      dsimp only
      refine wpS_bind (wpS_mono (Q:=fun (c:Option Unit × Unit) d=>c.1=none/\∃ a,Rn κ R a0 a (r ++ g) d/\a ≠ []/\(flat a).length=(flat rs).length) ?_ ?_)
      ·refine wpS_forRange (fun _ (c:Option Unit × Unit) d=>c.1=none/\∃ a,Rn κ R a0 a (r ++ g) d/\a ≠ []/\(flat a).length=(flat rs).length) ?_ (fun c d h4=>h4) ⟨rfl,rs,T,Y,rfl⟩
       rintro i4 ⟨c4,u4⟩ d _ _ ⟨u,a,l,z4,p⟩
       dsimp only at u
       subst u
       refine wpS_bind (wpS_get ?_)
       have P:(pendingOf d).size=a.length:=by
        have:=congrArg List.length l.pn
        rw [adc] at this
        simpa using this
       by_cases K:(pendingOf d).size > 1
       ·rw [aC9 K]
        obtain ⟨x4,a3⟩:∃ x4,(pendingOf d)[(pendingOf d).size - 2]?=some x4:=⟨_,ay8 (by omega)⟩
        obtain ⟨y1,y2,y3⟩:=x4
        rw [a3]
        dsimp only
        refine aaj (fun _=>wpS_pure ⟨rfl,a,l,z4,p⟩) (fun _=>?_)
        rw [P]
        refine wpS_bind (ag6 C X l (i:=a.length - 2) (by omega) fun a5 I N5 l5 f5=>?_)
        rw [aD0 (by decide)]
        refine wpS_pure ⟨rfl,I,N5,?_,by omega⟩
        rintro rfl
        simp at l5
        omega
       ·rw [aD0 K]
        exact wpS_pure ⟨rfl,a,l,z4,p⟩
      ·rintro ⟨c4,u4⟩ d ⟨u,a,l,z4,p⟩
       dsimp only at u ⊢
       subst u
       dsimp only
       refine wpS_bind (wpS_modify ?_)
       refine l.powK (G:=fun z=>wpS M A E s _ _ z) z4 (fun a1 N6 l6=>?_) rfl rfl rfl rfl
       refine wpS_bind (wpS_modify (wpS_pure ⟨rfl,a1 ++ [(r,0)],g,N6.push w J rfl rfl rfl ?_,?_,?_⟩))
       ·rw [l6,p]
       ·rw [abk,az4,l6,p];simp [flat]
       ·have:=aD3.mpr w
        show i+1<=(flat rs).length+r.length
        omega
  ·rintro ⟨c1,lo⟩ v ⟨F,rs,rest,N,Z,D⟩
   dsimp only at F Z D ⊢
   refine ⟨F,rs,?_⟩
   have O:=N.len
   have a4:(arrOf st).size<=lo:=aB3 (Nat.le_max_right 0 _) D
   have:rest=[]:=aE6 (by rw [o] at a4;omega)
   subst this
   exact N
 ·rintro ⟨c1,lo⟩ v ⟨F,rs,N⟩
  dsimp only at F ⊢
  subst F
  dsimp only
  refine wpS_bind (wpS_mono (Q:=fun (c:Option Unit × Unit) d=>c.1=none/\∃ a,Rn κ R a0 a [] d/\a.length<=1) ?_ ?_)
  ·refine wpS_forRange (fun j (c:Option Unit × Unit) d=>c.1=none/\∃ a,Rn κ R a0 a [] d/\(a.length<=1\/a.length+j<=a0.size)) ?_ ?_ ⟨rfl,rs,N,.inr ?_⟩
   ·rintro j ⟨c4,u4⟩ d _ _ ⟨u,a,l,p⟩
    dsimp only at u
    subst u
    refine wpS_bind (wpS_get ?_)
    have P:(pendingOf d).size=a.length:=by
     have:=congrArg List.length l.pn
     rw [adc] at this
     simpa using this
    refine aaj (fun K=>wpS_pure ⟨rfl,a,l,?_⟩) (fun K=>?_)
    ·have:(pendingOf d).size<=1:=K
     omega
    ·have b1:¬ (pendingOf d).size<=1:=K
     refine wpS_bind (ag6 C X l (i:=_) ?_ fun a5 I N5 l5 f5=>?_)
     ·refine aws ?_ ?_
      ·show (pendingOf d).size - 2 - 1+1 < a.length
       omega
      ·show (pendingOf d).size - 2+1 < a.length
       omega
     rw [aD0 (by decide)]
     exact wpS_pure ⟨rfl,I,N5,by omega⟩
   ·rintro ⟨c4,u4⟩ d ⟨u,a,l,p⟩
    refine ⟨u,a,l,?_⟩
    rcases p with p | p
    ·exact p
    ·have:(arrOf st).size<=max 0 (arrOf st).size:=Nat.le_max_right _ _
     have h3:a.length+max 0 (arrOf st).size<=a0.size:=p
     omega
   ·have:=ard fun r H=>(N.ok r H).1
    have:=N.len
    omega
  ·rintro ⟨c4,u4⟩ d ⟨u,a,l,p⟩
   dsimp only at u ⊢
   subst u
   dsimp only
   refine wpS_pure (h d l.f l.perm ?_)
   rw [l.arr]
   match a,p with
   | [],_=>exact List.Pairwise.nil
   | [x],_=>simpa [flat] using (l.ok x (by simp)).2
end
end TS
namespace L2
open PySem PySem.Spec PyProof.Rows
mutual
inductive Rep (H:Hp):V->PyData->Prop
 | non:Rep H .non .none
 | bl (b:Bool):Rep H (.bl b) (.bool b)
 | int (i:Int):Rep H (.int i) (.int i)
 | str (x:Str):Rep H (.str x) (.str x)
 | lst {a:Addr} {xs:List V} {ds:List PyData}:H a=some (.lst xs)->Reps H xs ds->Rep H (.ref a) (.list ds)
 | tup {a:Addr} {xs:List V} {ds:List PyData}:H a=some (.tup xs)->Reps H xs ds->Rep H (.ref a) (.tuple ds)
inductive Reps (H:Hp):List V->List PyData->Prop
 | nil:Reps H [] []
 | cons {v:V} {vs:List V} {d:PyData} {ds:List PyData}:Rep H v d->Reps H vs ds->Reps H (v :: vs) (d :: ds)
end
mutual
theorem Rep.same {H H':Hp} (s:Same H H'):∀ {v:V} {d:PyData},Rep H v d->Rep H' v d
 | _,_,.non => .non
 | _,_,.bl b => .bl b
 | _,_,.int i => .int i
 | _,_,.str x => .str x
 | _,_,.lst h r => .lst (s _ _ h) (Reps.same s r)
 | _,_,.tup h r => .tup (s _ _ h) (Reps.same s r)
theorem Reps.same {H H':Hp} (s:Same H H'):∀ {vs:List V} {ds:List PyData},Reps H vs ds->Reps H' vs ds
 | _,_,.nil => .nil
 | _,_,.cons r t => .cons (Rep.same s r) (Reps.same s t)
end
theorem Reps.length {H:Hp}:∀ {vs:List V} {ds:List PyData},Reps H vs ds->vs.length=ds.length
 | _,_,.nil=>rfl
 | _,_,.cons _ t=>by simp [Reps.length t]
theorem Reps.get {H:Hp}:∀ {vs:List V} {ds:List PyData} {i:Nat} {d:PyData},Reps H vs ds->ds[i]?=some d->∃ v,vs[i]?=some v/\Rep H v d
 | _,_,_,_,.nil,e=>by simp at e
 | _,_,0,_,.cons r _,e=>by simp at e;subst e;exact ⟨_,rfl,r⟩
 | _,_,i+1,d,.cons _ t,e=>by
  obtain ⟨u,a,b⟩:=Reps.get (i:=i) (d:=d) t (by simpa using e)
  exact ⟨u,by simpa using a,b⟩
theorem Reps.append {H:Hp}:∀ {vs a:List V} {ds es:List PyData},Reps H vs ds->Reps H a es->Reps H (vs ++ a) (ds ++ es)
 | _,_,_,_,.nil,s=>s
 | _,_,_,_,.cons r t,s => .cons r (Reps.append t s)
section
variable {X:Cx} {pins:List (Addr × Obj)} {σ:St} {H:Hp} {s:Shared}
mutual
theorem Rep.reads (I:Inv X pins σ H s):∀ {v:V} {d:PyData} {u:Value},Rep H v d->RelV v u->∃ as,Reads s.heap u d as
 | _,_,_,.non,r=>by cases r;exact ⟨_,.none⟩
 | _,_,_,.bl b,r=>by cases r;exact ⟨_,.bool b⟩
 | _,_,_,.int i,r=>by obtain ⟨t,rfl⟩:=r;exact ⟨_,.int i t⟩
 | _,_,_,.str x,r=>by obtain ⟨t,rfl⟩:=r;exact ⟨_,.str x t⟩
 | _,_,_,.lst (a:=a) (xs:=xs) h q,r=>by
  cases r
  obtain ⟨_,its,n,g,e⟩:=(show ObjOk X.prog X.w H s.heap a (.lst xs) from I.hok a _ h)
  obtain ⟨as,f⟩:=Reps.reads I q g
  exact ⟨_,.list e rfl rfl (by simpa using f)⟩
 | _,_,_,.tup (a:=a) (xs:=xs) h q,r=>by
  cases r
  obtain ⟨_,its,g,o,e,c,n,j⟩:=(show ObjOk X.prog X.w H s.heap a (.tup xs) from I.hok a _ h)
  obtain ⟨as,f⟩:=Reps.reads I q g
  exact ⟨_,.tuple e c j (by simpa using f)⟩
theorem Reps.reads (I:Inv X pins σ H s):∀ {vs:List V} {ds:List PyData} {us:List Value},Reps H vs ds->Vals vs us->∃ as,ReadsAll s.heap us ds as
 | _,_,_,.nil,.nil=>⟨_,.nil⟩
 | _,_,_,.cons r t,.cons q qs=>by
  obtain ⟨as,a⟩:=Rep.reads I r q
  obtain ⟨bs,rb⟩:=Reps.reads I t qs
  exact ⟨_,.cons a rb⟩
end
end
mutual
def aal:PyData->Bool
 | .none | .int _=>true
 | .list xs | .tuple xs=>plainDs xs
 | _=>false
def plainDs:List PyData->Bool
 | []=>true
 | x :: xs=>aal x && plainDs xs
end
mutual
theorem acg:∀ (d:PyData),aal d=true->d.canLay0=true
 | .none,_=>by simp [PyData.canLay0]
 | .int _,_=>by simp [PyData.canLay0]
 | .list xs,h=>by simp only [PyData.canLay0];exact plain_lays xs (by simpa [aal] using h)
 | .tuple xs,h=>by simp only [PyData.canLay0];exact plain_lays xs (by simpa [aal] using h)
 | .bool _,h=>by simp [aal] at h
 | .str _,h=>by simp [aal] at h
 | .dict _,h=>by simp [aal] at h
theorem plain_lays:∀ (ds:List PyData),plainDs ds=true->PyData.canLayAll0 ds=true
 | [],_=>by simp [PyData.canLayAll0]
 | x :: xs,h=>by
  have h':aal x=true/\plainDs xs=true:=by simpa [plainDs] using h
  simp only [PyData.canLayAll0,acg x h'.1,plain_lays xs h'.2,Bool.and_self]
end
mutual
theorem ais:∀ (d e:PyData),aal d=true->aal e=true->(PyData.eqv d e=true ↔ d=e)
 | .none,e,_,h=>by cases e <;> simp_all [aal,PyData.eqv]
 | .int i,e,_,h=>by cases e <;> simp_all [aal,PyData.eqv]
 | .list xs,e,g,h=>by
  cases e with
  | list ys=>simp only [PyData.eqv,PyData.list.injEq];exact eqvAll_plain xs ys (by simpa [aal] using g) (by simpa [aal] using h)
  | _=>simp_all [aal,PyData.eqv]
 | .tuple xs,e,g,h=>by
  cases e with
  | tuple ys=>simp only [PyData.eqv,PyData.tuple.injEq];exact eqvAll_plain xs ys (by simpa [aal] using g) (by simpa [aal] using h)
  | _=>simp_all [aal,PyData.eqv]
 | .bool _,_,h,_=>by simp [aal] at h
 | .str _,_,h,_=>by simp [aal] at h
 | .dict _,_,h,_=>by simp [aal] at h
theorem eqvAll_plain:∀ (ds es:List PyData),plainDs ds=true->plainDs es=true->(PyData.eqvAll ds es=true ↔ ds=es)
 | [],[],_,_=>by simp [PyData.eqvAll]
 | [],_ :: _,_,_=>by simp [PyData.eqvAll]
 | _ :: _,[],_,_=>by simp [PyData.eqvAll]
 | x :: xs,y :: ys,g,h=>by
  have g':aal x=true/\plainDs xs=true:=by simpa [plainDs] using g
  have h':aal y=true/\plainDs ys=true:=by simpa [plainDs] using h
  simp only [PyData.eqvAll,aE5,List.cons.injEq,ais x y g'.1 h'.1,eqvAll_plain xs ys g'.2 h'.2]
end
theorem ael (ds:List PyData):plainDs ds=true ↔ ∀ d∈ds,aal d=true:=by
 induction ds with
 | nil=>simp [plainDs]
 | cons d ds ih=>simp [plainDs,ih]
def rEqD:R2:=fun x y H Q=>∃ d e,Rep H x d/\Rep H y e/\aal d=true/\aal e=true/\d.depth<=60/\Q (.bl (PyData.eqv d e)) H
def rNeD:R2:=fun x y H Q=>∃ d e,Rep H x d/\Rep H y e/\aal d=true/\aal e=true/\d.depth<=60/\Q (.bl (!PyData.eqv d e)) H
section
variable {X:Cx}
theorem awt (i:X.A.units+64 < cLine):OpR X (compareOp .Eq) rEqD:=by
 intro pins s σ H x y v u Q I b a h
 obtain ⟨d,e,g,re,hd,c,j,q⟩:=h
 obtain ⟨as,f⟩:=g.reads I b
 obtain ⟨bs,rb⟩:=re.reads I a
 refine SeqAt.compareEq_reads f rb (acg _ hd) (acg _ c) ?_ ⟨.bl _,H,I,rfl,q⟩
 have:=Nat.min_le_left d.depth e.depth
 omega
theorem aep (i:X.A.units+64 < cLine):OpR X (compareOp .NotEq) rNeD:=by
 intro pins s σ H x y v u Q I b a h
 obtain ⟨d,e,g,re,hd,c,j,q⟩:=h
 obtain ⟨as,f⟩:=g.reads I b
 obtain ⟨bs,rb⟩:=re.reads I a
 refine SeqAt.compareNe_reads f rb (acg _ hd) (acg _ c) ?_ ⟨.bl _,H,I,rfl,q⟩
 have:=Nat.min_le_left d.depth e.depth
 omega
def rInD (neg:Bool):R2:=fun x y H Q=>∃ d es,Rep H x d/\(Rep H y (.list es)\/Rep H y (.tuple es))/\aal d=true/\plainDs es=true/\d.depth<=60/\Q (.bl (if neg then !es.any (fun z=>PyData.eqv z d) else es.any (fun z=>PyData.eqv z d))) H
theorem apc (i:X.A.units+64 < cLine):OpR X (compareOp .NotIn) (rInD true):=by
 intro pins s σ H x y v u Q I f a h
 obtain ⟨d,es,g,re,hd,b,j,q⟩:=h
 obtain ⟨as,c⟩:=g.reads I f
 have hm:=Nat.min_le_right (PyData.depthAll es) d.depth
 rcases re with re | re
 ·obtain ⟨bs,rb⟩:=re.reads I a
  exact SeqAt.notIn_list_reads rb c (plain_lays _ b) (acg _ hd) (by omega) ⟨.bl _,H,I,rfl,q⟩
 ·obtain ⟨bs,rb⟩:=re.reads I a
  exact SeqAt.notIn_tuple_reads rb c (plain_lays _ b) (acg _ hd) (by omega) ⟨.bl _,H,I,rfl,q⟩
def rIsi (K:Frag):List V->Hp->VK->Prop:=fun xs H Q=>∃ (x:V) (T:String) (t:Value) (b:Bool),xs=[x,.ty T]/\TyOf K H x t/\kitOne K t (.type T)=some b/\Q (.bl b) H
theorem ac0:abh X (.builtin "isinstance") (rIsi X.K):=by
 intro pins s σ H xs us Q I r h
 obtain ⟨x,T,t,b,rfl,ty,e,q⟩:=h
 obtain ⟨u,c,rfl,d,a⟩:=anl r
 cases a
 exact aou I d ty e fun f=>⟨.bl b,H,I.tok _,rfl,q⟩
end
end L2
namespace HT
open PySem PyProof.Rows
section
open PySem.SeqAt
open PySem.AutoSeq1 (wpAny_loadPart')
open PySem.MeetsSeq PySem.MeetsSeq2 PySem.MeetsSeq3
end
section
variable {prog:Program} {w:World} {A:Around} {E:Value->Shared->Prop} {s:Shared}
theorem ait {it t:Addr} {a:Array Value} (j:t ≠ it):∀ (n i:Nat) (s:Shared) (Q:List Value->Shared->Prop),s.heap.IsListIter it t i->s.heap.IsList t a->i+n<=a.size ->
  (∀ h',h'.IsListIter it t (i+n)->Heap.SameBut it s.heap h'->Q ((a.toList.drop i).take n) { s with heap:=h' })->wpAny (model prog w) A (draw (.ref it) n) Q E s
 | 0,i,s,Q,hit,_,_,hQ=>by
  show wpAny _ _ (pure []) Q E s
  exact aG2 (by simpa using hQ s.heap hit (Heap.SameBut.refl ..))
 | n+1,i,s,Q,hit,ht,hle,hQ=>by
  have h:i < a.size:=by omega
  show wpAny _ _ (pyNext (.ref it) >>= _) Q E s
  refine aG1 (wpAny_pyNext_list_item hit ht (x:=a[i]) (by simp [h]) fun l d b=>?_)
  refine aG1 (aG6 (ait j n (i+1) _ _ d (ht.extBut b.extBut j) (by omega) fun g c f=>aG2 ?_))
  have hd:a.toList.drop i=a[i] :: a.toList.drop (i+1):=by simp [List.drop_eq_getElem_cons,h]
  have:=hQ g (by rw [show i+(n+1)=i+1+n by omega];exact c) (b.trans f)
  rw [hd,List.take_succ_cons] at this
  exact this
theorem agi {t:Addr} {a:Array Value} {Q:List Value->Shared->Prop} (hh:A.handled=none) (j:s.heap.IsList t a)
  (n:∀ h',Heap.ExtBut s.heap.objs.size s.heap h'->Q a.toList { s with heap:=h' }):wpAny (model prog w) A (unpackItems (.ref t) a.size none) Q E s:=by
 have i:t ≠ s.heap.objs.size:=by obtain ⟨o,p,_⟩:=j;exact az9 (aG4 p)
 unfold unpackItems
 refine aG1 ?_
 ·unfold notIterableAtAll
  refine aG1 (wpAny_specialOf j.typeIs slot_list_iter.lookup ?_)
  refine aG2 ?_
  simp only [Bool.false_eq_true,if_false]
  refine aG1 (aG6 (wpAny_pyIter_list j ?_))
  refine aG1 (aG6 (ait i a.size 0 _ _ ⟨_,aG5 _ rfl,rfl,rfl⟩ (j.push _) (by omega) fun m d c=>?_))
  have l:List.take a.size (List.drop 0 a.toList)=a.toList:=by
   rw [List.drop_zero];exact aC7 (by simp)
  rw [l]
  rw [aD0 (by simp)]
  have f:m.IsList t a:=(j.push _).extBut c.extBut i
  refine aG1 (aG6 (wpAny_pyNext_list_end hh d f (by simp) fun h g=>?_))
  simp only [Option.isSome_none,Bool.false_eq_true,if_false]
  refine aG2 (n h fun b o hb e=>g b o hb (c.extBut b o hb (aG3 _ e)))
theorem assign_Tuple_list {env:Env} {b:List Expr} {x1} {pos:Pos} {t:Addr} {a:Array Value} {Q:Unit->Shared->Prop} (hh:A.handled=none) (d:s.heap.IsList t a)
  (hn:(assignEach b env).length=a.size) (c:(assignEach b env).findIdx? (·.1)=none)
  (h:∀ h',Heap.ExtBut s.heap.objs.size s.heap h'->wpAny (model prog w) A (assignInOrder ((assignEach b env).map (·.2)) a.toList) Q E { s with heap:=h' }) :
  wpAny (model prog w) A (assign (.Tuple b x1 pos) env (.ref t)) Q E s:=by
 rw [assign_Tuple]
 refine aG1 (wpAny_standAt ?_)
 unfold unpack
 rw [hn,c]
 exact aG1 (aG6 (agi hh d h))
end
end HT
namespace L2
open PySem PySem.Spec PyProof.Rows
section
variable {X:Cx}
def gLst (K:Frag) (n:Nat) (t:TGs):TG:=fun v σ H Q=>∃ a xs,v=.ref a/\SqL K H a xs/\xs.length=n/\t xs σ H Q
theorem awu {es:List Expr} {k:Nat} {t:TGs} {n:Nat} {pos:Pos} (i:X.calm=true) (h:PGs X es t)
  (hn:(assignEach es X.env).length=n:=by rfl) (d:(assignEach es X.env).findIdx? (·.1)=none:=by rfl):PG X (.Tuple es k pos) (gLst X.K n t):=by
 intro pins s σ H v u Q I r c
 obtain ⟨a,xs,p,g,m,c⟩:=c
 subst p
 cases r
 obtain ⟨its,f,j,w⟩:=I.list g
 refine HT.assign_Tuple_list (I.ok.hd i) j.isList (by simp [hn,← m,f.length]) d fun h' l=>?_
 have q:Inv X pins σ H { s with heap:=h' }:=I.kept (t':=s.toks) fun b o e=>l b o (az9 (aG4 e)) e
 exact h pins _ σ H xs _ Q q (by simpa using f) c
def ag7 (K:Frag):List V->Hp->VK->Prop:=fun xs H Q=>∃ (a:Addr) (ns:List Int),xs=[.ref a]/\SqL K H a (ns.map V.int)/\ns.length < 64/\∀ (ns':List Int) (p:Addr),ns'.Perm ns->ns'.Pairwise (·<=·)->H p=none->Q (.ref p) (upd H p (.lst (ns'.map V.int)))
theorem anv:abh X (.builtin "sorted") (ag7 X.K):=by
 intro pins s σ H xs us Q I r h
 obtain ⟨a,ns,rfl,ha,f,q⟩:=h
 obtain ⟨u,rfl,v⟩:=acu r
 cases v
 obtain ⟨its,p,j,x⟩:=I.list ha
 have i1:IntsAre its.toArray.toList ns:=adp p
 have i:IntsAre its ns:=by simpa using i1
 refine sorted_ints (vs:=its) j.isList i (by rw [i.length];exact f) fun out d n g l=>?_
 obtain ⟨e,m⟩:=sortedAll_at s.heap its out
 have c:H (s.heap.objs.size+1)=none:=I.hok.fresh (Nat.le_succ _)
 refine ⟨.ref (s.heap.objs.size+1),_,I.laid (t':=s.toks) (o:=.lst (d.map V.int)) (fun b w q=>sortedAll_old q) (Nat.le_succ _) ?_,rfl,q d _ g l c⟩
 refine ⟨?_,out.toList,e,afh n,by rw [m]⟩
 rw [ay7,g.length_eq]
 exact aD9 (ad9 (by omega))
end
end L2
namespace HT
open PySem PyProof.Rows
theorem ah5 (val:Nat->Int):∀ k,argBest (fun i j=>decide (val i > val j)) k<=k/\∀ i,i<=k->val i<=val (argBest (fun i j=>decide (val i > val j)) k)
 | 0 => ⟨Nat.le_refl _, fun i hi => by have:i=0 := by omega
                                       subst this;exact Int.le_refl _⟩
 | k+1=>by
  obtain ⟨b,a⟩:=ah5 val k
  unfold argBest
  by_cases hc:val (k+1) > val (argBest (fun i j=>decide (val i > val j)) k)
  ·rw [aC9 (aB8 hc)]
   refine ⟨az0 _,fun i hi=>?_⟩
   by_cases e:i=k+1
   ·subst e;exact Int.le_refl _
   ·have:=a i (by omega)
    exact Int.le_trans this (Int.le_of_lt hc)
  ·rw [aD0 (by simpa using hc)]
   refine ⟨by omega,fun i hi=>?_⟩
   by_cases e:i=k+1
   ·subst e;omega
   ·exact a i (by omega)
def val (ns:List Int) (i:Nat):Int:=(ns[i]?).getD 0
theorem ag8 {us:List Value} {ns:List Int} (hi:IntsAre us ns) (i:Nat) (v:Value) (h:us.toArray[i]?=some v):∃ t,v=.int (val ns i) t:=by
 induction hi generalizing i with
 | nil=>simp at h
 | cons n t r ih =>
  cases i with
  | zero=>simp at h;subst h;exact ⟨t,by simp [val]⟩
  | succ i =>
   obtain ⟨t',e⟩:=ih i (by simpa using h)
   exact ⟨t',by simpa [val] using e⟩
theorem amx {ns:List Int} {i:Nat} (h:i < ns.length):val ns i∈ns:=by
 unfold val
 rw [ay4 h]
 exact List.getElem_mem h
theorem apd {ns:List Int} {x:Int} (h:x∈ns):∃ i,i < ns.length/\val ns i=x:=by
 obtain ⟨i,hi,e⟩:=aF0.mp h
 exact ⟨i,hi,by unfold val;rw [ay4 hi];exact e⟩
section
variable {prog:Program} {w:World} {A:Around} {E:Value->Shared->Prop} {s:Shared}
theorem max_list {l:Addr} {us:List Value} {ns:List Int} {Q:Value->Shared->Prop} (hh:A.handled=none) (f:s.heap.IsList l us.toArray) (hi:IntsAre us ns) (d:ns ≠ [])
  (h:∀ m t h' g,m∈ns->(∀ x∈ns,x<=m)->(∀ b o,s.heap.get? b=some o->h'.get? b=some o)->Q (.int m t) { s with heap:=h',toks:=g }) :
  wpAny (model prog w) A (call (.builtin "max") [.ref l]) Q E s:=by
 have a:l < s.heap.objs.size:=by obtain ⟨_,e,_⟩:=f;exact aG4 e
 have z:us.length=ns.length:=hi.length
 have B:0 < ns.length:=aD3.mpr d
 refine call_max_walk (wpAny_pyIter_list f ?_)
 refine ⟨_,[s.heap.objs.size,l],_,_,_,_,_,rfl,Walks.list (A:=A.in1) hh _ l (az9 a) us.toArray,⟨⟨_,aG5 _ rfl,rfl,rfl⟩,f.push _⟩,fun b hb=>?_,by simp;omega,CmpOf.ints_gt (val ns) (fun i v=>ag8 hi i v),fun v h' g n y=>?_⟩
 ·show b < (s.heap.push _).objs.size
  rw [aH0]
  rcases az2.mp hb with rfl | hb
  ·exact Nat.lt_succ_self _
  ·rcases az2.mp hb with rfl | hb
   ·exact aD2 a
   ·cases hb
 ·obtain ⟨t,e⟩:=ag8 hi _ _ n
  obtain ⟨p,j⟩:=ah5 (val ns) (us.toArray.size - 1)
  have c:us.toArray.size=ns.length:=by simp [z]
  rw [c] at p j
  subst e
  refine h _ t h' g (amx (by rw [c];omega)) (fun x r=>?_) fun b o e=>?_
  ·obtain ⟨i,q,e⟩:=apd r
   have:=j i (by omega)
   rw [e] at this
   rw [c]
   exact this
  ·refine y b o (fun hm=>?_) (aG3 _ e)
   rcases az2.mp hm with u | hm
   ·exact absurd (u ▸ aG4 e) (aD8 _)
   ·cases hm
theorem max_tup {l:Addr} {us:List Value} {ns:List Int} {Q:Value->Shared->Prop} (hh:A.handled=none) (j:s.heap.IsTuple l us.toArray) (hi:IntsAre us ns) (g:ns ≠ [])
  (h:∀ m t h' d,m∈ns->(∀ x∈ns,x<=m)->(∀ b o,s.heap.get? b=some o->h'.get? b=some o)->Q (.int m t) { s with heap:=h',toks:=d }) :
  wpAny (model prog w) A.in1 (pyIter (.ref l)) (fun it a=>∃ I fp q n P St r,it=.ref I/\Walks prog w A.in1 I fp q n P St/\St 0 a.heap/\(∀ b∈fp,b < a.heap.objs.size)/\0 < n/\CmpOf prog w A.in1 .Gt P r /\
   ∀ v h' d,P (argBest r (n - 1)) v->(∀ b o,b ∉ q->a.heap.get? b=some o->h'.get? b=some o)->Q v { a with heap:=h',toks:=d }) E s:=by
 have c:l < s.heap.objs.size:=by obtain ⟨_,e,_⟩:=j;exact aG4 e
 have F:us.length=ns.length:=hi.length
 have G:0 < ns.length:=aD3.mpr g
 refine wpAny_pyIter_tuple j ?_
 refine ⟨_,[s.heap.objs.size,l],[_],_,_,_,_,rfl,Walks.tuple (A:=A.in1) hh _ l (az9 c) us.toArray,⟨⟨_,aG5 _ rfl,rfl,rfl⟩,j.push _⟩,fun b hb=>?_,by simp;omega,CmpOf.ints_gt (val ns) (fun i v=>ag8 hi i v),fun v h' d u D=>?_⟩
 ·show b < (s.heap.push _).objs.size
  rw [aH0]
  rcases az2.mp hb with rfl | hb
  ·exact Nat.lt_succ_self _
  ·rcases az2.mp hb with rfl | hb
   ·exact aD2 c
   ·cases hb
 ·obtain ⟨t,e⟩:=ag8 hi _ _ u
  obtain ⟨y,p⟩:=ah5 (val ns) (us.toArray.size - 1)
  have f:us.toArray.size=ns.length:=by simp [F]
  rw [f] at y p
  subst e
  refine h _ t h' d (amx (by rw [f];omega)) (fun x B=>?_) fun b o e=>?_
  ·obtain ⟨i,z,e⟩:=apd B
   have:=p i (by omega)
   rw [e] at this
   rw [f]
   exact this
  ·refine D b o (fun hm=>?_) (aG3 _ e)
   rcases az2.mp hm with C | hm
   ·exact absurd (C ▸ aG4 e) (aD8 _)
   ·cases hm
end
end HT
namespace L2
open PySem PySem.Spec PyProof.Rows
section
variable {X:Cx}
def aez (ns:List Int) (m:Int):Prop:=m∈ns/\∀ x∈ns,x<=m
def ajy (K:Frag):List V->Hp->VK->Prop:=fun xs H Q=>∃ (a:Addr) (ns:List Int),xs=[.ref a]/\(SqL K H a (ns.map V.int)\/SqT K H a (ns.map V.int))/\ns ≠ []/\∀ m,aez ns m->Q (.int m) H
theorem aiu (i:X.calm=true):abh X (.builtin "max") (ajy X.K):=by
 intro pins s σ H xs us Q I r h
 obtain ⟨a,ns,rfl,ha,b,q⟩:=h
 obtain ⟨u,rfl,j⟩:=acu r
 cases j
 rcases ha with ha | ha
 ·obtain ⟨its,f,c,_⟩:=I.list ha
  have i1:IntsAre its.toArray.toList ns:=adp f
  exact HT.max_list (I.ok.hd i) c.isList (by simpa using i1) b fun m t h' l d g kp=>⟨.int m,H,I.kept kp,⟨_,rfl⟩,q m ⟨d,g⟩⟩
 ·obtain ⟨its,f,c,_⟩:=I.tuple ha
  have i1:IntsAre its.toArray.toList ns:=adp f
  refine call_max_walk (HT.max_tup (I.ok.hd i) c (by simpa using i1) b fun m t h' l d g kp=>⟨.int m,H,I.kept kp,⟨_,rfl⟩,q m ⟨d,g⟩⟩)
end
def tTru (K:Frag) (ta:TE):TT:=fun σ H Q=>ta σ H fun x H'=>∃ k,TruV K x H' k/\Q k H'
def rIsN:R2:=fun x y H Q=>y=.non/\Q (.bl (decide (x=.non))) H
def as8:R2:=fun x y H Q=>y=.non/\Q (.bl (!decide (x=.non))) H
section
variable {X:Cx} {a:Expr} {ta:TE}
theorem ag9 (ha:PE X a ta) (b:∀ whole,isTrue a X.env whole=(do let v ← whole;standAt a.pos;holding [v] (truthy v)):=by intro _;rfl):PT X a (tTru X.K ta):=aqt ha b
def ab7 (K:Frag):R2:=fun x y H Q=>rIxL K x y H Q\/rIxT K x y H Q
theorem aaw:IxR X (ab7 X.K):=ix_list.or awg
theorem at7 {i j n:Int} {b d:Nat} {c p2 pos:Pos} (h:i ^ j.toNat=n) (a:CPow i j):PE X (.BinOp (.Constant (.int i) b c) .Pow (.Constant (.int j) d p2) pos) (tC (.int n)):=by
 intro pins s σ H Q I q
 subst h
 exact aae awb aab aab pins s σ H Q I ⟨i,j,rfl,rfl,a,q⟩
theorem at8:OpR X (compareOp .Is) rIsN:=awd
theorem agj:OpR X (compareOp .IsNot) as8:=atl
end
section
variable {σ:St} {H:Hp} {D:Ends} {K:Frag}
theorem ad3 {a:Addr} {xs:List V} {i:Int} {v:V} {Q:VK} (ha:H a=some (.lst xs)) (b:atI xs i=some v) (h:Q v H):ab7 K (.ref a) (.int i) H Q:=.inl (awo ha b h)
theorem akt {a:Addr} {xs:List V} {i:Int} {v:V} {Q:VK} (ha:H a=some (.tup xs)) (b:atI xs i=some v) (h:Q v H):ab7 K (.ref a) (.int i) H Q:=.inr (awp ha b h)
theorem adk {A B:Prop} (h:A):if true=true then A else B:=by rw [aC9 rfl];exact h
theorem ad4 {A B:Prop} (h:B):if false=true then A else B:=by rw [aD0 az3];exact h
theorem afx {A B:Prop} (h:B):if (!true)=true then A else B:=by rw [aD0 (by decide)];exact h
theorem amy {A B:Prop} (h:A):if (!false)=true then A else B:=by rw [aC9 (by decide)];exact h
theorem agk {K:Frag}:kitOne K (.type "NoneType") (.type "int")=some false:=by first | rfl | decide
theorem af6 {K:Frag}:kitOne K (.type "NoneType") (.type "bool")=some false:=by first | rfl | decide
theorem afl {K:Frag}:kitOne K (.type "NoneType") (.type "tuple")=some false:=by first | rfl | decide
theorem af7 {K:Frag}:kitOne K (.type "NoneType") (.type "list")=some false:=by first | rfl | decide
theorem agl {K:Frag}:kitOne K (.type "NoneType") (.type "str")=some false:=by first | rfl | decide
theorem af8 {K:Frag}:kitOne K (.type "NoneType") (.type "dict")=some false:=by first | rfl | decide
theorem aku {K:Frag}:kitOne K (.type "bool") (.type "int")=some true:=by first | rfl | decide
theorem ai9 {K:Frag}:kitOne K (.type "bool") (.type "bool")=some true:=by first | rfl | decide
theorem ah6 {K:Frag}:kitOne K (.type "bool") (.type "tuple")=some false:=by first | rfl | decide
theorem aja {K:Frag}:kitOne K (.type "bool") (.type "list")=some false:=by first | rfl | decide
theorem akv {K:Frag}:kitOne K (.type "bool") (.type "str")=some false:=by first | rfl | decide
theorem ajb {K:Frag}:kitOne K (.type "bool") (.type "dict")=some false:=by first | rfl | decide
theorem al3 {K:Frag}:kitOne K (.type "int") (.type "int")=some true:=by first | rfl | decide
theorem akw {K:Frag}:kitOne K (.type "int") (.type "bool")=some false:=by first | rfl | decide
theorem ajc {K:Frag}:kitOne K (.type "int") (.type "tuple")=some false:=by first | rfl | decide
theorem akx {K:Frag}:kitOne K (.type "int") (.type "list")=some false:=by first | rfl | decide
theorem al4 {K:Frag}:kitOne K (.type "int") (.type "str")=some false:=by first | rfl | decide
theorem aky {K:Frag}:kitOne K (.type "int") (.type "dict")=some false:=by first | rfl | decide
theorem al5 {K:Frag}:kitOne K (.type "str") (.type "int")=some false:=by first | rfl | decide
theorem akz {K:Frag}:kitOne K (.type "str") (.type "bool")=some false:=by first | rfl | decide
theorem ajd {K:Frag}:kitOne K (.type "str") (.type "tuple")=some false:=by first | rfl | decide
theorem ak0 {K:Frag}:kitOne K (.type "str") (.type "list")=some false:=by first | rfl | decide
theorem al6 {K:Frag}:kitOne K (.type "str") (.type "str")=some true:=by first | rfl | decide
theorem ak1 {K:Frag}:kitOne K (.type "str") (.type "dict")=some false:=by first | rfl | decide
theorem ak2 {K:Frag}:kitOne K (.type "list") (.type "int")=some false:=by first | rfl | decide
theorem aje {K:Frag}:kitOne K (.type "list") (.type "bool")=some false:=by first | rfl | decide
theorem ah7 {K:Frag}:kitOne K (.type "list") (.type "tuple")=some false:=by first | rfl | decide
theorem ajf {K:Frag}:kitOne K (.type "list") (.type "list")=some true:=by first | rfl | decide
theorem ak3 {K:Frag}:kitOne K (.type "list") (.type "str")=some false:=by first | rfl | decide
theorem ajg {K:Frag}:kitOne K (.type "list") (.type "dict")=some false:=by first | rfl | decide
theorem ajh {K:Frag}:kitOne K (.type "tuple") (.type "int")=some false:=by first | rfl | decide
theorem ah8 {K:Frag}:kitOne K (.type "tuple") (.type "bool")=some false:=by first | rfl | decide
theorem aha {K:Frag}:kitOne K (.type "tuple") (.type "tuple")=some true:=by first | rfl | decide
theorem ah9 {K:Frag}:kitOne K (.type "tuple") (.type "list")=some false:=by first | rfl | decide
theorem aji {K:Frag}:kitOne K (.type "tuple") (.type "str")=some false:=by first | rfl | decide
theorem aia {K:Frag}:kitOne K (.type "tuple") (.type "dict")=some false:=by first | rfl | decide
theorem ak4 {K:Frag}:kitOne K (.type "dict") (.type "int")=some false:=by first | rfl | decide
theorem ajj {K:Frag}:kitOne K (.type "dict") (.type "bool")=some false:=by first | rfl | decide
theorem aib {K:Frag}:kitOne K (.type "dict") (.type "tuple")=some false:=by first | rfl | decide
theorem ajk {K:Frag}:kitOne K (.type "dict") (.type "list")=some false:=by first | rfl | decide
theorem ak5 {K:Frag}:kitOne K (.type "dict") (.type "str")=some false:=by first | rfl | decide
theorem ajl {K:Frag}:kitOne K (.type "dict") (.type "dict")=some true:=by first | rfl | decide
end
end L2
namespace L2
open PySem
section
variable {σ:St} {H:Hp} {K:Frag}
theorem ab8 {p:Addr} {o:HO} (a:H p=none):Same H (upd H p o):=fun b u e=>by rw [aag (aap e a)];exact e
theorem Same.new {H H':Hp} {q:Addr} {o:HO} (s:Same H H') (h:H' q=none):Same H (upd H' q o):=fun b u e=>by
 have:=s b u e
 rw [aag (aap this h)];exact this
theorem Same.set {H H':Hp} {q:Addr} {o:HO} (s:Same H H') (h:H q=none):Same H (upd H' q o):=fun b u e=>by
 have:=s b u e
 rw [aag (aap e h)];exact this
theorem Same.at {H H':Hp} {b:Addr} {o:HO} (s:Same H H') (h:H b=some o):H' b=some o:=s b o h
end
section
variable {σ:St} {H:Hp} {K:Frag}
end
end L2
namespace Gr
inductive Walk (T:Int->Int->Prop) (u:Int):Nat->Int->Prop
 | refl:Walk T u 0 u
 | step {k:Nat} {v w:Int}:Walk T u k v->T v w->Walk T u (k+1) w
def Dist (T:Int->Int->Prop) (u v:Int) (d:Nat):Prop:=Walk T u d v/\∀ k,Walk T u k v->d<=k
theorem Dist.uniq {T:Int->Int->Prop} {u v:Int} {d e:Nat} (h:Dist T u v d) (g:Dist T u v e):d=e:=Nat.le_antisymm (h.2 _ g.1) (g.2 _ h.1)
theorem Dist.self (T:Int->Int->Prop) (u:Int):Dist T u u 0:=⟨.refl,fun _ _=>aD4 _⟩
theorem Dist.of_walk {T:Int->Int->Prop} {u v:Int} {k:Nat} (h:Walk T u k v):∃ d,d<=k/\Dist T u v d:=by
 induction k using Nat.strongRecOn with
 | ind k ih =>
  by_cases hx:∃ j,j < k/\Walk T u j v
  ·obtain ⟨j,hj,w⟩:=hx
   obtain ⟨d,hd,e⟩:=ih j hj w
   exact ⟨d,by omega,e⟩
  ·refine ⟨k,az0 _,h,fun j w=>?_⟩
   by_cases hj:j < k
   ·exact absurd ⟨j,hj,w⟩ hx
   ·omega
theorem Dist.pred {T:Int->Int->Prop} {u w:Int} {d:Nat} (h:Dist T u w (d+1)):∃ v,T v w/\Dist T u v d:=by
 obtain ⟨b,hm⟩:=h
 cases b with
 | step hv ht =>
  rename_i v
  refine ⟨v,ht,hv,fun k a=>?_⟩
  have:=hm (k+1) (.step a ht)
  omega
theorem Dist.next {T:Int->Int->Prop} {u v w:Int} {d:Nat} (h:Dist T u v d) (t:T v w):∃ e,e<=d+1/\Dist T u w e:=Dist.of_walk (.step h.1 t)
structure Bfs (T:Int->Int->Prop) (a:Int) (line:List Int) (ds:List Nat) (at_:Nat):Prop where
 len:ds.length=line.length
 fst:line[0]?=some a
 nd:line.Nodup
 le:at_<=line.length
 dist:∀ (i:Nat) v d,line[i]?=some v->ds[i]?=some d->Dist T a v d
 mono:∀ (i j:Nat) d e,i<=j->ds[i]?=some d->ds[j]?=some e->d<=e
 near:∀ (i j:Nat) d e,at_<=i->ds[i]?=some d->ds[j]?=some e->e<=d+1
 done:∀ (i:Nat) v w,i < at_->line[i]?=some v->T v w->w∈line
theorem Bfs.start (T:Int->Int->Prop) (a:Int):Bfs T a [a] [0] 0:=by
 refine ⟨rfl,rfl,by simp,aD4 _,fun i v d c b=>?_,fun i j d e h c b=>?_,fun i j d e h c b=>?_,fun i v w h=>absurd h (by omega)⟩
 ·match i,c,b with
  | 0,c,b=>simp at c b;subst c b;exact Dist.self T a
  | i+1,c,_=>simp at c
 ·match j,b with
  | 0,b =>
   have:i=0:=by omega
   subst this
   rw [c] at b;cases b;exact az0 _
  | j+1,b=>simp at b
 ·match i,j,c,b with
  | 0,0,c,b=>rw [c] at b;cases b;omega
  | i+1,_,c,_=>simp at c
  | 0,j+1,_,b=>simp at b
theorem Bfs.all {T:Int->Int->Prop} {a:Int} {line:List Int} {ds:List Nat} {at_:Nat} {d:Nat} (b:Bfs T a line ds at_) (hd:ds[at_]?=some d) :
  ∀ k w,k<=d->Dist T a w k->w∈line:=by
 intro k
 induction k with
 | zero =>
  intro w _ h
  have:w=a:=by
   cases h.1;rfl
  subst this
  exact ay6 b.fst
 | succ k ih =>
  intro w o h
  obtain ⟨v,l,f⟩:=h.pred
  have m:=ih v (by omega) f
  obtain ⟨i,hi,e⟩:=aF0.mp m
  have j:line[i]?=some v:=by rw [ay4 hi,e]
  have c:i < ds.length:=by rw [b.len];exact hi
  have g:ds[i]?=some ds[i]:=ay4 c
  have n:=(b.dist i v _ j g).uniq f
  by_cases hlt:i < at_
  ·exact b.done i v w hlt j l
  ·have:=b.mono at_ i d _ (by omega) hd g
   omega
theorem Bfs.add {T:Int->Int->Prop} {a:Int} {line:List Int} {ds:List Nat} {at_:Nat} {p w:Int} {d:Nat} (b:Bfs T a line ds at_) (n:line[at_]?=some p) (hd:ds[at_]?=some d) (t:T p w) (q:w ∉ line) :
  Bfs T a (line ++ [w]) (ds ++ [d+1]) at_:=by
 have z:at_ < line.length:=(ay5.mp n).1
 have C:Dist T a w (d+1):=by
  obtain ⟨e,D,h⟩:=(b.dist _ _ _ n hd).next t
  by_cases f:e<=d
  ·exact absurd (b.all hd e w f h) q
  ·have:e=d+1:=by omega
   rw [← this];exact h
 have g:∀ (j:Nat) e,(ds ++ [d+1])[j]?=some e->(ds[j]?=some e)\/(j=ds.length/\e=d+1):=by
  intro j e h
  rw [List.getElem?_append] at h
  split at h
  ·exact .inl h
  ·rename_i hj
   right
   have:j - ds.length=0:=by
    match hz:j - ds.length,h with
    | 0,_=>rfl
    | k+1,h=>simp at h
   rw [this] at h
   simp at h
   exact ⟨by omega,h.symm⟩
 refine ⟨by simp [b.len],?_,?_,by simp;omega,fun i v e c f=>?_,fun i j x y h c f=>?_,fun i j x y h c f=>?_,fun i v u h c s=>?_⟩
 ·rw [aA6 (by omega)];exact b.fst
 ·rw [List.nodup_append]
  exact ⟨b.nd,by simp,fun x B y r=>by simp at r;subst r;intro e;subst e;exact q B⟩
 ·rcases g _ _ f with f | ⟨o,l⟩
  ·have hi:i < ds.length:=(ay5.mp f).1
   rw [aA6 (by rw [← b.len];exact hi)] at c
   exact b.dist i v e c f
  ·subst l
   rw [aB1 (by rw [← b.len];omega)] at c
   have:i - line.length=0:=by rw [← b.len];omega
   rw [this] at c
   simp at c;subst c
   exact C
 ·rcases g _ _ c with c | ⟨o,l⟩
  ·rcases g _ _ f with f | ⟨m,l⟩
   ·exact b.mono i j x y h c f
   ·subst l
    by_cases hia:at_<=i
    ·exact b.near at_ i d x (az0 _) hd c
    ·have:=b.mono i at_ x d (by omega) c hd;omega
  ·rcases g _ _ f with f | ⟨m,A⟩
   ·have:=(ay5.mp f).1;omega
   ·omega
 ·rcases g _ _ c with c | ⟨o,l⟩
  ·rcases g _ _ f with f | ⟨m,l⟩
   ·exact b.near i j x y h c f
   ·subst l
    have:=b.mono at_ i d x h hd c;omega
  ·subst l
   rcases g _ _ f with f | ⟨m,l⟩
   ·have:=b.near at_ j d y (az0 _) hd f;omega
   ·omega
 ·rw [aA6 (by omega)] at c
  exact aB0 _ (b.done i v u h c s)
theorem Bfs.next {T:Int->Int->Prop} {a:Int} {line:List Int} {ds:List Nat} {at_:Nat} {p:Int} (b:Bfs T a line ds at_) (g:line[at_]?=some p) (h:∀ w,T p w->w∈line):Bfs T a line ds (at_+1):=by
 have c:at_ < line.length:=(ay5.mp g).1
 refine ⟨b.len,b.fst,b.nd,c,b.dist,b.mono,fun i j d e hi=>b.near i j d e (by omega),fun i v w hi f t=>?_⟩
 by_cases e:i=at_
 ·subst e
  rw [g] at f;cases f
  exact h w t
 ·exact b.done i v w (by omega) f t
theorem Bfs.fin {T:Int->Int->Prop} {a:Int} {line:List Int} {ds:List Nat} (b:Bfs T a line ds line.length):∀ k w,Walk T a k w->w∈line:=by
 intro k w h
 induction h with
 | refl=>exact ay6 b.fst
 | step _ t ih =>
  obtain ⟨i,hi,e⟩:=aF0.mp ih
  exact b.done i _ _ hi (by rw [ay4 hi,e]) t
end Gr
namespace L2
open PySem PySem.Spec PyProof.Rows
section
variable {σ:St} {H:Hp} {D:Ends} {K:Frag}
end
theorem few_places:∀ (n:Nat) (l:List Int),l.Nodup->(∀ v∈l,0<=v/\v < (n:Int))->l.length<=n
 | 0,l,_,h=>by
  cases l with
  | nil=>simp
  | cons v r=>have:=h v (by simp);omega
 | n+1,l,hn,h=>by
  have c:=few_places n (l.erase (n:Int)) (hn.erase _) fun v a=>by
   have hm:=List.mem_of_mem_erase a
   have hb:=h v hm
   have b:v ≠ (n:Int):=by
    rintro rfl
    exact absurd a (List.Nodup.not_mem_erase hn)
   omega
  have d:l.length<=(l.erase (n:Int)).length+1:=by
   rw [List.length_erase]
   split <;> omega
  omega
end L2
namespace L2
open PySem
end L2
namespace HT
open PySem PyProof.Rows
section
variable {prog:Program} {w:World} {A:Around} {E:Value->Shared->Prop} {s:Shared}
end
end HT
namespace L2
open PySem PySem.Spec PyProof.Rows
section
variable {X:Cx}
end
section
variable {X:Cx} {pins:List (Addr × Obj)} {σ:St} {H:Hp} {s:Shared} {A:Around} {E:Value->Shared->Prop} {Q:Value->Shared->Prop} {b:Bool}
end
section
variable {X:Cx}
end
end L2
namespace HT
open PySem PyProof.Rows L2
def LtAt (A:Around) (s:Shared) (y x:Value) (b:Bool):Prop :=
 ∀ (prog:Program) (w:World) (E:Value->Shared->Prop) (Q:Value->Shared->Prop),Q (.bool b) s->wpAny (model prog w) A (richCompare .Lt y x) Q E s
section
open PySem.SeqAt
open PySem.AutoSeq1 (wpAny_loadPart')
open PySem.MeetsSeq PySem.MeetsSeq2 PySem.MeetsSeq3
inductive Its (A:Around) (s:Shared):List Value->List Value->Bool->Prop
 | nn:Its A s [] [] false
 | nc {x:Value} {ys:List Value}:Its A s [] (x :: ys) true
 | cn {x:Value} {xs:List Value}:Its A s (x :: xs) [] false
 | eq {x y:Value} {xs ys:List Value} {b:Bool}:EqAt A s x y true->Its A s xs ys b->Its A s (x :: xs) (y :: ys) b
 | ne {x y:Value} {xs ys:List Value} {b:Bool}:EqAt A s x y false->LtAt A s x y b->Its A s (x :: xs) (y :: ys) b
theorem ak6 (l b:Addr) (c a:Array Value) (n I:Nat) (H u:Option Addr) (sl q:Array (Option Value)) (r:Bool) :
  Meets (Builtin.«tuple.__lt__» ⟨[.ref l,.ref b],[]⟩)
   (fun A R s=>s.heap.get? l=some { cls:=.type "tuple",dict:=H,data:=.seq c n,slots:=sl }/\s.heap.get? b=some { cls:=.type "tuple",dict:=u,data:=.seq a I,slots:=q } /\
    Its A.in1 s c.toList a.toList r/\R (.ok (.ret (.bool r))) s) :=
 .of_wp fun prog w A R s h=>by
  obtain ⟨E,g,d,F,os⟩:=s;obtain ⟨J,hb,hi,h⟩:=h
  have M:=AutoSeq1.sub_tuple_tuple
  wp_walk using wpAny_loadPart' J,wpAny_loadPart' hb,wpAny_forIn_list _ (fun rest b B=>b.1=none/\B=⟨E,g,d,F,os⟩/\∃ (vs p:List Value),rest=vs.zip p /\
   vs.length+a.size=p.length+c.size/\Its A.in1 ⟨E,g,d,F,os⟩ vs p r) _
  case turn =>
   rintro ⟨y,x⟩ rest b B ⟨m,rfl,vs,p,j,f,v⟩
   cases v with
   | nn=>cases j
   | nc=>cases j
   | cn=>cases j
   | eq he hI' =>
    rw [List.zip_cons_cons] at j
    injection j with o i
    injection o with D C
    subst D C
    simp only [aC2] at f
    refine aG1 (he prog w _ _ ?_)
    wp_walk
    exact ⟨rfl,rfl,_,_,i,by omega,hI'⟩
   | ne he hlt =>
    rw [List.zip_cons_cons] at j
    injection j with o i
    injection o with D C
    subst D C
    refine aG1 (he prog w _ _ ?_)
    have z:=hlt prog w
    wp_walk using z
    exact ⟨_,rfl,by simpa using h⟩
  case fin =>
   rintro ⟨L,K⟩ B ⟨m,rfl,vs,p,j,f,v⟩
   simp only at m
   subst m
   have G:r=decide (c.size < a.size):=by
    cases v with
    | nn =>
     simp only [aG0] at f
     exact (aB7 (by omega)).symm
    | nc =>
     simp only [aG0,aC2] at f
     exact (aB8 (by omega)).symm
    | cn =>
     simp only [aG0,aC2] at f
     exact (aB7 (by omega)).symm
    | eq=>cases j
    | ne=>cases j
   rw [G] at h
   wp_walk
   exact ⟨_,rfl,by simpa [Builtin.Tuple.tupleCompareSizes] using h⟩
  case h =>
   exact ⟨rfl,rfl,c.toList,a.toList,rfl,by simp;omega,hi⟩
end
section
variable {A:Around} {s:Shared}
theorem LtAt.tup {l b:Addr} {o g:Obj} {c a:Array Value} {n p:Nat} {r:Bool} (v:s.heap.get? l=some o) (u:o.cls=.type "tuple") (hd:o.data=.seq c n) (hb:s.heap.get? b=some g) (f:g.cls=.type "tuple") (d:g.data=.seq a p)
  (z:A.units < cLine) (hi:Its A.in1 s c.toList a.toList r):LtAt A s (.ref l) (.ref b) r:=by
 intro prog w E Q q
 obtain ⟨cls,y,data,sl⟩:=o
 obtain ⟨m,i,j,h⟩:=g
 simp only at u hd f d
 subst u hd f d
 exact richCompare_meets_room (op:=.Lt) ⟨_,v,rfl⟩ ⟨_,hb,rfl⟩ PySem.F.slot_tuple_lt PySem.F.entry_tuple_lt (PySem.F.args_tuple_lt_2 _ _) (ak6 l b c a n p y i sl h r)
  ⟨v,hb,hi,show Value.bool r ≠ Value.notImplemented/\Q (.bool r) s from ⟨(fun x=>nomatch x),q⟩⟩ z
end
end HT
namespace L2
open PySem PySem.Spec PyProof.Rows
section
variable {X:Cx}
end
end L2
namespace L2
open PySem
end L2
namespace TS
open PySem PyProof.Rows HT
theorem amz:∀ x y:List Int,HT.lexLt x y=true->HT.lexLt y x=false
 | [],[],h=>by simp [HT.lexLt] at h
 | [],_ :: _,_=>rfl
 | _ :: _,[],h=>by simp [HT.lexLt] at h
 | a :: x,b :: y,h=>by
  rw [aew] at h ⊢
  by_cases e:a=b
  ·subst e
   rw [aC9 rfl] at h ⊢
   exact amz x y h
  ·rw [aD0 e] at h
   rw [aD0 (fun z=>e z.symm)]
   have:=of_decide_eq_true h
   exact aB7 (by omega)
theorem ape:∀ x y z:List Int,HT.lexLt y x=false->HT.lexLt z y=false->HT.lexLt z x=false
 | _,[],[],h,_=>h
 | [],[],_ :: _,_,_=>rfl
 | _ :: _,[],_ :: _,h,_=>by simp [HT.lexLt] at h
 | _,_ :: _,[],_,h=>by simp [HT.lexLt] at h
 | [],_ :: _,_ :: _,_,_=>rfl
 | a :: x,b :: y,c :: z,h,g=>by
  rw [aew] at h g ⊢
  by_cases e:b=a
  ·subst e
   rw [aC9 rfl] at h
   by_cases e2:c=b
   ·subst e2
    rw [aC9 rfl] at g ⊢
    exact ape x y z h g
   ·rw [aD0 e2] at g ⊢
    exact g
  ·rw [aD0 e] at h
   have h':=of_decide_eq_false h
   by_cases e2:c=b
   ·subst e2
    rw [aD0 e]
    exact h
   ·rw [aD0 e2] at g
    have g':=of_decide_eq_false g
    rw [aD0 (by omega)]
    exact aB7 (by omega)
def TI (h:Heap) (a:Addr) (ns:List Int):Prop:=∃ o xs n,h.get? a=some o/\o.cls=.type "tuple"/\o.data=.seq xs n/\IntsAre xs.toList ns
def kfV (kf:Addr->List Int):Value->List Int
 | .ref a=>kf a
 | _=>[]
section
variable {prog:Program} {w:World} {A:Around} {E:Value->Shared->Prop} {s:Shared}
theorem af9 {fin:Bool} {Q:Bool->Shared->Prop}:∀ {xs ys:List Value} {ns c:List Int} (i:Nat),IntsAre xs ns->IntsAre ys c->(ns.length < c.length->fin=true)->(c.length<=ns.length->fin=false)->Q (HT.lexLt ns c) s ->
  PySem.W.KatLex prog w A true fin Q (xs.zip ys) i s
 | _,_,_,_,i,.nil,.nil,_,h2,q=>by
  rw [h2 (az0 _)];exact q
 | _,_,_,_,i,.nil,.cons b u r,h1,_,q=>by
  rw [h1 (by simp)];exact q
 | _,_,_,_,i,.cons a t r,.nil,_,h2,q=>by
  rw [List.zip_nil_right,h2 (by simp)];exact q
 | _,_,_,_,i,.cons a t r,.cons b u r2,h1,h2,q=>by
  rw [List.zip_cons_cons]
  refine PySem.W.kat_cons (SeqAt.EqAt.int_int a t b u prog w _ _ ?_)
  rw [aew] at q
  by_cases e:a=b
  ·subst e
   rw [aC9 rfl] at q
   rw [show (a == a)=true by simp]
   exact PySem.W.kat_yes (af9 (i+1) r r2 (fun z=>h1 (by simpa using z)) (fun z=>h2 (by simpa using z)) q)
  ·rw [aD0 e] at q
   rw [show (a == b)=false by simpa using e]
   refine PySem.W.kat_no ?_
   by_cases hi:i=0
   ·subst hi
    exact oneLt_int q
   ·rw [show (true && i == 0)=false by simpa using hi]
    exact PySem.W.kat_one _ _ (PyProof.Rows.lt_int q)
def tS (h:Heap) (kf:Addr->List Int) (x:Keyed):Prop:=x.1=x.2/\∃ a,x.1=.ref a/\TI h a (kf a)
def tR (kf:Addr->List Int) (x y:Keyed):Bool:=HT.lexLt (kfV kf x.1) (kfV kf y.1)
theorem cmp_tups (i:Addr->List Int):Cmp (model prog w) A E s (tuples' true) (tS s.heap i) (tR i):=by
 refine ⟨fun x y r B Q st v q=>?_,fun x y _ _=>amz _ _,fun x y z _ _ _=>ape _ _ _⟩
 obtain ⟨G,J⟩:=x
 obtain ⟨C,H⟩:=y
 obtain ⟨_,a,j,o,xs,n,u,I,m,f⟩:=r
 obtain ⟨_,b,h,o',ys,D,p,F,l,g⟩:=B
 dsimp only at j h
 subst j h
 rw [lt'_eq]
 refine wpS_bind (wpS_get ?_)
 rw [v]
 refine wpS_bind (wpS_lift (wpAny_attempt (PySem.W.kat_lt u m p l (af9 0 f g (fun z=>?_) (fun z=>?_) ⟨rfl,?_⟩))))
 ·have c:=f.length;have d:=g.length
  simp at c d
  exact aB8 (by omega)
 ·have c:=f.length;have d:=g.length
  simp at c d
  exact aB7 (by omega)
 ·exact wpS_pure q
theorem anw {vs:List Value} {ps:List Keyed} (h:ps.Perm (vs.zip vs)):(∀ p∈ps,p.1=p.2/\p.1∈vs)/\(ps.map (·.2)).Perm vs:=by
 refine ⟨fun p b=>mem_zip_self (h.mem_iff.mp b),?_⟩
 have a:=h.map (fun p=>p.2)
 have e:(vs.zip vs).map (fun p=>p.2)=vs:=List.map_snd_zip (az0 _)
 rwa [e] at a
theorem ajm {a:Addr} {vs:List Value} {n:Nat} {P:PySem.Fin->Shared->Prop} (j:s.heap.get? a=some (seqObj "list" vs.toArray n)) (c:vs.length<=sizeLine)
  (l:2<=vs.length->∀ h',(∀ b o,b ≠ a->s.heap.get? b=some o->h'.get? b=some o)->∃ κ S R,(∀ (Q:SortKind->Shared->Prop),Q κ { s with heap:=h' }->wpAny (model prog w) A (keyKind' vs.toArray) Q E { s with heap:=h' })/\Cmp (model prog w) A E { s with heap:=h' } κ S R/\(∀ v∈vs,S (v,v)) /\
   ∀ out:List Value,out.Perm vs->out.Pairwise (fun x y=>R (y,y) (x,x)=false)->P (.done (.ret .none)) { s with heap:=sortedHeap s.heap a vs out.toArray })
  (G:vs.length < 2->P (.done (.ret .none)) { s with heap:=sortedHeap s.heap a vs vs.toArray }) :
  wpAny (model prog w) A (Builtin.«list.sort» ⟨[.ref a],[]⟩) P E s:=by
 rw [list_sort_plain]
 have ha:a < s.heap.objs.size:=aG4 j
 refine aG1 (listItems_at j rfl ?_)
 refine aG1 (listUpdate_at j rfl ?_ (by rw [az5];exact c) (aD4 _))
 obtain ⟨r,g⟩:∃ r,(s.heap.update a (Obj.mapSeq fun _ => #[])).get? a=some (seqObj "list" #[] r):=⟨_,get?_update_seq j (fun _ => #[])⟩
 refine aG1 (seqEpoch_at g rfl ?_)
 refine aG1 (wpAny_newTuple ?_ (by show vs.length<=_;exact c))
 refine aG1 (wpAny_newList ?_ (aD4 _))
 refine aG6 ?_
 have d:(((s.heap.update a (Obj.mapSeq fun _ => #[])).push (seqObj "tuple" vs.toArray 0)).push (seqObj "list" #[] 0)).get? a=some (seqObj "list" #[] r):=by
  rw [Heap.get?_push_ne _ _ _ (by rw [size_push',Heap.size_update];exact az9 (aD2 ha)),Heap.get?_push_ne _ _ _ (by rw [Heap.size_update];exact az9 ha)]
  exact g
 show wpAny (model prog w) A _ P E { s with heap:=((s.heap.update a (Obj.mapSeq fun _ => #[])).push (seqObj "tuple" vs.toArray 0)).push (seqObj "list" #[] 0) }
 dsimp only
 have hsz:vs.toArray.size=vs.length:=by simp
 have kp:∀ b o,b ≠ a->s.heap.get? b=some o->(((s.heap.update a (Obj.mapSeq fun _ => #[])).push (seqObj "tuple" vs.toArray 0)).push (seqObj "list" #[] 0)).get? b=some o:=fun b o hb e=>by
  refine aG3 _ (aG3 _ ?_)
  rw [Heap.get?_update_ne _ _ _ _ hb];exact e
 by_cases h2:vs.toArray.size < 2
 ·rw [aC9 h2,aC9 h2]
  refine aG1 (aG2 ?_)
  rw [StateT.run_pure]
  refine aG1 (aG2 ?_)
  dsimp only
  have m:(arrOf (SortSt.mk' general' (vs.toArray.zip vs.toArray) #[] 7 none)).map (·.2)=vs.toArray:=by
   show (vs.toArray.zip vs.toArray).map (·.2)=vs.toArray
   apply Array.toList_inj.mp
   rw [Array.toList_map,Array.toList_zip]
   exact List.map_snd_zip (az0 _)
  rw [m]
  refine aG1 (seqEpoch_at d rfl ?_)
  refine aG1 (listUpdate_at d rfl ?_ (aD4 _) (by rw [az5];exact Nat.le_succ_of_le c))
  simp only [bne_self_eq_false,Bool.false_eq_true,if_false]
  exact aG2 (G (by omega))
 ·rw [aD0 h2,aD0 h2]
  obtain ⟨κ,S,R,L,C,B,i⟩:=l (by omega) _ kp
  refine aG1 (L _ ?_)
  refine aG1 (aG8 (at6 C (a0:=vs.toArray.zip vs.toArray) (st:=SortSt.mk' κ (vs.toArray.zip vs.toArray) #[] 7 none) (Q:=fun _ st'=>failedOf st'=none/\(arrOf st').toList.Perm (vs.zip vs)/\Srt R (arrOf st').toList) (fun x p=>?_) rfl rfl rfl rfl fun st' K D z=>⟨K,by simpa using D,z⟩) ?_ fun _ _ e=>e)
  ·have:x∈vs.zip vs:=by simpa using p
   obtain ⟨h,f⟩:=mem_zip_self this
   obtain ⟨J,N⟩:=x
   dsimp only at h f
   subst h
   exact B _ f
  rintro ⟨⟨⟩,st'⟩ z ⟨rfl,hf,F,H⟩
  dsimp only
  obtain ⟨h,f⟩:=anw F
  have m:(arrOf st').map (·.2)=(((arrOf st').toList.map (·.2)).toArray):=by
   apply Array.toList_inj.mp
   simp
  rw [m]
  have q:((arrOf st').toList.map (·.2)).length=vs.length:=f.length_eq
  refine aG1 (seqEpoch_at d rfl ?_)
  refine aG1 (listUpdate_at d rfl ?_ (aD4 _) (by rw [az5,q];exact Nat.le_succ_of_le c))
  rw [hf]
  simp only [bne_self_eq_false,Bool.false_eq_true,if_false]
  refine aG2 (i _ f ?_)
  rw [aD5]
  refine aF4 ?_ H
  intro x y p M I
  have ex:=(h x p).1
  have u:=(h y M).1
  obtain ⟨J,N⟩:=x
  obtain ⟨O,T⟩:=y
  dsimp only at ex u
  subst ex u
  exact I
theorem sorted_any {l:Addr} {vs:List Value} {Q:Value->Shared->Prop} (r:s.heap.IsList l vs.toArray) (c:vs.length<=sizeLine)
  (g:2<=vs.length->∀ h',(∀ b o,s.heap.get? b=some o->h'.get? b=some o)->∃ κ S R,(∀ (Q:SortKind->Shared->Prop),Q κ { s with heap:=h' }->wpAny (model prog w) A.in1.in1 (keyKind' vs.toArray) Q E { s with heap:=h' })/\Cmp (model prog w) A.in1.in1 E { s with heap:=h' } κ S R/\(∀ v∈vs,S (v,v)) /\
   ∀ out:List Value,out.Perm vs->out.Pairwise (fun x y=>R (y,y) (x,x)=false)->Q (.ref (s.heap.objs.size+1)) { s with heap:=sortedAll s.heap vs out.toArray })
  (n:vs.length < 2->Q (.ref (s.heap.objs.size+1)) { s with heap:=sortedAll s.heap vs vs.toArray }) :
  wpAny (model prog w) A (call (.builtin "sorted") [.ref l]) Q E s:=by
 refine Calls.call_function_entry kind_sorted plain_sorted entry_sorted (args_sorted1 _) ?_
 unfold Builtin.«sorted»
 refine aG1 (m:=checkCount "sorted" 1 1 _) (aG2 ?_)
 refine aG1 (collect_list r ?_ c)
 refine aG1 (wpAny_newList ?_ c)
 have hsz:((s.heap.push (seqObj "list" #[] 0)).update s.heap.objs.size (Obj.mapSeq (· ++ vs.toArray))).objs.size=s.heap.objs.size+1:=by
  rw [Heap.size_update,size_push']
 have d:(((s.heap.push (seqObj "list" #[] 0)).update s.heap.objs.size (Obj.mapSeq (· ++ vs.toArray))).push (seqObj "list" vs.toArray 0)).get? (s.heap.objs.size+1)=some (seqObj "list" vs.toArray 0):=by
  rw [← hsz];exact aG5 _ rfl
 have keep:∀ b o,s.heap.get? b=some o->(((s.heap.push (seqObj "list" #[] 0)).update s.heap.objs.size (Obj.mapSeq (· ++ vs.toArray))).push (seqObj "list" vs.toArray 0)).get? b=some o:=fun b o q=>by
  have a:b < s.heap.objs.size:=aG4 q
  rw [Heap.get?_push_ne _ _ _ (by rw [hsz];exact az9 (aD2 a)),Heap.get?_update_ne _ _ _ _ (az9 a),Heap.get?_push_ne _ _ _ (az9 a)]
  exact q
 show wpAny _ _ _ _ _ { s with heap:=((s.heap.push (seqObj "list" #[] 0)).update s.heap.objs.size (Obj.mapSeq (· ++ vs.toArray))).push (seqObj "list" vs.toArray 0) }
 rw [hsz]
 refine aG1 (aG6 (wpAny_call_entry slot_list_sort ⟨_,d,rfl⟩ entry_list_sort ?body (args_list_sort _)))
 case body =>
  refine ajm (s:={ s with heap:=((s.heap.push (seqObj "list" #[] 0)).update s.heap.objs.size (Obj.mapSeq (· ++ vs.toArray))).push (seqObj "list" vs.toArray 0) }) d c (fun h h' kp=>?_) fun a=>?_
  ·obtain ⟨κ,S,R,u,C,i,f⟩:=g h h' fun b o e=>kp b o (az9 (aD2 (aG4 e))) (keep b o e)
   exact ⟨κ,S,R,u,C,i,fun out p j=>⟨_,rfl,aG2 ⟨_,rfl,f out p j⟩⟩⟩
  ·exact ⟨_,rfl,aG2 ⟨_,rfl,n a⟩⟩
end
end TS
namespace L2
open PySem PySem.Spec PyProof.Rows
def toI:V->Int
 | .int i=>i
 | _=>0
def kH (H:Hp):V->List Int
 | .ref t=>match H t with
  | some (.tup xs)=>xs.map toI
  | _=>[]
 | _=>[]
theorem at9 (ns:List Int):(ns.map V.int).map toI=ns:=by
 rw [aB9]
 have:(toI ∘ V.int)=id:=by funext i;rfl
 rw [this,List.map_id]
theorem anx {H:Hp} {t:Addr} {ns:List Int} (h:H t=some (.tup (ns.map V.int))):kH H (.ref t)=ns:=by
 simp only [kH,h];exact at9 ns
def TupI (H:Hp) (v:V):Prop:=∃ t ns,v=.ref t/\H t=some (.tup (ns.map V.int))/\ns ≠ []
def afy:Value->V
 | .ref a => .ref a
 | _ => .non
theorem aiv:∀ {us:List Value},(∀ u∈us,∃ a,u=.ref a)->Vals (us.map afy) us
 | [],_ => .nil
 | u :: us,h=>by
  obtain ⟨a,e⟩:=h u aA1
  subst e
  exact .cons rfl (aiv fun v b=>h v (az8 _ b))
theorem aiw {H:Hp}:∀ {vs:List V} {us:List Value},Vals vs us->(∀ v∈vs,TupI H v)->(∀ u∈us,∃ a,u=.ref a)/\us.map afy=vs
 | _,_,.nil,_=>⟨fun u g=>(by cases g),rfl⟩
 | v :: vs,u :: us,.cons r t,h=>by
  obtain ⟨a,ns,rfl,_,_⟩:=h v aA1
  cases r
  obtain ⟨d,f⟩:=aiw t fun v c=>h v (az8 _ c)
  refine ⟨fun x b=>?_,by rw [aB4,f];rfl⟩
  rcases az2.mp b with rfl | b
  ·exact ⟨_,rfl⟩
  ·exact d x b
section
variable {X:Cx}
def ahb (K:Frag):List V->Hp->VK->Prop:=fun xs H Q=>∃ (a:Addr) (vs:List V),xs=[.ref a]/\SqL K H a vs/\(∀ v∈vs,TupI H v) /\
 ∀ (vs':List V) (p:Addr),vs'.Perm vs->vs'.Pairwise (fun x y=>HT.lexLt (kH H y) (kH H x)=false)->H p=none->Q (.ref p) (upd H p (.lst vs'))
theorem ak7 {H:Hp} {pins:List (Addr × Obj)} {σ:St} {s:Shared} (I:Inv X pins σ H s) {h':Heap} (kp:∀ b o,s.heap.get? b=some o->h'.get? b=some o):∀ {vs:List V} {us:List Value},Vals vs us->(∀ v∈vs,TupI H v) ->
  (∃ fs,PySem.W.KatTups h' us fs/\fs.length=us.length/\∀ f∈fs,∃ i t,f=.int i t)/\∀ u∈us,∃ a,u=.ref a/\TS.TI h' a (kH H (.ref a))
 | _,_,.nil,_=>⟨⟨[],trivial,rfl,fun f hf=>by cases hf⟩,fun u D=>by cases D⟩
 | v :: vs,u :: us,.cons r t,h=>by
  obtain ⟨a,ns,rfl,e,c⟩:=h v aA1
  cases r
  obtain ⟨⟨fs,F,y,C⟩,G⟩:=ak7 I kp t fun v A=>h v (az8 _ A)
  obtain ⟨_,its,B,o,q,p,n,m⟩:=(show ObjOk X.prog X.w H s.heap a (.tup (ns.map V.int)) from I.hok a _ e)
  have hi:IntsAre its ns:=by simpa using (adp B:IntsAre its.toArray.toList ns)
  have z:TS.TI h' a (kH H (.ref a)):=⟨o,its.toArray,n,kp _ _ q,p,m,by rw [anx e];simpa using hi⟩
  obtain ⟨f,hf,i,l,E⟩:∃ f,its.toArray[0]?=some f/\∃ i t,f=.int i t:=by
   cases hi with
   | nil=>exact absurd rfl c
   | cons i l _=>exact ⟨_,by simp,i,l,rfl⟩
  refine ⟨⟨f :: fs,PySem.W.KatTups.cons (kp _ _ q) p m hf F,by simp [y],fun g d=>?_⟩,fun x j=>?_⟩
  ·rcases az2.mp d with rfl | d
   ·exact ⟨i,l,E⟩
   ·exact C g d
  ·rcases az2.mp j with rfl | j
   ·exact ⟨a,rfl,z⟩
   ·exact G x j
theorem arf {α:Type} {R : α->α->Prop}:∀ {l:List α},l.length < 2->l.Pairwise R
 | [],_=>List.Pairwise.nil
 | [_],_=>List.pairwise_singleton _ _
 | _ :: _ :: _,h=>absurd h (by simp)
theorem anz:abh X (.builtin "sorted") (ahb X.K):=by
 intro pins s σ H xs us Q I r h
 obtain ⟨a,vs,rfl,ha,w,q⟩:=h
 obtain ⟨u,rfl,G⟩:=acu r
 cases G
 obtain ⟨its,p,A,D⟩:=I.list ha
 obtain ⟨n,z⟩:=aiw p w
 have c:its.length<=sizeLine:=by rw [← p.length];exact D
 have f:H (s.heap.objs.size+1)=none:=I.hok.fresh (Nat.le_succ _)
 have fin:∀ out:List Value,out.Perm its->(out.map afy).Pairwise (fun x y=>HT.lexLt (kH H y) (kH H x)=false)->EP X pins σ Q (.ref (s.heap.objs.size+1)) { s with heap:=sortedAll s.heap its out.toArray }:=by
  intro out d l
  obtain ⟨e,B⟩:=sortedAll_at s.heap its out.toArray
  have g:Vals (out.map afy) out:=aiv fun u J=>n u (d.mem_iff.mp J)
  refine ⟨.ref (s.heap.objs.size+1),_,I.laid (t':=s.toks) (o:=.lst (out.map afy)) (fun b ob q=>sortedAll_old q) (Nat.le_succ _) ?_,rfl,q _ _ ?_ l f⟩
  ·refine ⟨by rw [ay7,d.length_eq];exact c,out,e,g,by rw [B]⟩
  ·rw [← z];exact d.map afy
 refine TS.sorted_any A.isList c (fun R h' kp=>?_) fun j=>?_
 ·obtain ⟨⟨fs,N,S,F⟩,P⟩:=ak7 I kp p w
  have m:(Value.type "int" != Value.type "tuple")=true:=by rfl
  refine ⟨tuples' true,TS.tS h' (fun a=>kH H (.ref a)),TS.tR (fun a=>kH H (.ref a)),fun Y E=>?_,TS.cmp_tups (s:={ s with heap:=h' }) (fun a=>kH H (.ref a)),fun v g=>?_,fun out d l=>fin out d ?_⟩
  ·refine PySem.W.kat_kind (T:=.type "int") (s:={ s with heap:=h' }) N (by omega) (fun v g=>?_) (by rfl) ?_
   ·obtain ⟨i,t,rfl⟩:=F v g
    exact .now
   ·rw [m];exact E
  ·obtain ⟨a,e,L⟩:=P v g
   exact ⟨rfl,a,e,L⟩
  ·rw [aD5]
   refine aF4 ?_ l
   intro x y M O C
   obtain ⟨U,rfl⟩:=n x (d.mem_iff.mp M)
   obtain ⟨Z,rfl⟩:=n y (d.mem_iff.mp O)
   exact C
 ·refine fin its (List.Perm.refl _) ?_
  exact arf (by rw [ay7];exact j)
end
end L2
namespace HT
open PySem PySem.Spec PyProof.Rows L2
section
variable {prog:Program} {w:World} {A:Around} {kw:List (Str × Value)} {R:Result->Shared->Prop} {I S:Addr} {fp wr:List Addr} {n:Nat} {P:Nat->Value->Prop} {St:Nat->Heap->Prop} {Hd:Heap->Prop}
end
section
variable {prog:Program} {w:World} {A:Around} {E:Value->Shared->Prop} {s:Shared}
end
end HT
namespace L2
open PySem PySem.Spec PyProof.Rows
section
variable {X:Cx} {x:Str} {p pos kpos:Pos} {e en:Expr} {t:TA}
end
end L2
namespace HT
open PySem PySem.Spec PyProof.Rows
section
variable {prog:Program} {w:World} {A:Around} {E:Value->Shared->Prop} {s:Shared}
end
end HT
namespace L2
open PySem PySem.Spec PyProof.Rows
section
variable {X:Cx}
end
end L2
namespace VL
open PySem PySem.Spec L2
def kD:Key->PyData
 | .inl i => .int i
 | .inr x => .str x
mutual
inductive Rp (G:Hp):V->PyData->Prop
 | non:Rp G .non .none
 | bl (b:Bool):Rp G (.bl b) (.bool b)
 | int (i:Int):Rp G (.int i) (.int i)
 | str (x:Str):Rp G (.str x) (.str x)
 | lst {a:Addr} {xs:List V} {ds:List PyData}:G a=some (.lst xs)->Rps G xs ds->Rp G (.ref a) (.list ds)
 | tup {a:Addr} {xs:List V} {ds:List PyData}:G a=some (.tup xs)->Rps G xs ds->Rp G (.ref a) (.tuple ds)
 | dk {a:Addr} {kvs:List (Key × V)} {es:List (Key × PyData)} {ds:List (PyData × PyData)}:G a=some (.dK kvs)->RpK G kvs es->ds=es.map (fun p=>(kD p.1,p.2))->Rp G (.ref a) (.dict ds)
 | dt {a:Addr} {kvs:List (List Key × V)} {es:List (List Key × PyData)} {ds:List (PyData × PyData)}:G a=some (.dT kvs)->RpT G kvs es->ds=es.map (fun p=>(.tuple (p.1.map kD),p.2))->Rp G (.ref a) (.dict ds)
inductive Rps (G:Hp):List V->List PyData->Prop
 | nil:Rps G [] []
 | cons {v:V} {vs:List V} {d:PyData} {ds:List PyData}:Rp G v d->Rps G vs ds->Rps G (v :: vs) (d :: ds)
inductive RpK (G:Hp):List (Key × V)->List (Key × PyData)->Prop
 | nil:RpK G [] []
 | cons {k:Key} {v:V} {d:PyData} {r:List (Key × V)} {s:List (Key × PyData)}:Rp G v d->RpK G r s->RpK G ((k,v) :: r) ((k,d) :: s)
inductive RpT (G:Hp):List (List Key × V)->List (List Key × PyData)->Prop
 | nil:RpT G [] []
 | cons {k:List Key} {v:V} {d:PyData} {r:List (List Key × V)} {s:List (List Key × PyData)}:Rp G v d->RpT G r s->RpT G ((k,v) :: r) ((k,d) :: s)
end
mutual
theorem Rp.same {G G':Hp} (s:Same G G'):∀ {v:V} {d:PyData},Rp G v d->Rp G' v d
 | _,_,.non => .non
 | _,_,.bl b => .bl b
 | _,_,.int i => .int i
 | _,_,.str x => .str x
 | _,_,.lst h r => .lst (s _ _ h) (Rps.same s r)
 | _,_,.tup h r => .tup (s _ _ h) (Rps.same s r)
 | _,_,.dk h r e => .dk (s _ _ h) (RpK.same s r) e
 | _,_,.dt h r e => .dt (s _ _ h) (RpT.same s r) e
theorem Rps.same {G G':Hp} (s:Same G G'):∀ {vs:List V} {ds:List PyData},Rps G vs ds->Rps G' vs ds
 | _,_,.nil => .nil
 | _,_,.cons r t => .cons (Rp.same s r) (Rps.same s t)
theorem RpK.same {G G':Hp} (s:Same G G'):∀ {vs:List (Key × V)} {ds:List (Key × PyData)},RpK G vs ds->RpK G' vs ds
 | _,_,.nil => .nil
 | _,_,.cons r t => .cons (Rp.same s r) (RpK.same s t)
theorem RpT.same {G G':Hp} (s:Same G G'):∀ {vs:List (List Key × V)} {ds:List (List Key × PyData)},RpT G vs ds->RpT G' vs ds
 | _,_,.nil => .nil
 | _,_,.cons r t => .cons (Rp.same s r) (RpT.same s t)
end
theorem Rps.length {G:Hp}:∀ {vs:List V} {ds:List PyData},Rps G vs ds->vs.length=ds.length
 | _,_,.nil=>rfl
 | _,_,.cons _ t=>by simp [Rps.length t]
theorem Rps.get {G:Hp}:∀ {vs:List V} {ds:List PyData} {i:Nat} {d:PyData},Rps G vs ds->ds[i]?=some d->∃ v,vs[i]?=some v/\Rp G v d
 | _,_,_,_,.nil,e=>by simp at e
 | _,_,0,_,.cons r _,e=>by simp at e;subst e;exact ⟨_,rfl,r⟩
 | _,_,i+1,d,.cons _ t,e=>by
  obtain ⟨u,a,b⟩:=Rps.get (i:=i) (d:=d) t (by simpa using e)
  exact ⟨u,by simpa using a,b⟩
theorem Rps.append {G:Hp}:∀ {vs a:List V} {ds es:List PyData},Rps G vs ds->Rps G a es->Rps G (vs ++ a) (ds ++ es)
 | _,_,_,_,.nil,s=>s
 | _,_,_,_,.cons r t,s => .cons r (Rps.append t s)
theorem Rps.set {G:Hp} {v:V} {d:PyData} (h:Rp G v d):∀ {vs:List V} {ds:List PyData} (i:Nat),Rps G vs ds->Rps G (vs.set i v) (ds.set i d)
 | _,_,_,.nil => .nil
 | _,_,0,.cons _ t => .cons h t
 | _,_,i+1,.cons r t => .cons r (Rps.set h i t)
theorem Rps.erase {G:Hp}:∀ {vs:List V} {ds:List PyData} (i:Nat),Rps G vs ds->Rps G (vs.eraseIdx i) (ds.eraseIdx i)
 | _,_,_,.nil => .nil
 | _,_,0,.cons _ t=>t
 | _,_,i+1,.cons r t => .cons r (Rps.erase i t)
theorem Rps.take {G:Hp}:∀ {vs:List V} {ds:List PyData} (i:Nat),Rps G vs ds->Rps G (vs.take i) (ds.take i)
 | _,_,0,_ => .nil
 | _,_,_+1,.nil => .nil
 | _,_,i+1,.cons r t => .cons r (Rps.take i t)
theorem Rps.drop {G:Hp}:∀ {vs:List V} {ds:List PyData} (i:Nat),Rps G vs ds->Rps G (vs.drop i) (ds.drop i)
 | _,_,0,r=>r
 | _,_,_+1,.nil => .nil
 | _,_,i+1,.cons _ t=>Rps.drop i t
theorem Rps.rep {G:Hp} {vs:List V} {ds:List PyData} (h:Rps G vs ds):∀ (k:Nat),Rps G (List.replicate k vs).flatten (List.replicate k ds).flatten
 | 0 => .nil
 | k+1=>by
  rw [aE7,aE7,List.flatten_cons,List.flatten_cons]
  exact h.append (Rps.rep h k)
theorem Rps.ints {G:Hp}:∀ (ns:List Int),Rps G (ns.map V.int) (ns.map PyData.int)
 | [] => .nil
 | n :: ns => .cons (.int n) (Rps.ints ns)
theorem Rps.ints_inv {G:Hp}:∀ {ns:List Int} {vs:List V},Rps G vs (ns.map PyData.int)->vs=ns.map V.int
 | [],_,.nil=>rfl
 | n :: ns,_,.cons r t=>by
  cases r
  rw [Rps.ints_inv t];rfl
mutual
theorem Rp.rep {G:Hp}:∀ {v:V} {d:PyData},Rp G v d->aal d=true->Rep G v d
 | _,_,.non,_ => .non
 | _,_,.bl b,_ => .bl b
 | _,_,.int i,_ => .int i
 | _,_,.str x,_ => .str x
 | _,_,.lst h r,p => .lst h (Rps.reps r (by simpa [aal] using p))
 | _,_,.tup h r,p => .tup h (Rps.reps r (by simpa [aal] using p))
 | _,_,.dk h r e,p=>by simp [aal] at p
 | _,_,.dt h r e,p=>by simp [aal] at p
theorem Rps.reps {G:Hp}:∀ {vs:List V} {ds:List PyData},Rps G vs ds->plainDs ds=true->Reps G vs ds
 | _,_,.nil,_ => .nil
 | _,_,.cons r t,p=>by
  simp only [plainDs,aE5] at p
  exact .cons (Rp.rep r p.1) (Rps.reps t p.2)
end
structure Own where
 P:Hp->Hp->V->(Addr->Prop)->Prop
 mono:∀ {G H G' H':Hp} {v:V} {F:Addr->Prop},P G H v F->Same G G'->(∀ a o,F a->H a=some o->H' a=some o)->P G' H' v F
 dom:∀ {G H:Hp} {v:V} {F:Addr->Prop},P G H v F->∀ a,F a->∃ o,H a=some o
inductive Sl where
 | st (d:PyData) | own (A:Own) | io (A:Own) | scr (ns:List Int)
abbrev En:=List (Option Sl)
structure Bs where
 K:Frag
 G:Hp
 H:Hp
 R:Hp
 S:St
 F:Nat->Addr->Prop
def SlOk (B:Bs) (G H:Hp) (i:Nat) (v:V) (F:Addr->Prop):Sl->Prop
 | .st d=>Rp G v d/\∀ a,¬ F a
 | .own A=>A.P G H v F/\∀ a,F a->B.H a=none
 | .io A=>A.P G H v F/\(∀ a,F a->B.F i a\/B.H a=none)/\B.S[i]?=some (some v)
 | .scr ns=>(∃ a,v=.ref a/\SqL B.K G a (ns.map V.int))/\∀ a,¬ F a
def FT (G H:Hp):Prop:=∀ (a:Addr) (ks:List Key),H a=some (.tup (ks.map kV))->G a=some (.tup (ks.map kV))
structure VI (B:Bs) (G H:Hp) (σ:St) (env:En) (F:Nat->Addr->Prop):Prop where
 gh:Same G H
 g0:Same B.G G
 gn:∀ a o,G a=some o->B.G a=some o\/B.H a=none
 rs:Same B.R H
 rb:Same B.R B.H
 bh:∀ a o,B.H a=some o->∃ o',H a=some o'
 fg:∀ i a,F i a->G a=none
 fr:∀ i a,F i a->B.R a=none
 fd:∀ i j a,F i a->F j a->i=j
 fo:∀ i a,F i a->∃ o,H a=some o
 sl:∀ i s,env[i]?=some (some s)->∃ v,σ[i]?=some (some v)/\SlOk B G H i v (F i) s
 ln : σ.length=env.length
 ft:FT G H
def RsOk (G H:Hp) (v:V) (F:Addr->Prop):Sl->Prop
 | .st d=>Rp G v d/\∀ a,¬ F a
 | .own A=>A.P G H v F
 | _=>False
structure RsX (B:Bs) (G H:Hp) (v:V) (Fv:Addr->Prop) (s:Sl) (F:Nat->Addr->Prop):Prop where
 ok:RsOk G H v Fv s
 fb:∀ a,Fv a->B.H a=none
 fg:∀ a,Fv a->G a=none
 fo:∀ a,Fv a->∃ o,H a=some o
 fd:∀ j a,Fv a->¬ F j a
structure Out (G H:Hp) (v:V) (G' H':Hp) (s:Sl) (Fv:Addr->Prop):Prop where
 gg:Same G G'
 gh:Same G' H'
 hh:Same H H'
 gn:∀ a o,G' a=some o->G a=some o\/H a=none
 fn:∀ a,Fv a->H a=none
 fg:∀ a,Fv a->G' a=none
 fo:∀ a,Fv a->∃ o,H' a=some o
 ok:RsOk G' H' v Fv s
 ft:FT G H->FT G' H'
theorem an0 {α:Type} {o:Option α} (h:o ≠ none):∃ x,o=some x:=by
 cases o with
 | none=>exact absurd rfl h
 | some x=>exact ⟨x,rfl⟩
theorem SlOk.mono {B:Bs} {G H G' H':Hp} {i:Nat} {v:V} {F:Addr->Prop} {s:Sl} (h:SlOk B G H i v F s) (g:Same G G') (hh:∀ a o,F a->H a=some o->H' a=some o):SlOk B G' H' i v F s:=by
 cases s with
 | st d=>exact ⟨h.1.same g,h.2⟩
 | own A=>exact ⟨A.mono h.1 g hh,h.2⟩
 | io A=>exact ⟨A.mono h.1 g hh,h.2⟩
 | scr ns =>
  obtain ⟨⟨a,e,q⟩,n⟩:=h
  exact ⟨⟨a,e,g.seq q⟩,n⟩
section
variable {B:Bs} {G H G' H':Hp} {σ:St} {env:En} {F:Nat->Addr->Prop} {v:V} {s:Sl} {Fv:Addr->Prop}
theorem VI.no_r (I:VI B G H σ env F) {a:Addr} (h:H a=none):B.R a=none:=by
 cases e:B.R a with
 | none=>rfl
 | some o=>rw [I.rs a o e] at h;cases h
theorem VI.no_b (I:VI B G H σ env F) {a:Addr} (h:H a=none):B.H a=none:=by
 cases e:B.H a with
 | none=>rfl
 | some o=>obtain ⟨o',b⟩:=I.bh a o e;rw [b] at h;cases h
theorem VI.no_g (I:VI B G H σ env F) {a:Addr} (h:H a=none):G a=none:=by
 cases e:G a with
 | none=>rfl
 | some o=>rw [I.gh a o e] at h;cases h
theorem VI.no_f (I:VI B G H σ env F) {a:Addr} (h:H a=none) (i:Nat):¬ F i a:=fun z=>by
 obtain ⟨o,e⟩:=I.fo i a z;rw [e] at h;cases h
theorem VI.grow (I:VI B G H σ env F) (gg:Same G G') (gh:Same G' H') (hh:Same H H') (gn:∀ a o,G' a=some o->G a=some o\/H a=none) (ft:FT G' H'):VI B G' H' σ env F where
 gh:=gh
 g0:=I.g0.trans gg
 gn:=fun a o e=>by
  rcases gn a o e with e | e
  ·exact I.gn a o e
  ·exact .inr (I.no_b e)
 rs:=I.rs.trans hh
 rb:=I.rb
 bh:=fun a o e=>by obtain ⟨o',b⟩:=I.bh a o e;exact ⟨o',hh _ _ b⟩
 fg:=fun i a z=>by
  cases e:G' a with
  | none=>rfl
  | some o =>
   rcases gn a o e with e | e
   ·rw [I.fg i a z] at e;cases e
   ·exact absurd z (I.no_f e i)
 fr:=I.fr
 fd:=I.fd
 fo:=fun i a z=>by obtain ⟨o,e⟩:=I.fo i a z;exact ⟨o,hh _ _ e⟩
 sl:=fun i s e=>by
  obtain ⟨v,d,c⟩:=I.sl i s e
  exact ⟨v,d,c.mono gg fun a o _ q=>hh _ _ q⟩
 ln:=I.ln
 ft:=ft
theorem VI.out (I:VI B G H σ env F) (o:Out G H v G' H' s Fv):VI B G' H' σ env F/\RsX B G' H' v Fv s F :=
 ⟨I.grow o.gg o.gh o.hh o.gn (o.ft I.ft),o.ok,fun a z=>I.no_b (o.fn a z),o.fg,o.fo,fun j a z y=>I.no_f (o.fn a z) j y⟩
theorem VI.b_r (I:VI B G H σ env F) {a:Addr} (h:B.H a=none):B.R a=none:=by
 cases e:B.R a with
 | none=>rfl
 | some o=>rw [I.rb a o e] at h;cases h
def putF (F:Nat->Addr->Prop) (i:Nat) (Fv:Addr->Prop):Nat->Addr->Prop:=fun j a=>if j=i then Fv a else F j a
theorem putF_same {i:Nat} {a:Addr}:putF F i Fv i a ↔ Fv a:=by unfold putF;rw [aC9 rfl]
theorem aeq {i:Nat}:putF F i Fv i=Fv:=by funext a;unfold putF;rw [aC9 rfl]
theorem aa4 {i j:Nat} (h:j ≠ i):putF F i Fv j=F j:=by funext a;unfold putF;rw [aD0 h]
theorem VI.slot (I:VI B G H σ env F) (i:Nat) (o:Option V) (os:Option Sl) (fg:∀ a,Fv a->G a=none) (fr:∀ a,Fv a->B.R a=none) (fo:∀ a,Fv a->∃ o,H a=some o) (fd:∀ j a,j ≠ i->Fv a->¬ F j a)
  (ok:∀ s,os=some s->∃ v,o=some v/\SlOk B G H i v Fv s):VI B G H (σ.set i o) (env.set i os) (putF F i Fv) where
 gh:=I.gh
 g0:=I.g0
 gn:=I.gn
 rs:=I.rs
 rb:=I.rb
 bh:=I.bh
 fg:=fun j a z=>by
  by_cases h:j=i
  ·subst h;exact fg a (putF_same.mp z)
  ·rw [aa4 h] at z;exact I.fg j a z
 fr:=fun j a z=>by
  by_cases h:j=i
  ·subst h;exact fr a (putF_same.mp z)
  ·rw [aa4 h] at z;exact I.fr j a z
 fd:=fun j k a y z=>by
  by_cases h:j=i
  ·by_cases g:k=i
   ·rw [h,g]
   ·subst h;rw [aa4 g] at z;exact absurd z (fd k a g (putF_same.mp y))
  ·by_cases g:k=i
   ·subst g;rw [aa4 h] at y;exact absurd y (fd j a h (putF_same.mp z))
   ·rw [aa4 h] at y;rw [aa4 g] at z;exact I.fd j k a y z
 fo:=fun j a z=>by
  by_cases h:j=i
  ·subst h;exact fo a (putF_same.mp z)
  ·rw [aa4 h] at z;exact I.fo j a z
 sl:=fun j t e=>by
  by_cases h:j=i
  ·subst h
   rw [aB5,aC9 rfl] at e
   by_cases hl:j < env.length
   ·rw [aC9 hl] at e
    obtain ⟨v,b,q⟩:=ok t (aA9 e)
    refine ⟨v,by rw [aB5,aC9 rfl,aC9 (by rw [I.ln];exact hl),b],?_⟩
    rw [aeq];exact q
   ·rw [aD0 hl] at e;cases e
  ·rw [aB5,aD0 (fun z=>h z.symm)] at e
   obtain ⟨v,b,q⟩:=I.sl j t e
   refine ⟨v,by rw [aB5,aD0 (fun z=>h z.symm)];exact b,?_⟩
   rw [aa4 h];exact q
 ln:=by simp [I.ln]
 ft:=I.ft
theorem VI.store (I:VI B G H σ env F) (r:RsX B G H v Fv s F) (i:Nat):VI B G H (σ.set i (some v)) (env.set i (some s)) (putF F i Fv):=by
 refine I.slot i (some v) (some s) r.fg (fun a z=>I.b_r (r.fb a z)) r.fo (fun j a _ z=>r.fd j a z) fun t e=>?_
 cases e
 refine ⟨v,rfl,?_⟩
 have:=r.ok
 cases s with
 | st d=>exact this
 | own A=>exact ⟨this,r.fb⟩
 | io A=>exact this.elim
 | scr ns=>exact this.elim
theorem VI.drop (I:VI B G H σ env F) (i:Nat):VI B G H σ (env.set i none) (putF F i fun _=>False):=by
 have:=I.slot (Fv:=fun _=>False) i ((σ[i]?).getD none) none (fun a z=>z.elim) (fun a z=>z.elim) (fun a z=>z.elim) (fun j a _ z=>z.elim) (fun s e=>by cases e)
 rwa [show σ.set i ((σ[i]?).getD none) = σ from ?_] at this
 apply aD6
 intro j
 rw [aB5]
 by_cases h:i=j
 ·subst h
  rw [aC9 rfl]
  by_cases hl:i < σ.length
  ·rw [aC9 hl,ay4 hl];rfl
  ·rw [aD0 hl,aD1.mpr (by omega)]
 ·rw [aD0 h]
theorem VI.change {A:Own} (I:VI B G H σ env F) (i:Nat) {H2:Hp} {F2:Addr->Prop} {os os':Sl} (e:env[i]?=some (some os)) (f : σ[i]?=some (some v))
  (keep:∀ a o,¬ F i a->H a=some o->H2 a=some o) (l:∀ a o,H a=some o->∃ o',H2 a=some o') (b:∀ a,F2 a->(F i a\/H a=none)/\∃ o,H2 a=some o) (g:A.P G H2 v F2) (L:FT G H2)
  (w:(os'=.own A/\∃ c,os=.own c)\/(os'=.io A/\∃ c,os=.io c)):VI B G H2 σ (env.set i (some os')) (putF F i F2):=by
 obtain ⟨Q,d,q⟩:=I.sl i os e
 rw [f] at d;cases d
 have m:∀ j a,j ≠ i->F j a->¬ F i a:=fun j a hj y z=>hj (I.fd j i a y z)
 have r:∀ a,F2 a->G a=none:=fun a z=>by
  rcases (b a z).1 with y | y
  ·exact I.fg i a y
  ·exact I.no_g y
 have J:VI B G H2 σ (env.set i none) (putF F i fun _=>False):=by
  have D:=I.drop i
  refine ⟨fun a o x=>keep a o (fun z=>by rw [I.fg i a z] at x;cases x) (I.gh a o x),D.g0,D.gn,fun a o x=>keep a o (fun z=>by rw [I.fr i a z] at x;cases x) (I.rs a o x),D.rb,fun a o x=>?_,D.fg,D.fr,D.fd,fun j a z=>?_,fun j s x=>?_,D.ln,L⟩
  ·obtain ⟨o',N⟩:=I.bh a o x
   exact l a o' N
  ·obtain ⟨o,x⟩:=D.fo j a z
   exact l a o x
  ·obtain ⟨u,C,E⟩:=D.sl j s x
   refine ⟨u,C,E.mono (Same.refl G) fun a o z y=>?_⟩
   by_cases hj:j=i
   ·subst hj;exact (putF_same.mp z).elim
   ·rw [aa4 hj] at z
    exact keep a o (m j a hj z) y
 have n:=J.slot (Fv:=F2) i (some v) (some os') r (fun a z=>by
   rcases (b a z).1 with y | y
   ·exact I.fr i a y
   ·exact I.no_r y) (fun a z=>(b a z).2) (fun j a hj z y=>by
   rw [aa4 hj] at y
   rcases (b a z).1 with x | x
   ·exact m j a hj y x
   ·exact I.no_f x j y) fun t p=>by
   cases p
   refine ⟨v,rfl,?_⟩
   rcases w with ⟨rfl,c,rfl⟩ | ⟨rfl,c,rfl⟩
   ·refine ⟨g,fun a z=>?_⟩
    rcases (b a z).1 with y | y
    ·exact q.2 a y
    ·exact I.no_b y
   ·refine ⟨g,fun a z=>?_,q.2.2⟩
    rcases (b a z).1 with y | y
    ·exact q.2.1 a y
    ·exact .inr (I.no_b y)
 have O : σ.set i (some v) = σ:=by
  apply aD6
  intro j
  rw [aB5]
  by_cases h:i=j
  ·subst h
   rw [aC9 rfl,f,aC9 (ay5.mp f).1]
  ·rw [aD0 h]
 have M:(env.set i none).set i (some os')=env.set i (some os'):=by simp
 have K:putF (putF F i fun _=>False) i F2=putF F i F2:=by
  funext j a
  by_cases h:j=i
  ·subst h;rw [aeq,aeq]
  ·rw [aa4 h,aa4 h,aa4 h]
 rw [O,M,K] at n
 exact n
end
open Classical in
def jn (G H:Hp) (F:Addr->Prop):Hp:=fun a=>if F a then H a else G a
theorem aed {G H:Hp} {F:Addr->Prop} {a:Addr} (h:F a):jn G H F a=H a:=aC9 h
theorem ajz {G H:Hp} {F:Addr->Prop} {a:Addr} (h:¬ F a):jn G H F a=G a:=aD0 h
theorem abb {G H:Hp} {F:Addr->Prop} (h:∀ a,F a->G a=none):Same G (jn G H F):=fun a o e=>by
 rw [ajz (fun z=>by rw [h a z] at e;cases e)];exact e
theorem aj0 {G H:Hp} {F:Addr->Prop} (h:Same G H):Same (jn G H F) H:=fun a o e=>by
 by_cases z:F a
 ·rw [aed z] at e;exact e
 ·rw [ajz z] at e;exact h a o e
def Frz (A:Own) (d:PyData):Prop:=∀ (G H:Hp) (v:V) (F:Addr->Prop),A.P G H v F->(∀ a,F a->G a=none)->Same G H->Rp (jn G H F) v d
def FQ:Sl->(PyData->Prop)->Prop
 | .st d,R=>R d
 | .own A,R=>∃ d,Frz A d/\R d
 | _,_=>False
def OL (ds:List PyData):Own where
 P:=fun G H v F=>∃ a vs,v=.ref a/\H a=some (.lst vs)/\Rps G vs ds/\∀ b,F b ↔ b=a
 mono:=fun ⟨a,vs,e,h,r,f⟩ g hh=>⟨a,vs,e,hh a _ ((f a).mpr rfl) h,r.same g,f⟩
 dom:=fun ⟨a,vs,e,h,r,f⟩ b z=>by rw [(f b).mp z];exact ⟨_,h⟩
def OD (es:List (Key × PyData)):Own where
 P:=fun G H v F=>∃ a kvs,v=.ref a/\H a=some (.dK kvs)/\RpK G kvs es/\∀ b,F b ↔ b=a
 mono:=fun ⟨a,vs,e,h,r,f⟩ g hh=>⟨a,vs,e,hh a _ ((f a).mpr rfl) h,r.same g,f⟩
 dom:=fun ⟨a,vs,e,h,r,f⟩ b z=>by rw [(f b).mp z];exact ⟨_,h⟩
def OT (es:List (List Key × PyData)):Own where
 P:=fun G H v F=>∃ a kvs,v=.ref a/\H a=some (.dT kvs)/\RpT G kvs es/\∀ b,F b ↔ b=a
 mono:=fun ⟨a,vs,e,h,r,f⟩ g hh=>⟨a,vs,e,hh a _ ((f a).mpr rfl) h,r.same g,f⟩
 dom:=fun ⟨a,vs,e,h,r,f⟩ b z=>by rw [(f b).mp z];exact ⟨_,h⟩
theorem adl {ds:List PyData}:Frz (OL ds) (.list ds):=fun G H v F ⟨a,vs,e,h,r,f⟩ n g=>by
 subst e
 exact .lst (by rw [aed ((f a).mpr rfl)];exact h) (r.same (abb n))
theorem apf {es:List (Key × PyData)}:Frz (OD es) (.dict (es.map fun p=>(kD p.1,p.2))):=fun G H v F ⟨a,vs,e,h,r,f⟩ n g=>by
 subst e
 exact .dk (by rw [aed ((f a).mpr rfl)];exact h) (r.same (abb n)) rfl
theorem as9 {d:PyData} {R:PyData->Prop} (h:R d):FQ (.st d) R:=h
theorem aee {ds:List PyData} {R:PyData->Prop} (h:R (.list ds)):FQ (.own (OL ds)) R:=⟨_,adl,h⟩
section
variable {B:Bs} {G H G' H':Hp} {σ:St} {env:En} {F:Nat->Addr->Prop} {v:V} {s:Sl} {Fv:Addr->Prop}
theorem VI.freeze (I:VI B G H σ env F) (fb:∀ a,Fv a->B.H a=none) (fd:∀ j a,Fv a->¬ F j a) (fg:∀ a,Fv a->G a=none):VI B (jn G H Fv) H σ env F where
 gh:=aj0 I.gh
 g0:=I.g0.trans (abb fg)
 gn:=fun a o e=>by
  by_cases z:Fv a
  ·exact .inr (fb a z)
  ·rw [ajz z] at e;exact I.gn a o e
 rs:=I.rs
 rb:=I.rb
 bh:=I.bh
 fg:=fun i a z=>by
  rw [ajz (fun y=>fd i a y z)];exact I.fg i a z
 fr:=I.fr
 fd:=I.fd
 fo:=I.fo
 sl:=fun i s e=>by
  obtain ⟨v,d,b⟩:=I.sl i s e
  exact ⟨v,d,b.mono (abb fg) fun a o _ q=>q⟩
 ln:=I.ln
 ft:=fun a c e=>abb fg _ _ (I.ft a c e)
theorem VI.frz {A:Own} {d:PyData} {i:Nat} (I:VI B G H σ env F) (e:env[i]?=some (some (.own A))) (f:Frz A d) :
  ∃ v,σ[i]?=some (some v)/\Rp (jn G H (F i)) v d/\Same G (jn G H (F i))/\VI B (jn G H (F i)) H σ (env.set i (some (.st d))) (putF F i fun _=>False):=by
 obtain ⟨v,b,q⟩:=I.sl i _ e
 have c:=f G H v (F i) q.1 (I.fg i) I.gh
 refine ⟨v,b,c,abb (I.fg i),?_⟩
 have D:=(I.drop i).freeze (Fv:=F i) q.2 (fun j a z y=>by
  by_cases h:j=i
  ·subst h;exact (putF_same.mp y).elim
  ·rw [aa4 h] at y;exact h (I.fd j i a y z)) (I.fg i)
 have J:=D.slot (Fv:=fun _=>False) i (some v) (some (.st d)) (fun a z=>z.elim) (fun a z=>z.elim) (fun a z=>z.elim) (fun j a _ z=>z.elim) (fun t g=>by cases g;exact ⟨v,rfl,c,fun a z=>z⟩)
 have m : σ.set i (some v) = σ:=by
  apply aD6
  intro j
  rw [aB5]
  by_cases h:i=j
  ·subst h
   rw [aC9 rfl,b,aC9 (ay5.mp b).1]
  ·rw [aD0 h]
 have l:putF (putF F i fun _=>False) i (fun _=>False)=putF F i fun _=>False:=by
  funext j a
  by_cases h:j=i
  ·subst h;rw [aeq,aeq]
  ·rw [aa4 h,aa4 h]
 rw [m,l,List.set_set] at J
 exact J
theorem Out.refl {d:PyData} (g:Same G H) (r:Rp G v d):Out G H v G H (.st d) (fun _=>False):=⟨Same.refl _,g,Same.refl _,fun a o e => .inl e,fun a z=>z.elim,fun a z=>z.elim,fun a z=>z.elim,⟨r,fun a z=>z⟩,fun t=>t⟩
theorem aua {p:Addr} {o:HO} (g:Same G H) (h:H p=none):Same (upd G p o) (upd H p o):=fun a u e=>by
 by_cases z:a=p
 ·subst z;rw [aai] at e ⊢;exact e
 ·rw [aag z] at e ⊢;exact g a u e
theorem ab9 {p:Addr} (g:Same G H) (h:H p=none):G p=none:=by
 cases e:G p with
 | none=>rfl
 | some o=>rw [g p o e] at h;cases h
theorem Out.newT {p:Addr} {xs:List V} {ds:List PyData} (g:Same G H) (h:H p=none) (r:Rps G xs ds):Out G H (.ref p) (upd G p (.tup xs)) (upd H p (.tup xs)) (.st (.tuple ds)) (fun _=>False) where
 gg:=ab8 (ab9 g h)
 gh:=aua g h
 hh:=ab8 h
 gn:=fun a o e=>by
  by_cases z:a=p
  ·subst z;exact .inr h
  ·rw [aag z] at e;exact .inl e
 fn:=fun a z=>z.elim
 fg:=fun a z=>z.elim
 fo:=fun a z=>z.elim
 ok:=⟨.tup aai (r.same (ab8 (ab9 g h))),fun a z=>z⟩
 ft:=fun t a b e=>by
  by_cases z:a=p
  ·subst z;rw [aai] at e ⊢;exact e
  ·rw [aag z] at e ⊢;exact t a b e
theorem Out.newO {p:Addr} {o:HO} {A:Own} (g:Same G H) (h:H p=none) (b:∀ xs,o ≠ .tup xs) (r:A.P G (upd H p o) (.ref p) (· = p)):Out G H (.ref p) G (upd H p o) (.own A) (· = p) where
 gg:=Same.refl _
 gh:=g.trans (ab8 h)
 hh:=ab8 h
 gn:=fun a o e => .inl e
 fn:=fun a z=>by rw [z];exact h
 fg:=fun a z=>by rw [z];exact ab9 g h
 fo:=fun a z=>by rw [z];exact ⟨_,aai⟩
 ok:=r
 ft:=fun t a c e=>by
  by_cases z:a=p
  ·subst z;rw [aai] at e;exact absurd (aA9 e) (b _)
  ·rw [aag z] at e;exact t a c e
theorem Out.newL {p:Addr} {xs:List V} {ds:List PyData} (g:Same G H) (h:H p=none) (r:Rps G xs ds):Out G H (.ref p) G (upd H p (.lst xs)) (.own (OL ds)) (· = p) :=
 .newO g h (fun _ z=>nomatch z) ⟨p,xs,rfl,aai,r,fun b=>Iff.rfl⟩
theorem Out.newD {p:Addr} {xs:List (Key × V)} {ds:List (Key × PyData)} (g:Same G H) (h:H p=none) (r:RpK G xs ds):Out G H (.ref p) G (upd H p (.dK xs)) (.own (OD ds)) (· = p) :=
 .newO g h (fun _ z=>nomatch z) ⟨p,xs,rfl,aai,r,fun b=>Iff.rfl⟩
theorem Out.newDT {p:Addr} {xs:List (List Key × V)} {ds:List (List Key × PyData)} (g:Same G H) (h:H p=none) (r:RpT G xs ds):Out G H (.ref p) G (upd H p (.dT xs)) (.own (OT ds)) (· = p) :=
 .newO g h (fun _ z=>nomatch z) ⟨p,xs,rfl,aai,r,fun b=>Iff.rfl⟩
end
def EvO (B:Bs) (te:TE) (env:En) (Q':Sl->En->Prop):Prop:=∀ (σ:St) (G H:Hp) (F:Nat->Addr->Prop) (Q:VK),VI B G H σ env F ->
 (∀ v G' H' F' Fv s env',VI B G' H' σ env' F'->Same G G'->RsX B G' H' v Fv s F'->Q' s env'->Q v H')->te σ H Q
def Ev (B:Bs) (te:TE) (env:En) (Q':PyData->En->Prop):Prop:=∀ (σ:St) (G H:Hp) (F:Nat->Addr->Prop) (Q:VK),VI B G H σ env F ->
 (∀ v G' H' F' d env',VI B G' H' σ env' F'->Same G G'->Rp G' v d->Q' d env'->Q v H')->te σ H Q
def EvT (B:Bs) (tt:TT) (env:En) (Q':Bool->En->Prop):Prop:=∀ (σ:St) (G H:Hp) (F:Nat->Addr->Prop) (Q:Bool->Hp->Prop),VI B G H σ env F ->
 (∀ b G' H' F' env',VI B G' H' σ env' F'->Same G G'->Q' b env'->Q b H')->tt σ H Q
def EvA (B:Bs) (ta:TA) (env:En) (Q':List PyData->En->Prop):Prop:=∀ (σ:St) (G H:Hp) (F:Nat->Addr->Prop) (Q:List V->Hp->Prop),VI B G H σ env F ->
 (∀ vs G' H' F' ds env',VI B G' H' σ env' F'->Same G G'->Rps G' vs ds->Q' ds env'->Q vs H')->ta σ H Q
structure ItOk (G:Hp) (J:It) (ds:List PyData):Prop where
 go:∀ i G' H',Same G G'->Same G' H'->i < ds.length->J.go i H'
 stop:∀ i G' H',Same G G'->Same G' H'->i=ds.length->J.stop i H'
 yld:∀ i G' H' x H'' d,Same G G'->Same G' H'->FT G' H'->ds[i]?=some d->J.yld i H' x H''->∃ G'',Out G' H' x G'' H'' (.st d) (fun _=>False)
def EvI (B:Bs) (ti:TI) (env:En) (Q':List PyData->En->Prop):Prop:=∀ (σ:St) (G H:Hp) (F:Nat->Addr->Prop) (R:It->Hp->Prop),VI B G H σ env F ->
 (∀ J G' H' F' ds env',VI B G' H' σ env' F'->Same G G'->ItOk G' J ds->Q' ds env'->R J H')->ti σ H R
def EvG (B:Bs) (g:TG) (s:Sl) (env:En) (Q':En->Prop):Prop:=∀ (σ:St) (G H:Hp) (F:Nat->Addr->Prop) (v:V) (Fv:Addr->Prop) (Q:St->Hp->Prop),VI B G H σ env F->RsX B G H v Fv s F ->
 (∀ σ' G' H' F' env',VI B G' H' σ' env' F'->Same G G'->Q' env'->Q σ' H')->g v σ H Q
def EvGs (B:Bs) (g:TGs) (ds:List PyData) (env:En) (Q':En->Prop):Prop:=∀ (σ:St) (G H:Hp) (F:Nat->Addr->Prop) (vs:List V) (Q:St->Hp->Prop),VI B G H σ env F->Rps G vs ds ->
 (∀ σ' G' H' F' env',VI B G' H' σ' env' F'->Same G G'->Q' env'->Q σ' H')->g vs σ H Q
structure VEnds where
 nx:En->Prop
 rt:Sl->En->Prop
 bk:En->Prop:=fun _=>False
 ct:En->Prop:=fun _=>False
structure RelE (B:Bs) (G:Hp) (D:Ends) (D':VEnds):Prop where
 nx:∀ σ G' H F env,VI B G' H σ env F->Same G G'->D'.nx env->D.nx σ H
 rt:∀ σ G' H F env v Fv s,VI B G' H σ env F->Same G G'->RsX B G' H v Fv s F->D'.rt s env->D.rt v H
 bk:∀ σ G' H F env,VI B G' H σ env F->Same G G'->D'.bk env->D.bk σ H
 ct:∀ σ G' H F env,VI B G' H σ env F->Same G G'->D'.ct env->D.ct σ H
def EvS (B:Bs) (ts:TS) (D':VEnds) (env:En):Prop:=∀ (σ:St) (G H:Hp) (F:Nat->Addr->Prop) (D:Ends),VI B G H σ env F->RelE B G D D'->ts D σ H
theorem RelE.later {B:Bs} {G G':Hp} {D:Ends} {D':VEnds} (r:RelE B G D D') (g:Same G G'):RelE B G' D D' :=
 ⟨fun σ a H F env I q=>r.nx σ a H F env I (g.trans q),fun σ a H F env v Fv s I q=>r.rt σ a H F env v Fv s I (g.trans q),fun σ a H F env I q=>r.bk σ a H F env I (g.trans q),fun σ a H F env I q=>r.ct σ a H F env I (g.trans q)⟩
section
variable {B:Bs} {env:En} {Q':PyData->En->Prop} {QO:Sl->En->Prop} {QT:Bool->En->Prop} {QA:List PyData->En->Prop} {te ta tb:TE}
theorem ad5 {G H:Hp} {v:V} {d:PyData} {F:Nat->Addr->Prop} (r:Rp G v d):RsX B G H v (fun _=>False) (.st d) F:=⟨⟨r,fun a z=>z⟩,fun a z=>z.elim,fun a z=>z.elim,fun a z=>z.elim,fun j a z=>z.elim⟩
theorem abc (h:Ev B te env fun d e=>QO (.st d) e):EvO B te env QO:=fun σ G H F Q I k =>
 h σ G H F Q I fun v G' H' c d a b g r q=>k v G' H' c _ (.st d) a b g (ad5 r) q
theorem ach (h:EvO B te env fun s e=>FQ s fun d=>Q' d e):Ev B te env Q':=fun σ G H F Q I k =>
 h σ G H F Q I fun v G' H' c Fv s a b g r q=>by
  cases s with
  | st d=>exact k v G' H' c d a b g r.ok.1 q
  | own A =>
   obtain ⟨d,f,q⟩:=q
   exact k v _ H' c d a (b.freeze r.fb r.fd r.fg) (g.trans (abb r.fg)) (f G' H' v Fv r.ok r.fg b.gh) q
  | io A=>exact q.elim
  | scr ns=>exact q.elim
theorem awv {i:Nat} {d:PyData} (e:env[i]?=some (some (.st d))) (q:Q' d env):Ev B (tVar i) env Q':=fun σ G H F Q I k=>by
 obtain ⟨v,a,r⟩:=I.sl i _ e
 exact ⟨v,a,k v G H F d env I (Same.refl _) r.1 q⟩
theorem aub {i:Nat} {A:Own} {d:PyData} (e:env[i]?=some (some (.own A))) (f:Frz A d) (q:Q' d (env.set i (some (.st d)))):Ev B (tVar i) env Q':=fun σ G H F Q I k=>by
 obtain ⟨v,a,r,g,J⟩:=I.frz e f
 exact ⟨v,a,k v _ H _ d _ J g r q⟩
theorem arh {i:Nat} {A:Own} (e:env[i]?=some (some (.own A))) (q:QO (.own A) (env.set i none)):EvO B (tVar i) env QO:=fun σ G H F Q I k=>by
 obtain ⟨v,b,r⟩:=I.sl i _ e
 refine ⟨v,b,k v G H _ (F i) (.own A) _ (I.drop i) (Same.refl _) ⟨r.1,r.2,I.fg i,I.fo i,fun j a z y=>?_⟩ q⟩
 by_cases h:j=i
 ·subst h;exact putF_same.mp y
 ·rw [aa4 h] at y;exact h (I.fd j i a y z)
theorem aww {i:Int} (q:Q' (.int i) env):Ev B (tC (.int i)) env Q':=fun σ G H F Q I k=>k _ G H F _ env I (Same.refl _) (.int i) q
theorem ax9 {b:Bool} (q:Q' (.bool b) env):Ev B (tC (.bl b)) env Q':=fun σ G H F Q I k=>k _ G H F _ env I (Same.refl _) (.bl b) q
theorem awx (q:Q' .none env):Ev B (tC .non) env Q':=fun σ G H F Q I k=>k _ G H F _ env I (Same.refl _) .non q
def Op2 (r:R2) (x y:PyData) (R:Sl->Prop):Prop:=∀ (G H:Hp) (vx vy:V) (Q:VK),Same G H->Rp G vx x->Rp G vy y->(∀ v G' H' s Fv,Out G H v G' H' s Fv->R s->Q v H')->r vx vy H Q
def Op1 (r:V->Hp->VK->Prop) (x:PyData) (R:Sl->Prop):Prop:=∀ (G H:Hp) (vx:V) (Q:VK),Same G H->Rp G vx x->(∀ v G' H' s Fv,Out G H v G' H' s Fv->R s->Q v H')->r vx H Q
def OpA (r:List V->Hp->VK->Prop) (ds:List PyData) (R:Sl->Prop):Prop:=∀ (G H:Hp) (vs:List V) (Q:VK),Same G H->Rps G vs ds->(∀ v G' H' s Fv,Out G H v G' H' s Fv->R s->Q v H')->r vs H Q
theorem ak8 {r:R2} (h:Ev B ta env fun x d=>Ev B tb d fun y b=>Op2 r x y fun s=>QO s b):EvO B (tOp r ta tb) env QO:=fun σ G H F Q I k =>
 h σ G H F _ I fun q g j f x d C z n p=>p σ g j f _ C fun w l H2 F2 y b a c i m =>
  m l H2 q w Q a.gh (n.same c) i fun v u H3 s Fv o A=>k v u H3 F2 Fv s b (a.out o).1 (z.trans (c.trans o.gg)) (a.out o).2 A
theorem aya {r:R2} (h:Ev B ta env fun x b=>Ev B tb b fun y a=>Op2 r x y fun s=>FQ s fun d=>Q' d a):Ev B (tOp r ta tb) env Q':=ach (ak8 h)
theorem awy {r:V->Hp->VK->Prop} (h:Ev B ta env fun x a=>Op1 r x fun s=>QO s a):EvO B (tUn r ta) env QO:=fun σ G H F Q I k =>
 h σ G H F _ I fun j d f c x a b m g i=>i d f j Q b.gh g fun v l H3 s Fv o n=>k v l H3 c Fv s a (b.out o).1 (m.trans o.gg) (b.out o).2 n
theorem ayb {r:V->Hp->VK->Prop} (h:Ev B ta env fun x a=>Op1 r x fun s=>FQ s fun d=>Q' d a):Ev B (tUn r ta) env Q':=ach (awy h)
theorem auc (q:QA [] env):EvA B tNil env QA:=fun σ G H F Q I k=>k [] G H F [] env I (Same.refl _) .nil q
theorem ari {tr:TA} (h:Ev B ta env fun x c=>EvA B tr c fun xs a=>QA (x :: xs) a):EvA B (aci ta tr) env QA:=fun σ G H F Q I k =>
 h σ G H F _ I fun r f i d x c q p n o=>o σ f i d _ q fun vs j H2 F2 ds a m b g l=>k _ j H2 F2 _ a m (p.trans b) (.cons (n.same b) g) l
theorem apg {r:List V->Hp->VK->Prop} {t:TA} (h:EvA B t env fun ds a=>OpA r ds fun s=>QO s a):EvO B (tCB r t) env QO:=fun σ G H F Q I k =>
 h σ G H F _ I fun vs d f c ds a b l g i=>i d f vs Q b.gh g fun v j H3 s Fv o m=>k v j H3 c Fv s a (b.out o).1 (l.trans o.gg) (b.out o).2 m
theorem ayc {r:List V->Hp->VK->Prop} {t:TA} (h:EvA B t env fun ds a=>OpA r ds fun s=>FQ s fun d=>Q' d a):Ev B (tCB r t) env Q':=ach (apg h)
theorem am0 {t:TA} (h:EvA B t env fun ds a=>ds.length<=1000/\QO (.st (.tuple ds)) a):EvO B (tTup t) env QO:=fun σ G H F Q I k =>
 h σ G H F _ I fun vs j l f ds a b i c d=>⟨by rw [c.length];exact aD9 (ad9 d.1),fun p g=>by
  have o:=Out.newT b.gh g c
  exact k _ _ _ f _ _ a (b.out o).1 (i.trans o.gg) (b.out o).2 d.2⟩
theorem awz {t:TA} (h:EvA B t env fun ds a=>ds.length<=1000/\Q' (.tuple ds) a):Ev B (tTup t) env Q':=ach (am0 h)
theorem am1 {t:TA} (h:EvA B t env fun ds a=>ds.length<=1000/\QO (.own (OL ds)) a):EvO B (tLst t) env QO:=fun σ G H F Q I k =>
 h σ G H F _ I fun vs j l f ds a b i c d=>⟨by rw [c.length];exact aD9 (ad9 d.1),fun p g=>by
  have o:=Out.newL b.gh g c
  exact k _ _ _ f _ _ a (b.out o).1 (i.trans o.gg) (b.out o).2 d.2⟩
theorem aw0 {t:TA} (h:EvA B t env fun ds a=>ds.length<=1000/\Q' (.list ds) a):Ev B (tLst t) env Q':=ach (am1 fun σ G H F Q I k=>h σ G H F Q I fun vs G' H' c ds a b g r q=>k vs G' H' c ds a b g r ⟨q.1,aee q.2⟩)
theorem ac1 (h:Ev B te env fun x a=>∃ b,x=.bool b/\QT b a):EvT B (asx te) env QT:=fun σ G H F Q I k =>
 h σ G H F _ I fun v d g c x a l j i f=>by
  obtain ⟨b,e,q⟩:=f
  subst e
  cases i
  exact ⟨b,rfl,k b d g c a l j q⟩
theorem ahc (h:Ev B te env fun x a=>∃ b,x=.bool b/\QT b a):EvT B (tB te) env QT:=ac1 h
theorem x_bl {b:Bool} {R:Bool->Prop} (h:R b):∃ c,PyData.bool b=.bool c/\R c:=⟨b,rfl,h⟩
theorem aud {t u:TT} (h:EvT B t env fun c a=>if c=true then EvT B u a QT else QT false a):EvT B (tAnd t u) env QT:=fun σ G H F Q I k =>
 h σ G H F _ I fun b f g d a j i q=>by
  cases b with
  | true=>rw [aC9 rfl] at q ⊢;exact q σ f g d Q j fun c m H2 F2 p o l n=>k c m H2 F2 p o (i.trans l) n
  | false=>rw [aD0 az3] at q ⊢;exact k false f g d a j i q
theorem aw1 {t u:TT} (h:EvT B t env fun c a=>if c=true then QT true a else EvT B u a QT):EvT B (tOr t u) env QT:=fun σ G H F Q I k =>
 h σ G H F _ I fun b f g d a j i q=>by
  cases b with
  | false=>rw [aD0 az3] at q ⊢;exact q σ f g d Q j fun c m H2 F2 p o l n=>k c m H2 F2 p o (i.trans l) n
  | true=>rw [aC9 rfl] at q ⊢;exact k true f g d a j i q
theorem aue {t:TT} (h:EvT B t env fun c a=>QT (!c) a):EvT B (tNot t) env QT:=fun σ G H F Q I k =>
 h σ G H F _ I fun b j d f a i g q=>k (!b) j d f a i g q
theorem adw (q:QT true env):EvT B tYes env QT:=fun σ G H F Q I k=>k true G H F env I (Same.refl _) q
def TruD:PyData->Bool->Prop
 | .bool b,k=>k=b
 | .list ds,k=>k = !ds.isEmpty
 | _,_=>False
theorem auf {K:Frag} (h:Ev B te env fun x a=>∃ b,TruD x b/\QT b a):EvT B (tTru K te) env QT:=fun σ G H F Q I k =>
 h σ G H F _ I fun v g i f x a d j m l=>by
  obtain ⟨b,e,q⟩:=l
  cases m with
  | bl c=>cases e;exact ⟨_,rfl,k _ g i f a d j q⟩
  | lst ha rs =>
   refine ⟨b,.inl ⟨_,SqL.of (d.gh _ _ ha),?_⟩,k _ g i f a d j q⟩
   have n:b = !_:=e
   rw [n]
   cases rs <;> rfl
  | _=>exact e.elim
theorem aug (h:Ev B ta env fun x a=>∃ b,x=.bool b/\if b=true then Ev B tb a Q' else Q' (.bool false) a):Ev B (ane ta tb) env Q':=fun σ G H F Q I k =>
 h σ G H F _ I fun v f g c x a j i s n=>by
  obtain ⟨b,e,q⟩:=n
  subst e
  cases s
  refine ⟨b,rfl,?_⟩
  cases b with
  | true=>rw [aC9 rfl] at q ⊢;exact q σ f g c Q j fun v o H2 F2 d u r l m p=>k v o H2 F2 d u r (i.trans l) m p
  | false=>rw [aD0 az3] at q ⊢;exact k _ f g c _ a j i (.bl false) q
theorem auh (h:Ev B ta env fun x a=>∃ b,x=.bool b/\Q' (.bool (!b)) a):Ev B (anf ta) env Q':=fun σ G H F Q I k =>
 h σ G H F _ I fun v d g c x a l j i f=>by
  obtain ⟨b,e,q⟩:=f
  subst e
  cases i
  exact ⟨b,rfl,k _ d g c _ a l j (.bl _) q⟩
theorem arj {r D:R2} {u:TE} (h:Ev B ta env fun x S=>Ev B tb S fun y c=>Op2 r x y fun s=>∃ b,s=.st (.bool b)/\if b=true then Ev B u c fun z e3=>Op2 D y z fun s'=>FQ s' fun d=>Q' d e3 else Q' (.bool false) c):Ev B (aj8 r D ta tb u) env Q':=fun σ G H F Q I k =>
 h σ G H F _ I fun v1 W Y U x S I1 N r1 q1=>q1 σ W Y U _ I1 fun M Z H2 F2 y c C i w q2 =>
  q2 Z H2 v1 M _ C.gh (r1.same i) w fun v L H3 s Fv o X=>by
   obtain ⟨b,es,g⟩:=X
   have O:=(C.out o).1
   have l:=o.ok
   subst es
   obtain ⟨l,_⟩:=l
   cases l
   refine ⟨b,rfl,?_⟩
   cases b with
   | false=>rw [aD0 az3] at g ⊢;exact k _ L H3 F2 _ c O (N.trans (i.trans o.gg)) (.bl _) g
   | true =>
    rw [aC9 rfl] at g ⊢
    refine g σ L H3 F2 _ O fun v3 G4 H4 E z R K T r4 q4=>q4 G4 H4 M v3 Q K.gh (w.same (o.gg.trans T)) r4 fun n P p s5 j m a=>?_
    have J:=K.out m
    have gg:=N.trans (i.trans (o.gg.trans (T.trans m.gg)))
    cases s5 with
    | st d=>exact k n P p E d R J.1 gg m.ok.1 a
    | own A =>
     obtain ⟨d,f,q⟩:=a
     exact k n _ p E d R (J.1.freeze J.2.fb J.2.fd J.2.fg) (gg.trans (abb J.2.fg)) (f P p n j J.2.ok J.2.fg J.1.gh) q
    | io A=>exact a.elim
    | scr ns=>exact a.elim
end
section
variable {B:Bs} {env:En} {D':VEnds} {t u tb:TS} {te:TE} {g:TG} {c:TT} {QE:En->Prop}
theorem aui (h:EvS B t { D' with nx:=fun e=>EvS B u D' e } env):EvS B (tSeq t u) D' env:=fun σ G H F D I r =>
 h σ G H F { D with nx:=u D } I ⟨fun σ G' H F env a g q=>q σ G' H F D a (r.later g),r.rt,r.bk,r.ct⟩
theorem aca (h:D'.nx env):EvS B ass D' env:=fun σ G H F D I r=>r.nx σ G H F env I (Same.refl _) h
theorem am2 (h:EvO B te env fun s e=>EvG B g s e D'.nx):EvS B (tAsg te g) D' env:=fun σ G H F D I r =>
 h σ G H F _ I fun v d f c Fv s u q o n m=>m σ d f c v Fv D.nx q n fun a i H2 F2 p l b j=>r.nx a i H2 F2 p l (o.trans b) j
theorem aar {i:Nat} {s:Sl} (h:QE (env.set i (some s))):EvG B (aay i) s env QE:=fun σ G H F v Fv Q I x k=>k _ G H _ _ (I.store x i) (Same.refl _) h
theorem agm (h:QE env):EvGs B gNil [] env QE:=fun σ G H F vs Q I x k=>by cases x;exact ⟨rfl,k σ G H F env I (Same.refl _) h⟩
theorem adm {c:TGs} {d:PyData} {ds:List PyData} (h:EvG B g (.st d) env fun e=>EvGs B c ds e QE):EvGs B (adb g c) (d :: ds) env QE:=fun σ G H F vs Q I x k=>by
 cases x with
 | cons r rs =>
  refine ⟨_,_,rfl,h σ G H F _ _ _ I (ad5 r) fun b l m j v u f q=>q b l m j _ Q u (rs.same f) fun a n H2 F2 s p i o=>k a n H2 F2 s p (f.trans i) o⟩
theorem am3 {K:Frag} {n:Nat} {a:TGs} {ds:List PyData} (b:ds.length=n) (h:EvGs B a ds env QE):EvG B (gTup K n a) (.st (.tuple ds)) env QE:=fun σ G H F v Fv Q I x k=>by
 obtain ⟨r,_⟩:=x.ok
 cases r with
 | tup ha rs=>exact ⟨_,_,rfl,SqT.of (I.gh _ _ ha),by rw [rs.length,b],h σ G H F _ Q I rs k⟩
theorem am4 (h:EvO B te env fun s e=>D'.rt s e):EvS B (tRet te) D' env:=fun σ G H F D I r =>
 h σ G H F _ I fun v b c a Fv s i j g f d=>r.rt σ b c a i v Fv s j g f d
theorem ark (h:EvO B te env fun _ e=>D'.nx e):EvS B (ast te) D' env:=fun σ G H F D I r =>
 h σ G H F _ I fun v b c a Fv s g i f j d=>r.nx σ b c a g i f d
theorem aw2 (h:EvT B c env fun b e=>if b=true then EvS B t D' e else EvS B u D' e):EvS B (tIfS c t u) D' env:=fun σ G H F D I r =>
 h σ G H F _ I fun b i a d j g f q=>by
  cases b with
  | true=>rw [aC9 rfl] at q ⊢;exact q σ i a d D g (r.later f)
  | false=>rw [aD0 az3] at q ⊢;exact q σ i a d D g (r.later f)
def ForV (B:Bs) (g:TG) (tb:TS) (D':VEnds) (ds:List PyData) (e1:En):Prop:=∃ J:Nat->En->Prop,J 0 e1/\(∀ i d e,ds[i]?=some d->J i e->EvG B g (.st d) e fun e2=>EvS B tb { D' with nx:=J (i+1),ct:=J (i+1),bk:=D'.nx } e2)/\∀ e,J ds.length e->D'.nx e
theorem auj {O:TI} (h:EvI B O env fun ds E=>ForV B g tb D' ds E):EvS B (tFor O g tb) D' env:=fun σ G H F D I r =>
 h σ G H F _ I fun J w H1 Q ds E I1 C it R=>by
  obtain ⟨N,j0,P,S⟩:=R
  refine ⟨fun i m σ H=>m=ds.length - i/\i<=ds.length/\∃ c F2 p,VI B c H σ p F2/\Same w c/\N i p,⟨ds.length,by simp,aD4 _,w,Q,E,I1,Same.refl _,j0⟩,?_⟩
  rintro i m σ H ⟨rfl,hi,c,F2,p,n,q,K⟩
  by_cases hlt:i < ds.length
  ·refine .inr ⟨it.go i c H q n.gh hlt,fun σ H=>∃ u X L,VI B u H σ L X/\Same w u/\N (i+1) L,fun U H' h'=>⟨ds.length - (i+1),by omega,rfl,hlt,h'⟩,fun x H' y=>?_⟩
   obtain ⟨u,o⟩:=it.yld i c H x H' _ q n.gh n.ft (ay4 hlt) y
   have M:=n.out o
   refine P i _ p (ay4 hlt) K σ u H' F2 x _ _ M.1 M.2 fun z G4 H4 W e4 Y g4 Z=>?_
   have gg:=q.trans (o.gg.trans g4)
   refine Z z G4 H4 W _ Y ⟨fun a j s f l d b v=>⟨j,f,l,d,gg.trans b,v⟩,fun a j s f l v5 A T d b=>r.rt a j s f l v5 A T d (C.trans (gg.trans b)),fun a j s f l d b=>r.nx a j s f l d (C.trans (gg.trans b)),fun a j s f l d b v=>⟨j,f,l,d,gg.trans b,v⟩⟩
  ·have e:i=ds.length:=by omega
   subst e
   exact .inl ⟨it.stop _ c H q n.gh rfl,r.nx σ c H F2 p n (C.trans q) (S p K)⟩
theorem afm (J:Nat->En->Prop) (y:∃ m,J m env) (h:∀ m e,J m e->EvT B c e fun b E=>if b=true then EvS B tb { D' with nx:=fun f=>∃ d,d < m/\J d f,ct:=fun f=>∃ d,d < m/\J d f,bk:=D'.nx } E else D'.nx E):EvS B (aon c tb) D' env:=fun σ G H F D I r=>by
 obtain ⟨R,y⟩:=y
 refine ⟨fun m σ H=>∃ p F2 f,VI B p H σ f F2/\Same G p/\J m f,⟨R,G,F,env,I,Same.refl _,y⟩,?_⟩
 rintro m σ H ⟨p,F2,f,N,K,L⟩
 refine h m f L σ p H F2 _ N fun b A H3 z S C M u=>?_
 have gg:=K.trans M
 cases b with
 | false=>rw [aD0 az3] at u ⊢;exact r.nx σ A H3 z S C gg u
 | true =>
  rw [aC9 rfl] at u ⊢
  refine ⟨fun σ H=>∃ q x s,VI B q H σ s x/\Same G q/\∃ d,d < m/\J d s,fun Q H' ⟨q,x,s,T,W,d,hm,O⟩=>⟨d,hm,q,x,s,T,W,O⟩,?_⟩
  exact u σ A H3 z _ C ⟨fun a l o j n i g v=>⟨l,j,n,i,gg.trans g,v⟩,fun a l o j n U w P i g=>r.rt a l o j n U w P i (gg.trans g),fun a l o j n i g=>r.nx a l o j n i (gg.trans g),fun a l o j n i g v=>⟨l,j,n,i,gg.trans g,v⟩⟩
variable {QI:List PyData->En->Prop}
theorem arl {K:Frag} (h:Ev B te env fun d e=>∃ ds,d=.list ds/\QI ds e):EvI B (ajs K te) env QI:=fun σ G H F R I k =>
 h σ G H F _ I fun v f l c d s b r o j=>by
  obtain ⟨ds,q,p⟩:=j
  subst q
  cases o with
  | @lst a vs ds ha rs =>
   refine ⟨a,rfl,⟨vs,SqL.of (b.gh _ _ ha)⟩,k _ f l c ds s b r ⟨fun i G' H' g h hi=>?_,fun i G' H' g h hi=>?_,fun i G' H' x H'' d g h ft hd y=>?_⟩ p⟩
   ·have:i < vs.length:=by rw [rs.length];exact hi
    exact ⟨vs,vs[i],SqL.of (h _ _ (g _ _ ha)),ay4 this⟩
   ·exact ⟨vs,SqL.of (h _ _ (g _ _ ha)),by rw [rs.length];exact Nat.le_of_eq hi.symm⟩
   ·obtain ⟨e,y⟩:=y
    subst e
    obtain ⟨v,m,n⟩:=rs.get hd
    have:=y vs (SqL.of (h _ _ (g _ _ ha)))
    rw [m] at this
    cases this
    exact ⟨G',Out.refl h (n.same g)⟩
theorem aw3 {ds:List PyData} {R:List PyData->Prop} (h:R ds):∃ xs,PyData.list ds=.list xs/\R xs:=⟨ds,rfl,h⟩
def rngD (lo:Int) (n:Nat):List PyData:=(List.range n).map fun (i:Nat) => .int (lo+(i:Int))
theorem ace {lo:Int} {n:Nat}:(rngD lo n).length=n:=by simp [rngD]
theorem agn {lo:Int} {n i:Nat} {d:PyData} (h:(rngD lo n)[i]?=some d):i < n/\d=.int (lo+(i:Int)):=by
 unfold rngD at h
 rw [ay9] at h
 have hi:i < n:=by
  have:=(ay5 (l:=(List.range n).map fun (i:Nat)=>PyData.int (lo+(i:Int)))).mp (by rw [ay9];exact h)
  obtain ⟨q,_⟩:=this
  simpa using q
 rw [ay4 (by simpa using hi)] at h
 simp at h
 exact ⟨hi,h.symm⟩
theorem aph {G:Hp} {lo:Int} {n:Nat}:ItOk G (Itr lo n) (rngD lo n):=by
 refine ⟨fun i G' H' g h hi=>?_,fun i G' H' g h hi=>?_,fun i G' H' x H'' d g h ft hd y=>?_⟩
 ·rw [ace] at hi;exact hi
 ·rw [ace] at hi;exact Nat.le_of_eq hi.symm
 ·obtain ⟨e,y⟩:=y
  subst e y
  rw [(agn hd).2]
  exact ⟨G',Out.refl h (.int _)⟩
def aj1 (ds:List PyData) (R:List PyData->Prop):Prop:=∃ j:Int,ds=[.int j]/\-(2 ^ 62)<=j/\j < 2 ^ 62/\R (rngD 0 j.toNat)
def aj2 (ds:List PyData) (R:List PyData->Prop):Prop:=∃ i j:Int,ds=[.int i,.int j]/\(-(2 ^ 62)<=i/\i < 2 ^ 62/\-(2 ^ 62)<=j/\j < 2 ^ 62)/\R (rngD i (j - i).toNat)
theorem arm {a:TA} (h:EvA B a env fun ds e=>aj1 ds fun xs=>QI xs e):EvI B (asu a) env QI:=fun σ G H F R I k =>
 h σ G H F _ I fun vs d g c ds p q o l f=>by
  obtain ⟨j,n,i,b,m⟩:=f
  subst n
  obtain rfl:vs=[V.int j]:=Rps.ints_inv (ns:=[j]) l
  exact ⟨j,rfl,i,b,k _ d g c _ p q o aph m⟩
theorem arn {a:TA} (h:EvA B a env fun ds e=>aj2 ds fun xs=>QI xs e):EvI B (asv a) env QI:=fun σ G H F R I k =>
 h σ G H F _ I fun vs c f b ds p q o l d=>by
  obtain ⟨i,j,n,g,m⟩:=d
  subst n
  obtain rfl:vs=[V.int i,V.int j]:=Rps.ints_inv (ns:=[i,j]) l
  exact ⟨i,j,rfl,g,k _ c f b _ p q o aph m⟩
theorem aw4 {j:Int} {R:List PyData->Prop} (a : -4611686018427387904<=j) (b:j < 4611686018427387904) (h:R (rngD 0 j.toNat)):aj1 [.int j] R:=⟨j,rfl,by omega,by omega,h⟩
theorem aw5 {a b:Int} {R:List PyData->Prop} (c : -4611686018427387904<=a/\a < 4611686018427387904/\-4611686018427387904<=b/\b < 4611686018427387904) (h:R (rngD a (b - a).toNat)):aj2 [.int a,.int b] R:=⟨a,b,rfl,by omega,h⟩
theorem abq {lo:Int} {n:Nat} (J:Nat->En->Prop) (b:J 0 env) (c:∀ i e,i < n->J i e->EvG B g (.st (.int (lo+(i:Int)))) e fun a=>EvS B tb { D' with nx:=J (i+1),ct:=J (i+1),bk:=D'.nx } a) (hd:∀ e,J n e->D'.nx e):ForV B g tb D' (rngD lo n) env :=
 ⟨J,b,fun i d e h j=>by obtain ⟨hi,rfl⟩:=agn h;exact c i e hi j,fun e j=>hd e (by rw [ace] at j;exact j)⟩
theorem ac9 {α:Type} {f : α->PyData} {xs:List α} (J:Nat->En->Prop) (b:J 0 env) (c:∀ i x e,xs[i]?=some x->J i e->EvG B g (.st (f x)) e fun a=>EvS B tb { D' with nx:=J (i+1),ct:=J (i+1),bk:=D'.nx } a) (hd:∀ e,J xs.length e->D'.nx e):ForV B g tb D' (xs.map f) env :=
 ⟨J,b,fun i d e h j=>by
  rw [ay9] at h
  cases hx:xs[i]? with
  | none=>rw [hx] at h;cases h
  | some x=>rw [hx] at h;cases h;exact c i x e hx j,fun e j=>hd e (by rw [ay7] at j;exact j)⟩
end
theorem aro {B:Bs} {a b:TS} {D':VEnds} {env:En} (h:∀ c:TS,c=b->EvS B a { D' with nx:=fun e=>EvS B c D' e } env):EvS B (tSeq a b) D' env:=aui (h b rfl)
theorem auk {B:Bs} {c b:TS} {D':VEnds} {env:En} (e:c=b) (h:EvS B b D' env):EvS B c D' env:=by rw [e];exact h
@[elab_as_elim] theorem exS1 {b:Type} {σ:Type} {f : b->σ} {p : b->Prop} {a : σ->Prop} (s : σ) (h:∃ x0,s=f x0/\p x0) (k:∀ x0,p x0->a (f x0)):a s:=by
 obtain ⟨x0,e,h⟩:=h
 rw [e];exact k _ h
@[elab_as_elim] theorem exS2 {d:Type} {c:Type} {σ:Type} {f : d->c->σ} {p : d->c->Prop} {a : σ->Prop} (s : σ) (h:∃ x0 b,s=f x0 b/\p x0 b) (k:∀ x0 b,p x0 b->a (f x0 b)):a s:=by
 obtain ⟨x0,b,e,h⟩:=h
 rw [e];exact k _ _ h
@[elab_as_elim] theorem exS3 {d:Type} {i:Type} {g:Type} {σ:Type} {f : d->i->g->σ} {p : d->i->g->Prop} {a : σ->Prop} (s : σ) (h:∃ x0 b c,s=f x0 b c/\p x0 b c) (k:∀ x0 b c,p x0 b c->a (f x0 b c)):a s:=by
 obtain ⟨x0,b,c,e,h⟩:=h
 rw [e];exact k _ _ _ h
@[elab_as_elim] theorem exE3 {i:Type} {g:Type} {d:Type} {σ:Type} {f : i->g->d->σ} {a : σ->Prop} (s : σ) (h:∃ x0 b c,s=f x0 b c) (k:∀ x0 b c,a (f x0 b c)):a s:=by
 obtain ⟨x0,b,c,e⟩:=h
 rw [e];exact k _ _ _
@[elab_as_elim] theorem exS4 {i:Type} {g:Type} {j:Type} {l:Type} {σ:Type} {f : i->g->j->l->σ} {p : i->g->j->l->Prop} {a : σ->Prop} (s : σ) (h:∃ x0 c d b,s=f x0 c d b/\p x0 c d b) (k:∀ x0 c d b,p x0 c d b->a (f x0 c d b)):a s:=by
 obtain ⟨x0,c,d,b,e,h⟩:=h
 rw [e];exact k _ _ _ _ h
@[elab_as_elim] theorem exS5 {l:Type} {j:Type} {m:Type} {n:Type} {i:Type} {σ:Type} {f : l->j->m->n->i->σ} {p : l->j->m->n->i->Prop} {a : σ->Prop} (s : σ) (h:∃ x0 c g b d,s=f x0 c g b d/\p x0 c g b d) (k:∀ x0 c g b d,p x0 c g b d->a (f x0 c g b d)):a s:=by
 obtain ⟨x0,c,g,b,d,e,h⟩:=h
 rw [e];exact k _ _ _ _ _ h
@[elab_as_elim] theorem exS6 {m:Type} {o:Type} {n:Type} {q:Type} {l:Type} {j:Type} {σ:Type} {f : m->o->n->q->l->j->σ} {p : m->o->n->q->l->j->Prop} {a : σ->Prop} (s : σ) (h:∃ x0 g c d b i,s=f x0 g c d b i/\p x0 g c d b i) (k:∀ x0 g c d b i,p x0 g c d b i->a (f x0 g c d b i)):a s:=by
 obtain ⟨x0,g,c,d,b,i,e,h⟩:=h
 rw [e];exact k _ _ _ _ _ _ h
@[elab_as_elim] theorem exS7 {n:Type} {r:Type} {q:Type} {u:Type} {m:Type} {l:Type} {o:Type} {σ:Type} {f : n->r->q->u->m->l->o->σ} {p : n->r->q->u->m->l->o->Prop} {a : σ->Prop} (s : σ) (h:∃ x0 g j d b i c,s=f x0 g j d b i c/\p x0 g j d b i c) (k:∀ x0 g j d b i c,p x0 g j d b i c->a (f x0 g j d b i c)):a s:=by
 obtain ⟨x0,g,j,d,b,i,c,e,h⟩:=h
 rw [e];exact k _ _ _ _ _ _ _ h
@[elab_as_elim] theorem exE7 {n:Type} {q:Type} {p:Type} {r:Type} {m:Type} {l:Type} {o:Type} {σ:Type} {f : n->q->p->r->m->l->o->σ} {a : σ->Prop} (s : σ) (h:∃ x0 i c g b j d,s=f x0 i c g b j d) (k:∀ x0 i c g b j d,a (f x0 i c g b j d)):a s:=by
 obtain ⟨x0,i,c,g,b,j,d,e⟩:=h
 rw [e];exact k _ _ _ _ _ _ _
theorem big {n:Nat} (h:n<=1000000):n < sizeLine:=aC0 h (by decide)
section
variable {B B1:Bs} {G H G' H':Hp} {σ σI:St} {env envI:En} {F F':Nat->Addr->Prop} {v:V} {s:Sl} {Fv:Addr->Prop} {inv:Nat->Option Nat}
open Classical in
def adq (H:Hp) (F:Nat->Addr->Prop) (inv:Nat->Option Nat):Hp:=fun a=>if ∃ i j,inv i=some j/\F i a then none else H a
theorem an1 {i j:Nat} {a:Addr} (h:inv i=some j) (f:F i a):adq H F inv a=none:=aC9 ⟨i,j,h,f⟩
theorem ak9 {a:Addr} (h:∀ i j,inv i=some j->¬ F i a):adq H F inv a=H a:=aD0 fun ⟨i,j,x,y⟩=>h i j x y
theorem ahd:Same (adq H F inv) H:=fun a o e=>by
 unfold adq at e
 split at e
 ·cases e
 ·exact e
theorem VI.enter (I:VI B G H σ env F) (inj:∀ i b j,inv i=some j->inv b=some j->i=b) (ln : σI.length=envI.length)
  (sl:∀ j s,envI[j]?=some (some s)->∃ v,σI[j]?=some (some v)/\((∃ d,s=.st d/\Rp G v d/\∀ i,inv i ≠ some j)\/(∃ ns a,s=.scr ns/\v=.ref a/\SqL B.K G a (ns.map V.int)/\∀ i,inv i ≠ some j) ∨
   ∃ i A,inv i=some j/\s=.io A/\σ[i]?=some (some v)/\(env[i]?=some (some (.own A))\/env[i]?=some (some (.io A))))) :
  VI ⟨B.K,G,H,adq H F inv,σI,fun j a=>∃ i,inv i=some j/\F i a⟩ G H σI envI (fun j a=>∃ i,inv i=some j/\F i a) where
 gh:=I.gh
 g0:=Same.refl _
 gn:=fun a o e => .inl e
 rs:=ahd
 rb:=ahd
 bh:=fun a o e=>⟨o,e⟩
 fg:=fun j a ⟨i,_,z⟩=>I.fg i a z
 fr:=fun j a ⟨i,h,z⟩=>an1 h z
 fd:=fun j k a ⟨i,h,z⟩ ⟨b,h',w⟩=>by
  have:=I.fd i b a z w
  subst this
  rw [h] at h';cases h';rfl
 fo:=fun j a ⟨i,h,z⟩=>I.fo i a z
 sl:=fun j s e=>by
  obtain ⟨v,l,q⟩:=sl j s e
  refine ⟨v,l,?_⟩
  rcases q with ⟨d,rfl,r,n⟩ | ⟨ns,a,rfl,rfl,q,n⟩ | ⟨i,A,hi,rfl,m,c⟩
  ·exact ⟨r,fun a ⟨i,h,_⟩=>n i h⟩
  ·exact ⟨⟨a,rfl,q⟩,fun a ⟨i,h,_⟩=>n i h⟩
  ·refine ⟨?_,fun a z => .inl z,l⟩
   have p:(fun a=>∃ b,inv b=some j/\F b a)=F i:=by
    funext a
    exact propext ⟨fun ⟨b,h,z⟩=>by rw [inj i b j hi h];exact z,fun z=>⟨i,hi,z⟩⟩
   show A.P G H v (fun a=>∃ b,inv b=some j/\F b a)
   rw [p]
   rcases c with c | c
   ·obtain ⟨u,f,g⟩:=I.sl i _ c
    rw [m] at f;cases f;exact g.1
   ·obtain ⟨u,f,g⟩:=I.sl i _ c
    rw [m] at f;cases f;exact g.1
 ln:=ln
 ft:=I.ft
theorem VI.leave (I:VI B G H σ env F) (inj:∀ i r j,inv i=some j->inv r=some j->i=r) (u:B1.G=G) (p:B1.H=H) (P:∀ a o,H a=some o->(∀ i j,inv i=some j->¬ F i a)->B1.R a=some o)
  (M:∀ i j,inv i=some j->∀ a,B1.F j a->F i a) (N:∀ i j,inv i=some j->B1.S[j]? = σ[i]?) (J:VI B1 G' H' σI envI F') (io:∀ i j,inv i=some j->∃ A',envI[j]?=some (some (.io A'))) {env2:En} (K:env2.length=env.length)
  (L:∀ i s,env2[i]?=some (some s)->(inv i=none/\env[i]?=some (some s))\/∃ j A A',inv i=some j/\envI[j]?=some (some (.io A'))/\((env[i]?=some (some (.own A))/\s=.own A')\/(env[i]?=some (some (.io A))/\s=.io A'))) :
  VI B G' H' σ env2 (fun i a=>match inv i with | some j=>F' j a | none=>F i a):=by
 have d:∀ a o,G' a=some o->G a=some o\/H a=none:=fun a o e=>by
  have:=J.gn a o e
  rw [u,p] at this;exact this
 have b:∀ i j a,inv i=some j->F' j a->F i a\/H a=none:=fun i j a hi z=>by
  obtain ⟨A',e⟩:=io i j hi
  obtain ⟨v,_,q⟩:=J.sl j _ e
  rcases q.2.1 a z with y | y
  ·exact .inl (M i j hi a y)
  ·rw [p] at y;exact .inr y
 have kp:∀ a o,H a=some o->(∀ i j,inv i=some j->¬ F i a)->H' a=some o:=fun a o e n=>J.rs a o (P a o e n)
 refine ⟨J.gh,I.g0.trans (u ▸ J.g0),fun a o e=>?_,fun a o e=>?_,I.rb,fun a o e=>?_,fun i a z=>?_,fun i a z=>?_,fun i k a y z=>?_,fun i a z=>?_,fun i t e=>?_,by rw [K];exact I.ln,J.ft⟩
 ·rcases d a o e with e | e
  ·exact I.gn a o e
  ·exact .inr (I.no_b e)
 ·refine kp a o (I.rs a o e) fun i j _ z=>?_
  rw [I.fr i a z] at e;cases e
 ·obtain ⟨E,h⟩:=I.bh a o e
  exact J.bh a E (by rw [p];exact h)
 ·cases hi:inv i with
  | some j=>rw [hi] at z;exact J.fg j a z
  | none =>
   rw [hi] at z
   cases e:G' a with
   | none=>rfl
   | some o =>
    rcases d a o e with e | e
    ·rw [I.fg i a z] at e;cases e
    ·exact absurd z (I.no_f e i)
 ·cases hi:inv i with
  | some j =>
   rw [hi] at z
   rcases b i j a hi z with y | y
   ·exact I.fr i a y
   ·exact I.no_r y
  | none=>rw [hi] at z;exact I.fr i a z
 ·cases hi:inv i with
  | some j =>
   rw [hi] at y
   cases hk:inv k with
   | some l =>
    rw [hk] at z
    have:=J.fd j l a y z
    subst this
    exact inj i k j hi hk
   | none =>
    rw [hk] at z
    rcases b i j a hi y with x | x
    ·exact I.fd i k a x z
    ·exact absurd z (I.no_f x k)
  | none =>
   rw [hi] at y
   cases hk:inv k with
   | some l =>
    rw [hk] at z
    rcases b k l a hk z with x | x
    ·exact I.fd i k a y x
    ·exact absurd y (I.no_f x i)
   | none=>rw [hk] at z;exact I.fd i k a y z
 ·cases hi:inv i with
  | some j=>rw [hi] at z;exact J.fo j a z
  | none =>
   rw [hi] at z
   obtain ⟨o,e⟩:=I.fo i a z
   exact J.bh a o (by rw [p];exact e)
 ·rcases L i t e with ⟨hi,h⟩ | ⟨j,A,A',hi,h,g⟩
  ·obtain ⟨v,C,q⟩:=I.sl i t h
   refine ⟨v,C,?_⟩
   simp only [hi]
   refine q.mono (u ▸ J.g0) fun a o z y=>kp a o y fun r Q f O=>?_
   have:=I.fd i r a z O
   subst this
   rw [hi] at f;cases f
  ·obtain ⟨v,C,q⟩:=J.sl j _ h
   have w : σ[i]?=some (some v):=by rw [← N i j hi];exact q.2.2
   refine ⟨v,w,?_⟩
   simp only [hi]
   rcases g with ⟨g,rfl⟩ | ⟨g,rfl⟩
   ·obtain ⟨D,_,m⟩:=I.sl i _ g
    refine ⟨q.1,fun a z=>?_⟩
    rcases b i j a hi z with y | y
    ·exact m.2 a y
    ·exact I.no_b y
   ·obtain ⟨D,c,m⟩:=I.sl i _ g
    rw [w] at c;cases c
    refine ⟨q.1,fun a z=>?_,m.2.2⟩
    rcases b i j a hi z with y | y
    ·exact m.2.1 a y
    ·exact .inr (I.no_b y)
end
abbrev VP:=List Sl->(Sl->Prop)->Prop
def noF:Nat->Addr->Prop:=fun _ _=>False
def bsP (K:Frag) (G H:Hp) (vs:List V):Bs:=⟨K,G,H,H,vs.map some,noF⟩
def ata (K:Frag) (G:Hp):V->Sl->Prop
 | v,.st d=>Rp G v d
 | v,.scr ns=>∃ a,v=.ref a/\SqL K G a (ns.map V.int)
 | _,_=>False
inductive ArgsOk (K:Frag) (G:Hp):List V->List Sl->Prop
 | nil:ArgsOk K G [] []
 | cons {v:V} {s:Sl} {vs:List V} {ss:List Sl}:ata K G v s->ArgsOk K G vs ss->ArgsOk K G (v :: vs) (s :: ss)
theorem ArgsOk.length {K:Frag} {G:Hp}:∀ {vs:List V} {ss:List Sl},ArgsOk K G vs ss->vs.length=ss.length
 | _,_,.nil=>rfl
 | _,_,.cons _ t=>by simp [ArgsOk.length t]
theorem ArgsOk.get {K:Frag} {G:Hp}:∀ {vs:List V} {ss:List Sl} {i:Nat} {s:Sl},ArgsOk K G vs ss->ss[i]?=some s->∃ v,vs[i]?=some v/\ata K G v s
 | _,_,_,_,.nil,e=>by simp at e
 | _,_,0,_,.cons r _,e=>by simp at e;subst e;exact ⟨_,rfl,r⟩
 | _,_,i+1,s,.cons _ t,e=>by
  obtain ⟨u,a,b⟩:=ArgsOk.get (i:=i) (s:=s) t (by simpa using e)
  exact ⟨u,by simpa using a,b⟩
theorem ArgsOk.of {K:Frag} {G:Hp}:∀ {vs:List V} {ds:List PyData},Rps G vs ds->ArgsOk K G vs (ds.map Sl.st)
 | _,_,.nil => .nil
 | _,_,.cons r t => .cons r (ArgsOk.of t)
theorem aul {α:Type} {xs:List α} {n i:Nat} {s : α} (e:(xs.map some ++ List.replicate n none)[i]?=some (some s)):xs[i]?=some s:=by
 by_cases h:i < xs.length
 ·rw [aA6 (by simpa using h),ay9] at e
  rw [ay4 h] at e ⊢
  simpa using e
 ·rw [aB1 (by simpa using h),aF1] at e
  split at e <;> cases e
theorem aum {α:Type} {xs:List α} {n i:Nat} {s : α} (e:xs[i]?=some s):(xs.map some ++ List.replicate n none)[i]?=some (some s):=by
 have h:i < xs.length:=(ay5.mp e).1
 rw [aA6 (by simpa using h),ay9,e];rfl
def spP (K:Frag) (f:VP):Sp:=fun vs H Q _=>∃ G ss Q',Same G H/\FT G H/\ArgsOk K G vs ss/\f ss Q'/\∀ s,Q' s->∀ v G' H' Fv,Out G H v G' H' s Fv->Q v H'
theorem abd {K:Frag} {f:VP} {m:TS} {N:List Str} {vs:List V} {H:Hp} {Q:VK} {E:XK} (h:spP K f vs H Q E)
  (hb:∀ ss b,f ss b->∀ B,B.K=K->EvS B m { nx:=fun _=>b (.st .none),rt:=fun s _=>b s } (ss.map some ++ List.replicate (N.length - ss.length) none)):m { nx:=fun _ H'=>Q .non H',rt:=Q } (L2.start N vs) H:=by
 obtain ⟨G,ss,b,gh,ft,l,hf,c⟩:=h
 have fin:∀ {σ G' H' F env v Fv s},VI (bsP K G H vs) G' H' σ env F->RsX (bsP K G H vs) G' H' v Fv s F->Out G H v G' H' s Fv:=fun I r =>
  ⟨I.g0,I.gh,I.rs,I.gn,r.fb,r.fg,r.fo,r.ok,fun _=>I.ft⟩
 refine hb ss _ hf (bsP K G H vs) rfl (L2.start N vs) G H noF _ ?_ ⟨fun σ G' H' F env I g q=>c _ q _ _ _ _ (fin I (ad5 .non)),fun σ G' H' F env v Fv s I g r q=>c _ q v G' H' Fv (fin I r),fun _ _ _ _ _ _ _ q=>q,fun _ _ _ _ _ _ _ q=>q⟩
 refine ⟨gh,Same.refl _,fun a o e => .inl e,Same.refl _,Same.refl _,fun a o e=>⟨o,e⟩,fun i a z=>z.elim,fun i a z=>z.elim,fun i j a z=>z.elim,fun i a z=>z.elim,fun i s e=>?_,?_,ft⟩
 ·obtain ⟨v,n,q⟩:=l.get (aul e)
  refine ⟨v,by unfold L2.start;exact aum n,?_⟩
  cases s with
  | st d=>exact ⟨q,fun a z=>z⟩
  | scr ns=>exact ⟨q,fun a z=>z⟩
  | own A=>exact q.elim
  | io A=>exact q.elim
 ·unfold L2.start;simp [l.length]
section
variable {B:Bs} {env:En} {Q':PyData->En->Prop} {QO:Sl->En->Prop} {K:Frag} {E:XK}
theorem aix {f:VP} {t:TA} (h:EvA B t env fun ds b=>f (ds.map Sl.st) fun s=>QO s b):EvO B (aev (spP K f) [] E t) env QO:=fun σ G H F Q I k=>by
 unfold aev
 simp only [aC6]
 exact h σ G H F _ I fun vs d l c ds b a j g i=>⟨d,_,_,a.gh,a.ft,ArgsOk.of g,i,fun s q v G' H' Fv o=>k v G' H' c Fv s b (a.out o).1 (j.trans o.gg) (a.out o).2 q⟩
theorem arp {f:VP} {t:TA} (h:EvA B t env fun ds a=>f (ds.map Sl.st) fun s=>FQ s fun d=>Q' d a):Ev B (aev (spP K f) [] E t) env Q':=ach (aix h)
theorem api {f:VP} {t:TA} {i:Nat} {ns:List Int} (e:env[i]?=some (some (.scr ns))) (w:B.K=K) (h:EvA B t env fun ds c=>f (.scr ns :: ds.map Sl.st) fun s=>QO s c):EvO B (aev (spP K f) [] E (aci (tVar i) t)) env QO:=fun σ G H F Q I k=>by
 subst w
 unfold aev
 simp only [aC6]
 obtain ⟨n,m,⟨a,u,j⟩,_⟩:=I.sl i _ e
 refine ⟨n,m,h σ G H F _ I fun vs l x g ds c b d p r=>⟨l,_,_,b.gh,b.ft,.cons (s:=.scr ns) ⟨a,u,d.seq j⟩ (ArgsOk.of p),r,fun s q v G' H' Fv o=>k v G' H' g Fv s c (b.out o).1 (d.trans o.gg) (b.out o).2 q⟩⟩
def reS:Sl->Own->Sl
 | .io _,A => .io A
 | _,A => .own A
end
def ahe:Option Sl->Option Sl
 | some (.own A)=>some (.io A)
 | s=>s
def aan (src:List (Option Nat)) (env:En):En:=src.map fun o=>match o with | some j=>ahe ((env[j]?).getD none) | none=>none
def isIo:Option Sl->Bool
 | some (.io _)=>true
 | _=>false
def idxE (i:Nat):List (Option Nat)->Nat->Option Nat
 | [],_=>none
 | o :: r,k=>if o=some i then some k else idxE i r (k+1)
def afz (src:List (Option Nat)) (e:En) (i:Nat) (s:Option Sl):Option Sl :=
 match s with
 | some (.own A)=>(match idxE i src 0 with | some j=>(match e[j]? with | some (some (.io A'))=>some (.own A') | _=>none) | none=>some (.own A))
 | some (.io A)=>(match idxE i src 0 with | some j=>(match e[j]? with | some (some (.io A'))=>some (.io A') | _=>none) | none=>some (.io A))
 | s=>s
def aer (src:List (Option Nat)) (e:En):Nat->En->En
 | _,[]=>[]
 | k,s :: r=>afz src e k s :: aer src e (k+1) r
def ahf (src:List (Option Nat)) (e1 e:En):En:=aer src e 0 e1
theorem ae0 (src:List (Option Nat)) (e:En):∀ (k:Nat) (l:En) (i:Nat),(aer src e k l)[i]?=(l[i]?).map (afz src e (k+i))
 | _,[],i=>by simp [aer]
 | k,s :: r,0=>by simp [aer]
 | k,s :: r,i+1=>by
  have:=ae0 src e (k+1) r i
  simp only [aer,List.getElem?_cons_succ,this]
  rw [show k+1+i=k+(i+1) by omega]
theorem aef {i:Nat}:∀ {src:List (Option Nat)} {k j:Nat},idxE i src k=some j->k<=j/\src[j - k]?=some (some i)
 | [],_,_,h=>by cases h
 | o :: r,k,j,h=>by
  unfold idxE at h
  by_cases e:o=some i
  ·rw [aC9 e] at h;cases h
   exact ⟨az0 _,by simp [e]⟩
  ·rw [aD0 e] at h
   obtain ⟨b,a⟩:=aef h
   refine ⟨by omega,?_⟩
   rw [show j - k=(j - (k+1))+1 by omega]
   simpa using a
theorem aiy {i:Nat}:∀ {src:List (Option Nat)} {k:Nat},idxE i src k=none->∀ j:Nat,src[j]? ≠ some (some i)
 | [],_,_,j=>by simp
 | o :: r,k,h,j=>by
  unfold idxE at h
  by_cases e:o=some i
  ·rw [aC9 e] at h;cases h
  ·rw [aD0 e] at h
   cases j with
   | zero=>simpa using e
   | succ j=>simpa using aiy h j
theorem ala:∀ (src:List (Option Nat)),(src.filterMap id).Nodup->∀ j a i:Nat,src[j]?=some (some i)->src[a]?=some (some i)->j=a
 | [],_,j,_,_,h,_=>by simp at h
 | none :: r,h,j,a,i,h1,h2=>by
  cases j with
  | zero=>simp at h1
  | succ j =>
   cases a with
   | zero=>simp at h2
   | succ a=>rw [ala r (by simpa using h) j a i (by simpa using h1) (by simpa using h2)]
 | some x :: r,h,j,a,i,h1,h2=>by
  have h':=aF7.mp (show (x :: r.filterMap id).Nodup by simpa using h)
  have c:∀ k,r[k]?=some (some x)->False:=fun k d=>h'.1 (List.mem_filterMap.mpr ⟨some x,ay6 d,rfl⟩)
  cases j with
  | zero =>
   have b:x=i:=by simpa using h1
   subst b
   cases a with
   | zero=>rfl
   | succ a=>exact (c a (by simpa using h2)).elim
  | succ j =>
   cases a with
   | zero =>
    have b:x=i:=by simpa using h2
    subst b
    exact (c j (by simpa using h1)).elim
   | succ a=>rw [ala r h'.2 j a i (by simpa using h1) (by simpa using h2)]
def af0:Option Sl->Bool
 | some (.own _)=>true
 | _=>false
def ioLe:En->En->Prop
 | a :: r,b :: s=>(isIo a=isIo b/\af0 b=false)/\ioLe r s
 | [],[]=>True
 | _,_=>False
theorem alb {x:Option Sl} (h:isIo x=true):∃ A,x=some (.io A):=by
 cases x with
 | none=>simp [isIo] at h
 | some y =>
  cases y with
  | io A=>exact ⟨A,rfl⟩
  | _=>simp [isIo] at h
theorem ioLe.get:∀ {a b:En} {j:Nat} {x:Option Sl},ioLe a b->a[j]?=some x->isIo x=true->∃ A,b[j]?=some (some (.io A))
 | [],_,_,_,_,e,_=>by simp at e
 | x :: r,[],_,_,h,_,_=>h.elim
 | x :: r,y :: s,0,z,h,e,p=>by
  simp at e;subst e
  have:=h.1.1
  rw [p] at this
  obtain ⟨A,q⟩:=alb this.symm
  exact ⟨A,by simp [q]⟩
 | x :: r,y :: s,j+1,z,h,e,p=>by
  obtain ⟨A,q⟩:=ioLe.get (j:=j) h.2 (by simpa using e) p
  exact ⟨A,by simpa using q⟩
theorem ioLe.got:∀ {a b:En} {j:Nat} {x:Option Sl},ioLe a b->b[j]?=some x->(isIo x=true->∃ A,a[j]?=some (some (.io A)))/\af0 x=false
 | [],[],_,_,_,e=>by simp at e
 | [],_ :: _,_,_,h,e=>h.elim
 | x :: r,[],_,_,h,_=>h.elim
 | x :: r,y :: s,0,z,h,e=>by
  simp at e;subst e
  refine ⟨fun p=>?_,h.1.2⟩
  have:=h.1.1
  rw [p] at this
  obtain ⟨A,q⟩:=alb this
  exact ⟨A,by simp [q]⟩
 | x :: r,y :: s,j+1,z,h,e=>by
  obtain ⟨p,q⟩:=ioLe.got (j:=j) (x:=z) h.2 (by simpa using e)
  exact ⟨fun t=>by obtain ⟨A,u⟩:=p t;exact ⟨A,by simpa using u⟩,q⟩
section
variable {B:Bs} {G H:Hp} {σ:St} {env:En} {F:Nat->Addr->Prop}
theorem VI.aside (I:VI B G H σ env F) {p:Addr} {o:HO} (d:∀ xs,o ≠ .tup xs) (c:G p=none) (hf:∀ j,¬ F j p) (hb:B.H p=none):VI B G (upd H p o) σ env F where
 gh:=fun a u e=>by rw [aag (aap e c)];exact I.gh a u e
 g0:=I.g0
 gn:=I.gn
 rs:=fun a u e=>by rw [aag (aap e (I.b_r hb))];exact I.rs a u e
 rb:=I.rb
 bh:=fun a u e=>by rw [aag (aap e hb)];exact I.bh a u e
 fg:=I.fg
 fr:=I.fr
 fd:=I.fd
 fo:=fun j a z=>by rw [aag (fun e:a=p=>hf j (e ▸ z))];exact I.fo j a z
 sl:=fun i s e=>by
  obtain ⟨v,b,q⟩:=I.sl i s e
  exact ⟨v,b,q.mono (Same.refl _) fun a u z y=>by rw [aag (fun e:a=p=>hf i (e ▸ z))];exact y⟩
 ln:=I.ln
 ft:=fun a f e=>by
  by_cases z:a=p
  ·subst z;rw [aai] at e;exact absurd (aA9 e) (d _)
  ·rw [aag z] at e;exact I.ft a f e
def LcV (K:Frag) (src:List (Option Nat)) (g:TG) (tif:TT) (te:TE) (ds:List PyData) (e1:En) (R:List PyData->En->Prop):Prop:=∃ J:Nat->List PyData->En->Prop,J 0 [] (aan src e1)/\(∀ i ys e,J i ys e->ioLe (aan src e1) e) /\
 (∀ i d ys e,ds[i]?=some d->J i ys e->∀ B':Bs,B'.K=K->EvG B' g (.st d) e fun e2=>EvT B' tif e2 fun b e3=>if b=true then Ev B' te e3 fun y e4=>ys.length<=999999/\J (i+1) (ys ++ [y]) e4 else J (i+1) ys e3)/\∀ ys e,J ds.length ys e->R ys (ahf src e1 e)
theorem afn {src:List (Option Nat)} {j:Nat} {s:Sl} (h:(aan src env)[j]?=some (some s)):∃ i t,src[j]?=some (some i)/\env[i]?=some (some t)/\ahe (some t)=some s:=by
 unfold aan at h
 rw [ay9] at h
 cases e:src[j]? with
 | none=>rw [e] at h;cases h
 | some o =>
  rw [e] at h
  cases o with
  | none=>cases h
  | some i =>
   simp only [aF5,Option.some.injEq] at h
   cases e2:env[i]? with
   | none=>rw [e2] at h;cases h
   | some o2 =>
    rw [e2] at h
    cases o2 with
    | none=>cases h
    | some t=>exact ⟨i,t,rfl,e2,h⟩
theorem alc {src:List (Option Nat)} {i j:Nat} {v:V} (h:src[j]?=some (some i)) (a : σ[i]?=some (some v)):(pick src σ)[j]?=some (some v):=by
 unfold pick
 rw [ay9,h]
 simp [a]
theorem apj {src:List (Option Nat)} {wi:TI} {g:TG} {b3:TT} {te:TE} {QO:Sl->En->Prop} (nd:(src.filterMap id).Nodup) (h:EvI B wi env fun ds X=>LcV B.K src g b3 te ds X fun ys W=>QO (.own (OL ys)) W):EvO B (tLC src wi g b3 te) env QO:=fun σ G H F Q I k=>by
 refine h σ G H F _ I fun J G1 H1 F1 ds X I1 g1 it ⟨Jv,j0,a7,js,jd⟩ p S=>?_
 let M:Nat->Bool:=fun i=>match X[i]? with | some (some (.own _))=>true | some (some (.io _))=>true | _=>false
 let inv:Nat->Option Nat:=fun i=>if M i=true then idxE i src 0 else none
 have D:∀ i j,inv i=some j->src[j]?=some (some i)/\M i=true:=fun i j hi=>by
  by_cases hm:M i=true
  ·have f:idxE i src 0=some j:=by simpa [inv,hm] using hi
   have:=(aef f).2
   exact ⟨by simpa using this,hm⟩
  ·simp [inv,hm] at hi
 have a0:∀ i j,src[j]?=some (some i)->M i=true->inv i=some j:=fun i j Y hm=>by
  have e0:inv i=idxE i src 0:=by simp [inv,hm]
  cases e:idxE i src 0 with
  | none=>exact absurd Y (aiy e j)
  | some j' =>
   have:=(aef e).2
   rw [e0,e,ala src nd j j' i Y (by simpa using this)]
 have inj:∀ i c j,inv i=some j->inv c=some j->i=c:=fun i c j Z C=>by
  have a:=(D i j Z).1
  rw [(D c j C).1] at a
  simpa using a.symm
 have b5:∀ i,M i=true->∃ A,X[i]?=some (some (.own A))\/X[i]?=some (some (.io A)):=fun i hm=>by
  cases e:X[i]? with
  | none=>simp [M,e] at hm
  | some o =>
   cases o with
   | none=>simp [M,e] at hm
   | some s =>
    cases s with
    | own A=>exact ⟨A,.inl rfl⟩
    | io A=>exact ⟨A,.inr rfl⟩
    | st d=>simp [M,e] at hm
    | scr ns=>simp [M,e] at hm
 have b1:∀ i ys e,Jv i ys e->∀ c j,inv c=some j->∃ A,e[j]?=some (some (.io A)):=fun i ys e hj c j hi=>by
  obtain ⟨Y,hm⟩:=D c j hi
  obtain ⟨A,P⟩:=b5 c hm
  refine (a7 i ys e hj).get (x:=some (.io A)) ?_ rfl
  unfold aan
  rw [ay9,Y]
  rcases P with P | P <;> simp [P,ahe]
 -- between two turns
 let Wv:Nat->List V->St->Hp->Prop:=fun i ys σI H=>∃ G2 F2 e env2 yd,VI B G2 H σ env2 F2/\Same G1 G2/\H p=some (.lst ys)/\Rps G2 ys yd/\G2 p=none/\(∀ j,¬ F2 j p)/\Jv i yd e/\σI.length=e.length/\env2.length=X.length /\
  (∀ j s,e[j]?=some (some s)->∃ v,σI[j]?=some (some v)/\((∃ d,s=.st d/\Rp G2 v d/\∀ i,inv i ≠ some j)\/(∃ ns a,s=.scr ns/\v=.ref a/\SqL B.K G2 a (ns.map V.int)/\∀ i,inv i ≠ some j) ∨
   ∃ i A,inv i=some j/\s=.io A/\σ[i]?=some (some v)/\(env2[i]?=some (some (.own A))\/env2[i]?=some (some (.io A))))) /\
  (∀ i,inv i=none->env2[i]?=X[i]?)/\(∀ i j,inv i=some j->∃ A0 A,e[j]?=some (some (.io A))/\((X[i]?=some (some (.own A0))/\env2[i]?=some (some (.own A)))\/(X[i]?=some (some (.io A0))/\env2[i]?=some (some (.io A)))))
 have hb:B.H p=none:=I1.no_b S
 refine ⟨fun i m ys σI H=>m=ds.length - i/\i<=ds.length/\Wv i ys σI H,⟨ds.length,by simp,aD4 _,?_⟩,?_⟩
 ·refine ⟨G1,F1,aan src X,X,[],I1.aside (fun _ z=>nomatch z) (I1.no_g S) (I1.no_f S) hb,Same.refl _,aai,.nil,I1.no_g S,I1.no_f S,j0,by simp [pick,aan],rfl,fun j s e=>?_,fun _ _=>rfl,fun i j hi=>?_⟩
  ·obtain ⟨i,t,Y,ht,hp⟩:=afn e
   obtain ⟨v,hv,q⟩:=I1.sl i t ht
   refine ⟨v,alc Y hv,?_⟩
   cases t with
   | st d =>
    cases hp
    refine .inl ⟨d,rfl,q.1,fun c f=>?_⟩
    have a:=(D c j f).1
    rw [Y] at a
    have:i=c:=by simpa using a
    subst this
    have:=(D i j f).2
    simp [M,ht] at this
   | scr ns =>
    cases hp
    obtain ⟨⟨a,ea,sq⟩,_⟩:=q
    refine .inr (.inl ⟨ns,a,rfl,ea,sq,fun c f=>?_⟩)
    have a:=(D c j f).1
    rw [Y] at a
    have:i=c:=by simpa using a
    subst this
    have:=(D i j f).2
    simp [M,ht] at this
   | own A=>cases hp;exact .inr (.inr ⟨i,A,a0 i j Y (by simp [M,ht]),rfl,hv,.inl ht⟩)
   | io A=>cases hp;exact .inr (.inr ⟨i,A,a0 i j Y (by simp [M,ht]),rfl,hv,.inr ht⟩)
  ·obtain ⟨Y,hm⟩:=D i j hi
   obtain ⟨A,P⟩:=b5 i hm
   refine ⟨A,A,?_,?_⟩
   ·unfold aan
    rw [ay9,Y]
    rcases P with P | P <;> simp [P,ahe]
   ·rcases P with P | P
    ·exact .inl ⟨P,P⟩
    ·exact .inr ⟨P,P⟩
 ·rintro i m ys σI H2 ⟨rfl,hi,G2,F2,e,env2,yd,I2,g2,a1,ry,ga,fa,jv,ln,c1,sl,un,mv⟩
  refine ⟨a1,?_⟩
  by_cases hlt:i < ds.length
  ·refine .inr ⟨it.go i G2 H2 g2 I2.gh hlt,Wv (i+1),fun a4 c3 H' hw=>⟨ds.length - (i+1),by omega,rfl,hlt,hw⟩,fun x H3 y=>?_⟩
   obtain ⟨G3,o⟩:=it.yld i G2 H2 x H3 _ g2 I2.gh I2.ft (ay4 hlt) y
   obtain ⟨I3,X3⟩:=I2.out o
   have b0:=o.hh _ _ a1
   have a9:=fa
   have b9:G3 p=none:=by
    cases e':G3 p with
    | none=>rfl
    | some u =>
     rcases o.gn p u e' with q | q
     ·rw [ga] at q;cases q
     ·rw [a1] at q;cases q
   have c2:∀ j s,e[j]?=some (some s)->∃ v,σI[j]?=some (some v)/\((∃ d,s=.st d/\Rp G3 v d/\∀ i,inv i ≠ some j)\/(∃ ns a,s=.scr ns/\v=.ref a/\SqL B.K G3 a (ns.map V.int)/\∀ i,inv i ≠ some j) ∨
     ∃ i A,inv i=some j/\s=.io A/\σ[i]?=some (some v)/\(env2[i]?=some (some (.own A))\/env2[i]?=some (some (.io A)))):=fun j s es=>by
    obtain ⟨v,hv,q⟩:=sl j s es
    refine ⟨v,hv,?_⟩
    rcases q with ⟨d,a8,r,n⟩ | ⟨ns,a,a8,b6,r,n⟩ | q
    ·exact .inl ⟨d,a8,r.same o.gg,n⟩
    ·exact .inr (.inl ⟨ns,a,a8,b6,o.gg.seq r,n⟩)
    ·exact .inr (.inr q)
   have E3:=I3.enter (inv:=inv) (σI:=σI) (envI:=e) inj ln c2
   -- back from the turn
   have fin:∀ (R:St) (G4 H4:Hp) (F4:Nat->Addr->Prop) (e4:En) (a3:List PyData) (a4:List V) (o4:HO),VI ⟨B.K,G3,H3,adq H3 F2 inv,σI,fun j a=>∃ i,inv i=some j/\F2 i a⟩ G4 H4 R e4 F4->Jv (i+1) a3 e4->Rps G4 a4 a3 ->
     Wv (i+1) a4 R (upd H4 p (.lst a4))/\H4 p=some (.lst ys):=by
    intro R G4 H4 F4 e4 a3 a4 o4 I4 j4 r4
    have a2:=b1 (i+1) a3 e4 j4
    have b8:H4 p=some (.lst ys):=I4.rs p _ (by show adq H3 F2 inv p=_;rw [ak9 (fun c _ _=>a9 c)];exact b0)
    have b4:G4 p=none:=by
     cases e':G4 p with
     | none=>rfl
     | some u =>
      rcases I4.gn p u e' with q | q
      ·change G3 p=_ at q;rw [b9] at q;cases q
      ·change H3 p=_ at q;rw [b0] at q;cases q
    -- the slots of the outer frame
    let E:En:=(List.range env2.length).map fun c=>match inv c with
     | some j=>(match env2[c]?,e4[j]? with | some (some (.own _)),some (some (.io A))=>some (.own A) | some (some (.io _)),some (some (.io A))=>some (.io A) | _,_=>none)
     | none=>(env2[c]?).getD none
    have N:∀ c,c < env2.length->E[c]?=some (match inv c with
     | some j=>(match env2[c]?,e4[j]? with | some (some (.own _)),some (some (.io A))=>some (.own A) | some (some (.io _)),some (some (.io A))=>some (.io A) | _,_=>none)
     | none=>(env2[c]?).getD none):=fun c hl=>by
     simp only [E,ay9]
     rw [ay4 (by simpa using hl)]
     simp
    have L:=I3.leave (inv:=inv) (env2:=E) inj rfl rfl (fun a u q n=>by show adq H3 F2 inv a=_;rw [ak9 n];exact q) (fun c j f a z=>by obtain ⟨U,Z,C⟩:=z;rw [inj c U j f Z];exact C)
     (fun c j f=>by
      obtain ⟨A0,A,Z,C⟩:=mv c j f
      obtain ⟨v,hv,q⟩:=sl j _ Z
      rcases q with ⟨d,q,_⟩ | ⟨ns,a,q,_⟩ | ⟨U,c0,q1,q2,q3,_⟩
      ·cases q
      ·cases q
      ·rw [inj c U j f q1]
       show σI[j]?=_
       rw [hv,q3]) I4 a2 (by simp [E]) (fun c s es=>by
      have hl:c < env2.length:=by
       have:=(ay5.mp es).1
       simpa [E] using this
      rw [N c hl] at es
      cases f:inv c with
      | none =>
       refine .inl ⟨rfl,?_⟩
       rw [f] at es
       simp only [Option.some.injEq] at es
       cases q:env2[c]? with
       | none=>rw [q] at es;cases es
       | some u=>rw [q] at es;simp at es;rw [es]
      | some j =>
       rw [f] at es
       obtain ⟨A',T⟩:=a2 c j f
       obtain ⟨A0,A,Z,C⟩:=mv c j f
       simp only [T] at es
       rcases C with ⟨_,C⟩ | ⟨_,C⟩
       ·rw [C] at es
        simp only [Option.some.injEq] at es
        exact .inr ⟨j,A,A',rfl,T,.inl ⟨C,es.symm⟩⟩
       ·rw [C] at es
        simp only [Option.some.injEq] at es
        exact .inr ⟨j,A,A',rfl,T,.inr ⟨C,es.symm⟩⟩)
    have b2:∀ j,¬ (match inv j with | some j=>F4 j p | none=>F2 j p):=fun j z=>by
     cases hj:inv j with
     | none=>rw [hj] at z;exact a9 j z
     | some l =>
      rw [hj] at z
      obtain ⟨A',T⟩:=a2 j l hj
      obtain ⟨v,_,q⟩:=I4.sl l _ T
      rcases q.2.1 p z with ⟨U,_,q⟩ | q
      ·exact a9 U q
      ·change H3 p=_ at q;rw [b0] at q;cases q
    refine ⟨⟨G4,_,e4,E,a3,L.aside (fun _ z=>nomatch z) b4 b2 hb,g2.trans (o.gg.trans I4.g0),aai,r4,b4,b2,j4,I4.ln,by simp [E,c1],fun j s es=>?_,fun c f=>?_,fun c j f=>?_⟩,b8⟩
    ·obtain ⟨v,hv,q⟩:=I4.sl j s es
     refine ⟨v,hv,?_⟩
     have a5:(∀ A,s ≠ .io A)->∀ c,inv c ≠ some j:=fun hn c f=>by
      obtain ⟨A,P⟩:=a2 c j f
      rw [es] at P
      exact hn A (by simpa using P)
     cases s with
     | st d=>exact .inl ⟨d,rfl,q.1,a5 (by intro A z;cases z)⟩
     | scr ns =>
      obtain ⟨⟨a,ea,sq⟩,_⟩:=q
      exact .inr (.inl ⟨ns,a,rfl,ea,sq,a5 (by intro A z;cases z)⟩)
     | own A =>
      have:=((a7 _ _ _ j4).got es).2
      simp [af0] at this
     | io A =>
      obtain ⟨A0,h0⟩:=((a7 _ _ _ j4).got es).1 rfl
      obtain ⟨c,t,Y,ht,hp⟩:=afn h0
      have hm:M c=true:=by
       cases t with
       | own A=>simp [M,ht]
       | io A=>simp [M,ht]
       | st d=>cases hp
       | scr ns=>cases hp
      have f:=a0 c j Y hm
      obtain ⟨B0,A1,Z,C⟩:=mv c j f
      have hl:c < env2.length:=by
       rcases C with ⟨_,C⟩ | ⟨_,C⟩ <;> exact (ay5.mp C).1
      refine .inr (.inr ⟨c,A,f,rfl,?_,?_⟩)
      ·have hS : σI[j]?=some (some v):=q.2.2
       obtain ⟨v',b7,q'⟩:=sl j _ Z
       rcases q' with ⟨d,q',_⟩ | ⟨ns,a,q',_⟩ | ⟨U,c0,q1,q2,q3,_⟩
       ·cases q'
       ·cases q'
       ·rw [inj c U j f q1,q3,← b7,hS]
      ·rw [N c hl,f]
       simp only [es]
       rcases C with ⟨_,C⟩ | ⟨_,C⟩
       ·rw [C];exact .inl rfl
       ·rw [C];exact .inr rfl
    ·by_cases hl:c < env2.length
     ·rw [N c hl,f]
      simp only
      rw [← un c f]
      rw [ay4 hl];rfl
     ·rw [aD1.mpr (by simp [E];omega),← un c f,aD1.mpr (by omega)]
    ·obtain ⟨A',T⟩:=a2 c j f
     obtain ⟨A0,A,Z,C⟩:=mv c j f
     have hl:c < env2.length:=by
      rcases C with ⟨_,C⟩ | ⟨_,C⟩ <;> exact (ay5.mp C).1
     refine ⟨A0,A',T,?_⟩
     rw [N c hl,f]
     simp only [T]
     rcases C with ⟨h3,C⟩ | ⟨h3,C⟩
     ·rw [C];exact .inl ⟨h3,rfl⟩
     ·rw [C];exact .inr ⟨h3,rfl⟩
   have hd:ds[i]?=some ds[i]:=ay4 hlt
   refine js i _ yd e hd jv ⟨B.K,G3,H3,adq H3 F2 inv,σI,fun j a=>∃ i,inv i=some j/\F2 i a⟩ rfl σI G3 H3 _ x _ _ E3 (ad5 o.ok.1) fun R G4 H4 F4 e4 I4 g4 q4=>?_
   refine q4 R G4 H4 F4 _ I4 fun b G5 H5 F5 e5 I5 g5 q5=>?_
   cases b with
   | false =>
    rw [aD0 az3] at q5 ⊢
    obtain ⟨w,ac⟩:=fin R G5 H5 F5 e5 yd ys (.lst ys) I5 q5 (ry.same (o.gg.trans (g4.trans g5)))
    have:upd H5 p (.lst ys)=H5:=by
     funext b
     unfold upd
     split
     ·rename_i hb';rw [hb'];exact ac.symm
     ·rfl
    rw [this] at w
    exact w
   | true =>
    rw [aC9 rfl] at q5 ⊢
    refine q5 R G5 H5 F5 _ I5 fun y G6 H6 F6 d6 e6 I6 g6 r6 q6=>?_
    obtain ⟨w,ac⟩:=fin R G6 H6 F6 e6 (yd ++ [d6]) (ys ++ [y]) (.lst ys) I6 q6.2 ((ry.same (o.gg.trans (g4.trans (g5.trans g6)))).append (.cons r6 .nil))
    exact ⟨ac,by rw [ry.length];exact big (by have:=q6.1;omega),w⟩
  ·have ei:i=ds.length:=by omega
   subst ei
   refine .inl ⟨it.stop _ G2 H2 g2 I2.gh rfl,?_⟩
   have q:=jd yd e jv
   have eb:ahf src X e=env2:=by
    apply aD6
    intro c
    unfold ahf
    rw [ae0,Nat.zero_add]
    have O:M c=false->env2[c]?=X[c]?:=fun hm=>un c (by simp [inv,hm])
    cases W:X[c]? with
    | none =>
     rw [O (by simp [M,W]),W];rfl
    | some o =>
     cases o with
     | none=>rw [O (by simp [M,W]),W];rfl
     | some t =>
      have a6:∀ A,(t=.own A\/t=.io A)->M c=true:=fun A h=>by rcases h with rfl | rfl <;> simp [M,W]
      cases t with
      | st d=>rw [O (by simp [M,W]),W];rfl
      | scr ns=>rw [O (by simp [M,W]),W];rfl
      | own A =>
       have hm:=a6 A (.inl rfl)
       simp only [aF5,afz]
       cases e3:idxE c src 0 with
       | none =>
        have:inv c=none:=by simp [inv,e3]
        rw [un c this,W]
       | some j =>
        have f:inv c=some j:=by simp [inv,hm,e3]
        obtain ⟨A0,A1,Z,C⟩:=mv c j f
        simp only [Z]
        rcases C with ⟨h3,C⟩ | ⟨h3,C⟩
        ·rw [C]
        ·rw [W] at h3;cases h3
      | io A =>
       have hm:=a6 A (.inr rfl)
       simp only [aF5,afz]
       cases e3:idxE c src 0 with
       | none =>
        have:inv c=none:=by simp [inv,e3]
        rw [un c this,W]
       | some j =>
        have f:inv c=some j:=by simp [inv,hm,e3]
        obtain ⟨A0,A1,Z,C⟩:=mv c j f
        simp only [Z]
        rcases C with ⟨h3,C⟩ | ⟨h3,C⟩
        ·rw [W] at h3;cases h3
        ·rw [C]
   rw [eb] at q
   refine k (.ref p) G2 H2 F2 (· = p) (.own (OL yd)) env2 I2 (g1.trans g2) ⟨⟨p,ys,rfl,a1,ry,fun b=>Iff.rfl⟩,fun a z=>by rw [z];exact hb,fun a z=>by rw [z];exact ga,fun a z=>by rw [z];exact ⟨_,a1⟩,fun j a z=>by rw [z];exact fa j⟩ q
end
def noIo (e:En):Bool:=e.all fun s => !isIo s
theorem arq {e:En} {j:Nat} {x:Option Sl} (h:noIo e=true) (a:e[j]?=some x):isIo x=false:=by
 have:=aC8.mp h x (ay6 a)
 simpa using this
theorem af1 {src:List (Option Nat)} {b e:En} (h:noIo (aan src b)=true):ahf src b e=b:=by
 apply aD6
 intro i
 unfold ahf
 rw [ae0,Nat.zero_add]
 cases e2:b[i]? with
 | none=>rfl
 | some o =>
  have a:∀ A,(o=some (.own A)\/o=some (.io A))->idxE i src 0=none:=fun A f=>by
   cases e3:idxE i src 0 with
   | none=>rfl
   | some j =>
    have c:=(aef e3).2
    have:(aan src b)[j]?=some (some (.io A)):=by
     unfold aan
     rw [ay9,show src[j]?=some (some i) by simpa using c]
     rcases f with rfl | rfl <;> simp [e2,ahe]
    have:=arq h this
    simp [isIo] at this
  cases o with
  | none=>rfl
  | some t =>
   cases t with
   | st d=>rfl
   | scr ns=>rfl
   | own A=>simp only [aF5,afz,a A (.inl rfl)]
   | io A=>simp only [aF5,afz,a A (.inr rfl)]
def stO:Option PyData->Option Sl:=Option.map Sl.st
theorem isIo_stO {o:Option PyData}:isIo (stO o)=false:=by cases o <;> rfl
theorem acq {o:Option PyData}:af0 (stO o)=false:=by cases o <;> rfl
theorem ade {src:List (Option Nat)} {a:En}:∀ x∈aan src a,af0 x=false:=by
 intro x b
 unfold aan at b
 obtain ⟨o,_,rfl⟩:=aA0.mp b
 cases o with
 | none=>rfl
 | some j =>
  dsimp only
  cases (a[j]?).getD none with
  | none=>rfl
  | some t=>cases t <;> rfl
theorem adn:∀ {e:En},(∀ x∈e,af0 x=false)->ioLe e e
 | [],_=>True.intro
 | x :: r,h=>⟨⟨rfl,h x aA1⟩,adn fun y a=>h y (az8 _ a)⟩
section
variable {B:Bs} {env:En} {g:TG} {tif:TT} {te:TE} {K:Frag} {src:List (Option Nat)} {ds:List PyData} {e1:En} {R:List PyData->En->Prop}
theorem ald (f:PyData->PyData) (p:PyData->Bool) (q:noIo (aan src e1)=true) (D:ds.length<=999999)
  (h:∀ d∈ds,∀ a:Bs,a.K=K->EvT a tif (some (.st d) :: aan src e1) fun b g=>b=p d/\g=some (.st d) :: aan src e1/\(b=true->Ev a te (some (.st d) :: aan src e1) fun y n=>y=f d/\n=some (.st d) :: aan src e1))
  (z:R ((ds.filter p).map f) e1):LcV K (none :: src) (aay 0) tif te ds e1 R:=by
 have c:noIo (aan (none :: src) e1)=true:=by
  show ((none :: aan src e1).all fun s => !isIo s)=true
  rw [List.all_cons]
  exact (aE5 _ _).mpr ⟨rfl,q⟩
 refine ⟨fun i ys e=>ys=((ds.take i).filter p).map f/\∃ o,e=stO o :: aan src e1,⟨by simp,none,rfl⟩,?_,?_,?_⟩
 ·rintro i ys e ⟨_,o,rfl⟩
  exact ⟨⟨isIo_stO.symm,acq⟩,adn ade⟩
 ·rintro i d ys e hd ⟨rfl,o,rfl⟩ a A
  have hi:i < ds.length:=(ay5.mp hd).1
  have r:ds.take (i+1)=ds.take i ++ [d]:=by rw [aE8,hd];rfl
  refine aar ?_
  show EvT a tif (some (.st d) :: aan src e1) _
  intro σ G H F Q I k
  refine h d (ay6 hd) a A σ G H F Q I fun b G' H' l g j g' ⟨hb,u,w⟩=>k b G' H' l g j g' ?_
  subst u
  by_cases hp:b=true
  ·rw [aC9 hp]
   intro σ G H F Q I k
   refine w hp σ G H F Q I fun v G' H' l d' n j g' x ⟨B,m⟩=>k v G' H' l d' n j g' x ?_
   subst B m
   refine ⟨?_,?_,some d,rfl⟩
   ·have:=List.length_filter_le p (ds.take i)
    simp only [ay7]
    have C:(ds.take i).length<=i:=by simp;omega
    omega
   ·rw [r,List.filter_append,aC1]
    have:p d=true:=by rw [← hb];exact hp
    simp [this]
  ·rw [aD0 hp]
   refine ⟨?_,some d,rfl⟩
   rw [r,List.filter_append,aC1]
   have:p d=false:=by rw [← hb];simpa using hp
   simp [this]
 ·rintro ys e ⟨rfl,o,rfl⟩
  rw [af1 c,aE2]
  exact z
theorem ahg {α:Type} (xs:List α):xs.filter (fun _=>true)=xs:=by simp
theorem ars {u:Frag} {α:Type} {xs:List α} {fa fb : α->PyData} (f : α->PyData) (p : α->Bool) (q:noIo (aan src e1)=true) (J:xs.length<=999999)
  (h:∀ x∈xs,∀ a:Bs,a.K=K->EvT a tif (some (.st (fa x)) :: some (.st (fb x)) :: aan src e1) fun b g=>b=p x/\g=some (.st (fa x)) :: some (.st (fb x)) :: aan src e1/\(b=true->Ev a te (some (.st (fa x)) :: some (.st (fb x)) :: aan src e1) fun y n=>y=f x/\n=some (.st (fa x)) :: some (.st (fb x)) :: aan src e1))
  (B:R ((xs.filter p).map f) e1):LcV K (none :: none :: src) (gTup u 2 (adb (aay 0) (adb (aay 1) gNil))) tif te (xs.map fun x => .tuple [fa x,fb x]) e1 R:=by
 have c:noIo (aan (none :: none :: src) e1)=true:=by
  show ((none :: none :: aan src e1).all fun s => !isIo s)=true
  rw [List.all_cons,List.all_cons]
  exact (aE5 _ _).mpr ⟨rfl,(aE5 _ _).mpr ⟨rfl,q⟩⟩
 refine ⟨fun i ys e=>ys=((xs.take i).filter p).map f/\∃ o o',e=stO o :: stO o' :: aan src e1,⟨by simp,none,none,rfl⟩,?_,?_,?_⟩
 ·rintro i ys e ⟨_,o,o',rfl⟩
  exact ⟨⟨isIo_stO.symm,acq⟩,⟨isIo_stO.symm,acq⟩,adn ade⟩
 ·rintro i d ys e hd ⟨rfl,o,o',rfl⟩ a C
  rw [ay9] at hd
  cases hx:xs[i]? with
  | none=>rw [hx] at hd;cases hd
  | some x =>
   rw [hx] at hd
   cases hd
   have hi:i < xs.length:=(ay5.mp hx).1
   have r:xs.take (i+1)=xs.take i ++ [x]:=by rw [aE8,hx];rfl
   refine am3 rfl (adm (aar (adm (aar (agm ?_)))))
   show EvT a tif (some (.st (fa x)) :: some (.st (fb x)) :: aan src e1) _
   intro σ G H F Q I k
   refine h x (ay6 hx) a C σ G H F Q I fun b G' H' l g j g' ⟨hb,w,z⟩=>k b G' H' l g j g' ?_
   subst w
   by_cases hp:b=true
   ·rw [aC9 hp]
    intro σ G H F Q I k
    refine z hp σ G H F Q I fun v G' H' l d' n j g' A ⟨D,m⟩=>k v G' H' l d' n j g' A ?_
    subst D m
    refine ⟨?_,?_,some _,some _,rfl⟩
    ·have:=List.length_filter_le p (xs.take i)
     simp only [ay7]
     have E:(xs.take i).length<=i:=by simp;omega
     omega
    ·rw [r,List.filter_append,aC1]
     have:p x=true:=by rw [← hb];exact hp
     simp [this]
   ·rw [aD0 hp]
    refine ⟨?_,some _,some _,rfl⟩
    rw [r,List.filter_append,aC1]
    have:p x=false:=by rw [← hb];simpa using hp
    simp [this]
 ·rintro ys e ⟨rfl,o,o',rfl⟩
  rw [af1 c]
  simpa using B
end
section
variable {R:Sl->Prop}
theorem aun {g:Int->Int->Int} {i j:Int} (h:R (.st (.int (g i j)))):Op2 (rI0 fun i j => .int (g i j)) (.int i) (.int j) R:=fun G H d c Q gh b a k=>by
 cases b;cases a
 exact ⟨i,j,rfl,rfl,k _ _ _ _ _ (Out.refl gh (.int _)) h⟩
theorem auo {g:Int->Int->Bool} {i j:Int} (h:R (.st (.bool (g i j)))):Op2 (rI0 fun i j => .bl (g i j)) (.int i) (.int j) R:=fun G H d c Q gh b a k=>by
 cases b;cases a
 exact ⟨i,j,rfl,rfl,k _ _ _ _ _ (Out.refl gh (.bl _)) h⟩
theorem aw6 {C:Int->Int->Prop} {g:Int->Int->Int} {i j:Int} (c:C i j) (h:R (.st (.int (g i j)))):Op2 (rI C fun i j => .int (g i j)) (.int i) (.int j) R:=fun G H f d Q gh b a k=>by
 cases b;cases a
 exact ⟨i,j,rfl,rfl,c,k _ _ _ _ _ (Out.refl gh (.int _)) h⟩
theorem aw7 {g:Int->Int} {i:Int} (h:R (.st (.int (g i)))):Op1 (rU fun i => .int (g i)) (.int i) R:=fun G H b Q gh a k=>by
 cases a
 exact ⟨i,rfl,k _ _ _ _ _ (Out.refl gh (.int _)) h⟩
theorem aup {i j:Int} (h:R (.st (.bool (decide (i=j))))):Op2 rEq (.int i) (.int j) R:=fun G H d c Q gh b a k=>by
 cases b;cases a
 exact ao7 (k _ _ _ _ _ (Out.refl gh (.bl _)) h)
theorem auq {x y:PyData} (a:aal x=true) (b:aal y=true) (hd:x.depth<=60) (h:R (.st (.bool (PyData.eqv x y)))):Op2 rEqD x y R:=fun G H g f Q gh d c k =>
 ⟨x,y,(d.rep a).same gh,(c.rep b).same gh,a,b,hd,k _ _ _ _ _ (Out.refl gh (.bl _)) h⟩
theorem acr {x y:PyData} (a:aal x=true) (b:aal y=true) (hd:x.depth<=60) (h:R (.st (.bool (!PyData.eqv x y)))):Op2 rNeD x y R:=fun G H g f Q gh d c k =>
 ⟨x,y,(d.rep a).same gh,(c.rep b).same gh,a,b,hd,k _ _ _ _ _ (Out.refl gh (.bl _)) h⟩
theorem aur {a:Bool} {x:PyData} {es:List PyData} (b:aal x=true) (c:plainDs es=true) (hd:x.depth<=60) (h:R (.st (.bool (if a then !es.any (fun z=>PyData.eqv z x) else es.any (fun z=>PyData.eqv z x))))):Op2 (rInD a) x (.list es) R:=fun G H i g Q gh f d k =>
 ⟨x,es,(f.rep b).same gh,.inl ((d.rep (by simpa [aal] using c)).same gh),b,c,hd,k _ _ _ _ _ (Out.refl gh (.bl _)) h⟩
theorem Rps.at {G:Hp} {vs:List V} {ds:List PyData} {i:Int} {d:PyData} (r:Rps G vs ds) (h:atI ds i=some d):∃ v,atI vs i=some v/\Rp G v d:=by
 unfold atI at h ⊢
 rw [r.length]
 cases e:ixN ds.length i with
 | none=>rw [e] at h;cases h
 | some j =>
  rw [e] at h
  exact r.get h
theorem aus {K:Frag} {ds:List PyData} {i:Int} {d:PyData} (hd:atI ds i=some d) (h:R (.st d)):Op2 (ab7 K) (.list ds) (.int i) R:=fun G H j g Q gh c a k=>by
 cases a
 cases c with
 | lst ha rs =>
  obtain ⟨v,b,f⟩:=rs.at hd
  exact ad3 (gh _ _ ha) b (k _ _ _ _ _ (Out.refl gh f) h)
theorem aut {K:Frag} {ds:List PyData} {i:Int} {d:PyData} (hd:atI ds i=some d) (h:R (.st d)):Op2 (ab7 K) (.tuple ds) (.int i) R:=fun G H j g Q gh c a k=>by
 cases a
 cases c with
 | tup ha rs =>
  obtain ⟨v,b,f⟩:=rs.at hd
  exact akt (gh _ _ ha) b (k _ _ _ _ _ (Out.refl gh f) h)
def isNone:PyData->Bool
 | .none=>true
 | _=>false
theorem am5 {G:Hp} {v:V} {x:PyData} (r:Rp G v x):decide (v=.non)=isNone x:=by cases r <;> rfl
theorem auu {x:PyData} (h:R (.st (.bool (isNone x)))):Op2 rIsN x .none R:=fun G H d c Q gh b a k=>by
 cases a
 refine ⟨rfl,?_⟩
 rw [am5 b]
 exact k _ _ _ _ _ (Out.refl gh (.bl _)) h
theorem art {x:PyData} (h:R (.st (.bool (!isNone x)))):Op2 as8 x .none R:=fun G H d c Q gh b a k=>by
 cases a
 refine ⟨rfl,?_⟩
 rw [am5 b]
 exact k _ _ _ _ _ (Out.refl gh (.bl _)) h
theorem auv {xs ys:List PyData} (b:xs.length+ys.length<=1000000) (h:R (.own (OL (xs ++ ys)))):Op2 rCat (.list xs) (.list ys) R:=fun G H g f Q gh c a k=>by
 cases c with
 | lst ha ra =>
  cases a with
  | lst hb rb =>
   refine awq (gh _ _ ha) (gh _ _ hb) ?_ fun p d=>k _ _ _ _ _ (Out.newL gh d (ra.append rb)) h
   rw [ra.length,rb.length];exact aD9 (big b)
theorem auw {xs:List PyData} {n:Int} (f : -(2 ^ 63)<=n) (g:n < 2 ^ 63) (d:xs.length * n.toNat<=1000000) (h:R (.own (OL (List.replicate n.toNat xs).flatten))):Op2 rRep (.list xs) (.int n) R:=fun G H i j Q gh b a k=>by
 cases a
 cases b with
 | lst ha ra =>
  refine ⟨_,n,_,rfl,rfl,gh _ _ ha,f,g,?_,fun p c=>k _ _ _ _ _ (Out.newL gh c (ra.rep _)) h⟩
  rw [ra.length];exact aD9 (big d)
theorem aru {K:Frag} {xs:List PyData} (h:R (.st (.int xs.length))):OpA (rLen K) [.list xs] R:=fun G H vs Q gh rs k=>by
 cases rs with
 | cons r t =>
  cases t
  cases r with
  | lst ha ra =>
   refine amr (gh _ _ ha) ?_
   rw [ra.length]
   exact k _ _ _ _ _ (Out.refl gh (.int _)) h
theorem arv {i j:Int} (h:R (.st (.int (if j > i then j else i)))):OpA aju [.int i,.int j] R:=fun G H vs Q gh rs k=>by
 obtain rfl:vs=[V.int i,V.int j]:=Rps.ints_inv (ns:=[i,j]) rs
 exact ams (k _ _ _ _ _ (Out.refl gh (.int _)) h)
theorem arw {i j:Int} (h:R (.st (.int (if j < i then j else i)))):OpA ajv [.int i,.int j] R:=fun G H vs Q gh rs k=>by
 obtain rfl:vs=[V.int i,V.int j]:=Rps.ints_inv (ns:=[i,j]) rs
 exact amt (k _ _ _ _ _ (Out.refl gh (.int _)) h)
theorem arx {b:Bool} (h:R (.st (.int (if b then 1 else 0)))):OpA ajw [.bool b] R:=fun G H vs Q gh rs k=>by
 cases rs with
 | cons r t =>
  cases t;cases r
  exact amu (k _ _ _ _ _ (Out.refl gh (.int _)) h)
theorem ale {K:Frag} {ns:List Int} (a:ns ≠ []) (h:∀ m,aez ns m->R (.st (.int m))):OpA (ajy K) [.list (ns.map .int)] R:=fun G H vs Q gh rs k=>by
 cases rs with
 | cons r t =>
  cases t
  cases r with
  | lst ha ra =>
   have:=Rps.ints_inv ra
   subst this
   exact ⟨_,ns,rfl,.inl (SqL.of (gh _ _ ha)),a,fun m hm=>k _ _ _ _ _ (Out.refl gh (.int _)) (h m hm)⟩
end
section
variable {B:Bs} {env:En} {QO:Sl->En->Prop} {Q':PyData->En->Prop} {te tl th:TE} {K:Frag}
def cutD (xs:List PyData) (lo hi:Option Int):List PyData:=(xs.drop (HT.sIx xs.length 0 lo)).take (HT.sIx xs.length xs.length hi - HT.sIx xs.length 0 lo)
def EvOp (B:Bs) (t:TO) (env:En) (Q':Option Int->En->Prop):Prop:=∀ (σ:St) (G H:Hp) (F:Nat->Addr->Prop) (Q:Option Int->Hp->Prop),VI B G H σ env F->(∀ o G' H' F' env',VI B G' H' σ env' F'->Same G G'->Q' o env'->Q o H')->t σ H Q
theorem ary {a:Option Int->En->Prop} (q:a none env):EvOp B amj env a:=fun σ G H F Q I k=>k none G H F env I (Same.refl _) q
theorem arz {a:Option Int->En->Prop} (h:Ev B te env fun d e=>∃ i,d=.int i/\a (some i) e):EvOp B (asz te) env a:=fun σ G H F Q I k =>
 h σ G H F _ I fun v c g b d n o m j f=>by
  obtain ⟨i,l,q⟩:=f
  subst l;cases j
  exact ⟨i,rfl,k _ c g b n o m q⟩
theorem ayd {i:Int} {R:Int->Prop} (h:R i):∃ j,PyData.int i=.int j/\R j:=⟨i,rfl,h⟩
end
def ae1:PyData->Bool
 | .none | .bool _ | .int _ | .str _=>true
 | _=>false
theorem aic {G G':Hp} {v:V} {d:PyData} (r:Rp G v d) (h:ae1 d=true):Rp G' v d:=by
 cases r with
 | non=>exact .non
 | bl b=>exact .bl b
 | int i=>exact .int i
 | str x=>exact .str x
 | _=>simp [ae1] at h
def Has (env:En) (i:Nat) (A:Own):Prop:=env[i]?=some (some (.own A))\/env[i]?=some (some (.io A))
section
variable {B:Bs} {env:En} {QO:Sl->En->Prop} {Q':PyData->En->Prop} {QT:Bool->En->Prop} {QE:En->Prop} {te ta tb tk:TE} {K:Frag} {i:Nat}
theorem VI.has {G H:Hp} {σ:St} {F:Nat->Addr->Prop} {A:Own} (I:VI B G H σ env F) (h:Has env i A):∃ v,σ[i]?=some (some v)/\A.P G H v (F i):=by
 rcases h with h | h
 ·obtain ⟨v,a,q⟩:=I.sl i _ h;exact ⟨v,a,q.1⟩
 ·obtain ⟨v,a,q⟩:=I.sl i _ h;exact ⟨v,a,q.1⟩
theorem VI.moment {G c d H H3:Hp} {σ:St} {F:Nat->Addr->Prop} {v:V} {s:Sl} {Fv:Addr->Prop} (I:VI B G H σ env F) (i:Same G c) (o:Out c H v d H3 s Fv):∃ f,Same G f/\VI B f H3 σ env F:=by
 refine ⟨fun a=>if H a=none then d a else G a,fun a u e=>?_,I.grow (fun a u e=>?_) (fun a u e=>?_) o.hh (fun a u e=>?_) fun a b e=>?_⟩
 ·show (if H a=none then d a else G a)=some u;rw [aD0 (by rw [I.gh a u e];simp)];exact e
 ·rw [aD0 (by rw [I.gh a u e];simp)];exact e
 ·by_cases h:H a=none
  ·rw [aC9 h] at e;exact o.gh a u e
  ·rw [aD0 h] at e;exact o.hh _ _ (I.gh a u e)
 ·by_cases h:H a=none
  ·exact .inr h
  ·rw [aD0 h] at e;exact .inl e
 ·have f1:FT c H:=fun a b e=>i _ _ (I.ft a b e)
  by_cases h:H a=none
  ·rw [aC9 h];exact o.ft f1 a b e
  ·rw [aD0 h]
   obtain ⟨u,g⟩:=an0 h
   have:=o.hh _ _ g
   rw [e] at this
   exact I.ft a b (by rw [g,← this])
theorem aw8 {r:R2} {g:Own} (x:Has env i g) (h:Ev B tb env fun y c=>∃ A dx,Has c i A/\Frz A dx/\Op2 r dx y fun s=>∃ d,s=.st d/\ae1 d=true/\Q' d c):Ev B (tOp r (tVar i) tb) env Q':=fun σ G H F Q I k=>by
 obtain ⟨v,f,_⟩:=I.has x
 refine ⟨v,f,h σ G H F _ I fun u m H2 F2 y c a j l ⟨A,dx,J,D,n⟩=>?_⟩
 obtain ⟨L,b,C⟩:=a.has J
 rw [f] at b;cases b
 refine n (jn m H2 (F2 i)) H2 v u Q (aj0 a.gh) (D _ _ _ _ C (a.fg i) a.gh) (l.same (abb (a.fg i))) fun w M H3 s Fv o ⟨d,es,p,E⟩=>?_
 subst es
 obtain ⟨z,K,q⟩:=a.moment (abb (a.fg i)) o
 exact k w z H3 F2 d c q (j.trans K) (aic o.ok.1 p) E
theorem aw9 {r:List V->Hp->VK->Prop} {A:Own} {dx:PyData} (m:Has env i A) (j:Frz A dx) (h:OpA r [dx] fun s=>∃ d,s=.st d/\ae1 d=true/\Q' d env):Ev B (tCB r (aci (tVar i) tNil)) env Q':=fun σ G H F Q I k=>by
 obtain ⟨v,a,g⟩:=I.has m
 refine ⟨v,a,h (jn G H (F i)) H [v] Q (aj0 I.gh) (.cons (j _ _ _ _ g (I.fg i) I.gh) .nil) fun w p H3 s Fv o ⟨d,es,b,l⟩=>?_⟩
 subst es
 obtain ⟨f,n,c⟩:=I.moment (abb (I.fg i)) o
 exact k w f H3 F d env c n (aic o.ok.1 b) l
theorem x_sc {d:PyData} {R:PyData->Prop} (a:ae1 d=true) (h:R d):∃ d',Sl.st d=.st d'/\ae1 d'=true/\R d':=⟨d,rfl,a,h⟩
theorem axa {g:List PyData} (x:Has env i (OL g)) (h:Ev B tb env fun y c=>∃ ds k d,Has c i (OL ds)/\y=.int k/\atI ds k=some d/\Q' d c):Ev B (tOp (ab7 K) (tVar i) tb) env Q':=fun σ G H F Q I k=>by
 obtain ⟨v,m,_⟩:=I.has x
 refine ⟨v,m,h σ G H F _ I fun u s H2 F2 y c n p r ⟨ds,j,d,C,o,f,q⟩=>?_⟩
 subst o
 cases r
 obtain ⟨D,b,a,vs,z,ha,rs,_⟩:=n.has C
 rw [m] at b;cases b
 subst z
 obtain ⟨w,A,l⟩:=rs.at f
 exact ad3 ha A (k w s H2 F2 d c n p l q)
theorem VI.upd1 {G H:Hp} {σ:St} {F:Nat->Addr->Prop} {s:Sl} {A A':Own} {a:Addr} {o:HO} (I:VI B G H σ env F) (e:env[i]?=some (some s)) (g:s=.own A\/s=.io A) (f : σ[i]?=some (some (.ref a))) (hf:∀ b,F i b ↔ b=a) (d:A'.P G (upd H a o) (.ref a) (· = a)) (h:∀ xs,o ≠ .tup xs:=by intro _ z;cases z) :
  VI B G (upd H a o) σ (env.set i (some (reS s A'))) (putF F i (· = a)):=by
 refine I.change (A:=A') i e f (fun b u hb c=>by rw [aag (fun z=>hb ((hf b).mpr z))];exact c) (fun b u c=>?_) (fun b z=>⟨.inl ((hf b).mpr z),by rw [z];exact ⟨_,aai⟩⟩) d (fun b j e=>?_) ?_
 ·by_cases z:b=a
  ·rw [z];exact ⟨_,aai⟩
  ·rw [aag z];exact ⟨u,c⟩
 ·by_cases z:b=a
  ·subst z;rw [aai] at e;exact absurd (aA9 e) (h _)
  ·rw [aag z] at e;exact I.ft b j e
 ·rcases g with rfl | rfl
  ·exact .inl ⟨rfl,A,rfl⟩
  ·exact .inr ⟨rfl,A,rfl⟩
theorem apk {l:List PyData} (z:Has env i (OL l)) (h:Ev B te env fun y f=>∃ s ds,f[i]?=some (some s)/\(s=.own (OL ds)\/s=.io (OL ds))/\ds.length<=999999/\Q' .none (f.set i (some (reS s (OL (ds ++ [y])))))):Ev B (tBM K "list" adv (tVar i) (aci te tNil)) env Q':=fun σ G H F Q I k=>by
 obtain ⟨v,g,a,vs,A,ha,rs,_⟩:=I.has z
 subst A
 refine ⟨_,g,.inl ⟨rfl,_,SqL.of ha⟩,h σ G H F _ I fun u x H2 F2 y f n r w ⟨s,ds,es,o,J,q⟩=>?_⟩
 have C:Has f i (OL ds):=by rcases o with rfl | rfl;exact .inl es;exact .inr es
 obtain ⟨D,d,E,p,m,j,c,hf⟩:=n.has C
 rw [g] at d;cases d;cases m
 refine aec j (by rw [c.length];exact big (by omega)) ?_
 exact k _ x _ _ _ _ (n.upd1 (A':=OL (ds ++ [y])) es o g hf ⟨a,_,rfl,aai,c.append (.cons w .nil),fun b=>Iff.rfl⟩) r .non q
theorem an2 {a:List PyData} (j:Has env i (OL a)) (h:Ev B te env fun y b=>∃ ds,b[i]?=some (some (.own (OL ds)))/\ds.length<=999999/\Q' .none (b.set i (some (.own (OL (ds ++ [y])))))):Ev B (tBM K "list" adv (tVar i) (aci te tNil)) env Q' :=
 apk j fun σ G H F Q I k=>h σ G H F Q I fun v G' H' m d e l g r ⟨ds,c,f,q⟩=>k v G' H' m d e l g r ⟨_,ds,c,.inl rfl,f,q⟩
theorem ar0 {o:List PyData} (N:Has env i (OL o)) (h:Ev B te env fun y g=>∃ s ds j n d,y=.int j/\g[i]?=some (some s)/\(s=.own (OL ds)\/s=.io (OL ds))/\-(2 ^ 63)<=j/\j < 2 ^ 63/\seqIndex? j ds.length=some n/\ds[n]?=some d/\Q' d (g.set i (some (reS s (OL (ds.eraseIdx n)))))):Ev B (tBM K "list" akf (tVar i) (aci te tNil)) env Q':=fun σ G H F Q I k=>by
 obtain ⟨v,l,a,vs,O,ha,rs,_⟩:=I.has N
 subst O
 refine ⟨_,l,.inl ⟨rfl,_,SqL.of ha⟩,h σ G H F _ I fun u L H2 F2 y g x E J ⟨s,ds,j,n,d,C,es,z,M,A,hn,hd,q⟩=>?_⟩
 subst C
 cases J
 have R:Has g i (OL ds):=by rcases z with rfl | rfl;exact .inl es;exact .inr es
 obtain ⟨S,f,T,D,p,m,c,hf⟩:=x.has R
 rw [l] at f;cases f;cases p
 obtain ⟨w,P,r⟩:=c.get hd
 refine aq5 m M A (by rw [c.length];exact hn) P ?_
 exact k _ L _ _ _ _ (x.upd1 (A':=OL (ds.eraseIdx n)) es z l hf ⟨a,_,rfl,aai,c.erase n,fun b=>Iff.rfl⟩) E r q
theorem ar1 {d:PyData} {o:List PyData} (K:Has env i (OL o)) (h:Ev B tk env fun y g=>∃ s ds k j,y=.int k/\g[i]?=some (some s)/\(s=.own (OL ds)\/s=.io (OL ds))/\ixN ds.length k=some j/\QE (g.set i (some (reS s (OL (ds.set j d)))))):EvG B (gSub (tVar i) tk ann) (.st d) env QE:=fun σ G H F v Fv Q I x k=>by
 obtain ⟨J,_⟩:=x.ok
 obtain ⟨P,l,a,vs,L,ha,rs,_⟩:=I.has K
 subst L
 refine ⟨_,l,h σ G H F _ I fun u E H2 F2 y g w r D ⟨s,ds,n,j,A,es,z,hj,q⟩=>?_⟩
 subst A
 cases D
 have M:Has g i (OL ds):=by rcases z with rfl | rfl;exact .inl es;exact .inr es
 obtain ⟨N,f,O,C,p,m,c,hf⟩:=w.has M
 rw [l] at f;cases f;cases p
 refine amq m (by rw [c.length];exact hj) ?_
 exact k _ E _ _ _ (w.upd1 (A':=OL (ds.set j d)) es z l hf ⟨a,_,rfl,aai,c.set (J.same r) j,fun b=>Iff.rfl⟩) r q
theorem af2 {t:TS} {D':VEnds} {A:Own} {d:PyData} (i:Nat) (e:env[i]?=some (some (.own A))) (f:Frz A d) (h:EvS B t D' (env.set i (some (.st d)))):EvS B t D' env:=fun σ G H F D I r=>by
 obtain ⟨v,a,b,g,J⟩:=I.frz e f
 exact h σ _ H _ D J (r.later g)
end
def tyD:PyData->String
 | .none => "NoneType" | .bool _ => "bool" | .int _ => "int" | .str _ => "str" | .list _ => "list" | .tuple _ => "tuple" | .dict _ => "dict"
def adx (T:String):Prop:=T = "int"\/T = "bool"\/T = "tuple"\/T = "list"\/T = "str"\/T = "dict"
def isiD (T:String) (d:PyData):Bool:=tyD d == T || (T == "int" && tyD d == "bool")
theorem aye {K:Frag} {H:Hp} {v:V} {d:PyData} (r:Rp H v d):TyOf K H v (.type (tyD d)):=by
 cases r with
 | non=>exact .non
 | bl b=>exact .bl b
 | int i=>exact .int i
 | str x=>exact .str x
 | lst h _=>exact .lst h
 | tup h _=>exact .tup h
 | dk h _ _=>exact .dK h
 | dt h _ _=>exact .dT h
theorem ayf {K:Frag} {T:String} (h:adx T) (d:PyData):kitOne K (.type (tyD d)) (.type T)=some (isiD T d):=by
 rcases h with rfl | rfl | rfl | rfl | rfl | rfl
 ·cases d with
  | none=>exact agk
  | bool _=>exact aku
  | int _=>exact al3
  | str _=>exact al5
  | list _=>exact ak2
  | tuple _=>exact ajh
  | dict _=>exact ak4
 ·cases d with
  | none=>exact af6
  | bool _=>exact ai9
  | int _=>exact akw
  | str _=>exact akz
  | list _=>exact aje
  | tuple _=>exact ah8
  | dict _=>exact ajj
 ·cases d with
  | none=>exact afl
  | bool _=>exact ah6
  | int _=>exact ajc
  | str _=>exact ajd
  | list _=>exact ah7
  | tuple _=>exact aha
  | dict _=>exact aib
 ·cases d with
  | none=>exact af7
  | bool _=>exact aja
  | int _=>exact akx
  | str _=>exact ak0
  | list _=>exact ajf
  | tuple _=>exact ah9
  | dict _=>exact ajk
 ·cases d with
  | none=>exact agl
  | bool _=>exact akv
  | int _=>exact al4
  | str _=>exact al6
  | list _=>exact ak3
  | tuple _=>exact aji
  | dict _=>exact ak5
 ·cases d with
  | none=>exact af8
  | bool _=>exact ajb
  | int _=>exact aky
  | str _=>exact ak1
  | list _=>exact ajg
  | tuple _=>exact aia
  | dict _=>exact ajl
section
variable {B:Bs} {env:En} {QO:Sl->En->Prop} {Q':PyData->En->Prop} {QT:Bool->En->Prop} {QE:En->Prop} {te ta tb tk:TE} {K:Frag} {i:Nat}
theorem axb {T:String} (f:adx T) (h:Ev B te env fun d e=>Q' (.bool (isiD T d)) e):Ev B (tCB (rIsi K) (aci te (aci (tC (.ty T)) tNil))) env Q':=fun σ G H F Q I k =>
 h σ G H F _ I fun v c g b d m a l i j=>⟨v,T,_,_,rfl,aye (i.same a.gh),ayf f d,k _ c g b _ m a l (.bl _) j⟩
theorem axc:adx "int":=.inl rfl
theorem aux:adx "bool":=.inr (.inl rfl)
theorem ar2:adx "tuple":=.inr (.inr (.inl rfl))
theorem auy:adx "list":=.inr (.inr (.inr (.inl rfl)))
theorem ar3 {A:Own} {D':VEnds} (e:env[i]?=some (some (.own A))) (q:D'.rt (.own A) (env.set i none)):EvS B (tRet (tVar i)) D' env:=am4 (arh e q)
theorem ayg {n m:Nat} {P:Prop} (h:n<=m) (q:P):n<=m/\P:=⟨h,q⟩
theorem axd {ds:List PyData} {a:En} {R:List PyData->Prop} (e:a[i]?=some (some (.own (OL ds)))) (b:ds.length<=999999) (q:R ds):∃ ds,a[i]?=some (some (.own (OL ds)))/\ds.length<=999999/\R ds:=⟨ds,e,b,q⟩
theorem ayh {ds:List PyData} {d:PyData} {k:Int} {a:En} {R:PyData->Prop} (c:Has a i (OL ds)) (h:atI ds k=some d) (q:R d):∃ ds b d,Has a i (OL ds)/\PyData.int k=.int b/\atI ds b=some d/\R d:=⟨ds,k,d,c,rfl,h,q⟩
theorem an3 {ds:List PyData} {k:Int} {j:Nat} {a:En} {R:Sl->List PyData->Nat->Prop} (e:a[i]?=some (some (.own (OL ds)))) (hj:ixN ds.length k=some j) (q:R (.own (OL ds)) ds j):∃ s ds b j,PyData.int k=.int b/\a[i]?=some (some s)/\(s=.own (OL ds)\/s=.io (OL ds))/\ixN ds.length b=some j/\R s ds j:=⟨_,ds,k,j,rfl,e,.inl rfl,hj,q⟩
theorem ayi {A:Own} {dx:PyData} {a:En} {P:PyData->Prop} (c:Has a i A) (b:Frz A dx) (q:P dx):∃ A dx,Has a i A/\Frz A dx/\P dx:=⟨A,dx,c,b,q⟩
theorem x_st {b:Bool} {R:Bool->Prop} (h:R b):∃ c,Sl.st (.bool b)=.st (.bool c)/\R c:=⟨b,rfl,h⟩
theorem axe {b:Bool} {R:Bool->Prop} (h:R b):∃ k,TruD (.bool b) k/\R k:=⟨b,rfl,h⟩
theorem ar4 {ds:List PyData} {R:Bool->Prop} (h:R (!ds.isEmpty)):∃ k,TruD (.list ds) k/\R k:=⟨_,rfl,h⟩
theorem lenP {f:VP} {n:Nat} {vs:List V} {H:Hp} {Q:VK} {E:XK} (h:spP K f vs H Q E) (hf:∀ ss a,f ss a->ss.length=n):vs.length=n:=by
 obtain ⟨G,ss,a,_,_,b,q,_⟩:=h
 rw [b.length];exact hf ss a q
theorem ayj {P Q:Prop} (h:P) (q:Q):P/\Q:=⟨h,q⟩
theorem ayk {src:List (Option Nat)} {j:TI} {g:TG} {f:TT} (nd:(src.filterMap id).Nodup) (h:EvI B j env fun ds i=>LcV B.K src g f te ds i fun ys o=>Q' (.list ys) o):Ev B (tLC src j g f te) env Q':=ach (apj nd fun σ G H F R I k=>h σ G H F R I fun J G' H' m ds i l g' it ⟨n,a,b,c,d⟩=>k J G' H' m ds i l g' it ⟨n,a,b,c,fun ys e q=>aee (d ys e q)⟩)
end
end VL
namespace VL
open PySem L2
section
variable {B:Bs} {QE:En->Prop} {Q':PyData->En->Prop} {s:Sl} {r:En} {A:Own} {d:PyData} {x0 x1 x2 x3 x4 x5 x6 x7 x8 x9 x10 x11 x12 x13 x14 x15 x16 x17 x18 x19 x20 x21 x22 x23 x24 x25:Option Sl}
theorem axf (h:QE (x0 :: some s :: r)):EvG B (aay 1) s (x0 :: x1 :: r) QE:=aar h
theorem axg (h:QE (x0 :: x1 :: some s :: r)):EvG B (aay 2) s (x0 :: x1 :: x2 :: r) QE:=aar h
theorem axh (h:QE (x0 :: x1 :: x2 :: some s :: r)):EvG B (aay 3) s (x0 :: x1 :: x2 :: x3 :: r) QE:=aar h
theorem axi (h:QE (x0 :: x1 :: x2 :: x3 :: some s :: r)):EvG B (aay 4) s (x0 :: x1 :: x2 :: x3 :: x4 :: r) QE:=aar h
theorem axj (h:QE (x0 :: x1 :: x2 :: x3 :: x4 :: some s :: r)):EvG B (aay 5) s (x0 :: x1 :: x2 :: x3 :: x4 :: x5 :: r) QE:=aar h
theorem axk (h:QE (x0 :: x1 :: x2 :: x3 :: x4 :: x5 :: some s :: r)):EvG B (aay 6) s (x0 :: x1 :: x2 :: x3 :: x4 :: x5 :: x6 :: r) QE:=aar h
theorem axl (h:QE (x0 :: x1 :: x2 :: x3 :: x4 :: x5 :: x6 :: some s :: r)):EvG B (aay 7) s (x0 :: x1 :: x2 :: x3 :: x4 :: x5 :: x6 :: x7 :: r) QE:=aar h
theorem axm (h:QE (x0 :: x1 :: x2 :: x3 :: x4 :: x5 :: x6 :: x7 :: some s :: r)):EvG B (aay 8) s (x0 :: x1 :: x2 :: x3 :: x4 :: x5 :: x6 :: x7 :: x8 :: r) QE:=aar h
theorem axn (h:QE (x0 :: x1 :: x2 :: x3 :: x4 :: x5 :: x6 :: x7 :: x8 :: some s :: r)):EvG B (aay 9) s (x0 :: x1 :: x2 :: x3 :: x4 :: x5 :: x6 :: x7 :: x8 :: x9 :: r) QE:=aar h
theorem auz (h:QE (x0 :: x1 :: x2 :: x3 :: x4 :: x5 :: x6 :: x7 :: x8 :: x9 :: some s :: r)):EvG B (aay 10) s (x0 :: x1 :: x2 :: x3 :: x4 :: x5 :: x6 :: x7 :: x8 :: x9 :: x10 :: r) QE:=aar h
theorem au0 (h:QE (x0 :: x1 :: x2 :: x3 :: x4 :: x5 :: x6 :: x7 :: x8 :: x9 :: x10 :: some s :: r)):EvG B (aay 11) s (x0 :: x1 :: x2 :: x3 :: x4 :: x5 :: x6 :: x7 :: x8 :: x9 :: x10 :: x11 :: r) QE:=aar h
theorem au1 (h:QE (x0 :: x1 :: x2 :: x3 :: x4 :: x5 :: x6 :: x7 :: x8 :: x9 :: x10 :: x11 :: some s :: r)):EvG B (aay 12) s (x0 :: x1 :: x2 :: x3 :: x4 :: x5 :: x6 :: x7 :: x8 :: x9 :: x10 :: x11 :: x12 :: r) QE:=aar h
theorem au2 (h:QE (x0 :: x1 :: x2 :: x3 :: x4 :: x5 :: x6 :: x7 :: x8 :: x9 :: x10 :: x11 :: x12 :: some s :: r)):EvG B (aay 13) s (x0 :: x1 :: x2 :: x3 :: x4 :: x5 :: x6 :: x7 :: x8 :: x9 :: x10 :: x11 :: x12 :: x13 :: r) QE:=aar h
theorem au3 (h:QE (x0 :: x1 :: x2 :: x3 :: x4 :: x5 :: x6 :: x7 :: x8 :: x9 :: x10 :: x11 :: x12 :: x13 :: some s :: r)):EvG B (aay 14) s (x0 :: x1 :: x2 :: x3 :: x4 :: x5 :: x6 :: x7 :: x8 :: x9 :: x10 :: x11 :: x12 :: x13 :: x14 :: r) QE:=aar h
theorem au4 (h:QE (x0 :: x1 :: x2 :: x3 :: x4 :: x5 :: x6 :: x7 :: x8 :: x9 :: x10 :: x11 :: x12 :: x13 :: x14 :: some s :: r)):EvG B (aay 15) s (x0 :: x1 :: x2 :: x3 :: x4 :: x5 :: x6 :: x7 :: x8 :: x9 :: x10 :: x11 :: x12 :: x13 :: x14 :: x15 :: r) QE:=aar h
theorem au5 (h:QE (x0 :: x1 :: x2 :: x3 :: x4 :: x5 :: x6 :: x7 :: x8 :: x9 :: x10 :: x11 :: x12 :: x13 :: x14 :: x15 :: some s :: r)):EvG B (aay 16) s (x0 :: x1 :: x2 :: x3 :: x4 :: x5 :: x6 :: x7 :: x8 :: x9 :: x10 :: x11 :: x12 :: x13 :: x14 :: x15 :: x16 :: r) QE:=aar h
theorem au6 (h:QE (x0 :: x1 :: x2 :: x3 :: x4 :: x5 :: x6 :: x7 :: x8 :: x9 :: x10 :: x11 :: x12 :: x13 :: x14 :: x15 :: x16 :: some s :: r)):EvG B (aay 17) s (x0 :: x1 :: x2 :: x3 :: x4 :: x5 :: x6 :: x7 :: x8 :: x9 :: x10 :: x11 :: x12 :: x13 :: x14 :: x15 :: x16 :: x17 :: r) QE:=aar h
end
end VL
namespace Gr
structure Ring (T:Int->Int->Prop) (a:Int) (k:Nat) (far:Int->Option Nat) (edge:List Int):Prop where
 lab:∀ v d,far v=some d ↔ (Dist T a v d/\d<=k)
 edg:∀ v,v∈edge ↔ Dist T a v k
structure Mid (T:Int->Int->Prop) (k:Nat) (far0:Int->Option Nat) (edge:List Int) (done:Int->Prop) (far:Int->Option Nat) (beyond:List Int):Prop where
 old:∀ v d,far0 v=some d->far v=some d
 new:∀ v,v∈beyond ↔ (far0 v=none/\far v ≠ none)
 val:∀ v d,far0 v=none->far v=some d->d=k+1/\∃ u,u∈edge/\T u v
 dn:∀ u w,done u->T u w->far w ≠ none
def label (far:Int->Option Nat) (w:Int) (d:Nat):Int->Option Nat:=fun v=>if v=w then some d else far v
theorem label_same {far:Int->Option Nat} {w:Int} {d:Nat}:label far w d w=some d:=aC9 rfl
theorem label_ne {far:Int->Option Nat} {w v:Int} {d:Nat} (h:v ≠ w):label far w d v=far v:=aD0 h
variable {T:Int->Int->Prop} {a:Int} {k:Nat} {far0 far:Int->Option Nat} {edge beyond:List Int} {done:Int->Prop}
theorem Ring.start:Ring T a 0 (label (fun _=>none) a 0) [a]:=by
 refine ⟨fun v d=>?_,fun v=>?_⟩
 ·by_cases h:v=a
  ·subst h
   rw [label_same]
   constructor
   ·intro e;cases e;exact ⟨Dist.self T v,az0 _⟩
   ·rintro ⟨h,_⟩;rw [h.uniq (Dist.self T v)]
  ·rw [label_ne h]
   constructor
   ·intro e;cases e
   ·rintro ⟨b,c⟩
    have:d=0:=by omega
    subst this
    cases b.1
    exact absurd rfl h
 ·simp only [aA5]
  constructor
  ·rintro rfl;exact Dist.self T v
  ·intro h;cases h.1;rfl
theorem Mid.start:Mid T k far0 edge (fun _=>False) far0 [] :=
 ⟨fun v d h=>h,fun v=>⟨fun h=>by simp at h,fun h=>absurd h.1 h.2⟩,fun v d h g=>(by rw [h] at g;cases g),fun u w h=>h.elim⟩
theorem Mid.add (m:Mid T k far0 edge done far beyond) {u w:Int} (c:u∈edge) (t:T u w) (b:far w=none):Mid T k far0 edge done (label far w (k+1)) (beyond ++ [w]):=by
 have a:far0 w=none:=by
  cases e:far0 w with
  | none=>rfl
  | some d=>rw [m.old w d e] at b;cases b
 refine ⟨fun v d h=>?_,fun v=>?_,fun v d h g=>?_,fun x y i f=>?_⟩
 ·rw [label_ne (by rintro rfl;rw [a] at h;cases h)];exact m.old v d h
 ·by_cases hv:v=w
  ·subst hv
   simp [label_same,a]
  ·rw [label_ne hv]
   simp only [az1,aA5,hv,or_false]
   exact m.new v
 ·by_cases hv:v=w
  ·subst hv
   rw [label_same] at g
   cases g
   exact ⟨rfl,u,c,t⟩
  ·rw [label_ne hv] at g
   exact m.val v d h g
 ·by_cases hv:y=w
  ·subst hv;rw [label_same];simp
  ·rw [label_ne hv];exact m.dn x y i f
theorem Mid.did (m:Mid T k far0 edge done far beyond) {u:Int} (h:∀ w,T u w->far w ≠ none):Mid T k far0 edge (fun x=>done x\/x=u) far beyond :=
 ⟨m.old,m.new,m.val,fun x w a t=>by rcases a with a | rfl;exact m.dn x w a t;exact h w t⟩
theorem Mid.imp {a:Int->Prop} (m:Mid T k far0 edge done far beyond) (h:∀ u,a u->done u):Mid T k far0 edge a far beyond :=
 ⟨m.old,m.new,m.val,fun x w b t=>m.dn x w (h x b) t⟩
theorem Ring.next (r:Ring T a k far0 edge) (m:Mid T k far0 edge done far beyond) (hd:∀ u∈edge,done u):Ring T a (k+1) far beyond:=by
 have g:∀ v,far0 v=none->far v ≠ none->Dist T a v (k+1):=fun v f b=>by
  cases e:far v with
  | none=>exact absurd e b
  | some d =>
   obtain ⟨rfl,u,l,t⟩:=m.val v d f e
   obtain ⟨j,p,h⟩:=((r.edg u).mp l).next t
   by_cases i:j<=k
   ·rw [(r.lab v j).mpr ⟨h,i⟩] at f;cases f
   ·have:j=k+1:=by omega
    rw [← this];exact h
 have c:∀ v,Dist T a v (k+1)->far0 v=none/\far v ≠ none:=fun v h=>by
  refine ⟨?_,?_⟩
  ·cases e:far0 v with
   | none=>rfl
   | some d =>
    obtain ⟨b,n⟩:=(r.lab v d).mp e
    have:=b.uniq h
    omega
  ·obtain ⟨u,t,l⟩:=h.pred
   exact m.dn u v (hd u ((r.edg u).mpr l)) t
 refine ⟨fun v d=>?_,fun v=>⟨fun h=>?_,fun h=>(m.new v).mpr (c v h)⟩⟩
 ·constructor
  ·intro e
   cases e0:far0 v with
   | some d0 =>
    rw [m.old v d0 e0] at e
    cases e
    obtain ⟨b,n⟩:=(r.lab v d).mp e0
    exact ⟨b,by omega⟩
   | none =>
    have i:=(m.val v d e0 e).1
    subst i
    exact ⟨g v e0 (by rw [e];simp),az0 _⟩
  ·rintro ⟨h,i⟩
   by_cases hd':d<=k
   ·exact m.old v d ((r.lab v d).mpr ⟨h,hd'⟩)
   ·have o:d=k+1:=by omega
    subst o
    obtain ⟨f,b⟩:=c v h
    cases e:far v with
    | none=>exact absurd e b
    | some d=>rw [(m.val v d f e).1]
 ·obtain ⟨f,b⟩:=(m.new v).mp h
  exact g v f b
theorem Dist.down {v:Int}:∀ {d:Nat},Dist T a v d->∀ j,j<=d->∃ u,Dist T a u j
 | 0,h,j,hj=>⟨v,by rw [show j=0 by omega];exact h⟩
 | d+1,h,j,hj=>by
  by_cases e:j=d+1
  ·rw [e];exact ⟨v,h⟩
  ·obtain ⟨u,_,b⟩:=h.pred
   exact Dist.down b j (by omega)
def farO (T:Int->Int->Prop) (a v:Int):Option Nat:=open Classical in if h:∃ d,Dist T a v d then some (Classical.choose h) else none
theorem farO_some {v:Int} {d:Nat}:farO T a v=some d ↔ Dist T a v d:=by
 unfold farO
 constructor
 ·intro h
  split at h
  ·rename_i b
   cases h
   exact Classical.choose_spec b
  ·cases h
 ·intro h
  have b:∃ d,Dist T a v d:=⟨d,h⟩
  rw [dif_pos b,(Classical.choose_spec b).uniq h]
theorem farO_none {v:Int}:farO T a v=none ↔ ∀ d,¬ Dist T a v d:=by
 constructor
 ·intro h d hd
  rw [farO_some.mpr hd] at h;cases h
 ·intro h
  cases e:farO T a v with
  | none=>rfl
  | some d=>exact absurd (farO_some.mp e) (h d)
theorem au7 {v:Int} {o:Option Nat} (h:∀ d,o=some d ↔ Dist T a v d):o=farO T a v:=by
 cases o with
 | some d=>exact (farO_some.mpr ((h d).mp rfl)).symm
 | none=>exact (farO_none.mpr fun d hd=>by cases (h d).mpr hd).symm
theorem Ring.fin (r:Ring T a k far0 []) (v:Int):far0 v=farO T a v:=by
 refine au7 fun d=>?_
 rw [r.lab]
 refine ⟨fun h=>h.1,fun h=>⟨h,?_⟩⟩
 apply Classical.byContradiction
 intro c
 obtain ⟨u,b⟩:=h.down k (by omega)
 have:=(r.edg u).mpr b
 simp at this
theorem Walk.app {u v w:Int} {i j:Nat} (h:Walk T u i v) (g:Walk T v j w):Walk T u (i+j) w:=by
 induction g with
 | refl=>exact h
 | step _ t ih=>exact .step ih t
theorem Walk.rev (a:∀ u v,T u v->T v u) {u v:Int} {i:Nat} (h:Walk T u i v):Walk T v i u:=by
 induction h with
 | refl=>exact .refl
 | @step j x y _ t ih =>
  have:=(Walk.step (T:=T) (u:=y) .refl (a _ _ t)).app ih
  rw [Nat.add_comm] at this
  exact this
theorem farO_self:farO T a a=some 0:=farO_some.mpr (Dist.self T a)
theorem Dist.lt {n:Nat} (o:∀ u v,T u v->0<=v/\v < (n:Int)) (ha:0<=a/\a < (n:Int)) {v:Int} {d:Nat} (h:Dist T a v d):d < n:=by
 -- the places of a shortest way are unlike
 have i:∀ d v,Dist T a v d->∃ l:List Int,l.length=d+1/\l.Nodup/\∀ x∈l,(0<=x/\x < (n:Int))/\∃ j,j<=d/\Dist T a x j:=by
  intro d
  induction d with
  | zero =>
   intro v h
   have:v=a:=by cases h.1;rfl
   subst this
   exact ⟨[v],rfl,by simp,fun x b=>by simp at b;subst b;exact ⟨ha,0,az0 _,h⟩⟩
  | succ d ih =>
   intro v h
   obtain ⟨u,t,s⟩:=h.pred
   obtain ⟨l,g,c,f⟩:=ih u s
   refine ⟨v :: l,by simp [g],aF7.mpr ⟨fun hm=>?_,c⟩,fun x b=>?_⟩
   ·obtain ⟨_,j,hj,hd⟩:=f v hm
    have:=hd.uniq h
    omega
   ·rcases az2.mp b with rfl | b
    ·exact ⟨o _ _ t,d+1,az0 _,h⟩
    ·obtain ⟨q,j,hj,hd⟩:=f x b
     exact ⟨q,j,by omega,hd⟩
 obtain ⟨l,g,c,f⟩:=i d v h
 have few:∀ (n:Nat) (l:List Int),l.Nodup->(∀ v∈l,0<=v/\v < (n:Int))->l.length<=n:=by
  intro n
  induction n with
  | zero =>
   intro l _ h
   cases l with
   | nil=>simp
   | cons v r=>have:=h v (by simp);omega
  | succ n ih =>
   intro l hn h
   have g:=ih (l.erase (n:Int)) (hn.erase _) fun v m=>by
    have hm:=List.mem_of_mem_erase m
    have hb:=h v hm
    have p:v ≠ (n:Int):=by
     rintro rfl
     exact absurd m (List.Nodup.not_mem_erase hn)
    omega
   have c:l.length<=(l.erase (n:Int)).length+1:=by
    rw [List.length_erase]
    split <;> omega
   omega
 have:=few n l c fun x b=>(f x b).1
 omega
end Gr
namespace VL
open PySem PySem.Spec L2
theorem nodup_ix {α:Type} {xs:List α} (h:xs.Nodup) {i j:Nat} (hi:i < xs.length) (hj:j < xs.length) (e:xs[i]=xs[j]):i=j:=by
 have p:=aE1.mp h
 rcases Nat.lt_trichotomy i j with q | q | q
 ·exact absurd e (p i j hi hj q)
 ·exact q
 ·exact absurd e.symm (p j i hj hi q)
def OLL (dss:List (List PyData)):Own where
 P:=fun G H v F=>∃ (a:Addr) (as:List Addr),v=.ref a/\H a=some (.lst (as.map V.ref))/\as.Nodup/\a ∉ as/\as.length=dss.length/\(∀ (i:Nat) b ds,as[i]?=some b->dss[i]?=some ds->∃ vs,H b=some (.lst vs)/\Rps G vs ds)/\∀ b,F b ↔ b=a\/b∈as
 mono:=fun ⟨a,as,e,h,n1,n2,l,r,f⟩ g hh=>⟨a,as,e,hh a _ ((f a).mpr (.inl rfl)) h,n1,n2,l,fun i b ds hb hd=>by
  obtain ⟨vs,h1,h2⟩:=r i b ds hb hd
  exact ⟨vs,hh b _ ((f b).mpr (.inr (ay6 hb))) h1,h2.same g⟩,f⟩
 dom:=fun ⟨a,as,e,h,n1,n2,l,r,f⟩ b z=>by
  rcases (f b).mp z with rfl | z
  ·exact ⟨_,h⟩
  ·obtain ⟨i,hi,e⟩:=aF0.mp z
   have hb:as[i]?=some b:=by rw [ay4 hi,e]
   obtain ⟨vs,h1,_⟩:=r i b _ hb (ay4 (by rw [← l];exact hi))
   exact ⟨_,h1⟩
theorem alf {G:Hp}:∀ {vs:List V} {ds:List PyData},vs.length=ds.length->(∀ (i:Nat) v d,vs[i]?=some v->ds[i]?=some d->Rp G v d)->Rps G vs ds
 | [],[],_,_ => .nil
 | [],_ :: _,h,_=>by simp at h
 | _ :: _,[],h,_=>by simp at h
 | v :: vs,d :: ds,h,k => .cons (k 0 v d rfl rfl) (alf (by simpa using h) fun i v d a b=>k (i+1) v d (by simpa using a) (by simpa using b))
theorem aes {c:List (List PyData)}:Frz (OLL c) (.list (c.map .list)):=fun G H v F ⟨a,as,e,h,p,q,l,r,f⟩ n g=>by
 subst e
 refine .lst (by rw [aed ((f a).mpr (.inl rfl))];exact h) (alf (by simp [l]) fun i u d j hd=>?_)
 rw [ay9] at j hd
 cases hb:as[i]? with
 | none=>rw [hb] at j;cases j
 | some b =>
  cases hds:c[i]? with
  | none=>rw [hds] at hd;cases hd
  | some ds =>
   rw [hb] at j;rw [hds] at hd
   cases j;cases hd
   obtain ⟨vs,m,o⟩:=r i b ds hb hds
   exact .lst (by rw [aed ((f b).mpr (.inr (ay6 hb)))];exact m) (o.same (abb n))
section
variable {B:Bs} {env:En} {QO:Sl->En->Prop} {Q':PyData->En->Prop} {D':VEnds} {K:Frag} {i:Nat}
theorem axo {a:List (List PyData)} {R:PyData->Prop} (h:R (.list (a.map .list))):FQ (.own (OLL a)) R:=⟨_,aes,h⟩
theorem au8 {src:List (Option Nat)} {wi:TI} {j:Nat} (h:EvI B wi env fun ds e1=>ds.length<=1000000/\QO (.own (OLL (List.replicate ds.length []))) e1):EvO B (tLC src wi (aay j) tYes (tLst tNil)) env QO:=fun σ G H F Q I k=>by
 refine h σ G H F _ I fun J R L F1 ds e1 s g1 it ⟨a0,q⟩ c d=>?_
 let W:Nat->List V->Hp->Prop:=fun n ys H=>∃ (as:List Addr) (g:Hp),ys=as.map V.ref/\as.length=n/\as.Nodup/\c ∉ as/\(∀ b∈as,L b=none/\g b=none/\H b=some (.lst []))/\H c=some (.lst ys)/\g c=none/\Same R g/\Same g H/\Same L H/\(∀ a o,g a=some o->R a=some o\/L a=none)/\FT g H
 refine ⟨fun n m ys σI H=>m=ds.length - n/\n<=ds.length/\W n ys H,⟨ds.length,by simp,aD4 _,[],R,rfl,rfl,List.nodup_nil,by simp,fun b hb=>by simp at hb,aai,s.no_g d,Same.refl _,s.gh.trans (ab8 d),ab8 d,fun a o e => .inl e,fun a P e=>?_⟩,?_⟩
 ·by_cases z:a=c
  ·subst z;rw [aai] at e;cases e
  ·rw [aag z] at e;exact s.ft a P e
 rintro n m ys σI H2 ⟨rfl,hn,as,g,rfl,T,nd,na,all,f,X,C,l,r,K,v⟩
 refine ⟨f,?_⟩
 by_cases hlt:n < ds.length
 ·refine .inr ⟨it.go n g H2 C l hlt,fun D O H'=>W (n+1) D H',fun D O H' hw=>⟨ds.length - (n+1),by omega,rfl,hlt,hw⟩,fun x H3 y=>?_⟩
  obtain ⟨M,o⟩:=it.yld n g H2 x H3 _ C l v (ay4 hlt) y
  refine amp (ao8 (adk (awn (ao6 ⟨by decide,fun p A=>?_⟩))))
  have n2:H2 p=none:=ab9 o.hh A
  have n1:L p=none:=ab9 r n2
  have S:p ≠ c:=(aap (o.hh _ _ f) A).symm
  have E:p ∉ as:=fun z=>by
   have:=o.hh _ _ (all p z).2.2
   rw [this] at A;cases A
  refine ⟨by rw [aag S.symm];exact o.hh _ _ f,by rw [ay7,T];exact big (by omega),as ++ [p],M,by simp,by simp [T],?_,?_,fun b hb=>?_,aai,?_,C.trans o.gg,fun a u e=>?_,fun a u e=>?_,fun a u e=>?_,fun a P e=>?_⟩
  ·rw [List.nodup_append]
   exact ⟨nd,by simp,fun x hx y hy=>by simp at hy;subst hy;intro e;subst e;exact E hx⟩
  ·intro z
   rcases az1.mp z with z | z
   ·exact na z
   ·exact S (aA5.mp z).symm
  ·have gb:∀ b,g b=none->(∃ u,H2 b=some u)->M b=none:=fun b Y z_=>by
    obtain ⟨u,U⟩:=z_
    cases e:M b with
    | none=>rfl
    | some w =>
     rcases o.gn b w e with e | e
     ·rw [Y] at e;cases e
     ·rw [U] at e;cases e
   rcases az1.mp hb with hb | hb
   ·obtain ⟨Y,U,h3⟩:=all b hb
    refine ⟨Y,gb b U ⟨_,h3⟩,?_⟩
    rw [aag (fun z:b=c=>na (by rw [← z];exact hb)),aag (fun z:b=p=>E (by rw [← z];exact hb))]
    exact o.hh _ _ h3
   ·have e:b=p:=by simpa using hb
    subst e
    exact ⟨n1,ab9 o.gh A,by rw [aag S,aai]⟩
  ·cases e:M c with
   | none=>rfl
   | some w =>
    rcases o.gn c w e with e | e
    ·rw [X] at e;cases e
    ·rw [f] at e;cases e
  ·have Z:a ≠ p:=aap (o.gh a u e) A
   have N:a ≠ c:=by
    rintro rfl
    rcases o.gn _ u e with e | e
    ·rw [X] at e;cases e
    ·rw [f] at e;cases e
   rw [aag N,aag Z];exact o.gh a u e
  ·have Z:a ≠ p:=aap e n1
   have N:a ≠ c:=aap e d
   rw [aag N,aag Z];exact o.hh _ _ (r a u e)
  ·rcases o.gn a u e with e | e
   ·exact K a u e
   ·exact .inr (ab9 r e)
  ·by_cases z:a=c
   ·subst z;rw [aai] at e;cases e
   ·rw [aag z] at e
    by_cases y:a=p
    ·subst y;rw [aai] at e;cases e
    ·rw [aag y] at e;exact o.ft v a P e
 ·have e:n=ds.length:=by omega
  subst e
  refine .inl ⟨it.stop _ g H2 C l rfl,?_⟩
  have I2:=s.grow C l r K v
  refine k (.ref c) g H2 F1 (fun b=>b=c\/b∈as) (.own (OLL (List.replicate ds.length []))) e1 I2 (g1.trans C) ⟨⟨c,as,rfl,f,nd,na,by simp [T],fun i b a1 hb hd=>?_,fun b=>Iff.rfl⟩,fun b z=>?_,fun b z=>?_,fun b z=>?_,fun j b z y=>?_⟩ q
  ·rw [aF1] at hd
   split at hd
   ·cases hd;exact ⟨[],(all b (ay6 hb)).2.2,.nil⟩
   ·cases hd
  ·rcases z with rfl | z
   ·exact s.no_b d
   ·exact s.no_b (all b z).1
  ·rcases z with rfl | z
   ·exact X
   ·exact (all b z).2.1
  ·rcases z with rfl | z
   ·exact ⟨_,f⟩
   ·exact ⟨_,(all b z).2.2⟩
  ·rcases z with rfl | z
   ·exact s.no_f d j y
   ·exact s.no_f (all b z).1 j y
theorem adr {d:List (List PyData)} {l j n:Nat} {k:Int} {y:PyData} {ds:List PyData} (e:env[i]?=some (some (.own (OLL d)))) (ek:env[l]?=some (some (.st (.int k)))) (Y:env[j]?=some (some (.st y)))
  (hk:ixN d.length k=some n) (hd:d[n]?=some ds) (hl:ds.length<=999999) (q:Q' .none (env.set i (some (.own (OLL (d.set n (ds ++ [y]))))))):Ev B (tBM K "list" adv (tOp (ab7 K) (tVar i) (tVar l)) (aci (tVar j) tNil)) env Q':=fun σ G H F Q I Z=>by
 obtain ⟨v,L,⟨a,as,rfl,h,E,O,ln,r,f⟩,_⟩:=I.sl i _ e
 obtain ⟨vk,x,W,_⟩:=I.sl l _ ek
 obtain ⟨U,C,X,_⟩:=I.sl j _ Y
 cases W
 have hn:n < d.length:=(ay5.mp hd).1
 have hb:as[n]?=some (as[n]'(by omega)):=ay4 _
 generalize as[n]'(by omega)=b at hb
 have s:b∈as:=ay6 hb
 obtain ⟨vs,N,M⟩:=r n b ds hb hd
 have u:atI (as.map V.ref) k=some (.ref b):=by
  unfold atI
  rw [ay7,ln,hk]
  simp [hb]
 refine ⟨_,L,_,x,ad3 h u ⟨.inl ⟨rfl,_,SqL.of N⟩,_,C,aec N (by rw [M.length];exact big (by omega)) ?_⟩⟩
 have w:a ≠ b:=fun z=>O (z ▸ s)
 have J:=I.change (A:=OLL (d.set n (ds ++ [y]))) (H2:=upd H b (.lst (vs ++ [U]))) (F2:=F i) (os':=.own (OLL (d.set n (ds ++ [y])))) i e L (fun c o p D=>by rw [aag (fun z:c=b=>p ((f c).mpr (.inr (by rw [z];exact s))))];exact D)
  (fun c o D=>by
   by_cases z:c=b
   ·rw [z];exact ⟨_,aai⟩
   ·rw [aag z];exact ⟨o,D⟩)
  (fun c z=>⟨.inl z,by
   by_cases y:c=b
   ·rw [y];exact ⟨_,aai⟩
   ·rw [aag y];exact I.fo i c z⟩) ?_ (fun c S e=>by
   by_cases z:c=b
   ·subst z;rw [aai] at e;cases e
   ·rw [aag z] at e;exact I.ft c S e) (.inl ⟨rfl,_,rfl⟩)
 ·exact Z _ G _ _ _ _ J (Same.refl _) .non q
 ·refine ⟨a,as,rfl,by rw [aag w];exact h,E,O,by simp [ln],fun m c es p g=>?_,f⟩
  by_cases hm:m=n
  ·subst hm
   rw [hb] at p;cases p
   rw [aB5,aC9 rfl,aC9 hn] at g
   cases g
   exact ⟨_,aai,M.append (.cons X .nil)⟩
  ·rw [aB5,aD0 (fun z=>hm z.symm)] at g
   obtain ⟨us,T,h4⟩:=r m c es p g
   refine ⟨us,?_,h4⟩
   rw [aag]
   ·exact T
   ·rintro rfl
    have i1:=(ay5.mp hb)
    have i2:=(ay5.mp p)
    obtain ⟨P,e1⟩:=i1
    obtain ⟨R,e2⟩:=i2
    exact hm (nodup_ix E R P (e2.trans e1.symm))
end
@[reducible] def prD (p:Int × Int):PyData:=.tuple [.int p.1,.int p.2]
@[reducible] def webD (n:Int) (es:List (Int × Int)):PyData:=.tuple [.int n,.list (es.map prD)]
def Tied (es:List (Int × Int)) (u v:Int):Prop:=(u,v)∈es\/(v,u)∈es
theorem Tied.symm {es:List (Int × Int)} {u v:Int} (h:Tied es u v):Tied es v u:=h.elim .inr .inl
def InN (n:Int) (es:List (Int × Int)):Prop:=∀ p∈es,0<=p.1/\p.1 < n/\0<=p.2/\p.2 < n
theorem Tied.in {n:Int} {es:List (Int × Int)} {u v:Int} (hi:InN n es) (h:Tied es u v):(0<=u/\u < n)/\0<=v/\v < n:=by
 rcases h with h | h
 ·have:=hi _ h;exact ⟨⟨this.1,this.2.1⟩,this.2.2⟩
 ·have:=hi _ h;exact ⟨⟨this.2.2.1,this.2.2.2⟩,this.1,this.2.1⟩
theorem Tied.snoc {es:List (Int × Int)} {i:Nat} {a b:Int} (h:es[i]?=some (a,b)) (u v:Int):Tied (es.take (i+1)) u v ↔ (Tied (es.take i) u v\/(u=a/\v=b))\/(u=b/\v=a):=by
 have e:es.take (i+1)=es.take i ++ [(a,b)]:=by rw [aE8,h];rfl
 unfold Tied
 rw [e]
 simp only [az1,aA5,Prod.mk.injEq]
 constructor
 ·rintro ((h | ⟨rfl,rfl⟩) | (h | ⟨rfl,rfl⟩))
  ·exact .inl (.inl (.inl h))
  ·exact .inl (.inr ⟨rfl,rfl⟩)
  ·exact .inl (.inl (.inr h))
  ·exact .inr ⟨rfl,rfl⟩
 ·rintro (((h | h) | ⟨rfl,rfl⟩) | ⟨rfl,rfl⟩)
  ·exact .inl (.inl h)
  ·exact .inr (.inl h)
  ·exact .inl (.inr ⟨rfl,rfl⟩)
  ·exact .inr (.inr ⟨rfl,rfl⟩)
def TiedL (n:Int) (T:Int->Int->Prop) (tl:List (List Int)):Prop:=(tl.length:Int)=n/\∀ (i:Nat) ws,tl[i]?=some ws->∀ w,w∈ws ↔ T i w
def oD:Option Nat->PyData
 | none => .none
 | some d => .int d
def lab (n:Nat) (far:Int->Option Nat):List PyData:=(List.range n).map fun (i:Nat)=>oD (far (i:Int))
theorem acj {n:Nat} {far:Int->Option Nat}:(lab n far).length=n:=by simp [lab]
theorem ady {n:Nat} {far:Int->Option Nat} {i:Nat} (h:i < n):(lab n far)[i]?=some (oD (far i)):=by
 unfold lab
 rw [ay9,ay4 (by simpa using h)]
 simp
theorem apl {n:Nat} {far:Int->Option Nat} {v:Int} (a:0<=v) (h:v < n):atI (lab n far) v=some (oD (far v)):=by
 have:=adu (xs:=lab n far) (j:=v.toNat) (ady (by omega))
 rwa [show ((v.toNat:Nat):Int)=v by omega] at this
theorem aet {n:Nat} {v:Int} (a:0<=v) (h:v < n):ixN n v=some v.toNat:=by
 unfold ixN;rw [aC9 a,aC9 h]
theorem am6 {n:Nat} {far:Int->Option Nat} {v:Int} {d:Nat} (a:0<=v) (h:v < n):(lab n far).set v.toNat (.int d)=lab n (Gr.label far v d):=by
 apply aD6
 intro i
 rw [aB5]
 by_cases e:v.toNat=i
 ·rw [aC9 e,aC9 (by rw [acj];omega),ady (by omega)]
  have:(i:Int)=v:=by omega
  rw [this,Gr.label_same];rfl
 ·rw [aD0 e]
  by_cases hi:i < n
  ·rw [ady hi,ady hi,Gr.label_ne (by omega)]
  ·rw [aD1.mpr (by rw [acj];omega),aD1.mpr (by rw [acj];omega)]
theorem apm {n:Nat} {f g:Int->Option Nat} (h:∀ v,0<=v->v < (n:Int)->f v=g v):lab n f=lab n g:=by
 unfold lab
 apply aC5
 intro i hi
 rw [h i (by omega) (by have:=aA2.mp hi;omega)]
theorem au9 {o:Option Nat}:isNone (oD o)=o.isNone:=by cases o <;> rfl
theorem afo {α:Type} {f : α->PyData} {xs:List α} {i:Int} {x : α} (h:atI xs i=some x):atI (xs.map f) i=some (f x):=by
 unfold atI at h ⊢
 rw [ay7]
 cases e:ixN xs.length i with
 | none=>rw [e] at h;cases h
 | some j=>rw [e] at h;simp at h ⊢;exact ⟨_,h,rfl⟩
theorem ahh {α:Type} {xs:List α} {i:Int} {x : α} (a:0<=i) (h:xs[i.toNat]?=some x):atI xs i=some x:=by
 have:=adu (xs:=xs) (j:=i.toNat) h
 rwa [show ((i.toNat:Nat):Int)=i by omega] at this
@[reducible] def tlD (tl:List (List Int)):List (List PyData):=tl.map fun ws=>ws.map .int
theorem TiedL.get {n:Int} {T:Int->Int->Prop} {tl:List (List Int)} (h:TiedL n T tl) {v:Int} (c:0<=v) (d:v < n):∃ b,tl[v.toNat]?=some b/\∀ w,w∈b ↔ T v w:=by
 have a:v.toNat < tl.length:=by have:=h.1;omega
 refine ⟨tl[v.toNat],ay4 a,fun w=>?_⟩
 rw [h.2 _ _ (ay4 a) w,show ((v.toNat:Nat):Int)=v by omega]
theorem adz {tl:List (List Int)} {i:Nat} {a:List Int} (h:tl[i]?=some a):(tlD tl)[i]?=some (a.map .int):=by
 rw [ay9,h];rfl
theorem TiedL.put {n:Int} {T:Int->Int->Prop} {tl:List (List Int)} (h:TiedL n T tl) {v q:Int} {c:List Int} (j:0<=v) (g:v < n) (d:tl[v.toNat]?=some c):TiedL n (fun a b=>T a b\/(a=v/\b=q)) (tl.set v.toNat (c ++ [q])):=by
 refine ⟨by rw [List.length_set];exact h.1,fun i us hi w=>?_⟩
 rw [aB5] at hi
 by_cases e:v.toNat=i
 ·rw [aC9 e] at hi
  have l:v.toNat < tl.length:=(ay5.mp d).1
  rw [aC9 (by omega)] at hi
  cases hi
  have f:(i:Int)=v:=by omega
  rw [az1,aA5,h.2 i c (by rw [← e];exact d) w,f]
  simp
 ·rw [aD0 e] at hi
  rw [h.2 i us hi w]
  exact ⟨.inl,fun z=>z.elim id fun z=>by omega⟩
theorem af3 {tl:List (List Int)} {i:Nat} {a:List Int}:(tlD tl).set i (a.map .int)=tlD (tl.set i a):=by
 unfold tlD;rw [List.map_set]
theorem TiedL.iff {n:Int} {T a:Int->Int->Prop} {tl:List (List Int)} (h:TiedL n T tl) (e:∀ u v,T u v ↔ a u v):TiedL n a tl:=⟨h.1,fun i b hi w=>(h.2 i b hi w).trans (e _ _)⟩
end VL
namespace VL
open PySem L2
def cnt (far:Int->Option Nat):Nat->Nat
 | 0=>0
 | n+1=>cnt far n+(if far (n:Int)=none then 1 else 0)
theorem ae7 {far:Int->Option Nat} {w:Int} {d:Nat}:∀ {n:Nat},(w:Int) ≥ n->cnt (Gr.label far w d) n=cnt far n
 | 0,_=>rfl
 | n+1,h=>by
  unfold cnt
  rw [ae7 (by omega),Gr.label_ne (by omega)]
theorem aiz {far:Int->Option Nat} {w:Int} {d:Nat} (b:0<=w) (a:far w=none):∀ {n:Nat},w < (n:Int)->cnt (Gr.label far w d) n+1=cnt far n
 | 0,h=>by omega
 | n+1,h=>by
  unfold cnt
  by_cases e:w=n
  ·subst e
   rw [ae7 (by omega),Gr.label_same,a];simp
  ·rw [Gr.label_ne (by omega)]
   have:=aiz b a (n:=n) (d:=d) (by omega)
   omega
theorem ava (n:Nat):(List.replicate n [PyData.none]).flatten=lab n (fun _=>none):=by
 apply aD6
 intro i
 by_cases hi:i < n
 ·rw [ady hi]
  have:(List.replicate n [PyData.none]).flatten=List.replicate n PyData.none:=by
   clear hi
   induction n with
   | zero=>rfl
   | succ n ih=>rw [aE7,List.flatten_cons,ih,aE7];rfl
  rw [this,aF1,aC9 hi];rfl
 ·rw [aD1.mpr (by rw [amm];simp;omega),aD1.mpr (by rw [acj];omega)]
theorem al7 {α:Type} {f : α->PyData} {xs:List α}:(xs.map f).isEmpty=xs.isEmpty:=by cases xs <;> rfl
theorem ado {xs:List Int} {j:Nat} {u w:Int} (a:xs[j]?=some u) (hm:w∈xs.take (j+1)):w∈xs.take j\/w=u:=by
 rw [aE8,a] at hm
 rcases az1.mp hm with q | q
 ·exact .inl q
 ·exact .inr (by simpa using q)
theorem apn {n:Nat} {far:Int->Option Nat}:plainDs (lab n far)=true:=by
 rw [ael]
 intro d hd
 obtain ⟨i,_,rfl⟩:=aA0.mp hd
 cases far (i:Int) <;> rfl
theorem avb {n:Nat} {far:Int->Option Nat}:((lab n far).any fun z=>PyData.eqv z .none)=true ↔ ∃ v:Int,0<=v/\v < n/\far v=none:=by
 rw [List.any_eq_true]
 constructor
 ·rintro ⟨d,hd,e⟩
  obtain ⟨i,hi,rfl⟩:=aA0.mp hd
  refine ⟨i,by omega,by have:=aA2.mp hi;omega,?_⟩
  cases h:far (i:Int) with
  | none=>rfl
  | some d=>rw [h] at e;simp [oD,PyData.eqv] at e
 ·rintro ⟨v,a,b,h⟩
  refine ⟨oD (far v),?_,by rw [h];rfl⟩
  have:=ady (far:=far) (show v.toNat < n by omega)
  rw [show ((v.toNat:Nat):Int)=v by omega] at this
  exact ay6 this
def Joined (n:Int) (es:List (Int × Int)):Prop:=∀ v,0<=v->v < n->∃ d,Gr.Dist (Tied es) 0 v d
end VL
namespace DI
open PySem PySem.W
def Raw (h:Heap) (d:Addr) (es:Array DictEntry) (ep:Nat):Prop:=∃ o,h.get? d=some o/\o.ExactDict/\o.data=.dict es ep
theorem Raw.keep {h h':Heap} {d:Addr} {es:Array DictEntry} {a:Nat} (r:Raw h d es a) (k:∀ o,h.get? d=some o->h'.get? d=some o):Raw h' d es a:=let ⟨o,e,x⟩:=r;⟨o,k o e,x⟩
theorem Raw.ty {s:Shared} {d:Addr} {es:Array DictEntry} {a:Nat} (r:Raw s.heap d es a):s.TypeIs (.ref d) "dict":=let ⟨o,e,x,_⟩:=r;⟨o,e,x.1⟩
section
variable {prog:Program} {w:World} {A:Around} {E:Value->Shared->Prop} {s:Shared} {d it:Addr} {es:Array DictEntry} {ep i:Nat}
theorem raw_iter {Q:Value->Shared->Prop} (hd:(d == sysModules)=false) (r:Raw s.heap d es ep)
  (c:Q (.ref s.heap.objs.size) { s with heap:=s.heap.push { cls:=.type "dict_keyiterator",data:=.fields #[.ref d,.int 0 0,.int es.size 0,.int ep 0] } }):wpAny (model prog w) A (pyIter (.ref d)) Q E s:=by
 obtain ⟨o,b,f,a⟩:=id r
 refine wpAny_pyIter_slot r.ty PySem.F.slot_dict_iter (wpAny_call_entry PySem.F.slot_dict_iter r.ty PySem.F.entry_dict_iter ?body (PySem.F.args_dict_iter_1 _))
 case body =>
  unfold Builtin.«dict.__iter__»
  refine aG1 ?slot
  case slot =>
   unfold Builtin.Dict.dictSlotNone
   refine aG1 (wpAny_notOrdered_dict r.ty ?pl)
   case pl =>
    show wpAny _ _ (pure (Value.ref d)) _ _ s
    refine aG2 ?rest
    case rest =>
     show wpAny _ _ (Builtin.Dict.showsAll d >>= _) _ _ s
     unfold Builtin.Dict.showsAll
     rw [aD0 (by rw [hd];exact az3)]
     refine aG1 (aG2 (aG1 (wpAny_dictEntries b a (aG1 (wpAny_dictEpoch b a (aG1 (aG9 (aG2 ⟨_,rfl,"dict_keyiterator",_,⟨_,aG5 _ rfl,rfl⟩,PySem.F.slot_dict_keyiterator_next.lookup,?fin⟩))))))))
     case fin=>simpa [rawInt] using c
theorem raw_item {Q:Option Value->Shared->Prop} (a:s.heap.IsKeyIter it d i es.size ep) (r:Raw s.heap d es ep) (hi:i < es.size)
  (x:∀ h',h'.IsKeyIter it d (i+1) es.size ep->Heap.SameBut it s.heap h'->Q (some es[i].key) { s with heap:=h' }):wpAny (model prog w) A (pyNext (.ref it)) Q E s:=by
 obtain ⟨o,q,u,hd⟩:=id a
 obtain ⟨od,p,v,n⟩:=r
 unfold pyNext
 refine aG1 (wpAny_attempt (wpAny_callSpecial?_slot (name:=Str.ofString "__next__") a.typeIs PySem.F.slot_dict_keyiterator_next (wpAny_call_entry PySem.F.slot_dict_keyiterator_next a.typeIs PySem.F.entry_dict_keyiterator_next ?b (PySem.F.args_dict_keyiterator_next_1 _))))
 case b =>
  refine aG1 (aG2 (aG1 (aG1 ?c)))
  case c =>
   first | refine aG1 (wpAny_typeNameOfWhole_keyiter a.typeIs (aG2 (aG1 (wpAny_fieldsOf q hd ?e)))) | refine aG1 (wpAny_typeNameOf_keyiter a.typeIs (aG2 (aG1 (wpAny_fieldsOf q hd ?e))))
   case e =>
    simp only [show Builtin.Dict_items.ownsTuple "dict_keyiterator" = false by decide,Bool.false_eq_true,if_false]
    show wpAny _ _ (if (Value.ref d == Value.none)=true then _ else _) _ _ s;rw [aD0 (show ¬ ((Value.ref d == Value.none)=true) from az3)]
    refine aG1 (aG2 (aG1 (wpAny_dictEntries p n ?f)))
    case f =>
     rw [aD0 (by simp)];refine aG1 (aG2 (aG1 (wpAny_dictEpoch p n ?g)))
     case g =>
      rw [aD0 (by simp)];refine aG2 ?h
      case h =>
       simp only [show ¬ ((i:Int) < 0) by omega,if_false,Int.toNat_natCast,ay8 hi];refine aG1 ?j
       case j =>
        first | refine aG1 (wpAny_typeNameOfWhole_keyiter a.typeIs (aG2 (aG1 (wpAny_isOneOf_keyiter a.typeIs ?k)))) | refine aG1 (wpAny_typeNameOf_keyiter a.typeIs (aG2 (aG1 (wpAny_isOneOf_keyiter a.typeIs ?k))))
        case k =>
         show wpAny _ _ (setField (.ref it) 1 (rawInt ((i:Int)+1)) >>= _) _ _ s;refine aG1 (wpAny_setField q hd (by simp) ?l)
         case l =>
          have nx:(s.heap.update it (Obj.mapFields (·.setIfInBounds 1 (rawInt ((i:Int)+1))))).IsKeyIter it d (i+1) es.size ep:=⟨_,Heap.get?_update_self _ q (Obj.isFreed_of_fields (Obj.data_mapFields hd _)),(Obj.cls_mapFields ..).trans u,by rw [Obj.data_mapFields hd];simp [rawInt]⟩
          refine aG1 (aG6 (aG1 (wpAny_isOneOf_keyiter (s:={ s with heap:=s.heap.update it (Obj.mapFields (·.setIfInBounds 1 (rawInt ((i:Int)+1)))) }) nx.typeIs ?m)))
          case m=>show wpAny _ _ (pure es[i].key) _ _ _;exact aG2 (aG2 ⟨_,rfl,aG2 (x _ nx (Heap.SameBut.update ..))⟩)
theorem raw_end {Q:Option Value->Shared->Prop} (hh:A.handled=none) (i:s.heap.IsKeyIter it d es.size es.size ep) (r:Raw s.heap d es ep) (x:∀ h',Heap.ExtBut it s.heap h'->Q none { s with heap:=h' }):wpAny (model prog w) A (pyNext (.ref it)) Q E s:=by
 obtain ⟨o,u,y,hd⟩:=id i
 obtain ⟨od,p,v,n⟩:=r
 unfold pyNext
 refine aG1 (wpAny_attempt (wpAny_callSpecial?_slot (name:=Str.ofString "__next__") i.typeIs PySem.F.slot_dict_keyiterator_next (wpAny_call_entry PySem.F.slot_dict_keyiterator_next i.typeIs PySem.F.entry_dict_keyiterator_next ?b (PySem.F.args_dict_keyiterator_next_1 _))))
 case b =>
  refine aG1 (aG2 (aG1 (aG1 ?c)))
  case c =>
   first | refine aG1 (wpAny_typeNameOfWhole_keyiter i.typeIs (aG2 (aG1 (wpAny_fieldsOf u hd ?e)))) | refine aG1 (wpAny_typeNameOf_keyiter i.typeIs (aG2 (aG1 (wpAny_fieldsOf u hd ?e))))
   case e =>
    simp only [show Builtin.Dict_items.ownsTuple "dict_keyiterator" = false by decide,Bool.false_eq_true,if_false]
    show wpAny _ _ (if (Value.ref d == Value.none)=true then _ else _) _ _ s;rw [aD0 (show ¬ ((Value.ref d == Value.none)=true) from az3)]
    refine aG1 (aG2 (aG1 (wpAny_dictEntries p n ?f)))
    case f =>
     rw [aD0 (by simp)];refine aG1 (aG2 (aG1 (wpAny_dictEpoch p n ?g)))
     case g =>
      rw [aD0 (by simp)];refine aG2 ?h
      case h =>
       simp only [show ¬ ((es.size:Int) < 0) by omega,if_false,Int.toNat_natCast,Array.getElem?_eq_none (az0 es.size)];refine aG1 ?j
       case j =>
        first | refine aG1 (wpAny_typeNameOfWhole_keyiter i.typeIs (aG2 ?k)) | refine aG1 (wpAny_typeNameOf_keyiter i.typeIs (aG2 ?k))
        case k =>
         show wpAny _ _ (setField (.ref it) 0 .none >>= _) _ _ s;refine aG1 (wpAny_setField u hd (by simp) ?l)
         case l =>
          show wpAny _ _ (newExc (.type "StopIteration") [] >>= _) _ _ _;refine aG1 ?m
          case m =>
           simp only [newExc,newTuple];refine aG1 (aG9 ?zz2 (by size_fits))
           case zz2 =>
            refine aG1 (m:=firstArgMember _ _) (wpAny_of_eq (a:=Value.none) (by first | rfl | (simp only [firstArgMember];rfl)) (aG9 ?zz1 (by size_fits)))
            case zz1 =>
             simp only [raiseNew];refine aG1 (wpAny_handled ?q)
             case q =>
              rw [show A.in1.handled=none from hh];refine aG1 (aG2 (wpAny_throw ?u1))
              case u1=>refine aG1 (wpAny_isInstance (T:="StopIteration") (b:=true) ⟨_,aG5 _ rfl,rfl⟩ isSubtype_stop ?u2);exact aG2 (x _ (((Heap.SameBut.update ..).extBut.push _).push _))
end
theorem walks {prog:Program} {w:World} {A:Around} (hh:A.handled=none) (I d:Addr) (c:d ≠ I) (es:Array DictEntry) (f:Nat) :
  Walks prog w A I [I,d] [I] es.size (fun i v=>(es[i]?).map (·.key)=some v) (fun i h=>h.IsKeyIter I d i es.size f/\Raw h d es f) where
 sub:=fun b hb=>by simp at hb;simp [hb]
 frame:=fun _ _ _ st g=>⟨st.1.at fun o e=>g I (by simp) o e,st.2.keep fun o e=>g d (by simp) o e⟩
 item:=fun i s Q E hi st a=>raw_item st.1 st.2 hi fun h' nx sb=>a _ h' s.toks (by rw [ay8 hi];rfl) ⟨nx,st.2.keep fun o e=>sb.extBut d o c e⟩ fun b o hb e=>sb.extBut b o (fun z=>hb (by simp [z])) e
 done:=fun s Q E st a=>raw_end hh st.1 st.2 fun h' j=>a h' s.toks fun b o hb e=>j b o (fun z=>hb (by simp [z])) e
 self:=fun _ _ _ _ st a=>wpAny_pyIter_keyiter st.1 a
end DI
namespace DI
open PySem PySem.W PyProof.Rows
section
variable {prog:Program} {w:World} {A:Around} {E:Value->Shared->Prop} {s:Shared}
theorem src (d:Addr) (es:Array DictEntry) (a:Nat) (hd:(d == sysModules)=false):KdlSrc prog w "dict" d d es.size (fun i v=>(es[i]?).map (·.key)=some v) (fun h=>Raw h d es a) where
 type:=fun s r=>r.ty
 there:=fun h r=>let ⟨o,e,_⟩:=r;⟨aG4 e,aG4 e⟩
 keep:=fun h h' r k=>r.keep fun o e=>k d (.inl rfl) o e
 notList:=by decide
 notTuple:=by decide
 hint:=fun A E s Q r q=>kdl_hint_dict r.ty q
 iter:=fun A s hh r=>⟨{ cls:=.type "dict_keyiterator",data:=.fields #[.ref d,.int 0 0,.int es.size 0,.int a 0] },fun i h=>h.IsKeyIter s.heap.objs.size d i es.size a/\Raw h d es a,fun E Q q=>raw_iter hd r q,
  walks hh s.heap.objs.size d (by obtain ⟨o,e,_⟩:=r;exact az9 (aG4 e)) es a,⟨_,aG5 _ rfl,rfl,rfl⟩,r.keep fun o e=>aG3 _ e⟩
end
end DI
namespace TS
open PySem PySem.W PyProof.Rows
section
variable {prog:Program} {w:World} {A:Around} {E:Value->Shared->Prop} {s:Shared}
end
end TS
namespace L2
open PySem PySem.Spec PyProof.Rows
section
variable {X:Cx} {pins:List (Addr × Obj)} {σ:St} {H:Hp} {s:Shared} {h':Heap}
theorem Inv.turnNew {t':Nat} {ch:List Addr} {T:Addr} {o:HO} (I:Inv X pins σ H s) (f:∀ b∈ch,FpOk X pins H b) (k:∀ b u,b ∉ ch->s.heap.get? b=some u->h'.get? b=some u) (g:s.heap.objs.size<=T) (new:ObjOk X.prog X.w (upd H T o) h' T o) :
  Inv X pins σ (upd H T o) { s with heap:=h',toks:=t' }:=by
 have hn:H T=none:=I.hok.fresh g
 have d:∀ b u,H b=some u->b ∉ ch:=fun b u e z=>by rw [(f b z).1] at e;cases e
 refine I.step (g':=s.gens) (d':=s.drawn) (ch:=ch) (fun b hb=>⟨(f b hb).2.2.2.1,(f b hb).2.1,(f b hb).2.2.2.2.1,(f b hb).2.2.2.2.2⟩) (fun b u _ _ a e _=>k b u a e) (fun b u _ _ a e _=>⟨u.slots,k b u a e⟩)
  (fun b u _ e n=>by rw [aag (az9 (aA8 (aG4 e) g))];exact n) (fun b u a e=>⟨u,k b u a e⟩) (fun b xs e=>by rw [aag (aap e hn)];exact e) (fun b u v e=>by rw [aag (aap e hn)];exact e)
  (fun b ps e=>⟨#[],by rw [aag (aap e hn),e];simp⟩) (fun m hm=>?_) (fun b u e=>?_) I.bare
 ·obtain ⟨u,es,h,i,r⟩:=hm
  exact ⟨u,es,h,k _ u (fun z=>(f _ z).2.1 rfl) i,r⟩
 ·by_cases hb:b=T
  ·subst hb;rw [aai] at e;cases e;exact new
  ·rw [aag hb] at e
   refine (I.hok b u e).stay (fun c v a q=>k c v ?_ q) (fun c q=>by rw [aag (aap q hn)];exact q) fun c xs q=>by rw [aag (aap q hn)];exact q
   rcases a with z | z
   ·rw [z];exact d b u e
   ·exact d c _ z
theorem Inv.turnedL {t':Nat} {ch:List Addr} (I:Inv X pins σ H s) (f:∀ b∈ch,FpOk X pins H b) (k:∀ b u,b ∉ ch->s.heap.get? b=some u->h'.get? b=some u):Inv X pins σ H { s with heap:=h',toks:=t' }:=by
 have d:∀ b u,H b=some u->b ∉ ch:=fun b u e z=>by rw [(f b z).1] at e;cases e
 refine I.step (g':=s.gens) (d':=s.drawn) (ch:=ch) (fun b hb=>⟨(f b hb).2.2.2.1,(f b hb).2.1,(f b hb).2.2.2.2.1,(f b hb).2.2.2.2.2⟩) (fun b u _ _ a e _=>k b u a e) (fun b u _ _ a e _=>⟨u.slots,k b u a e⟩) (fun _ _ _ _ n=>n)
  (fun b u a e=>⟨u,k b u a e⟩) (fun _ _ e=>e) (fun _ _ _ e=>e) (fun b ps e=>⟨#[],by rw [e];simp⟩) (fun m hm=>?_) (fun b u e=>?_) I.bare
 ·obtain ⟨u,es,g,h,r⟩:=hm
  exact ⟨u,es,g,k _ u (fun z=>(f _ z).2.1 rfl) h,r⟩
 ·refine (I.hok b u e).stay (fun c v a q=>k c v ?_ q) (fun _ q=>q) fun _ _ q=>q
  rcases a with z | z
  ·rw [z];exact d b u e
  ·exact d c _ z
end
def Ite (K:Frag) (a:Addr):It :=
 ⟨fun i H=>∃ xs x,SqL K H a xs/\xs[i]?=some x,fun i H x H'=>∃ p y,x=.ref p/\H p=none/\H'=upd H p (.tup [.int i,y])/\∀ xs,SqL K H a xs->xs[i]?=some y,fun i H=>∃ xs,SqL K H a xs/\xs.length<=i⟩
theorem apo {P:Program} {w:World} {K:Frag} {f:List Expr} {k:Nat} {pos:Pos} (a e it:Addr) (C:e ≠ it) (O:a ≠ e) (B:a ≠ it) :
  Turn P w K (.Tuple f k pos) (Ite K a) [e,it] e (fun i h=>(∃ old,IsEnum h e it i old)/\h.IsListIter it a i) where
 mem:=by simp
 obj:=fun i h st b hb=>by
  obtain ⟨⟨old,g⟩,o,U,c,d⟩:=st
  rcases az2.mp hb with rfl | hb
  ·exact ⟨_,g,fun v z=>by simp at z⟩
  ·have:b=it:=by simpa using hb
   subst this
   exact ⟨o,U,fun v z=>by rw [d] at z;cases z⟩
 keep:=fun i h h' st q=>⟨let ⟨old,g⟩:=st.1;⟨old,q e (by simp) _ g⟩,st.2.at fun o x=>q it (by simp) o x⟩
 item:=by
  intro X l N S L i pins s σ H E I hf st D
  subst l N S
  obtain ⟨xs,x,r,G⟩:=D
  obtain ⟨its,J,p,hz⟩:=I.list r
  obtain ⟨u,Z,ru⟩:=J.get G
  have hi:i < its.toArray.size:=by simpa using (ay5.mp Z).1
  have W:=WalksT.enumerate (prog:=X.prog) (w:=X.w) (I.ok.hd L) e it a C O B its.toArray
  refine W.item i s _ _ hi ⟨st.1,st.2,p.isList⟩ fun T a0 h1 tk l Y F mid kk=>⟨_,rfl,?_⟩
  obtain ⟨t,y,M,rfl⟩:=l
  have ey:y=u:=by
   have:its[i]?=some y:=by simpa using M
   rw [Z] at this;cases this;rfl
  subst ey
  have aT:=W.apart i T _ mid
  refine W.go f k pos i T { s with heap:=h1,toks:=tk } _ _ mid fun h2 m k2=>?_
  have j:IsTup h2 T #[.int i t,y]:=by
   obtain ⟨o,U,e2,n,e3⟩:=F
   exact ⟨o,k2 T o aT U,e2,n,e3⟩
  refine ⟨.ref T,upd H T (.tup [.int i,x]),I.turnNew hf (fun b o hb q=>k2 b o hb (kk b o hb q)) Y ?_,rfl,⟨T,x,rfl,I.hok.fresh Y,rfl,fun ys M=>by rw [I.list_inj M r];exact G⟩,⟨?_,m.2.1⟩,fun b hb=>?_⟩
  ·exact ⟨by show (2:Nat)<=sizeLine;decide,[.int i t,y],.cons ⟨t,rfl⟩ (.cons ru .nil),j⟩
  ·obtain ⟨old,q⟩:=m.1
   exact ⟨old,by simpa using q⟩
  ·rw [aag]
   ·exact (hf b hb).1
   ·rintro rfl;exact aT hb
 done:=by
  intro X l N S L i pins s σ H E I hf st D
  subst l N S
  obtain ⟨xs,r,G⟩:=D
  obtain ⟨its,J,p,hz⟩:=I.list r
  obtain ⟨⟨old,g⟩,R⟩:=st
  have hl:=J.length
  exact wpAny_pyNext_enum_end (I.ok.hd L) g R p.isList (by simp;omega) fun h2 eb=>⟨rfl,I.turnedL (t':=s.toks) hf fun b o hb q=>eb b o (fun z=>hb (by simp [z])) q⟩
 self:=fun A i s Q E st h=>by
  obtain ⟨⟨old,g⟩,_⟩:=st
  exact wpAny_pyIter_enum g h
section
variable {X:Cx} {elts:List Expr} {k:Nat} {tpos:Pos}
def atb (K:Frag) (ta:TA):TI:=fun σ H R=>ta σ H fun vs H1=>∃ a xs,vs=[.ref a]/\SqL K H1 a xs/\R (Ite K a) H1
theorem avc {a:Expr} {l:TA} {p pos:Pos} (w:Gl X "enumerate") (hm:X.mg "enumerate" = none) (ha:PA X [a] l) (r:starEach [a] X.env=[(false,eval a X.env)]:=by rfl):PI X (.Tuple elts k tpos) (.Call (.Name "enumerate" p) [a] [] pos) (atb X.K l):=by
 intro pins s σ H R I h
 refine Call_ (acl I w hm ako (PyProof.Rows.callWith_type1 (thn (ha pos pins s σ H _ I h) fun us s1 ⟨vs,m,f,x,a,xs,z,v,q⟩=>?_) r rfl))
 subst z
 obtain ⟨u,rfl,y⟩:=acu x
 cases y
 obtain ⟨its,B,i,C⟩:=f.list v
 refine call_enumerate_list i.isList fun A j g hsz kp=>?_
 have d:a < s1.heap.objs.size:=by obtain ⟨o,n,e,_⟩:=i;exact aG4 e
 refine wpAny_pyIter_enum j ⟨s1.heap.objs.size+1,[s1.heap.objs.size+1,s1.heap.objs.size],_,_,m,rfl,f.kept (t':=s1.toks) kp,apo a _ _ (Nat.succ_ne_self _) (az9 (aD2 d)) (az9 d),⟨⟨_,j⟩,g⟩,fun b hb=>?_,q⟩
 have c:s1.heap.objs.size<=b:=by
  rcases az2.mp hb with rfl | hb
  ·exact Nat.le_succ _
  ·have:b=s1.heap.objs.size:=by simpa using hb
   exact Nat.le_of_eq this.symm
 exact f.fpOk c (f.hok.fresh c)
end
section
variable {X:Cx} {elts:List Expr} {k:Nat} {tpos:Pos}
end
theorem am7:∀ {xs:List V} {us:List Value},xs.length=us.length->(∀ (i:Nat) v u,xs[i]?=some v->us[i]?=some u->RelV v u)->Vals xs us
 | [],[],_,_ => .nil
 | [],_ :: _,h,_=>by simp at h
 | _ :: _,[],h,_=>by simp at h
 | x :: xs,u :: us,h,k => .cons (k 0 x u rfl rfl) (am7 (by simpa using h) fun i v w a b=>k (i+1) v w (by simpa using a) (by simpa using b))
theorem axp:bootBuiltins "abs" = some (.builtin "abs"):=by decide +kernel
theorem al8 (prog:Program) (w:World) (A:Around) {bs:List Bool} {us:List Value} (r:Vals (bs.map V.bl) us):TruthOf prog w A (fun i v=>us.toArray[i]?=some v) (fun i=>bs.getD i false):=by
 intro i v s Q E c h
 have a:us[i]?=some v:=by simpa using c
 have hi:i < us.length:=(ay5.mp a).1
 have hb:i < bs.length:=by have:=r.length;simp at this;omega
 obtain ⟨u,b,d⟩:=r.get (i:=i) (x:=.bl bs[i]) (by simp [hb])
 rw [a] at b;cases b
 cases (show v=Value.bool bs[i] from d)
 have e:bs.getD i false=bs[i]:=by simp [List.getD,hb]
 have h':Q (bs.getD i false) s:=h
 rw [e] at h'
 exact aH1 h'
section
variable {X:Cx}
theorem apq (bs:List Bool):((List.range bs.length).all fun i=>bs.getD i false)=bs.all id:=by
 rw [aF2,aC8,aC8]
 constructor
 ·intro h b hb
  obtain ⟨i,hi,e⟩:=aF0.mp hb
  have:=h i (aA2.mpr hi)
  simp [List.getD,hi,e] at this
  exact this
 ·intro h i hi
  have a:=aA2.mp hi
  have:=h bs[i] (List.getElem_mem a)
  simp [List.getD,a];exact this
def rAll (K:Frag):List V->Hp->VK->Prop:=fun xs H Q=>∃ (a:Addr) (bs:List Bool),xs=[.ref a]/\SqL K H a (bs.map V.bl)/\Q (.bl (bs.all id)) H
theorem apr (f:X.calm=true):abh X (.builtin "all") (rAll X.K):=by
 intro pins s σ H xs us Q I r h
 obtain ⟨a,bs,rfl,ha,q⟩:=h
 obtain ⟨u,rfl,g⟩:=acu r
 cases g
 obtain ⟨its,d,c,_⟩:=I.list ha
 have i:a < s.heap.objs.size:=by obtain ⟨o,n,e,_⟩:=c;exact aG4 e
 have j:its.toArray.size=bs.length:=by have:=d.length;simp at this;simp [this]
 refine call_all_walk (wpAny_pyIter_list c.isList ⟨_,[s.heap.objs.size,a],_,_,_,_,_,rfl,Walks.list (A:=X.A.in1) (I.ok.hd f) _ a (az9 i) its.toArray,⟨⟨_,aG5 _ rfl,rfl,rfl⟩,c.isList.push _⟩,al8 _ _ _ d,fun l m kp=>?_⟩)
 rw [j,apq]
 refine ⟨.bl _,H,I.kept fun b o e=>kp b o (fun z=>?_) (aG3 _ e),rfl,q⟩
 exact absurd (aG4 e) (by rw [aA5.mp z];exact aD8 _)
def rAbs:List V->Hp->VK->Prop:=fun xs H Q=>∃ i:Int,xs=[.int i]/\Q (.int (if i < 0 then -i else i)) H
theorem aps:abh X (.builtin "abs") rAbs:=by
 intro pins s σ H xs us Q I r h
 obtain ⟨i,rfl,q⟩:=h
 obtain ⟨u,rfl,t,rfl⟩:=acu r
 exact call_abs_int fun t' a=>⟨.int _,H,I.tok _,⟨_,rfl⟩,q⟩
def alg (K:Frag):List V->Hp->VK->Prop:=fun xs H Q=>∃ p ys,xs=[.ref p]/\(SqL K H p ys\/SqT K H p ys)/\∀ l,H l=none->Q (.ref l) (upd H l (.lst ys))
theorem an4:abh X (.type "list") (alg X.K):=ake
def apt (ta:TA):TE:=fun σ H Q=>ta σ H fun vs H1=>∃ j:Int,vs=[.int j]/\0<=j/\j<=1000000/\∀ l,H1 l=none->Q (.ref l) (upd H1 l (.lst ((List.range j.toNat).map fun (i:Nat)=>V.int (i:Int))))
theorem alh {a:Expr} {z:TA} {C p2 pos d:Pos} (J:Gl X "list") (hm:X.mg "list" = none) (r:Gl X "range") (w:X.mg "range" = none) (L:X.calm=true) (ha:PA X [a] z) (D:starEach [a] X.env=[(false,eval a X.env)]:=by rfl)
  (n:starEach [.Call (.Name "range" p2) [a] [] d] X.env=[(false,eval (.Call (.Name "range" p2) [a] [] d) X.env)]:=by rfl):PE X (.Call (.Name "list" C) [.Call (.Name "range" p2) [a] [] d] [] pos) (apt z):=by
 intro pins s σ H Q I h
 refine Call_ (acl I J hm ah0 (PyProof.Rows.callWith_type1 ?_ n rfl))
 rw [n]
 refine Calls.spliced_cons (Call_ (acl I r w boot_range (PyProof.Rows.callWith_type1 (thn (ha d pins s σ H _ I h) fun us s1 ⟨vs,R,y,K,j,O,T,S,q⟩=>?_) D rfl)))
 subst O
 obtain ⟨u,rfl,t,rfl⟩:=acu K
 refine call_range_1 (Calls.spliced_nil ?_)
 have F:IsRange (s1.heap.push { cls:=.type "range",data:=.fields #[.int 0 s1.toks,.int j t,.int 1 (s1.toks+1)] }) s1.heap.objs.size 0 j 1 s1.toks t (s1.toks+1):=aG5 _ rfl
 have hn:Builtin.Range.rangeSize 0 j 1=((j.toNat:Nat):Int):=by rw [rangeSize_one];split <;> omega
 refine call_list_range (s:={ s1 with heap:=s1.heap.push { cls:=.type "range",data:=.fields #[.int 0 s1.toks,.int j t,.int 1 (s1.toks+1)] },toks:=s1.toks+1+1 }) (y.ok.hd L) F (small_one (by omega) (by omega) (by omega) (by omega)) hn (by omega) fun G P m c kp A g=>?_
 have B:∀ b o,s1.heap.get? b=some o->G.get? b=some o:=fun b o e=>kp b o (aG3 _ e)
 have f:s1.heap.objs.size<=(s1.heap.push { cls:=.type "range",data:=.fields #[.int 0 s1.toks,.int j t,.int 1 (s1.toks+1)] }).objs.size:=by rw [aH0];exact Nat.le_succ _
 refine ⟨.ref _,_,y.laid (t':=P) (o:=.lst ((List.range j.toNat).map fun (i:Nat)=>V.int (i:Int))) B f ?_,rfl,q _ (y.hok.fresh f)⟩
 refine ⟨by rw [ay7,List.length_range];exact aD9 (VL.big (by omega)),m.toList,c,?_,by simpa using A⟩
 obtain ⟨E,x⟩:=g
 refine am7 (by simp [E]) fun i v u p N=>?_
 have l:m[i]?=some u:=by simpa using N
 obtain ⟨t',M⟩:=x i u l
 rw [ay9] at p
 have hi:i < j.toNat:=by
  have:=(Array.getElem?_eq_some_iff.mp l).1
  omega
 rw [ay4 (by simpa using hi)] at p
 simp at p
 subst p
 exact ⟨t',by rw [M];simp⟩
end
section
variable {X:Cx} {pins:List (Addr × Obj)} {σ:St} {H:Hp} {s:Shared}
theorem Inv.toFrz {a:Addr} {o:Obj} {u:HO} (I:Inv X pins σ H s) (e:H a=some u) (l:s.heap.get? a=some o) (g:∀ xs,u ≠ .tup xs) (j:∀ o v,u ≠ .frz o v) (nb:∀ ps,u ≠ .tbl ps) (h:∀ x,u ≠ .own x):Inv X pins σ (upd H a (.frz o u)) s:=by
 have ne:∀ b v,H b=some v->v ≠ u->b ≠ a:=fun b v f i z=>by subst z;rw [e] at f;exact i (aA9 f).symm
 have J:=I.un (t':=s.toks) (H':=upd H a (.frz o u)) (h':=s.heap) ⟨fun b o q _ _ _=>q,fun b o q _ _ _=>⟨o.slots,q⟩,fun b o q n _=>by rw [aag (aap e n).symm];exact n,fun b o q _=>⟨o,q⟩,fun b xs q=>by rw [aag (ne b _ q (fun z=>g xs z.symm))];exact q,
  fun b w v q=>by rw [aag (ne b _ q (fun z=>j w v z.symm))];exact q,fun b ps q=>⟨#[],by rw [aag (ne b _ q (fun z=>nb ps z.symm)),q];simp⟩⟩ fun b v q=>?_
 ·exact J
 ·have st:∀ c v,ObjOk X.prog X.w H s.heap c v->ObjOk X.prog X.w (upd H a (.frz o u)) s.heap c v:=fun c v x=>x.stay (fun _ _ _ q=>q) (fun d q=>by rw [aag (ne d _ q (fun z=>h c z.symm))];exact q) fun d xs q=>by rw [aag (ne d _ q (fun z=>g xs z.symm))];exact q
  by_cases hb:b=a
  ·subst hb;rw [aai] at q;cases q
   exact ⟨l,st _ _ (I.hok b u e)⟩
  ·rw [aag hb] at q
   exact st _ _ (I.hok b v q)
end
def Itd (a:Addr) (kvs:List (List Key × V)) (o:Obj):It :=
 ⟨fun i H=>i < kvs.length/\H a=some (.frz o (.dT kvs)),fun i H x H'=>H'=H/\∃ b k,x=.ref b/\H b=some (.tup (k.map kV))/\(kvs[i]?).map (·.1)=some k,fun i H=>kvs.length=i/\H a=some (.frz o (.dT kvs))⟩
theorem KT.get {H:Hp}:∀ {kvs:List (List Key × V)} {xs:List (List Key × Addr × Value)} {i:Nat} {p:List Key × V},KT H kvs xs->kvs[i]?=some p->∃ q,xs[i]?=some q/\p.1=q.1/\H q.2.1=some (.tup (p.1.map kV))
 | _,_,_,_,.nil,e=>by simp at e
 | _,_,0,_,.cons r _,e=>by simp at e;subst e;exact ⟨_,rfl,r.1,r.2.1⟩
 | _,_,i+1,p,.cons _ t,e=>by
  obtain ⟨q,a,b⟩:=KT.get (i:=i) (p:=p) t (by simpa using e)
  exact ⟨q,by simpa using a,b⟩
theorem avd {P:Program} {w:World} {K:Frag} {tg:Expr} (a it:Addr) {kvs:List (List Key × V)} {o:Obj} {es:Array DictEntry} {Q:Nat} (M:o.ExactDict) (hd:o.data=.dict es Q) (hz:es.size=kvs.length) (hn:a ≠ it) :
  Turn P w K tg (Itd a kvs o) [it] it (fun i h=>h.IsKeyIter it a i es.size Q) where
 mem:=by simp
 obj:=fun i h st b hb=>by
  have e:b=it:=by simpa using hb
  subst e
  obtain ⟨u,e,c,d⟩:=st
  exact ⟨u,e,fun v z=>by rw [d] at z;cases z⟩
 keep:=fun i h h' st q=>st.at fun u e=>q it (by simp) u e
 item:=by
  intro X A n F O i pins s σ H E I hf st l
  subst A n F
  obtain ⟨hi,D⟩:=l
  have f:i < es.size:=by omega
  obtain ⟨j,z,y,xs,G,o',U,Y,N,h2,L,Z,h5⟩:=(show ObjOk X.prog X.w H s.heap a (.frz o (.dT kvs)) from I.hok a _ D)
  rw [j] at N;cases N
  rw [hd] at L;cases L
  obtain ⟨p,J⟩:∃ p,kvs[i]?=some p:=⟨_,ay4 hi⟩
  obtain ⟨q,W,T,C⟩:=KT.get G J
  have g:es[i].key=.ref q.2.1:=by
   have:es.toList[i]?=some es[i]:=by simp [f]
   rw [Z,ay9,W] at this
   simp at this
   rw [← this];rfl
  obtain ⟨r,f1,S,B,m,x⟩:=hf it (by simp)
  refine DI.raw_item st ⟨o,j,M,hd⟩ f fun h' nx sb=>?_
  rw [g]
  have I1:Inv X pins σ H { s with heap:=h' }:=I.turned (t':=s.toks) (fun b u hb e=>(sb.2 b hb).trans e) r f1 B m x
  obtain ⟨u,e,c,d⟩:=id nx
  exact ⟨_,rfl,ajr (s:={ s with heap:=h' }) e c d (by decide) ⟨.ref q.2.1,H,I1,rfl,⟨rfl,q.2.1,p.1,rfl,C,by rw [J];rfl⟩,nx,fun b hb=>(hf b hb).1⟩⟩
 done:=by
  intro X A n F O i pins s σ H E I hf st l
  subst A n F
  obtain ⟨hi,D⟩:=l
  obtain ⟨j,_⟩:=(show ObjOk X.prog X.w H s.heap a (.frz o (.dT kvs)) from I.hok a _ D)
  obtain ⟨r,f1,S,B,m,x⟩:=hf it (by simp)
  have e:i=es.size:=by omega
  subst e
  exact DI.raw_end (I.ok.hd O) st ⟨o,j,M,hd⟩ fun h' R=>⟨rfl,I.turned (t':=s.toks) (fun b u hb e=>R b u hb e) r f1 B m x⟩
 self:=fun _ _ _ _ _ st h=>wpAny_pyIter_keyiter st h
section
variable {X:Cx} {tg:Expr}
def iDT (te:TE):TI:=fun σ H R=>te σ H fun x H1=>∃ a kvs,x=.ref a/\H1 a=some (.dT kvs)/\∀ o,R (Itd a kvs o) (upd H1 a (.frz o (.dT kvs)))
theorem ayl {l:Expr} {te:TE} (A:PE X l te):PI X tg l (iDT te):=by
 intro pins s σ H R I h
 refine thn (A pins s σ H _ I h) fun v s1 ⟨x,n,m,p,a,kvs,ex,i,q⟩=>?_
 subst ex
 cases p
 obtain ⟨z,y,xs,f,o,es,E,d,g,j,r,F⟩:=(show ObjOk X.prog X.w n s1.heap a (.dT kvs) from m.hok a _ i)
 have C:es.size=kvs.length:=by
  have B:es.toList.length=xs.length:=by rw [r];simp
  have D:=Paired.length f
  simp at B;omega
 have J:=m.toFrz (u:=.dT kvs) i d (fun _ z=>nomatch z) (fun _ _ z=>nomatch z) (fun _ z=>nomatch z) fun _ z=>nomatch z
 have c:a < s1.heap.objs.size:=aG4 d
 refine DI.raw_iter y ⟨o,d,g,j⟩ ⟨s1.heap.objs.size,[s1.heap.objs.size],_,_,_,rfl,J.kept (t':=s1.toks) fun b u e=>aG3 _ e,avd a _ g j C (az9 c),⟨_,aG5 _ rfl,rfl,rfl⟩,fun b hb=>?_,q o⟩
 have e:b=s1.heap.objs.size:=by simpa using hb
 subst e
 exact J.fpOk (az0 _) (J.hok.fresh (az0 _))
end
end L2
namespace VL
open PySem PySem.Spec L2
def enD (ds:List PyData):List PyData:=(List.range ds.length).map fun (i:Nat) => .tuple [.int (i:Int),ds.getD i .none]
theorem ae2 {ds:List PyData}:(enD ds).length=ds.length:=by simp [enD]
theorem am8 {ds:List PyData} {i:Nat} {d:PyData} (h:(enD ds)[i]?=some d):∃ x,ds[i]?=some x/\d=.tuple [.int (i:Int),x]:=by
 unfold enD at h
 rw [ay9] at h
 by_cases hi:i < ds.length
 ·rw [ay4 (by simpa using hi)] at h
  simp at h
  refine ⟨ds[i],ay4 hi,?_⟩
  rw [← h]
  simp [hi]
 ·rw [aD1.mpr (by simp;omega)] at h;cases h
theorem Out.tup2 {G H:Hp} {p:Addr} {x y:V} {d e:PyData} (g:Same G H) (h:H p=none) (a:Rp G x d) (b:Rp G y e):Out G H (.ref p) (upd G p (.tup [x,y])) (upd H p (.tup [x,y])) (.st (.tuple [d,e])) (fun _=>False):=Out.newT g h (.cons a (.cons b .nil))
section
variable {B:Bs} {env:En} {QI:List PyData->En->Prop} {QO:Sl->En->Prop} {Q':PyData->En->Prop} {K:Frag} {i:Nat} {ta:TA}
theorem ar5 (h:EvA B ta env fun vs e=>∃ ds,vs=[.list ds]/\QI (enD ds) e):EvI B (atb K ta) env QI:=fun σ G H F R I k =>
 h σ G H F _ I fun vs f m c ds D b z o l=>by
  obtain ⟨xs,w,q⟩:=l
  subst w
  cases o with
  | cons r t =>
   cases t
   cases r with
   | @lst a us _ ha rs =>
    refine ⟨a,us,rfl,SqL.of (b.gh _ _ ha),k _ f m c _ D b z ⟨fun i G' H' g h hi=>?_,fun i G' H' g h hi=>?_,fun i G' H' x H'' d g h ft hd y=>?_⟩ q⟩
    ·have:i < us.length:=by rw [rs.length];rw [ae2] at hi;exact hi
     exact ⟨us,us[i],SqL.of (h _ _ (g _ _ ha)),ay4 this⟩
    ·exact ⟨us,SqL.of (h _ _ (g _ _ ha)),by rw [rs.length];rw [ae2] at hi;exact Nat.le_of_eq hi.symm⟩
    ·obtain ⟨p,v,rfl,j,rfl,n⟩:=y
     obtain ⟨dx,C,rfl⟩:=am8 hd
     obtain ⟨u,A,s⟩:=rs.get C
     have:=n us (SqL.of (h _ _ (g _ _ ha)))
     rw [A] at this;cases this
     exact ⟨_,Out.tup2 h j (.int _) (s.same g)⟩
theorem RpT.len {G:Hp}:∀ {kvs:List (List Key × V)} {es:List (List Key × PyData)},RpT G kvs es->kvs.length=es.length/\kvs.map (·.1)=es.map (·.1)
 | _,_,.nil=>⟨rfl,rfl⟩
 | _,_,.cons _ t=>by
  obtain ⟨a,b⟩:=RpT.len t
  exact ⟨by simp [a],by simp [b]⟩
theorem ago {G:Hp}:∀ (a:List Key),Rps G (a.map kV) (a.map kD)
 | [] => .nil
 | .inl i :: r => .cons (.int i) (ago r)
 | .inr x :: r => .cons (.str x) (ago r)
@[reducible] def tkD (ks:List Key):PyData:=.tuple (ks.map kD)
theorem axq {es:List (List Key × PyData)} (e:env[i]?=some (some (.own (OT es)))) (q:QI (es.map fun p=>tkD p.1) (env.set i none)):EvI B (iDT (tVar i)) env QI:=fun σ G H F R I k=>by
 obtain ⟨v,u,⟨a,kvs,rfl,ha,rt,hf⟩,hb⟩:=I.sl i _ e
 refine ⟨_,u,a,kvs,rfl,ha,fun o=>?_⟩
 have c:F i a:=(hf a).mpr rfl
 have D:=(I.drop i).aside (p:=a) (o:=.frz o (.dT kvs)) (fun _ z=>nomatch z) (I.fg i a c) (fun j z=>by
  by_cases h:j=i
  ·subst h;exact putF_same.mp z
  ·rw [aa4 h] at z;exact h (I.fd j i a z c)) (hb a c)
 have J:=D.freeze (Fv:=(· = a)) (fun b z=>by rw [z];exact hb a c) (fun j b z y=>by
  rw [z] at y
  by_cases h:j=i
  ·subst h;exact putF_same.mp y
  ·rw [aa4 h] at y;exact h (I.fd j i a y c)) (fun b z=>by rw [z];exact I.fg i a c)
 have r:jn G (upd H a (.frz o (.dT kvs))) (· = a) a=some (.frz o (.dT kvs)):=(aed (F:=(· = a)) rfl).trans aai
 obtain ⟨A,s⟩:=RpT.len rt
 refine k _ _ _ _ _ _ J (abb fun b z=>by rw [z];exact I.fg i a c) ⟨fun n G' H' g h hn=>⟨by simp at hn;omega,h _ _ (g _ _ r)⟩,fun n G' H' g h hn=>⟨by simp at hn;omega,h _ _ (g _ _ r)⟩,fun n G' H' x H'' d g h ft hd y=>?_⟩ q
 obtain ⟨rfl,b,f,rfl,l,w⟩:=y
 have:d=tkD f:=by
  rw [ay9] at hd
  cases e2:es[n]? with
  | none=>rw [e2] at hd;cases hd
  | some p =>
   rw [e2] at hd;cases hd
   have m:(kvs.map (·.1))[n]?=some f:=by rw [ay9];exact w
   rw [s,ay9,e2] at m
   simp at m
   show tkD p.1=tkD f;rw [m]
 subst this
 exact ⟨G',Out.refl h (.tup (ft b f l) (ago f))⟩
@[reducible] def tiD (ns:List Int):PyData:=.tuple (ns.map .int)
def lexS (pss:List (List Int)):Prop:=pss.Pairwise fun x y=>HT.lexLt y x=false
theorem ali {G H:Hp} (ft:FT G H):∀ {vs:List V},(∀ v∈vs,TupI H v)->Rps G vs ((vs.map (kH H)).map tiD)
 | [],_ => .nil
 | v :: vs,h=>by
  obtain ⟨t,ns,rfl,e,_⟩:=h v aA1
  rw [aB4,aB4,anx e]
  have:(ns.map V.int)=(ns.map (fun i=>(Sum.inl i:Key))).map kV:=by rw [aB9];rfl
  refine .cons (.tup ?_ (Rps.ints ns)) (ali ft fun u a=>h u (az8 _ a))
  rw [this];exact ft t _ (by rw [← this];exact e)
theorem aga {G H:Hp} (gh:Same G H):∀ {vs:List V} {pss:List (List Int)},Rps G vs (pss.map tiD)->(∀ ns∈pss,ns ≠ [])->(∀ v∈vs,TupI H v)/\vs.map (kH H)=pss
 | _,[],.nil,_=>⟨fun v d=>by simp at d,rfl⟩
 | v :: vs,ns :: pss,.cons r t,hn=>by
  obtain ⟨i1,c⟩:=aga gh t fun b hm=>hn b (az8 _ hm)
  cases r with
  | tup h rs =>
   have:=Rps.ints_inv rs
   subst this
   have e:=gh _ _ h
   refine ⟨fun u a=>?_,by rw [aB4,anx e,c]⟩
   rcases az2.mp a with rfl | a
   ·exact ⟨_,ns,rfl,e,hn ns aA1⟩
   ·exact i1 u a
theorem apu {pss:List (List Int)} (hn:∀ ns∈pss,ns ≠ []) (h:EvA B ta env fun ds e=>ds=[.list (pss.map tiD)]/\∀ b:List (List Int),b.Perm pss->lexS b->QO (.own (OL (b.map tiD))) e):EvO B (tCB (ahb K) ta) env QO:=fun σ G H F Q I k =>
 h σ G H F _ I fun vs z f g ds x c w n i=>by
  obtain ⟨s,q⟩:=i
  subst s
  cases n with
  | cons r t =>
   cases t
   cases r with
   | @lst a us _ ha rs =>
    obtain ⟨t1,j⟩:=aga c.gh rs hn
    refine ⟨a,us,rfl,SqL.of (c.gh _ _ ha),t1,fun u p d m hf=>?_⟩
    have y:∀ v∈u,TupI f v:=fun v l=>t1 v (d.mem_iff.mp l)
    have o:=Out.newL c.gh hf (ali c.ft y)
    refine k _ _ _ g _ _ x (c.out o).1 (w.trans o.gg) (c.out o).2 (q _ ?_ ?_)
    ·have:=d.map (kH f);rw [j] at this;exact this
    ·unfold lexS;rw [aD5];exact m
end
section
variable {B:Bs} {env:En} {QO:Sl->En->Prop} {Q':PyData->En->Prop} {K:Frag} {i:Nat} {ta:TA} {R:Sl->Prop}
theorem Rps.bools_inv {G:Hp}:∀ {bs:List Bool} {vs:List V},Rps G vs (bs.map PyData.bool)->vs=bs.map V.bl
 | [],_,.nil=>rfl
 | b :: bs,_,.cons r t=>by
  cases r
  rw [Rps.bools_inv t];rfl
theorem ave {bs:List Bool} (h:R (.st (.bool (bs.all id)))):OpA (rAll K) [.list (bs.map .bool)] R:=fun G H vs Q gh rs k=>by
 cases rs with
 | cons r t =>
  cases t
  cases r with
  | lst ha ra =>
   have:=Rps.bools_inv ra
   subst this
   exact ⟨_,bs,rfl,SqL.of (gh _ _ ha),k _ _ _ _ _ (Out.refl gh (.bl _)) h⟩
theorem avf {n:Int} (h:R (.st (.int (if n < 0 then -n else n)))):OpA rAbs [.int n] R:=fun G H vs Q gh rs k=>by
 obtain rfl:vs=[V.int n]:=Rps.ints_inv (ns:=[n]) rs
 exact ⟨n,rfl,k _ _ _ _ _ (Out.refl gh (.int _)) h⟩
theorem ar6 {ds:List PyData} (h:R (.own (OL ds))):OpA (alg K) [.list ds] R:=fun G H vs Q gh rs k=>by
 cases rs with
 | cons r t =>
  cases t
  cases r with
  | lst ha ra=>exact ⟨_,_,rfl,.inl (SqL.of (gh _ _ ha)),fun p a=>k _ _ _ _ _ (Out.newL gh a ra) h⟩
theorem apv {G:Hp} (n:Nat):Rps G ((List.range n).map fun (i:Nat)=>V.int (i:Int)) (rngD 0 n):=by
 unfold rngD
 refine alf (by simp) fun i v d a hd=>?_
 rw [ay9] at a hd
 cases e:(List.range n)[i]? with
 | none=>rw [e] at a;cases a
 | some m=>rw [e] at a hd;cases a;cases hd;show Rp G (.int (m:Int)) (.int (0+(m:Int)));rw [aF9];exact .int _
theorem apw (h:EvA B ta env fun ds e=>∃ j:Int,ds=[.int j]/\0<=j/\j<=1000000/\QO (.own (OL (rngD 0 j.toNat))) e):EvO B (apt ta) env QO:=fun σ G H F Q I k =>
 h σ G H F _ I fun vs r s b ds n a l f d=>by
  obtain ⟨j,i,q,m,g⟩:=d
  subst i
  obtain rfl:vs=[V.int j]:=Rps.ints_inv (ns:=[j]) f
  refine ⟨j,rfl,q,m,fun p c=>?_⟩
  have o:=Out.newL a.gh c (apv j.toNat)
  exact k _ _ _ b _ _ n (a.out o).1 (l.trans o.gg) (a.out o).2 g
end
section
variable {κ:Type} [DecidableEq κ] {α:Type}
def valD (es:List (κ × α)) (k : κ):Option α:=(es.find? fun e=>decide (e.1=k)).map (·.2)
def putD (es:List (κ × α)) (k : κ) (d : α):List (κ × α):=if (es.any fun e=>decide (e.1=k))=true then es.map (fun e=>if e.1=k then (e.1,d) else e) else es ++ [(k,d)]
end
theorem RpK.val {G:Hp} {k:Key}:∀ {kvs:List (Key × V)} {es:List (Key × PyData)},RpK G kvs es->(valD es k=none->valV kvs k=none)/\∀ d,valD es k=some d->∃ v,valV kvs k=some v/\Rp G v d
 | _,_,.nil=>⟨fun _=>rfl,fun d h=>by cases h⟩
 | _,_,.cons (k:=k') r t=>by
  obtain ⟨i1,a⟩:=RpK.val (k:=k) t
  by_cases e:k'=k
  ·refine ⟨fun h=>by simp [valD,e] at h,fun d h=>?_⟩
   simp [valD,e] at h
   subst h
   exact ⟨_,by simp [valV,e],r⟩
  ·refine ⟨fun h=>?_,fun d h=>?_⟩
   ·simp [valV,e];simp [valD,e] at h
    have:=i1 (by simp [valD];exact h)
    simpa [valV] using this
   ·obtain ⟨v,b,c⟩:=a d (by simpa [valD,e] using h)
    exact ⟨v,by simpa [valV,e] using b,c⟩
theorem RpK.any {G:Hp} {k:Key}:∀ {kvs:List (Key × V)} {es:List (Key × PyData)},RpK G kvs es->(kvs.any fun e=>decide (e.1=k))=es.any fun e=>decide (e.1=k)
 | _,_,.nil=>rfl
 | _,_,.cons r t=>by simp [RpK.any t]
theorem RpK.map {G:Hp} {k:Key} {v:V} {d:PyData} (h:Rp G v d):∀ {kvs:List (Key × V)} {es:List (Key × PyData)},RpK G kvs es->RpK G (kvs.map fun e=>if e.1=k then (e.1,v) else e) (es.map fun e=>if e.1=k then (e.1,d) else e)
 | _,_,.nil => .nil
 | _,_,.cons (k:=k') r t=>by
  by_cases e:k'=k
  ·simp only [aB4,e,if_true];exact .cons h (RpK.map h t)
  ·simp only [aB4,e,if_false];exact .cons r (RpK.map h t)
theorem RpK.append {G:Hp}:∀ {a b:List (Key × V)} {c d:List (Key × PyData)},RpK G a c->RpK G b d->RpK G (a ++ b) (c ++ d)
 | _,_,_,_,.nil,s=>s
 | _,_,_,_,.cons r t,s => .cons r (RpK.append t s)
theorem RpK.put {G:Hp} {k:Key} {v:V} {d:PyData} (h:Rp G v d) {kvs:List (Key × V)} {es:List (Key × PyData)} (r:RpK G kvs es):RpK G (putK kvs k v) (putD es k d):=by
 unfold putK putD
 rw [r.any]
 split
 ·exact r.map h
 ·exact r.append (.cons h .nil)
theorem RpT.any {G:Hp} {k:List Key}:∀ {kvs:List (List Key × V)} {es:List (List Key × PyData)},RpT G kvs es->(kvs.any fun e=>decide (e.1=k))=es.any fun e=>decide (e.1=k)
 | _,_,.nil=>rfl
 | _,_,.cons r t=>by simp [RpT.any t]
theorem RpT.map {G:Hp} {k:List Key} {v:V} {d:PyData} (h:Rp G v d):∀ {kvs:List (List Key × V)} {es:List (List Key × PyData)},RpT G kvs es->RpT G (kvs.map fun e=>if e.1=k then (e.1,v) else e) (es.map fun e=>if e.1=k then (e.1,d) else e)
 | _,_,.nil => .nil
 | _,_,.cons (k:=k') r t=>by
  by_cases e:k'=k
  ·simp only [aB4,e,if_true];exact .cons h (RpT.map h t)
  ·simp only [aB4,e,if_false];exact .cons r (RpT.map h t)
theorem RpT.append {G:Hp}:∀ {a b:List (List Key × V)} {c d:List (List Key × PyData)},RpT G a c->RpT G b d->RpT G (a ++ b) (c ++ d)
 | _,_,_,_,.nil,s=>s
 | _,_,_,_,.cons r t,s => .cons r (RpT.append t s)
theorem RpT.put {G:Hp} {k:List Key} {v:V} {d:PyData} (h:Rp G v d) {kvs:List (List Key × V)} {es:List (List Key × PyData)} (r:RpT G kvs es):RpT G (putK kvs k v) (putD es k d):=by
 unfold putK putD
 rw [r.any]
 split
 ·exact r.map h
 ·exact r.append (.cons h .nil)
theorem RpK.length {G:Hp}:∀ {kvs:List (Key × V)} {es:List (Key × PyData)},RpK G kvs es->kvs.length=es.length
 | _,_,.nil=>rfl
 | _,_,.cons _ t=>by simp [RpK.length t]
theorem ahi {G:Hp} {v:V} {k:Key} (r:Rp G v (kD k)):v=kV k:=by
 cases k with
 | inl i=>cases r;rfl
 | inr x=>cases r;rfl
theorem apx {G:Hp}:∀ {a:List Key} {vs:List V},Rps G vs (a.map kD)->vs=a.map kV
 | [],_,.nil=>rfl
 | k :: a,_,.cons r t=>by rw [ahi r,apx t];rfl
section
variable {B:Bs} {env:En} {QO:Sl->En->Prop} {Q':PyData->En->Prop} {D':VEnds} {i:Nat} {te ty tv td:TE}
theorem apy (q:QO (.own (OT [])) env):EvO B ao0 env QO:=fun σ G H F Q I k p a=>by
 have o:=Out.newDT (ds:=[]) I.gh a .nil
 exact k _ _ _ F _ _ env (I.out o).1 o.gg (I.out o).2 q
theorem apz {es0:List (List Key × PyData)} (h:Ev B tv env fun d q=>Has q i (OT es0)/\Ev B ty q fun y p=>∃ es j,p[i]?=some (some (.own (OT es)))/\y=tkD j/\es.length<=999999/\D'.nx (p.set i (some (.own (OT (putD es j d)))))):EvS B (agx (tVar i) ty tv) D' env:=fun σ G H F D I r =>
 h σ G H F _ I fun v A J z d q w P M E=>by
  obtain ⟨N,O⟩:=E
  obtain ⟨R,l,a,kvs,rfl,ha,rt,_⟩:=w.has N
  refine ⟨_,l,O σ A J z _ w fun T K H2 F2 y p m s C ⟨es,j,c,x,U,L⟩=>?_⟩
  subst x
  obtain ⟨Q,f,⟨S,u,o,n,g,hf⟩,hb⟩:=m.sl i _ c
  rw [l] at f;cases f;cases o
  cases C with
  | tup hk rs =>
   have:=apx rs
   subst this
   refine ⟨a,_,rfl,DPut.t n (m.gh _ _ hk) (by rw [(RpT.len g).1];exact big (by omega)),?_⟩
   exact r.nx σ K _ _ _ (m.upd1 (A':=OT (putD es j d)) c (.inl rfl) l hf ⟨a,_,rfl,aai,g.put (M.same s),fun b=>Iff.rfl⟩) (P.trans s) L
theorem ap0 {es0:List (Key × PyData)} (h:Ev B tv env fun d o=>Has o i (OD es0)/\Ev B ty o fun y n=>∃ es k,n[i]?=some (some (.own (OD es)))/\y=kD k/\es.length<=999999/\D'.nx (n.set i (some (.own (OD (putD es k d)))))):EvS B (agx (tVar i) ty tv) D' env:=fun σ G H F D I r =>
 h σ G H F _ I fun v z E x d o u P L C=>by
  obtain ⟨M,N⟩:=C
  obtain ⟨R,j,a,kvs,rfl,ha,rt,_⟩:=u.has M
  refine ⟨_,j,N σ z E x _ u fun T J H2 F2 y n q p A ⟨es,O,c,w,U,K⟩=>?_⟩
  subst w
  obtain ⟨Q,f,⟨S,s,m,l,g,hf⟩,hb⟩:=q.sl i _ c
  rw [j] at f;cases f;cases m
  have:=ahi A
  subst this
  refine ⟨a,_,rfl,DPut.k l (by rw [g.length];exact big (by omega)),?_⟩
  exact r.nx σ J _ _ _ (q.upd1 (A':=OD (putD es O d)) c (.inl rfl) j hf ⟨a,_,rfl,aai,g.put (L.same p),fun b=>Iff.rfl⟩) (P.trans p) K
theorem an5 {es0:List (Key × PyData)} (h:Ev B ty env fun y c=>∃ es k,Has c i (OD es)/\y=kD k/\Q' (.bool (!(valD es k).isSome)) c):Ev B (afv ty (tVar i)) env Q':=fun σ G H F Q I k =>
 h σ G H F _ I fun u n H2 F2 y c f j l m=>by
  obtain ⟨es,b,s,g,q⟩:=m
  subst g
  obtain ⟨v,o,a,kvs,rfl,ha,rt,_⟩:=f.has s
  have:=ahi l
  subst this
  refine ⟨_,o,a,_,rfl,DGet.k ha,?_⟩
  have e:(valV kvs b).isSome=(valD es b).isSome:=by
   obtain ⟨i1,r⟩:=rt.val (k:=b)
   cases hd:valD es b with
   | none=>rw [i1 hd];rfl
   | some d=>obtain ⟨v,p,_⟩:=r d hd;rw [p];rfl
  rw [e]
  exact k _ n H2 F2 _ c f j (.bl _) q
theorem ar7 {es0:List (Key × PyData)} (s:Has env i (OD es0)) (h:Ev B ty env fun y c=>∃ es k d,Has c i (OD es)/\y=kD k/\valD es k=some d/\Q' d c):Ev B (ano (tVar i) ty) env Q':=fun σ G H F Q I k=>by
 obtain ⟨v,f,_⟩:=I.has s
 refine ⟨v,f,h σ G H F _ I fun z n H2 F2 y c g l m ⟨es,r,d,w,j,hd,q⟩=>?_⟩
 subst j
 obtain ⟨x,b,a,kvs,rfl,ha,rt,_⟩:=g.has w
 rw [f] at b;cases b
 have:=ahi m
 subst this
 obtain ⟨u,o,p⟩:=(rt.val (k:=r)).2 d hd
 exact ⟨a,u,rfl,by rw [← o];exact DGet.k ha,k _ n H2 F2 _ c g l p q⟩
end
section
variable {B:Bs} {env:En} {QO:Sl->En->Prop} {Q':PyData->En->Prop} {QE:En->Prop} {D':VEnds} {K:Frag} {i:Nat} {ta:TA}
theorem am9 {n:Nat} {a:TGs} {ds:List PyData} (b:ds.length=n) (h:EvGs B a ds env QE):EvG B (gLst K n a) (.st (.list ds)) env QE:=fun σ G H F v Fv Q I x k=>by
 obtain ⟨r,_⟩:=x.ok
 cases r with
 | lst ha rs=>exact ⟨_,_,rfl,SqL.of (I.gh _ _ ha),by rw [rs.length,b],h σ G H F _ Q I rs k⟩
theorem ahj {ns:List Int} {tl j:TO} (e:env[i]?=some (some (.scr ns))) (w:B.K=K) (h:EvOp B tl env fun lo g=>EvOp B j g fun hi c=>QO (.own (OL (cutD (ns.map .int) lo hi))) c):EvO B (tSl (rSlL K) (tVar i) tl j) env QO:=fun σ G H F Q I k=>by
 subst w
 obtain ⟨y,q,⟨a,v,l⟩,_⟩:=I.sl i _ e
 subst v
 refine ⟨_,q,h σ G H F _ I fun lo n H2 F2 g s d r=>r σ n H2 F2 _ s fun hi z H3 u c b f x=>⟨a,_,rfl,b.gh.seq (f.seq (d.seq l)),fun p m=>?_⟩⟩
 have o:=Out.newL (xs:=cutV (ns.map V.int) lo hi) (ds:=cutD (ns.map .int) lo hi) b.gh m (by
  unfold cutV cutD
  rw [ay7,ay7]
  exact ((Rps.ints ns).drop _).take _)
 exact k _ _ _ u _ _ c (b.out o).1 (d.trans (f.trans o.gg)) (b.out o).2 x
theorem ap1 {ns:List Int} {tl d:TO} (e:env[i]?=some (some (.scr ns))) (g:B.K=K) (h:EvOp B tl env fun lo j=>EvOp B d j fun hi f=>Q' (.list (cutD (ns.map .int) lo hi)) f):Ev B (tSl (rSlL K) (tVar i) tl d) env Q':=ach (ahj e g fun σ G H F Q I k=>h σ G H F Q I fun lo G' H' b c a g' q=>k lo G' H' b c a g' fun σ G H F Q I k=>q σ G H F Q I fun hi G' H' b c a g' q=>k hi G' H' b c a g' (aee q))
theorem ap2 (h:EvA B ta env fun ds e=>∃ ns:List Int,ds=[.list (ns.map .int)]/\ns.length < 64/\∀ b:List Int,b.Perm ns->b.Pairwise (·<=·)->QO (.own (OL (b.map .int))) e):EvO B (tCB (ag7 K) ta) env QO:=fun σ G H F Q I k =>
 h σ G H F _ I fun vs u v d ds s c n j g=>by
  obtain ⟨ns,m,q,l⟩:=g
  subst m
  cases j with
  | cons r t =>
   cases t
   cases r with
   | @lst a us _ ha rs =>
    have:=Rps.ints_inv rs
    subst this
    refine ⟨a,ns,rfl,SqL.of (c.gh _ _ ha),q,fun b p f i hf=>?_⟩
    have o:=Out.newL c.gh hf (Rps.ints b)
    exact k _ _ _ d _ _ s (c.out o).1 (n.trans o.gg) (c.out o).2 (l _ f i)
theorem x_en {ds:List PyData} {R:List PyData->Prop} (h:R ds):∃ xs,[PyData.list ds]=[.list xs]/\R xs:=⟨ds,rfl,h⟩
theorem avg {j:Int} {R:Int->Prop} (a:0<=j) (b:j<=1000000) (h:R j):∃ i:Int,[PyData.int j]=[.int i]/\0<=i/\i<=1000000/\R i:=⟨j,rfl,a,b,h⟩
theorem x_dT {es:List (List Key × PyData)} {a b:Int} {c:En} {R:List (List Key × PyData)->List Key->Prop} (e:c[i]?=some (some (.own (OT es)))) (f:es.length<=999999) (q:R es [.inl a,.inl b]):∃ es d,c[i]?=some (some (.own (OT es)))/\PyData.tuple [.int a,.int b]=tkD d/\es.length<=999999/\R es d:=⟨es,_,e,rfl,f,q⟩
theorem x_dK {es:List (Key × PyData)} {a:Int} {b:En} {R:List (Key × PyData)->Key->Prop} (e:b[i]?=some (some (.own (OD es)))) (c:es.length<=999999) (q:R es (.inl a)):∃ es k,b[i]?=some (some (.own (OD es)))/\PyData.int a=kD k/\es.length<=999999/\R es k:=⟨es,_,e,rfl,c,q⟩
theorem x_dN {es:List (Key × PyData)} {a:Int} {b:En} {R:List (Key × PyData)->Key->Prop} (e:Has b i (OD es)) (q:R es (.inl a)):∃ es k,Has b i (OD es)/\PyData.int a=kD k/\R es k:=⟨es,_,e,rfl,q⟩
theorem x_dG {es:List (Key × PyData)} {a:Int} {d:PyData} {b:En} {R:PyData->Prop} (e:Has b i (OD es)) (hd:valD es (.inl a)=some d) (q:R d):∃ es k d,Has b i (OD es)/\PyData.int a=kD k/\valD es k=some d/\R d:=⟨es,_,d,e,rfl,hd,q⟩
end
def ltP (p q:Int × Int):Prop:=p.1 < q.1\/(p.1=q.1/\p.2 < q.2)
@[reducible] def p2 (p:Int × Int):List Int:=[p.1,p.2]
theorem lex2 (p q:Int × Int):HT.lexLt (p2 p) (p2 q)=true ↔ ltP p q:=by
 obtain ⟨a,b⟩:=p
 obtain ⟨c,d⟩:=q
 simp [p2,HT.lexLt,ltP]
 split <;> omega
theorem an6 {a:List (List Int)} {ps:List (Int × Int)} (h:a.Perm (ps.map p2)):∃ b:List (Int × Int),a=b.map p2/\b.Perm ps:=by
 refine ⟨a.map fun l=>(l.getD 0 0,l.getD 1 0),?_,?_⟩
 ·rw [aB9]
  symm
  conv=>rhs;rw [← List.map_id a]
  apply aC5
  intro l c
  obtain ⟨p,_,rfl⟩:=aA0.mp (h.mem_iff.mp c)
  rfl
 ·have:=h.map fun l=>(l.getD 0 0,l.getD 1 0)
  rw [aB9] at this
  have e:((fun l:List Int=>(l.getD 0 0,l.getD 1 0)) ∘ p2)=id:=by funext p;rfl
  rw [e,List.map_id] at this
  exact this
def Rise (es:List (Int × Int)):Prop:=es.Pairwise ltP
theorem af4 (p:Int × Int):¬ ltP p p:=by unfold ltP;omega
theorem avh (p q:Int × Int):ltP p q\/p=q\/ltP q p:=by
 obtain ⟨a,b⟩:=p
 obtain ⟨c,d⟩:=q
 unfold ltP
 simp only [Prod.mk.injEq]
 omega
theorem axr {p q r:Int × Int} (h:ltP p q) (g:ltP q r):ltP p r:=by unfold ltP at *;omega
theorem avi {a ps:List (Int × Int)} (f:a.Perm ps) (hn:ps.Nodup) (b:lexS (a.map p2)):Rise a:=by
 have c:a.Nodup:=f.nodup_iff.mpr hn
 unfold lexS at b
 rw [aD5] at b
 unfold Rise
 refine (List.Pairwise.and b c).imp fun {p q} h=>?_
 have d:¬ ltP q p:=fun z=>by rw [(lex2 q p).mpr z] at h;exact absurd h.1 (by simp)
 rcases avh p q with z | z | z
 ·exact z
 ·exact absurd z h.2
 ·exact absurd z d
theorem Rise.nodup {es:List (Int × Int)} (h:Rise es):es.Nodup:=h.imp fun {p q} z (e:p=q)=>af4 q (by rw [e] at z;exact z)
theorem Rise.eq:∀ {as bs:List (Int × Int)},Rise as->Rise bs->(∀ p,p∈as ↔ p∈bs)->as=bs
 | [],[],_,_,_=>rfl
 | [],b :: _,_,_,h=>by have:=(h b).mpr aA1;simp at this
 | a :: _,[],_,_,h=>by have:=(h a).mp aA1;simp at this
 | a :: as,b :: bs,ha,hb,h=>by
  obtain ⟨c,g⟩:=aF8.mp ha
  obtain ⟨d,i⟩:=aF8.mp hb
  have e:a=b:=by
   rcases az2.mp ((h a).mp aA1) with e | e
   ·exact e
   ·rcases az2.mp ((h b).mpr aA1) with f | f
    ·exact f.symm
    ·exact absurd (axr (c b f) (d a e)) (af4 a)
  subst e
  have:=Rise.eq g i fun p=>by
   have j:=h p
   simp only [az2] at j
   constructor
   ·intro m
    rcases j.mp (.inr m) with e | e
    ·subst e;exact absurd (c p m) (af4 p)
    ·exact e
   ·intro m
    rcases j.mpr (.inr m) with e | e
    ·subst e;exact absurd (d p m) (af4 p)
    ·exact e
  rw [this]
structure WebOk (n:Int) (es:List (Int × Int)):Prop where
 lo:1<=n
 hi:n<=60
 inn:∀ p∈es,0<=p.1/\p.1 < p.2/\p.2 < n
 rise:Rise es
theorem WebOk.in {n:Int} {es:List (Int × Int)} (h:WebOk n es):InN n es:=fun p a=>by
 have:=h.inn p a;omega
theorem afp {n:Nat} {es:List (Int × Int)} (hn:es.Nodup) (hi:∀ p∈es,0<=p.1/\p.1 < (n:Int)/\0<=p.2/\p.2 < (n:Int)):es.length<=n * n:=by
 have h:(es.map fun (p:Int × Int)=>p.1 * (n:Int)+p.2).Nodup:=by
  unfold List.Nodup
  rw [aD5]
  refine aF4 ?_ hn
  intro p q c i d e
  have a:=hi p c
  have b:=hi q i
  apply d
  have f:p.1=q.1:=by
   rcases Int.lt_trichotomy p.1 q.1 with z | z | z
   ·have:(p.1+1) * n<=q.1 * n:=Int.mul_le_mul_of_nonneg_right (by omega) (by omega)
    rw [Int.add_mul] at this;omega
   ·exact z
   ·have:(q.1+1) * n<=p.1 * n:=Int.mul_le_mul_of_nonneg_right (by omega) (by omega)
    rw [Int.add_mul] at this;omega
  rw [f] at e
  exact Prod.ext f (by omega)
 have:=L2.few_places (n * n) _ h fun v g=>by
  obtain ⟨p,c,rfl⟩:=aA0.mp g
  have a:=hi p c
  have l:0<=p.1 * (n:Int):=Int.mul_nonneg a.1 (by omega)
  have j:(p.1+1) * (n:Int)<=n * n:=Int.mul_le_mul_of_nonneg_right (by omega) (by omega)
  rw [Int.add_mul] at j
  push_cast
  omega
 simpa using this
theorem WebOk.len {n:Int} {es:List (Int × Int)} (h:WebOk n es):es.length<=3600:=by
 have:=afp (n:=n.toNat) h.rise.nodup fun p b=>by have:=h.inn p b;have:=h.lo;omega
 have a:n.toNat<=60:=by have:=h.hi;omega
 exact aB3 this (Nat.mul_le_mul a a)
def kE (ps:List (Int × Int)):List (List Key × PyData):=ps.map fun p=>([Sum.inl p.1,Sum.inl p.2],.bool true)
def addP (ps:List (Int × Int)) (p:Int × Int):List (Int × Int):=if p∈ps then ps else ps ++ [p]
theorem aeg {ps:List (Int × Int)}:(kE ps).length=ps.length:=by simp [kE]
theorem ahk (ps:List (Int × Int)) (a b:Int):putD (kE ps) [Sum.inl a,Sum.inl b] (.bool true)=kE (addP ps (a,b)):=by
 have c:((kE ps).any fun e=>decide (e.1=[Sum.inl a,Sum.inl b]))=decide ((a,b)∈ps):=by
  rw [aF2,List.any_eq_true,decide_eq_true_iff]
  constructor
  ·rintro ⟨e,d,h⟩
   obtain ⟨p,f,rfl⟩:=aA0.mp d
   simp at h
   obtain ⟨g,p2⟩:=p
   simp at h
   rw [← h.1,← h.2];exact f
  ·intro h
   exact ⟨_,aA0.mpr ⟨(a,b),h,rfl⟩,by simp⟩
 unfold putD
 rw [c]
 unfold addP
 by_cases h:(a,b)∈ps
 ·rw [aC9 (by simpa using h),aC9 h]
  unfold kE
  rw [aB9]
  apply aC5
  intro p _
  simp only [Function.comp]
  split <;> rfl
 ·rw [aD0 (by simpa using h),aD0 h]
  simp [kE]
theorem addP_mem {ps:List (Int × Int)} {p q:Int × Int}:q∈addP ps p ↔ q∈ps\/q=p:=by
 unfold addP
 split
 ·rename_i h
  exact ⟨.inl,fun z=>z.elim id fun e=>e ▸ h⟩
 ·simp
theorem an7 {ps:List (Int × Int)} {p:Int × Int} (h:ps.Nodup):(addP ps p).Nodup:=by
 unfold addP
 split
 ·exact h
 ·rename_i hn
  rw [List.nodup_append]
  exact ⟨h,by simp,fun x b y a=>by simp at a;subst a;rintro rfl;exact hn b⟩
theorem avj (ps:List (Int × Int)):(kE ps).map (fun e=>tkD e.1)=ps.map prD:=by
 unfold kE;rw [aB9];rfl
theorem ap3 (ps:List (Int × Int)):(ps.map p2).map tiD=ps.map prD:=by rw [aB9];rfl
theorem aym {ps:List (Int × Int)}:∀ ns∈ps.map p2,ns ≠ []:=fun ns h=>by
 obtain ⟨p,_,rfl⟩:=aA0.mp h
 simp
section
variable {B:Bs} {env:En} {QO:Sl->En->Prop} {K:Frag} {i:Nat} {ta:TA}
theorem ap4 {ps:List (Int × Int)} (h:EvA B ta env fun ds e=>ds=[.list (ps.map prD)]/\∀ a:List (Int × Int),a.Perm ps->lexS (a.map p2)->QO (.own (OL (a.map prD))) e):EvO B (tCB (ahb K) ta) env QO :=
 apu (pss:=ps.map p2) aym fun σ G H F Q I k=>h σ G H F Q I fun vs G' H' l ds e j g r ⟨c,q⟩=>k vs G' H' l ds e j g r ⟨by rw [ap3];exact c,fun i b d=>by
  obtain ⟨a,rfl,f⟩:=an6 b
  rw [ap3];exact q a f d⟩
end
def OW (d:PyData) (ds:List PyData):Own where
 P:=fun G H v F=>∃ t l u vs,v=.ref t/\H t=some (.tup [u,.ref l])/\Rp G u d/\H l=some (.lst vs)/\Rps G vs ds/\∀ b,F b ↔ b=t\/b=l
 mono:=fun ⟨t,l,u,vs,e,h1,r1,h2,r2,f⟩ g hh=>⟨t,l,u,vs,e,hh t _ ((f t).mpr (.inl rfl)) h1,r1.same g,hh l _ ((f l).mpr (.inr rfl)) h2,r2.same g,f⟩
 dom:=fun ⟨t,l,u,vs,e,h1,r1,h2,r2,f⟩ b z=>by
  rcases (f b).mp z with rfl | rfl
  ·exact ⟨_,h1⟩
  ·exact ⟨_,h2⟩
theorem acn {d:PyData} {ds:List PyData}:Frz (OW d ds) (.tuple [d,.list ds]):=fun G H v F ⟨t,l,u,vs,e,b,a,c,h,f⟩ n g=>by
 subst e
 exact .tup (by rw [aed ((f t).mpr (.inl rfl))];exact b) (.cons (a.same (abb n)) (.cons (.lst (by rw [aed ((f l).mpr (.inr rfl))];exact c) (h.same (abb n))) .nil))
theorem atc {d:PyData} {ds:List PyData} {R:PyData->Prop} (h:R (.tuple [d,.list ds])):FQ (.own (OW d ds)) R:=⟨_,acn,h⟩
section
variable {B:Bs} {env:En} {QO:Sl->En->Prop} {Q':PyData->En->Prop} {K:Frag} {i j:Nat} {ta te:TE}
theorem ar8 {u:V} {l:Addr} {a:List Key}:HO.tup [u,.ref l] ≠ .tup (a.map kV):=by
 intro z
 injection z with z
 match a,z with
 | [],z=>cases z
 | [_],z=>cases z
 | [_,k],z =>
  simp at z
  cases k <;> simp [kV] at z
 | _ :: _ :: _ :: _,z=>simp at z
end
section
variable {B:Bs} {env:En} {Q':PyData->En->Prop} {D':VEnds} {i:Nat} {ty tv:TE}
theorem an8 {a:List (List Key × PyData)} (g:env[i]?=some (some (.own (OT a)))) (h:Ev B tv env fun d f=>Has f i (OT a)/\Ev B ty f fun y b=>∃ es c,b[i]?=some (some (.own (OT es)))/\y=tkD c/\es.length<=999999/\D'.nx (b.set i (some (.own (OT (putD es c d)))))):EvS B (agx (tVar i) ty tv) D' env:=apz h
theorem an9 {a:List (Key × PyData)} (f:env[i]?=some (some (.own (OD a)))) (h:Ev B tv env fun d c=>Has c i (OD a)/\Ev B ty c fun y b=>∃ es k,b[i]?=some (some (.own (OD es)))/\y=kD k/\es.length<=999999/\D'.nx (b.set i (some (.own (OD (putD es k d)))))):EvS B (agx (tVar i) ty tv) D' env:=ap0 h
theorem al9 {a:List (Key × PyData)} (c:Has env i (OD a)) (h:Ev B ty env fun y b=>∃ es k,Has b i (OD es)/\y=kD k/\Q' (.bool (!(valD es k).isSome)) b):Ev B (afv ty (tVar i)) env Q':=an5 (es0:=[]) h
end
section
variable {R:Sl->Prop} {K:Frag}
end
theorem aoa (ps:List (Int × Int)):plainDs (ps.map prD)=true:=by
 rw [ael]
 intro d hd
 obtain ⟨p,_,rfl⟩:=aA0.mp hd
 rfl
theorem adf {ds:List PyData} {m:Nat} (h:∀ d∈ds,d.depth<=m):PyData.depthAll ds<=m:=by
 induction ds with
 | nil=>simp [PyData.depthAll]
 | cons d ds ih =>
  simp only [PyData.depthAll]
  exact Nat.max_le.mpr ⟨h d aA1,ih fun e a=>h e (az8 _ a)⟩
theorem ap5 (p:Int × Int):(prD p).depth<=1:=by simp [prD,PyData.depth,PyData.depthAll]
theorem ada {d:PyData} (h:aal d=true):PyData.eqv d d=true:=(ais d d h h).mpr rfl
end VL
namespace VL
end VL
namespace VL
open PySem PySem.Spec L2
section
variable {B:Bs} {env:En} {Q':PyData->En->Prop} {K:Frag} {E:XK} {i:Nat}
end
end VL
namespace VL
open PySem L2
theorem ayn {B:Bs} {t:TS} {D':VEnds} {e:En} (h:EvS B t D' e):EvS B t D' e:=h
theorem ayo {B:Bs} {g:TG} {s:Sl} {e:En} {Q:En->Prop} (h:EvG B g s e Q):EvG B g s e Q:=h
theorem axs {B:Bs} {g:TGs} {s:List PyData} {e:En} {Q:En->Prop} (h:EvGs B g s e Q):EvGs B g s e Q:=h
theorem g_Ev {B:Bs} {t:TE} {e:En} {Q:PyData->En->Prop} (h:Ev B t e Q):Ev B t e Q:=h
theorem ayp {B:Bs} {t:TE} {e:En} {Q:Sl->En->Prop} (h:EvO B t e Q):EvO B t e Q:=h
theorem ayq {B:Bs} {t:TT} {e:En} {Q:Bool->En->Prop} (h:EvT B t e Q):EvT B t e Q:=h
theorem ayr {B:Bs} {t:TA} {e:En} {Q:List PyData->En->Prop} (h:EvA B t e Q):EvA B t e Q:=h
theorem ays {B:Bs} {t:TI} {e:En} {Q:List PyData->En->Prop} (h:EvI B t e Q):EvI B t e Q:=h
theorem axt {B:Bs} {t:TO} {e:En} {Q:Option Int->En->Prop} (h:EvOp B t e Q):EvOp B t e Q:=h
theorem ayt {r:R2} {x y:PyData} {R:Sl->Prop} (h:Op2 r x y R):Op2 r x y R:=h
theorem ayu {r:V->Hp->VK->Prop} {x:PyData} {R:Sl->Prop} (h:Op1 r x R):Op1 r x R:=h
theorem ayv {r:List V->Hp->VK->Prop} {x:List PyData} {R:Sl->Prop} (h:OpA r x R):OpA r x R:=h
theorem g_FQ {s:Sl} {R:PyData->Prop} (h:FQ s R):FQ s R:=h
theorem avk {ds:List PyData} {R:List PyData->Prop} (h:aj1 ds R):aj1 ds R:=h
theorem avl {ds:List PyData} {R:List PyData->Prop} (h:aj2 ds R):aj2 ds R:=h
structure PsOk (n:Int) (ps:List (Int × Int)):Prop where
 nd:ps.Nodup
 inn:∀ p∈ps,0<=p.1/\p.1 < p.2/\p.2 < n
theorem PsOk.nil (n:Int):PsOk n []:=⟨List.nodup_nil,fun p a=>by simp at a⟩
theorem PsOk.add {n a b:Int} {ps:List (Int × Int)} (h:PsOk n ps) (c:0<=a) (d:a < b) (f:b < n):PsOk n (addP ps (a,b)) :=
 ⟨an7 h.nd,fun p g=>by
  rcases addP_mem.mp g with q | q
  ·exact h.inn p q
  ·subst q;exact ⟨c,d,f⟩⟩
theorem PsOk.len {n:Int} {ps:List (Int × Int)} (h:PsOk n ps) (hn:n<=100):ps.length<=10000:=by
 by_cases h0:0<=n
 ·have:=afp (n:=n.toNat) h.nd fun p b=>by have:=h.inn p b;omega
  have a:n.toNat<=100:=by omega
  exact aB3 this (Nat.mul_le_mul a a)
 ·cases ps with
  | nil=>simp
  | cons p r=>have:=h.inn p aA1;omega
def Tr (n:Int) (ps:List (Int × Int)):Prop:=∀ k,1<=k->k < n->∃ h,0<=h/\h < k/\(h,k)∈ps
theorem Tr.add {n:Int} {ps:List (Int × Int)} {p:Int × Int} (h:Tr n ps):Tr n (addP ps p):=fun k d f=>by
 obtain ⟨x,a,b,c⟩:=h k d f
 exact ⟨x,a,b,addP_mem.mpr (.inl c)⟩
def Conn (n:Int) (T:Int->Int->Prop):Prop:=∀ u v,0<=u->u < n->0<=v->v < n->∃ k,Gr.Walk T u k v
theorem Tr.conn {n:Int} {ps:List (Int × Int)} (h:Tr n ps):Conn n (Tied ps):=by
 have d:∀ (m:Nat) (v:Int),v=m->v < n->∃ k,Gr.Walk (Tied ps) 0 k v:=by
  intro m
  induction m using Nat.strongRecOn with
  | ind m ih =>
   intro v i hn
   by_cases h0:m=0
   ·subst h0;have:v=0:=by omega
    subst this;exact ⟨0,.refl⟩
   ·obtain ⟨x,a,b,c⟩:=h v (by omega) hn
    obtain ⟨k,w⟩:=ih x.toNat (by omega) x (by omega) (by omega)
    exact ⟨k+1,.step w (.inl c)⟩
 intro u v o f l g
 obtain ⟨k,w⟩:=d u.toNat u (by omega) f
 obtain ⟨j,x⟩:=d v.toNat v (by omega) g
 exact ⟨k+j,(w.rev fun _ _ t=>t.symm).app x⟩
theorem Conn.joined {n:Int} {es:List (Int × Int)} (h:Conn n (Tied es)) (c:0 < n):Joined n es:=fun v a b=>by
 obtain ⟨k,w⟩:=h 0 v (by omega) (by omega) a b
 obtain ⟨d,_,hd⟩:=Gr.Dist.of_walk w
 exact ⟨d,hd⟩
theorem Joined.conn {n:Int} {es:List (Int × Int)} (h:Joined n es):Conn n (Tied es):=fun u v g c a b=>by
 obtain ⟨d,hd⟩:=h u g c
 obtain ⟨e,f⟩:=h v a b
 exact ⟨d+e,(hd.1.rev fun _ _ t=>t.symm).app f.1⟩
theorem Conn.mono {n:Int} {T a:Int->Int->Prop} (h:Conn n T) (g:∀ u v,T u v->a u v):Conn n a:=fun u v i d b c=>by
 obtain ⟨k,w⟩:=h u v i d b c
 exact ⟨k,w.rec .refl fun _ t f => .step f (g _ _ t)⟩
def Order (n:Int) (row:List Int):Prop:=row.Perm ((List.range n.toNat).map fun (i:Nat)=>(i:Int))
theorem Order.len {n:Int} {a:List Int} (h:Order n a):a.length=n.toNat:=by have:=h.length_eq;simpa using this
theorem Order.nodup {n:Int} {c:List Int} (h:Order n c):c.Nodup:=by
 refine h.nodup_iff.mpr ?_
 unfold List.Nodup
 rw [aD5]
 exact List.nodup_range.imp fun {a b} d e=>d (by omega)
theorem Order.mem {n:Int} {a:List Int} (h:Order n a) {v:Int}:v∈a ↔ 0<=v/\v < n:=by
 rw [h.mem_iff,aA0]
 constructor
 ·rintro ⟨i,hi,rfl⟩
  have:=aA2.mp hi
  omega
 ·rintro ⟨b,c⟩
  exact ⟨v.toNat,aA2.mpr (by omega),by omega⟩
theorem Order.get {n:Int} {b:List Int} (h:Order n b) {a:Int} (c:0<=a) (f:a < n):∃ x,b[a.toNat]?=some x/\atI b a=some x/\0<=x/\x < n:=by
 have d:a.toNat < b.length:=by rw [h.len];omega
 have e:b[a.toNat]?=some b[a.toNat]:=ay4 d
 have:=h.mem.mp (ay6 e)
 exact ⟨_,e,ahh c e,this.1,this.2⟩
theorem Order.inj {n:Int} {c:List Int} (h:Order n c) {a b x:Int} (a0:0<=a) (b0:0<=b) (ha:c[a.toNat]?=some x) (hb:c[b.toNat]?=some x):a=b:=by
 obtain ⟨f,g⟩:=ay5.mp ha
 obtain ⟨i,d⟩:=ay5.mp hb
 have:=nodup_ix h.nodup f i (g.trans d.symm)
 omega
theorem Order.id (n:Int):Order n ((List.range n.toNat).map fun (i:Nat)=>(i:Int)):=List.Perm.refl _
def abe (row:List Int) (a:Int):Int:=row.getD a.toNat 0
def reP (row:List Int) (p:Int × Int):Int × Int:=if abe row p.1 < abe row p.2 then (abe row p.1,abe row p.2) else (abe row p.2,abe row p.1)
theorem Order.at {n:Int} {b:List Int} (h:Order n b) {a:Int} (c:0<=a) (d:a < n):b[a.toNat]?=some (abe b a)/\0<=abe b a/\abe b a < n:=by
 obtain ⟨x,e,_,x0,f⟩:=h.get c d
 have:abe b a=x:=by unfold abe;rw [List.getD_eq_getElem?_getD,e];rfl
 rw [this];exact ⟨e,x0,f⟩
theorem Order.atI {n:Int} {b:List Int} (h:Order n b) {a:Int} (c:0<=a) (d:a < n):L2.atI b a=some (abe b a):=ahh c (h.at c d).1
theorem Order.ne {n:Int} {c:List Int} (h:Order n c) {a b:Int} (a0:0<=a) (g:a < n) (b0:0<=b) (j:b < n) (d:a ≠ b):abe c a ≠ abe c b:=fun e=>by
 have f:=(h.at a0 g).1
 have i:=(h.at b0 j).1
 rw [e] at f
 exact d (h.inj a0 b0 f i)
theorem PsOk.re {n:Int} {ps:List (Int × Int)} {c:List Int} (h:PsOk n ps) (o:Order n c):PsOk n (ps.map (reP c)):=by
 have inn:∀ p∈ps,0<=(reP c p).1/\(reP c p).1 < (reP c p).2/\(reP c p).2 < n:=fun p d=>by
  obtain ⟨p0,w,p2⟩:=h.inn p d
  have a:=o.at p0 (by omega)
  have b:=o.at (a:=p.2) (by omega) p2
  have ne:=o.ne p0 (by omega) (by omega) p2 (by omega)
  unfold reP
  split <;> dsimp only <;> omega
 refine ⟨?_,fun q g=>by obtain ⟨p,d,rfl⟩:=aA0.mp g;exact inn p d⟩
 unfold List.Nodup
 rw [aD5]
 refine aF4 ?_ h.nd
 intro p q d g f e
 apply f
 obtain ⟨p0,w,p2⟩:=h.inn p d
 obtain ⟨u,y,m⟩:=h.inn q g
 have inj:∀ a b,0<=a->a < n->0<=b->b < n->abe c a=abe c b->a=b:=fun a b a0 v b0 x e=>by
  apply Classical.byContradiction
  intro i
  exact o.ne a0 v b0 x i e
 have j:=inj p.1 q.1 p0 (by omega) u (by omega)
 have r:=inj p.2 q.2 (by omega) p2 (by omega) m
 have s:=inj p.1 q.2 p0 (by omega) (by omega) m
 have l:=inj p.2 q.1 (by omega) p2 u (by omega)
 unfold reP at e
 split at e <;> split at e <;> simp only [Prod.mk.injEq] at e
 ·exact Prod.ext (j e.1) (r e.2)
 ·have:=s e.1;have:=l e.2;omega
 ·have:=l e.1;have:=s e.2;omega
 ·exact Prod.ext (j e.2) (r e.1)
theorem Tied.re {ps:List (Int × Int)} {c:List Int} {u v:Int} (h:Tied ps u v):Tied (ps.map (reP c)) (abe c u) (abe c v):=by
 have d:∀ a b,(a,b)∈ps->Tied (ps.map (reP c)) (abe c a) (abe c b):=fun a b hm=>by
  have:=List.mem_map_of_mem (f:=reP c) hm
  unfold reP at this
  dsimp only at this
  split at this
  ·exact .inl this
  ·exact .inr this
 rcases h with h | h
 ·exact d u v h
 ·exact (d v u h).symm
theorem Conn.re {n:Int} {ps:List (Int × Int)} {d:List Int} (h:Conn n (Tied ps)) (o:Order n d):Conn n (Tied (ps.map (reP d))):=fun u v m j g p=>by
 have c:∀ x,0<=x->x < n->∃ a,0<=a/\a < n/\abe d a=x:=fun x x0 q=>by
  obtain ⟨i,hi,e⟩:=aF0.mp (o.mem.mpr ⟨x0,q⟩)
  refine ⟨i,by omega,by rw [o.len] at hi;omega,?_⟩
  unfold abe
  simp [hi,e]
 obtain ⟨a,a0,f,rfl⟩:=c u m j
 obtain ⟨b,b0,l,rfl⟩:=c v g p
 obtain ⟨k,w⟩:=h a b a0 f b0 l
 exact ⟨k,w.rec .refl fun _ t r => .step r t.re⟩
theorem Tied.perm {a ps:List (Int × Int)} (h:a.Perm ps) {u v:Int}:Tied a u v ↔ Tied ps u v:=by unfold Tied;rw [h.mem_iff,h.mem_iff]
theorem ar9 {n:Int} {ps a:List (Int × Int)} (c:1<=n) (d:n<=60) (h:PsOk n ps) (b:a.Perm ps) (f:lexS (a.map p2)):WebOk n a:=⟨c,d,fun p hm=>h.inn p (b.mem_iff.mp hm),avi b h.nd f⟩
theorem ahl {α:Type}:∀ {l:List α} {k:Nat} {x : α},l[k]?=some x->(x :: l.eraseIdx k).Perm l
 | [],_,_,h=>by simp at h
 | a :: l,0,x,h=>by simp at h;subst h;exact List.Perm.refl _
 | a :: l,k+1,x,h=>by
  have b:=ahl (l:=l) (k:=k) (x:=x) (by simpa using h)
  exact (List.Perm.swap a x _).trans (b.cons a)
theorem aob {n:Int} {a left:List Int} {k:Nat} {x:Int} (h:Order n (a ++ left)) (b:left[k]?=some x):Order n ((a ++ [x]) ++ left.eraseIdx k):=by
 refine List.Perm.trans ?_ h
 rw [az7]
 refine List.Perm.append_left a ?_
 exact ahl b
section
variable {B:Bs} {env:En} {g:TG} {tif:TT} {te:TE} {K:Frag} {src:List (Option Nat)} {ds:List PyData} {e1:En} {R:List PyData->En->Prop}
theorem ap6 {u:Frag} {α:Type} {xs:List α} {fa fb : α->PyData} (f : α->PyData) (p : α->Bool) (q:noIo (aan src e1)=true) (J:xs.length<=999999)
  (h:∀ x∈xs,∀ a:Bs,a.K=K->EvT a tif (some (.st (fa x)) :: some (.st (fb x)) :: aan src e1) fun b g=>b=p x/\g=some (.st (fa x)) :: some (.st (fb x)) :: aan src e1/\(b=true->Ev a te (some (.st (fa x)) :: some (.st (fb x)) :: aan src e1) fun y n=>y=f x/\n=some (.st (fa x)) :: some (.st (fb x)) :: aan src e1))
  (B:R ((xs.filter p).map f) e1):LcV K (none :: none :: src) (gLst u 2 (adb (aay 0) (adb (aay 1) gNil))) tif te (xs.map fun x => .list [fa x,fb x]) e1 R:=by
 have c:noIo (aan (none :: none :: src) e1)=true:=by
  show ((none :: none :: aan src e1).all fun s => !isIo s)=true
  rw [List.all_cons,List.all_cons]
  exact (aE5 _ _).mpr ⟨rfl,(aE5 _ _).mpr ⟨rfl,q⟩⟩
 refine ⟨fun i ys e=>ys=((xs.take i).filter p).map f/\∃ o o',e=stO o :: stO o' :: aan src e1,⟨by simp,none,none,rfl⟩,?_,?_,?_⟩
 ·rintro i ys e ⟨_,o,o',rfl⟩
  exact ⟨⟨isIo_stO.symm,acq⟩,⟨isIo_stO.symm,acq⟩,adn ade⟩
 ·rintro i d ys e hd ⟨rfl,o,o',rfl⟩ a C
  rw [ay9] at hd
  cases hx:xs[i]? with
  | none=>rw [hx] at hd;cases hd
  | some x =>
   rw [hx] at hd
   cases hd
   have hi:i < xs.length:=(ay5.mp hx).1
   have r:xs.take (i+1)=xs.take i ++ [x]:=by rw [aE8,hx];rfl
   refine am9 rfl (adm (aar (adm (aar (agm ?_)))))
   show EvT a tif (some (.st (fa x)) :: some (.st (fb x)) :: aan src e1) _
   intro σ G H F Q I k
   refine h x (ay6 hx) a C σ G H F Q I fun b G' H' l g j g' ⟨hb,w,z⟩=>k b G' H' l g j g' ?_
   subst w
   by_cases hp:b=true
   ·rw [aC9 hp]
    intro σ G H F Q I k
    refine z hp σ G H F Q I fun v G' H' l d' n j g' A ⟨D,m⟩=>k v G' H' l d' n j g' A ?_
    subst D m
    refine ⟨?_,?_,some _,some _,rfl⟩
    ·have:=List.length_filter_le p (xs.take i)
     simp only [ay7]
     have E:(xs.take i).length<=i:=by simp;omega
     omega
    ·rw [r,List.filter_append,aC1]
     have:p x=true:=by rw [← hb];exact hp
     simp [this]
   ·rw [aD0 hp]
    refine ⟨?_,some _,some _,rfl⟩
    rw [r,List.filter_append,aC1]
    have:p x=false:=by rw [← hb];simpa using hp
    simp [this]
 ·rintro ys e ⟨rfl,o,o',rfl⟩
  rw [af1 c]
  simpa using B
end
theorem ana (n:Nat):rngD 0 n=((List.range n).map fun (i:Nat)=>(i:Int)).map PyData.int:=by simp [rngD]
theorem alj {B:Bs} {t:TS} {D':VEnds} {env:En} (J:En->Prop) (h:EvS B t { D' with nx:=J } env) (k:∀ e,J e->D'.nx e):EvS B t D' env:=fun σ G H F D I r=>h σ G H F D I ⟨fun σ G' H F env a g q=>r.nx _ _ _ _ _ a g (k _ q),r.rt,r.bk,r.ct⟩
theorem af5 {B:Bs} {g:TG} {A:Own} {d:PyData} {env:En} {b:En->Prop} (f:Frz A d) (h:EvG B g (.st d) env b):EvG B g (.own A) env b:=fun σ G H F v Fv Q I x k =>
 h σ _ H F v _ Q (I.freeze x.fb x.fd x.fg) (ad5 (f G H v Fv x.ok x.fg I.gh)) fun a G' H' i j c g' q=>k a G' H' i j c ((abb x.fg).trans g') q
theorem alk {B:Bs} {t:TS} {D':VEnds} {env:En} {A:Own} {d:PyData} {s:Sl} (i:Nat) (h:s=.own A\/s=.st d) (e:env[i]?=some (some s)) (f:Frz A d) (q:EvS B t D' (env.set i (some (.st d)))):EvS B t D' env:=by
 rcases h with rfl | rfl
 ·exact af2 i e f q
 ·obtain ⟨hi,e⟩:=ay5.mp e
  rw [← e,List.set_getElem_self] at q
  exact q
theorem cutR {R X:Prop} (h:R->X) (r:R):X:=h r
end VL
namespace VL
open PySem PySem.Spec L2
def ad6 (e:En):Prop:=∀ (j:Nat) (s:Sl),e[j]?=some (some s)->(∃ d,s=.st d)\/∃ ns:List Int,s=.scr ns
def Sls (K:Frag) (G:Hp) (σ:St) (e:En):Prop:=∀ (j:Nat) (s:Sl),e[j]?=some (some s)->∃ v,σ[j]?=some (some v)/\((∃ d,s=.st d/\Rp G v d)\/∃ (ns:List Int) (a:Addr),s=.scr ns/\v=.ref a/\SqL K G a (ns.map V.int))
theorem Sls.same {K:Frag} {G G':Hp} {σ:St} {e:En} (h:Sls K G σ e) (g:Same G G'):Sls K G' σ e:=fun j s es=>by
 obtain ⟨v,c,q⟩:=h j s es
 refine ⟨v,c,?_⟩
 rcases q with ⟨d,b,r⟩ | ⟨ns,a,b,f,r⟩
 ·exact .inl ⟨d,b,r.same g⟩
 ·exact .inr ⟨ns,a,b,f,g.seq r⟩
def bsC (K:Frag) (G H:Hp) (σ:St):Bs:=⟨K,G,H,H,σ,noF⟩
theorem ai0 {K:Frag} {G H:Hp} {σ:St} {e:En} (gh:Same G H) (ft:FT G H) (ln : σ.length=e.length) (sl:Sls K G σ e):VI (bsC K G H σ) G H σ e noF:=by
 refine ⟨gh,Same.refl _,fun a o e => .inl e,Same.refl _,Same.refl _,fun a o e=>⟨o,e⟩,fun i a z=>z.elim,fun i a z=>z.elim,fun i j a z=>z.elim,fun i a z=>z.elim,fun i s es=>?_,ln,ft⟩
 obtain ⟨v,c,q⟩:=sl i s es
 refine ⟨v,c,?_⟩
 rcases q with ⟨d,b,r⟩ | ⟨ns,a,b,f,r⟩
 ·subst b;exact ⟨r,fun a z=>z⟩
 ·subst b;exact ⟨⟨a,f,r⟩,fun a z=>z⟩
theorem ahm {B:Bs} {K:Frag} {G H:Hp} {σ:St} {e:En} {F:Nat->Addr->Prop} (I:VI B G H σ e F) (c:ad6 e) (h:B.K=K:=by rfl):Sls K G σ e:=fun j s es=>by
 subst h
 obtain ⟨v,f,q⟩:=I.sl j s es
 refine ⟨v,f,?_⟩
 rcases c j s es with ⟨d,rfl⟩ | ⟨ns,rfl⟩
 ·exact .inl ⟨d,rfl,q.1⟩
 ·obtain ⟨⟨a,g,b⟩,_⟩:=q
  exact .inr ⟨ns,a,rfl,g,b⟩
section
variable {B:Bs} {env:En}
end
theorem adg {o:Option PyData} {e:En} (h:ad6 e):ad6 (stO o :: e):=fun j s es=>by
 cases j with
 | zero =>
  cases o with
  | none=>simp [stO] at es
  | some d =>
   have:s=.st d:=by simpa [stO] using es.symm
   exact .inl ⟨d,this⟩
 | succ j=>exact h j s (by simpa using es)
section
variable {B:Bs} {env:En} {Q':PyData->En->Prop} {QO:Sl->En->Prop} {c:TT} {ta tb:TE}
theorem avm (h:EvT B c env fun b e=>if b=true then EvO B ta e QO else EvO B tb e QO):EvO B (tIf c ta tb) env QO:=fun σ G H F Q I k =>
 h σ G H F _ I fun b j l i o n m q=>by
  cases b with
  | true=>rw [aC9 rfl] at q ⊢;exact q σ j l i Q n fun v G' H' f Fv d e a g r z=>k v G' H' f Fv d e a (m.trans g) r z
  | false=>rw [aD0 az3] at q ⊢;exact q σ j l i Q n fun v G' H' f Fv d e a g r z=>k v G' H' f Fv d e a (m.trans g) r z
end
def axu (e:En):Bool:=e.all fun o=>match o with | some (.own _)=>false | some (.io _)=>false | _=>true
theorem ap7 {e:En} (h:axu e=true):ad6 e:=fun j s es=>by
 have:=aC8.mp h (some s) (ay6 es)
 cases s with
 | st d=>exact .inl ⟨d,rfl⟩
 | scr ns=>exact .inr ⟨ns,rfl⟩
 | own A=>simp at this
 | io A=>simp at this
end VL
namespace VL
open PySem PySem.Spec L2 PyProof.Rows
end VL
namespace VL
open PySem PySem.Spec L2
section
variable {B:Bs} {env:En} {QO:Sl->En->Prop} {i:Nat}
theorem ap8 {k c:Int} (e:env[i]?=some (some (.st (.int k)))) (q:QO (.own (OD [(.inl k,.int c)])) env):EvO B (as7 [(tVar i,tC (.int c))]) env QO:=fun σ G H F Q I g p a=>by
 obtain ⟨v,f,r⟩:=I.sl i _ e
 obtain ⟨r,_⟩:=r
 cases r
 refine ⟨_,f,aai,[(.inl k,.int c)],rfl,by simp,?_⟩
 have o:=Out.newD (ds:=[(.inl k,.int c)]) (xs:=[(.inl k,.int c)]) I.gh a (.cons (.int c) .nil)
 have d:upd (upd H p (.dK [])) p (.dK (aeo [] [(Sum.inl k,V.int c)]))=upd H p (.dK [(.inl k,.int c)]):=by
  funext b
  unfold upd
  split <;> rfl
 rw [d]
 exact g _ _ _ F _ _ env (I.out o).1 o.gg (I.out o).2 q
theorem axv {k l:Key} (h:kD k=kD l):k=l:=by
 cases k <;> cases l <;> simp [kD] at h <;> first | rw [h] | cases h
theorem ap9:∀ {es fs:List (Key × PyData)},es.map (fun p=>(kD p.1,p.2))=fs.map (fun p=>(kD p.1,p.2))->es=fs
 | [],[],_=>rfl
 | [],_ :: _,h=>by simp at h
 | _ :: _,[],h=>by simp at h
 | a :: es,b :: fs,h=>by
  simp only [aB4,List.cons.injEq,Prod.mk.injEq] at h
  rw [ap9 h.2,Prod.ext (axv h.1.1) h.1.2]
theorem aqa {es:List (Key × PyData)} {ty:TE} {w:PyData->En->Prop} (m:es ≠ []) (e:env[i]?=some (some (.st (.dict (es.map fun p=>(kD p.1,p.2)))))) (h:Ev B ty env fun y f=>∃ k,y=kD k/\w ((valD es k).getD .none) f):Ev B (akk (tVar i) ty) env w:=fun σ G H F Q I o=>by
 obtain ⟨v,A,r⟩:=I.sl i _ e
 obtain ⟨r,_⟩:=r
 generalize hds:(es.map fun p=>(kD p.1,p.2))=ds at r
 cases r with
 | dt ha rt f =>
  exfalso
  rename_i es'
  rw [f] at hds
  cases es with
  | nil=>exact m rfl
  | cons a es =>
   cases es' with
   | nil=>simp at hds
   | cons b es' =>
    simp only [aB4,List.cons.injEq,Prod.mk.injEq] at hds
    have:=hds.1.1
    cases j:a.1 <;> rw [j] at this <;> simp [kD] at this
 | dk ha rt f =>
  rename_i a kvs es'
  rw [f] at hds
  have:=ap9 hds
  subst this
  refine ⟨.ref a,A,a,rfl,.inl ⟨kvs,Rd.of (I.gh _ _ ha)⟩,?_⟩
  refine h σ G H F _ I fun D n H2 F2 y s l g z ⟨k,x,q⟩=>?_
  subst x
  have:=ahi z
  subst this
  have c:=rt.same g
  refine ⟨valV kvs k,DGet.k (l.gh _ _ (g _ _ ha)),?_⟩
  cases hd:valD es k with
  | none =>
   rw [(c.val (k:=k)).1 hd]
   rw [hd] at q
   exact o _ n H2 F2 _ s l g .non q
  | some d =>
   obtain ⟨u,j,C⟩:=(c.val (k:=k)).2 d hd
   rw [j]
   rw [hd] at q
   exact o _ n H2 F2 _ s l g C q
end
mutual
theorem Rp.repL {G:Hp}:∀ {v:V} {d:PyData},Rp G v d->d.canLay0=true->Rep G v d
 | _,_,.non,_ => .non
 | _,_,.bl b,_ => .bl b
 | _,_,.int i,_ => .int i
 | _,_,.str x,_ => .str x
 | _,_,.lst h r,p => .lst h (Rps.repsL r (by simpa [PyData.canLay0] using p))
 | _,_,.tup h r,p => .tup h (Rps.repsL r (by simpa [PyData.canLay0] using p))
 | _,_,.dk h r e,p=>by simp [PyData.canLay0] at p
 | _,_,.dt h r e,p=>by simp [PyData.canLay0] at p
theorem Rps.repsL {G:Hp}:∀ {vs:List V} {ds:List PyData},Rps G vs ds->PyData.canLayAll0 ds=true->Reps G vs ds
 | _,_,.nil,_ => .nil
 | _,_,.cons r t,p=>by
  simp only [PyData.canLayAll0,aE5] at p
  exact .cons (Rp.repL r p.1) (Rps.repsL t p.2)
end
def rInL (neg:Bool):R2:=fun x y H Q=>∃ d es,Rep H x d/\(Rep H y (.list es)\/Rep H y (.tuple es))/\d.canLay0=true/\PyData.canLayAll0 es=true/\d.depth<=60/\Q (.bl (if neg then !es.any (fun z=>PyData.eqv z d) else es.any (fun z=>PyData.eqv z d))) H
section
variable {X:Cx}
theorem axw (i:X.A.units+64 < cLine):OpR X (compareOp .In) (rInL false):=fun pins s σ H x y v u Q I f c h=>by
 obtain ⟨d,es,g,re,hd,a,j,q⟩:=h
 obtain ⟨as,b⟩:=g.reads I f
 have hm:=Nat.min_le_right (PyData.depthAll es) d.depth
 rcases re with re | re <;> obtain ⟨bs,rb⟩:=re.reads I c
 ·exact SeqAt.in_list_reads rb b a hd (by omega) ⟨.bl _,H,I,rfl,q⟩
 ·exact SeqAt.in_tuple_reads rb b a hd (by omega) ⟨.bl _,H,I,rfl,q⟩
end
section
variable {R:Sl->Prop}
theorem avn {a:Bool} {x:PyData} {es:List PyData} (b:x.canLay0=true) (c:PyData.canLayAll0 es=true) (hd:x.depth<=60) (h:R (.st (.bool (if a then !es.any (fun z=>PyData.eqv z x) else es.any (fun z=>PyData.eqv z x))))):Op2 (rInL a) x (.list es) R:=fun G H i g Q gh f d k =>
 ⟨x,es,(f.repL b).same gh,.inl ((d.repL (by simpa [PyData.canLay0] using c)).same gh),b,c,hd,k _ _ _ _ _ (Out.refl gh (.bl _)) h⟩
end
end VL
namespace L2
open PySem PySem.Spec PyProof.Rows
section
variable {X:Cx}
variable {e est:Expr} {te:TE} {ts:TO} {pos p2:Pos}
end
end L2
namespace VL
open PySem PySem.Spec L2
section
variable {B:Bs} {env:En} {QO:Sl->En->Prop} {Q':PyData->En->Prop} {te tl:TE} {ts:TO} {K:Frag} {i:Nat}
end
theorem aoc {α:Type} [DecidableEq α]:∀ {as bs:List α},as.Nodup->(∀ a∈as,a∈bs)->as.length<=bs.length
 | [],_,_,_=>aD4 _
 | a :: as,bs,hn,hs=>by
  have ha:a∈bs:=hs a (aA1 ..)
  have b:=aF7.mp hn
  have h:=aoc (bs:=bs.erase a) b.2 fun x c=>(List.mem_erase_of_ne (show x ≠ a from fun e=>b.1 (by rw [← e];exact c))).mpr (hs x (az8 _ c))
  rw [List.length_erase_of_mem ha] at h
  have:0 < bs.length:=List.length_pos_of_mem ha
  simp only [aC2]
  omega
structure But (n:Int) (es rem:List (Int × Int)):Prop where
 rise:Rise es
 inn:∀ p∈es,0<=p.1/\p.1 < p.2/\p.2 < n
 all:∀ p:Int × Int,0<=p.1->p.1 < p.2->p.2 < n->p∈es\/p∈rem
theorem But.len {n:Int} {es rem:List (Int × Int)} (h:But n es rem) (hn:8<=n) (b:rem.length<=5):2<=es.length:=by
 have:=aoc (as:=[((0:Int),(1:Int)),(0,2),(0,3),(0,4),(0,5),(0,6),(0,7)]) (bs:=es ++ rem) (by decide) (fun p a=>by
  have:0<=p.1/\p.1 < p.2/\p.2 < 8:=by
   simp only [az2,List.not_mem_nil,or_false] at a
   rcases a with rfl | rfl | rfl | rfl | rfl | rfl | rfl <;> decide
  exact az1.mpr (h.all p this.1 this.2.1 (by omega)))
 simp at this
 omega
end VL
namespace L2
open PySem PySem.Spec PyProof.Rows
theorem aod (r:Addr) (a b c:Int) (t u v:Tok) (i:¬ ((!(Builtin.Range.rangeFitsLong a && Builtin.Range.rangeFitsLong b && Builtin.Range.rangeFitsLong c && Builtin.Range.rangeFitsLong (-c) && Builtin.Range.rangeFitsLong (a - c) && Builtin.Range.rangeFitsLong (Builtin.Range.rangeSize a b c)))=true)) :
  Meets (Builtin.«range.__reversed__» ⟨[.ref r],[]⟩) (fun _ R s=>s.heap.get? r=some { cls:=.type "range",dict:=none,data:=.fields #[.int a t,.int b u,.int c v],slots:=#[] } /\
   R (.ok (.ret (Value.ref s.heap.objs.size))) { s with heap:=s.heap.push { cls:=Value.type (if (Builtin.Range.rangeFitsLong a && Builtin.Range.rangeFitsLong b && Builtin.Range.rangeFitsLong c && Builtin.Range.rangeFitsLong (-c) && Builtin.Range.rangeFitsLong (a - c) && Builtin.Range.rangeFitsLong (Builtin.Range.rangeSize a b c))=true then "range_iterator" else "longrange_iterator"),data:=.fields #[rawInt (a+(Builtin.Range.rangeSize a b c - 1) * c),rawInt (Builtin.Range.rangeSize a b c),rawInt (-c)] } }) :=
 .of_wp fun prog w A R s h=>by obtain ⟨f,g,d,l,os⟩:=s;obtain ⟨j,h⟩:=h;wp_walk;exact ⟨_,rfl,h⟩
theorem aid:isSubtype (.type "range_iterator") (.type "reversed")=pure false:=by rw [isSubtype_type];kernel_rfl
section
variable {prog:Program} {w:World} {A:Around} {E:Value->Shared->Prop} {s:Shared}
theorem aqb {j:Int} (c : -(2 ^ 62)<=j) (d:j < 2 ^ 62):(Builtin.Range.rangeFitsLong 0 && Builtin.Range.rangeFitsLong j && Builtin.Range.rangeFitsLong 1 && Builtin.Range.rangeFitsLong (-1) && Builtin.Range.rangeFitsLong (0 - 1) && Builtin.Range.rangeFitsLong (Builtin.Range.rangeSize 0 j 1))=true:=by
 have e:=rangeSize_one 0 j
 have h:Builtin.Range.rangeSize 0 j 1=if 0 < j then j - 0 else 0:=by rw [e]
 have b:Builtin.Range.rangeFitsLong j=true:=by unfold Builtin.Range.rangeFitsLong;simp;omega
 have a:Builtin.Range.rangeFitsLong (Builtin.Range.rangeSize 0 j 1)=true:=by rw [h];unfold Builtin.Range.rangeFitsLong;split <;> simp <;> omega
 rw [b,a]
 rfl
theorem aqc (j:Int):Builtin.Range.rangeSize 0 j 1=(j.toNat:Int):=by rw [rangeSize_one];split <;> omega
theorem ahn {r:Addr} {j:Int} {t u v:Tok} {Q:Value->Shared->Prop} (a:IsRange s.heap r 0 j 1 t u v) (c : -(2 ^ 62)<=j) (d:j < 2 ^ 62)
  (h:Q (.ref s.heap.objs.size) { s with heap:=s.heap.push { cls:=.type "range_iterator",data:=.fields #[rawInt ((j.toNat:Int) - 1),rawInt (j.toNat:Int),rawInt (-1)] } }):wpAny (model prog w) A (call (.builtin "range.__reversed__") [.ref r]) Q E s:=by
 have b:s.TypeIs (.ref r) "range":=⟨_,a,rfl⟩
 have hf:=aqb c d
 refine call_meets F.slot_range_reversed b F.entry_range_reversed (F.args_range_reversed_1 _) (aod r 0 j 1 t u v (by rw [hf];decide)) ⟨a,?_⟩
 rw [hf,aC9 rfl,aqc,aF9,Int.mul_one]
 exact h
theorem ae9 {r:Addr} {j:Int} {t u v:Tok} {Q:Value->Shared->Prop} (b:IsRange s.heap r 0 j 1 t u v) (d : -(2 ^ 62)<=j) (f:j < 2 ^ 62)
  (h:Q (.ref s.heap.objs.size) { s with heap:=s.heap.push { cls:=.type "range_iterator",data:=.fields #[rawInt ((j.toNat:Int) - 1),rawInt (j.toNat:Int),rawInt (-1)] } }) :
  codeAny (model prog w) A (.call (.builtin "reversed.__new__") ⟨[.type "reversed",.ref r],[]⟩) (wants Q E) s:=by
 have c:s.TypeIs (.ref r) "range":=⟨_,b,rfl⟩
 refine codeAny_of_tree ?_
 show wpAny _ A.in1 (do checkBuiltinCall "reversed.__new__" ⟨[.type "reversed",.ref r],[]⟩;again (.builtin "reversed.__new__" ⟨[.type "reversed",.ref r],[]⟩)) _ _ s
 refine aG1 (wpAny_of_eq (F.newCall_reversed_1 _) (aG2 ⟨plainId_quiet F.plain_reversed_new _,codeAny_builtin F.entry_reversed_new ?_⟩))
 rw [Around.under_plainId F.plain_reversed_new _]
 unfold Builtin.«reversed.__new__»
 refine aG1 (wpAny_of_eq (newClass_reversed _) ?_)
 try dsimp only
 refine aG1 (wpAny_of_eq (a:=()) (by first | rfl | kernel_rfl) ?_)
 refine aG1 (wpAny_of_eq (a:=()) (by first | rfl | kernel_rfl) ?_)
 try dsimp only
 refine aG1 (wpAny_specialOf c F.slot_range_reversed.lookup ?_)
 try dsimp only
 refine aG1 (wpAny_of_eq (F.slot_range_reversed.bind _) ?_)
 try dsimp only
 first
 | rw [aD0 (show ¬ ((Value.builtin "range.__reversed__" == Value.none)=true) from az3)]
 | (show wpAny _ _ (if (Value.builtin "range.__reversed__" == Value.none)=true then _ else _) _ _ _;rw [aD0 (show ¬ ((Value.builtin "range.__reversed__" == Value.none)=true) from az3)])
 refine aG1 (wpAny_rule ?_)
 refine aG1 (m:=runValue (.call (.builtin "range.__reversed__") ⟨[.ref r],[]⟩)) (show wpAny _ _ (call (.builtin "range.__reversed__") [.ref r]) _ _ _ from ahn b d f ?_)
 first
 | exact aG2 h
 | exact aG1 (aG2 (aG2 h))
theorem afa {r:Addr} {j:Int} {t u v:Tok} {Q:Value->Shared->Prop} (c:IsRange s.heap r 0 j 1 t u v) (b : -(2 ^ 62)<=j) (d:j < 2 ^ 62)
  (h:Q (.ref s.heap.objs.size) { s with heap:=s.heap.push { cls:=.type "range_iterator",data:=.fields #[rawInt ((j.toNat:Int) - 1),rawInt (j.toNat:Int),rawInt (-1)] } }):wpAny (model prog w) A (call (.type "reversed") [.ref r]) Q E s:=by
 refine callType_other (U:="range_iterator") (Q₁:=fun obj a=>obj=.ref s.heap.objs.size/\a={ s with heap:=s.heap.push { cls:=.type "range_iterator",data:=.fields #[rawInt ((j.toNat:Int) - 1),rawInt (j.toNat:Int),rawInt (-1)] } }) (by decide +kernel) F.create_reversed ⟨_,_,F.mro_reversed⟩ F.made_reversed aid (F.typeCall_reversed_1 _) (ae9 c b d ⟨rfl,rfl⟩) ?_
 rintro obj a ⟨rfl,rfl⟩
 exact ⟨⟨_,aG5 _ rfl,rfl⟩,h⟩
end
def Itn (n:Nat):It:=⟨fun i _=>i < n,fun i H x H'=>H'=H/\x=.int ((n:Int) - 1 - i),fun i _=>n<=i⟩
theorem aqd {P:Program} {w:World} {K:Frag} {tg:Expr} (it:Addr) (n:Nat):Turn P w K tg (Itn n) [it] it (fun i h=>IsRangeIter h it (((n:Int) - 1)+(i:Nat) * (-1)) ((n:Int) - (i:Nat)) (-1)) where
 mem:=by simp
 obj:=fun i h st b hb=>by
  have e:b=it:=by simpa using hb
  subst e
  exact ⟨_,st,fun v z=>by
   have A:Data.fields _=Data.cell v:=z
   cases A⟩
 keep:=fun i h h' st k=>k it (by simp) _ st
 item:=by
  intro X d c m l i pins s σ H E I hf st g
  subst d c m
  obtain ⟨p,f1,y,f,j,a⟩:=hf it (by simp)
  have W:=Walks.range (prog:=X.prog) (w:=X.w) (I.ok.hd l) it ((n:Int) - 1) (-1) n
  refine W.item i s _ _ g st fun v h' q u st' x=>?_
  obtain ⟨t,rfl⟩:=u
  have B:Inv X pins σ H { s with heap:=h',toks:=q }:=I.turned (fun b o hb e=>x b o (by simpa using hb) e) p f1 f j a
  refine ⟨_,rfl,ajr (s:={ s with heap:=h',toks:=q }) (n:="range_iterator") st' rfl rfl (by decide) ⟨.int ((n:Int) - 1 - i),H,B,⟨t,?_⟩,⟨rfl,rfl⟩,st',fun b hb=>(hf b hb).1⟩⟩
  rw [show (n:Int) - 1+(i:Int) * -1=(n:Int) - 1 - i by omega]
 done:=by
  intro X d c m l i pins s σ H E I hf st g
  subst d c m
  obtain ⟨p,f1,y,f,j,a⟩:=hf it (by simp)
  exact wpAny_pyNext_range_end (I.ok.hd l) st (by have:n<=i:=g;omega) fun h' r=>⟨rfl,I.turned (t':=s.toks) (fun b o hb e=>r b o hb e) p f1 f j a⟩
 self:=fun _ _ _ _ _ st h=>wpAny_pyIter_rangeiter st h
section
variable {X:Cx} {tg:Expr}
def atd (ta:TA):TI:=fun σ H R=>ta σ H fun vs H1=>∃ j:Int,vs=[.int j]/\-(2 ^ 62)<=j/\j < 2 ^ 62/\R (Itn j.toNat) H1
theorem avo {a:Expr} {n:TA} {p pos p2 c:Pos} (f:Gl X "reversed") (g:X.mg "reversed" = none) (w:Gl X "range") (hm:X.mg "range" = none) (ha:PA X [a] n) (v:starEach [a] X.env=[(false,eval a X.env)]:=by rfl)
  (d:starEach [.Call (.Name "range" p) [a] [] pos] X.env=[(false,eval (.Call (.Name "range" p) [a] [] pos) X.env)]:=by rfl):PI X tg (.Call (.Name "reversed" p2) [.Call (.Name "range" p) [a] [] pos] [] c) (atd n):=by
 intro pins s σ H R I h
 refine Call_ (acl I f g boot_reversed (PyProof.Rows.callWith_type1 ?_ d rfl))
 rw [d]
 show wpAny _ _ (spliced ((false,eval (.Call (.Name "range" p) [a] [] pos) X.env) :: backTo c [])) _ _ s
 refine Calls.spliced_cons ?_
 refine Call_ (acl I w hm boot_range (PyProof.Rows.callWith_type1 (thn (ha pos pins s σ H _ I h) fun us s1 ⟨vs,m,y,x,l⟩=>?_) v rfl))
 obtain ⟨j,e,l,u,q⟩:=l
 subst e
 cases x with
 | cons r rr =>
  cases rr
  obtain ⟨t,rfl⟩:=r
  refine call_range_1 ?_
  refine Calls.spliced_nil ?_
  refine afa (IsRange.new ..) l u ?_
  have i:Inv X pins σ m { s1 with heap:=s1.heap.push { cls:=.type "range",data:=.fields #[.int 0 s1.toks,.int j t,.int 1 (s1.toks+1)] },toks:=s1.toks+1+1 }:=y.kept fun b o e=>aG3 _ e
  have st:IsRangeIter ((s1.heap.push { cls:=.type "range",data:=.fields #[.int 0 s1.toks,.int j t,.int 1 (s1.toks+1)] }).push { cls:=.type "range_iterator",data:=.fields #[rawInt ((j.toNat:Int) - 1),rawInt (j.toNat:Int),rawInt (-1)] }) (s1.heap.push { cls:=.type "range",data:=.fields #[.int 0 s1.toks,.int j t,.int 1 (s1.toks+1)] }).objs.size (((j.toNat:Int) - 1)+((0:Nat):Int) * (-1)) ((j.toNat:Int) - ((0:Nat):Int)) (-1):=by
   rw [show ((j.toNat:Int) - 1)+((0:Nat):Int) * (-1)=(j.toNat:Int) - 1 by omega,show (j.toNat:Int) - ((0:Nat):Int)=(j.toNat:Int) by omega]
   exact aG5 _ rfl
  refine wpAny_pyIter_rangeiter st ?_
  refine ⟨_,[(s1.heap.push { cls:=.type "range",data:=.fields #[.int 0 s1.toks,.int j t,.int 1 (s1.toks+1)] }).objs.size],_,_,m,rfl,i.kept (t':=s1.toks+1+1) fun b o e=>aG3 _ e,aqd _ j.toNat,st,fun b hb=>?_,q⟩
  have e:b=(s1.heap.push { cls:=.type "range",data:=.fields #[.int 0 s1.toks,.int j t,.int 1 (s1.toks+1)] }).objs.size:=by simpa using hb
  subst e
  exact i.fpOk (az0 _) (i.hok.fresh (az0 _))
end
end L2
namespace VL
open PySem PySem.Spec L2
def dnD (n:Nat):List PyData:=(List.range n).map fun (i:Nat) => .int ((n:Int) - 1 - (i:Int))
theorem ads (n:Nat):(dnD n).length=n:=by simp [dnD]
theorem anb {n i:Nat} {d:PyData} (h:(dnD n)[i]?=some d):i < n/\d=.int ((n:Int) - 1 - (i:Int)):=by
 have hi:i < n:=by have:=(ay5.mp h).1;rwa [ads] at this
 refine ⟨hi,?_⟩
 unfold dnD at h
 rw [ay9,List.getElem?_range hi] at h
 exact (aA9 h).symm
theorem axx {G:Hp} {n:Nat}:ItOk G (Itn n) (dnD n):=by
 refine ⟨fun i G' H' g h hi=>?_,fun i G' H' g h hi=>?_,fun i G' H' x H'' d g h ft hd y=>?_⟩
 ·rw [ads] at hi;exact hi
 ·rw [ads] at hi;exact Nat.le_of_eq hi.symm
 ·obtain ⟨e,y⟩:=y
  subst e y
  rw [(anb hd).2]
  exact ⟨G',Out.refl h (.int _)⟩
section
variable {B:Bs} {env:En} {g:TG} {tb:TS} {D':VEnds} {QI:List PyData->En->Prop}
theorem asa {a:TA} (h:EvA B a env fun ds e=>∃ j:Int,ds=[.int j]/\-4611686018427387904<=j/\j < 4611686018427387904/\QI (dnD j.toNat) e):EvI B (atd a) env QI:=fun σ G H F R I k =>
 h σ G H F _ I fun vs c f b ds n o m g d=>by
  obtain ⟨j,l,q,p,i⟩:=d
  subst l
  obtain rfl:vs=[V.int j]:=Rps.ints_inv (ns:=[j]) g
  exact ⟨j,rfl,by omega,by omega,k _ c f b _ n o m axx i⟩
theorem aqe {n:Nat} (J:Nat->En->Prop) (b:J 0 env) (c:∀ i e,i < n->J i e->EvG B g (.st (.int ((n:Int) - 1 - (i:Int)))) e fun a=>EvS B tb { D' with nx:=J (i+1),ct:=J (i+1),bk:=D'.nx } a) (hd:∀ e,J n e->D'.nx e):ForV B g tb D' (dnD n) env :=
 ⟨J,b,fun i d e h j=>by obtain ⟨hi,rfl⟩:=anb h;exact c i e hi j,fun e j=>hd e (by rw [ads] at j;exact j)⟩
end
end VL
namespace PopT
open PySem PyProof.Rows
section
variable {prog:Program} {w:World} {K:Type} [DecidableEq K] {knd:HeapKind prog w K} {A:Around} {E:Value->Shared->Prop} {s:Shared}
end
end PopT
namespace L2
open PySem PySem.Spec PySem.W PyProof.Rows
theorem KT.at {H:Hp} {kvs:List (List Key × V)} {xs:List (List Key × Addr × Value)} (r:KT H kvs xs):∀ {j:Nat} {k:List Key} {v:V},kvs[j]?=some (k,v)->∃ p:Addr × Value,xs[j]?=some (k,p)/\RelV v p.2:=by
 induction r with
 | nil=>intro j k v e;simp at e
 | @cons p q ps qs hq t ih =>
  intro j k v e
  cases j with
  | zero =>
   have e:p=(k,v):=by simpa using e
   subst e
   exact ⟨q.2,by rw [List.getElem?_cons_zero,show k=q.1 from hq.1],hq.2.2⟩
  | succ j=>exact ih (by simpa using e)
section
variable {X:Cx} {pins:List (Addr × Obj)} {σ:St} {H:Hp} {s:Shared} {a b:Addr} {A:Around} {E:Value->Shared->Prop}
end
section
variable {X:Cx} {o e f:Expr} {apos cpos:Pos} {td ty tx:TE}
end
end L2
namespace DNe
open PySem PyProof.Rows
end DNe
namespace L2
open PySem PySem.Spec PySem.W PyProof.Rows
end L2
namespace DNe
open PySem PyProof.Rows
section
variable {prog:Program} {w:World} {A:Around} {E:Value->Shared->Prop} {s:Shared}
end
end DNe
namespace L2
open PySem PySem.Spec PySem.W PyProof.Rows
end L2
namespace VL
open PySem PySem.Spec L2
section
variable {B:Bs} {env:En} {Q':PyData->En->Prop} {QO:Sl->En->Prop} {i:Nat} {ty:TE}
theorem RpT.at {G:Hp}:∀ {kvs:List (List Key × V)} {es:List (List Key × PyData)},RpT G kvs es->∀ {j:Nat} {a:List Key} {d:PyData},es[j]?=some (a,d)->∃ v,kvs[j]?=some (a,v)/\Rp G v d
 | _,_,.nil,j,a,d,e=>by simp at e
 | _,_,.cons (k:=k) (v:=v) (d:=d0) h t,0,a,d,e=>by
  have e:(k,d0)=(a,d):=by simpa using e
  cases e
  exact ⟨v,rfl,h⟩
 | _,_,.cons h t,j+1,a,d,e=>by
  obtain ⟨v,b,r⟩:=RpT.at t (j:=j) (by simpa using e)
  exact ⟨v,by simpa using b,r⟩
end
section
variable {B:Bs} {env:En} {QO:Sl->En->Prop} {Q':PyData->En->Prop} {K:Frag} {i:Nat}
end
section
variable {B:Bs} {env:En} {QO:Sl->En->Prop} {Q':PyData->En->Prop} {K:Frag} {i:Nat}
theorem asb {y j:TE} (h:Ev B y env fun d A=>EvO B j A fun s g=>∃ ds,s=.own (OL ds)/\QO (.own (OW d ds)) g):EvO B (tTup (aci y (aci j tNil))) env QO:=fun σ G H F Q I k =>
 h σ G H F _ I fun v D K C d A P O M L=>L σ D K C _ P fun w u H2 F2 Fv s g f r x E=>by
  obtain ⟨ds,es,q⟩:=E
  subst es
  obtain ⟨l,vs,rfl,i,rs,hf⟩:=x.ok
  refine ⟨show (2:Nat)<=sizeLine by rw [sizeLine_eq];decide,fun p c=>?_⟩
  have n:p ≠ l:=(aap i c).symm
  have J:VI B u (upd H2 p (.tup [v,.ref l])) σ g F2:=f.grow (Same.refl _) (f.gh.trans (ab8 c)) (ab8 c) (fun a o e => .inl e) fun a N e=>by
   by_cases z:a=p
   ·subst z;rw [aai] at e;exact absurd (aA9 e) ar8
   ·rw [aag z] at e;exact f.ft a N e
  refine k _ u _ _ (fun a=>a=p\/a=l) (.own (OW d ds)) _ J (O.trans r) ⟨⟨p,l,v,vs,rfl,aai,M.same r,by rw [aag n.symm];exact i,rs,fun b=>Iff.rfl⟩,fun a z=>?_,fun a z=>?_,fun a z=>?_,fun m a z=>?_⟩ q
  ·rcases z with rfl | rfl
   ·exact f.no_b c
   ·exact x.fb a ((hf a).mpr rfl)
  ·rcases z with rfl | rfl
   ·exact f.no_g c
   ·exact x.fg a ((hf a).mpr rfl)
  ·rcases z with rfl | rfl
   ·exact ⟨_,aai⟩
   ·exact ⟨_,by rw [aag n.symm];exact i⟩
  ·rcases z with rfl | rfl
   ·exact f.no_f c m
   ·exact x.fd m a ((hf a).mpr rfl)
theorem ama {d:PyData} {ds:List PyData} {c:Int} (m:env[i]?=some (some (.own (OW d ds)))) (r:ds.length<=999999) (q:Q' .none (env.set i (some (.own (OW d (ds ++ [.int c])))))):Ev B (tBM K "list" adv (tOp (ab7 K) (tVar i) (tC (.int 1))) (aci (tC (.int c)) tNil)) env Q':=fun σ G H F Q I k=>by
 obtain ⟨v,j,⟨t,l,u,vs,rfl,a,n,b,h,f⟩,hb⟩:=I.sl i _ m
 refine ⟨_,j,akt a at1 ⟨.inl ⟨rfl,_,SqL.of b⟩,aec b (by rw [h.length];exact big (by omega)) ?_⟩⟩
 have tl:t ≠ l:=asr a b (by intro z;cases z)
 have J:=I.change (A:=OW d (ds ++ [.int c])) (H2:=upd H l (.lst (vs ++ [.int c]))) (F2:=F i) (os':=.own (OW d (ds ++ [.int c]))) i m j (fun c w p g=>by rw [aag (fun z:c=l=>p ((f c).mpr (.inr z)))];exact g)
  (fun c w g=>by
   by_cases z:c=l
   ·rw [z];exact ⟨_,aai⟩
   ·rw [aag z];exact ⟨w,g⟩)
  (fun c z=>⟨.inl z,by
   by_cases y:c=l
   ·rw [y];exact ⟨_,aai⟩
   ·rw [aag y];exact I.fo i c z⟩) ?_ (fun c o e=>by
   by_cases z:c=l
   ·subst z;rw [aai] at e;cases e
   ·rw [aag z] at e;exact I.ft c o e) (.inl ⟨rfl,_,rfl⟩)
 ·exact k _ _ _ _ _ _ J (Same.refl _) .non q
 ·exact ⟨t,l,u,_,rfl,by rw [aag tl];exact a,n,aai,h.append (.cons (.int c) .nil),f⟩
end
section
variable {B:Bs} {env:En} {QO:Sl->En->Prop} {Q':PyData->En->Prop} {K:Frag} {E:XK} {i:Nat}
end
def stS:Option Sl->Option Sl
 | some (.st d)=>some (.st d)
 | some (.scr ns)=>some (.scr ns)
 | _=>none
def momE (env:En) (i:Nat) (d:PyData):En:=(env.map stS).set i (some (.st d))
section
variable {B:Bs} {env:En} {QO:Sl->En->Prop} {Q':PyData->En->Prop} {K:Frag} {i j:Nat} {ta te:TE}
theorem ab5 {A:Own} {d:PyData} (g:Has env i A) (N:Frz A d) (h:∀ b:Bs,b.K=B.K->Ev b te (momE env i d) fun d' _=>ae1 d'=true/\Q' d' env):Ev B te env Q':=fun σ G H F Q I k=>by
 obtain ⟨v,r,M⟩:=I.has g
 have c:=abb (H:=H) (I.fg i)
 let b:Bs:={ K:=B.K,G:=jn G H (F i),H:=H,R:=H,S:=σ,F:=fun _ _=>False }
 have hi:i < env.length:=by
  rcases g with e | e <;> exact (ay5.mp e).1
 have J:VI b (jn G H (F i)) H σ (momE env i d) (fun _ _=>False):={
  gh:=aj0 I.gh
  g0:=Same.refl _
  gn:=fun a o e => .inl e
  rs:=Same.refl _
  rb:=Same.refl _
  bh:=fun a o e=>⟨o,e⟩
  fg:=fun _ _ z=>z.elim
  fr:=fun _ _ z=>z.elim
  fd:=fun _ _ _ z=>z.elim
  fo:=fun _ _ z=>z.elim
  sl:=fun m s e=>by
   unfold momE at e
   by_cases hm:m=i
   ·subst hm
    rw [aB5,aC9 rfl,aC9 (by simpa using hi)] at e
    cases e
    exact ⟨v,r,N _ _ _ _ M (I.fg m) I.gh,fun _ z=>z⟩
   ·rw [aB5,aD0 (fun z=>hm z.symm),ay9] at e
    cases em:env[m]? with
    | none=>rw [em] at e;cases e
    | some o =>
     rw [em] at e
     cases o with
     | none=>cases e
     | some t =>
      obtain ⟨u,l,q⟩:=I.sl m t em
      cases t with
      | st d'=>cases e;exact ⟨u,l,q.1.same c,fun _ z=>z⟩
      | scr ns =>
       cases e
       obtain ⟨⟨a,L,p⟩,_⟩:=q
       exact ⟨u,l,⟨a,L,c.seq p⟩,fun _ z=>z⟩
      | own A'=>cases e
      | io A'=>cases e
  ln:=by simp [momE,I.ln]
  ft:=fun a D e=>c _ _ (I.ft a D e) }
 refine h b rfl σ _ H _ Q J fun w x H2 F2 d' P f n j ⟨y,q⟩=>?_
 have o:Out (jn G H (F i)) H w x H2 (.st d') (fun _=>False):={
  gg:=n
  gh:=f.gh
  hh:=f.rs
  gn:=f.gn
  fn:=fun _ z=>z.elim
  fg:=fun _ z=>z.elim
  fo:=fun _ z=>z.elim
  ok:=⟨j,fun _ z=>z⟩
  ft:=fun _=>f.ft }
 obtain ⟨E,O,C⟩:=I.moment c o
 exact k w E H2 F d' env C O (aic j y) q
end
section
variable {B:Bs} {env:En} {QO:Sl->En->Prop} {K:Frag} {te:TE}
end
def RowsAt (B:Bs) (F:Nat->Addr->Prop) (acc:Addr) (G H:Hp) (ys:List V) (yd:List (List PyData)):Prop:=∃ as:List Addr,ys=as.map V.ref/\as.length=yd.length/\as.Nodup/\acc ∉ as/\(∀ b∈as,B.H b=none/\(∀ j,¬ F j b)/\G b=none)/\∀ (i:Nat) b xs,as[i]?=some b->yd[i]?=some xs->∃ vs,H b=some (.lst vs)/\Rps G vs xs
section
variable {B:Bs} {F:Nat->Addr->Prop} {acc:Addr} {G H G' H':Hp} {ys:List V} {yd:List (List PyData)}
theorem RowsAt.ex (r:RowsAt B F acc G H ys yd):True:=trivial
theorem RowsAt.move (r:RowsAt B F acc G H ys yd) (gg:Same G G') (hh:Same H H') (gn:∀ a o,G' a=some o->G a=some o\/H a=none):RowsAt B F acc G' H' ys yd:=by
 obtain ⟨as,e,l,nd,na,f,co⟩:=r
 refine ⟨as,e,l,nd,na,fun b hb=>⟨(f b hb).1,(f b hb).2.1,?_⟩,fun i b xs g h=>?_⟩
 ·obtain ⟨i,hi,d⟩:=aF0.mp hb
  obtain ⟨vs,c,_⟩:=co i b _ (by rw [ay4 hi,d]) (ay4 (show i < yd.length by omega))
  cases q:G' b with
  | none=>rfl
  | some w =>
   rcases gn b w q with z | z
   ·rw [(f b hb).2.2] at z;cases z
   ·rw [c] at z;cases z
 ·obtain ⟨vs,c,j⟩:=co i b xs g h
  exact ⟨vs,hh _ _ c,j.same gg⟩
theorem RowsAt.put {o:HO} (r:RowsAt B F acc G H ys yd):RowsAt B F acc G (upd H acc o) ys yd:=by
 obtain ⟨as,e,l,nd,na,g,co⟩:=r
 refine ⟨as,e,l,nd,na,g,fun i b xs a d=>?_⟩
 obtain ⟨vs,c,f⟩:=co i b xs a d
 exact ⟨vs,by rw [aag (fun z:b=acc=>na (by rw [← z];exact ay6 a))];exact c,f⟩
theorem RowsAt.snoc {p:Addr} {vs:List V} {xs:List PyData} (r:RowsAt B F acc G H ys yd) (m:H p=some (.lst vs)) (s:Rps G vs xs) (q:B.H p=none) (o:∀ j,¬ F j p) (pg:G p=none) (n:p ≠ acc) (new:∀ (i:Nat) (b:Addr),(∃ as:List Addr,ys=as.map V.ref/\as[i]?=some b)->b ≠ p):RowsAt B F acc G H (ys ++ [.ref p]) (yd ++ [xs]):=by
 obtain ⟨as,e,l,nd,na,v,co⟩:=r
 have d:p ∉ as:=fun z=>by
  obtain ⟨i,hi,f⟩:=aF0.mp z
  exact new i p ⟨as,e,by rw [ay4 hi,f]⟩ rfl
 refine ⟨as ++ [p],by rw [e];simp,by simp [l],?_,?_,fun b hb=>?_,fun i b u a c=>?_⟩
 ·rw [List.nodup_append]
  exact ⟨nd,by simp,fun x w y h=>by simp at h;subst h;intro z;subst z;exact d w⟩
 ·intro z
  rcases az1.mp z with z | z
  ·exact na z
  ·exact n (aA5.mp z).symm
 ·rcases az1.mp hb with hb | hb
  ·exact v b hb
  ·cases aA5.mp hb;exact ⟨q,o,pg⟩
 ·by_cases hi:i < as.length
  ·rw [aA6 hi] at a
   rw [aA6 (by omega)] at c
   exact co i b u a c
  ·have g:i=as.length:=by
    have:=(ay5.mp a).1
    simp at this
    omega
   subst g
   rw [aB1 (az0 _),Nat.sub_self] at a
   rw [aB1 (by omega),show as.length - yd.length=0 by omega] at c
   cases a;cases c
   exact ⟨vs,m,s⟩
end
def ate (K:Frag) (src:List (Option Nat)) (g:TG) (tif:TT) (wi2:TI) (g2:TG) (tif2:TT) (te:TE) (ds:List PyData) (e1:En) (R:List (List PyData)->Prop):Prop:=∃ J:Nat->List (List PyData)->En->Prop,J 0 [] (aan src e1)/\(∀ i ys e,J i ys e->ad6 e) /\
 (∀ i d ys e,ds[i]?=some d->J i ys e->∀ B':Bs,B'.K=K->EvG B' g (.st d) e fun e2=>EvT B' tif e2 fun b e3=>if b=true then EvI B' wi2 e3 fun ds2 e4=>∃ J2:Nat->List (List PyData)->En->Prop,J2 0 ys e4/\(∀ j ys e,J2 j ys e->ad6 e) /\
  (∀ j d2 ys2 e,ds2[j]?=some d2->J2 j ys2 e->∀ B2:Bs,B2.K=K->EvG B2 g2 (.st d2) e fun e5=>EvT B2 tif2 e5 fun b e6=>if b=true then EvO B2 te e6 fun s e7=>∃ xs,s=.own (OL xs)/\ys2.length<=999999/\J2 (j+1) (ys2 ++ [xs]) e7 else J2 (j+1) ys2 e6)/\(∀ ys2 e,J2 ds2.length ys2 e->J (i+1) ys2 e) else J (i+1) ys e3)/\∀ ys e,J ds.length ys e->R ys
section
variable {B:Bs} {env:En}
theorem asc {src:List (Option Nat)} {wi:TI} {g:TG} {a6:TT} {a8:TI} {g2:TG} {P:TT} {te:TE} {QO:Sl->En->Prop} (h:EvI B wi env fun ds N=>ate B.K src g a6 a8 g2 P te ds N fun ys=>QO (.own (OLL ys)) N):EvO B (tLC2 src wi g a6 a8 g2 P te) env QO:=fun σ G H F Q I k=>by
 refine h σ G H F _ I fun J G1 H1 C ds N I1 g1 it ⟨Jv,j0,jc,js,jd⟩ c w=>?_
 have fa:∀ j,¬ C j c:=I1.no_f w
 have hb:B.H c=none:=I1.no_b w
 let Wv:(List (List PyData)->En->Prop)->List V->St->Hp->Prop:=fun J ys σI H=>∃ f e n,VI B f H σ N C/\Same G1 f/\H c=some (.lst ys)/\RowsAt B C c f H ys n/\f c=none/\J n e/\σI.length=e.length/\Sls B.K f σI e
 have leave:∀ {r H3:Hp} {σI:St} {ys:List V} {n:List (List PyData)},VI B r H3 σ N C->r c=none->H3 c=some (.lst ys)->RowsAt B C c r H3 ys n->∀ {O Y:Hp} {M:St} {F4:Nat->Addr->Prop} {e4:En},VI (bsC B.K r H3 σI) O Y M e4 F4->VI B O Y σ N C/\O c=none/\Y c=some (.lst ys)/\RowsAt B C c O Y ys n:=by
  intro r H3 σI ys n I3 ga ac ry O Y M F4 e4 E
  refine ⟨I3.grow E.g0 E.gh E.rs E.gn E.ft,?_,E.rs _ _ ac,ry.move E.g0 E.rs E.gn⟩
  cases e':O c with
  | none=>rfl
  | some u =>
   rcases E.gn c u e' with q | q
   ·change r c=_ at q;rw [ga] at q;cases q
   ·change H3 c=_ at q;rw [ac] at q;cases q
 have step:∀ {f H2:Hp} {ys:List V} {n:List (List PyData)} {x:V} {r H3:Hp} {d:PyData},VI B f H2 σ N C->f c=none->H2 c=some (.lst ys)->RowsAt B C c f H2 ys n->Out f H2 x r H3 (.st d) (fun _=>False)->VI B r H3 σ N C/\r c=none/\H3 c=some (.lst ys)/\RowsAt B C c r H3 ys n:=by
  intro f H2 ys n x r H3 d R ga ac ry o
  refine ⟨(R.out o).1,?_,o.hh _ _ ac,ry.move o.gg o.hh o.gn⟩
  cases e':r c with
  | none=>rfl
  | some u =>
   rcases o.gn c u e' with q | q
   ·rw [ga] at q;cases q
   ·rw [ac] at q;cases q
 refine ⟨fun i m ys σI H=>m=ds.length - i/\i<=ds.length/\Wv (Jv i) ys σI H,⟨ds.length,by simp,aD4 _,?_⟩,?_⟩
 ·refine ⟨G1,aan src N,[],I1.aside (fun _ z=>nomatch z) (I1.no_g w) fa hb,Same.refl _,aai,⟨[],rfl,rfl,List.nodup_nil,by simp,fun b hb=>by simp at hb,fun i b xs hb=>by simp at hb⟩,I1.no_g w,j0,by simp [pick,aan],fun j s e=>?_⟩
  obtain ⟨i,t,hs,ht,hp⟩:=afn e
  obtain ⟨v,hv,q⟩:=I1.sl i t ht
  refine ⟨v,alc hs hv,?_⟩
  cases t with
  | st d=>cases hp;exact .inl ⟨d,rfl,q.1⟩
  | scr ns =>
   cases hp
   obtain ⟨⟨a,ea,sq⟩,_⟩:=q
   exact .inr ⟨ns,a,rfl,ea,sq⟩
  | own A=>cases hp;rcases jc _ _ _ j0 j _ e with ⟨d,z⟩ | ⟨ns,z⟩ <;> cases z
  | io A=>cases hp;rcases jc _ _ _ j0 j _ e with ⟨d,z⟩ | ⟨ns,z⟩ <;> cases z
 ·rintro i m ys σI H2 ⟨rfl,hi,f,e,n,R,L,S,ry,ga,jv,ln,sl⟩
  by_cases hlt:i < ds.length
  ·refine .inr ⟨it.go i f H2 L R.gh hlt,Wv (Jv (i+1)),fun c6 b6 H' hw=>⟨ds.length - (i+1),by omega,rfl,hlt,hw⟩,fun x H3 y=>?_⟩
   obtain ⟨r,o⟩:=it.yld i f H2 x H3 _ L R.gh R.ft (ay4 hlt) y
   obtain ⟨I3,a4,b5,a5⟩:=step R ga S ry o
   have E3:=ai0 (K:=B.K) I3.gh I3.ft ln (sl.same o.gg)
   refine js i _ n e (ay4 hlt) jv (bsC B.K r H3 σI) rfl σI r H3 _ x _ _ E3 (ad5 o.ok.1) fun M O Y F4 e4 E g4 q4=>?_
   refine q4 M O Y F4 _ E fun b G5 H5 F5 e5 I5 g5 q5=>?_
   have s5:=L.trans (o.gg.trans (g4.trans g5))
   cases b with
   | false =>
    rw [aD0 az3] at q5 ⊢
    obtain ⟨K5,c9,c5,b8⟩:=leave I3 a4 b5 a5 I5
    exact ⟨G5,e5,n,K5,s5,c5,b8,c9,q5,I5.ln,ahm I5 (jc _ _ _ q5)⟩
   | true =>
    rw [aC9 rfl] at q5 ⊢
    refine q5 M G5 H5 F5 _ I5 fun J2 G6 H6 F6 D e6 I6 g6 W ⟨Jw,w0,wc,ws,wd⟩=>?_
    obtain ⟨K6,c2,b9,c4⟩:=leave I3 a4 b5 a5 I6
    have s6:=s5.trans g6
    let Wi:Nat->List V->St->Hp->Prop:=fun j ys σI H=>∃ f e n,VI B f H σ N C/\Same G6 f/\H c=some (.lst ys)/\RowsAt B C c f H ys n/\f c=none/\Jw j n e/\σI.length=e.length/\Sls B.K f σI e
    refine ⟨fun j m ys σI H=>m=D.length - j/\j<=D.length/\Wi j ys σI H,⟨D.length,by simp,aD4 _,G6,e6,n,K6,Same.refl _,b9,c4,c2,w0,I6.ln,ahm I6 (wc _ _ _ w0)⟩,?_⟩
    rintro j m zs a1 H7 ⟨rfl,hj,G7,e7,zd,I7,g7,X,rz,a7,jw,b0,b4⟩
    refine ⟨X,?_⟩
    by_cases hlt2:j < D.length
    ·refine .inr ⟨W.go j G7 H7 g7 I7.gh hlt2,Wi (j+1),fun c6 b6 H' hw=>⟨D.length - (j+1),by omega,rfl,hlt2,hw⟩,fun x2 H8 y2=>?_⟩
     obtain ⟨G8,o2⟩:=W.yld j G7 H7 x2 H8 _ g7 I7.gh I7.ft (ay4 hlt2) y2
     obtain ⟨Z,b3,U,T⟩:=step I7 a7 X rz o2
     have E8:=ai0 (K:=B.K) Z.gh Z.ft b0 (b4.same o2.gg)
     refine ws j _ zd e7 (ay4 hlt2) jw (bsC B.K G8 H8 a1) rfl a1 G8 H8 _ x2 _ _ E8 (ad5 o2.ok.1) fun b2 G9 H9 F9 e9 I9 g9 q9=>?_
     refine q9 b2 G9 H9 F9 _ I9 fun b GA HA FA eA IA gA qA=>?_
     cases b with
     | false =>
      rw [aD0 az3] at qA ⊢
      obtain ⟨KA,b7,c0,d0⟩:=leave Z b3 U T IA
      have sA:=o2.gg.trans (g9.trans gA)
      exact ⟨GA,eA,zd,KA,g7.trans sA,c0,d0,b7,qA,IA.ln,ahm IA (wc _ _ _ qA)⟩
     | true =>
      rw [aC9 rfl] at qA ⊢
      refine qA b2 GA HA FA _ IA fun yv GB HB FB Fy s eB IB gB XB ⟨xs,es,lB,qB⟩=>?_
      subst es
      obtain ⟨p,vs,rfl,hp,rp,fp⟩:=XB.ok
      have a0:=(fp p).mpr rfl
      have n8:H8 p=none:=XB.fb p a0
      obtain ⟨KB,b1,c3,a2⟩:=leave Z b3 U T IB
      have sB:=o2.gg.trans (g9.trans (gA.trans gB))
      have pa:p ≠ c:=(aap U n8).symm
      have a3:zs.length=zd.length:=by obtain ⟨as,e,l,_⟩:=a2;rw [e,ay7,l]
      have c7:=RowsAt.snoc a2 hp rp (Z.no_b n8) (Z.no_f n8) (XB.fg p a0) pa (fun i b ⟨as,ea,ha⟩ z=>by
       subst z
       obtain ⟨c1,c8,l',_,_,_,co⟩:=T
       have:as=c1:=by
        have:=ea.symm.trans c8
        exact (List.map_inj_right fun a b q=>by cases q;rfl).mp this
       subst this
       obtain ⟨hi,a9⟩:=ay5.mp ha
       obtain ⟨d1,hw,_⟩:=co i b _ ha (ay4 (show i < zd.length by omega))
       rw [hw] at n8;cases n8)
      refine ⟨c3,by rw [a3];exact aC0 lB (by decide),GB,eB,zd ++ [xs],KB.aside (fun _ z=>nomatch z) b1 fa hb,g7.trans sB,aai,c7.put,b1,qB,IB.ln,ahm IB (wc _ _ _ qB)⟩
    ·have ej:j=D.length:=by omega
     subst ej
     refine .inl ⟨W.stop _ G7 H7 g7 I7.gh rfl,G7,e7,zd,I7,s6.trans g7,X,rz,a7,wd _ _ jw,b0,b4⟩
  ·have ei:i=ds.length:=by omega
   subst ei
   refine .inl ⟨it.stop _ f H2 L R.gh rfl,?_⟩
   obtain ⟨as,e',l,nd,na,al,co⟩:=ry
   subst e'
   refine k (.ref c) f H2 C (fun b=>b=c\/b∈as) (.own (OLL n)) N R (g1.trans L) ⟨⟨c,as,rfl,S,nd,na,l,co,fun b=>Iff.rfl⟩,fun b z=>?_,fun b z=>?_,fun b z=>?_,fun j b z y=>?_⟩ (jd _ _ jv)
   ·rcases z with rfl | z
    ·exact hb
    ·exact (al b z).1
   ·rcases z with rfl | z
    ·exact ga
    ·exact (al b z).2.2
   ·rcases z with rfl | z
    ·exact ⟨_,S⟩
    ·obtain ⟨i,hi,a9⟩:=aF0.mp z
     obtain ⟨vs,hv,_⟩:=co i b _ (by rw [ay4 hi,a9]) (ay4 (show i < n.length by omega))
     exact ⟨_,hv⟩
   ·rcases z with rfl | z
    ·exact fa j y
    ·exact (al b z).2.1 j y
end
section
variable {B:Bs} {env:En} {QO:Sl->En->Prop} {K:Frag} {i:Nat}
theorem aqf {ds:List PyData} {rest:List (List PyData)} (m:env[i]?=some (some (.own (OLL (ds :: rest))))) (q:QO (.own (OL ds)) (env.set i none)):EvO B (tOp (ab7 K) (tVar i) (tC (.int 0))) env QO:=fun σ G H F Q I k=>by
 obtain ⟨v,h,⟨a,as,rfl,ha,nd,na,l,co,f⟩,hb⟩:=I.sl i _ m
 obtain ⟨b,d,rfl⟩:∃ b d,as=b :: d:=by
  cases as with
  | nil=>simp at l
  | cons b d=>exact ⟨b,d,rfl⟩
 obtain ⟨vs,g,rs⟩:=co 0 b ds rfl rfl
 have fb:F i b:=(f b).mpr (.inr aA1)
 refine ⟨_,h,ad3 ha (v:=.ref b) (by rw [aB4];exact at0) ?_⟩
 refine k (.ref b) G H _ (fun c=>c=b) (.own (OL ds)) _ (I.drop i) (Same.refl _) ⟨⟨b,vs,rfl,g,rs,fun c=>Iff.rfl⟩,fun c z=>by subst z;exact hb _ fb,fun c z=>by subst z;exact I.fg i _ fb,fun c z=>by subst z;exact ⟨_,g⟩,fun j c z y=>?_⟩ q
 subst z
 by_cases hj:j=i
 ·subst hj;exact putF_same.mp y
 ·rw [aa4 hj] at y
  exact hj (I.fd j i _ y fb)
theorem aqg {b:List (List PyData)} {c:Bool->En->Prop} (f:Has env i (OLL b)) (q:c (!b.isEmpty) env):EvT B (tTru K (tVar i)) env c:=fun σ G H F Q I k=>by
 obtain ⟨v,d,a,as,g,ha,nd,na,l,_⟩:=I.has f
 subst g
 refine ⟨_,d,_,.inl ⟨as.map V.ref,SqL.of ha,rfl⟩,?_⟩
 have:(as.map V.ref).isEmpty=b.isEmpty:=by
  cases as <;> cases b <;> first | rfl | simp at l
 rw [this]
 exact k _ G H F env I (Same.refl _) q
end
theorem aqh {α β:Type} {K:Frag} {src:List (Option Nat)} {g:En} {m:TI} {te:TE} {R:List (List PyData)->Prop} {xs:List α} {c : α->PyData} (a : α->List β) (q : β->PyData) (f : α->β->List PyData) (N:ad6 (aan src g))
  (hl:(xs.flatMap fun x=>(a x).map (f x)).length<=999999)
  (U:∀ x∈xs,∀ l:Bs,l.K=K->∀ o,EvI l m (some (.st (c x)) :: stO o :: aan src g) fun n L=>n=(a x).map q/\L=some (.st (c x)) :: stO o :: aan src g)
  (S:∀ x∈xs,∀ y∈a x,∀ l:Bs,l.K=K->EvO l te (some (.st (c x)) :: some (.st (q y)) :: aan src g) fun s P=>s=.own (OL (f x y))/\P=some (.st (c x)) :: some (.st (q y)) :: aan src g)
  (Y:R (xs.flatMap fun x=>(a x).map (f x))):ate K (none :: none :: src) (aay 0) tYes m (aay 1) tYes te (xs.map c) g R:=by
 refine ⟨fun i ys e=>ys=(xs.take i).flatMap (fun x=>(a x).map (f x))/\∃ o o',e=stO o :: stO o' :: aan src g,⟨by simp,none,none,rfl⟩,?_,?_,?_⟩
 ·rintro i ys e ⟨_,o,o',rfl⟩
  exact adg (adg N)
 ·rintro i d ys e hd ⟨rfl,o,o',rfl⟩ l hB
  rw [ay9] at hd
  cases hx:xs[i]? with
  | none=>rw [hx] at hd;cases hd
  | some x =>
   rw [hx] at hd
   cases hd
   have r:=ay6 hx
   have M:xs.take (i+1)=xs.take i ++ [x]:=by rw [aE8,hx];rfl
   have D:((xs.take (i+1)).flatMap (fun x=>(a x).map (f x))).length<=999999:=by
    refine aB3 ?_ hl
    conv=>rhs;rw [← aA4 (i+1) xs,List.flatMap_append,az4]
    exact Nat.le_add_right _ _
   refine aar (adw ?_)
   rw [aC9 rfl]
   show EvI l m (some (.st (c x)) :: stO o' :: aan src g) _
   intro σ G H F Q I k
   refine U x r l hB o' σ G H F Q I fun J G' H' z n L w g' C ⟨E,A⟩=>k J G' H' z n L w g' C ?_
   subst E A
   refine ⟨fun j h e=>h=(xs.take i).flatMap (fun x=>(a x).map (f x)) ++ ((a x).take j).map (f x)/\∃ o',e=some (.st (c x)) :: stO o' :: aan src g,⟨by simp,o',rfl⟩,?_,?_,?_⟩
   ·rintro j h e ⟨_,p,rfl⟩
    exact adg (o:=some (c x)) (adg N)
   ·rintro j d2 h e b ⟨rfl,p,rfl⟩ O u
    rw [ay9] at b
    cases hy:(a x)[j]? with
    | none=>rw [hy] at b;cases b
    | some y =>
     rw [hy] at b
     cases b
     have B:(a x).take (j+1)=(a x).take j ++ [y]:=by rw [aE8,hy];rfl
     refine aar (adw ?_)
     rw [aC9 rfl]
     show EvO O te (some (.st (c x)) :: some (.st (q y)) :: aan src g) _
     intro σ G H F Q I k
     refine S x r y (ay6 hy) O u σ G H F Q I fun v G' H' z Fv s Z w g' T ⟨W,X⟩=>k v G' H' z Fv s Z w g' T ?_
     subst W X
     refine ⟨_,rfl,?_,?_,some (q y),rfl⟩
     ·refine aB3 ?_ D
      rw [M,List.flatMap_append,az4,az4]
      have:((a x).take j).length<=(a x).length:=by rw [aE4];omega
      simp only [List.flatMap_cons,List.flatMap_nil,aC6,ay7]
      omega
     ·rw [B,aC1,az7]
      rfl
   ·rintro h e ⟨rfl,p,rfl⟩
    rw [ay7]
    refine ⟨?_,some (c x),p,rfl⟩
    rw [M,List.flatMap_append,aE2]
    simp
 ·rintro ys e ⟨rfl,o,o',rfl⟩
  rw [ay7,aE2]
  exact Y
end VL
namespace G
open PySem L2 VL
def top (i:Nat):Stmt:=PySem.Challenge.pw_fewties_k20_best_papers.main.body.getD i (.Pass ⟨0,0,0,0⟩)
abbrev s_is_whole:Stmt:=top 6
abbrev s_is_between:Stmt:=top 7
abbrev s_need_number:Stmt:=top 8
abbrev s_is_place:Stmt:=top 9
abbrev s_tied_places:Stmt:=top 10
abbrev s_far_from:Stmt:=top 11
abbrev s_need_place:Stmt:=top 12
abbrev s_all_far:Stmt:=top 13
abbrev s_is_joined:Stmt:=top 14
abbrev s_need_joined:Stmt:=top 16
abbrev s_far_rows:Stmt:=top 17
abbrev s_most_far:Stmt:=top 18
abbrev s_need_places:Stmt:=top 22
abbrev s_need_far:Stmt:=top 23
abbrev s_best_stay:Stmt:=top 24
abbrev s_apart_lists:Stmt:=top 25
abbrev s_places_after:Stmt:=top 26
abbrev s_law_draws:Stmt:=top 28
abbrev s_law_web:Stmt:=top 29
abbrev s_law_copy:Stmt:=top 30
abbrev s_law_rows:Stmt:=top 31
abbrev s_law_first:Stmt:=top 34
abbrev s_law_due:Stmt:=top 35
abbrev s_law:Stmt:=top 36
structure Txt (K:Frag) (mg:Str->Option Value):Prop where
 b_ValueError:mg "ValueError" = none
 b_max:mg "max" = none
 b_reversed:mg "reversed" = none
 b_range:mg "range" = none
 b_enumerate:mg "enumerate" = none
 b_list:mg "list" = none
 b_isinstance:mg "isinstance" = none
 b_int:mg "int" = none
 b_len:mg "len" = none
 b_abs:mg "abs" = none
 b_sorted:mg "sorted" = none
 b_bool:mg "bool" = none
 b_all:mg "all" = none
 b_min:mg "min" = none
 b_tuple:mg "tuple" = none
 v_MOST_STAY_TIES:∃ t,mg "MOST_STAY_TIES" = some (.int 5 t)
 v_MOST_PLACES_FOR_STAY:∃ t,mg "MOST_PLACES_FOR_STAY" = some (.int 12 t)
 d_is_whole:∃ f fd,DefAt K mg "is_whole" s_is_whole ["thing"] f fd
 d_is_between:∃ f fd,DefAt K mg "is_between" s_is_between ["least","most","thing"] f fd
 d_need_number:∃ f fd,DefAt K mg "need_number" s_need_number ["least","most","thing"] f fd
 d_is_place:∃ f fd,DefAt K mg "is_place" s_is_place ["n","thing"] f fd
 d_tied_places:∃ f fd,DefAt K mg "tied_places" s_tied_places ["web"] f fd
 d_far_from:∃ f fd,DefAt K mg "far_from" s_far_from ["tied","start"] f fd
 d_need_place:∃ f fd,DefAt K mg "need_place" s_need_place ["web","thing"] f fd
 d_all_far:∃ f fd,DefAt K mg "all_far" s_all_far ["web","a"] f fd
 d_is_joined:∃ f fd,DefAt K mg "is_joined" s_is_joined ["web"] f fd
 d_need_joined:∃ f fd,DefAt K mg "need_joined" s_need_joined ["web"] f fd
 d_far_rows:∃ f fd,DefAt K mg "far_rows" s_far_rows ["web"] f fd
 d_most_far:∃ f fd,DefAt K mg "most_far" s_most_far ["rows"] f fd
 d_need_places:∃ f fd,DefAt K mg "need_places" s_need_places ["k"] f fd
 d_need_far:∃ f fd,DefAt K mg "need_far" s_need_far ["r"] f fd
 d_best_stay:∃ f fd,DefAt K mg "best_stay" s_best_stay ["web","k"] f fd
 d_apart_lists:∃ f fd,DefAt K mg "apart_lists" s_apart_lists ["rows","least","many"] f fd
 d_places_after:∃ f fd,DefAt K mg "places_after" s_places_after ["rows","least","places"] f fd
 d_law_draws:∃ f fd,DefAt K mg "_law_draws" s_law_draws ["script","many"] f fd
 d_law_web:∃ f fd,DefAt K mg "_law_web" s_law_web ["d","spot","most"] f fd
 d_law_copy:∃ f fd,DefAt K mg "_law_copy" s_law_copy ["web"] f fd
 d_law_rows:∃ f fd,DefAt K mg "_law_rows" s_law_rows ["web"] f fd
 d_law_first:∃ f fd,DefAt K mg "_law_first" s_law_first ["rows","far","many","chosen"] f fd
 d_law_due:∃ f fd,DefAt K mg "_law_due" s_law_due ["rows","k"] f fd
 d_law:∃ f fd,DefAt K mg "law" s_law ["script"] f fd
local macro_rules | `(tactic| row_cond sc) => `(tactic| exact ⟨rfl,rfl,rfl,by decide +kernel,rfl,by decide +kernel,by decide +kernel⟩)
local macro_rules | `(tactic| row_cond gn) => `(tactic| first | (with_reducible first | refine evg_n0 ?_ | refine axf ?_ | refine axg ?_ | refine axh ?_ | refine axi ?_ | refine axj ?_ | refine axk ?_ | refine axl ?_ | refine axm ?_ | refine axn ?_ | refine auz ?_ | refine au0 ?_ | refine au1 ?_ | refine au2 ?_ | refine au3 ?_ | refine au4 ?_ | refine au5 ?_ | refine au6 ?_ | refine evg_n18 ?_ | refine evg_n19 ?_ | refine evg_n20 ?_ | refine evg_n21 ?_ | refine evg_n22 ?_ | refine evg_n23 ?_ | refine evg_n24 ?_ | refine evg_n25 ?_) | ((with_reducible refine aar ?_); dsimp only [List.set_cons_zero, List.set_cons_succ]))
local macro_rules | `(tactic| row_cond dc) => `(tactic| first | assumption | omega | (with_reducible rfl))
local macro_rules | `(tactic| row_cond ar) => `(tactic| first | assumption | (refine ⟨?_, ?_, ?_⟩ <;> decide) | (constructor <;> first | assumption | omega) | (show (0 : Int) < _; first | assumption | omega) | (left; constructor <;> first | assumption | omega) | (right; constructor <;> first | assumption | omega))
local macro_rules | `(tactic| row_cond hs) => `(tactic| first | exact Or.inl rfl | exact Or.inr rfl)
local macro_rules | `(tactic| row_cond fz) => `(tactic| first | exact adl | exact apf | exact frz_OT | exact acn | exact aes | assumption)
local macro_rules | `(tactic| row_cond le) => `(tactic| first | exact Nat.le_of_ble_eq_true rfl | assumption | omega | (simp only [List.length_append, List.length_map, List.length_cons, List.length_nil, List.length_set, List.length_replicate]; omega))
local macro_rules | `(tactic| row_cond ia) => `(tactic| first | assumption | exact at0 | exact at1 | exact at2 | exact rfl)
local macro_rules | `(tactic| row_cond ty) => `(tactic| first | exact axc | exact aux | exact ar2 | exact auy | exact ty_str | exact ty_dict)
local macro_rules | `(tactic| row_cond sEvS) => `(tactic| first | (with_reducible refine aro (fun c_ hc_ => ?_)) | (with_reducible first | refine am2 ?_ | refine aw2 ?_ | refine ark ?_) | ((with_reducible refine' ar3 ?h0 ?_); (case h0 => exact rfl)) | (with_reducible first | refine am4 ?_ | refine auj ?_ | refine aca ?_) | ((with_reducible refine' an8 ?h0 ?_); (case h0 => exact rfl)) | ((with_reducible refine' an9 ?h0 ?_); (case h0 => exact rfl)) | ((with_reducible refine' auk ?h0 ?_); (case h0 => assumption)))
local macro_rules | `(tactic| row_cond sEvG) => `(tactic| first | row_cond gn | ((with_reducible refine' am3 ?h0 ?_); (case h0 => exact rfl)) | ((with_reducible refine' ar1 ?h0 ?_); (case h0 => row_cond hs)) | ((with_reducible refine' am9 ?h0 ?_); (case h0 => exact rfl)) | (with_reducible refine evg_st ?_))
local macro_rules | `(tactic| row_cond sEvGs) => `(tactic| first | (with_reducible first | refine adm ?_ | refine agm ?_))
local macro_rules | `(tactic| row_cond sEv) => `(tactic| first | ((with_reducible refine' awv ?h0 ?_); (case h0 => exact rfl)) | (with_reducible refine aww ?_) | ((with_reducible refine' axa ?h0 ?_); (case h0 => row_cond hs)) | ((with_reducible refine' aw8 ?h0 ?_); (case h0 => row_cond hs)) | (with_reducible refine aya ?_) | ((with_reducible refine' axb ?h0 ?_); (case h0 => row_cond ty)) | ((with_reducible refine' aw9 ?h0 ?h1 ?_); (case h0 => row_cond hs); (case h1 => row_cond fz)) | (with_reducible refine arp ?_) | ((with_reducible refine' aub ?h0 ?h1 ?_); (case h0 => exact rfl); (case h1 => row_cond fz); dsimp only [List.set_cons_zero, List.set_cons_succ]) | (with_reducible first | refine awz ?_ | refine aw0 ?_ | refine ax9 ?_ | refine awx ?_ | refine ayb ?_ | refine aug ?_ | refine auh ?_ | refine arj ?_ | refine ach (te:=tCB (ahb _) _) ?_ | refine ach (te:=tCB (ag7 _) _) ?_ | refine ayc ?_) | ((with_reducible refine' an2 ?h0 ?_); (case h0 => row_cond hs)) | ((with_reducible refine' ar0 ?h0 ?_); (case h0 => row_cond hs)) | ((with_reducible refine' al9 ?h0 ?_); (case h0 => row_cond hs)) | ((with_reducible refine' ar7 ?h0 ?_); (case h0 => row_cond hs)) | (with_reducible refine ev_listR ?_) | ((with_reducible refine' ayk ?h0 ?_); (case h0 => decide)) | ((with_reducible refine' ap1 ?h0 ?h1 ?_); (case h0 => exact rfl); (case h1 => assumption)))
local macro_rules | `(tactic| row_cond sEvO) => `(tactic| first | (with_reducible first | refine ak8 (r:=rCat) ?_ | refine ak8 (r:=rRep) ?_ | refine abc (te:=tOp _ _ _) ?_ | refine abc (te:=tVar _) ?_ | refine abc (te:=tC _) ?_ | refine am1 ?_) | (with_reducible refine am0 ?_) | ((with_reducible refine' api ?h0 ?h1 ?_); (case h0 => exact rfl); (case h1 => assumption)) | (with_reducible first | refine aix ?_ | refine au8 ?_) | ((with_reducible refine' apj ?h0 ?_); (case h0 => decide)) | (with_reducible first | refine avm ?_) | ((with_reducible refine' ahj ?h0 ?h1 ?_); (case h0 => exact rfl); (case h1 => assumption)) | (with_reducible first | refine apy ?_ | refine apw ?_ | refine apg (r:=alg _) ?_ | refine abc (te:=tUn _ _) ?_ | refine abc (te:=tIf _ _ _) ?_ | refine abc (te:=ane _ _) ?_ | refine abc (te:=anf _) ?_ | refine abc (te:=aj8 _ _ _ _ _) ?_ | refine abc (te:=ano _ _) ?_ | refine abc (te:=afv _ _) ?_ | refine abc (te:=akk _ _) ?_ | refine abc (te:=tCB (rLen _) _) ?_ | refine abc (te:=tCB (rIsi _) _) ?_ | refine abc (te:=tCB aju _) ?_ | refine abc (te:=tCB ajv _) ?_ | refine abc (te:=tCB ajw _) ?_ | refine abc (te:=tCB rAbs _) ?_ | refine abc (te:=tCB (ajy _) _) ?_ | refine abc (te:=tCB (rAll _) _) ?_ | refine abc (te:=tBM _ _ _ _ _) ?_))
local macro_rules | `(tactic| row_cond sEvT) => `(tactic| first | (with_reducible first | refine ac1 ?_ | refine ahc ?_ | refine aud ?_ | refine aw1 ?_ | refine aue ?_ | refine adw ?_) | (with_reducible refine auf ?_))
local macro_rules | `(tactic| row_cond sEvA) => `(tactic| first | (with_reducible first | refine ari ?_ | refine auc ?_))
local macro_rules | `(tactic| row_cond sEvI) => `(tactic| first | (with_reducible first | refine arm ?_ | refine arn ?_ | refine asa ?_ | refine arl ?_ | refine ar5 ?_) | ((with_reducible refine' axq ?h0 ?_); (case h0 => exact rfl); dsimp only [List.set_cons_zero, List.set_cons_succ]) | (with_reducible refine evi_tup ?_))
local macro_rules | `(tactic| row_cond sEvOp) => `(tactic| first | (with_reducible first | refine ary ?_ | refine arz ?_))
local macro_rules | `(tactic| row_cond sOp2) => `(tactic| first | (with_reducible first | refine aun ?_ | refine auo ?_) | ((with_reducible refine' aw6 ?h0 ?_); (case h0 => row_cond ar)) | (with_reducible first | refine aup ?_) | ((with_reducible refine' aus ?h0 ?_); (case h0 => row_cond ia)) | ((with_reducible refine' aut ?h0 ?_); (case h0 => row_cond ia)) | (with_reducible first | refine auu ?_ | refine art ?_) | ((with_reducible refine' auv ?h0 ?_); (case h0 => row_cond le)))
local macro_rules | `(tactic| row_cond sOp1) => `(tactic| first | (with_reducible refine aw7 ?_))
local macro_rules | `(tactic| row_cond sOpA) => `(tactic| first | (with_reducible first | refine aru ?_ | refine arv ?_ | refine arw ?_ | refine arx ?_ | refine avf ?_ | refine ar6 ?_))
local macro_rules | `(tactic| row_cond sFQ) => `(tactic| first | (with_reducible first | refine as9 ?_ | refine aee ?_ | refine atc ?_))
local macro_rules | `(tactic| row_cond sRngA1) => `(tactic| first | ((with_reducible refine' aw4 ?h0 ?h1 ?_); (case h0 => omega); (case h1 => omega)))
local macro_rules | `(tactic| row_cond sRngA2) => `(tactic| first | ((with_reducible refine' aw5 ?h0 ?_); (case h0 => omega)))
local macro_rules | `(tactic| row_cond sRest) => `(tactic| first | (with_reducible first | refine x_bl ?_ | refine x_st ?_ | refine aw3 ?_ | refine ayd ?_) | ((with_reducible refine' ayh ?h0 ?h1 ?_); (case h0 => row_cond hs); (case h1 => row_cond ia)) | ((with_reducible refine' ayi ?h0 ?h1 ?_); (case h0 => row_cond hs); (case h1 => row_cond fz)) | ((with_reducible refine' x_sc ?h0 ?_); (case h0 => exact rfl)) | ((with_reducible refine' ayg ?h0 ?_); (case h0 => row_cond le)) | (with_reducible first | refine adk ?_ | refine ad4 ?_ | refine afx ?_ | refine amy ?_) | ((with_reducible refine' ahy ?h0 ?_); (case h0 => row_cond dc)) | ((with_reducible refine' ahz ?h0 ?_); (case h0 => row_cond dc)) | ((with_reducible refine' ayj ?h0 ?_); (case h0 => first | exact rfl | row_cond hs)) | ((with_reducible refine' axd ?h0 ?h1 ?_); (case h0 => exact rfl); (case h1 => row_cond le); dsimp only [List.set_cons_zero, List.set_cons_succ]) | ((with_reducible refine' an3 ?h0 ?h1 ?_); (case h0 => exact rfl); (case h1 => first | exact ixN0 | exact ixN1 | exact ixN2 | assumption); dsimp only [List.set_cons_zero, List.set_cons_succ, reS]) | (with_reducible first | refine axe ?_ | refine ar4 ?_) | ((with_reducible refine' x_dT ?h0 ?h1 ?_); (case h0 => exact rfl); (case h1 => row_cond le); dsimp only [List.set_cons_zero, List.set_cons_succ]) | ((with_reducible refine' x_dK ?h0 ?h1 ?_); (case h0 => exact rfl); (case h1 => row_cond le); dsimp only [List.set_cons_zero, List.set_cons_succ]) | ((with_reducible refine' x_dN ?h0 ?_); (case h0 => row_cond hs)) | ((with_reducible refine' x_dG ?h0 ?h1 ?_); (case h0 => row_cond hs); (case h1 => assumption)) | (with_reducible first | refine x_en ?_) | ((with_reducible refine' avg ?h0 ?h1 ?_); (case h0 => omega); (case h1 => omega)))
local macro_rules | `(tactic| row_cond st) => `(tactic| first | ((with_reducible refine ayn ?_); row_cond sEvS) | ((with_reducible refine ayo ?_); row_cond sEvG) | ((with_reducible refine axs ?_); row_cond sEvGs) | ((with_reducible refine g_Ev ?_); row_cond sEv) | ((with_reducible refine ayp ?_); row_cond sEvO) | ((with_reducible refine ayq ?_); row_cond sEvT) | ((with_reducible refine ayr ?_); row_cond sEvA) | ((with_reducible refine ays ?_); row_cond sEvI) | ((with_reducible refine axt ?_); row_cond sEvOp) | ((with_reducible refine ayt ?_); row_cond sOp2) | ((with_reducible refine ayu ?_); row_cond sOp1) | ((with_reducible refine ayv ?_); row_cond sOpA) | ((with_reducible refine g_FQ ?_); row_cond sFQ) | ((with_reducible refine avk ?_); row_cond sRngA1) | ((with_reducible refine avl ?_); row_cond sRngA2) | row_cond sRest)
local macro_rules | `(tactic| row_cond go) => `(tactic| repeat row_cond st)
local macro_rules | `(tactic| row_cond hnx) => `(tactic| first | assumption | (apply Ne.symm; assumption) | exact aap (by assumption) (by assumption) | exact (aap (by assumption) (by assumption)).symm)
local macro_rules | `(tactic| row_cond hhp) => `(tactic| first | assumption | exact aai | (rw [aag (by row_cond hnx)]; row_cond hhp) | ((refine' Same.at ?ss ?hh); (case ss => assumption); (case hh => row_cond hhp)))
local macro_rules | `(tactic| row_cond hix) => `(tactic| first | assumption | exact at0 | exact at1 | exact at2)
local macro_rules | `(tactic| row_cond hst) => `(tactic| first | (with_reducible first | refine go_seq ?_ | refine go_asg ?_ | refine amp ?_ | refine go_op ?_ | refine go_c ?_ | refine go_I0 ?_ | refine go_U ?_ | refine ao7 ?_ | refine go_test ?_ | refine go_bl ?_ | refine go_ifS ?_ | refine go_and ?_ | refine go_ret ?_ | refine go_drop ?_ | refine go_next ?_ | refine go_cb ?_ | refine go_cons ?_ | refine ao6 ?_ | refine go_call ?_ | refine ams ?_ | refine amt ?_ | refine amu ?_ | refine go_gsub ?_ | refine go_lstW ?_ | refine go_bmL ?_ | refine go_for ?_ | refine go_lc ?_ | refine go_irng1 ?_ | refine ao8 ?_ | refine adk ?_ | refine ad4 ?_) | ((with_reducible refine' go_var ?hv ?_); (case hv => exact rfl)) | ((with_reducible refine' ad3 ?ha ?hv ?_); (case ha => row_cond hhp); (case hv => row_cond hix)) | ((with_reducible refine go_I ?hc ?_); (case hc => row_cond ar)) | ((with_reducible refine' amr ?ha ?_); (case ha => row_cond hhp)) | ((with_reducible refine' amq ?ha ?hj ?_); (case ha => row_cond hhp); (case hj => first | exact ixN0 | exact ixN1 | exact ixN2)) | ((with_reducible refine' go_tyL ?ha ?_); (case ha => row_cond hhp)) | ((with_reducible refine' aec ?ha ?hl ?_); (case ha => row_cond hhp); (case hl => exact ad9 (by simp; omega))) | ((with_reducible refine' ahy ?hc ?_); (case hc => row_cond dc)) | ((with_reducible refine' ahz ?hc ?_); (case hc => row_cond dc)) | dsimp only [List.set_cons_zero, List.set_cons_succ])
local macro_rules | `(tactic| row_cond hgo) => `(tactic| repeat row_cond hst)
def isInt:PyData->Bool
 | .int _=>true
 | _=>false
def btwD (a b:Int):PyData->Bool
 | .int i=>decide (a<=i/\i<=b)
 | _=>false
def avp:VP:=fun ss Q=>∃ d,ss=[.st d]/\Q (.st (.bool (isInt d)))
def aqi:VP:=fun ss Q=>∃ (a b:Int) (d:PyData),ss=[.st (.int a),.st (.int b),.st d]/\Q (.st (.bool (btwD a b d)))
def avq:VP:=fun ss Q=>∃ (n:Int) (d:PyData),ss=[.st (.int n),.st d]/\Q (.st (.bool (btwD 0 (n - 1) d)))
section
variable {P:Program} {w:World} {K:Frag} {mg:Str->Option Value} {base:Heap}
theorem sc_is_whole:FnScope ["thing"] ["thing"] (aak s_is_whole):=by row_cond sc
theorem alm (T:Txt K mg):Can P w K mg base "is_whole" 1 ["thing"] (spP K (avp)):=by
 obtain ⟨f,fd,D⟩:=T.d_is_whole
 refine D.can (D.fn.ok sc_is_whole (fun vs H Q E h=>lenP h fun ss c q=>by obtain ⟨d,rfl,k⟩:=q;rfl) (fun cdv A outer s H vs Q E g h=>?_))
 have nd:=sc_is_whole.nd
 refine ⟨_,(aaf (aaz (agt (aat ac0 (by rfl) T.b_isinstance abv (aaa (pv 0) (aaa (adt (v:=.ty "int") rfl T.b_int akn rfl) aac))) (aj5 (av9 (aat ac0 (by rfl) T.b_isinstance abv (aaa (pv 0) (aaa (adt (v:=.ty "bool") rfl T.b_bool ah1 rfl) aac)))))))),?_⟩
 refine abd h fun ss c q B j=>?_
 refine exS1 ss q fun d a=>?_
 have k:=a
 clear a q
 show EvS B _ _ [some (.st d)]
 row_cond go
 cases d with
 | int i => refine adk ?_; row_cond go; exact k
 | bool b => refine adk ?_; row_cond go; exact k
 | _=>refine ad4 ?_;exact k
theorem sc_is_between:FnScope ["least","most","thing"] ["least","most","thing"] (aak s_is_between):=by row_cond sc
theorem aeu (T:Txt K mg):Can P w K mg base "is_between" 2 ["least","most","thing"] (spP K (aqi)):=by
 obtain ⟨f,fd,D⟩:=T.d_is_between
 refine D.can (D.fn.ok sc_is_between (fun vs H Q E h=>lenP h fun ss l q=>by obtain ⟨a,b,d,rfl,k⟩:=q;rfl) (fun cdv A outer s H vs Q E j h=>?_))
 have nd:=sc_is_between.nd
 refine ⟨_,(aaf (aaz (agt (aaq (alm T) j (aaa (pv 2) aac)) (aj5 (aqs asw asw (pv 0) (pv 2) (pv 1)))))),?_⟩
 refine abd h fun ss l q B m=>?_
 refine exS3 ss q fun a b d c=>?_
 have k:=c
 clear c q
 show EvS B _ _ [some (.st (.int a)),some (.st (.int b)),some (.st d)]
 row_cond go
 refine ⟨d,rfl,?_⟩
 row_cond go
 cases d with
 | int i =>
  refine adk ?_
  row_cond go
  refine acd (fun g=>?_) (fun g=>?_)
  ·row_cond go
   have e:decide (i<=b)=btwD a b (.int i):=by
    show _=decide (a<=i/\i<=b)
    rw [aF2];simp [g]
   rw [e];exact k
  ·have e:false=btwD a b (.int i):=by
    show _=decide (a<=i/\i<=b)
    exact (aB7 (fun z=>g z.1)).symm
   rw [e];exact k
 | _=>exact ad4 k
theorem sc_is_place:FnScope ["n","thing"] ["n","thing"] (aak s_is_place):=by row_cond sc
theorem aln (T:Txt K mg):Can P w K mg base "is_place" 3 ["n","thing"] (spP K (avq)):=by
 obtain ⟨f,fd,D⟩:=T.d_is_place
 refine D.can (D.fn.ok sc_is_place (fun vs H Q E h=>lenP h fun ss c q=>by obtain ⟨n,d,rfl,k⟩:=q;rfl) (fun cdv A outer s H vs Q E b h=>?_))
 have nd:=sc_is_place.nd
 refine ⟨_,(aaf (aaz (aaq (aeu T) b (aaa aab (aaa (aae acm (pv 0) aab) (aaa (pv 1) aac)))))),?_⟩
 refine abd h fun ss c q B g=>?_
 refine exS2 ss q fun n d a=>?_
 have k:=a
 clear a q
 show EvS B _ _ [some (.st (.int n)),some (.st d)]
 row_cond go
 exact ⟨_,_,_,rfl,k⟩
def axy:VP:=fun ss Q=>∃ (n:Int) (es:List (Int × Int)),ss=[.st (webD n es)]/\0<=n/\n<=100/\InN n es/\es.length<=10000/\∀ tl,TiedL n (Tied es) tl->Q (.own (OLL (tlD tl)))
theorem sc_tied_places:FnScope ["web","n","ties","tied","a","b"] ["web"] (aak s_tied_places):=by row_cond sc
theorem aeh (T:Txt K mg):Can P w K mg base "tied_places" 1 ["web"] (spP K (axy)):=by
 obtain ⟨f,fd,D⟩:=T.d_tied_places
 refine D.can (D.fn.ok sc_tied_places (fun vs H Q E h=>lenP h fun ss R q=>by obtain ⟨n,es,rfl,O,M,p,z,k⟩:=q;rfl) (fun cdv A outer s H vs Q E U h=>?_))
 have nd:=sc_tied_places.nd
 refine ⟨_,(aad (agu (pv 0) (aem rfl (abf (aao (i:=1) nd rfl (Or.inl rfl)) (abf (aao (i:=2) nd rfl (Or.inl rfl)) acx))))
  (aad (agf (i:=3) nd rfl (Or.inl rfl) rfl (N:=["place"]) (src:=[none]) (by exact ab2 rfl rfl rfl rfl rfl rfl) (aba rfl T.b_range (aaa (pv 1) aac)) (fun _ _ _ _=>(aao (i:=0) (show List.Nodup (["place"]:List Str) by decide +kernel) rfl (Or.inl rfl) (hf:=Or.inr rfl))) (fun _ _ _ _=>ab1) (fun _ _ _ _=>(aa7 aac)))
  (aad (abg aG7 rfl (abp (pv 2)) (aem rfl (abf (aao (i:=4) nd rfl (Or.inl rfl)) (abf (aao (i:=5) nd rfl (Or.inl rfl)) acx)))
   (aad (aa9 (ab6 PySem.F.plainAttrs_list PySem.F.slot_list_append PySem.F.type_list_append aa5 (aav aaw (pv 3) (pv 4) (fun _ _=>rfl)) (aaa (pv 5) aac)))
    (aaf (aa9 (ab6 PySem.F.plainAttrs_list PySem.F.slot_list_append PySem.F.type_list_append aa5 (aav aaw (pv 3) (pv 5) (fun _ _=>rfl)) (aaa (pv 4) aac))))))
  (aaf (aaz (pv 3)))))),?_⟩
 refine abd h fun ss R q B W=>?_
 refine exS2 ss q fun n es c=>?_
 have O:=c.1
 have M:=c.2.1
 have p:=c.2.2.1
 have z:=c.2.2.2.1
 have k:=c.2.2.2.2
 clear c q
 show EvS B _ _ [some (.st (webD n es)),none,none,none,none,none]
 row_cond go
 rw [ace]
 refine ⟨by omega,?_⟩
 row_cond go
 refine ac9 (fun i e=>∃ G C tl,e=[some (.st (webD n es)),some (.st (.int n)),some (.st (.list (es.map prD))),some (.own (OLL (tlD tl))),G,C]/\TiedL n (Tied (es.take i)) tl/\∀ g∈tl,g.length<=2 * i)
  ⟨none,none,List.replicate n.toNat [],by simp [tlD],⟨by simp;omega,fun i g hi w=>?_⟩,fun g S=>?_⟩ ?_ ?_
 ·rw [aF1] at hi
  split at hi
  ·cases hi;simp [Tied]
  ·cases hi
 ·have:=List.eq_of_mem_replicate S
  subst this;simp
 ·rintro i ⟨a,b⟩ e J m
  refine exS3 e m fun G C tl c=>?_
  have o:=c.1
  have l:=c.2
  clear c m
  have hi:i < es.length:=(ay5.mp J).1
  obtain ⟨a0,r,b0,y⟩:=p _ (ay6 J)
  dsimp only at a0 r b0 y
  row_cond go
  obtain ⟨g,d,_⟩:=o.get a0 r
  have L:=l g (ay6 d)
  refine adr (n:=a.toNat) (ds:=g.map .int) rfl rfl rfl (by rw [ay7];exact aet a0 (by rw [o.1];exact r)) (adz d) (by rw [ay7];omega) ?_
  dsimp only [List.set_cons_zero,List.set_cons_succ]
  have x:=o.put (q:=b) a0 r d
  rw [show g.map PyData.int ++ [.int b]=(g ++ [b]).map .int by simp,af3]
  have j:∀ us∈tl.set a.toNat (g ++ [b]),us.length<=2 * i+1:=fun us I=>by
   rcases List.mem_or_eq_of_mem_set I with h | h
   ·have:=l us h;omega
   ·subst h;simp;omega
  generalize tl.set a.toNat (g ++ [b])=tl2 at x j
  row_cond go
  obtain ⟨g,d,_⟩:=x.get b0 y
  have L:=j g (ay6 d)
  refine adr (n:=b.toNat) (ds:=g.map .int) rfl rfl rfl (by rw [ay7];exact aet b0 (by rw [x.1];exact y)) (adz d) (by rw [ay7];omega) ?_
  dsimp only [List.set_cons_zero,List.set_cons_succ]
  rw [show g.map PyData.int ++ [.int a]=(g ++ [a]).map .int by simp,af3]
  refine ⟨_,_,_,rfl,(x.put (q:=a) b0 y d).iff fun u v=>(Tied.snoc J u v).symm,fun us I=>?_⟩
  rcases List.mem_or_eq_of_mem_set I with h | h
  ·have:=j us h;omega
  ·subst h;simp;omega
 ·rintro e m
  refine exS3 e m fun G C tl c=>?_
  have o:=c.1
  have l:=c.2
  clear c m
  rw [aE2] at o
  row_cond go
  exact k tl o
end
@[reducible] def tlV (tl:List (List Int)):PyData:=.list ((tlD tl).map .list)
def ayw:VP:=fun ss Q=>∃ (n a:Int) (T:Int->Int->Prop) (tl:List (List Int)),ss=[.st (tlV tl),.st (.int a)]/\n<=100/\TiedL n T tl/\(∀ u v,T u v->0<=v/\v < n)/\0<=a/\a < n/\Q (.own (OL (lab n.toNat (Gr.farO T a))))
section
variable {P:Program} {w:World} {K:Frag} {mg:Str->Option Value} {base:Heap}
theorem sc_far_from:FnScope ["tied","start","far","edge","beyond","place","other"] ["tied","start"] (aak s_far_from):=by row_cond sc
theorem afq (T:Txt K mg):Can P w K mg base "far_from" 1 ["tied","start"] (spP K (ayw)):=by
 obtain ⟨f,fd,D⟩:=T.d_far_from
 refine D.can (D.fn.ok sc_far_from (fun vs H Q E h=>lenP h fun ss Q' q=>by obtain ⟨n,a,T,tl,rfl,n1,X,hT,a0,a1,k⟩:=q;rfl) (fun cdv A outer s H vs Q E hr h=>?_))
 have nd:=sc_far_from.nd
 refine ⟨_,(aad (aam (i:=2) nd rfl (Or.inl rfl) (aae awi (aa7 (aaa act aac)) (aat ab4 (by rfl) T.b_len adi (aaa (pv 0) aac))))
  (aad (agu aab (aom (pv 2) (pv 1) akb))
  (aad (aam (i:=3) nd rfl (Or.inl rfl) (aa7 (aaa (pv 1) aac)))
  (aad (agc aG7 (ag9 (pv 3))
   (aad (aam (i:=4) nd rfl (Or.inl rfl) (aa7 aac))
    (aad (abg aG7 rfl (abp (pv 3)) (aao (i:=5) nd rfl (Or.inl rfl))
     (aaf (abg aG7 rfl (abp (aav aaw (pv 0) (pv 5) (fun _ _=>rfl))) (aao (i:=6) nd rfl (Or.inl rfl))
       (aaf (abm (aa2 at8 (aav aaw (pv 2) (pv 6) (fun _ _=>rfl)) act (aa0 _))
         (aad (agu (aae aas (aav aaw (pv 2) (pv 5) (fun _ _=>rfl)) aab) (aom (pv 2) (pv 6) akb))
          (aaf (aa9 (ab6 PySem.F.plainAttrs_list PySem.F.slot_list_append PySem.F.type_list_append aa5 (pv 4) (aaa (pv 6) aac)))))
         aa6)))))
    (aaf (aam (i:=3) nd rfl (Or.inl rfl) (pv 4))))))
  (aaf (aaz (pv 2))))))),?_⟩
 refine abd h fun ss Q' q B hK=>?_
 refine exS4 ss q fun n a T tl b=>?_
 have n1:=b.1
 have X:=b.2.1
 have hT:=b.2.2.1
 have a0:=b.2.2.2.1
 have a1:=b.2.2.2.2.1
 have k:=b.2.2.2.2.2
 clear b q
 show EvS B _ _ [some (.st (tlV tl)),some (.st (.int a)),none,none,none,none,none]
 have hl:tl.length=n.toNat:=by have:=X.1;omega
 row_cond go
 refine auw (by first | omega | (simp;done) | (simp;omega)) (by first | omega | (simp;done) | (simp;omega)) (by first | omega | (simp;done) | (simp;omega)) ?_
 simp only [ay7,hl]
 rw [show ((n.toNat:Nat):Int).toNat=n.toNat by omega,ava]
 row_cond go
 refine an3 (j:=a.toNat) rfl (by rw [acj];exact aet a0 (by omega)) ?_
 dsimp only [List.set_cons_zero,List.set_cons_succ,reS]
 rw [show (PyData.int 0)=.int ((0:Nat):Int) from rfl,am6 a0 (by omega)]
 row_cond go
 refine af2 3 rfl adl ?_
 dsimp only [List.set_cons_zero,List.set_cons_succ]
 refine afm (fun m e=>∃ v4 I y far edge r,e=[some (.st (tlV tl)),some (.st (.int a)),some (.own (OL (lab n.toNat far))),some (.st (.list (edge.map .int))),v4,I,y]/\Gr.Ring T a r far edge/\(∀ v∈edge,0<=v/\v < n)/\m=2 * cnt far n.toNat+(if edge=[] then 0 else 1))
  ⟨_,none,none,none,_,[a],0,rfl,Gr.Ring.start,fun v N=>by simp at N;subst N;exact ⟨a0,a1⟩,rfl⟩ ?_
 rintro m e l
 refine exS6 e l fun v4 I y far edge r b=>?_
 have R:=b.1
 have hb:=b.2.1
 have a2:=b.2.2
 clear b l
 subst a2
 row_cond go
 rw [al7]
 cases hedge:edge with
 | nil =>
  subst hedge
  refine ad4 ?_
  row_cond go
  rw [apm (g:=Gr.farO T a) fun v _ _=>R.fin v]
  exact k
 | cons e0 er =>
  refine adk ?_
  rw [← hedge]
  have Y:edge ≠ []:=by rw [hedge];simp
  row_cond go
  refine ac9 (fun i e=>∃ I y c beyond,e=[some (.st (tlV tl)),some (.st (.int a)),some (.own (OL (lab n.toNat c))),some (.st (.list (edge.map .int))),some (.own (OL (beyond.map .int))),I,y]/\Gr.Mid T r far edge (fun u=>u∈edge.take i) c beyond/\cnt c n.toNat+beyond.length=cnt far n.toNat/\∀ v∈beyond,0<=v/\v < n)
   ⟨I,y,far,[],rfl,Gr.Mid.start.imp fun u J=>by simp at J,rfl,fun v N=>by simp at N⟩ ?_ ?_
  ·rintro i p e hp l
   refine exS4 e l fun I y c beyond b=>?_
   have C:=b.1
   have G:=b.2.1
   have o:=b.2.2
   clear b l
   have M:=ay6 hp
   obtain ⟨p0,p1⟩:=hb p M
   obtain ⟨ws,Z,hw⟩:=X.get p0 p1
   have a3:atI ((tlD tl).map PyData.list) p=some (.list (ws.map .int)):=afo (f:=PyData.list) (ahh p0 (adz Z))
   row_cond go
   have S:far p=some r:=(R.lab p r).mpr ⟨(R.edg p).mp M,az0 _⟩
   refine ac9 (fun j e=>∃ y c beyond,e=[some (.st (tlV tl)),some (.st (.int a)),some (.own (OL (lab n.toNat c))),some (.st (.list (edge.map .int))),some (.own (OL (beyond.map .int))),some (.st (.int p)),y]/\Gr.Mid T r far edge (fun u=>u∈edge.take i) c beyond/\cnt c n.toNat+beyond.length=cnt far n.toNat/\(∀ v∈beyond,0<=v/\v < n)/\∀ x∈ws.take j,c x ≠ none)
    ⟨y,c,beyond,rfl,C,G,o,fun x L=>by simp at L⟩ ?_ ?_
   ·rintro j u e J l
    refine exS3 e l fun y c beyond b=>?_
    have C:=b.1
    have G:=b.2.1
    have o:=b.2.2.1
    have z:=b.2.2.2
    clear b l
    have tu:T p u:=(hw u).mp (ay6 J)
    obtain ⟨O,u1⟩:=hT _ _ tu
    have a4:atI (lab n.toNat c) u=some (oD (c u)):=apl O (by omega)
    have a5:atI (lab n.toNat c) p=some (.int (r:Int)):=by
     rw [apl p0 (by omega),C.old p r S];rfl
    row_cond go
    rw [au9]
    cases hf:c u with
    | none =>
     refine adk ?_
     row_cond go
     refine an3 (j:=u.toNat) rfl (by rw [acj];exact aet O (by omega)) ?_
     dsimp only [List.set_cons_zero,List.set_cons_succ,reS]
     rw [show (PyData.int ((r:Int)+1))=.int ((r+1:Nat):Int) by simp,am6 O (by omega)]
     have a6:=aiz (d:=r+1) O hf (n:=n.toNat) (by omega)
     have W:beyond.length<=cnt far n.toNat:=by omega
     have U:∀ m,cnt far m<=m:=fun m=>by
      induction m with
      | zero=>exact az0 _
      | succ m ih=>unfold cnt;split <;> omega
     have:=U n.toNat
     row_cond go
     refine ⟨some (.st (.int u)),Gr.label c u (r+1),beyond ++ [u],by simp,C.add M tu hf,by simp;omega,fun v N=>?_,fun x L=>?_⟩
     ·rcases az1.mp N with h | h
      ·exact o v h
      ·have:v=u:=by simpa using h
       subst this;exact ⟨O,u1⟩
     ·by_cases hx2:x=u
      ·subst hx2;rw [Gr.label_same];simp
      ·rw [Gr.label_ne hx2]
       rcases ado J L with h | h
       ·exact z x h
       ·exact absurd h hx2
    | some d =>
     refine ad4 ?_
     row_cond go
     refine ⟨_,c,beyond,rfl,C,G,o,fun x L=>?_⟩
     rcases ado J L with h | h
     ·exact z x h
     ·subst h;rw [hf];simp
   ·rintro e l
    refine exS3 e l fun y c beyond b=>?_
    have C:=b.1
    have G:=b.2.1
    have o:=b.2.2.1
    have z:=b.2.2.2
    clear b l
    rw [aE2] at z
    refine ⟨_,_,c,beyond,rfl,?_,G,o⟩
    refine (C.did (u:=p) fun x tx=>z x ((hw x).mpr tx)).imp fun x L=>?_
    exact ado hp L
  ·rintro e l
   refine exS4 e l fun I y c beyond b=>?_
   have C:=b.1
   have G:=b.2.1
   have o:=b.2.2
   clear b l
   row_cond go
   refine ⟨_,?_,_,_,_,c,beyond,r+1,rfl,R.next C fun u J=>by rw [aE2];exact J,o,rfl⟩
   rw [aD0 Y]
   cases beyond with
   | nil=>rw [aC9 rfl];simp at G;omega
   | cons b0 br=>rw [aD0 (by simp)];simp at G;omega
end
def amb:VP:=fun ss Q=>∃ (n a:Int) (es:List (Int × Int)),ss=[.st (webD n es),.st (.int a)]/\0<=a/\a < n/\Q (.st .none)
def asd:VP:=fun ss Q=>∃ (n a:Int) (es:List (Int × Int)),ss=[.st (webD n es),.st (.int a)]/\n<=100/\InN n es/\es.length<=10000/\0<=a/\a < n/\Q (.own (OL (lab n.toNat (Gr.farO (Tied es) a))))
def ase:VP:=fun ss Q=>∃ (n:Int) (es:List (Int × Int)),ss=[.st (webD n es)]/\1<=n/\n<=100/\InN n es/\es.length<=10000/\∀ b:Bool,(b=true ↔ Joined n es)->Q (.st (.bool b))
section
variable {P:Program} {w:World} {K:Frag} {mg:Str->Option Value} {base:Heap}
theorem sc_need_place:FnScope ["web","thing"] ["web","thing"] (aak s_need_place):=by row_cond sc
theorem aie (T:Txt K mg):Can P w K mg base "need_place" 4 ["web","thing"] (spP K (amb)):=by
 obtain ⟨f,fd,D⟩:=T.d_need_place
 refine D.can (D.fn.ok sc_need_place (fun vs H Q E h=>lenP h fun ss g q=>by obtain ⟨n,a,es,rfl,a0,c,k⟩:=q;rfl) (fun cdv A outer s H vs Q E d h=>?_))
 have nd:=sc_need_place.nd
 refine ⟨_,(aaf (abm (afc (ad0 (aaq (aln T) d (aaa (aav aaw (pv 0) aab (fun _ _=>rfl)) (aaa (pv 1) aac)))))
   (aaf agb)
   aa6)),?_⟩
 refine abd h fun ss g q B i=>?_
 refine exS3 ss q fun n a es b=>?_
 have a0:=b.1
 have c:=b.2.1
 have k:=b.2.2
 clear b q
 show EvS B _ _ [some (.st (webD n es)),some (.st (.int a))]
 row_cond go
 refine ⟨_,_,rfl,?_⟩
 row_cond go
 have e:btwD 0 (n - 1) (.int a)=true:=aB8 ⟨a0,by omega⟩
 rw [e]
 row_cond go
 exact k
theorem sc_all_far:FnScope ["web","a"] ["web","a"] (aak s_all_far):=by row_cond sc
theorem amc (T:Txt K mg):Can P w K mg base "all_far" 5 ["web","a"] (spP K (asd)):=by
 obtain ⟨f,fd,D⟩:=T.d_all_far
 refine D.can (D.fn.ok sc_all_far (fun vs H Q E h=>lenP h fun ss m q=>by obtain ⟨n,a,es,rfl,i,c,d,a0,g,k⟩:=q;rfl) (fun cdv A outer s H vs Q E j h=>?_))
 have nd:=sc_all_far.nd
 refine ⟨_,(aad (aa9 (aaq (aie T) j (aaa (pv 0) (aaa (pv 1) aac))))
  (aaf (aaz (aaq (afq T) j (aaa (aaq (aeh T) j (aaa (pv 0) aac)) (aaa (pv 1) aac)))))),?_⟩
 refine abd h fun ss m q B o=>?_
 refine exS3 ss q fun n a es b=>?_
 have i:=b.1
 have c:=b.2.1
 have d:=b.2.2.1
 have a0:=b.2.2.2.1
 have g:=b.2.2.2.2.1
 have k:=b.2.2.2.2.2
 clear b q
 show EvS B _ _ [some (.st (webD n es)),some (.st (.int a))]
 row_cond go
 refine ⟨n,a,es,rfl,a0,g,?_⟩
 row_cond go
 refine ⟨n,es,rfl,by omega,i,c,d,fun tl l=>?_⟩
 refine axo ?_
 row_cond go
 exact ⟨n,a,Tied es,tl,rfl,i,l,fun u v h=>(h.in c).2,a0,g,k⟩
theorem sc_is_joined:FnScope ["web"] ["web"] (aak s_is_joined):=by row_cond sc
theorem ajn (T:Txt K mg):Can P w K mg base "is_joined" 6 ["web"] (spP K (ase)):=by
 obtain ⟨f,fd,D⟩:=T.d_is_joined
 refine D.can (D.fn.ok sc_is_joined (fun vs H Q E h=>lenP h fun ss o q=>by obtain ⟨n,es,rfl,l,i,c,b,k⟩:=q;rfl) (fun cdv A outer s H vs Q E j h=>?_))
 have nd:=sc_is_joined.nd
 refine ⟨_,(aaf (aaz (acy (apc j.units) act (aaq (amc T) j (aaa (pv 0) (aaa aab aac))) rfl))),?_⟩
 refine abd h fun ss o q B p=>?_
 refine exS2 ss q fun n es a=>?_
 have l:=a.1
 have i:=a.2.1
 have c:=a.2.2.1
 have b:=a.2.2.2.1
 have k:=a.2.2.2.2
 clear a q
 show EvS B _ _ [some (.st (webD n es))]
 row_cond go
 refine ⟨n,0,es,rfl,i,c,b,by omega,by omega,?_⟩
 row_cond go
 refine aur rfl apn (by simp [PyData.depth]) ?_
 row_cond go
 refine k _ ?_
 rw [aC9 rfl,Bool.not_eq_true',← Bool.not_eq_true,avb]
 constructor
 ·intro h v g m
  cases e:Gr.farO (Tied es) 0 v with
  | some d=>exact ⟨d,Gr.farO_some.mp e⟩
  | none=>exact absurd ⟨v,g,by omega,e⟩ h
 ·rintro h ⟨v,g,m,e⟩
  obtain ⟨d,hd⟩:=h v g (by omega)
  exact Gr.farO_none.mp e d hd
end
def dsF (es:List (Int × Int)) (u v:Int):Int:=(((Gr.farO (Tied es) u v).getD 0:Nat):Int)
def rowD (n:Nat) (r:Int->Int):List PyData:=(List.range n).map fun (i:Nat) => .int (r (i:Int))
def matD (n:Nat) (m:Int->Int->Int):List PyData:=(List.range n).map fun (u:Nat) => .list (rowD n (m (u:Int)))
theorem aqj {n:Nat} {r:Int->Int} {x:Int} (a:0<=x) (b:x < n):atI (rowD n r) x=some (.int (r x)):=by
 have:=adu (xs:=rowD n r) (j:=x.toNat) (v:=.int (r x)) (by
  unfold rowD
  rw [ay9,ay4 (by simp;omega)]
  simp [Int.max_eq_left a])
 rwa [show ((x.toNat:Nat):Int)=x by omega] at this
theorem aqk {n:Nat} {m:Int->Int->Int} {x:Int} (a:0<=x) (b:x < n):atI (matD n m) x=some (.list (rowD n (m x))):=by
 have:=adu (xs:=matD n m) (j:=x.toNat) (v:=.list (rowD n (m x))) (by
  unfold matD
  rw [ay9,ay4 (by simp;omega)]
  simp [Int.max_eq_left a])
 rwa [show ((x.toNat:Nat):Int)=x by omega] at this
theorem aif {n:Nat} {m:Int->Int->Int}:(matD n m).length=n:=by simp [matD]
theorem asf {n:Nat} {r:Int->Int}:rowD n r=((List.range n).map fun (i:Nat)=>r (i:Int)).map .int:=by simp [rowD]
theorem aho {n:Int} {es:List (Int × Int)} (b:Joined n es) {u v:Int} (h:0<=u) (c:u < n) (a:0<=v) (f:v < n):∃ d,Gr.farO (Tied es) u v=some d:=by
 cases e:Gr.farO (Tied es) u v with
 | some d=>exact ⟨d,rfl⟩
 | none =>
  obtain ⟨k,g⟩:=b.conn u v h c a f
  obtain ⟨d,_,hd⟩:=Gr.Dist.of_walk g
  exact absurd hd (Gr.farO_none.mp e d)
theorem avr {n:Int} {es:List (Int × Int)} (a:Joined n es) {u:Int} (c:0<=u) (b:u < n):lab n.toNat (Gr.farO (Tied es) u)=rowD n.toNat (dsF es u):=by
 unfold lab rowD
 refine aC5 fun i hi=>?_
 obtain ⟨d,e⟩:=aho a c b (show 0<=(i:Int) by omega) (by have:=aA2.mp hi;omega)
 simp only [dsF,e,oD,Option.getD_some]
theorem ad7 {α:Type} {K:Frag} {src:List (Option Nat)} {a:En} {te:TE} {R:List PyData->En->Prop} {xs:List α} {f : α->PyData} (g : α->PyData) (m:noIo (aan src a)=true) (A:xs.length<=999999)
  (h:∀ x∈xs,∀ c:Bs,c.K=K->Ev c te (some (.st (f x)) :: aan src a) fun y l=>y=g x/\l=some (.st (f x)) :: aan src a)
  (z:R (xs.map g) a):LcV K (none :: src) (aay 0) tYes te (xs.map f) a R:=by
 have b:noIo (aan (none :: src) a)=true:=by
  show ((none :: aan src a).all fun s => !isIo s)=true
  rw [List.all_cons]
  exact (aE5 _ _).mpr ⟨rfl,m⟩
 refine ⟨fun i ys e=>ys=(xs.take i).map g/\∃ o,e=stO o :: aan src a,⟨by simp,none,rfl⟩,?_,?_,?_⟩
 ·rintro i ys e ⟨_,o,rfl⟩
  exact ⟨⟨isIo_stO.symm,acq⟩,adn ade⟩
 ·rintro i d ys e hd ⟨rfl,o,rfl⟩ c r
  rw [ay9] at hd
  cases hx:xs[i]? with
  | none=>rw [hx] at hd;cases hd
  | some x =>
   rw [hx] at hd
   cases hd
   have hi:i < xs.length:=(ay5.mp hx).1
   have p:xs.take (i+1)=xs.take i ++ [x]:=by rw [aE8,hx];rfl
   refine aar (adw ?_)
   rw [aC9 rfl]
   intro σ G H F Q I k
   refine h x (ay6 hx) c r σ G H F Q I fun v G' H' q d' l n g' u ⟨w,j⟩=>k v G' H' q d' l n g' u ?_
   subst w j
   refine ⟨by simp;omega,by rw [p];simp,some _,rfl⟩
 ·rintro ys e ⟨rfl,o,rfl⟩
  rw [af1 b]
  simpa using z
theorem asg {ns:List Int} {x y:Int} (h:aez ns x) (g:aez ns y):x=y:=Int.le_antisymm (g.2 x h.1) (h.2 y g.1)
theorem aig:∀ {ns:List Int},ns ≠ []->∃ x,aez ns x
 | [a],_=>⟨a,by simp [aez]⟩
 | a :: b :: r,_=>by
  obtain ⟨x,d,hm⟩:=aig (ns:=b :: r) (by simp)
  by_cases h:a<=x
  ·exact ⟨x,az8 _ d,fun y c=>by
    rcases az2.mp c with rfl | c
    ·exact h
    ·exact hm y c⟩
  ·exact ⟨a,aA1,fun y c=>by
    rcases az2.mp c with rfl | c
    ·exact Int.le_refl _
    ·have:=hm y c;omega⟩
theorem avs {n:Nat} (b:1<=n) (m:Int->Int->Int):∃ a:Nat->Int,∀ u:Nat,aez ((List.range n).map fun (i:Nat)=>m (u:Int) (i:Int)) (a u) :=
 ⟨fun u=>Classical.choose (aig (ns:=(List.range n).map fun (i:Nat)=>m (u:Int) (i:Int)) (by simp;omega)),fun u=>Classical.choose_spec (aig (ns:=(List.range n).map fun (i:Nat)=>m (u:Int) (i:Int)) (by simp;omega))⟩
def alo:VP:=fun ss Q=>∃ (n:Int) (es:List (Int × Int)),ss=[.st (webD n es)]/\1<=n/\n<=100/\InN n es/\es.length<=10000/\Joined n es/\Q (.st .none)
def ai1:VP:=fun ss Q=>∃ (n:Int) (es:List (Int × Int)),ss=[.st (webD n es)]/\1<=n/\n<=100/\InN n es/\es.length<=10000/\Joined n es/\Q (.own (OL (matD n.toNat (dsF es))))
def atf (n:Nat) (m:Int->Int->Int) (x:Int):Prop:=(∃ u v:Int,0<=u/\u < n/\0<=v/\v < n/\m u v=x)/\∀ u v:Int,0<=u->u < n->0<=v->v < n->m u v<=x
def aql:VP:=fun ss Q=>∃ (n:Nat) (m:Int->Int->Int),ss=[.st (.list (matD n m))]/\1<=n/\n<=1000/\∀ x,atf n m x->Q (.st (.int x))
structure FreeAll (n:Int) (es fs:List (Int × Int)):Prop where
 mem:∀ p:Int × Int,p∈fs ↔ (0<=p.1/\p.1 < p.2/\p.2 < n/\p ∉ es)
 rise:Rise fs
theorem FreeAll.eq {n:Int} {es fs a:List (Int × Int)} (h:FreeAll n es fs) (g:FreeAll n es a):fs=a:=h.rise.eq g.rise fun p=>by rw [h.mem,g.mem]
theorem FreeAll.len {n:Int} {es fs:List (Int × Int)} (h:FreeAll n es fs) (a:n<=100):fs.length<=10000:=PsOk.len ⟨h.rise.nodup,fun p b=>by have:=(h.mem p).mp b;omega⟩ a
section
variable {P:Program} {w:World} {K:Frag} {mg:Str->Option Value} {base:Heap}
theorem sc_need_joined:FnScope ["web"] ["web"] (aak s_need_joined):=by row_cond sc
theorem ahp (T:Txt K mg):Can P w K mg base "need_joined" 7 ["web"] (spP K (alo)):=by
 obtain ⟨f,fd,D⟩:=T.d_need_joined
 refine D.can (D.fn.ok sc_need_joined (fun vs H Q E h=>lenP h fun ss m q=>by obtain ⟨n,es,rfl,i,g,d,c,j,k⟩:=q;rfl) (fun cdv A outer s H vs Q E l h=>?_))
 have nd:=sc_need_joined.nd
 refine ⟨_,(aaf (abm (afc (ad0 (aaq (ajn T) l (aaa (pv 0) aac))))
   (aaf agb)
   aa6)),?_⟩
 refine abd h fun ss m q B o=>?_
 refine exS2 ss q fun n es a=>?_
 have i:=a.1
 have g:=a.2.1
 have d:=a.2.2.1
 have c:=a.2.2.2.1
 have j:=a.2.2.2.2.1
 have k:=a.2.2.2.2.2
 clear a q
 show EvS B _ _ [some (.st (webD n es))]
 row_cond go
 refine ⟨n,es,rfl,i,g,d,c,fun b hb=>?_⟩
 have:b=true:=hb.mpr j
 subst this
 row_cond go
 exact k
theorem sc_far_rows:FnScope ["web","tied"] ["web"] (aak s_far_rows):=by row_cond sc
theorem alp (T:Txt K mg):Can P w K mg base "far_rows" 8 ["web"] (spP K (ai1)):=by
 obtain ⟨f,fd,D⟩:=T.d_far_rows
 refine D.can (D.fn.ok sc_far_rows (fun vs H Q E h=>lenP h fun ss x q=>by obtain ⟨n,es,rfl,o,d,b,c,l,k⟩:=q;rfl) (fun cdv A outer s H vs Q E j h=>?_))
 have nd:=sc_far_rows.nd
 refine ⟨_,(aad (aa9 (aaq (ahp T) j (aaa (pv 0) aac)))
  (aad (aam (i:=1) nd rfl (Or.inr rfl) (aaq (aeh T) j (aaa (pv 0) aac)))
  (aaf (aaz (aex rfl (N:=["place","tied"]) (src:=[none,some 1]) (by exact ab2 rfl rfl rfl rfl rfl rfl) (aba rfl T.b_range (aaa (aat ab4 (by rfl) T.b_len adi (aaa (pv 1) aac)) aac)) (fun _ _ _ _=>(aao (i:=0) (show List.Nodup (["place","tied"]:List Str) by decide +kernel) rfl (Or.inl rfl) (hf:=Or.inr rfl))) (fun _ _ _ _=>ab1) (fun _ _ _ _=>(aaq (afq T) j (aaa (pv 1) (aaa (pv 0) aac))))))))),?_⟩
 refine abd h fun ss x q B F=>?_
 refine exS2 ss q fun n es a=>?_
 have o:=a.1
 have d:=a.2.1
 have b:=a.2.2.1
 have c:=a.2.2.2.1
 have l:=a.2.2.2.2.1
 have k:=a.2.2.2.2.2
 clear a q
 show EvS B _ _ [some (.st (webD n es)),none]
 row_cond go
 refine ⟨n,es,rfl,o,d,b,c,l,?_⟩
 row_cond go
 refine ⟨n,es,rfl,by omega,d,b,c,fun tl p=>?_⟩
 refine af5 aes ?_
 have y:tl.length=n.toNat:=by have:=p.1;omega
 have m:((tlD tl).map PyData.list).length=n.toNat:=by simp [tlD,y]
 row_cond go
 rw [m,show (((n.toNat:Nat):Int)).toNat=n.toNat by omega]
 unfold rngD
 refine ad7 (fun u:Nat => .list (rowD n.toNat (dsF es (u:Int)))) rfl (by simp;omega) (fun u r z C=>?_) ?_
 ·have g:(u:Int) < n:=by have:=aA2.mp r;omega
  row_cond go
  refine ⟨n,0+(u:Int),Tied es,tl,rfl,d,p,fun u v h=>(h.in b).2,by omega,by omega,aee ⟨?_,rfl⟩⟩
  rw [aF9,avr l (by omega) g]
 ·row_cond go
  exact k
theorem sc_most_far:FnScope ["rows"] ["rows"] (aak s_most_far):=by row_cond sc
theorem alq (T:Txt K mg):Can P w K mg base "most_far" 1 ["rows"] (spP K (aql)):=by
 obtain ⟨f,fd,D⟩:=T.d_most_far
 refine D.can (D.fn.ok sc_most_far (fun vs H Q E h=>lenP h fun ss p q=>by obtain ⟨n,m,rfl,g,l,k⟩:=q;rfl) (fun cdv A outer s H vs Q E C h=>?_))
 have nd:=sc_most_far.nd
 refine ⟨_,(aaf (aaz (aat (aiu rfl) (by rfl) T.b_max ag4 (aaa (aex rfl (N:=["row"]) (src:=[none]) (by exact ab2 rfl rfl rfl rfl rfl rfl) (abp (pv 0)) (fun _ _ _ _=>(aao (i:=0) (show List.Nodup (["row"]:List Str) by decide +kernel) rfl (Or.inl rfl) (hf:=Or.inr rfl))) (fun _ _ _ _=>ab1) (fun _ _ _ _=>(aat (show abh _ (.builtin "max") (ajy K) from (aiu rfl)) (by rfl) T.b_max ag4 (aaa (pv 0) aac)))) aac)))),?_⟩
 refine abd h fun ss p q B O=>?_
 refine exS2 ss q fun n m a=>?_
 have g:=a.1
 have l:=a.2.1
 have k:=a.2.2
 clear a q
 show EvS B _ _ [some (.st (.list (matD n m)))]
 obtain ⟨c,b⟩:=avs g m
 row_cond go
 unfold matD
 refine ad7 (fun u:Nat => .int (c u)) rfl (by simp;omega) (fun u M J L=>?_) ?_
 ·row_cond go
  rw [asf]
  exact ale (by simp;omega) fun x d=>⟨by rw [asg d (b u)],rfl⟩
 ·row_cond go
  rw [show (List.range n).map (fun u:Nat=>PyData.int (c u))=((List.range n).map c).map .int by rw [aB9];rfl]
  refine ale (by simp;omega) fun x d=>?_
  row_cond go
  refine k x ⟨?_,fun u v G z y I=>?_⟩
  ·obtain ⟨i,hi,e⟩:=aA0.mp d.1
   obtain ⟨j,hj,r⟩:=aA0.mp (b i).1
   exact ⟨i,j,by omega,by have:=aA2.mp hi;omega,by omega,by have:=aA2.mp hj;omega,r.trans e⟩
  ·have o:=(b u.toNat).2 (m ((u.toNat:Nat):Int) ((v.toNat:Nat):Int)) (aA0.mpr ⟨v.toNat,aA2.mpr (by omega),rfl⟩)
   have F:=d.2 (c u.toNat) (aA0.mpr ⟨u.toNat,aA2.mpr (by omega),rfl⟩)
   rw [show ((u.toNat:Nat):Int)=u by omega,show ((v.toNat:Nat):Int)=v by omega] at o
   omega
end
def DrawsOk (ds:List Int):Prop:=∀ x∈ds,0<=x/\x < 10007
theorem DrawsOk.snoc {ds:List Int} {x:Int} (h:DrawsOk ds) (b:0<=x) (c:x < 10007):DrawsOk (ds ++ [x]):=fun y a=>by
 rcases az1.mp a with a | a
 ·exact h y a
 ·have:y=x:=by simpa using a
  subst this;exact ⟨b,c⟩
theorem ash {xs:List PyData} {lo hi:Option Int} {d:PyData} (h:d∈cutD xs lo hi):d∈xs:=aA7 (aA3 h)
theorem asi {xs:List PyData} {lo hi:Option Int}:(cutD xs lo hi).length<=xs.length:=by unfold cutD;simp;omega
theorem ae3 (ds:List Int) (x:Int):ds.map PyData.int ++ [.int x]=(ds ++ [x]).map .int:=by simp
def avt:VP:=fun ss Q=>∃ (ns:List Int) (many:Int),ss=[.scr ns,.st (.int many)]/\ns.length<=63/\0<=many/\many<=1000/\∀ ds:List Int,many<=ds.length->ds.length<=3000->DrawsOk ds->Q (.own (OL (ds.map .int)))
section
variable {P:Program} {w:World} {K:Frag} {mg:Str->Option Value} {base:Heap}
theorem sc_law_draws:FnScope ["script","many","drawn","base","k","cell","number","one"] ["script","many"] (aak s_law_draws):=by row_cond sc
theorem ajo (T:Txt K mg):Can P w K mg base "_law_draws" 1 ["script","many"] (spP K (avt)):=by
 obtain ⟨f,fd,D⟩:=T.d_law_draws
 refine D.can (D.fn.ok sc_law_draws (fun vs H Q E h=>lenP h fun ss W q=>by obtain ⟨ns,many,rfl,v,O,S,k⟩:=q;rfl) (fun cdv A outer s H vs Q E hr h=>?_))
 have nd:=sc_law_draws.nd
 refine ⟨_,(aad (aam (i:=2) nd rfl (Or.inl rfl) (aa7 aac))
  (aad (aam (i:=3) nd rfl (Or.inl rfl) aab)
  (aad (abg aG7 rfl (avc rfl T.b_enumerate (aaa (aqu atr (pv 0) ato (atp aab)) aac)) (aem rfl (abf (aao (i:=4) nd rfl (Or.inl rfl)) (abf (aao (i:=5) nd rfl (Or.inl rfl)) acx)))
   (aad (aam (i:=6) nd rfl (Or.inl rfl) (aat aps (by rfl) T.b_abs axp (aaa (pv 5) aac)))
    (aad (aam (i:=3) nd rfl (Or.inl rfl) (aae aax (aae aas (aae abn (pv 3) aab) (pv 6)) aab))
    (aaf (abm (aa2 anj (pv 6) (at7 (n:=1000000000000000000) (by decide) (by refine ⟨by decide,by decide,by decide⟩)) (aa0 _))
     (aaf (agc aG7 (PW.pt (aj4 (aa2 ajt (pv 6) aab (aa0 _)) (ahu (aa2 agv (aat ab4 (by rfl) T.b_len adi (aaa (pv 2) aac)) (pv 1) (aa0 _)))))
       (aad (aa9 (ab6 PySem.F.plainAttrs_list PySem.F.slot_list_append PySem.F.type_list_append aa5 (pv 2) (aaa (aae aax (pv 6) aab) aac)))
        (aaf (aam (i:=6) nd rfl (Or.inl rfl) (aae abt (pv 6) aab))))))
     (aad (aam (i:=7) nd rfl (Or.inl rfl) (aae aax (aae abn (aae aas (aae aas (aae aax (pv 6) aab) (pv 4)) aab) aab) aab))
      (aad (aam (i:=7) nd rfl (Or.inl rfl) (aae aax (aae abn (pv 7) (pv 7)) aab))
      (aad (aa9 (ab6 PySem.F.plainAttrs_list PySem.F.slot_list_append PySem.F.type_list_append aa5 (pv 2) (aaa (aae aax (aae abt (pv 7) aab) aab) aac)))
      (aad (aam (i:=7) nd rfl (Or.inl rfl) (aae aax (aae aas (aae aas (aae abn (pv 7) aab) (aae abn aab (pv 4))) aab) aab))
      (aad (aam (i:=7) nd rfl (Or.inl rfl) (aae aax (aae abn (pv 7) (pv 7)) aab))
      (aaf (aa9 (ab6 PySem.F.plainAttrs_list PySem.F.slot_list_append PySem.F.type_list_append aa5 (pv 2) (aaa (aae aax (aae abt (pv 7) aab) aab) aac))))))))))))))
  (aad (abg aG7 rfl (aba rfl T.b_range (aaa (aae acm (pv 1) (aat ab4 (by rfl) T.b_len adi (aaa (pv 2) aac))) aac)) (aao (i:=4) nd rfl (Or.inl rfl))
   (aad (aam (i:=7) nd rfl (Or.inl rfl) (aae aax (aae aas (aae aas (pv 3) (aae abn aab (pv 4))) aab) aab))
    (aad (aam (i:=7) nd rfl (Or.inl rfl) (aae aax (aae abn (pv 7) (pv 7)) aab))
    (aad (aam (i:=7) nd rfl (Or.inl rfl) (aae aax (aae aas (aae abn (pv 7) aab) (pv 4)) aab))
    (aaf (aa9 (ab6 PySem.F.plainAttrs_list PySem.F.slot_list_append PySem.F.type_list_append aa5 (pv 2) (aaa (aae aax (aae abt (aae aax (aae abn (pv 7) (pv 7)) aab) aab) aab) aac))))))))
  (aaf (aaz (pv 2))))))),?_⟩
 refine abd h fun ss W q B hK=>?_
 refine exS2 ss q fun ns many a=>?_
 have v:=a.1
 have O:=a.2.1
 have S:=a.2.2.1
 have k:=a.2.2.2
 clear a q
 show EvS B _ _ [some (.scr ns),some (.st (.int many)),none,none,none,none,none,none]
 row_cond go
 have J:(cutD (ns.map PyData.int) none (some 63)).length<=63:=aB3 asi (by simpa using v)
 refine ⟨fun i e=>∃ r p u l ds bs,e=[some (.scr ns),some (.st (.int many)),some (.own (OL (ds.map .int))),some (.st (.int bs)),r,p,u,l]/\0<=bs/\bs < 2147483629/\DrawsOk ds/\(ds.length:Int)<=2 * i+many,
  ⟨none,none,none,none,[],7,rfl,by omega,by omega,fun x z=>by simp at z,by simp;omega⟩,?_,?_⟩
 ·rintro i d e hd b
  refine exS6 e b fun r p u l ds bs a=>?_
  have b0:=a.1
  have R:=a.2.1
  have o:=a.2.2.1
  have j:=a.2.2.2
  clear a b
  obtain ⟨x,z,rfl⟩:=am8 hd
  have hi:i < 63:=aA8 (ay5.mp z).1 J
  obtain ⟨c,_,rfl⟩:=aA0.mp (ash (ay6 z))
  row_cond go
  have y:0<=(if c < 0 then -c else c):=by split <;> omega
  generalize (if c < 0 then -c else c)=num0 at y
  refine acd (fun L=>?_) (fun U=>?_)
  ·row_cond go
   refine afm (fun m e=>∃ g ds,e=[some (.scr ns),some (.st (.int many)),some (.own (OL (ds.map .int))),some (.st (.int ((bs * 31+num0) % 2147483629))),some (.st (.int (i:Int))),some (.st (.int c)),some (.st (.int g)),l]/\0<=g/\DrawsOk ds/\(ds.length:Int)<=2 * i+many/\m=g.toNat) ⟨_,num0,ds,rfl,y,o,j,rfl⟩ ?_
   rintro m e b
   refine exS2 e b fun g ds a=>?_
   have Z:=a.1
   have o:=a.2.1
   have j:=a.2.2.1
   have I:=a.2.2.2
   clear a b
   subst I
   row_cond go
   refine acd (fun M=>?_) (fun M=>?_)
   ·row_cond go
    rw [ay7]
    refine acd (fun N=>?_) (fun N=>?_)
    ·row_cond go
     refine ⟨(g / 10007).toNat,by omega,g / 10007,ds ++ [g % 10007],by simp,by omega,o.snoc (by omega) (by omega),by simp;omega,rfl⟩
    ·row_cond go
     exact ⟨_,_,_,_,ds,_,rfl,by omega,by omega,o,by push_cast;omega⟩
   ·row_cond go
    exact ⟨_,_,_,_,ds,_,rfl,by omega,by omega,o,by push_cast;omega⟩
  ·row_cond go
   rw [ae3,ae3]
   refine ⟨_,_,_,_,_,_,rfl,by omega,by omega,(o.snoc (by omega) (by omega)).snoc (by omega) (by omega),by simp;omega⟩
 ·rintro e b
  refine exS6 e b fun r p u l ds bs a=>?_
  have b0:=a.1
  have R:=a.2.1
  have o:=a.2.2.1
  have j:=a.2.2.2
  clear a b
  rw [ae2] at j
  row_cond go
  rw [ay7]
  have X:(ds.length:Int)<=1126:=by omega
  row_cond go
  refine abq (fun i e=>∃ r p u l es,e=[some (.scr ns),some (.st (.int many)),some (.own (OL (es.map .int))),some (.st (.int bs)),r,p,u,l]/\DrawsOk es/\es.length=ds.length+i) ⟨_,_,_,_,ds,rfl,o,rfl⟩ ?_ ?_
  ·rintro i e hi b
   refine exS5 e b fun r p u l es a=>?_
   have C:=a.1
   have G:=a.2
   clear a b
   have Y:(i:Int) < 1000:=by omega
   row_cond go
   rw [ae3]
   exact ⟨_,_,_,_,_,rfl,C.snoc (by omega) (by omega),by simp;omega⟩
  ·rintro e b
   refine exS5 e b fun r p u l es a=>?_
   have C:=a.1
   have G:=a.2
   clear a b
   row_cond go
   exact k es (by omega) (by omega) C
end
theorem DrawsOk.at {ds:List Int} (h:DrawsOk ds) {i:Int} (a:0<=i) (c:i < ds.length):∃ x,atI (ds.map PyData.int) i=some (.int x)/\0<=x/\x < 10007:=by
 have b:i.toNat < ds.length:=by omega
 have e:ds[i.toNat]?=some ds[i.toNat]:=ay4 b
 have:=h _ (ay6 e)
 exact ⟨_,afo (f:=PyData.int) (ahh a e),this.1,this.2⟩
def ayx:VP:=fun ss Q=>∃ (ds:List Int) (spot most:Int),ss=[.st (.list (ds.map .int)),.st (.int spot),.st (.int most)]/\DrawsOk ds/\0<=spot/\spot+50<=ds.length/\ds.length<=3000/\1<=most/\most<=60/\∀ n es,WebOk n es->n<=most->Joined n es->Q (.st (webD n es))
theorem at5 {a b c d e:Int} {i:Int} (f:0<=i) (g:i < 5):∃ y,atI [PyData.int a,PyData.int b,PyData.int c,PyData.int d,PyData.int e] i=some (PyData.int y)/\(y=a\/y=b\/y=c\/y=d\/y=e):=by
 rcases (show i=0\/i=1\/i=2\/i=3\/i=4 by omega) with rfl | rfl | rfl | rfl | rfl
 ·exact ⟨a,rfl,by simp⟩
 ·exact ⟨b,rfl,by simp⟩
 ·exact ⟨c,rfl,by simp⟩
 ·exact ⟨d,rfl,by simp⟩
 ·exact ⟨e,rfl,by simp⟩
theorem axz {a r n:Int} (a0:0<=a) (c:a < n) (d:0<=r) (b:r < n - 1):(a+1+r) % n ≠ a:=by
 by_cases h:a+1+r < n
 ·rw [Int.emod_eq_of_lt (by omega) h];omega
 ·have e:a+1+r=(a+1+r - n)+n * 1:=by omega
  rw [e,Int.add_mul_emod_self_left,Int.emod_eq_of_lt (by omega) (by omega)];omega
theorem ai2 {α β:Type} (f : α->β):∀ (l:List α) (k:Nat),(l.map f).eraseIdx k=(l.eraseIdx k).map f
 | [],_=>rfl
 | _ :: _,0=>rfl
 | a :: l,k+1=>by simp [ai2 f l k]
theorem ax0 {j:Int} {n:Nat} (b:0<=j) (a:j < n):seqIndex? j n=some j.toNat:=by unfold seqIndex?;simp;omega
theorem ax1 {left:List Int} {k:Nat} {y:Int} (a:left[k]?=some y):(left.map PyData.int)[k]?=some (.int y):=by rw [ay9,a];rfl
theorem ayy {x y:Int} {ns:List Int} (i:ns.Perm [x,y]) (c:ns.Pairwise (·<=·)):ns=if x < y then [x,y] else [y,x]:=by
 have f:(if x < y then [x,y] else [y,x]).Perm [x,y]:=by
  split
  ·exact List.Perm.refl _
  ·exact List.Perm.swap _ _ _
 have d:(if x < y then [x,y] else [y,x]).Pairwise (·<=·):=by
  split <;> simp <;> omega
 exact (i.trans f.symm).eq_of_pairwise (fun a b _ _ h g=>Int.le_antisymm h g) c d
section
variable {P:Program} {w:World} {K:Frag} {mg:Str->Option Value} {base:Heap}
theorem sc_law_web:FnScope ["d","spot","most","n","way","ties","k","x","head","a","b","kind","cut","two","order","left","at","turned"] ["d","spot","most"] (aak s_law_web):=by row_cond sc
theorem amd (T:Txt K mg):Can P w K mg base "_law_web" 1 ["d","spot","most"] (spP K (ayx)):=by
 obtain ⟨f,fd,D⟩:=T.d_law_web
 refine D.can (D.fn.ok sc_law_web (fun vs H Q E h=>lenP h fun ss Q' q=>by obtain ⟨ds,spot,most,rfl,X,s0,s1,hl,m0,m1,k⟩:=q;rfl) (fun cdv A outer s H vs Q E hr h=>?_))
 have nd:=sc_law_web.nd
 refine ⟨_,(aad (aam (i:=3) nd rfl (Or.inl rfl) (aae aas aab (aae aax (aav aaw (pv 0) (pv 1) (fun _ _=>rfl)) (pv 2))))
  (aad (aam (i:=4) nd rfl (Or.inl rfl) (aae aax (aae abt (aav aaw (pv 0) (pv 1) (fun _ _=>rfl)) aab) aab))
  (aad (aam (i:=5) nd rfl (Or.inl rfl) aqy)
  (aad (abg aG7 rfl (afd rfl T.b_range (aaa aab (aaa (pv 3) aac))) (aao (i:=6) nd rfl (Or.inl rfl))
   (aad (aam (i:=7) nd rfl (Or.inl rfl) (aav aaw (pv 0) (aae aas (aae aas (pv 1) aab) (aae aax (pv 6) aab)) (fun _ _=>rfl)))
    (aad (aam (i:=8) nd rfl (Or.inl rfl) (aav aaw (aa7 (aaa (aae acm (pv 6) aab) (aaa aab (aaa (aae aax (pv 7) (pv 6)) (aaa (aat (ag1 rfl) (by rfl) T.b_max ag4 (aaa aab (aaa (aae acm (aae acm (pv 6) aab) (aae aax (pv 7) aab)) aac))) (aaa (aae acm (pv 6) aab) aac)))))) (pv 4) (fun _ _=>rfl)))
    (aaf (aen (ad8 hr) (pv 5) (acv (aaa (pv 8) (aaa (pv 6) aac))) acs rfl)))))
  (aad (abm (PW.pt (aj4 (aa2 ani (pv 4) aab (aa0 _)) (ahu (aa2 ajt (pv 3) aab (aa0 _)))))
   (aaf (aen (ad8 hr) (pv 5) (acv (aaa aab (aaa (aae acm (pv 3) aab) aac))) acs rfl))
   aa6)
  (aad (abg aG7 rfl (aba rfl T.b_range (aaa (aae abn (aav aaw (aa7 (aaa aab (aaa aab (aaa aab (aaa aab (aaa (aae abt (pv 3) aab) aac)))))) (aae aax (aav aaw (pv 0) (aae aas (pv 1) aab) (fun _ _=>rfl)) aab) (fun _ _=>rfl)) (aff ag3 (by rfl) T.b_int akn (aaa (acy ajt (pv 3) aab (aa0 _)) aac))) aac)) (aao (i:=6) nd rfl (Or.inl rfl))
   (aad (aam (i:=9) nd rfl (Or.inl rfl) (aae aax (aav aaw (pv 0) (aae aas (aae aas (pv 1) aab) (aae aax (pv 6) aab)) (fun _ _=>rfl)) (pv 3)))
    (aad (aam (i:=10) nd rfl (Or.inl rfl) (aae aax (aae aas (aae aas (pv 9) aab) (aae aax (aav aaw (pv 0) (aae aas (aae aas (pv 1) aab) (aae aax (pv 6) aab)) (fun _ _=>rfl)) (aae acm (pv 3) aab))) (pv 3)))
    (aaf (aen (ad8 hr) (pv 5) (acv (aaa (aat (ag2 rfl) (by rfl) T.b_min ao9 (aaa (pv 9) (aaa (pv 10) aac))) (aaa (aat (ag1 rfl) (by rfl) T.b_max ag4 (aaa (pv 9) (aaa (pv 10) aac))) aac))) acs rfl)))))
  (aad (aam (i:=11) nd rfl (Or.inl rfl) (aae aax (aae abt (aav aaw (pv 0) (aae aas (pv 1) aab) (fun _ _=>rfl)) aab) aab))
  (aad (aam (i:=12) nd rfl (Or.inl rfl) (aae aas aab (aae aax (aae abt (aav aaw (pv 0) (aae aas (pv 1) aab) (fun _ _=>rfl)) aab) (aat (ag2 rfl) (by rfl) T.b_min ao9 (aaa (pv 3) (aaa aab aac))))))
  (aad (abg aG7 rfl (aba rfl T.b_range (aaa (pv 3) aac)) (aao (i:=10) nd rfl (Or.inl rfl))
   (aaf (abg aG7 rfl (aba rfl T.b_range (aaa (pv 10) aac)) (aao (i:=9) nd rfl (Or.inl rfl))
     (aad (aam (i:=13) nd rfl (Or.inl rfl) (agt (acy ani (pv 11) aab (aa0 _)) (agt (acy anj (pv 9) (pv 12) (aa0 _)) (aj5 (acy agv (pv 3) aab (aa0 _))))))
      (aaf (abm (PW.pt (aj4 (aa2 agv (pv 11) aab (aa0 _)) (ahu (PW.pt (ajq (aa2 agv (pv 10) (pv 12) (aa0 _)) (ags (ag9 (pv 13))))))))
       (aaf (aen (ad8 hr) (pv 5) (acv (aaa (pv 9) (aaa (pv 10) aac))) acs rfl))
       aa6))))))
  (aad (aam (i:=14) nd rfl (Or.inr rfl) (alh rfl T.b_list rfl T.b_range rfl (aaa (pv 3) aac)))
  (aad (abm (aa2 ajt (aae aax (aae abt (aav aaw (pv 0) (aae aas (pv 1) aab) (fun _ _=>rfl)) aab) aab) aab (aa0 _))
   (aad (aam (i:=15) nd rfl (Or.inl rfl) (alh rfl T.b_list rfl T.b_range rfl (aaa (pv 3) aac)))
    (aad (aam (i:=14) nd rfl (Or.inr rfl) (aa7 aac))
    (aaf (abg aG7 rfl (aba rfl T.b_range (aaa (pv 3) aac)) (aao (i:=6) nd rfl (Or.inl rfl))
     (aad (aam (i:=16) nd rfl (Or.inl rfl) (aae abt (aav aaw (pv 0) (aae aas (aae aas (pv 1) aab) (aae aax (pv 6) aab)) (fun _ _=>rfl)) (aae aas aab (aae abt (pv 6) aab))))
      (aaf (aa9 (ab6 PySem.F.plainAttrs_list PySem.F.slot_list_append PySem.F.type_list_append aa5 (pv 14) (aaa (ab6 PySem.F.plainAttrs_list PySem.F.slot_list_pop PySem.F.type_list_pop akg (pv 15) (aaa (aae aax (pv 16) (aat ab4 (by rfl) T.b_len adi (aaa (pv 15) aac))) aac)) aac)))))))))
   aa6)
  (aad (agf (i:=17) nd rfl (Or.inl rfl) rfl (N:=["a","b","order"]) (src:=[none,none,some 14]) (by exact ab2 rfl rfl rfl rfl rfl rfl) (ayl (pv 5)) (fun _ _ _ _=>(show PG _ _ (gTup K 2 (adb (aay 0) (adb (aay 1) gNil))) from (aem rfl (abf (aao (i:=0) (show List.Nodup (["a","b","order"]:List Str) by decide +kernel) rfl (Or.inl rfl) (hf:=Or.inr rfl)) (abf (aao (i:=1) (show List.Nodup (["a","b","order"]:List Str) by decide +kernel) rfl (Or.inl rfl) (hf:=Or.inr rfl)) acx))))) (fun _ _ _ _=>ab1) (fun _ _ _ _=>(aat (show abh _ (.builtin "sorted") (ag7 K) from anv) (by rfl) T.b_sorted aip (aaa (aa7 (aaa (aav (show IxR _ (ab7 K) from aaw) (pv 2) (pv 0) (fun _ _=>rfl)) (aaa (aav (show IxR _ (ab7 K) from aaw) (pv 2) (pv 1) (fun _ _=>rfl)) aac))) aac))))
  (aaf (aaz (acv (aaa (pv 3) (aaa (aat anz (by rfl) T.b_sorted aip (aaa (aex rfl (N:=["a","b"]) (src:=[none,none]) (by exact ab2 rfl rfl rfl rfl rfl rfl) (abp (pv 17)) (fun _ _ _ _=>(show PG _ _ (gLst K 2 (adb (aay 0) (adb (aay 1) gNil))) from (awu rfl (abf (aao (i:=0) (show List.Nodup (["a","b"]:List Str) by decide +kernel) rfl (Or.inl rfl) (hf:=Or.inr rfl)) (abf (aao (i:=1) (show List.Nodup (["a","b"]:List Str) by decide +kernel) rfl (Or.inl rfl) (hf:=Or.inr rfl)) acx))))) (fun _ _ _ _=>ab1) (fun _ _ _ _=>(acv (aaa (pv 0) (aaa (pv 1) aac))))) aac)) aac))))))))))))))))),?_⟩
 refine abd h fun ss Q' q B hK=>?_
 refine exS3 ss q fun ds spot most g=>?_
 have X:=g.1
 have s0:=g.2.1
 have s1:=g.2.2.1
 have hl:=g.2.2.2.1
 have m0:=g.2.2.2.2.1
 have m1:=g.2.2.2.2.2.1
 have k:=g.2.2.2.2.2.2
 clear g q
 show EvS B _ _ [some (.st (.list (ds.map .int))),some (.st (.int spot)),some (.st (.int most)),none,none,none,none,none,none,none,none,none,none,none,none,none,none,none]
 obtain ⟨Z,a0,b7,b8⟩:=X.at (i:=spot) s0 (by omega)
 obtain ⟨d1,a1,b9,b4⟩:=X.at (i:=spot+1) (by omega) (by omega)
 row_cond go
 have a4:1<=1+Z % most:=by have:=aC3 Z (show most ≠ 0 by omega);omega
 have a2:1+Z % most<=most:=by have:=aC4 Z (show 0 < most by omega);omega
 generalize 1+Z % most=n at a4 a2
 generalize hw:Z / 64 % 5=way
 have b0:0<=way:=by omega
 have a9:way < 5:=by omega
 have b6:(spot:Int)<=2950:=by omega
 row_cond go
 refine abq (fun i e=>∃ r G I ps,e=[some (.st (.list (ds.map .int))),some (.st (.int spot)),some (.st (.int most)),some (.st (.int n)),some (.st (.int way)),some (.own (OT (kE ps))),r,G,I,none,none,none,none,none,none,none,none,none]/\PsOk n ps/\Tr (1+i) ps) ⟨_,_,_,[],rfl,PsOk.nil n,fun k _ _=>by omega⟩ ?_ ?_
 ·rintro i e hi l
  refine exS4 e l fun r G I ps g=>?_
  have o:=g.1
  have C:=g.2
  clear g l
  have c0:(i:Int) < n - 1:=by omega
  obtain ⟨x,ax,xl,xh⟩:=X.at (i:=spot+2+(1+(i:Int)) % 20) (by omega) (by omega)
  have x0:=aC3 x (show 1+(i:Int) ≠ 0 by omega)
  have x1:=aC4 x (show 0 < 1+(i:Int) by omega)
  obtain ⟨hd,ah,hh⟩:=at5 (a:=1+(i:Int) - 1) (b:=0) (c:=x % (1+(i:Int))) (d:=if 1+(i:Int) - 1 - x % 3 > 0 then 1+(i:Int) - 1 - x % 3 else 0) (e:=1+(i:Int) - 1) b0 a9
  have h0:0<=hd/\hd < 1+(i:Int):=by
   generalize x % (1+(i:Int))=z at *
   split at hh <;> omega
  clear hh
  have hL:(kE ps).length<=999999:=by rw [aeg];exact aB3 (o.len (by omega)) (by decide)
  row_cond go
  rw [ahk]
  refine ⟨_,_,_,_,rfl,o.add h0.1 h0.2 (by omega),fun k k1 k2=>?_⟩
  by_cases hk:k=1+(i:Int)
  ·subst hk;exact ⟨hd,h0.1,h0.2,addP_mem.mpr (.inr rfl)⟩
  ·obtain ⟨h,z0,z1,z2⟩:=C k k1 (by push_cast at k2;omega);exact ⟨h,z0,z1,addP_mem.mpr (.inl z2)⟩
 ·rintro e l
  refine exS4 e l fun r G I ps g=>?_
  have o:=g.1
  have C:=g.2
  clear g l
  replace C:Tr n ps:=fun k k1 k2=>C k k1 (by omega)
  row_cond go
  refine' cutR (R:=∀ ps,PsOk n ps->Tr n ps->EvS B _ _ [some (.st (.list (ds.map .int))),some (.st (.int spot)),some (.st (.int most)),some (.st (.int n)),some (.st (.int way)),some (.own (OT (kE ps))),r,G,I,none,none,none,none,none,none,none,none,none]) (fun R=>?K1) ?K2
  case K1 =>
   refine acd (fun _=>?_) (fun _=>?_)
   ·row_cond go
    refine acd (fun hn=>?_) (fun hn=>?_)
    ·refine alj (fun e=>∃ ps,e=[some (.st (.list (ds.map .int))),some (.st (.int spot)),some (.st (.int most)),some (.st (.int n)),some (.st (.int way)),some (.own (OT (kE ps))),r,G,I,none,none,none,none,none,none,none,none,none]/\PsOk n ps/\Tr n ps) ?_ ?_
     ·have hL:(kE ps).length<=999999:=by rw [aeg];exact aB3 (o.len (by omega)) (by decide)
      row_cond go
      rw [ahk]
      exact ⟨_,rfl,o.add (by omega) (by omega) (by omega),C.add⟩
     ·rintro e l
      refine exS1 e l fun ps g=>?_
      have o:=g.1
      have C:=g.2
      clear g l
      exact R ps o C
    ·refine aca ?_
     exact R ps o C
   ·refine aca ?_
    exact R ps o C
  case K2 =>
   clear o C ps
   intro ps o C
   obtain ⟨Y,a5,h5⟩:=at5 (a:=0) (b:=0) (c:=1) (d:=2) (e:=n / 2) (i:=d1 % 5) (by omega) (by omega)
   have y0:0<=Y/\Y<=30:=by omega
   clear h5
   row_cond go
   have hm : -(2 ^ 62)<=Y * (if decide (1 < n)=true then 1 else 0)/\Y * (if decide (1 < n)=true then 1 else 0) < 2 ^ 62/\(0 < Y * (if decide (1 < n)=true then 1 else 0)->1 < n):=by
    by_cases hn:1 < n
    ·rw [aC9 (aB8 hn)];omega
    ·rw [aD0 (by simpa using hn)];omega
   generalize (Y * if decide (1 < n)=true then 1 else 0)=tot at hm
   obtain ⟨t0,t1,t2⟩:=hm
   row_cond go
   refine abq (fun i e=>∃ r G I O J ps,e=[some (.st (.list (ds.map .int))),some (.st (.int spot)),some (.st (.int most)),some (.st (.int n)),some (.st (.int way)),some (.own (OT (kE ps))),r,G,I,O,J,none,none,none,none,none,none,none]/\PsOk n ps/\Tr n ps) ⟨_,_,_,_,_,ps,rfl,o,C⟩ ?_ ?_
   ·clear o C r G I ps
    rintro i e hi l
    refine exS6 e l fun r G I O J ps g=>?_
    have o:=g.1
    have C:=g.2
    clear g l
    have hn:1 < n:=t2 (by omega)
    obtain ⟨x,ax,xl,xh⟩:=X.at (i:=spot+22+(0+(i:Int)) % 8) (by omega) (by omega)
    obtain ⟨y,ay,yl,yh⟩:=X.at (i:=spot+30+(0+(i:Int)) % 8) (by omega) (by omega)
    have hL:(kE ps).length<=999999:=by rw [aeg];exact aB3 (o.len (by omega)) (by decide)
    have u0:=aC3 x (show n ≠ 0 by omega)
    have u1:=aC4 x (show 0 < n by omega)
    have w0:=aC3 y (show n - 1 ≠ 0 by omega)
    have w1:=aC4 y (show 0 < n - 1 by omega)
    have z0:=aC3 (x % n+1+y % (n - 1)) (show n ≠ 0 by omega)
    have z1:=aC4 (x % n+1+y % (n - 1)) (show 0 < n by omega)
    have zn:=axz u0 u1 w0 w1
    row_cond go
    rw [ahk]
    generalize (x % n+1+y % (n - 1)) % n=q at *
    generalize x % n=p at *
    refine ⟨_,_,_,_,_,_,rfl,o.add ?_ ?_ ?_,C.add⟩ <;> (by_cases hb:q < p) <;> simp [hb] <;> omega
   ·clear o C r G I ps
    rintro e l
    refine exS6 e l fun r G I O J ps g=>?_
    have o:=g.1
    have C:=g.2
    clear g l
    row_cond go
    generalize d1 / 15 % 8=kind
    generalize (2+d1 / 120 % _:Int)=cut
    refine abq (fun i e=>∃ r G I O J L ps,e=[some (.st (.list (ds.map .int))),some (.st (.int spot)),some (.st (.int most)),some (.st (.int n)),some (.st (.int way)),some (.own (OT (kE ps))),r,G,I,O,J,some (.st (.int kind)),some (.st (.int cut)),L,none,none,none,none]/\PsOk n ps/\Tr n ps) ⟨_,_,_,_,_,_,ps,rfl,o,C⟩ ?_ ?_
    ·clear o C r G I O J ps
     rintro b e hb l
     refine exS7 e l fun r G I O J L ps g=>?_
     have o:=g.1
     have C:=g.2
     clear g l
     have b2:0+(b:Int) < n:=by omega
     row_cond go
     refine abq (fun i e=>∃ r G I O L ps,e=[some (.st (.list (ds.map .int))),some (.st (.int spot)),some (.st (.int most)),some (.st (.int n)),some (.st (.int way)),some (.own (OT (kE ps))),r,G,I,O,some (.st (.int (0+(b:Int)))),some (.st (.int kind)),some (.st (.int cut)),L,none,none,none,none]/\PsOk n ps/\Tr n ps) ⟨_,_,_,_,_,ps,rfl,o,C⟩ ?_ ?_
     ·clear o C r G I O L ps
      rintro a e ha l
      refine exS6 e l fun r G I O L ps g=>?_
      have o:=g.1
      have C:=g.2
      clear g l
      have a8:0+(a:Int) < 0+b:=by omega
      have hL:(kE ps).length<=999999:=by rw [aeg];exact aB3 (o.len (by omega)) (by decide)
      row_cond go
      refine' cutR (R:=∀ bb:Bool,EvS B _ _ [some (.st (.list (ds.map .int))),some (.st (.int spot)),some (.st (.int most)),some (.st (.int n)),some (.st (.int way)),some (.own (OT (kE ps))),r,G,I,some (.st (.int (0+(a:Int)))),some (.st (.int (0+(b:Int)))),some (.st (.int kind)),some (.st (.int cut)),some (.st (.bool bb)),none,none,none,none]) (fun R=>?K1) ?K2
      case K1 =>
       refine acd (fun _=>?_) (fun _=>?_)
       ·repeat (first | exact R _ | row_cond st)
        refine acd (fun _=>?_) (fun _=>?_)
        ·repeat (first | exact R _ | row_cond st)
        ·repeat (first | exact R _ | row_cond st)
       ·repeat (first | exact R _ | row_cond st)
      case K2 =>
       have W:PsOk n (addP ps (0+(a:Int),0+(b:Int)))/\Tr n (addP ps (0+(a:Int),0+(b:Int))):=⟨o.add (by omega) a8 b2,C.add⟩
       rintro (_ | _) <;> row_cond go <;> refine acd (fun _=>?_) (fun _=>?_) <;> row_cond go <;> first | exact ⟨_,_,_,_,_,_,rfl,o,C⟩ | (refine acd (fun _=>?_) (fun _=>?_) <;> row_cond go <;> first | exact ⟨_,_,_,_,_,_,rfl,o,C⟩ | (rw [ahk];exact ⟨_,_,_,_,_,_,rfl,W.1,W.2⟩))
     ·rintro e l
      refine exS6 e l fun r G I O L ps g=>?_
      have o:=g.1
      have C:=g.2
      clear g l
      exact ⟨_,_,_,_,_,_,ps,rfl,o,C⟩
    ·clear o C r G I O J ps
     rintro e l
     refine exS7 e l fun r G I O J L ps g=>?_
     have o:=g.1
     have C:=g.2
     clear g l
     row_cond go
     refine' cutR (R:=∀ m r S M,Order n m->EvS B _ _ [some (.st (.list (ds.map .int))),some (.st (.int spot)),some (.st (.int most)),some (.st (.int n)),some (.st (.int way)),some (.own (OT (kE ps))),r,G,I,O,J,some (.st (.int kind)),some (.st (.int cut)),L,some (.own (OL (m.map .int))),S,M,none]) (fun R=>?K1) ?K2
     case K1 =>
      rw [ana]
      refine acd (fun _=>?_) (fun _=>?_)
      ·refine alj (fun e=>∃ m r S M,e=[some (.st (.list (ds.map .int))),some (.st (.int spot)),some (.st (.int most)),some (.st (.int n)),some (.st (.int way)),some (.own (OT (kE ps))),r,G,I,O,J,some (.st (.int kind)),some (.st (.int cut)),L,some (.own (OL (m.map .int))),S,M,none]/\Order n m) ?_ ?_
       ·row_cond go
        refine abq (fun i e=>∃ m left r M,e=[some (.st (.list (ds.map .int))),some (.st (.int spot)),some (.st (.int most)),some (.st (.int n)),some (.st (.int way)),some (.own (OT (kE ps))),r,G,I,O,J,some (.st (.int kind)),some (.st (.int cut)),L,some (.own (OL (m.map .int))),some (.own (OL (left.map .int))),M,none]/\Order n (m ++ left)/\m.length=i) ⟨[],_,_,_,by rw [ana];rfl,Order.id n,rfl⟩ ?_ ?_
        ·rintro i e hi l
         refine exS4 e l fun m left r M g=>?_
         have U:=g.1
         have a7:=g.2
         clear g l
         have a3:left.length=n.toNat - i:=by have:=U.len;simp at this;omega
         obtain ⟨x,ax,xl,xh⟩:=X.at (i:=spot+38+(0+(i:Int)) % 12) (by omega) (by omega)
         iterate 30 (row_cond st)
         have b3:1<=1+(0+(i:Int)) / 12/\1+(0+(i:Int)) / 12<=100:=by omega
         row_cond st
         (generalize 1+(0+(i:Int)) / 12=z12 at b3)
         row_cond st
         row_cond st
         (generalize x / z12=q)
         row_cond go
         rw [ay7]
         have q0:=aC3 q (show (left.length:Int) ≠ 0 by omega)
         have q1:=aC4 q (show 0 < (left.length:Int) by omega)
         row_cond go
         (generalize q % (left.length:Int)=j at q0 q1)
         obtain ⟨y,hy⟩:∃ y,left[j.toNat]?=some y:=⟨_,ay4 (show j.toNat < left.length by omega)⟩
         refine ⟨_,left.map .int,j,j.toNat,.int y,rfl,rfl,.inl rfl,by omega,by omega,ax0 q0 (by rw [ay7];exact q1),ax1 hy,?_⟩
         rw [ai2]
         dsimp only [List.set_cons_zero,List.set_cons_succ,reS]
         row_cond go
         refine ⟨_,rfl,by rw [ay7];omega,?_⟩
         refine ⟨m ++ [y],left.eraseIdx j.toNat,_,_,by rw [ae3],aob U hy,by simp;omega⟩
        ·rintro e l
         refine exS4 e l fun m left r M g=>?_
         have U:=g.1
         have a7:=g.2
         clear g l
         have a3:left=[]:=by have:=U.len;simp at this;exact List.length_eq_zero_iff.mp (by omega)
         subst a3
         rw [aC6] at U
         exact ⟨m,_,_,_,rfl,U⟩
       ·rintro e l
        refine exS4 e l fun m r S M g=>?_
        have U:=g
        clear g l
        exact R m r S M U
      ·refine aca ?_
       exact R _ _ _ _ (Order.id n)
     case K2 =>
      clear r
      intro m r S M U
      refine af2 14 rfl adl ?_
      row_cond go
      rw [avj]
      refine ars (xs:=ps) (fa:=fun p => .int p.1) (fb:=fun p => .int p.2) (fun p => .list [.int (reP m p).1,.int (reP m p).2]) (fun _=>true) rfl (aB3 (o.len (by omega)) (by decide)) ?_ ?_
      ·intro p hp B' hB
       have hq:=o.inn p hp
       have r1:=afo (f:=PyData.int) (U.atI (a:=p.1) (by omega) (by omega))
       have r2:=afo (f:=PyData.int) (U.atI (a:=p.2) (by omega) (by omega))
       refine adw ⟨rfl,rfl,fun _=>?_⟩
       refine ach (ap2 ?_)
       row_cond go
       refine ⟨[abe m p.1,abe m p.2],rfl,by simp,fun b5 b1 a6=>aee ⟨?_,rfl⟩⟩
       rw [ayy b1 a6]
       unfold reP
       split <;> rfl
      ·rw [ahg]
       row_cond go
       refine ap4 (ps:=ps.map (reP m)) ?_
       row_cond go
       refine ap6 (xs:=ps) (fa:=fun p => .int (reP m p).1) (fb:=fun p => .int (reP m p).2) (fun p=>prD (reP m p)) (fun _=>true) rfl (aB3 (o.len (by omega)) (by decide)) ?_ ?_
       ·intro p hp B' hB
        refine adw ⟨rfl,rfl,fun _=>?_⟩
        row_cond go
        exact rfl
       ·rw [ahg]
        row_cond go
        refine ⟨by rw [aB9];rfl,fun qs hq hs=>aee ?_⟩
        row_cond go
        refine k n qs (ar9 a4 (by omega) (o.re U) hq hs) a2 ?_
        exact Conn.joined ((C.conn.re U).mono fun u v h=>(Tied.perm hq).mpr h) (by omega)
end
def ax2:VP:=fun ss Q=>∃ (n:Int) (es:List (Int × Int)),ss=[.st (webD n es)]/\es.length<=10000/\Q (.st (webD n es))
theorem ax3 {p:Int × Int} {a b c:Int} (h:ltP p (a,b)) (d:b<=c):ltP p (a,c):=by
 unfold ltP at *
 simp only at *
 omega
structure FreeTo (n:Int) (es fs:List (Int × Int)) (a b:Int):Prop where
 mem:∀ p:Int × Int,p∈fs ↔ (0<=p.1/\p.1 < p.2/\p.2 < n/\p ∉ es/\ltP p (a,b))
 rise:Rise fs
theorem FreeTo.len {n a b:Int} {es fs:List (Int × Int)} (h:FreeTo n es fs a b) (c:n<=100):fs.length<=10000:=PsOk.len ⟨h.rise.nodup,fun p d=>by have:=(h.mem p).mp d;omega⟩ c
theorem FreeTo.snoc {n a b c:Int} {es fs:List (Int × Int)} (h:FreeTo n es fs a b) (s:0<=a) (m:a < b) (r:b < n) (v:(a,b) ∉ es) (u:c=b+1):FreeTo n es (fs ++ [(a,b)]) a c:=by
 subst u
 refine ⟨fun p=>?_,aB2.mpr ⟨h.rise,List.pairwise_singleton _ _,fun p l q o=>?_⟩⟩
 ·rw [az1,h.mem,aA5]
  constructor
  ·rintro (⟨i,f,g,j,d⟩ | rfl)
   ·exact ⟨i,f,g,j,ax3 d (by omega)⟩
   ·exact ⟨s,m,r,v,.inr ⟨rfl,by simp only;omega⟩⟩
  ·rintro ⟨i,f,g,j,d⟩
   by_cases e:p=(a,b)
   ·exact .inr e
   ·refine .inl ⟨i,f,g,j,?_⟩
    rcases d with d | ⟨d,x⟩
    ·exact .inl d
    ·refine .inr ⟨d,?_⟩
     simp only at *
     have:p.2 ≠ b:=fun w=>e (Prod.ext d w)
     omega
 ·have:q=(a,b):=by simpa using o
  subst this;exact ((h.mem p).mp l).2.2.2.2
section
variable {P:Program} {w:World} {K:Frag} {mg:Str->Option Value} {base:Heap}
theorem sc_law_copy:FnScope ["web"] ["web"] (aak s_law_copy):=by row_cond sc
theorem alr (T:Txt K mg):Can P w K mg base "_law_copy" 1 ["web"] (spP K (ax2)):=by
 obtain ⟨f,fd,D⟩:=T.d_law_copy
 refine D.can (D.fn.ok sc_law_copy (fun vs H Q E h=>lenP h fun ss b q=>by obtain ⟨n,es,rfl,c,k⟩:=q;rfl) (fun cdv A outer s H vs Q E d h=>?_))
 have nd:=sc_law_copy.nd
 refine ⟨_,(aaf (aaz (acv (aaa (aav aaw (pv 0) aab (fun _ _=>rfl)) (aaa (aff an4 (by rfl) T.b_list ah0 (aaa (aav aaw (pv 0) aab (fun _ _=>rfl)) aac)) aac))))),?_⟩
 refine abd h fun ss b q B g=>?_
 refine exS2 ss q fun n es a=>?_
 have c:=a.1
 have k:=a.2
 clear a q
 show EvS B _ _ [some (.st (webD n es))]
 row_cond go
 exact k
end
def rowE (line:List Int) (ds:List Nat):List (Key × PyData):=(line.zip ds).map fun p=>(Sum.inl p.1,.int (p.2:Int))
theorem agp {line:List Int} {ds:List Nat} (j:ds.length=line.length) (nd:line.Nodup) {i:Nat} {v:Int} {d:Nat} (f:line[i]?=some v) (hd:ds[i]?=some d):valD (rowE line ds) (Sum.inl v)=some (.int (d:Int)):=by
 induction line generalizing ds i with
 | nil=>simp at f
 | cons a line ih =>
  cases ds with
  | nil=>simp at j
  | cons b ds =>
   unfold rowE valD
   simp only [List.zip_cons_cons,aB4,List.find?_cons]
   cases i with
   | zero =>
    simp at f hd
    subst f hd
    simp
   | succ i =>
    have c:line[i]?=some v:=by simpa using f
    have g:a ≠ v:=fun e=>(aF7.mp nd).1 (e ▸ ay6 c)
    rw [show decide ((Sum.inl a:Key)=Sum.inl v)=false from aB7 fun h=>g (Sum.inl.inj h)]
    exact ih (by simpa using j) (aF7.mp nd).2 c (by simpa using hd)
theorem aqm {line:List Int} {ds:List Nat} {v:Int} (h:v ∉ line):valD (rowE line ds) (Sum.inl v)=none:=by
 induction line generalizing ds with
 | nil=>simp [rowE,valD]
 | cons a line ih =>
  cases ds with
  | nil=>simp [rowE,valD]
  | cons b ds =>
   unfold rowE valD
   simp only [List.zip_cons_cons,aB4,List.find?_cons]
   have c:a ≠ v:=fun e=>h (e ▸ aA1)
   rw [show decide ((Sum.inl a:Key)=Sum.inl v)=false from aB7 fun h=>c (Sum.inl.inj h)]
   exact ih fun hm=>h (az8 _ hm)
theorem asj {line:List Int} {ds:List Nat} {v:Int} {d:Nat} (a:ds.length=line.length) (h:v ∉ line):putD (rowE line ds) (Sum.inl v) (.int (d:Int))=rowE (line ++ [v]) (ds ++ [d]):=by
 have:(rowE line ds).any (fun e=>decide (e.1=(Sum.inl v:Key)))=false:=by
  rw [List.any_eq_false]
  intro e b hd
  obtain ⟨p,f,rfl⟩:=aA0.mp b
  have:p.1=v:=by
   have c:(Sum.inl p.1:Key)=Sum.inl v:=of_decide_eq_true hd
   exact Sum.inl.inj c
  exact h (this ▸ (List.of_mem_zip f).1)
 unfold putD
 rw [aD0 (by rw [this];simp)]
 unfold rowE
 rw [List.zip_append a.symm,aC1]
 rfl
theorem als {line:List Int} {ds:List Nat} (a:ds.length=line.length):(rowE line ds).length=line.length:=by simp [rowE,a]
theorem ahq:∀ (ns:List Int),aal (.list (ns.map .int))=true
 | []=>rfl
 | a :: ns=>by have:=ahq ns;simp only [aal,aB4,plainDs] at *;simp [this]
theorem aoe (ns:List Int):(PyData.list (ns.map .int)).depth<=60:=by
 have:PyData.depthAll (ns.map .int)<=1:=adf fun d hd=>by
  obtain ⟨_,_,rfl⟩:=aA0.mp hd
  simp [PyData.depth]
 simp only [PyData.depth]
 omega
theorem alt {n:Int} {line:List Int} (nd:line.Nodup) (h:∀ v∈line,0<=v/\v < n):line.length<=n.toNat * n.toNat:=by
 have:=afp (n:=n.toNat) (es:=line.map fun v=>(v,(0:Int))) (aD5.mpr (nd.imp fun a e=>a (by simpa using e))) fun p c=>by
  obtain ⟨v,b,rfl⟩:=aA0.mp c
  have:=h v b
  simp only
  omega
 simpa using this
theorem ayz {n:Int} (h:n<=100):n.toNat * n.toNat<=10000:=Nat.mul_le_mul (show n.toNat<=100 by omega) (show n.toNat<=100 by omega)
section
variable {P:Program} {w:World} {K:Frag} {mg:Str->Option Value} {base:Heap}
theorem sc_law_rows:FnScope ["web","n","ties","beside","a","b","found","first","row","waiting","here","there"] ["web"] (aak s_law_rows):=by row_cond sc
theorem alu (T:Txt K mg):Can P w K mg base "_law_rows" 1 ["web"] (spP K (ai1)):=by
 obtain ⟨f,fd,D⟩:=T.d_law_rows
 refine D.can (D.fn.ok sc_law_rows (fun vs H Q E h=>lenP h fun ss Q' q=>by obtain ⟨n,es,rfl,n0,n1,U,a7,hJ,k⟩:=q;rfl) (fun cdv A outer s H vs Q E hr h=>?_))
 have nd:=sc_law_rows.nd
 refine ⟨_,(aad (agu (pv 0) (aem rfl (abf (aao (i:=1) nd rfl (Or.inl rfl)) (abf (aao (i:=2) nd rfl (Or.inl rfl)) acx))))
  (aad (agf (i:=3) nd rfl (Or.inl rfl) rfl (N:=["k"]) (src:=[none]) (by exact ab2 rfl rfl rfl rfl rfl rfl) (aba rfl T.b_range (aaa (pv 1) aac)) (fun _ _ _ _=>(aao (i:=0) (show List.Nodup (["k"]:List Str) by decide +kernel) rfl (Or.inl rfl) (hf:=Or.inr rfl))) (fun _ _ _ _=>ab1) (fun _ _ _ _=>(aa7 aac)))
  (aad (abg aG7 rfl (abp (pv 2)) (aem rfl (abf (aao (i:=4) nd rfl (Or.inl rfl)) (abf (aao (i:=5) nd rfl (Or.inl rfl)) acx)))
   (aad (aa9 (ab6 PySem.F.plainAttrs_list PySem.F.slot_list_append PySem.F.type_list_append aa5 (aav aaw (pv 3) (pv 4) (fun _ _=>rfl)) (aaa (pv 5) aac)))
    (aaf (aa9 (ab6 PySem.F.plainAttrs_list PySem.F.slot_list_append PySem.F.type_list_append aa5 (aav aaw (pv 3) (pv 5) (fun _ _=>rfl)) (aaa (pv 4) aac))))))
  (aad (aam (i:=6) nd rfl (Or.inl rfl) (aa7 aac))
  (aad (abg aG7 rfl (aba rfl T.b_range (aaa (pv 1) aac)) (aao (i:=7) nd rfl (Or.inl rfl))
   (aad (aam (i:=8) nd rfl (Or.inr rfl) (atw (aqz (pv 7) aab atv) rfl rfl (by simp) (by decide)))
    (aad (aam (i:=9) nd rfl (Or.inl rfl) (aa7 (aaa (pv 7) aac)))
    (aad (agc aG7 (aa2 (aep hr.units) (pv 9) (aa7 aac) (aa0 _))
     (aad (aam (i:=10) nd rfl (Or.inl rfl) (ab6 PySem.F.plainAttrs_list PySem.F.slot_list_pop PySem.F.type_list_pop akg (pv 9) (aaa aab aac)))
      (aaf (abg aG7 rfl (abp (aav aaw (pv 3) (pv 10) (fun _ _=>rfl))) (aao (i:=11) nd rfl (Or.inl rfl))
       (aaf (abm (av8 (aoz (ad8 hr) (pv 11) (pv 8)))
         (aad (aen (ad8 hr) (pv 8) (pv 11) (aae aas (atu (ad8 hr) (pv 8) (pv 10) (fun _ _=>rfl)) aab) rfl)
          (aaf (aa9 (ab6 PySem.F.plainAttrs_list PySem.F.slot_list_append PySem.F.type_list_append aa5 (pv 9) (aaa (pv 11) aac)))))
         aa6))))))
    (aaf (aa9 (ab6 PySem.F.plainAttrs_list PySem.F.slot_list_append PySem.F.type_list_append aa5 (pv 6) (aaa (aex rfl (N:=["place","row"]) (src:=[none,some 8]) (by exact ab2 rfl rfl rfl rfl rfl rfl) (aba rfl T.b_range (aaa (pv 1) aac)) (fun _ _ _ _=>(aao (i:=0) (show List.Nodup (["place","row"]:List Str) by decide +kernel) rfl (Or.inl rfl) (hf:=Or.inr rfl))) (fun _ _ _ _=>ab1) (fun _ _ _ _=>(aq0 (ad8 hr) (pv 1) (pv 0) ⟨rfl,rfl,rfl,rfl⟩))) aac))))))))
  (aaf (aaz (pv 6)))))))),?_⟩
 refine abd h fun ss Q' q B hK=>?_
 refine exS2 ss q fun n es c=>?_
 have n0:=c.1
 have n1:=c.2.1
 have U:=c.2.2.1
 have a7:=c.2.2.2.1
 have hJ:=c.2.2.2.2.1
 have k:=c.2.2.2.2.2
 clear c q
 show EvS B _ _ [some (.st (webD n es)),none,none,none,none,none,none,none,none,none,none,none]
 row_cond go
 rw [ace]
 refine ⟨by omega,?_⟩
 row_cond go
 refine ac9 (fun i e=>∃ Y X tl,e=[some (.st (webD n es)),some (.st (.int n)),some (.st (.list (es.map prD))),some (.own (OLL (tlD tl))),Y,X,none,none,none,none,none,none]/\TiedL n (Tied (es.take i)) tl/\∀ r∈tl,r.length<=2 * i)
  ⟨none,none,List.replicate n.toNat [],by simp [tlD],⟨by simp;omega,fun i r hi w=>?_⟩,fun r hw=>?_⟩ ?_ ?_
 ·rw [aF1] at hi
  split at hi
  ·cases hi;simp [Tied]
  ·cases hi
 ·have:=List.eq_of_mem_replicate hw
  subst this;simp
 ·rintro i ⟨a,b⟩ e p g
  refine exS3 e g fun Y X tl c=>?_
  have Z:=c.1
  have G:=c.2
  clear c g
  have hi:i < es.length:=(ay5.mp p).1
  obtain ⟨a0,a1,b0,b1⟩:=U _ (ay6 p)
  dsimp only at a0 a1 b0 b1
  row_cond go
  obtain ⟨r,y,_⟩:=Z.get a0 a1
  have l1:=G r (ay6 y)
  refine adr (n:=a.toNat) (ds:=r.map .int) rfl rfl rfl (by rw [ay7];exact aet a0 (by rw [Z.1];exact a1)) (adz y) (by rw [ay7];omega) ?_
  dsimp only [List.set_cons_zero,List.set_cons_succ]
  have t2:=Z.put (q:=b) a0 a1 y
  rw [show r.map PyData.int ++ [.int b]=(r ++ [b]).map .int by simp,af3]
  have z:∀ us∈tl.set a.toNat (r ++ [b]),us.length<=2 * i+1:=fun us hu=>by
   rcases List.mem_or_eq_of_mem_set hu with h | h
   ·have:=G us h;omega
   ·subst h;simp;omega
  generalize tl.set a.toNat (r ++ [b])=tl2 at t2 z
  row_cond go
  obtain ⟨r,y,_⟩:=t2.get b0 b1
  have l1:=z r (ay6 y)
  refine adr (n:=b.toNat) (ds:=r.map .int) rfl rfl rfl (by rw [ay7];exact aet b0 (by rw [t2.1];exact b1)) (adz y) (by rw [ay7];omega) ?_
  dsimp only [List.set_cons_zero,List.set_cons_succ]
  rw [show r.map PyData.int ++ [.int a]=(r ++ [a]).map .int by simp,af3]
  refine ⟨_,_,_,rfl,(t2.put (q:=a) b0 b1 y).iff fun u v=>(Tied.snoc p u v).symm,fun us hu=>?_⟩
  rcases List.mem_or_eq_of_mem_set hu with h | h
  ·have:=z us h;omega
  ·subst h;simp;omega
 ·rintro e g
  refine exS3 e g fun Y X tl c=>?_
  have Z:=c.1
  have G:=c.2
  clear c g
  rw [aE2] at Z
  row_cond go
  have a3:∀ u v:Int,Tied es u v->0<=v/\v < n:=fun u v h=>(h.in U).2
  refine abq (fun i e=>∃ s3 v7 v8 v9 C o,e=[some (.st (webD n es)),some (.st (.int n)),some (.st (.list (es.map prD))),some s3,Y,X,some (.own (OL ((List.range i).map fun (u:Nat)=>PyData.list (rowD n.toNat (dsF es (u:Int)))))),v7,v8,v9,C,o]/\(s3=.own (OLL (tlD tl))\/s3=.st (.list ((tlD tl).map .list)))) ⟨_,_,_,_,_,_,rfl,.inl rfl⟩ ?_ ?_
  ·rintro i e hi g
   refine exS6 e g fun s3 v7 v8 v9 C o c=>?_
   have h3:=c
   clear c g
   refine aar ?_
   dsimp only [List.set_cons_zero,List.set_cons_succ]
   refine alk 3 h3 rfl aes ?_
   dsimp only [List.set_cons_zero,List.set_cons_succ]
   row_cond go
   refine ap8 rfl ?_
   row_cond go
   refine afm (fun mm e=>∃ line ds at_ C o,e=[some (.st (webD n es)),some (.st (.int n)),some (.st (.list (es.map prD))),some (.st (.list ((tlD tl).map .list))),Y,X,some (.own (OL ((List.range i).map fun (u:Nat)=>PyData.list (rowD n.toNat (dsF es (u:Int)))))),some (.st (.int (0+(i:Int)))),some (.own (OD (rowE line ds))),some (.own (OL ((line.drop at_).map .int))),C,o]/\Gr.Bfs (Tied es) (0+(i:Int)) line ds at_/\(∀ v∈line,0<=v/\v < n)/\mm=n.toNat * n.toNat - at_) ⟨_,[0+(i:Int)],[0],0,_,_,rfl,Gr.Bfs.start _ _,fun v J=>?_,rfl⟩ ?_
   ·have:v=0+(i:Int):=by simpa using J
    omega
   rintro mm e g
   refine exS5 e g fun line ds at_ C o c=>?_
   have m:=c.1
   have S:=c.2.1
   have a8:=c.2.2
   clear c g
   subst a8
   row_cond go
   refine acr (ahq _) rfl (aoe _) ?_
   cases hdr:line.drop at_ with
   | nil =>
    rw [show PyData.eqv (.list (([]:List Int).map .int)) (.list [])=true from rfl]
    repeat (first | (refine af2 8 rfl apf ?_) | row_cond st)
    dsimp only [List.set_cons_zero,List.set_cons_succ]
    have l:at_=line.length:=by have:=List.drop_eq_nil_iff.mp hdr;have:=m.le;omega
    subst l
    have a5:rowE line ds ≠ []:=by
     have:=als m.len
     intro e0
     rw [e0] at this
     have h0:=(ay5.mp m.fst).1
     simp at this
     omega
    unfold rngD
    refine ad7 (fun u:Nat => .int (dsF es (i:Int) (u:Int))) rfl (by simp;omega) (fun u hu B' W=>?_) ?_
    ·have b4:(u:Int) < n:=by have:=aA2.mp hu;omega
     refine aqa a5 rfl ?_
     row_cond go
     refine ⟨.inl (0+(u:Int)),rfl,?_⟩
     obtain ⟨q,hw⟩:=hJ.conn (0+(i:Int)) (0+(u:Int)) (by omega) (by omega) (by omega) (by omega)
     obtain ⟨j,hj,ej⟩:=aF0.mp (m.fin q _ hw)
     have e1:line[j]?=some (0+(u:Int)):=by rw [ay4 hj,ej]
     obtain ⟨dd,e2⟩:∃ dd,ds[j]?=some dd:=⟨_,ay4 (by rw [m.len];exact hj)⟩
     have hd:=m.dist j _ _ e1 e2
     rw [agp m.len m.nd e1 e2]
     refine ⟨?_,rfl⟩
     rw [aF9,aF9] at hd
     simp only [Option.getD_some,dsF,Gr.farO_some.mpr hd]
    ·refine ⟨_,rfl,by simp;omega,?_⟩
     dsimp only [List.set_cons_zero,List.set_cons_succ]
     rw [show ((List.range i).map fun (u:Nat)=>PyData.list (rowD n.toNat (dsF es (u:Int)))) ++ [PyData.list ((List.range n.toNat).map fun (u:Nat)=>PyData.int (dsF es (i:Int) (u:Int)))]=(List.range (i+1)).map fun (u:Nat)=>PyData.list (rowD n.toNat (dsF es (u:Int))) by rw [List.range_succ,aC1];rfl]
     exact ⟨_,_,_,_,_,_,rfl,.inr rfl⟩
   | cons here rest =>
    rw [show PyData.eqv (.list ((here :: rest).map .int)) (.list [])=false from rfl]
    row_cond go
    refine ⟨_,(here :: rest).map .int,0,0,.int here,rfl,rfl,.inl rfl,by decide,by decide,by simp [seqIndex?],rfl,?_⟩
    dsimp only [List.set_cons_zero,List.set_cons_succ,reS,List.map_cons,List.eraseIdx_cons_zero]
    have l:line[at_]?=some here:=by
     have:=congrArg (·[0]?) hdr
     simpa using this
    have O:rest=line.drop (at_+1):=by
     have:=congrArg List.tail hdr
     simpa using this.symm
    have hh:=S here (ay6 l)
    obtain ⟨r,y,L⟩:=Z.get hh.1 hh.2
    have b6:atI ((tlD tl).map PyData.list) here=some (.list (r.map .int)):=afo (f:=PyData.list) (ahh hh.1 (adz y))
    subst O
    row_cond go
    refine ac9 (fun j e=>∃ line ds o,e=[some (.st (webD n es)),some (.st (.int n)),some (.st (.list (es.map prD))),some (.st (.list ((tlD tl).map .list))),Y,X,some (.own (OL ((List.range i).map fun (u:Nat)=>PyData.list (rowD n.toNat (dsF es (u:Int)))))),some (.st (.int (0+(i:Int)))),some (.own (OD (rowE line ds))),some (.own (OL ((line.drop (at_+1)).map .int))),some (.st (.int here)),o]/\Gr.Bfs (Tied es) (0+(i:Int)) line ds at_/\(∀ v∈line,0<=v/\v < n)/\line[at_]?=some here/\∀ x∈r.take j,x∈line) ⟨line,ds,_,rfl,m,S,l,fun x p=>by simp at p⟩ ?_ ?_
    ·clear m S l hdr
     rintro j there e hj g
     refine exS3 e g fun line ds o c=>?_
     have m:=c.1
     have S:=c.2.1
     have l:=c.2.2.1
     have htk:=c.2.2.2
     clear c g
     have hT:Tied es here there:=(L there).mp (ay6 hj)
     have a2:r.take (j+1)=r.take j ++ [there]:=by rw [aE8,hj];rfl
     have a6:=aB3 (alt m.nd S) (ayz n1)
     have b5:=als m.len
     have R:at_ < line.length:=(ay5.mp l).1
     obtain ⟨d,hd⟩:∃ d,ds[at_]?=some d:=⟨_,ay4 (by rw [m.len];exact R)⟩
     have J:=agp m.len m.nd l hd
     have b3:((line.drop (at_+1)).map PyData.int).length<=999999:=by simp;omega
     have b2:(rowE line ds).length<=999999:=by omega
     row_cond go
     by_cases hm:there∈line
     ·obtain ⟨q,hq,eq⟩:=aF0.mp hm
      have e1:line[q]?=some there:=by rw [ay4 hq,eq]
      obtain ⟨dd,e2⟩:∃ dd,ds[q]?=some dd:=⟨_,ay4 (by rw [m.len];exact hq)⟩
      rw [agp m.len m.nd e1 e2]
      refine afx ?_
      row_cond go
      refine ⟨line,ds,_,rfl,m,S,l,fun x p=>?_⟩
      rw [a2] at p
      rcases az1.mp p with p | p
      ·exact htk x p
      ·have:x=there:=by simpa using p
       rw [this];exact hm
     ·rw [aqm hm]
      refine amy ?_
      row_cond go
      rw [show ((d:Int)+1)=((d+1:Nat):Int) by push_cast;rfl,asj m.len hm,show (line.drop (at_+1)).map PyData.int ++ [PyData.int there]=((line ++ [there]).drop (at_+1)).map .int by rw [List.drop_append_of_le_length (by omega),aC1];rfl]
      refine ⟨line ++ [there],ds ++ [d+1],_,rfl,m.add l hd hT hm,fun v J=>?_,by rw [aA6 R];exact l,fun x p=>?_⟩
      ·rcases az1.mp J with J | J
       ·exact S v J
       ·have:v=there:=by simpa using J
        rw [this];exact a3 here there hT
      ·rw [a2] at p
       rcases az1.mp p with p | p
       ·exact az1.mpr (.inl (htk x p))
       ·exact az1.mpr (.inr p)
    ·rintro e g
     refine exS3 e g fun I a9 o c=>?_
     have W:=c.1
     have a4:=c.2.1
     have M:=c.2.2.1
     have htk:=c.2.2.2
     clear c g
     rw [aE2] at htk
     have R:at_ < I.length:=(ay5.mp M).1
     have a6:=alt W.nd a4
     exact ⟨n.toNat * n.toNat - (at_+1),by omega,I,a9,at_+1,_,_,rfl,W.next M fun x p=>htk x ((L x).mpr p),a4,rfl⟩
  ·rintro e g
   refine exS6 e g fun s3 v7 v8 v9 C o c=>?_
   have h3:=c
   clear c g
   row_cond go
   exact k
end
def aah (ps:List Int):Int:=match ps.getLast? with | some x=>x+1 | none=>0
def okP (m:Int->Int->Int) (least:Int) (ps:List Int) (x:Int):Bool:=ps.all fun o=>decide (m x o ≥ least)
def abr (n:Nat) (m:Int->Int->Int) (least:Int) (ps:List Int):List Int:=((List.range ((n:Int) - aah ps).toNat).map fun (j:Nat)=>aah ps+(j:Int)).filter (okP m least ps)
def aei (n:Nat) (m:Int->Int->Int) (least:Int) (ps:List Int):List (List Int):=(abr n m least ps).map fun p=>ps ++ [p]
def aa1 (n:Nat) (m:Int->Int->Int) (least:Int):Nat->List (List Int)
 | 0=>[[]]
 | i+1=>(aa1 n m least i).flatMap (aei n m least)
@[reducible] def plD (ps:List Int):PyData:=.list (ps.map .int)
theorem abz (ps:List Int) (x:Int):aah (ps ++ [x])=x+1:=by simp [aah]
theorem afterF_mem {n:Nat} {m:Int->Int->Int} {least:Int} {ps:List Int} {x:Int}:x∈abr n m least ps ↔ aah ps<=x/\x < n/\okP m least ps x=true:=by
 unfold abr
 rw [List.mem_filter,aA0]
 constructor
 ·rintro ⟨⟨j,hj,rfl⟩,h⟩
  have:=aA2.mp hj
  exact ⟨by omega,by omega,h⟩
 ·rintro ⟨b,c,a⟩
  exact ⟨⟨(x - aah ps).toNat,aA2.mpr (by omega),by omega⟩,a⟩
structure Apart (n:Nat) (m:Int->Int->Int) (least:Int) (ps:List Int):Prop where
 rise:ps.Pairwise (· < ·)
 inn:∀ x∈ps,0<=x/\x < n
 far:ps.Pairwise fun a b=>m b a ≥ least
theorem alv {ps:List Int} (h:ps.Pairwise (· < ·)) (c:∀ x∈ps,0<=x) {y:Int} (b:aah ps<=y):0<=y/\∀ x∈ps,x < y:=by
 rcases List.eq_nil_or_concat ps with rfl | ⟨d,z,rfl⟩
 ·exact ⟨by simpa [aah] using b,fun x a=>by simp at a⟩
 ·rw [List.concat_eq_append] at *
  rw [abz] at b
  have f:=c z (by simp)
  refine ⟨by omega,fun x a=>?_⟩
  rcases az1.mp a with a | a
  ·have:=(aB2.mp h).2.2 x a z (by simp)
   omega
  ·have:x=z:=by simpa using a
   omega
theorem acb {n:Nat} {m:Int->Int->Int} {least:Int}:∀ (i:Nat) (ps:List Int),ps∈aa1 n m least i ↔ Apart n m least ps/\ps.length=i
 | 0,ps=>by
  simp only [aa1,aA5]
  constructor
  ·rintro rfl;exact ⟨⟨.nil,fun x d=>by simp at d,.nil⟩,rfl⟩
  ·rintro ⟨_,h⟩;exact List.length_eq_zero_iff.mp h
 | i+1,ps=>by
  simp only [aa1,List.mem_flatMap,aei,aA0]
  constructor
  ·rintro ⟨j,p,x,d,rfl⟩
   obtain ⟨c,l⟩:=(acb i j).mp p
   obtain ⟨o,q,u⟩:=afterF_mem.mp d
   obtain ⟨s,s1⟩:=alv c.rise (fun x d=>(c.inn x d).1) o
   refine ⟨⟨aB2.mpr ⟨c.rise,by simp,fun a ha b hb=>?_⟩,fun y g=>?_,aB2.mpr ⟨c.far,by simp,fun a ha b hb=>?_⟩⟩,by simp [l]⟩
   ·rw [aA5.mp hb];exact s1 a ha
   ·rcases az1.mp g with g | g
    ·exact c.inn y g
    ·rw [aA5.mp g];exact ⟨s,q⟩
   ·rw [aA5.mp hb]
    have:=aC8.mp u a ha
    simpa using this
  ·rintro ⟨c,l⟩
   rcases List.eq_nil_or_concat ps with rfl | ⟨j,x,rfl⟩
   ·simp at l
   ·rw [List.concat_eq_append] at *
    have r:=aB2.mp c.rise
    have f:=aB2.mp c.far
    have d:=c.inn x (by simp)
    refine ⟨j,(acb i j).mpr ⟨⟨r.1,fun y g=>c.inn y (by simp [g]),f.1⟩,by simpa using l⟩,x,afterF_mem.mpr ⟨?_,d.2,aC8.mpr fun a ha=>?_⟩,rfl⟩
    ·rcases List.eq_nil_or_concat j with rfl | ⟨rs,z,rfl⟩
     ·simpa [aah] using d.1
     ·rw [List.concat_eq_append] at *
      rw [abz]
      have:=r.2.2 z (by simp) x (by simp)
      omega
    ·have:=f.2.2 a ha x (by simp)
     simpa using this
theorem anc (c:Nat->Bool):∀ k:Nat,(((List.range k).filter c).map fun j=>2 ^ (k - 1 - j)).sum+1<=2 ^ k
 | 0=>by simp
 | k+1=>by
  have a:=anc (fun j=>c (j+1)) k
  rw [List.range_succ_eq_map,List.filter_cons]
  have e:(((List.range k).map (· + 1)).filter c).map (fun j=>2 ^ (k+1 - 1 - j))=((List.range k).filter fun j=>c (j+1)).map fun j=>2 ^ (k - 1 - j):=by
   rw [List.filter_map,aB9]
   refine aC5 fun j hj=>?_
   show 2 ^ (k+1 - 1 - (j+1))=2 ^ (k - 1 - j)
   congr 1
   omega
  rw [show (List.range k).map Nat.succ=(List.range k).map (· + 1) from rfl]
  split
  ·rw [aB4,e,List.sum_cons,Nat.pow_succ]
   simp only [Nat.add_sub_cancel,Nat.sub_zero]
   omega
  ·rw [e,Nat.pow_succ]
   omega
def wtF (n:Nat) (ps:List Int):Nat:=2 ^ ((n:Int) - aah ps).toNat
theorem avu {n:Nat} {m:Int->Int->Int} {least:Int} {ps:List Int}:((aei n m least ps).map (wtF n)).sum<=wtF n ps:=by
 have h:=anc (fun j=>okP m least ps (aah ps+(j:Int))) ((n:Int) - aah ps).toNat
 unfold aei abr
 rw [List.filter_map,aB9,aB9]
 have e:∀ j∈(List.range ((n:Int) - aah ps).toNat).filter ((okP m least ps) ∘ fun (j:Nat)=>aah ps+(j:Int)),((wtF n ∘ fun p=>ps ++ [p]) ∘ fun (j:Nat)=>aah ps+(j:Int)) j=2 ^ (((n:Int) - aah ps).toNat - 1 - j):=fun j hj=>by
  have:=aA2.mp (List.mem_filter.mp hj).1
  show 2 ^ ((n:Int) - aah (ps ++ [aah ps+(j:Int)])).toNat=_
  rw [abz]
  congr 1
  omega
 rw [aC5 e]
 unfold wtF
 have h':(List.range ((n:Int) - aah ps).toNat).filter ((okP m least ps) ∘ fun (j:Nat)=>aah ps+(j:Int))=(List.range ((n:Int) - aah ps).toNat).filter fun (j:Nat)=>okP m least ps (aah ps+(j:Int)):=rfl
 rw [h']
 omega
theorem asl {n:Nat} {m:Int->Int->Int} {least:Int} (pss:List (List Int)):((pss.flatMap (aei n m least)).map (wtF n)).sum<=(pss.map (wtF n)).sum:=by
 induction pss with
 | nil=>simp
 | cons ps pss ih =>
  rw [List.flatMap_cons,aC1,List.sum_append,aB4,List.sum_cons]
  have:=avu (n:=n) (m:=m) (least:=least) (ps:=ps)
  omega
theorem avv {n:Nat} (pss:List (List Int)):pss.length<=(pss.map (wtF n)).sum:=by
 induction pss with
 | nil=>simp
 | cons ps pss ih =>
  rw [aB4,List.sum_cons,aC2]
  have:1<=wtF n ps:=Nat.one_le_two_pow
  omega
theorem ahr {n:Nat} {m:Int->Int->Int} {least:Int} (hn:n<=12) (i:Nat):(aa1 n m least i).length<=4096:=by
 have a:∀ i,((aa1 n m least i).map (wtF n)).sum<=2 ^ n:=fun i=>by
  induction i with
  | zero=>simp [aa1,wtF,aah]
  | succ i ih=>exact aB3 (asl _) ih
 refine aB3 (avv (n:=n) _) (aB3 (a i) ?_)
 exact aB3 (Nat.pow_le_pow_right (by decide) hn) (by decide)
def aqn:VP:=fun ss Q=>∃ (a b c:Int),ss=[.st (.int a),.st (.int b),.st (.int c)]/\a<=c/\c<=b/\Q (.st .none)
def aqo:VP:=fun ss Q=>∃ r:Int,ss=[.st (.int r)]/\-1000000<=r/\r<=1000000/\Q (.st (.int (2 * r+1)))
def alw:VP:=fun ss Q=>∃ r:Int,ss=[.st (.int r)]/\-1000000<=r/\r<=1000000/\Q (.st (.int (2 * r+2)))
def avw:VP:=fun ss Q=>∃ (n:Nat) (m:Int->Int->Int) (least:Int) (ps:List Int),ss=[.st (.list (matD n m)),.st (.int least),.st (plD ps)]/\n<=1000/\ps.Pairwise (· < ·)/\(∀ x∈ps,0<=x/\x < n)/\Q (.own (OL ((abr n m least ps).map .int)))
theorem ae4 {n:Nat} {ps:List Int} (d:ps.Pairwise (· < ·)) (c:∀ x∈ps,0<=x/\x < (n:Int)):ps.length<=n:=by
 have hn:ps.Nodup:=d.imp fun {a b} h e=>by omega
 have:=aoc (bs:=(List.range n).map fun (i:Nat)=>(i:Int)) hn fun a ha=>by
  have:=c a ha
  exact aA0.mpr ⟨a.toNat,aA2.mpr (by omega),by omega⟩
 simpa using this
section
variable {P:Program} {w:World} {K:Frag} {mg:Str->Option Value} {base:Heap}
theorem sc_need_number:FnScope ["least","most","thing"] ["least","most","thing"] (aak s_need_number):=by row_cond sc
theorem aej (T:Txt K mg):Can P w K mg base "need_number" 3 ["least","most","thing"] (spP K (aqn)):=by
 obtain ⟨f,fd,D⟩:=T.d_need_number
 refine D.can (D.fn.ok sc_need_number (fun vs H Q E h=>lenP h fun ss l q=>by obtain ⟨a,b,c,rfl,g,j,k⟩:=q;rfl) (fun cdv A outer s H vs Q E i h=>?_))
 have nd:=sc_need_number.nd
 refine ⟨_,(aaf (abm (afc (ad0 (aaq (aeu T) i (aaa (pv 0) (aaa (pv 1) (aaa (pv 2) aac))))))
   (aaf agb)
   aa6)),?_⟩
 refine abd h fun ss l q B m=>?_
 refine exS3 ss q fun a b c d=>?_
 have g:=d.1
 have j:=d.2.1
 have k:=d.2.2
 clear d q
 show EvS B _ _ [some (.st (.int a)),some (.st (.int b)),some (.st (.int c))]
 row_cond go
 refine ⟨a,b,.int c,rfl,?_⟩
 have:btwD a b (.int c)=true:=by simp [btwD];omega
 rw [this]
 row_cond go
 exact k
theorem sc_need_far:FnScope ["r"] ["r"] (aak s_need_far):=by row_cond sc
theorem alx (T:Txt K mg):Can P w K mg base "need_far" 1 ["r"] (spP K (aqo)):=by
 obtain ⟨f,fd,D⟩:=T.d_need_far
 refine D.can (D.fn.ok sc_need_far (fun vs H Q E h=>lenP h fun ss d q=>by obtain ⟨r,rfl,b,c,k⟩:=q;rfl) (fun cdv A outer s H vs Q E g h=>?_))
 have nd:=sc_need_far.nd
 refine ⟨_,(aaf (aaz (aae aas (aae abn aab (pv 0)) aab))),?_⟩
 refine abd h fun ss d q B i=>?_
 refine exS1 ss q fun r a=>?_
 have b:=a.1
 have c:=a.2.1
 have k:=a.2.2
 clear a q
 show EvS B _ _ [some (.st (.int r))]
 row_cond go
 exact k
theorem sc_need_places:FnScope ["k"] ["k"] (aak s_need_places):=by row_cond sc
theorem ahs (T:Txt K mg):Can P w K mg base "need_places" 1 ["k"] (spP K (alw)):=by
 obtain ⟨f,fd,D⟩:=T.d_need_places
 refine D.can (D.fn.ok sc_need_places (fun vs H Q E h=>lenP h fun ss d q=>by obtain ⟨r,rfl,b,c,k⟩:=q;rfl) (fun cdv A outer s H vs Q E g h=>?_))
 have nd:=sc_need_places.nd
 refine ⟨_,(aaf (aaz (aae aas (aae abn aab (pv 0)) aab))),?_⟩
 refine abd h fun ss d q B i=>?_
 refine exS1 ss q fun r a=>?_
 have b:=a.1
 have c:=a.2.1
 have k:=a.2.2
 clear a q
 show EvS B _ _ [some (.st (.int r))]
 row_cond go
 exact k
theorem sc_places_after:FnScope ["rows","least","places","start"] ["rows","least","places"] (aak s_places_after):=by row_cond sc
theorem agq (T:Txt K mg):Can P w K mg base "places_after" 1 ["rows","least","places"] (spP K (avw)):=by
 obtain ⟨f,fd,D⟩:=T.d_places_after
 refine D.can (D.fn.ok sc_places_after (fun vs H Q E h=>lenP h fun ss O q=>by obtain ⟨n,m,least,ps,rfl,hn,p,b,k⟩:=q;rfl) (fun cdv A outer s H vs Q E p h=>?_))
 have nd:=sc_places_after.nd
 refine ⟨_,(aad (aam (i:=3) nd rfl (Or.inl rfl) (aqr (ag9 (pv 2)) (aae aas (aav aaw (pv 2) (anh aj7 aab) (fun _ _=>rfl)) aab) aab))
  (aaf (aaz (awm rfl (x0:="place") (N:=["place","least","places","rows"]) (src:=[none,some 1,some 2,some 0]) (by exact aq4 rfl (fun _ _=>rfl) (fun _=>rfl) rfl rfl rfl rfl rfl rfl) (afd rfl T.b_range (aaa (pv 3) (aaa (aat ab4 (by rfl) T.b_len adi (aaa (pv 0) aac)) aac))) (fun _ _ _ _=>(aao (i:=0) (show List.Nodup (["place","least","places","rows"]:List Str) by decide +kernel) rfl (Or.inr rfl) (hf:=Or.inl rfl))) (fun _ _ _ _=>amn (ad0 (aat (show abh _ (.builtin "all") (rAll K) from (apr rfl)) (by rfl) T.b_all awr (aaa (aex rfl (N:=["other","least","rows","place"]) (src:=[none,some 1,some 3,some 0]) (by exact ab2 rfl rfl rfl rfl rfl rfl) (show PI _ _ _ (ajs K _) from abp (pv 2)) (fun _ _ _ _=>(aao (i:=0) (show List.Nodup (["other","least","rows","place"]:List Str) by decide +kernel) rfl (Or.inl rfl) (hf:=Or.inr rfl))) (fun _ _ _ _=>ab1) (fun _ _ _ _=>(acy anj (aav (show IxR _ (ab7 K) from aaw) (aav (show IxR _ (ab7 K) from aaw) (pv 2) (pv 3) (fun _ _=>rfl)) (pv 0) (fun _ _=>rfl)) (pv 1) (aa0 _)))) aac)))) (fun _ _ _ _=>(pv 0)))))),?_⟩
 refine abd h fun ss O q B X=>?_
 refine exS4 ss q fun n m least ps a=>?_
 have hn:=a.1
 have p:=a.2.1
 have b:=a.2.2.1
 have k:=a.2.2.2
 clear a q
 show EvS B _ _ [some (.st (.list (matD n m))),some (.st (.int least)),some (.st (plD ps)),none]
 row_cond go
 refine' cutR (R:=EvS B _ _ [some (.st (.list (matD n m))),some (.st (.int least)),some (.st (plD ps)),some (.st (.int (aah ps)))]) (fun R=>?K1) ?K2
 case K1 =>
  rcases List.eq_nil_or_concat ps with e | ⟨c,z,e⟩
  ·have l:(ps.map PyData.int).isEmpty=true:=by rw [e];rfl
   have g:aah ps=0:=by rw [e];rfl
   rw [g] at R
   rw [l,aD0 (by decide)]
   repeat (first | exact R | row_cond st)
  ·rw [List.concat_eq_append] at e
   have U:atI (ps.map PyData.int) (-1)=some (.int z):=by
    rw [e]
    unfold atI ixN
    have L:(1:Int)<=(c.length:Int)+1:=by omega
    have M:(-1+((c.length:Int)+1)).toNat=(c.map PyData.int).length:=by rw [ay7];omega
    simp only [aC1,az4,ay7,aB4,List.map_nil,List.length_singleton]
    push_cast
    simp [L,M]
   have u:=b z (by rw [e];simp)
   have g:aah ps=z+1:=by rw [e,abz]
   rw [g] at R
   have l:(ps.map PyData.int).isEmpty=false:=by rw [e];cases c <;> rfl
   rw [l,aC9 (by decide)]
   repeat (first | exact R | row_cond st)
 case K2 =>
  have I:0<=aah ps/\aah ps<=n:=by
   rcases List.eq_nil_or_concat ps with e | ⟨c,z,e⟩
   ·have g:aah ps=0:=by rw [e];rfl
    omega
   ·rw [List.concat_eq_append] at e
    have g:aah ps=z+1:=by rw [e,abz]
    have u:=b z (by rw [e];simp)
    omega
  have v:(matD n m).length=n:=aif
  row_cond go
  rw [v]
  row_cond go
  refine ald (fun d=>d) (fun d=>match d with | .int x=>okP m least ps x | _=>false) rfl (by rw [ace];omega) (fun d hd W G=>?_) ?_
  ·obtain ⟨i,hi⟩:=List.mem_iff_getElem?.mp hd
   obtain ⟨hi,rfl⟩:=agn hi
   have y:aah ps+(i:Int) < n:=by omega
   have F:=aqk (n:=n) (m:=m) (x:=aah ps+(i:Int)) (by omega) y
   row_cond go
   refine ad7 (fun o:Int => .bool (decide (m (aah ps+(i:Int)) o ≥ least))) rfl (by have:=ae4 p b;omega) (fun o S Y J=>?_) ?_
   ·have j:=b o S
    have C:=aqj (n:=n) (r:=m (aah ps+(i:Int))) (x:=o) j.1 j.2
    row_cond go
    exact rfl
   ·row_cond go
    rw [show (ps.map fun o=>PyData.bool (decide (m (aah ps+(i:Int)) o ≥ least)))=(ps.map fun o=>decide (m (aah ps+(i:Int)) o ≥ least)).map .bool by rw [aB9];rfl]
    refine ave ?_
    row_cond go
    refine ⟨?_,rfl,fun _=>?_⟩
    ·simp only [okP,List.all_map]
     rfl
    ·row_cond go
     exact rfl
  ·have e:((rngD (aah ps) ((n:Int) - aah ps).toNat).filter (fun d=>match d with | .int x=>okP m least ps x | _=>false)).map (fun d=>d)=(abr n m least ps).map .int:=by
    unfold rngD abr
    rw [List.map_id',List.filter_map,List.filter_map,aB9]
    rfl
   rw [e]
   exact k
end
def asm:VP:=fun ss Q=>∃ (n:Nat) (m:Int->Int->Int) (least many:Int),ss=[.st (.list (matD n m)),.st (.int least),.st (.int many)]/\n<=12/\1<=many/\many<=1000/\Q (.own (OLL ((aa1 n m least many.toNat).map fun ps=>ps.map .int)))
theorem ay0 (pss:List (List Int)):(pss.map fun ps=>ps.map PyData.int).map PyData.list=pss.map plD:=by rw [aB9];rfl
section
variable {P:Program} {w:World} {K:Frag} {mg:Str->Option Value} {base:Heap}
theorem sc_apart_lists:FnScope ["rows","least","many","lists","again"] ["rows","least","many"] (aak s_apart_lists):=by row_cond sc
theorem aht (T:Txt K mg):Can P w K mg base "apart_lists" 2 ["rows","least","many"] (spP K (asm)):=by
 obtain ⟨f,fd,D⟩:=T.d_apart_lists
 refine D.can (D.fn.ok sc_apart_lists (fun vs H Q E h=>lenP h fun ss G q=>by obtain ⟨n,m,least,many,rfl,hn,y,v,k⟩:=q;rfl) (fun cdv A outer s H vs Q E x h=>?_))
 have nd:=sc_apart_lists.nd
 refine ⟨_,(aad (aam (i:=3) nd rfl (Or.inl rfl) (aa7 (aaa (aa7 aac) aac)))
  (aad (abg aG7 rfl (aba rfl T.b_range (aaa (pv 2) aac)) (aao (i:=4) nd rfl (Or.inl rfl))
   (aaf (ao5 (i:=3) nd rfl (Or.inl rfl) rfl (N:=["places","place","rows","least"]) (src:=[none,none,some 0,some 1]) (by exact ab2 rfl rfl rfl rfl rfl rfl) (abp (pv 3)) (fun _ _ _ _=>(aao (i:=0) (show List.Nodup (["places","place","rows","least"]:List Str) by decide +kernel) rfl (Or.inl rfl) (hf:=Or.inr rfl))) (fun _ _ _ _=>ab1) (fun _ _ _ _=>(show PI _ _ _ (ajs K _) from abp (aaq (agq T) x (aaa (pv 2) (aaa (pv 3) (aaa (pv 0) aac)))))) (fun _ _ _ _=>(aao (i:=1) (show List.Nodup (["places","place","rows","least"]:List Str) by decide +kernel) rfl (Or.inl rfl) (hf:=Or.inr rfl))) (fun _ _ _ _=>ab1) (fun _ _ _ _=>(aae akh (pv 0) (aa7 (aaa (pv 1) aac)))))))
  (aaf (aaz (pv 3))))),?_⟩
 refine abd h fun ss G q B J=>?_
 refine exS4 ss q fun n m least many a=>?_
 have hn:=a.1
 have y:=a.2.1
 have v:=a.2.2.1
 have k:=a.2.2.2
 clear a q
 show EvS B _ _ [some (.st (.list (matD n m))),some (.st (.int least)),some (.st (.int many)),none,none]
 row_cond go
 refine abq (fun i e=>∃ g A,e=[some (.st (.list (matD n m))),some (.st (.int least)),some (.st (.int many)),some (.own A),g]/\Frz A (.list ((aa1 n m least i).map plD))/\(1<=i->A=OLL ((aa1 n m least i).map fun ps=>ps.map .int))) ⟨_,_,rfl,adl,fun h=>absurd h (by decide)⟩ ?_ ?_
 ·rintro i e hi b
  refine exS2 e b fun g A a=>?_
  have u:=a.1
  clear a b
  refine aar ?_
  dsimp only [List.set_cons_zero,List.set_cons_succ]
  refine alk 3 (.inl rfl) rfl u ?_
  dsimp only [List.set_cons_zero,List.set_cons_succ]
  have r:=ahr (m:=m) (least:=least) hn i
  have j:=ahr (m:=m) (least:=least) hn (i+1)
  have l:((aa1 n m least i).flatMap fun ps=>(abr n m least ps).map fun p=>ps.map PyData.int ++ [.int p])=(aa1 n m least (i+1)).map fun ps=>ps.map PyData.int:=by
   show _=((aa1 n m least i).flatMap (aei n m least)).map fun ps=>ps.map PyData.int
   rw [List.map_flatMap]
   congr 1
   funext ps
   unfold aei
   rw [aB9]
   refine aC5 fun p _=>?_
   simp
  refine am2 (asc ?_)
  row_cond go
  refine aqh (xs:=aa1 n m least i) (abr n m least) .int (fun ps p=>ps.map .int ++ [.int p]) ?_ ?_ ?_ ?_ ?_
  ·exact ap7 rfl
  ·rw [l,ay7];omega
  ·intro ps c z F o
   have d:=((acb i ps).mp c).1
   row_cond go
   refine ⟨n,m,least,ps,rfl,by omega,d.rise,d.inn,aee ?_⟩
   row_cond go
   exact rfl
  ·intro ps c p I z F
   have d:=((acb i ps).mp c).1
   have L:=ae4 d.rise d.inn
   row_cond go
   exact rfl
  ·rw [l]
   row_cond go
   refine ⟨_,_,rfl,?_,fun _=>rfl⟩
   rw [← ay0]
   exact aes
 ·rintro e b
  refine exS2 e b fun g A a=>?_
  have u:=a.1
  have C:=a.2
  clear a b
  have:=C (by omega)
  subst this
  row_cond go
  exact k
end
theorem aof {n:Nat} {m:Int->Int->Int} {x least:Int} (f:atf n m x) (h:x < least):∀ j:Nat,2<=j->aa1 n m least j=[]:=fun j hj=>by
 cases e:aa1 n m least j with
 | nil=>rfl
 | cons ps t =>
  exfalso
  obtain ⟨c,d⟩:=(acb j ps).mp (by rw [e];simp)
  match ps,d with
  | a :: b :: r,_ =>
   have hf:=c.far
   rw [aF8] at hf
   have g:=hf.1 b (by simp)
   have ha:=c.inn a (by simp)
   have hb:=c.inn b (by simp)
   have:=f.2 b a hb.1 hb.2 ha.1 ha.2
   omega
  | [],h=>simp at h;omega
  | [_],h=>simp at h;omega
def oSD:Option (Int × List Int)->PyData
 | none => .none
 | some p => .tuple [.int p.1,plD p.2]
def ack (n:Int) (es:List (Int × Int)) (k r:Int):List (List Int):=aa1 n.toNat (dsF es) (2 * r+1) (2 * k+2).toNat
def StayOk (n:Int) (es:List (Int × Int)) (k:Int):Option (Int × List Int)->Prop
 | none=>∀ r,0<=r->ack n es k r=[]
 | some p=>0<=p.1/\(ack n es k p.1).head?=some p.2/\∀ r,p.1 < r->ack n es k r=[]
theorem StayOk.uniq {n:Int} {es:List (Int × Int)} {k:Int} {o q:Option (Int × List Int)} (h:StayOk n es k o) (g:StayOk n es k q):o=q:=by
 cases o with
 | none =>
  cases q with
  | none=>rfl
  | some p =>
   obtain ⟨r,ps⟩:=p
   have:=h r g.1
   have a:=g.2.1
   rw [this] at a
   simp at a
 | some p =>
  obtain ⟨r,ps⟩:=p
  cases q with
  | none =>
   have:=g r h.1
   have c:=h.2.1
   rw [this] at c
   simp at c
  | some p' =>
   obtain ⟨d,f⟩:=p'
   have c:=h.2.1
   have a:=g.2.1
   have:r=d:=by
    rcases Int.lt_trichotomy r d with b | i | b
    ·have:=h.2.2 d b
     rw [this] at a
     simp at a
    ·exact i
    ·have:=g.2.2 r b
     rw [this] at c
     simp at c
   subst this
   rw [c] at a
   cases a
   rfl
theorem ay1 (es:List (Int × Int)) (u:Int):dsF es u u=0:=by
 unfold dsF
 rw [Gr.farO_self]
 rfl
theorem aqp {n:Int} {es:List (Int × Int)} (g:Joined n es) (c:InN n es) {u v:Int} (j:0<=u) (h:u < n) (f:0<=v) (i:v < n):dsF es u v < n:=by
 obtain ⟨d,e⟩:=aho g j h f i
 have:=Gr.Dist.lt (n:=n.toNat) (fun a b t=>by have:=(t.in c).2;omega) (by omega) (Gr.farO_some.mp e)
 simp only [dsF,e,Option.getD_some]
 omega
def stSl (o:Option (Int × List Int)):Sl:=match o with | none => .st .none | some p => .own (OW (.int p.1) (p.2.map .int))
def avx:VP:=fun ss Q=>∃ (n:Int) (es:List (Int × Int)) (k:Int),ss=[.st (webD n es),.st (.int k)]/\1<=n/\n<=12/\InN n es/\es.length<=10000/\Joined n es/\0<=k/\k<=5/\∀ o,StayOk n es k o->Q (stSl o)
section
variable {P:Program} {w:World} {K:Frag} {mg:Str->Option Value} {base:Heap}
theorem sc_best_stay:FnScope ["web","k","rows","r","lists"] ["web","k"] (aak s_best_stay):=by row_cond sc
theorem ae8 (T:Txt K mg):Can P w K mg base "best_stay" 9 ["web","k"] (spP K (avx)):=by
 obtain ⟨f,fd,D⟩:=T.d_best_stay
 obtain ⟨g,c⟩:=T.v_MOST_STAY_TIES
 obtain ⟨d,a⟩:=T.v_MOST_PLACES_FOR_STAY
 refine D.can (D.fn.ok sc_best_stay (fun vs H Q E h=>lenP h fun ss X q=>by obtain ⟨n,es,k,rfl,z,L,o,p,F,M,N,C⟩:=q;rfl) (fun cdv A outer s H vs Q E j h=>?_))
 have nd:=sc_best_stay.nd
 refine ⟨_,(aad (aam (i:=2) nd rfl (Or.inl rfl) (aaq (alp T) j (aaa (pv 0) aac)))
  (aad (aa9 (aaq (aej T) j (aaa aab (aaa (amh (v:=.int 5) rfl c ⟨_,rfl⟩) (aaa (pv 1) aac)))))
  (aad (aa9 (aaq (aej T) j (aaa aab (aaa (amh (v:=.int 12) rfl a ⟨_,rfl⟩) (aaa (aav aaw (pv 0) aab (fun _ _=>rfl)) aac)))))
  (aad (abg aG7 rfl (avo rfl T.b_reversed rfl T.b_range (aaa (aae abt (aae aas (aaq (alq T) j (aaa (pv 2) aac)) aab) aab) aac)) (aao (i:=3) nd rfl (Or.inl rfl))
   (aad (aam (i:=4) nd rfl (Or.inl rfl) (aaq (aht T) j (aaa (pv 2) (aaa (aaq (alx T) j (aaa (pv 3) aac)) (aaa (aaq (ahs T) j (aaa (pv 1) aac)) aac)))))
    (aaf (abm (ag9 (pv 4))
     (aaf (aaz (acv (aaa (pv 3) (aaa (aav aaw (pv 4) aab (fun _ _=>rfl)) aac)))))
     aa6))))
  (aaf (aaz act)))))),?_⟩
 refine abd h fun ss X q B hK=>?_
 refine exS3 ss q fun n es k b=>?_
 have z:=b.1
 have L:=b.2.1
 have o:=b.2.2.1
 have p:=b.2.2.2.1
 have F:=b.2.2.2.2.1
 have M:=b.2.2.2.2.2.1
 have N:=b.2.2.2.2.2.2.1
 have C:=b.2.2.2.2.2.2.2
 clear b q
 show EvS B _ _ [some (.st (webD n es)),some (.st (.int k)),none,none,none]
 have hn:1<=n.toNat:=by omega
 row_cond go
 refine ⟨n,es,rfl,z,by omega,o,p,F,af5 adl ?_⟩
 row_cond go
 refine ⟨0,5,k,rfl,M,N,?_⟩
 row_cond go
 refine ⟨1,12,n,rfl,z,L,?_⟩
 row_cond go
 refine ⟨n.toNat,dsF es,rfl,hn,by omega,fun x I=>?_⟩
 have O:0<=x:=by
  have:=I.2 0 0 (by omega) (by omega) (by omega) (by omega)
  rw [ay1] at this
  exact this
 have R:x < n:=by
  obtain ⟨u,v,W,Y,S,Z,e⟩:=I.1
  rw [← e]
  exact aqp F o W (by omega) S (by omega)
 row_cond go
 refine ⟨(x+1) / 2,rfl,by omega,by omega,?_⟩
 have U:∀ r:Int,(((x+1) / 2).toNat:Int)<=r->ack n es k r=[]:=fun r j=>aof I (by omega) _ (by omega)
 refine aqe (fun i e=>∃ J G,e=[some (.st (webD n es)),some (.st (.int k)),some (.st (.list (matD n.toNat (dsF es)))),J,G]/\∀ r,(((x+1) / 2).toNat:Int) - (i:Int)<=r->ack n es k r=[]) ⟨_,_,rfl,fun r j=>U r (by omega)⟩ ?_ ?_
 ·rintro i e hi l
  refine exS2 e l fun J G b=>?_
  have m:=b
  clear b l
  row_cond go
  refine ⟨_,rfl,by omega,by omega,?_⟩
  row_cond go
  refine ⟨k,rfl,by omega,by omega,?_⟩
  row_cond go
  refine ⟨n.toNat,dsF es,_,2 * k+2,rfl,by omega,by omega,by omega,?_⟩
  have y:aa1 n.toNat (dsF es) (2 * ((((x+1) / 2).toNat:Int) - 1 - (i:Int))+1) (2 * k+2).toNat=ack n es k ((((x+1) / 2).toNat:Int) - 1 - (i:Int)):=rfl
  rw [y]
  repeat (first | (refine aqg (.inl rfl) ?_) | row_cond st)
  cases hL:ack n es k ((((x+1) / 2).toNat:Int) - 1 - (i:Int)) with
  | nil =>
   rw [aD0 (show ¬ ((!(List.map (fun ps:List Int=>ps.map PyData.int) []).isEmpty)=true) from fun h=>Bool.noConfusion h)]
   refine aca ?_
   refine ⟨_,_,rfl,fun r j=>?_⟩
   by_cases hrr:r=(((x+1) / 2).toNat:Int) - 1 - (i:Int)
   ·rw [hrr];exact hL
   ·exact m r (by push_cast at j;omega)
  | cons ps t =>
   rw [aC9 (show (!(List.map (fun ps:List Int=>ps.map PyData.int) (ps :: t)).isEmpty)=true from rfl)]
   rw [aB4]
   repeat (first | (refine asb ?_) | (refine aqf rfl ⟨_,rfl,?_⟩) | row_cond st)
   refine C (some ((((x+1) / 2).toNat:Int) - 1 - (i:Int),ps)) ⟨by simp only;omega,by simp only;rw [hL];rfl,fun r j=>m r (by simp only at j;omega)⟩
 ·rintro e l
  refine exS2 e l fun J G b=>?_
  have m:=b
  clear b l
  row_cond go
  exact C none fun r j=>m r (by omega)
end
def extF (n:Nat) (m:Int->Int->Int) (least:Int):Nat->List Int->List (List Int)
 | 0,ps=>[ps]
 | j+1,ps=>(abr n m least ps).flatMap fun p=>extF n m least j (ps ++ [p])
theorem ai3 {n:Nat} {m:Int->Int->Int} {least:Int}:∀ (j i:Nat),(aa1 n m least i).flatMap (extF n m least j)=aa1 n m least (i+j)
 | 0,i=>by
  show (aa1 n m least i).flatMap (fun ps=>[ps])=_
  simp
 | j+1,i=>by
  have h:=ai3 (n:=n) (m:=m) (least:=least) j (i+1)
  rw [show i+(j+1)=i+1+j by omega,← h]
  show _=((aa1 n m least i).flatMap (aei n m least)).flatMap _
  rw [List.flatMap_assoc]
  congr 1
  funext ps
  show (abr n m least ps).flatMap _=((abr n m least ps).map _).flatMap _
  rw [List.flatMap_map]
theorem avy {n:Nat} {m:Int->Int->Int} {least:Int} (j:Nat):extF n m least j []=aa1 n m least j:=by
 have:=ai3 (n:=n) (m:=m) (least:=least) j 0
 rw [Nat.zero_add] at this
 rw [← this]
 simp [aa1]
def firD:Option (List Int)->PyData
 | none => .none
 | some ps=>plD ps
def avz (d:Nat):VP:=fun ss Q=>∃ (n:Nat) (m:Int->Int->Int) (far:Int) (j:Nat) (ps:List Int),ss=[.st (.list (matD n m)),.st (.int far),.st (.int (j:Int)),.st (plD ps)]/\j+1<=d/\j<=1000/\n<=1000/\ps.Pairwise (· < ·)/\(∀ x∈ps,0<=x/\x < n)/\Q (.st (firD (extF n m far j ps).head?))
theorem agr (ps:List Int):aal (plD ps)=true:=by
 simp only [aal]
 rw [ael]
 intro d hd
 obtain ⟨x,_,rfl⟩:=aA0.mp hd
 rfl
theorem aog {n:Nat} {m:Int->Int->Int} {least:Int} {ps:List Int}:(abr n m least ps).Pairwise (· < ·):=by
 unfold abr
 refine List.Pairwise.filter _ ?_
 rw [aD5]
 exact List.pairwise_lt_range.imp fun {a b} h=>by omega
theorem ai4 {g:Int->List (List Int)} {p:Int} {q:List Int} {tl:List (List Int)}:∀ {l:List Int},l.Pairwise (· < ·)->p∈l->(∀ x∈l,x < p->g x=[])->g p=q :: tl->(l.flatMap g).head?=some q
 | [],_,h,_,_=>by simp at h
 | x :: l,hr,h,hno,hq=>by
  rw [List.flatMap_cons]
  rcases az2.mp h with rfl | h
  ·rw [hq];rfl
  ·have a:=(aF8.mp hr).1 p h
   rw [hno x (by simp) a,List.nil_append]
   exact ai4 (aF8.mp hr).2 h (fun y b=>hno y (az8 _ b)) hq
theorem ai5 (ps:List Int):(plD ps).depth<=60:=by
 have:PyData.depthAll (ps.map PyData.int)<=0:=adf fun d hd=>by
  obtain ⟨x,_,rfl⟩:=aA0.mp hd
  simp [PyData.depth]
 simp only [PyData.depth]
 omega
theorem asn {n:Nat} {ps:List Int} (a:∀ x∈ps,0<=x/\x < (n:Int)):0<=aah ps/\aah ps<=n:=by
 rcases List.eq_nil_or_concat ps with e | ⟨d,z,e⟩
 ·have c:aah ps=0:=by rw [e];rfl
  omega
 ·rw [List.concat_eq_append] at e
  have c:aah ps=z+1:=by rw [e,abz]
  have b:=a z (by rw [e];simp)
  omega
theorem aso (ps:List Int):atI (ps.map PyData.int ++ [PyData.int (-1)]) (-1 - (if (!ps.isEmpty)=true then 1 else 0))=some (.int (aah ps - 1)):=by
 rcases List.eq_nil_or_concat ps with e | ⟨a,z,e⟩
 ·subst e;rfl
 ·rw [List.concat_eq_append] at e
  have b:aah ps=z+1:=by rw [e,abz]
  have c:ps.isEmpty=false:=by rw [e];cases a <;> rfl
  rw [b,c,e]
  unfold atI ixN
  simp only [Bool.not_false,if_true,aC1,az4,ay7,aB4,List.map_nil,List.length_singleton]
  rw [aD0 (show ¬ (0:Int)<=-1 - 1 by omega),aC9 (show -(((a.length+1+1:Nat)):Int)<=-1 - 1 by omega)]
  show ((a.map PyData.int ++ [PyData.int z]) ++ [PyData.int (-1)])[(-1 - 1+(((a.length+1+1:Nat)):Int)).toNat]?=_
  rw [show (-1 - 1+(((a.length+1+1:Nat)):Int)).toNat=(a.map PyData.int).length by rw [ay7];omega,az7,aB1 (az0 _),Nat.sub_self]
  simp
section
variable {P:Program} {w:World} {K:Frag} {mg:Str->Option Value} {base:Heap}
theorem sc_law_first:FnScope ["rows","far","many","chosen","place","found"] ["rows","far","many","chosen"] (aak s_law_first):=by row_cond sc
theorem ajp (T:Txt K mg):∀ d,Can P w K mg base "_law_first" d ["rows","far","many","chosen"] (spP K (avz d)):=by
 intro d
 obtain ⟨f,fd,D⟩:=T.d_law_first
 induction d with
 | zero=>exact D.can ⟨fun vs H Q E h=>(by obtain ⟨G,ss,S,_,_,_,q,_⟩:=h;obtain ⟨n,m,far,j,ps,_,X,_⟩:=q;omega),fun A outer s H args us vs Q E _ _ _ _ h=>(by obtain ⟨G,ss,S,_,_,_,q,_⟩:=h;obtain ⟨n,m,far,j,ps,_,X,_⟩:=q;omega)⟩
 | succ d ih =>
  refine D.can (D.fn.ok sc_law_first (fun vs H Q E h=>lenP h fun ss S q=>by obtain ⟨n,m,far,j,ps,rfl,_⟩:=q;rfl) (fun cdv A outer s H vs Q E U h=>?_))
  have nd:=sc_law_first.nd
  refine ⟨_,(aad (abm (aa2 ani (pv 2) aab (aa0 _))
   (aaf (aaz (pv 3)))
   aa6)
  (aad (abg aG7 rfl (afd rfl T.b_range (aaa (aae aas (aav aaw (aae akh (pv 3) (aa7 (aaa (anh aj7 aab) aac))) (aae acm (anh aj7 aab) (aff ag3 (by rfl) T.b_int akn (aaa (acy (aep U.units) (pv 3) (aa7 aac) (aa0 _)) aac))) (fun _ _=>rfl)) aab) (aaa (aat ab4 (by rfl) T.b_len adi (aaa (pv 0) aac)) aac))) (aao (i:=4) nd rfl (Or.inr rfl))
   (aaf (abm (aa2 (awt U.units) (aex rfl (N:=["other","far","rows","place"]) (src:=[none,some 1,some 0,some 4]) (by exact ab2 rfl rfl rfl rfl rfl rfl) (abp (pv 3)) (fun _ _ _ _=>(aao (i:=0) (show List.Nodup (["other","far","rows","place"]:List Str) by decide +kernel) rfl (Or.inl rfl) (hf:=Or.inr rfl))) (fun _ _ _ _=>amn (aa2 agv (aav (show IxR _ (ab7 K) from aaw) (aav (show IxR _ (ab7 K) from aaw) (pv 2) (pv 3) (fun _ _=>rfl)) (pv 0) (fun _ _=>rfl)) (pv 1) (aa0 _))) (fun _ _ _ _=>(pv 0))) (aa7 aac) (aa0 _))
     (aad (aam (i:=5) nd rfl (Or.inl rfl) (aaq ih U (aaa (pv 0) (aaa (pv 1) (aaa (aae acm (pv 2) aab) (aaa (aae akh (pv 3) (aa7 (aaa (pv 4) aac))) aac)))) (hj:=az0 _)))
      (aaf (abm (aa2 agj (pv 5) act (aa0 _))
       (aaf (aaz (pv 5)))
       aa6)))
     aa6)))
  (aaf (aaz act)))),?_⟩
  refine abd h fun ss S q B hK=>?_
  refine exS5 ss q fun n m far j ps c=>?_
  have hd:=c.1
  have hj:=c.2.1
  have hn:=c.2.2.1
  have F:=c.2.2.2.1
  have l:=c.2.2.2.2.1
  have k:=c.2.2.2.2.2
  clear c q
  show EvS B _ _ [some (.st (.list (matD n m))),some (.st (.int far)),some (.st (.int (j:Int))),some (.st (plD ps)),none,none]
  row_cond go
  refine acd (fun X=>?_) (fun X=>?_)
  ·have W:j=0:=by omega
   subst W
   row_cond go
   exact k
  ·obtain ⟨i,rfl⟩:∃ i,j=i+1:=⟨j - 1,by omega⟩
   have a6:=ae4 F l
   have a2:aal (plD ps)=true:=agr ps
   refine aca ?_
   row_cond go
   refine acr a2 rfl (ai5 ps) ?_
   have a0:(!PyData.eqv (plD ps) (.list [])) = !ps.isEmpty:=by cases ps <;> simp [PyData.eqv,PyData.eqvAll]
   rw [a0]
   have a5:atI (ps.map PyData.int ++ [PyData.int (-1)]) (-1 - (if (!ps.isEmpty)=true then 1 else 0))=some (.int (aah ps - 1)):=aso ps
   have hs:=asn l
   row_cond go
   rw [aif,show aah ps - 1+1=aah ps by omega]
   row_cond go
   refine abq (fun t e=>∃ Y R,e=[some (.st (.list (matD n m))),some (.st (.int far)),some (.st (.int ((i+1:Nat):Int))),some (.st (plD ps)),Y,R]/\∀ p,aah ps<=p->p < aah ps+(t:Int)->okP m far ps p=true->extF n m far i (ps ++ [p])=[]) ⟨_,_,rfl,fun p y I=>by omega⟩ ?_ ?_
   ·rintro t e ht u
    refine exS2 e u fun Y R c=>?_
    have g:=c
    clear c u
    have C:aah ps+(t:Int) < n:=by omega
    have a3:=aqk (n:=n) (m:=m) (x:=aah ps+(t:Int)) (by omega) C
    row_cond go
    refine ald (fun d=>d) (fun d=>match d with | .int o=>decide (m (aah ps+(t:Int)) o < far) | _=>false) rfl (by rw [ay7];omega) (fun d hd B' a7=>?_) ?_
    ·obtain ⟨o,M,rfl⟩:=aA0.mp hd
     have L:=l o M
     have a4:=aqj (n:=n) (r:=m (aah ps+(t:Int))) (x:=o) L.1 L.2
     row_cond go
     intro _
     row_cond go
     exact rfl
    ·have Z:((ps.map PyData.int).filter (fun d=>match d with | .int o=>decide (m (aah ps+(t:Int)) o < far) | _=>false)).map (fun d=>d)=(ps.filter fun o=>decide (m (aah ps+(t:Int)) o < far)).map .int:=by
      rw [List.map_id',List.filter_map]
      rfl
     rw [Z]
     row_cond go
     refine auq (agr _) rfl (ai5 _) ?_
     have hok:PyData.eqv (.list ((ps.filter fun o=>decide (m (aah ps+(t:Int)) o < far)).map .int)) (.list [])=okP m far ps (aah ps+(t:Int)):=by
      have y:PyData.eqv (.list ((ps.filter fun o=>decide (m (aah ps+(t:Int)) o < far)).map .int)) (.list [])=(ps.filter fun o=>decide (m (aah ps+(t:Int)) o < far)).isEmpty:=by
       cases ps.filter fun o=>decide (m (aah ps+(t:Int)) o < far) <;> simp [PyData.eqv,PyData.eqvAll]
      rw [y]
      unfold okP
      rw [aF2,List.isEmpty_iff,List.filter_eq_nil_iff,aC8]
      constructor
      ·intro h o M;have:=h o M;simp at this ⊢;omega
      ·intro h o M;have:=h o M;simp at this ⊢;omega
     rw [hok]
     cases hokv:okP m far ps (aah ps+(t:Int)) with
     | false =>
      row_cond go
      refine ⟨_,_,rfl,fun p y I z=>?_⟩
      by_cases hpp':p=aah ps+(t:Int)
      ·rw [hpp',hokv] at z;cases z
      ·exact g p y (by push_cast at I;omega) z
     | true =>
      have J:=afterF_mem.mpr ⟨(show aah ps<=aah ps+(t:Int) by omega),C,hokv⟩
      obtain ⟨s0,s1⟩:=alv F (fun x v=>(l x v).1) (show aah ps<=aah ps+(t:Int) by omega)
      row_cond go
      refine ⟨n,m,far,i,ps ++ [aah ps+(t:Int)],?_,by omega,by omega,hn,?_,?_,?_⟩
      ·simp
      ·exact aB2.mpr ⟨F,by simp,fun a ha b hb=>by rw [aA5.mp hb];exact s1 a ha⟩
      ·intro x v
       rcases az1.mp v with v | v
       ·exact l x v
       ·rw [aA5.mp v];exact ⟨s0,C⟩
      ·row_cond go
       cases v:extF n m far i (ps ++ [aah ps+(t:Int)]) with
       | nil =>
        rw [aD0 (show ¬ ((!isNone (firD ([]:List (List Int)).head?))=true) from fun h=>Bool.noConfusion h)]
        refine aca ?_
        refine ⟨_,_,rfl,fun p y I z=>?_⟩
        by_cases hpp':p=aah ps+(t:Int)
        ·rw [hpp'];exact v
        ·exact g p y (by push_cast at I;omega) z
       | cons q tl =>
        rw [aC9 (show (!isNone (firD (q :: tl).head?))=true from rfl)]
        row_cond go
        have hk:(extF n m far (i+1) ps).head?=some q:=ai4 aog J (fun x O a1=>by
         obtain ⟨y,I,z⟩:=afterF_mem.mp O
         exact g x y a1 z) v
        rw [hk] at k
        exact k
   ·rintro e u
    refine exS2 e u fun Y R c=>?_
    have g:=c
    clear c u
    row_cond go
    have:extF n m far (i+1) ps=[]:=by
     show (abr n m far ps).flatMap _=[]
     rw [List.flatMap_eq_nil_iff]
     intro p hp
     obtain ⟨y,I,z⟩:=afterF_mem.mp hp
     exact g p y (by omega) z
    rw [this] at k
    exact k
end
theorem ame {n:Nat} {m:Int->Int->Int} {least:Int} (h:∀ u v:Int,0<=u->u < n->0<=v->v < n->m u v < least):∀ j:Nat,2<=j->aa1 n m least j=[]:=fun j hj=>by
 cases e:aa1 n m least j with
 | nil=>rfl
 | cons ps t =>
  exfalso
  obtain ⟨c,d⟩:=(acb j ps).mp (by rw [e];simp)
  match ps,d with
  | a :: b :: r,_ =>
   have hf:=c.far
   rw [aF8] at hf
   have f:=hf.1 b (by simp)
   have ha:=c.inn a (by simp)
   have hb:=c.inn b (by simp)
   have:=h b a hb.1 hb.2 ha.1 ha.2
   omega
  | [],h=>simp at h;omega
  | [_],h=>simp at h;omega
def ay2 (n:Int) (es:List (Int × Int)) (k i:Int):Option (Int × List Int)->Prop
 | none=>∀ r,0<=r->r < i->ack n es k r=[]
 | some p=>0<=p.1/\p.1 < i/\(ack n es k p.1).head?=some p.2/\∀ r,p.1 < r->r < i->ack n es k r=[]
def ay3:VP:=fun ss Q=>∃ (n:Int) (es:List (Int × Int)) (k:Int),ss=[.st (.list (matD n.toNat (dsF es))),.st (.int k)]/\1<=n/\n<=12/\InN n es/\Joined n es/\0<=k/\k<=5/\∀ o,StayOk n es k o->Q (.st (oSD o))
section
variable {P:Program} {w:World} {K:Frag} {mg:Str->Option Value} {base:Heap}
theorem sc_law_due:FnScope ["rows","k","found","r","places"] ["rows","k"] (aak s_law_due):=by row_cond sc
theorem amf (T:Txt K mg):Can P w K mg base "_law_due" 14 ["rows","k"] (spP K (ay3)):=by
 obtain ⟨f,fd,D⟩:=T.d_law_due
 refine D.can (D.fn.ok sc_law_due (fun vs H Q E h=>lenP h fun ss O q=>by obtain ⟨n,es,k,rfl,J,I,m,G,R,S,F⟩:=q;rfl) (fun cdv A outer s H vs Q E g h=>?_))
 have nd:=sc_law_due.nd
 refine ⟨_,(aad (aam (i:=2) nd rfl (Or.inl rfl) act)
  (aad (abg aG7 rfl (aba rfl T.b_range (aaa (aat ab4 (by rfl) T.b_len adi (aaa (pv 0) aac)) aac)) (aao (i:=3) nd rfl (Or.inl rfl))
   (aad (aam (i:=4) nd rfl (Or.inl rfl) (aaq (ajp T 13) g (aaa (pv 0) (aaa (aae aas (aae abn aab (pv 3)) aab) (aaa (aae aas (aae abn aab (pv 1)) aab) (aaa (aa7 aac) aac))))))
    (aaf (abm (aa2 agj (pv 4) act (aa0 _))
     (aaf (aam (i:=2) nd rfl (Or.inl rfl) (acv (aaa (pv 3) (aaa (pv 4) aac)))))
     aa6))))
  (aaf (aaz (pv 2))))),?_⟩
 refine abd h fun ss O q B X=>?_
 refine exS3 ss q fun n es k a=>?_
 have J:=a.1
 have I:=a.2.1
 have m:=a.2.2.1
 have G:=a.2.2.2.1
 have R:=a.2.2.2.2.1
 have S:=a.2.2.2.2.2.1
 have F:=a.2.2.2.2.2.2
 clear a q
 show EvS B _ _ [some (.st (.list (matD n.toNat (dsF es)))),some (.st (.int k)),none,none,none]
 row_cond go
 rw [aif]
 row_cond go
 refine abq (fun i e=>∃ C z o,e=[some (.st (.list (matD n.toNat (dsF es)))),some (.st (.int k)),some (.st (oSD o)),C,z]/\ay2 n es k i o) ⟨_,_,none,rfl,fun r c l=>by omega⟩ ?_ ?_
 ·rintro i e hi b
  refine exS3 e b fun C z o a=>?_
  have d:=a
  clear a b
  row_cond go
  refine ⟨n.toNat,dsF es,2 * (0+(i:Int))+1,(2 * k+2).toNat,[],?_,by omega,by omega,by omega,.nil,fun x y=>by simp at y,?_⟩
  ·simp
   omega
  ·row_cond go
   have N:extF n.toNat (dsF es) (2 * (0+(i:Int))+1) (2 * k+2).toNat []=ack n es k (i:Int):=by
    rw [avy,aF9];rfl
   rw [N]
   cases y:ack n es k (i:Int) with
   | nil =>
    rw [aD0 (show ¬ ((!isNone (firD ([]:List (List Int)).head?))=true) from fun h=>Bool.noConfusion h)]
    refine aca ?_
    refine ⟨_,_,o,rfl,?_⟩
    cases o with
    | none =>
     intro r c l
     by_cases g:r=(i:Int)
     ·rw [g];exact y
     ·exact d r c (by push_cast at l;omega)
    | some p =>
     refine ⟨d.1,by have:=d.2.1;push_cast;omega,d.2.2.1,fun r c l=>?_⟩
     by_cases g:r=(i:Int)
     ·rw [g];exact y
     ·exact d.2.2.2 r c (by push_cast at l;omega)
   | cons q tl =>
    rw [aC9 (show (!isNone (firD (q :: tl).head?))=true from rfl)]
    row_cond go
    refine ⟨_,_,some ((i:Int),q),by rw [aF9];rfl,⟨by simp only;omega,by simp only;push_cast;omega,by simp only;rw [y];rfl,fun r c l=>by simp only at c;push_cast at l;omega⟩⟩
 ·rintro e b
  refine exS3 e b fun C z o a=>?_
  have d:=a
  clear a b
  row_cond go
  have j:∀ r,n<=r->ack n es k r=[]:=fun r g=>ame (fun u v M U L W=>by have:=aqp G m M (show u < n by omega) L (show v < n by omega);omega) _ (by omega)
  refine F o ?_
  cases o with
  | none =>
   intro r c
   by_cases g:r < n
   ·exact d r c (by omega)
   ·exact j r (by omega)
  | some p =>
   refine ⟨d.1,d.2.2.1,fun r c=>?_⟩
   by_cases g:r < n
   ·exact d.2.2.2 r c (by omega)
   ·exact j r (by omega)
end
def aoh (K:Frag):Sp:=fun vs H Q _=>∃ (a:Addr) (ns:List Int),vs=[.ref a]/\SqL K H a (ns.map V.int)/\ns.length<=63/\∀ H',Q (.bl true) H'
def atg:VP:=fun ss Q=>∃ ns:List Int,ss=[.scr ns]/\ns.length<=63/\Q (.st (.bool true))
theorem asp {K:Frag} {vs:List V} {H:Hp} {Q:VK} {E:XK} (h:aoh K vs H Q E):spP K atg vs H Q E:=by
 obtain ⟨a,ns,rfl,b,c,k⟩:=h
 refine ⟨H,[.scr ns],fun s=>s=.st (.bool true),Same.refl _,fun a d h=>h,.cons ⟨a,rfl,b⟩ .nil,⟨ns,rfl,c,rfl⟩,fun s e v G' H' Fv o=>?_⟩
 subst e
 have r:=o.ok.1
 cases r
 exact k _
theorem webP (n:Int) (es:List (Int × Int)):aal (webD n es)=true:=by
 have:=aoa es
 simp only [webD,aal,plainDs,this,Bool.and_self]
theorem aoi (n:Int) (es:List (Int × Int)):(webD n es).depth<=60:=by
 have h:PyData.depthAll (es.map prD)<=1:=adf fun d hd=>by
  obtain ⟨p,_,rfl⟩:=aA0.mp hd
  exact ap5 p
 simp only [webD,PyData.depth,PyData.depthAll]
 omega
theorem oSDp (o:Option (Int × List Int)):aal (oSD o)=true/\(oSD o).depth<=60:=by
 cases o with
 | none=>exact ⟨rfl,by simp [oSD,PyData.depth]⟩
 | some p =>
  refine ⟨?_,?_⟩
  ·have:=agr p.2
   simp only [aal] at this
   simp only [oSD,plD,aal,plainDs,this,Bool.and_self]
  ·have:PyData.depthAll (p.2.map PyData.int)<=0:=adf fun d hd=>by
    obtain ⟨x,_,rfl⟩:=aA0.mp hd
    simp [PyData.depth]
   simp only [oSD,plD,PyData.depth,PyData.depthAll]
   omega
theorem av0 {o:Option (Int × List Int)} {R:PyData->Prop} (h:R (oSD o)):FQ (stSl o) R:=by
 cases o with
 | none=>exact as9 h
 | some p=>exact atc h
theorem asq {n k:Int} {es:List (Int × Int)} {p:Int × List Int} (c:n<=12) (h:StayOk n es k (some p)):p.2.length<=12:=by
 have b:=h.2.1
 obtain ⟨a,_⟩:=(acb _ p.2).mp (List.mem_of_head? b)
 have:=ae4 a.rise a.inn
 omega
theorem av1 (ps:List Int):PyData.canLayAll0 (ps.map fun _=>PyData.bool false)=true:=by
 induction ps with
 | nil=>rfl
 | cons p ps ih=>simp only [aB4,PyData.canLayAll0,PyData.canLay0,ih,Bool.and_self]
section
variable {P:Program} {w:World} {K:Frag} {mg:Str->Option Value} {base:Heap}
theorem sc_law:FnScope ["script","d","turn","web","handed","rows","k","due","found"] ["script"] (aak s_law):=by row_cond sc
theorem av2 (T:Txt K mg) {f:Addr} {fd:FuncData} (D:DefAt K mg "law" s_law ["script"] f fd):FnOk P w K mg base CX0 15 f fd ["script"] (spP K (atg)):=by
 refine D.fn.ok sc_law (fun vs H Q E h=>lenP h fun ss Q' q=>by obtain ⟨ns,rfl,L,kk⟩:=q;rfl) (fun cdv A outer s H vs Q E c h=>?_)
 have nd:=sc_law.nd
 refine ⟨_,(aad (aam (i:=1) nd rfl (Or.inl rfl) (aaq (ajo T) c (aaa (pv 0) (aaa aab aac))))
  (aad (abg aG7 rfl (aba rfl T.b_range (aaa aab aac)) (aao (i:=2) nd rfl (Or.inl rfl))
   (aad (aam (i:=3) nd rfl (Or.inl rfl) (aaq (amd T) c (aaa (pv 1) (aaa (aae abn aab (pv 2)) (aaa aab aac)))))
    (aad (aam (i:=4) nd rfl (Or.inl rfl) (aaq (alr T) c (aaa (pv 3) aac)))
    (aad (aam (i:=5) nd rfl (Or.inl rfl) (aaq (alu T) c (aaa (pv 3) aac)))
    (aaf (abg aG7 rfl (abp (aa7 (aaa aab (aaa aab (aaa (aae aax (aav aaw (pv 1) (aae aas aab (pv 2)) (fun _ _=>rfl)) aab) aac))))) (aao (i:=6) nd rfl (Or.inl rfl))
     (aad (aam (i:=7) nd rfl (Or.inl rfl) (aaq (amf T) c (aaa (pv 5) (aaa (pv 6) aac))))
      (aad (aam (i:=8) nd rfl (Or.inl rfl) (aaq (ae8 T) c (aaa (pv 4) (aaa (pv 6) aac))))
      (aad (abm (PW.pt (ajq (aa2 (aep c.units) (pv 8) (pv 7) (aa0 _)) (ags (aa2 (aep c.units) (pv 4) (pv 3) (aa0 _)))))
       (aaf (aaz acs))
       aa6)
      (aaf (abm (aa2 agj (pv 7) act (aa0 _))
       (aad (abm (PW.pt (ajq (afc (ad0 (aat ac0 (by rfl) T.b_isinstance abv (aaa (pv 8) (aaa (adt (v:=.ty "tuple") rfl T.b_tuple aq6 rfl) aac))))) (ags (afc (ad0 (aat ac0 (by rfl) T.b_isinstance abv (aaa (aav aaw (pv 8) aab (fun _ _=>rfl)) (aaa (adt (v:=.ty "list") rfl T.b_list ah0 rfl) aac))))))))
         (aaf (aaz acs))
         aa6)
        (aad (abm (ad0 (aat ac0 (by rfl) T.b_isinstance abv (aaa (aav aaw (pv 8) aab (fun _ _=>rfl)) (aaa (adt (v:=.ty "bool") rfl T.b_bool ah1 rfl) aac))))
         (aaf (aaz acs))
         aa6)
        (aad (abm (aa2 (axw c.units) acs (aex rfl (N:=["place"]) (src:=[none]) (by exact ab2 rfl rfl rfl rfl rfl rfl) (abp (aav aaw (pv 8) aab (fun _ _=>rfl))) (fun _ _ _ _=>(aao (i:=0) (show List.Nodup (["place"]:List Str) by decide +kernel) rfl (Or.inl rfl) (hf:=Or.inr rfl))) (fun _ _ _ _=>ab1) (fun _ _ _ _=>(aat (show abh _ (.builtin "isinstance") (rIsi K) from ac0) (by rfl) T.b_isinstance abv (aaa (pv 0) (aaa (adt (v:=.ty "bool") rfl T.b_bool ah1 rfl) aac))))) rfl)
         (aaf (aaz acs))
         aa6)
        (aad (aa9 (ab6 PySem.F.plainAttrs_list PySem.F.slot_list_append PySem.F.type_list_append aa5 (aav aaw (pv 8) aab (fun _ _=>rfl)) (aaa aab aac)))
        (aaf (abm (PW.pt (ajq (aa2 (aep c.units) (aaq (ae8 T) c (aaa (pv 4) (aaa (pv 6) aac))) (pv 7) (aa0 _)) (ags (aa2 (aep c.units) (pv 4) (pv 3) (aa0 _)))))
         (aaf (aaz acs))
         aa6))))))
       aa6)))))))))))
  (aaf (aaz acs)))),?_⟩
 refine abd h fun ss Q' q B hK=>?_
 refine exS1 ss q fun ns l=>?_
 have L:=l.1
 have kk:=l.2
 clear l q
 show EvS B _ _ [some (.scr ns),none,none,none,none,none,none,none,none]
 row_cond go
 refine ⟨ns,130,rfl,L,by decide,by decide,fun ds a1 hl hD=>af5 adl ?_⟩
 row_cond go
 refine abq (fun i e=>∃ Y U Z R I C m,e=[some (.scr ns),some (.st (.list (ds.map .int))),Y,U,Z,R,I,C,m]) ⟨_,_,_,_,_,_,_,rfl⟩ ?_ ?_
 ·rintro i e hi a
  refine exE7 e a fun Y U Z R I C m=>?_
  clear a
  obtain ⟨xk,ak,lk,hk⟩:=hD.at (i:=120+(0+(i:Int))) (by omega) (by omega)
  row_cond go
  refine ⟨ds,60 * (0+(i:Int)),12,rfl,hD,by omega,by omega,hl,by omega,by omega,fun n es J b M=>?_⟩
  have g:=J.lo
  have a2:=J.len
  row_cond go
  refine ⟨n,es,rfl,by omega,?_⟩
  row_cond go
  refine ⟨n,es,rfl,g,by omega,J.in,by omega,M,af5 adl ?_⟩
  row_cond go
  refine ac9 (xs:=[0,1,xk % 6]) (f:=PyData.int) (fun j e=>∃ I C m,e=[some (.scr ns),some (.st (.list (ds.map .int))),some (.st (.int (0+(i:Int)))),some (.st (webD n es)),some (.st (webD n es)),some (.st (.list (matD n.toNat (dsF es)))),I,C,m]) ⟨_,_,_,rfl⟩ ?_ ?_
  ·rintro j k e hj a
   refine exE3 e a fun I C m=>?_
   clear a
   obtain ⟨W,X⟩:0<=k/\k<=5:=by
    have:=ay6 hj
    simp only [az2,List.not_mem_nil,or_false] at this
    rcases this with rfl | rfl | rfl <;> omega
   row_cond go
   refine ⟨n,es,k,rfl,g,b,J.in,M,W,X,fun o O=>?_⟩
   row_cond go
   refine ⟨n,es,k,rfl,g,b,J.in,by omega,M,W,X,fun o' y=>?_⟩
   have:=O.uniq y
   subst this
   obtain ⟨d,p2⟩:=oSDp o
   cases o with
   | none =>
    dsimp only [oSD,stSl] at d p2 ⊢
    row_cond go
    refine acr d d p2 ?_
    rw [ada d]
    row_cond go
    refine acr (webP n es) (webP n es) (aoi n es) ?_
    rw [ada (webP n es)]
    row_cond go
    rw [aD0 (show ¬ ((!isNone PyData.none)=true) from fun h=>Bool.noConfusion h)]
    exact aca ⟨_,_,_,rfl⟩
   | some p =>
    have S:=asq b O
    obtain ⟨r,ps⟩:=p
    dsimp only [oSD,stSl] at d p2 S ⊢
    row_cond go
    refine acr d d p2 ?_
    rw [ada d]
    refine ⟨_,rfl,rfl,?_⟩
    row_cond go
    refine acr (webP n es) (webP n es) (aoi n es) ?_
    rw [ada (webP n es)]
    row_cond go
    rw [aC9 (show (!isNone (PyData.tuple [PyData.int r,plD ps]))=true from rfl)]
    repeat (first | (refine ahc (ab5 (i:=8) (.inl rfl) acn fun u G=>?_)) | (refine ac1 (ab5 (i:=8) (.inl rfl) acn fun u G=>?_)) | row_cond st)
    refine afx ?_
    repeat (first | (refine ahc (ab5 (i:=8) (.inl rfl) acn fun u G=>?_)) | (refine ac1 (ab5 (i:=8) (.inl rfl) acn fun u G=>?_)) | row_cond st)
    refine afx ?_
    repeat (first | (refine ahc (ab5 (i:=8) (.inl rfl) acn fun u G=>?_)) | (refine ac1 (ab5 (i:=8) (.inl rfl) acn fun u G=>?_)) | row_cond st)
    refine ad4 ?_
    repeat (first | (refine ahc (ab5 (i:=8) (.inl rfl) acn fun u G=>?_)) | (refine ac1 (ab5 (i:=8) (.inl rfl) acn fun u G=>?_)) | row_cond st)
    refine ad7 (xs:=ps) (f:=PyData.int) (fun _:Int => .bool false) rfl (by omega) (fun o O B2 a0=>?_) ?_
    ·row_cond go
     exact rfl
    ·row_cond go
     refine avn rfl (av1 ps) (by simp [PyData.depth]) ?_
     rw [aD0 az3,show ((ps.map fun _=>PyData.bool false).any fun z=>PyData.eqv z (.bool true))=false from List.any_eq_false.mpr fun z hz=>by obtain ⟨x,_,rfl⟩:=aA0.mp hz;simp [PyData.eqv]]
     repeat (first | (refine ama rfl (by rw [ay7];omega) ?_) | row_cond st)
     refine ⟨n,es,k,rfl,g,b,J.in,by omega,M,W,X,fun o' y=>?_⟩
     have:=O.uniq y
     subst this
     refine av0 ?_
     dsimp only [oSD]
     row_cond go
     refine acr d d p2 ?_
     rw [ada d]
     row_cond go
     refine acr (webP n es) (webP n es) (aoi n es) ?_
     rw [ada (webP n es)]
     row_cond go
     exact ⟨_,_,_,rfl⟩
  ·rintro e a
   refine exE3 e a fun I C m=>?_
   clear a
   exact ⟨_,_,_,_,_,_,_,rfl⟩
 ·rintro e a
  refine exE7 e a fun Y U Z R I C m=>?_
  clear a
  row_cond go
  exact kk
theorem ax4 (T:Txt K mg) {f:Addr} {fd:FuncData} (D:DefAt K mg "law" s_law ["script"] f fd):FnOk P w K mg base CX0 15 f fd ["script"] (aoh K):=(av2 T D).imp fun _ _ _ _ h=>asp h
end
theorem len0 {α:Type} {us:List α} (h:us.length=0):us=[]:=aE6 h
theorem len1 {α:Type} {us:List α} (h:us.length=1):∃ a0,us=[a0]:=by
 cases us with
 | nil=>cases h
 | cons a us=>exact ⟨a,by rw [len0 (Nat.succ.inj h)]⟩
theorem len2 {α:Type} {us:List α} (h:us.length=2):∃ a0 b,us=[a0,b]:=by
 cases us with
 | nil=>cases h
 | cons a us=>obtain ⟨b,e⟩:=len1 (Nat.succ.inj h);exact ⟨a,b,by rw [e]⟩
theorem len3 {α:Type} {us:List α} (h:us.length=3):∃ a0 c b,us=[a0,c,b]:=by
 cases us with
 | nil=>cases h
 | cons a us=>obtain ⟨c,b,e⟩:=len2 (Nat.succ.inj h);exact ⟨a,c,b,by rw [e]⟩
theorem len4 {α:Type} {us:List α} (h:us.length=4):∃ a0 d b c,us=[a0,d,b,c]:=by
 cases us with
 | nil=>cases h
 | cons a us=>obtain ⟨d,b,c,e⟩:=len3 (Nat.succ.inj h);exact ⟨a,d,b,c,by rw [e]⟩
def Bnd (x:Str) (st:Stmt) (ps:List Str):Prop:=∀ (kV doc pm:Value) (an:Option Addr) (cdv ct:Value) (us:List Value),us.length=ps.length->bindArgs (fnOf x x (ab0 st) (abu st) (aak st) .none kV doc pm an cdv ct) ⟨us,[]⟩=pure (ps.zip us)
def FnIn (K:Frag) (x:Str) (st:Stmt):Prop:=∃ f oc od kV dc pm an cd ct sl,nsIn K mainGlobals x=some (some (.ref f))/\K.lookup f=some ⟨oc,od,.func (fnOf x x (ab0 st) (abu st) (aak st) .none kV dc pm an cd ct),sl⟩/\codeIn K cd x=true/\keepIn K (.ref f)=true
theorem fn_in {K:Frag} {x:Str} {st:Stmt} {f:Addr} {od an:Option Addr} {sl:Array (Option Value)} {oc kV d pm b ct:Value} (a:nsIn K mainGlobals x=some (some (.ref f))) (l:K.lookup f=some ⟨oc,od,.func (fnOf x x (ab0 st) (abu st) (aak st) .none kV d pm an b ct),sl⟩) (c:codeIn K b x=true) (k:keepIn K (.ref f)=true):FnIn K x st:=⟨f,oc,od,kV,d,pm,an,b,ct,sl,a,l,c,k⟩
theorem bnd1 {st:Stmt} {x:Str} {ps:List Str} (c:ps.length=1) (h:∀ (kV doc pm:Value) (an:Option Addr) (cdv ct:Value) (b:Value),bindArgs (fnOf x x (ab0 st) (abu st) (aak st) .none kV doc pm an cdv ct) ⟨[b],[]⟩=pure (ps.zip [b])):Bnd x st ps:=by
 intro kV doc pm an cdv ct us a
 rw [c] at a
 obtain ⟨_,rfl⟩:=len1 a
 exact h _ _ _ _ _ _ _
theorem bnd2 {st:Stmt} {x:Str} {ps:List Str} (d:ps.length=2) (h:∀ (kV doc pm:Value) (an:Option Addr) (cdv ct:Value) (c b:Value),bindArgs (fnOf x x (ab0 st) (abu st) (aak st) .none kV doc pm an cdv ct) ⟨[c,b],[]⟩=pure (ps.zip [c,b])):Bnd x st ps:=by
 intro kV doc pm an cdv ct us a
 rw [d] at a
 obtain ⟨_,_,rfl⟩:=len2 a
 exact h _ _ _ _ _ _ _ _
theorem bnd3 {st:Stmt} {x:Str} {ps:List Str} (f:ps.length=3) (h:∀ (kV doc pm:Value) (an:Option Addr) (cdv ct:Value) (c b d:Value),bindArgs (fnOf x x (ab0 st) (abu st) (aak st) .none kV doc pm an cdv ct) ⟨[c,b,d],[]⟩=pure (ps.zip [c,b,d])):Bnd x st ps:=by
 intro kV doc pm an cdv ct us a
 rw [f] at a
 obtain ⟨_,_,_,rfl⟩:=len3 a
 exact h _ _ _ _ _ _ _ _ _
theorem bnd4 {st:Stmt} {x:Str} {ps:List Str} (g:ps.length=4) (h:∀ (kV doc pm:Value) (an:Option Addr) (cdv ct:Value) (c b a f:Value),bindArgs (fnOf x x (ab0 st) (abu st) (aak st) .none kV doc pm an cdv ct) ⟨[c,b,a,f],[]⟩=pure (ps.zip [c,b,a,f])):Bnd x st ps:=by
 intro kV doc pm an cdv ct us d
 rw [g] at d
 obtain ⟨_,_,_,_,rfl⟩:=len4 d
 exact h _ _ _ _ _ _ _ _ _ _
theorem aa3 {K:Frag} {h:Heap} {mg:Str->Option Value} {x:Str} {st:Stmt} {ps:List Str} (X:K.In h) (G:h.Ns mainGlobals mg) (q:FnIn K x st)
  (hb:Bnd x st ps):∃ f fd,DefAt K mg x st ps f fd:=by
 obtain ⟨f,oc,od,kV,b,pm,an,d,ct,sl,a,l,c,k⟩:=q
 exact ⟨_,_,have F:=awl (st:=st) l c k;⟨F,mg_of X G a,F.binds hb⟩⟩
theorem txt_mk {K:Frag} {h:Heap} {mg:Str->Option Value} (X:K.In h) (G:h.Ns mainGlobals mg)
  {c:Tok} {a:Tok} 
  (S:FnIn K "is_whole" s_is_whole)
  (P:FnIn K "is_between" s_is_between)
  (R:FnIn K "need_number" s_need_number)
  (W:FnIn K "is_place" s_is_place)
  (T:FnIn K "tied_places" s_tied_places)
  (Y:FnIn K "far_from" s_far_from)
  (U:FnIn K "need_place" s_need_place)
  (Q:FnIn K "all_far" s_all_far)
  (N:FnIn K "is_joined" s_is_joined)
  (O:FnIn K "need_joined" s_need_joined)
  (x:FnIn K "far_rows" s_far_rows)
  (D:FnIn K "most_far" s_most_far)
  (M:FnIn K "need_places" s_need_places)
  (C:FnIn K "need_far" s_need_far)
  (J:FnIn K "best_stay" s_best_stay)
  (H:FnIn K "apart_lists" s_apart_lists)
  (A:FnIn K "places_after" s_places_after)
  (y:FnIn K "_law_draws" s_law_draws)
  (F:FnIn K "_law_web" s_law_web)
  (I:FnIn K "_law_copy" s_law_copy)
  (z:FnIn K "_law_rows" s_law_rows)
  (L:FnIn K "_law_first" s_law_first)
  (E:FnIn K "_law_due" s_law_due)
  (B:FnIn K "law" s_law)
  (f:nsIn K mainGlobals "ValueError" = some none)
  (s:nsIn K mainGlobals "max" = some none)
  (j:nsIn K mainGlobals "reversed" = some none)
  (m:nsIn K mainGlobals "range" = some none)
  (i:nsIn K mainGlobals "enumerate" = some none)
  (p:nsIn K mainGlobals "list" = some none)
  (g:nsIn K mainGlobals "isinstance" = some none)
  (r:nsIn K mainGlobals "int" = some none)
  (v:nsIn K mainGlobals "len" = some none)
  (q:nsIn K mainGlobals "abs" = some none)
  (l:nsIn K mainGlobals "sorted" = some none)
  (o:nsIn K mainGlobals "bool" = some none)
  (u:nsIn K mainGlobals "all" = some none)
  (w:nsIn K mainGlobals "min" = some none)
  (n:nsIn K mainGlobals "tuple" = some none)
  (d:nsIn K mainGlobals "MOST_STAY_TIES" = some (some (.int 5 c)))
  (b:nsIn K mainGlobals "MOST_PLACES_FOR_STAY" = some (some (.int 12 a)))
  : Txt K mg where
  b_ValueError:=mg_none_of X G f
  b_max:=mg_none_of X G s
  b_reversed:=mg_none_of X G j
  b_range:=mg_none_of X G m
  b_enumerate:=mg_none_of X G i
  b_list:=mg_none_of X G p
  b_isinstance:=mg_none_of X G g
  b_int:=mg_none_of X G r
  b_len:=mg_none_of X G v
  b_abs:=mg_none_of X G q
  b_sorted:=mg_none_of X G l
  b_bool:=mg_none_of X G o
  b_all:=mg_none_of X G u
  b_min:=mg_none_of X G w
  b_tuple:=mg_none_of X G n
  v_MOST_STAY_TIES:=⟨_,mg_of X G d⟩
  v_MOST_PLACES_FOR_STAY:=⟨_,mg_of X G b⟩
  d_is_whole:=aa3 X G S (bnd1 rfl fun _ _ _ _ _ _ _=>rfl)
  d_is_between:=aa3 X G P (bnd3 rfl fun _ _ _ _ _ _ _ _ _=>rfl)
  d_need_number:=aa3 X G R (bnd3 rfl fun _ _ _ _ _ _ _ _ _=>rfl)
  d_is_place:=aa3 X G W (bnd2 rfl fun _ _ _ _ _ _ _ _=>rfl)
  d_tied_places:=aa3 X G T (bnd1 rfl fun _ _ _ _ _ _ _=>rfl)
  d_far_from:=aa3 X G Y (bnd2 rfl fun _ _ _ _ _ _ _ _=>rfl)
  d_need_place:=aa3 X G U (bnd2 rfl fun _ _ _ _ _ _ _ _=>rfl)
  d_all_far:=aa3 X G Q (bnd2 rfl fun _ _ _ _ _ _ _ _=>rfl)
  d_is_joined:=aa3 X G N (bnd1 rfl fun _ _ _ _ _ _ _=>rfl)
  d_need_joined:=aa3 X G O (bnd1 rfl fun _ _ _ _ _ _ _=>rfl)
  d_far_rows:=aa3 X G x (bnd1 rfl fun _ _ _ _ _ _ _=>rfl)
  d_most_far:=aa3 X G D (bnd1 rfl fun _ _ _ _ _ _ _=>rfl)
  d_need_places:=aa3 X G M (bnd1 rfl fun _ _ _ _ _ _ _=>rfl)
  d_need_far:=aa3 X G C (bnd1 rfl fun _ _ _ _ _ _ _=>rfl)
  d_best_stay:=aa3 X G J (bnd2 rfl fun _ _ _ _ _ _ _ _=>rfl)
  d_apart_lists:=aa3 X G H (bnd3 rfl fun _ _ _ _ _ _ _ _ _=>rfl)
  d_places_after:=aa3 X G A (bnd3 rfl fun _ _ _ _ _ _ _ _ _=>rfl)
  d_law_draws:=aa3 X G y (bnd2 rfl fun _ _ _ _ _ _ _ _=>rfl)
  d_law_web:=aa3 X G F (bnd3 rfl fun _ _ _ _ _ _ _ _ _=>rfl)
  d_law_copy:=aa3 X G I (bnd1 rfl fun _ _ _ _ _ _ _=>rfl)
  d_law_rows:=aa3 X G z (bnd1 rfl fun _ _ _ _ _ _ _=>rfl)
  d_law_first:=aa3 X G L (bnd4 rfl fun _ _ _ _ _ _ _ _ _ _=>rfl)
  d_law_due:=aa3 X G E (bnd2 rfl fun _ _ _ _ _ _ _ _=>rfl)
  d_law:=aa3 X G B (bnd1 rfl fun _ _ _ _ _ _ _=>rfl)
theorem walk {l:PySem.W.OpenLaw} {q:Program} {b:List Str} {y:(Str->Option Value)->Heap->Prop} {j:World->Heap->Prop} {d:DefRec} {K:Params->Frag} (hn:l.most=some 63) (c:d.params.defaults=[]) (g:d.name = "law")
  (p:∀ (w:World) (h:Heap),j w h->(K w.params).In h)
  (F:∀ (w:World) (mg:Str->Option Value) (h:Heap),(K w.params).In h->h.Ns mainGlobals mg->Txt (K w.params) mg) :
  PySem.W.WalkO q b y j l.row.toRowW d [] (fun f vs=>PySem.call f vs):=by
 refine L2.walk_of (n:=63) (k:=15) (x:="script") (CX:=fun _=>CX0) (sp:=fun w=>aoh (K w.params)) hn (by decide) c ⟨rfl,by decide,by decide⟩ p (fun w mg fa h X G e=>?_) (fun _ _ a ns r _ m=>⟨a,ns,rfl,m,r,fun _=>rfl⟩) fun _ _ _ _ _ z=>z
 have T:=F w mg h X G
 rw [g] at e
 obtain ⟨f1,i,D⟩:=T.d_law
 have v:=e.symm.trans D.mgx
 cases v
 refine ⟨i,fun s u=>?_,fun base _ _=>?_⟩
 ·obtain ⟨oc,od,kV,doc,pm,an,cdv,ct,osl,rfl,A,o⟩:=D.fn.ex
  exact .of_eq rfl
 ·exact ax4 T D
end G
end
theorem PySem.W.Fast.tw9375413695181861521 : True := trivial
theorem PySem.W.Fast.tw2704211451748125133 : True := trivial
theorem PySem.W.Fast.tw1602238558708893601 : True := trivial
theorem PySem.W.Fast.tw6002111359496118595 : True := trivial
theorem PySem.W.Fast.tw6589777704529176267 : True := trivial
theorem PySem.W.Fast.tw12584761970220616377 : True := trivial
theorem PySem.W.Fast.tw8410573587672768154 : True := trivial
theorem PySem.W.Fast.tw10486818587752056335 : True := trivial
theorem PySem.W.Fast.tw1026280035335395945 : True := trivial
theorem PySem.W.Fast.tw8201156082383587059 : True := trivial
theorem PySem.W.Fast.tw11748887864448041985 : True := trivial
theorem PySem.W.Fast.tw9397351945271873363 : True := trivial
theorem PySem.W.Fast.tw6701476925809697839 : True := trivial
theorem PySem.W.Fast.tw4344693394305714658 : True := trivial
theorem PySem.W.Fast.tw7843315986625840689 : True := trivial
theorem PySem.W.Fast.tw8485253799655058928 : True := trivial
theorem PySem.W.Fast.tw17351059452664317707 : True := trivial
theorem PySem.W.Fast.tw12044862621340873926 : True := trivial
theorem PySem.W.Fast.tw1019913563517134366 : True := trivial
theorem PySem.W.Fast.tw11289107365494160000 : True := trivial
theorem PySem.W.Fast.tw7259683862729359139 : True := trivial
theorem PySem.W.Fast.tw15333277860228911607 : True := trivial
theorem PySem.W.Fast.tw16018819819021090224 : True := trivial
theorem PySem.W.Fast.tw5863492472720286893 : True := trivial
theorem PySem.W.Fast.tw373697902079200930 : True := trivial
theorem PySem.W.Fast.tw6384024789370290833 : True := trivial
theorem PySem.W.Fast.tw13968521933666874184 : True := trivial
theorem PySem.W.Fast.tw9796794790458507713 : True := trivial
theorem PySem.W.Fast.tw4279008893537062303 : True := trivial
theorem PySem.W.Fast.tw18073753776522862951 : True := trivial
theorem PySem.W.Fast.tw5055076606183284421 : True := trivial
theorem PySem.W.Fast.tw13204346670429189710 : True := trivial
theorem PySem.W.Fast.tw5519445998439623354 : True := trivial
theorem PySem.W.Fast.tw17984129205243144923 : True := trivial
theorem PySem.W.Fast.tw1468586213330057099 : True := trivial
theorem PySem.W.Fast.tw7199336326583370516 : True := trivial
theorem PySem.W.Fast.tw14275060979386621402 : True := trivial
theorem PySem.W.Fast.tw969942688831139153 : True := trivial
theorem PySem.W.Fast.tw13008256569445346626 : True := trivial
theorem PySem.W.Fast.tw3462891975711432328 : True := trivial
theorem PySem.W.Fast.tw15259241236401616080 : True := trivial
theorem PySem.W.Fast.tw7080504355120047838 : True := trivial
theorem PySem.W.Fast.tw17396898553884708622 : True := trivial
theorem PySem.W.Fast.tw1664380931728342965 : True := trivial
theorem PySem.W.Fast.tw16515998012895390499 : True := trivial
theorem PySem.W.Fast.tw537624117681644059 : True := trivial
theorem PySem.W.Fast.tw3851041992671901047 : True := trivial
theorem PySem.W.Fast.tw5061209324629557373 : True := trivial
theorem PySem.W.Fast.tw10581013808331227139 : True := trivial
theorem PySem.W.Fast.tw13911197278339669555 : True := trivial
theorem PySem.W.Fast.tw16632199622475191018 : True := trivial
theorem PySem.W.Fast.tw6299847057744971938 : True := trivial
theorem PySem.W.Fast.tw6584518726394156624 : True := trivial
theorem PySem.W.Fast.tw3633132580801915508 : True := trivial
theorem PySem.W.Fast.tw7542562593598770367 : True := trivial
theorem PySem.W.Fast.tw13609662713738039593 : True := trivial
theorem PySem.W.Fast.tw15841466354525351653 : True := trivial
theorem PySem.W.Fast.tw4634196351493556458 : True := trivial
theorem PySem.W.Fast.tw6129152414072763490 : True := trivial
theorem PySem.W.Fast.tw5557021215402851861 : True := trivial
theorem PySem.W.Fast.tw2157612941788835331 : True := trivial
theorem PySem.W.Fast.tw10891507927986873182 : True := trivial
theorem PySem.W.Fast.tw13732211253824155640 : True := trivial
theorem PySem.W.Fast.tw6991460913018807941 : True := trivial
theorem PySem.W.Fast.tw14137043152315951439 : True := trivial
theorem PySem.W.Fast.tw41656252398099967 : True := trivial
theorem PySem.W.Fast.tw1914113872874859556 : True := trivial
theorem PySem.W.Fast.tw4250291543855866078 : True := trivial
theorem PySem.W.Fast.tw8622362750953188803 : True := trivial
theorem PySem.W.Fast.tw11761538034090273483 : True := trivial
theorem PySem.W.Fast.tw5783157328750393871 : True := trivial
theorem PySem.W.Fast.tw3795311777820237583 : True := trivial
theorem PySem.W.Fast.tw9222763606150283941 : True := trivial
theorem PySem.W.Fast.tw16328823880148933294 : True := trivial
theorem PySem.W.Fast.tw6437626181585617644 : True := trivial
theorem PySem.W.Fast.tw2125143191409458215 : True := trivial
theorem PySem.W.Fast.tw10347989200858363301 : True := trivial
theorem PySem.W.Fast.tw12636280753295349231 : True := trivial
theorem PySem.W.Fast.tw17701515320513263721 : True := trivial
theorem PySem.W.Fast.tw18439777478225149231 : True := trivial
theorem PySem.W.Fast.tw1559210997120442346 : True := trivial
theorem PySem.W.Fast.tw10866291694431793210 : True := trivial
theorem PySem.W.Fast.tw2246393473141535362 : True := trivial
theorem PySem.W.Fast.tw14434925941514934870 : True := trivial
theorem PySem.W.Fast.tw1112604129437058012 : True := trivial
theorem PySem.W.Fast.tw16334338055476187666 : True := trivial
theorem PySem.W.Fast.tw16658359828267888373 : True := trivial
theorem PySem.W.Fast.tw4723437122950525948 : True := trivial
theorem PySem.W.Fast.tw4163510490069437781 : True := trivial
theorem PySem.W.Fast.tw6433551197006458517 : True := trivial
theorem PySem.W.Fast.tw3996162704083479634 : True := trivial
theorem PySem.W.Fast.tw6314069636941829193 : True := trivial
theorem PySem.W.Fast.tw8685371342413141489 : True := trivial
theorem PySem.W.Fast.tw1462543762668696812 : True := trivial
theorem PySem.W.Fast.tw8972545976279073446 : True := trivial
theorem PySem.W.Fast.tw5446650296960368963 : True := trivial
theorem PySem.W.Fast.tw7476616752214575915 : True := trivial
theorem PySem.W.Fast.tw5452460726012752656 : True := trivial
theorem PySem.W.Fast.tw8438454971882020771 : True := trivial
theorem PySem.W.Fast.tw3274774182678100753 : True := trivial
theorem PySem.W.Fast.tw15046836863423580155 : True := trivial
theorem PySem.W.Fast.tw2886805882701594578 : True := trivial
theorem PySem.W.Fast.tw6890523097361680898 : True := trivial
theorem PySem.W.Fast.tw7886082907284681384 : True := trivial
theorem PySem.W.Fast.tw8574070838381045303 : True := trivial
theorem PySem.W.Fast.tw18283411186916689904 : True := trivial
theorem PySem.W.Fast.tw13357771318921274358 : True := trivial
theorem PySem.W.Fast.tw371481825179857930 : True := trivial
theorem PySem.W.Fast.tw12247264136178865372 : True := trivial
theorem PySem.W.Fast.tw13570114304586616579 : True := trivial
theorem PySem.W.Fast.tw1062064566279455440 : True := trivial
theorem PySem.W.Fast.tw2571867935589392190 : True := trivial
theorem PySem.W.Fast.tw10573583519040860053 : True := trivial
theorem PySem.W.Fast.tw6760885510030672369 : True := trivial
theorem PySem.W.Fast.tw5131091116354662541 : True := trivial
theorem PySem.W.Fast.tw12159801012239171559 : True := trivial
theorem PySem.W.Fast.tw6452380565590208313 : True := trivial
theorem PySem.W.Fast.tw3035630139933852012 : True := trivial
theorem PySem.W.Fast.tw14642898621542803876 : True := trivial
theorem PySem.W.Fast.tw8518950234659180957 : True := trivial
theorem PySem.W.Fast.tw12989874937651043510 : True := trivial
theorem PySem.W.Fast.tw7358160571884787180 : True := trivial
theorem PySem.W.Fast.tw6485434366204597915 : True := trivial
open PySem PySem.W PyProof.Rows
set_option maxRecDepth 100000 in
set_option maxHeartbeats 0 in
theorem PySem.Challenge.cw_fewties_k20_best_papers_holds : PySem.Challenge.rw_fewties_k20_best_papers.Holds := by
 w_on;o_law;k_head;(case hw=>w_witness2)
 k_fill
 refine G.walk (l:=PySem.Challenge.rw_fewties_k20_best_papers) rfl rfl rfl (fun w h Y=>PySem.W.kIn_of Y) ?F
 case F =>
  intro w mg h KX GG
  refine' G.txt_mk KX GG ..
  all_goals try (refine' G.fn_in ?a_ ?l_ ?c_ ?k_;(case a_=>k_is);(case l_=>k_is);(case c_=>k_is);(case k_=>k_is))
  all_goals try k_is
#print axioms PySem.Challenge.cw_fewties_k20_best_papers_holds
