import PyProof.Rows.All
import Wide.All
import OpenK.AllK
import Wide.FinOn
import PyProof.EqAt
import PyProof.EqKinds
import PyProof.TupleCall
import PyProof.NeData
import PyProof.P3In
import PyProof.WalkInts
import PyProof.Rows.SortWalk
import PyProof.SumWalkG
import PyProof.Rows.CallKwBuiltin
import KE.KDictList
import PyProof.WalksEnum
import PyProof.ZipIter
import PyProof.ConsumeWalk
import PyProof.ListRange
import PyProof.TupleOfSeq
import PyProof.Rows.RuleN_abs
import PyProof.ExcBaseAll.ValueError
import PyProof.ExcAttrAll.ValueError
import KE.KRevIter
import PySem.Challenge.RW_fewties_k21_no_webs_to_stay
open PySem.W (Frag kitOne mg_of nsIn mg_none_of excIn fnOf mroIn keepIn codeIn)
set_option Elab.async false
set_option linter.all false
set_option compiler.extract_closed false
set_option maxRecDepth 100000
set_option maxHeartbeats 4000000
noncomputable section
abbrev ax5:=@List.getElem?_eq_getElem
abbrev ax6:=@List.getElem?_eq_some_iff
abbrev ax7:=@List.mem_of_getElem?
abbrev ax8:=@List.length_map
abbrev ax9:=@Array.getElem?_eq_getElem
abbrev ay0:=@List.getElem?_map
abbrev ay1:=@Nat.le_refl
abbrev ay2:=@List.mem_append
abbrev ay3:=@List.mem_cons
abbrev ay4:=@Bool.false_ne_true
abbrev ay5:=@List.length_append
abbrev ay6:=@List.size_toArray
abbrev ay7:=@List.mem_append_right
abbrev ay8:=@List.append_assoc
abbrev ay9:=@List.mem_cons_of_mem
abbrev az0:=@Nat.ne_of_lt
abbrev az1:=@List.mem_map
abbrev az2:=@List.mem_cons_self
abbrev az3:=@List.mem_range
abbrev az4:=@List.mem_of_mem_take
abbrev az5:=@List.take_append_drop
abbrev az6:=@List.mem_singleton
abbrev az7:=@List.getElem?_append_left
abbrev az8:=@List.mem_of_mem_drop
abbrev az9:=@Nat.lt_of_lt_of_le
abbrev aA0:=@Option.some.inj
abbrev aA1:=@List.mem_append_left
abbrev aA2:=@List.getElem?_append_right
abbrev aA3:=@List.pairwise_append
abbrev aA4:=@Nat.le_trans
abbrev aA5:=@List.map_cons
abbrev aA6:=@List.getElem?_set
abbrev aA7:=@Array.getElem?_toList
abbrev aA8:=@decide_eq_false
abbrev aA9:=@decide_eq_true
abbrev aB0:=@List.map_map
abbrev aB1:=@Nat.lt_of_le_of_lt
abbrev aB2:=@List.map_append
abbrev aB3:=@List.length_cons
abbrev aB4:=@Int.emod_nonneg
abbrev aB5:=@Int.emod_lt_of_pos
abbrev aB6:=@List.map_congr_left
abbrev aB7:=@List.append_nil
abbrev aB8:=@List.take_of_length_le
abbrev aB9:=@List.length_filter_le
abbrev aC0:=@List.all_eq_true
abbrev aC1:=@if_pos
abbrev aC2:=@if_neg
abbrev aC3:=@List.getElem?_eq_none_iff
abbrev aC4:=@List.length_pos_iff
abbrev aC5:=@Nat.zero_le
abbrev aC6:=@List.pairwise_map
abbrev aC7:=@List.ext_getElem?
abbrev aC8:=@beq_iff_eq
abbrev aC9:=@Nat.lt_irrefl
abbrev aD0:=@Nat.le_of_lt
abbrev aD1:=@Array.toList_append
abbrev aD2:=@List.pairwise_iff_getElem
abbrev aD3:=@List.take_length
abbrev aD4:=@List.lookup_cons
abbrev aD5:=@List.length_take
abbrev aD6:=@Bool.and_eq_true
abbrev aD7:=@List.eq_nil_of_length_eq_zero
abbrev aD8:=@List.replicate_succ
abbrev aD9:=@List.take_add_one
abbrev aE0:=@List.getElem?_take_of_lt
abbrev aE1:=@List.mem_iff_getElem
abbrev aE2:=@List.getElem?_replicate
abbrev aE3:=@Bool.eq_iff_iff
abbrev aE4:=@Array.size_push
abbrev aE5:=@List.Pairwise.imp_of_mem
abbrev aE6:=@Option.map_some
abbrev aE7:=@List.getElem?_drop
abbrev aE8:=@List.not_mem_nil
abbrev aE9:=@List.nodup_cons
abbrev aF0:=@Nat.sub_self
abbrev aF1:=@List.length_nil
open PySem PySem.Spec in
abbrev aF2:=@wpAny_bind
open PySem PySem.Spec in
abbrev aF3:=@wpAny_pure
open PySem PySem.Spec in
abbrev aF4:=@Heap.get?_push_of_some
open PySem PySem.Spec in
abbrev aF5:=@Heap.lt_size
open PySem PySem.Spec in
abbrev aF6:=@Heap.get?_push_size
open PySem PySem.Spec in
abbrev aF7:=@codeAny_mono
open PySem PySem.Spec in
abbrev aF8:=@wpAny_holding
open PySem PySem.Spec in
abbrev aF9:=@PassesOwn.never
open PySem PySem.Spec in
abbrev aG0:=@wpAny_mono
open PySem PySem.Spec in
abbrev aG1:=@wpAny_newObj_type
open PySem PySem.Spec in
abbrev aG2:=@wpAny_truthy_bool
namespace L2
open PySem PySem.Spec PyProof.Rows
abbrev Key:=Sum Int Str
def afk:Key->Value->Bool
 | .inl k,v=>Value.isInt k v
 | .inr x,v=>Value.isStrOf x v
def keyH (w:World):Key->Int
 | .inl k=>hashInt k
 | .inr x=>hashStr w x
theorem abg:∀ {k:Key} {v:Value},afk k v=true->(∃ i t,k=Sum.inl i/\v=Value.int i t)\/(∃ x t,k=Sum.inr x/\v=Value.str x t)
 | .inl i,v,h=>by
  obtain ⟨t,e⟩:=Value.isInt_shape (k:=i) (v:=v) h
  exact .inl ⟨i,t,rfl,e⟩
 | .inr x,v,h=>by
  obtain ⟨t,e⟩:=Value.isStrOf_shape (x:=x) (v:=v) h
  exact .inr ⟨x,t,rfl,e⟩
theorem an1 (i:Int) (t:Tok):afk (.inl i) (.int i t)=true:=by simp [afk,Value.isInt]
theorem an2 (x:Str) (t:Tok):afk (.inr x) (.str x t)=true:=by simp [afk,Value.isStrOf]
theorem au1 (a b:Int):decide ((Sum.inl a:Key)=Sum.inl b)=(a == b):=by
 by_cases e:a=b
 ·subst e;simp
 ·have h:¬ (Sum.inl a:Key)=Sum.inl b:=fun q=>e (Sum.inl.inj q)
  rw [aA8 h]
  exact (beq_eq_false_iff_ne.mpr e).symm
theorem au2 (a b:Str):decide ((Sum.inr a:Key)=Sum.inr b)=decide (a=b):=by
 by_cases e:a=b
 ·subst e;simp
 ·have h:¬ (Sum.inr a:Key)=Sum.inr b:=fun q=>e (Sum.inr.inj q)
  rw [aA8 h,aA8 e]
theorem au3 (a:Int) (b:Str):decide ((Sum.inl a:Key)=Sum.inr b)=false:=aA8 (fun q=>nomatch q)
theorem au4 (a:Str) (b:Int):decide ((Sum.inr a:Key)=Sum.inl b)=false:=aA8 (fun q=>nomatch q)
def abl (prog:Program) (w:World):PySem.KeyKind prog w Key where
 is:=afk
 hash:=keyH w
 inj:=fun v a b ha hb=>by
  rcases abg ha with ⟨i,t,rfl,rfl⟩ | ⟨x,t,rfl,rfl⟩
  ·rcases abg hb with ⟨j,u,rfl,e⟩ | ⟨y,u,rfl,e⟩
   ·injection e with e1 _;rw [e1]
   ·exact nomatch e
  ·rcases abg hb with ⟨j,u,rfl,e⟩ | ⟨y,u,rfl,e⟩
   ·exact nomatch e
   ·injection e with e1 _;rw [e1]
 byValue:=fun k v h=>by
  rcases abg h with ⟨i,t,rfl,rfl⟩ | ⟨x,t,rfl,rfl⟩ <;> rfl
 pyHash:=fun hv h=>by
  rcases abg hv with ⟨i,t,rfl,rfl⟩ | ⟨x,t,rfl,rfl⟩
  ·exact wpAny_pyHash_int h
  ·exact wpAny_pyHash_str h
 eqBool:=fun hu hv h=>by
  rcases abg hu with ⟨i,t,rfl,rfl⟩ | ⟨x,t,rfl,rfl⟩
  ·rcases abg hv with ⟨j,u,rfl,rfl⟩ | ⟨y,u,rfl,rfl⟩
   ·rw [au1] at h;exact wpAny_eqBool_int h
   ·rw [au3] at h;exact SeqAt.EqAt.int_str i t y u _ _ _ _ h
  ·rcases abg hv with ⟨j,u,rfl,rfl⟩ | ⟨y,u,rfl,rfl⟩
   ·rw [au4] at h;exact SeqAt.EqAt.str_int x t j u _ _ _ _ h
   ·rw [au2] at h;exact wpAny_eqBool_str h
 «strs»:=fun k x t v h=>by
  rcases abg h with ⟨i,u,rfl,e⟩ | ⟨y,u,rfl,e⟩
  ·exact nomatch e
  ·injection e with e1 _
   subst e1
   cases v <;> rfl
theorem alp (prog:Program) (w:World) (i:Int) (t:Tok):(abl prog w).is (.inl i) (.int i t)=true:=an1 i t
theorem alq (prog:Program) (w:World) (x:Str) (t:Tok):(abl prog w).is (.inr x) (.str x t)=true:=an2 x t
inductive V where
 | non | bl (b:Bool) | int (i:Int) | str (x:Str) | byt (b:Array UInt8) | flt (b:UInt64) | ref (a:Addr) | ty (n:String)
 deriving DecidableEq
def RelV:V->Value->Prop
 | .non,u=>u=Value.none
 | .bl b,u=>u=Value.bool b
 | .int i,u=>∃ t,u=Value.int i t
 | .str x,u=>∃ t,u=Value.str x t
 | .byt b,u=>∃ t,u=Value.bytes b t
 | .flt b,u=>∃ t,u=Value.float b t
 | .ref a,u=>u=Value.ref a
 | .ty n,u=>u=Value.type n
abbrev Vals:List V->List Value->Prop:=Paired RelV
theorem Vals.length {xs:List V} {us:List Value} (r:Vals xs us):xs.length=us.length:=Paired.length r
theorem Vals.get:∀ {xs:List V} {us:List Value} {i:Nat} {x:V},Vals xs us->xs[i]?=some x->∃ u,us[i]?=some u/\RelV x u
 | _,_,_,_,.nil,e=>by simp at e
 | _,_,0,_,.cons r _,e=>by simp at e;subst e;exact ⟨_,rfl,r⟩
 | _,_,i+1,x,.cons _ t,e=>by
  obtain ⟨u,b,a⟩:=Vals.get (i:=i) (x:=x) t (by simpa using e)
  exact ⟨u,by simpa using b,a⟩
theorem Vals.set {x:V} {u:Value} (r:RelV x u):∀ {xs:List V} {us:List Value} (i:Nat),Vals xs us->Vals (xs.set i x) (us.set i u)
 | _,_,_,.nil => .nil
 | _,_,0,.cons _ t => .cons r t
 | _,_,i+1,.cons q t => .cons q (Vals.set r i t)
theorem Vals.append:∀ {xs ys:List V} {us a:List Value},Vals xs us->Vals ys a->Vals (xs ++ ys) (us ++ a)
 | _,_,_,_,.nil,s=>s
 | _,_,_,_,.cons r t,s => .cons r (Vals.append t s)
theorem Vals.take:∀ {xs:List V} {us:List Value} (n:Nat),Vals xs us->Vals (xs.take n) (us.take n)
 | _,_,0,_ => .nil
 | _,_,_+1,.nil => .nil
 | _,_,n+1,.cons r t => .cons r (Vals.take n t)
theorem Vals.drop:∀ {xs:List V} {us:List Value} (n:Nat),Vals xs us->Vals (xs.drop n) (us.drop n)
 | _,_,0,r=>r
 | _,_,_+1,.nil => .nil
 | _,_,n+1,.cons _ t=>Vals.drop n t
def RelO:Option V->Option Value->Prop
 | some v,some u=>RelV v u
 | none,none=>True
 | _,_=>False
def KV {κ:Type}:List (κ × V)->List (κ × Value)->Prop:=Paired fun (p : κ × V) (q : κ × Value)=>p.1=q.1/\RelV p.2 q.2
def kV:Key->V
 | .inl i => .int i
 | .inr x => .str x
inductive HO where
 /-- a list -/
 | lst (xs:List V)
 /-- a tuple (never changes) -/
 | tup (xs:List V)
 /-- a dict whose keys are ints and texts; one whose keys are tuples of ints and texts (the empty one is both) -/
 | dK (kvs:List (Key × V)) | dT (kvs:List (List Key × V))
 /-- a set of ints: its members, its size -/
 | set (S:Int->Bool) (n:Nat)
 /-- an instance of the class at C, its dict at dx, its attributes -/
 | ins (C dx:Addr) (fs:List (Str × V))
 /-- the dict of the instance at x -/
 | own (x:Addr)
 /-- the dict of an exception -/
 | xd (fs:List (Str × V))
 /-- a bound method, f of x -/
 | met (f x:Addr)
 /-- a range object lo, lo + 1, .. below hi -/
 | rng (lo hi:Int)
 /-- a thing that is known to the object (the script; a dict while a loop walks it): read, never written while it is so -/
 | frz (o:Obj) (u:HO)
 /-- a code object's table -/
 | tbl (ps:Array Value)
 /-- any other thing, by what is true of its one object (a def of one's own: SetO a S n:=HO.ext fun h => ..) -/
 | ext (φ:Heap->Prop)
abbrev Hp:=Addr->Option HO
def upd (H:Hp) (a:Addr) (o:HO):Hp:=fun b=>if b=a then some o else H b
theorem aaj {H:Hp} {a:Addr} {o:HO}:upd H a o a=some o:=by unfold upd;rw [aC1 rfl]
theorem aaf {H:Hp} {a b:Addr} {o:HO} (h:b ≠ a):upd H a o b=H b:=by unfold upd;rw [aC2 h]
theorem aw1 {H:Hp} {a b:Addr} {o u:HO} (h:H a=some o) (h':H b=some u) (d:o ≠ u):a ≠ b:=by
 intro e;subst e;rw [h] at h';exact d (aA0 h')
theorem aat {H:Hp} {a b:Addr} {o:HO} (h:H a=some o) (h':H b=none):a ≠ b:=by
 intro e;subst e;rw [h] at h';cases h'
section
variable (P:Program) (w:World)
def ObjOk (H:Hp) (h:Heap) (a:Addr):HO->Prop
 | .lst xs=>xs.length<=sizeLine/\∃ (its:List Value) (n:Nat),Vals xs its/\h.get? a=some { cls:=.type "list",data:=.seq its.toArray n }
 | .tup xs=>xs.length<=sizeLine/\∃ its:List Value,Vals xs its/\IsTup h a its.toArray
 | .dK kvs=>kvs.length<=sizeLine/\(a == sysModules)=false/\∃ vs,KV kvs vs/\h.DictOf (abl P w) a vs
 | .dT kvs=>kvs.length<=sizeLine/\(a == sysModules)=false/\∃ xs:List (List Key × Addr × Value),
   Paired (fun (p:List Key × V) (q:List Key × Addr × Value)=>p.1=q.1/\H q.2.1=some (.tup (p.1.map kV))/\RelV p.2 q.2.2) kvs xs /\
   ∃ o es ep,h.get? a=some o/\o.ExactDict/\o.data=.dict es ep/\es.toList=xs.map (entryOfKey (tupleKind (abl P w)))/\(xs.map (·.1)).Nodup
 | .set S n=>h.SetOf (intKind P w) a S n
 | .ins C dx fs=>H dx=some (.own a)/\fs.length<=1000/\dx ≠ a/\h.get? a=some (PySem.W.instObj C dx) /\
   ∃ mA,h.Ns1 dx mA/\(∀ f,RelO (fs.lookup f) (mA f))/\PySem.Within mA (fs.map (·.1))
 | .own _=>∃ o,h.get? a=some o
 | .xd fs=>∃ mA,h.Ns1 a mA/\∀ f,RelO (fs.lookup f) (mA f)
 | .rng lo hi=>∃ t u v,h.get? a=some { cls:=.type "range",data:=.fields #[.int lo t,.int hi u,.int 1 v] }
 | .frz o u=>h.get? a=some o/\ObjOk H h a u
 | .tbl ps=>h.get? a=some { cls:=.none,data:=.fields ps }
 | .met f x=>h.get? a=some (PySem.W.methodObj (.ref f) (.ref x))
 | .ext φ => φ h/\(∃ o,h.get? a=some o)/\∀ h1 h2:Heap,φ h1->(∀ o,h1.get? a=some o->h2.get? a=some o)->φ h2
def HOk (H:Hp) (h:Heap):Prop:=∀ a o,H a=some o->ObjOk P w H h a o
end
section
variable {P:Program} {w:World} {H H':Hp} {h h':Heap} {a:Addr} {o:HO}
theorem ObjOk.lt (x:ObjOk P w H h a o):a < h.objs.size:=by
 cases o with
 | lst xs=>obtain ⟨_,_,_,_,e⟩:=x;exact aF5 e
 | tup xs=>obtain ⟨_,_,_,p⟩:=x;exact p.lt
 | dK kvs=>obtain ⟨_,_,_,_,o,_,_,e,_⟩:=x;exact aF5 e
 | dT kvs=>obtain ⟨_,_,_,_,o,_,_,e,_⟩:=x;exact aF5 e
 | set S n=>obtain ⟨o,_,_,_,e,_⟩:=x;exact aF5 e
 | ins C dx fs=>obtain ⟨_,_,_,e,_⟩:=x;exact aF5 e
 | own y=>obtain ⟨_,e⟩:=x;exact aF5 e
 | xd fs=>obtain ⟨_,⟨_,_,_,e,_⟩,_⟩:=x;exact aF5 e
 | rng lo hi=>obtain ⟨_,_,_,e⟩:=x;exact aF5 e
 | frz ob u=>obtain ⟨e,_⟩:=x;exact aF5 e
 | tbl ps=>exact aF5 (show h.get? a=some _ from x)
 | met f y=>exact aF5 (show h.get? a=some _ from x)
 | ext φ=>obtain ⟨_,⟨_,e⟩,_⟩:=x;exact aF5 e
theorem Paired.mapP {α β:Type} {F G : α->β->Prop}:∀ {c:List α} {d:List β},Paired F c d->(∀ a b,F a b->G a b)->Paired G c d
 | _,_,.nil,_ => .nil
 | _,_,.cons r t,f => .cons (f _ _ r) (Paired.mapP t f)
theorem ObjOk.stay (x:ObjOk P w H h a o) (k:∀ b u,(b=a\/H b=some (.own a))->h.get? b=some u->h'.get? b=some u)
  (j:∀ b,H b=some (.own a)->H' b=some (.own a)) (m:∀ b xs,H b=some (.tup xs)->H' b=some (.tup xs)):ObjOk P w H' h' a o:=by
 induction o with
 | lst xs=>obtain ⟨z,its,n,r,e⟩:=x;exact ⟨z,its,n,r,k _ _ (.inl rfl) e⟩
 | tup xs=>obtain ⟨z,its,r,g,e,c⟩:=x;exact ⟨z,its,r,g,k _ _ (.inl rfl) e,c⟩
 | dK kvs=>obtain ⟨z,y,vs,r,g,es,i,e,c⟩:=x;exact ⟨z,y,vs,r,g,es,i,k _ _ (.inl rfl) e,c⟩
 | dT kvs =>
  obtain ⟨z,y,xs,r,g,es,i,e,c⟩:=x
  exact ⟨z,y,xs,Paired.mapP r fun p q z=>⟨z.1,m _ _ z.2.1,z.2.2⟩,g,es,i,k _ _ (.inl rfl) e,c⟩
 | set S n=>obtain ⟨g,es,i,t,e,c⟩:=x;exact ⟨g,es,i,t,k _ _ (.inl rfl) e,c⟩
 | ins C dx fs =>
  obtain ⟨d,z,ne,e,mA,⟨od,es,i,l,c⟩,r⟩:=x
  exact ⟨j _ d,z,ne,k _ _ (.inl rfl) e,mA,⟨od,es,i,k _ _ (.inr d) l,c⟩,r⟩
 | own y=>obtain ⟨g,e⟩:=x;exact ⟨g,k _ _ (.inl rfl) e⟩
 | xd fs=>obtain ⟨mA,⟨od,es,i,e,c⟩,r⟩:=x;exact ⟨mA,⟨od,es,i,k _ _ (.inl rfl) e,c⟩,r⟩
 | rng lo hi=>obtain ⟨t,u,v,e⟩:=x;exact ⟨t,u,v,k _ _ (.inl rfl) e⟩
 | frz g u ih=>obtain ⟨e,q⟩:=x;exact ⟨k _ _ (.inl rfl) e,ih q⟩
 | tbl ps =>
  have e:h.get? a=some { cls:=.none,data:=.fields ps }:=x
  show h'.get? a=some { cls:=.none,data:=.fields ps }
  exact k a _ (.inl rfl) e
 | met f y =>
  have e:h.get? a=some (PySem.W.methodObj (.ref f) (.ref y)):=x
  show h'.get? a=some (PySem.W.methodObj (.ref f) (.ref y))
  exact k a _ (.inl rfl) e
 | ext φ=>obtain ⟨p,⟨o,e⟩,st⟩:=x;exact ⟨st _ _ p fun o q=>k _ _ (.inl rfl) q,⟨o,k _ _ (.inl rfl) e⟩,st⟩
theorem HOk.lt (x:HOk P w H h) (e:H a=some o):a < h.objs.size:=(x a o e).lt
theorem HOk.fresh (x:HOk P w H h) (e:h.objs.size<=a):H a=none:=by
 cases q:H a with
 | none=>rfl
 | some u=>exact absurd (az9 (x.lt q) e) (aC9 _)
theorem HOk.kept (x:HOk P w H h) (k:∀ b u,h.get? b=some u->h'.get? b=some u):HOk P w H h':=fun a o e =>
 (x a o e).stay (fun b u _ q=>k b u q) (fun _ q=>q) fun _ _ q=>q
theorem HOk.laid (x:HOk P w H h) (k:∀ b u,h.get? b=some u->h'.get? b=some u) (d:h.objs.size<=a) (new:ObjOk P w (upd H a o) h' a o):HOk P w (upd H a o) h':=fun b u e=>by
 have hn:=x.fresh d
 by_cases hb:b=a
 ·subst hb;rw [aaj] at e;cases e;exact new
 ·rw [aaf hb] at e
  exact (x b u e).stay (fun c v _ q=>k c v q) (fun c q=>by rw [aaf (aat q hn)];exact q) fun c xs q=>by rw [aaf (aat q hn)];exact q
end
def Rd (H:Hp) (a:Addr) (u:HO):Prop:=H a=some u\/∃ o,H a=some (.frz o u)
theorem Rd.ok {P:Program} {w:World} {H:Hp} {h:Heap} {a:Addr} {u:HO} (r:Rd H a u) (x:HOk P w H h):ObjOk P w H h a u:=by
 rcases r with r | ⟨o,r⟩
 ·exact x a u r
 ·obtain ⟨_,q⟩:=x a _ r
  exact q
def Mut:Option HO->Prop
 | some (.lst _)=>True
 | some (.dK _)=>True
 | some (.dT _)=>True
 | some (.set _ _)=>True
 | some (.ins _ _ _)=>True
 | some (.ext _)=>True
 | _=>False
section
variable {P:Program} {w:World} {H:Hp} {h h':Heap} {x e:Addr} {o':HO}
theorem HOk.write (ok:HOk P w H h) (g:Mut (H x)) (j:e=x\/H e=some (.own x)) (k:∀ b u,b ≠ e->h.get? b=some u->h'.get? b=some u) (i:∃ u,h'.get? e=some u)
  (new:ObjOk P w (upd H x o') h' x o'):HOk P w (upd H x o') h':=fun b u q=>by
 have a:∀ c y,H c=some (.own y)->c ≠ x:=fun c y r z=>by subst z;rw [r] at g;exact g
 have d:∀ c xs,H c=some (.tup xs)->c ≠ x:=fun c xs r z=>by subst z;rw [r] at g;exact g
 by_cases hb:b=x
 ·subst hb;rw [aaj] at q;cases q;exact new
 ·rw [aaf hb] at q
  by_cases hbe:b=e
  ·have l:H b=some (.own x):=by
    rcases j with z | z
    ·exact absurd (hbe.trans z) hb
    ·rw [hbe];exact z
   rw [q] at l;cases l
   obtain ⟨v,m⟩:=i
   exact ⟨v,by rw [hbe];exact m⟩
  ·refine (ok b u q).stay (fun c v f r=>k c v ?_ r) (fun c r=>by rw [aaf (a c b r)];exact r) fun c xs r=>by rw [aaf (d c xs r)];exact r
   rcases f with rfl | f
   ·exact hbe
   ·rintro rfl
    rcases j with z | z
    ·exact a c b f z
    ·rw [f] at z;cases z;exact hb rfl
end
structure Un (fs ex:List Addr) (H H':Hp) (h h':Heap):Prop where
 keep:∀ b o,h.get? b=some o->H b=none->b ∉ fs->b ∉ ex->h'.get? b=some o
 slot:∀ b o,h.get? b=some o->H b=none->b∈fs->b ∉ ex->∃ sl,h'.get? b=some { o with slots:=sl }
 free:∀ b o,h.get? b=some o->H b=none->b ∉ ex->H' b=none
 there:∀ b o,h.get? b=some o->b ∉ ex->∃ o',h'.get? b=some o'
 tups:∀ b xs,H b=some (.tup xs)->H' b=some (.tup xs)
 frzs:∀ b o u,H b=some (.frz o u)->H' b=some (.frz o u)
 tbls:∀ b ps,H b=some (.tbl ps)->∃ more,H' b=some (.tbl (ps ++ more))
section
variable {fs fs' ex ex':List Addr} {H H1 H2:Hp} {h h1 h2 h':Heap} {a x e:Addr} {o:HO}
theorem Un.any (u:Un fs ex H H1 h h1) {b:Addr} {a:Obj} (q:h.get? b=some a) (n:H b=none) (c:b ∉ ex):∃ sl,h1.get? b=some { a with slots:=sl }:=by
 by_cases hb:b∈fs
 ·exact u.slot b a q n hb c
 ·exact ⟨a.slots,u.keep b a q n hb c⟩
theorem Un.trans (a:Un fs ex H H1 h h1) (b:Un fs ex H1 H2 h1 h2):Un fs ex H H2 h h2 where
 keep:=fun c d q n i f=>b.keep c d (a.keep c d q n i f) (a.free c d q n f) i f
 slot:=fun c d q n i f=>by
  obtain ⟨sl,g⟩:=a.slot c d q n i f
  obtain ⟨j,l⟩:=b.slot c _ g (a.free c d q n f) i f
  exact ⟨j,l⟩
 free:=fun c d q n f=>by
  obtain ⟨o',g⟩:=a.there c d q f
  exact b.free c o' g (a.free c d q n f) f
 there:=fun c d q f=>by
  obtain ⟨o',g⟩:=a.there c d q f
  exact b.there c o' g f
 tups:=fun c xs q=>b.tups c xs (a.tups c xs q)
 frzs:=fun c d xs q=>b.frzs c d xs (a.frzs c d xs q)
 tbls:=fun c ps q=>by
  obtain ⟨o,g⟩:=a.tbls c ps q
  obtain ⟨m,l⟩:=b.tbls c _ g
  exact ⟨o ++ m,by rw [l,Array.append_assoc]⟩
theorem Un.kept (k:∀ b u,h.get? b=some u->h'.get? b=some u):Un fs ex H H h h' :=
 ⟨fun b a q _ _ _=>k b a q,fun b a q _ _ _=>⟨a.slots,k b a q⟩,fun _ _ _ n _=>n,fun b a q _=>⟨a,k b a q⟩,fun _ _ q=>q,fun _ _ _ q=>q,fun _ ps q=>⟨#[],by rw [q];simp⟩⟩
theorem Un.refl:Un fs ex H H h h:=Un.kept fun _ _ q=>q
theorem Un.laid (k:∀ b u,h.get? b=some u->h'.get? b=some u) (c:h.objs.size<=a) (hn:H a=none):Un fs ex H (upd H a o) h h' where
 keep:=fun b u q _ _ _=>k b u q
 slot:=fun b u q _ _ _=>⟨u.slots,k b u q⟩
 free:=fun b u q n _=>by rw [aaf (az0 (az9 (aF5 q) c))];exact n
 there:=fun b u q _=>⟨u,k b u q⟩
 tups:=fun b xs q=>by rw [aaf (aat q hn)];exact q
 frzs:=fun b u xs q=>by rw [aaf (aat q hn)];exact q
 tbls:=fun b ps q=>⟨#[],by rw [aaf (aat q hn),q];simp⟩
theorem Un.write (a:Mut (H x)) (f:e=x\/H e=some (.own x)) (k:∀ b u,b ≠ e->h.get? b=some u->h'.get? b=some u) (c:∃ u,h'.get? e=some u):Un fs ex H (upd H x o) h h':=by
 have d:∀ b,H b=none->b ≠ x:=fun b n z=>by subst z;rw [n] at a;exact a
 have hb:∀ b,H b=none->b ≠ e:=fun b n z=>by
  subst z
  rcases f with r | r
  ·exact d b n r
  ·rw [n] at r;cases r
 have hm:∀ b u,H b=some u->¬ Mut (some u)->b ≠ x:=fun b u q nm z=>by subst z;rw [q] at a;exact nm a
 refine ⟨fun b u q n _ _=>k b u (hb b n) q,fun b u q n _ _=>⟨u.slots,k b u (hb b n) q⟩,fun b u q n _=>by rw [aaf (d b n)];exact n,fun b u q _=>?_,
  fun b xs q=>by rw [aaf (hm b _ q fun z=>z)];exact q,fun b u xs q=>by rw [aaf (hm b _ q fun z=>z)];exact q,fun b ps q=>⟨#[],by rw [aaf (hm b _ q fun z=>z),q];simp⟩⟩
 by_cases hbe:b=e
 ·subst hbe;exact c
 ·exact ⟨u,k b u hbe q⟩
theorem Un.mono (u:Un fs ex H H1 h h1) (hs:∀ b∈fs,b∈fs') (d:∀ b∈ex,b∈ex'):Un fs' ex' H H1 h h1 :=
 ⟨fun b c q n hb a=>u.keep b c q n (fun z=>hb (hs b z)) fun z=>a (d b z),fun _ _ q n _ a=>u.any q n fun z=>a (d _ z),fun b c q n a=>u.free b c q n fun z=>a (d b z),fun b c q a=>u.there b c q fun z=>a (d b z),u.tups,u.frzs,u.tbls⟩
end
def trk (h:Heap) (H:Hp):List Addr:=(List.range h.objs.size).filter fun a=>(H a).isSome
def hidT (h:Heap) (H:Hp):Heap:=PySem.W.hideAll h (trk h H)
theorem an3 (h:Heap) (H:Hp):(hidT h H).objs.size=h.objs.size:=PySem.W.hideAll_size _ _
theorem ap2 {h:Heap} {H:Hp} {b:Addr} {o:Obj} (e:h.get? b=some o) (n:H b=none):(hidT h H).get? b=some o :=
 PySem.W.hideAll_get _ e fun hm=>by
  have q:(H b).isSome=true:=(List.mem_filter.mp hm).2
  rw [n] at q;simp at q
theorem asg {h:Heap} {H:Hp} {b:Addr} {o:Obj} (e:(hidT h H).get? b=some o):h.get? b=some o/\H b=none:=by
 have a:h.get? b=some o:=PySem.W.of_hideAll (trk h H) e
 refine ⟨a,?_⟩
 cases q:H b with
 | none=>rfl
 | some x =>
  have hm:b∈trk h H:=List.mem_filter.mpr ⟨az3.mpr (aF5 a),by simp [q]⟩
  have z:(hidT h H).get? b=none:=PySem.W.hideAll_none (trk h H) hm
  rw [z] at e;cases e
def ash (g h:Heap) (L:Addr):List (Addr × Obj):=(List.range h.objs.size).filterMap fun a=>if a=L\/(g.get? a).isSome=true then none else (h.get? a).map fun o=>(a,o)
def rest (g h:Heap) (L d:Addr):List (Addr × Obj):=(ash g h L).filter fun p=>decide (p.1 ≠ d)
structure Mod (K:Frag) (mg:Str->Option Value) (base:Heap):Prop where
 kin:K.In base
 glob:base.Ns mainGlobals mg
 blt:∃ mb,base.Ns builtinsNs mb/\∀ x:Str,x ≠ "__name__"->mb x=bootBuiltins x
 nolimit:base.NoLimit
/-- the context: a def's body (or a comprehension's block) running. base: fixed through the whole law; s₀, H₀: the entry; outer: the frames whose slots others may change (a def's callers); stack: all frames that run;
  ex: iterators that were made ahead of the entry and are walked here (a comprehension's);fn: the names whose cells were made at the entry (a def: all;a comprehension's block: its own);calm: not within an except suite;pn: pins that every state bears;xe: what is wanted of an exception that leaves the code -/
structure Cx where
 prog:Program
 w:World
 K:Frag
 mg:Str->Option Value
 base:Heap
 A:Around
 N:List Str
 s₀:Shared
 H₀:Hp
 env:Env
 outer:List Env
 stack:List Env
 ex:List Addr
 fn:Str->Bool
 calm:Bool
 pn:List (Addr × Obj)
 xe:Value->Shared->Prop
def frs (l:List Env):List Addr:=l.filterMap (·.frame)
abbrev Cx.fs (X:Cx):List Addr:=frs X.outer
def Vis (sc:Scope) (x:Str):Prop:=sc.names.lookup x=some .local\/sc.names.lookup x=some .cell\/sc.names.lookup x=some .free
def Loc (sc:Scope) (x:Str):Prop:=sc.names.lookup x=some .local\/sc.names.lookup x=some .cell
def Look (env:Env) (h:Heap) (m:Str->Option Value) (x:Str) (u:Value):Prop :=
 (env.kindOf x=some .local/\m x=some u)\/((env.kindOf x=some .cell\/env.kindOf x=some .free)/\∃ c,env.cells.lookup x=some c/\h.IsCell c (some u))
structure Cx.Ok (X:Cx):Prop where
 mod:Mod X.K X.mg X.base
 kind:X.env.scope.kind=.function
 glob:X.env.globals=mainGlobals
 blt:X.env.builtins=builtinsNs
 above:X.s₀.heap.objs.size<=X.env.locals
 inj:∀ x y c,X.env.cells.lookup x=some c->X.env.cells.lookup y=some c->x=y
 has:∀ x,(X.env.kindOf x=some .cell\/X.env.kindOf x=some .free)->∃ c,X.env.cells.lookup x=some c
 cab:∀ x c,X.fn x=true->X.env.cells.lookup x=some c->X.s₀.heap.objs.size<=c
 hd:X.calm=true->X.A.handled=none
 frames:X.A.frames=some X.stack
 stk:X.stack=X.outer\/(X.stack=X.env :: X.outer/\X.env.frame=some X.env.locals)
 exf:∀ b∈X.ex,b ≠ X.env.locals/\∀ x c,X.env.cells.lookup x=some c->c ≠ b
 bs:∀ b o,X.base.get? b=some o->X.s₀.heap.get? b=some o/\X.H₀ b=none
 bsz:X.base.objs.size<=X.s₀.heap.objs.size
 noex:∀ b o,X.base.get? b=some o->b ∉ X.ex
 exfs:∀ b∈X.ex,b ∉ X.fs
 funs:X.s₀.heap.FunFrames X.base X.outer
 frf:∀ b∈X.fs,X.H₀ b=none
structure Inv (X:Cx) (pins:List (Addr × Obj)) (σ:List (Option V)) (H:Hp) (s:Shared):Prop where
 ok:X.Ok
 os:s.os=X.s₀.os
 bare:AllBare s.gens
 base:Un X.fs X.ex X.H₀ H X.s₀.heap s.heap
 loc:∃ m,s.heap.Ns X.env.locals m/\∀ (i:Nat) (x:Str) (v:V),X.N[i]?=some x->σ[i]?=some (some v)->Vis X.env.scope x->∃ u,RelV v u/\Look X.env s.heap m x u
 cell:∀ x c,X.env.cells.lookup x=some c->∃ v,s.heap.IsCell c v
 free:H X.env.locals=none
 freeC:∀ x c,X.env.cells.lookup x=some c->H c=none
 pin:∀ p∈X.pn ++ pins,s.heap.get? p.1=some p.2/\H p.1=none/\p.1 ≠ X.env.locals/\p.1 ∉ X.fs/\∀ v,p.2.data ≠ .cell v
 hok:HOk X.prog X.w H s.heap
 len : σ.length=X.N.length
section
variable {X:Cx} {pins:List (Addr × Obj)} {σ:List (Option V)} {H H':Hp} {s:Shared} {h':Heap}
theorem Cx.Ok.nofr (ok:X.Ok) {b:Addr} {o:Obj} (e:X.base.get? b=some o):b ∉ X.fs:=fun hb=>by
 have:=(ok.funs.mem hb).1
 rw [e] at this;cases this
theorem Inv.bs (I:Inv X pins σ H s):∀ b o,X.base.get? b=some o->s.heap.get? b=some o/\H b=none:=fun b o e =>
 ⟨I.base.keep b o (I.ok.bs b o e).1 (I.ok.bs b o e).2 (I.ok.nofr e) (I.ok.noex b o e),I.base.free b o (I.ok.bs b o e).1 (I.ok.bs b o e).2 (I.ok.noex b o e)⟩
theorem Inv.bk (I:Inv X pins σ H s):∀ b o,X.base.get? b=some o->s.heap.get? b=some o:=fun b o e=>(I.bs b o e).1
theorem Inv.mod (I:Inv X pins σ H s):Mod X.K X.mg X.base:=I.ok.mod
theorem Inv.kIn (I:Inv X pins σ H s):X.K.In s.heap:=I.ok.mod.kin.keeps I.bk
theorem Inv.fr (I:Inv X pins σ H s):∃ m,Fr X.base X.env.locals s.heap m :=
 let ⟨m,hn,_⟩:=I.loc
 ⟨m,hn,I.bk,aA4 I.ok.bsz I.ok.above⟩
theorem Inv.lt (I:Inv X pins σ H s):X.env.locals < s.heap.objs.size:=let ⟨_,hn,_⟩:=I.loc;hn.lt
theorem Inv.sz (I:Inv X pins σ H s):X.s₀.heap.objs.size<=s.heap.objs.size:=aA4 I.ok.above (aD0 I.lt)
theorem Inv.nofs (I:Inv X pins σ H s) {a:Addr} (h:s.heap.objs.size<=a):a ∉ X.fs:=fun hb=>by
 obtain ⟨_,o,b,_⟩:=I.ok.funs.mem hb
 exact absurd (az9 (aF5 b) (aA4 I.sz h)) (aC9 _)
theorem Inv.cne (I:Inv X pins σ H s):∀ x c,X.env.cells.lookup x=some c->c ≠ X.env.locals:=fun x c e z=>by
 obtain ⟨v,o,d,hd⟩:=I.cell x c e
 obtain ⟨m,⟨o',es,f,b,a,_⟩,_⟩:=I.loc
 rw [z,b] at d;cases d;rw [a] at hd;cases hd
theorem Inv.funs (I:Inv X pins σ H s):s.heap.FunFrames X.base X.outer:=by
 have all:∀ (l:List Env),(∀ b∈frs l,b∈X.fs)->X.s₀.heap.FunFrames X.base l->s.heap.FunFrames X.base l:=by
  intro l
  induction l with
  | nil=>intro _ _;trivial
  | cons env r ih =>
   intro hs f
   obtain ⟨d,⟨L,o,hf,hn,c,hd⟩,g⟩:=f
   have a:L∈X.fs:=hs L (by unfold frs;rw [List.filterMap_cons,hf];exact az2)
   obtain ⟨sl,e⟩:=I.base.slot L o c (I.ok.frf L a) a fun z=>I.ok.exfs L z a
   exact ⟨d,⟨L,_,hf,hn,e,hd⟩,ih (fun b hb=>hs b (by unfold frs;rw [List.filterMap_cons,hf];exact ay9 _ hb)) g⟩
 exact all X.outer (fun _ hb=>hb) I.ok.funs
theorem Inv.stack (I:Inv X pins σ H s):s.heap.FunFrames X.base X.stack:=by
 rcases I.ok.stk with e | ⟨e,hf⟩
 ·rw [e];exact I.funs
 ·rw [e]
  obtain ⟨m,hn,_⟩:=I.loc
  refine .cons (by rw [I.ok.kind];decide) hf hn ?_ I.funs
  exact Heap.get?_none_of_le (aA4 I.ok.bsz I.ok.above)
theorem Inv.stkSub (I:Inv X pins σ H s):∀ b∈frs X.stack,b∈X.env.locals :: X.fs:=fun b hb=>by
 rcases I.ok.stk with e | ⟨e,hf⟩
 ·rw [e] at hb;exact ay9 _ hb
 ·rw [e] at hb
  unfold frs at hb
  rw [List.filterMap_cons,hf] at hb
  exact hb
theorem Inv.stkFree (I:Inv X pins σ H s):∀ b∈frs X.stack,H b=none:=fun b hb=>by
 rcases ay3.mp (I.stkSub b hb) with e | hb
 ·rw [e];exact I.free
 ·obtain ⟨_,o,a,_⟩:=I.ok.funs.mem hb
  exact I.base.free b o a (I.ok.frf b hb) fun z=>I.ok.exfs b z hb
theorem Inv.step {g':Array GenState} {t':Nat} {d':Drawn} {ch:List Addr} (I:Inv X pins σ H s)
  (h:∀ b∈ch,(b∈X.ex\/X.s₀.heap.objs.size<=b)/\b ≠ X.env.locals/\(∀ x c,X.env.cells.lookup x=some c->c ≠ b)/\∀ p∈X.pn ++ pins,p.1 ≠ b)
  (keep:∀ b o,b ≠ X.env.locals->b ∉ X.fs->b ∉ ch->s.heap.get? b=some o->H b=none->h'.get? b=some o)
  (slot:∀ b o,b ≠ X.env.locals->b∈X.fs->b ∉ ch->s.heap.get? b=some o->H b=none->∃ sl,h'.get? b=some { o with slots:=sl }) (free:∀ b o,b ∉ ch->s.heap.get? b=some o->H b=none->H' b=none)
  (there:∀ b o,b ∉ ch->s.heap.get? b=some o->∃ o',h'.get? b=some o')
  (tups:∀ b xs,H b=some (.tup xs)->H' b=some (.tup xs)) (frzs:∀ b o u,H b=some (.frz o u)->H' b=some (.frz o u)) (tbls:∀ b ps,H b=some (.tbl ps)->∃ more,H' b=some (.tbl (ps ++ more)))
  (ns:∀ m,s.heap.Ns X.env.locals m->h'.Ns X.env.locals m) (hok:HOk X.prog X.w H' h') (G:AllBare g') :
  Inv X pins σ H' { s with heap:=h',gens:=g',drawn:=d',toks:=t' }:=by
 have C:∀ b o,X.s₀.heap.get? b=some o->b ≠ X.env.locals:=fun b o e=>az0 (az9 (aF5 e) I.ok.above)
 have j:∀ b o,X.s₀.heap.get? b=some o->b ∉ X.ex->b ∉ ch:=fun b o e a hb=>by
  rcases (h b hb).1 with z | z
  ·exact a z
  ·exact absurd (az9 (aF5 e) z) (aC9 _)
 have g:∀ x c,X.env.cells.lookup x=some c->∀ v,s.heap.IsCell c v->h'.IsCell c v:=fun x c e v M=>by
  obtain ⟨o,A,hd⟩:=M
  have f:c ∉ ch:=fun z=>(h c z).2.2.1 x c e rfl
  by_cases hc:c∈X.fs
  ·obtain ⟨sl,q⟩:=slot c o (I.cne x c e) hc f A (I.freeC x c e)
   exact ⟨_,q,hd⟩
  ·exact ⟨o,keep c o (I.cne x c e) hc f A (I.freeC x c e),hd⟩
 refine ⟨I.ok,I.os,G,⟨fun b o e n hb a=>?_,fun b o e n hb a=>?_,fun b o e n a=>?_,fun b o e a=>?_,fun b xs e=>tups b xs (I.base.tups b xs e),fun b o xs e=>frzs b o xs (I.base.frzs b o xs e),fun b ps e=>?_⟩,?_,fun x c e=>?_,?_,fun x c e=>?_,fun p E=>?_,hok,I.len⟩
 ·exact keep b o (C b o e) hb (j b o e a) (I.base.keep b o e n hb a) (I.base.free b o e n a)
 ·obtain ⟨sl,y⟩:=I.base.slot b o e n hb a
  obtain ⟨D,B⟩:=slot b _ (C b o e) hb (j b o e a) y (I.base.free b o e n a)
  exact ⟨D,B⟩
 ·obtain ⟨o',y⟩:=I.base.there b o e a
  exact free b o' (j b o e a) y (I.base.free b o e n a)
 ·obtain ⟨o',y⟩:=I.base.there b o e a
  exact there b o' (j b o e a) y
 ·obtain ⟨N,y⟩:=I.base.tbls b ps e
  obtain ⟨J,B⟩:=tbls b _ y
  exact ⟨N ++ J,by rw [B,Array.append_assoc]⟩
 ·obtain ⟨m,hn,K⟩:=I.loc
  refine ⟨m,ns m hn,fun i x v y B L=>?_⟩
  obtain ⟨u,r,l⟩:=K i x v y B L
  refine ⟨u,r,?_⟩
  rcases l with l | ⟨k,c,e,z⟩
  ·exact .inl l
  ·exact .inr ⟨k,c,e,g x c e _ z⟩
 ·obtain ⟨v,z⟩:=I.cell x c e
  exact ⟨v,g x c e v z⟩
 ·obtain ⟨m,⟨o,_,_,A,_⟩,_⟩:=I.loc
  exact free _ o (fun z=>(h _ z).2.1 rfl) A I.free
 ·obtain ⟨v,o,A,hd⟩:=I.cell x c e
  exact free c o (fun z=>(h c z).2.2.1 x c e rfl) A (I.freeC x c e)
 ·obtain ⟨e,n,ne,F,d⟩:=I.pin p E
  have f:p.1 ∉ ch:=fun z=>(h p.1 z).2.2.2 p E rfl
  exact ⟨keep p.1 p.2 ne F f e n,free p.1 p.2 f e n,ne,F,d⟩
theorem Inv.un {t':Nat} (I:Inv X pins σ H s) (u:Un X.fs [] H H' s.heap h') (hok:HOk X.prog X.w H' h'):Inv X pins σ H' { s with heap:=h',toks:=t' }:=by
 obtain ⟨m,⟨o,es,j,f,r⟩,_⟩:=id I.loc
 obtain ⟨sl,g⟩:=u.any f I.free (by simp)
 exact I.step (g':=s.gens) (d':=s.drawn) (ch:=[]) (fun _ z=>nomatch z) (fun b o _ hb _ e n=>u.keep b o e n hb (by simp)) (fun b o _ hb _ e n=>u.slot b o e n hb (by simp)) (fun b o _ e n=>u.free b o e n (by simp)) (fun b o _ e=>u.there b o e (by simp)) u.tups u.frzs u.tbls (fun i hm=>by
  obtain ⟨o',c,d,a,h⟩:=hm
  rw [f] at a;cases a
  exact ⟨_,c,d,g,h⟩) hok I.bare
theorem Inv.call {g':Array GenState} {t':Nat} {d':Drawn} {ch:List Addr} (I:Inv X pins σ H s) (u:Un (frs X.stack) ch H H' s.heap h') (hok:HOk X.prog X.w H' h') (l:AllBare g')
  (f:∀ b∈ch,(b∈X.ex\/X.s₀.heap.objs.size<=b)/\b ≠ X.env.locals/\(∀ x c,X.env.cells.lookup x=some c->c ≠ b)/\∀ p∈X.pn ++ pins,p.1 ≠ b) :
  Inv X pins σ H' { s with heap:=h',gens:=g',drawn:=d',toks:=t' }:=by
 obtain ⟨m,⟨o,es,y,j,r⟩,_⟩:=id I.loc
 obtain ⟨sl,g⟩:=u.any j I.free fun z=>(f _ z).2.1 rfl
 exact I.step (ch:=ch) f (fun b o g hb a e n=>u.keep b o e n (fun z=>(ay3.mp (I.stkSub b z)).elim g hb) a) (fun b o _ _ a e n=>u.any e n a) (fun b o a e n=>u.free b o e n a) (fun b o a e=>u.there b o e a) u.tups u.frzs u.tbls (fun v hm=>by
  obtain ⟨o',h,i,d,q⟩:=hm
  rw [j] at d;cases d
  exact ⟨_,h,i,g,q⟩) hok l
theorem Inv.turned {t':Nat} {it:Addr} (I:Inv X pins σ H s) (k:∀ b o,b ≠ it->s.heap.get? b=some o->h'.get? b=some o) (hn:H it=none) (f:it ≠ X.env.locals)
  (g:it∈X.ex\/X.s₀.heap.objs.size<=it) (l:∀ x c,X.env.cells.lookup x=some c->c ≠ it) (h:∀ p∈X.pn ++ pins,p.1 ≠ it):Inv X pins σ H { s with heap:=h',toks:=t' }:=by
 have d:∀ b u,H b=some u->b ≠ it:=fun b u e z=>by rw [z,hn] at e;cases e
 refine I.step (g':=s.gens) (d':=s.drawn) (ch:=[it]) (fun b hb=>?_) (fun b o _ _ a e _=>k b o (fun z=>a (by simp [z])) e) (fun b o _ _ a e _=>⟨o.slots,k b o (fun z=>a (by simp [z])) e⟩) (fun _ _ _ _ n=>n)
  (fun b o a e=>⟨o,k b o (fun z=>a (by simp [z])) e⟩) (fun _ _ e=>e) (fun _ _ _ e=>e) (fun b ps e=>⟨#[],by rw [e];simp⟩) (fun m hm=>?_) (fun b u e=>?_) I.bare
 ·have e:b=it:=by simpa using hb
  subst e
  exact ⟨g,f,l,h⟩
 ·obtain ⟨o,es,j,i,r⟩:=hm
  exact ⟨o,es,j,k _ o (Ne.symm f) i,r⟩
 ·refine (I.hok b u e).stay (fun c v a q=>k c v ?_ q) (fun _ q=>q) fun _ _ q=>q
  rcases a with z | z
  ·rw [z];exact d b u e
  ·exact d c _ z
theorem Inv.tok (I:Inv X pins σ H s) (t:Nat):Inv X pins σ H { s with toks:=t }:=I.un (h':=s.heap) (t':=t) Un.refl I.hok
theorem Inv.kept {t':Nat} (I:Inv X pins σ H s) (k:∀ b u,s.heap.get? b=some u->h'.get? b=some u):Inv X pins σ H { s with heap:=h',toks:=t' }:=I.un (Un.kept k) (I.hok.kept k)
theorem Inv.laid {a:Addr} {o:HO} {t':Nat} (I:Inv X pins σ H s) (k:∀ b u,s.heap.get? b=some u->h'.get? b=some u) (c:s.heap.objs.size<=a) (new:ObjOk X.prog X.w (upd H a o) h' a o) :
  Inv X pins σ (upd H a o) { s with heap:=h',toks:=t' }:=I.un (Un.laid k c (I.hok.fresh c)) (I.hok.laid k c new)
theorem Inv.write {x e:Addr} {o:HO} {t':Nat} (I:Inv X pins σ H s) (d:Mut (H x)) (c:e=x\/H e=some (.own x)) (k:∀ b u,b ≠ e->s.heap.get? b=some u->h'.get? b=some u) (a:∃ u,h'.get? e=some u)
  (new:ObjOk X.prog X.w (upd H x o) h' x o):Inv X pins σ (upd H x o) { s with heap:=h',toks:=t' }:=I.un (Un.write d c k a) (I.hok.write d c k a new)
theorem Inv.pins_of {a:List (Addr × Obj)} (I:Inv X pins σ H s) (h:∀ p∈a,s.heap.get? p.1=some p.2/\H p.1=none/\p.1 ≠ X.env.locals/\p.1 ∉ X.fs/\∀ v,p.2.data ≠ .cell v):Inv X a σ H s :=
 ⟨I.ok,I.os,I.bare,I.base,I.loc,I.cell,I.free,I.freeC,fun p b=>(ay2.mp b).elim (fun z=>I.pin p (aA1 _ z)) (h p),I.hok,I.len⟩
theorem nodup_ix {N:List Str} (d:N.Nodup) {i j:Nat} {x:Str} (a:N[i]?=some x) (b:N[j]?=some x):i=j:=by
 obtain ⟨h,f⟩:=ax6.mp a
 obtain ⟨g,c⟩:=ax6.mp b
 exact (List.getElem_inj d).mp (f.trans c.symm)
theorem aij {M:Model} {A:Around} {E:Value->Shared->Prop} {i:Nat} {x:Str} {v:V} {u:Value} {Q:Unit->Shared->Prop} (I:Inv X pins σ H s) (hN:X.N.Nodup) (hi:X.N[i]?=some x) (B:Loc X.env.scope x) (r:RelV v u)
  (h:∀ T,Inv X pins (σ.set i (some v)) H T->(∃ a,Heap.SameBut a s.heap T.heap/\(a=X.env.locals\/X.env.cells.lookup x=some a))->Q () T) (hf:X.fn x=true\/X.env.scope.names.lookup x=some .local:=by first | exact .inl rfl | exact .inr rfl | assumption):wpAny M A (storeName X.env x u) Q E s:=by
 obtain ⟨m,hn,hl⟩:=id I.loc
 have P:(X.env.scope.kind == .class || (X.env.scope.kind == .module && X.env.locals != X.env.globals))=false:=by rw [I.ok.kind];rfl
 have G:i < σ.length:=by rw [I.len];exact (ax6.mp hi).1
 have cne:=I.cne
 have g:∀ {a:Addr} {h':Heap},(∃ o,s.heap.get? a=some o/\H a=none)->Heap.SameBut a s.heap h'->HOk X.prog X.w H h':=fun {a h'} ha hs b ob e=>by
  obtain ⟨_,_,C⟩:=ha
  refine (I.hok b ob e).stay (fun c S l q=>(hs.2 c ?_).trans q) (fun _ q=>q) fun _ _ q=>q
  rintro rfl
  rcases l with rfl | l
  ·rw [C] at e;cases e
  ·rw [C] at l;cases l
 rcases B with F | F
 ·refine wpAny_storeName_local F hn (fun h' W hs=>?_) P
  obtain ⟨oL,_,_,a0,_⟩:=id hn
  refine h _ ⟨I.ok,I.os,I.bare,⟨fun b o e n hb B=>?_,fun b o e n hb B=>?_,I.base.free,fun b o e B=>?_,I.base.tups,I.base.frzs,I.base.tbls⟩,⟨_,W,fun j y v' f D e3=>?_⟩,fun y c e=>?_,I.free,I.freeC,fun p Y=>?_,g ⟨oL,a0,I.free⟩ hs,by simpa using I.len⟩ ⟨_,hs,.inl rfl⟩
  ·exact (hs.2 b (az0 (az9 (aF5 e) I.ok.above))).trans (I.base.keep b o e n hb B)
  ·obtain ⟨sl,f⟩:=I.base.slot b o e n hb B
   exact ⟨sl,(hs.2 b (az0 (az9 (aF5 e) I.ok.above))).trans f⟩
  ·obtain ⟨o',f⟩:=I.base.there b o e B
   exact ⟨o',(hs.2 b (az0 (az9 (aF5 e) I.ok.above))).trans f⟩
  ·by_cases hj:j=i
   ·subst hj
    rw [hi] at f;cases f
    rw [List.getElem?_set_self G] at D
    cases D
    exact ⟨u,r,.inl ⟨F,by simp⟩⟩
   ·rw [List.getElem?_set_ne (Ne.symm hj)] at D
    obtain ⟨u',Z,q⟩:=hl j y v' f D e3
    refine ⟨u',Z,?_⟩
    rcases q with ⟨k,e⟩ | ⟨k,c,e,z⟩
    ·refine .inl ⟨k,?_⟩
     have:y ≠ x:=fun e=>hj (nodup_ix hN f (e ▸ hi))
     simp [this,e]
    ·exact .inr ⟨k,c,e,z.sameBut hs (cne y c e)⟩
  ·obtain ⟨S,z⟩:=I.cell y c e
   exact ⟨S,z.sameBut hs (cne y c e)⟩
  ·obtain ⟨e,n,ne,U,d⟩:=I.pin p Y
   exact ⟨(hs.2 p.1 ne).trans e,n,ne,U,d⟩
 ·have J:X.fn x=true:=by
   rcases hf with z | z
   ·exact z
   ·rw [z] at F;cases F
  obtain ⟨c,l⟩:=I.ok.has x (.inl F)
  obtain ⟨S,z⟩:=I.cell x c l
  refine wpAny_storeName_cell I.ok.kind F l z (fun h' K hs=>?_)
  obtain ⟨oc,O,L⟩:=id z
  refine h { s with heap:=h' } ⟨I.ok,I.os,I.bare,⟨fun b o e n hb B=>?_,fun b o e n hb B=>?_,I.base.free,fun b o e B=>?_,I.base.tups,I.base.frzs,I.base.tbls⟩,⟨m,hn.sameBut hs (Ne.symm (cne x c l)),fun j y v' f D e3=>?_⟩,fun y R e=>?_,I.free,I.freeC,fun p Y=>?_,g ⟨oc,O,I.freeC x c l⟩ hs,by simpa using I.len⟩ ⟨c,hs,.inr l⟩
  ·exact (hs.2 b (az0 (az9 (aF5 e) (I.ok.cab x c J l)))).trans (I.base.keep b o e n hb B)
  ·obtain ⟨sl,f⟩:=I.base.slot b o e n hb B
   exact ⟨sl,(hs.2 b (az0 (az9 (aF5 e) (I.ok.cab x c J l)))).trans f⟩
  ·obtain ⟨o',f⟩:=I.base.there b o e B
   exact ⟨o',(hs.2 b (az0 (az9 (aF5 e) (I.ok.cab x c J l)))).trans f⟩
  ·by_cases hj:j=i
   ·subst hj
    rw [hi] at f;cases f
    rw [List.getElem?_set_self G] at D
    cases D
    exact ⟨u,r,.inr ⟨.inl F,c,l,K⟩⟩
   ·rw [List.getElem?_set_ne (Ne.symm hj)] at D
    obtain ⟨u',Z,q⟩:=hl j y v' f D e3
    refine ⟨u',Z,?_⟩
    rcases q with q | ⟨k,R,e,z'⟩
    ·exact .inl q
    ·refine .inr ⟨k,R,e,z'.sameBut hs ?_⟩
     rintro rfl
     exact hj (nodup_ix hN f (I.ok.inj _ _ _ e l ▸ hi))
  ·by_cases hcc:R=c
   ·subst hcc;exact ⟨_,K⟩
   ·obtain ⟨w2,z2⟩:=I.cell y R e
    exact ⟨w2,z2.sameBut hs hcc⟩
  ·obtain ⟨e,n,ne,U,d⟩:=I.pin p Y
   refine ⟨(hs.2 p.1 ?_).trans e,n,ne,U,d⟩
   intro q
   rw [q,O] at e
   have q':oc=p.2:=aA0 e
   exact d S (by rw [← q'];exact L)
theorem agb {M:Model} {A:Around} {E:Value->Shared->Prop} {i:Nat} {x:Str} {v:V} {u:Value} {Q:Unit->Shared->Prop} (I:Inv X pins σ H s) (d:X.N.Nodup) (hi:X.N[i]?=some x) (b:Loc X.env.scope x) (r:RelV v u)
  (h:∀ a,Inv X pins (σ.set i (some v)) H a->Q () a) (hf:X.fn x=true\/X.env.scope.names.lookup x=some .local:=by first | exact .inl rfl | exact .inr rfl | assumption):wpAny M A (storeName X.env x u) Q E s :=
 aij I d hi b r (fun a c _=>h a c) hf
theorem Inv.call' {a:Shared} {ch:List Addr} (I:Inv X pins σ H s) (f:a.os=s.os) (u:Un (frs X.stack) ch H H' s.heap a.heap) (hok:HOk X.prog X.w H' a.heap) (g:AllBare a.gens)
  (d:∀ b∈ch,(b∈X.ex\/X.s₀.heap.objs.size<=b)/\b ≠ X.env.locals/\(∀ x c,X.env.cells.lookup x=some c->c ≠ b)/\∀ p∈X.pn ++ pins,p.1 ≠ b):Inv X pins σ H' a:=by
 obtain ⟨h',g',d',t',o'⟩:=a
 have e:o'=s.os:=f
 subst e
 exact I.call (g':=g') (t':=t') (d':=d') u hok g d
end
abbrev XK:=Value->Option Addr->Hp->Prop
abbrev St:=List (Option V)
abbrev VK:=V->Hp->Prop
abbrev TE:=St->Hp->VK->Prop
abbrev TT:=St->Hp->(Bool->Hp->Prop)->Prop
abbrev TA:=St->Hp->(List V->Hp->Prop)->Prop
structure Ends where
 nx:St->Hp->Prop
 rt:VK
 bk:St->Hp->Prop:=fun _ _=>False
 ct:St->Hp->Prop:=fun _ _=>False
abbrev TS:=Ends->St->Hp->Prop
def EP (X:Cx) (pins:List (Addr × Obj)) (σ:St) (Q:VK) (u:Value) (s':Shared):Prop:=∃ v H',Inv X pins σ H' s'/\RelV v u/\Q v H'
def TP (X:Cx) (pins:List (Addr × Obj)) (σ:St) (Q:Bool->Hp->Prop) (b:Bool) (s':Shared):Prop:=∃ H',Inv X pins σ H' s'/\Q b H'
def AP (X:Cx) (pins:List (Addr × Obj)) (σ:St) (Q:List V->Hp->Prop) (us:List Value) (s':Shared):Prop:=∃ vs H',Inv X pins σ H' s'/\Vals vs us/\Q vs H'
def SP (X:Cx) (pins:List (Addr × Obj)) (D:Ends) (f:Flow) (s':Shared):Prop :=
 match f with
 | .next=>∃ σ' H',Inv X pins σ' H' s'/\D.nx σ' H'
 | .brk=>∃ σ' H',Inv X pins σ' H' s'/\D.bk σ' H'
 | .cont=>∃ σ' H',Inv X pins σ' H' s'/\D.ct σ' H'
 | .ret u=>∃ v σ' H',Inv X pins σ' H' s'/\RelV v u/\D.rt v H'
def PE (X:Cx) (e:Expr) (t:TE):Prop :=
 ∀ (pins:List (Addr × Obj)) (s:Shared) (σ:St) (H:Hp) (Q:VK),Inv X pins σ H s->t σ H Q->wpAny (model X.prog X.w) X.A (eval e X.env) (EP X pins σ Q) X.xe s
def PT (X:Cx) (e:Expr) (t:TT):Prop :=
 ∀ (pins:List (Addr × Obj)) (s:Shared) (σ:St) (H:Hp) (Q:Bool->Hp->Prop),Inv X pins σ H s->t σ H Q->wpAny (model X.prog X.w) X.A (isTrue e X.env (eval e X.env)) (TP X pins σ Q) X.xe s
def PW (X:Cx) (e:Expr) (t:TT):Prop :=
 ∀ (whole:Sem Value) (pins:List (Addr × Obj)) (s:Shared) (σ:St) (H:Hp) (Q:Bool->Hp->Prop),Inv X pins σ H s->t σ H Q->wpAny (model X.prog X.w) X.A (isTrue e X.env whole) (TP X pins σ Q) X.xe s
theorem PW.pt {X:Cx} {e:Expr} {t:TT} (h:PW X e t):PT X e t:=h _
def PA (X:Cx) (es:List Expr) (t:TA):Prop :=
 ∀ (pos:Pos) (pins:List (Addr × Obj)) (s:Shared) (σ:St) (H:Hp) (Q:List V->Hp->Prop),Inv X pins σ H s->t σ H Q->wpAny (model X.prog X.w) X.A (spliced (backTo pos (starEach es X.env))) (AP X pins σ Q) X.xe s
def PS (X:Cx) (st:Stmt) (t:TS):Prop :=
 ∀ (pins:List (Addr × Obj)) (s:Shared) (σ:St) (H:Hp) (D:Ends),Inv X pins σ H s->t D σ H->wpAny (model X.prog X.w) X.A (exec st X.env) (SP X pins D) X.xe s
def PSs (X:Cx) (st:List Stmt) (t:TS):Prop :=
 ∀ (pins:List (Addr × Obj)) (s:Shared) (σ:St) (H:Hp) (D:Ends),Inv X pins σ H s->t D σ H->wpAny (model X.prog X.w) X.A (execs st X.env) (SP X pins D) X.xe s
theorem thn {α:Type} {t:Sem α} {Q b : α->Shared->Prop} {M:Model} {A:Around} {E:Value->Shared->Prop} {s:Shared} (h:wpAny M A t Q E s) (c:∀ a s,Q a s->b a s):wpAny M A t b E s:=aG0 h c fun _ _ x=>x
section
variable {X:Cx}
def tVar (i:Nat):TE:=fun σ H Q=>∃ v,σ[i]?=some (some v)/\Q v H
def tC (v:V):TE:=fun _ H Q=>Q v H
theorem au5 {i:Nat} {x:Str} {pos:Pos} (n:X.N[i]?=some x) (g:Vis X.env.scope x) (hd:(x == ("__debug__" : Str))=false:=by decide) (d:(x == ("__classdict__" : Str))=false:=by decide):PE X (.Name x pos) (tVar i):=by
 intro pins s σ H Q I h
 obtain ⟨v,e,h⟩:=h
 obtain ⟨m,hn,j⟩:=I.loc
 obtain ⟨u,r,l⟩:=j i x v n e g
 have fin:EP X pins σ Q u s:=⟨v,H,I,r,h⟩
 rcases l with ⟨b,hm⟩ | ⟨b,c,f,a⟩
 ·exact wpAny_Name (wpAny_loadName_local I.ok.kind b hn hm fin) hd
 ·rcases b with b | b
  ·exact wpAny_Name (wpAny_loadName_cell I.ok.kind b f a fin) hd
  ·exact wpAny_Name (wpAny_loadName_free I.ok.kind b f a fin d) hd
theorem aab {i j pos}:PE X (.Constant (.int i) j pos) (tC (.int i)):=fun _ _ _ H _ I h=>wpAny_Constant_int ⟨.int i,H,I.tok _,⟨_,rfl⟩,h⟩
theorem ab2 {b j pos}:PE X (.Constant (.bool b) j pos) (tC (.bl b)):=fun _ _ _ H _ I h=>Constant_bool ⟨.bl b,H,I,rfl,h⟩
theorem ac1 {j pos}:PE X (.Constant .none j pos) (tC .non):=fun _ _ _ H _ I h=>Constant_none ⟨.non,H,I,rfl,h⟩
theorem an4 {x j pos}:PE X (.Constant (.str x) j pos) (tC (.str x)):=fun _ _ _ H _ I h=>Calls.Constant_str ⟨.str x,H,I.tok _,⟨_,rfl⟩,h⟩
def Gl (X:Cx) (x:Str):Prop:=X.env.kindOf x=some .globalImplicit
theorem aee {E:Value->Shared->Prop} {pins:List (Addr × Obj)} {s:Shared} {σ:St} {H:Hp} {x:Str} {u:Value} {pos:Pos} {Q:Value->Shared->Prop} (I:Inv X pins σ H s) (a:Gl X x) (hm:X.mg x=some u) (h:Q u s)
  (hd:(x == ("__debug__" : Str))=false:=by decide):wpAny (model X.prog X.w) X.A (eval (.Name x pos) X.env) Q E s :=
 Calls.Name_function_global I.ok.kind a (Calls.loadGlobal_global (by rw [I.ok.glob];exact I.mod.glob.keeps I.bk) hm h) hd
theorem adm {E:Value->Shared->Prop} {pins:List (Addr × Obj)} {s:Shared} {σ:St} {H:Hp} {x:Str} {u:Value} {pos:Pos} {Q:Value->Shared->Prop} (I:Inv X pins σ H s) (a:Gl X x) (hm:X.mg x=none) (b:bootBuiltins x=some u) (h:Q u s)
  (hn:x ≠ "__name__":=by decide) (hd:(x == ("__debug__" : Str))=false:=by decide):wpAny (model X.prog X.w) X.A (eval (.Name x pos) X.env) Q E s:=by
 obtain ⟨mb,c,d⟩:=I.mod.blt
 exact Calls.Name_function_global I.ok.kind a (Calls.loadGlobal_builtin (by rw [I.ok.glob];exact I.mod.glob.keeps I.bk) hm (by rw [I.ok.blt];exact c.keeps I.bk) ((d x hn).trans b) h) hd
theorem acm {x:Str} {v:V} {u:Value} {pos:Pos} (a:Gl X x) (hm:X.mg x=some u) (r:RelV v u) (hd:(x == ("__debug__" : Str))=false:=by decide):PE X (.Name x pos) (tC v) :=
 fun _ _ _ H _ I h=>aee I a hm ⟨v,H,I,r,h⟩ hd
theorem aef {x:Str} {v:V} {u:Value} {pos:Pos} (b:Gl X x) (hm:X.mg x=none) (a:bootBuiltins x=some u) (r:RelV v u) (hn:x ≠ "__name__":=by decide) (hd:(x == ("__debug__" : Str))=false:=by decide):PE X (.Name x pos) (tC v) :=
 fun _ _ _ H _ I h=>adm I b hm a ⟨v,H,I,r,h⟩ hn hd
variable {a b:Expr} {ta tb:TE} {pos:Pos}
def tB (t:TE):TT:=fun σ H Q=>t σ H fun x H1=>∃ c,x=.bl c/\Q c H1
theorem ab3 {e:Expr} {t:TE} (h:PE X e t) (b:∀ whole,isTrue e X.env whole=(do let v ← whole;standAt e.pos;holding [v] (truthy v)):=by intro _;rfl):PT X e (tB t):=by
 intro pins s σ H Q I g
 refine isTrue_plain (thn (h pins s σ H _ I g) fun v s1 ⟨x,i,a,f,c⟩=>?_) (b _)
 obtain ⟨d,rfl,q⟩:=c
 cases f
 exact aG2 ⟨i,a,q⟩
variable {tA tB':TT} {rest:List Expr}
def tAnd (t u:TT):TT:=fun σ H Q=>t σ H fun c H1=>if c=true then u σ H1 Q else Q false H1
def tOr (t u:TT):TT:=fun σ H Q=>t σ H fun c H1=>if c=true then Q true H1 else u σ H1 Q
def tNot (t:TT):TT:=fun σ H Q=>t σ H fun c H1=>Q (!c) H1
theorem afl (ha:PT X a tA):PW X (.BoolOp .And [a] pos) tA:=by
 intro b pins s σ H Q I h
 refine isTrue_and (thn (ha pins s σ H Q I h) fun c s1 e=>?_)
 cases c with
 | true=>exact isTrue_and_nil e
 | false=>exact e
theorem ae1 (ha:PT X a tA):PW X (.BoolOp .Or [a] pos) tA:=by
 intro b pins s σ H Q I h
 refine isTrue_or (thn (ha pins s σ H Q I h) fun c s1 e=>?_)
 cases c with
 | false=>exact isTrue_or_nil e
 | true=>exact e
theorem ags (ha:PT X a tA) (hb:PW X (.BoolOp .And (b :: rest) pos) tB'):PW X (.BoolOp .And (a :: b :: rest) pos) (tAnd tA tB'):=by
 intro i pins s σ H Q I h
 refine isTrue_and (thn (ha pins s σ H _ I h) fun c s1 ⟨g,f,d⟩=>?_)
 cases c with
 | true=>exact hb i pins s1 σ g Q f d
 | false=>exact ⟨g,f,d⟩
theorem agt (ha:PT X a tA) (hb:PW X (.BoolOp .Or (b :: rest) pos) tB'):PW X (.BoolOp .Or (a :: b :: rest) pos) (tOr tA tB'):=by
 intro i pins s σ H Q I h
 refine isTrue_or (thn (ha pins s σ H _ I h) fun c s1 ⟨g,f,d⟩=>?_)
 cases c with
 | true=>exact ⟨g,f,d⟩
 | false=>exact hb i pins s1 σ g Q f d
theorem ab4 (ha:PT X a tA):PT X (.UnaryOp .Not a pos) (tNot tA):=by
 intro pins s σ H Q I h
 exact isTrue_not (ha pins s σ H (fun c b=>Q (!c) b) I h)
def am2 (ta tb:TE):TE:=fun σ H Q=>ta σ H fun x H1=>∃ c,x=.bl c/\if c=true then tb σ H1 Q else Q (.bl false) H1
def am3 (ta:TE):TE:=fun σ H Q=>ta σ H fun x H1=>∃ c,x=.bl c/\Q (.bl (!c)) H1
theorem ae2 {op} {t:TE} (h:PE X a t):PE X (.BoolOp op [a] pos) t:=fun pins s σ H Q I b=>BoolOp_one (h pins s σ H Q I b)
theorem aeg (ha:PE X a ta) (hb:PE X (.BoolOp .And (b :: rest) pos) tb):PE X (.BoolOp .And (a :: b :: rest) pos) (am2 ta tb):=by
 intro pins s σ H Q I h
 refine BoolOp_and (thn (ha pins s σ H _ I h) fun v s1 ⟨x,g,f,i,d⟩=>?_)
 obtain ⟨c,rfl,d⟩:=d
 cases i
 refine aG2 ?_
 cases c with
 | true=>exact hb pins s1 σ g Q f d
 | false=>exact ⟨.bl false,g,f,rfl,d⟩
theorem au6 (ha:PE X a ta):PE X (.UnaryOp .Not a pos) (am3 ta):=by
 intro pins s σ H Q I h
 refine UnaryOp_ (thn (ha pins s σ H _ I h) fun v s1 ⟨x,g,d,f,b⟩=>?_)
 obtain ⟨c,rfl,b⟩:=b
 cases f
 exact not_of (aG2 ⟨.bl (!c),g,d,rfl,b⟩)
end
def SqL (K:Frag) (H:Hp) (a:Addr) (xs:List V):Prop :=
 Rd H a (.lst xs) ∨
  ∃ (o:Obj) (its:Array Value) (n:Nat),K.lookup a=some o/\o.cls=.type "list"/\o.dict=none/\o.data=.seq its n/\its.size<=sizeLine/\Vals xs its.toList
def SqT (K:Frag) (H:Hp) (a:Addr) (xs:List V):Prop :=
 Rd H a (.tup xs) ∨
  ∃ (o:Obj) (its:Array Value) (n:Nat),K.lookup a=some o/\o.cls=.type "tuple"/\o.data=.seq its n/\its.size<=sizeLine/\Vals xs its.toList
def absV:Value->Option V
 | .none=>some .non
 | .bool b=>some (.bl b)
 | .int i _=>some (.int i)
 | .str x _=>some (.str x)
 | .bytes b _=>some (.byt b)
 | .float b _=>some (.flt b)
 | .ref a=>some (.ref a)
 | .type n=>some (.ty n)
 | _=>none
theorem RelV.abs {x:V} {u:Value} (r:RelV x u):absV u=some x:=by
 cases x with
 | non=>cases r;rfl
 | bl _=>cases r;rfl
 | int _=>obtain ⟨t,rfl⟩:=r;rfl
 | str _=>obtain ⟨t,rfl⟩:=r;rfl
 | byt _=>obtain ⟨t,rfl⟩:=r;rfl
 | flt _=>obtain ⟨t,rfl⟩:=r;rfl
 | ref _=>cases r;rfl
 | ty _=>cases r;rfl
theorem RelV.inj {x y:V} {u:Value} (r:RelV x u) (q:RelV y u):x=y:=aA0 (r.abs.symm.trans q.abs)
theorem Vals.inj:∀ {xs ys:List V} {us:List Value},Vals xs us->Vals ys us->xs=ys
 | _,_,_,.nil,.nil=>rfl
 | _,_,_,.cons r t,.cons r' t'=>by rw [r.inj r',Vals.inj t t']
section
variable {X:Cx} {pins:List (Addr × Obj)} {σ:St} {H:Hp} {s:Shared} {a:Addr} {xs ys:List V}
theorem SqL.of {K:Frag} (h:H a=some (.lst xs)):SqL K H a xs:=.inl (.inl h)
theorem SqT.of {K:Frag} (h:H a=some (.tup xs)):SqT K H a xs:=.inl (.inl h)
theorem Inv.list (I:Inv X pins σ H s) (h:SqL X.K H a xs):∃ its:List Value,Vals xs its/\PlainL s.heap a its.toArray/\xs.length<=sizeLine:=by
 rcases h with h | ⟨o,its,n,b,c,hd,hs,d,r⟩
 ·obtain ⟨z,its,n,r,e⟩:=h.ok I.hok
  exact ⟨its,r,⟨_,n,e,rfl,rfl,rfl⟩,z⟩
 ·refine ⟨its.toList,r,⟨o,n,I.kIn a o b,c,hd,by simpa using hs⟩,?_⟩
  have e:=r.length
  simp only [Array.length_toList] at e
  omega
theorem Inv.tuple (I:Inv X pins σ H s) (h:SqT X.K H a xs):∃ its:List Value,Vals xs its/\IsTup s.heap a its.toArray/\xs.length<=sizeLine:=by
 rcases h with h | ⟨o,its,n,b,c,hs,d,r⟩
 ·obtain ⟨z,its,r,p⟩:=h.ok I.hok
  exact ⟨its,r,p,z⟩
 ·refine ⟨its.toList,r,⟨o,I.kIn a o b,c,n,by simpa using hs⟩,?_⟩
  have e:=r.length
  simp only [Array.length_toList] at e
  omega
theorem Inv.list_inj (I:Inv X pins σ H s) (h:SqL X.K H a xs) (h':SqL X.K H a ys):xs=ys:=by
 obtain ⟨its,r,⟨o,n,e,_,_,d⟩,_⟩:=I.list h
 obtain ⟨its',c,⟨o',g,b,_,_,d'⟩,_⟩:=I.list h'
 rw [e] at b;cases b
 rw [d] at d'
 injection d' with f _
 have:its=its':=by simpa using congrArg Array.toList f
 subst this
 exact r.inj c
end
abbrev Cx.wish (X:Cx) (E:Value->Shared->Prop):Cx:={ X with xe:=E }
abbrev Cx.nox (X:Cx):Cx:=X.wish fun _ _=>False
theorem Cx.Ok.wish {X:Cx} (ok:X.Ok) (E:Value->Shared->Prop):(X.wish E).Ok :=
 ⟨ok.mod,ok.kind,ok.glob,ok.blt,ok.above,ok.inj,ok.has,ok.cab,ok.hd,ok.frames,ok.stk,ok.exf,ok.bs,ok.bsz,ok.noex,ok.exfs,ok.funs,ok.frf⟩
theorem Cx.Ok.unwish {X:Cx} {E:Value->Shared->Prop} (ok:(X.wish E).Ok):X.Ok :=
 ⟨ok.mod,ok.kind,ok.glob,ok.blt,ok.above,ok.inj,ok.has,ok.cab,ok.hd,ok.frames,ok.stk,ok.exf,ok.bs,ok.bsz,ok.noex,ok.exfs,ok.funs,ok.frf⟩
section
variable {X:Cx} {pins:List (Addr × Obj)} {σ:St} {H:Hp} {s:Shared} {E:Value->Shared->Prop}
theorem Inv.wish (I:Inv X pins σ H s) (E:Value->Shared->Prop):Inv (X.wish E) pins σ H s:=⟨I.ok.wish E,I.os,I.bare,I.base,I.loc,I.cell,I.free,I.freeC,I.pin,I.hok,I.len⟩
theorem Inv.unwish (I:Inv (X.wish E) pins σ H s):Inv X pins σ H s:=⟨I.ok.unwish,I.os,I.bare,I.base,I.loc,I.cell,I.free,I.freeC,I.pin,I.hok,I.len⟩
theorem SP.unwish {D:Ends} {f:Flow} {b:Shared} (h:SP (X.wish E) pins D f b):SP X pins D f b:=by
 cases f with
 | next=>obtain ⟨a,H',I,q⟩:=h;exact ⟨a,H',I.unwish,q⟩
 | brk=>obtain ⟨a,H',I,q⟩:=h;exact ⟨a,H',I.unwish,q⟩
 | cont=>obtain ⟨a,H',I,q⟩:=h;exact ⟨a,H',I.unwish,q⟩
 | ret u=>obtain ⟨v,a,H',I,r,q⟩:=h;exact ⟨v,a,H',I.unwish,r,q⟩
theorem PSs.nox {st:List Stmt} {t:TS} (h:PSs X.nox st t):PSs X st t:=fun pins s σ H D I a =>
 aG0 (h pins s σ H D (I.wish _) a) (fun _ _ q=>q.unwish) fun _ _ z=>False.elim z
end
section
variable {X:Cx} {st:Stmt} {rest:List Stmt} {t u:TS} {e:Expr} {te:TE} {pos:Pos}
def arw:TS:=fun D σ H=>D.nx σ H
def tSeq (t u:TS):TS:=fun D σ H=>t { D with nx:=u D } σ H
theorem aa6:PSs X [] arw:=fun _ _ σ H _ I h=>wpAny_execs_nil ⟨σ,H,I,h⟩
theorem aae (d:PS X st t) (b:PSs X rest u):PSs X (st :: rest) (tSeq t u):=by
 intro pins s σ H D I h
 refine wpAny_execs_cons (thn (d pins s σ H { D with nx:=u D } I h) fun f s1 q=>?_)
 cases f with
 | next =>
  obtain ⟨a,H',c,q⟩:=q
  exact b pins s1 a H' D c q
 | ret v=>exact q
 | brk=>exact q
 | cont=>exact q
theorem aag (a:PS X st t):PSs X [st] t:=by
 intro pins s σ H D I h
 refine wpAny_execs_cons (thn (a pins s σ H D I h) fun f s1 q=>?_)
 cases f with
 | next=>exact wpAny_execs_nil q
 | ret v=>exact q
 | brk=>exact q
 | cont=>exact q
theorem Inv.quiet {pins:List (Addr × Obj)} {σ:St} {H:Hp} {s:Shared} (I:Inv X pins σ H s):interactive X.env=false:=by simp [interactive,I.ok.kind]
def arx (te:TE):TS:=fun D σ H=>te σ H fun _ H1=>D.nx σ H1
theorem abm (a:PE X e te) (hs:swapsWith e none pos.line X.env=pure false:=by rfl):PS X (.Expr e pos) (arx te):=by
 intro pins s σ H D I h
 exact wpAny_Expr_any (thn (a pins s σ H _ I h) fun v s1 ⟨x,d,c,f,b⟩=>⟨σ,d,c,b⟩) I.quiet hs
def tRet (te:TE):TS:=fun D σ H=>te σ H D.rt
theorem aax (a:PE X e te):PS X (.Return (some e) pos) (tRet te):=by
 intro pins s σ H D I h
 exact wpAny_Return_some (thn (a pins s σ H _ I h) fun v s1 ⟨x,f,c,d,b⟩=>⟨x,σ,f,c,d,b⟩)
def tIfS (c:TT) (t u:TS):TS:=fun D σ H=>c σ H fun b H1=>if b=true then t D σ H1 else u D σ H1
theorem abe {c:Expr} {a b:List Stmt} {i:TT} (l:PT X c i) (ha:PSs X a t) (hb:PSs X b u):PS X (.If c a b pos) (tIfS i t u):=by
 intro pins s σ H D I h
 refine wpAny_If (thn (l pins s σ H _ I h) fun d s1 ⟨j,f,g⟩=>?_)
 cases d with
 | true=>exact ha pins s1 σ j D f g
 | false=>exact hb pins s1 σ j D f g
def an5:TS:=fun _ _ _=>False
theorem agc:PS X st an5:=fun _ _ _ _ _ _ h=>h.elim
theorem ae3 {sts:List Stmt}:PSs X sts an5:=fun _ _ _ _ _ _ h=>h.elim
end
abbrev TG:=V->St->Hp->(St->Hp->Prop)->Prop
abbrev TGs:=List V->St->Hp->(St->Hp->Prop)->Prop
def PG (X:Cx) (target:Expr) (t:TG):Prop :=
 ∀ (pins:List (Addr × Obj)) (s:Shared) (σ:St) (H:Hp) (v:V) (u:Value) (Q:St->Hp->Prop),Inv X pins σ H s->RelV v u->t v σ H Q ->
  wpAny (model X.prog X.w) X.A (assign target X.env u) (fun _ s'=>∃ σ' H',Inv X pins σ' H' s'/\Q σ' H') X.xe s
def PGs (X:Cx) (ts:List Expr) (t:TGs):Prop :=
 ∀ (pins:List (Addr × Obj)) (s:Shared) (σ:St) (H:Hp) (vs:List V) (us:List Value) (Q:St->Hp->Prop),Inv X pins σ H s->Vals vs us->t vs σ H Q ->
  wpAny (model X.prog X.w) X.A (assignInOrder ((assignEach ts X.env).map (·.2)) us) (fun _ s'=>∃ σ' H',Inv X pins σ' H' s'/\Q σ' H') X.xe s
abbrev TSet:=V->V->V->Hp->(Hp->Prop)->Prop
def PSet (X:Cx) (t:TSet):Prop :=
 ∀ (pins:List (Addr × Obj)) (s:Shared) (σ:St) (H:Hp) (o i v:V) (ov iv u:Value) (Q:Hp->Prop),Inv X pins σ H s->RelV o ov->RelV i iv->RelV v u->t o i v H Q ->
  wpAny (model X.prog X.w) X.A (setItem ov iv u) (fun _ s'=>∃ H',Inv X pins σ H' s'/\Q H') X.xe s
section
variable {X:Cx} {pos:Pos}
def aav (i:Nat):TG:=fun v σ H Q=>Q (σ.set i (some v)) H
theorem aan {i:Nat} {x:Str} (c:X.N.Nodup) (hi:X.N[i]?=some x) (a:Loc X.env.scope x) (hf:X.fn x=true\/X.env.scope.names.lookup x=some .local:=by first | exact .inl rfl | exact .inr rfl | assumption):PG X (.Name x pos) (aav i):=by
 intro pins s σ H v u Q I r h
 exact wpAny_assign_Name (agb I c hi a r (fun d b=>⟨_,H,b,h⟩) hf)
def gNil:TGs:=fun vs σ H Q=>vs=[]/\Q σ H
def abz (t:TG) (u:TGs):TGs:=fun vs σ H Q=>∃ v r,vs=v :: r/\t v σ H fun σ' H'=>u r σ' H' Q
theorem acn:PGs X [] gNil:=by
 intro pins s σ H vs us Q I r h
 obtain ⟨e,h⟩:=h
 subst e
 cases r
 exact assignInOrder_nil ⟨σ,H,I,h⟩
theorem aa4 {e:Expr} {es:List Expr} {t:TG} {u:TGs} (b:PG X e t) (d:PGs X es u)
  (hs:(assignEach (e :: es) X.env).map (·.2)=assign e X.env :: (assignEach es X.env).map (·.2):=by rfl):PGs X (e :: es) (abz t u):=by
 intro pins s σ H vs us Q I r h
 obtain ⟨v,j,g,h⟩:=h
 subst g
 cases r with
 | cons r rr =>
  rw [hs]
  refine assignInOrder_cons (thn (b pins s σ H _ _ _ I r h) fun _ s1 ⟨a,i,c,f⟩=>?_)
  exact d pins s1 a i _ _ Q c rr f
def gTup (K:Frag) (n:Nat) (t:TGs):TG:=fun v σ H Q=>∃ a xs,v=.ref a/\SqT K H a xs/\xs.length=n/\t xs σ H Q
theorem adn {es:List Expr} {k:Nat} {t:TGs} {n:Nat} (i:X.calm=true) (h:PGs X es t)
  (hn:(assignEach es X.env).length=n:=by rfl) (d:(assignEach es X.env).findIdx? (·.1)=none:=by rfl):PG X (.Tuple es k pos) (gTup X.K n t):=by
 intro pins s σ H v u Q I r c
 obtain ⟨a,xs,l,p,j,c⟩:=c
 subst l
 cases r
 obtain ⟨its,f,q,w⟩:=I.tuple p
 refine assign_Tuple_tuple (I.ok.hd i) q (by simp [hn,← j,f.length]) d fun h' m=>?_
 have g:Inv X pins σ H { s with heap:=h' }:=I.kept (t':=s.toks) fun b o e=>m b o (az0 (aF5 e)) e
 exact h pins _ σ H xs _ Q g (by simpa using f) c
def gSub (to ti:TE) (t:TSet):TG:=fun v σ H Q=>to σ H fun o H1=>ti σ H1 fun i H2=>t o i v H2 fun H3=>Q σ H3
theorem an6 {o i:Expr} {to c:TE} {t:TSet} (d:PE X o to) (hi:PE X i c) (hs:PSet X t)
  (ha:∀ v,assign (.Subscript o i pos) X.env v=(do
   let a ← holding [v] (eval o X.env)
   let b ← holding [v,a] (eval i X.env)
   standAt pos
   holding [v,a,b] (setItem a b v)
   release [v,a,b] []):=by intro _;rfl):PG X (.Subscript o i pos) (gSub to c t):=by
 intro pins s σ H v u Q I r h
 rw [ha]
 refine aF2 (aF8 (thn (d pins s σ H _ I h) fun a s1 ⟨x,p,f,n,l⟩=>?_))
 refine aF2 (aF8 (thn (hi pins s1 σ p _ f l) fun b s2 ⟨y,H2,q,w,g⟩=>?_))
 refine aF2 (wpAny_standAt (aF2 (aF8 (thn (hs pins s2 σ H2 x y v a b u _ q n w r g) fun _ z ⟨H3,m,j⟩=>?_))))
 exact wpAny_release ⟨σ,H3,m,j⟩
def tAsg (te:TE) (g:TG):TS:=fun D σ H=>te σ H fun x H1=>g x σ H1 D.nx
theorem agu {tg e:Expr} {te:TE} {g:TG} (d:PE X e te) (a:PG X tg g) (hs:swapsWithSole [tg] e pos.line X.env=pure false:=by rfl) (j:swappedStores [tg] e X.env=pure none:=by rfl)
  (b:(assignEach [tg] X.env).map (·.2)=[assign tg X.env]:=by rfl):PS X (.Assign [tg] e pos) (tAsg te g):=by
 intro pins s σ H D I h
 refine wpAny_Assign_stores (thn (d pins s σ H _ I h) fun v s1 ⟨x,l,c,i,f⟩=>?_) hs j
 rw [b]
 exact thn (a pins s1 σ l x v _ c i f) fun _ s2 q=>q
theorem aam {i:Nat} {x:Str} {e:Expr} {te:TE} {a:Pos} (m:X.N.Nodup) (hi:X.N[i]?=some x) (g:Loc X.env.scope x) (c:PE X e te) (hs:swapsWith e (some (.Name x a)) pos.line X.env=pure false:=by rfl) (hf:X.fn x=true\/X.env.scope.names.lookup x=some .local:=by first | exact .inl rfl | exact .inr rfl | assumption) :
  PS X (.Assign [.Name x a] e pos) (tAsg te (aav i)):=by
 intro pins s σ H D I h
 refine wpAny_Assign_Name (thn (c pins s σ H _ I h) fun v s1 ⟨y,j,b,f,d⟩=>?_) hs
 exact agb b m hi g f (fun s2 l=>⟨_,j,l,d⟩) hf
end
section
variable {X:Cx} {pos:Pos}
def an7 (c:TT) (tb:TS):TS:=fun D σ H=>∃ W:Nat->St->Hp->Prop,(∃ m,W m σ H)/\∀ m σ H,W m σ H ->
 c σ H fun b H1=>if b=true then ∃ N:St->Hp->Prop,(∀ σ' H',N σ' H'->∃ m',m' < m/\W m' σ' H')/\tb { D with nx:=N,ct:=N,bk:=D.nx } σ H1 else D.nx σ H1
theorem aj6 {c:Expr} {body:List Stmt} {x:TT} {u:TS} (r:PassesOwn (model X.prog X.w) X.A X.env X.xe) (F:PT X c x) (hb:PSs X body u):PS X (.While c body [] pos) (an7 x u):=by
 intro pins s σ H D I h
 obtain ⟨W,⟨G,K⟩,g⟩:=h
 refine wpAny_While (codeAny_whileLoop (fun n C=>∃ i H',Inv X pins i H' C/\W n i H') ?_ G ⟨σ,H,I,K⟩)
 rintro n s1 ⟨d,y,E,J⟩
 refine wpAny_passesOwn r (thn (F pins s1 d y _ E (g n d y J)) fun b s2 ⟨H2,z,j⟩=>?_)
 cases b with
 | true =>
  obtain ⟨N,B,j⟩:=j
  rw [aC1 rfl]
  refine wpAny_passesOwn r (thn (hb pins s2 d H2 _ z j) fun f L l=>?_)
  cases f with
  | next =>
   obtain ⟨a,H3,p,o⟩:=l
   obtain ⟨m,hm,q⟩:=B a H3 o
   exact ⟨m,hm,a,H3,p,q⟩
  | cont =>
   obtain ⟨a,H3,p,o⟩:=l
   obtain ⟨m,hm,q⟩:=B a H3 o
   exact ⟨m,hm,a,H3,p,q⟩
  | brk=>exact l
  | ret v=>exact l
 | false =>
  rw [aC2 ay4]
  exact wpAny_execs_nil ⟨d,H2,z,j⟩
end
structure It where
 go:Nat->Hp->Prop
 yld:Nat->Hp->V->Hp->Prop
 stop:Nat->Hp->Prop
def FpOk (X:Cx) (pins:List (Addr × Obj)) (H:Hp) (b:Addr):Prop :=
 H b=none/\b ≠ X.env.locals/\b ∉ X.fs/\(b∈X.ex\/X.s₀.heap.objs.size<=b)/\(∀ x c,X.env.cells.lookup x=some c->c ≠ b)/\∀ p∈X.pn ++ pins,p.1 ≠ b
theorem Inv.fpOk {X:Cx} {pins:List (Addr × Obj)} {σ:St} {H H':Hp} {s:Shared} {b:Addr} (I:Inv X pins σ H s) (hb:s.heap.objs.size<=b) (hn:H' b=none):FpOk X pins H' b:=by
 refine ⟨hn,Nat.ne_of_gt (az9 I.lt hb),I.nofs hb,.inr (aA4 I.sz hb),fun x c e z=>?_,fun p a z=>?_⟩
 ·obtain ⟨v,q⟩:=I.cell x c e
  exact absurd (az9 q.lt (by rw [z];exact hb)) (aC9 _)
 ·exact absurd (az9 (aF5 (I.pin p a).1) (by rw [z];exact hb)) (aC9 _)
structure Turn (P:Program) (w:World) (K:Frag) (tg:Expr) (J:It) (fp:List Addr) (it:Addr) (tn:Nat->Heap->Prop):Prop where
 mem:it∈fp
 obj:∀ i h,tn i h->∀ b∈fp,∃ o,h.get? b=some o/\∀ v,o.data ≠ .cell v
 keep:∀ i h h',tn i h->(∀ b∈fp,∀ o,h.get? b=some o->h'.get? b=some o)->tn i h'
 item:∀ (X:Cx),X.prog=P->X.w=w->X.K=K->X.calm=true->∀ (i:Nat) (pins:List (Addr × Obj)) (s:Shared) (σ:St) (H:Hp) (E:Value->Shared->Prop),Inv X pins σ H s->(∀ b∈fp,FpOk X pins H b)->tn i s.heap->J.go i H ->
  wpAny (model P w) X.A (pyNext (.ref it)) (fun r s1=>∃ u,r=some u /\
   wpAny (model P w) X.A (letOwnedTupleGo tg (.ref it) u) (fun _ s2=>∃ x H',Inv X pins σ H' s2/\RelV x u/\J.yld i H x H'/\tn (i+1) s2.heap/\∀ b∈fp,H' b=none) E s1) E s
 done:∀ (X:Cx),X.prog=P->X.w=w->X.K=K->X.calm=true->∀ (i:Nat) (pins:List (Addr × Obj)) (s:Shared) (σ:St) (H:Hp) (E:Value->Shared->Prop),Inv X pins σ H s->(∀ b∈fp,FpOk X pins H b)->tn i s.heap->J.stop i H ->
  wpAny (model P w) X.A (pyNext (.ref it)) (fun r s1=>r=none/\Inv X pins σ H s1) E s
 self:∀ (A:Around) (i:Nat) (s:Shared) (Q:Value->Shared->Prop) (E:Value->Shared->Prop),tn i s.heap->Q (.ref it) s->wpAny (model P w) A (pyIter (.ref it)) Q E s
abbrev TI:=St->Hp->(It->Hp->Prop)->Prop
def PIE (X:Cx) (pins:List (Addr × Obj)) (σ:St) (tg:Expr) (R:It->Hp->Prop) (itv:Value) (s2:Shared):Prop :=
 ∃ (it:Addr) (fp:List Addr) (tn:Nat->Heap->Prop) (J:It) (H':Hp),itv=.ref it/\Inv X pins σ H' s2/\Turn X.prog X.w X.K tg J fp it tn/\tn 0 s2.heap/\(∀ b∈fp,FpOk X pins H' b)/\R J H'
def PI (X:Cx) (tg iter:Expr) (wi:TI):Prop :=
 ∀ (pins:List (Addr × Obj)) (s:Shared) (σ:St) (H:Hp) (R:It->Hp->Prop),Inv X pins σ H s->wi σ H R ->
  wpAny (model X.prog X.w) X.A (eval iter X.env) (fun v s1=>wpAny (model X.prog X.w) X.A (pyIter v) (PIE X pins σ tg R) X.xe s1) X.xe s
theorem am4 {M:Model} {A:Around} {E:Value->Shared->Prop} {s:Shared} {tg:Expr} {it:Addr} {u:Value} {o:Obj} {n:String} {vs:Array Value} {Q:Unit->Shared->Prop} (c:s.heap.get? it=some o) (b:o.cls=.type n) (hd:o.data=.fields vs)
  (hn:["enumerate","zip","dict_itemiterator","dict_reverseitemiterator","odict_iterator","itertools.zip_longest","itertools.pairwise"].contains n=false) (a:Q () s):wpAny M A (letOwnedTupleGo tg (.ref it) u) Q E s:=by
 unfold letOwnedTupleGo
 cases tg <;> first
  | exact aF3 a
  | (cases u <;> first
    | exact aF3 a
    | (refine aF2 (wpAny_load c ?_)
       rw [b,hd]
       show wpAny M A (if (["enumerate","zip","dict_itemiterator","dict_reverseitemiterator","odict_iterator","itertools.zip_longest","itertools.pairwise"].contains n && vs[0]? == some (rawInt _))=true then _ else _) Q E s
       rw [aC2 (by intro h;rw [hn,Bool.false_and] at h;cases h)]
       exact aF3 a))
def Itl (K:Frag) (a:Addr):It :=
 ⟨fun i H=>∃ xs x,SqL K H a xs/\xs[i]?=some x,fun i H x H'=>H'=H/\∀ xs,SqL K H a xs->xs[i]?=some x,fun i H=>∃ xs,SqL K H a xs/\xs.length<=i⟩
def Itr (lo:Int) (n:Nat):It:=⟨fun i _=>i < n,fun i H x H'=>H'=H/\x=.int (lo+i),fun i _=>n<=i⟩
theorem an8 {P:Program} {w:World} {K:Frag} {tg:Expr} (a it:Addr):Turn P w K tg (Itl K a) [it] it (fun i h=>h.IsListIter it a i) where
 mem:=by simp
 obj:=fun i h st b hb=>by
  have e:b=it:=by simpa using hb
  subst e
  obtain ⟨o,e,c,d⟩:=st
  exact ⟨o,e,fun v z=>by rw [d] at z;cases z⟩
 keep:=fun i h h' st k=>st.at fun o e=>k it (by simp) o e
 item:=by
  intro X B r n C i pins s σ H E I hf st l
  subst B r n
  obtain ⟨xs,x,f,y⟩:=l
  obtain ⟨its,j,p,F⟩:=I.list f
  obtain ⟨u,L,D⟩:=j.get y
  obtain ⟨m,f1,M,A,g,q⟩:=hf it (by simp)
  refine wpAny_pyNext_list_item st p.isList (x:=u) (by simpa using L) fun h' st' sb=>?_
  have G:Inv X pins σ H { s with heap:=h' }:=I.turned (t':=s.toks) (fun b o hb e=>(sb.2 b hb).trans e) m f1 A g q
  obtain ⟨o,e,c,d⟩:=id st'
  exact ⟨u,rfl,am4 (s:={ s with heap:=h' }) e c d (by decide) ⟨x,H,G,D,⟨rfl,fun ys J=>by rw [I.list_inj J f];exact y⟩,st',fun b hb=>(hf b hb).1⟩⟩
 done:=by
  intro X B r n C i pins s σ H E I hf st l
  subst B r n
  obtain ⟨xs,f,y⟩:=l
  obtain ⟨its,j,p,F⟩:=I.list f
  obtain ⟨m,f1,M,A,g,q⟩:=hf it (by simp)
  have O:=j.length
  exact wpAny_pyNext_list_end (I.ok.hd C) st p.isList (by simp;omega) fun h' N=>⟨rfl,I.turned (t':=s.toks) (fun b o hb e=>N b o hb e) m f1 A g q⟩
 self:=fun _ _ _ _ _ st h=>wpAny_pyIter_listiter st h
theorem am5 {P:Program} {w:World} {K:Frag} {tg:Expr} (it:Addr) (lo:Int) (n:Nat):Turn P w K tg (Itr lo n) [it] it (fun i h=>IsRangeIter h it (lo+(i:Nat) * 1) ((n:Int) - (i:Nat)) 1) where
 mem:=by simp
 obj:=fun i h st b hb=>by
  have e:b=it:=by simpa using hb
  subst e
  exact ⟨_,st,fun v z=>by
   have B:Data.fields _=Data.cell v:=z
   cases B⟩
 keep:=fun i h h' st k=>k it (by simp) _ st
 item:=by
  intro X p l f g i pins s σ H E I hf st c
  subst p l f
  obtain ⟨d,f1,y,m,a,j⟩:=hf it (by simp)
  have W:=Walks.range (prog:=X.prog) (w:=X.w) (I.ok.hd g) it lo 1 n
  refine W.item i s _ _ c st fun v h' q r st' x=>?_
  obtain ⟨t,rfl⟩:=r
  have u:Inv X pins σ H { s with heap:=h',toks:=q }:=I.turned (fun b o hb e=>x b o (by simpa using hb) e) d f1 m a j
  refine ⟨_,rfl,am4 (s:={ s with heap:=h',toks:=q }) (n:="range_iterator") st' rfl rfl (by decide) ⟨.int (lo+i),H,u,⟨t,?_⟩,⟨rfl,rfl⟩,st',fun b hb=>(hf b hb).1⟩⟩
  rw [Int.mul_one]
 done:=by
  intro X p l f g i pins s σ H E I hf st c
  subst p l f
  obtain ⟨d,f1,y,m,a,j⟩:=hf it (by simp)
  exact wpAny_pyNext_range_end (I.ok.hd g) st (by have:n<=i:=c;omega) fun h' A=>⟨rfl,I.turned (t':=s.toks) (fun b o hb e=>A b o hb e) d f1 m a j⟩
 self:=fun _ _ _ _ _ st h=>wpAny_pyIter_rangeiter st h
section
variable {X:Cx} {tg:Expr}
def am6 (K:Frag) (tl:TE):TI:=fun σ H R=>tl σ H fun x H1=>∃ a,x=.ref a/\(∃ xs,SqL K H1 a xs)/\R (Itl K a) H1
theorem abd {l:Expr} {tl:TE} (g:PE X l tl):PI X tg l (am6 X.K tl):=by
 intro pins s σ H R I h
 refine thn (g pins s σ H _ I h) fun v s1 ⟨x,j,c,f,d⟩=>?_
 obtain ⟨a,e,⟨xs,i⟩,q⟩:=d
 subst e
 cases f
 obtain ⟨its,n,p,m⟩:=c.list i
 refine wpAny_pyIter_list p.isList ?_
 refine ⟨s1.heap.objs.size,[s1.heap.objs.size],_,_,j,rfl,c.kept (t':=s1.toks) fun b o e=>aF4 _ e,an8 a _,⟨_,aF6 _ rfl,rfl,rfl⟩,fun b hb=>?_,q⟩
 have e:b=s1.heap.objs.size:=by simpa using hb
 subst e
 exact c.fpOk (ay1 _) (c.hok.fresh (ay1 _))
theorem aj7 {pins:List (Addr × Obj)} {σ:St} {H:Hp} {s:Shared} {R:It->Hp->Prop} {E:Value->Shared->Prop} {lo hi:Int} {t u v:Tok} {c:Nat} (I:Inv X pins σ H s) (d : -(2 ^ 62)<=lo) (h:lo < 2 ^ 62) (f : -(2 ^ 62)<=hi) (j:hi < 2 ^ 62)
  (q:R (Itr lo (hi - lo).toNat) H):wpAny (model X.prog X.w) X.A (pyIter (.ref s.heap.objs.size)) (PIE X pins σ tg R) E { s with heap:=s.heap.push { cls:=.type "range",data:=.fields #[.int lo t,.int hi u,.int 1 v] },toks:=c }:=by
 refine wpAny_pyIter_range (IsRange.new ..) (small_one d h f j) ?_
 have a:Inv X pins σ H { s with heap:=s.heap.push { cls:=.type "range",data:=.fields #[.int lo t,.int hi u,.int 1 v] },toks:=c }:=I.kept fun b o e=>aF4 _ e
 refine ⟨(s.heap.push { cls:=.type "range",data:=.fields #[.int lo t,.int hi u,.int 1 v] }).objs.size,[(s.heap.push { cls:=.type "range",data:=.fields #[.int lo t,.int hi u,.int 1 v] }).objs.size],_,_,H,rfl,
  a.kept (t':=c) fun b o e=>aF4 _ e,am5 _ lo (hi - lo).toNat,?_,fun b hb=>?_,q⟩
 ·have i:lo+((0:Nat):Int) * 1=lo:=by simp
  have g:(((hi - lo).toNat:Nat):Int) - ((0:Nat):Int)=Builtin.Range.rangeSize lo hi 1:=by rw [rangeSize_one];split <;> omega
  show IsRangeIter _ _ (lo+((0:Nat):Int) * 1) ((((hi - lo).toNat:Nat):Int) - ((0:Nat):Int)) 1
  rw [i,g]
  exact aF6 _ rfl
 ·have e:b=(s.heap.push { cls:=.type "range",data:=.fields #[.int lo t,.int hi u,.int 1 v] }).objs.size:=by simpa using hb
  subst e
  exact a.fpOk (ay1 _) (a.hok.fresh (ay1 _))
def ary (ta:TA):TI:=fun σ H R=>ta σ H fun vs H1=>∃ j:Int,vs=[.int j]/\-(2 ^ 62)<=j/\j < 2 ^ 62/\R (Itr 0 j.toNat) H1
def arz (ta:TA):TI:=fun σ H R=>ta σ H fun vs H1=>∃ i j:Int,vs=[.int i,.int j]/\(-(2 ^ 62)<=i/\i < 2 ^ 62/\-(2 ^ 62)<=j/\j < 2 ^ 62)/\R (Itr i (j - i).toNat) H1
theorem abq {a:Expr} {c:TA} {p pos:Pos} (d:Gl X "range") (hm:X.mg "range" = none) (ha:PA X [a] c) (hs:starEach [a] X.env=[(false,eval a X.env)]:=by rfl):PI X tg (.Call (.Name "range" p) [a] [] pos) (ary c):=by
 intro pins s σ H R I h
 refine Call_ (adm I d hm boot_range (PyProof.Rows.callWith_type1 (thn (ha pos pins s σ H _ I h) fun us s1 ⟨vs,l,f,i,b⟩=>?_) hs rfl))
 obtain ⟨j,e,b,g,q⟩:=b
 subst e
 cases i with
 | cons r rr =>
  cases rr
  obtain ⟨t,rfl⟩:=r
  exact call_range_1 (aj7 f (by omega) (by omega) b g (by simpa using q))
theorem an9 {a b:Expr} {f:TA} {p pos:Pos} (g:Gl X "range") (hm:X.mg "range" = none) (ha:PA X [a,b] f) (hs:starEach [a,b] X.env=[(false,eval a X.env),(false,eval b X.env)]:=by rfl) (c:starEach [b] X.env=[(false,eval b X.env)]:=by rfl) :
  PI X tg (.Call (.Name "range" p) [a,b] [] pos) (arz f):=by
 intro pins s σ H R I h
 refine Call_ (adm I g hm boot_range (PyProof.Rows.callWith_type1 (thn (ha pos pins s σ H _ I h) fun us s1 ⟨vs,v,l,o,d⟩=>?_) (by rw [hs,c]) (by rw [c];rfl)))
 obtain ⟨i,j,e,⟨d,m,n,u⟩,q⟩:=d
 subst e
 cases o with
 | cons r rr =>
  cases rr with
  | cons r' rr =>
   cases rr
   obtain ⟨t,rfl⟩:=r
   obtain ⟨t',rfl⟩:=r'
   exact call_range_2 (aj7 l d m n u q)
def tFor (wi:TI) (g:TG) (tb:TS):TS:=fun D σ H=>wi σ H fun J H1=>∃ W:Nat->Nat->St->Hp->Prop,(∃ m,W 0 m σ H1)/\∀ i m σ H,W i m σ H ->
 (J.stop i H/\D.nx σ H)\/(J.go i H/\∃ N:St->Hp->Prop,(∀ σ' H',N σ' H'->∃ m',m' < m/\W (i+1) m' σ' H')/\∀ x H',J.yld i H x H'->g x σ H' fun σ2 H2=>tb { D with nx:=N,ct:=N,bk:=D.nx } σ2 H2)
def ady (fp:List Addr) (h:Heap):List (Addr × Obj):=fp.filterMap fun b=>(h.get? b).map fun o=>(b,o)
theorem ab5 {fp:List Addr} {h:Heap} {b:Addr} {o:Obj} (hb:b∈fp) (e:h.get? b=some o):(b,o)∈ady fp h:=List.mem_filterMap.mpr ⟨b,hb,by rw [e];rfl⟩
theorem aoa {fp:List Addr} {h:Heap} {p:Addr × Obj} (a:p∈ady fp h):p.1∈fp/\h.get? p.1=some p.2:=by
 obtain ⟨b,hb,e⟩:=List.mem_filterMap.mp a
 cases q:h.get? b with
 | none=>rw [q] at e;cases e
 | some o =>
  rw [q] at e
  have c:(b,o)=p:=aA0 e
  subst c
  exact ⟨hb,q⟩
theorem Inv.pinned {pins:List (Addr × Obj)} {σ:St} {H:Hp} {s:Shared} {fp:List Addr} (I:Inv X pins σ H s) (hf:∀ b∈fp,FpOk X pins H b) (f:∀ b∈fp,∃ o,s.heap.get? b=some o/\∀ v,o.data ≠ .cell v):Inv X (pins ++ ady fp s.heap) σ H s :=
 I.pins_of fun p c=>(ay2.mp c).elim (fun z=>I.pin p (ay7 _ z)) fun z=>by
  obtain ⟨hb,e⟩:=aoa z
  obtain ⟨g,f1,h,_⟩:=hf p.1 hb
  obtain ⟨o,a,d⟩:=f p.1 hb
  rw [e] at a;cases a
  exact ⟨e,g,f1,h,d⟩
theorem Inv.unpinned {pins a:List (Addr × Obj)} {σ:St} {H:Hp} {s:Shared} (I:Inv X (pins ++ a) σ H s):Inv X pins σ H s:=I.pins_of fun p b=>I.pin p (ay7 _ (aA1 _ b))
theorem abp {iter:Expr} {body:List Stmt} {wi:TI} {g:TG} {Y:TS} {pos:Pos} (F:PassesOwn (model X.prog X.w) X.A X.env X.xe) (hc:X.calm=true) (hi:PI X tg iter wi) (hg:PG X tg g) (hb:PSs X body Y)
  (hs:∀ x,foldedSetIterable iter X.env x=pure x:=by intro _;rfl):PS X (.For tg iter body [] pos) (tFor wi g Y):=by
 intro pins s σ H D I h
 refine wpAny_For (thn (hi pins s σ H _ I h) fun v s1 h1=>thn h1 fun a0 s2 h2=>?_) hs
 obtain ⟨it,fp,tn,J,H2,e,I2,T,P,S,W,⟨m0,w0⟩,C⟩:=h2
 subst e
 -- what stays true of the iterator's objects through the loop
 have l:∀ {H':Hp},(∀ b∈fp,H' b=none)->∀ b∈fp,FpOk X pins H' b:=fun hn b hb=>⟨hn b hb,(S b hb).2⟩
 refine codeAny_forLoop_any (fun n Z=>∃ i y H',Inv X pins y H' Z/\tn i Z.heap/\(∀ b∈fp,H' b=none)/\W i n y H') ?_ m0 ⟨0,σ,H2,I2,P,fun b hb=>(S b hb).1,w0⟩
 rintro n s3 ⟨i,q,H3,U,G,E,w3⟩
 rcases C i n q H3 w3 with ⟨stop,qn⟩ | ⟨go,N,hN,step⟩
 ·refine wpAny_passesOwn F (thn (T.done X rfl rfl rfl hc i pins s3 q H3 X.xe U (l E) G stop) fun r s4 ⟨Q,I4⟩=>?_)
  subst Q
  exact wpAny_execs_nil ⟨q,H3,I4,qn⟩
 ·refine wpAny_passesOwn F (thn (T.item X rfl rfl rfl hc i pins s3 q H3 X.xe U (l E) G go) fun r s4 ⟨u,Q,h4⟩=>?_)
  subst Q
  refine wpAny_passesOwn F (thn h4 fun _ s5 ⟨x,H5,I5,r5,y5,B,O⟩=>?_)
  have R:=I5.pinned (l O) (T.obj _ _ B)
  refine wpAny_passesOwn F (thn (hg _ s5 q H5 x u _ R r5 (step x H5 y5)) fun _ s6 ⟨M,H6,I6,q6⟩=>?_)
  refine wpAny_passesOwn F (thn (hb _ s6 M H6 _ I6 q6) fun f L z=>?_)
  have p:∀ {a:St} {j:Hp},Inv X (pins ++ ady fp s5.heap) a j L->N a j->∃ m,m < n/\∃ i y H',Inv X pins y H' L/\tn i L.heap/\(∀ b∈fp,H' b=none)/\W i m y H':=fun {a j} c K=>by
   obtain ⟨m',hm,w7⟩:=hN a j K
   refine ⟨m',hm,i+1,a,j,c.unpinned,T.keep _ _ _ B fun b hb o e=>(c.pin (b,o) (ay7 _ (ay7 _ (ab5 hb e)))).1,fun b hb=>?_,w7⟩
   obtain ⟨o,e,d⟩:=T.obj _ _ B b hb
   exact (c.pin (b,o) (ay7 _ (ay7 _ (ab5 hb e)))).2.1
  cases f with
  | next=>obtain ⟨a,j,c,K⟩:=z;exact p c K
  | cont=>obtain ⟨a,j,c,K⟩:=z;exact p c K
  | brk=>obtain ⟨a,j,c,z⟩:=z;exact ⟨a,j,c.unpinned,z⟩
  | ret v=>obtain ⟨x7,a,j,c,r7,z⟩:=z;exact ⟨x7,a,j,c.unpinned,r7,z⟩
end
abbrev R2:=V->V->Hp->VK->Prop
def OpR (X:Cx) (f:Value->Value->Sem Value) (r:R2):Prop :=
 ∀ (pins:List (Addr × Obj)) (s:Shared) (σ:St) (H:Hp) (x y:V) (v u:Value) (Q:VK),Inv X pins σ H s->RelV x v->RelV y u->r x y H Q ->
  wpAny (model X.prog X.w) X.A (f v u) (EP X pins σ Q) X.xe s
def UnR (X:Cx) (f:Value->Sem Value) (r:V->Hp->VK->Prop):Prop :=
 ∀ (pins:List (Addr × Obj)) (s:Shared) (σ:St) (H:Hp) (x:V) (v:Value) (Q:VK),Inv X pins σ H s->RelV x v->r x H Q ->
  wpAny (model X.prog X.w) X.A (f v) (EP X pins σ Q) X.xe s
def abh (X:Cx) (f:Value) (r:List V->Hp->VK->Prop):Prop :=
 ∀ (pins:List (Addr × Obj)) (s:Shared) (σ:St) (H:Hp) (xs:List V) (us:List Value) (Q:VK),Inv X pins σ H s->Vals xs us->r xs H Q ->
  wpAny (model X.prog X.w) X.A (call f us) (EP X pins σ Q) X.xe s
def TruR (X:Cx) (r:V->Hp->(Bool->Hp->Prop)->Prop):Prop :=
 ∀ (pins:List (Addr × Obj)) (s:Shared) (σ:St) (H:Hp) (x:V) (v:Value) (Q:Bool->Hp->Prop),Inv X pins σ H s->RelV x v->r x H Q ->
  wpAny (model X.prog X.w) X.A (truthy v) (TP X pins σ Q) X.xe s
def tOp (r:R2) (ta tb:TE):TE:=fun σ H Q=>ta σ H fun x H1=>tb σ H1 fun y H2=>r x y H2 Q
def tUn (r:V->Hp->VK->Prop) (ta:TE):TE:=fun σ H Q=>ta σ H fun x H1=>r x H1 Q
def rI (C:Int->Int->Prop) (g:Int->Int->V):R2:=fun x y H Q=>∃ i j,x=.int i/\y=.int j/\C i j/\Q (g i j) H
def rI0 (g:Int->Int->V):R2:=fun x y H Q=>∃ i j,x=.int i/\y=.int j/\Q (g i j) H
def rU (g:Int->V):V->Hp->VK->Prop:=fun x H Q=>∃ i,x=.int i/\Q (g i) H
section
variable {X:Cx} {a b c:Expr} {ta tb tc:TE} {pos:Pos}
theorem binT (ha:PE X a ta) (hb:PE X b tb) {pins:List (Addr × Obj)} {s:Shared} {σ:St} {H:Hp} {R:V->V->Hp->Prop} (I:Inv X pins σ H s)
  (h:ta σ H fun x g=>tb σ g fun y H2=>R x y H2) {Q:Value->Shared->Prop} {f:Value->Value->Sem Value}
  (hf:∀ v u s2 x y H2,Inv X pins σ H2 s2->RelV x v->RelV y u->R x y H2->wpAny (model X.prog X.w) X.A (f v u) Q X.xe s2) :
  wpAny (model X.prog X.w) X.A (eval a X.env) (fun v c=>wpAny (model X.prog X.w) X.A (eval b X.env) (fun u d=>wpAny (model X.prog X.w) X.A (f v u) Q X.xe d) X.xe c) X.xe s:=by
 refine thn (ha pins s σ H _ I h) fun v s1 ⟨x,g,i,m,l⟩=>?_
 refine thn (hb pins s1 σ g _ i l) fun u s2 ⟨y,H2,n,o,j⟩=>?_
 exact hf v u s2 x y H2 n m o j
theorem aad {op:Operator} {r:R2} (c:OpR X (binaryOp op) r) (ha:PE X a ta) (hb:PE X b tb):PE X (.BinOp a op b pos) (tOp r ta tb):=by
 intro pins s σ H Q I h
 exact wpAny_BinOp (binT ha hb I h fun v u s2 x y H2 g d f q=>c pins s2 σ H2 x y v u Q g d f q)
theorem ar0 {op:UnaryOp} {r:V->Hp->VK->Prop} (c:UnR X (unaryOp op) r) (ha:PE X a ta):PE X (.UnaryOp op a pos) (tUn r ta):=by
 intro pins s σ H Q I h
 exact UnaryOp_ (thn (ha pins s σ H _ I h) fun v s1 ⟨x,g,d,f,b⟩=>c pins s1 σ g x v Q d f b)
theorem opI {f:Value->Value->Sem Value} {C:Int->Int->Prop} {g:Int->Int->Int}
  (a:∀ (i j:Int) (t u:Tok) (s:Shared) (Q:Value->Shared->Prop) (E:Value->Shared->Prop),C i j->Q (.int (g i j) s.toks) { s with toks:=s.toks+1 }->wpAny (model X.prog X.w) X.A (f (.int i t) (.int j u)) Q E s) :
  OpR X f (rI C fun i j => .int (g i j)):=by
 intro pins s σ H x y v u Q I b d h
 obtain ⟨i,j,rfl,rfl,c,q⟩:=h
 obtain ⟨t,rfl⟩:=b
 obtain ⟨t',rfl⟩:=d
 exact a i j t t' s _ _ c ⟨.int (g i j),H,I.tok _,⟨_,rfl⟩,q⟩
theorem opI0 {f:Value->Value->Sem Value} {g:Int->Int->Int}
  (a:∀ (i j:Int) (t u:Tok) (s:Shared) (Q:Value->Shared->Prop) (E:Value->Shared->Prop),Q (.int (g i j) s.toks) { s with toks:=s.toks+1 }->wpAny (model X.prog X.w) X.A (f (.int i t) (.int j u)) Q E s) :
  OpR X f (rI0 fun i j => .int (g i j)):=by
 intro pins s σ H x y v u Q I b c h
 obtain ⟨i,j,rfl,rfl,q⟩:=h
 obtain ⟨t,rfl⟩:=b
 obtain ⟨t',rfl⟩:=c
 exact a i j t t' s _ _ ⟨.int (g i j),H,I.tok _,⟨_,rfl⟩,q⟩
theorem opB0 {f:Value->Value->Sem Value} {g:Int->Int->Bool}
  (a:∀ (i j:Int) (t u:Tok) (s:Shared) (Q:Value->Shared->Prop) (E:Value->Shared->Prop),Q (.bool (g i j)) s->wpAny (model X.prog X.w) X.A (f (.int i t) (.int j u)) Q E s) :
  OpR X f (rI0 fun i j => .bl (g i j)):=by
 intro pins s σ H x y v u Q I b c h
 obtain ⟨i,j,rfl,rfl,q⟩:=h
 obtain ⟨t,rfl⟩:=b
 obtain ⟨t',rfl⟩:=c
 exact a i j t t' s _ _ ⟨.bl (g i j),H,I,rfl,q⟩
def CDiv (i j:Int):Prop:=0 < j/\j < 1073741824
def CPow (i j:Int):Prop:=0<=j/\j<=1000000/\i.natAbs < 2 ^ 64
def CMul (i j:Int):Prop:=(-(2 ^ 64) < i/\i < 2 ^ 64)\/(-(2 ^ 64) < j/\j < 2 ^ 64)
theorem CMul.ok {i j:Int} (h:CMul i j):IntMulOk i j:=by
 rcases h with ⟨b,a⟩ | ⟨b,a⟩
 ·exact .of_left (intBits_le_64 b a)
 ·exact .of_right (intBits_le_64 b a)
theorem aar:OpR X (binaryOp .Add) (rI0 fun i j => .int (i+j)):=opI0 fun _ _ _ _ _ _ _ q=>add_int q
theorem acj:OpR X (binaryOp .Sub) (rI0 fun i j => .int (i - j)):=opI0 fun _ _ _ _ _ _ _ q=>sub_int q
theorem acb:OpR X (binaryOp .Mult) (rI CMul fun i j => .int (i * j)):=opI fun _ _ _ _ _ _ _ a q=>mul_int q a.ok
theorem abu:OpR X (binaryOp .FloorDiv) (rI CDiv fun i j => .int (i / j)):=opI fun i j _ _ _ _ _ a q=>by
 have c:(0:Int) < j:=a.1
 have b:j < 1073741824:=a.2
 exact floordiv_int (by omega) (by rw [Int.fdiv_eq_ediv_of_nonneg i (by omega)];exact q) (.inl (PyProof.noPylong_small (by omega)))
theorem aau:OpR X (binaryOp .Mod) (rI (fun _ j=>0 < j) fun i j => .int (i % j)):=opI fun i j _ _ _ _ _ a q=>by
 have b:(0:Int) < j:=a
 exact mod_int' (by omega) (by rw [Int.fmod_eq_emod_of_nonneg i (by omega)];exact q)
theorem au7:OpR X (binaryOp .Pow) (rI CPow fun i j => .int (i ^ j.toNat)):=opI fun _ _ _ _ _ _ _ a q=>pow_int_small a.1 a.2.1 a.2.2 q
theorem unI {f:Value->Sem Value} {g:Int->Int}
  (a:∀ (i:Int) (t:Tok) (s:Shared) (Q:Value->Shared->Prop) (E:Value->Shared->Prop),Q (.int (g i) s.toks) { s with toks:=s.toks+1 }->wpAny (model X.prog X.w) X.A (f (.int i t)) Q E s) :
  UnR X f (rU fun i => .int (g i)):=by
 intro pins s σ H x v Q I b h
 obtain ⟨i,rfl,q⟩:=h
 obtain ⟨t,rfl⟩:=b
 exact a i t s _ _ ⟨.int (g i),H,I.tok _,⟨_,rfl⟩,q⟩
theorem aob:UnR X (unaryOp .USub) (rU fun i => .int (-i)):=unI fun _ _ _ _ _ q=>neg_int q
end
def scal:V->V->Bool
 | .non,.non=>true | .non,.int _=>true | .int _,.non=>true | .non,.bl _=>true | .bl _,.non=>true | .non,.str _=>true | .str _,.non=>true
 | .int _,.int _=>true | .bl _,.bl _=>true | .str _,.str _=>true | .byt _,.byt _=>true
 | .int _,.str _=>true | .str _,.int _=>true | .bl _,.str _=>true | .str _,.bl _=>true
 | _,_=>false
def rEq:R2:=fun x y H Q=>scal x y=true/\Q (.bl (decide (x=y))) H
def rNe:R2:=fun x y H Q=>scal x y=true/\Q (.bl (!decide (x=y))) H
theorem afm {i j:Int}:decide (V.int i=V.int j)=(i == j):=by
 rw [aE3]
 simp
theorem aoc {i j:Bool}:decide (V.bl i=V.bl j)=(i == j):=by
 rw [aE3]
 simp
theorem al3 {i j:Str}:decide (V.str i=V.str j)=(i == j):=by
 rw [aE3]
 simp
theorem al4 {i j:Array UInt8}:decide (V.byt i=V.byt j)=(i.toList == j.toList):=by
 rw [aE3]
 cases i
 cases j
 simp
section
variable {X:Cx} {a b c:Expr} {ta tb tc:TE} {pos:Pos}
theorem aaz {pins:List (Addr × Obj)} {σ:St} {H:Hp} {s:Shared} {Q:VK} {k a:Bool} (I:Inv X pins σ H s) (q:Q (.bl k) H) (e:k=a):EP X pins σ Q (.bool a) s:=by
 subst e
 exact ⟨.bl k,H,I,rfl,q⟩
theorem agv:OpR X (compareOp .Eq) rEq:=by
 intro pins s σ H x y v u Q I b a h
 obtain ⟨hs,q⟩:=h
 cases x with
 | non =>
  cases b
  cases y with
  | non=>cases a;exact PySem.EqNone.eq_none_none (aaz I q (by simp))
  | bl j=>cases a;exact PySem.EqNone.eq_none_bool (aaz I q (by simp))
  | int j=>obtain ⟨t',rfl⟩:=a;exact PySem.EqNone.eq_none_int (aaz I q (by simp))
  | str j=>obtain ⟨t',rfl⟩:=a;exact PySem.EqNone.eq_none_str (aaz I q (by simp))
  | _=>exact absurd (show false=true from hs) ay4
 | bl i =>
  cases b
  cases y with
  | non=>cases a;exact PySem.EqNone.eq_bool_none (aaz I q (by simp))
  | bl j=>cases a;exact eq_bool (aaz I q aoc)
  | str j=>obtain ⟨t',rfl⟩:=a;exact PySem.EqMixed.eq_bool_str (aaz I q (by simp))
  | _=>exact absurd (show false=true from hs) ay4
 | int i =>
  obtain ⟨t,rfl⟩:=b
  cases y with
  | non=>cases a;exact PySem.EqNone.eq_int_none (aaz I q (by simp))
  | int j=>obtain ⟨t',rfl⟩:=a;exact eq_int (aaz I q afm)
  | str j=>obtain ⟨t',rfl⟩:=a;exact PySem.EqMixed.eq_int_str (aaz I q (by simp))
  | _=>exact absurd (show false=true from hs) ay4
 | str i =>
  obtain ⟨t,rfl⟩:=b
  cases y with
  | non=>cases a;exact PySem.EqNone.eq_str_none (aaz I q (by simp))
  | bl j=>cases a;exact PySem.EqMixed.eq_str_bool (aaz I q (by simp))
  | int j=>obtain ⟨t',rfl⟩:=a;exact PySem.EqMixed.eq_str_int (aaz I q (by simp))
  | str j=>obtain ⟨t',rfl⟩:=a;exact eq_str (aaz I q al3)
  | _=>exact absurd (show false=true from hs) ay4
 | byt i =>
  obtain ⟨t,rfl⟩:=b
  cases y with
  | byt j=>obtain ⟨t',rfl⟩:=a;exact PySem.W.eq_bytes (aaz I q al4)
  | _=>exact absurd (show false=true from hs) ay4
 | _=>cases y <;> exact absurd (show false=true from hs) ay4
theorem ar1:OpR X (compareOp .NotEq) rNe:=by
 intro pins s σ H x y v u Q I b a h
 obtain ⟨hs,q⟩:=h
 cases x with
 | non =>
  cases b
  cases y with
  | non=>cases a;exact PySem.EqNone.ne_none_none (aaz I q (by simp))
  | bl j=>cases a;exact PySem.EqNone.ne_none_bool (aaz I q (by simp))
  | int j=>obtain ⟨t',rfl⟩:=a;exact PySem.EqNone.ne_none_int (aaz I q (by simp))
  | str j=>obtain ⟨t',rfl⟩:=a;exact PySem.EqNone.ne_none_str (aaz I q (by simp))
  | _=>exact absurd (show false=true from hs) ay4
 | bl i =>
  cases b
  cases y with
  | non=>cases a;exact PySem.EqNone.ne_bool_none (aaz I q (by simp))
  | bl j=>cases a;exact ne_bool (aaz I q (congrArg not aoc))
  | str j=>obtain ⟨t',rfl⟩:=a;exact PySem.EqMixed.ne_bool_str (aaz I q (by simp))
  | _=>exact absurd (show false=true from hs) ay4
 | int i =>
  obtain ⟨t,rfl⟩:=b
  cases y with
  | non=>cases a;exact PySem.EqNone.ne_int_none (aaz I q (by simp))
  | int j=>obtain ⟨t',rfl⟩:=a;exact ne_int (aaz I q (congrArg not afm))
  | str j=>obtain ⟨t',rfl⟩:=a;exact PySem.EqMixed.ne_int_str (aaz I q (by simp))
  | _=>exact absurd (show false=true from hs) ay4
 | str i =>
  obtain ⟨t,rfl⟩:=b
  cases y with
  | non=>cases a;exact PySem.EqNone.ne_str_none (aaz I q (by simp))
  | bl j=>cases a;exact PySem.EqMixed.ne_str_bool (aaz I q (by simp))
  | int j=>obtain ⟨t',rfl⟩:=a;exact PySem.EqMixed.ne_str_int (aaz I q (by simp))
  | str j=>obtain ⟨t',rfl⟩:=a;exact ne_str (aaz I q (congrArg not al3))
  | _=>exact absurd (show false=true from hs) ay4
 | byt i =>
  obtain ⟨t,rfl⟩:=b
  cases y with
  | byt j=>obtain ⟨t',rfl⟩:=a;exact PySem.W.ne_bytes (aaz I q (congrArg not al4))
  | _=>exact absurd (show false=true from hs) ay4
 | _=>cases y <;> exact absurd (show false=true from hs) ay4
theorem adv:OpR X (compareOp .Lt) (rI0 fun i j => .bl (decide (i < j))):=opB0 fun _ _ _ _ _ _ _ q=>lt_int q
theorem ar2:OpR X (compareOp .LtE) (rI0 fun i j => .bl (decide (i<=j))):=opB0 fun _ _ _ _ _ _ _ q=>le_int q
theorem afn:OpR X (compareOp .Gt) (rI0 fun i j => .bl (decide (j < i))):=opB0 fun _ _ _ _ _ _ _ q=>gt_int q
theorem agw:OpR X (compareOp .GtE) (rI0 fun i j => .bl (decide (j<=i))):=opB0 fun _ _ _ _ _ _ _ q=>ge_int q
theorem au8:OpR X (compareOp .Is) (fun x y H Q=>y=.non/\Q (.bl (decide (x=.non))) H):=by
 intro pins s σ H x y v u Q I a b h
 obtain ⟨rfl,q⟩:=h
 cases b
 refine is_none_gen (aaz I q ?_)
 cases x <;> first
  | (cases a;rfl)
  | (obtain ⟨t,rfl⟩:=a;rfl)
theorem aa0 (b:Expr) {op:CmpOp} (h:op ≠ .In:=by decide) (a:op ≠ .NotIn:=by decide):behindInMarks op b=false:=by
 have d:(op == CmpOp.In)=false:=by cases op <;> first | rfl | exact absurd rfl h
 have c:(op == CmpOp.NotIn)=false:=by cases op <;> first | rfl | exact absurd rfl a
 cases b <;> simp [behindInMarks,d,c]
theorem abv {op:CmpOp} {r:R2} (c:OpR X (compareOp op) r) (ha:PE X a ta) (hb:PE X b tb) (hm:behindInMarks op b=false):PE X (.Compare a [op] [b] pos) (tOp r ta tb):=by
 intro pins s σ H Q I h
 exact wpAny_Compare1 (binT ha hb I h fun v u s2 x y H2 g d f q=>c pins s2 σ H2 x y v u Q g d f q) hm
def ar3 (t:TE):TT:=fun σ H Q=>t σ H fun x H'=>∃ k,x=.bl k/\Q k H'
theorem aa7 {op:CmpOp} {r:R2} (f:OpR X (compareOp op) r) (ha:PE X a ta) (hb:PE X b tb) (hm:behindInMarks op b=false):PT X (.Compare a [op] [b] pos) (ar3 (tOp r ta tb)):=by
 intro pins s σ H Q I h
 refine wpAny_isTrue_Compare1 (thn (ha pins s σ H _ I h) fun v s1 ⟨x,o,g,n,l⟩=>thn (hb pins s1 σ o _ g l) fun u s2 ⟨y,H2,p,q,i⟩ =>
  thn (f pins s2 σ H2 x y v u _ p n q i) fun c w ⟨z,H3,m,d,k,e,j⟩=>?_) hm
 subst e
 cases d
 exact aG2 ⟨H3,m,j⟩
def aj8 (r r':R2) (ta tb tc:TE):TE:=fun σ H Q=>ta σ H fun x H1=>tb σ H1 fun y H2=>r x y H2 fun z H3=>∃ k,z=.bl k /\
 (if k=true then tc σ H3 fun w' H4=>r' y w' H4 Q else Q (.bl false) H3)
theorem ap3 {op f:CmpOp} {r i:R2} (q:OpR X (compareOp op) r) (g:OpR X (compareOp f) i) (ha:PE X a ta) (hb:PE X b tb) (F:PE X c tc)
  (hm:lastMarks [op,f] [b,c]=false:=by with_unfolding_all rfl):PE X (.Compare a [op,f] [b,c] pos) (aj8 r i ta tb tc):=by
 intro pins s σ H Q I h
 refine Compare_chain (thn (ha pins s σ H _ I h) fun v s1 ⟨x,J,w,E,D⟩=>chain_link (thn (hb pins s1 σ J _ w D) fun u s2 ⟨y,H2,K,m,C⟩ =>
  thn (q pins s2 σ H2 x y v u _ K E m C) fun d G ⟨z,H3,l,n,k,e,j⟩=>?_)) hm
 subst e
 cases n
 refine aG2 ?_
 cases k with
 | false=>exact ite_ff ⟨.bl false,H3,l,rfl,j⟩
 | true=>exact ite_tt (chain_last (thn (F pins G σ H3 _ l j) fun p o ⟨M,B,L,A,N⟩=>g pins o σ B y M u p Q L m A N))
def TruV (K:Frag) (x:V) (H:Hp) (k:Bool):Prop :=
 match x with
 | .non=>k=false
 | .bl b=>k=b
 | .int i=>k=(i != 0)
 | .str y=>y.length<=sizeLine/\k=((y.length:Int) != 0)
 | .byt y=>y.size<=sizeLine/\k=((y.size:Int) != 0)
 | .ref p=>(∃ xs,SqL K H p xs/\k = !xs.isEmpty)\/(∃ xs,SqT K H p xs/\k = !xs.isEmpty)\/∃ kvs,H p=some (.dK kvs)/\k = !kvs.isEmpty
 | _=>False
theorem am7 {κ:Type} {kvs:List (κ × V)} {vs:List (κ × Value)} (r:KV kvs vs):(!vs.isEmpty) = !kvs.isEmpty:=by
 cases r <;> rfl
theorem agx {xs:List V} {its:List Value} (r:Vals xs its):(!its.toArray.isEmpty) = !xs.isEmpty:=by
 cases r <;> simp
theorem ae4:(sizeLine:Nat) < 2 ^ 63:=by rw [sizeLine_eq];decide
theorem au9:TruR X (fun x H Q=>∃ k,TruV X.K x H k/\Q k H):=by
 intro pins s σ H x v Q I d h
 obtain ⟨k,e,q⟩:=h
 have o:=ae4
 have hs:sizeLine=16777216:=sizeLine_eq
 cases x with
 | non =>
  cases d
  have a:k=false:=e
  subst a
  exact truthy_none ⟨H,I,q⟩
 | bl b =>
  cases d
  have a:k=b:=e
  subst a
  exact aG2 ⟨H,I,q⟩
 | int i =>
  obtain ⟨t,rfl⟩:=d
  have a:k=(i != 0):=e
  subst a
  exact PySem.P.truthy_int ⟨H,I,q⟩
 | str y =>
  obtain ⟨t,rfl⟩:=d
  obtain ⟨l,a⟩:y.length<=sizeLine/\k=((y.length:Int) != 0):=e
  subst a
  exact PySem.P.truthy_str (by omega) ⟨H,I.tok _,q⟩
 | byt y =>
  obtain ⟨t,rfl⟩:=d
  obtain ⟨l,a⟩:y.size<=sizeLine/\k=((y.size:Int) != 0):=e
  subst a
  exact PySem.W.truthy_bytes (by omega) ⟨H,I.tok _,q⟩
 | ref p =>
  cases d
  have a:(∃ xs,SqL X.K H p xs/\k = !xs.isEmpty)\/(∃ xs,SqT X.K H p xs/\k = !xs.isEmpty)\/∃ kvs,H p=some (.dK kvs)/\k = !kvs.isEmpty:=e
  rcases a with ⟨xs,f,a⟩ | ⟨xs,f,a⟩ | ⟨kvs,f,a⟩
  ·subst a
   obtain ⟨its,r,g,j⟩:=I.list f
   have c:=r.length
   exact wpAny_truthy_list g.isList (by simp only [ay6];omega) ⟨H,I.tok _,by rw [agx r];exact q⟩
  ·subst a
   obtain ⟨its,r,g,j⟩:=I.tuple f
   have c:=r.length
   exact truthy_tuple g (by simp only [ay6];omega) ⟨H,I.tok _,by rw [agx r];exact q⟩
  ·subst a
   obtain ⟨j,n,vs,r,m⟩:kvs.length<=sizeLine/\(p == sysModules)=false/\∃ vs,KV kvs vs/\s.heap.DictOf (abl X.prog X.w) p vs:=I.hok p _ f
   have c:kvs.length=vs.length:=Paired.length r
   exact wpAny_truthy_dict n m (by omega) ⟨H,I.tok _,by rw [am7 r];exact q⟩
 | _=>exact (show False from e).elim
theorem ap4 (ha:PE X a ta) (c:∀ whole,isTrue a X.env whole=(do let v ← whole;standAt a.pos;holding [v] (truthy v))) :
  PT X a (fun σ H Q=>ta σ H fun x H'=>∃ k,TruV X.K x H' k/\Q k H'):=by
 intro pins s σ H Q I h
 exact isTrue_plain (thn (ha pins s σ H _ I h) fun v s1 ⟨x,g,b,f,d⟩=>au9 pins s1 σ g x v Q b f d) (c _)
theorem adh {x:V} {us:List Value} (r:Vals [x] us):∃ u,us=[u]/\RelV x u:=by
 cases r with
 | cons r1 r2=>cases r2;exact ⟨_,rfl,r1⟩
theorem ajx {x y:V} {us:List Value} (r:Vals [x,y] us):∃ u a,us=[u,a]/\RelV x u/\RelV y a:=by
 cases r with
 | cons r1 r2 =>
  cases r2 with
  | cons r3 r4=>cases r4;exact ⟨_,_,rfl,r1,r3⟩
theorem aod (a:X.calm=true):abh X (.builtin "max") (fun xs H Q=>∃ i j,xs=[.int i,.int j]/\Q (.int (if j > i then j else i)) H):=by
 intro pins s σ H xs us Q I r h
 obtain ⟨i,j,rfl,q⟩:=h
 obtain ⟨u,b,rfl,⟨t,rfl⟩,⟨t',rfl⟩⟩:=ajx r
 refine max_two_ints (I.ok.hd a) fun h' c k=>⟨_,H,I.kept k,?_,q⟩
 by_cases hj:j > i
 ·rw [aC1 hj,aC1 hj];exact ⟨_,rfl⟩
 ·rw [aC2 hj,aC2 hj];exact ⟨_,rfl⟩
theorem aoe (a:X.calm=true):abh X (.builtin "min") (fun xs H Q=>∃ i j,xs=[.int i,.int j]/\Q (.int (if j < i then j else i)) H):=by
 intro pins s σ H xs us Q I r h
 obtain ⟨i,j,rfl,q⟩:=h
 obtain ⟨u,b,rfl,⟨t,rfl⟩,⟨t',rfl⟩⟩:=ajx r
 refine min_two_ints (I.ok.hd a) fun h' c k=>⟨_,H,I.kept k,?_,q⟩
 by_cases hj:j < i
 ·rw [aC1 hj,aC1 hj];exact ⟨_,rfl⟩
 ·rw [aC2 hj,aC2 hj];exact ⟨_,rfl⟩
theorem aof:abh X (.type "int") (fun xs H Q=>(∃ i,xs=[.int i]/\Q (.int i) H)\/∃ k,xs=[.bl k]/\Q (.int (if k then 1 else 0)) H):=by
 intro pins s σ H xs us Q I r h
 rcases h with ⟨i,rfl,q⟩ | ⟨k,rfl,q⟩
 ·obtain ⟨u,rfl,t,rfl⟩:=adh r
  exact call_int_int ⟨.int i,H,I,⟨_,rfl⟩,q⟩
 ·obtain ⟨u,rfl,a⟩:=adh r
  cases a
  exact call_int_bool ⟨.int (if k then 1 else 0),H,I.tok _,⟨_,rfl⟩,q⟩
end
structure ObjM (h:Heap) (x dx C:Addr) (mA:Str->Option Value):Prop where
 obj:h.get? x=some (PySem.W.instObj C dx)
 ns:h.Ns1 dx mA
 ne:dx ≠ x
theorem aog {h:Heap} {dx:Addr} {mA:Str->Option Value} (n:h.Ns1 dx mA):∃ od,h.get? dx=some od/\∀ name,PySem.W.lookIn name od=some (mA name):=by
 obtain ⟨o,es,i,c,hd,f,_,hm⟩:=n
 refine ⟨o,c,fun name=>?_⟩
 have e:=hm name
 unfold nsFind findBy at e
 rw [← Array.find?_toList] at e
 unfold PySem.W.lookIn
 rw [hd]
 dsimp only
 split
 ·rename_i y q
  rw [q] at e
  exact congrArg some e
 ·rename_i q
  rw [q] at e
  have a:es.toList.any (·.refKey)=false:=by
   rw [List.any_eq_false]
   intro y g
   obtain ⟨z,t,b⟩:=f y (Array.mem_toList_iff.mp g)
   simp [DictEntry.refKey,b]
  have d:¬ es.toList.any (·.refKey)=true:=by rw [a];exact ay4
  rw [aC2 d]
  exact congrArg some e
theorem ObjM.look {h:Heap} {x dx C:Addr} {mA:Str->Option Value} (I:ObjM h x dx C mA):∃ od,PySem.W.InstAt h x (PySem.W.instObj C dx) C (some od)/\∀ name,PySem.W.lookIn name od=some (mA name) :=
 let ⟨od,a,b⟩:=aog I.ns
 ⟨od,⟨I.obj,rfl,rfl,a⟩,b⟩
section
variable {prog:Program} {w:World} {A:Around} {E:Value->Shared->Prop} {s:Shared} {K:Frag} {x dx C f:Addr} {mA:Str->Option Value} {name:Str} {v:Value}
end
def putF (f:Str) (v:V):List (Str × V)->List (Str × V)
 | []=>[(f,v)]
 | (g,x) :: r=>if g=f then (g,v) :: r else (g,x) :: putF f v r
section
variable {P:Program} {w:World} {H H':Hp} {h h':Heap} {a C dx:Addr} {fs fs':List (Str × V)}
theorem asi (hok:HOk P w H h) (e:H a=some (.ins C dx fs)):∃ mA,ObjM h a dx C mA/\(∀ f,RelO (fs.lookup f) (mA f))/\PySem.Within mA (fs.map (·.1))/\fs.length<=1000/\H dx=some (.own a):=by
 obtain ⟨d,z,ne,b,mA,n,r,q⟩:=(show ObjOk P w H h a (.ins C dx fs) from hok a _ e)
 exact ⟨mA,⟨b,n,ne⟩,r,q,z,d⟩
end
structure Cls (K:Frag) (C:Addr):Prop where
 pg:PySem.W.plainGet K C Str.empty=true
 hd:PySem.W.hasDictIn K C=true
 po:PySem.W.plainOver K C=true
 sa:PySem.W.findIn K (.ref C) "__setattr__" = some (some (.builtin "object.__setattr__"))
theorem Cls.get {K:Frag} {C:Addr} (c:Cls K C) (f:Str):PySem.W.plainGet K C f=true:=c.pg
section
variable {X:Cx} {pins:List (Addr × Obj)} {σ:St} {H:Hp} {s:Shared} {a C dx:Addr} {fs:List (Str × V)} {f:Str} {v:V} {A:Around} {E:Value->Shared->Prop}
end
section
variable {X:Cx} {o e value:Expr} {f:Str} {pos pos' tpos:Pos} {ta tv:TE}
end
section
variable {X:Cx} {pins:List (Addr × Obj)} {σ:St} {H:Hp} {s:Shared} {A:Around} {E:Value->Shared->Prop} {Q:Value->Shared->Prop} {c:Value} {b:Bool}
inductive TyOf (K:Frag) (H:Hp):V->Value->Prop where
 | non:TyOf K H .non (.type "NoneType")
 | bl (x:Bool):TyOf K H (.bl x) (.type "bool")
 | int (i:Int):TyOf K H (.int i) (.type "int")
 | str (x:Str):TyOf K H (.str x) (.type "str")
 | flt (x:UInt64):TyOf K H (.flt x) (.type "float")
 | lst {a:Addr} {xs:List V} (e:H a=some (.lst xs)):TyOf K H (.ref a) (.type "list")
 | frz {a:Addr} {o:Obj} {xs:List V} (e:H a=some (.frz o (.lst xs))):TyOf K H (.ref a) (.type "list")
 | tup {a:Addr} {xs:List V} (e:H a=some (.tup xs)):TyOf K H (.ref a) (.type "tuple")
 | dK {a:Addr} {kvs:List (Key × V)} (e:H a=some (.dK kvs)):TyOf K H (.ref a) (.type "dict")
 | dT {a:Addr} {kvs:List (List Key × V)} (e:H a=some (.dT kvs)):TyOf K H (.ref a) (.type "dict")
 | ins {a C dx:Addr} {fs:List (Str × V)} (e:H a=some (.ins C dx fs)) (cl:Cls K C) (ha:PySem.W.findIn K (.ref C) "__class__" = some (some (.builtin "object.__class__")))
   (hn:PySem.W.specialIn K (.builtin "object.__class__") "__get__" = some (some (.builtin "getset_descriptor.__get__"))) (htk:PySem.W.takesIn K (.builtin "object.__class__")=some true)
   (hm:mroIn K C (.type "object")=some true):TyOf K H (.ref a) (.ref C)
theorem aoh {x:V} {u t:Value} (I:Inv X pins σ H s) (d:RelV x u) (ty:TyOf X.K H x t) (e:kitOne X.K t c=some b) (h:∀ l,Q (.bool b) { s with toks:=l }) :
  wpAny (model X.prog X.w) A (call (.builtin "isinstance") [u,c]) Q E s:=by
 cases ty with
 | non=>cases (show u=Value.none from d);exact PySem.W.kia_one PySem.W.kitx_none I.kIn True.intro e (fun z=>nomatch z) h
 | bl y=>cases (show u=Value.bool y from d);exact PySem.W.kia_one PySem.W.kitx_bool I.kIn True.intro e (fun z=>nomatch z) h
 | int i=>obtain ⟨t,q⟩:=(show ∃ t,u=Value.int i t from d);cases q;exact PySem.W.kia_one PySem.W.kitx_int I.kIn True.intro e (fun z=>nomatch z) h
 | str y=>obtain ⟨t,q⟩:=(show ∃ t,u=Value.str y t from d);cases q;exact PySem.W.kia_one PySem.W.kitx_str I.kIn True.intro e (fun z=>nomatch z) h
 | flt y=>obtain ⟨t,q⟩:=(show ∃ t,u=Value.float y t from d);cases q;exact PySem.W.kia_one PySem.W.kitx_float I.kIn True.intro e (fun z=>nomatch z) h
 | @lst a xs ea =>
  cases (show u=Value.ref a from d)
  obtain ⟨_,_,n,_,f⟩:=(show ObjOk X.prog X.w H s.heap a (.lst xs) from I.hok a _ ea)
  exact PySem.W.kia_one PySem.W.kitx_list I.kIn ⟨_,f,rfl⟩ e (fun z=>nomatch z) h
 | @frz a ob xs ea =>
  cases (show u=Value.ref a from d)
  obtain ⟨_,_,_,n,_,f⟩:=(show ObjOk X.prog X.w H s.heap a (.frz ob (.lst xs)) from I.hok a _ ea)
  exact PySem.W.kia_one PySem.W.kitx_list I.kIn ⟨_,f,rfl⟩ e (fun z=>nomatch z) h
 | @tup a xs ea =>
  cases (show u=Value.ref a from d)
  obtain ⟨_,_,_,p⟩:=(show ObjOk X.prog X.w H s.heap a (.tup xs) from I.hok a _ ea)
  obtain ⟨o,f,g,_⟩:=p
  exact PySem.W.kia_one PySem.W.kitx_tuple I.kIn ⟨o,f,g⟩ e (fun z=>nomatch z) h
 | @dK a kvs ea =>
  cases (show u=Value.ref a from d)
  obtain ⟨_,_,vs,_,p⟩:=(show ObjOk X.prog X.w H s.heap a (.dK kvs) from I.hok a _ ea)
  obtain ⟨o,es,j,f,g,_⟩:=p
  exact PySem.W.kia_one PySem.W.kitx_dict I.kIn ⟨o,f,g.1⟩ e (fun z=>nomatch z) h
 | @dT a kvs ea =>
  cases (show u=Value.ref a from d)
  obtain ⟨_,_,xs,_,o,es,j,f,g,_⟩:=(show ObjOk X.prog X.w H s.heap a (.dT kvs) from I.hok a _ ea)
  exact PySem.W.kia_one PySem.W.kitx_dict I.kIn ⟨o,f,g.1⟩ e (fun z=>nomatch z) h
 | @ins a C dx fs ea cl ha hn htk hm =>
  cases (show u=Value.ref a from d)
  obtain ⟨mA,O,_⟩:=asi I.hok ea
  obtain ⟨od,J,_⟩:=O.look
  exact PySem.W.kia_one (PySem.W.kitx_own (cl.get _) cl.hd ha hn htk hm) I.kIn J e (fun z=>nomatch z) h
end
structure Room (k:Nat) (A:Around):Prop where
 hd:A.handled=none
 dp:A.depth+3 * k+5 < recursionLimit
 un:A.units+16 * k+200 < cLine
theorem Room.mono {j k:Nat} {A:Around} (r:Room k A) (h:j<=k):Room j A:=⟨r.hd,by have:=r.dp;omega,by have:=r.un;omega⟩
theorem Room.deeper {k:Nat} {A:Around} (r:Room (k+1) A) (env:Env):Room k (A.deeper env) :=
 ⟨r.hd,by have:=r.dp;show A.depth+1+3 * k+5 < _;omega,by have:=r.un;show A.units+3+16 * k+200 < _;omega⟩
theorem Room.in1 {k:Nat} {A:Around} (r:Room (k+1) A):Room k A.in1 :=
 ⟨r.hd,by have:=r.dp;show A.depth+3 * k+5 < _;omega,by have:=r.un;show A.units+1+16 * k+200 < _;omega⟩
theorem Room.depth {k:Nat} {A:Around} (r:Room k A):A.depth < recursionLimit:=by have:=r.dp;omega
theorem Room.units {k:Nat} {A:Around} (r:Room k A):A.units+64 < cLine:=by have:=r.un;omega
def tNil:TA:=fun _ H Q=>Q [] H
def abn (ta:TE) (tr:TA):TA:=fun σ H Q=>ta σ H fun x H1=>tr σ H1 fun xs H2=>Q (x :: xs) H2
section
variable {X:Cx} {e:Expr} {es:List Expr} {te:TE} {t:TA} {pos:Pos}
theorem aac:PA X [] tNil:=fun _ _ _ _ H Q I h=>Calls.spliced_nil ⟨[],H,I,.nil,h⟩
theorem aaa (ha:PE X e te) (f:PA X es t) (hs:starEach (e :: es) X.env=(false,eval e X.env) :: starEach es X.env:=by rfl):PA X (e :: es) (abn te t):=by
 intro pos pins s σ H Q I h
 rw [hs]
 show wpAny _ _ (spliced ((false,eval e X.env) :: backTo pos (starEach es X.env))) _ _ s
 refine Calls.spliced_cons (thn (ha pins s σ H _ I h) fun u s1 ⟨x,g,a,d,c⟩=>?_)
 exact thn (f pos pins s1 σ g _ a c) fun us s2 ⟨xs,H2,i,j,b⟩=>⟨x :: xs,H2,i,.cons d j,b⟩
def tTup (t:TA):TE:=fun σ H Q=>t σ H fun xs H1=>xs.length<=sizeLine/\∀ p,H1 p=none->Q (.ref p) (upd H1 p (.tup xs))
def tLst (t:TA):TE:=fun σ H Q=>t σ H fun xs H1=>xs.length<=sizeLine/\∀ p,H1 p=none->Q (.ref p) (upd H1 p (.lst xs))
theorem aba {x1} (h:PA X es t):PE X (.Tuple es x1 pos) (tTup t):=by
 intro pins s σ H Q I d
 refine wpAny_Tuple_spliced (thn (h pos pins s σ H _ I d) fun us s1 ⟨xs,c,a,r,z,q⟩=>⟨by rw [← r.length];exact z,?_⟩)
 have hf:c s1.heap.objs.size=none:=a.hok.fresh (ay1 _)
 refine ⟨.ref s1.heap.objs.size,upd c s1.heap.objs.size (.tup xs),a.laid (t':=s1.toks) (fun b u e=>aF4 _ e) (ay1 _) ?_,rfl,q _ hf⟩
 exact ⟨z,us,r,⟨_,aF6 _ rfl,rfl,_,rfl⟩⟩
theorem aa3 (h:PA X es t):PE X (.List es pos) (tLst t):=by
 intro pins s σ H Q I d
 refine wpAny_List_spliced (thn (h pos pins s σ H _ I d) fun us s1 ⟨xs,c,a,r,z,q⟩=>⟨by rw [← r.length];exact z,?_⟩)
 have hf:c s1.heap.objs.size=none:=a.hok.fresh (ay1 _)
 refine ⟨.ref s1.heap.objs.size,upd c s1.heap.objs.size (.lst xs),a.laid (t':=s1.toks) (fun b u e=>aF4 _ e) (ay1 _) ?_,rfl,q _ hf⟩
 exact ⟨z,us,0,r,aF6 _ rfl⟩
end
abbrev Sp:=List V->Hp->VK->XK->Prop
abbrev CXT:=List Env->Hp->Shared->XK->Value->Shared->Prop
structure Env0 (P:Program) (w:World) (K:Frag) (mg:Str->Option Value) (base:Heap) (A:Around) (outer:List Env) (s:Shared) (H:Hp):Prop where
 frames:A.frames=some outer
 mod:Mod K mg base
 bs:∀ b o,base.get? b=some o->s.heap.get? b=some o/\H b=none
 bsz:base.objs.size<=s.heap.objs.size
 funs:s.heap.FunFrames base outer
 frf:∀ b∈frs outer,H b=none
 hok:HOk P w H s.heap
 bare:AllBare s.gens
def CE (outer:List Env) (P:Program) (w:World) (H:Hp) (s:Shared) (Q:VK) (u:Value) (s':Shared):Prop :=
 ∃ v H',s'.os=s.os/\AllBare s'.gens/\Un (frs outer) [] H H' s.heap s'.heap/\HOk P w H' s'.heap/\RelV v u/\Q v H'
def CR (CX:CXT) (outer:List Env) (P:Program) (w:World) (H:Hp) (s:Shared) (Q:VK) (E:XK) (r:Result) (s':Shared):Prop :=
 match r with
 | .ok (.ret u)=>CE outer P w H s Q u s'
 | .ok _=>False
 | .error e=>CX outer H s E e s'
structure FnOk (P:Program) (w:World) (K:Frag) (mg:Str->Option Value) (base:Heap) (CX:CXT) (k:Nat) (f:Addr) (fd:FuncData) (ps:List Str) (sp:Sp):Prop where
 len:∀ vs H Q E,sp vs H Q E->vs.length=ps.length
 run:∀ (A:Around) (outer:List Env) (s:Shared) (H:Hp) (args:Args) (us:List Value) (vs:List V) (Q:VK) (E:XK),Room k A->Env0 P w K mg base A outer s H->BindsTo s fd args (ps.zip us)->Vals vs us->sp vs H Q E ->
  codeAny (model P w) A (.call (.ref f) args) (CR CX outer P w H s Q E) s
theorem FnOk.mono {P:Program} {w:World} {K:Frag} {mg:Str->Option Value} {base:Heap} {CX:CXT} {j k:Nat} {f:Addr} {fd:FuncData} {ps:List Str} {sp:Sp} (F:FnOk P w K mg base CX j f fd ps sp) (h:j<=k) :
  FnOk P w K mg base CX k f fd ps sp:=⟨F.len,fun A outer s H args us vs Q E a=>F.run A outer s H args us vs Q E (a.mono h)⟩
theorem FnOk.imp {P:Program} {w:World} {K:Frag} {mg:Str->Option Value} {base:Heap} {CX:CXT} {k:Nat} {f:Addr} {fd:FuncData} {ps:List Str} {sp a:Sp} (F:FnOk P w K mg base CX k f fd ps sp)
  (h:∀ vs H Q E,a vs H Q E->sp vs H Q E):FnOk P w K mg base CX k f fd ps a :=
 ⟨fun vs H Q E q=>F.len vs H Q E (h _ _ _ _ q),fun A outer s H args us vs Q E d c hb b hs=>F.run A outer s H args us vs Q E d c hb b (h _ _ _ _ hs)⟩
theorem Env0.in1 {P:Program} {w:World} {K:Frag} {mg:Str->Option Value} {base:Heap} {A:Around} {outer:List Env} {s:Shared} {H:Hp} (e:Env0 P w K mg base A outer s H) :
  Env0 P w K mg base A.in1 outer s H:=⟨e.frames,e.mod,e.bs,e.bsz,e.funs,e.frf,e.hok,e.bare⟩
section
variable {X:Cx} {pins:List (Addr × Obj)} {σ:St} {H:Hp} {s s':Shared}
theorem Inv.env0 (I:Inv X pins σ H s):Env0 X.prog X.w X.K X.mg X.base X.A X.stack s H :=
 ⟨I.ok.frames,I.ok.mod,I.bs,aA4 I.ok.bsz I.sz,I.stack,I.stkFree,I.hok,I.bare⟩
theorem Inv.after {Q:VK} {u:Value} (I:Inv X pins σ H s) (h:CE X.stack X.prog X.w H s Q u s'):EP X pins σ Q u s':=by
 obtain ⟨v,H',os,bare,un,hok,r,q⟩:=h
 obtain ⟨hh,g,d,t,os'⟩:=s'
 obtain rfl:os'=s.os:=os
 exact ⟨v,H',I.call (h':=hh) (g':=g) (d':=d) (t':=t) (ch:=[]) un hok bare (fun b z=>absurd z (by simp)),r,q⟩
end
def ab6 (sp:Sp) (dvs:List V) (E:XK) (t:TA):TE:=fun σ H Q=>t σ H fun vs H1=>sp (vs ++ dvs) H1 Q E
def Binds (K:Frag) (fd:FuncData) (ps:List Str) (ds:List Value):Prop :=
 ∀ (s:Shared) (us:List Value),K.In s.heap->(us ++ ds).length=ps.length->BindsTo s fd ⟨us,[]⟩ (ps.zip (us ++ ds))
theorem Binds.all {K:Frag} {fd:FuncData} {ps:List Str} (h:∀ us:List Value,us.length=ps.length->bindArgs fd ⟨us,[]⟩=pure (ps.zip us)):Binds K fd ps []:=fun s us _ a=>by
 rw [aB7] at a ⊢
 exact .of_eq (h us a)
def agy (CX:CXT) (X:Cx) (E:XK):Prop:=∀ (pins:List (Addr × Obj)) (σ:St) (H:Hp) (s:Shared) (e:Value) (s':Shared),Inv X pins σ H s->CX X.stack H s E e s'->X.xe e s'
section
variable {X:Cx} {CX:CXT} {k:Nat} {f C:Addr} {fd:FuncData} {ps:List Str} {sp:Sp} {dvs:List V} {ds:List Value} {E:XK} {x m:Str} {p pos apos:Pos} {e o:Expr} {es:List Expr} {ta:TE} {t:TA}
theorem aj9 {pins:List (Addr × Obj)} {σ:St} {H:Hp} {s:Shared} {Q:VK} {us:List Value} {vs:List V} (F:FnOk X.prog X.w X.K X.mg X.base CX k f fd ps sp) (i:Room k X.A) (hb:Binds X.K fd ps ds) (hd:Vals dvs ds) (g:agy CX X E)
  (I:Inv X pins σ H s) (r:Vals vs us) (h:sp (vs ++ dvs) H Q E):wpAny (model X.prog X.w) X.A (call (.ref f) us) (EP X pins σ Q) X.xe s:=by
 have b:Vals (vs ++ dvs) (us ++ ds):=r.append hd
 have d:(us ++ ds).length=ps.length:=by rw [← b.length];exact F.len _ _ _ _ h
 refine wpAny_call (aF7 (F.run X.A X.stack s H ⟨us,[]⟩ (us ++ ds) (vs ++ dvs) Q E i I.env0 (hb s us I.kIn d) b h) fun r c a=>?_)
 cases r with
 | error e=>exact g pins σ H s e c I a
 | ok fl =>
  cases fl with
  | ret u=>exact I.after a
  | next=>exact False.elim a
  | brk=>exact False.elim a
  | cont=>exact False.elim a
theorem al5 (F:FnOk X.prog X.w X.K X.mg X.base CX k f fd ps sp) (l:Room k X.A) (d:Gl X x) (hm:X.mg x=some (.ref f)) (g:keepIn X.K (.ref f)=true) (hb:Binds X.K fd ps ds) (hd:Vals dvs ds) (j:agy CX X E)
  (ha:PA X (e :: es) t) (b:(x == ("__debug__" : Str))=false:=by decide) (i:starEach (e :: es) X.env=(false,eval e X.env) :: starEach es X.env:=by rfl) (a:(backTo pos (starEach es X.env)).any (·.1)=false:=by rfl) :
  PE X (.Call (.Name x p) (e :: es) [] pos) (ab6 sp dvs E t):=by
 intro pins s σ H Q I h
 refine wpAny_Call_Name_kw (aee I d hm ?_ b)
 refine PySem.W.callWith_K (h₀:=X.base) I.ok.mod.kin g (thn (ha pos pins s σ H _ I h) fun us s1 ⟨vs,m,c,r,q⟩=>⟨c.kIn,?_⟩) i a
 exact aj9 F l hb hd j c r q
end
section
variable {X:Cx} {CX:CXT} {k:Nat} {f C:Addr} {fd:FuncData} {ps ks:List Str} {sp:Sp} {E:XK} {x m:Str} {p pos apos kpos:Pos} {e o:Expr} {es:List Expr} {kws:List Keyword} {te ta:TE} {t tk:TA} {nm:Option Str}
variable {g:List Value->List Value->List Value} {gV:List V->List V->List V}
end
structure FnScope (N P:List Str) (sc:Scope):Prop where
 kind:sc.kind=.function
 co:sc.isCoroutine=false
 gen:sc.isGenerator=false
 nd:N.Nodup
 pre:N.take P.length=P
 par:∀ x∈P,sc.names.lookup x=some .local\/sc.names.lookup x=some .cell
 nofree:∀ y∈sc.names,y.2 ≠ .free
theorem aik {kindOf:Str->Option NameKind} {x:Str}:∀ {binds:List (Str × Value)} {m:Str->Option Value},(∀ v,(x,v) ∉ binds)->bindL kindOf binds m x=m x
 | [],_,_=>rfl
 | (n,v) :: r,m,h=>by
  unfold bindL
  rw [aik fun w a=>h w (ay9 _ a)]
  split
  ·have:x ≠ n:=by rintro rfl;exact h v az2
   simp [this]
  ·rfl
theorem ail {kindOf:Str->Option NameKind} {x:Str}:∀ {binds:List (Str × Value)} {m:Str->Option Value},(∀ v,(x,v) ∉ binds)->bindC kindOf binds m x=m x
 | [],_,_=>rfl
 | (n,v) :: r,m,h=>by
  unfold bindC
  rw [ail fun w a=>h w (ay9 _ a)]
  split
  ·rfl
  ·have:x ≠ n:=by rintro rfl;exact h v az2
   simp [this]
theorem aim {kindOf:Str->Option NameKind} {x:Str} {v:Value}:∀ {P:List Str} {vs:List Value} {i:Nat} {m:Str->Option Value},P.Nodup->P[i]?=some x->vs[i]?=some v->kindOf x=some .local ->
  bindL kindOf (P.zip vs) m x=some v
 | [],_,_,_,_,h,_,_=>by simp at h
 | _ :: _,[],_,_,_,_,h,_=>by simp at h
 | p :: P,w :: vs,0,m,nd,h1,h2,hk=>by
  simp at h1 h2;subst h1;subst h2
  show bindL kindOf ((p,w) :: P.zip vs) m p=_
  unfold bindL
  rw [aik fun v a=>(aE9.mp nd).1 (List.of_mem_zip a).1,aC1 hk]
  simp
 | p :: P,w :: vs,i+1,m,nd,h1,h2,hk=>by
  show bindL kindOf ((p,w) :: P.zip vs) m x=_
  unfold bindL
  exact aim (i:=i) (aE9.mp nd).2 (by simpa using h1) (by simpa using h2) hk
theorem ain {kindOf:Str->Option NameKind} {x:Str} {v:Value}:∀ {P:List Str} {vs:List Value} {i:Nat} {m:Str->Option Value},P.Nodup->P[i]?=some x->vs[i]?=some v->kindOf x ≠ some .local ->
  bindC kindOf (P.zip vs) m x=some v
 | [],_,_,_,_,h,_,_=>by simp at h
 | _ :: _,[],_,_,_,_,h,_=>by simp at h
 | p :: P,w :: vs,0,m,nd,h1,h2,hk=>by
  simp at h1 h2;subst h1;subst h2
  show bindC kindOf ((p,w) :: P.zip vs) m p=_
  unfold bindC
  rw [ail fun v a=>(aE9.mp nd).1 (List.of_mem_zip a).1,aC2 hk]
  simp
 | p :: P,w :: vs,i+1,m,nd,h1,h2,hk=>by
  show bindC kindOf ((p,w) :: P.zip vs) m x=_
  unfold bindC
  exact ain (i:=i) (aE9.mp nd).2 (by simpa using h1) (by simpa using h2) hk
def start (N:List Str) (vs:List V):St:=vs.map some ++ List.replicate (N.length - vs.length) none
def cxOf (CX:CXT) (P:Program) (w:World) (K:Frag) (mg:Str->Option Value) (base:Heap) (N:List Str) (qual:Str) (scope:Scope) (f:Addr) (cd:Value) (A:Around) (outer:List Env) (s:Shared) (H:Hp) (E:XK):Cx where
 prog:=P
 w:=w
 K:=K
 mg:=mg
 base:=base
 A:=A.deeper (envOfC qual scope s.heap.objs.size f cd)
 N:=N
 s₀:=s
 H₀:=H
 env:=envOfC qual scope s.heap.objs.size f cd
 outer:=outer
 stack:=envOfC qual scope s.heap.objs.size f cd :: outer
 ex:=[]
 calm:=true
 fn:=fun _=>true
 pn:=[]
 xe:=fun e s'=>wpAny (model P w) (A.deeper (envOfC qual scope s.heap.objs.size f cd)) (leaving (envOfC qual scope s.heap.objs.size f cd) e) (fun _ s''=>CX outer H s E e s'') (fun e' s''=>CX outer H s E e' s'') s'
theorem aka {sc:Scope} {n:Nat} {x:Str} (h:sc.names.lookup x=some .cell):∃ c,(cellsFrom n sc.names []).lookup x=some c:=by
 have q:=PySem.W.cellsFrom_some sc.names n [] (.inl h)
 exact Option.isSome_iff_exists.mp q
theorem aoi {CX:CXT} {P:Program} {w:World} {K:Frag} {mg:Str->Option Value} {base:Heap} {N ps:List Str} {qual:Str} {scope:Scope} {f:Addr} {B:Value} {A:Around} {outer:List Env} {s s1:Shared} {H:Hp} {E:XK} {us:List Value} {vs:List V}
  (S:FnScope N ps scope) (hd:A.handled=none) (g:Env0 P w K mg base A outer s H) (J:vs.length=ps.length) (r:Vals vs us)
  (x:InCallC s s.heap.objs.size (bindL (envOfC qual scope s.heap.objs.size f B).kindOf (ps.zip us) fun _=>none) (cellsFrom (s.heap.objs.size+1) scope.names []) (bindC (envOfC qual scope s.heap.objs.size f B).kindOf (ps.zip us) fun _=>none) s1) :
  Inv (cxOf CX P w K mg base N qual scope f B A outer s H E) [] (start N vs) H s1:=by
 have I:ps.length<=N.length:=by have:=congrArg List.length S.pre;rw [aD5] at this;omega
 obtain ⟨C,L,rfl,F⟩:=x.done
 have l:∀ b:Addr,b ∉ (cxOf CX P w K mg base N qual scope f B A outer s H E).ex:=fun b z=>absurd (show b∈([]:List Addr) from z) (by simp)
 refine ⟨⟨g.mod,S.kind,rfl,rfl,ay1 _,fun y z c C d=>?_,fun y j=>?_,fun y c _ h=>?_,fun _=>hd,Around.frames_deeper g.frames,.inr ⟨rfl,rfl⟩,fun b z=>absurd z (l b),g.bs,g.bsz,fun b _ _=>l b,fun b z=>absurd z (l b),g.funs,g.frf⟩,
  rfl,g.bare,Un.kept F,⟨_,x.toInCall.ns,fun i y v C d M=>?_⟩,fun y c h=>⟨_,x.cell y c h⟩,g.hok.fresh (ay1 _),fun y c h=>?_,fun p m=>absurd (show p∈([]:List (Addr × Obj)) from m) (by simp),g.hok.kept F,?_⟩
 ·exact name_of_addr x.apart (PySem.mem_of_lookup C) (PySem.mem_of_lookup d)
 ·have j:scope.names.lookup y=some .cell\/scope.names.lookup y=some .free:=j
  rcases j with j | j
  ·exact aka j
  ·exact absurd rfl (S.nofree _ (PySem.mem_of_lookup j))
 ·exact aD0 (x.above y c (PySem.mem_of_lookup h))
 ·have hi:i < vs.length:=by
   unfold start at d
   by_cases hi:i < vs.length
   ·exact hi
   ·rw [aA2 (by simpa using hi)] at d
    rw [aE2] at d
    split at d <;> cases d
  have ha:vs[i]?=some v:=by
   unfold start at d
   rw [az7 (by simpa using hi),ay0] at d
   cases e:vs[i]? with
   | none=>rw [e] at d;cases d
   | some a=>rw [e] at d;cases d;rfl
  obtain ⟨u,D,G⟩:=r.get ha
  have m:ps[i]?=some y:=by
   rw [← S.pre,aE0 (by omega)];exact C
  have o:ps.Nodup:=by rw [← S.pre];exact S.nd.sublist (List.take_sublist _ _)
  refine ⟨u,G,?_⟩
  rcases S.par y (ax7 m) with k | k
  ·exact .inl ⟨k,aim o m D k⟩
  ·obtain ⟨c,e⟩:=aka (n:=s.heap.objs.size+1) k
   refine .inr ⟨.inl k,c,e,?_⟩
   have q:=x.cell y c e
   rw [ain o m D (by show scope.names.lookup y ≠ _;rw [k];decide)] at q
   exact q
 ·exact g.hok.fresh (aD0 (x.above y c (PySem.mem_of_lookup h)))
 ·unfold start
  show _=N.length
  rw [ay5,ax8,List.length_replicate]
  omega
theorem ar4 {CX:CXT} {P:Program} {w:World} {K:Frag} {mg:Str->Option Value} {base:Heap} {k:Nat} {f:Addr} {name qual:Str} {a:Arguments} {body:List Stmt} {scope:Scope} {C kV doc pm cdv ct oc:Value} {an od:Option Addr}
  {osl:Array (Option Value)} {N ps:List Str} {sp:Sp} (D:K.lookup f=some ⟨oc,od,.func (fnOf name qual a body scope C kV doc pm an cdv ct),osl⟩) (m:codeIn K cdv qual=true) (S:FnScope N ps scope)
  (len:∀ vs H Q E,sp vs H Q E->vs.length=ps.length)
  (d:∀ (A:Around) (outer:List Env) (s:Shared) (H:Hp) (vs:List V) (Q:VK) (E:XK),Room k (A.deeper (envOfC qual scope s.heap.objs.size f cdv))->sp vs H Q E ->
   ∃ t,PSs (cxOf CX P w K mg base N qual scope f cdv A outer s H E) body t/\t { nx:=fun _ H'=>Q .non H',rt:=Q } (start N vs) H) :
  FnOk P w K mg base CX (k+1) f (fnOf name qual a body scope C kV doc pm an cdv ct) ps sp:=by
 refine ⟨len,fun A outer s H args us vs Q E z h hb r i=>?_⟩
 have M:=len _ _ _ _ i
 have B:K.In s.heap:=h.mod.kin.keeps fun b o e=>(h.bs b o e).1
 have p:s.heap.NoLimit:=h.mod.nolimit.keeps fun b o e=>(h.bs b o e).1
 have g:∀ y∈ps.zip us,scope.names.lookup y.1=some .local\/(scope.names.lookup y.1=some .cell/\((cellsFrom (s.heap.objs.size+1) scope.names []).lookup y.1).isSome=true):=fun ⟨n,v⟩ F=>by
  rcases S.par n (List.of_mem_zip F).1 with q | q
  ·exact .inl q
  ·exact .inr ⟨q,PySem.W.cellsFrom_some _ _ _ (.inl q)⟩
 refine codeAny_call_function z.depth (B _ _ D) rfl S.co S.gen rfl (PySem.W.codeRec_of B m) (hb _ _ _ _ ?_)
 refine wpAny_newFunctionEnv_cells S.kind g fun env G s1 x=>?_
 subst G
 refine ⟨p.keeps x.toInCall.keep,codeAny_func ?_⟩
 obtain ⟨t,R,O⟩:=d A outer s H vs Q E (z.deeper _) i
 have I:Inv (cxOf CX P w K mg base N qual scope f cdv A outer s H E) [] (start N vs) H s1:=aoi S z.hd h M r x
 refine aG0 (R [] s1 (start N vs) H _ I O) (fun L j hs=>?_) fun e j hs=>hs
 have fin:∀ {c:St} {H':Hp} {v:V} {u:Value},Inv (cxOf CX P w K mg base N qual scope f cdv A outer s H E) [] c H' j->RelV v u->Q v H'->CE outer P w H s Q u j :=
  fun {c H' v u} J l q=>⟨v,H',J.os,J.bare,J.base,J.hok,l,q⟩
 cases L with
 | ret u =>
  obtain ⟨v,c,H',J,l,q⟩:=hs
  exact fin J l q
 | next =>
  obtain ⟨c,H',J,q⟩:=hs
  exact fin (v:=V.non) (u:=Value.none) J rfl q
 | brk =>
  obtain ⟨_,_,_,q⟩:=hs
  exact False.elim q
 | cont =>
  obtain ⟨_,_,_,q⟩:=hs
  exact False.elim q
section
variable {X:Cx} {x:Str} {p pos:Pos} {e:Expr} {es:List Expr} {t:TA} {id T:String} {r:List V->Hp->VK->Prop}
def tCB (r:List V->Hp->VK->Prop) (t:TA):TE:=fun σ H Q=>t σ H fun vs H1=>r vs H1 Q
theorem aaq (l:abh X (.builtin id) r) (c:Gl X x) (hm:X.mg x=none) (d:bootBuiltins x=some (.builtin id)) (ha:PA X (e :: es) t) (hn:x ≠ "__name__":=by decide) (b:(x == ("__debug__" : Str))=false:=by decide)
  (g:starEach (e :: es) X.env=(false,eval e X.env) :: starEach es X.env:=by rfl) (a:(backTo pos (starEach es X.env)).any (·.1)=false:=by rfl):PE X (.Call (.Name x p) (e :: es) [] pos) (tCB r t):=by
 intro pins s σ H Q I h
 refine wpAny_Call_Name_kw (adm I c hm d ?_ hn b)
 exact PyProof.Rows.callWith_builtin1 (thn (ha pos pins s σ H _ I h) fun us s1 ⟨vs,m,f,j,i⟩=>l pins s1 σ m vs us Q f j i) g a
theorem ad4 (l:abh X (.type T) r) (c:Gl X x) (hm:X.mg x=none) (d:bootBuiltins x=some (.type T)) (ha:PA X (e :: es) t) (hn:x ≠ "__name__":=by decide) (b:(x == ("__debug__" : Str))=false:=by decide)
  (g:starEach (e :: es) X.env=(false,eval e X.env) :: starEach es X.env:=by rfl) (a:(backTo pos (starEach es X.env)).any (·.1)=false:=by rfl):PE X (.Call (.Name x p) (e :: es) [] pos) (tCB r t):=by
 intro pins s σ H Q I h
 refine wpAny_Call_Name_kw (adm I c hm d ?_ hn b)
 exact PyProof.Rows.callWith_type1 (thn (ha pos pins s σ H _ I h) fun us s1 ⟨vs,m,f,j,i⟩=>l pins s1 σ m vs us Q f j i) g a
end
end L2
namespace HT
open PySem PyProof.Rows
def lexLt:List Int->List Int->Bool
 | [],[]=>false
 | [],_ :: _=>true
 | _ :: _,[]=>false
 | x :: xs,y :: ys=>if x=y then lexLt xs ys else decide (x < y)
theorem aem (x y:Int) (xs ys:List Int):lexLt (x :: xs) (y :: ys)=if x=y then lexLt xs ys else decide (x < y):=rfl
section
open PySem.SeqAt
open PySem.AutoSeq1 (wpAny_loadPart')
open PySem.MeetsSeq PySem.MeetsSeq2 PySem.MeetsSeq3
end
section
variable {prog:Program} {w:World} {A:Around} {E:Value->Shared->Prop} {s:Shared}
def sIx (n d:Nat):Option Int->Nat
 | none=>d
 | some v=>if v < 0 then (v+(n:Int)).toNat else min v.toNat n
end
end HT
namespace L2
open PySem PySem.Spec PyProof.Rows
abbrev TO:=St->Hp->(Option Int->Hp->Prop)->Prop
def PO (X:Cx) (e:Option Expr) (t:TO):Prop :=
 ∀ (pins:List (Addr × Obj)) (s:Shared) (σ:St) (H:Hp) (Q:Option Int->Hp->Prop),Inv X pins σ H s->t σ H Q ->
  wpAny (model X.prog X.w) X.A (evalPart e X.env) (fun u s'=>∃ o H',Inv X pins σ H' s'/\IsPart u o/\Q o H') X.xe s
def al6:TO:=fun _ H Q=>Q none H
def ar5 (t:TE):TO:=fun σ H Q=>t σ H fun x H1=>∃ i,x=.int i/\Q (some i) H1
theorem agz {ns:List Int}:∀ {us:List Value},Vals (ns.map V.int) us->IntsAre us ns:=by
 induction ns with
 | nil=>intro us r;rw [List.map_nil] at r;cases r;exact .nil
 | cons n ns ih =>
  intro us r
  rw [aA5] at r
  cases r with
  | cons r1 r2 =>
   obtain ⟨t,e⟩:=r1
   subst e
   exact .cons n t (ih r2)
section
variable {X:Cx} {e:Expr} {te:TE} {lo hi:Option Expr} {tl th:TO} {pos p2:Pos}
theorem asj:PO X none al6:=by
 intro pins s σ H Q I h
 rw [evalPart_none]
 exact aF3 ⟨none,H,I,.none,h⟩
theorem asl (h:PE X e te):PO X (some e) (ar5 te):=by
 intro pins s σ H Q I d
 rw [evalPart_some]
 refine thn (h pins s σ H _ I d) fun u s1 ⟨x,f,a,c,b⟩=>?_
 obtain ⟨i,rfl,q⟩:=b
 obtain ⟨t,rfl⟩:=c
 exact ⟨some i,f,a,.int i t,q⟩
def SlR (X:Cx) (r:V->Option Int->Option Int->Hp->VK->Prop):Prop :=
 ∀ (pins:List (Addr × Obj)) (s:Shared) (σ:St) (H:Hp) (x:V) (v vl vu:Value) (lo hi:Option Int) (sl:Addr) (Q:VK),Inv X pins σ H s->RelV x v->s.heap.IsSliceOf sl vl vu .none->IsPart vl lo->IsPart vu hi->r x lo hi H Q ->
  ∃ T id,typeLookup (.type T) "__getitem__" = pure (some (.builtin id))/\s.TypeIs v T/\wpAny (model X.prog X.w) X.A (getItem v (.ref sl)) (EP X pins σ Q) X.xe s
def tSl (r:V->Option Int->Option Int->Hp->VK->Prop) (te:TE) (tl th:TO):TE:=fun σ H Q=>te σ H fun x H1=>tl σ H1 fun l H2=>th σ H2 fun u H3=>r x l u H3 Q
theorem ap5 {r:V->Option Int->Option Int->Hp->VK->Prop} (E:SlR X r) (j:PE X e te) (D:PO X lo tl) (B:PO X hi th):PE X (.Subscript e (.Slice lo hi none p2) pos) (tSl r te tl th):=by
 intro pins s σ H Q I h
 refine Subscript_ (thn (j pins s σ H _ I h) fun v s1 ⟨x,F,g,z,o⟩=>?_)
 refine wpAny_Slice (thn (D pins s1 σ F _ g o) fun d s2 ⟨l,H2,G,C,i⟩=>thn (B pins s2 σ H2 _ G i) fun c a ⟨u,H3,p,m,n⟩=>?_)
 rw [evalPart_none]
 refine aF3 ?_
 have J:Inv X pins σ H3 { a with heap:=a.heap.push { cls:=.type "slice",data:=.fields #[d,c,.none] } }:=p.kept (t':=a.toks) fun b L q=>aF4 _ q
 obtain ⟨T,id,y,K,f⟩:=E pins { a with heap:=a.heap.push { cls:=.type "slice",data:=.fields #[d,c,.none] } } σ H3 x v d c l u a.heap.objs.size Q J z (Heap.IsSliceOf.new ..) C m n
 show wpAny (model X.prog X.w) X.A (subscriptTail e (.Slice lo hi none p2) v (.ref a.heap.objs.size)) (EP X pins σ Q) X.xe { a with heap:=a.heap.push { cls:=.type "slice",data:=.fields #[d,c,.none] } }
 exact tail_any (ops:=[.ref a.heap.objs.size,v]) K y f (by with_unfolding_all rfl)
def cutV (xs:List V) (lo hi:Option Int):List V:=(xs.drop (HT.sIx xs.length 0 lo)).take (HT.sIx xs.length xs.length hi - HT.sIx xs.length 0 lo)
theorem alr (xs:List V) (lo hi:Option Int):(cutV xs lo hi).length<=xs.length:=by
 unfold cutV
 rw [aD5,List.length_drop]
 omega
end
def ixN (n:Nat) (i:Int):Option Nat:=if 0<=i then (if i < n then some i.toNat else none) else if -(n:Int)<=i then some (i+n).toNat else none
def atI {α:Type} (xs:List α) (i:Int):Option α:=(ixN xs.length i).bind fun j=>xs[j]?
theorem al7 {n:Nat} {i:Int} {j:Nat} (h:ixN n i=some j):seqIndex? i n=some j/\j < n/\-(n:Int)<=i/\i < n:=by
 unfold ixN at h
 by_cases h0:0<=i
 ·rw [aC1 h0] at h
  by_cases h1:i < n
  ·rw [aC1 h1] at h
   have e:i.toNat=j:=aA0 h
   exact ⟨by rw [seqIndex_of h0 h1,e],by omega,by omega,h1⟩
  ·rw [aC2 h1] at h;cases h
 ·rw [aC2 h0] at h
  by_cases h1 : -(n:Int)<=i
  ·rw [aC1 h1] at h
   have e:(i+n).toNat=j:=aA0 h
   exact ⟨by rw [seqIndex_neg (by omega) h1,e],by omega,h1,by omega⟩
  ·rw [aC2 h1] at h;cases h
theorem al8 {α:Type} {xs:List α} {i:Int} {v : α} (h:atI xs i=some v):∃ j,seqIndex? i xs.length=some j/\xs[j]?=some v/\j < xs.length/\-(xs.length:Int)<=i/\i < xs.length:=by
 unfold atI at h
 cases e:ixN xs.length i with
 | none=>rw [e] at h;cases h
 | some j =>
  rw [e] at h
  obtain ⟨d,a,b,c⟩:=al7 e
  exact ⟨j,d,h,a,b,c⟩
theorem afo {α:Type} {xs:List α} {j:Nat} {v : α} (h:xs[j]?=some v):atI xs (j:Int)=some v:=by
 have a:j < xs.length:=(ax6.mp h).1
 have e:ixN xs.length (j:Int)=some j:=by
  unfold ixN
  rw [aC1 (by omega),aC1 (by omega)];simp
 unfold atI;rw [e];exact h
def asm (b:Expr):Prop:=∀ o i,subscripted b false o i=operate [o,i] (getItem o i)
def IxR (X:Cx) (r:R2):Prop :=
 ∀ (value slice:Expr) (pins:List (Addr × Obj)) (s:Shared) (σ:St) (H:Hp) (x y:V) (v u:Value) (Q:VK),Inv X pins σ H s->RelV x v->RelV y u->r x y H Q ->
  subscripted slice false v u=operate [v,u] (getItem v u)->wpAny (model X.prog X.w) X.A (subscriptTail value slice v u) (EP X pins σ Q) X.xe s
def MtR (X:Cx) (id:String) (r:V->List V->Hp->VK->Prop):Prop :=
 ∀ (pins:List (Addr × Obj)) (s:Shared) (σ:St) (H:Hp) (x:V) (xs:List V) (v:Value) (us:List Value) (Q:VK),Inv X pins σ H s->RelV x v->Vals xs us->r x xs H Q ->
  wpAny (model X.prog X.w) X.A (call (.builtin id) (v :: us)) (EP X pins σ Q) X.xe s
section
variable {X:Cx} {a b:Expr} {ta tb:TE} {pos:Pos}
theorem IxR.or {r c:R2} (h:IxR X r) (h':IxR X c):IxR X (fun x y H Q=>r x y H Q\/c x y H Q):=by
 intro b a pins s σ H x y v u Q I d f q hs
 rcases q with q | q
 ·exact h b a pins s σ H x y v u Q I d f q hs
 ·exact h' b a pins s σ H x y v u Q I d f q hs
theorem aao {r:R2} (f:IxR X r) (ha:PE X a ta) (hb:PE X b tb) (hs:asm b):PE X (.Subscript a b pos) (tOp r ta tb):=by
 intro pins s σ H Q I h
 exact Subscript_ (binT ha hb I h fun v u s2 x y H2 g c d q=>f a b pins s2 σ H2 x y v u Q g c d q (hs _ _))
def rIxL (K:Frag):R2:=fun x y H Q=>∃ p xs i v,x=.ref p/\y=.int i/\SqL K H p xs/\atI xs i=some v/\Q v H
def rIxT (K:Frag):R2:=fun x y H Q=>∃ p xs i v,x=.ref p/\y=.int i/\SqT K H p xs/\atI xs i=some v/\Q v H
theorem ix_list:IxR X (rIxL X.K):=by
 intro f d pins s σ H x y v u Q I o D h hs
 obtain ⟨p,xs,i,z,rfl,rfl,E,A,q⟩:=h
 cases o
 obtain ⟨t,rfl⟩:=D
 obtain ⟨its,r,c,G⟩:=I.list E
 obtain ⟨j,a,B,J,F,n⟩:=al8 A
 obtain ⟨w,l,b⟩:=r.get B
 have C:=r.length
 have hn:=ae4
 have fin:EP X pins σ Q w s:=⟨z,H,I,b,q⟩
 by_cases h0:0<=i
 ·have g:i.toNat=j:=by
   rw [seqIndex_of h0 n] at a
   exact aA0 a
  exact item_listR c.isList h0 (by omega) (by rw [g];simpa using l) fin hs
 ·have g:(i+(its.toArray.size:Int)).toNat=j:=by
   rw [seqIndex_neg (by omega) F] at a
   rw [ay6,← C]
   exact aA0 a
  exact subscriptTail_builtinR (x:=w) c.isList.typeIs slot_list_getitem.lookup
   (wpAny_getItem_list_neg (Q:=fun r m=>r=w/\EP X pins σ Q r m) c.isList (by omega) (by rw [ay6] <;> omega) (by omega) (by rw [g];simpa using l) ⟨rfl,fin⟩) hs
theorem ava:IxR X (rIxT X.K):=by
 intro c b pins s σ H x y v u Q I m B h hs
 obtain ⟨p,xs,i,z,rfl,rfl,C,n,q⟩:=h
 cases m
 obtain ⟨t,rfl⟩:=B
 obtain ⟨its,r,d,D⟩:=I.tuple C
 obtain ⟨j,l,o,F,G,E⟩:=al8 n
 obtain ⟨w,g,a⟩:=r.get o
 have A:=r.length
 have hn:=ae4
 have fin:EP X pins σ Q w s:=⟨z,H,I,a,q⟩
 exact subscriptTail_builtinR (x:=w) d.typeIs slot_tuple_getitem.lookup
  (getItem_tuple (j:=j) (Q:=fun r f=>r=w/\EP X pins σ Q r f) d (by omega) (by omega) (by rw [ay6,← A];exact l) (by simpa using g) ⟨rfl,fin⟩) hs
theorem am8 (its:List Value) (n j:Nat) (u:Value):Obj.mapSeq (·.setIfInBounds j u) { cls:=.type "list",data:=.seq its.toArray n }={ cls:=.type "list",data:=.seq (its.set j u).toArray n }:=by
 simp [Obj.mapSeq]
theorem Inv.lst {pins:List (Addr × Obj)} {σ:St} {H:Hp} {s:Shared} {p:Addr} {xs:List V} (I:Inv X pins σ H s) (h:H p=some (.lst xs)) :
  ∃ (its:List Value) (n:Nat),Vals xs its/\s.heap.get? p=some { cls:=.type "list",data:=.seq its.toArray n }/\xs.length<=sizeLine:=by
 obtain ⟨z,its,n,r,e⟩:=I.hok p _ h
 exact ⟨its,n,r,e,z⟩
theorem Inv.lstUpd {pins:List (Addr × Obj)} {σ:St} {H:Hp} {s:Shared} {p:Addr} {xs ys:List V} {its its':List Value} {n a:Nat} {f:Obj->Obj} (I:Inv X pins σ H s) (h:H p=some (.lst xs))
  (d:s.heap.get? p=some { cls:=.type "list",data:=.seq its.toArray n }) (hf:f { cls:=.type "list",data:=.seq its.toArray n }={ cls:=.type "list",data:=.seq its'.toArray a }) (r:Vals ys its') (c:ys.length<=sizeLine) (t:Nat) :
  Inv X pins σ (upd H p (.lst ys)) { s with heap:=s.heap.update p f,toks:=t }:=by
 have e:(s.heap.update p f).get? p=some { cls:=.type "list",data:=.seq its'.toArray a }:=by
  rw [Heap.get?_update_self f d (by rw [hf] <;> rfl),hf]
 refine I.write (x:=p) (e:=p) (by rw [h];trivial) (.inl rfl) (fun b u hb q=>(Heap.get?_update_other _ _ (Ne.symm hb)).trans q) ⟨_,e⟩ ?_
 exact ⟨c,its',a,r,e⟩
def am9:V->V->V->Hp->(Hp->Prop)->Prop:=fun o i v H Q=>∃ p xs k j,o=.ref p/\i=.int k/\H p=some (.lst xs)/\ixN xs.length k=some j/\Q (upd H p (.lst (xs.set j v)))
theorem akb:PSet X am9:=by
 intro pins s σ H o i v C B u Q I y z x h
 obtain ⟨p,xs,k,j,rfl,rfl,f,A,q⟩:=h
 cases y
 obtain ⟨t,rfl⟩:=z
 obtain ⟨its,n,r,b,w⟩:=I.lst f
 obtain ⟨a,D,g,l⟩:=al7 A
 have d:=r.length
 have hn:=ae4
 have m:Inv X pins σ (upd H p (.lst (xs.set j v))) { s with heap:=s.heap.update p (Obj.mapSeq (·.setIfInBounds j u)) } :=
  I.lstUpd f b (am8 its n j u) (r.set x j) (by rw [List.length_set];exact w) s.toks
 by_cases h0:0<=k
 ·have c:k.toNat=j:=by
   rw [seqIndex_of h0 l] at a
   exact aA0 a
  exact PySem.W.ki_setAt b h0 (by omega) (by rw [ay6,← d];exact l) (by rw [c];exact ⟨_,m,q⟩)
 ·have c:(k+(its.toArray.size:Int)).toNat=j:=by
   rw [seqIndex_neg (by omega) g] at a
   rw [ay6,← d]
   exact aA0 a
  exact PySem.W.ki_setBack b (by omega) (by rw [ay6,← d];exact g) (by omega) (by rw [c];exact ⟨_,m,q⟩)
theorem akc (lo hi:Option Int) (n:Nat):(sliceBounds lo hi none n).1=((HT.sIx n 0 lo:Nat):Int)/\(sliceBounds lo hi none n).2.1=((HT.sIx n n hi:Nat):Int)/\(sliceBounds lo hi none n).2.2=1:=by
 refine ⟨?_,?_,rfl⟩
 ·cases lo with
  | none=>simp [sliceBounds,HT.sIx]
  | some i =>
   simp only [sliceBounds,HT.sIx,Option.getD_none,show (1:Int) > 0 by decide,if_true]
   by_cases h:i < 0
   ·simp only [h,if_true] <;> omega
   ·simp only [h,if_false] <;> omega
 ·cases hi with
  | none=>simp [sliceBounds,HT.sIx]
  | some i =>
   simp only [sliceBounds,HT.sIx,Option.getD_none,show (1:Int) > 0 by decide,if_true]
   by_cases h:i < 0
   ·simp only [h,if_true] <;> omega
   ·simp only [h,if_false] <;> omega
theorem aja (its:List Value) (lo hi:Option Int):slicePick its.toArray lo hi none=((its.drop (HT.sIx its.length 0 lo)).take (HT.sIx its.length its.length hi - HT.sIx its.length 0 lo)).toArray:=by
 obtain ⟨c,a,b⟩:=akc lo hi its.toArray.size
 unfold slicePick
 rw [c,a,b]
 simp only [sliceRange_one,pick_run,ay6] <;> rfl
def rSlL (K:Frag):V->Option Int->Option Int->Hp->VK->Prop:=fun x lo hi H Q=>∃ a xs,x=.ref a/\SqL K H a xs/\∀ p,H p=none->Q (.ref p) (upd H p (.lst (cutV xs lo hi)))
theorem asn:SlR X (rSlL X.K):=by
 intro pins s σ H x v p m lo hi sl Q I g hs j i h
 obtain ⟨a,xs,rfl,l,q⟩:=h
 cases g
 obtain ⟨its,r,d,f⟩:=I.list l
 have c:=r.length
 refine ⟨"list",_,slot_list_getitem.lookup,d.isList.typeIs,?_⟩
 refine wpAny_getItem_list_slice d.isList hs j i .none (by simp) ?_ (by rw [ay6] <;> omega)
 rw [aja,← c]
 refine ⟨.ref s.heap.objs.size,_,I.laid (t':=s.toks) (o:=.lst (cutV xs lo hi)) (fun b n q=>aF4 _ q) (ay1 _) ?_,rfl,q _ (I.hok.fresh (ay1 _))⟩
 exact ⟨aA4 (alr xs lo hi) f,_,0,(r.drop (HT.sIx xs.length 0 lo)).take (HT.sIx xs.length xs.length hi - HT.sIx xs.length 0 lo),aF6 _ rfl⟩
theorem akd:abh X (.builtin "len") (fun xs H Q=>∃ p ys,xs=[.ref p]/\(SqL X.K H p ys\/SqT X.K H p ys)/\Q (.int ys.length) H):=by
 intro pins s σ H xs us Q I r h
 obtain ⟨p,ys,rfl,b,q⟩:=h
 obtain ⟨u,rfl,g⟩:=adh r
 cases g
 have hn:=ae4
 rcases b with b | b
 ·obtain ⟨its,c,d,f⟩:=I.list b
  have a:=c.length
  exact Calls.call_len_list d.isList (by simp only [ay6] <;> omega) ⟨.int ys.length,H,I.tok _,⟨s.toks+1,by rw [ay6,a]⟩,q⟩
 ·obtain ⟨its,c,d,f⟩:=I.tuple b
  have a:=c.length
  exact len_tuple d (by simp only [ay6] <;> omega) ⟨.int ys.length,H,I.tok _,⟨s.toks+1,by rw [ay6,a]⟩,q⟩
theorem ake:abh X (.type "list") (fun xs H Q=>∃ p ys,xs=[.ref p]/\(SqL X.K H p ys\/SqT X.K H p ys)/\∀ l,H l=none->Q (.ref l) (upd H l (.lst ys))):=by
 intro pins s σ H xs us Q I r h
 obtain ⟨p,ys,rfl,g,q⟩:=h
 obtain ⟨u,rfl,v⟩:=adh r
 cases v
 have fin:∀ (its:List Value),Vals ys its->ys.length<=sizeLine->∀ (h':Heap) (a:Nat),(∀ b o',s.heap.get? b=some o'->h'.get? b=some o') ->
   h'.get? s.heap.objs.size=some { cls:=.type "list",dict:=none,data:=.seq its.toArray a,slots:=#[] }->EP X pins σ Q (.ref s.heap.objs.size) { s with heap:=h' }:=fun its c d h' a kp e =>
  ⟨.ref s.heap.objs.size,_,I.laid (t':=s.toks) kp (ay1 _) (show ObjOk X.prog X.w _ h' _ (.lst ys) from ⟨d,its,a,c,e⟩),rfl,q _ (I.hok.fresh (ay1 _))⟩
 rcases g with g | g
 ·obtain ⟨its,c,j,d⟩:=I.list g
  have f:=c.length
  obtain ⟨o,i,m,n,hd⟩:=j.isList
  exact call_list_seq p (.inl rfl) i m hd (fun h' a kp e=>fin its c d h' a kp e) (by simp only [ay6] <;> omega)
 ·obtain ⟨its,c,j,d⟩:=I.tuple g
  have f:=c.length
  obtain ⟨o,i,m,n,hd⟩:=j
  exact call_list_seq p (.inr rfl) i m hd (fun h' a kp e=>fin its c d h' a kp e) (by simp only [ay6] <;> omega)
def tyV (K:Frag) (T:String) (x:V) (H:Hp):Prop:=match x with
 | .str _=>T = "str"
 | .int _=>T = "int"
 | .ref p=>(T = "list"/\∃ xs,SqL K H p xs)\/(T = "tuple"/\∃ o,K.lookup p=some o/\o.cls=.type "tuple"/\o.dict=none) ∨
   (T = "dict"/\((∃ kvs,H p=some (.dK kvs))\/∃ kvs,H p=some (.dT kvs)))\/(T = "set"/\∃ S n,H p=some (.set S n))
 | _=>False
theorem avb {pins:List (Addr × Obj)} {σ:St} {H:Hp} {s:Shared} {T:String} {x:V} {v:Value} (I:Inv X pins σ H s) (r:RelV x v) (ty:tyV X.K T x H) :
  s.TypeIs v T/\∀ a,v=.ref a->∃ f,s.heap.get? a=some f/\f.dict=none:=by
 cases x with
 | str z =>
  obtain ⟨t,rfl⟩:=r
  cases (show T = "str" from ty)
  exact ⟨typeIs_str s z t,fun _ e=>nomatch e⟩
 | int i =>
  obtain ⟨t,rfl⟩:=r
  cases (show T = "int" from ty)
  exact ⟨typeIs_int s i t,fun _ e=>nomatch e⟩
 | ref p =>
  cases r
  rcases ty with ⟨rfl,xs,j⟩ | ⟨rfl,o,b,h,hd⟩ | ⟨rfl,b⟩ | ⟨rfl,S,n,b⟩
  ·obtain ⟨its,_,g,_⟩:=I.list j
   refine ⟨g.isList.typeIs,fun a e=>?_⟩
   cases e
   obtain ⟨o,n,e,c,hd,_⟩:=g
   exact ⟨o,e,hd⟩
  ·refine ⟨⟨o,I.kIn p o b,h⟩,fun a e=>?_⟩
   cases e
   exact ⟨o,I.kIn _ o b,hd⟩
  ·have z:∃ o,s.heap.get? p=some o/\o.ExactDict:=by
    rcases b with ⟨kvs,b⟩ | ⟨kvs,b⟩
    ·obtain ⟨_,_,_,_,o,_,_,e,ex,_⟩:=I.hok p _ b
     exact ⟨o,e,ex⟩
    ·obtain ⟨_,_,_,_,o,_,_,e,ex,_⟩:=I.hok p _ b
     exact ⟨o,e,ex⟩
   obtain ⟨o,e,ex⟩:=z
   refine ⟨⟨o,e,ex.1⟩,fun a d=>?_⟩
   cases d
   exact ⟨o,e,ex.2.1⟩
  ·obtain ⟨o,_,_,_,e,ex,_⟩:=I.hok p _ b
   refine ⟨⟨o,e,ex.1⟩,fun a d=>?_⟩
   cases d
   exact ⟨o,e,ex.2.1⟩
 | _=>exact False.elim ty
def tBM (K:Frag) (T:String) (r:V->List V->Hp->VK->Prop) (to:TE) (t:TA):TE:=fun σ H Q=>to σ H fun x H1=>tyV K T x H1/\t σ H1 fun xs H2=>r x xs H2 Q
variable {o e:Expr} {es:List Expr} {to:TE} {t:TA} {name:Str} {apos cpos:Pos} {T id:String} {r:V->List V->Hp->VK->Prop}
theorem ac9 (p:PlainAttrs T) (slot:Slot T name id) (g:typeOf (.builtin id)=pure (.type "method_descriptor")) (hm:MtR X id r) (n:PE X o to) (ha:PA X (e :: es) t)
  (c:attributeBase o name X.env (eval o X.env)=eval o X.env:=by rfl)
  (f:((backTo cpos (starEach (e :: es) X.env)).all (fun x => !x.1) && (backToKw cpos (keywordEach [] X.env)).all (fun x=>x.1.isSome)
   && decide ((e :: es).length+([]:List Keyword).length+(if ([]:List Keyword).isEmpty then 0 else 1) < 30))=true:=by rfl)
  (d:(apos.endLine == cpos.line)=true:=by rfl) (hs:starEach (e :: es) X.env=(false,eval e X.env) :: starEach es X.env:=by rfl) (b:(backTo cpos (starEach es X.env)).any (·.1)=false:=by rfl) :
  PE X (.Call (.Attribute o name apos) (e :: es) [] cpos) (tBM X.K T r to t):=by
 intro pins s σ H Q I h
 refine wpAny_Call_method_late c f d rfl (thn (n pins s σ H _ I h) fun v s1 ⟨x,y,i,j,ty,w⟩=>?_)
 obtain ⟨m,u⟩:=avb i j ty
 refine ⟨T,id,p,slot,g,m,u,?_⟩
 have l:=ha cpos pins s1 σ y _ i w
 rw [hs] at l ⊢
 refine Calls.callWith_builtin (by show (false || (backTo cpos (starEach es X.env)).any (·.1))=false;rw [b] <;> rfl) (Calls.evalArgs_plain ?_)
 exact thn l fun us s2 ⟨vs,H2,z,A,q⟩=>hm pins s2 σ H2 x vs v us Q z j A q
/- xs.append(e), list.index on a module's tuple .. are MtR facts of 06m -/
end
def MtM (X:Cx) (id:String) (r:V->List V->Hp->VK->Prop):Prop :=
 ∀ (pins:List (Addr × Obj)) (s:Shared) (σ:St) (H:Hp) (x:V) (xs:List V) (v:Value) (us:List Value) (Q:VK),Inv X pins σ H s->RelV x v->Vals xs us->r x xs H Q ->
  wpAny (model X.prog X.w) X.A (call (.builtin id) (v :: us)) (EP X pins σ Q) X.xe s
theorem Vals.one:∀ {x:V} {us:List Value},Vals [x] us->∃ u,us=[u]/\RelV x u
 | _,_,.cons r .nil=>⟨_,rfl,r⟩
theorem Vals.eraseIdx:∀ {xs:List V} {us:List Value} (i:Nat),Vals xs us->Vals (xs.eraseIdx i) (us.eraseIdx i)
 | _,_,_,.nil => .nil
 | _,_,0,.cons _ t=>t
 | _,_,i+1,.cons r t => .cons r (Vals.eraseIdx i t)
theorem Vals.rep {xs:List V} {us:List Value} (h:Vals xs us):∀ k:Nat,Vals (List.replicate k xs).flatten (List.replicate k us).flatten
 | 0 => .nil
 | k+1=>by
  rw [aD8,aD8,List.flatten_cons,List.flatten_cons]
  exact Vals.append h (Vals.rep h k)
theorem aio {α:Type}:∀ (l:List α) (i:Nat),(l.eraseIdx i).length<=l.length
 | [],_=>ay1 _
 | _ :: _,0=>Nat.le_succ _
 | _ :: r,i+1=>Nat.succ_le_succ (aio r i)
theorem aip (its:List Value):∀ (k:Nat) (a:List Value),
  List.foldl (fun c d=>c ++ d) a.toArray (List.replicate k its.toArray)=(a ++ (List.replicate k its).flatten).toArray
 | 0,a=>by simp
 | k+1,a=>by
  have e:a.toArray ++ its.toArray=(a ++ its).toArray:=by simp
  have b:(a ++ its) ++ (List.replicate k its).flatten=a ++ (List.replicate (k+1) its).flatten:=by
   rw [aD8,List.flatten_cons,ay8]
  rw [← b,← aip its k (a ++ its),← e,aD8,List.foldl_cons]
section
variable {X:Cx} {pins:List (Addr × Obj)} {σ:St} {H:Hp} {s:Shared} {l b:Addr} {xs ys zs:List V}
theorem Inv.lset {its its':List Value} {n:Nat} {f:Array Value->Array Value} {t':Nat} (I:Inv X pins σ H s) (a:H l=some (.lst xs))
  (e:s.heap.get? l=some { cls:=.type "list",data:=.seq its.toArray n }) (hf:f its.toArray=its'.toArray) (c:Vals ys its') (b:ys.length<=sizeLine) :
  Inv X pins σ (upd H l (.lst ys)) { s with heap:=s.heap.update l (Obj.mapSeq f),toks:=t' }:=by
 have q:=PySem.IsL.update e f
 rw [hf] at q
 refine I.write (x:=l) (e:=l) (by rw [a];exact trivial) (.inl rfl) (fun g u hb d=>(Heap.get?_update_other s.heap (Obj.mapSeq f) (Ne.symm hb)).trans d) ⟨_,q⟩ ?_
 exact ⟨b,its',_,c,q⟩
theorem Inv.lnew {its:List Value} {t':Nat} (I:Inv X pins σ H s) (b:Vals ys its) (a:ys.length<=sizeLine) :
  Inv X pins σ (upd H s.heap.objs.size (.lst ys)) { s with heap:=s.heap.push { cls:=.type "list",data:=.seq its.toArray },toks:=t' } :=
 I.laid (fun _ _ q=>aF4 _ q) (ay1 _) ⟨a,its,0,b,aF6 _ rfl⟩
theorem Inv.fresh (I:Inv X pins σ H s):H s.heap.objs.size=none:=I.hok.fresh (ay1 _)
theorem Inv.lstM (I:Inv X pins σ H s) (a:H l=some (.lst xs)):xs.length<=sizeLine/\∃ (its:List Value) (n:Nat),Vals xs its/\xs.length=its.length/\s.heap.get? l=some { cls:=.type "list",data:=.seq its.toArray n }:=by
 obtain ⟨z,its,n,r,e⟩:=I.hok l _ a
 exact ⟨z,its,n,r,r.length,e⟩
theorem ap6 {n:Nat} (h:n<=sizeLine):Builtin.List.listTooLong n=false:=by
 unfold Builtin.List.listTooLong
 exact aA8 (by omega)
end
section
variable {X:Cx}
def aeh:V->List V->Hp->VK->Prop:=fun x vs H Q=>∃ l xs y,x=.ref l/\vs=[y]/\H l=some (.lst xs)/\xs.length < sizeLine/\Q .non (upd H l (.lst (xs ++ [y])))
theorem abj:MtM X "list.append" aeh:=by
 intro pins s σ H x vs v us Q I d c h
 obtain ⟨l,xs,y,rfl,rfl,a,f,q⟩:=h
 cases d
 obtain ⟨u,rfl,b⟩:=c.one
 obtain ⟨z,its,n,r,g,e⟩:=I.lstM a
 refine call_meets F.slot_list_append ⟨_,e,rfl⟩ F.entry_list_append (F.args_list_append_2 _ _) (PySem.list_append l its.toArray n u (by rw [ay6];omega)) ⟨e,?_⟩
 refine ⟨.non,_,I.lset (its':=its ++ [u]) a e (by simp) (r.append (.cons b .nil)) ?_,rfl,q⟩
 rw [ay5,List.length_singleton]
 omega
def akf:V->List V->Hp->VK->Prop:=fun x vs H Q=>∃ l xs i k y,x=.ref l/\vs=[.int i]/\H l=some (.lst xs)/\-(2 ^ 63)<=i/\i < 2 ^ 63/\seqIndex? i xs.length=some k/\xs[k]?=some y/\Q y (upd H l (.lst (xs.eraseIdx k)))
theorem akg:MtM X "list.pop" akf:=by
 intro pins s σ H x vs v us Q I m d h
 obtain ⟨l,xs,i,k,y,rfl,rfl,b,f,o,g,j,q⟩:=h
 cases m
 obtain ⟨u,rfl,c⟩:=d.one
 obtain ⟨t,rfl⟩:=c
 obtain ⟨z,its,n,r,p,e⟩:=I.lstM b
 obtain ⟨w,A,a⟩:=r.get j
 refine call_meets F.slot_list_pop ⟨_,e,rfl⟩ F.entry_list_pop (F.args_list_pop_2 _ _)
  (MeetsSeq.list_pop_at l its.toArray n i t k w (fitsIndex_both f o) (by rw [ay6,← p];exact g) (by rw [← aA7];exact A) (by rw [ay6];omega)) ⟨e,?_⟩
 refine ⟨y,_,I.lset (its':=its.eraseIdx k) b e ?_ (r.eraseIdx k) ?_,a,q⟩
 ·show its.toArray.eraseIdxIfInBounds k=(its.eraseIdx k).toArray
  rw [List.eraseIdxIfInBounds_toArray]
 ·have:=aio xs k
  omega
def rCat:R2:=fun x y H Q=>∃ l b xs zs,x=.ref l/\y=.ref b/\H l=some (.lst xs)/\H b=some (.lst zs)/\xs.length+zs.length<=sizeLine/\∀ p,H p=none->Q (.ref p) (upd H p (.lst (xs ++ zs)))
theorem ag0:OpR X (binaryOp .Add) rCat:=by
 intro pins s σ H x y v u Q I d g h
 obtain ⟨l,b,xs,C,rfl,rfl,f,i,p,q⟩:=h
 cases d
 cases g
 obtain ⟨z,its,n,r,A,e⟩:=I.lstM f
 obtain ⟨B,a,w,m,o,c⟩:=I.lstM i
 refine PySem.P.add_list e c ?_ (by rw [ay6,ay6];omega)
 have j:its.toArray ++ a.toArray=(its ++ a).toArray:=by simp
 rw [j]
 exact ⟨.ref _,_,I.lnew (t':=s.toks) (r.append m) (by rw [ay5];omega),rfl,q _ I.fresh⟩
def rRep:R2:=fun x y H Q=>∃ l k xs,x=.ref l/\y=.int k/\H l=some (.lst xs)/\-(2 ^ 63)<=k/\k < 2 ^ 63/\xs.length * k.toNat<=sizeLine /\
 ∀ p,H p=none->Q (.ref p) (upd H p (.lst (List.replicate k.toNat xs).flatten))
theorem al9 {α:Type} (xs:List α) (k:Nat):(List.replicate k xs).flatten.length=k * xs.length:=by
 induction k with
 | zero=>simp
 | succ k ih=>rw [aD8,List.flatten_cons,ay5,ih,Nat.succ_mul,Nat.add_comm]
theorem aoj:OpR X (binaryOp .Mult) rRep:=by
 intro pins s σ H x y v u Q I A G h
 obtain ⟨l,k,xs,rfl,rfl,B,w,C,o,q⟩:=h
 cases A
 obtain ⟨t,rfl⟩:=G
 obtain ⟨z,its,n,r,E,e⟩:=I.lstM B
 have d:its.toArray.size * k.toNat<=sizeLine:=by rw [ay6,← E];exact o
 have f:¬ its.toArray.size * k.toNat > (2 ^ 63 - 1) / 8:=by
  have:(sizeLine:Nat)<=(2 ^ 63 - 1) / 8:=by decide
  omega
 have c:¬ (!Builtin.List.listFitsIndex k)=true:=by
  rw [fitsIndex_both w C]
  exact ay4
 have b:¬ Builtin.List.listTooLong (its.toArray.size * k.toNat)=true:=by
  rw [ap6 d]
  exact ay4
 have g:List.foldl (fun j i=>j ++ i) #[] (List.replicate (if its.toArray.isEmpty=true then 0 else k.toNat) its.toArray)=(List.replicate k.toNat its).flatten.toArray:=by
  have D:∀ m:Nat,List.foldl (fun j i=>j ++ i) #[] (List.replicate m its.toArray)=(List.replicate m its).flatten.toArray:=fun m=>by
   have:=aip its m []
   rw [List.nil_append] at this
   exact this
  rw [D]
  cases its with
  | nil=>simp
  | cons a r'=>rw [aC2 (by simp)]
 refine wpAny_binaryOp_repeat_ref (T:="list") (U:="int") (by decide) ⟨_,e,rfl⟩ (fun p=>typeIs_int p k t) noFill_list_mul F.fills_int_mul F.slot_int_rmul repeat_list F.slot_int_index.lookup
  (call_meets F.slot_int_rmul (typeIs_int s k t) F.entry_int_rmul (F.args_int_rmul_2 _ _) (int___rmul___int_list k t l its.toArray n)
   ⟨e,rfl,⟨_,e,rfl⟩,call_meets F.slot_list_mul ⟨_,e,rfl⟩ F.entry_list_mul (F.args_list_mul_2 _ _) (AutoListH.list___mul___list_int_3 l its.toArray n k t c f b) ⟨e,?_⟩⟩)
 rw [g]
 exact ⟨.ref _,_,I.lnew (t':=s.toks) (r.rep k.toNat) (by rw [al9,Nat.mul_comm];exact o),rfl,q _ I.fresh⟩
end
section
variable {prog:Program} {w:World} {A:Around} {E:Value->Shared->Prop} {s:Shared}
end
section
variable {X:Cx}
end
section
variable {κ:Type} [DecidableEq κ]
def valV (kvs:List (κ × V)) (k : κ):Option V:=(kvs.find? fun kv=>decide (kv.1=k)).map (·.2)
def putK (kvs:List (κ × V)) (k : κ) (v:V):List (κ × V) :=
 if (kvs.any fun kv=>decide (kv.1=k))=true then kvs.map (fun kv=>if kv.1=k then (kv.1,v) else kv) else kvs ++ [(k,v)]
def ar6 (kvs:List (κ × V)) (k : κ):List (κ × V):=kvs.filter fun kv=>decide (kv.1 ≠ k)
theorem agd {p : κ × V} {r:List (κ × V)} {k : κ} (e:p.1=k):valV (p :: r) k=some p.2:=by simp [valV,List.find?_cons,e]
theorem age {p : κ × V} {r:List (κ × V)} {k : κ} (e:¬ p.1=k):valV (p :: r) k=valV r k:=by simp [valV,List.find?_cons,e]
theorem akh (k : κ):∀ kvs:List (κ × V),(kvs.any fun a=>decide (a.1=k))=(valV kvs k).isSome
 | []=>rfl
 | p :: r=>by
  rw [List.any_cons]
  by_cases e:p.1=k
  ·simp only [agd e,aA9 e,Bool.true_or,Option.isSome_some]
  ·rw [age e,aA8 e,Bool.false_or];exact akh k r
theorem af6 (kvs:List (κ × V)) (k : κ) (v:V):(putK kvs k v).length<=kvs.length+1:=by
 unfold putK
 split
 ·rw [ax8];omega
 ·rw [ay5,aB3,aF1];omega
theorem RelO.isSome_eq {o:Option V} {u:Option Value} (r:RelO o u):o.isSome=u.isSome:=by
 cases o with
 | none=>cases u with
  | none=>rfl
  | some _=>exact (show False from r).elim
 | some _=>cases u with
  | none=>exact (show False from r).elim
  | some _=>rfl
theorem RelO.getD {o:Option V} {u:Option Value} {d:V} {d':Value} (r:RelO o u) (a:RelV d d'):RelV (o.getD d) (u.getD d'):=by
 cases o with
 | none=>cases u with
  | none=>exact a
  | some _=>exact (show False from r).elim
 | some _=>cases u with
  | none=>exact (show False from r).elim
  | some _=>exact r
theorem KV.val {kvs:List (κ × V)} {vs:List (κ × Value)} (r:KV kvs vs) (k : κ):RelO (valV kvs k) (valueAt vs k):=by
 unfold KV at r
 induction r with
 | nil=>exact True.intro
 | @cons p q ps qs h t ih =>
  obtain ⟨c,d⟩:=h
  by_cases e:p.1=k
  ·have a:q.1=k:=c.symm.trans e
   have b:valueAt (q :: qs) k=some q.2:=by simp [valueAt,List.find?_cons,a]
   rw [agd e,b];exact d
  ·have a:¬ q.1=k:=fun z=>e (c.trans z)
   have b:valueAt (q :: qs) k=valueAt qs k:=by simp [valueAt,List.find?_cons,a]
   rw [age e,b];exact ih
theorem KV.any {kvs:List (κ × V)} {vs:List (κ × Value)} (r:KV kvs vs) (k : κ):(kvs.any fun a=>decide (a.1=k))=vs.any fun a=>decide (a.1=k):=by
 unfold KV at r
 induction r with
 | nil=>rfl
 | cons h t ih=>rw [List.any_cons,List.any_cons,ih,h.1]
theorem KV.repl {kvs:List (κ × V)} {vs:List (κ × Value)} (r:KV kvs vs) (k : κ) {y:V} {u:Value} (d:RelV y u) :
  KV (kvs.map fun a=>if a.1=k then (a.1,y) else a) (vs.map fun a=>if a.1=k then (a.1,u) else a):=by
 unfold KV at r ⊢
 induction r with
 | nil=>exact .nil
 | @cons p q ps qs h t ih =>
  rw [aA5,aA5]
  refine .cons ?_ ih
  obtain ⟨b,c⟩:=h
  by_cases e:p.1=k
  ·rw [aC1 e,aC1 (b.symm.trans e)];exact ⟨b,d⟩
  ·rw [aC2 e,aC2 (fun z=>e (b.trans z))];exact ⟨b,c⟩
theorem KV.put {kvs:List (κ × V)} {vs:List (κ × Value)} (r:KV kvs vs) (k : κ) {y:V} {u:Value} (a:RelV y u):KV (putK kvs k y) (stored vs k u):=by
 unfold putK stored
 rw [r.any k]
 by_cases e:(vs.any fun b=>decide (b.1=k))=true
 ·rw [aC1 e,aC1 e];exact r.repl k a
 ·rw [aC2 e,aC2 e];exact Paired.snoc r ⟨rfl,a⟩
theorem KV.drop {kvs:List (κ × V)} {vs:List (κ × Value)} (r:KV kvs vs) (k : κ):KV (ar6 kvs k) (without vs k):=by
 unfold KV at r ⊢
 unfold ar6 without
 induction r with
 | nil=>exact .nil
 | @cons p q ps qs h t ih =>
  obtain ⟨c,d⟩:=h
  rw [List.filter_cons,List.filter_cons]
  by_cases e:p.1=k
  ·have a:¬ decide (p.1 ≠ k)=true:=by simp [e]
   have b:¬ decide (q.1 ≠ k)=true:=by simp [c.symm.trans e]
   rw [aC2 a,aC2 b];exact ih
  ·have f:¬ q.1=k:=fun z=>e (c.trans z)
   have a:decide (p.1 ≠ k)=true:=by simp [e]
   have b:decide (q.1 ≠ k)=true:=by simp [f]
   rw [aC1 a,aC1 b];exact .cons ⟨c,d⟩ ih
theorem KV.length {kvs:List (κ × V)} {vs:List (κ × Value)} (r:KV kvs vs):kvs.length=vs.length:=Paired.length r
end
theorem ar7 {P:Program} {w:World} {k:Key} {u:Value} (r:RelV (kV k) u):(abl P w).is k u=true:=by
 cases k with
 | inl i=>obtain ⟨t,e⟩:=(show ∃ t,u=Value.int i t from r);subst e;exact alp P w i t
 | inr x=>obtain ⟨t,e⟩:=(show ∃ t,u=Value.str x t from r);subst e;exact alq P w x t
theorem aiq {P:Program} {w:World}:∀ {a:List Key} {us:List Value},Vals (a.map kV) us->ItemsAre (abl P w) a us
 | [],_,r=>by rw [List.map_nil] at r;cases r;exact .nil
 | k :: a,_,r=>by
  rw [aA5] at r
  cases r with
  | cons h t=>exact .cons (ar7 h) (aiq t)
abbrev KT (H:Hp):List (List Key × V)->List (List Key × Addr × Value)->Prop:=Paired fun p q=>p.1=q.1/\H q.2.1=some (.tup (p.1.map kV))/\RelV p.2 q.2.2
theorem KT.val {H:Hp} {kvs:List (List Key × V)} {xs:List (List Key × Addr × Value)} (r:KT H kvs xs) (k:List Key):RelO (valV kvs k) ((atKey xs k).map (·.2)):=by
 induction r with
 | nil=>exact True.intro
 | @cons p q ps qs h t ih =>
  obtain ⟨c,_,d⟩:=h
  by_cases e:p.1=k
  ·have a:q.1=k:=c.symm.trans e
   have b:atKey (q :: qs) k=some q.2:=by simp [atKey,List.find?_cons,a]
   rw [agd e,b];exact d
  ·have a:¬ q.1=k:=fun z=>e (c.trans z)
   have b:atKey (q :: qs) k=atKey qs k:=by simp [atKey,List.find?_cons,a]
   rw [age e,b];exact ih
theorem KT.repl {H:Hp} {kvs:List (List Key × V)} {xs:List (List Key × Addr × Value)} (r:KT H kvs xs) (k:List Key) {y:V} {u:Value} (d:RelV y u) :
  KT H (kvs.map fun b=>if b.1=k then (b.1,y) else b) (xs.map (putAt k u)):=by
 induction r with
 | nil=>exact .nil
 | @cons p q ps qs h t ih =>
  rw [aA5,aA5]
  refine .cons ?_ ih
  obtain ⟨a,c,f⟩:=h
  unfold putAt
  by_cases e:p.1=k
  ·rw [aC1 e,aC1 (a.symm.trans e)];exact ⟨a,c,d⟩
  ·rw [aC2 e,aC2 (fun z=>e (a.trans z))];exact ⟨a,c,f⟩
theorem KT.put {H:Hp} {kvs:List (List Key × V)} {xs:List (List Key × Addr × Value)} (r:KT H kvs xs) (k:List Key) {b:Addr} {y:V} {u:Value} (hb:H b=some (.tup (k.map kV))) (a:RelV y u) :
  KT H (putK kvs k y) (storedH xs k b u):=by
 have e:(kvs.any fun c=>decide (c.1=k))=(atKey xs k).isSome:=by
  rw [akh,(r.val k).isSome_eq,Option.isSome_map]
 unfold putK storedH
 rw [e]
 by_cases q:(atKey xs k).isSome=true
 ·rw [aC1 q,aC1 q];exact r.repl k a
 ·rw [aC2 q,aC2 q];exact Paired.snoc r ⟨rfl,hb,a⟩
theorem KT.keeps {H H':Hp} {kvs:List (List Key × V)} {xs:List (List Key × Addr × Value)} (r:KT H kvs xs) (a:∀ b ys,H b=some (.tup ys)->H' b=some (.tup ys)):KT H' kvs xs :=
 Paired.mapP r fun _ _ z=>⟨z.1,a _ _ z.2.1,z.2.2⟩
section
variable {P:Program} {w:World} {H:Hp} {h:Heap} {a:Addr}
theorem ar8 {u:HO} (ok:HOk P w H h) (e:Rd H a u):ObjOk P w H h a u:=e.ok ok
theorem aw2 {kvs:List (Key × V)} (ok:HOk P w H h) (e:Rd H a (.dK kvs)):kvs.length<=sizeLine/\(a == sysModules)=false/\∃ vs,KV kvs vs/\h.DictOf (abl P w) a vs :=
 show ObjOk P w H h a (.dK kvs) from ar8 ok e
theorem aw3 {kvs:List (Key × V)} (ok:HOk P w H h) (e:H a=some (.dK kvs)):kvs.length<=sizeLine/\(a == sysModules)=false/\∃ vs,KV kvs vs/\h.DictOf (abl P w) a vs:=aw2 ok (.inl e)
theorem aok {b:List Key} (ok:HOk P w H h) (e:H a=some (.tup (b.map kV))):(tupleKind (abl P w)).is h b a:=by
 obtain ⟨_,its,r,o,f,c,n,d⟩:=(show ObjOk P w H h a (.tup (b.map kV)) from ok a _ e)
 exact ⟨o,its.toArray,n,f,c,d,by simpa using aiq r⟩
theorem aw4 {kvs:List (List Key × V)} (ok:HOk P w H h) (e:Rd H a (.dT kvs)):kvs.length<=sizeLine/\(a == sysModules)=false /\
  ∃ xs,KT H kvs xs/\h.DictOfH (tupleKind (abl P w)) a xs:=by
 obtain ⟨z,y,xs,r,o,es,g,d,i,f,j,c⟩:=(show ObjOk P w H h a (.dT kvs) from ar8 ok e)
 refine ⟨z,y,xs,r,o,es,g,d,i,f,j,fun x b=>?_,c⟩
 have all:∀ {l:List (List Key × V)} {m:List (List Key × Addr × Value)},KT H l m->∀ x∈m,(tupleKind (abl P w)).is h x.1 x.2.1:=by
  intro l m q
  induction q with
  | nil=>intro x b;exact nomatch b
  | @cons p q ps qs hq t ih =>
   intro x b
   rcases ay3.mp b with e | b
   ·subst e
    exact aok ok (by rw [← hq.1];exact hq.2.1)
   ·exact ih x b
 exact all r x b
theorem aw5 {kvs:List (List Key × V)} (ok:HOk P w H h) (e:H a=some (.dT kvs)):kvs.length<=sizeLine/\(a == sysModules)=false /\
  ∃ xs,KT H kvs xs/\h.DictOfH (tupleKind (abl P w)) a xs:=aw4 ok (.inl e)
end
def DGet (H:Hp) (a:Addr) (y:V) (r:Option V):Prop :=
 (∃ kvs k,Rd H a (.dK kvs)/\y=kV k/\r=valV kvs k)\/∃ kvs k b,Rd H a (.dT kvs)/\y=.ref b/\H b=some (.tup (k.map kV))/\r=valV kvs k
def DPut (H:Hp) (a:Addr) (y v:V) (H':Hp):Prop :=
 (∃ kvs k,H a=some (.dK kvs)/\y=kV k/\kvs.length < sizeLine/\H'=upd H a (.dK (putK kvs k v))) ∨
 ∃ kvs k b,H a=some (.dT kvs)/\y=.ref b/\H b=some (.tup (k.map kV))/\kvs.length < sizeLine/\H'=upd H a (.dT (putK kvs k v))
theorem DGet.k {H:Hp} {a:Addr} {kvs:List (Key × V)} {k:Key} (e:H a=some (.dK kvs)):DGet H a (kV k) (valV kvs k):=.inl ⟨kvs,k,.inl e,rfl,rfl⟩
theorem DGet.t {H:Hp} {a b:Addr} {kvs:List (List Key × V)} {k:List Key} (e:H a=some (.dT kvs)) (c:H b=some (.tup (k.map kV))):DGet H a (.ref b) (valV kvs k):=.inr ⟨kvs,k,b,.inl e,rfl,c,rfl⟩
theorem DPut.k {H:Hp} {a:Addr} {kvs:List (Key × V)} {k:Key} {v:V} (e:H a=some (.dK kvs)) (b:kvs.length < sizeLine):DPut H a (kV k) v (upd H a (.dK (putK kvs k v))):=.inl ⟨kvs,k,e,rfl,b,rfl⟩
theorem DPut.t {H:Hp} {a b:Addr} {kvs:List (List Key × V)} {k:List Key} {v:V} (e:H a=some (.dT kvs)) (c:H b=some (.tup (k.map kV))) (d:kvs.length < sizeLine) :
  DPut H a (.ref b) v (upd H a (.dT (putK kvs k v))):=.inr ⟨kvs,k,b,e,rfl,c,d,rfl⟩
section
variable {X:Cx} {pins:List (Addr × Obj)} {σ:St} {H:Hp} {s:Shared} {a:Addr} {y v:V} {u r:Value} {o:Option V} {A:Around} {E:Value->Shared->Prop}
theorem Inv.big (I:Inv X pins σ H s):sysModules < s.heap.objs.size:=by
 have h:mainGlobals < s.heap.objs.size:=(I.mod.glob.keeps I.bk).lt
 exact Nat.lt_trans (by decide) h
theorem ama {h':Heap} {t':Nat} {c:HO} (I:Inv X pins σ H s) (f:Mut (H a)) (hs:Heap.SameBut a s.heap h') (d:∃ q,h'.get? a=some q) (new:ObjOk X.prog X.w (upd H a c) h' a c) :
  Inv X pins σ (upd H a c) { s with heap:=h',toks:=t' } :=
 I.write (x:=a) (e:=a) f (.inl rfl) (fun b q hb z=>(hs.2 b hb).trans z) d new
theorem avc {P:Program} {w:World} {H':Hp} {h':Heap} {kvs:List (Key × V)} {vs:List (Key × Value)} (z:kvs.length<=sizeLine) (hd:(a == sysModules)=false) (b:KV kvs vs) (dd:h'.DictOf (abl P w) a vs) :
  ObjOk P w H' h' a (.dK kvs):=⟨z,hd,vs,b,dd⟩
theorem aol {H':Hp} {Q:Unit->Shared->Prop} (M:A.units+1 < cLine) (I:Inv X pins σ H s) (g:DPut H a y v H') (C:RelV y u) (x:RelV v r) (h:∀ p,Inv X pins σ H' p->Q () p) :
  wpAny (model X.prog X.w) A (setItem (.ref a) u r) Q E s:=by
 rcases g with ⟨kvs,k,e,n,l,j⟩ | ⟨kvs,k,b,e,n,D,l,j⟩
 ·subst n j
  obtain ⟨z,hd,vs,d,dd⟩:=aw3 I.hok e
  have m:vs.length<=sizeLine:=by rw [← d.length];exact z
  have o:(putK kvs k v).length<=sizeLine:=by have:=af6 kvs k v;omega
  refine wpAny_setItem_pairs (hsz:=m) (ar7 C) dd fun h' f hs=>h _ ?_
  have K:∃ q,h'.get? a=some q:=let ⟨q,_,_,i,_⟩:=f;⟨q,i⟩
  exact ama I (by rw [e];exact True.intro) hs K (avc o hd (d.put k x) f)
 ·subst n j
  cases (show u=Value.ref b from C)
  obtain ⟨z,hd,xs,d,dd⟩:=aw5 I.hok e
  have m:xs.length<=sizeLine:=by rw [← Paired.length d];exact z
  have o:(putK kvs k v).length<=sizeLine:=by have:=af6 kvs k v;omega
  refine wpAny_setItem_heap (hsz:=m) (tupleKind_room_in1 M) (aok I.hok D) dd fun h' f hs=>h _ ?_
  obtain ⟨q,es,J,i,L,G,N,_,F⟩:=f
  refine ama I (by rw [e];exact True.intro) hs ⟨q,i⟩ ⟨o,hd,_,(d.put k D x).keeps fun c ys B=>?_,q,es,J,i,L,G,N,F⟩
  rw [aaf (aw1 B e (fun z=>nomatch z))]
  exact B
end
section
variable {X:Cx} {pins:List (Addr × Obj)} {σ:St} {H:Hp} {s:Shared} {a:Addr} {kvs:List (Key × V)} {k:Key} {u:Value} {A:Around} {E:Value->Shared->Prop}
end
def ana (td ty tv:TE):TS:=fun D σ H=>tv σ H fun v H1=>td σ H1 fun x H2=>ty σ H2 fun y H3=>∃ a H4,x=.ref a/\DPut H3 a y v H4/\D.nx σ H4
section
variable {X:Cx} {o i e value:Expr} {pos pos' tpos:Pos} {td ty tv:TE}
theorem afp (w:X.A.units+1 < cLine) (d:PE X o td) (hi:PE X i ty) (c:PE X value tv) (hs:swapsWith value (some (.Subscript o i pos')) pos.line X.env=pure false) :
  PS X (.Assign [.Subscript o i pos'] value pos) (ana td ty tv):=by
 intro pins s σ H D I h
 refine wpAny_Assign_Subscript (thn (c pins s σ H _ I h) fun r s1 ⟨v,B,f,b,p⟩=>thn (d pins s1 σ B _ f p) fun u s2 ⟨x,H2,C,l,m⟩=>thn (hi pins s2 σ H2 _ C m) fun F J ⟨y,H3,q,z,a,j,ex,g,n⟩=>?_) hs
 subst ex
 obtain rfl:u=Value.ref a:=l
 exact aol w q g z b fun G E=>⟨σ,j,E,n⟩
end
theorem ap7 {P:Program} {w:World} {H:Hp} (h:Heap) (hb:sysModules < h.objs.size):ObjOk P w H (h.push { cls:=.type "dict",data:=.dict #[] }) h.objs.size (.dK []) :=
 ⟨aC5 _,beq_eq_false_iff_ne.mpr (Ne.symm (az0 hb)),[],.nil,Heap.DictOf.new h⟩
theorem ap8 {P:Program} {w:World} {H:Hp} (h:Heap) (hb:sysModules < h.objs.size):ObjOk P w H (h.push { cls:=.type "dict",data:=.dict #[] }) h.objs.size (.dT []) :=
 ⟨aC5 _,beq_eq_false_iff_ne.mpr (Ne.symm (az0 hb)),[],.nil,_,#[],0,aF6 _ rfl,⟨rfl,rfl,rfl⟩,rfl,rfl,List.nodup_nil⟩
def aom:TE:=fun _ H Q=>∀ p,H p=none->Q (.ref p) (upd H p (.dK []))
def aon:TE:=fun _ H Q=>∀ p,H p=none->Q (.ref p) (upd H p (.dT []))
section
variable {X:Cx} {pos:Pos}
theorem ap9:PE X (.Dict [] [] pos) aom:=fun pins s σ H Q I h =>
 wpAny_Dict_empty ⟨.ref s.heap.objs.size,_,I.laid (a:=s.heap.objs.size) (o:=.dK []) (t':=s.toks) (fun _ _ q=>aF4 _ q) (ay1 _) (ap7 s.heap I.big),rfl,h _ (I.hok.fresh (ay1 _))⟩
theorem aqa:PE X (.Dict [] [] pos) aon:=fun pins s σ H Q I h =>
 wpAny_Dict_empty ⟨.ref s.heap.objs.size,_,I.laid (a:=s.heap.objs.size) (o:=.dT []) (t':=s.toks) (fun _ _ q=>aF4 _ q) (ay1 _) (ap8 s.heap I.big),rfl,h _ (I.hok.fresh (ay1 _))⟩
end
section
variable {X:Cx} {pins:List (Addr × Obj)} {σ:St} {H:Hp} {s:Shared} {a:Addr} {y d:V} {u r:Value} {o:Option V} {A:Around} {E:Value->Shared->Prop}
end
section
variable {X:Cx} {o e f:Expr} {apos cpos:Pos} {td ty tx:TE}
end
section
variable {X:Cx} {pins:List (Addr × Obj)} {σ:St} {H:Hp} {s:Shared} {a:Addr} {kvs:List (Key × V)} {A:Around} {E:Value->Shared->Prop}
end
section
variable {X:Cx} {pins:List (Addr × Obj)} {σ:St} {H:Hp} {s:Shared} {a:Addr} {y:V} {u:Value} {A:Around} {E:Value->Shared->Prop}
end
end L2
namespace Att
open PySem PySem.W PySem.Calls PyProof.Rows
theorem ag1 {P:Params} {h:Heap}:∀ (ns:List Int) (vs:List Value),WellAll P h vs (ns.map WData.int)->IntsAre vs ns:=by
 intro ns
 induction ns with
 | nil =>
  intro vs w
  rw [List.map_nil] at w
  cases w
  exact .nil
 | cons n ns ih =>
  intro vs w
  rw [aA5] at w
  cases w with
  | cons a b =>
   cases a
   exact .cons _ _ (ih _ b)
theorem aoo {l:OpenLaw} {n:Nat} (hn:l.most=some n) {P:Params} {h:Heap} {args:List WData} {c:List Value}
  (b:l.row.toRowW.claim.pre args=true) (j:WellAll P h c args) :
  ∃ a vs ns,c=[Value.ref a]/\args=[WData.list (ns.map WData.int)]/\h.get? a=some { cls:=.type "list",data:=.seq vs.toArray }/\IntsAre vs ns/\ns.length<=n:=by
 have m:WShape.hasAll [] args [.list .int]=true:=(pre_splitW b).1
 have o:l.pre.holds [] { args:=args }=true:=(pre_splitW b).2
 obtain ⟨d,r,rfl,p,u⟩:=hasAllW_cons m
 obtain rfl:=hasAllW_nil u
 obtain ⟨xs,rfl,s⟩:=hasW_list p
 obtain ⟨ns,rfl⟩:=items_int s
 have f:ns.length<=n:=by
  unfold OpenLaw.pre at o
  have i:(WTm.not (.lt (.lit (.int (n:Int))) (.len (.arg 0)))).holds [] { args:=[.list (ns.map .int)] }=true:=by
   have i:=(holds_andW o).1
   rw [hn] at i
   exact i
  have g:=condW_of i (w_not (w_lt w_lit (w_len_list (w_arg rfl))))
  rw [ax8] at g
  refine Nat.le_of_not_lt fun q=>?_
  have v:(n:Int) < ((ns.length:Nat):Int):=by omega
  first
   | (rw [aA9 v] at g;exact absurd g (by decide))
   | (simp at g;omega)
 cases j with
 | cons w1 w2 =>
  cases w2
  cases w1 with
  | list ho hall=>exact ⟨_,_,ns,rfl,rfl,ho,ag1 ns _ hall,f⟩
theorem aop (l:OpenLaw) (args:List WData):l.row.toRowW.claim.post args (.bool true) args=true :=
 postW_of (r:=l.row.toRowW) (X:=(true == true))
  (show WShape.has [] (.bool true) .bool=true by first | rfl | decide | simp [WShape.has,WShape.arms,WShape.armsAll])
  (show (WTm.eq .res (.lit (.bool true))).value [] { args:=args,res:=some (.bool true),after:=args }=some (.bool (true == true)) from w_eq_bool (w_res rfl) w_lit) rfl
theorem attach_call {l:OpenLaw} {n:Nat} {q:Program} {c:List Str} {XP:(Str->Option Value)->Heap->Prop} {y:World->Heap->Prop} {d:DefRec}
  (hn:l.most=some n) (v:d.params.defaults=[])
  (call:∀ (w:World) (s₀ b:Shared) (mg mb:Str->Option Value) (fa:Addr) (o:Obj) (pm p doc:Value) (a:Addr) (vs:List Value) (ns:List Int),
   Ground q c [] XP w s₀ mg mb b.heap->y w b.heap ->
   b.heap.get? fa=some o->o.data=.func (docDef d.name d.params d.body d.scope pm p doc)->b.heap.CodeRec p d.name->mg d.name=some (.ref fa) ->
   b.heap.get? a=some { cls:=.type "list",data:=.seq vs.toArray }->IntsAre vs ns->ns.length<=n->b.gens = #[] ->
   codeAny (model l.prog w) callerA (.call (.ref fa) ⟨[.ref a],[]⟩) (fun r m=>r=.ok (.ret (.bool true))/\OldK b.heap m.heap/\m.os=b.os/\AllBare m.gens) b) :
  WalkO q c XP y l.row.toRowW d [] (fun f vs=>PySem.call f vs):=by
 intro w s₀ b mg mb G Y fa o pm p doc L kV E hd u z x D args B as h A H s C
 obtain rfl:L=.none:=Dflts.none z v
 obtain rfl:kV=.none:=Dflts.noKw z
 obtain ⟨a,vs,ns,rfl,rfl,j,g,i⟩:=aoo hn h s
 refine enter_call (aF7 (call w s₀ b mg mb fa o pm p doc a vs ns G Y E (fd_plain hd) u x j g i D) fun r m J=>?_)
 obtain ⟨rfl,I,F,K⟩:=J
 exact ⟨.inl ⟨.bool true,.bool true,[],rfl,fun _=>rfl,.bool true,aop l _,fun _=>⟨List.Pairwise.nil,fun _ hm=>(nomatch hm)⟩⟩,I,F,K⟩
section
variable {prog:Program} {w:World} {A:Around} {E:Value->Shared->Prop} {s:Shared} {K:Frag}
end
end Att
namespace L2
open PySem PySem.Spec PyProof.Rows
theorem ae5:∀ {vs:List Value} {ns:List Int},IntsAre vs ns->Vals (ns.map V.int) vs
 | _,_,.nil => .nil
 | _,_,.cons n t h => .cons ⟨t,rfl⟩ (ae5 h)
def Only (H:Hp):Prop:=∀ b,H b=none\/∃ o xs,H b=some (.frz o (.lst xs))
theorem aqb {P:Program} {w:World} {K:Frag} {mg mb:Str->Option Value} {CX:CXT} {k:Nat} {fa a:Addr} {fd:FuncData} {x:Str} {sp:Sp} {c:Shared} {vs:List Value} {ns:List Int}
  (S:K.In c.heap) (D:c.heap.Ns mainGlobals mg) (hb:c.heap.Ns builtinsNs mb) (J:∀ x:Str,x ≠ "__name__"->mb x=bootBuiltins x) (B:c.heap.NoLimit) (hg:c.gens = #[])
  (ha:c.heap.get? a=some { cls:=.type "list",data:=.seq vs.toArray }) (hi:IntsAre vs ns) (Q:ns.length<=sizeLine) (hr:Room k callerA)
  (F:∀ base:Heap,K.In base->base.Ns mainGlobals mg->FnOk P w K mg base CX k fa fd [x] sp) (l:∀ (s:Shared) (u:Value),BindsTo s fd ⟨[u],[]⟩ [(x,u)])
  (G:∀ H:Hp,Only H->SqL K H a (ns.map V.int)->sp [.ref a] H (fun v _=>v=.bl true) fun _ _ _=>False)
  (I:∀ H e g,CX [] H c (fun _ _ _=>False) e g->False) :
  codeAny (model P w) callerA (.call (.ref fa) ⟨[.ref a],[]⟩) (fun r g=>r=.ok (.ret (.bool true))/\OldK c.heap g.heap/\g.os=c.os/\AllBare g.gens) c:=by
 have O:=ae5 hi
 have E:=hi.length
 -- from an abstract heap in which nothing but the script may be tracked
 have j:∀ H:Hp,Only H->SqL K H a (ns.map V.int)->HOk P w H c.heap->(∀ b,H b ≠ none->b=a)->(H a ≠ none->K.lookup a=none) ->
   codeAny (model P w) callerA (.call (.ref fa) ⟨[.ref a],[]⟩) (fun r g=>r=.ok (.ret (.bool true))/\OldK c.heap g.heap/\g.os=c.os/\AllBare g.gens) c:=by
  intro H R Z hok T Y
  have f:∀ {b:Addr} {o:Obj},c.heap.get? b=some o->H b=none->(hidT c.heap H).get? b=some o:=fun e n=>ap2 e n
  have M:∀ {b:Addr} {o:Obj} {es:Array DictEntry} {p:Nat},c.heap.get? b=some o->o.data=.dict es p->H b=none:=fun {b o es p} e d=>by
   cases q:H b with
   | none=>rfl
   | some u =>
    have L:b=a:=T b (by rw [q];simp)
    subst L
    rw [ha] at e;cases e
    have d':Data.seq vs.toArray _=Data.dict es p:=d
    cases d'
  have i:∀ {b:Addr} {m:Str->Option Value},c.heap.Ns b m->(hidT c.heap H).Ns b m:=fun {b m} ⟨o,es,p,e,d,r⟩=>⟨o,es,p,f e (M e d),d,r⟩
  have A:K.In (hidT c.heap H):=fun b o e=>f (S b o e) (by
   cases q:H b with
   | none=>rfl
   | some u =>
    have L:b=a:=T b (by rw [q];simp)
    subst L
    rw [Y (by rw [q];simp)] at e;cases e)
  have U:Mod K mg (hidT c.heap H):=⟨A,i D,⟨mb,i hb,J⟩,let ⟨mc,W,h2⟩:=B;⟨mc,i W,h2⟩⟩
  have e0:Env0 P w K mg (hidT c.heap H) callerA [] c H:=⟨rfl,U,fun b o e=>asg e,Nat.le_of_eq (an3 _ _),trivial,fun b hb=>absurd (show b∈([]:List Addr) from hb) (by simp),hok,.of_eq hg⟩
  refine aF7 ((F _ A (i D)).run callerA [] c H ⟨[.ref a],[]⟩ [.ref a] [.ref a] _ _ hr e0 (l c (.ref a)) (.cons rfl .nil) (G H R Z)) fun r g h=>?_
  cases r with
  | error e=>exact (I H e g h).elim
  | ok fl =>
   cases fl with
   | next=>exact False.elim h
   | brk=>exact False.elim h
   | cont=>exact False.elim h
   | ret u =>
    obtain ⟨v,H',os,bare,un,y,r',q⟩:=h
    have X:v=.bl true:=q
    subst X
    obtain rfl:u=Value.bool true:=r'
    refine ⟨rfl,OldK.of_keep fun b o e=>?_,os,bare⟩
    cases q:H b with
    | none=>exact un.keep b o e q (by intro z;exact absurd (show b∈([]:List Addr) from z) (by simp)) (by simp)
    | some u =>
     rcases R b with z | ⟨ob,xs,z⟩
     ·rw [q] at z;cases z
     ·have z2:=un.frzs b ob _ z
      obtain ⟨N,_⟩:=hok b _ z
      obtain ⟨e2,_⟩:=y b _ z2
      rw [e] at N;cases N
      exact e2
 cases hk:K.lookup a with
 | some o =>
  -- the script is one of the module's own objects
  have e:=S a o hk
  rw [ha] at e
  cases e
  refine j (fun _=>none) (fun _ => .inl rfl) (.inr ⟨_,vs.toArray,_,hk,rfl,rfl,rfl,by rw [ay6,E];exact Q,by simpa using O⟩) (fun b u z=>by have C:(none:Option HO)=some u:=z;cases C) (fun b z=>absurd rfl z) fun z=>absurd rfl z
 | none =>
  refine j (fun b=>if b=a then some (.frz { cls:=.type "list",data:=.seq vs.toArray } (.lst (ns.map V.int))) else none) (fun b=>?_) (.inl (.inr ⟨{ cls:=.type "list",data:=.seq vs.toArray },aC1 rfl⟩)) (fun b u z=>?_) (fun b z=>?_) fun _=>hk
  ·by_cases hb:b=a
   ·exact .inr ⟨_,_,aC1 hb⟩
   ·exact .inl (aC2 hb)
  ·by_cases hb:b=a
   ·have C:=(aC1 hb).symm.trans z
    cases C
    subst hb
    exact ⟨ha,by rw [ax8];exact Q,vs,_,O,ha⟩
   ·have C:=(aC2 hb).symm.trans z
    cases C
  ·by_cases hb:b=a
   ·exact hb
   ·exact absurd (aC2 hb) z
abbrev KOf {K:Frag} {h:Heap} (_:K.In h):Frag:=K
theorem walk_of {l:PySem.W.OpenLaw} {n k:Nat} {q:Program} {j:List Str} {XP:(Str->Option Value)->Heap->Prop} {D:World->Heap->Prop} {d:DefRec} {K:Params->Frag} {CX:World->CXT} {sp:World->Sp} {x:Str}
  (hn:l.most=some n) (y:n<=sizeLine) (A:d.params.defaults=[]) (P:Room k callerA)
  (I:∀ (w:World) (h:Heap),D w h->(K w.params).In h)
  (F:∀ (w:World) (mg:Str->Option Value) (fa:Addr) (h:Heap),(K w.params).In h->h.Ns mainGlobals mg->mg d.name=some (.ref fa) ->
   ∃ fd:FuncData,(∀ (s:Shared) (u:Value),BindsTo s fd ⟨[u],[]⟩ [(x,u)]) /\
    ∀ base:Heap,(K w.params).In base->base.Ns mainGlobals mg->FnOk l.prog w (K w.params) mg base (CX w) k fa fd [x] (sp w))
  (C:∀ (w:World) (H:Hp) (a:Addr) (ns:List Int),ns.length<=n->Only H->SqL (K w.params) H a (ns.map V.int)->sp w [.ref a] H (fun v _=>v=.bl true) fun _ _ _=>False)
  (z:∀ (w:World) (H:Hp) (s:Shared) (e:Value) (r:Shared),CX w [] H s (fun _ _ _=>False) e r->False) :
  PySem.W.WalkO q j XP D l.row.toRowW d [] (fun f vs=>PySem.call f vs):=by
 refine Att.attach_call hn A fun w s₀ m mg mb fa o pm R doc a vs ns G Y Q hd N B p i c L=>?_
 have E:=I w _ Y
 obtain ⟨fd,hb,M⟩:=F w mg fa _ E G.T.g B
 exact aqb E G.T.g G.T.b G.T.builtins G.T.nolimit L p i (aA4 c y) P M hb (fun H J O=>C w H a ns c J O) fun H e r=>z w H m e r
end L2
/- THE LAST THEOREM (shape; LID, My.* are yours):
  My.Adr: a structure of the addresses that your layer names (classes,functions);My.Txt K t: a structure (Prop) of the equations over K;
  My.txt_mk:{K} {implicit addresses ..} (e1:nsIn K mainGlobals "law" = some (some (.ref f))) (e2:K.lookup f=some ⟨oc,od,.func (fnOf "law" "law" params body scope dV kV doc pm an cdv ct),sl⟩) (e3:codeIn K cdv "law" = true) .. : ∃ t,My.Txt K t
set_option maxRecDepth 100000 in
set_option maxHeartbeats 0 in
theorem PySem.Challenge.cw_LID_holds : PySem.Challenge.rw_LID.Holds := by
 w_on;o_law;k_head;(case hw=>w_witness2)
 k_fill
 refine L2.walk_of (l:=PySem.Challenge.rw_LID) (n:=63) (k:=40) (x:="script") (CX:=fun w => ..) (sp:=fun _=>My.sp_law) rfl (by decide) rfl ⟨rfl,by decide,by decide⟩ (fun w h Y=>PySem.W.kIn_of Y) ?F ?S ?C
 case F =>
  intro w mg fa h KX G hmg
  have T:∃ t,My.Txt (L2.KOf KX) t:=by
   dsimp only [L2.KOf]                          -- K must stand as «<heap const> w.params» for k_is
   refine' My.txt_mk ?e1 ?e2 ?e3 ..
   (case e1=>PySem.W.k_is)                    -- in the order: a name -> its address -> its object -> its parts
   (case e2=>PySem.W.k_is)
   ..
  obtain ⟨t,T⟩:=T
  have e0:=hmg.symm.trans (mg_of KX G T.law)
  cases e0                                       -- fa is the law's own address
  exact ⟨_,fun s u => .of_eq rfl,fun base kb nb=>My.law_fn T kb nb⟩     -- if «.of_eq rfl» comes too early: refine' ⟨_,?b,fun base kb nb=>My.law_fn T kb nb⟩;exact fun s u => .of_eq rfl
 case S=>exact fun w H a ns hl hO hS => ..
 case C=>exact ..
(the tactic k_is has no namespace: write k_is) -/
namespace L2
open PySem PySem.Spec PyProof.Rows
def acd (s:Stmt):Arguments:=match s with
 | .FunctionDef _ a _ _ _ _ _ _ _ _=>a
 | _=>{ posonlyargs:=[],args:=[],vararg:=none,kwonlyargs:=[],kw_defaults:=[],kwarg:=none,defaults:=[] }
def abw (s:Stmt):List Stmt:=match s with
 | .FunctionDef _ _ b _ _ _ _ _ _ _=>b
 | _=>[]
def aah (s:Stmt):Scope:=match s with
 | .FunctionDef _ _ _ _ _ _ sc _ _ _=>sc
 | _=>{ kind:=.function,names:=[],isGenerator:=false,isCoroutine:=false }
abbrev CX0:CXT:=fun _ _ _ _ _ _=>False
abbrev E0:XK:=fun _ _ _=>False
theorem aw6 {X:Cx}:agy CX0 X E0:=fun _ _ _ _ _ _ _ h=>h.elim
structure Fun (K:Frag) (x qual:Str) (st:Stmt) (f:Addr) (fd:FuncData):Prop where
 ex:∃ (oc:Value) (od:Option Addr) (kV doc pm:Value) (an:Option Addr) (cdv ct:Value) (osl:Array (Option Value)),
  fd=fnOf x qual (acd st) (abw st) (aah st) .none kV doc pm an cdv ct/\K.lookup f=some ⟨oc,od,.func fd,osl⟩/\codeIn K cdv qual=true
 kp:keepIn K (.ref f)=true
section
variable {P:Program} {w:World} {K:Frag} {mg:Str->Option Value} {base:Heap}
theorem Fun.ok {x qual:Str} {st:Stmt} {f:Addr} {fd:FuncData} {N ps:List Str} {k:Nat} {sp:Sp} (F:Fun K x qual st f fd) (S:FnScope N ps (aah st)) (len:∀ vs H Q E,sp vs H Q E->vs.length=ps.length)
  (a:∀ (cdv:Value) (A:Around) (outer:List Env) (s:Shared) (H:Hp) (vs:List V) (Q:VK) (E:XK),Room k (A.deeper (envOfC qual (aah st) s.heap.objs.size f cdv))->sp vs H Q E ->
   ∃ t,PSs (cxOf CX0 P w K mg base N qual (aah st) f cdv A outer s H E).nox (abw st) t/\t { nx:=fun _ H'=>Q .non H',rt:=Q } (start N vs) H):FnOk P w K mg base CX0 (k+1) f fd ps sp:=by
 obtain ⟨oc,od,kV,doc,pm,an,cdv,ct,osl,rfl,d,b⟩:=F.ex
 refine ar4 d b S len fun A outer s H vs Q E g c=>?_
 obtain ⟨t,h,q⟩:=a cdv A outer s H vs Q E g c
 exact ⟨t,h.nox,q⟩
theorem Fun.binds {x qual:Str} {st:Stmt} {f:Addr} {fd:FuncData} {ps:List Str} (F:Fun K x qual st f fd)
  (h:∀ (kV doc pm:Value) (an:Option Addr) (cdv ct:Value) (us:List Value),us.length=ps.length->bindArgs (fnOf x qual (acd st) (abw st) (aah st) .none kV doc pm an cdv ct) ⟨us,[]⟩=pure (ps.zip us)):Binds K fd ps []:=by
 obtain ⟨oc,od,kV,doc,pm,an,cdv,ct,osl,rfl,b,a⟩:=F.ex
 exact .all (h kV doc pm an cdv ct)
theorem avd {x qual:Str} {st:Stmt} {f:Addr} {oc:Value} {od an:Option Addr} {osl:Array (Option Value)} {kV doc pm cdv ct:Value} (l:K.lookup f=some ⟨oc,od,.func (fnOf x qual (acd st) (abw st) (aah st) .none kV doc pm an cdv ct),osl⟩)
  (c:codeIn K cdv qual=true) (k:keepIn K (.ref f)=true):Fun K x qual st f (fnOf x qual (acd st) (abw st) (aah st) .none kV doc pm an cdv ct):=⟨⟨oc,od,kV,doc,pm,an,cdv,ct,osl,rfl,l,c⟩,k⟩
end
theorem ajy {A:Around} {k:Nat} (a:Room k A):A.units+1 < cLine:=aB1 (Nat.add_le_add_left (by decide:1<=64) _) a.units
theorem ad5 {n:Nat} (h:n<=1000):n < sizeLine:=aB1 h (by decide)
section
variable {X:Cx}
theorem pv (i:Nat) {x:Str} {pos:Pos} (c:X.N[i]?=some x:=by rfl) (b:Vis X.env.scope x:=by first | exact Or.inl rfl | exact Or.inr (Or.inl rfl) | exact Or.inr (Or.inr rfl)) (hd:(x == ("__debug__" : Str))=false:=by decide)
  (a:(x == ("__classdict__" : Str))=false:=by decide):PE X (.Name x pos) (tVar i):=au5 c b hd a
end
theorem iteF {A B:Prop} (h:B):if false=true then A else B:=by
 rw [aC2 ay4]
 exact h
theorem iteT {A B:Prop} (h:A):if true=true then A else B:=by
 rw [aC1 rfl]
 exact h
def Same (H H':Hp):Prop:=∀ b o,H b=some o->H' b=some o
theorem Same.refl (H:Hp):Same H H:=fun _ _ h=>h
theorem Same.trans {H d H2:Hp} (a:Same H d) (b:Same d H2):Same H H2:=fun c o h=>b c o (a c o h)
theorem Same.free {H H':Hp} (e:Same H H') {l:Addr} (h:H' l=Option.none):H l=Option.none:=by
 cases q:H l with
 | none=>rfl
 | some o =>
  rw [e l o q] at h
  cases h
theorem Same.seq {K:Frag} {H H':Hp} {a:Addr} {xs:List V} (e:Same H H') (h:SqL K H a xs):SqL K H' a xs:=by
 rcases h with (h | ⟨o,h⟩) | h
 ·exact .inl (.inl (e _ _ h))
 ·exact .inl (.inr ⟨o,e _ _ h⟩)
 ·exact .inr h
section
variable {X:Cx}
end
section
variable {κ:Type} [DecidableEq κ]
end
def clos (env:Env):List (Str × NameKind)->List (Str × Addr)->List (Str × Addr)
 | [],cs=>cs
 | (n,k) :: r,cs=>if k == NameKind.free then (match env.cells.lookup n with | some a=>clos env r ((n,a) :: cs) | none=>clos env r cs) else clos env r cs
theorem ag2 {env:Env} {sc:Scope} (h:∀ n,(n,NameKind.free)∈sc.names->∃ a,env.cells.lookup n=some a):closureFor sc env=pure (clos env sc.names []):=by
 have all:∀ (l:List (Str × NameKind)) (cs:List (Str × Addr)),(∀ n,(n,NameKind.free)∈l->∃ a,env.cells.lookup n=some a) ->
   (forIn l cs fun (x:Str × NameKind) (cs:List (Str × Addr))=>match x with | (name,kind)=>if kind == NameKind.free then (do let a ← cellOf env name;pure (ForInStep.yield ((name,a) :: cs))) else pure (ForInStep.yield cs))=(pure (clos env l cs):Sem _):=by
  intro l
  induction l with
  | nil=>intro cs _;rfl
  | cons p r ih =>
   intro cs c
   obtain ⟨n,k⟩:=p
   rw [List.forIn_cons]
   unfold clos
   dsimp only
   cases hk:(k == NameKind.free) with
   | false =>
    simp only [Bool.false_eq_true,if_false,pure_bind]
    exact ih cs fun m hm=>c m (ay9 _ hm)
   | true =>
    have d:k=NameKind.free:=by simpa using hk
    subst d
    obtain ⟨a,ha⟩:=c n az2
    have f:cellOf env n=pure a:=by unfold cellOf;rw [ha]
    simp only [if_true,f,pure_bind,ha]
    exact ih _ fun m hm=>c m (ay9 _ hm)
 have e:=all sc.names [] h
 unfold closureFor
 refine Eq.trans (b:=(pure (clos env sc.names []):Sem _) >>= fun cs=>pure cs) ?_ (pure_bind _ _)
 exact congrArg (fun z:Sem (List (Str × Addr))=>z >>= fun cs=>pure cs) e
theorem ad6 {env:Env} {x:Str} {c:Addr}:∀ {l:List (Str × NameKind)} {cs:List (Str × Addr)},(clos env l cs).lookup x=some c->env.cells.lookup x=some c\/cs.lookup x=some c
 | [],cs,h => .inr h
 | (n,k) :: r,cs,h=>by
  unfold clos at h
  by_cases hk:(k == NameKind.free)=true
  ·rw [aC1 hk] at h
   cases ha:env.cells.lookup n with
   | none=>rw [ha] at h;exact ad6 h
   | some a =>
    rw [ha] at h
    rcases ad6 h with e | e
    ·exact .inl e
    ·rw [aD4] at e
     cases hx:(x == n) with
     | true =>
      rw [hx] at e
      have:x=n:=by simpa using hx
      subst this
      cases e
      exact .inl ha
     | false=>rw [hx] at e;exact .inr e
  ·rw [aC2 hk] at h
   exact ad6 h
theorem ad7 {env:Env} {x:Str}:∀ {l:List (Str × NameKind)} {cs:List (Str × Addr)},(∃ c,cs.lookup x=some c)->∃ c,(clos env l cs).lookup x=some c
 | [],cs,h=>h
 | (n,k) :: r,cs,h=>by
  unfold clos
  by_cases hk:(k == NameKind.free)=true
  ·rw [aC1 hk]
   cases ha:env.cells.lookup n with
   | none=>exact ad7 h
   | some a =>
    refine ad7 ?_
    rw [aD4]
    cases hx:(x == n) with
    | true=>exact ⟨_,rfl⟩
    | false=>exact h
  ·rw [aC2 hk]
   exact ad7 h
theorem adz {env:Env} {x:Str} (h:∃ a,env.cells.lookup x=some a):∀ {l:List (Str × NameKind)} {cs:List (Str × Addr)},(x,NameKind.free)∈l->∃ c,(clos env l cs).lookup x=some c
 | [],_,hm=>absurd hm (by simp)
 | (n,k) :: r,cs,hm=>by
  rcases ay3.mp hm with e | hm
  ·cases e
   obtain ⟨a,ha⟩:=h
   unfold clos
   rw [aC1 (by rfl),ha]
   refine ad7 ⟨a,?_⟩
   rw [aD4]
   simp
  ·unfold clos
   by_cases hk:(k == NameKind.free)=true
   ·rw [aC1 hk]
    cases ha:env.cells.lookup n with
    | none=>exact adz h hm
    | some a=>exact adz h hm
   ·rw [aC2 hk]
    exact adz h hm
theorem ae6 {env:Env} {x:Str}:∀ {names:List (Str × NameKind)},(∀ y∈names,y.2 ≠ .cell) ->
  ((names.map fun (n,k)=>if (k == NameKind.free && env.scope.kind == .function && env.kindOf n == some .cell) then (n,NameKind.cell) else (n,k)).lookup x=some .cell ∨
   (names.map fun (n,k)=>if (k == NameKind.free && env.scope.kind == .function && env.kindOf n == some .cell) then (n,NameKind.cell) else (n,k)).lookup x=some .free)->names.lookup x=some .free
 | [],_,h=>by rcases h with h | h <;> simp at h
 | (n,k) :: r,hc,h=>by
  have a:=@ae6 env x r fun y c=>hc y (ay9 _ c)
  rw [aD4]
  simp only [aA5] at h
  by_cases hq:(k == NameKind.free && env.scope.kind == .function && env.kindOf n == some .cell)=true
  ·rw [aC1 hq] at h
   have b:k=NameKind.free:=by
    have:=hq;simp only [aD6] at this;simpa using this.1.1
   subst b
   cases hx:(x == n) with
   | true=>rfl
   | false=>simp only [aD4,hx] at h;exact a h
  ·rw [aC2 hq] at h
   cases hx:(x == n) with
   | true =>
    simp only [aD4,hx] at h
    rcases h with h | h
    ·cases h;exact absurd rfl (hc (n,NameKind.cell) az2)
    ·exact h
   | false=>simp only [aD4,hx] at h;exact a h
theorem ad8 {env:Env} {x:Str}:∀ {names:List (Str × NameKind)},names.lookup x=some .free ->
  ((names.map fun (n,k)=>if (k == NameKind.free && env.scope.kind == .function && env.kindOf n == some .cell) then (n,NameKind.cell) else (n,k)).lookup x=some .cell ∨
   (names.map fun (n,k)=>if (k == NameKind.free && env.scope.kind == .function && env.kindOf n == some .cell) then (n,NameKind.cell) else (n,k)).lookup x=some .free)
 | [],h=>by simp at h
 | (n,k) :: r,h=>by
  have a:=@ad8 env x r
  rw [aD4] at h
  simp only [aA5]
  by_cases hq:(k == NameKind.free && env.scope.kind == .function && env.kindOf n == some .cell)=true
  ·rw [aC1 hq]
   cases hx:(x == n) with
   | true=>left;simp [aD4,hx]
   | false=>rw [hx] at h;simp only [aD4,hx];exact a h
  ·rw [aC2 hq]
   cases hx:(x == n) with
   | true=>rw [hx] at h;right;simp only [aD4,hx];exact h
   | false=>rw [hx] at h;simp only [aD4,hx];exact a h
def Cx.comp (X:Cx) (N:List Str) (sc:Scope) (C:Addr) (s0:Shared) (H0:Hp) (ex:List Addr):Cx where
 prog:=X.prog
 w:=X.w
 K:=X.K
 mg:=X.mg
 base:=X.base
 A:=X.A
 N:=N
 s₀:=s0
 H₀:=H0
 env:=compEnvC sc (clos X.env sc.names []) C X.env
 outer:=X.stack
 stack:=X.stack
 ex:=ex
 fn:=fun _=>false
 calm:=X.calm
 pn:=[]
 xe:=fun _ _=>False
def pick (src:List (Option Nat)) (σ:St):St:=src.map fun o=>match o with | some j=>(σ[j]?).getD none | none=>none
structure LcOk (X:Cx) (N:List Str) (sc:Scope) (src:List (Option Nat)):Prop where
 kind:sc.kind=.function
 nocell:∀ y∈sc.names,y.2 ≠ .cell
 own:∀ y∈sc.names,y.2=.local->sc.names.lookup y.1=some .local
 outs:∀ y∈sc.names,y.2=.free->X.env.kindOf y.1=some .cell\/X.env.kindOf y.1=some .free
 len:src.length=N.length
 from':∀ (i j:Nat),src[i]?=some (some j)->∃ x,N[i]?=some x/\X.N[j]?=some x/\sc.names.lookup x=some .free
theorem LcOk.clo {X:Cx} {N:List Str} {sc:Scope} {src:List (Option Nat)} (L:LcOk X N sc src) (ok:X.Ok):closureFor sc X.env=pure (clos X.env sc.names []) :=
 ag2 fun n hn=>ok.has n (L.outs (n,.free) hn rfl)
theorem aki {X:Cx} {pins:List (Addr × Obj)} {σ:St} {H:Hp} {s:Shared} {N:List Str} {sc:Scope} {src:List (Option Nat)} {fp:List Addr} {n:Heap} {t':Nat}
  (L:LcOk X N sc src) (I:Inv X pins σ H s) (hf:∀ b∈fp,FpOk X pins H b) (f:∀ b∈fp,b < s.heap.objs.size)
  (hn:n.Ns s.heap.objs.size fun _=>none) (g:∀ b o,s.heap.get? b=some o->n.get? b=some o) :
  Inv (X.comp N sc s.heap.objs.size s H fp) [] (pick src σ) H { s with heap:=n,toks:=t' }:=by
 have look:∀ {x c},(clos X.env sc.names []).lookup x=some c->X.env.cells.lookup x=some c:=fun {x c} e=>by
  rcases ad6 e with z | z
  ·exact z
  ·simp at z
 refine ⟨⟨I.ok.mod,L.kind,I.ok.glob,I.ok.blt,ay1 _,fun x y c B a=>?_,fun x O=>?_,fun x c z _=>?_,I.ok.hd,I.ok.frames,.inl rfl,fun b hb=>⟨?_,fun x c e=>?_⟩,I.bs,aA4 I.ok.bsz I.sz,fun b o e hb=>?_,fun b hb z=>?_,I.stack,I.stkFree⟩,
  rfl,I.bare,Un.kept g,⟨_,hn,fun i x v B a Q=>?_⟩,fun x c e=>?_,I.hok.fresh (ay1 _),fun x c e=>I.freeC x c (look e),fun p J=>?_,I.hok.kept g,?_⟩
 ·exact I.ok.inj x y c (look B) (look a)
 ·have q:=ae6 (env:=X.env) (x:=x) L.nocell O
  exact adz (I.ok.has x (L.outs (x,.free) (PySem.mem_of_lookup q) rfl)) (PySem.mem_of_lookup q)
 ·exact Bool.noConfusion z
 ·exact az0 (f b hb)
 ·exact (hf b hb).2.2.2.2.1 x c (look e)
 ·rcases (hf b hb).2.2.2.1 with z | z
  ·exact I.ok.noex b o e z
  ·exact absurd (az9 (aF5 e) (aA4 I.ok.bsz z)) (aC9 _)
 ·rcases ay3.mp (I.stkSub b z) with q | q
  ·exact (hf b hb).2.1 q
  ·exact (hf b hb).2.2.1 q
 ·unfold pick at a
  rw [ay0] at a
  cases q:src[i]? with
  | none=>rw [q] at a;cases a
  | some o =>
   rw [q] at a
   cases o with
   | none=>cases a
   | some j =>
    obtain ⟨y,C,K,w⟩:=L.from' i j q
    have A:N[i]?=some x:=B
    rw [A] at C
    cases C
    have G : σ[j]?=some (some v):=by
     cases q2 : σ[j]? with
     | none=>simp [q2] at a
     | some z=>simp [q2] at a;rw [a]
    have f:=L.outs (x,.free) (PySem.mem_of_lookup w) rfl
    have h:Vis X.env.scope x:=by
     rcases f with z | z
     ·exact .inr (.inl z)
     ·exact .inr (.inr z)
    obtain ⟨m,_,M⟩:=I.loc
    obtain ⟨u,r,l⟩:=M j x v K G h
    refine ⟨u,r,.inr ⟨?_,?_⟩⟩
    ·exact ad8 (env:=X.env) w
    ·rcases l with ⟨z,_⟩ | ⟨_,c,D,oc,d,hd⟩
     ·rcases f with F | F <;> (rw [F] at z;cases z)
     ·obtain ⟨P,E⟩:=adz (env:=X.env) ⟨c,D⟩ (PySem.mem_of_lookup w) (cs:=[])
      have:=look E
      rw [D] at this;cases this
      exact ⟨c,E,oc,g c oc d,hd⟩
 ·obtain ⟨v,oc,d,hd⟩:=I.cell x c (look e)
  exact ⟨v,oc,g c oc d,hd⟩
 ·exact absurd (show p∈([]:List (Addr × Obj)) from J) (by simp)
 ·show (pick src σ).length=N.length
  unfold pick
  rw [ax8]
  exact L.len
def PIf (X:Cx) (ifs:List Expr) (t:TT):Prop :=
 ∀ (pins:List (Addr × Obj)) (s:Shared) (σ:St) (H:Hp) (Q:Bool->Hp->Prop),Inv X pins σ H s->t σ H Q ->
  wpAny (model X.prog X.w) X.A (forIn ifs true fun c r=>if r=true then do let ok ← isTrue c X.env (eval c X.env);pure (ForInStep.yield ok) else pure (ForInStep.yield r)) (TP X pins σ Q) X.xe s
def tYes:TT:=fun _ H Q=>Q true H
theorem ab0 {X:Cx}:PIf X [] tYes:=fun _ _ _ H _ I h=>wpAny_tests_nil ⟨H,I,h⟩
theorem aso {X:Cx} {c:Expr} {t:TT} (h:PT X c t):PIf X [c] t:=fun pins s σ H Q I q=>wpAny_tests_one (h pins s σ H Q I q)
abbrev LW:=Nat->Nat->List V->St->Hp->Prop
def akj (J:It) (g:TG) (tif:TT) (te:TE) (acc:Addr) (Qd:List V->Hp->Prop) (W:LW):Prop:=∀ (i m:Nat) (ys:List V) (σ:St) (H:Hp),W i m ys σ H->H acc=some (.lst ys)/\((J.stop i H/\Qd ys H)\/(J.go i H /\
 ∃ Nx:List V->St->Hp->Prop,(∀ ys' σ' H',Nx ys' σ' H'->∃ m',m' < m/\W (i+1) m' ys' σ' H')/\∀ x H2,J.yld i H x H2 ->
 g x σ H2 fun σ3 H3=>tif σ3 H3 fun b H4=>if b=true then te σ3 H4 fun y H5=>H5 acc=some (.lst ys)/\ys.length < sizeLine/\Nx (ys ++ [y]) σ3 (upd H5 acc (.lst (ys ++ [y]))) else Nx ys σ3 H4))
theorem aoq {X:Cx} {tg iter v:Expr} {q:List Expr} {sc:Scope} {pos:Pos} {J:It} {fp:List Addr} {it:Addr} {tn:Nat->Heap->Prop} {g:TG} {M:TT} {te:TE} {a:Addr} {Qd:List V->Hp->Prop} {W:LW} {R:Result->Shared->Prop}
  (T:Turn X.prog X.w X.K tg J fp it tn) (hc:X.calm=true) (l:∀ e s,¬ X.xe e s) (hg:PG X tg g) (a1:PIf X q M) (he:PE X v te)
  (D:akj J g M te a Qd W) (hR:∀ ys σ H s,Inv X [] σ H s->Qd ys H->R (.ok .next) s)
  {i m:Nat} {ys:List V} {σ:St} {H:Hp} {s:Shared} (I:Inv X [] σ H s) (st:tn i s.heap) (hf:∀ b∈fp,FpOk X [] H b) (w:W i m ys σ H) :
  codeAny (model X.prog X.w) X.A (.compLoop (.ListComp v [⟨tg,iter,q,0⟩] sc pos) 0 (.ref it) (.ref a) X.env) R s:=by
 have c:∀ {H':Hp},(∀ b∈fp,H' b=none)->∀ b∈fp,FpOk X [] H' b:=fun hn b hb=>⟨hn b hb,(hf b hb).2⟩
 refine codeAny_loop rfl (fun n j=>∃ i ys h H',Inv X [] h H' j/\tn i j.heap/\(∀ b∈fp,H' b=none)/\W i n ys h H') ?_ m ⟨i,ys,σ,H,I,st,fun b hb=>(hf b hb).1,w⟩
 rintro n s1 ⟨i,ys,f,S,I1,O,N,w1⟩
 show wpAny _ X.A ((compTurn (.ListComp v [⟨tg,iter,q,0⟩] sc pos) 0 (.ref it) (.ref a) X.env).onRaise (fun x=>do noteFrame x X.env;theTreesLotGoes x)) _ _ s1
 refine wpAny_noted ?_
 rw [compTurn_list]
 refine aF2 (wpAny_standAt (aF2 ?_))
 obtain ⟨a2,⟨stop,qd⟩ | ⟨go,Nx,E,step⟩⟩:=D i n ys f S w1
 ·refine thn (T.done X rfl rfl rfl hc i [] s1 f S _ I1 (c N) O stop) fun r s2 ⟨Y,I2⟩=>?_
  subst Y
  exact aF3 (hR ys f S s2 I2 qd)
 ·refine thn (T.item X rfl rfl rfl hc i [] s1 f S _ I1 (c N) O go) fun r s2 ⟨u,Y,h2⟩=>?_
  subst Y
  refine aF2 (thn h2 fun _ s3 ⟨x,H3,I3,r3,y3,B,U⟩=>?_)
  have a0:=I3.pinned (c U) (T.obj _ _ B)
  refine aF2 (aG0 (hg _ s3 f H3 x u _ a0 r3 (step x H3 y3)) (fun _ s4 ⟨C,H4,I4,q4⟩=>?_) fun e j z=>(l e j z).elim)
  have back:∀ {p:St} {L:Hp} {G:Shared} {Z:List V},Inv X ([] ++ ady fp s3.heap) p L G->(∃ Q,Q < n/\W (i+1) Q Z p L)->∃ m,m < n/\∃ i ys h H',Inv X [] h H' G/\tn i G.heap/\(∀ b∈fp,H' b=none)/\W i m ys h H':=fun {p L G Z} F w7=>by
   obtain ⟨Q,hm,w7⟩:=w7
   refine ⟨Q,hm,i+1,Z,p,L,F.unpinned,T.keep _ _ _ B fun b hb o e=>(F.pin (b,o) (ay7 _ (ay7 _ (ab5 hb e)))).1,fun b hb=>?_,w7⟩
   obtain ⟨o,e,d⟩:=T.obj _ _ B b hb
   exact (F.pin (b,o) (ay7 _ (ay7 _ (ab5 hb e)))).2.1
  refine aF2 (aG0 (a1 _ s4 C H4 _ I4 q4) (fun b s5 ⟨H5,I5,P⟩=>?_) fun e j z=>(l e j z).elim)
  cases b with
  | false =>
   rw [aC2 ay4] at P
   exact aF3 ⟨rfl,back I5 (E _ _ _ P)⟩
  | true =>
   rw [aC1 rfl] at P
   refine aF2 (aF2 (aG0 (he _ s5 C H5 _ I5 P) (fun yv s6 ⟨y,H6,I6,r6,a6,l6,w6⟩=>?_) fun e j z=>(l e j z).elim))
   have ap:=abj (X:=X) _ s6 C H6 (.ref a) [y] (.ref a) [yv] (fun _ H'=>H'=upd H6 a (.lst (ys ++ [y]))) I6 rfl (.cons r6 .nil) ⟨a,ys,y,rfl,rfl,a6,l6,rfl⟩
   refine aF2 (aG0 ap (fun _ G ⟨v7,L,F,_,e7⟩=>?_) fun e j z=>(l e j z).elim)
   subst e7
   exact aF3 (aF3 ⟨rfl,back F (E _ _ _ w6)⟩)
def tLC (src:List (Option Nat)) (wi:TI) (g:TG) (tif:TT) (te:TE):TE:=fun σ H Q=>wi σ H fun J H1=>∀ acc,H1 acc=none->∃ W:LW,(∃ m,W 0 m [] (pick src σ) (upd H1 acc (.lst [])))/\akj J g tif te acc (fun _ H'=>Q (.ref acc) H') W
section
variable {X:Cx} {N:List Str} {tg iter elt:Expr} {ifs:List Expr} {sc:Scope} {src:List (Option Nat)} {wi:TI} {g:TG} {tif:TT} {te:TE} {pos:Pos}
theorem asp (hc:X.calm=true) (L:LcOk X N sc src) (Y:∀ C r B ex,PG (X.comp N sc C r B ex) tg g) (R:∀ C r B ex,PIf (X.comp N sc C r B ex) ifs tif) (Z:∀ C r B ex,PE (X.comp N sc C r B ex) elt te)
  {pins:List (Addr × Obj)} {d:Shared} {σ:St} {H3:Hp} {Q:VK} (i:Inv X pins σ H3 d) {it a:Addr} {fp:List Addr} {J:It} {tn:Nat->Heap->Prop} (T:Turn X.prog X.w X.K tg J fp it tn) (F:tn 0 d.heap) (j:∀ b∈fp,FpOk X pins H3 b)
  {W:LW} {m0:Nat} (w0:W 0 m0 [] (pick src σ) H3) (q:akj J g tif te a (fun _ H'=>Q (.ref a) H') W) (use:Option (Value->Sem Unit)) (P:Value->Shared->Prop)
  (hP:∀ C H' f m,Inv X pins σ H' f->Q (.ref a) H'->f.heap.Ns C m->H' C=none->C ≠ X.env.locals->(C∈X.ex\/X.s₀.heap.objs.size<=C)->(∀ x c,X.env.cells.lookup x=some c->c ≠ C)->(∀ p∈X.pn ++ pins,p.1 ≠ C) ->
   compPost (model X.prog X.w) X.A X.xe use P (.ref a) C (.ok .next) f) :
  wpAny (model X.prog X.w) X.A (newFunctionEnv sc X.env.globals (clos X.env sc.names []) [] X.env.qual none .none (some X.env)) (fun h D =>
    codeAny (model X.prog X.w) X.A (.compStart (.ListComp elt [⟨tg,iter,ifs,0⟩] sc pos) 0 (.ref it) (.ref a) { h with scope:=relabel sc X.env }) (compPost (model X.prog X.w) X.A X.xe use P (.ref a) h.locals) D) X.xe d:=by
 refine wpAny_newFunctionEnv L.nocell (by intro y hy;simp at hy) (fun M n E=>?_) L.kind
 have S:∀ b∈fp,b < d.heap.objs.size:=fun b hb=>by
  obtain ⟨o,I,_⟩:=T.obj _ _ F b hb
  exact aF5 I
 have s:∀ b o,d.heap.get? b=some o->M.get? b=some o:=fun b o e=>E.extBut b o (az0 (aF5 e)) (aF4 _ e)
 have H:=aki (t':=d.toks+([]:List (Str × Value)).length) L i j S (by simpa using n) s
 have G:tn 0 M:=T.keep _ _ _ F fun b _ o e=>s b o e
 have U:∀ b∈fp,FpOk (X.comp N sc d.heap.objs.size d H3 fp) [] H3 b:=fun b hb =>
  ⟨(j b hb).1,(H.ok.exf b hb).1,H.ok.exfs b hb,.inl hb,(H.ok.exf b hb).2,fun p O=>absurd (show p∈([]:List (Addr × Obj)) from O) (by simp)⟩
 have fin:∀ (ys:List V) u H' f,Inv (X.comp N sc d.heap.objs.size d H3 fp) [] u H' f->Q (.ref a) H'->compPost (model X.prog X.w) X.A X.xe use P (.ref a) d.heap.objs.size (.ok .next) f:=fun ys u H' f l q'=>by
  have Jo:Inv X pins σ H' f:=i.call' (ch:=fp) l.os l.base l.hok l.bare fun b hb=>⟨(j b hb).2.2.2.1,(j b hb).2.1,(j b hb).2.2.2.2.1,(j b hb).2.2.2.2.2⟩
  obtain ⟨m,hn,_⟩:=l.loc
  refine hP _ H' f m Jo q' hn l.free (Nat.ne_of_gt i.lt) (.inr i.sz) (fun x c e z=>?_) fun p O z=>?_
  ·obtain ⟨v,o,I,_⟩:=i.cell x c e
   exact absurd (aF5 I) (by rw [z];exact aC9 _)
  ·exact absurd (aF5 (i.pin p O).1) (by rw [z];exact aC9 _)
 have loop:codeAny (model X.prog X.w) X.A (.compLoop (.ListComp elt [⟨tg,iter,ifs,0⟩] sc pos) 0 (.ref it) (.ref a) (X.comp N sc d.heap.objs.size d H3 fp).env)
   (compPost (model X.prog X.w) X.A X.xe use P (.ref a) d.heap.objs.size) { d with heap:=M,toks:=d.toks+([]:List (Str × Value)).length } :=
  aoq (X:=X.comp N sc d.heap.objs.size d H3 fp) T hc (fun _ _ z=>z) (Y _ _ _ _) (R _ _ _ _) (Z _ _ _ _) q fin H G U w0
 exact codeAny_compStart_list loop (T.self _ 0 _ _ _ G loop)
theorem akk (O:X.calm=true) (L:LcOk X N sc src) (hi:PI X tg iter wi) (D:∀ C i d ex,PG (X.comp N sc C i d ex) tg g) (q:∀ C i d ex,PIf (X.comp N sc C i d ex) ifs tif) (K:∀ C i d ex,PE (X.comp N sc C i d ex) elt te)
  {pins:List (Addr × Obj)} {s:Shared} {σ:St} {H:Hp} {Q:VK} (I:Inv X pins σ H s) (h:tLC src wi g tif te σ H Q) (use:Option (Value->Sem Unit)) (P:Value->Shared->Prop)
  (S:∀ a C H' n m,Inv X pins σ H' n->Q (.ref a) H'->n.heap.Ns C m->H' C=none->C ≠ X.env.locals->(C∈X.ex\/X.s₀.heap.objs.size<=C)->(∀ x c,X.env.cells.lookup x=some c->c ≠ C)->(∀ p∈X.pn ++ pins,p.1 ≠ C) ->
   compPost (model X.prog X.w) X.A X.xe use P (.ref a) C (.ok .next) n)
  (hs:∀ x,foldedSetIterable iter X.env x=pure x) :
  wpAny (model X.prog X.w) X.A (comprehension (.ListComp elt [⟨tg,iter,ifs,0⟩] sc pos) sc X.env (firstIterPos [⟨tg,iter,ifs,0⟩] pos) (newList []) false (eval iter X.env) use) P X.xe s:=by
 refine wpAny_comprehension_free rfl hs (L.clo I.ok) L.kind L.own (thn (hi pins s σ H _ I h) fun v s1 E=>thn E fun B s2 M=>?_)
 obtain ⟨it,fp,tn,J,H2,e,z,T,j,y,G⟩:=M
 subst e
 have l:H2 s2.heap.objs.size=none:=z.hok.fresh (ay1 _)
 obtain ⟨W,⟨U,R⟩,f⟩:=G s2.heap.objs.size l
 have r:∀ b∈fp,b < s2.heap.objs.size:=fun b hb=>by
  obtain ⟨o,F,_⟩:=T.obj _ _ j b hb
  exact aF5 F
 refine aG1 ?_
 refine asp O L D q K (H3:=upd H2 s2.heap.objs.size (.lst [])) ?_ T ?_ ?_ R f use P (S _)
 ·exact z.laid (t':=s2.toks) (fun b u e=>aF4 _ e) (ay1 _) ⟨aC5 _,[],0,.nil,aF6 _ rfl⟩
 ·exact T.keep _ _ _ j fun b _ o e=>aF4 _ e
 ·exact fun b hb=>⟨by rw [aaf (az0 (r b hb))];exact (y b hb).1,(y b hb).2⟩
theorem aen (v:X.calm=true) (L:LcOk X N sc src) (hi:PI X tg iter wi) (n:∀ C c a ex,PG (X.comp N sc C c a ex) tg g) (f:∀ C c a ex,PIf (X.comp N sc C c a ex) ifs tif) (u:∀ C c a ex,PE (X.comp N sc C c a ex) elt te)
  (hs:∀ x,foldedSetIterable iter X.env x=pure x:=by intro _;rfl):PE X (.ListComp elt [⟨tg,iter,ifs,0⟩] sc pos) (tLC src wi g tif te):=by
 intro pins s σ H Q I h
 rw [eval_ListComp]
 refine akk v L hi n f u I h none _ (fun d C H' j m J q hn r l w i p=>?_) hs
 refine ⟨m,hn,fun h' sb=>⟨.ref d,H',?_,rfl,q⟩⟩
 exact J.turned (t':=j.toks) (fun b o hb e=>sb.extBut b o hb e) r l w i p
end
section
variable {X:Cx} {N:List Str} {tg iter elt:Expr} {ifs:List Expr} {sc:Scope} {src:List (Option Nat)} {wi:TI} {g:TG} {tif:TT} {te:TE} {pos spos px:Pos}
theorem aeo {i:Nat} {x:Str} (R:X.N.Nodup) (p:X.N[i]?=some x) (P:Loc X.env.scope x) (O:X.calm=true) (L:LcOk X N sc src) (hi:PI X tg iter wi) (E:∀ C j d ex,PG (X.comp N sc C j d ex) tg g)
  (u:∀ C j d ex,PIf (X.comp N sc C j d ex) ifs tif) (K:∀ C j d ex,PE (X.comp N sc C j d ex) elt te)
  (y:swapsWith (.ListComp elt [⟨tg,iter,ifs,0⟩] sc pos) (some (.Name x px)) spos.line X.env=pure true:=by rfl)
  (hf:X.fn x=true\/X.env.scope.names.lookup x=some .local:=by first | exact .inl rfl | exact .inr rfl | assumption)
  (hs:∀ x,foldedSetIterable iter X.env x=pure x:=by intro _;rfl):PS X (.Assign [.Name x px] (.ListComp elt [⟨tg,iter,ifs,0⟩] sc pos) spos) (tAsg (tLC src wi g tif te) (aav i)):=by
 intro pins s σ H D I h
 rw [exec_Assign_Name_used _ _ _ _ y]
 refine aF2 (wpAny_standAt (aF2 ?_))
 show wpAny _ X.A (do let _ ← comprehension (.ListComp elt [⟨tg,iter,ifs,0⟩] sc pos) sc X.env _ (newList []) false (eval iter X.env) (some (assign (.Name x px) X.env))) _ _ s
 refine aF2 (aG0 (akk O L hi E u K I h (some (assign (.Name x px) X.env)) (fun _ l=>SP X pins D .next l) (fun c C H' l m J q hn G B w f F=>?_) hs) (fun _ l Q=>aF3 (aF3 Q)) fun _ _ e=>e)
 show wpAny _ X.A (assign (.Name x px) X.env (.ref c)) _ _ _
 refine wpAny_assign_Name (aij J R p P (v:=.ref c) rfl (fun s2 M ⟨a,sb,ha⟩=>?_) hf)
 have n:C ≠ a:=by
  rcases ha with z | z
  ·rw [z];exact B
  ·exact (f x a z).symm
 refine ⟨m,hn.sameBut sb n,fun h' r=>⟨_,H',?_,q⟩⟩
 exact M.turned (t':=s2.toks) (fun b o hb e=>r.extBut b o hb e) G B w f F
end
section
variable {g:TG} {tif:TT} {te:TE} {acc:Addr} {Qd:List V->Hp->Prop} {σ0:St} {H0:Hp}
end
def amb (J:It) (g:TG) (tif:TT) (te:TE) (acc:Addr) (Qd:List V->St->Hp->Prop) (W:LW):Prop:=∀ (i m:Nat) (ys:List V) (σ:St) (H:Hp),W i m ys σ H->H acc=some (.lst ys)/\((J.stop i H/\Qd ys σ H)\/(J.go i H /\
 ∃ Nx:List V->St->Hp->Prop,(∀ ys' σ' H',Nx ys' σ' H'->∃ m',m' < m/\W (i+1) m' ys' σ' H')/\∀ x H2,J.yld i H x H2 ->
 g x σ H2 fun σ3 H3=>tif σ3 H3 fun b H4=>if b=true then te σ3 H4 fun y H5=>H5 acc=some (.lst ys)/\ys.length < sizeLine/\Nx (ys ++ [y]) σ3 (upd H5 acc (.lst (ys ++ [y]))) else Nx ys σ3 H4))
def ahs (J:It) (g:TG) (tif:TT) (wi2:TI) (g2:TG) (tif2:TT) (te:TE) (acc:Addr) (Qd:List V->Hp->Prop) (W:LW):Prop:=∀ (i m:Nat) (ys:List V) (σ:St) (H:Hp),W i m ys σ H->((J.stop i H/\Qd ys H)\/(J.go i H /\
 ∃ Nx:List V->St->Hp->Prop,(∀ ys' σ' H',Nx ys' σ' H'->∃ m',m' < m/\W (i+1) m' ys' σ' H')/\∀ x H2,J.yld i H x H2 ->
 g x σ H2 fun σ3 H3=>tif σ3 H3 fun b H4=>if b=true then wi2 σ3 H4 fun J2 H5=>∃ W2:LW,(∃ m2,W2 0 m2 ys σ3 H5)/\amb J2 g2 tif2 te acc Nx W2 else Nx ys σ3 H4))
theorem ajb (a t1 i1 g d:Expr) (f1 f:List Expr) (sc:Scope) (pos:Pos) (it b:Value) (env:Env) :
  compTurn (.ListComp a [⟨t1,i1,f1,0⟩,⟨g,d,f,0⟩] sc pos) 0 it b env=(do
   standAt i1.pos
   match ← pyNext it with
   | none=>pure (.done .next)
   | some v =>
    letOwnedTupleGo t1 it v
    assign t1 env v
    let mut ok:=true
    for c in f1 do
     if ok then ok ← isTrue c env (eval c env)
    if ok then
     let x ← eval d env
     standAt d.pos
     let x ← foldedSetIterable d env x
     let _ ← runOwn (.compStart (.ListComp a [⟨t1,i1,f1,0⟩,⟨g,d,f,0⟩] sc pos) 1 (← holding [x] (pyIter x)) b env) env
    again (.compLoop (.ListComp a [⟨t1,i1,f1,0⟩,⟨g,d,f,0⟩] sc pos) 0 it b env)):=by rfl
theorem ajc (a t1 i1 d f:Expr) (f1 g:List Expr) (sc:Scope) (pos:Pos) (it b:Value) (env:Env) :
  compTurn (.ListComp a [⟨t1,i1,f1,0⟩,⟨d,f,g,0⟩] sc pos) 1 it b env=(do
   standAt f.pos
   match ← pyNext it with
   | none=>pure (.done .next)
   | some v =>
    letOwnedTupleGo d it v
    assign d env v
    let mut ok:=true
    for c in g do
     if ok then ok ← isTrue c env (eval c env)
    if ok then
     (do let _ ← call (.builtin "list.append") [b,← eval a env])
    again (.compLoop (.ListComp a [⟨t1,i1,f1,0⟩,⟨d,f,g,0⟩] sc pos) 1 it b env)):=by rfl
theorem aor {prog:Program} {w:World} {A:Around} {R:Result->Shared->Prop} {s:Shared} {d t1 i1 i g:Expr} {f1 j:List Expr} {sc:Scope} {pos:Pos} {it c:Value} {env:Env}
  (l:codeAny (model prog w) A (.compLoop (.ListComp d [⟨t1,i1,f1,0⟩,⟨i,g,j,0⟩] sc pos) 1 it c env) R s)
  (h:wpAny (model prog w) A (pyIter it) (fun a b=>codeAny (model prog w) A (.compLoop (.ListComp d [⟨t1,i1,f1,0⟩,⟨i,g,j,0⟩] sc pos) 1 a c env) R b) (notedBy (model prog w) A env fun x b=>R (.error x) b) s) :
  codeAny (model prog w) A (.compStart (.ListComp d [⟨t1,i1,f1,0⟩,⟨i,g,j,0⟩] sc pos) 1 it c env) R s:=by
 refine codeAny_of_tree ?_
 show wpAny _ _ ((compStart (.ListComp d [⟨t1,i1,f1,0⟩,⟨i,g,j,0⟩] sc pos) 1 it c env).onRaise (fun x=>do noteFrame x env;standAt theWindowsPlace)) _ _ s
 refine wpAny_notedAt ?_
 unfold compStart
 show wpAny _ _ (ask >>= _) _ _ s
 apply aF2;apply wpAny_askSetting;apply wpAny_ite;split
 ·first | exact aF2 (aF3 (aF3 ⟨rfl,l⟩)) | exact aF3 ⟨rfl,l⟩
 ·have q:wpAny (model prog w) A (pyIter it >>= fun a=>again (.compLoop (.ListComp d [⟨t1,i1,f1,0⟩,⟨i,g,j,0⟩] sc pos) 1 a c env)) (fun fin b=>match fin with | .done f=>R (.ok f) b | .again c'=>c'.quiet=true/\codeAny (model prog w) A c' R b) (notedBy (model prog w) A env fun x b=>R (.error x) b) s :=
   aF2 (aG0 h (fun a b h'=>aF3 ⟨rfl,h'⟩) fun _ _ x=>x)
  first
   | exact aF2 (wpAny_rule (aF2 (wpAny_standAt (aF2 (aG0 h (fun a b h'=>aF3 ⟨rfl,h'⟩) fun _ _ x=>x)))))
   | (apply aF2;apply wpAny_rule;show wpAny _ _ (standAt g.pos >>= _) _ _ s;exact aF2 (wpAny_standAt (aF2 (aG0 h (fun a b h'=>aF3 ⟨rfl,h'⟩) fun _ _ x=>x))))
theorem anb {X:Cx} {v t1 i1 tg iter:Expr} {f1 q:List Expr} {sc:Scope} {pos:Pos} {J:It} {fp:List Addr} {it:Addr} {tn:Nat->Heap->Prop} {g:TG} {M:TT} {te:TE} {a:Addr} {Qd:List V->St->Hp->Prop} {W:LW} {R:Result->Shared->Prop} {pins:List (Addr × Obj)}
  (T:Turn X.prog X.w X.K tg J fp it tn) (hc:X.calm=true) (l:∀ e s,¬ X.xe e s) (hg:PG X tg g) (a1:PIf X q M) (he:PE X v te)
  (D:amb J g M te a Qd W) (hR:∀ ys σ H s,Inv X pins σ H s->Qd ys σ H->R (.ok .next) s)
  {i m:Nat} {ys:List V} {σ:St} {H:Hp} {s:Shared} (I:Inv X pins σ H s) (st:tn i s.heap) (hf:∀ b∈fp,FpOk X pins H b) (w:W i m ys σ H) :
  codeAny (model X.prog X.w) X.A (.compLoop (.ListComp v [⟨t1,i1,f1,0⟩,⟨tg,iter,q,0⟩] sc pos) 1 (.ref it) (.ref a) X.env) R s:=by
 have c:∀ {H':Hp},(∀ b∈fp,H' b=none)->∀ b∈fp,FpOk X pins H' b:=fun hn b hb=>⟨hn b hb,(hf b hb).2⟩
 refine codeAny_loop rfl (fun n j=>∃ i ys h H',Inv X pins h H' j/\tn i j.heap/\(∀ b∈fp,H' b=none)/\W i n ys h H') ?_ m ⟨i,ys,σ,H,I,st,fun b hb=>(hf b hb).1,w⟩
 rintro n s1 ⟨i,ys,f,S,I1,O,N,w1⟩
 show wpAny _ X.A ((compTurn (.ListComp v [⟨t1,i1,f1,0⟩,⟨tg,iter,q,0⟩] sc pos) 1 (.ref it) (.ref a) X.env).onRaise (fun x=>do noteFrame x X.env;theTreesLotGoes x)) _ _ s1
 refine wpAny_noted ?_
 rw [ajc]
 refine aF2 (wpAny_standAt (aF2 ?_))
 obtain ⟨a2,⟨stop,qd⟩ | ⟨go,Nx,E,step⟩⟩:=D i n ys f S w1
 ·refine thn (T.done X rfl rfl rfl hc i pins s1 f S _ I1 (c N) O stop) fun r s2 ⟨Y,I2⟩=>?_
  subst Y
  exact aF3 (hR ys f S s2 I2 qd)
 ·refine thn (T.item X rfl rfl rfl hc i pins s1 f S _ I1 (c N) O go) fun r s2 ⟨u,Y,h2⟩=>?_
  subst Y
  refine aF2 (thn h2 fun _ s3 ⟨x,H3,I3,r3,y3,B,U⟩=>?_)
  have a0:=I3.pinned (c U) (T.obj _ _ B)
  refine aF2 (aG0 (hg _ s3 f H3 x u _ a0 r3 (step x H3 y3)) (fun _ s4 ⟨C,H4,I4,q4⟩=>?_) fun e j z=>(l e j z).elim)
  have back:∀ {p:St} {L:Hp} {G:Shared} {Z:List V},Inv X (pins ++ ady fp s3.heap) p L G->(∃ Q,Q < n/\W (i+1) Q Z p L)->∃ m,m < n/\∃ i ys h H',Inv X pins h H' G/\tn i G.heap/\(∀ b∈fp,H' b=none)/\W i m ys h H':=fun {p L G Z} F w7=>by
   obtain ⟨Q,hm,w7⟩:=w7
   refine ⟨Q,hm,i+1,Z,p,L,F.unpinned,T.keep _ _ _ B fun b hb o e=>(F.pin (b,o) (ay7 _ (ay7 _ (ab5 hb e)))).1,fun b hb=>?_,w7⟩
   obtain ⟨o,e,d⟩:=T.obj _ _ B b hb
   exact (F.pin (b,o) (ay7 _ (ay7 _ (ab5 hb e)))).2.1
  refine aF2 (aG0 (a1 _ s4 C H4 _ I4 q4) (fun b s5 ⟨H5,I5,P⟩=>?_) fun e j z=>(l e j z).elim)
  cases b with
  | false =>
   rw [aC2 ay4] at P
   exact aF3 ⟨rfl,back I5 (E _ _ _ P)⟩
  | true =>
   rw [aC1 rfl] at P
   refine aF2 (aF2 (aG0 (he _ s5 C H5 _ I5 P) (fun yv s6 ⟨y,H6,I6,r6,a6,l6,w6⟩=>?_) fun e j z=>(l e j z).elim))
   have ap:=abj (X:=X) _ s6 C H6 (.ref a) [y] (.ref a) [yv] (fun _ H'=>H'=upd H6 a (.lst (ys ++ [y]))) I6 rfl (.cons r6 .nil) ⟨a,ys,y,rfl,rfl,a6,l6,rfl⟩
   refine aF2 (aG0 ap (fun _ G ⟨v7,L,F,_,e7⟩=>?_) fun e j z=>(l e j z).elim)
   subst e7
   exact aF3 (aF3 ⟨rfl,back F (E _ _ _ w6)⟩)
theorem anc {X:Cx} {y t1 i1 t2 O:Expr} {f1 f2:List Expr} {sc:Scope} {pos:Pos} {J:It} {fp:List Addr} {it:Addr} {tn:Nat->Heap->Prop} {g:TG} {P:TT} {Q:TI} {g2:TG} {v:TT} {te:TE} {D:Addr} {Qd:List V->Hp->Prop} {W:LW} {R:Result->Shared->Prop}
  (T:Turn X.prog X.w X.K t1 J fp it tn) (hc:X.calm=true) (j:∀ e s,¬ X.xe e s) (hg:PG X t1 g) (a6:PIf X f1 P) (a2:PI X t2 O Q) (a1:PG X t2 g2) (U:PIf X f2 v) (he:PE X y te)
  (a4:∀ x,foldedSetIterable O X.env x=pure x)
  (E:ahs J g P Q g2 v te D Qd W) (hR:∀ ys σ H s,Inv X [] σ H s->Qd ys H->R (.ok .next) s)
  {i m:Nat} {ys:List V} {σ:St} {H:Hp} {s:Shared} (I:Inv X [] σ H s) (st:tn i s.heap) (hf:∀ b∈fp,FpOk X [] H b) (w:W i m ys σ H) :
  codeAny (model X.prog X.w) X.A (.compLoop (.ListComp y [⟨t1,i1,f1,0⟩,⟨t2,O,f2,0⟩] sc pos) 0 (.ref it) (.ref D) X.env) R s:=by
 have l:∀ {H':Hp},(∀ b∈fp,H' b=none)->∀ b∈fp,FpOk X [] H' b:=fun hn b hb=>⟨hn b hb,(hf b hb).2⟩
 refine codeAny_loop rfl (fun n c=>∃ i ys a H',Inv X [] a H' c/\tn i c.heap/\(∀ b∈fp,H' b=none)/\W i n ys a H') ?_ m ⟨i,ys,σ,H,I,st,fun b hb=>(hf b hb).1,w⟩
 rintro n s1 ⟨i,ys,p,H1,I1,Y,S,w1⟩
 show wpAny _ X.A ((compTurn (.ListComp y [⟨t1,i1,f1,0⟩,⟨t2,O,f2,0⟩] sc pos) 0 (.ref it) (.ref D) X.env).onRaise (fun x=>do noteFrame x X.env;theTreesLotGoes x)) _ _ s1
 refine wpAny_noted ?_
 rw [ajb]
 refine aF2 (wpAny_standAt (aF2 ?_))
 obtain ⟨stop,qd⟩ | ⟨go,Nx,F,step⟩:=E i n ys p H1 w1
 ·refine thn (T.done X rfl rfl rfl hc i [] s1 p H1 _ I1 (l S) Y stop) fun r s2 ⟨hr,I2⟩=>?_
  subst hr
  exact aF3 (hR ys p H1 s2 I2 qd)
 ·refine thn (T.item X rfl rfl rfl hc i [] s1 p H1 _ I1 (l S) Y go) fun r s2 ⟨u,hr,h2⟩=>?_
  subst hr
  refine aF2 (thn h2 fun _ s3 ⟨x,H3,I3,r3,y3,B,a0⟩=>?_)
  have a3:=I3.pinned (l a0) (T.obj _ _ B)
  refine aF2 (aG0 (hg _ s3 p H3 x u _ a3 r3 (step x H3 y3)) (fun _ s4 ⟨Z,H4,I4,q4⟩=>?_) fun e c z=>(j e c z).elim)
  have back:∀ {q:St} {M:Hp} {L:Shared} {zs:List V},Inv X ([] ++ ady fp s3.heap) q M L->(∃ m',m' < n/\W (i+1) m' zs q M)->∃ m,m < n/\∃ i ys a H',Inv X [] a H' L/\tn i L.heap/\(∀ b∈fp,H' b=none)/\W i m ys a H':=fun {q M L zs} G w7=>by
   obtain ⟨m',hm,w7⟩:=w7
   refine ⟨m',hm,i+1,zs,q,M,G.unpinned,T.keep _ _ _ B fun b hb o e=>(G.pin (b,o) (ay7 _ (ay7 _ (ab5 hb e)))).1,fun b hb=>?_,w7⟩
   obtain ⟨o,e,d⟩:=T.obj _ _ B b hb
   exact (G.pin (b,o) (ay7 _ (ay7 _ (ab5 hb e)))).2.1
  refine aF2 (aG0 (a6 _ s4 Z H4 _ I4 q4) (fun b s5 ⟨H5,I5,q5⟩=>?_) fun e c z=>(j e c z).elim)
  cases b with
  | false =>
   rw [aC2 ay4] at q5
   exact aF3 ⟨rfl,back I5 (F _ _ _ q5)⟩
  | true =>
   rw [aC1 rfl] at q5
   refine aF2 (aG0 (a2 _ s5 Z H5 _ I5 q5) (fun xv s6 h6=>?_) fun e c z=>(j e c z).elim)
   refine aF2 (wpAny_standAt (aF2 ?_))
   rw [a4 xv]
   refine aF3 (aF2 (aF8 (aG0 h6 (fun b1 L h7=>?_) fun e c z=>(j e c z).elim)))
   obtain ⟨b0,a7,a8,J2,M,e,G,T2,N,a5,W2,⟨m2,w2⟩,C⟩:=h7
   subst e
   refine aF2 (wpAny_runOwn ?_)
   have loop:=anb (R:=fun r c=>match r with | .ok f=>(∃ m,m < n/\∃ i ys a H',Inv X [] a H' c/\tn i c.heap/\(∀ b∈fp,H' b=none)/\W i m ys a H') | .error e=>False) (t1:=t1) (i1:=i1) (f1:=f1) (iter:=O) (sc:=sc) (pos:=pos) T2 hc j a1 U he C (fun b2 a9 H8 s8 I8 q8=>back I8 (F _ _ _ q8)) G N a5 w2
   have st:=aor loop (T2.self _ 0 _ _ _ N loop)
   refine aF7 st fun r c h=>?_
   cases r with
   | error e=>exact h.elim
   | ok f=>exact aF3 ⟨rfl,h⟩
def tLC2 (src:List (Option Nat)) (wi:TI) (g:TG) (tif:TT) (wi2:TI) (g2:TG) (tif2:TT) (te:TE):TE:=fun σ H Q=>wi σ H fun J H1=>∀ acc,H1 acc=none->∃ W:LW,(∃ m,W 0 m [] (pick src σ) (upd H1 acc (.lst [])))/\ahs J g tif wi2 g2 tif2 te acc (fun _ H'=>Q (.ref acc) H') W
section
variable {X:Cx} {N:List Str} {t1 i1 t2 i2 elt:Expr} {f1 f2:List Expr} {sc:Scope} {src:List (Option Nat)} {wi wi2:TI} {g g2:TG} {tif tif2:TT} {te:TE} {pos:Pos}
theorem aqc (hc:X.calm=true) (L:LcOk X N sc src) (hg:∀ C f h ex,PG (X.comp N sc C f h ex) t1 g) (Y:∀ C f h ex,PIf (X.comp N sc C f h ex) f1 tif) (Z:∀ C f h ex,PI (X.comp N sc C f h ex) t2 i2 wi2) (U:∀ C f h ex,PG (X.comp N sc C f h ex) t2 g2) (F:∀ C f h ex,PIf (X.comp N sc C f h ex) f2 tif2) (he:∀ C f h ex,PE (X.comp N sc C f h ex) elt te)
  (M:∀ C f h ex x,foldedSetIterable i2 (X.comp N sc C f h ex).env x=pure x)
  {pins:List (Addr × Obj)} {d:Shared} {σ:St} {H3:Hp} {Q:VK} (l:Inv X pins σ H3 d) {it a:Addr} {fp:List Addr} {J:It} {tn:Nat->Heap->Prop} (T:Turn X.prog X.w X.K t1 J fp it tn) (G:tn 0 d.heap) (n:∀ b∈fp,FpOk X pins H3 b)
  {W:LW} {m0:Nat} (w0:W 0 m0 [] (pick src σ) H3) (s:ahs J g tif wi2 g2 tif2 te a (fun _ H'=>Q (.ref a) H') W) (use:Option (Value->Sem Unit)) (P:Value->Shared->Prop)
  (hP:∀ C H' i m,Inv X pins σ H' i->Q (.ref a) H'->i.heap.Ns C m->H' C=none->C ≠ X.env.locals->(C∈X.ex\/X.s₀.heap.objs.size<=C)->(∀ x c,X.env.cells.lookup x=some c->c ≠ C)->(∀ p∈X.pn ++ pins,p.1 ≠ C) ->
   compPost (model X.prog X.w) X.A X.xe use P (.ref a) C (.ok .next) i) :
  wpAny (model X.prog X.w) X.A (newFunctionEnv sc X.env.globals (clos X.env sc.names []) [] X.env.qual none .none (some X.env)) (fun j D =>
    codeAny (model X.prog X.w) X.A (.compStart (.ListComp elt [⟨t1,i1,f1,0⟩,⟨t2,i2,f2,0⟩] sc pos) 0 (.ref it) (.ref a) { j with scope:=relabel sc X.env }) (compPost (model X.prog X.w) X.A X.xe use P (.ref a) j.locals) D) X.xe d:=by
 refine wpAny_newFunctionEnv L.nocell (by intro y hy;simp at hy) (fun R r E=>?_) L.kind
 have a0:∀ b∈fp,b < d.heap.objs.size:=fun b hb=>by
  obtain ⟨o,O,_⟩:=T.obj _ _ G b hb
  exact aF5 O
 have u:∀ b o,d.heap.get? b=some o->R.get? b=some o:=fun b o e=>E.extBut b o (az0 (aF5 e)) (aF4 _ e)
 have I:=aki (t':=d.toks+([]:List (Str × Value)).length) L l n a0 (by simpa using r) u
 have H:tn 0 R:=T.keep _ _ _ G fun b _ o e=>u b o e
 have f4:∀ b∈fp,FpOk (X.comp N sc d.heap.objs.size d H3 fp) [] H3 b:=fun b hb =>
  ⟨(n b hb).1,(I.ok.exf b hb).1,I.ok.exfs b hb,.inl hb,(I.ok.exf b hb).2,fun p S=>absurd (show p∈([]:List (Addr × Obj)) from S) (by simp)⟩
 have fin:∀ (ys:List V) B H' i,Inv (X.comp N sc d.heap.objs.size d H3 fp) [] B H' i->Q (.ref a) H'->compPost (model X.prog X.w) X.A X.xe use P (.ref a) d.heap.objs.size (.ok .next) i:=fun ys B H' i q q'=>by
  have Jo:Inv X pins σ H' i:=l.call' (ch:=fp) q.os q.base q.hok q.bare fun b hb=>⟨(n b hb).2.2.2.1,(n b hb).2.1,(n b hb).2.2.2.2.1,(n b hb).2.2.2.2.2⟩
  obtain ⟨m,hn,_⟩:=q.loc
  refine hP _ H' i m Jo q' hn q.free (Nat.ne_of_gt l.lt) (.inr l.sz) (fun x c e z=>?_) fun p S z=>?_
  ·obtain ⟨v,o,O,_⟩:=l.cell x c e
   exact absurd (aF5 O) (by rw [z];exact aC9 _)
  ·exact absurd (aF5 (l.pin p S).1) (by rw [z];exact aC9 _)
 have loop:codeAny (model X.prog X.w) X.A (.compLoop (.ListComp elt [⟨t1,i1,f1,0⟩,⟨t2,i2,f2,0⟩] sc pos) 0 (.ref it) (.ref a) (X.comp N sc d.heap.objs.size d H3 fp).env)
   (compPost (model X.prog X.w) X.A X.xe use P (.ref a) d.heap.objs.size) { d with heap:=R,toks:=d.toks+([]:List (Str × Value)).length } :=
  anc (X:=X.comp N sc d.heap.objs.size d H3 fp) T hc (fun _ _ z=>z) (hg _ _ _ _) (Y _ _ _ _) (Z _ _ _ _) (U _ _ _ _) (F _ _ _ _) (he _ _ _ _) (M _ _ _ _) s fin I H f4 w0
 exact codeAny_compStart_list loop (T.self _ 0 _ _ _ H loop)
theorem ave (U:X.calm=true) (L:LcOk X N sc src) (hi:PI X t1 i1 wi) (F:∀ C c a ex,PG (X.comp N sc C c a ex) t1 g) (p:∀ C c a ex,PIf (X.comp N sc C c a ex) f1 tif) (w:∀ C c a ex,PI (X.comp N sc C c a ex) t2 i2 wi2) (n:∀ C c a ex,PG (X.comp N sc C c a ex) t2 g2) (l:∀ C c a ex,PIf (X.comp N sc C c a ex) f2 tif2) (R:∀ C c a ex,PE (X.comp N sc C c a ex) elt te)
  (hs:∀ x,foldedSetIterable i1 X.env x=pure x:=by intro _;rfl) (y:∀ C c a ex x,foldedSetIterable i2 (X.comp N sc C c a ex).env x=pure x:=by intros;rfl):PE X (.ListComp elt [⟨t1,i1,f1,0⟩,⟨t2,i2,f2,0⟩] sc pos) (tLC2 src wi g tif wi2 g2 tif2 te):=by
 intro pins s σ H Q I h
 rw [eval_ListComp]
 refine wpAny_comprehension_free rfl hs (L.clo I.ok) L.kind L.own (thn (hi pins s σ H _ I h) fun v s1 K=>thn K fun D s2 S=>?_)
 obtain ⟨it,fp,tn,J,H2,e,A,T,i,d,P⟩:=S
 subst e
 have j:H2 s2.heap.objs.size=none:=A.hok.fresh (ay1 _)
 obtain ⟨W,⟨m0,Y⟩,f⟩:=P s2.heap.objs.size j
 have z:∀ b∈fp,b < s2.heap.objs.size:=fun b hb=>by
  obtain ⟨o,M,_⟩:=T.obj _ _ i b hb
  exact aF5 M
 refine aG1 ?_
 refine aqc (pins:=pins) U L F p w n l R y (H3:=upd H2 s2.heap.objs.size (.lst [])) ?_ T ?_ ?_ Y f none _ ?_
 ·exact A.laid (t':=s2.toks) (fun b u e=>aF4 _ e) (ay1 _) ⟨aC5 _,[],0,.nil,aF6 _ rfl⟩
 ·exact T.keep _ _ _ i fun b _ o e=>aF4 _ e
 ·exact fun b hb=>⟨by rw [aaf (az0 (z b hb))];exact (d b hb).1,(d b hb).2⟩
 ·intro C H' B m J q hn O E Z r G
  refine ⟨m,hn,fun h' sb=>⟨.ref s2.heap.objs.size,H',?_,rfl,q⟩⟩
  exact J.turned (t':=B.toks) (fun b o hb e=>sb.extBut b o hb e) O E Z r G
end
def rLen (K:Frag):List V->Hp->VK->Prop:=fun xs H Q=>∃ p ys,xs=[.ref p]/\(SqL K H p ys\/SqT K H p ys)/\Q (.int ys.length) H
theorem abr {X:Cx}:abh X (.builtin "len") (rLen X.K):=akd
def ajz:List V->Hp->VK->Prop:=fun xs H Q=>∃ i j,xs=[.int i,.int j]/\Q (.int (if j > i then j else i)) H
def aj0:List V->Hp->VK->Prop:=fun xs H Q=>∃ i j,xs=[.int i,.int j]/\Q (.int (if j < i then j else i)) H
theorem ag3 {X:Cx} (a:X.calm=true):abh X (.builtin "max") ajz:=aod a
theorem ag4 {X:Cx} (a:X.calm=true):abh X (.builtin "min") aj0:=aoe a
def aj1:List V->Hp->VK->Prop:=fun xs H Q=>(∃ i,xs=[.int i]/\Q (.int i) H)\/∃ k,xs=[.bl k]/\Q (.int (if k then 1 else 0)) H
theorem aep {X:Cx}:abh X (.type "int") aj1:=aof
section
variable {σ:St} {H:Hp} {D:Ends} {K:Frag}
theorem amc {i:Nat} {v:V} {Q:St->Hp->Prop} (h:Q (σ.set i (some v)) H):aav i v σ H Q:=h
theorem aos {Q:List V->Hp->Prop} (h:Q [] H):tNil σ H Q:=h
theorem avf {t:TA} {Q:VK} (h:t σ H fun xs a=>xs.length<=sizeLine/\∀ p,a p=none->Q (.ref p) (upd a p (.lst xs))):tLst t σ H Q:=h
theorem aot {i j:Int} {Q:VK} (h:Q (.bl (decide (i=j))) H):rEq (.int i) (.int j) H Q:=by
 have e:decide (V.int i=V.int j)=decide (i=j):=by rw [afm];exact Bool.beq_eq_decide_eq i j
 exact ⟨rfl,by rw [e];exact h⟩
theorem avg {i j:Int} {Q:VK} (h:Q (.bl (!decide (i=j))) H):rNe (.int i) (.int j) H Q:=by
 have e:decide (V.int i=V.int j)=decide (i=j):=by rw [afm];exact Bool.beq_eq_decide_eq i j
 exact ⟨rfl,by rw [e];exact h⟩
theorem avh {a:Addr} {xs:List V} {i:Int} {v:V} {Q:VK} (ha:H a=some (.lst xs)) (b:atI xs i=some v) (h:Q v H):rIxL K (.ref a) (.int i) H Q:=⟨a,xs,i,v,rfl,rfl,SqL.of ha,b,h⟩
theorem avi {a:Addr} {xs:List V} {i:Int} {v:V} {Q:VK} (ha:H a=some (.tup xs)) (b:atI xs i=some v) (h:Q v H):rIxT K (.ref a) (.int i) H Q:=⟨a,xs,i,v,rfl,rfl,SqT.of ha,b,h⟩
theorem amd {a:Addr} {xs:List V} {k:Int} {j:Nat} {v:V} {Q:Hp->Prop} (ha:H a=some (.lst xs)) (b:ixN xs.length k=some j) (h:Q (upd H a (.lst (xs.set j v)))):am9 (.ref a) (.int k) v H Q:=⟨a,xs,k,j,rfl,rfl,ha,b,h⟩
theorem ae7 {a:Addr} {xs:List V} {y:V} {Q:VK} (ha:H a=some (.lst xs)) (b:xs.length < sizeLine) (h:Q .non (upd H a (.lst (xs ++ [y])))):aeh (.ref a) [y] H Q:=⟨a,xs,y,rfl,rfl,ha,b,h⟩
theorem avj {a b:Addr} {xs c:List V} {Q:VK} (ha:H a=some (.lst xs)) (hb:H b=some (.lst c)) (d:xs.length+c.length<=sizeLine) (h:∀ p,H p=none->Q (.ref p) (upd H p (.lst (xs ++ c)))):rCat (.ref a) (.ref b) H Q:=⟨a,b,xs,c,rfl,rfl,ha,hb,d,h⟩
theorem ame {a:Addr} {xs:List V} {Q:VK} (ha:H a=some (.lst xs)) (h:Q (.int xs.length) H):rLen K [.ref a] H Q:=⟨a,xs,rfl,.inl (SqL.of ha),h⟩
theorem asq {a:Addr} {xs:List V} {Q:VK} (ha:H a=some (.tup xs)) (h:Q (.int xs.length) H):rLen K [.ref a] H Q:=⟨a,xs,rfl,.inr (SqT.of ha),h⟩
theorem amf {i j:Int} {Q:VK} (h:Q (.int (if j > i then j else i)) H):ajz [.int i,.int j] H Q:=⟨i,j,rfl,h⟩
theorem amg {i j:Int} {Q:VK} (h:Q (.int (if j < i then j else i)) H):aj0 [.int i,.int j] H Q:=⟨i,j,rfl,h⟩
theorem amh {k:Bool} {Q:VK} (h:Q (.int (if k then 1 else 0)) H):aj1 [.bl k] H Q:=.inr ⟨k,rfl,h⟩
theorem aht {c:Prop} [Decidable c] {A B:Prop} (a:c) (h:A):if decide c=true then A else B:=by rw [aA9 a];exact iteT h
theorem ahu {c:Prop} [Decidable c] {A B:Prop} (a:¬ c) (h:B):if decide c=true then A else B:=by rw [aA8 a];exact iteF h
theorem abk {c:Prop} [Decidable c] {A B:Prop} (b:c->A) (a:¬ c->B):if decide c=true then A else B:=by
 by_cases hc:c
 ·exact aht hc (b hc)
 ·exact ahu hc (a hc)
end
structure CallOk (P:Program) (w:World) (K:Frag) (mg:Str->Option Value) (base:Heap) (x:Str) (k:Nat) (ps:List Str) (sp:Sp) (f:Addr) (fd:FuncData):Prop where
 ok:FnOk P w K mg base CX0 k f fd ps sp
 mgx:mg x=some (.ref f)
 kp:keepIn K (.ref f)=true
 bd:Binds K fd ps []
def Can (P:Program) (w:World) (K:Frag) (mg:Str->Option Value) (base:Heap) (x:Str) (k:Nat) (ps:List Str) (sp:Sp):Prop:=∃ f fd,CallOk P w K mg base x k ps sp f fd
structure DefAt (K:Frag) (mg:Str->Option Value) (x:Str) (st:Stmt) (ps:List Str) (f:Addr) (fd:FuncData):Prop where
 fn:Fun K x x st f fd
 mgx:mg x=some (.ref f)
 bd:Binds K fd ps []
theorem DefAt.can {P:Program} {w:World} {K:Frag} {mg:Str->Option Value} {base:Heap} {x:Str} {st:Stmt} {k:Nat} {ps:List Str} {sp:Sp} {f:Addr} {fd:FuncData} (D:DefAt K mg x st ps f fd) (ok:FnOk P w K mg base CX0 k f fd ps sp):Can P w K mg base x k ps sp :=
 ⟨f,fd,ok,D.mgx,D.fn.kp,D.bd⟩
section
variable {X:Cx} {k j:Nat} {ps:List Str} {sp:Sp} {x:Str} {p pos:Pos} {e:Expr} {es:List Expr} {t:TA}
theorem aai (F:Can X.prog X.w X.K X.mg X.base x k ps sp) (d:Room j X.A) (ha:PA X (e :: es) t) (h:k<=j:=by decide) (g:Gl X x:=by rfl) (b:(x == ("__debug__" : Str))=false:=by decide)
  (c:starEach (e :: es) X.env=(false,eval e X.env) :: starEach es X.env:=by rfl) (a:(backTo pos (starEach es X.env)).any (·.1)=false:=by rfl) :
  PE X (.Call (.Name x p) (e :: es) [] pos) (ab6 sp [] E0 t):=by
 obtain ⟨f,fd,C⟩:=F
 exact al5 C.ok (d.mono h) g C.mgx C.kp C.bd .nil aw6 ha b c a
end
theorem ab1 {X:Cx} {N:List Str} {sc:Scope} {src:List (Option Nat)} (c:sc.kind=.function) (b:sc.names.all (fun y=>y.2 != .cell)=true) (g:sc.names.all (fun y=>y.2 != .local || sc.names.lookup y.1 == some .local)=true)
  (h:sc.names.all (fun y=>y.2 != .free || X.env.kindOf y.1 == some .cell || X.env.kindOf y.1 == some .free)=true) (d:src.length=N.length)
  (l:(List.range src.length).all (fun i=>match src[i]? with | some (some j)=>(match N[i]?,X.N[j]? with | some x,some y=>x == y && sc.names.lookup x == some .free | _,_=>false) | _=>true)=true):LcOk X N sc src:=by
 refine ⟨c,fun y a e=>?_,fun y a e=>?_,fun y a e=>?_,d,fun i j e=>?_⟩
 ·have:=aC0.mp b y a
  rw [e] at this
  exact absurd this (by decide)
 ·have:=aC0.mp g y a
  rw [e] at this
  simpa using this
 ·have:=aC0.mp h y a
  rw [e] at this
  simpa using this
 ·have hi:i < src.length:=(ax6.mp e).1
  have:=aC0.mp l i (az3.mpr hi)
  rw [e] at this
  dsimp only at this
  cases h7:N[i]? with
  | none=>rw [h7] at this;cases this
  | some x =>
   cases h8:X.N[j]? with
   | none=>rw [h7,h8] at this;cases this
   | some y =>
    rw [h7,h8] at this
    simp only [aD6] at this
    have f:x=y:=by simpa using this.1
    subst f
    exact ⟨x,rfl,rfl,by simpa using this.2⟩
section
variable {σ:St} {H:Hp} {D:Ends} {K:Frag}
theorem aou {Q:Bool->Hp->Prop} (h:Q true H):tYes σ H Q:=h
theorem aqd {a:Addr} {xs:List V} {i:Int} {k:Nat} {y:V} {Q:VK} (ha:H a=some (.lst xs)) (f : -(2 ^ 63)<=i) (b:i < 2 ^ 63) (c:seqIndex? i xs.length=some k) (d:xs[k]?=some y) (h:Q y (upd H a (.lst (xs.eraseIdx k)))):akf (.ref a) [.int i] H Q :=
 ⟨a,xs,i,k,y,rfl,rfl,ha,f,b,c,d,h⟩
end
end L2
namespace L2
open PySem
theorem act:bootBuiltins "len" = some (.builtin "len"):=by decide +kernel
theorem aov:bootBuiltins "max" = some (.builtin "max"):=by decide +kernel
theorem aow:bootBuiltins "min" = some (.builtin "min"):=by decide +kernel
theorem ad9:bootBuiltins "sorted" = some (.builtin "sorted"):=by decide +kernel
theorem aa2:bootBuiltins "isinstance" = some (.builtin "isinstance"):=by decide +kernel
theorem akl:bootBuiltins "all" = some (.builtin "all"):=by decide +kernel
theorem ag5:bootBuiltins "int" = some (.type "int"):=by decide +kernel
theorem ahv:bootBuiltins "list" = some (.type "list"):=by decide +kernel
theorem aqe:bootBuiltins "tuple" = some (.type "tuple"):=by decide +kernel
theorem akm:bootBuiltins "enumerate" = some (.type "enumerate"):=by decide +kernel
theorem asr:bootBuiltins "bool" = some (.type "bool"):=by decide +kernel
end L2
namespace TS
open PySem PyProof.Rows
def ahw:Bool->Keyed->Array Keyed->Nat->Nat->Nat->StateT SortSt Sem (Option Nat):=sortPriv% PySem.Builtin.gallop
def aqf:Array Keyed->Array Keyed->StateT SortSt Sem (Array Keyed):=sortPriv% PySem.Builtin.mergeLo
def aqg:Array Keyed->Array Keyed->StateT SortSt Sem (Array Keyed):=sortPriv% PySem.Builtin.mergeHi
def akn:Nat->StateT SortSt Sem Bool:=sortPriv% PySem.Builtin.mergeAt
def ass:Nat->Nat->StateT SortSt Sem (Option Nat):=sortPriv% PySem.Builtin.countRun
def aqh:Nat->Nat->Nat->StateT SortSt Sem Bool:=sortPriv% PySem.Builtin.binarySort
def aw7:StateT SortSt Sem Unit:=sortPriv% PySem.Builtin.sortRuns
structure Cmp (M:Model) (A:Around) (E:Value->Shared->Prop) (s:Shared) (κ:SortKind) (S:Keyed->Prop) (R:Keyed->Keyed->Bool):Prop where
 ask:∀ x y,S x->S y->∀ (Q:Option Bool->SortSt->Prop) (st:SortSt),kindOf st = κ->Q (some (R x y)) st->wpS M A E s (lt' x y) Q st
 asy:∀ x y,S x->S y->R x y=true->R y x=false
 tr:∀ x y z,S x->S y->S z->R y x=false->R z y=false->R z x=false
section
variable {M:Model} {A:Around} {E:Value->Shared->Prop} {s:Shared} {κ:SortKind} {S:Keyed->Prop} {R:Keyed->Keyed->Bool}
theorem aay {arr:Array Keyed} {i:Nat} {x:Keyed} {Q:Keyed->SortSt->Prop} {st:SortSt} (a:arr[i]?=some x) (h:Q x st):wpS M A E s (elem' arr i) Q st:=by
 rw [elem'_eq,a]
 exact wpS_pure h
theorem ade {x:String} {Q:Unit->SortSt->Prop} {st:SortSt} (h:Q () st):wpS M A E s (liftM (PySem.rule x):StateT SortSt Sem Unit) Q st :=
 wpS_lift (wpAny_rule ⟨rfl,h⟩)
def bey (left:Bool) (key:Keyed) (arr:Array Keyed) (base i:Nat):StateT SortSt Sem (Option Bool):=do
 let x ← elem' arr (base+i)
 if left=true then lt' x key else do
  let r ← lt' key x
  pure (Option.map (fun b => !b) r)
theorem air {left:Bool} {p:Keyed} {arr:Array Keyed} {base n a:Nat} {B:Nat->Bool}
  (hb:∀ i,i < n->∀ (Q:Option Bool->SortSt->Prop) (st:SortSt),kindOf st = κ->Q (some (B i)) st->wpS M A E s (bey left p arr base i) Q st)
  (mono:∀ i j,i < j->j < n->B j=true->B i=true) (hh:a < n) {Q:Option Nat->SortSt->Prop} {st:SortSt} (x:kindOf st = κ)
  (h:∀ k,k<=n->(∀ i,i < k->B i=true)->(∀ i,k<=i->i < n->B i=false)->Q (some k) st):wpS M A E s (ahw left p arr base n a) Q st:=by
 have c:∀ i j,i < j->j < n->B i=false->B j=false:=fun i j y K hi=>by
  cases e:B j with
  | false=>rfl
  | true=>rw [mono i j y K e] at hi;cases hi
 -- the last loop
 have last:∀ (lo hi:Nat) (F:Option (Option Nat) × Nat × Nat->StateT SortSt Sem (Option Nat)),lo<=hi->hi<=n->(∀ i,i < lo->B i=true)->(∀ i,hi<=i->i < n->B i=false) ->
   (∀ lo hi,F (none,lo,hi)=pure (some hi)) ->
   wpS M A E s (forIn [:n] ((none,lo,hi):Option (Option Nat) × Nat × Nat) (fun (_:Nat) z=>if z.2.1 ≥ z.2.2 then pure (ForInStep.done (none,z.2.1,z.2.2)) else bey left p arr base (z.2.1+(z.2.2 - z.2.1) / 2) >>= fun r=>match r with
    | some more=>if more=true then pure (ForInStep.yield (none,z.2.1+(z.2.2 - z.2.1) / 2+1,z.2.2)) else pure (ForInStep.yield (none,z.2.1,z.2.1+(z.2.2 - z.2.1) / 2))
    | _=>pure (ForInStep.done (some none,z.2.1,z.2.2))) >>= F) Q st:=by
  intro lo hi F H J I L C
  refine wpS_bind (wpS_forRange (fun t z st'=>st'=st/\z.1=none/\z.2.1<=z.2.2/\z.2.2<=n/\z.2.2 - z.2.1+t<=n/\(∀ i,i < z.2.1->B i=true)/\(∀ i,z.2.2<=i->i < n->B i=false)) ?_ ?_ ⟨rfl,rfl,H,J,by dsimp only;omega,I,L⟩)
  ·rintro t ⟨o,l,u⟩ st' _ D ⟨rfl,e,q,d,b,g,w⟩
   dsimp only at e q d b g w ⊢
   subst e
   by_cases hlu:l ≥ u
   ·rw [aC1 hlu]
    have:l=u:=by omega
    subst this
    exact wpS_pure (by dsimp only;rw [C];exact wpS_pure (h l d g w))
   ·rw [aC2 hlu]
    have hm:l+(u - l) / 2 < u:=by omega
    refine wpS_bind (hb _ (by omega) _ _ x ?_)
    dsimp only
    cases e:B (l+(u - l) / 2) with
    | true =>
     rw [aC1 rfl]
     refine wpS_pure ⟨rfl,rfl,by dsimp only;omega,d,by dsimp only;omega,fun i hi=>?_,w⟩
     dsimp only at hi
     by_cases hi2:i=l+(u - l) / 2
     ·rw [hi2];exact e
     ·exact mono i _ (by omega) (by omega) e
    | false =>
     rw [aC2 (by simp)]
     refine wpS_pure ⟨rfl,rfl,by dsimp only;omega,by dsimp only;omega,by dsimp only;omega,g,fun i hi hn=>?_⟩
     dsimp only at hi
     by_cases hi2:i=l+(u - l) / 2
     ·rw [hi2];exact e
     ·exact c _ i (by omega) hn e
  ·rintro ⟨o,l,u⟩ st' ⟨rfl,e,q,d,b,g,w⟩
   dsimp only at e q d b g w ⊢
   subst e
   have : l = u := by have:n ≤ max 0 n := by omega
                      omega
   subst this
   rw [C]
   exact wpS_pure (h l d g w)
 refine wpS_bind (f:=fun G=>_) (m:=bey left p arr base a) (hb a hh _ st x ?_)
 dsimp only
 cases e0:B a with
 | true =>
  rw [aC1 rfl]
  refine wpS_bind ?_
  refine wpS_forRange (fun t (z:Option (Option Nat) × Nat × Nat) st'=>st'=st/\z.1=none/\z.2.1 < z.2.2/\a+z.2.1 < n/\B (a+z.2.1)=true/\t+1<=z.2.2) ?_ ?_ ⟨rfl,rfl,by decide,by dsimp only;omega,e0,Nat.le_refl _⟩
  ·rintro t ⟨o,l,u⟩ st' _ D ⟨rfl,e,q,d,b,g⟩
   dsimp only at e q d b g ⊢
   subst e
   by_cases hu:u ≥ n - a
   ·rw [aC1 hu]
    refine wpS_pure ?_
    dsimp only
    refine last _ _ _ (by omega) (by omega) (fun i hi=>?_) (fun i hi hn=>by omega) (fun _ _=>rfl)
    by_cases hi2:i=a+l
    ·rw [hi2];exact b
    ·exact mono i _ (by omega) d b
   ·rw [aC2 hu]
    refine wpS_bind (m:=bey left p arr base (a+u)) (hb _ (by omega) _ _ x ?_)
    dsimp only
    cases e1:B (a+u) with
    | true =>
     rw [aC2 (by decide)]
     exact wpS_pure ⟨rfl,rfl,by dsimp only;omega,by dsimp only;omega,e1,by dsimp only;omega⟩
    | false =>
     rw [aC1 (by decide)]
     refine wpS_pure ?_
     dsimp only
     refine last _ _ _ (by omega) (by omega) (fun i hi=>?_) (fun i hi hn=>?_) (fun _ _=>rfl)
     ·by_cases hi2:i=a+l
      ·rw [hi2];exact b
      ·exact mono i _ (by omega) d b
     ·by_cases hi2:i=a+u
      ·rw [hi2];exact e1
      ·exact c _ i (by omega) hn e1
  ·rintro ⟨o,l,u⟩ st' ⟨rfl,e,q,d,b,g⟩
   dsimp only at e q d b g ⊢
   subst e
   dsimp only
   refine last _ _ _ (by omega) (by omega) (fun i hi=>?_) (fun i hi hn=>by omega) (fun _ _=>rfl)
   by_cases hi2:i=a+l
   ·rw [hi2];exact b
   ·exact mono i _ (by omega) d b
 | false =>
  rw [aC2 (by decide)]
  refine wpS_bind ?_
  refine wpS_forRange (fun t (z:Option (Option Nat) × Nat × Nat) st'=>st'=st/\z.1=none/\z.2.1 < z.2.2/\z.2.1<=a/\B (a - z.2.1)=false/\t+1<=z.2.2) ?_ ?_ ⟨rfl,rfl,by decide,aC5 _,e0,ay1 _⟩
  ·rintro t ⟨o,l,u⟩ st' _ D ⟨rfl,e,q,d,b,g⟩
   dsimp only at e q d b g ⊢
   subst e
   have v:∀ i,a - l<=i->i < n->B i=false:=fun i hi hn=>by
    by_cases hi2:i=a - l
    ·rw [hi2];exact b
    ·exact c _ i (by omega) hn b
   by_cases hu:u ≥ a+1
   ·rw [aC1 hu]
    refine wpS_pure ?_
    dsimp only
    exact last _ _ _ (by omega) (by omega) (fun i hi=>by omega) v (fun _ _=>rfl)
   ·rw [aC2 hu]
    refine wpS_bind (m:=bey left p arr base (a - u)) (hb _ (by omega) _ _ x ?_)
    dsimp only
    cases e1:B (a - u) with
    | true =>
     rw [aC1 rfl]
     refine wpS_pure ?_
     dsimp only
     refine last _ _ _ (by omega) (by omega) (fun i hi=>?_) v (fun _ _=>rfl)
     by_cases hi2:i=a - u
     ·rw [hi2];exact e1
     ·exact mono i _ (by omega) (by omega) e1
    | false =>
     rw [aC2 (by decide)]
     exact wpS_pure ⟨rfl,rfl,by dsimp only;omega,by dsimp only;omega,e1,by dsimp only;omega⟩
  ·rintro ⟨o,l,u⟩ st' ⟨rfl,e,q,d,b,g⟩
   dsimp only at e q d b g ⊢
   subst e
   dsimp only
   refine last _ _ _ (by omega) (by omega) (fun i hi=>by omega) (fun i hi hn=>?_) (fun _ _=>rfl)
   by_cases hi2:i=a - l
   ·rw [hi2];exact b
   ·exact c _ i (by omega) hn b
end
def Srt (R:Keyed->Keyed->Bool) (l:List Keyed):Prop:=l.Pairwise fun x y=>R y x=false
structure Mid (R:Keyed->Keyed->Bool) (L out a b:List Keyed):Prop where
 perm:(out ++ a ++ b).Perm L
 so:Srt R out
 le:∀ x∈out,∀ y∈a ++ b,R y x=false
 sa:Srt R a
 sb:Srt R b
section
variable {R:Keyed->Keyed->Bool} {L out a b p:List Keyed}
theorem Mid.takeA (m:Mid R L out (p ++ a) b) (h:∀ x∈p,∀ y∈b,R y x=false):Mid R L (out ++ p) a b:=by
 have sp:=aA3.mp m.sa
 refine ⟨by have:=m.perm;rw [← ay8] at this;exact this,aA3.mpr ⟨m.so,sp.1,fun x d y c=>m.le x d y (aA1 _ (aA1 _ c))⟩,fun x d y c=>?_,sp.2.1,m.sb⟩
 rcases ay2.mp d with d | d
 ·refine m.le x d y ?_
  rcases ay2.mp c with c | c
  ·exact aA1 _ (ay7 _ c)
  ·exact ay7 _ c
 ·rcases ay2.mp c with c | c
  ·exact sp.2.2 x d y c
  ·exact h x d y c
theorem Mid.takeB (m:Mid R L out a (p ++ b)) (h:∀ x∈p,∀ y∈a,R y x=false):Mid R L (out ++ p) a b:=by
 have sp:=aA3.mp m.sb
 refine ⟨List.Perm.trans ?_ m.perm,aA3.mpr ⟨m.so,sp.1,fun x d y c=>m.le x d y (ay7 _ (aA1 _ c))⟩,fun x d y c=>?_,m.sa,sp.2.1⟩
 ·rw [← ay8 (out ++ a) p b]
  refine List.Perm.append_right b ?_
  rw [ay8,ay8]
  exact List.Perm.append_left out List.perm_append_comm
 ·rcases ay2.mp d with d | d
  ·refine m.le x d y ?_
   rcases ay2.mp c with c | c
   ·exact aA1 _ c
   ·exact ay7 _ (ay7 _ c)
  ·rcases ay2.mp c with c | c
   ·exact h x d y c
   ·exact sp.2.2 x d y c
theorem Mid.done (m:Mid R L out a b) (h:a=[]\/b=[]):(out ++ a ++ b).Perm L/\Srt R (out ++ a ++ b):=by
 refine ⟨m.perm,?_⟩
 rw [ay8]
 refine aA3.mpr ⟨m.so,?_,m.le⟩
 rcases h with h | h
 ·subst h;exact m.sb
 ·subst h;rw [aB7];exact m.sa
theorem Mid.last (m:Mid R L out a b) (h:∀ y∈b,∀ x∈a,R x y=false):(out ++ b ++ a).Perm L/\Srt R (out ++ b ++ a):=by
 refine ⟨List.Perm.trans ?_ m.perm,?_⟩
 ·rw [ay8,ay8]
  exact List.Perm.append_left out List.perm_append_comm
 ·rw [ay8]
  refine aA3.mpr ⟨m.so,aA3.mpr ⟨m.sb,m.sa,h⟩,fun x d y c=>m.le x d y ?_⟩
  rcases ay2.mp c with c | c
  ·exact ay7 _ c
  ·exact aA1 _ c
end
structure Eqv (st st':SortSt):Prop where
 k:kindOf st'=kindOf st
 a:arrOf st'=arrOf st
 p:pendingOf st'=pendingOf st
 f:failedOf st'=failedOf st
theorem Eqv.refl (st:SortSt):Eqv st st:=⟨rfl,rfl,rfl,rfl⟩
theorem Eqv.trans {a b c:SortSt} (h:Eqv a b) (g:Eqv b c):Eqv a c:=⟨g.k.trans h.k,g.a.trans h.a,g.p.trans h.p,g.f.trans h.f⟩
theorem afq (a:Array Keyed) (i:Nat):(a.extract i a.size).toList=a.toList.drop i:=by
 rw [Array.toList_extract];simp only [List.extract_eq_take_drop];exact aB8 (by simp)
theorem ahx (a:Array Keyed) (i k:Nat):(a.extract i (i+k)).toList=(a.toList.drop i).take k:=by
 rw [Array.toList_extract];simp [List.extract]
theorem abf {a:Array Keyed} {i:Nat} (h:i < a.size):a.toList.drop i=a[i] :: a.toList.drop (i+1):=by
 rw [List.drop_eq_getElem_cons (by simpa using h)];simp
section
variable {M:Model} {A:Around} {E:Value->Shared->Prop} {s:Shared} {κ:SortKind} {S:Keyed->Prop} {R:Keyed->Keyed->Bool}
theorem Cmp.irr {x:Keyed} (C:Cmp M A E s κ S R) (a:S x):R x x=false:=by
 cases e:R x x with
 | false=>rfl
 | true=>have:=C.asy x x a a e;rw [e] at this;cases this
theorem ae8 (C:Cmp M A E s κ S R) {a:Keyed} {arr:Array Keyed} {base n l:Nat} (g:S a) (P:∀ x∈arr.toList,S x) (hn:base+n<=arr.size) (hs:Srt R ((arr.toList.drop base).take n)) (hh:l < n)
  {Q:Option Nat->SortSt->Prop} {st:SortSt} (J:kindOf st = κ)
  (h:∀ k,k<=n->(∀ x∈(arr.toList.drop base).take k,R a x=false)->(∀ x∈((arr.toList.drop base).take n).drop k,R a x=true)->Q (some k) st) :
  wpS M A E s (ahw false a arr base n l) Q st:=by
 have b:∀ i,i < n->∃ x,arr[base+i]?=some x/\S x/\((arr.toList.drop base).take n)[i]?=some x:=fun i hi=>by
  have p:base+i < arr.size:=by omega
  refine ⟨arr[base+i],ax9 p,P _ (by simp),?_⟩
  rw [aE0 hi,aE7]
  simp [p]
 have m:∀ i j x y,i < j->j < n->arr[base+i]?=some x->arr[base+j]?=some y->R y x=false:=fun i j x y o r ex L=>by
  obtain ⟨Y,d,_,c⟩:=b i (by omega)
  obtain ⟨W,F,_,D⟩:=b j r
  rw [ex] at d;cases d
  rw [L] at F;cases F
  obtain ⟨I,c⟩:=ax6.mp c
  obtain ⟨O,D⟩:=ax6.mp D
  have:=aD2.mp hs i j I O o
  rw [c,D] at this
  exact this
 refine air (κ:=κ) (B:=fun i=>match arr[base+i]? with | some x => !(R a x) | none=>false) (fun i hi X st' v G=>?_) (fun i j o r q=>?_) hh J fun k u H K=>h k u (fun x w=>?_) fun x w=>?_
 ·obtain ⟨x,d,z,_⟩:=b i hi
  unfold bey
  refine wpS_bind (aay d ?_)
  rw [aC2 (by decide)]
  refine wpS_bind (C.ask _ _ g z _ _ v ?_)
  refine wpS_pure ?_
  simp only [d] at G
  exact G
 ·obtain ⟨x,d,z,_⟩:=b i (by omega)
  obtain ⟨y,c,T,_⟩:=b j r
  simp only [d,c] at q ⊢
  have N:=m i j x y o r d c
  have U:R a y=false:=by simpa using q
  have:=C.tr x y a z T g N U
  simp [this]
 ·obtain ⟨i,hi,e⟩:=List.getElem_of_mem w
  have f:i < k:=by rw [aD5] at hi;omega
  obtain ⟨y,d,_,c⟩:=b i (by omega)
  have hb:=H i f
  simp only [d] at hb
  have ex:x=y:=by
   have:((arr.toList.drop base).take k)[i]?=some x:=by rw [ax5 hi,e]
   rw [aE0 f] at this
   rw [aE0 (by omega)] at c
   rw [this] at c;exact aA0 c
  subst ex
  simpa using hb
 ·obtain ⟨i,hi,e⟩:=List.getElem_of_mem w
  have f:k+i < n:=by rw [List.length_drop,aD5] at hi;omega
  obtain ⟨y,d,_,c⟩:=b (k+i) f
  have hb:=K (k+i) (by omega) f
  simp only [d] at hb
  have ex:x=y:=by
   have:(((arr.toList.drop base).take n).drop k)[i]?=some x:=by rw [ax5 hi,e]
   rw [aE7] at this
   rw [this] at c;exact aA0 c
  subst ex
  simpa using hb
theorem agf (C:Cmp M A E s κ S R) {a:Keyed} {arr:Array Keyed} {base n l:Nat} (g:S a) (P:∀ x∈arr.toList,S x) (hn:base+n<=arr.size) (hs:Srt R ((arr.toList.drop base).take n)) (hh:l < n)
  {Q:Option Nat->SortSt->Prop} {st:SortSt} (J:kindOf st = κ)
  (h:∀ k,k<=n->(∀ x∈(arr.toList.drop base).take k,R x a=true)->(∀ x∈((arr.toList.drop base).take n).drop k,R x a=false)->Q (some k) st) :
  wpS M A E s (ahw true a arr base n l) Q st:=by
 have b:∀ i,i < n->∃ x,arr[base+i]?=some x/\S x/\((arr.toList.drop base).take n)[i]?=some x:=fun i hi=>by
  have q:base+i < arr.size:=by omega
  refine ⟨arr[base+i],ax9 q,P _ (by simp),?_⟩
  rw [aE0 hi,aE7]
  simp [q]
 have m:∀ i j x y,i < j->j < n->arr[base+i]?=some x->arr[base+j]?=some y->R y x=false:=fun i j x y o r ex L=>by
  obtain ⟨X,d,_,c⟩:=b i (by omega)
  obtain ⟨U,F,_,D⟩:=b j r
  rw [ex] at d;cases d
  rw [L] at F;cases F
  obtain ⟨I,c⟩:=ax6.mp c
  obtain ⟨O,D⟩:=ax6.mp D
  have:=aD2.mp hs i j I O o
  rw [c,D] at this
  exact this
 refine air (κ:=κ) (B:=fun i=>match arr[base+i]? with | some x=>R x a | none=>false) (fun i hi W st' v G=>?_) (fun i j o r p=>?_) hh J fun k u H K=>h k u (fun x w=>?_) fun x w=>?_
 ·obtain ⟨x,d,z,_⟩:=b i hi
  unfold bey
  refine wpS_bind (aay d ?_)
  rw [aC1 rfl]
  simp only [d] at G
  exact C.ask _ _ z g _ _ v G
 ·obtain ⟨x,d,z,_⟩:=b i (by omega)
  obtain ⟨y,c,T,_⟩:=b j r
  simp only [d,c] at p ⊢
  have N:=m i j x y o r d c
  cases e:R x a with
  | true=>rfl
  | false =>
   have:=C.tr a x y g z T e N
   rw [this] at p;cases p
 ·obtain ⟨i,hi,e⟩:=List.getElem_of_mem w
  have f:i < k:=by rw [aD5] at hi;omega
  obtain ⟨y,d,_,c⟩:=b i (by omega)
  have hb:=H i f
  simp only [d] at hb
  have ex:x=y:=by
   have:((arr.toList.drop base).take k)[i]?=some x:=by rw [ax5 hi,e]
   rw [aE0 f] at this
   rw [aE0 (by omega)] at c
   rw [this] at c;exact aA0 c
  subst ex
  exact hb
 ·obtain ⟨i,hi,e⟩:=List.getElem_of_mem w
  have f:k+i < n:=by rw [List.length_drop,aD5] at hi;omega
  obtain ⟨y,d,_,c⟩:=b (k+i) f
  have hb:=K (k+i) (by omega) f
  simp only [d] at hb
  have ex:x=y:=by
   have:(((arr.toList.drop base).take n).drop k)[i]?=some x:=by rw [ax5 hi,e]
   rw [aE7] at this
   rw [this] at c;exact aA0 c
  subst ex
  exact hb
end
section
variable {M:Model} {A:Around} {E:Value->Shared->Prop} {s:Shared} {κ:SortKind} {S:Keyed->Prop} {R:Keyed->Keyed->Bool}
structure Two (S:Keyed->Prop) (R:Keyed->Keyed->Bool) (a b:Array Keyed):Prop where
 ha:∀ x∈a.toList,S x
 hb:∀ x∈b.toList,S x
 sa:Srt R a.toList
 sb:Srt R b.toList
 a0:0 < a.size
 b0:0 < b.size
 first:∀ x∈a.toList,∀ y,b[0]?=some y->R x y=false
 last:∀ y∈b.toList,∀ x,a[a.size - 1]?=some x->R x y=false
def Fin2 (R:Keyed->Keyed->Bool) (a b m:Array Keyed):Prop:=m.toList.Perm (a.toList ++ b.toList)/\Srt R m.toList
structure Lo (S:Keyed->Prop) (R:Keyed->Keyed->Bool) (a b out:Array Keyed) (ia ib:Nat):Prop where
 mid:Mid R (a.toList ++ b.toList) out.toList (a.toList.drop ia) (b.toList.drop ib)
 ia:ia<=a.size
 ib:ib<=b.size
theorem Lo.len {a b out:Array Keyed} {ia ib:Nat} (l:Lo S R a b out ia ib):out.size+(a.size - ia)+(b.size - ib)=a.size+b.size:=by
 have:=l.mid.perm.length_eq
 simp at this
 omega
theorem Lo.doneA {a b out:Array Keyed} {ia ib:Nat} (l:Lo S R a b out ia ib) (h:ib=b.size\/ia=a.size):Fin2 R a b (out ++ a.extract ia ++ b.extract ib):=by
 have:=l.mid.done (by
  rcases h with h | h
  ·right;rw [h];simp
  ·left;rw [h];simp)
 unfold Fin2
 rw [aD1,aD1,afq,afq]
 exact this
theorem aox {a:Array Keyed} {i:Nat} (h:i+1=a.size):a.toList.drop i=[a[a.size - 1]'(by omega)]:=by
 have hi:i < a.size:=by omega
 rw [abf hi]
 have:i=a.size - 1:=by omega
 subst this
 have e:a.toList.drop (a.size - 1+1)=[]:=by
  apply List.drop_eq_nil_of_le
  simp;omega
 rw [e]
theorem Lo.lastA {a b out:Array Keyed} {ia ib:Nat} (T:Two S R a b) (l:Lo S R a b out ia ib) (h:ia+1=a.size):Fin2 R a b (out ++ b.extract ib ++ a.extract ia):=by
 have:=l.mid.last (by
  intro y d x c
  rw [aox h] at c
  have ex:x=a[a.size - 1]'(by omega):=by simpa using c
  refine T.last y (az8 d) x ?_
  rw [ex]
  exact ax9 _)
 unfold Fin2
 rw [aD1,aD1,afq,afq]
 exact this
theorem ad0 {x:Keyed} {l:List Keyed} (C:Cmp M A E s κ S R) (h:Srt R (x :: l)) (b:S x):∀ y∈x :: l,R y x=false:=by
 intro y a
 rcases ay3.mp a with e | a
 ·rw [e];exact C.irr b
 ·exact (List.pairwise_cons.mp h).1 y a
theorem Lo.pushB {a b out:Array Keyed} {ia ib:Nat} (C:Cmp M A E s κ S R) (T:Two S R a b) (l:Lo S R a b out ia ib) (hb:ib < b.size) (h:∀ x∈a.toList.drop ia,R x b[ib]=false):Lo S R a b (out.push b[ib]) ia (ib+1):=by
 refine ⟨?_,l.ia,hb⟩
 have m:=l.mid
 rw [abf hb] at m
 rw [Array.toList_push]
 exact m.takeB (p:=[b[ib]]) (fun x d y c=>by
  have:x=b[ib]:=by simpa using d
  rw [this];exact h y c)
theorem Lo.pushA {a b out:Array Keyed} {ia ib:Nat} (l:Lo S R a b out ia ib) (ha:ia < a.size) (h:∀ y∈b.toList.drop ib,R y a[ia]=false):Lo S R a b (out.push a[ia]) (ia+1) ib:=by
 refine ⟨?_,ha,l.ib⟩
 have m:=l.mid
 rw [abf ha] at m
 rw [Array.toList_push]
 exact m.takeA (p:=[a[ia]]) (fun x d y c=>by
  have:x=a[ia]:=by simpa using d
  rw [this];exact h y c)
theorem Lo.runA {a b out:Array Keyed} {ia ib k:Nat} (l:Lo S R a b out ia ib) (d:ia+k<=a.size) (h:∀ x∈(a.toList.drop ia).take k,∀ y∈b.toList.drop ib,R y x=false):Lo S R a b (out ++ a.extract ia (ia+k)) (ia+k) ib:=by
 refine ⟨?_,d,l.ib⟩
 have m:=l.mid
 rw [← az5 k (a.toList.drop ia)] at m
 rw [aD1,ahx]
 have c:=m.takeA h
 rw [List.drop_drop] at c
 exact c
theorem Lo.runB {a b out:Array Keyed} {ia ib k:Nat} (l:Lo S R a b out ia ib) (d:ib+k<=b.size) (h:∀ x∈(b.toList.drop ib).take k,∀ y∈a.toList.drop ia,R y x=false):Lo S R a b (out ++ b.extract ib (ib+k)) ia (ib+k):=by
 refine ⟨?_,l.ia,d⟩
 have m:=l.mid
 rw [← az5 k (b.toList.drop ib)] at m
 rw [aD1,ahx]
 have c:=m.takeB h
 rw [List.drop_drop] at c
 exact c
theorem acq {l:List Keyed} {i:Nat} (h:Srt R l):Srt R (l.drop i):=List.Pairwise.sublist (List.drop_sublist i l) h
theorem jpn {α β:Type} {prog : β->StateT SortSt Sem α} {P : β->Prop} {Q : α->SortSt->Prop} {st:SortSt} {G:Prop} (use:(∀ m,P m->wpS M A E s (prog m) Q st)->G) (a:∀ m,P m->wpS M A E s (prog m) Q st):G:=use a
theorem jpn2 {α:Type} {prog:Array Keyed->Nat->StateT SortSt Sem α} {P:Array Keyed->Nat->Prop} {Q : α->SortSt->Prop} {st:SortSt} {G:Prop} (use:(∀ o i,P o i->wpS M A E s (prog o i) Q st)->G) (a:∀ o i,P o i->wpS M A E s (prog o i) Q st):G:=use a
section
variable {ρ β γ δ ε ζ η:Type}
@[elab_as_elim] theorem un5 {J : β->γ->δ->ε->Prop} {G:Option ρ × β × γ × δ × ε->Prop} (z:Option ρ × β × γ × δ × ε) (h:z.1=none/\J z.2.1 z.2.2.1 z.2.2.2.1 z.2.2.2.2) (k:∀ x y u v,J x y u v->G (none,x,y,u,v)):G z:=by
 have e:z=(none,z.2.1,z.2.2.1,z.2.2.2.1,z.2.2.2.2):=by rw [← h.1]
 rw [e];exact k _ _ _ _ h.2
@[elab_as_elim] theorem un6 {J : β->γ->δ->ε->ζ->Prop} {G:Option ρ × β × γ × δ × ε × ζ->Prop} (z:Option ρ × β × γ × δ × ε × ζ) (h:z.1=none/\J z.2.1 z.2.2.1 z.2.2.2.1 z.2.2.2.2.1 z.2.2.2.2.2) (k:∀ x y u v a,J x y u v a->G (none,x,y,u,v,a)):G z:=by
 have e:z=(none,z.2.1,z.2.2.1,z.2.2.2.1,z.2.2.2.2.1,z.2.2.2.2.2):=by rw [← h.1]
 rw [e];exact k _ _ _ _ _ h.2
@[elab_as_elim] theorem un7 {J : β->γ->δ->ε->ζ->η->Prop} {G:Option ρ × β × γ × δ × ε × ζ × η->Prop} (z:Option ρ × β × γ × δ × ε × ζ × η) (h:z.1=none/\J z.2.1 z.2.2.1 z.2.2.2.1 z.2.2.2.2.1 z.2.2.2.2.2.1 z.2.2.2.2.2.2) (k:∀ x y u v a b,J x y u v a b->G (none,x,y,u,v,a,b)):G z:=by
 have e:z=(none,z.2.1,z.2.2.1,z.2.2.2.1,z.2.2.2.2.1,z.2.2.2.2.2.1,z.2.2.2.2.2.2):=by rw [← h.1]
 rw [e];exact k _ _ _ _ _ _ h.2
@[elab_as_elim] theorem unR {κ:Type} {F : ρ->Prop} {J : κ->Prop} {G:Option ρ × κ->Prop} (z:Option ρ × κ) (h:(∃ r,z.1=some r/\F r)\/(z.1=none/\J z.2)) (k1:∀ r x,F r->G (some r,x)) (k2:z.1=none/\J z.2->G z):G z:=by
 rcases h with ⟨r,e,a⟩ | h
 ·have e:z=(some r,z.2):=by rw [← e]
  rw [e];exact k1 _ _ a
 ·exact k2 h
end
theorem aal {c:Prop} [Decidable c] {α:Type} {b a:StateT SortSt Sem α} {Q : α->SortSt->Prop} {st:SortSt} (f:c->wpS M A E s b Q st) (d:¬ c->wpS M A E s a Q st):wpS M A E s (if c then b else a) Q st:=by
 by_cases h:c
 ·rw [aC1 h];exact f h
 ·rw [aC2 h];exact d h
theorem ane (C:Cmp M A E s κ S R) {a b:Array Keyed} (T:Two S R a b) {Q:Array Keyed->SortSt->Prop} {st:SortSt} (hk:kindOf st = κ)
  (h:∀ m st',Eqv st st'->Fin2 R a b m->Q m st'):wpS M A E s (aqf a b) Q st:=by
 have N:∀ i (h:i < a.size),S a[i]:=fun i h=>T.ha _ (by simp)
 have L:∀ i (h:i < b.size),S b[i]:=fun i h=>T.hb _ (by simp)
 have b0:=T.b0
 have a0:=T.a0
 refine wpS_bind (ade ?_)
 refine wpS_bind (aay (x:=b[0]'b0) (ax9 b0) ?_)
 have l1:Lo S R a b #[b[0]'b0] 0 1:=by
  have l0:Lo S R a b #[] 0 0:=⟨⟨by simp,List.Pairwise.nil,fun x w=>by simp at w,T.sa,T.sb⟩,aC5 _,aC5 _⟩
  exact l0.pushB C T b0 fun x w=>T.first x (by simpa using w) _ (ax9 b0)
 refine aal (fun e1=>wpS_pure (h _ _ (Eqv.refl _) (l1.doneA (.inl (aC8.mp e1))))) (fun e1=>?_)
 refine aal (fun e2=>wpS_pure (h _ _ (Eqv.refl _) (l1.lastA T (aC8.mp e2)))) (fun e2=>?_)
 replace e1:1 ≠ b.size:=fun q=>e1 (aC8.mpr q)
 replace e2:0+1 ≠ a.size:=fun q=>e2 (aC8.mpr q)
 refine wpS_bind (wpS_get ?_)
 refine wpS_bind (wpS_mono (Q:=fun (z:Option (Array Keyed) × Array Keyed × Nat × Nat × Nat) st'=>Eqv st st'/\∃ r,z.1=some r/\Fin2 R a b r) ?_ ?_)
 ·refine wpS_forRange (fun t (z:Option (Array Keyed) × Array Keyed × Nat × Nat × Nat) st'=>Eqv st st'/\z.1=none/\Lo S R a b z.2.1 z.2.2.1 z.2.2.2.1/\z.2.2.1+1 < a.size/\z.2.2.2.1 < b.size/\t+1<=z.2.1.size) ?_ ?_ ⟨Eqv.refl _,rfl,l1,by dsimp only;omega,by dsimp only;omega,by simp⟩
  ·intro t z a9 _ ht n
   have q1:=n.1
   refine un5 (J:=fun out ia ib _=>Lo S R a b out ia ib/\ia+1 < a.size/\ib < b.size/\t+1<=out.size) z n.2 fun out ia ib mg v=>?_
   dsimp only
   refine wpS_bind (wpS_mono (Q:=fun (z:Option (Array Keyed) × Array Keyed × Nat × Nat × Nat × Nat) st'=>Eqv st st'/\((∃ r,z.1=some r/\Fin2 R a b r)\/(z.1=none/\Lo S R a b z.2.1 z.2.2.1 z.2.2.2.1/\z.2.2.1+1 < a.size/\z.2.2.2.1 < b.size/\t+2<=z.2.1.size))) ?_ ?_)
   ·refine wpS_forRange (fun i (z:Option (Array Keyed) × Array Keyed × Nat × Nat × Nat × Nat) st'=>Eqv st st'/\z.1=none/\Lo S R a b z.2.1 z.2.2.1 z.2.2.2.1/\z.2.2.1+1 < a.size/\z.2.2.2.1 < b.size/\t+1+min i 1<=z.2.1.size) ?_ ?_ ⟨q1,rfl,v.1,v.2.1,v.2.2.1,v.2.2.2⟩
    ·intro i z o _ hi n
     have q:=n.1
     refine un6 (J:=fun out ia ib _ _=>Lo S R a b out ia ib/\ia+1 < a.size/\ib < b.size/\t+1+min i 1<=out.size) z n.2 fun out ia ib ac bc v=>?_
     have l:=v.1
     have G:=v.2.1
     have d:=v.2.2.1
     have hsz:=v.2.2.2
     have g:ia < a.size:=Nat.lt_of_succ_lt G
     refine wpS_bind (aay (x:=b[ib]) (ax9 d) ?_)
     refine wpS_bind (aay (x:=a[ia]) (ax9 g) ?_)
     refine wpS_bind (C.ask _ _ (L ib d) (N ia g) _ _ (q.k.trans hk) ?_)
     dsimp only
     refine aal (fun er=>?_) (fun er=>?_)
     ·refine wpS_bind (aay (x:=b[ib]) (ax9 d) ?_)
      have F:Lo S R a b (out.push b[ib]) ia (ib+1):=l.pushB C T d fun x w=>by
       rw [abf g] at w
       have hd:Srt R (a[ia] :: a.toList.drop (ia+1)):=by rw [← abf g];exact acq T.sa
       have sx:S x:=T.ha x (az8 (i:=ia) (by rw [abf g];exact w))
       exact C.tr _ _ _ (L ib d) (N ia g) sx (C.asy _ _ (L ib d) (N ia g) er) (ad0 C hd (N ia g) x w)
      refine aal (fun D=>wpS_pure ⟨q,.inl ⟨_,rfl,F.doneA (.inl (aC8.mp D))⟩⟩) (fun D=>?_)
      have hf:ib+1 < b.size/\t+2<=(out.push b[ib]).size:=by
       have a1:ib+1 ≠ b.size:=fun q=>D (aC8.mpr q)
       rw [aE4];omega
      refine aal (fun _=>wpS_pure ⟨q,.inr ⟨rfl,F,G,hf⟩⟩) (fun _=>wpS_pure ⟨q,rfl,F,G,hf.1,aA4 (by omega) hf.2⟩)
     ·refine wpS_bind (aay (x:=a[ia]) (ax9 g) ?_)
      have F:Lo S R a b (out.push a[ia]) (ia+1) ib:=l.pushA g fun y H=>by
       rw [abf d] at H
       have hd:Srt R (b[ib] :: b.toList.drop (ib+1)):=by rw [← abf d];exact acq T.sb
       have Y:S y:=T.hb y (az8 (i:=ib) (by rw [abf d];exact H))
       exact C.tr _ _ _ (N ia g) (L ib d) Y (eq_false_of_ne_true er) (ad0 C hd (L ib d) y H)
      refine aal (fun D=>wpS_pure ⟨q,.inl ⟨_,rfl,F.lastA T (aC8.mp D)⟩⟩) (fun D=>?_)
      have hf:ia+1+1 < a.size/\ib < b.size/\t+2<=(out.push a[ia]).size:=by
       have a1:ia+1+1 ≠ a.size:=fun q=>D (aC8.mpr q)
       rw [aE4];omega
      refine aal (fun _=>wpS_pure ⟨q,.inr ⟨rfl,F,hf⟩⟩) (fun _=>wpS_pure ⟨q,rfl,F,hf.1,d,aA4 (by omega) hf.2.2⟩)
    ·exact fun z o n=>⟨n.1,.inr ⟨n.2.1,n.2.2.1,n.2.2.2.1,n.2.2.2.2.1,aA4 (by omega) n.2.2.2.2.2⟩⟩
   ·intro z o n
    have W:=n.1
    refine unR (J:=fun y:Array Keyed × Nat × Nat × Nat × Nat=>Lo S R a b y.1 y.2.1 y.2.2.1/\y.2.1+1 < a.size/\y.2.2.1 < b.size/\t+2<=y.1.size) z n.2 (fun r x Z=>wpS_pure ⟨W,r,rfl,Z⟩) fun hN=>?_
    refine un6 (J:=fun out ia ib _ _=>Lo S R a b out ia ib/\ia+1 < a.size/\ib < b.size/\t+2<=out.size) z hN fun out ia ib ac bc v=>?_
    dsimp only
    refine wpS_bind (ade ?_)
    refine wpS_bind (wpS_mono (Q:=fun (z:Option (Array Keyed) × Array Keyed × Nat × Nat × Nat × Nat × Nat) st'=>Eqv st st'/\((∃ r,z.1=some r/\Fin2 R a b r)\/(z.1=none/\Lo S R a b z.2.1 z.2.2.1 z.2.2.2.1/\z.2.2.1+1 < a.size/\z.2.2.2.1 < b.size/\t+2<=z.2.1.size))) ?_ ?_)
    ·refine wpS_forRange (fun i (z:Option (Array Keyed) × Array Keyed × Nat × Nat × Nat × Nat × Nat) st'=>Eqv st st'/\z.1=none/\Lo S R a b z.2.1 z.2.2.1 z.2.2.2.1/\z.2.2.1+1 < a.size/\z.2.2.2.1 < b.size/\t+2<=z.2.1.size) ?_ (fun z o n=>⟨n.1,.inr n.2⟩) ⟨W,rfl,v⟩
     intro i z o _ hi n
     have q:=n.1
     refine un7 (J:=fun out ia ib _ _ _=>Lo S R a b out ia ib/\ia+1 < a.size/\ib < b.size/\t+2<=out.size) z n.2 fun out ia ib mg ac bc v=>?_
     have l:=v.1
     have G:=v.2.1
     have d:=v.2.2.1
     have hsz:=v.2.2.2
     dsimp only
     refine' jpn (M:=M) (A:=A) (E:=E) (s:=s) (st:=o) (β:=Nat) (P:=fun _=>True) (prog:=?prog) (fun O=>?use) (fun a6 _=>?pf)
     case use =>
      refine aal (fun hm=>?_) (fun hm=>?_)
      ·generalize mg - 1=m
       exact O m trivial
      ·exact O mg trivial
     refine wpS_bind (wpS_mono (Q:=fun _ K=>Eqv o K) (wpS_modify ⟨rfl,rfl,rfl,rfl⟩) fun _ K I=>?_)
     replace I:=q.trans I
     refine wpS_bind (aay (x:=b[ib]) (ax9 d) ?_)
     refine wpS_bind (ae8 C (L ib d) T.ha (by omega) (by rw [aB8 (by simp)];exact acq T.sa) (by omega) (I.k.trans hk) fun k a7 h1 h2=>?_)
     rw [aB8 (by simp),List.drop_drop] at h2
     dsimp only
     refine' jpn2 (M:=M) (A:=A) (E:=E) (s:=s) (st:=K) (P:=fun j c=>Lo S R a b j c ib/\c+1 < a.size/\(∀ x∈a.toList.drop c,R x b[ib]=false)/\t+2<=j.size) (prog:=?prog2) (fun O=>?use2) (fun j c h5=>?pf2)
     case use2 =>
      have u:∀ x∈a.toList.drop (ia+k),R x b[ib]=false:=fun x w=>C.asy _ _ (L ib d) (T.ha x (az8 w)) (h2 x w)
      refine aal (fun k0=>?_) (fun k0=>?_)
      ·have F:Lo S R a b (out ++ a.extract ia (ia+k)) (ia+k) ib:=l.runA (by omega) fun x w y H=>by
        rw [abf d] at H
        have hd:Srt R (b[ib] :: b.toList.drop (ib+1)):=by rw [← abf d];exact acq T.sb
        have Y:S y:=T.hb y (az8 (i:=ib) (by rw [abf d];exact H))
        exact C.tr _ _ _ (T.ha x (az8 (az4 w))) (L ib d) Y (h1 x w) (ad0 C hd (L ib d) y H)
       refine aal (fun D=>wpS_pure ⟨I,.inl ⟨_,rfl,F.lastA T (aC8.mp D)⟩⟩) (fun D=>?_)
       refine aal (fun e4=>wpS_pure ⟨I,.inl ⟨_,rfl,F.doneA (.inr (aC8.mp e4))⟩⟩) (fun e4=>?_)
       have U:Lo S R a b (out ++ a.extract ia (ia+k)) (ia+k) ib/\ia+k+1 < a.size/\(∀ x∈a.toList.drop (ia+k),R x b[ib]=false)/\t+2<=(out ++ a.extract ia (ia+k)).size:=by
        have a1:ia+k+1 ≠ a.size:=fun q=>D (aC8.mpr q)
        have a8:ia+k ≠ a.size:=fun q=>e4 (aC8.mpr q)
        exact ⟨F,by omega,u,by rw [Array.size_append];omega⟩
       revert U
       clear D e4 F u
       generalize out ++ a.extract ia (ia+k)=j
       generalize ia+k=c
       intro U
       exact O j c U
      ·have:k=0:=by omega
       rw [this] at u
       exact O out ia ⟨l,G,u,hsz⟩
     have l3:=h5.1
     have X:=h5.2.1
     have a2:=h5.2.2.1
     have a3:=h5.2.2.2
     have f:c < a.size:=Nat.lt_of_succ_lt X
     refine wpS_bind (aay (x:=b[ib]) (ax9 d) ?_)
     have l4:=l3.pushB C T d a2
     refine aal (fun e5=>wpS_pure ⟨I,.inl ⟨_,rfl,l4.doneA (.inl (aC8.mp e5))⟩⟩) (fun e5=>?_)
     replace e5:ib+1 ≠ b.size:=fun q=>e5 (aC8.mpr q)
     refine wpS_bind (aay (x:=a[c]) (ax9 f) ?_)
     refine wpS_bind (agf C (N c f) T.hb (by omega) (by rw [aB8 (by simp)];exact acq T.sb) (by omega) (I.k.trans hk) fun k2 a4 h3 h4=>?_)
     rw [aB8 (by simp),List.drop_drop] at h4
     dsimp only
     refine' jpn2 (M:=M) (A:=A) (E:=E) (s:=s) (st:=K) (P:=fun p B=>Lo S R a b p c B/\B < b.size/\(∀ y∈b.toList.drop B,R y a[c]=false)/\t+2<=p.size) (prog:=?prog3) (fun O=>?use3) (fun p B h6=>?pf3)
     case use3 =>
      refine aal (fun k0=>?_) (fun k0=>?_)
      ·have hd:Srt R (a[c] :: a.toList.drop (c+1)):=by rw [← abf f];exact acq T.sa
       have l5:Lo S R a b (j.push b[ib] ++ b.extract (ib+1) (ib+1+k2)) c (ib+1+k2):=l4.runB (by omega) fun x w y H=>by
        rw [abf f] at H
        have Y:S y:=T.ha y (az8 (i:=c) (by rw [abf f];exact H))
        have sx:S x:=T.hb x (az8 (az4 w))
        exact C.tr _ _ _ sx (N c f) Y (C.asy _ _ sx (N c f) (h3 x w)) (ad0 C hd (N c f) y H)
       refine aal (fun e6=>wpS_pure ⟨I,.inl ⟨_,rfl,l5.doneA (.inl (aC8.mp e6))⟩⟩) (fun e6=>?_)
       have U:Lo S R a b (j.push b[ib] ++ b.extract (ib+1) (ib+1+k2)) c (ib+1+k2)/\ib+1+k2 < b.size/\(∀ y∈b.toList.drop (ib+1+k2),R y a[c]=false)/\t+2<=(j.push b[ib] ++ b.extract (ib+1) (ib+1+k2)).size:=by
        have a5:ib+1+k2 ≠ b.size:=fun q=>e6 (aC8.mpr q)
        exact ⟨l5,by omega,h4,by rw [Array.size_append,aE4];omega⟩
       revert U
       clear e6 l5 hd
       generalize j.push b[ib] ++ b.extract (ib+1) (ib+1+k2)=p
       generalize ib+1+k2=B
       intro U
       exact O p B U
      ·have:k2=0:=by omega
       rw [this] at h4
       exact O (j.push b[ib]) (ib+1) ⟨l4,by omega,h4,by rw [aE4];omega⟩
     refine wpS_bind (aay (x:=a[c]) (ax9 f) ?_)
     have l7:=h6.1.pushA f h6.2.2.1
     refine aal (fun e7=>wpS_pure ⟨I,.inl ⟨_,rfl,l7.lastA T (aC8.mp e7)⟩⟩) (fun e7=>?_)
     have hf:c+1+1 < a.size/\B < b.size/\t+2<=(p.push a[c]).size:=by
      have b1:c+1+1 ≠ a.size:=fun q=>e7 (aC8.mpr q)
      have h7:=h6.2.2.2
      exact ⟨by omega,h6.2.1,by rw [aE4];omega⟩
     exact aal (fun _=>wpS_pure ⟨I,.inr ⟨rfl,l7,hf⟩⟩) (fun _=>wpS_pure ⟨I,rfl,l7,hf⟩)
    ·intro z o n
     have W:=n.1
     refine unR (J:=fun y:Array Keyed × Nat × Nat × Nat × Nat × Nat=>Lo S R a b y.1 y.2.1 y.2.2.1/\y.2.1+1 < a.size/\y.2.2.1 < b.size/\t+2<=y.1.size) z n.2 (fun r x Z=>wpS_pure ⟨W,r,rfl,Z⟩) fun hN=>?_
     refine un7 (J:=fun out ia ib _ _ _=>Lo S R a b out ia ib/\ia+1 < a.size/\ib < b.size/\t+2<=out.size) z hN fun out ia ib mg ac bc v=>?_
     dsimp only
     refine wpS_bind (wpS_modify ?_)
     exact wpS_pure ⟨W.trans ⟨rfl,rfl,rfl,rfl⟩,rfl,v⟩
  ·intro z o n
   exfalso
   have h1:=n.2.2.1.len
   have h2:=n.2.2.2
   have:a.size+b.size<=max 0 (a.size+b.size):=by omega
   omega
 ·intro z o n
  have W:=n.1
  exact unR (J:=fun _=>False) z (.inl n.2) (fun r x Z=>wpS_pure (h r o W Z)) fun hN=>hN.2.elim
end
structure MidH (R:Keyed->Keyed->Bool) (L a b tl:List Keyed):Prop where
 perm:(a ++ b ++ tl).Perm L
 so:Srt R tl
 le:∀ x∈a ++ b,∀ y∈tl,R y x=false
 sa:Srt R a
 sb:Srt R b
section
variable {R:Keyed->Keyed->Bool} {L tl a b p:List Keyed}
theorem MidH.takeA (m:MidH R L (a ++ p) b tl) (h:∀ x∈b,∀ y∈p,R y x=false):MidH R L a b (p ++ tl):=by
 have sp:=aA3.mp m.sa
 refine ⟨List.Perm.trans ?_ m.perm,aA3.mpr ⟨sp.2.1,m.so,fun x c y d=>m.le x (aA1 _ (ay7 _ c)) y d⟩,fun x c y d=>?_,sp.1,m.sb⟩
 ·rw [← ay8,ay8 a p b,ay8 a b p]
  exact List.Perm.append_right tl (List.Perm.append_left a List.perm_append_comm)
 ·rcases ay2.mp d with d | d
  ·rcases ay2.mp c with c | c
   ·exact sp.2.2 x c y d
   ·exact h x c y d
  ·refine m.le x ?_ y d
   rcases ay2.mp c with c | c
   ·exact aA1 _ (aA1 _ c)
   ·exact ay7 _ c
theorem MidH.takeB (m:MidH R L a (b ++ p) tl) (h:∀ x∈a,∀ y∈p,R y x=false):MidH R L a b (p ++ tl):=by
 have sp:=aA3.mp m.sb
 refine ⟨by have:=m.perm;simp only [ay8] at this ⊢;exact this,aA3.mpr ⟨sp.2.1,m.so,fun x c y d=>m.le x (ay7 _ (ay7 _ c)) y d⟩,fun x c y d=>?_,m.sa,sp.1⟩
 rcases ay2.mp d with d | d
 ·rcases ay2.mp c with c | c
  ·exact h x c y d
  ·exact sp.2.2 x c y d
 ·refine m.le x ?_ y d
  rcases ay2.mp c with c | c
  ·exact aA1 _ c
  ·exact ay7 _ (aA1 _ c)
theorem MidH.done (m:MidH R L a b tl) (h:a=[]\/b=[]):(a ++ b ++ tl).Perm L/\Srt R (a ++ b ++ tl):=by
 refine ⟨m.perm,aA3.mpr ⟨?_,m.so,m.le⟩⟩
 rcases h with h | h
 ·subst h;exact m.sb
 ·subst h;rw [aB7];exact m.sa
theorem MidH.first (m:MidH R L a b tl) (h:∀ y∈b,∀ x∈a,R x y=false):(b ++ a ++ tl).Perm L/\Srt R (b ++ a ++ tl):=by
 refine ⟨List.Perm.trans (List.Perm.append_right tl List.perm_append_comm) m.perm,aA3.mpr ⟨aA3.mpr ⟨m.sb,m.sa,h⟩,m.so,fun x c y d=>m.le x ?_ y d⟩⟩
 rcases ay2.mp c with c | c
 ·exact ay7 _ c
 ·exact aA1 _ c
end
theorem ace {a:Array Keyed} {i:Nat} (c:0 < i) (h:i<=a.size):a.toList.take i=a.toList.take (i - 1) ++ [a[i - 1]'(by omega)]:=by
 obtain ⟨j,rfl⟩:∃ j,i=j+1:=⟨i - 1,by omega⟩
 rw [List.take_succ]
 have b:j < a.size:=by omega
 simp [b]
theorem aj2 (a:Array Keyed) (k:Nat):(a.extract 0 k).toList=a.toList.take k:=by
 rw [Array.toList_extract];simp [List.extract]
theorem ako (a:Array Keyed) (k n:Nat):(a.extract k n).toList=(a.toList.take n).drop k:=by
 rw [Array.toList_extract];simp [List.extract,List.drop_take]
section
variable {M:Model} {A:Around} {E:Value->Shared->Prop} {s:Shared} {κ:SortKind} {S:Keyed->Prop} {R:Keyed->Keyed->Bool}
structure Hi (S:Keyed->Prop) (R:Keyed->Keyed->Bool) (a b out:Array Keyed) (na nb:Nat):Prop where
 mid:MidH R (a.toList ++ b.toList) (a.toList.take na) (b.toList.take nb) out.toList.reverse
 na:na<=a.size
 nb:nb<=b.size
theorem Hi.len {a b out:Array Keyed} {na nb:Nat} (l:Hi S R a b out na nb):out.size+na+nb=a.size+b.size:=by
 have:=l.mid.perm.length_eq
 have d:=l.na
 have c:=l.nb
 simp at this
 omega
theorem Hi.doneA {a b out:Array Keyed} {na nb:Nat} (l:Hi S R a b out na nb) (h:na=0\/nb=0):Fin2 R a b (a.extract 0 na ++ b.extract 0 nb ++ out.reverse):=by
 have:=l.mid.done (by
  rcases h with h | h
  ·left;rw [h];simp
  ·right;rw [h];simp)
 unfold Fin2
 rw [aD1,aD1,aj2,aj2,Array.toList_reverse]
 exact this
theorem Hi.firstB {a b out:Array Keyed} {na nb:Nat} (T:Two S R a b) (l:Hi S R a b out na nb) (h:nb=1):Fin2 R a b (b.extract 0 nb ++ a.extract 0 na ++ out.reverse):=by
 subst h
 have:=l.mid.first (by
  intro y c x d
  rw [ace (by decide) l.nb] at c
  have f:y=b[0]'T.b0:=by simpa using c
  exact T.first x (az4 d) y (by rw [f];exact ax9 _))
 unfold Fin2
 rw [aD1,aD1,aj2,aj2,Array.toList_reverse]
 exact this
theorem ab9 {l:List Keyed} {i:Nat} (h:Srt R l):Srt R (l.take i):=List.Pairwise.sublist (List.take_sublist i l) h
theorem ado {x:Keyed} {l:List Keyed} (C:Cmp M A E s κ S R) (h:Srt R (l ++ [x])) (b:S x):∀ y∈l ++ [x],R x y=false:=by
 intro y a
 rcases ay2.mp a with a | a
 ·exact (aA3.mp h).2.2 y a x (by simp)
 ·have:y=x:=by simpa using a
  rw [this];exact C.irr b
theorem Hi.pushA {a b out:Array Keyed} {na nb:Nat} (l:Hi S R a b out na nb) (d:0 < na) (h:∀ x∈b.toList.take nb,R (a[na - 1]'(by have:=l.na;omega)) x=false):Hi S R a b (out.push (a[na - 1]'(by have:=l.na;omega))) (na - 1) nb:=by
 refine ⟨?_,by have:=l.na;omega,l.nb⟩
 have m:=l.mid
 rw [ace d l.na] at m
 rw [Array.toList_push,List.reverse_append]
 exact m.takeA (p:=[_]) (fun x f y c=>by
  rw [az6.mp c];exact h x f)
theorem Hi.pushB {a b out:Array Keyed} {na nb:Nat} (l:Hi S R a b out na nb) (d:0 < nb) (h:∀ x∈a.toList.take na,R (b[nb - 1]'(by have:=l.nb;omega)) x=false):Hi S R a b (out.push (b[nb - 1]'(by have:=l.nb;omega))) na (nb - 1):=by
 refine ⟨?_,l.na,by have:=l.nb;omega⟩
 have m:=l.mid
 rw [ace d l.nb] at m
 rw [Array.toList_push,List.reverse_append]
 exact m.takeB (p:=[_]) (fun x f y c=>by
  rw [az6.mp c];exact h x f)
theorem Hi.runA {a b out:Array Keyed} {na nb k:Nat} (l:Hi S R a b out na nb) (d:k<=na) (h:∀ x∈b.toList.take nb,∀ y∈(a.toList.take na).drop k,R y x=false):Hi S R a b (out ++ (a.extract k na).reverse) k nb:=by
 refine ⟨?_,by have:=l.na;omega,l.nb⟩
 have m:=l.mid
 rw [← az5 k (a.toList.take na)] at m
 rw [aD1,Array.toList_reverse,ako,List.reverse_append,List.reverse_reverse]
 have c:=m.takeA h
 rw [List.take_take,Nat.min_eq_left d] at c
 exact c
theorem Hi.runB {a b out:Array Keyed} {na nb k:Nat} (l:Hi S R a b out na nb) (d:k<=nb) (h:∀ x∈a.toList.take na,∀ y∈(b.toList.take nb).drop k,R y x=false):Hi S R a b (out ++ (b.extract k nb).reverse) na k:=by
 refine ⟨?_,l.na,by have:=l.nb;omega⟩
 have m:=l.mid
 rw [← az5 k (b.toList.take nb)] at m
 rw [aD1,Array.toList_reverse,ako,List.reverse_append,List.reverse_reverse]
 have c:=m.takeB h
 rw [List.take_take,Nat.min_eq_left d] at c
 exact c
theorem anf (C:Cmp M A E s κ S R) {a b:Array Keyed} (T:Two S R a b) {Q:Array Keyed->SortSt->Prop} {st:SortSt} (hk:kindOf st = κ)
  (h:∀ m st',Eqv st st'->Fin2 R a b m->Q m st'):wpS M A E s (aqg a b) Q st:=by
 have L:∀ i (h:i < a.size),S a[i]:=fun i h=>T.ha _ (by simp)
 have K:∀ i (h:i < b.size),S b[i]:=fun i h=>T.hb _ (by simp)
 have b0:=T.b0
 have a0:=T.a0
 have la:a.size - 1 < a.size:=by omega
 refine wpS_bind (ade ?_)
 refine wpS_bind (aay (x:=a[a.size - 1]'la) (ax9 la) ?_)
 have l1:Hi S R a b #[a[a.size - 1]'la] (a.size - 1) b.size:=by
  have l0:Hi S R a b #[] a.size b.size:=⟨⟨by simp [aB8],List.Pairwise.nil,fun x g y hy=>by simp at hy,ab9 T.sa,ab9 T.sb⟩,ay1 _,ay1 _⟩
  exact l0.pushA a0 fun x g=>T.last x (az4 g) _ (ax9 la)
 refine aal (fun e1=>wpS_pure (h _ _ (Eqv.refl _) (l1.doneA (.inl (aC8.mp e1))))) (fun e1=>?_)
 refine aal (fun e2=>wpS_pure (h _ _ (Eqv.refl _) (l1.firstB T (aC8.mp e2)))) (fun e2=>?_)
 replace e1:a.size - 1 ≠ 0:=fun q=>e1 (aC8.mpr q)
 replace e2:b.size ≠ 1:=fun q=>e2 (aC8.mpr q)
 refine wpS_bind (wpS_get ?_)
 have a8:∀ {na nb:Nat} (B:0 < na) (H:na<=a.size) (N:0 < nb) (W:nb<=b.size),R (b[nb - 1]'(by omega)) (a[na - 1]'(by omega))=true->∀ x∈b.toList.take nb,R (a[na - 1]'(by omega)) x=false:=fun {na nb} B H N W er x g=>by
  have Y:S x:=T.hb x (az4 g)
  have hs:Srt R (b.toList.take (nb - 1) ++ [b[nb - 1]'(by omega)]):=by rw [← ace N W];exact ab9 T.sb
  rw [ace N W] at g
  exact C.tr _ _ _ Y (K _ _) (L _ _) (ado C hs (K _ _) x g) (C.asy _ _ (K _ _) (L _ _) er)
 have a9:∀ {na nb:Nat} (B:0 < na) (H:na<=a.size) (N:0 < nb) (W:nb<=b.size),R (b[nb - 1]'(by omega)) (a[na - 1]'(by omega))=false->∀ x∈a.toList.take na,R (b[nb - 1]'(by omega)) x=false:=fun {na nb} B H N W er x g=>by
  have Y:S x:=T.ha x (az4 g)
  have hs:Srt R (a.toList.take (na - 1) ++ [a[na - 1]'(by omega)]):=by rw [← ace B H];exact ab9 T.sa
  rw [ace B H] at g
  exact C.tr _ _ _ Y (L _ _) (K _ _) (ado C hs (L _ _) x g) er
 refine wpS_bind (wpS_mono (Q:=fun (z:Option (Array Keyed) × Nat × Nat × Array Keyed × Nat) st'=>Eqv st st'/\∃ r,z.1=some r/\Fin2 R a b r) ?_ ?_)
 ·refine wpS_forRange (fun t (z:Option (Array Keyed) × Nat × Nat × Array Keyed × Nat) st'=>Eqv st st'/\z.1=none/\Hi S R a b z.2.2.2.1 z.2.1 z.2.2.1/\0 < z.2.1/\1 < z.2.2.1/\t+1<=z.2.2.2.1.size) ?_ ?_ ⟨Eqv.refl _,rfl,l1,by dsimp only;omega,by dsimp only;omega,by simp⟩
  ·intro t z b7 _ ht f
   have q1:=f.1
   refine un5 (J:=fun na nb out _=>Hi S R a b out na nb/\0 < na/\1 < nb/\t+1<=out.size) z f.2 fun na nb out mg o=>?_
   dsimp only
   refine wpS_bind (wpS_mono (Q:=fun (z:Option (Array Keyed) × Nat × Nat × Array Keyed × Nat × Nat) st'=>Eqv st st'/\((∃ r,z.1=some r/\Fin2 R a b r)\/(z.1=none/\Hi S R a b z.2.2.2.1 z.2.1 z.2.2.1/\0 < z.2.1/\1 < z.2.2.1/\t+2<=z.2.2.2.1.size))) ?_ ?_)
   ·refine wpS_forRange (fun i (z:Option (Array Keyed) × Nat × Nat × Array Keyed × Nat × Nat) st'=>Eqv st st'/\z.1=none/\Hi S R a b z.2.2.2.1 z.2.1 z.2.2.1/\0 < z.2.1/\1 < z.2.2.1/\t+1+min i 1<=z.2.2.2.1.size) ?_ ?_ ⟨q1,rfl,o.1,o.2.1,o.2.2.1,o.2.2.2⟩
    ·intro i z j _ hi f
     have q:=f.1
     refine un6 (J:=fun na nb out _ _=>Hi S R a b out na nb/\0 < na/\1 < nb/\t+1+min i 1<=out.size) z f.2 fun na nb out ac bc o=>?_
     have l:=o.1
     have p:=o.2.1
     have a2:=o.2.2.1
     have hsz:=o.2.2.2
     have ia:na - 1 < a.size:=by have:=l.na;omega
     have ib:nb - 1 < b.size:=by have:=l.nb;omega
     refine wpS_bind (aay (x:=b[nb - 1]) (ax9 ib) ?_)
     refine wpS_bind (aay (x:=a[na - 1]) (ax9 ia) ?_)
     refine wpS_bind (C.ask _ _ (K _ ib) (L _ ia) _ _ (q.k.trans hk) ?_)
     dsimp only
     refine aal (fun er=>?_) (fun er=>?_)
     ·refine wpS_bind (aay (x:=a[na - 1]) (ax9 ia) ?_)
      have G:=l.pushA p (a8 p l.na (by omega) l.nb er)
      refine aal (fun v=>wpS_pure ⟨q,.inl ⟨_,rfl,G.doneA (.inl (aC8.mp v))⟩⟩) (fun v=>?_)
      have hf:0 < na - 1/\1 < nb/\t+2<=(out.push a[na - 1]).size:=by
       have a3:na - 1 ≠ 0:=fun q=>v (aC8.mpr q)
       rw [aE4];omega
      exact aal (fun _=>wpS_pure ⟨q,.inr ⟨rfl,G,hf⟩⟩) (fun _=>wpS_pure ⟨q,rfl,G,hf.1,a2,aA4 (by omega) hf.2.2⟩)
     ·refine wpS_bind (aay (x:=b[nb - 1]) (ax9 ib) ?_)
      have G:=l.pushB (by omega) (a9 p l.na (by omega) l.nb (eq_false_of_ne_true er))
      refine aal (fun v=>wpS_pure ⟨q,.inl ⟨_,rfl,G.firstB T (aC8.mp v)⟩⟩) (fun v=>?_)
      have hf:1 < nb - 1/\t+2<=(out.push b[nb - 1]).size:=by
       have a3:nb - 1 ≠ 1:=fun q=>v (aC8.mpr q)
       rw [aE4];omega
      exact aal (fun _=>wpS_pure ⟨q,.inr ⟨rfl,G,p,hf⟩⟩) (fun _=>wpS_pure ⟨q,rfl,G,p,hf.1,aA4 (by omega) hf.2⟩)
    ·exact fun z j f=>⟨f.1,.inr ⟨f.2.1,f.2.2.1,f.2.2.2.1,f.2.2.2.2.1,aA4 (by omega) f.2.2.2.2.2⟩⟩
   ·intro z j f
    have q2:=f.1
    refine unR (J:=fun y:Nat × Nat × Array Keyed × Nat × Nat=>Hi S R a b y.2.2.1 y.1 y.2.1/\0 < y.1/\1 < y.2.1/\t+2<=y.2.2.1.size) z f.2 (fun r x hr=>wpS_pure ⟨q2,r,rfl,hr⟩) fun hN=>?_
    refine un6 (J:=fun na nb out _ _=>Hi S R a b out na nb/\0 < na/\1 < nb/\t+2<=out.size) z hN fun na nb out ac bc o=>?_
    dsimp only
    refine wpS_bind (ade ?_)
    refine wpS_bind (wpS_mono (Q:=fun (z:Option (Array Keyed) × Nat × Nat × Array Keyed × Nat × Nat × Nat) st'=>Eqv st st'/\((∃ r,z.1=some r/\Fin2 R a b r)\/(z.1=none/\Hi S R a b z.2.2.2.1 z.2.1 z.2.2.1/\0 < z.2.1/\1 < z.2.2.1/\t+2<=z.2.2.2.1.size))) ?_ ?_)
    ·refine wpS_forRange (fun i (z:Option (Array Keyed) × Nat × Nat × Array Keyed × Nat × Nat × Nat) st'=>Eqv st st'/\z.1=none/\Hi S R a b z.2.2.2.1 z.2.1 z.2.2.1/\0 < z.2.1/\1 < z.2.2.1/\t+2<=z.2.2.2.1.size) ?_ (fun z j f=>⟨f.1,.inr f.2⟩) ⟨q2,rfl,o⟩
     intro i z j _ hi f
     have q:=f.1
     refine un7 (J:=fun na nb out _ _ _=>Hi S R a b out na nb/\0 < na/\1 < nb/\t+2<=out.size) z f.2 fun na nb out mg ac bc o=>?_
     have l:=o.1
     have p:=o.2.1
     have a2:=o.2.2.1
     have hsz:=o.2.2.2
     have b4:=l.na
     have U:=l.nb
     have ib:nb - 1 < b.size:=by omega
     dsimp only
     refine' jpn (M:=M) (A:=A) (E:=E) (s:=s) (st:=j) (β:=Nat) (P:=fun _=>True) (prog:=?prog) (fun X=>?use) (fun b6 _=>?pf)
     case use =>
      refine aal (fun hm=>?_) (fun hm=>?_)
      ·generalize mg - 1=m
       exact X m trivial
      ·exact X mg trivial
     refine wpS_bind (wpS_mono (Q:=fun _ I=>Eqv j I) (wpS_modify ⟨rfl,rfl,rfl,rfl⟩) fun _ I F=>?_)
     replace F:=q.trans F
     refine wpS_bind (aay (x:=b[nb - 1]) (ax9 ib) ?_)
     refine wpS_bind (ae8 C (K _ ib) T.ha (by omega) (by rw [List.drop_zero];exact ab9 T.sa) (by omega) (F.k.trans hk) fun k a7 B H=>?_)
     rw [List.drop_zero] at B H
     dsimp only
     generalize hac:na - k=ac2
     refine' jpn2 (M:=M) (A:=A) (E:=E) (s:=s) (st:=I) (P:=fun d c=>Hi S R a b d c nb/\0 < c/\(∀ x∈a.toList.take c,R b[nb - 1] x=false)/\t+2<=d.size) (prog:=?prog2) (fun X=>?use2) (fun d c h5=>?pf2)
     case use2 =>
      refine aal (fun k0=>?_) (fun k0=>?_)
      ·have a6:Srt R (b.toList.take (nb - 1) ++ [b[nb - 1]]):=by rw [← ace (by omega) U];exact ab9 T.sb
       have G:Hi S R a b (out ++ (a.extract k na).reverse) k nb:=l.runA a7 fun x g y hy=>by
        have Y:S x:=T.hb x (az4 g)
        have sy:S y:=T.ha y (az4 (az8 hy))
        rw [ace (by omega) U] at g
        exact C.tr _ _ _ Y (K _ ib) sy (ado C a6 (K _ ib) x g) (C.asy _ _ (K _ ib) sy (H y hy))
       refine aal (fun v=>wpS_pure ⟨F,.inl ⟨_,rfl,G.doneA (.inl (aC8.mp v))⟩⟩) (fun v=>?_)
       have Z:Hi S R a b (out ++ (a.extract k na).reverse) k nb/\0 < k/\(∀ x∈a.toList.take k,R b[nb - 1] x=false)/\t+2<=(out ++ (a.extract k na).reverse).size:=by
        have a3:k ≠ 0:=fun q=>v (aC8.mpr q)
        exact ⟨G,by omega,B,by rw [Array.size_append];omega⟩
       revert Z
       clear v G
       generalize out ++ (a.extract k na).reverse=d
       generalize k=c
       intro Z
       exact X d c Z
      ·have:k=na:=by omega
       rw [this] at B
       exact X out na ⟨l,p,B,hsz⟩
     have l3:=h5.1
     have D:=h5.2.1
     have b1:=h5.2.2.1
     have b3:=h5.2.2.2
     have w:=l3.na
     have ia:c - 1 < a.size:=by omega
     refine wpS_bind (aay (x:=b[nb - 1]) (ax9 ib) ?_)
     have l4:=l3.pushB (by omega) b1
     refine aal (fun e5=>wpS_pure ⟨F,.inl ⟨_,rfl,l4.firstB T (aC8.mp e5)⟩⟩) (fun e5=>?_)
     replace e5:nb - 1 ≠ 1:=fun q=>e5 (aC8.mpr q)
     refine wpS_bind (aay (x:=a[c - 1]) (ax9 ia) ?_)
     refine wpS_bind (agf C (L _ ia) T.hb (by omega) (by rw [List.drop_zero];exact ab9 T.sb) (by omega) (F.k.trans hk) fun k2 a4 N W=>?_)
     rw [List.drop_zero] at N W
     dsimp only
     generalize hbc:nb - 1 - k2=bc2
     refine' jpn2 (M:=M) (A:=A) (E:=E) (s:=s) (st:=I) (P:=fun n u=>Hi S R a b n c u/\1 < u/\(∀ x∈b.toList.take u,R a[c - 1] x=false)/\t+2<=n.size) (prog:=?prog3) (fun X=>?use3) (fun n u h6=>?pf3)
     case use3 =>
      have a1:∀ x∈b.toList.take k2,R a[c - 1] x=false:=fun x g=>C.asy _ _ (T.hb x (az4 g)) (L _ ia) (N x g)
      refine aal (fun k0=>?_) (fun k0=>?_)
      ·have a5:Srt R (a.toList.take (c - 1) ++ [a[c - 1]]):=by rw [← ace D w];exact ab9 T.sa
       have l5:Hi S R a b (d.push b[nb - 1] ++ (b.extract k2 (nb - 1)).reverse) c k2:=l4.runB a4 fun x g y hy=>by
        have Y:S x:=T.ha x (az4 g)
        have sy:S y:=T.hb y (az4 (az8 hy))
        rw [ace D w] at g
        exact C.tr _ _ _ Y (L _ ia) sy (ado C a5 (L _ ia) x g) (W y hy)
       refine aal (fun e6=>wpS_pure ⟨F,.inl ⟨_,rfl,l5.firstB T (aC8.mp e6)⟩⟩) (fun e6=>?_)
       refine aal (fun O=>wpS_pure ⟨F,.inl ⟨_,rfl,l5.doneA (.inr (aC8.mp O))⟩⟩) (fun O=>?_)
       have Z:Hi S R a b (d.push b[nb - 1] ++ (b.extract k2 (nb - 1)).reverse) c k2/\1 < k2/\(∀ x∈b.toList.take k2,R a[c - 1] x=false)/\t+2<=(d.push b[nb - 1] ++ (b.extract k2 (nb - 1)).reverse).size:=by
        have b5:k2 ≠ 1:=fun q=>e6 (aC8.mpr q)
        have b2:k2 ≠ 0:=fun q=>O (aC8.mpr q)
        exact ⟨l5,by omega,a1,by rw [Array.size_append,aE4];omega⟩
       revert Z
       clear e6 O l5
       generalize d.push b[nb - 1] ++ (b.extract k2 (nb - 1)).reverse=n
       generalize k2=u
       intro Z
       exact X n u Z
      ·have:k2=nb - 1:=by omega
       rw [this] at a1
       exact X (d.push b[nb - 1]) (nb - 1) ⟨l4,by omega,a1,by rw [aE4];omega⟩
     refine wpS_bind (aay (x:=a[c - 1]) (ax9 ia) ?_)
     have l7:=h6.1.pushA D h6.2.2.1
     refine aal (fun O=>wpS_pure ⟨F,.inl ⟨_,rfl,l7.doneA (.inl (aC8.mp O))⟩⟩) (fun O=>?_)
     have hf:0 < c - 1/\1 < u/\t+2<=(n.push a[c - 1]).size:=by
      have b2:c - 1 ≠ 0:=fun q=>O (aC8.mpr q)
      have h7:=h6.2.2.2
      exact ⟨by omega,h6.2.1,by rw [aE4];omega⟩
     exact aal (fun _=>wpS_pure ⟨F,.inr ⟨rfl,l7,hf⟩⟩) (fun _=>wpS_pure ⟨F,rfl,l7,hf⟩)
    ·intro z j f
     have q2:=f.1
     refine unR (J:=fun y:Nat × Nat × Array Keyed × Nat × Nat × Nat=>Hi S R a b y.2.2.1 y.1 y.2.1/\0 < y.1/\1 < y.2.1/\t+2<=y.2.2.1.size) z f.2 (fun r x hr=>wpS_pure ⟨q2,r,rfl,hr⟩) fun hN=>?_
     refine un7 (J:=fun na nb out _ _ _=>Hi S R a b out na nb/\0 < na/\1 < nb/\t+2<=out.size) z hN fun na nb out mg ac bc o=>?_
     dsimp only
     refine wpS_bind (wpS_modify ?_)
     exact wpS_pure ⟨q2.trans ⟨rfl,rfl,rfl,rfl⟩,rfl,o⟩
  ·intro z j f
   exfalso
   have B:=f.2.2.1.len
   have H:=f.2.2.2
   have:a.size+b.size<=max 0 (a.size+b.size):=by omega
   omega
 ·intro z j f
  have q2:=f.1
  exact unR (J:=fun _=>False) z (.inl f.2) (fun r x hr=>wpS_pure (h r j q2 hr)) fun hN=>hN.2.elim
end
theorem ais (base:Nat):∀ (b v u w:List Keyed) (j:Nat) (xs:Array Keyed),xs.toList=u ++ v ++ w->v.length=b.length->u.length=base+j ->
  ((b.zipIdx j).foldl (fun a x=>match x with | (p,j)=>a.setIfInBounds (base+j) p) xs).toList=u ++ b ++ w
 | [],v,u,w,j,xs,h1,h2,h3=>by
  have:v=[]:=aD7 h2
  subst this
  exact h1
 | m :: b,v,u,w,j,xs,h1,h2,h3=>by
  cases v with
  | nil=>cases h2
  | cons y v =>
   rw [List.zipIdx_cons,List.foldl_cons]
   have c:=ais base b v (u ++ [m]) w (j+1) (xs.setIfInBounds (base+j) m) (by
    rw [Array.toList_setIfInBounds,h1,← h3]
    simp [List.set_append]) (by simpa using h2) (by simp [h3];omega)
   rw [c]
   simp
section
variable {M:Model} {A:Around} {E:Value->Shared->Prop} {s:Shared} {κ:SortKind} {S:Keyed->Prop} {R:Keyed->Keyed->Bool}
theorem ast {σ:Type} {st st' : σ} {Q:PUnit->σ->Prop} (h:Q ⟨⟩ st'):wpS M A E s (set st':StateT σ Sem PUnit) Q st:=by
 unfold wpS
 rw [StateT.run_set]
 exact aF3 ⟨rfl,h⟩
theorem ang (C:Cmp M A E s κ S R) {st:SortSt} {i pw pw2:Nat} {pre a b g:List Keyed} (G:(arrOf st).toList=pre ++ a ++ b ++ g) (hS:∀ x∈(arrOf st).toList,S x)
  (a7:(pendingOf st)[i]?=some (pre.length,a.length,pw)) (a2:(pendingOf st)[i+1]?=some (pre.length+a.length,b.length,pw2)) (na:a ≠ []) (nb:b ≠ []) (W:Srt R a) (N:Srt R b) (hk:kindOf st = κ) (hf:failedOf st=none)
  {Q:Bool->SortSt->Prop}
  (h:∀ st' m,kindOf st' = κ->failedOf st'=none->pendingOf st'=((pendingOf st).setIfInBounds i (pre.length,a.length+b.length,pw)).eraseIdxIfInBounds (i+1)->(arrOf st').toList=pre ++ m ++ g->m.Perm (a ++ b)->Srt R m->Q true st') :
  wpS M A E s (akn i) Q st:=by
 have la:0 < a.length:=aC4.mpr na
 have lb:0 < b.length:=aC4.mpr nb
 have L:∀ x∈a,S x:=fun x c=>hS x (by rw [G];simp [c])
 have U:∀ x∈b,S x:=fun x c=>hS x (by rw [G];simp [c])
 have lx:(arrOf st).size=pre.length+a.length+b.length+g.length:=by
  have:=congrArg List.length G
  simp at this
  omega
 have B:((arrOf st).toList.drop pre.length).take a.length=a:=by rw [G];simp [ay8]
 have D:((arrOf st).toList.drop (pre.length+a.length)).take b.length=b:=by
  rw [show pre.length+a.length=(pre ++ a).length by simp,G,ay8 (pre ++ a),List.drop_left,List.take_left]
 refine wpS_bind (wpS_get ?_)
 rw [a7,a2]
 refine wpS_bind (wpS_mono (Q:=fun _ o=>kindOf o = κ/\failedOf o=none/\arrOf o=arrOf st/\pendingOf o=((pendingOf st).setIfInBounds i (pre.length,a.length+b.length,pw)).eraseIdxIfInBounds (i+1)) (ast ⟨hk,hf,rfl,rfl⟩) fun _ o ⟨k1,f1,a1,p1⟩=>?_)
 obtain ⟨b0,bt,eb⟩:∃ b0 bt,b=b0 :: bt:=by cases b with | nil=>exact absurd rfl nb | cons x r=>exact ⟨x,r,rfl⟩
 have a3:(arrOf st)[pre.length+a.length]?=some b0:=by
  rw [← aA7,G,eb]
  simp [List.getElem?_append]
 have v:S b0:=U b0 (by rw [eb];simp)
 have w:∀ y∈b,R y b0=false:=fun y d=>by rw [eb] at d N;exact ad0 C N v y d
 -- nothing is laid together: the two stand in order already
 have F:(∀ x∈a,∀ y∈b,R y x=false)->∀ st',Eqv o st'->Q true st':=fun hc st' q=>by
  refine h st' (a ++ b) (q.k.trans k1) (q.f.trans f1) (q.p.trans p1) ?_ (List.Perm.refl _) (aA3.mpr ⟨W,N,hc⟩)
  rw [q.a,a1,G]
  simp [ay8]
 refine wpS_bind (aay a3 ?_)
 refine wpS_bind (ae8 C v hS (by omega) (by rw [B];exact W) la k1 fun k a4 h1 h2=>?_)
 rw [B] at h2
 have H:∀ x∈a.take k,R b0 x=false:=fun x c=>h1 x (by
  have:((arrOf st).toList.drop pre.length).take k=a.take k:=by rw [← B,List.take_take,Nat.min_eq_left a4]
  rw [this];exact c)
 dsimp only
 refine aal (fun e=>?_) (fun e=>?_)
 ·have e':a.length - k=0:=by simpa using e
  refine wpS_pure (F (fun x c y d=>?_) o (Eqv.refl _))
  have:a.take k=a:=aB8 (by omega)
  rw [this] at H
  exact C.tr x b0 y (L x c) v (U y d) (H x c) (w y d)
 ·have e':a.length - k ≠ 0:=by simpa using e
  -- the last of a
  have P:pre.length+k+(a.length - k) - 1=pre.length+(a.length - 1):=by omega
  have n:a.length - 1 < a.length:=by omega
  have a8:(arrOf st)[pre.length+k+(a.length - k) - 1]?=some (a[a.length - 1]'n):=by
   rw [← aA7,G,P]
   simp [List.getElem?_append,n,ay8]
  have Sl:S (a[a.length - 1]'n):=L _ (List.getElem_mem n)
  have u:a=a.take (a.length - 1) ++ [a[a.length - 1]'n]:=by
   have:=List.take_succ (l:=a) (i:=a.length - 1)
   rw [show a.length - 1+1=a.length by omega,aD3] at this
   simpa [n] using this
  have J:∀ x∈a,R (a[a.length - 1]'n) x=false:=fun x c=>by
   have hs:Srt R (a.take (a.length - 1) ++ [a[a.length - 1]'n]):=by rw [← u];exact W
   exact ado C hs Sl x (by rw [← u];exact c)
  refine wpS_bind (aay a8 ?_)
  refine wpS_bind (agf C Sl hS (by omega) (by rw [D];exact N) (by omega) k1 fun j a6 h3 h4=>?_)
  rw [D] at h4
  have a0:((arrOf st).toList.drop (pre.length+a.length)).take j=b.take j:=by rw [← D,List.take_take,Nat.min_eq_left a6]
  rw [a0] at h3
  dsimp only
  refine aal (fun e2=>?_) (fun e2=>?_)
  ·have Z:j=0:=by simpa using e2
   subst Z
   refine wpS_pure (F (fun x c y d=>?_) o (Eqv.refl _))
   exact C.tr x _ y (L x c) Sl (U y d) (J x c) (h4 y (by simpa using d))
  ·have Z:j ≠ 0:=by simpa using e2
   have ex:((arrOf st).extract (pre.length+k) (pre.length+a.length)).toList=a.drop k:=by
    rw [ako,G]
    simp [ay8,List.take_append,List.drop_append]
   have O:((arrOf st).extract (pre.length+a.length) (pre.length+a.length+j)).toList=b.take j:=by
    rw [ahx,a0]
   generalize hX:(arrOf st).extract (pre.length+k) (pre.length+a.length)=X at ex
   generalize hY:(arrOf st).extract (pre.length+a.length) (pre.length+a.length+j)=Y at O
   have sX:X.size=a.length - k:=by have:=congrArg List.length ex;simpa using this
   have sY:Y.size=j:=by have:=congrArg List.length O;simp at this;omega
   have T:Two S R X Y:=by
    refine ⟨fun x c=>L x (az8 (by rw [← ex];exact c)),fun x c=>U x (az4 (by rw [← O];exact c)),by rw [ex];exact acq W,by rw [O];exact ab9 N,by omega,by omega,fun x c y d=>?_,fun y d x c=>?_⟩
    ·rw [← aA7,O,eb] at d
     have:y=b0:=by
      obtain ⟨j',rfl⟩:∃ j',j=j'+1:=⟨j - 1,by omega⟩
      simpa using d.symm
     rw [this]
     rw [ex] at c
     exact C.asy _ _ v (L x (az8 c)) (h2 x c)
    ·rw [← aA7,ex,sX] at c
     rw [aE7,show k+(a.length - k - 1)=a.length - 1 by omega,ax5 n] at c
     cases c
     rw [O] at d
     exact C.asy _ _ (U y (az4 d)) Sl (h3 y d)
   have fin:∀ (m:Array Keyed) (st':SortSt),Eqv o st'->Fin2 R X Y m->wpS M A E s (do
     modify fun (z:SortSt)=>setArr z (List.foldl (fun a x=>match x with | (p,j)=>a.setIfInBounds (pre.length+k+j) p) (arrOf z) m.toList.zipIdx)
     let z ← get
     pure (failedOf z).isNone) Q st':=by
    intro m st' q ⟨I,ms⟩
    rw [ex,O] at I
    refine wpS_bind (wpS_modify ?_)
    refine wpS_bind (wpS_get ?_)
    refine wpS_pure ?_
    show Q (failedOf st').isNone _
    rw [q.f,f1]
    have lm:m.toList.length=(a.drop k).length+(b.take j).length:=by rw [I.length_eq,ay5]
    have K:∀ z∈m.toList,z∈a.drop k\/z∈b.take j:=fun z hz=>ay2.mp (I.mem_iff.mp hz)
    refine h _ (a.take k ++ m.toList ++ b.drop j) (q.k.trans k1) (q.f.trans f1) (q.p.trans p1) ?_ ?_ ?_
    ·show (List.foldl _ (arrOf st') m.toList.zipIdx).toList=_
     have base:(arrOf st').toList=(pre ++ a.take k) ++ (a.drop k ++ b.take j) ++ (b.drop j ++ g):=by
      rw [q.a,a1,G]
      have t1:=az5 k a
      have t2:=az5 j b
      calc pre ++ a ++ b ++ g=pre ++ (a.take k ++ a.drop k) ++ (b.take j ++ b.drop j) ++ g:=by rw [t1,t2]
       _=_:=by simp only [ay8]
     have:=ais (pre.length+k) m.toList (a.drop k ++ b.take j) (pre ++ a.take k) (b.drop j ++ g) 0 (arrOf st') base (by rw [ay5,lm]) (by rw [ay5,aD5];omega)
     rw [this]
     simp only [ay8]
    ·have t1:=az5 k a
     have t2:=az5 j b
     calc (a.take k ++ m.toList ++ b.drop j).Perm (a.take k ++ (a.drop k ++ b.take j) ++ b.drop j):=List.Perm.append_right _ (List.Perm.append_left _ I)
      _ = a ++ b:=by
       simp only [ay8]
       rw [t2,← ay8,t1]
    ·have a5:Srt R (a.take k ++ a.drop k):=by rw [az5];exact W
     have a9:Srt R (b.take j ++ b.drop j):=by rw [az5];exact N
     have ca:=(aA3.mp a5).2.2
     have cb:=(aA3.mp a9).2.2
     refine aA3.mpr ⟨aA3.mpr ⟨ab9 W,ms,fun x c y d=>?_⟩,acq N,fun x c y d=>?_⟩
     ·rcases K y d with d | d
      ·exact ca x c y d
      ·exact C.tr x b0 y (L x (az4 c)) v (U y (az4 d)) (H x c) (w y (az4 d))
     ·have Sy:=U y (az8 d)
      rcases ay2.mp c with c | c
      ·exact C.tr x b0 y (L x (az4 c)) v Sy (H x c) (w y (az8 d))
      ·rcases K x c with c | c
       ·exact C.tr x _ y (L x (az8 c)) Sl Sy (J x (az8 c)) (h4 y d)
       ·exact cb x c y d
   refine aal (fun e3=>?_) (fun e3=>?_)
   ·exact wpS_bind (ane C T k1 fun m st' q fm=>fin m st' q fm)
   ·exact wpS_bind (anf C T k1 fun m st' q fm=>fin m st' q fm)
end
def e (xs:Array Keyed) (k:Nat):Keyed:=(xs[k]?).getD (.none,.none)
theorem ag6 {xs:Array Keyed} {k:Nat} (h:k < xs.size):xs[k]?=some (e xs k):=by
 unfold e;rw [ax9 h];rfl
def Asc (R:Keyed->Keyed->Bool) (xs:Array Keyed) (l h:Nat):Prop:=∀ i j,l<=i->i<=j->j < h->R (e xs j) (e xs i)=false
def Des (R:Keyed->Keyed->Bool) (xs:Array Keyed) (l h:Nat):Prop:=∀ i j,l<=i->i<=j->j < h->R (e xs i) (e xs j)=false
structure Bs (κ:SortKind) (p0:Array (Nat × Nat × Nat)) (a0:Array Keyed) (lo:Nat) (st:SortSt):Prop where
 k:kindOf st = κ
 f:failedOf st=none
 p:pendingOf st=p0
 perm:(arrOf st).toList.Perm a0.toList
 pre:∀ k,k < lo->(arrOf st)[k]?=a0[k]?
theorem aqi {xs:Array Keyed} {src d:Nat} (hs:src < xs.size) (hd:d<=src) (k:Nat):e (bubble xs src d) k=if k=src - d then e xs src else if src - d < k/\k<=src then e xs (k - 1) else e xs k:=by
 unfold e
 rw [getElem?_bubble hs d hd]
 repeat' split
 all_goals rfl
theorem acx {xs:Array Keyed} {i j:Nat} (a:j<=xs.size) (k:Nat):e (mirror xs i j ((j - i) / 2)) k=if i<=k/\k < j then e xs (i+j - 1 - k) else e xs k:=by
 unfold e
 rw [getElem?_mirror_all a]
 split <;> rfl
section
variable {M:Model} {A:Around} {E:Value->Shared->Prop} {s:Shared} {κ:SortKind} {S:Keyed->Prop} {R:Keyed->Keyed->Bool} {p0:Array (Nat × Nat × Nat)} {a0:Array Keyed} {lo:Nat}
theorem Bs.size {st:SortSt} (B:Bs κ p0 a0 lo st):(arrOf st).size=a0.size:=by
 have:=B.perm.length_eq
 simpa using this
theorem Bs.sat {st:SortSt} (B:Bs κ p0 a0 lo st) (a:∀ x∈a0.toList,S x) {k:Nat} (b:k < a0.size):S (e (arrOf st) k):=by
 have h:=ag6 (xs:=arrOf st) (k:=k) (by rw [B.size];exact b)
 refine a _ (B.perm.mem_iff.mp ?_)
 rw [← aA7] at h
 exact ax7 h
theorem ae9 (C:Cmp M A E s κ S R) (a:∀ x∈a0.toList,S x) {st:SortSt} (B:Bs κ p0 a0 lo st) {i j:Nat} (hi:i < a0.size) (b:j < a0.size) {Q:Option Bool->SortSt->Prop} (h:Q (some (R (e (arrOf st) i) (e (arrOf st) j))) st) :
  wpS M A E s (ltAt' i j) Q st:=by
 rw [ltAt'_eq]
 refine wpS_bind (wpS_get ?_)
 refine wpS_bind (aay (ag6 (by rw [B.size];exact hi)) ?_)
 refine wpS_bind (aay (ag6 (by rw [B.size];exact b)) ?_)
 exact C.ask _ _ (B.sat a hi) (B.sat a b) _ _ B.k h
theorem aqj (C:Cmp M A E s κ S R) {xs:Array Keyed} {l h:Nat} (b:∀ k,k<=h->S (e xs k)) (g:l < h) (a:Asc R xs l h) (n:R (e xs h) (e xs (h - 1))=false):Asc R xs l (h+1):=by
 intro i j c d f
 by_cases hj:j=h
 ·subst hj
  by_cases hi:i=j
  ·subst hi;exact C.irr (b _ (ay1 _))
  ·exact C.tr _ (e xs (j - 1)) _ (b _ (by omega)) (b _ (by omega)) (b _ (by omega)) (a i (j - 1) c (by omega) (by omega)) n
 ·exact a i j c d (by omega)
theorem aeq (C:Cmp M A E s κ S R) {xs:Array Keyed} {l h:Nat} (b:∀ k,k<=h->S (e xs k)) (g:l < h) (a:Des R xs l h) (n:R (e xs (h - 1)) (e xs h)=false):Des R xs l (h+1):=by
 intro i j c d f
 by_cases hj:j=h
 ·subst hj
  by_cases hi:i=j
  ·subst hi;exact C.irr (b _ (ay1 _))
  ·exact C.tr _ (e xs (j - 1)) _ (b _ (by omega)) (b _ (by omega)) (b _ (by omega)) n (a i (j - 1) c (by omega) (by omega))
 ·exact a i j c d (by omega)
theorem Bs.set {st:SortSt} (B:Bs κ p0 a0 lo st) {xs:Array Keyed} (b:xs.Perm (arrOf st)) (c:∀ k,k < lo->xs[k]?=(arrOf st)[k]?):Bs κ p0 a0 lo (setArr st xs) :=
 ⟨B.k,B.f,B.p,b.toList.trans B.perm,fun k a=>(c k a).trans (B.pre k a)⟩
theorem anh (C:Cmp M A E s κ S R) (w:∀ x∈a0.toList,S x) {st:SortSt} (B:Bs κ p0 a0 lo st) {n ok:Nat} (hn:lo+n<=a0.size) (hok:ok<=n) (N:1<=n) (hs:Asc R (arrOf st) lo (lo+ok)) {Q:Bool->SortSt->Prop}
  (h:∀ st',Bs κ p0 a0 lo st'->Asc R (arrOf st') lo (lo+n)->Q true st'):wpS M A E s (aqh lo n ok) Q st:=by
 refine wpS_bind (wpS_mono (Q:=fun (z:Option Bool × Unit) st'=>z.1=none/\Bs κ p0 a0 lo st'/\Asc R (arrOf st') lo (lo+n)) ?_ ?_)
 ·refine wpS_forRange (fun k (z:Option Bool × Unit) st'=>z.1=none/\Bs κ p0 a0 lo st'/\Asc R (arrOf st') lo (lo+k)) ?_ ?_ ⟨rfl,B,fun i j g f u=>?_⟩
  ·rintro k ⟨o,_⟩ b J I ⟨rfl,q,as⟩
   have d:∀ j,j < lo+n->S (e (arrOf b) j):=fun j D=>q.sat w (by omega)
   refine wpS_bind (wpS_mono (Q:=fun (z:Option Bool × Nat × Nat) st'=>st'=b/\z.1=none/\z.2.1<=k/\(∀ i,i < z.2.1->R (e (arrOf b) (lo+k)) (e (arrOf b) (lo+i))=false)/\(∀ i,z.2.1<=i->i < k->R (e (arrOf b) (lo+k)) (e (arrOf b) (lo+i))=true)) ?_ ?_)
   ·refine wpS_forRange (fun t (z:Option Bool × Nat × Nat) st'=>st'=b/\z.1=none/\z.2.1<=z.2.2/\z.2.2<=k/\z.2.2 - z.2.1+t<=k/\(∀ i,i < z.2.1->R (e (arrOf b) (lo+k)) (e (arrOf b) (lo+i))=false)/\(∀ i,z.2.2<=i->i < k->R (e (arrOf b) (lo+k)) (e (arrOf b) (lo+i))=true)) ?_ ?_
     ⟨rfl,rfl,Nat.zero_le _,Nat.le_refl _,by dsimp only;omega,fun i hi=>absurd hi (Nat.not_lt_zero _),fun i g f=>by dsimp only at g;omega⟩
    ·rintro t ⟨o,l,r⟩ a _ O ⟨rfl,c,g,f,u,p,m⟩
     dsimp only at c g f u p m ⊢
     subst c
     refine aal (fun v=>?_) (fun v=>?_)
     ·have:l=r:=by omega
      subst this
      exact wpS_pure ⟨rfl,rfl,f,p,m⟩
     ·have hm:(l+r) / 2 < r:=by omega
      have F:l<=(l+r) / 2:=by omega
      refine wpS_bind (ae9 C w q (by omega) (by omega) ?_)
      dsimp only
      cases er:R (e (arrOf a) (lo+k)) (e (arrOf a) (lo+(l+r) / 2)) with
      | true =>
       rw [aC1 rfl]
       refine wpS_pure ⟨rfl,rfl,F,by dsimp only;omega,by dsimp only;omega,p,fun i i1 y=>?_⟩
       dsimp only at i1
       cases e2:R (e (arrOf a) (lo+k)) (e (arrOf a) (lo+i)) with
       | true=>rfl
       | false =>
        have:=C.tr _ _ _ (d _ (by omega)) (d _ (by omega)) (d _ (by omega)) (as (lo+(l+r) / 2) (lo+i) (by omega) (by omega) (by omega)) e2
        rw [this] at er;cases er
      | false =>
       rw [aC2 (by decide)]
       refine wpS_pure ⟨rfl,rfl,by dsimp only;omega,f,by dsimp only;omega,fun i i1=>?_,m⟩
       dsimp only at i1
       exact C.tr _ _ _ (d _ (by omega)) (d _ (by omega)) (d _ (by omega)) (as (lo+i) (lo+(l+r) / 2) (by omega) (by omega) (by omega)) er
    ·rintro ⟨o,l,r⟩ a ⟨rfl,c,g,f,u,p,m⟩
     dsimp only at c g f u p m ⊢
     have : l = r := by have:k ≤ max 0 k := by omega
                        omega
     subst this
     exact ⟨rfl,c,f,p,m⟩
   ·rintro ⟨o,l,r⟩ a ⟨rfl,c,g,p,m⟩
    dsimp only at c g p m ⊢
    subst c
    dsimp only
    have hsz:lo+k < (arrOf a).size:=by rw [q.size];omega
    have hd:(lo+k) - (lo+l)=k - l:=by omega
    refine wpS_bind (wpS_modify ?_)
    have H:∀ j,e (bubble (arrOf a) (lo+k) (lo+k - (lo+l))) j=if j=lo+l then e (arrOf a) (lo+k) else if lo+l < j/\j<=lo+k then e (arrOf a) (j - 1) else e (arrOf a) j:=fun j=>by
     rw [aqi hsz (by omega),show lo+k - (lo+k - (lo+l))=lo+l by omega]
    refine wpS_pure ⟨rfl,q.set (bubble_perm _ _ _) (fun j D=>?_),fun i j i1 y K=>?_⟩
    ·show (bubble (arrOf a) (lo+k) (lo+k - (lo+l)))[j]?=_
     rw [getElem?_bubble hsz _ (by omega),aC2 (by omega),aC2 (by omega)]
    ·show R (e (bubble (arrOf a) (lo+k) (lo+k - (lo+l))) j) (e (bubble (arrOf a) (lo+k) (lo+k - (lo+l))) i)=false
     rw [H,H]
     have L:∀ j,j < lo+n->S (e (arrOf a) j):=d
     by_cases j1:j=lo+l
     ·rw [aC1 j1]
      by_cases i4:i=lo+l
      ·rw [aC1 i4];exact C.irr (d _ (by omega))
      ·rw [aC2 i4,aC2 (by omega)]
       have:=p (i - lo) (by omega)
       rw [show lo+(i - lo)=i by omega] at this
       exact this
     ·rw [aC2 j1]
      by_cases j2:lo+l < j/\j<=lo+k
      ·rw [aC1 j2]
       have G:=m (j - 1 - lo) (by omega) (by omega)
       rw [show lo+(j - 1 - lo)=j - 1 by omega] at G
       by_cases i4:i=lo+l
       ·rw [aC1 i4];exact C.asy _ _ (d _ (by omega)) (d _ (by omega)) G
       ·rw [aC2 i4]
        by_cases i5:lo+l < i/\i<=lo+k
        ·rw [aC1 i5];exact as (i - 1) (j - 1) (by omega) (by omega) (by omega)
        ·rw [aC2 i5];exact as i (j - 1) (by omega) (by omega) (by omega)
      ·rw [aC2 j2,aC2 (by omega),aC2 (by omega)]
       exact as i j (by omega) (by omega) (by omega)
  ·rintro ⟨o,_⟩ b ⟨c,q,as⟩
   exact ⟨c,q,fun i j i1 y K=>as i j i1 y (by omega)⟩
  ·by_cases D:j < lo+ok
   ·exact hs i j g f D
   ·have:i=j:=by omega
    subst this
    exact C.irr (B.sat w (by omega))
 ·rintro ⟨o,_⟩ b ⟨c,q,as⟩
  dsimp only at c ⊢
  subst c
  exact wpS_pure (h b q as)
end
def Eqb (R:Keyed->Keyed->Bool) (xs:Array Keyed) (l h:Nat):Prop:=∀ i j,l<=i->i < h->l<=j->j < h->R (e xs i) (e xs j)=false
section
variable {M:Model} {A:Around} {E:Value->Shared->Prop} {s:Shared} {κ:SortKind} {S:Keyed->Prop} {R:Keyed->Keyed->Bool} {p0:Array (Nat × Nat × Nat)} {a0:Array Keyed} {lo:Nat}
theorem ami {α:Type} {prog:StateT SortSt Sem α} {P:SortSt->Prop} {Q : α->SortSt->Prop} {G:Prop} (use:(∀ st,P st->wpS M A E s prog Q st)->G) (a:∀ st,P st->wpS M A E s prog Q st):G:=use a
theorem akp (C:Cmp M A E s κ S R) (f:∀ x∈a0.toList,S x) {st:SortSt} (B:Bs κ p0 a0 lo st) {a nrem:Nat} (i:1<=a) (g:a<=nrem) (hn:lo+nrem<=a0.size) (as:Asc R (arrOf st) lo (lo+a)) {Q:Option (Option Nat) × Nat->SortSt->Prop}
  (h:∀ n,a<=n->n<=nrem->Asc R (arrOf st) lo (lo+n)->(n < nrem->R (e (arrOf st) (lo+n)) (e (arrOf st) (lo+n - 1))=true)->Q (none,n) st) :
  wpS M A E s (forIn [a:nrem] ((none,a):Option (Option Nat) × Nat) (fun (_:Nat) z=>ltAt' (lo+z.2) (lo+z.2 - 1) >>= fun x=>match x with
   | some smaller=>if smaller=true then pure (ForInStep.done (none,z.2)) else pure (ForInStep.yield (none,z.2+1))
   | _=>pure (ForInStep.done (some none,z.2)))) Q st:=by
 refine wpS_forRange (fun t (z:Option (Option Nat) × Nat) st'=>st'=st/\z=(none,t)/\Asc R (arrOf st) lo (lo+t)) ?_ ?_ ⟨rfl,rfl,as⟩
 ·rintro t ⟨o,n⟩ c t1 l ⟨rfl,d,b⟩
  cases d
  dsimp only
  refine wpS_bind (ae9 C f B (by omega) (by omega) ?_)
  dsimp only
  cases er:R (e (arrOf c) (lo+t)) (e (arrOf c) (lo+t - 1)) with
  | true =>
   rw [aC1 rfl]
   exact wpS_pure (h t t1 (by omega) b fun _=>er)
  | false =>
   rw [aC2 (by decide)]
   exact wpS_pure ⟨rfl,rfl,aqj C (h:=lo+t) (fun k j=>B.sat f (by omega)) (by omega) b er⟩
 ·rintro ⟨o,n⟩ c ⟨rfl,d,b⟩
  cases d
  rw [show max a nrem=nrem by omega] at b ⊢
  exact h nrem g (ay1 _) b fun z=>absurd z (aC9 _)
theorem aqk (C:Cmp M A E s κ S R) {st:SortSt} (B:Bs κ p0 a0 lo st) {n:Nat} (hn:lo+n<=a0.size) (b:Des R (arrOf st) lo (lo+n)) :
  Bs κ p0 a0 lo (setArr st (mirror (arrOf st) lo (lo+n) ((lo+n - lo) / 2)))/\Asc R (mirror (arrOf st) lo (lo+n) ((lo+n - lo) / 2)) lo (lo+n):=by
 have a:lo+n<=(arrOf st).size:=by rw [B.size];exact hn
 refine ⟨B.set (mirror_perm _ _ _ _) (fun k f=>by rw [getElem?_mirror_all a,aC2 (by omega)]),fun i j g c d=>?_⟩
 rw [acx a,acx a,aC1 (by omega),aC1 (by omega)]
 exact b _ _ (by omega) (by omega) (by omega)
theorem ahy (C:Cmp M A E s κ S R) (d:∀ x∈a0.toList,S x) {st:SortSt} (B:Bs κ p0 a0 lo st) {l h m:Nat} (q:lo<=l) (hh:h<=a0.size) (hm:h<=m) (f:m<=a0.size) (b:Des R (arrOf st) lo m) (eq:Eqb R (arrOf st) l h) :
  Bs κ p0 a0 lo (setArr st (mirror (arrOf st) l h ((h - l) / 2)))/\Des R (mirror (arrOf st) l h ((h - l) / 2)) lo m:=by
 have a:h<=(arrOf st).size:=by rw [B.size];exact hh
 refine ⟨B.set (mirror_perm _ _ _ _) (fun k c=>by rw [getElem?_mirror_all a,aC2 (by omega)]),fun i j n p o=>?_⟩
 rw [acx a,acx a]
 have g:∀ k,k < m->S (e (arrOf st) k):=fun k c=>B.sat d (by omega)
 by_cases c1:l<=i/\i < h
 ·rw [aC1 c1]
  by_cases c2:l<=j/\j < h
  ·rw [aC1 c2]
   exact eq _ _ (by omega) (by omega) (by omega) (by omega)
  ·rw [aC2 c2]
   exact b _ _ (by omega) (by omega) (by omega)
 ·rw [aC2 c1]
  by_cases c2:l<=j/\j < h
  ·rw [aC1 c2]
   exact b _ _ (by omega) (by omega) (by omega)
  ·rw [aC2 c2]
   exact b _ _ (by omega) (by omega) (by omega)
theorem aoy (C:Cmp M A E s κ S R) (p:∀ x∈a0.toList,S x) {st:SortSt} (B:Bs κ p0 a0 lo st) {nrem:Nat} (h1:1<=nrem) (hn:lo+nrem<=a0.size) {Q:Option Nat->SortSt->Prop}
  (h:∀ st' n,Bs κ p0 a0 lo st'->1<=n->n<=nrem->Asc R (arrOf st') lo (lo+n)->Q (some n) st'):wpS M A E s (ass lo nrem) Q st:=by
 refine wpS_bind (akp C p B (ay1 1) h1 hn (fun i j i1 r Z=>?_) fun n n1 n2 as br=>?_)
 ·have:i=j:=by omega
  subst this
  exact C.irr (B.sat p (by omega))
 dsimp only
 refine aal (fun en=>wpS_pure (h st n B n1 n2 as)) (fun en=>?_)
 have a5:n ≠ nrem:=by simpa using en
 have Y:n < nrem:=by omega
 have F:=br Y
 refine ami (M:=M) (A:=A) (E:=E) (s:=s) (α:=Option Nat) (Q:=Q) (P:=fun u=>Bs κ p0 a0 lo u/\Des R (arrOf u) lo (lo+n)/\R (e (arrOf u) (lo+n)) (e (arrOf u) (lo+n - 1))=true) (prog:=?prog) (fun K=>?use) (fun u ⟨N,W,a3⟩=>?pf)
 case use =>
  refine aal (fun g1=>?_) (fun g1=>?_)
  ·refine wpS_bind (ae9 C p B (by omega) (by omega) ?_)
   dsimp only
   cases er:R (e (arrOf st) lo) (e (arrOf st) (lo+n - 1)) with
   | true=>rw [aC1 rfl];exact wpS_pure (h st n B n1 n2 as)
   | false =>
    rw [aC2 (by decide)]
    -- all of them are equal
    have c:∀ k,k < lo+n->S (e (arrOf st) k):=fun k J=>B.sat p (by omega)
    have all:Eqb R (arrOf st) lo (lo+n):=fun i j i1 r y w=>by
     -- j<=last<=first<=i
     have a1:=as j (lo+n - 1) y (by omega) (by omega)
     have a2:=as lo i (ay1 _) i1 r
     exact C.tr _ _ _ (c j w) (c lo (by omega)) (c i r) (C.tr _ _ _ (c j w) (c (lo+n - 1) (by omega)) (c lo (by omega)) a1 er) a2
    have W:Des R (arrOf st) lo (lo+n):=fun i j i1 r Z=>all i j i1 (by omega) (by omega) Z
    have O:lo+n<=(arrOf st).size:=by rw [B.size];omega
    obtain ⟨q,a⟩:=ahy C p B (ay1 lo) (show lo+n<=a0.size by omega) (ay1 _) (by omega) W all
    refine wpS_bind (wpS_modify ?_)
    refine K _ ⟨q,a,?_⟩
    show R (e (mirror (arrOf st) lo (lo+n) ((lo+n - lo) / 2)) (lo+n)) (e (mirror (arrOf st) lo (lo+n) ((lo+n - lo) / 2)) (lo+n - 1))=true
    rw [acx O,acx O,aC2 (by omega),aC1 (by omega)]
    rw [show lo+(lo+n) - 1 - (lo+n - 1)=lo by omega]
    cases e2:R (e (arrOf st) (lo+n)) (e (arrOf st) lo) with
    | true=>rfl
    | false =>
     have:=C.tr _ _ _ (c (lo+n - 1) (by omega)) (c lo (by omega)) (B.sat p (show lo+n < a0.size by omega)) er e2
     rw [this] at F;cases F
  ·have:n=1:=by omega
   subst this
   refine K st ⟨B,fun i j i1 r Z=>?_,F⟩
   have:i=j:=by omega
   subst this
   exact C.irr (B.sat p (by omega))
 case pf =>
  -- the falling part
  refine wpS_bind (ade ?_)
  refine wpS_bind (wpS_mono (Q:=fun (z:Option (Option Nat) × Nat × Nat) st'=>z.1=none/\Bs κ p0 a0 lo st'/\z.2.1<=nrem/\z.2.2+1<=z.2.1/\Des R (arrOf st') lo (lo+z.2.1)/\Eqb R (arrOf st') (lo+z.2.1 - (z.2.2+1)) (lo+z.2.1)) ?_ ?_)
  ·refine wpS_forRange (fun t (z:Option (Option Nat) × Nat × Nat) st'=>z.1=none/\z.2.1=t/\Bs κ p0 a0 lo st'/\z.2.2+1<=z.2.1/\Des R (arrOf st') lo (lo+z.2.1)/\Eqb R (arrOf st') (lo+z.2.1 - (z.2.2+1)) (lo+z.2.1)) ?_ ?_ ⟨rfl,rfl,N,by dsimp only;omega,?_,fun i j i1 r y w=>?_⟩
   ·rintro t ⟨o,m,b⟩ d t1 t2 ⟨D,T,q,G,a,f⟩
    dsimp only at D T G a f ⊢
    subst D T
    have c:∀ k,k < a0.size->S (e (arrOf d) k):=fun k J=>q.sat p J
    refine wpS_bind (ae9 C p q (by omega) (by omega) ?_)
    dsimp only
    cases er:R (e (arrOf d) (lo+m)) (e (arrOf d) (lo+m - 1)) with
    | true =>
     rw [aC1 rfl]
     refine aal (fun g=>?_) (fun g=>?_)
     ·have O:lo+m<=(arrOf d).size:=by rw [q.size];omega
      obtain ⟨H,v⟩:=ahy C p q (l:=lo+m - (b+1)) (h:=lo+m) (by omega) (by omega) (ay1 _) (by omega) a f
      have L:∀ k,e (mirror (arrOf d) (lo+m - (b+1)) (lo+m) ((lo+m - (lo+m - (b+1))) / 2)) k=if lo+m - (b+1)<=k/\k < lo+m then e (arrOf d) (lo+m - (b+1)+(lo+m) - 1 - k) else e (arrOf d) k:=fun k=>acx O k
      refine wpS_bind (wpS_modify ?_)
      refine wpS_pure ⟨rfl,rfl,H,by dsimp only;omega,?_,fun i j i1 r y w=>?_⟩
      ·show Des R (mirror (arrOf d) (lo+m - (b+1)) (lo+m) ((lo+m - (lo+m - (b+1))) / 2)) lo (lo+(m+1))
       refine aeq C (h:=lo+m) (fun k J=>H.sat p (by omega)) (by omega) v ?_
       rw [L,L,aC1 (by omega),aC2 (by omega)]
       rw [show lo+m - (b+1)+(lo+m) - 1 - (lo+m - 1)=lo+m - (b+1) by omega]
       exact C.tr _ _ _ (c _ (by omega)) (c (lo+m - 1) (by omega)) (c _ (by omega)) (C.asy _ _ (c _ (by omega)) (c _ (by omega)) er) (a _ _ (by omega) (by omega) (by omega))
      ·dsimp only at i1 r y w
       have:i=j:=by omega
       subst this
       exact C.irr (H.sat p (by omega))
     ·have:b=0:=by omega
      subst this
      refine wpS_pure ⟨rfl,rfl,q,by dsimp only;omega,aeq C (h:=lo+m) (fun k J=>c k (by omega)) (by omega) a (C.asy _ _ (c _ (by omega)) (c _ (by omega)) er),fun i j i1 r y w=>?_⟩
      dsimp only at i1 r y w
      have:i=j:=by omega
      subst this
      exact C.irr (c _ (by omega))
    | false =>
     rw [aC2 (by decide)]
     refine wpS_bind (ae9 C p q (by omega) (by omega) ?_)
     dsimp only
     cases er2:R (e (arrOf d) (lo+m - 1)) (e (arrOf d) (lo+m)) with
     | true =>
      rw [aC1 rfl]
      exact wpS_pure ⟨rfl,q,by dsimp only;omega,G,a,f⟩
     | false =>
      rw [aC2 (by decide)]
      refine wpS_pure ⟨rfl,rfl,q,by dsimp only;omega,aeq C (h:=lo+m) (fun k J=>c k (by omega)) (by omega) a er2,fun i j i1 r y w=>?_⟩
      dsimp only at i1 r y w
      by_cases ci:i=lo+m
      ·by_cases cj:j=lo+m
       ·rw [ci,cj];exact C.irr (c _ (by omega))
       ·rw [ci]
        exact C.tr _ _ _ (c j (by omega)) (c (lo+m - 1) (by omega)) (c _ (by omega)) (f (lo+m - 1) j (by omega) (by omega) (by omega) (by omega)) er
      ·by_cases cj:j=lo+m
       ·rw [cj]
        exact C.tr _ _ _ (c _ (by omega)) (c (lo+m - 1) (by omega)) (c i (by omega)) er2 (f i (lo+m - 1) (by omega) (by omega) (by omega) (by omega))
       ·exact f i j (by omega) (by omega) (by omega) (by omega)
   ·rintro ⟨o,m,b⟩ d ⟨D,T,q,G,a,f⟩
    dsimp only at D T G a f ⊢
    exact ⟨D,q,by omega,G,a,f⟩
   ·exact aeq C (h:=lo+n) (fun k J=>N.sat p (by omega)) (by omega) W (C.asy _ _ (N.sat p (by omega)) (N.sat p (by omega)) a3)
   ·dsimp only at i1 r y w
    have:i=j:=by omega
    subst this
    exact C.irr (N.sat p (by omega))
  ·rintro ⟨o,m,b⟩ d ⟨D,q,hm,G,a,f⟩
   dsimp only at D hm G a f ⊢
   subst D
   dsimp only
   refine ami (M:=M) (A:=A) (E:=E) (s:=s) (α:=Option Nat) (Q:=Q) (P:=fun I=>Bs κ p0 a0 lo I/\Des R (arrOf I) lo (lo+m)) (prog:=?prog2) (fun K=>?use2) (fun I ⟨H,v⟩=>?pf2)
   case use2 =>
    refine aal (fun g=>?_) (fun g=>?_)
    ·obtain ⟨H,v⟩:=ahy C p q (l:=lo+m - (b+1)) (h:=lo+m) (by omega) (by omega) (ay1 _) (by omega) a f
     refine wpS_bind (wpS_modify ?_)
     exact K _ ⟨H,v⟩
    ·exact K _ ⟨q,a⟩
   case pf2 =>
    obtain ⟨B5,X⟩:=aqk C H (n:=m) (by omega) v
    refine wpS_bind (wpS_modify ?_)
    refine wpS_bind (akp C p B5 (by omega) hm hn X fun n' a6 U a4 _=>?_)
    exact wpS_pure (h _ n' B5 (by omega) U a4)
end
def flat (rs:List (List Keyed × Nat)):List Keyed:=(rs.map (·.1)).flatten
def pend:Nat->List (List Keyed × Nat)->List (Nat × Nat × Nat)
 | _,[]=>[]
 | k,(r,pw) :: t=>(k,r.length,pw) :: pend (k+r.length) t
theorem agg:flat []=[]:=rfl
theorem abt (r:List Keyed × Nat) (t:List (List Keyed × Nat)):flat (r :: t)=r.1 ++ flat t:=rfl
theorem abi (p q:List (List Keyed × Nat)):flat (p ++ q)=flat p ++ flat q:=by simp [flat]
theorem aca:∀ (k:Nat) (p q:List (List Keyed × Nat)),pend k (p ++ q)=pend k p ++ pend (k+(flat p).length) q
 | k,[],q=>by simp [pend,agg]
 | k,(r,pw) :: t,q=>by
  simp only [List.cons_append,pend,abt,ay5,List.cons.injEq,true_and]
  rw [aca (k+r.length) t q,Nat.add_assoc]
theorem adi:∀ (k:Nat) (p:List (List Keyed × Nat)),(pend k p).length=p.length
 | _,[]=>rfl
 | k,(r,pw) :: t=>by simp [pend,adi _ t]
section
variable {M:Model} {A:Around} {E:Value->Shared->Prop} {s:Shared} {κ:SortKind} {S:Keyed->Prop} {R:Keyed->Keyed->Bool} {a0:Array Keyed}
structure Rn (κ:SortKind) (R:Keyed->Keyed->Bool) (a0:Array Keyed) (rs:List (List Keyed × Nat)) (rest:List Keyed) (st:SortSt):Prop where
 k:kindOf st = κ
 f:failedOf st=none
 arr:(arrOf st).toList=flat rs ++ rest
 pn:(pendingOf st).toList=pend 0 rs
 ok:∀ r∈rs,r.1 ≠ []/\Srt R r.1
 perm:(arrOf st).toList.Perm a0.toList
theorem asu {α:Type} (a b:List α) (x c y : α):((a ++ x :: y :: b).set a.length c).eraseIdx (a.length+1)=a ++ c :: b:=by
 rw [List.set_append_right _ _ (ay1 _),aF0,List.set_cons_zero,List.eraseIdx_append_of_length_le (by omega)]
 rw [show a.length+1 - a.length=1 by omega]
 rfl
theorem ag7 (C:Cmp M A E s κ S R) (F:∀ x∈a0.toList,S x) {st:SortSt} {rs:List (List Keyed × Nat)} {rest:List Keyed} (N:Rn κ R a0 rs rest st) {i:Nat} (hi:i+1 < rs.length) {Q:Bool->SortSt->Prop}
  (h:∀ st' n,Rn κ R a0 n rest st'->n.length+1=rs.length->(flat n).length=(flat rs).length->Q true st'):wpS M A E s (akn i) Q st:=by
 obtain ⟨p,a,pw,b,pw2,q,e,y⟩:∃ p a pw b pw2 q,rs=p ++ (a,pw) :: (b,pw2) :: q/\p.length=i:=by
  have D:rs=rs.take i ++ rs.drop i:=(az5 i rs).symm
  have hd:rs.drop i=rs[i] :: rs[i+1] :: rs.drop (i+2):=by
   rw [List.drop_eq_getElem_cons (by omega),List.drop_eq_getElem_cons hi]
  exact ⟨rs.take i,rs[i].1,rs[i].2,rs[i+1].1,rs[i+1].2,rs.drop (i+2),by rw [← hd];exact D,by simp;omega⟩
 subst y
 have d:=N.ok (a,pw) (by rw [e];simp)
 have g:=N.ok (b,pw2) (by rw [e];simp)
 have l:(pendingOf st).toList=pend 0 p ++ ((flat p).length,a.length,pw) :: ((flat p).length+a.length,b.length,pw2) :: pend ((flat p).length+a.length+b.length) q:=by
  rw [N.pn,e,aca];simp [pend]
 have c:(pend 0 p).length=p.length:=adi 0 p
 have j:(arrOf st).toList=flat p ++ a ++ b ++ (flat q ++ rest):=by
  rw [N.arr,e,abi,abt,abt];simp [ay8]
 refine ang C (i:=p.length) (pw:=pw) (pw2:=pw2) j (fun x G=>F x (N.perm.mem_iff.mp G)) ?_ ?_ d.1 g.1 d.2 g.2 N.k N.f fun st' m w v B u pm H=>?_
 ·rw [← aA7,l,aA2 (by omega),c,aF0];rfl
 ·rw [← aA7,l,aA2 (by omega),c,show p.length+1 - p.length=1 by omega];rfl
 ·refine h st' (p ++ (m,pw) :: q) ⟨w,v,?_,?_,fun r o=>?_,?_⟩ (by rw [e];simp;omega) ?_
  ·rw [u,abi,abt];simp [ay8]
  ·rw [B,Array.toList_eraseIdxIfInBounds,Array.toList_setIfInBounds,l,← c,asu,aca]
   simp [pend,pm.length_eq,Nat.add_assoc]
  ·rcases ay2.mp o with o | o
   ·exact N.ok r (by rw [e];simp [o])
   ·rcases ay3.mp o with rfl | o
    ·refine ⟨?_,H⟩
     intro z
     have:=pm.length_eq
     have I:m=[]:=z
     rw [I] at this
     have:=aC4.mpr d.1
     simp at *
     omega
    ·exact N.ok r (by rw [e];simp [o])
  ·rw [u]
   refine List.Perm.trans ?_ N.perm
   rw [j]
   have:(flat p ++ a ++ b ++ (flat q ++ rest))=flat p ++ (a ++ b) ++ (flat q ++ rest):=by simp [ay8]
   rw [this]
   exact (pm.append_left (flat p)).append_right _
  ·rw [e,abi,abi,abt,abt,abt]
   simp [pm.length_eq]
   omega
theorem Rn.run {rs:List (List Keyed × Nat)} {rest:List Keyed} {st st':SortSt} {n:Nat} (N:Rn κ R a0 rs rest st) (B:Bs κ (pendingOf st) (arrOf st) (flat rs).length st') (u:1<=n) (hn:(flat rs).length+n<=(arrOf st).size) (as:Asc R (arrOf st') (flat rs).length ((flat rs).length+n)) :
  ∃ r a,r.length=n/\r ≠ []/\Srt R r/\Rn κ R a0 rs (r ++ a) st':=by
 have hsz:=B.size
 have d:(arrOf st').toList.take (flat rs).length=flat rs:=by
  have q:(arrOf st').toList.take (flat rs).length=(arrOf st).toList.take (flat rs).length:=by
   apply aC7
   intro k
   rw [List.getElem?_take,List.getElem?_take]
   split
   ·rename_i c
    have:=B.pre k c
    simpa using this
   ·rfl
  rw [q,N.arr,List.take_left]
 refine ⟨((arrOf st').toList.drop (flat rs).length).take n,((arrOf st').toList.drop (flat rs).length).drop n,?_,?_,?_,B.k,B.f,?_,?_,N.ok,B.perm.trans N.perm⟩
 ·simp;omega
 ·intro z
  have:=congrArg List.length z
  simp at this
  omega
 ·unfold Srt
  rw [aD2]
  intro i j hi h o
  have b:j < n:=by simp at h;omega
  have get:∀ k,k < n->∀ (c:k < (((arrOf st').toList.drop (flat rs).length).take n).length),(((arrOf st').toList.drop (flat rs).length).take n)[k]=e (arrOf st') ((flat rs).length+k):=by
   intro k c l
   rw [List.getElem_take,List.getElem_drop]
   have m:=ag6 (xs:=arrOf st') (k:=(flat rs).length+k) (by omega)
   have s:(flat rs).length+k < (arrOf st').toList.length:=by simp;omega
   have g:(arrOf st').toList[(flat rs).length+k]?=some (e (arrOf st') ((flat rs).length+k)):=by simpa using m
   rw [ax5 s] at g
   exact aA0 g
  rw [get i (by omega) hi,get j b h]
  exact as _ _ (by omega) (by omega) (by omega)
 ·rw [az5]
  conv=>lhs;rw [← az5 (flat rs).length (arrOf st').toList,d]
 ·rw [B.p];exact N.pn
theorem Rn.bs {rs:List (List Keyed × Nat)} {rest:List Keyed} {st:SortSt} (N:Rn κ R a0 rs rest st):Bs κ (pendingOf st) (arrOf st) (flat rs).length st:=⟨N.k,N.f,rfl,List.Perm.refl _,fun _ _=>rfl⟩
theorem Rn.size {rs:List (List Keyed × Nat)} {rest:List Keyed} {st:SortSt} (N:Rn κ R a0 rs rest st):(arrOf st).size=a0.size:=by
 have:=N.perm.length_eq;simpa using this
theorem Rn.len {rs:List (List Keyed × Nat)} {rest:List Keyed} {st:SortSt} (N:Rn κ R a0 rs rest st):(flat rs).length+rest.length=a0.size:=by
 have:=congrArg List.length N.arr
 have a:=N.size
 simp at this
 omega
theorem aql {rs:List (List Keyed × Nat)} (h:∀ r∈rs,r.1 ≠ []):rs.length<=(flat rs).length:=by
 induction rs with
 | nil=>simp [flat]
 | cons r t ih =>
  rw [abt,ay5,aB3]
  have:=ih fun q a=>h q (ay9 _ a)
  have:=aC4.mpr (h r az2)
  omega
theorem akq {α:Type} (f : α->α):∀ (l:List α) (x : α),(l ++ [x]).modify l.length f=l ++ [f x]
 | [],x=>rfl
 | y :: l,x=>by
  show (y :: (l ++ [x])).modify (l.length+1) f=_
  rw [List.modify_succ_cons,akq f l x];rfl
theorem als {α:Type} (arr:Array α) (f : α->α) {l:List α} {x : α} (h:arr.toList=l ++ [x]):(arr.modify (arr.size - 1) f).toList=l ++ [f x]:=by
 have hs:arr.size=l.length+1:=by have:=congrArg List.length h;simpa using this
 rw [Array.toList_modify,h,hs,show l.length+1 - 1=l.length by omega]
 exact akq f l x
theorem asv {α:Type} (arr:Array α) {l:List α} {x : α} (h:arr.toList=l ++ [x]):arr.back?=some x:=by
 have hs:arr.size=l.length+1:=by have:=congrArg List.length h;simpa using this
 rw [Array.back?_eq_getElem?,← aA7,h,hs]
 simp
theorem amj:∀ (rs:List (List Keyed × Nat)),rs ≠ []->∃ p x,rs=p ++ [x]
 | rs,h=>⟨rs.dropLast,rs.getLast h,(List.dropLast_concat_getLast h).symm⟩
theorem Rn.push {rs:List (List Keyed × Nat)} {r rest:List Keyed} {st st':SortSt} (N:Rn κ R a0 rs (r ++ rest) st) (c:r ≠ []) (hs:Srt R r) (k:kindOf st'=kindOf st) (f:failedOf st'=failedOf st) (a:arrOf st'=arrOf st)
  (p:pendingOf st'=(pendingOf st).push ((flat rs).length,r.length,0)):Rn κ R a0 (rs ++ [(r,0)]) rest st':=by
 refine ⟨k.trans N.k,f.trans N.f,?_,?_,fun q b=>?_,by rw [a];exact N.perm⟩
 ·rw [a,N.arr,abi];simp [flat,ay8]
 ·rw [p,Array.toList_push,N.pn,aca];simp [pend]
 ·rcases ay2.mp b with b | b
  ·exact N.ok q b
  ·have:q=(r,0):=by simpa using b
   subst this;exact ⟨c,hs⟩
theorem Rn.pow {rs:List (List Keyed × Nat)} {rest:List Keyed} {st st':SortSt} {pw:Nat} (N:Rn κ R a0 rs rest st) (i:rs ≠ []) (k:kindOf st'=kindOf st) (f:failedOf st'=failedOf st) (a:arrOf st'=arrOf st)
  (p:pendingOf st'=(pendingOf st).modify ((pendingOf st).size - 1) fun x=>(x.1,x.2.1,pw)):∃ g,Rn κ R a0 g rest st'/\(flat g).length=(flat rs).length:=by
 obtain ⟨q,⟨b,c⟩,e⟩:=amj rs i
 subst e
 have h:(pendingOf st).toList=pend 0 q ++ [((flat q).length,b.length,c)]:=by rw [N.pn,aca];simp [pend]
 refine ⟨q ++ [(b,pw)],⟨k.trans N.k,f.trans N.f,?_,?_,fun x d=>?_,by rw [a];exact N.perm⟩,by simp [abi,abt,agg]⟩
 ·rw [a,N.arr];simp [abi,abt,agg]
 ·rw [p,als _ _ h,aca];simp [pend]
 ·rcases ay2.mp d with d | d
  ·exact N.ok x (by simp [d])
  ·have:x=(b,pw):=by simpa using d
   subst this
   exact N.ok (b,c) (by simp)
theorem avk {c:Prop} [Decidable c] {x y z:Nat} (b:x+1 < z) (a:y+1 < z):(if c then x else y)+1 < z:=by
 split
 ·exact b
 ·exact a
theorem Rn.powK {rs:List (List Keyed × Nat)} {rest:List Keyed} {st st':SortSt} {pw:Nat} {G:SortSt->Prop} (N:Rn κ R a0 rs rest st) (c:rs ≠ []) (h:∀ b,Rn κ R a0 b rest st'->(flat b).length=(flat rs).length->G st') (k:kindOf st'=kindOf st) (f:failedOf st'=failedOf st) (a:arrOf st'=arrOf st)
  (p:pendingOf st'=(pendingOf st).modify ((pendingOf st).size - 1) fun x=>(x.1,x.2.1,pw)):G st':=by
 obtain ⟨b,g,d⟩:=N.pow c k f a p
 exact h b g d
theorem asw (C:Cmp M A E s κ S R) (Y:∀ x∈a0.toList,S x) {st:SortSt} (h0:arrOf st=a0) (hk:kindOf st = κ) (hf:failedOf st=none) (hp:pendingOf st = #[]) {Q:Unit->SortSt->Prop}
  (h:∀ st',failedOf st'=none->(arrOf st').toList.Perm a0.toList->Srt R (arrOf st').toList->Q () st'):wpS M A E s aw7 Q st:=by
 have o:(arrOf st).size=a0.size:=by rw [h0]
 refine wpS_bind (wpS_get ?_)
 dsimp only
 refine wpS_bind (wpS_mono (Q:=fun (c:Option Unit × Nat) u=>c.1=none/\∃ rs,Rn κ R a0 rs [] u) ?_ ?_)
 ·refine wpS_forRange (fun i (c:Option Unit × Nat) u=>c.1=none/\∃ rs rest,Rn κ R a0 rs rest u/\c.2=(flat rs).length/\i<=c.2) ?_ ?_ ⟨rfl,[],a0.toList,⟨hk,hf,by rw [h0];rfl,by rw [hp];rfl,fun r I=>(by cases I),by rw [h0]⟩,rfl,ay1 _⟩
  ·rintro i ⟨c1,lo⟩ u _ hi ⟨F,rs,rest,N,e2,D⟩
   dsimp only at F e2 D ⊢
   subst F e2
   have P:=N.len
   have b1:i < a0.size:=by rw [← o];exact hi
   refine aal (fun a4=>?_) (fun a7=>?_)
   ·have b0:a0.size<=(flat rs).length:=by rw [← o];exact a4
    refine wpS_pure ⟨rfl,rs,?_⟩
    have:rest=[]:=aD7 (by omega)
    subst this
    exact N
   ·have a8:(flat rs).length < a0.size:=by
     have:¬ (flat rs).length ≥ (arrOf st).size:=a7
     omega
    refine wpS_bind (aoy C (fun x hx=>Y x (N.perm.mem_iff.mp hx)) N.bs (nrem:=(arrOf st).size - (flat rs).length) (by omega) (by rw [N.size];omega) fun b3 n B2 n1 n2 O=>?_)
    dsimp only
    have w:=N.size
    refine aal (fun m=>?g1) (fun m=>?g2)
    case' g1 =>
     refine wpS_bind (ade ?_)
     generalize hmr:min (_:Nat) _=nn
     refine wpS_bind (anh C (fun x hx=>Y x (N.perm.mem_iff.mp hx)) B2 (n:=nn) (ok:=n) ?_ ?_ ?_ O fun b4 B3 a1=>?_)
     ·have:nn<=(arrOf st).size - (flat rs).length:=by rw [← hmr];exact Nat.min_le_left _ _
      rw [w];omega
     ·rw [← hmr];exact Nat.le_min.mpr ⟨n2,aD0 m⟩
     ·have:n<=nn:=by rw [← hmr];exact Nat.le_min.mpr ⟨n2,aD0 m⟩
      omega
     rw [aC2 (by decide)]
     have U:1<=nn:=by
      have:n<=nn:=by rw [← hmr];exact Nat.le_min.mpr ⟨n2,aD0 m⟩
      omega
     have a9:nn<=(arrOf st).size - (flat rs).length:=by rw [← hmr];exact Nat.min_le_left _ _
     obtain ⟨r,g,I,y,J,L⟩:=N.run B3 U (by rw [w];omega) a1
     clear hmr
     subst I
    case' g2 =>
     obtain ⟨r,g,I,y,J,L⟩:=N.run B2 n1 (by rw [w];omega) O
     clear m
     subst I
    all_goals
     refine wpS_bind (wpS_get ?_)
     rcases Classical.em (rs=[]) with hz | hz
     ·have B:=L.pn
      rw [hz] at B
      have hb:=Array.back?_eq_none_iff.mpr (Array.toList_eq_nil_iff.mp B)
      rw [hb]
      dsimp only
      refine wpS_bind (wpS_modify (wpS_pure ⟨rfl,rs ++ [(r,0)],g,L.push y J rfl rfl rfl rfl,?_,?_⟩))
      ·rw [abi,ay5];simp [flat]
      ·have:=aC4.mpr y
       show i+1<=(flat rs).length+r.length
       omega
     ·obtain ⟨q,⟨b,T⟩,eq⟩:=amj rs hz
      have B:=L.pn
      rw [eq,aca,show pend (0+(flat q).length) [(b,T)]=[((flat q).length,b.length,T)] by simp [pend]] at B
      have hb:=asv _ B
      rw [hb]
      dsimp only
      refine wpS_bind (wpS_mono (Q:=fun (c:Option Unit × Unit) d=>c.1=none/\∃ a,Rn κ R a0 a (r ++ g) d/\a ≠ []/\(flat a).length=(flat rs).length) ?_ ?_)
      ·refine wpS_forRange (fun _ (c:Option Unit × Unit) d=>c.1=none/\∃ a,Rn κ R a0 a (r ++ g) d/\a ≠ []/\(flat a).length=(flat rs).length) ?_ (fun c d h4=>h4) ⟨rfl,rs,L,hz,rfl⟩
       rintro i4 ⟨c4,X⟩ d _ _ ⟨v,a,l,Z,p⟩
       dsimp only at v
       subst v
       refine wpS_bind (wpS_get ?_)
       have W:(pendingOf d).size=a.length:=by
        have:=congrArg List.length l.pn
        rw [adi] at this
        simpa using this
       by_cases K:(pendingOf d).size > 1
       ·rw [aC1 K]
        obtain ⟨x4,a3⟩:∃ x4,(pendingOf d)[(pendingOf d).size - 2]?=some x4:=⟨_,ax9 (by omega)⟩
        obtain ⟨y1,y2,y3⟩:=x4
        rw [a3]
        dsimp only
        refine aal (fun _=>wpS_pure ⟨rfl,a,l,Z,p⟩) (fun _=>?_)
        rw [W]
        refine wpS_bind (ag7 C Y l (i:=a.length - 2) (by omega) fun a5 H N5 l5 f5=>?_)
        rw [aC2 (by decide)]
        refine wpS_pure ⟨rfl,H,N5,?_,by omega⟩
        rintro rfl
        simp at l5
        omega
       ·rw [aC2 K]
        exact wpS_pure ⟨rfl,a,l,Z,p⟩
      ·rintro ⟨c4,X⟩ d ⟨v,a,l,Z,p⟩
       dsimp only at v ⊢
       subst v
       dsimp only
       refine wpS_bind (wpS_modify ?_)
       refine l.powK (G:=fun z=>wpS M A E s _ _ z) Z (fun a2 N6 l6=>?_) rfl rfl rfl rfl
       refine wpS_bind (wpS_modify (wpS_pure ⟨rfl,a2 ++ [(r,0)],g,N6.push y J rfl rfl rfl ?_,?_,?_⟩))
       ·rw [l6,p]
       ·rw [abi,ay5,l6,p];simp [flat]
       ·have:=aC4.mpr y
        show i+1<=(flat rs).length+r.length
        omega
  ·rintro ⟨c1,lo⟩ u ⟨F,rs,rest,N,e2,D⟩
   dsimp only at F e2 D ⊢
   refine ⟨F,rs,?_⟩
   have P:=N.len
   have a6:(arrOf st).size<=lo:=aA4 (Nat.le_max_right 0 _) D
   have:rest=[]:=aD7 (by rw [o] at a6;omega)
   subst this
   exact N
 ·rintro ⟨c1,lo⟩ u ⟨F,rs,N⟩
  dsimp only at F ⊢
  subst F
  dsimp only
  refine wpS_bind (wpS_mono (Q:=fun (c:Option Unit × Unit) d=>c.1=none/\∃ a,Rn κ R a0 a [] d/\a.length<=1) ?_ ?_)
  ·refine wpS_forRange (fun j (c:Option Unit × Unit) d=>c.1=none/\∃ a,Rn κ R a0 a [] d/\(a.length<=1\/a.length+j<=a0.size)) ?_ ?_ ⟨rfl,rs,N,.inr ?_⟩
   ·rintro j ⟨c4,X⟩ d _ _ ⟨v,a,l,p⟩
    dsimp only at v
    subst v
    refine wpS_bind (wpS_get ?_)
    have W:(pendingOf d).size=a.length:=by
     have:=congrArg List.length l.pn
     rw [adi] at this
     simpa using this
    refine aal (fun K=>wpS_pure ⟨rfl,a,l,?_⟩) (fun K=>?_)
    ·have:(pendingOf d).size<=1:=K
     omega
    ·have b2:¬ (pendingOf d).size<=1:=K
     refine wpS_bind (ag7 C Y l (i:=_) ?_ fun a5 H N5 l5 f5=>?_)
     ·refine avk ?_ ?_
      ·show (pendingOf d).size - 2 - 1+1 < a.length
       omega
      ·show (pendingOf d).size - 2+1 < a.length
       omega
     rw [aC2 (by decide)]
     exact wpS_pure ⟨rfl,H,N5,by omega⟩
   ·rintro ⟨c4,X⟩ d ⟨v,a,l,p⟩
    refine ⟨v,a,l,?_⟩
    rcases p with p | p
    ·exact p
    ·have:(arrOf st).size<=max 0 (arrOf st).size:=Nat.le_max_right _ _
     have h3:a.length+max 0 (arrOf st).size<=a0.size:=p
     omega
   ·have:=aql fun r I=>(N.ok r I).1
    have:=N.len
    omega
  ·rintro ⟨c4,X⟩ d ⟨v,a,l,p⟩
   dsimp only at v ⊢
   subst v
   dsimp only
   refine wpS_pure (h d l.f l.perm ?_)
   rw [l.arr]
   match a,p with
   | [],_=>exact List.Pairwise.nil
   | [x],_=>simpa [flat] using (l.ok x (by simp)).2
end
end TS
namespace L2
open PySem PySem.Spec PyProof.Rows
mutual
inductive Rep (H:Hp):V->PyData->Prop
 | non:Rep H .non .none
 | bl (b:Bool):Rep H (.bl b) (.bool b)
 | int (i:Int):Rep H (.int i) (.int i)
 | str (x:Str):Rep H (.str x) (.str x)
 | lst {a:Addr} {xs:List V} {ds:List PyData}:H a=some (.lst xs)->Reps H xs ds->Rep H (.ref a) (.list ds)
 | tup {a:Addr} {xs:List V} {ds:List PyData}:H a=some (.tup xs)->Reps H xs ds->Rep H (.ref a) (.tuple ds)
inductive Reps (H:Hp):List V->List PyData->Prop
 | nil:Reps H [] []
 | cons {v:V} {vs:List V} {d:PyData} {ds:List PyData}:Rep H v d->Reps H vs ds->Reps H (v :: vs) (d :: ds)
end
mutual
theorem Rep.same {H H':Hp} (s:Same H H'):∀ {v:V} {d:PyData},Rep H v d->Rep H' v d
 | _,_,.non => .non
 | _,_,.bl b => .bl b
 | _,_,.int i => .int i
 | _,_,.str x => .str x
 | _,_,.lst h r => .lst (s _ _ h) (Reps.same s r)
 | _,_,.tup h r => .tup (s _ _ h) (Reps.same s r)
theorem Reps.same {H H':Hp} (s:Same H H'):∀ {vs:List V} {ds:List PyData},Reps H vs ds->Reps H' vs ds
 | _,_,.nil => .nil
 | _,_,.cons r t => .cons (Rep.same s r) (Reps.same s t)
end
theorem Reps.length {H:Hp}:∀ {vs:List V} {ds:List PyData},Reps H vs ds->vs.length=ds.length
 | _,_,.nil=>rfl
 | _,_,.cons _ t=>by simp [Reps.length t]
theorem Reps.get {H:Hp}:∀ {vs:List V} {ds:List PyData} {i:Nat} {d:PyData},Reps H vs ds->ds[i]?=some d->∃ v,vs[i]?=some v/\Rep H v d
 | _,_,_,_,.nil,e=>by simp at e
 | _,_,0,_,.cons r _,e=>by simp at e;subst e;exact ⟨_,rfl,r⟩
 | _,_,i+1,d,.cons _ t,e=>by
  obtain ⟨u,b,a⟩:=Reps.get (i:=i) (d:=d) t (by simpa using e)
  exact ⟨u,by simpa using b,a⟩
theorem Reps.append {H:Hp}:∀ {vs a:List V} {ds es:List PyData},Reps H vs ds->Reps H a es->Reps H (vs ++ a) (ds ++ es)
 | _,_,_,_,.nil,s=>s
 | _,_,_,_,.cons r t,s => .cons r (Reps.append t s)
section
variable {X:Cx} {pins:List (Addr × Obj)} {σ:St} {H:Hp} {s:Shared}
mutual
theorem Rep.reads (I:Inv X pins σ H s):∀ {v:V} {d:PyData} {u:Value},Rep H v d->RelV v u->∃ as,Reads s.heap u d as
 | _,_,_,.non,r=>by cases r;exact ⟨_,.none⟩
 | _,_,_,.bl b,r=>by cases r;exact ⟨_,.bool b⟩
 | _,_,_,.int i,r=>by obtain ⟨t,rfl⟩:=r;exact ⟨_,.int i t⟩
 | _,_,_,.str x,r=>by obtain ⟨t,rfl⟩:=r;exact ⟨_,.str x t⟩
 | _,_,_,.lst (a:=a) (xs:=xs) h q,r=>by
  cases r
  obtain ⟨_,its,n,g,e⟩:=(show ObjOk X.prog X.w H s.heap a (.lst xs) from I.hok a _ h)
  obtain ⟨as,f⟩:=Reps.reads I q g
  exact ⟨_,.list e rfl rfl (by simpa using f)⟩
 | _,_,_,.tup (a:=a) (xs:=xs) h q,r=>by
  cases r
  obtain ⟨_,its,g,o,e,c,n,dd⟩:=(show ObjOk X.prog X.w H s.heap a (.tup xs) from I.hok a _ h)
  obtain ⟨as,f⟩:=Reps.reads I q g
  exact ⟨_,.tuple e c dd (by simpa using f)⟩
theorem Reps.reads (I:Inv X pins σ H s):∀ {vs:List V} {ds:List PyData} {us:List Value},Reps H vs ds->Vals vs us->∃ as,ReadsAll s.heap us ds as
 | _,_,_,.nil,.nil=>⟨_,.nil⟩
 | _,_,_,.cons r t,.cons q qs=>by
  obtain ⟨as,a⟩:=Rep.reads I r q
  obtain ⟨bs,rb⟩:=Reps.reads I t qs
  exact ⟨_,.cons a rb⟩
end
end
mutual
def aas:PyData->Bool
 | .none | .int _=>true
 | .list xs | .tuple xs=>plainDs xs
 | _=>false
def plainDs:List PyData->Bool
 | []=>true
 | x :: xs=>aas x && plainDs xs
end
mutual
theorem adp:∀ (d:PyData),aas d=true->d.canLay0=true
 | .none,_=>by simp [PyData.canLay0]
 | .int _,_=>by simp [PyData.canLay0]
 | .list xs,h=>by simp only [PyData.canLay0];exact plain_lays xs (by simpa [aas] using h)
 | .tuple xs,h=>by simp only [PyData.canLay0];exact plain_lays xs (by simpa [aas] using h)
 | .bool _,h=>by simp [aas] at h
 | .str _,h=>by simp [aas] at h
 | .dict _,h=>by simp [aas] at h
theorem plain_lays:∀ (ds:List PyData),plainDs ds=true->PyData.canLayAll0 ds=true
 | [],_=>by simp [PyData.canLayAll0]
 | x :: xs,h=>by
  have h':aas x=true/\plainDs xs=true:=by simpa [plainDs] using h
  simp only [PyData.canLayAll0,adp x h'.1,plain_lays xs h'.2,Bool.and_self]
end
mutual
theorem ait:∀ (d e:PyData),aas d=true->aas e=true->(PyData.eqv d e=true ↔ d=e)
 | .none,e,_,h=>by cases e <;> simp_all [aas,PyData.eqv]
 | .int i,e,_,h=>by cases e <;> simp_all [aas,PyData.eqv]
 | .list xs,e,g,h=>by
  cases e with
  | list ys=>simp only [PyData.eqv,PyData.list.injEq];exact eqvAll_plain xs ys (by simpa [aas] using g) (by simpa [aas] using h)
  | _=>simp_all [aas,PyData.eqv]
 | .tuple xs,e,g,h=>by
  cases e with
  | tuple ys=>simp only [PyData.eqv,PyData.tuple.injEq];exact eqvAll_plain xs ys (by simpa [aas] using g) (by simpa [aas] using h)
  | _=>simp_all [aas,PyData.eqv]
 | .bool _,_,h,_=>by simp [aas] at h
 | .str _,_,h,_=>by simp [aas] at h
 | .dict _,_,h,_=>by simp [aas] at h
theorem eqvAll_plain:∀ (ds es:List PyData),plainDs ds=true->plainDs es=true->(PyData.eqvAll ds es=true ↔ ds=es)
 | [],[],_,_=>by simp [PyData.eqvAll]
 | [],_ :: _,_,_=>by simp [PyData.eqvAll]
 | _ :: _,[],_,_=>by simp [PyData.eqvAll]
 | x :: xs,y :: ys,g,h=>by
  have g':aas x=true/\plainDs xs=true:=by simpa [plainDs] using g
  have h':aas y=true/\plainDs ys=true:=by simpa [plainDs] using h
  simp only [PyData.eqvAll,aD6,List.cons.injEq,ait x y g'.1 h'.1,eqvAll_plain xs ys g'.2 h'.2]
end
theorem aed (ds:List PyData):plainDs ds=true ↔ ∀ d∈ds,aas d=true:=by
 induction ds with
 | nil=>simp [plainDs]
 | cons d ds ih=>simp [plainDs,ih]
def rEqD:R2:=fun x y H Q=>∃ d e,Rep H x d/\Rep H y e/\aas d=true/\aas e=true/\d.depth<=60/\Q (.bl (PyData.eqv d e)) H
section
variable {X:Cx}
theorem avl (j:X.A.units+64 < cLine):OpR X (compareOp .Eq) rEqD:=by
 intro pins s σ H x y v u Q I b f h
 obtain ⟨d,e,g,re,hd,c,i,q⟩:=h
 obtain ⟨as,a⟩:=g.reads I b
 obtain ⟨bs,rb⟩:=re.reads I f
 refine SeqAt.compareEq_reads a rb (adp _ hd) (adp _ c) ?_ ⟨.bl _,H,I,rfl,q⟩
 have:=Nat.min_le_left d.depth e.depth
 omega
def rInD (neg:Bool):R2:=fun x y H Q=>∃ d es,Rep H x d/\(Rep H y (.list es)\/Rep H y (.tuple es))/\aas d=true/\plainDs es=true/\d.depth<=60/\Q (.bl (if neg then !es.any (fun z=>PyData.eqv z d) else es.any (fun z=>PyData.eqv z d))) H
theorem aoz (j:X.A.units+64 < cLine):OpR X (compareOp .NotIn) (rInD true):=by
 intro pins s σ H x y v u Q I f c h
 obtain ⟨d,es,g,re,hd,b,i,q⟩:=h
 obtain ⟨as,a⟩:=g.reads I f
 have hm:=Nat.min_le_right (PyData.depthAll es) d.depth
 rcases re with re | re
 ·obtain ⟨bs,rb⟩:=re.reads I c
  exact SeqAt.notIn_list_reads rb a (plain_lays _ b) (adp _ hd) (by omega) ⟨.bl _,H,I,rfl,q⟩
 ·obtain ⟨bs,rb⟩:=re.reads I c
  exact SeqAt.notIn_tuple_reads rb a (plain_lays _ b) (adp _ hd) (by omega) ⟨.bl _,H,I,rfl,q⟩
def rIsi (K:Frag):List V->Hp->VK->Prop:=fun xs H Q=>∃ (x:V) (T:String) (t:Value) (b:Bool),xs=[x,.ty T]/\TyOf K H x t/\kitOne K t (.type T)=some b/\Q (.bl b) H
theorem aer:abh X (.builtin "isinstance") (rIsi X.K):=by
 intro pins s σ H xs us Q I r h
 obtain ⟨x,T,t,b,rfl,ty,e,q⟩:=h
 obtain ⟨u,c,rfl,a,d⟩:=ajx r
 cases d
 exact aoh I a ty e fun f=>⟨.bl b,H,I.tok _,rfl,q⟩
end
end L2
namespace HT
open PySem PyProof.Rows
section
open PySem.SeqAt
open PySem.AutoSeq1 (wpAny_loadPart')
open PySem.MeetsSeq PySem.MeetsSeq2 PySem.MeetsSeq3
end
section
variable {prog:Program} {w:World} {A:Around} {E:Value->Shared->Prop} {s:Shared}
theorem aiu {it t:Addr} {a:Array Value} (g:t ≠ it):∀ (n i:Nat) (s:Shared) (Q:List Value->Shared->Prop),s.heap.IsListIter it t i->s.heap.IsList t a->i+n<=a.size ->
  (∀ h',h'.IsListIter it t (i+n)->Heap.SameBut it s.heap h'->Q ((a.toList.drop i).take n) { s with heap:=h' })->wpAny (model prog w) A (draw (.ref it) n) Q E s
 | 0,i,s,Q,hit,_,_,hQ=>by
  show wpAny _ _ (pure []) Q E s
  exact aF3 (by simpa using hQ s.heap hit (Heap.SameBut.refl ..))
 | n+1,i,s,Q,hit,ht,hle,hQ=>by
  have j:i < a.size:=by omega
  show wpAny _ _ (pyNext (.ref it) >>= _) Q E s
  refine aF2 (wpAny_pyNext_list_item hit ht (x:=a[i]) (by simp [j]) fun l d b=>?_)
  refine aF2 (aF8 (aiu g n (i+1) _ _ d (ht.extBut b.extBut g) (by omega) fun h c f=>aF3 ?_))
  have hd:a.toList.drop i=a[i] :: a.toList.drop (i+1):=by simp [List.drop_eq_getElem_cons,j]
  have:=hQ h (by rw [show i+(n+1)=i+1+n by omega];exact c) (b.trans f)
  rw [hd,List.take_succ_cons] at this
  exact this
theorem agh {t:Addr} {a:Array Value} {Q:List Value->Shared->Prop} (hh:A.handled=none) (m:s.heap.IsList t a)
  (p:∀ h',Heap.ExtBut s.heap.objs.size s.heap h'->Q a.toList { s with heap:=h' }):wpAny (model prog w) A (unpackItems (.ref t) a.size none) Q E s:=by
 have i:t ≠ s.heap.objs.size:=by obtain ⟨o,n,_⟩:=m;exact az0 (aF5 n)
 unfold unpackItems
 refine aF2 ?_
 ·unfold notIterableAtAll
  refine aF2 (wpAny_specialOf m.typeIs slot_list_iter.lookup ?_)
  refine aF3 ?_
  simp only [Bool.false_eq_true,if_false]
  refine aF2 (aF8 (wpAny_pyIter_list m ?_))
  refine aF2 (aF8 (aiu i a.size 0 _ _ ⟨_,aF6 _ rfl,rfl,rfl⟩ (m.push _) (by omega) fun h d c=>?_))
  have l:List.take a.size (List.drop 0 a.toList)=a.toList:=by
   rw [List.drop_zero];exact aB8 (by simp)
  rw [l]
  rw [aC2 (by simp)]
  have g:h.IsList t a:=(m.push _).extBut c.extBut i
  refine aF2 (aF8 (wpAny_pyNext_list_end hh d g (by simp) fun j f=>?_))
  simp only [Option.isSome_none,Bool.false_eq_true,if_false]
  refine aF3 (p j fun b o hb e=>f b o hb (c.extBut b o hb (aF4 _ e)))
theorem assign_Tuple_list {env:Env} {b:List Expr} {x1} {pos:Pos} {t:Addr} {a:Array Value} {Q:Unit->Shared->Prop} (hh:A.handled=none) (d:s.heap.IsList t a)
  (hn:(assignEach b env).length=a.size) (c:(assignEach b env).findIdx? (·.1)=none)
  (h:∀ h',Heap.ExtBut s.heap.objs.size s.heap h'->wpAny (model prog w) A (assignInOrder ((assignEach b env).map (·.2)) a.toList) Q E { s with heap:=h' }) :
  wpAny (model prog w) A (assign (.Tuple b x1 pos) env (.ref t)) Q E s:=by
 rw [assign_Tuple]
 refine aF2 (wpAny_standAt ?_)
 unfold unpack
 rw [hn,c]
 exact aF2 (aF8 (agh hh d h))
end
end HT
namespace L2
open PySem PySem.Spec PyProof.Rows
section
variable {X:Cx}
def gLst (K:Frag) (n:Nat) (t:TGs):TG:=fun v σ H Q=>∃ a xs,v=.ref a/\SqL K H a xs/\xs.length=n/\t xs σ H Q
theorem ao0 {es:List Expr} {k:Nat} {t:TGs} {n:Nat} {pos:Pos} (i:X.calm=true) (h:PGs X es t)
  (hn:(assignEach es X.env).length=n:=by rfl) (d:(assignEach es X.env).findIdx? (·.1)=none:=by rfl):PG X (.Tuple es k pos) (gLst X.K n t):=by
 intro pins s σ H v u Q I r c
 obtain ⟨a,xs,l,p,j,c⟩:=c
 subst l
 cases r
 obtain ⟨its,f,q,w⟩:=I.list p
 refine HT.assign_Tuple_list (I.ok.hd i) q.isList (by simp [hn,← j,f.length]) d fun h' m=>?_
 have g:Inv X pins σ H { s with heap:=h' }:=I.kept (t':=s.toks) fun b o e=>m b o (az0 (aF5 e)) e
 exact h pins _ σ H xs _ Q g (by simpa using f) c
def afa (K:Frag):List V->Hp->VK->Prop:=fun xs H Q=>∃ (a:Addr) (ns:List Int),xs=[.ref a]/\SqL K H a (ns.map V.int)/\ns.length < 64/\∀ (ns':List Int) (p:Addr),ns'.Perm ns->ns'.Pairwise (·<=·)->H p=none->Q (.ref p) (upd H p (.lst (ns'.map V.int)))
theorem ag8:abh X (.builtin "sorted") (afa X.K):=by
 intro pins s σ H xs us Q I r h
 obtain ⟨a,ns,rfl,ha,f,q⟩:=h
 obtain ⟨u,rfl,j⟩:=adh r
 cases j
 obtain ⟨its,v,m,w⟩:=I.list ha
 have i1:IntsAre its.toArray.toList ns:=agz v
 have i:IntsAre its ns:=by simpa using i1
 refine sorted_ints (vs:=its) m.isList i (by rw [i.length];exact f) fun out d l g n=>?_
 obtain ⟨e,p⟩:=sortedAll_at s.heap its out
 have c:H (s.heap.objs.size+1)=none:=I.hok.fresh (Nat.le_succ _)
 refine ⟨.ref (s.heap.objs.size+1),_,I.laid (t':=s.toks) (o:=.lst (d.map V.int)) (fun b x q=>sortedAll_old q) (Nat.le_succ _) ?_,rfl,q d _ g n c⟩
 refine ⟨?_,out.toList,e,ae5 l,by rw [p]⟩
 rw [ax8,g.length_eq]
 exact aD0 (ad5 (by omega))
end
end L2
namespace HT
open PySem PyProof.Rows
def val (ns:List Int) (i:Nat):Int:=(ns[i]?).getD 0
section
variable {prog:Program} {w:World} {A:Around} {E:Value->Shared->Prop} {s:Shared}
end
end HT
namespace L2
open PySem PySem.Spec PyProof.Rows
section
variable {X:Cx}
end
def tTru (K:Frag) (ta:TE):TT:=fun σ H Q=>ta σ H fun x H'=>∃ k,TruV K x H' k/\Q k H'
def rIsN:R2:=fun x y H Q=>y=.non/\Q (.bl (decide (x=.non))) H
section
variable {X:Cx} {a:Expr} {ta:TE}
theorem ao1 (ha:PE X a ta) (b:∀ whole,isTrue a X.env whole=(do let v ← whole;standAt a.pos;holding [v] (truthy v)):=by intro _;rfl):PT X a (tTru X.K ta):=ap4 ha b
def ab7 (K:Frag):R2:=fun x y H Q=>rIxL K x y H Q\/rIxT K x y H Q
theorem aap:IxR X (ab7 X.K):=ix_list.or ava
theorem amk {i j n:Int} {b d:Nat} {a p2 pos:Pos} (h:i ^ j.toNat=n) (c:CPow i j):PE X (.BinOp (.Constant (.int i) b a) .Pow (.Constant (.int j) d p2) pos) (tC (.int n)):=by
 intro pins s σ H Q I q
 subst h
 exact aad au7 aab aab pins s σ H Q I ⟨i,j,rfl,rfl,c,q⟩
theorem aml:OpR X (compareOp .Is) rIsN:=au8
end
section
variable {σ:St} {H:Hp} {D:Ends} {K:Frag}
theorem aes {a:Addr} {xs:List V} {i:Int} {v:V} {Q:VK} (ha:H a=some (.lst xs)) (b:atI xs i=some v) (h:Q v H):ab7 K (.ref a) (.int i) H Q:=.inl (avh ha b h)
theorem aqm {a:Addr} {xs:List V} {i:Int} {v:V} {Q:VK} (ha:H a=some (.tup xs)) (b:atI xs i=some v) (h:Q v H):ab7 K (.ref a) (.int i) H Q:=.inr (avi ha b h)
theorem adq {A B:Prop} (h:A):if true=true then A else B:=by rw [aC1 rfl];exact h
theorem aei {A B:Prop} (h:B):if false=true then A else B:=by rw [aC2 ay4];exact h
theorem ahz {A B:Prop} (h:B):if (!true)=true then A else B:=by rw [aC2 (by decide)];exact h
theorem asx {A B:Prop} (h:A):if (!false)=true then A else B:=by rw [aC1 (by decide)];exact h
theorem aqn {c:Prop} [Decidable c] {A B:Prop} (a:c) (h:B):if (!decide c)=true then A else B:=by rw [aA9 a];exact ahz h
theorem agi {K:Frag}:kitOne K (.type "NoneType") (.type "int")=some false:=by first | rfl | decide
theorem af3 {K:Frag}:kitOne K (.type "NoneType") (.type "bool")=some false:=by first | rfl | decide
theorem afb {K:Frag}:kitOne K (.type "NoneType") (.type "tuple")=some false:=by first | rfl | decide
theorem af4 {K:Frag}:kitOne K (.type "NoneType") (.type "list")=some false:=by first | rfl | decide
theorem agj {K:Frag}:kitOne K (.type "NoneType") (.type "str")=some false:=by first | rfl | decide
theorem af5 {K:Frag}:kitOne K (.type "NoneType") (.type "dict")=some false:=by first | rfl | decide
theorem akr {K:Frag}:kitOne K (.type "bool") (.type "int")=some true:=by first | rfl | decide
theorem ajd {K:Frag}:kitOne K (.type "bool") (.type "bool")=some true:=by first | rfl | decide
theorem ah0 {K:Frag}:kitOne K (.type "bool") (.type "tuple")=some false:=by first | rfl | decide
theorem aje {K:Frag}:kitOne K (.type "bool") (.type "list")=some false:=by first | rfl | decide
theorem aks {K:Frag}:kitOne K (.type "bool") (.type "str")=some false:=by first | rfl | decide
theorem ajf {K:Frag}:kitOne K (.type "bool") (.type "dict")=some false:=by first | rfl | decide
theorem alt {K:Frag}:kitOne K (.type "int") (.type "int")=some true:=by first | rfl | decide
theorem akt {K:Frag}:kitOne K (.type "int") (.type "bool")=some false:=by first | rfl | decide
theorem ajg {K:Frag}:kitOne K (.type "int") (.type "tuple")=some false:=by first | rfl | decide
theorem aku {K:Frag}:kitOne K (.type "int") (.type "list")=some false:=by first | rfl | decide
theorem alu {K:Frag}:kitOne K (.type "int") (.type "str")=some false:=by first | rfl | decide
theorem akv {K:Frag}:kitOne K (.type "int") (.type "dict")=some false:=by first | rfl | decide
theorem alv {K:Frag}:kitOne K (.type "str") (.type "int")=some false:=by first | rfl | decide
theorem akw {K:Frag}:kitOne K (.type "str") (.type "bool")=some false:=by first | rfl | decide
theorem ajh {K:Frag}:kitOne K (.type "str") (.type "tuple")=some false:=by first | rfl | decide
theorem akx {K:Frag}:kitOne K (.type "str") (.type "list")=some false:=by first | rfl | decide
theorem alw {K:Frag}:kitOne K (.type "str") (.type "str")=some true:=by first | rfl | decide
theorem aky {K:Frag}:kitOne K (.type "str") (.type "dict")=some false:=by first | rfl | decide
theorem akz {K:Frag}:kitOne K (.type "list") (.type "int")=some false:=by first | rfl | decide
theorem aji {K:Frag}:kitOne K (.type "list") (.type "bool")=some false:=by first | rfl | decide
theorem ah1 {K:Frag}:kitOne K (.type "list") (.type "tuple")=some false:=by first | rfl | decide
theorem ajj {K:Frag}:kitOne K (.type "list") (.type "list")=some true:=by first | rfl | decide
theorem ak0 {K:Frag}:kitOne K (.type "list") (.type "str")=some false:=by first | rfl | decide
theorem ajk {K:Frag}:kitOne K (.type "list") (.type "dict")=some false:=by first | rfl | decide
theorem ajl {K:Frag}:kitOne K (.type "tuple") (.type "int")=some false:=by first | rfl | decide
theorem ah2 {K:Frag}:kitOne K (.type "tuple") (.type "bool")=some false:=by first | rfl | decide
theorem ag9 {K:Frag}:kitOne K (.type "tuple") (.type "tuple")=some true:=by first | rfl | decide
theorem ah3 {K:Frag}:kitOne K (.type "tuple") (.type "list")=some false:=by first | rfl | decide
theorem ajm {K:Frag}:kitOne K (.type "tuple") (.type "str")=some false:=by first | rfl | decide
theorem ah4 {K:Frag}:kitOne K (.type "tuple") (.type "dict")=some false:=by first | rfl | decide
theorem ak1 {K:Frag}:kitOne K (.type "dict") (.type "int")=some false:=by first | rfl | decide
theorem ajn {K:Frag}:kitOne K (.type "dict") (.type "bool")=some false:=by first | rfl | decide
theorem ah5 {K:Frag}:kitOne K (.type "dict") (.type "tuple")=some false:=by first | rfl | decide
theorem ajo {K:Frag}:kitOne K (.type "dict") (.type "list")=some false:=by first | rfl | decide
theorem ak2 {K:Frag}:kitOne K (.type "dict") (.type "str")=some false:=by first | rfl | decide
theorem ajp {K:Frag}:kitOne K (.type "dict") (.type "dict")=some true:=by first | rfl | decide
end
end L2
namespace L2
open PySem
section
variable {σ:St} {H:Hp} {K:Frag}
theorem acg {p:Addr} {o:HO} (a:H p=none):Same H (upd H p o):=fun b u e=>by rw [aaf (aat e a)];exact e
theorem Same.new {H H':Hp} {q:Addr} {o:HO} (s:Same H H') (h:H' q=none):Same H (upd H' q o):=fun b u e=>by
 have:=s b u e
 rw [aaf (aat this h)];exact this
theorem Same.set {H H':Hp} {q:Addr} {o:HO} (s:Same H H') (h:H q=none):Same H (upd H' q o):=fun b u e=>by
 have:=s b u e
 rw [aaf (aat e h)];exact this
theorem Same.at {H H':Hp} {b:Addr} {o:HO} (s:Same H H') (h:H b=some o):H' b=some o:=s b o h
end
section
variable {σ:St} {H:Hp} {K:Frag}
end
end L2
namespace Gr
inductive Walk (T:Int->Int->Prop) (u:Int):Nat->Int->Prop
 | refl:Walk T u 0 u
 | step {k:Nat} {v w:Int}:Walk T u k v->T v w->Walk T u (k+1) w
def Dist (T:Int->Int->Prop) (u v:Int) (d:Nat):Prop:=Walk T u d v/\∀ k,Walk T u k v->d<=k
theorem Dist.uniq {T:Int->Int->Prop} {u v:Int} {d e:Nat} (h:Dist T u v d) (g:Dist T u v e):d=e:=Nat.le_antisymm (h.2 _ g.1) (g.2 _ h.1)
theorem Dist.self (T:Int->Int->Prop) (u:Int):Dist T u u 0:=⟨.refl,fun _ _=>aC5 _⟩
theorem Dist.of_walk {T:Int->Int->Prop} {u v:Int} {k:Nat} (h:Walk T u k v):∃ d,d<=k/\Dist T u v d:=by
 induction k using Nat.strongRecOn with
 | ind k ih =>
  by_cases hx:∃ j,j < k/\Walk T u j v
  ·obtain ⟨j,a,w⟩:=hx
   obtain ⟨d,hd,e⟩:=ih j a w
   exact ⟨d,by omega,e⟩
  ·refine ⟨k,ay1 _,h,fun j w=>?_⟩
   by_cases a:j < k
   ·exact absurd ⟨j,a,w⟩ hx
   ·omega
theorem Dist.pred {T:Int->Int->Prop} {u w:Int} {d:Nat} (h:Dist T u w (d+1)):∃ v,T v w/\Dist T u v d:=by
 obtain ⟨a,hm⟩:=h
 cases a with
 | step hv ht =>
  rename_i v
  refine ⟨v,ht,hv,fun k b=>?_⟩
  have:=hm (k+1) (.step b ht)
  omega
theorem Dist.next {T:Int->Int->Prop} {u v w:Int} {d:Nat} (h:Dist T u v d) (t:T v w):∃ e,e<=d+1/\Dist T u w e:=Dist.of_walk (.step h.1 t)
structure Bfs (T:Int->Int->Prop) (a:Int) (line:List Int) (ds:List Nat) (at_:Nat):Prop where
 len:ds.length=line.length
 fst:line[0]?=some a
 nd:line.Nodup
 le:at_<=line.length
 dist:∀ (i:Nat) v d,line[i]?=some v->ds[i]?=some d->Dist T a v d
 mono:∀ (i j:Nat) d e,i<=j->ds[i]?=some d->ds[j]?=some e->d<=e
 near:∀ (i j:Nat) d e,at_<=i->ds[i]?=some d->ds[j]?=some e->e<=d+1
 done:∀ (i:Nat) v w,i < at_->line[i]?=some v->T v w->w∈line
theorem Bfs.start (T:Int->Int->Prop) (a:Int):Bfs T a [a] [0] 0:=by
 refine ⟨rfl,rfl,by simp,aC5 _,fun i v d c b=>?_,fun i j d e h c b=>?_,fun i j d e h c b=>?_,fun i v w h=>absurd h (by omega)⟩
 ·match i,c,b with
  | 0,c,b=>simp at c b;subst c b;exact Dist.self T a
  | i+1,c,_=>simp at c
 ·match j,b with
  | 0,b =>
   have:i=0:=by omega
   subst this
   rw [c] at b;cases b;exact ay1 _
  | j+1,b=>simp at b
 ·match i,j,c,b with
  | 0,0,c,b=>rw [c] at b;cases b;omega
  | i+1,_,c,_=>simp at c
  | 0,j+1,_,b=>simp at b
theorem Bfs.all {T:Int->Int->Prop} {a:Int} {line:List Int} {ds:List Nat} {at_:Nat} {d:Nat} (b:Bfs T a line ds at_) (hd:ds[at_]?=some d) :
  ∀ k w,k<=d->Dist T a w k->w∈line:=by
 intro k
 induction k with
 | zero =>
  intro w _ h
  have:w=a:=by
   cases h.1;rfl
  subst this
  exact ax7 b.fst
 | succ k ih =>
  intro w n h
  obtain ⟨v,m,g⟩:=h.pred
  have l:=ih v (by omega) g
  obtain ⟨i,hi,e⟩:=aE1.mp l
  have j:line[i]?=some v:=by rw [ax5 hi,e]
  have c:i < ds.length:=by rw [b.len];exact hi
  have f:ds[i]?=some ds[i]:=ax5 c
  have o:=(b.dist i v _ j f).uniq g
  by_cases hlt:i < at_
  ·exact b.done i v w hlt j m
  ·have:=b.mono at_ i d _ (by omega) hd f
   omega
theorem Bfs.add {T:Int->Int->Prop} {a:Int} {line:List Int} {ds:List Nat} {at_:Nat} {p w:Int} {d:Nat} (b:Bfs T a line ds at_) (o:line[at_]?=some p) (hd:ds[at_]?=some d) (t:T p w) (r:w ∉ line) :
  Bfs T a (line ++ [w]) (ds ++ [d+1]) at_:=by
 have z:at_ < line.length:=(ax6.mp o).1
 have A:Dist T a w (d+1):=by
  obtain ⟨e,D,h⟩:=(b.dist _ _ _ o hd).next t
  by_cases f:e<=d
  ·exact absurd (b.all hd e w f h) r
  ·have:e=d+1:=by omega
   rw [← this];exact h
 have g:∀ (j:Nat) e,(ds ++ [d+1])[j]?=some e->(ds[j]?=some e)\/(j=ds.length/\e=d+1):=by
  intro j e h
  rw [List.getElem?_append] at h
  split at h
  ·exact .inl h
  ·rename_i hj
   right
   have:j - ds.length=0:=by
    match hz:j - ds.length,h with
    | 0,_=>rfl
    | k+1,h=>simp at h
   rw [this] at h
   simp at h
   exact ⟨by omega,h.symm⟩
 refine ⟨by simp [b.len],?_,?_,by simp;omega,fun i v e c f=>?_,fun i j x y h c f=>?_,fun i j x y h c f=>?_,fun i v u h c s=>?_⟩
 ·rw [az7 (by omega)];exact b.fst
 ·rw [List.nodup_append]
  exact ⟨b.nd,by simp,fun x B y q=>by simp at q;subst q;intro e;subst e;exact r B⟩
 ·rcases g _ _ f with f | ⟨n,l⟩
  ·have hi:i < ds.length:=(ax6.mp f).1
   rw [az7 (by rw [← b.len];exact hi)] at c
   exact b.dist i v e c f
  ·subst l
   rw [aA2 (by rw [← b.len];omega)] at c
   have:i - line.length=0:=by rw [← b.len];omega
   rw [this] at c
   simp at c;subst c
   exact A
 ·rcases g _ _ c with c | ⟨n,l⟩
  ·rcases g _ _ f with f | ⟨m,l⟩
   ·exact b.mono i j x y h c f
   ·subst l
    by_cases hia:at_<=i
    ·exact b.near at_ i d x (ay1 _) hd c
    ·have:=b.mono i at_ x d (by omega) c hd;omega
  ·rcases g _ _ f with f | ⟨m,C⟩
   ·have:=(ax6.mp f).1;omega
   ·omega
 ·rcases g _ _ c with c | ⟨n,l⟩
  ·rcases g _ _ f with f | ⟨m,l⟩
   ·exact b.near i j x y h c f
   ·subst l
    have:=b.mono at_ i d x h hd c;omega
  ·subst l
   rcases g _ _ f with f | ⟨m,l⟩
   ·have:=b.near at_ j d y (ay1 _) hd f;omega
   ·omega
 ·rw [az7 (by omega)] at c
  exact aA1 _ (b.done i v u h c s)
theorem Bfs.next {T:Int->Int->Prop} {a:Int} {line:List Int} {ds:List Nat} {at_:Nat} {p:Int} (b:Bfs T a line ds at_) (g:line[at_]?=some p) (h:∀ w,T p w->w∈line):Bfs T a line ds (at_+1):=by
 have f:at_ < line.length:=(ax6.mp g).1
 refine ⟨b.len,b.fst,b.nd,f,b.dist,b.mono,fun i j d e hi=>b.near i j d e (by omega),fun i v w hi c t=>?_⟩
 by_cases e:i=at_
 ·subst e
  rw [g] at c;cases c
  exact h w t
 ·exact b.done i v w (by omega) c t
theorem Bfs.fin {T:Int->Int->Prop} {a:Int} {line:List Int} {ds:List Nat} (b:Bfs T a line ds line.length):∀ k w,Walk T a k w->w∈line:=by
 intro k w h
 induction h with
 | refl=>exact ax7 b.fst
 | step _ t ih =>
  obtain ⟨i,hi,e⟩:=aE1.mp ih
  exact b.done i _ _ hi (by rw [ax5 hi,e]) t
end Gr
namespace L2
open PySem PySem.Spec PyProof.Rows
section
variable {σ:St} {H:Hp} {D:Ends} {K:Frag}
end
theorem few_places:∀ (n:Nat) (l:List Int),l.Nodup->(∀ v∈l,0<=v/\v < (n:Int))->l.length<=n
 | 0,l,_,h=>by
  cases l with
  | nil=>simp
  | cons v r=>have:=h v (by simp);omega
 | n+1,l,hn,h=>by
  have d:=few_places n (l.erase (n:Int)) (hn.erase _) fun v a=>by
   have hm:=List.mem_of_mem_erase a
   have hb:=h v hm
   have b:v ≠ (n:Int):=by
    rintro rfl
    exact absurd a (List.Nodup.not_mem_erase hn)
   omega
  have c:l.length<=(l.erase (n:Int)).length+1:=by
   rw [List.length_erase]
   split <;> omega
  omega
end L2
namespace L2
open PySem
end L2
namespace HT
open PySem PyProof.Rows
section
variable {prog:Program} {w:World} {A:Around} {E:Value->Shared->Prop} {s:Shared}
end
end HT
namespace L2
open PySem PySem.Spec PyProof.Rows
section
variable {X:Cx}
end
section
variable {X:Cx} {pins:List (Addr × Obj)} {σ:St} {H:Hp} {s:Shared} {A:Around} {E:Value->Shared->Prop} {Q:Value->Shared->Prop} {b:Bool}
end
section
variable {X:Cx}
end
end L2
namespace HT
open PySem PyProof.Rows L2
def LtAt (A:Around) (s:Shared) (y x:Value) (b:Bool):Prop :=
 ∀ (prog:Program) (w:World) (E:Value->Shared->Prop) (Q:Value->Shared->Prop),Q (.bool b) s->wpAny (model prog w) A (richCompare .Lt y x) Q E s
section
open PySem.SeqAt
open PySem.AutoSeq1 (wpAny_loadPart')
open PySem.MeetsSeq PySem.MeetsSeq2 PySem.MeetsSeq3
inductive Its (A:Around) (s:Shared):List Value->List Value->Bool->Prop
 | nn:Its A s [] [] false
 | nc {x:Value} {ys:List Value}:Its A s [] (x :: ys) true
 | cn {x:Value} {xs:List Value}:Its A s (x :: xs) [] false
 | eq {x y:Value} {xs ys:List Value} {b:Bool}:EqAt A s x y true->Its A s xs ys b->Its A s (x :: xs) (y :: ys) b
 | ne {x y:Value} {xs ys:List Value} {b:Bool}:EqAt A s x y false->LtAt A s x y b->Its A s (x :: xs) (y :: ys) b
theorem ak3 (l b:Addr) (c a:Array Value) (n H:Nat) (dd D:Option Addr) (sl v:Array (Option Value)) (r:Bool) :
  Meets (Builtin.«tuple.__lt__» ⟨[.ref l,.ref b],[]⟩)
   (fun A R s=>s.heap.get? l=some { cls:=.type "tuple",dict:=dd,data:=.seq c n,slots:=sl }/\s.heap.get? b=some { cls:=.type "tuple",dict:=D,data:=.seq a H,slots:=v } /\
    Its A.in1 s c.toList a.toList r/\R (.ok (.ret (.bool r))) s) :=
 .of_wp fun prog w A R s h=>by
  obtain ⟨E,g,d,F,os⟩:=s;obtain ⟨I,hb,hi,h⟩:=h
  have L:=AutoSeq1.sub_tuple_tuple
  wp_walk using wpAny_loadPart' I,wpAny_loadPart' hb,wpAny_forIn_list _ (fun rest b q=>b.1=none/\q=⟨E,g,d,F,os⟩/\∃ (vs p:List Value),rest=vs.zip p /\
   vs.length+a.size=p.length+c.size/\Its A.in1 ⟨E,g,d,F,os⟩ vs p r) _
  case turn =>
   rintro ⟨y,x⟩ rest b q ⟨m,rfl,vs,p,j,f,u⟩
   cases u with
   | nn=>cases j
   | nc=>cases j
   | cn=>cases j
   | eq he hI' =>
    rw [List.zip_cons_cons] at j
    injection j with o i
    injection o with z C
    subst z C
    simp only [aB3] at f
    refine aF2 (he prog w _ _ ?_)
    wp_walk
    exact ⟨rfl,rfl,_,_,i,by omega,hI'⟩
   | ne he hlt =>
    rw [List.zip_cons_cons] at j
    injection j with o i
    injection o with z C
    subst z C
    refine aF2 (he prog w _ _ ?_)
    have B:=hlt prog w
    wp_walk using B
    exact ⟨_,rfl,by simpa using h⟩
  case fin =>
   rintro ⟨J,K⟩ q ⟨m,rfl,vs,p,j,f,u⟩
   simp only at m
   subst m
   have G:r=decide (c.size < a.size):=by
    cases u with
    | nn =>
     simp only [aF1] at f
     exact (aA8 (by omega)).symm
    | nc =>
     simp only [aF1,aB3] at f
     exact (aA9 (by omega)).symm
    | cn =>
     simp only [aF1,aB3] at f
     exact (aA8 (by omega)).symm
    | eq=>cases j
    | ne=>cases j
   rw [G] at h
   wp_walk
   exact ⟨_,rfl,by simpa [Builtin.Tuple.tupleCompareSizes] using h⟩
  case h =>
   exact ⟨rfl,rfl,c.toList,a.toList,rfl,by simp;omega,hi⟩
end
section
variable {A:Around} {s:Shared}
theorem LtAt.tup {l b:Addr} {o g:Obj} {c a:Array Value} {n p:Nat} {r:Bool} (v:s.heap.get? l=some o) (u:o.cls=.type "tuple") (hd:o.data=.seq c n) (hb:s.heap.get? b=some g) (d:g.cls=.type "tuple") (f:g.data=.seq a p)
  (y:A.units < cLine) (hi:Its A.in1 s c.toList a.toList r):LtAt A s (.ref l) (.ref b) r:=by
 intro prog w E Q q
 obtain ⟨cls,dd,data,sl⟩:=o
 obtain ⟨m,j,h,i⟩:=g
 simp only at u hd d f
 subst u hd d f
 exact richCompare_meets_room (op:=.Lt) ⟨_,v,rfl⟩ ⟨_,hb,rfl⟩ PySem.F.slot_tuple_lt PySem.F.entry_tuple_lt (PySem.F.args_tuple_lt_2 _ _) (ak3 l b c a n p dd j sl i r)
  ⟨v,hb,hi,show Value.bool r ≠ Value.notImplemented/\Q (.bool r) s from ⟨(fun x=>nomatch x),q⟩⟩ y
end
end HT
namespace L2
open PySem PySem.Spec PyProof.Rows
section
variable {X:Cx}
end
end L2
namespace L2
open PySem
end L2
namespace TS
open PySem PyProof.Rows HT
theorem amm:∀ x y:List Int,HT.lexLt x y=true->HT.lexLt y x=false
 | [],[],h=>by simp [HT.lexLt] at h
 | [],_ :: _,_=>rfl
 | _ :: _,[],h=>by simp [HT.lexLt] at h
 | a :: x,b :: y,h=>by
  rw [aem] at h ⊢
  by_cases e:a=b
  ·subst e
   rw [aC1 rfl] at h ⊢
   exact amm x y h
  ·rw [aC2 e] at h
   rw [aC2 (fun z=>e z.symm)]
   have:=of_decide_eq_true h
   exact aA8 (by omega)
theorem ao2:∀ x y z:List Int,HT.lexLt y x=false->HT.lexLt z y=false->HT.lexLt z x=false
 | _,[],[],h,_=>h
 | [],[],_ :: _,_,_=>rfl
 | _ :: _,[],_ :: _,h,_=>by simp [HT.lexLt] at h
 | _,_ :: _,[],_,h=>by simp [HT.lexLt] at h
 | [],_ :: _,_ :: _,_,_=>rfl
 | a :: x,b :: y,c :: z,h,g=>by
  rw [aem] at h g ⊢
  by_cases e:b=a
  ·subst e
   rw [aC1 rfl] at h
   by_cases e2:c=b
   ·subst e2
    rw [aC1 rfl] at g ⊢
    exact ao2 x y z h g
   ·rw [aC2 e2] at g ⊢
    exact g
  ·rw [aC2 e] at h
   have h':=of_decide_eq_false h
   by_cases e2:c=b
   ·subst e2
    rw [aC2 e]
    exact h
   ·rw [aC2 e2] at g
    have g':=of_decide_eq_false g
    rw [aC2 (by omega)]
    exact aA8 (by omega)
def TI (h:Heap) (a:Addr) (ns:List Int):Prop:=∃ o xs n,h.get? a=some o/\o.cls=.type "tuple"/\o.data=.seq xs n/\IntsAre xs.toList ns
def kfV (kf:Addr->List Int):Value->List Int
 | .ref a=>kf a
 | _=>[]
section
variable {prog:Program} {w:World} {A:Around} {E:Value->Shared->Prop} {s:Shared}
theorem af7 {fin:Bool} {Q:Bool->Shared->Prop}:∀ {xs ys:List Value} {ns c:List Int} (i:Nat),IntsAre xs ns->IntsAre ys c->(ns.length < c.length->fin=true)->(c.length<=ns.length->fin=false)->Q (HT.lexLt ns c) s ->
  PySem.W.KatLex prog w A true fin Q (xs.zip ys) i s
 | _,_,_,_,i,.nil,.nil,_,h2,q=>by
  rw [h2 (ay1 _)];exact q
 | _,_,_,_,i,.nil,.cons b u r,h1,_,q=>by
  rw [h1 (by simp)];exact q
 | _,_,_,_,i,.cons a t r,.nil,_,h2,q=>by
  rw [List.zip_nil_right,h2 (by simp)];exact q
 | _,_,_,_,i,.cons a t r,.cons b u r2,h1,h2,q=>by
  rw [List.zip_cons_cons]
  refine PySem.W.kat_cons (SeqAt.EqAt.int_int a t b u prog w _ _ ?_)
  rw [aem] at q
  by_cases e:a=b
  ·subst e
   rw [aC1 rfl] at q
   rw [show (a == a)=true by simp]
   exact PySem.W.kat_yes (af7 (i+1) r r2 (fun z=>h1 (by simpa using z)) (fun z=>h2 (by simpa using z)) q)
  ·rw [aC2 e] at q
   rw [show (a == b)=false by simpa using e]
   refine PySem.W.kat_no ?_
   by_cases hi:i=0
   ·subst hi
    exact oneLt_int q
   ·rw [show (true && i == 0)=false by simpa using hi]
    exact PySem.W.kat_one _ _ (PyProof.Rows.lt_int q)
def tS (h:Heap) (kf:Addr->List Int) (x:Keyed):Prop:=x.1=x.2/\∃ a,x.1=.ref a/\TI h a (kf a)
def tR (kf:Addr->List Int) (x y:Keyed):Bool:=HT.lexLt (kfV kf x.1) (kfV kf y.1)
theorem cmp_tups (h:Addr->List Int):Cmp (model prog w) A E s (tuples' true) (tS s.heap h) (tR h):=by
 refine ⟨fun x y B r Q st m q=>?_,fun x y _ _=>amm _ _,fun x y z _ _ _=>ao2 _ _ _⟩
 obtain ⟨I,H⟩:=x
 obtain ⟨D,C⟩:=y
 obtain ⟨_,a,j,o,xs,n,v,F,u,g⟩:=B
 obtain ⟨_,b,i,o',ys,G,l,J,p,d⟩:=r
 dsimp only at j i
 subst j i
 rw [lt'_eq]
 refine wpS_bind (wpS_get ?_)
 rw [m]
 refine wpS_bind (wpS_lift (wpAny_attempt (PySem.W.kat_lt v u l p (af7 0 g d (fun z=>?_) (fun z=>?_) ⟨rfl,?_⟩))))
 ·have c:=g.length;have f:=d.length
  simp at c f
  exact aA9 (by omega)
 ·have c:=g.length;have f:=d.length
  simp at c f
  exact aA8 (by omega)
 ·exact wpS_pure q
theorem ani {vs:List Value} {ps:List Keyed} (h:ps.Perm (vs.zip vs)):(∀ p∈ps,p.1=p.2/\p.1∈vs)/\(ps.map (·.2)).Perm vs:=by
 refine ⟨fun p b=>mem_zip_self (h.mem_iff.mp b),?_⟩
 have a:=h.map (fun p=>p.2)
 have e:(vs.zip vs).map (fun p=>p.2)=vs:=List.map_snd_zip (ay1 _)
 rwa [e] at a
theorem ajq {a:Addr} {vs:List Value} {n:Nat} {P:PySem.Fin->Shared->Prop} (j:s.heap.get? a=some (seqObj "list" vs.toArray n)) (c:vs.length<=sizeLine)
  (m:2<=vs.length->∀ h',(∀ b o,b ≠ a->s.heap.get? b=some o->h'.get? b=some o)->∃ κ S R,(∀ (Q:SortKind->Shared->Prop),Q κ { s with heap:=h' }->wpAny (model prog w) A (keyKind' vs.toArray) Q E { s with heap:=h' })/\Cmp (model prog w) A E { s with heap:=h' } κ S R/\(∀ v∈vs,S (v,v)) /\
   ∀ out:List Value,out.Perm vs->out.Pairwise (fun x y=>R (y,y) (x,x)=false)->P (.done (.ret .none)) { s with heap:=sortedHeap s.heap a vs out.toArray })
  (F:vs.length < 2->P (.done (.ret .none)) { s with heap:=sortedHeap s.heap a vs vs.toArray }) :
  wpAny (model prog w) A (Builtin.«list.sort» ⟨[.ref a],[]⟩) P E s:=by
 rw [list_sort_plain]
 have ha:a < s.heap.objs.size:=aF5 j
 refine aF2 (listItems_at j rfl ?_)
 refine aF2 (listUpdate_at j rfl ?_ (by rw [ay6];exact c) (aC5 _))
 obtain ⟨p,i⟩:∃ p,(s.heap.update a (Obj.mapSeq fun _ => #[])).get? a=some (seqObj "list" #[] p):=⟨_,get?_update_seq j (fun _ => #[])⟩
 refine aF2 (seqEpoch_at i rfl ?_)
 refine aF2 (wpAny_newTuple ?_ (by show vs.length<=_;exact c))
 refine aF2 (wpAny_newList ?_ (aC5 _))
 refine aF8 ?_
 have d:(((s.heap.update a (Obj.mapSeq fun _ => #[])).push (seqObj "tuple" vs.toArray 0)).push (seqObj "list" #[] 0)).get? a=some (seqObj "list" #[] p):=by
  rw [Heap.get?_push_ne _ _ _ (by rw [size_push',Heap.size_update];exact az0 (Nat.lt_succ_of_lt ha)),Heap.get?_push_ne _ _ _ (by rw [Heap.size_update];exact az0 ha)]
  exact i
 show wpAny (model prog w) A _ P E { s with heap:=((s.heap.update a (Obj.mapSeq fun _ => #[])).push (seqObj "tuple" vs.toArray 0)).push (seqObj "list" #[] 0) }
 dsimp only
 have hsz:vs.toArray.size=vs.length:=by simp
 have kp:∀ b o,b ≠ a->s.heap.get? b=some o->(((s.heap.update a (Obj.mapSeq fun _ => #[])).push (seqObj "tuple" vs.toArray 0)).push (seqObj "list" #[] 0)).get? b=some o:=fun b o hb e=>by
  refine aF4 _ (aF4 _ ?_)
  rw [Heap.get?_update_ne _ _ _ _ hb];exact e
 by_cases h2:vs.toArray.size < 2
 ·rw [aC1 h2,aC1 h2]
  refine aF2 (aF3 ?_)
  rw [StateT.run_pure]
  refine aF2 (aF3 ?_)
  dsimp only
  have l:(arrOf (SortSt.mk' general' (vs.toArray.zip vs.toArray) #[] 7 none)).map (·.2)=vs.toArray:=by
   show (vs.toArray.zip vs.toArray).map (·.2)=vs.toArray
   apply Array.toList_inj.mp
   rw [Array.toList_map,Array.toList_zip]
   exact List.map_snd_zip (ay1 _)
  rw [l]
  refine aF2 (seqEpoch_at d rfl ?_)
  refine aF2 (listUpdate_at d rfl ?_ (aC5 _) (by rw [ay6];exact Nat.le_succ_of_le c))
  simp only [bne_self_eq_false,Bool.false_eq_true,if_false]
  exact aF3 (F (by omega))
 ·rw [aC2 h2,aC2 h2]
  obtain ⟨κ,S,R,H,C,K,f⟩:=m (by omega) _ kp
  refine aF2 (H _ ?_)
  refine aF2 (aG0 (asw C (a0:=vs.toArray.zip vs.toArray) (st:=SortSt.mk' κ (vs.toArray.zip vs.toArray) #[] 7 none) (Q:=fun _ st'=>failedOf st'=none/\(arrOf st').toList.Perm (vs.zip vs)/\Srt R (arrOf st').toList) (fun x q=>?_) rfl rfl rfl rfl fun st' B G u=>⟨B,by simpa using G,u⟩) ?_ fun _ _ e=>e)
  ·have:x∈vs.zip vs:=by simpa using q
   obtain ⟨h,g⟩:=mem_zip_self this
   obtain ⟨L,J⟩:=x
   dsimp only at h g
   subst h
   exact K _ g
  rintro ⟨⟨⟩,st'⟩ u ⟨rfl,hf,D,hs⟩
  dsimp only
  obtain ⟨h,g⟩:=ani D
  have l:(arrOf st').map (·.2)=(((arrOf st').toList.map (·.2)).toArray):=by
   apply Array.toList_inj.mp
   simp
  rw [l]
  have r:((arrOf st').toList.map (·.2)).length=vs.length:=g.length_eq
  refine aF2 (seqEpoch_at d rfl ?_)
  refine aF2 (listUpdate_at d rfl ?_ (aC5 _) (by rw [ay6,r];exact Nat.le_succ_of_le c))
  rw [hf]
  simp only [bne_self_eq_false,Bool.false_eq_true,if_false]
  refine aF3 (f _ g ?_)
  rw [aC6]
  refine aE5 ?_ hs
  intro x y q I M
  have ex:=(h x q).1
  have z:=(h y I).1
  obtain ⟨L,J⟩:=x
  obtain ⟨O,N⟩:=y
  dsimp only at ex z
  subst ex z
  exact M
theorem sorted_any {l:Addr} {vs:List Value} {Q:Value->Shared->Prop} (r:s.heap.IsList l vs.toArray) (a:vs.length<=sizeLine)
  (g:2<=vs.length->∀ h',(∀ b o,s.heap.get? b=some o->h'.get? b=some o)->∃ κ S R,(∀ (Q:SortKind->Shared->Prop),Q κ { s with heap:=h' }->wpAny (model prog w) A.in1.in1 (keyKind' vs.toArray) Q E { s with heap:=h' })/\Cmp (model prog w) A.in1.in1 E { s with heap:=h' } κ S R/\(∀ v∈vs,S (v,v)) /\
   ∀ out:List Value,out.Perm vs->out.Pairwise (fun x y=>R (y,y) (x,x)=false)->Q (.ref (s.heap.objs.size+1)) { s with heap:=sortedAll s.heap vs out.toArray })
  (i:vs.length < 2->Q (.ref (s.heap.objs.size+1)) { s with heap:=sortedAll s.heap vs vs.toArray }) :
  wpAny (model prog w) A (call (.builtin "sorted") [.ref l]) Q E s:=by
 refine Calls.call_function_entry kind_sorted plain_sorted entry_sorted (args_sorted1 _) ?_
 unfold Builtin.«sorted»
 refine aF2 (m:=checkCount "sorted" 1 1 _) (aF3 ?_)
 refine aF2 (collect_list r ?_ a)
 refine aF2 (wpAny_newList ?_ a)
 have hsz:((s.heap.push (seqObj "list" #[] 0)).update s.heap.objs.size (Obj.mapSeq (· ++ vs.toArray))).objs.size=s.heap.objs.size+1:=by
  rw [Heap.size_update,size_push']
 have f:(((s.heap.push (seqObj "list" #[] 0)).update s.heap.objs.size (Obj.mapSeq (· ++ vs.toArray))).push (seqObj "list" vs.toArray 0)).get? (s.heap.objs.size+1)=some (seqObj "list" vs.toArray 0):=by
  rw [← hsz];exact aF6 _ rfl
 have keep:∀ b o,s.heap.get? b=some o->(((s.heap.push (seqObj "list" #[] 0)).update s.heap.objs.size (Obj.mapSeq (· ++ vs.toArray))).push (seqObj "list" vs.toArray 0)).get? b=some o:=fun b o q=>by
  have c:b < s.heap.objs.size:=aF5 q
  rw [Heap.get?_push_ne _ _ _ (by rw [hsz];exact az0 (Nat.lt_succ_of_lt c)),Heap.get?_update_ne _ _ _ _ (az0 c),Heap.get?_push_ne _ _ _ (az0 c)]
  exact q
 show wpAny _ _ _ _ _ { s with heap:=((s.heap.push (seqObj "list" #[] 0)).update s.heap.objs.size (Obj.mapSeq (· ++ vs.toArray))).push (seqObj "list" vs.toArray 0) }
 rw [hsz]
 refine aF2 (aF8 (wpAny_call_entry slot_list_sort ⟨_,f,rfl⟩ entry_list_sort ?body (args_list_sort _)))
 case body =>
  refine ajq (s:={ s with heap:=((s.heap.push (seqObj "list" #[] 0)).update s.heap.objs.size (Obj.mapSeq (· ++ vs.toArray))).push (seqObj "list" vs.toArray 0) }) f a (fun h h' kp=>?_) fun c=>?_
  ·obtain ⟨κ,S,R,j,C,u,d⟩:=g h h' fun b o e=>kp b o (az0 (Nat.lt_succ_of_lt (aF5 e))) (keep b o e)
   exact ⟨κ,S,R,j,C,u,fun out p n=>⟨_,rfl,aF3 ⟨_,rfl,d out p n⟩⟩⟩
  ·exact ⟨_,rfl,aF3 ⟨_,rfl,i c⟩⟩
end
end TS
namespace L2
open PySem PySem.Spec PyProof.Rows
def toI:V->Int
 | .int i=>i
 | _=>0
def kH (H:Hp):V->List Int
 | .ref t=>match H t with
  | some (.tup xs)=>xs.map toI
  | _=>[]
 | _=>[]
theorem asz (ns:List Int):(ns.map V.int).map toI=ns:=by
 rw [aB0]
 have:(toI ∘ V.int)=id:=by funext i;rfl
 rw [this,List.map_id]
theorem anj {H:Hp} {t:Addr} {ns:List Int} (h:H t=some (.tup (ns.map V.int))):kH H (.ref t)=ns:=by
 simp only [kH,h];exact asz ns
def TupI (H:Hp) (v:V):Prop:=∃ t ns,v=.ref t/\H t=some (.tup (ns.map V.int))/\ns ≠ []
def afr:Value->V
 | .ref a => .ref a
 | _ => .non
theorem aiv:∀ {us:List Value},(∀ u∈us,∃ a,u=.ref a)->Vals (us.map afr) us
 | [],_ => .nil
 | u :: us,h=>by
  obtain ⟨a,e⟩:=h u az2
  subst e
  exact .cons rfl (aiv fun v b=>h v (ay9 _ b))
theorem aiw {H:Hp}:∀ {vs:List V} {us:List Value},Vals vs us->(∀ v∈vs,TupI H v)->(∀ u∈us,∃ a,u=.ref a)/\us.map afr=vs
 | _,_,.nil,_=>⟨fun u d=>(by cases d),rfl⟩
 | v :: vs,u :: us,.cons r t,h=>by
  obtain ⟨a,ns,rfl,_,_⟩:=h v az2
  cases r
  obtain ⟨g,c⟩:=aiw t fun v f=>h v (ay9 _ f)
  refine ⟨fun x b=>?_,by rw [aA5,c];rfl⟩
  rcases ay3.mp b with rfl | b
  ·exact ⟨_,rfl⟩
  ·exact g x b
section
variable {X:Cx}
def aha (K:Frag):List V->Hp->VK->Prop:=fun xs H Q=>∃ (a:Addr) (vs:List V),xs=[.ref a]/\SqL K H a vs/\(∀ v∈vs,TupI H v) /\
 ∀ (vs':List V) (p:Addr),vs'.Perm vs->vs'.Pairwise (fun x y=>HT.lexLt (kH H y) (kH H x)=false)->H p=none->Q (.ref p) (upd H p (.lst vs'))
theorem ak4 {H:Hp} {pins:List (Addr × Obj)} {σ:St} {s:Shared} (I:Inv X pins σ H s) {h':Heap} (kp:∀ b o,s.heap.get? b=some o->h'.get? b=some o):∀ {vs:List V} {us:List Value},Vals vs us->(∀ v∈vs,TupI H v) ->
  (∃ fs,PySem.W.KatTups h' us fs/\fs.length=us.length/\∀ f∈fs,∃ i t,f=.int i t)/\∀ u∈us,∃ a,u=.ref a/\TS.TI h' a (kH H (.ref a))
 | _,_,.nil,_=>⟨⟨[],trivial,rfl,fun f hf=>by cases hf⟩,fun u C=>by cases C⟩
 | v :: vs,u :: us,.cons r t,h=>by
  obtain ⟨a,ns,rfl,e,c⟩:=h v az2
  cases r
  obtain ⟨⟨fs,k1,k2,k3⟩,y⟩:=ak4 I kp t fun v A=>h v (ay9 _ A)
  obtain ⟨_,its,z,o,q,m,n,p⟩:=(show ObjOk X.prog X.w H s.heap a (.tup (ns.map V.int)) from I.hok a _ e)
  have hi:IntsAre its ns:=by simpa using (agz z:IntsAre its.toArray.toList ns)
  have B:TS.TI h' a (kH H (.ref a)):=⟨o,its.toArray,n,kp _ _ q,m,p,by rw [anj e];simpa using hi⟩
  obtain ⟨f,hf,i,j,D⟩:∃ f,its.toArray[0]?=some f/\∃ i t,f=.int i t:=by
   cases hi with
   | nil=>exact absurd rfl c
   | cons i j _=>exact ⟨_,by simp,i,j,rfl⟩
  refine ⟨⟨f :: fs,PySem.W.KatTups.cons (kp _ _ q) m p hf k1,by simp [k2],fun g d=>?_⟩,fun x l=>?_⟩
  ·rcases ay3.mp d with rfl | d
   ·exact ⟨i,j,D⟩
   ·exact k3 g d
  ·rcases ay3.mp l with rfl | l
   ·exact ⟨a,rfl,B⟩
   ·exact y x l
theorem aqo {α:Type} {R : α->α->Prop}:∀ {l:List α},l.length < 2->l.Pairwise R
 | [],_=>List.Pairwise.nil
 | [_],_=>List.pairwise_singleton _ _
 | _ :: _ :: _,h=>absurd h (by simp)
theorem ahb:abh X (.builtin "sorted") (aha X.K):=by
 intro pins s σ H xs us Q I r h
 obtain ⟨a,vs,rfl,ha,p,q⟩:=h
 obtain ⟨u,rfl,z⟩:=adh r
 cases z
 obtain ⟨its,n,C,A⟩:=I.list ha
 obtain ⟨l,B⟩:=aiw n p
 have c:its.length<=sizeLine:=by rw [← n.length];exact A
 have f:H (s.heap.objs.size+1)=none:=I.hok.fresh (Nat.le_succ _)
 have fin:∀ out:List Value,out.Perm its->(out.map afr).Pairwise (fun x y=>HT.lexLt (kH H y) (kH H x)=false)->EP X pins σ Q (.ref (s.heap.objs.size+1)) { s with heap:=sortedAll s.heap its out.toArray }:=by
  intro out d hs
  obtain ⟨e,E⟩:=sortedAll_at s.heap its out.toArray
  have g:Vals (out.map afr) out:=aiv fun u F=>l u (d.mem_iff.mp F)
  refine ⟨.ref (s.heap.objs.size+1),_,I.laid (t':=s.toks) (o:=.lst (out.map afr)) (fun b O q=>sortedAll_old q) (Nat.le_succ _) ?_,rfl,q _ _ ?_ hs f⟩
  ·refine ⟨by rw [ax8,d.length_eq];exact c,out,e,g,by rw [E]⟩
  ·rw [← B];exact d.map afr
 refine TS.sorted_any C.isList c (fun G h' kp=>?_) fun m=>?_
 ·obtain ⟨⟨fs,k1,k2,k3⟩,w⟩:=ak4 I kp n p
  have j:(Value.type "int" != Value.type "tuple")=true:=by rfl
  refine ⟨tuples' true,TS.tS h' (fun a=>kH H (.ref a)),TS.tR (fun a=>kH H (.ref a)),fun R M=>?_,TS.cmp_tups (s:={ s with heap:=h' }) (fun a=>kH H (.ref a)),fun v g=>?_,fun out d hs=>fin out d ?_⟩
  ·refine PySem.W.kat_kind (T:=.type "int") (s:={ s with heap:=h' }) k1 (by omega) (fun v g=>?_) (by rfl) ?_
   ·obtain ⟨i,t,rfl⟩:=k3 v g
    exact .now
   ·rw [j];exact M
  ·obtain ⟨a,e,N⟩:=w v g
   exact ⟨rfl,a,e,N⟩
  ·rw [aC6]
   refine aE5 ?_ hs
   intro x y J D L
   obtain ⟨S,rfl⟩:=l x (d.mem_iff.mp J)
   obtain ⟨P,rfl⟩:=l y (d.mem_iff.mp D)
   exact L
 ·refine fin its (List.Perm.refl _) ?_
  exact aqo (by rw [ax8];exact m)
end
end L2
namespace HT
open PySem PySem.Spec PyProof.Rows L2
section
variable {prog:Program} {w:World} {A:Around} {kw:List (Str × Value)} {R:Result->Shared->Prop} {I S:Addr} {fp wr:List Addr} {n:Nat} {P:Nat->Value->Prop} {St:Nat->Heap->Prop} {Hd:Heap->Prop}
end
section
variable {prog:Program} {w:World} {A:Around} {E:Value->Shared->Prop} {s:Shared}
end
end HT
namespace L2
open PySem PySem.Spec PyProof.Rows
section
variable {X:Cx} {x:Str} {p pos kpos:Pos} {e en:Expr} {t:TA}
end
end L2
namespace HT
open PySem PySem.Spec PyProof.Rows
section
variable {prog:Program} {w:World} {A:Around} {E:Value->Shared->Prop} {s:Shared}
end
end HT
namespace L2
open PySem PySem.Spec PyProof.Rows
section
variable {X:Cx}
end
end L2
namespace VL
open PySem PySem.Spec L2
def kD:Key->PyData
 | .inl i => .int i
 | .inr x => .str x
mutual
inductive Rp (G:Hp):V->PyData->Prop
 | non:Rp G .non .none
 | bl (b:Bool):Rp G (.bl b) (.bool b)
 | int (i:Int):Rp G (.int i) (.int i)
 | str (x:Str):Rp G (.str x) (.str x)
 | lst {a:Addr} {xs:List V} {ds:List PyData}:G a=some (.lst xs)->Rps G xs ds->Rp G (.ref a) (.list ds)
 | tup {a:Addr} {xs:List V} {ds:List PyData}:G a=some (.tup xs)->Rps G xs ds->Rp G (.ref a) (.tuple ds)
 | dk {a:Addr} {kvs:List (Key × V)} {es:List (Key × PyData)} {ds:List (PyData × PyData)}:G a=some (.dK kvs)->RpK G kvs es->ds=es.map (fun p=>(kD p.1,p.2))->Rp G (.ref a) (.dict ds)
 | dt {a:Addr} {kvs:List (List Key × V)} {es:List (List Key × PyData)} {ds:List (PyData × PyData)}:G a=some (.dT kvs)->RpT G kvs es->ds=es.map (fun p=>(.tuple (p.1.map kD),p.2))->Rp G (.ref a) (.dict ds)
inductive Rps (G:Hp):List V->List PyData->Prop
 | nil:Rps G [] []
 | cons {v:V} {vs:List V} {d:PyData} {ds:List PyData}:Rp G v d->Rps G vs ds->Rps G (v :: vs) (d :: ds)
inductive RpK (G:Hp):List (Key × V)->List (Key × PyData)->Prop
 | nil:RpK G [] []
 | cons {k:Key} {v:V} {d:PyData} {r:List (Key × V)} {s:List (Key × PyData)}:Rp G v d->RpK G r s->RpK G ((k,v) :: r) ((k,d) :: s)
inductive RpT (G:Hp):List (List Key × V)->List (List Key × PyData)->Prop
 | nil:RpT G [] []
 | cons {k:List Key} {v:V} {d:PyData} {r:List (List Key × V)} {s:List (List Key × PyData)}:Rp G v d->RpT G r s->RpT G ((k,v) :: r) ((k,d) :: s)
end
mutual
theorem Rp.same {G G':Hp} (s:Same G G'):∀ {v:V} {d:PyData},Rp G v d->Rp G' v d
 | _,_,.non => .non
 | _,_,.bl b => .bl b
 | _,_,.int i => .int i
 | _,_,.str x => .str x
 | _,_,.lst h r => .lst (s _ _ h) (Rps.same s r)
 | _,_,.tup h r => .tup (s _ _ h) (Rps.same s r)
 | _,_,.dk h r e => .dk (s _ _ h) (RpK.same s r) e
 | _,_,.dt h r e => .dt (s _ _ h) (RpT.same s r) e
theorem Rps.same {G G':Hp} (s:Same G G'):∀ {vs:List V} {ds:List PyData},Rps G vs ds->Rps G' vs ds
 | _,_,.nil => .nil
 | _,_,.cons r t => .cons (Rp.same s r) (Rps.same s t)
theorem RpK.same {G G':Hp} (s:Same G G'):∀ {vs:List (Key × V)} {ds:List (Key × PyData)},RpK G vs ds->RpK G' vs ds
 | _,_,.nil => .nil
 | _,_,.cons r t => .cons (Rp.same s r) (RpK.same s t)
theorem RpT.same {G G':Hp} (s:Same G G'):∀ {vs:List (List Key × V)} {ds:List (List Key × PyData)},RpT G vs ds->RpT G' vs ds
 | _,_,.nil => .nil
 | _,_,.cons r t => .cons (Rp.same s r) (RpT.same s t)
end
theorem Rps.length {G:Hp}:∀ {vs:List V} {ds:List PyData},Rps G vs ds->vs.length=ds.length
 | _,_,.nil=>rfl
 | _,_,.cons _ t=>by simp [Rps.length t]
theorem Rps.get {G:Hp}:∀ {vs:List V} {ds:List PyData} {i:Nat} {d:PyData},Rps G vs ds->ds[i]?=some d->∃ v,vs[i]?=some v/\Rp G v d
 | _,_,_,_,.nil,e=>by simp at e
 | _,_,0,_,.cons r _,e=>by simp at e;subst e;exact ⟨_,rfl,r⟩
 | _,_,i+1,d,.cons _ t,e=>by
  obtain ⟨u,b,a⟩:=Rps.get (i:=i) (d:=d) t (by simpa using e)
  exact ⟨u,by simpa using b,a⟩
theorem Rps.append {G:Hp}:∀ {vs a:List V} {ds es:List PyData},Rps G vs ds->Rps G a es->Rps G (vs ++ a) (ds ++ es)
 | _,_,_,_,.nil,s=>s
 | _,_,_,_,.cons r t,s => .cons r (Rps.append t s)
theorem Rps.set {G:Hp} {v:V} {d:PyData} (h:Rp G v d):∀ {vs:List V} {ds:List PyData} (i:Nat),Rps G vs ds->Rps G (vs.set i v) (ds.set i d)
 | _,_,_,.nil => .nil
 | _,_,0,.cons _ t => .cons h t
 | _,_,i+1,.cons r t => .cons r (Rps.set h i t)
theorem Rps.erase {G:Hp}:∀ {vs:List V} {ds:List PyData} (i:Nat),Rps G vs ds->Rps G (vs.eraseIdx i) (ds.eraseIdx i)
 | _,_,_,.nil => .nil
 | _,_,0,.cons _ t=>t
 | _,_,i+1,.cons r t => .cons r (Rps.erase i t)
theorem Rps.take {G:Hp}:∀ {vs:List V} {ds:List PyData} (i:Nat),Rps G vs ds->Rps G (vs.take i) (ds.take i)
 | _,_,0,_ => .nil
 | _,_,_+1,.nil => .nil
 | _,_,i+1,.cons r t => .cons r (Rps.take i t)
theorem Rps.drop {G:Hp}:∀ {vs:List V} {ds:List PyData} (i:Nat),Rps G vs ds->Rps G (vs.drop i) (ds.drop i)
 | _,_,0,r=>r
 | _,_,_+1,.nil => .nil
 | _,_,i+1,.cons _ t=>Rps.drop i t
theorem Rps.rep {G:Hp} {vs:List V} {ds:List PyData} (h:Rps G vs ds):∀ (k:Nat),Rps G (List.replicate k vs).flatten (List.replicate k ds).flatten
 | 0 => .nil
 | k+1=>by
  rw [aD8,aD8,List.flatten_cons,List.flatten_cons]
  exact h.append (Rps.rep h k)
theorem Rps.ints {G:Hp}:∀ (ns:List Int),Rps G (ns.map V.int) (ns.map PyData.int)
 | [] => .nil
 | n :: ns => .cons (.int n) (Rps.ints ns)
theorem Rps.ints_inv {G:Hp}:∀ {ns:List Int} {vs:List V},Rps G vs (ns.map PyData.int)->vs=ns.map V.int
 | [],_,.nil=>rfl
 | n :: ns,_,.cons r t=>by
  cases r
  rw [Rps.ints_inv t];rfl
mutual
theorem Rp.rep {G:Hp}:∀ {v:V} {d:PyData},Rp G v d->aas d=true->Rep G v d
 | _,_,.non,_ => .non
 | _,_,.bl b,_ => .bl b
 | _,_,.int i,_ => .int i
 | _,_,.str x,_ => .str x
 | _,_,.lst h r,p => .lst h (Rps.reps r (by simpa [aas] using p))
 | _,_,.tup h r,p => .tup h (Rps.reps r (by simpa [aas] using p))
 | _,_,.dk h r e,p=>by simp [aas] at p
 | _,_,.dt h r e,p=>by simp [aas] at p
theorem Rps.reps {G:Hp}:∀ {vs:List V} {ds:List PyData},Rps G vs ds->plainDs ds=true->Reps G vs ds
 | _,_,.nil,_ => .nil
 | _,_,.cons r t,p=>by
  simp only [plainDs,aD6] at p
  exact .cons (Rp.rep r p.1) (Rps.reps t p.2)
end
structure Own where
 P:Hp->Hp->V->(Addr->Prop)->Prop
 mono:∀ {G H G' H':Hp} {v:V} {F:Addr->Prop},P G H v F->Same G G'->(∀ a o,F a->H a=some o->H' a=some o)->P G' H' v F
 dom:∀ {G H:Hp} {v:V} {F:Addr->Prop},P G H v F->∀ a,F a->∃ o,H a=some o
inductive Sl where
 | st (d:PyData) | own (A:Own) | io (A:Own) | scr (ns:List Int)
abbrev En:=List (Option Sl)
structure Bs where
 K:Frag
 G:Hp
 H:Hp
 R:Hp
 S:St
 F:Nat->Addr->Prop
def SlOk (B:Bs) (G H:Hp) (i:Nat) (v:V) (F:Addr->Prop):Sl->Prop
 | .st d=>Rp G v d/\∀ a,¬ F a
 | .own A=>A.P G H v F/\∀ a,F a->B.H a=none
 | .io A=>A.P G H v F/\(∀ a,F a->B.F i a\/B.H a=none)/\B.S[i]?=some (some v)
 | .scr ns=>(∃ a,v=.ref a/\SqL B.K G a (ns.map V.int))/\∀ a,¬ F a
def FT (G H:Hp):Prop:=∀ (a:Addr) (ks:List Key),H a=some (.tup (ks.map kV))->G a=some (.tup (ks.map kV))
structure VI (B:Bs) (G H:Hp) (σ:St) (env:En) (F:Nat->Addr->Prop):Prop where
 gh:Same G H
 g0:Same B.G G
 gn:∀ a o,G a=some o->B.G a=some o\/B.H a=none
 rs:Same B.R H
 rb:Same B.R B.H
 bh:∀ a o,B.H a=some o->∃ o',H a=some o'
 fg:∀ i a,F i a->G a=none
 fr:∀ i a,F i a->B.R a=none
 fd:∀ i j a,F i a->F j a->i=j
 fo:∀ i a,F i a->∃ o,H a=some o
 sl:∀ i s,env[i]?=some (some s)->∃ v,σ[i]?=some (some v)/\SlOk B G H i v (F i) s
 ln : σ.length=env.length
 ft:FT G H
def RsOk (G H:Hp) (v:V) (F:Addr->Prop):Sl->Prop
 | .st d=>Rp G v d/\∀ a,¬ F a
 | .own A=>A.P G H v F
 | _=>False
structure RsX (B:Bs) (G H:Hp) (v:V) (Fv:Addr->Prop) (s:Sl) (F:Nat->Addr->Prop):Prop where
 ok:RsOk G H v Fv s
 fb:∀ a,Fv a->B.H a=none
 fg:∀ a,Fv a->G a=none
 fo:∀ a,Fv a->∃ o,H a=some o
 fd:∀ j a,Fv a->¬ F j a
structure Out (G H:Hp) (v:V) (G' H':Hp) (s:Sl) (Fv:Addr->Prop):Prop where
 gg:Same G G'
 gh:Same G' H'
 hh:Same H H'
 gn:∀ a o,G' a=some o->G a=some o\/H a=none
 fn:∀ a,Fv a->H a=none
 fg:∀ a,Fv a->G' a=none
 fo:∀ a,Fv a->∃ o,H' a=some o
 ok:RsOk G' H' v Fv s
 ft:FT G H->FT G' H'
theorem ank {α:Type} {o:Option α} (h:o ≠ none):∃ x,o=some x:=by
 cases o with
 | none=>exact absurd rfl h
 | some x=>exact ⟨x,rfl⟩
theorem SlOk.mono {B:Bs} {G H G' H':Hp} {i:Nat} {v:V} {F:Addr->Prop} {s:Sl} (h:SlOk B G H i v F s) (g:Same G G') (hh:∀ a o,F a->H a=some o->H' a=some o):SlOk B G' H' i v F s:=by
 cases s with
 | st d=>exact ⟨h.1.same g,h.2⟩
 | own A=>exact ⟨A.mono h.1 g hh,h.2⟩
 | io A=>exact ⟨A.mono h.1 g hh,h.2⟩
 | scr ns =>
  obtain ⟨⟨a,e,q⟩,n⟩:=h
  exact ⟨⟨a,e,g.seq q⟩,n⟩
section
variable {B:Bs} {G H G' H':Hp} {σ:St} {env:En} {F:Nat->Addr->Prop} {v:V} {s:Sl} {Fv:Addr->Prop}
theorem VI.no_r (I:VI B G H σ env F) {a:Addr} (h:H a=none):B.R a=none:=by
 cases e:B.R a with
 | none=>rfl
 | some o=>rw [I.rs a o e] at h;cases h
theorem VI.no_b (I:VI B G H σ env F) {a:Addr} (h:H a=none):B.H a=none:=by
 cases e:B.H a with
 | none=>rfl
 | some o=>obtain ⟨o',b⟩:=I.bh a o e;rw [b] at h;cases h
theorem VI.no_g (I:VI B G H σ env F) {a:Addr} (h:H a=none):G a=none:=by
 cases e:G a with
 | none=>rfl
 | some o=>rw [I.gh a o e] at h;cases h
theorem VI.no_f (I:VI B G H σ env F) {a:Addr} (h:H a=none) (i:Nat):¬ F i a:=fun z=>by
 obtain ⟨o,e⟩:=I.fo i a z;rw [e] at h;cases h
theorem VI.grow (I:VI B G H σ env F) (gg:Same G G') (gh:Same G' H') (hh:Same H H') (gn:∀ a o,G' a=some o->G a=some o\/H a=none) (ft:FT G' H'):VI B G' H' σ env F where
 gh:=gh
 g0:=I.g0.trans gg
 gn:=fun a o e=>by
  rcases gn a o e with e | e
  ·exact I.gn a o e
  ·exact .inr (I.no_b e)
 rs:=I.rs.trans hh
 rb:=I.rb
 bh:=fun a o e=>by obtain ⟨o',c⟩:=I.bh a o e;exact ⟨o',hh _ _ c⟩
 fg:=fun i a z=>by
  cases e:G' a with
  | none=>rfl
  | some o =>
   rcases gn a o e with e | e
   ·rw [I.fg i a z] at e;cases e
   ·exact absurd z (I.no_f e i)
 fr:=I.fr
 fd:=I.fd
 fo:=fun i a z=>by obtain ⟨o,e⟩:=I.fo i a z;exact ⟨o,hh _ _ e⟩
 sl:=fun i s e=>by
  obtain ⟨v,d,b⟩:=I.sl i s e
  exact ⟨v,d,b.mono gg fun a o _ q=>hh _ _ q⟩
 ln:=I.ln
 ft:=ft
theorem VI.out (I:VI B G H σ env F) (o:Out G H v G' H' s Fv):VI B G' H' σ env F/\RsX B G' H' v Fv s F :=
 ⟨I.grow o.gg o.gh o.hh o.gn (o.ft I.ft),o.ok,fun a z=>I.no_b (o.fn a z),o.fg,o.fo,fun j a z y=>I.no_f (o.fn a z) j y⟩
theorem VI.b_r (I:VI B G H σ env F) {a:Addr} (h:B.H a=none):B.R a=none:=by
 cases e:B.R a with
 | none=>rfl
 | some o=>rw [I.rb a o e] at h;cases h
def putF (F:Nat->Addr->Prop) (i:Nat) (Fv:Addr->Prop):Nat->Addr->Prop:=fun j a=>if j=i then Fv a else F j a
theorem putF_same {i:Nat} {a:Addr}:putF F i Fv i a ↔ Fv a:=by unfold putF;rw [aC1 rfl]
theorem aej {i:Nat}:putF F i Fv i=Fv:=by funext a;unfold putF;rw [aC1 rfl]
theorem aa8 {i j:Nat} (h:j ≠ i):putF F i Fv j=F j:=by funext a;unfold putF;rw [aC2 h]
theorem VI.slot (I:VI B G H σ env F) (i:Nat) (o:Option V) (os:Option Sl) (fg:∀ a,Fv a->G a=none) (fr:∀ a,Fv a->B.R a=none) (fo:∀ a,Fv a->∃ o,H a=some o) (fd:∀ j a,j ≠ i->Fv a->¬ F j a)
  (ok:∀ s,os=some s->∃ v,o=some v/\SlOk B G H i v Fv s):VI B G H (σ.set i o) (env.set i os) (putF F i Fv) where
 gh:=I.gh
 g0:=I.g0
 gn:=I.gn
 rs:=I.rs
 rb:=I.rb
 bh:=I.bh
 fg:=fun j a z=>by
  by_cases h:j=i
  ·subst h;exact fg a (putF_same.mp z)
  ·rw [aa8 h] at z;exact I.fg j a z
 fr:=fun j a z=>by
  by_cases h:j=i
  ·subst h;exact fr a (putF_same.mp z)
  ·rw [aa8 h] at z;exact I.fr j a z
 fd:=fun j k a y z=>by
  by_cases h:j=i
  ·by_cases g:k=i
   ·rw [h,g]
   ·subst h;rw [aa8 g] at z;exact absurd z (fd k a g (putF_same.mp y))
  ·by_cases g:k=i
   ·subst g;rw [aa8 h] at y;exact absurd y (fd j a h (putF_same.mp z))
   ·rw [aa8 h] at y;rw [aa8 g] at z;exact I.fd j k a y z
 fo:=fun j a z=>by
  by_cases h:j=i
  ·subst h;exact fo a (putF_same.mp z)
  ·rw [aa8 h] at z;exact I.fo j a z
 sl:=fun j t e=>by
  by_cases h:j=i
  ·subst h
   rw [aA6,aC1 rfl] at e
   by_cases hl:j < env.length
   ·rw [aC1 hl] at e
    obtain ⟨v,b,q⟩:=ok t (aA0 e)
    refine ⟨v,by rw [aA6,aC1 rfl,aC1 (by rw [I.ln];exact hl),b],?_⟩
    rw [aej];exact q
   ·rw [aC2 hl] at e;cases e
  ·rw [aA6,aC2 (fun z=>h z.symm)] at e
   obtain ⟨v,b,q⟩:=I.sl j t e
   refine ⟨v,by rw [aA6,aC2 (fun z=>h z.symm)];exact b,?_⟩
   rw [aa8 h];exact q
 ln:=by simp [I.ln]
 ft:=I.ft
theorem VI.store (I:VI B G H σ env F) (r:RsX B G H v Fv s F) (i:Nat):VI B G H (σ.set i (some v)) (env.set i (some s)) (putF F i Fv):=by
 refine I.slot i (some v) (some s) r.fg (fun a z=>I.b_r (r.fb a z)) r.fo (fun j a _ z=>r.fd j a z) fun t e=>?_
 cases e
 refine ⟨v,rfl,?_⟩
 have:=r.ok
 cases s with
 | st d=>exact this
 | own A=>exact ⟨this,r.fb⟩
 | io A=>exact this.elim
 | scr ns=>exact this.elim
theorem VI.drop (I:VI B G H σ env F) (i:Nat):VI B G H σ (env.set i none) (putF F i fun _=>False):=by
 have:=I.slot (Fv:=fun _=>False) i ((σ[i]?).getD none) none (fun a z=>z.elim) (fun a z=>z.elim) (fun a z=>z.elim) (fun j a _ z=>z.elim) (fun s e=>by cases e)
 rwa [show σ.set i ((σ[i]?).getD none) = σ from ?_] at this
 apply aC7
 intro j
 rw [aA6]
 by_cases h:i=j
 ·subst h
  rw [aC1 rfl]
  by_cases hl:i < σ.length
  ·rw [aC1 hl,ax5 hl];rfl
  ·rw [aC2 hl,aC3.mpr (by omega)]
 ·rw [aC2 h]
theorem VI.change {A:Own} (I:VI B G H σ env F) (i:Nat) {H2:Hp} {F2:Addr->Prop} {os os':Sl} (e:env[i]?=some (some os)) (g : σ[i]?=some (some v))
  (keep:∀ a o,¬ F i a->H a=some o->H2 a=some o) (n:∀ a o,H a=some o->∃ o',H2 a=some o') (c:∀ a,F2 a->(F i a\/H a=none)/\∃ o,H2 a=some o) (l:A.P G H2 v F2) (O:FT G H2)
  (hs:(os'=.own A/\∃ f,os=.own f)\/(os'=.io A/\∃ f,os=.io f)):VI B G H2 σ (env.set i (some os')) (putF F i F2):=by
 obtain ⟨Q,d,q⟩:=I.sl i os e
 rw [g] at d;cases d
 have p:∀ j a,j ≠ i->F j a->¬ F i a:=fun j a b y z=>b (I.fd j i a y z)
 have N:∀ a,F2 a->G a=none:=fun a z=>by
  rcases (c a z).1 with y | y
  ·exact I.fg i a y
  ·exact I.no_g y
 have J:VI B G H2 σ (env.set i none) (putF F i fun _=>False):=by
  have D:=I.drop i
  refine ⟨fun a o x=>keep a o (fun z=>by rw [I.fg i a z] at x;cases x) (I.gh a o x),D.g0,D.gn,fun a o x=>keep a o (fun z=>by rw [I.fr i a z] at x;cases x) (I.rs a o x),D.rb,fun a o x=>?_,D.fg,D.fr,D.fd,fun j a z=>?_,fun j s x=>?_,D.ln,O⟩
  ·obtain ⟨o',w⟩:=I.bh a o x
   exact n a o' w
  ·obtain ⟨o,x⟩:=D.fo j a z
   exact n a o x
  ·obtain ⟨u,r,K⟩:=D.sl j s x
   refine ⟨u,r,K.mono (Same.refl G) fun a o z y=>?_⟩
   by_cases b:j=i
   ·subst b;exact (putF_same.mp z).elim
   ·rw [aa8 b] at z
    exact keep a o (p j a b z) y
 have m:=J.slot (Fv:=F2) i (some v) (some os') N (fun a z=>by
   rcases (c a z).1 with y | y
   ·exact I.fr i a y
   ·exact I.no_r y) (fun a z=>(c a z).2) (fun j a b z y=>by
   rw [aa8 b] at y
   rcases (c a z).1 with x | x
   ·exact p j a b y x
   ·exact I.no_f x j y) fun t C=>by
   cases C
   refine ⟨v,rfl,?_⟩
   rcases hs with ⟨rfl,f,rfl⟩ | ⟨rfl,f,rfl⟩
   ·refine ⟨l,fun a z=>?_⟩
    rcases (c a z).1 with y | y
    ·exact q.2 a y
    ·exact I.no_b y
   ·refine ⟨l,fun a z=>?_,q.2.2⟩
    rcases (c a z).1 with y | y
    ·exact q.2.1 a y
    ·exact .inr (I.no_b y)
 have M : σ.set i (some v) = σ:=by
  apply aC7
  intro j
  rw [aA6]
  by_cases h:i=j
  ·subst h
   rw [aC1 rfl,g,aC1 (ax6.mp g).1]
  ·rw [aC2 h]
 have E:(env.set i none).set i (some os')=env.set i (some os'):=by simp
 have L:putF (putF F i fun _=>False) i F2=putF F i F2:=by
  funext j a
  by_cases h:j=i
  ·subst h;rw [aej,aej]
  ·rw [aa8 h,aa8 h,aa8 h]
 rw [M,E,L] at m
 exact m
end
open Classical in
def jn (G H:Hp) (F:Addr->Prop):Hp:=fun a=>if F a then H a else G a
theorem afs {G H:Hp} {F:Addr->Prop} {a:Addr} (h:F a):jn G H F a=H a:=aC1 h
theorem aj3 {G H:Hp} {F:Addr->Prop} {a:Addr} (h:¬ F a):jn G H F a=G a:=aC2 h
theorem abo {G H:Hp} {F:Addr->Prop} (h:∀ a,F a->G a=none):Same G (jn G H F):=fun a o e=>by
 rw [aj3 (fun z=>by rw [h a z] at e;cases e)];exact e
theorem anl {G H:Hp} {F:Addr->Prop} (h:Same G H):Same (jn G H F) H:=fun a o e=>by
 by_cases z:F a
 ·rw [afs z] at e;exact e
 ·rw [aj3 z] at e;exact h a o e
def Frz (A:Own) (d:PyData):Prop:=∀ (G H:Hp) (v:V) (F:Addr->Prop),A.P G H v F->(∀ a,F a->G a=none)->Same G H->Rp (jn G H F) v d
def FQ:Sl->(PyData->Prop)->Prop
 | .st d,R=>R d
 | .own A,R=>∃ d,Frz A d/\R d
 | _,_=>False
def OL (ds:List PyData):Own where
 P:=fun G H v F=>∃ a vs,v=.ref a/\H a=some (.lst vs)/\Rps G vs ds/\∀ b,F b ↔ b=a
 mono:=fun ⟨a,vs,e,h,r,f⟩ g hh=>⟨a,vs,e,hh a _ ((f a).mpr rfl) h,r.same g,f⟩
 dom:=fun ⟨a,vs,e,h,r,f⟩ b z=>by rw [(f b).mp z];exact ⟨_,h⟩
def OD (es:List (Key × PyData)):Own where
 P:=fun G H v F=>∃ a kvs,v=.ref a/\H a=some (.dK kvs)/\RpK G kvs es/\∀ b,F b ↔ b=a
 mono:=fun ⟨a,vs,e,h,r,f⟩ g hh=>⟨a,vs,e,hh a _ ((f a).mpr rfl) h,r.same g,f⟩
 dom:=fun ⟨a,vs,e,h,r,f⟩ b z=>by rw [(f b).mp z];exact ⟨_,h⟩
def OT (es:List (List Key × PyData)):Own where
 P:=fun G H v F=>∃ a kvs,v=.ref a/\H a=some (.dT kvs)/\RpT G kvs es/\∀ b,F b ↔ b=a
 mono:=fun ⟨a,vs,e,h,r,f⟩ g hh=>⟨a,vs,e,hh a _ ((f a).mpr rfl) h,r.same g,f⟩
 dom:=fun ⟨a,vs,e,h,r,f⟩ b z=>by rw [(f b).mp z];exact ⟨_,h⟩
theorem acu {ds:List PyData}:Frz (OL ds) (.list ds):=fun G H v F ⟨a,vs,e,h,r,f⟩ n g=>by
 subst e
 exact .lst (by rw [afs ((f a).mpr rfl)];exact h) (r.same (abo n))
theorem ao3 {es:List (Key × PyData)}:Frz (OD es) (.dict (es.map fun p=>(kD p.1,p.2))):=fun G H v F ⟨a,vs,e,h,r,f⟩ n g=>by
 subst e
 exact .dk (by rw [afs ((f a).mpr rfl)];exact h) (r.same (abo n)) rfl
theorem aw8 {d:PyData} {R:PyData->Prop} (h:R d):FQ (.st d) R:=h
theorem adj {ds:List PyData} {R:PyData->Prop} (h:R (.list ds)):FQ (.own (OL ds)) R:=⟨_,acu,h⟩
theorem aw9 {es:List (Key × PyData)} {R:PyData->Prop} (h:R (.dict (es.map fun p=>(kD p.1,p.2)))):FQ (.own (OD es)) R:=⟨_,ao3,h⟩
section
variable {B:Bs} {G H G' H':Hp} {σ:St} {env:En} {F:Nat->Addr->Prop} {v:V} {s:Sl} {Fv:Addr->Prop}
theorem VI.freeze (I:VI B G H σ env F) (fb:∀ a,Fv a->B.H a=none) (fd:∀ j a,Fv a->¬ F j a) (fg:∀ a,Fv a->G a=none):VI B (jn G H Fv) H σ env F where
 gh:=anl I.gh
 g0:=I.g0.trans (abo fg)
 gn:=fun a o e=>by
  by_cases z:Fv a
  ·exact .inr (fb a z)
  ·rw [aj3 z] at e;exact I.gn a o e
 rs:=I.rs
 rb:=I.rb
 bh:=I.bh
 fg:=fun i a z=>by
  rw [aj3 (fun y=>fd i a y z)];exact I.fg i a z
 fr:=I.fr
 fd:=I.fd
 fo:=I.fo
 sl:=fun i s e=>by
  obtain ⟨v,d,c⟩:=I.sl i s e
  exact ⟨v,d,c.mono (abo fg) fun a o _ q=>q⟩
 ln:=I.ln
 ft:=fun a b e=>abo fg _ _ (I.ft a b e)
theorem VI.frz {A:Own} {d:PyData} {i:Nat} (I:VI B G H σ env F) (e:env[i]?=some (some (.own A))) (f:Frz A d) :
  ∃ v,σ[i]?=some (some v)/\Rp (jn G H (F i)) v d/\Same G (jn G H (F i))/\VI B (jn G H (F i)) H σ (env.set i (some (.st d))) (putF F i fun _=>False):=by
 obtain ⟨v,b,q⟩:=I.sl i _ e
 have c:=f G H v (F i) q.1 (I.fg i) I.gh
 refine ⟨v,b,c,abo (I.fg i),?_⟩
 have D:=(I.drop i).freeze (Fv:=F i) q.2 (fun j a z y=>by
  by_cases h:j=i
  ·subst h;exact (putF_same.mp y).elim
  ·rw [aa8 h] at y;exact h (I.fd j i a y z)) (I.fg i)
 have J:=D.slot (Fv:=fun _=>False) i (some v) (some (.st d)) (fun a z=>z.elim) (fun a z=>z.elim) (fun a z=>z.elim) (fun j a _ z=>z.elim) (fun t g=>by cases g;exact ⟨v,rfl,c,fun a z=>z⟩)
 have m : σ.set i (some v) = σ:=by
  apply aC7
  intro j
  rw [aA6]
  by_cases h:i=j
  ·subst h
   rw [aC1 rfl,b,aC1 (ax6.mp b).1]
  ·rw [aC2 h]
 have l:putF (putF F i fun _=>False) i (fun _=>False)=putF F i fun _=>False:=by
  funext j a
  by_cases h:j=i
  ·subst h;rw [aej,aej]
  ·rw [aa8 h,aa8 h]
 rw [m,l,List.set_set] at J
 exact J
theorem Out.refl {d:PyData} (g:Same G H) (r:Rp G v d):Out G H v G H (.st d) (fun _=>False):=⟨Same.refl _,g,Same.refl _,fun a o e => .inl e,fun a z=>z.elim,fun a z=>z.elim,fun a z=>z.elim,⟨r,fun a z=>z⟩,fun t=>t⟩
theorem as0 {p:Addr} {o:HO} (g:Same G H) (h:H p=none):Same (upd G p o) (upd H p o):=fun a u e=>by
 by_cases z:a=p
 ·subst z;rw [aaj] at e ⊢;exact e
 ·rw [aaf z] at e ⊢;exact g a u e
theorem ach {p:Addr} (g:Same G H) (h:H p=none):G p=none:=by
 cases e:G p with
 | none=>rfl
 | some o=>rw [g p o e] at h;cases h
theorem Out.newT {p:Addr} {xs:List V} {ds:List PyData} (g:Same G H) (h:H p=none) (r:Rps G xs ds):Out G H (.ref p) (upd G p (.tup xs)) (upd H p (.tup xs)) (.st (.tuple ds)) (fun _=>False) where
 gg:=acg (ach g h)
 gh:=as0 g h
 hh:=acg h
 gn:=fun a o e=>by
  by_cases z:a=p
  ·subst z;exact .inr h
  ·rw [aaf z] at e;exact .inl e
 fn:=fun a z=>z.elim
 fg:=fun a z=>z.elim
 fo:=fun a z=>z.elim
 ok:=⟨.tup aaj (r.same (acg (ach g h))),fun a z=>z⟩
 ft:=fun t a b e=>by
  by_cases z:a=p
  ·subst z;rw [aaj] at e ⊢;exact e
  ·rw [aaf z] at e ⊢;exact t a b e
theorem Out.newO {p:Addr} {o:HO} {A:Own} (g:Same G H) (h:H p=none) (c:∀ xs,o ≠ .tup xs) (r:A.P G (upd H p o) (.ref p) (· = p)):Out G H (.ref p) G (upd H p o) (.own A) (· = p) where
 gg:=Same.refl _
 gh:=g.trans (acg h)
 hh:=acg h
 gn:=fun a o e => .inl e
 fn:=fun a z=>by rw [z];exact h
 fg:=fun a z=>by rw [z];exact ach g h
 fo:=fun a z=>by rw [z];exact ⟨_,aaj⟩
 ok:=r
 ft:=fun t a b e=>by
  by_cases z:a=p
  ·subst z;rw [aaj] at e;exact absurd (aA0 e) (c _)
  ·rw [aaf z] at e;exact t a b e
theorem Out.newL {p:Addr} {xs:List V} {ds:List PyData} (g:Same G H) (h:H p=none) (r:Rps G xs ds):Out G H (.ref p) G (upd H p (.lst xs)) (.own (OL ds)) (· = p) :=
 .newO g h (fun _ z=>nomatch z) ⟨p,xs,rfl,aaj,r,fun b=>Iff.rfl⟩
theorem Out.newD {p:Addr} {xs:List (Key × V)} {ds:List (Key × PyData)} (g:Same G H) (h:H p=none) (r:RpK G xs ds):Out G H (.ref p) G (upd H p (.dK xs)) (.own (OD ds)) (· = p) :=
 .newO g h (fun _ z=>nomatch z) ⟨p,xs,rfl,aaj,r,fun b=>Iff.rfl⟩
theorem Out.newDT {p:Addr} {xs:List (List Key × V)} {ds:List (List Key × PyData)} (g:Same G H) (h:H p=none) (r:RpT G xs ds):Out G H (.ref p) G (upd H p (.dT xs)) (.own (OT ds)) (· = p) :=
 .newO g h (fun _ z=>nomatch z) ⟨p,xs,rfl,aaj,r,fun b=>Iff.rfl⟩
end
def EvO (B:Bs) (te:TE) (env:En) (Q':Sl->En->Prop):Prop:=∀ (σ:St) (G H:Hp) (F:Nat->Addr->Prop) (Q:VK),VI B G H σ env F ->
 (∀ v G' H' F' Fv s env',VI B G' H' σ env' F'->Same G G'->RsX B G' H' v Fv s F'->Q' s env'->Q v H')->te σ H Q
def Ev (B:Bs) (te:TE) (env:En) (Q':PyData->En->Prop):Prop:=∀ (σ:St) (G H:Hp) (F:Nat->Addr->Prop) (Q:VK),VI B G H σ env F ->
 (∀ v G' H' F' d env',VI B G' H' σ env' F'->Same G G'->Rp G' v d->Q' d env'->Q v H')->te σ H Q
def EvT (B:Bs) (tt:TT) (env:En) (Q':Bool->En->Prop):Prop:=∀ (σ:St) (G H:Hp) (F:Nat->Addr->Prop) (Q:Bool->Hp->Prop),VI B G H σ env F ->
 (∀ b G' H' F' env',VI B G' H' σ env' F'->Same G G'->Q' b env'->Q b H')->tt σ H Q
def EvA (B:Bs) (ta:TA) (env:En) (Q':List PyData->En->Prop):Prop:=∀ (σ:St) (G H:Hp) (F:Nat->Addr->Prop) (Q:List V->Hp->Prop),VI B G H σ env F ->
 (∀ vs G' H' F' ds env',VI B G' H' σ env' F'->Same G G'->Rps G' vs ds->Q' ds env'->Q vs H')->ta σ H Q
structure ItOk (G:Hp) (J:It) (ds:List PyData):Prop where
 go:∀ i G' H',Same G G'->Same G' H'->i < ds.length->J.go i H'
 stop:∀ i G' H',Same G G'->Same G' H'->i=ds.length->J.stop i H'
 yld:∀ i G' H' x H'' d,Same G G'->Same G' H'->FT G' H'->ds[i]?=some d->J.yld i H' x H''->∃ G'',Out G' H' x G'' H'' (.st d) (fun _=>False)
def EvI (B:Bs) (ti:TI) (env:En) (Q':List PyData->En->Prop):Prop:=∀ (σ:St) (G H:Hp) (F:Nat->Addr->Prop) (R:It->Hp->Prop),VI B G H σ env F ->
 (∀ J G' H' F' ds env',VI B G' H' σ env' F'->Same G G'->ItOk G' J ds->Q' ds env'->R J H')->ti σ H R
def EvG (B:Bs) (g:TG) (s:Sl) (env:En) (Q':En->Prop):Prop:=∀ (σ:St) (G H:Hp) (F:Nat->Addr->Prop) (v:V) (Fv:Addr->Prop) (Q:St->Hp->Prop),VI B G H σ env F->RsX B G H v Fv s F ->
 (∀ σ' G' H' F' env',VI B G' H' σ' env' F'->Same G G'->Q' env'->Q σ' H')->g v σ H Q
def EvGs (B:Bs) (g:TGs) (ds:List PyData) (env:En) (Q':En->Prop):Prop:=∀ (σ:St) (G H:Hp) (F:Nat->Addr->Prop) (vs:List V) (Q:St->Hp->Prop),VI B G H σ env F->Rps G vs ds ->
 (∀ σ' G' H' F' env',VI B G' H' σ' env' F'->Same G G'->Q' env'->Q σ' H')->g vs σ H Q
structure VEnds where
 nx:En->Prop
 rt:Sl->En->Prop
 bk:En->Prop:=fun _=>False
 ct:En->Prop:=fun _=>False
structure RelE (B:Bs) (G:Hp) (D:Ends) (D':VEnds):Prop where
 nx:∀ σ G' H F env,VI B G' H σ env F->Same G G'->D'.nx env->D.nx σ H
 rt:∀ σ G' H F env v Fv s,VI B G' H σ env F->Same G G'->RsX B G' H v Fv s F->D'.rt s env->D.rt v H
 bk:∀ σ G' H F env,VI B G' H σ env F->Same G G'->D'.bk env->D.bk σ H
 ct:∀ σ G' H F env,VI B G' H σ env F->Same G G'->D'.ct env->D.ct σ H
def EvS (B:Bs) (ts:TS) (D':VEnds) (env:En):Prop:=∀ (σ:St) (G H:Hp) (F:Nat->Addr->Prop) (D:Ends),VI B G H σ env F->RelE B G D D'->ts D σ H
theorem RelE.later {B:Bs} {G G':Hp} {D:Ends} {D':VEnds} (r:RelE B G D D') (g:Same G G'):RelE B G' D D' :=
 ⟨fun σ a H F env I q=>r.nx σ a H F env I (g.trans q),fun σ a H F env v Fv s I q=>r.rt σ a H F env v Fv s I (g.trans q),fun σ a H F env I q=>r.bk σ a H F env I (g.trans q),fun σ a H F env I q=>r.ct σ a H F env I (g.trans q)⟩
section
variable {B:Bs} {env:En} {Q':PyData->En->Prop} {QO:Sl->En->Prop} {QT:Bool->En->Prop} {QA:List PyData->En->Prop} {te ta tb:TE}
theorem acv {G H:Hp} {v:V} {d:PyData} {F:Nat->Addr->Prop} (r:Rp G v d):RsX B G H v (fun _=>False) (.st d) F:=⟨⟨r,fun a z=>z⟩,fun a z=>z.elim,fun a z=>z.elim,fun a z=>z.elim,fun j a z=>z.elim⟩
theorem aby (h:Ev B te env fun d e=>QO (.st d) e):EvO B te env QO:=fun σ G H F Q I k =>
 h σ G H F Q I fun v G' H' F' d a b g r q=>k v G' H' F' _ (.st d) a b g (acv r) q
theorem abc (h:EvO B te env fun s e=>FQ s fun d=>Q' d e):Ev B te env Q':=fun σ G H F Q I k =>
 h σ G H F Q I fun v G' H' F' Fv s a b g r q=>by
  cases s with
  | st d=>exact k v G' H' F' d a b g r.ok.1 q
  | own A =>
   obtain ⟨d,f,q⟩:=q
   exact k v _ H' F' d a (b.freeze r.fb r.fd r.fg) (g.trans (abo r.fg)) (f G' H' v Fv r.ok r.fg b.gh) q
  | io A=>exact q.elim
  | scr ns=>exact q.elim
theorem avm {i:Nat} {d:PyData} (e:env[i]?=some (some (.st d))) (q:Q' d env):Ev B (tVar i) env Q':=fun σ G H F Q I k=>by
 obtain ⟨v,a,r⟩:=I.sl i _ e
 exact ⟨v,a,k v G H F d env I (Same.refl _) r.1 q⟩
theorem as4 {i:Nat} {A:Own} {d:PyData} (e:env[i]?=some (some (.own A))) (f:Frz A d) (q:Q' d (env.set i (some (.st d)))):Ev B (tVar i) env Q':=fun σ G H F Q I k=>by
 obtain ⟨v,a,r,g,J⟩:=I.frz e f
 exact ⟨v,a,k v _ H _ d _ J g r q⟩
theorem aet {i:Nat} {A:Own} (e:env[i]?=some (some (.own A))) (q:QO (.own A) (env.set i none)):EvO B (tVar i) env QO:=fun σ G H F Q I k=>by
 obtain ⟨v,b,r⟩:=I.sl i _ e
 refine ⟨v,b,k v G H _ (F i) (.own A) _ (I.drop i) (Same.refl _) ⟨r.1,r.2,I.fg i,I.fo i,fun j a z y=>?_⟩ q⟩
 by_cases h:j=i
 ·subst h;exact putF_same.mp y
 ·rw [aa8 h] at y;exact h (I.fd j i a y z)
theorem ao4 {i:Int} (q:Q' (.int i) env):Ev B (tC (.int i)) env Q':=fun σ G H F Q I k=>k _ G H F _ env I (Same.refl _) (.int i) q
theorem axa {b:Bool} (q:Q' (.bool b) env):Ev B (tC (.bl b)) env Q':=fun σ G H F Q I k=>k _ G H F _ env I (Same.refl _) (.bl b) q
theorem avn (q:Q' .none env):Ev B (tC .non) env Q':=fun σ G H F Q I k=>k _ G H F _ env I (Same.refl _) .non q
theorem avo {x:Str} (q:Q' (.str x) env):Ev B (tC (.str x)) env Q':=fun σ G H F Q I k=>k _ G H F _ env I (Same.refl _) (.str x) q
def Op2 (r:R2) (x y:PyData) (R:Sl->Prop):Prop:=∀ (G H:Hp) (vx vy:V) (Q:VK),Same G H->Rp G vx x->Rp G vy y->(∀ v G' H' s Fv,Out G H v G' H' s Fv->R s->Q v H')->r vx vy H Q
def Op1 (r:V->Hp->VK->Prop) (x:PyData) (R:Sl->Prop):Prop:=∀ (G H:Hp) (vx:V) (Q:VK),Same G H->Rp G vx x->(∀ v G' H' s Fv,Out G H v G' H' s Fv->R s->Q v H')->r vx H Q
def OpA (r:List V->Hp->VK->Prop) (ds:List PyData) (R:Sl->Prop):Prop:=∀ (G H:Hp) (vs:List V) (Q:VK),Same G H->Rps G vs ds->(∀ v G' H' s Fv,Out G H v G' H' s Fv->R s->Q v H')->r vs H Q
theorem ak5 {r:R2} (h:Ev B ta env fun x c=>Ev B tb c fun y a=>Op2 r x y fun s=>QO s a):EvO B (tOp r ta tb) env QO:=fun σ G H F Q I k =>
 h σ G H F _ I fun i w A f x c j l u p=>p σ w A f _ j fun z g H2 F2 y a b d C m =>
  m g H2 i z Q b.gh (u.same d) C fun v q H3 s Fv o n=>k v q H3 F2 Fv s a (b.out o).1 (l.trans (d.trans o.gg)) (b.out o).2 n
theorem axb {r:R2} (h:Ev B ta env fun x b=>Ev B tb b fun y a=>Op2 r x y fun s=>FQ s fun d=>Q' d a):Ev B (tOp r ta tb) env Q':=abc (ak5 h)
theorem avp {r:V->Hp->VK->Prop} (h:Ev B ta env fun x b=>Op1 r x fun s=>QO s b):EvO B (tUn r ta) env QO:=fun σ G H F Q I k =>
 h σ G H F _ I fun d m n c x b a f l i=>i m n d Q a.gh l fun v j H3 s Fv o g=>k v j H3 c Fv s b (a.out o).1 (f.trans o.gg) (a.out o).2 g
theorem axc {r:V->Hp->VK->Prop} (h:Ev B ta env fun x a=>Op1 r x fun s=>FQ s fun d=>Q' d a):Ev B (tUn r ta) env Q':=abc (avp h)
theorem amn (q:QA [] env):EvA B tNil env QA:=fun σ G H F Q I k=>k [] G H F [] env I (Same.refl _) .nil q
theorem ak6 {tr:TA} (h:Ev B ta env fun x b=>EvA B tr b fun xs a=>QA (x :: xs) a):EvA B (abn ta tr) env QA:=fun σ G H F Q I k =>
 h σ G H F _ I fun r n o d x b g i m l=>l σ n o d _ g fun vs f H2 F2 ds a p c q j=>k _ f H2 F2 _ a p (i.trans c) (.cons (m.same c) q) j
theorem ao5 {r:List V->Hp->VK->Prop} {t:TA} (h:EvA B t env fun ds b=>OpA r ds fun s=>QO s b):EvO B (tCB r t) env QO:=fun σ G H F Q I k =>
 h σ G H F _ I fun vs l m c ds b a d j g=>g l m vs Q a.gh j fun v i H3 s Fv o f=>k v i H3 c Fv s b (a.out o).1 (d.trans o.gg) (a.out o).2 f
theorem axd {r:List V->Hp->VK->Prop} {t:TA} (h:EvA B t env fun ds a=>OpA r ds fun s=>FQ s fun d=>Q' d a):Ev B (tCB r t) env Q':=abc (ao5 h)
theorem amo {t:TA} (h:EvA B t env fun ds b=>ds.length<=1000/\QO (.st (.tuple ds)) b):EvO B (tTup t) env QO:=fun σ G H F Q I k =>
 h σ G H F _ I fun vs j l f ds b a i d c=>⟨by rw [d.length];exact aD0 (ad5 c.1),fun p g=>by
  have o:=Out.newT a.gh g d
  exact k _ _ _ f _ _ b (a.out o).1 (i.trans o.gg) (a.out o).2 c.2⟩
theorem avq {t:TA} (h:EvA B t env fun ds a=>ds.length<=1000/\Q' (.tuple ds) a):Ev B (tTup t) env Q':=abc (amo h)
theorem amp {t:TA} (h:EvA B t env fun ds b=>ds.length<=1000/\QO (.own (OL ds)) b):EvO B (tLst t) env QO:=fun σ G H F Q I k =>
 h σ G H F _ I fun vs j l f ds b a i d c=>⟨by rw [d.length];exact aD0 (ad5 c.1),fun p g=>by
  have o:=Out.newL a.gh g d
  exact k _ _ _ f _ _ b (a.out o).1 (i.trans o.gg) (a.out o).2 c.2⟩
theorem avr {t:TA} (h:EvA B t env fun ds a=>ds.length<=1000/\Q' (.list ds) a):Ev B (tLst t) env Q':=abc (amp fun σ G H F Q I k=>h σ G H F Q I fun vs G' H' F' ds a b g r q=>k vs G' H' F' ds a b g r ⟨q.1,adj q.2⟩)
theorem ak7 (h:Ev B te env fun x a=>∃ b,x=.bool b/\QT b a):EvT B (ar3 te) env QT:=fun σ G H F Q I k =>
 h σ G H F _ I fun v i l c x a d f g j=>by
  obtain ⟨b,e,q⟩:=j
  subst e
  cases g
  exact ⟨b,rfl,k b i l c a d f q⟩
theorem axe (h:Ev B te env fun x a=>∃ b,x=.bool b/\QT b a):EvT B (tB te) env QT:=ak7 h
theorem x_bl {b:Bool} {R:Bool->Prop} (h:R b):∃ c,PyData.bool b=.bool c/\R c:=⟨b,rfl,h⟩
theorem as6 {t u:TT} (h:EvT B t env fun c a=>if c=true then EvT B u a QT else QT false a):EvT B (tAnd t u) env QT:=fun σ G H F Q I k =>
 h σ G H F _ I fun b i j d a f g q=>by
  cases b with
  | true=>rw [aC1 rfl] at q ⊢;exact q σ i j d Q f fun c l H2 F2 m o p n=>k c l H2 F2 m o (g.trans p) n
  | false=>rw [aC2 ay4] at q ⊢;exact k false i j d a f g q
theorem avs {t u:TT} (h:EvT B t env fun c a=>if c=true then QT true a else EvT B u a QT):EvT B (tOr t u) env QT:=fun σ G H F Q I k =>
 h σ G H F _ I fun b i j d a f g q=>by
  cases b with
  | false=>rw [aC2 ay4] at q ⊢;exact q σ i j d Q f fun c l H2 F2 m o p n=>k c l H2 F2 m o (g.trans p) n
  | true=>rw [aC1 rfl] at q ⊢;exact k true i j d a f g q
theorem as7 {t:TT} (h:EvT B t env fun c a=>QT (!c) a):EvT B (tNot t) env QT:=fun σ G H F Q I k =>
 h σ G H F _ I fun b i j d a f g q=>k (!b) i j d a f g q
theorem aco (q:QT true env):EvT B tYes env QT:=fun σ G H F Q I k=>k true G H F env I (Same.refl _) q
def TruD:PyData->Bool->Prop
 | .bool b,k=>k=b
 | .list ds,k=>k = !ds.isEmpty
 | _,_=>False
theorem as8 {K:Frag} (h:Ev B te env fun x a=>∃ b,TruD x b/\QT b a):EvT B (tTru K te) env QT:=fun σ G H F Q I k =>
 h σ G H F _ I fun v i j f x a d g l n=>by
  obtain ⟨b,e,q⟩:=n
  cases l with
  | bl c=>cases e;exact ⟨_,rfl,k _ i j f a d g q⟩
  | lst ha rs =>
   refine ⟨b,.inl ⟨_,SqL.of (d.gh _ _ ha),?_⟩,k _ i j f a d g q⟩
   have m:b = !_:=e
   rw [m]
   cases rs <;> rfl
  | _=>exact e.elim
theorem as9 (h:Ev B ta env fun x a=>∃ b,x=.bool b/\if b=true then Ev B tb a Q' else Q' (.bool false) a):Ev B (am2 ta tb) env Q':=fun σ G H F Q I k =>
 h σ G H F _ I fun v i j c x a f g o p=>by
  obtain ⟨b,e,q⟩:=p
  subst e
  cases o
  refine ⟨b,rfl,?_⟩
  cases b with
  | true=>rw [aC1 rfl] at q ⊢;exact q σ i j c Q f fun v l H2 F2 d m r s u n=>k v l H2 F2 d m r (g.trans s) u n
  | false=>rw [aC2 ay4] at q ⊢;exact k _ i j c _ a f g (.bl false) q
theorem ata (h:Ev B ta env fun x a=>∃ b,x=.bool b/\Q' (.bool (!b)) a):Ev B (am3 ta) env Q':=fun σ G H F Q I k =>
 h σ G H F _ I fun v i l c x a d f g j=>by
  obtain ⟨b,e,q⟩:=j
  subst e
  cases g
  exact ⟨b,rfl,k _ i l c _ a d f (.bl _) q⟩
theorem aqp {r w:R2} {P:TE} (h:Ev B ta env fun x N=>Ev B tb N fun y a=>Op2 r x y fun s=>∃ b,s=.st (.bool b)/\if b=true then Ev B P a fun z e3=>Op2 w y z fun U=>FQ U fun d=>Q' d e3 else Q' (.bool false) a):Ev B (aj8 r w ta tb P) env Q':=fun σ G H F Q I k =>
 h σ G H F _ I fun Y G1 H1 W x N Z D r1 q1=>q1 σ G1 H1 W _ Z fun O X H2 F2 y a R p L q2 =>
  q2 X H2 Y O _ R.gh (r1.same p) L fun v M H3 s Fv o z_=>by
   obtain ⟨b,es,c⟩:=z_
   have K:=(R.out o).1
   have i:=o.ok
   subst es
   obtain ⟨i,_⟩:=i
   cases i
   refine ⟨b,rfl,?_⟩
   cases b with
   | false=>rw [aC2 ay4] at c ⊢;exact k _ M H3 F2 _ a K (D.trans (p.trans o.gg)) (.bl _) c
   | true =>
    rw [aC1 rfl] at c ⊢
    refine c σ M H3 F2 _ K fun v3 G4 H4 u z T S E r4 q4=>q4 G4 H4 O v3 Q S.gh (L.same (o.gg.trans E)) r4 fun m C n s5 j l g=>?_
    have J:=S.out l
    have gg:=D.trans (p.trans (o.gg.trans (E.trans l.gg)))
    cases s5 with
    | st d=>exact k m C n u d T J.1 gg l.ok.1 g
    | own A =>
     obtain ⟨d,f,q⟩:=g
     exact k m _ n u d T (J.1.freeze J.2.fb J.2.fd J.2.fg) (gg.trans (abo J.2.fg)) (f C n m j J.2.ok J.2.fg J.1.gh) q
    | io A=>exact g.elim
    | scr ns=>exact g.elim
end
section
variable {B:Bs} {env:En} {D':VEnds} {t u tb:TS} {te:TE} {g:TG} {c:TT} {QE:En->Prop}
theorem atb (h:EvS B t { D' with nx:=fun e=>EvS B u D' e } env):EvS B (tSeq t u) D' env:=fun σ G H F D I r =>
 h σ G H F { D with nx:=u D } I ⟨fun σ G' H F env a g q=>q σ G' H F D a (r.later g),r.rt,r.bk,r.ct⟩
theorem adf (h:D'.nx env):EvS B arw D' env:=fun σ G H F D I r=>r.nx σ G H F env I (Same.refl _) h
theorem aft (h:EvO B te env fun s e=>EvG B g s e D'.nx):EvS B (tAsg te g) D' env:=fun σ G H F D I r =>
 h σ G H F _ I fun v m o b Fv s u d f n l=>l σ m o b v Fv D.nx d n fun a c H2 F2 i p q j=>r.nx a c H2 F2 i p (f.trans q) j
theorem aaw {i:Nat} {s:Sl} (h:QE (env.set i (some s))):EvG B (aav i) s env QE:=fun σ G H F v Fv Q I x k=>k _ G H _ _ (I.store x i) (Same.refl _) h
theorem agk (h:QE env):EvGs B gNil [] env QE:=fun σ G H F vs Q I x k=>by cases x;exact ⟨rfl,k σ G H F env I (Same.refl _) h⟩
theorem adr {c:TGs} {d:PyData} {ds:List PyData} (h:EvG B g (.st d) env fun e=>EvGs B c ds e QE):EvGs B (abz g c) (d :: ds) env QE:=fun σ G H F vs Q I x k=>by
 cases x with
 | cons r rs =>
  refine ⟨_,_,rfl,h σ G H F _ _ _ I (acv r) fun b p q i v l f o=>o b p q i _ Q l (rs.same f) fun a j H2 F2 m s u n=>k a j H2 F2 m s (f.trans u) n⟩
theorem amq {K:Frag} {n:Nat} {a:TGs} {ds:List PyData} (b:ds.length=n) (h:EvGs B a ds env QE):EvG B (gTup K n a) (.st (.tuple ds)) env QE:=fun σ G H F v Fv Q I x k=>by
 obtain ⟨r,_⟩:=x.ok
 cases r with
 | tup ha rs=>exact ⟨_,_,rfl,SqT.of (I.gh _ _ ha),by rw [rs.length,b],h σ G H F _ Q I rs k⟩
theorem amr (h:EvO B te env fun s e=>D'.rt s e):EvS B (tRet te) D' env:=fun σ G H F D I r =>
 h σ G H F _ I fun v f j a Fv s g b c i d=>r.rt σ f j a g v Fv s b c i d
theorem aqq (h:EvO B te env fun _ e=>D'.nx e):EvS B (arx te) D' env:=fun σ G H F D I r =>
 h σ G H F _ I fun v f i a Fv s g b c j d=>r.nx σ f i a g b c d
theorem avt (h:EvT B c env fun b e=>if b=true then EvS B t D' e else EvS B u D' e):EvS B (tIfS c t u) D' env:=fun σ G H F D I r =>
 h σ G H F _ I fun b g i a j d f q=>by
  cases b with
  | true=>rw [aC1 rfl] at q ⊢;exact q σ g i a D d (r.later f)
  | false=>rw [aC2 ay4] at q ⊢;exact q σ g i a D d (r.later f)
def ForV (B:Bs) (g:TG) (tb:TS) (D':VEnds) (ds:List PyData) (e1:En):Prop:=∃ J:Nat->En->Prop,J 0 e1/\(∀ i d e,ds[i]?=some d->J i e->EvG B g (.st d) e fun e2=>EvS B tb { D' with nx:=J (i+1),ct:=J (i+1),bk:=D'.nx } e2)/\∀ e,J ds.length e->D'.nx e
theorem atc {K:TI} (h:EvI B K env fun ds C=>ForV B g tb D' ds C):EvS B (tFor K g tb) D' env:=fun σ G H F D I r =>
 h σ G H F _ I fun J z H1 Q ds C T w it z_=>by
  obtain ⟨N,R,S,X⟩:=z_
  refine ⟨fun i m σ H=>m=ds.length - i/\i<=ds.length/\∃ b F2 n,VI B b H σ n F2/\Same z b/\N i n,⟨ds.length,by simp,aC5 _,z,Q,C,T,Same.refl _,R⟩,?_⟩
  rintro i m σ H ⟨rfl,hi,b,F2,n,p,q,L⟩
  by_cases hlt:i < ds.length
  ·refine .inr ⟨it.go i b H q p.gh hlt,fun σ H=>∃ u Y O,VI B u H σ O Y/\Same z u/\N (i+1) O,fun a0 H' h'=>⟨ds.length - (i+1),by omega,rfl,hlt,h'⟩,fun x H' y=>?_⟩
   obtain ⟨u,o⟩:=it.yld i b H x H' _ q p.gh p.ft (ax5 hlt) y
   have M:=p.out o
   refine S i _ n (ax5 hlt) L σ u H' F2 x _ _ M.1 M.2 fun E Z U P e4 I4 W q4=>?_
   have gg:=q.trans (o.gg.trans W)
   refine q4 E Z U P _ I4 ⟨fun a c s f d l j A=>⟨c,f,d,l,gg.trans j,A⟩,fun a c s f d v5 v s5 l j=>r.rt a c s f d v5 v s5 l (w.trans (gg.trans j)),fun a c s f d l j=>r.nx a c s f d l (w.trans (gg.trans j)),fun a c s f d l j A=>⟨c,f,d,l,gg.trans j,A⟩⟩
  ·have e:i=ds.length:=by omega
   subst e
   exact .inl ⟨it.stop _ b H q p.gh rfl,r.nx σ b H F2 n p (w.trans q) (X n L)⟩
theorem aix (J:Nat->En->Prop) (x:∃ m,J m env) (h:∀ m e,J m e->EvT B c e fun b E=>if b=true then EvS B tb { D' with nx:=fun f=>∃ d,d < m/\J d f,ct:=fun f=>∃ d,d < m/\J d f,bk:=D'.nx } E else D'.nx E):EvS B (an7 c tb) D' env:=fun σ G H F D I r=>by
 obtain ⟨O,x⟩:=x
 refine ⟨fun m σ H=>∃ p F2 f,VI B p H σ f F2/\Same G p/\J m f,⟨O,G,F,env,I,Same.refl _,x⟩,?_⟩
 rintro m σ H ⟨p,F2,f,T,W,L⟩
 refine h m f L σ p H F2 _ T fun b C H3 A P z K q=>?_
 have gg:=W.trans K
 cases b with
 | false=>rw [aC2 ay4] at q ⊢;exact r.nx σ C H3 A P z gg q
 | true =>
  rw [aC1 rfl] at q ⊢
  refine ⟨fun σ H=>∃ s v u,VI B s H σ u v/\Same G s/\∃ d,d < m/\J d u,fun R H' ⟨s,v,u,U,M,d,hm,N⟩=>⟨d,hm,s,v,u,U,M,N⟩,?_⟩
  exact q σ C H3 A _ z ⟨fun a g o j i n l y=>⟨g,j,i,n,gg.trans l,y⟩,fun a g o j i S w Q n l=>r.rt a g o j i S w Q n (gg.trans l),fun a g o j i n l=>r.nx a g o j i n (gg.trans l),fun a g o j i n l y=>⟨g,j,i,n,gg.trans l,y⟩⟩
variable {QI:List PyData->En->Prop}
theorem aqr {K:Frag} (h:Ev B te env fun d e=>∃ ds,d=.list ds/\QI ds e):EvI B (am6 K te) env QI:=fun σ G H F R I k =>
 h σ G H F _ I fun v o s c d p b l n q=>by
  obtain ⟨ds,r,m⟩:=q
  subst r
  cases n with
  | @lst a vs ds ha rs =>
   refine ⟨a,rfl,⟨vs,SqL.of (b.gh _ _ ha)⟩,k _ o s c ds p b l ⟨fun i G' H' g h hi=>?_,fun i G' H' g h hi=>?_,fun i G' H' x H'' d g h ft hd y=>?_⟩ m⟩
   ·have:i < vs.length:=by rw [rs.length];exact hi
    exact ⟨vs,vs[i],SqL.of (h _ _ (g _ _ ha)),ax5 this⟩
   ·exact ⟨vs,SqL.of (h _ _ (g _ _ ha)),by rw [rs.length];exact Nat.le_of_eq hi.symm⟩
   ·obtain ⟨e,y⟩:=y
    subst e
    obtain ⟨v,j,f⟩:=rs.get hd
    have:=y vs (SqL.of (h _ _ (g _ _ ha)))
    rw [j] at this
    cases this
    exact ⟨G',Out.refl h (f.same g)⟩
theorem avu {ds:List PyData} {R:List PyData->Prop} (h:R ds):∃ xs,PyData.list ds=.list xs/\R xs:=⟨ds,rfl,h⟩
def rngD (lo:Int) (n:Nat):List PyData:=(List.range n).map fun (i:Nat) => .int (lo+(i:Int))
theorem acw {lo:Int} {n:Nat}:(rngD lo n).length=n:=by simp [rngD]
theorem agl {lo:Int} {n i:Nat} {d:PyData} (h:(rngD lo n)[i]?=some d):i < n/\d=.int (lo+(i:Int)):=by
 unfold rngD at h
 rw [ay0] at h
 have hi:i < n:=by
  have:=(ax6 (l:=(List.range n).map fun (i:Nat)=>PyData.int (lo+(i:Int)))).mp (by rw [ay0];exact h)
  obtain ⟨q,_⟩:=this
  simpa using q
 rw [ax5 (by simpa using hi)] at h
 simp at h
 exact ⟨hi,h.symm⟩
theorem ao6 {G:Hp} {lo:Int} {n:Nat}:ItOk G (Itr lo n) (rngD lo n):=by
 refine ⟨fun i G' H' g h hi=>?_,fun i G' H' g h hi=>?_,fun i G' H' x H'' d g h ft hd y=>?_⟩
 ·rw [acw] at hi;exact hi
 ·rw [acw] at hi;exact Nat.le_of_eq hi.symm
 ·obtain ⟨e,y⟩:=y
  subst e y
  rw [(agl hd).2]
  exact ⟨G',Out.refl h (.int _)⟩
def aj4 (ds:List PyData) (R:List PyData->Prop):Prop:=∃ j:Int,ds=[.int j]/\-(2 ^ 62)<=j/\j < 2 ^ 62/\R (rngD 0 j.toNat)
def aj5 (ds:List PyData) (R:List PyData->Prop):Prop:=∃ i j:Int,ds=[.int i,.int j]/\(-(2 ^ 62)<=i/\i < 2 ^ 62/\-(2 ^ 62)<=j/\j < 2 ^ 62)/\R (rngD i (j - i).toNat)
theorem aqs {a:TA} (h:EvA B a env fun ds e=>aj4 ds fun xs=>QI xs e):EvI B (ary a) env QI:=fun σ G H F R I k =>
 h σ G H F _ I fun vs m q b ds n d f l o=>by
  obtain ⟨j,p,c,g,i⟩:=o
  subst p
  obtain rfl:vs=[V.int j]:=Rps.ints_inv (ns:=[j]) l
  exact ⟨j,rfl,c,g,k _ m q b _ n d f ao6 i⟩
theorem aqt {a:TA} (h:EvA B a env fun ds e=>aj5 ds fun xs=>QI xs e):EvI B (arz a) env QI:=fun σ G H F R I k =>
 h σ G H F _ I fun vs m q b ds n d f l o=>by
  obtain ⟨i,j,p,c,g⟩:=o
  subst p
  obtain rfl:vs=[V.int i,V.int j]:=Rps.ints_inv (ns:=[i,j]) l
  exact ⟨i,j,rfl,c,k _ m q b _ n d f ao6 g⟩
theorem avv {j:Int} {R:List PyData->Prop} (b : -4611686018427387904<=j) (a:j < 4611686018427387904) (h:R (rngD 0 j.toNat)):aj4 [.int j] R:=⟨j,rfl,by omega,by omega,h⟩
theorem avw {a b:Int} {R:List PyData->Prop} (c : -4611686018427387904<=a/\a < 4611686018427387904/\-4611686018427387904<=b/\b < 4611686018427387904) (h:R (rngD a (b - a).toNat)):aj5 [.int a,.int b] R:=⟨a,b,rfl,by omega,h⟩
theorem acy {lo:Int} {n:Nat} (J:Nat->En->Prop) (a:J 0 env) (hs:∀ i e,i < n->J i e->EvG B g (.st (.int (lo+(i:Int)))) e fun b=>EvS B tb { D' with nx:=J (i+1),ct:=J (i+1),bk:=D'.nx } b) (hd:∀ e,J n e->D'.nx e):ForV B g tb D' (rngD lo n) env :=
 ⟨J,a,fun i d e h j=>by obtain ⟨hi,rfl⟩:=agl h;exact hs i e hi j,fun e j=>hd e (by rw [acw] at j;exact j)⟩
theorem acr {α:Type} {f : α->PyData} {xs:List α} (J:Nat->En->Prop) (a:J 0 env) (hs:∀ i x e,xs[i]?=some x->J i e->EvG B g (.st (f x)) e fun b=>EvS B tb { D' with nx:=J (i+1),ct:=J (i+1),bk:=D'.nx } b) (hd:∀ e,J xs.length e->D'.nx e):ForV B g tb D' (xs.map f) env :=
 ⟨J,a,fun i d e h j=>by
  rw [ay0] at h
  cases hx:xs[i]? with
  | none=>rw [hx] at h;cases h
  | some x=>rw [hx] at h;cases h;exact hs i x e hx j,fun e j=>hd e (by rw [ax8] at j;exact j)⟩
end
theorem aqu {B:Bs} {a b:TS} {D':VEnds} {env:En} (h:∀ c:TS,c=b->EvS B a { D' with nx:=fun e=>EvS B c D' e } env):EvS B (tSeq a b) D' env:=atb (h b rfl)
theorem atd {B:Bs} {c b:TS} {D':VEnds} {env:En} (e:c=b) (h:EvS B b D' env):EvS B c D' env:=by rw [e];exact h
@[elab_as_elim] theorem exS1 {c:Type} {σ:Type} {f : c->σ} {p : c->Prop} {a : σ->Prop} (s : σ) (h:∃ b,s=f b/\p b) (k:∀ b,p b->a (f b)):a s:=by
 obtain ⟨b,e,h⟩:=h
 rw [e];exact k _ h
@[elab_as_elim] theorem exE1 {c:Type} {σ:Type} {f : c->σ} {a : σ->Prop} (s : σ) (h:∃ b,s=f b) (k:∀ b,a (f b)):a s:=by
 obtain ⟨b,e⟩:=h
 rw [e];exact k _
@[elab_as_elim] theorem exS2 {g:Type} {d:Type} {σ:Type} {f : g->d->σ} {p : g->d->Prop} {a : σ->Prop} (s : σ) (h:∃ c b,s=f c b/\p c b) (k:∀ c b,p c b->a (f c b)):a s:=by
 obtain ⟨c,b,e,h⟩:=h
 rw [e];exact k _ _ h
@[elab_as_elim] theorem exE2 {g:Type} {d:Type} {σ:Type} {f : g->d->σ} {a : σ->Prop} (s : σ) (h:∃ c b,s=f c b) (k:∀ c b,a (f c b)):a s:=by
 obtain ⟨c,b,e⟩:=h
 rw [e];exact k _ _
@[elab_as_elim] theorem exS3 {j:Type} {g:Type} {i:Type} {σ:Type} {f : j->g->i->σ} {p : j->g->i->Prop} {a : σ->Prop} (s : σ) (h:∃ c b d,s=f c b d/\p c b d) (k:∀ c b d,p c b d->a (f c b d)):a s:=by
 obtain ⟨c,b,d,e,h⟩:=h
 rw [e];exact k _ _ _ h
@[elab_as_elim] theorem exS4 {m:Type} {i:Type} {j:Type} {l:Type} {σ:Type} {f : m->i->j->l->σ} {p : m->i->j->l->Prop} {a : σ->Prop} (s : σ) (h:∃ c b d g,s=f c b d g/\p c b d g) (k:∀ c b d g,p c b d g->a (f c b d g)):a s:=by
 obtain ⟨c,b,d,g,e,h⟩:=h
 rw [e];exact k _ _ _ _ h
@[elab_as_elim] theorem exE4 {m:Type} {i:Type} {j:Type} {l:Type} {σ:Type} {f : m->i->j->l->σ} {a : σ->Prop} (s : σ) (h:∃ c b d g,s=f c b d g) (k:∀ c b d g,a (f c b d g)):a s:=by
 obtain ⟨c,b,d,g,e⟩:=h
 rw [e];exact k _ _ _ _
@[elab_as_elim] theorem exS5 {n:Type} {j:Type} {l:Type} {m:Type} {o:Type} {σ:Type} {f : n->j->l->m->o->σ} {p : n->j->l->m->o->Prop} {a : σ->Prop} (s : σ) (h:∃ d c g i b,s=f d c g i b/\p d c g i b) (k:∀ d c g i b,p d c g i b->a (f d c g i b)):a s:=by
 obtain ⟨d,c,g,i,b,e,h⟩:=h
 rw [e];exact k _ _ _ _ _ h
@[elab_as_elim] theorem exS6 {l:Type} {n:Type} {o:Type} {m:Type} {r:Type} {q:Type} {σ:Type} {f : l->n->o->m->r->q->σ} {p : l->n->o->m->r->q->Prop} {a : σ->Prop} (s : σ) (h:∃ d i g j c b,s=f d i g j c b/\p d i g j c b) (k:∀ d i g j c b,p d i g j c b->a (f d i g j c b)):a s:=by
 obtain ⟨d,i,g,j,c,b,e,h⟩:=h
 rw [e];exact k _ _ _ _ _ _ h
@[elab_as_elim] theorem exS7 {m:Type} {q:Type} {r:Type} {n:Type} {v:Type} {u:Type} {o:Type} {σ:Type} {f : m->q->r->n->v->u->o->σ} {p : m->q->r->n->v->u->o->Prop} {a : σ->Prop} (s : σ) (h:∃ g j i l c b d,s=f g j i l c b d/\p g j i l c b d) (k:∀ g j i l c b d,p g j i l c b d->a (f g j i l c b d)):a s:=by
 obtain ⟨g,j,i,l,c,b,d,e,h⟩:=h
 rw [e];exact k _ _ _ _ _ _ _ h
theorem big {n:Nat} (h:n<=1000000):n < sizeLine:=aB1 h (by decide)
section
variable {B B1:Bs} {G H G' H':Hp} {σ σI:St} {env envI:En} {F F':Nat->Addr->Prop} {v:V} {s:Sl} {Fv:Addr->Prop} {inv:Nat->Option Nat}
open Classical in
def acp (H:Hp) (F:Nat->Addr->Prop) (inv:Nat->Option Nat):Hp:=fun a=>if ∃ i j,inv i=some j/\F i a then none else H a
theorem aeu {i j:Nat} {a:Addr} (h:inv i=some j) (f:F i a):acp H F inv a=none:=aC1 ⟨i,j,h,f⟩
theorem agm {a:Addr} (h:∀ i j,inv i=some j->¬ F i a):acp H F inv a=H a:=aC2 fun ⟨i,j,x,y⟩=>h i j x y
theorem ada:Same (acp H F inv) H:=fun a o e=>by
 unfold acp at e
 split at e
 ·cases e
 ·exact e
theorem VI.enter (I:VI B G H σ env F) (inj:∀ i b j,inv i=some j->inv b=some j->i=b) (ln : σI.length=envI.length)
  (sl:∀ j s,envI[j]?=some (some s)->∃ v,σI[j]?=some (some v)/\((∃ d,s=.st d/\Rp G v d/\∀ i,inv i ≠ some j)\/(∃ ns a,s=.scr ns/\v=.ref a/\SqL B.K G a (ns.map V.int)/\∀ i,inv i ≠ some j) ∨
   ∃ i A,inv i=some j/\s=.io A/\σ[i]?=some (some v)/\(env[i]?=some (some (.own A))\/env[i]?=some (some (.io A))))) :
  VI ⟨B.K,G,H,acp H F inv,σI,fun j a=>∃ i,inv i=some j/\F i a⟩ G H σI envI (fun j a=>∃ i,inv i=some j/\F i a) where
 gh:=I.gh
 g0:=Same.refl _
 gn:=fun a o e => .inl e
 rs:=ada
 rb:=ada
 bh:=fun a o e=>⟨o,e⟩
 fg:=fun j a ⟨i,_,z⟩=>I.fg i a z
 fr:=fun j a ⟨i,h,z⟩=>aeu h z
 fd:=fun j k a ⟨i,h,z⟩ ⟨b,h',p⟩=>by
  have:=I.fd i b a z p
  subst this
  rw [h] at h';cases h';rfl
 fo:=fun j a ⟨i,h,z⟩=>I.fo i a z
 sl:=fun j s e=>by
  obtain ⟨v,l,q⟩:=sl j s e
  refine ⟨v,l,?_⟩
  rcases q with ⟨d,rfl,r,n⟩ | ⟨ns,a,rfl,rfl,q,n⟩ | ⟨i,A,hi,rfl,hs,c⟩
  ·exact ⟨r,fun a ⟨i,h,_⟩=>n i h⟩
  ·exact ⟨⟨a,rfl,q⟩,fun a ⟨i,h,_⟩=>n i h⟩
  ·refine ⟨?_,fun a z => .inl z,l⟩
   have m:(fun a=>∃ b,inv b=some j/\F b a)=F i:=by
    funext a
    exact propext ⟨fun ⟨b,h,z⟩=>by rw [inj i b j hi h];exact z,fun z=>⟨i,hi,z⟩⟩
   show A.P G H v (fun a=>∃ b,inv b=some j/\F b a)
   rw [m]
   rcases c with c | c
   ·obtain ⟨u,f,g⟩:=I.sl i _ c
    rw [hs] at f;cases f;exact g.1
   ·obtain ⟨u,f,g⟩:=I.sl i _ c
    rw [hs] at f;cases f;exact g.1
 ln:=ln
 ft:=I.ft
theorem VI.leave (I:VI B G H σ env F) (inj:∀ i m j,inv i=some j->inv m=some j->i=m) (r:B1.G=G) (h:B1.H=H) (D:∀ a o,H a=some o->(∀ i j,inv i=some j->¬ F i a)->B1.R a=some o)
  (C:∀ i j,inv i=some j->∀ a,B1.F j a->F i a) (N:∀ i j,inv i=some j->B1.S[j]? = σ[i]?) (J:VI B1 G' H' σI envI F') (io:∀ i j,inv i=some j->∃ A',envI[j]?=some (some (.io A'))) {env2:En} (L:env2.length=env.length)
  (M:∀ i s,env2[i]?=some (some s)->(inv i=none/\env[i]?=some (some s))\/∃ j A A',inv i=some j/\envI[j]?=some (some (.io A'))/\((env[i]?=some (some (.own A))/\s=.own A')\/(env[i]?=some (some (.io A))/\s=.io A'))) :
  VI B G' H' σ env2 (fun i a=>match inv i with | some j=>F' j a | none=>F i a):=by
 have g:∀ a o,G' a=some o->G a=some o\/H a=none:=fun a o e=>by
  have:=J.gn a o e
  rw [r,h] at this;exact this
 have fi:∀ i j a,inv i=some j->F' j a->F i a\/H a=none:=fun i j a hi z=>by
  obtain ⟨A',e⟩:=io i j hi
  obtain ⟨v,_,q⟩:=J.sl j _ e
  rcases q.2.1 a z with y | y
  ·exact .inl (C i j hi a y)
  ·rw [h] at y;exact .inr y
 have kp:∀ a o,H a=some o->(∀ i j,inv i=some j->¬ F i a)->H' a=some o:=fun a o e n=>J.rs a o (D a o e n)
 refine ⟨J.gh,I.g0.trans (r ▸ J.g0),fun a o e=>?_,fun a o e=>?_,I.rb,fun a o e=>?_,fun i a z=>?_,fun i a z=>?_,fun i k a y z=>?_,fun i a z=>?_,fun i t e=>?_,by rw [L];exact I.ln,J.ft⟩
 ·rcases g a o e with e | e
  ·exact I.gn a o e
  ·exact .inr (I.no_b e)
 ·refine kp a o (I.rs a o e) fun i j _ z=>?_
  rw [I.fr i a z] at e;cases e
 ·obtain ⟨E,f⟩:=I.bh a o e
  exact J.bh a E (by rw [h];exact f)
 ·cases hi:inv i with
  | some j=>rw [hi] at z;exact J.fg j a z
  | none =>
   rw [hi] at z
   cases e:G' a with
   | none=>rfl
   | some o =>
    rcases g a o e with e | e
    ·rw [I.fg i a z] at e;cases e
    ·exact absurd z (I.no_f e i)
 ·cases hi:inv i with
  | some j =>
   rw [hi] at z
   rcases fi i j a hi z with y | y
   ·exact I.fr i a y
   ·exact I.no_r y
  | none=>rw [hi] at z;exact I.fr i a z
 ·cases hi:inv i with
  | some j =>
   rw [hi] at y
   cases hk:inv k with
   | some l =>
    rw [hk] at z
    have:=J.fd j l a y z
    subst this
    exact inj i k j hi hk
   | none =>
    rw [hk] at z
    rcases fi i j a hi y with x | x
    ·exact I.fd i k a x z
    ·exact absurd z (I.no_f x k)
  | none =>
   rw [hi] at y
   cases hk:inv k with
   | some l =>
    rw [hk] at z
    rcases fi k l a hk z with x | x
    ·exact I.fd i k a y x
    ·exact absurd y (I.no_f x i)
   | none=>rw [hk] at z;exact I.fd i k a y z
 ·cases hi:inv i with
  | some j=>rw [hi] at z;exact J.fo j a z
  | none =>
   rw [hi] at z
   obtain ⟨o,e⟩:=I.fo i a z
   exact J.bh a o (by rw [h];exact e)
 ·rcases M i t e with ⟨hi,f⟩ | ⟨j,A,A',hi,f,d⟩
  ·obtain ⟨v,u,q⟩:=I.sl i t f
   refine ⟨v,u,?_⟩
   simp only [hi]
   refine q.mono (r ▸ J.g0) fun a o z y=>kp a o y fun m P b K=>?_
   have:=I.fd i m a z K
   subst this
   rw [hi] at b;cases b
  ·obtain ⟨v,u,q⟩:=J.sl j _ f
   have w : σ[i]?=some (some v):=by rw [← N i j hi];exact q.2.2
   refine ⟨v,w,?_⟩
   simp only [hi]
   rcases d with ⟨d,rfl⟩ | ⟨d,rfl⟩
   ·obtain ⟨O,_,p⟩:=I.sl i _ d
    refine ⟨q.1,fun a z=>?_⟩
    rcases fi i j a hi z with y | y
    ·exact p.2 a y
    ·exact I.no_b y
   ·obtain ⟨O,c,p⟩:=I.sl i _ d
    rw [w] at c;cases c
    refine ⟨q.1,fun a z=>?_,p.2.2⟩
    rcases fi i j a hi z with y | y
    ·exact p.2.1 a y
    ·exact .inr (I.no_b y)
theorem RsX.leave (I:VI B G H σ env F) (b:B1.H=H) (r:RsX B1 G' H' v Fv s F'):RsX B G' H' v Fv s (fun i a=>match inv i with | some j=>F' j a | none=>F i a):=by
 have hn:∀ a,Fv a->H a=none:=fun a z=>b ▸ r.fb a z
 refine ⟨r.ok,fun a z=>I.no_b (hn a z),r.fg,r.fo,fun i a z y=>?_⟩
 cases hi:inv i with
 | some j=>rw [hi] at y;exact r.fd j a z y
 | none=>rw [hi] at y;exact I.no_f (hn a z) i y
end
abbrev VP:=List Sl->(Sl->Prop)->Prop
abbrev VIo:=Own->List Sl->(Own->Sl->Prop)->Prop
def noF:Nat->Addr->Prop:=fun _ _=>False
def bsP (K:Frag) (G H:Hp) (vs:List V):Bs:=⟨K,G,H,H,vs.map some,noF⟩
def ar9 (K:Frag) (G:Hp):V->Sl->Prop
 | v,.st d=>Rp G v d
 | v,.scr ns=>∃ a,v=.ref a/\SqL K G a (ns.map V.int)
 | _,_=>False
inductive ArgsOk (K:Frag) (G:Hp):List V->List Sl->Prop
 | nil:ArgsOk K G [] []
 | cons {v:V} {s:Sl} {vs:List V} {ss:List Sl}:ar9 K G v s->ArgsOk K G vs ss->ArgsOk K G (v :: vs) (s :: ss)
theorem ArgsOk.length {K:Frag} {G:Hp}:∀ {vs:List V} {ss:List Sl},ArgsOk K G vs ss->vs.length=ss.length
 | _,_,.nil=>rfl
 | _,_,.cons _ t=>by simp [ArgsOk.length t]
theorem ArgsOk.get {K:Frag} {G:Hp}:∀ {vs:List V} {ss:List Sl} {i:Nat} {s:Sl},ArgsOk K G vs ss->ss[i]?=some s->∃ v,vs[i]?=some v/\ar9 K G v s
 | _,_,_,_,.nil,e=>by simp at e
 | _,_,0,_,.cons r _,e=>by simp at e;subst e;exact ⟨_,rfl,r⟩
 | _,_,i+1,s,.cons _ t,e=>by
  obtain ⟨u,b,a⟩:=ArgsOk.get (i:=i) (s:=s) t (by simpa using e)
  exact ⟨u,by simpa using b,a⟩
theorem ArgsOk.of {K:Frag} {G:Hp}:∀ {vs:List V} {ds:List PyData},Rps G vs ds->ArgsOk K G vs (ds.map Sl.st)
 | _,_,.nil => .nil
 | _,_,.cons r t => .cons r (ArgsOk.of t)
theorem ah6 {α:Type} {xs:List α} {n i:Nat} {s : α} (e:(xs.map some ++ List.replicate n none)[i]?=some (some s)):xs[i]?=some s:=by
 by_cases h:i < xs.length
 ·rw [az7 (by simpa using h),ay0] at e
  rw [ax5 h] at e ⊢
  simpa using e
 ·rw [aA2 (by simpa using h),aE2] at e
  split at e <;> cases e
theorem ah7 {α:Type} {xs:List α} {n i:Nat} {s : α} (e:xs[i]?=some s):(xs.map some ++ List.replicate n none)[i]?=some (some s):=by
 have h:i < xs.length:=(ax6.mp e).1
 rw [az7 (by simpa using h),ay0,e];rfl
def spP (K:Frag) (f:VP):Sp:=fun vs H Q _=>∃ G ss Q',Same G H/\FT G H/\ArgsOk K G vs ss/\f ss Q'/\∀ s,Q' s->∀ v G' H' Fv,Out G H v G' H' s Fv->Q v H'
structure OutI (G H R:Hp) (F0:Addr->Prop) (v0:V) (A':Own) (s:Sl) (v:V) (G' H':Hp) (F' Fv:Addr->Prop):Prop where
 gg:Same G G'
 gh:Same G' H'
 ft:FT G' H'
 gn:∀ a o,G' a=some o->G a=some o\/H a=none
 rs:Same R H'
 bh:∀ a o,H a=some o->∃ o',H' a=some o'
 ap:A'.P G' H' v0 F'
 fi:∀ a,F' a->F0 a\/H a=none
 fg:∀ a,F' a->G' a=none
 ok:RsOk G' H' v Fv s
 fv:∀ a,Fv a->H a=none/\G' a=none/\(∃ o,H' a=some o)/\¬ F' a
def spI (K:Frag) (f:VIo):Sp:=fun vs H Q _=>∃ v0 vr G R A ss F0 Q',vs=v0 :: vr/\Same G H/\FT G H/\Same R H/\A.P G H v0 F0/\(∀ a,F0 a->G a=none)/\(∀ a,F0 a->R a=none)/\ArgsOk K G vr ss /\
 f A ss Q'/\∀ A' s,Q' A' s->∀ v G' H' F' Fv,OutI G H R F0 v0 A' s v G' H' F' Fv->Q v H'
theorem abb {K:Frag} {f:VP} {ts:TS} {N:List Str} {vs:List V} {H:Hp} {Q:VK} {E:XK} (h:spP K f vs H Q E)
  (hb:∀ ss b,f ss b->∀ B,B.K=K->EvS B ts { nx:=fun _=>b (.st .none),rt:=fun s _=>b s } (ss.map some ++ List.replicate (N.length - ss.length) none)):ts { nx:=fun _ H'=>Q .non H',rt:=Q } (L2.start N vs) H:=by
 obtain ⟨G,ss,b,gh,ft,l,hf,c⟩:=h
 have fin:∀ {σ G' H' F env v Fv s},VI (bsP K G H vs) G' H' σ env F->RsX (bsP K G H vs) G' H' v Fv s F->Out G H v G' H' s Fv:=fun I r =>
  ⟨I.g0,I.gh,I.rs,I.gn,r.fb,r.fg,r.fo,r.ok,fun _=>I.ft⟩
 refine hb ss _ hf (bsP K G H vs) rfl (L2.start N vs) G H noF _ ?_ ⟨fun σ G' H' F env I g q=>c _ q _ _ _ _ (fin I (acv .non)),fun σ G' H' F env v Fv s I g r q=>c _ q v G' H' Fv (fin I r),fun _ _ _ _ _ _ _ q=>q,fun _ _ _ _ _ _ _ q=>q⟩
 refine ⟨gh,Same.refl _,fun a o e => .inl e,Same.refl _,Same.refl _,fun a o e=>⟨o,e⟩,fun i a z=>z.elim,fun i a z=>z.elim,fun i j a z=>z.elim,fun i a z=>z.elim,fun i s e=>?_,?_,ft⟩
 ·obtain ⟨v,m,q⟩:=l.get (ah6 e)
  refine ⟨v,by unfold L2.start;exact ah7 m,?_⟩
  cases s with
  | st d=>exact ⟨q,fun a z=>z⟩
  | scr ns=>exact ⟨q,fun a z=>z⟩
  | own A=>exact q.elim
  | io A=>exact q.elim
 ·unfold L2.start;simp [l.length]
theorem axf {K:Frag} {f:VIo} {ts:TS} {N:List Str} {vs:List V} {H:Hp} {Q:VK} {E:XK} (h:spI K f vs H Q E)
  (hb:∀ A ss c,f A ss c->∀ B,B.K=K->EvS B ts { nx:=fun e=>∃ A',e[0]?=some (some (.io A'))/\c A' (.st .none),rt:=fun s e=>∃ A',e[0]?=some (some (.io A'))/\c A' s } (some (.io A) :: (ss.map some ++ List.replicate (N.length - (ss.length+1)) none))):ts { nx:=fun _ H'=>Q .non H',rt:=Q } (L2.start N vs) H:=by
 obtain ⟨v0,b,G,R,A,ss,F0,c,rfl,gh,ft,n,ap,fg,fr,m,hf,x⟩:=h
 have M:(v0 :: b).length=ss.length+1:=by simp [m.length]
 refine hb A ss _ hf ⟨K,G,H,R,(v0 :: b).map some,fun i a=>i=0/\F0 a⟩ rfl (L2.start N (v0 :: b)) G H (fun i a=>i=0/\F0 a) _ ?_ ?_
 ·refine ⟨gh,Same.refl _,fun a o e => .inl e,n,n,fun a o e=>⟨o,e⟩,fun i a z=>fg a z.2,fun i a z=>fr a z.2,fun i j a z y=>by rw [z.1,y.1],fun i a z=>A.dom ap a z.2,fun i s e=>?_,?_,ft⟩
  ·cases i with
   | zero =>
    simp at e
    subst e
    refine ⟨v0,rfl,?_,fun a z => .inl z,rfl⟩
    have:(fun a=>0=0/\F0 a)=F0:=by funext a;simp
    rw [this];exact ap
   | succ i =>
    have D:(ss.map some ++ List.replicate (N.length - (ss.length+1)) none)[i]?=some (some s):=by simpa using e
    obtain ⟨v,C,q⟩:=m.get (ah6 D)
    refine ⟨v,?_,?_⟩
    ·unfold L2.start;exact ah7 (by simpa using C)
    ·cases s with
     | st d=>exact ⟨q,fun a z=>by cases z.1⟩
     | scr ns=>exact ⟨q,fun a z=>by cases z.1⟩
     | own A=>exact q.elim
     | io A=>exact q.elim
  ·unfold L2.start;simp [m.length]
 ·have fin:∀ σ G' H' F env v Fv s,VI ⟨K,G,H,R,(v0 :: b).map some,fun i a=>i=0/\F0 a⟩ G' H' σ env F->RsX ⟨K,G,H,R,(v0 :: b).map some,fun i a=>i=0/\F0 a⟩ G' H' v Fv s F->(∃ A',env[0]?=some (some (.io A'))/\c A' s)->Q v H':=by
   intro σ G' H' F env v Fv s I r ⟨A',e,q⟩
   obtain ⟨p,J,w,L,u⟩:=I.sl 0 _ e
   have:p=v0:=by
    have l:((v0 :: b).map some)[0]?=some (some p):=u
    simpa using l.symm
   subst this
   exact x A' s q v G' H' (F 0) Fv ⟨I.g0,I.gh,I.ft,I.gn,I.rs,I.bh,w,fun a z=>by
    rcases L a z with y | y
    ·exact .inl y.2
    ·exact .inr y,I.fg 0,r.ok,fun a z=>⟨r.fb a z,r.fg a z,r.fo a z,r.fd 0 a z⟩⟩
  refine ⟨fun σ G' H' F env I g q=>fin σ G' H' F env .non _ (.st .none) I (acv .non) q,fun σ G' H' F env v Fv s I g r q=>fin σ G' H' F env v Fv s I r q,fun _ _ _ _ _ _ _ q=>q,fun _ _ _ _ _ _ _ q=>q⟩
section
variable {B:Bs} {env:En} {Q':PyData->En->Prop} {QO:Sl->En->Prop} {K:Frag} {E:XK}
theorem aiy {f:VP} {t:TA} (h:EvA B t env fun ds b=>f (ds.map Sl.st) fun s=>QO s b):EvO B (ab6 (spP K f) [] E t) env QO:=fun σ G H F Q I k=>by
 unfold ab6
 simp only [aB7]
 exact h σ G H F _ I fun vs j l c ds b a d i g=>⟨j,_,_,a.gh,a.ft,ArgsOk.of i,g,fun s q v G' H' Fv o=>k v G' H' c Fv s b (a.out o).1 (d.trans o.gg) (a.out o).2 q⟩
theorem aqv {f:VP} {t:TA} (h:EvA B t env fun ds a=>f (ds.map Sl.st) fun s=>FQ s fun d=>Q' d a):Ev B (ab6 (spP K f) [] E t) env Q':=abc (aiy h)
theorem ao7 {f:VP} {t:TA} {i:Nat} {ns:List Int} (e:env[i]?=some (some (.scr ns))) (r:B.K=K) (h:EvA B t env fun ds c=>f (.scr ns :: ds.map Sl.st) fun s=>QO s c):EvO B (ab6 (spP K f) [] E (abn (tVar i) t)) env QO:=fun σ G H F Q I k=>by
 subst r
 unfold ab6
 simp only [aB7]
 obtain ⟨v0,l,⟨a,u,j⟩,_⟩:=I.sl i _ e
 refine ⟨v0,l,h σ G H F _ I fun vs p w g ds c b d n m=>⟨p,_,_,b.gh,b.ft,.cons (s:=.scr ns) ⟨a,u,d.seq j⟩ (ArgsOk.of n),m,fun s q v G' H' Fv o=>k v G' H' g Fv s c (b.out o).1 (d.trans o.gg) (b.out o).2 q⟩⟩
def reS:Sl->Own->Sl
 | .io _,A => .io A
 | _,A => .own A
theorem ao8 {f:VIo} {t:TA} {i:Nat} (S:∃ s,env[i]?=some (some s)) (h:EvA B t env fun ds D=>∃ w A,D[i]?=some (some w)/\(w=.own A\/w=.io A)/\f A (ds.map Sl.st) fun A' s=>QO s (D.set i (some (reS w A')))):EvO B (ab6 (spI K f) [] E (abn (tVar i) t)) env QO:=fun σ G H F Q I k=>by
 unfold ab6
 simp only [aB7]
 obtain ⟨s,e⟩:=S
 obtain ⟨v0,O,_⟩:=I.sl i _ e
 refine ⟨v0,O,h σ G H F _ I fun vs N p m ds D r R U ⟨w,A,M,hs,T⟩=>?_⟩
 obtain ⟨Y,C,q⟩:=r.sl i _ M
 rw [O] at C;cases C
 have ap:A.P N p v0 (m i):=by
  rcases hs with rfl | rfl
  ·exact q.1
  ·exact q.1
 let inv:Nat->Option Nat:=fun j=>if j=i then some 0 else none
 have d:inv i=some 0:=aC1 rfl
 have g:∀ j,j ≠ i->inv j=none:=fun j h=>aC2 h
 have c:∀ j l,inv j=some l->j=i/\l=0:=fun j l h=>by
  by_cases hj:j=i
  ·subst hj;rw [d] at h;cases h;exact ⟨rfl,rfl⟩
  ·rw [g j hj] at h;cases h
 refine ⟨v0,vs,N,acp p m inv,A,_,m i,_,rfl,r.gh,r.ft,ada,ap,r.fg i,fun a z=>aeu d z,ArgsOk.of U,T,fun A' s q v G' H' F' Fv o=>?_⟩
 have hi:i < D.length:=(ax6.mp M).1
 have J:VI ⟨K,N,p,acp p m inv,[some v0],fun j a=>j=0/\m i a⟩ G' H' [some v0] [some (.io A')] (fun j a=>j=0/\F' a):=by
  refine ⟨o.gh,o.gg,o.gn,o.rs,ada,o.bh,fun j a z=>o.fg a z.2,fun j a z=>?_,fun j l a y z=>by rw [y.1,z.1],fun j a z=>A'.dom o.ap a z.2,fun j s e=>?_,rfl,o.ft⟩
  ·rcases o.fi a z.2 with y | y
   ·exact aeu d y
   ·cases e:acp p m inv a with
    | none=>exact e
    | some u=>rw [ada a u e] at y;cases y
  ·cases j with
   | zero =>
    simp at e
    subst e
    refine ⟨v0,rfl,?_,fun a z=>?_,rfl⟩
    ·have:(fun a=>0=0/\F' a)=F':=by funext a;simp
     rw [this];exact o.ap
    ·rcases o.fi a z.2 with y | y
     ·exact .inl ⟨rfl,y⟩
     ·exact .inr y
   | succ j=>simp at e
 have L:=r.leave (inv:=inv) (env2:=D.set i (some (reS w A'))) (fun a b j ha hb=>by rw [(c a j ha).1,(c b j hb).1]) rfl rfl (fun a u e n=>by show acp p m inv a=_;rw [agm n];exact e)
  (fun a j ha x z=>by rw [(c a j ha).1];exact z.2) (fun a j ha=>by rw [(c a j ha).1,(c a j ha).2,O];rfl) J (fun a j ha=>⟨A',by rw [(c a j ha).2];rfl⟩) (by simp) fun j W e=>by
   by_cases hj:j=i
   ·subst hj
    rw [aA6,aC1 rfl,aC1 hi] at e
    cases e
    refine .inr ⟨0,A,A',d,rfl,?_⟩
    rcases hs with rfl | rfl
    ·exact .inl ⟨M,rfl⟩
    ·exact .inr ⟨M,rfl⟩
   ·rw [aA6,aC2 (fun z=>hj z.symm)] at e
    exact .inl ⟨g j hj,e⟩
 have X:RsX ⟨K,N,p,acp p m inv,[some v0],fun j a=>j=0/\m i a⟩ G' H' v Fv s (fun j a=>j=0/\F' a):=⟨o.ok,fun a z=>(o.fv a z).1,fun a z=>(o.fv a z).2.1,fun a z=>(o.fv a z).2.2.1,fun j a z y=>(o.fv a z).2.2.2 y.2⟩
 exact k v G' H' _ Fv s _ L (R.trans o.gg) (X.leave (inv:=inv) r rfl) q
end
def ahc:Option Sl->Option Sl
 | some (.own A)=>some (.io A)
 | s=>s
def aak (src:List (Option Nat)) (env:En):En:=src.map fun o=>match o with | some j=>ahc ((env[j]?).getD none) | none=>none
def isIo:Option Sl->Bool
 | some (.io _)=>true
 | _=>false
def idxE (i:Nat):List (Option Nat)->Nat->Option Nat
 | [],_=>none
 | o :: r,k=>if o=some i then some k else idxE i r (k+1)
def afu (src:List (Option Nat)) (e:En) (i:Nat) (s:Option Sl):Option Sl :=
 match s with
 | some (.own A)=>(match idxE i src 0 with | some j=>(match e[j]? with | some (some (.io A'))=>some (.own A') | _=>none) | none=>some (.own A))
 | some (.io A)=>(match idxE i src 0 with | some j=>(match e[j]? with | some (some (.io A'))=>some (.io A') | _=>none) | none=>some (.io A))
 | s=>s
def aek (src:List (Option Nat)) (e:En):Nat->En->En
 | _,[]=>[]
 | k,s :: r=>afu src e k s :: aek src e (k+1) r
def ahd (src:List (Option Nat)) (e1 e:En):En:=aek src e 0 e1
theorem aev (src:List (Option Nat)) (e:En):∀ (k:Nat) (l:En) (i:Nat),(aek src e k l)[i]?=(l[i]?).map (afu src e (k+i))
 | _,[],i=>by simp [aek]
 | k,s :: r,0=>by simp [aek]
 | k,s :: r,i+1=>by
  have:=aev src e (k+1) r i
  simp only [aek,List.getElem?_cons_succ,this]
  rw [show k+1+i=k+(i+1) by omega]
theorem aea {i:Nat}:∀ {src:List (Option Nat)} {k j:Nat},idxE i src k=some j->k<=j/\src[j - k]?=some (some i)
 | [],_,_,h=>by cases h
 | o :: r,k,j,h=>by
  unfold idxE at h
  by_cases e:o=some i
  ·rw [aC1 e] at h;cases h
   exact ⟨ay1 _,by simp [e]⟩
  ·rw [aC2 e] at h
   obtain ⟨b,a⟩:=aea h
   refine ⟨by omega,?_⟩
   rw [show j - k=(j - (k+1))+1 by omega]
   simpa using a
theorem aiz {i:Nat}:∀ {src:List (Option Nat)} {k:Nat},idxE i src k=none->∀ j:Nat,src[j]? ≠ some (some i)
 | [],_,_,j=>by simp
 | o :: r,k,h,j=>by
  unfold idxE at h
  by_cases e:o=some i
  ·rw [aC1 e] at h;cases h
  ·rw [aC2 e] at h
   cases j with
   | zero=>simpa using e
   | succ j=>simpa using aiz h j
theorem ak8:∀ (src:List (Option Nat)),(src.filterMap id).Nodup->∀ j a i:Nat,src[j]?=some (some i)->src[a]?=some (some i)->j=a
 | [],_,j,_,_,h,_=>by simp at h
 | none :: r,h,j,a,i,h1,h2=>by
  cases j with
  | zero=>simp at h1
  | succ j =>
   cases a with
   | zero=>simp at h2
   | succ a=>rw [ak8 r (by simpa using h) j a i (by simpa using h1) (by simpa using h2)]
 | some x :: r,h,j,a,i,h1,h2=>by
  have h':=aE9.mp (show (x :: r.filterMap id).Nodup by simpa using h)
  have nm:∀ k,r[k]?=some (some x)->False:=fun k c=>h'.1 (List.mem_filterMap.mpr ⟨some x,ax7 c,rfl⟩)
  cases j with
  | zero =>
   have b:x=i:=by simpa using h1
   subst b
   cases a with
   | zero=>rfl
   | succ a=>exact (nm a (by simpa using h2)).elim
  | succ j =>
   cases a with
   | zero =>
    have b:x=i:=by simpa using h2
    subst b
    exact (nm j (by simpa using h1)).elim
   | succ a=>rw [ak8 r h'.2 j a i (by simpa using h1) (by simpa using h2)]
def afv:Option Sl->Bool
 | some (.own _)=>true
 | _=>false
def ioLe:En->En->Prop
 | a :: r,b :: s=>(isIo a=isIo b/\afv b=false)/\ioLe r s
 | [],[]=>True
 | _,_=>False
theorem ak9 {x:Option Sl} (h:isIo x=true):∃ A,x=some (.io A):=by
 cases x with
 | none=>simp [isIo] at h
 | some y =>
  cases y with
  | io A=>exact ⟨A,rfl⟩
  | _=>simp [isIo] at h
theorem ioLe.get:∀ {a b:En} {j:Nat} {x:Option Sl},ioLe a b->a[j]?=some x->isIo x=true->∃ A,b[j]?=some (some (.io A))
 | [],_,_,_,_,e,_=>by simp at e
 | x :: r,[],_,_,h,_,_=>h.elim
 | x :: r,y :: s,0,z,h,e,p=>by
  simp at e;subst e
  have:=h.1.1
  rw [p] at this
  obtain ⟨A,q⟩:=ak9 this.symm
  exact ⟨A,by simp [q]⟩
 | x :: r,y :: s,j+1,z,h,e,p=>by
  obtain ⟨A,q⟩:=ioLe.get (j:=j) h.2 (by simpa using e) p
  exact ⟨A,by simpa using q⟩
theorem ioLe.got:∀ {a b:En} {j:Nat} {x:Option Sl},ioLe a b->b[j]?=some x->(isIo x=true->∃ A,a[j]?=some (some (.io A)))/\afv x=false
 | [],[],_,_,_,e=>by simp at e
 | [],_ :: _,_,_,h,e=>h.elim
 | x :: r,[],_,_,h,_=>h.elim
 | x :: r,y :: s,0,z,h,e=>by
  simp at e;subst e
  refine ⟨fun p=>?_,h.1.2⟩
  have:=h.1.1
  rw [p] at this
  obtain ⟨A,q⟩:=ak9 this
  exact ⟨A,by simp [q]⟩
 | x :: r,y :: s,j+1,z,h,e=>by
  obtain ⟨p,q⟩:=ioLe.got (j:=j) (x:=z) h.2 (by simpa using e)
  exact ⟨fun t=>by obtain ⟨A,u⟩:=p t;exact ⟨A,by simpa using u⟩,q⟩
section
variable {B:Bs} {G H:Hp} {σ:St} {env:En} {F:Nat->Addr->Prop}
theorem VI.aside (I:VI B G H σ env F) {p:Addr} {o:HO} (f:∀ xs,o ≠ .tup xs) (b:G p=none) (hf:∀ j,¬ F j p) (hb:B.H p=none):VI B G (upd H p o) σ env F where
 gh:=fun a u e=>by rw [aaf (aat e b)];exact I.gh a u e
 g0:=I.g0
 gn:=I.gn
 rs:=fun a u e=>by rw [aaf (aat e (I.b_r hb))];exact I.rs a u e
 rb:=I.rb
 bh:=fun a u e=>by rw [aaf (aat e hb)];exact I.bh a u e
 fg:=I.fg
 fr:=I.fr
 fd:=I.fd
 fo:=fun j a z=>by rw [aaf (fun e:a=p=>hf j (e ▸ z))];exact I.fo j a z
 sl:=fun i s e=>by
  obtain ⟨v,c,q⟩:=I.sl i s e
  exact ⟨v,c,q.mono (Same.refl _) fun a u z y=>by rw [aaf (fun e:a=p=>hf i (e ▸ z))];exact y⟩
 ln:=I.ln
 ft:=fun a d e=>by
  by_cases z:a=p
  ·subst z;rw [aaj] at e;exact absurd (aA0 e) (f _)
  ·rw [aaf z] at e;exact I.ft a d e
def LcV (K:Frag) (src:List (Option Nat)) (g:TG) (tif:TT) (te:TE) (ds:List PyData) (e1:En) (R:List PyData->En->Prop):Prop:=∃ J:Nat->List PyData->En->Prop,J 0 [] (aak src e1)/\(∀ i ys e,J i ys e->ioLe (aak src e1) e) /\
 (∀ i d ys e,ds[i]?=some d->J i ys e->∀ B':Bs,B'.K=K->EvG B' g (.st d) e fun e2=>EvT B' tif e2 fun b e3=>if b=true then Ev B' te e3 fun y e4=>ys.length<=999999/\J (i+1) (ys ++ [y]) e4 else J (i+1) ys e3)/\∀ ys e,J ds.length ys e->R ys (ahd src e1 e)
theorem afc {src:List (Option Nat)} {j:Nat} {s:Sl} (h:(aak src env)[j]?=some (some s)):∃ i t,src[j]?=some (some i)/\env[i]?=some (some t)/\ahc (some t)=some s:=by
 unfold aak at h
 rw [ay0] at h
 cases e:src[j]? with
 | none=>rw [e] at h;cases h
 | some o =>
  rw [e] at h
  cases o with
  | none=>cases h
  | some i =>
   simp only [aE6,Option.some.injEq] at h
   cases e2:env[i]? with
   | none=>rw [e2] at h;cases h
   | some o2 =>
    rw [e2] at h
    cases o2 with
    | none=>cases h
    | some t=>exact ⟨i,t,rfl,e2,h⟩
theorem ala {src:List (Option Nat)} {i j:Nat} {v:V} (h:src[j]?=some (some i)) (a : σ[i]?=some (some v)):(pick src σ)[j]?=some (some v):=by
 unfold pick
 rw [ay0,h]
 simp [a]
theorem ao9 {src:List (Option Nat)} {wi:TI} {g:TG} {b2:TT} {te:TE} {QO:Sl->En->Prop} (nd:(src.filterMap id).Nodup) (h:EvI B wi env fun ds U=>LcV B.K src g b2 te ds U fun ys W=>QO (.own (OL ys)) W):EvO B (tLC src wi g b2 te) env QO:=fun σ G H F Q I k=>by
 refine h σ G H F _ I fun J G1 H1 F1 ds U I1 g1 it ⟨Jv,j0,a9,js,jd⟩ p R=>?_
 let M:Nat->Bool:=fun i=>match U[i]? with | some (some (.own _))=>true | some (some (.io _))=>true | _=>false
 let inv:Nat->Option Nat:=fun i=>if M i=true then idxE i src 0 else none
 have D:∀ i j,inv i=some j->src[j]?=some (some i)/\M i=true:=fun i j hi=>by
  by_cases hm:M i=true
  ·have f:idxE i src 0=some j:=by simpa [inv,hm] using hi
   have:=(aea f).2
   exact ⟨by simpa using this,hm⟩
  ·simp [inv,hm] at hi
 have a5:∀ i j,src[j]?=some (some i)->M i=true->inv i=some j:=fun i j hs hm=>by
  have e0:inv i=idxE i src 0:=by simp [inv,hm]
  cases e:idxE i src 0 with
  | none=>exact absurd hs (aiz e j)
  | some j' =>
   have:=(aea e).2
   rw [e0,e,ak8 src nd j j' i hs (by simpa using this)]
 have inj:∀ i c j,inv i=some j->inv c=some j->i=c:=fun i c j Y C=>by
  have a:=(D i j Y).1
  rw [(D c j C).1] at a
  simpa using a.symm
 have b4:∀ i,M i=true->∃ A,U[i]?=some (some (.own A))\/U[i]?=some (some (.io A)):=fun i hm=>by
  cases e:U[i]? with
  | none=>simp [M,e] at hm
  | some o =>
   cases o with
   | none=>simp [M,e] at hm
   | some s =>
    cases s with
    | own A=>exact ⟨A,.inl rfl⟩
    | io A=>exact ⟨A,.inr rfl⟩
    | st d=>simp [M,e] at hm
    | scr ns=>simp [M,e] at hm
 have b3:∀ i ys e,Jv i ys e->∀ c j,inv c=some j->∃ A,e[j]?=some (some (.io A)):=fun i ys e hj c j hi=>by
  obtain ⟨hs,hm⟩:=D c j hi
  obtain ⟨A,P⟩:=b4 c hm
  refine (a9 i ys e hj).get (x:=some (.io A)) ?_ rfl
  unfold aak
  rw [ay0,hs]
  rcases P with P | P <;> simp [P,ahc]
 -- between two turns
 let Wv:Nat->List V->St->Hp->Prop:=fun i ys σI H=>∃ G2 F2 e env2 yd,VI B G2 H σ env2 F2/\Same G1 G2/\H p=some (.lst ys)/\Rps G2 ys yd/\G2 p=none/\(∀ j,¬ F2 j p)/\Jv i yd e/\σI.length=e.length/\env2.length=U.length /\
  (∀ j s,e[j]?=some (some s)->∃ v,σI[j]?=some (some v)/\((∃ d,s=.st d/\Rp G2 v d/\∀ i,inv i ≠ some j)\/(∃ ns a,s=.scr ns/\v=.ref a/\SqL B.K G2 a (ns.map V.int)/\∀ i,inv i ≠ some j) ∨
   ∃ i A,inv i=some j/\s=.io A/\σ[i]?=some (some v)/\(env2[i]?=some (some (.own A))\/env2[i]?=some (some (.io A))))) /\
  (∀ i,inv i=none->env2[i]?=U[i]?)/\(∀ i j,inv i=some j->∃ A0 A,e[j]?=some (some (.io A))/\((U[i]?=some (some (.own A0))/\env2[i]?=some (some (.own A)))\/(U[i]?=some (some (.io A0))/\env2[i]?=some (some (.io A)))))
 have hb:B.H p=none:=I1.no_b R
 refine ⟨fun i m ys σI H=>m=ds.length - i/\i<=ds.length/\Wv i ys σI H,⟨ds.length,by simp,aC5 _,?_⟩,?_⟩
 ·refine ⟨G1,F1,aak src U,U,[],I1.aside (fun _ z=>nomatch z) (I1.no_g R) (I1.no_f R) hb,Same.refl _,aaj,.nil,I1.no_g R,I1.no_f R,j0,by simp [pick,aak],rfl,fun j s e=>?_,fun _ _=>rfl,fun i j hi=>?_⟩
  ·obtain ⟨i,t,hs,ht,hp⟩:=afc e
   obtain ⟨v,hv,q⟩:=I1.sl i t ht
   refine ⟨v,ala hs hv,?_⟩
   cases t with
   | st d =>
    cases hp
    refine .inl ⟨d,rfl,q.1,fun c f=>?_⟩
    have a:=(D c j f).1
    rw [hs] at a
    have:i=c:=by simpa using a
    subst this
    have:=(D i j f).2
    simp [M,ht] at this
   | scr ns =>
    cases hp
    obtain ⟨⟨a,ea,sq⟩,_⟩:=q
    refine .inr (.inl ⟨ns,a,rfl,ea,sq,fun c f=>?_⟩)
    have a:=(D c j f).1
    rw [hs] at a
    have:i=c:=by simpa using a
    subst this
    have:=(D i j f).2
    simp [M,ht] at this
   | own A=>cases hp;exact .inr (.inr ⟨i,A,a5 i j hs (by simp [M,ht]),rfl,hv,.inl ht⟩)
   | io A=>cases hp;exact .inr (.inr ⟨i,A,a5 i j hs (by simp [M,ht]),rfl,hv,.inr ht⟩)
  ·obtain ⟨hs,hm⟩:=D i j hi
   obtain ⟨A,P⟩:=b4 i hm
   refine ⟨A,A,?_,?_⟩
   ·unfold aak
    rw [ay0,hs]
    rcases P with P | P <;> simp [P,ahc]
   ·rcases P with P | P
    ·exact .inl ⟨P,P⟩
    ·exact .inr ⟨P,P⟩
 ·rintro i m ys σI H2 ⟨rfl,hi,G2,F2,e,env2,yd,I2,g2,a1,ry,ga,fa,jv,ln,c2,sl,un,mv⟩
  refine ⟨a1,?_⟩
  by_cases hlt:i < ds.length
  ·refine .inr ⟨it.go i G2 H2 g2 I2.gh hlt,Wv (i+1),fun a2 c3 H' hw=>⟨ds.length - (i+1),by omega,rfl,hlt,hw⟩,fun x H3 y=>?_⟩
   obtain ⟨G3,o⟩:=it.yld i G2 H2 x H3 _ g2 I2.gh I2.ft (ax5 hlt) y
   obtain ⟨I3,X3⟩:=I2.out o
   have a7:=o.hh _ _ a1
   have b0:=fa
   have b7:G3 p=none:=by
    cases e':G3 p with
    | none=>rfl
    | some u =>
     rcases o.gn p u e' with q | q
     ·rw [ga] at q;cases q
     ·rw [a1] at q;cases q
   have b9:∀ j s,e[j]?=some (some s)->∃ v,σI[j]?=some (some v)/\((∃ d,s=.st d/\Rp G3 v d/\∀ i,inv i ≠ some j)\/(∃ ns a,s=.scr ns/\v=.ref a/\SqL B.K G3 a (ns.map V.int)/\∀ i,inv i ≠ some j) ∨
     ∃ i A,inv i=some j/\s=.io A/\σ[i]?=some (some v)/\(env2[i]?=some (some (.own A))\/env2[i]?=some (some (.io A)))):=fun j s es=>by
    obtain ⟨v,hv,q⟩:=sl j s es
    refine ⟨v,hv,?_⟩
    rcases q with ⟨d,a8,r,n⟩ | ⟨ns,a,a8,b6,r,n⟩ | q
    ·exact .inl ⟨d,a8,r.same o.gg,n⟩
    ·exact .inr (.inl ⟨ns,a,a8,b6,o.gg.seq r,n⟩)
    ·exact .inr (.inr q)
   have E3:=I3.enter (inv:=inv) (σI:=σI) (envI:=e) inj ln b9
   -- back from the turn
   have fin:∀ (T:St) (G4 H4:Hp) (F4:Nat->Addr->Prop) (e4:En) (a4:List PyData) (a2:List V) (o4:HO),VI ⟨B.K,G3,H3,acp H3 F2 inv,σI,fun j a=>∃ i,inv i=some j/\F2 i a⟩ G4 H4 T e4 F4->Jv (i+1) a4 e4->Rps G4 a2 a4 ->
     Wv (i+1) a2 T (upd H4 p (.lst a2))/\H4 p=some (.lst ys):=by
    intro T G4 H4 F4 e4 a4 a2 o4 I4 j4 r4
    have a0:=b3 (i+1) a4 e4 j4
    have c0:H4 p=some (.lst ys):=I4.rs p _ (by show acp H3 F2 inv p=_;rw [agm (fun c _ _=>b0 c)];exact a7)
    have b1:G4 p=none:=by
     cases e':G4 p with
     | none=>rfl
     | some u =>
      rcases I4.gn p u e' with q | q
      ·change G3 p=_ at q;rw [b7] at q;cases q
      ·change H3 p=_ at q;rw [a7] at q;cases q
    -- the slots of the outer frame
    let E:En:=(List.range env2.length).map fun c=>match inv c with
     | some j=>(match env2[c]?,e4[j]? with | some (some (.own _)),some (some (.io A))=>some (.own A) | some (some (.io _)),some (some (.io A))=>some (.io A) | _,_=>none)
     | none=>(env2[c]?).getD none
    have N:∀ c,c < env2.length->E[c]?=some (match inv c with
     | some j=>(match env2[c]?,e4[j]? with | some (some (.own _)),some (some (.io A))=>some (.own A) | some (some (.io _)),some (some (.io A))=>some (.io A) | _,_=>none)
     | none=>(env2[c]?).getD none):=fun c hl=>by
     simp only [E,ay0]
     rw [ax5 (by simpa using hl)]
     simp
    have L:=I3.leave (inv:=inv) (env2:=E) inj rfl rfl (fun a u q n=>by show acp H3 F2 inv a=_;rw [agm n];exact q) (fun c j f a z=>by obtain ⟨X,Y,C⟩:=z;rw [inj c X j f Y];exact C)
     (fun c j f=>by
      obtain ⟨A0,A,Y,C⟩:=mv c j f
      obtain ⟨v,hv,q⟩:=sl j _ Y
      rcases q with ⟨d,q,_⟩ | ⟨ns,a,q,_⟩ | ⟨X,c1,q1,q2,q3,_⟩
      ·cases q
      ·cases q
      ·rw [inj c X j f q1]
       show σI[j]?=_
       rw [hv,q3]) I4 a0 (by simp [E]) (fun c s es=>by
      have hl:c < env2.length:=by
       have:=(ax6.mp es).1
       simpa [E] using this
      rw [N c hl] at es
      cases f:inv c with
      | none =>
       refine .inl ⟨rfl,?_⟩
       rw [f] at es
       simp only [Option.some.injEq] at es
       cases q:env2[c]? with
       | none=>rw [q] at es;cases es
       | some u=>rw [q] at es;simp at es;rw [es]
      | some j =>
       rw [f] at es
       obtain ⟨A',S⟩:=a0 c j f
       obtain ⟨A0,A,Y,C⟩:=mv c j f
       simp only [S] at es
       rcases C with ⟨_,C⟩ | ⟨_,C⟩
       ·rw [C] at es
        simp only [Option.some.injEq] at es
        exact .inr ⟨j,A,A',rfl,S,.inl ⟨C,es.symm⟩⟩
       ·rw [C] at es
        simp only [Option.some.injEq] at es
        exact .inr ⟨j,A,A',rfl,S,.inr ⟨C,es.symm⟩⟩)
    have b5:∀ j,¬ (match inv j with | some j=>F4 j p | none=>F2 j p):=fun j z=>by
     cases hj:inv j with
     | none=>rw [hj] at z;exact b0 j z
     | some l =>
      rw [hj] at z
      obtain ⟨A',S⟩:=a0 j l hj
      obtain ⟨v,_,q⟩:=I4.sl l _ S
      rcases q.2.1 p z with ⟨X,_,q⟩ | q
      ·exact b0 X q
      ·change H3 p=_ at q;rw [a7] at q;cases q
    refine ⟨⟨G4,_,e4,E,a4,L.aside (fun _ z=>nomatch z) b1 b5 hb,g2.trans (o.gg.trans I4.g0),aaj,r4,b1,b5,j4,I4.ln,by simp [E,c2],fun j s es=>?_,fun c f=>?_,fun c j f=>?_⟩,c0⟩
    ·obtain ⟨v,hv,q⟩:=I4.sl j s es
     refine ⟨v,hv,?_⟩
     have a3:(∀ A,s ≠ .io A)->∀ c,inv c ≠ some j:=fun hn c f=>by
      obtain ⟨A,P⟩:=a0 c j f
      rw [es] at P
      exact hn A (by simpa using P)
     cases s with
     | st d=>exact .inl ⟨d,rfl,q.1,a3 (by intro A z;cases z)⟩
     | scr ns =>
      obtain ⟨⟨a,ea,sq⟩,_⟩:=q
      exact .inr (.inl ⟨ns,a,rfl,ea,sq,a3 (by intro A z;cases z)⟩)
     | own A =>
      have:=((a9 _ _ _ j4).got es).2
      simp [afv] at this
     | io A =>
      obtain ⟨A0,h0⟩:=((a9 _ _ _ j4).got es).1 rfl
      obtain ⟨c,t,hs,ht,hp⟩:=afc h0
      have hm:M c=true:=by
       cases t with
       | own A=>simp [M,ht]
       | io A=>simp [M,ht]
       | st d=>cases hp
       | scr ns=>cases hp
      have f:=a5 c j hs hm
      obtain ⟨B0,A1,Y,C⟩:=mv c j f
      have hl:c < env2.length:=by
       rcases C with ⟨_,C⟩ | ⟨_,C⟩ <;> exact (ax6.mp C).1
      refine .inr (.inr ⟨c,A,f,rfl,?_,?_⟩)
      ·have hS : σI[j]?=some (some v):=q.2.2
       obtain ⟨v',b8,q'⟩:=sl j _ Y
       rcases q' with ⟨d,q',_⟩ | ⟨ns,a,q',_⟩ | ⟨X,c1,q1,q2,q3,_⟩
       ·cases q'
       ·cases q'
       ·rw [inj c X j f q1,q3,← b8,hS]
      ·rw [N c hl,f]
       simp only [es]
       rcases C with ⟨_,C⟩ | ⟨_,C⟩
       ·rw [C];exact .inl rfl
       ·rw [C];exact .inr rfl
    ·by_cases hl:c < env2.length
     ·rw [N c hl,f]
      simp only
      rw [← un c f]
      rw [ax5 hl];rfl
     ·rw [aC3.mpr (by simp [E];omega),← un c f,aC3.mpr (by omega)]
    ·obtain ⟨A',S⟩:=a0 c j f
     obtain ⟨A0,A,Y,C⟩:=mv c j f
     have hl:c < env2.length:=by
      rcases C with ⟨_,C⟩ | ⟨_,C⟩ <;> exact (ax6.mp C).1
     refine ⟨A0,A',S,?_⟩
     rw [N c hl,f]
     simp only [S]
     rcases C with ⟨Z,C⟩ | ⟨Z,C⟩
     ·rw [C];exact .inl ⟨Z,rfl⟩
     ·rw [C];exact .inr ⟨Z,rfl⟩
   have hd:ds[i]?=some ds[i]:=ax5 hlt
   refine js i _ yd e hd jv ⟨B.K,G3,H3,acp H3 F2 inv,σI,fun j a=>∃ i,inv i=some j/\F2 i a⟩ rfl σI G3 H3 _ x _ _ E3 (acv o.ok.1) fun T G4 H4 F4 e4 I4 g4 q4=>?_
   refine q4 T G4 H4 F4 _ I4 fun b G5 H5 F5 e5 I5 g5 q5=>?_
   cases b with
   | false =>
    rw [aC2 ay4] at q5 ⊢
    obtain ⟨w,ac⟩:=fin T G5 H5 F5 e5 yd ys (.lst ys) I5 q5 (ry.same (o.gg.trans (g4.trans g5)))
    have:upd H5 p (.lst ys)=H5:=by
     funext b
     unfold upd
     split
     ·rename_i hb';rw [hb'];exact ac.symm
     ·rfl
    rw [this] at w
    exact w
   | true =>
    rw [aC1 rfl] at q5 ⊢
    refine q5 T G5 H5 F5 _ I5 fun y G6 H6 F6 d6 e6 I6 g6 r6 q6=>?_
    obtain ⟨w,ac⟩:=fin T G6 H6 F6 e6 (yd ++ [d6]) (ys ++ [y]) (.lst ys) I6 q6.2 ((ry.same (o.gg.trans (g4.trans (g5.trans g6)))).append (.cons r6 .nil))
    exact ⟨ac,by rw [ry.length];exact big (by have:=q6.1;omega),w⟩
  ·have ei:i=ds.length:=by omega
   subst ei
   refine .inl ⟨it.stop _ G2 H2 g2 I2.gh rfl,?_⟩
   have q:=jd yd e jv
   have eb:ahd src U e=env2:=by
    apply aC7
    intro c
    unfold ahd
    rw [aev,Nat.zero_add]
    have O:M c=false->env2[c]?=U[c]?:=fun hm=>un c (by simp [inv,hm])
    cases W:U[c]? with
    | none =>
     rw [O (by simp [M,W]),W];rfl
    | some o =>
     cases o with
     | none=>rw [O (by simp [M,W]),W];rfl
     | some t =>
      have a6:∀ A,(t=.own A\/t=.io A)->M c=true:=fun A h=>by rcases h with rfl | rfl <;> simp [M,W]
      cases t with
      | st d=>rw [O (by simp [M,W]),W];rfl
      | scr ns=>rw [O (by simp [M,W]),W];rfl
      | own A =>
       have hm:=a6 A (.inl rfl)
       simp only [aE6,afu]
       cases e3:idxE c src 0 with
       | none =>
        have:inv c=none:=by simp [inv,e3]
        rw [un c this,W]
       | some j =>
        have f:inv c=some j:=by simp [inv,hm,e3]
        obtain ⟨A0,A1,Y,C⟩:=mv c j f
        simp only [Y]
        rcases C with ⟨Z,C⟩ | ⟨Z,C⟩
        ·rw [C]
        ·rw [W] at Z;cases Z
      | io A =>
       have hm:=a6 A (.inr rfl)
       simp only [aE6,afu]
       cases e3:idxE c src 0 with
       | none =>
        have:inv c=none:=by simp [inv,e3]
        rw [un c this,W]
       | some j =>
        have f:inv c=some j:=by simp [inv,hm,e3]
        obtain ⟨A0,A1,Y,C⟩:=mv c j f
        simp only [Y]
        rcases C with ⟨Z,C⟩ | ⟨Z,C⟩
        ·rw [W] at Z;cases Z
        ·rw [C]
   rw [eb] at q
   refine k (.ref p) G2 H2 F2 (· = p) (.own (OL yd)) env2 I2 (g1.trans g2) ⟨⟨p,ys,rfl,a1,ry,fun b=>Iff.rfl⟩,fun a z=>by rw [z];exact hb,fun a z=>by rw [z];exact ga,fun a z=>by rw [z];exact ⟨_,a1⟩,fun j a z=>by rw [z];exact fa j⟩ q
end
def noIo (e:En):Bool:=e.all fun s => !isIo s
theorem aqw {e:En} {j:Nat} {x:Option Sl} (h:noIo e=true) (a:e[j]?=some x):isIo x=false:=by
 have:=aC0.mp h x (ax7 a)
 simpa using this
theorem afw {src:List (Option Nat)} {b e:En} (h:noIo (aak src b)=true):ahd src b e=b:=by
 apply aC7
 intro i
 unfold ahd
 rw [aev,Nat.zero_add]
 cases e2:b[i]? with
 | none=>rfl
 | some o =>
  have a:∀ A,(o=some (.own A)\/o=some (.io A))->idxE i src 0=none:=fun A c=>by
   cases e3:idxE i src 0 with
   | none=>rfl
   | some j =>
    have hs:=(aea e3).2
    have:(aak src b)[j]?=some (some (.io A)):=by
     unfold aak
     rw [ay0,show src[j]?=some (some i) by simpa using hs]
     rcases c with rfl | rfl <;> simp [e2,ahc]
    have:=aqw h this
    simp [isIo] at this
  cases o with
  | none=>rfl
  | some t =>
   cases t with
   | st d=>rfl
   | scr ns=>rfl
   | own A=>simp only [aE6,afu,a A (.inl rfl)]
   | io A=>simp only [aE6,afu,a A (.inr rfl)]
def stO:Option PyData->Option Sl:=Option.map Sl.st
theorem isIo_stO {o:Option PyData}:isIo (stO o)=false:=by cases o <;> rfl
theorem acz {o:Option PyData}:afv (stO o)=false:=by cases o <;> rfl
theorem adk {src:List (Option Nat)} {b:En}:∀ x∈aak src b,afv x=false:=by
 intro x a
 unfold aak at a
 obtain ⟨o,_,rfl⟩:=az1.mp a
 cases o with
 | none=>rfl
 | some j =>
  dsimp only
  cases (b[j]?).getD none with
  | none=>rfl
  | some t=>cases t <;> rfl
theorem ads:∀ {e:En},(∀ x∈e,afv x=false)->ioLe e e
 | [],_=>True.intro
 | x :: r,h=>⟨⟨rfl,h x az2⟩,ads fun y a=>h y (ay9 _ a)⟩
section
variable {B:Bs} {env:En} {g:TG} {tif:TT} {te:TE} {K:Frag} {src:List (Option Nat)} {ds:List PyData} {e1:En} {R:List PyData->En->Prop}
theorem aqx (f:PyData->PyData) (p:PyData->Bool) (g:noIo (aak src e1)=true) (C:ds.length<=999999)
  (h:∀ d∈ds,∀ a:Bs,a.K=K->EvT a tif (some (.st d) :: aak src e1) fun b j=>b=p d/\j=some (.st d) :: aak src e1/\(b=true->Ev a te (some (.st d) :: aak src e1) fun y l=>y=f d/\l=some (.st d) :: aak src e1))
  (A:R ((ds.filter p).map f) e1):LcV K (none :: src) (aav 0) tif te ds e1 R:=by
 have c:noIo (aak (none :: src) e1)=true:=by
  show ((none :: aak src e1).all fun s => !isIo s)=true
  rw [List.all_cons]
  exact (aD6 _ _).mpr ⟨rfl,g⟩
 refine ⟨fun i ys e=>ys=((ds.take i).filter p).map f/\∃ o,e=stO o :: aak src e1,⟨by simp,none,rfl⟩,?_,?_,?_⟩
 ·rintro i ys e ⟨_,o,rfl⟩
  exact ⟨⟨isIo_stO.symm,acz⟩,ads adk⟩
 ·rintro i d ys e hd ⟨rfl,o,rfl⟩ a x
  have hi:i < ds.length:=(ax6.mp hd).1
  have q:ds.take (i+1)=ds.take i ++ [d]:=by rw [aD9,hd];rfl
  refine aaw ?_
  show EvT a tif (some (.st d) :: aak src e1) _
  intro σ G H F Q I k
  refine h d (ax7 hd) a x σ G H F Q I fun b G' H' F' j n g' ⟨hb,w,z⟩=>k b G' H' F' j n g' ?_
  subst w
  by_cases hp:b=true
  ·rw [aC1 hp]
   intro σ G H F Q I k
   refine z hp σ G H F Q I fun v G' H' F' d' l n g' r ⟨u,m⟩=>k v G' H' F' d' l n g' r ?_
   subst u m
   refine ⟨?_,?_,some d,rfl⟩
   ·have:=aB9 p (ds.take i)
    simp only [ax8]
    have B:(ds.take i).length<=i:=by simp;omega
    omega
   ·rw [q,List.filter_append,aB2]
    have:p d=true:=by rw [← hb];exact hp
    simp [this]
  ·rw [aC2 hp]
   refine ⟨?_,some d,rfl⟩
   rw [q,List.filter_append,aB2]
   have:p d=false:=by rw [← hb];simpa using hp
   simp [this]
 ·rintro ys e ⟨rfl,o,rfl⟩
  rw [afw c,aD3]
  exact A
theorem aci {α:Type} (xs:List α):xs.filter (fun _=>true)=xs:=by simp
theorem ate (f:PyData->PyData) (b:noIo (aak src e1)=true) (j:ds.length<=999999)
  (h:∀ d∈ds,∀ a:Bs,a.K=K->Ev a te (some (.st d) :: aak src e1) fun y i=>y=f d/\i=some (.st d) :: aak src e1)
  (g:R (ds.map f) e1):LcV K (none :: src) (aav 0) tYes te ds e1 R :=
 aqx f (fun _=>true) b j (fun d hd a c=>aco ⟨rfl,rfl,fun _=>h d hd a c⟩) (by rw [aci];exact g)
theorem aew {u:Frag} {α:Type} {xs:List α} {fa fb : α->PyData} (f : α->PyData) (p : α->Bool) (g:noIo (aak src e1)=true) (E:xs.length<=999999)
  (h:∀ x∈xs,∀ a:Bs,a.K=K->EvT a tif (some (.st (fa x)) :: some (.st (fb x)) :: aak src e1) fun b j=>b=p x/\j=some (.st (fa x)) :: some (.st (fb x)) :: aak src e1/\(b=true->Ev a te (some (.st (fa x)) :: some (.st (fb x)) :: aak src e1) fun y m=>y=f x/\m=some (.st (fa x)) :: some (.st (fb x)) :: aak src e1))
  (C:R ((xs.filter p).map f) e1):LcV K (none :: none :: src) (gTup u 2 (abz (aav 0) (abz (aav 1) gNil))) tif te (xs.map fun x => .tuple [fa x,fb x]) e1 R:=by
 have c:noIo (aak (none :: none :: src) e1)=true:=by
  show ((none :: none :: aak src e1).all fun s => !isIo s)=true
  rw [List.all_cons,List.all_cons]
  exact (aD6 _ _).mpr ⟨rfl,(aD6 _ _).mpr ⟨rfl,g⟩⟩
 refine ⟨fun i ys e=>ys=((xs.take i).filter p).map f/\∃ o o',e=stO o :: stO o' :: aak src e1,⟨by simp,none,none,rfl⟩,?_,?_,?_⟩
 ·rintro i ys e ⟨_,o,o',rfl⟩
  exact ⟨⟨isIo_stO.symm,acz⟩,⟨isIo_stO.symm,acz⟩,ads adk⟩
 ·rintro i d ys e hd ⟨rfl,o,o',rfl⟩ a A
  rw [ay0] at hd
  cases hx:xs[i]? with
  | none=>rw [hx] at hd;cases hd
  | some x =>
   rw [hx] at hd
   cases hd
   have hi:i < xs.length:=(ax6.mp hx).1
   have q:xs.take (i+1)=xs.take i ++ [x]:=by rw [aD9,hx];rfl
   refine amq rfl (adr (aaw (adr (aaw (agk ?_)))))
   show EvT a tif (some (.st (fa x)) :: some (.st (fb x)) :: aak src e1) _
   intro σ G H F Q I k
   refine h x (ax7 hx) a A σ G H F Q I fun b G' H' F' j n g' ⟨hb,z,B⟩=>k b G' H' F' j n g' ?_
   subst z
   by_cases hp:b=true
   ·rw [aC1 hp]
    intro σ G H F Q I k
    refine B hp σ G H F Q I fun v G' H' F' d' m n g' r ⟨w,l⟩=>k v G' H' F' d' m n g' r ?_
    subst w l
    refine ⟨?_,?_,some _,some _,rfl⟩
    ·have:=aB9 p (xs.take i)
     simp only [ax8]
     have D:(xs.take i).length<=i:=by simp;omega
     omega
    ·rw [q,List.filter_append,aB2]
     have:p x=true:=by rw [← hb];exact hp
     simp [this]
   ·rw [aC2 hp]
    refine ⟨?_,some _,some _,rfl⟩
    rw [q,List.filter_append,aB2]
    have:p x=false:=by rw [← hb];simpa using hp
    simp [this]
 ·rintro ys e ⟨rfl,o,o',rfl⟩
  rw [afw c]
  simpa using C
end
section
variable {R:Sl->Prop}
theorem atf {g:Int->Int->Int} {i j:Int} (h:R (.st (.int (g i j)))):Op2 (rI0 fun i j => .int (g i j)) (.int i) (.int j) R:=fun G H d c Q gh b a k=>by
 cases b;cases a
 exact ⟨i,j,rfl,rfl,k _ _ _ _ _ (Out.refl gh (.int _)) h⟩
theorem atg {g:Int->Int->Bool} {i j:Int} (h:R (.st (.bool (g i j)))):Op2 (rI0 fun i j => .bl (g i j)) (.int i) (.int j) R:=fun G H d c Q gh b a k=>by
 cases b;cases a
 exact ⟨i,j,rfl,rfl,k _ _ _ _ _ (Out.refl gh (.bl _)) h⟩
theorem avx {C:Int->Int->Prop} {g:Int->Int->Int} {i j:Int} (b:C i j) (h:R (.st (.int (g i j)))):Op2 (rI C fun i j => .int (g i j)) (.int i) (.int j) R:=fun G H f d Q gh c a k=>by
 cases c;cases a
 exact ⟨i,j,rfl,rfl,b,k _ _ _ _ _ (Out.refl gh (.int _)) h⟩
theorem avy {g:Int->Int} {i:Int} (h:R (.st (.int (g i)))):Op1 (rU fun i => .int (g i)) (.int i) R:=fun G H b Q gh a k=>by
 cases a
 exact ⟨i,rfl,k _ _ _ _ _ (Out.refl gh (.int _)) h⟩
theorem ath {i j:Int} (h:R (.st (.bool (decide (i=j))))):Op2 rEq (.int i) (.int j) R:=fun G H d c Q gh b a k=>by
 cases b;cases a
 exact aot (k _ _ _ _ _ (Out.refl gh (.bl _)) h)
theorem ati {i j:Int} (h:R (.st (.bool (!decide (i=j))))):Op2 rNe (.int i) (.int j) R:=fun G H d c Q gh b a k=>by
 cases b;cases a
 exact avg (k _ _ _ _ _ (Out.refl gh (.bl _)) h)
theorem atj (i j:Bool):decide (V.bl i=V.bl j)=decide (i=j):=by cases i <;> cases j <;> rfl
theorem atk {i j:Bool} (h:R (.st (.bool (!decide (i=j))))):Op2 rNe (.bool i) (.bool j) R:=fun G H d c Q gh b a k=>by
 cases b;cases a
 refine ⟨rfl,?_⟩
 rw [atj]
 exact k _ _ _ _ _ (Out.refl gh (.bl _)) h
theorem atl {x y:PyData} (a:aas x=true) (b:aas y=true) (hd:x.depth<=60) (h:R (.st (.bool (PyData.eqv x y)))):Op2 rEqD x y R:=fun G H g f Q gh d c k =>
 ⟨x,y,(d.rep a).same gh,(c.rep b).same gh,a,b,hd,k _ _ _ _ _ (Out.refl gh (.bl _)) h⟩
theorem atm {a:Bool} {x:PyData} {es:List PyData} (b:aas x=true) (c:plainDs es=true) (hd:x.depth<=60) (h:R (.st (.bool (if a then !es.any (fun z=>PyData.eqv z x) else es.any (fun z=>PyData.eqv z x))))):Op2 (rInD a) x (.list es) R:=fun G H i g Q gh f d k =>
 ⟨x,es,(f.rep b).same gh,.inl ((d.rep (by simpa [aas] using c)).same gh),b,c,hd,k _ _ _ _ _ (Out.refl gh (.bl _)) h⟩
theorem Rps.at {G:Hp} {vs:List V} {ds:List PyData} {i:Int} {d:PyData} (r:Rps G vs ds) (h:atI ds i=some d):∃ v,atI vs i=some v/\Rp G v d:=by
 unfold atI at h ⊢
 rw [r.length]
 cases e:ixN ds.length i with
 | none=>rw [e] at h;cases h
 | some j =>
  rw [e] at h
  exact r.get h
theorem atn {K:Frag} {ds:List PyData} {i:Int} {d:PyData} (hd:atI ds i=some d) (h:R (.st d)):Op2 (ab7 K) (.list ds) (.int i) R:=fun G H j g Q gh f a k=>by
 cases a
 cases f with
 | lst ha rs =>
  obtain ⟨v,c,b⟩:=rs.at hd
  exact aes (gh _ _ ha) c (k _ _ _ _ _ (Out.refl gh b) h)
theorem ato {K:Frag} {ds:List PyData} {i:Int} {d:PyData} (hd:atI ds i=some d) (h:R (.st d)):Op2 (ab7 K) (.tuple ds) (.int i) R:=fun G H j g Q gh f a k=>by
 cases a
 cases f with
 | tup ha rs =>
  obtain ⟨v,c,b⟩:=rs.at hd
  exact aqm (gh _ _ ha) c (k _ _ _ _ _ (Out.refl gh b) h)
def isNone:PyData->Bool
 | .none=>true
 | _=>false
theorem atp {G:Hp} {v:V} {x:PyData} (r:Rp G v x):decide (v=.non)=isNone x:=by cases r <;> rfl
theorem atq {x:PyData} (h:R (.st (.bool (isNone x)))):Op2 rIsN x .none R:=fun G H d c Q gh b a k=>by
 cases a
 refine ⟨rfl,?_⟩
 rw [atp b]
 exact k _ _ _ _ _ (Out.refl gh (.bl _)) h
theorem atr {xs ys:List PyData} (c:xs.length+ys.length<=1000000) (h:R (.own (OL (xs ++ ys)))):Op2 rCat (.list xs) (.list ys) R:=fun G H g f Q gh d a k=>by
 cases d with
 | lst ha ra =>
  cases a with
  | lst hb rb =>
   refine avj (gh _ _ ha) (gh _ _ hb) ?_ fun p b=>k _ _ _ _ _ (Out.newL gh b (ra.append rb)) h
   rw [ra.length,rb.length];exact aD0 (big c)
theorem ams {xs:List PyData} {n:Int} (d : -(2 ^ 63)<=n) (a:n < 2 ^ 63) (c:xs.length * n.toNat<=1000000) (h:R (.own (OL (List.replicate n.toNat xs).flatten))):Op2 rRep (.list xs) (.int n) R:=fun G H i j Q gh g f k=>by
 cases f
 cases g with
 | lst ha ra =>
  refine ⟨_,n,_,rfl,rfl,gh _ _ ha,d,a,?_,fun p b=>k _ _ _ _ _ (Out.newL gh b (ra.rep _)) h⟩
  rw [ra.length];exact aD0 (big c)
theorem aqy {K:Frag} {xs:List PyData} (h:R (.st (.int xs.length))):OpA (rLen K) [.list xs] R:=fun G H vs Q gh rs k=>by
 cases rs with
 | cons r t =>
  cases t
  cases r with
  | lst ha ra =>
   refine ame (gh _ _ ha) ?_
   rw [ra.length]
   exact k _ _ _ _ _ (Out.refl gh (.int _)) h
theorem aqz {K:Frag} {xs:List PyData} (h:R (.st (.int xs.length))):OpA (rLen K) [.tuple xs] R:=fun G H vs Q gh rs k=>by
 cases rs with
 | cons r t =>
  cases t
  cases r with
  | tup ha ra =>
   refine asq (gh _ _ ha) ?_
   rw [ra.length]
   exact k _ _ _ _ _ (Out.refl gh (.int _)) h
theorem aq0 {i j:Int} (h:R (.st (.int (if j > i then j else i)))):OpA ajz [.int i,.int j] R:=fun G H vs Q gh rs k=>by
 obtain rfl:vs=[V.int i,V.int j]:=Rps.ints_inv (ns:=[i,j]) rs
 exact amf (k _ _ _ _ _ (Out.refl gh (.int _)) h)
theorem aq1 {i j:Int} (h:R (.st (.int (if j < i then j else i)))):OpA aj0 [.int i,.int j] R:=fun G H vs Q gh rs k=>by
 obtain rfl:vs=[V.int i,V.int j]:=Rps.ints_inv (ns:=[i,j]) rs
 exact amg (k _ _ _ _ _ (Out.refl gh (.int _)) h)
theorem aq2 {b:Bool} (h:R (.st (.int (if b then 1 else 0)))):OpA aj1 [.bool b] R:=fun G H vs Q gh rs k=>by
 cases rs with
 | cons r t =>
  cases t;cases r
  exact amh (k _ _ _ _ _ (Out.refl gh (.int _)) h)
end
section
variable {B:Bs} {env:En} {QO:Sl->En->Prop} {Q':PyData->En->Prop} {te tl th:TE} {K:Frag}
def cutD (xs:List PyData) (lo hi:Option Int):List PyData:=(xs.drop (HT.sIx xs.length 0 lo)).take (HT.sIx xs.length xs.length hi - HT.sIx xs.length 0 lo)
def EvOp (B:Bs) (t:TO) (env:En) (Q':Option Int->En->Prop):Prop:=∀ (σ:St) (G H:Hp) (F:Nat->Addr->Prop) (Q:Option Int->Hp->Prop),VI B G H σ env F->(∀ o G' H' F' env',VI B G' H' σ env' F'->Same G G'->Q' o env'->Q o H')->t σ H Q
theorem aq3 {a:Option Int->En->Prop} (q:a none env):EvOp B al6 env a:=fun σ G H F Q I k=>k none G H F env I (Same.refl _) q
theorem aq4 {a:Option Int->En->Prop} (h:Ev B te env fun d e=>∃ i,d=.int i/\a (some i) e):EvOp B (ar5 te) env a:=fun σ G H F Q I k =>
 h σ G H F _ I fun v j o b d l c f g m=>by
  obtain ⟨i,n,q⟩:=m
  subst n;cases g
  exact ⟨i,rfl,k _ j o b l c f q⟩
theorem axg {i:Int} {R:Int->Prop} (h:R i):∃ j,PyData.int i=.int j/\R j:=⟨i,rfl,h⟩
end
def afx:PyData->Bool
 | .none | .bool _ | .int _ | .str _=>true
 | _=>false
theorem amt {G G':Hp} {v:V} {d:PyData} (r:Rp G v d) (h:afx d=true):Rp G' v d:=by
 cases r with
 | non=>exact .non
 | bl b=>exact .bl b
 | int i=>exact .int i
 | str x=>exact .str x
 | _=>simp [afx] at h
def Has (env:En) (i:Nat) (A:Own):Prop:=env[i]?=some (some (.own A))\/env[i]?=some (some (.io A))
section
variable {B:Bs} {env:En} {QO:Sl->En->Prop} {Q':PyData->En->Prop} {QT:Bool->En->Prop} {QE:En->Prop} {te ta tb tk:TE} {K:Frag} {i:Nat}
theorem VI.has {G H:Hp} {σ:St} {F:Nat->Addr->Prop} {A:Own} (I:VI B G H σ env F) (h:Has env i A):∃ v,σ[i]?=some (some v)/\A.P G H v (F i):=by
 rcases h with h | h
 ·obtain ⟨v,a,q⟩:=I.sl i _ h;exact ⟨v,a,q.1⟩
 ·obtain ⟨v,a,q⟩:=I.sl i _ h;exact ⟨v,a,q.1⟩
theorem VI.moment {G d c H H3:Hp} {σ:St} {F:Nat->Addr->Prop} {v:V} {s:Sl} {Fv:Addr->Prop} (I:VI B G H σ env F) (i:Same G d) (o:Out d H v c H3 s Fv):∃ f,Same G f/\VI B f H3 σ env F:=by
 refine ⟨fun a=>if H a=none then c a else G a,fun a u e=>?_,I.grow (fun a u e=>?_) (fun a u e=>?_) o.hh (fun a u e=>?_) fun a b e=>?_⟩
 ·show (if H a=none then c a else G a)=some u;rw [aC2 (by rw [I.gh a u e];simp)];exact e
 ·rw [aC2 (by rw [I.gh a u e];simp)];exact e
 ·by_cases h:H a=none
  ·rw [aC1 h] at e;exact o.gh a u e
  ·rw [aC2 h] at e;exact o.hh _ _ (I.gh a u e)
 ·by_cases h:H a=none
  ·exact .inr h
  ·rw [aC2 h] at e;exact .inl e
 ·have f1:FT d H:=fun a b e=>i _ _ (I.ft a b e)
  by_cases h:H a=none
  ·rw [aC1 h];exact o.ft f1 a b e
  ·rw [aC2 h]
   obtain ⟨u,g⟩:=ank h
   have:=o.hh _ _ g
   rw [e] at this
   exact I.ft a b (by rw [g,← this])
theorem avz {r:R2} {p:Own} (j:Has env i p) (h:Ev B tb env fun y c=>∃ A dx,Has c i A/\Frz A dx/\Op2 r dx y fun s=>∃ d,s=.st d/\afx d=true/\Q' d c):Ev B (tOp r (tVar i) tb) env Q':=fun σ G H F Q I k=>by
 obtain ⟨v,f,_⟩:=I.has j
 refine ⟨v,f,h σ G H F _ I fun u g H2 F2 y c a D E ⟨A,dx,z,x,m⟩=>?_⟩
 obtain ⟨J,b,ap⟩:=a.has z
 rw [f] at b;cases b
 refine m (jn g H2 (F2 i)) H2 v u Q (anl a.gh) (x _ _ _ _ ap (a.fg i) a.gh) (E.same (abo (a.fg i))) fun w K H3 s Fv o ⟨d,es,hs,n⟩=>?_
 subst es
 obtain ⟨q,l,C⟩:=a.moment (abo (a.fg i)) o
 exact k w q H3 F2 d c C (D.trans l) (amt o.ok.1 hs) n
theorem av0 {r:List V->Hp->VK->Prop} {A:Own} {dx:PyData} (j:Has env i A) (g:Frz A dx) (h:OpA r [dx] fun s=>∃ d,s=.st d/\afx d=true/\Q' d env):Ev B (tCB r (abn (tVar i) tNil)) env Q':=fun σ G H F Q I k=>by
 obtain ⟨v,a,ap⟩:=I.has j
 refine ⟨v,a,h (jn G H (F i)) H [v] Q (anl I.gh) (.cons (g _ _ _ _ ap (I.fg i) I.gh) .nil) fun w m H3 s Fv o ⟨d,es,hs,c⟩=>?_⟩
 subst es
 obtain ⟨f,b,l⟩:=I.moment (abo (I.fg i)) o
 exact k w f H3 F d env l b (amt o.ok.1 hs) c
theorem x_sc {d:PyData} {R:PyData->Prop} (a:afx d=true) (h:R d):∃ d',Sl.st d=.st d'/\afx d'=true/\R d':=⟨d,rfl,a,h⟩
theorem av1 {l:List PyData} (p:Has env i (OL l)) (h:Ev B tb env fun y c=>∃ ds k d,Has c i (OL ds)/\y=.int k/\atI ds k=some d/\Q' d c):Ev B (tOp (ab7 K) (tVar i) tb) env Q':=fun σ G H F Q I k=>by
 obtain ⟨v,m,_⟩:=I.has p
 refine ⟨v,m,h σ G H F _ I fun u o H2 F2 y c n A C ⟨ds,j,d,s,r,g,q⟩=>?_⟩
 subst r
 cases C
 obtain ⟨D,b,a,vs,z,ha,rs,_⟩:=n.has s
 rw [m] at b;cases b
 subst z
 obtain ⟨w,x,f⟩:=rs.at g
 exact aes ha x (k w o H2 F2 d c n A f q)
theorem VI.upd1 {G H:Hp} {σ:St} {F:Nat->Addr->Prop} {s:Sl} {A A':Own} {a:Addr} {o:HO} (I:VI B G H σ env F) (e:env[i]?=some (some s)) (hs:s=.own A\/s=.io A) (d : σ[i]?=some (some (.ref a))) (hf:∀ b,F i b ↔ b=a) (f:A'.P G (upd H a o) (.ref a) (· = a)) (h:∀ xs,o ≠ .tup xs:=by intro _ z;cases z) :
  VI B G (upd H a o) σ (env.set i (some (reS s A'))) (putF F i (· = a)):=by
 refine I.change (A:=A') i e d (fun b u hb c=>by rw [aaf (fun z=>hb ((hf b).mpr z))];exact c) (fun b u c=>?_) (fun b z=>⟨.inl ((hf b).mpr z),by rw [z];exact ⟨_,aaj⟩⟩) f (fun b g e=>?_) ?_
 ·by_cases z:b=a
  ·rw [z];exact ⟨_,aaj⟩
  ·rw [aaf z];exact ⟨u,c⟩
 ·by_cases z:b=a
  ·subst z;rw [aaj] at e;exact absurd (aA0 e) (h _)
  ·rw [aaf z] at e;exact I.ft b g e
 ·rcases hs with rfl | rfl
  ·exact .inl ⟨rfl,A,rfl⟩
  ·exact .inr ⟨rfl,A,rfl⟩
theorem apa {l:List PyData} (r:Has env i (OL l)) (h:Ev B te env fun y f=>∃ s ds,f[i]?=some (some s)/\(s=.own (OL ds)\/s=.io (OL ds))/\ds.length<=999999/\Q' .none (f.set i (some (reS s (OL (ds ++ [y])))))):Ev B (tBM K "list" aeh (tVar i) (abn te tNil)) env Q':=fun σ G H F Q I k=>by
 obtain ⟨v,g,a,vs,z,ha,rs,_⟩:=I.has r
 subst z
 refine ⟨_,g,.inl ⟨rfl,_,SqL.of ha⟩,h σ G H F _ I fun u o H2 F2 y f n x A ⟨s,ds,es,hs,D,q⟩=>?_⟩
 have w:Has f i (OL ds):=by rcases hs with rfl | rfl;exact .inl es;exact .inr es
 obtain ⟨E,c,C,p,m,j,d,hf⟩:=n.has w
 rw [g] at c;cases c;cases m
 refine ae7 j (by rw [d.length];exact big (by omega)) ?_
 exact k _ o _ _ _ _ (n.upd1 (A':=OL (ds ++ [y])) es hs g hf ⟨a,_,rfl,aaj,d.append (.cons A .nil),fun b=>Iff.rfl⟩) x .non q
theorem anm {a:List PyData} (f:Has env i (OL a)) (h:Ev B te env fun y b=>∃ ds,b[i]?=some (some (.own (OL ds)))/\ds.length<=999999/\Q' .none (b.set i (some (.own (OL (ds ++ [y])))))):Ev B (tBM K "list" aeh (tVar i) (abn te tNil)) env Q' :=
 apa f fun σ G H F Q I k=>h σ G H F Q I fun v G' H' F' d e l g r ⟨ds,c,j,q⟩=>k v G' H' F' d e l g r ⟨_,ds,c,.inl rfl,j,q⟩
theorem aq5 {p:List PyData} (E:Has env i (OL p)) (h:Ev B te env fun y g=>∃ s ds j n d,y=.int j/\g[i]?=some (some s)/\(s=.own (OL ds)\/s=.io (OL ds))/\-(2 ^ 63)<=j/\j < 2 ^ 63/\seqIndex? j ds.length=some n/\ds[n]?=some d/\Q' d (g.set i (some (reS s (OL (ds.eraseIdx n)))))):Ev B (tBM K "list" akf (tVar i) (abn te tNil)) env Q':=fun σ G H F Q I k=>by
 obtain ⟨v,l,a,vs,O,ha,rs,_⟩:=I.has E
 subst O
 refine ⟨_,l,.inl ⟨rfl,_,SqL.of ha⟩,h σ G H F _ I fun u z H2 F2 y g x N P ⟨s,ds,j,n,d,J,es,hs,C,D,hn,hd,q⟩=>?_⟩
 subst J
 cases P
 have L:Has g i (OL ds):=by rcases hs with rfl | rfl;exact .inl es;exact .inr es
 obtain ⟨S,f,R,A,r,o,c,hf⟩:=x.has L
 rw [l] at f;cases f;cases r
 obtain ⟨w,M,m⟩:=c.get hd
 refine aqd o C D (by rw [c.length];exact hn) M ?_
 exact k _ z _ _ _ _ (x.upd1 (A':=OL (ds.eraseIdx n)) es hs l hf ⟨a,_,rfl,aaj,c.erase n,fun b=>Iff.rfl⟩) N m q
theorem aq6 {d:PyData} {o:List PyData} (D:Has env i (OL o)) (h:Ev B tk env fun y g=>∃ s ds k j,y=.int k/\g[i]?=some (some s)/\(s=.own (OL ds)\/s=.io (OL ds))/\ixN ds.length k=some j/\QE (g.set i (some (reS s (OL (ds.set j d)))))):EvG B (gSub (tVar i) tk am9) (.st d) env QE:=fun σ G H F v Fv Q I x k=>by
 obtain ⟨z,_⟩:=x.ok
 obtain ⟨N,l,a,vs,L,ha,rs,_⟩:=I.has D
 subst L
 refine ⟨_,l,h σ G H F _ I fun u A H2 F2 y g w r M ⟨s,ds,n,j,E,es,hs,K,q⟩=>?_⟩
 subst E
 cases M
 have J:Has g i (OL ds):=by rcases hs with rfl | rfl;exact .inl es;exact .inr es
 obtain ⟨P,c,O,C,p,m,f,hf⟩:=w.has J
 rw [l] at c;cases c;cases p
 refine amd m (by rw [f.length];exact K) ?_
 exact k _ A _ _ _ (w.upd1 (A':=OL (ds.set j d)) es hs l hf ⟨a,_,rfl,aaj,f.set (z.same r) j,fun b=>Iff.rfl⟩) r q
theorem ah8 {t:TS} {D':VEnds} {A:Own} {d:PyData} (i:Nat) (e:env[i]?=some (some (.own A))) (f:Frz A d) (h:EvS B t D' (env.set i (some (.st d)))):EvS B t D' env:=fun σ G H F D I r=>by
 obtain ⟨v,b,a,g,J⟩:=I.frz e f
 exact h σ _ H _ D J (r.later g)
end
def tyD:PyData->String
 | .none => "NoneType" | .bool _ => "bool" | .int _ => "int" | .str _ => "str" | .list _ => "list" | .tuple _ => "tuple" | .dict _ => "dict"
def adw (T:String):Prop:=T = "int"\/T = "bool"\/T = "tuple"\/T = "list"\/T = "str"\/T = "dict"
def isiD (T:String) (d:PyData):Bool:=tyD d == T || (T == "int" && tyD d == "bool")
theorem axh {K:Frag} {H:Hp} {v:V} {d:PyData} (r:Rp H v d):TyOf K H v (.type (tyD d)):=by
 cases r with
 | non=>exact .non
 | bl b=>exact .bl b
 | int i=>exact .int i
 | str x=>exact .str x
 | lst h _=>exact .lst h
 | tup h _=>exact .tup h
 | dk h _ _=>exact .dK h
 | dt h _ _=>exact .dT h
theorem axi {K:Frag} {T:String} (h:adw T) (d:PyData):kitOne K (.type (tyD d)) (.type T)=some (isiD T d):=by
 rcases h with rfl | rfl | rfl | rfl | rfl | rfl
 ·cases d with
  | none=>exact agi
  | bool _=>exact akr
  | int _=>exact alt
  | str _=>exact alv
  | list _=>exact akz
  | tuple _=>exact ajl
  | dict _=>exact ak1
 ·cases d with
  | none=>exact af3
  | bool _=>exact ajd
  | int _=>exact akt
  | str _=>exact akw
  | list _=>exact aji
  | tuple _=>exact ah2
  | dict _=>exact ajn
 ·cases d with
  | none=>exact afb
  | bool _=>exact ah0
  | int _=>exact ajg
  | str _=>exact ajh
  | list _=>exact ah1
  | tuple _=>exact ag9
  | dict _=>exact ah5
 ·cases d with
  | none=>exact af4
  | bool _=>exact aje
  | int _=>exact aku
  | str _=>exact akx
  | list _=>exact ajj
  | tuple _=>exact ah3
  | dict _=>exact ajo
 ·cases d with
  | none=>exact agj
  | bool _=>exact aks
  | int _=>exact alu
  | str _=>exact alw
  | list _=>exact ak0
  | tuple _=>exact ajm
  | dict _=>exact ak2
 ·cases d with
  | none=>exact af5
  | bool _=>exact ajf
  | int _=>exact akv
  | str _=>exact aky
  | list _=>exact ajk
  | tuple _=>exact ah4
  | dict _=>exact ajp
section
variable {B:Bs} {env:En} {QO:Sl->En->Prop} {Q':PyData->En->Prop} {QT:Bool->En->Prop} {QE:En->Prop} {te ta tb tk:TE} {K:Frag} {i:Nat}
theorem av2 {T:String} (g:adw T) (h:Ev B te env fun d e=>Q' (.bool (isiD T d)) e):Ev B (tCB (rIsi K) (abn te (abn (tC (.ty T)) tNil))) env Q':=fun σ G H F Q I k =>
 h σ G H F _ I fun v j m b d l a c i f=>⟨v,T,_,_,rfl,axh (i.same a.gh),axi g d,k _ j m b _ l a c (.bl _) f⟩
theorem av3:adw "int":=.inl rfl
theorem ats:adw "bool":=.inr (.inl rfl)
theorem aq7:adw "tuple":=.inr (.inr (.inl rfl))
theorem att:adw "list":=.inr (.inr (.inr (.inl rfl)))
theorem aq8 {A:Own} {D':VEnds} (e:env[i]?=some (some (.own A))) (q:D'.rt (.own A) (env.set i none)):EvS B (tRet (tVar i)) D' env:=amr (aet e q)
theorem axj {n m:Nat} {P:Prop} (h:n<=m) (q:P):n<=m/\P:=⟨h,q⟩
theorem av4 {ds:List PyData} {a:En} {R:List PyData->Prop} (e:a[i]?=some (some (.own (OL ds)))) (b:ds.length<=999999) (q:R ds):∃ ds,a[i]?=some (some (.own (OL ds)))/\ds.length<=999999/\R ds:=⟨ds,e,b,q⟩
theorem axk {ds:List PyData} {d:PyData} {k:Int} {a:En} {R:PyData->Prop} (c:Has a i (OL ds)) (h:atI ds k=some d) (q:R d):∃ ds b d,Has a i (OL ds)/\PyData.int k=.int b/\atI ds b=some d/\R d:=⟨ds,k,d,c,rfl,h,q⟩
theorem ann {ds:List PyData} {k:Int} {j:Nat} {a:En} {R:Sl->List PyData->Nat->Prop} (e:a[i]?=some (some (.own (OL ds)))) (c:ixN ds.length k=some j) (q:R (.own (OL ds)) ds j):∃ s ds b j,PyData.int k=.int b/\a[i]?=some (some s)/\(s=.own (OL ds)\/s=.io (OL ds))/\ixN ds.length b=some j/\R s ds j:=⟨_,ds,k,j,rfl,e,.inl rfl,c,q⟩
theorem x_st {b:Bool} {R:Bool->Prop} (h:R b):∃ c,Sl.st (.bool b)=.st (.bool c)/\R c:=⟨b,rfl,h⟩
theorem av5 {b:Bool} {R:Bool->Prop} (h:R b):∃ k,TruD (.bool b) k/\R k:=⟨b,rfl,h⟩
theorem aq9 {ds:List PyData} {R:Bool->Prop} (h:R (!ds.isEmpty)):∃ k,TruD (.list ds) k/\R k:=⟨_,rfl,h⟩
theorem lenP {f:VP} {n:Nat} {vs:List V} {H:Hp} {Q:VK} {E:XK} (h:spP K f vs H Q E) (hf:∀ ss a,f ss a->ss.length=n):vs.length=n:=by
 obtain ⟨G,ss,a,_,_,b,q,_⟩:=h
 rw [b.length];exact hf ss a q
theorem lenI {f:VIo} {n:Nat} {vs:List V} {H:Hp} {Q:VK} {E:XK} (h:spI K f vs H Q E) (hf:∀ A ss a,f A ss a->ss.length+1=n):vs.length=n:=by
 obtain ⟨v0,c,G,R,A,ss,F0,a,rfl,_,_,_,_,_,_,b,q,_⟩:=h
 rw [aB3,b.length];exact hf A ss a q
theorem axl {P Q:Prop} (h:P) (q:Q):P/\Q:=⟨h,q⟩
theorem axm {src:List (Option Nat)} {j:TI} {g:TG} {f:TT} (nd:(src.filterMap id).Nodup) (h:EvI B j env fun ds i=>LcV B.K src g f te ds i fun ys l=>Q' (.list ys) l):Ev B (tLC src j g f te) env Q':=abc (ao9 nd fun σ G H F R I k=>h σ G H F R I fun J G' H' F' ds i n g' it ⟨m,a,b,c,d⟩=>k J G' H' F' ds i n g' it ⟨m,a,b,c,fun ys e q=>adj (d ys e q)⟩)
end
end VL
namespace VL
open PySem L2
section
variable {B:Bs} {QE:En->Prop} {Q':PyData->En->Prop} {s:Sl} {r:En} {A:Own} {d:PyData} {x0 x1 x2 x3 x4 x5 x6 x7 x8 x9 x10 x11 x12 x13 x14 x15 x16 x17 x18 x19 x20 x21 x22 x23 x24 x25:Option Sl}
theorem av6 (h:QE (x0 :: some s :: r)):EvG B (aav 1) s (x0 :: x1 :: r) QE:=aaw h
theorem av7 (h:QE (x0 :: x1 :: some s :: r)):EvG B (aav 2) s (x0 :: x1 :: x2 :: r) QE:=aaw h
theorem av8 (h:QE (x0 :: x1 :: x2 :: some s :: r)):EvG B (aav 3) s (x0 :: x1 :: x2 :: x3 :: r) QE:=aaw h
theorem av9 (h:QE (x0 :: x1 :: x2 :: x3 :: some s :: r)):EvG B (aav 4) s (x0 :: x1 :: x2 :: x3 :: x4 :: r) QE:=aaw h
theorem awa (h:QE (x0 :: x1 :: x2 :: x3 :: x4 :: some s :: r)):EvG B (aav 5) s (x0 :: x1 :: x2 :: x3 :: x4 :: x5 :: r) QE:=aaw h
theorem awb (h:QE (x0 :: x1 :: x2 :: x3 :: x4 :: x5 :: some s :: r)):EvG B (aav 6) s (x0 :: x1 :: x2 :: x3 :: x4 :: x5 :: x6 :: r) QE:=aaw h
theorem awc (h:QE (x0 :: x1 :: x2 :: x3 :: x4 :: x5 :: x6 :: some s :: r)):EvG B (aav 7) s (x0 :: x1 :: x2 :: x3 :: x4 :: x5 :: x6 :: x7 :: r) QE:=aaw h
theorem awd (h:QE (x0 :: x1 :: x2 :: x3 :: x4 :: x5 :: x6 :: x7 :: some s :: r)):EvG B (aav 8) s (x0 :: x1 :: x2 :: x3 :: x4 :: x5 :: x6 :: x7 :: x8 :: r) QE:=aaw h
theorem awe (h:QE (x0 :: x1 :: x2 :: x3 :: x4 :: x5 :: x6 :: x7 :: x8 :: some s :: r)):EvG B (aav 9) s (x0 :: x1 :: x2 :: x3 :: x4 :: x5 :: x6 :: x7 :: x8 :: x9 :: r) QE:=aaw h
theorem atu (h:QE (x0 :: x1 :: x2 :: x3 :: x4 :: x5 :: x6 :: x7 :: x8 :: x9 :: some s :: r)):EvG B (aav 10) s (x0 :: x1 :: x2 :: x3 :: x4 :: x5 :: x6 :: x7 :: x8 :: x9 :: x10 :: r) QE:=aaw h
theorem atv (h:QE (x0 :: x1 :: x2 :: x3 :: x4 :: x5 :: x6 :: x7 :: x8 :: x9 :: x10 :: some s :: r)):EvG B (aav 11) s (x0 :: x1 :: x2 :: x3 :: x4 :: x5 :: x6 :: x7 :: x8 :: x9 :: x10 :: x11 :: r) QE:=aaw h
theorem atw (h:QE (x0 :: x1 :: x2 :: x3 :: x4 :: x5 :: x6 :: x7 :: x8 :: x9 :: x10 :: x11 :: some s :: r)):EvG B (aav 12) s (x0 :: x1 :: x2 :: x3 :: x4 :: x5 :: x6 :: x7 :: x8 :: x9 :: x10 :: x11 :: x12 :: r) QE:=aaw h
theorem atx (h:QE (x0 :: x1 :: x2 :: x3 :: x4 :: x5 :: x6 :: x7 :: x8 :: x9 :: x10 :: x11 :: x12 :: some s :: r)):EvG B (aav 13) s (x0 :: x1 :: x2 :: x3 :: x4 :: x5 :: x6 :: x7 :: x8 :: x9 :: x10 :: x11 :: x12 :: x13 :: r) QE:=aaw h
theorem aty (h:QE (x0 :: x1 :: x2 :: x3 :: x4 :: x5 :: x6 :: x7 :: x8 :: x9 :: x10 :: x11 :: x12 :: x13 :: some s :: r)):EvG B (aav 14) s (x0 :: x1 :: x2 :: x3 :: x4 :: x5 :: x6 :: x7 :: x8 :: x9 :: x10 :: x11 :: x12 :: x13 :: x14 :: r) QE:=aaw h
theorem atz (h:QE (x0 :: x1 :: x2 :: x3 :: x4 :: x5 :: x6 :: x7 :: x8 :: x9 :: x10 :: x11 :: x12 :: x13 :: x14 :: some s :: r)):EvG B (aav 15) s (x0 :: x1 :: x2 :: x3 :: x4 :: x5 :: x6 :: x7 :: x8 :: x9 :: x10 :: x11 :: x12 :: x13 :: x14 :: x15 :: r) QE:=aaw h
theorem at3 (h:QE (x0 :: x1 :: x2 :: x3 :: x4 :: x5 :: x6 :: x7 :: x8 :: x9 :: x10 :: x11 :: x12 :: x13 :: x14 :: x15 :: some s :: r)):EvG B (aav 16) s (x0 :: x1 :: x2 :: x3 :: x4 :: x5 :: x6 :: x7 :: x8 :: x9 :: x10 :: x11 :: x12 :: x13 :: x14 :: x15 :: x16 :: r) QE:=aaw h
theorem at4 (h:QE (x0 :: x1 :: x2 :: x3 :: x4 :: x5 :: x6 :: x7 :: x8 :: x9 :: x10 :: x11 :: x12 :: x13 :: x14 :: x15 :: x16 :: some s :: r)):EvG B (aav 17) s (x0 :: x1 :: x2 :: x3 :: x4 :: x5 :: x6 :: x7 :: x8 :: x9 :: x10 :: x11 :: x12 :: x13 :: x14 :: x15 :: x16 :: x17 :: r) QE:=aaw h
end
end VL
namespace Gr
structure Ring (T:Int->Int->Prop) (a:Int) (k:Nat) (far:Int->Option Nat) (edge:List Int):Prop where
 lab:∀ v d,far v=some d ↔ (Dist T a v d/\d<=k)
 edg:∀ v,v∈edge ↔ Dist T a v k
structure Mid (T:Int->Int->Prop) (k:Nat) (far0:Int->Option Nat) (edge:List Int) (done:Int->Prop) (far:Int->Option Nat) (beyond:List Int):Prop where
 old:∀ v d,far0 v=some d->far v=some d
 new:∀ v,v∈beyond ↔ (far0 v=none/\far v ≠ none)
 val:∀ v d,far0 v=none->far v=some d->d=k+1/\∃ u,u∈edge/\T u v
 dn:∀ u w,done u->T u w->far w ≠ none
def label (far:Int->Option Nat) (w:Int) (d:Nat):Int->Option Nat:=fun v=>if v=w then some d else far v
theorem label_same {far:Int->Option Nat} {w:Int} {d:Nat}:label far w d w=some d:=aC1 rfl
theorem label_ne {far:Int->Option Nat} {w v:Int} {d:Nat} (h:v ≠ w):label far w d v=far v:=aC2 h
variable {T:Int->Int->Prop} {a:Int} {k:Nat} {far0 far:Int->Option Nat} {edge beyond:List Int} {done:Int->Prop}
theorem Ring.start:Ring T a 0 (label (fun _=>none) a 0) [a]:=by
 refine ⟨fun v d=>?_,fun v=>?_⟩
 ·by_cases h:v=a
  ·subst h
   rw [label_same]
   constructor
   ·intro e;cases e;exact ⟨Dist.self T v,ay1 _⟩
   ·rintro ⟨h,_⟩;rw [h.uniq (Dist.self T v)]
  ·rw [label_ne h]
   constructor
   ·intro e;cases e
   ·rintro ⟨b,c⟩
    have:d=0:=by omega
    subst this
    cases b.1
    exact absurd rfl h
 ·simp only [az6]
  constructor
  ·rintro rfl;exact Dist.self T v
  ·intro h;cases h.1;rfl
theorem Mid.start:Mid T k far0 edge (fun _=>False) far0 [] :=
 ⟨fun v d h=>h,fun v=>⟨fun h=>by simp at h,fun h=>absurd h.1 h.2⟩,fun v d h g=>(by rw [h] at g;cases g),fun u w h=>h.elim⟩
theorem Mid.add (m:Mid T k far0 edge done far beyond) {u w:Int} (i:u∈edge) (t:T u w) (a:far w=none):Mid T k far0 edge done (label far w (k+1)) (beyond ++ [w]):=by
 have b:far0 w=none:=by
  cases e:far0 w with
  | none=>rfl
  | some d=>rw [m.old w d e] at a;cases a
 refine ⟨fun v d h=>?_,fun v=>?_,fun v d h g=>?_,fun x y c f=>?_⟩
 ·rw [label_ne (by rintro rfl;rw [b] at h;cases h)];exact m.old v d h
 ·by_cases hv:v=w
  ·subst hv
   simp [label_same,b]
  ·rw [label_ne hv]
   simp only [ay2,az6,hv,or_false]
   exact m.new v
 ·by_cases hv:v=w
  ·subst hv
   rw [label_same] at g
   cases g
   exact ⟨rfl,u,i,t⟩
  ·rw [label_ne hv] at g
   exact m.val v d h g
 ·by_cases hv:y=w
  ·subst hv;rw [label_same];simp
  ·rw [label_ne hv];exact m.dn x y c f
theorem Mid.did (m:Mid T k far0 edge done far beyond) {u:Int} (h:∀ w,T u w->far w ≠ none):Mid T k far0 edge (fun x=>done x\/x=u) far beyond :=
 ⟨m.old,m.new,m.val,fun x w a t=>by rcases a with a | rfl;exact m.dn x w a t;exact h w t⟩
theorem Mid.imp {a:Int->Prop} (m:Mid T k far0 edge done far beyond) (h:∀ u,a u->done u):Mid T k far0 edge a far beyond :=
 ⟨m.old,m.new,m.val,fun x w b t=>m.dn x w (h x b) t⟩
theorem Ring.next (r:Ring T a k far0 edge) (m:Mid T k far0 edge done far beyond) (hd:∀ u∈edge,done u):Ring T a (k+1) far beyond:=by
 have f:∀ v,far0 v=none->far v ≠ none->Dist T a v (k+1):=fun v c b=>by
  cases e:far v with
  | none=>exact absurd e b
  | some d =>
   obtain ⟨rfl,u,i,t⟩:=m.val v d c e
   obtain ⟨j,o,h⟩:=((r.edg u).mp i).next t
   by_cases g:j<=k
   ·rw [(r.lab v j).mpr ⟨h,g⟩] at c;cases c
   ·have:j=k+1:=by omega
    rw [← this];exact h
 have back:∀ v,Dist T a v (k+1)->far0 v=none/\far v ≠ none:=fun v h=>by
  refine ⟨?_,?_⟩
  ·cases e:far0 v with
   | none=>rfl
   | some d =>
    obtain ⟨b,l⟩:=(r.lab v d).mp e
    have:=b.uniq h
    omega
  ·obtain ⟨u,t,i⟩:=h.pred
   exact m.dn u v (hd u ((r.edg u).mpr i)) t
 refine ⟨fun v d=>?_,fun v=>⟨fun h=>?_,fun h=>(m.new v).mpr (back v h)⟩⟩
 ·constructor
  ·intro e
   cases e0:far0 v with
   | some d0 =>
    rw [m.old v d0 e0] at e
    cases e
    obtain ⟨b,l⟩:=(r.lab v d).mp e0
    exact ⟨b,by omega⟩
   | none =>
    have g:=(m.val v d e0 e).1
    subst g
    exact ⟨f v e0 (by rw [e];simp),ay1 _⟩
  ·rintro ⟨h,g⟩
   by_cases hd':d<=k
   ·exact m.old v d ((r.lab v d).mpr ⟨h,hd'⟩)
   ·have n:d=k+1:=by omega
    subst n
    obtain ⟨c,b⟩:=back v h
    cases e:far v with
    | none=>exact absurd e b
    | some d=>rw [(m.val v d c e).1]
 ·obtain ⟨c,b⟩:=(m.new v).mp h
  exact f v c b
theorem Dist.down {v:Int}:∀ {d:Nat},Dist T a v d->∀ j,j<=d->∃ u,Dist T a u j
 | 0,h,j,hj=>⟨v,by rw [show j=0 by omega];exact h⟩
 | d+1,h,j,hj=>by
  by_cases e:j=d+1
  ·rw [e];exact ⟨v,h⟩
  ·obtain ⟨u,_,b⟩:=h.pred
   exact Dist.down b j (by omega)
def farO (T:Int->Int->Prop) (a v:Int):Option Nat:=open Classical in if h:∃ d,Dist T a v d then some (Classical.choose h) else none
theorem farO_some {v:Int} {d:Nat}:farO T a v=some d ↔ Dist T a v d:=by
 unfold farO
 constructor
 ·intro h
  split at h
  ·rename_i b
   cases h
   exact Classical.choose_spec b
  ·cases h
 ·intro h
  have b:∃ d,Dist T a v d:=⟨d,h⟩
  rw [dif_pos b,(Classical.choose_spec b).uniq h]
theorem farO_none {v:Int}:farO T a v=none ↔ ∀ d,¬ Dist T a v d:=by
 constructor
 ·intro h d hd
  rw [farO_some.mpr hd] at h;cases h
 ·intro h
  cases e:farO T a v with
  | none=>rfl
  | some d=>exact absurd (farO_some.mp e) (h d)
theorem at6 {v:Int} {o:Option Nat} (h:∀ d,o=some d ↔ Dist T a v d):o=farO T a v:=by
 cases o with
 | some d=>exact (farO_some.mpr ((h d).mp rfl)).symm
 | none=>exact (farO_none.mpr fun d hd=>by cases (h d).mpr hd).symm
theorem Ring.fin (r:Ring T a k far0 []) (v:Int):far0 v=farO T a v:=by
 refine at6 fun d=>?_
 rw [r.lab]
 refine ⟨fun h=>h.1,fun h=>⟨h,?_⟩⟩
 apply Classical.byContradiction
 intro c
 obtain ⟨u,b⟩:=h.down k (by omega)
 have:=(r.edg u).mpr b
 simp at this
theorem Walk.app {u v w:Int} {i j:Nat} (h:Walk T u i v) (g:Walk T v j w):Walk T u (i+j) w:=by
 induction g with
 | refl=>exact h
 | step _ t ih=>exact .step ih t
theorem Walk.rev (hs:∀ u v,T u v->T v u) {u v:Int} {i:Nat} (h:Walk T u i v):Walk T v i u:=by
 induction h with
 | refl=>exact .refl
 | @step j x y _ t ih =>
  have:=(Walk.step (T:=T) (u:=y) .refl (hs _ _ t)).app ih
  rw [Nat.add_comm] at this
  exact this
end Gr
namespace VL
open PySem PySem.Spec L2
theorem nodup_ix {α:Type} {xs:List α} (h:xs.Nodup) {i j:Nat} (hi:i < xs.length) (a:j < xs.length) (e:xs[i]=xs[j]):i=j:=by
 have p:=aD2.mp h
 rcases Nat.lt_trichotomy i j with q | q | q
 ·exact absurd e (p i j hi a q)
 ·exact q
 ·exact absurd e.symm (p j i a hi q)
def OLL (dss:List (List PyData)):Own where
 P:=fun G H v F=>∃ (a:Addr) (as:List Addr),v=.ref a/\H a=some (.lst (as.map V.ref))/\as.Nodup/\a ∉ as/\as.length=dss.length/\(∀ (i:Nat) b ds,as[i]?=some b->dss[i]?=some ds->∃ vs,H b=some (.lst vs)/\Rps G vs ds)/\∀ b,F b ↔ b=a\/b∈as
 mono:=fun ⟨a,as,e,h,n1,n2,l,r,f⟩ g hh=>⟨a,as,e,hh a _ ((f a).mpr (.inl rfl)) h,n1,n2,l,fun i b ds hb hd=>by
  obtain ⟨vs,h1,h2⟩:=r i b ds hb hd
  exact ⟨vs,hh b _ ((f b).mpr (.inr (ax7 hb))) h1,h2.same g⟩,f⟩
 dom:=fun ⟨a,as,e,h,n1,n2,l,r,f⟩ b z=>by
  rcases (f b).mp z with rfl | z
  ·exact ⟨_,h⟩
  ·obtain ⟨i,hi,e⟩:=aE1.mp z
   have hb:as[i]?=some b:=by rw [ax5 hi,e]
   obtain ⟨vs,h1,_⟩:=r i b _ hb (ax5 (by rw [← l];exact hi))
   exact ⟨_,h1⟩
theorem alb {G:Hp}:∀ {vs:List V} {ds:List PyData},vs.length=ds.length->(∀ (i:Nat) v d,vs[i]?=some v->ds[i]?=some d->Rp G v d)->Rps G vs ds
 | [],[],_,_ => .nil
 | [],_ :: _,h,_=>by simp at h
 | _ :: _,[],h,_=>by simp at h
 | v :: vs,d :: ds,h,k => .cons (k 0 v d rfl rfl) (alb (by simpa using h) fun i v d b a=>k (i+1) v d (by simpa using b) (by simpa using a))
theorem ah9 {c:List (List PyData)}:Frz (OLL c) (.list (c.map .list)):=fun G H v F ⟨a,as,e,h,p,q,l,r,f⟩ n g=>by
 subst e
 refine .lst (by rw [afs ((f a).mpr (.inl rfl))];exact h) (alb (by simp [l]) fun i u d j hd=>?_)
 rw [ay0] at j hd
 cases hb:as[i]? with
 | none=>rw [hb] at j;cases j
 | some b =>
  cases hds:c[i]? with
  | none=>rw [hds] at hd;cases hd
  | some ds =>
   rw [hb] at j;rw [hds] at hd
   cases j;cases hd
   obtain ⟨vs,m,o⟩:=r i b ds hb hds
   exact .lst (by rw [afs ((f b).mpr (.inr (ax7 hb)))];exact m) (o.same (abo n))
section
variable {B:Bs} {env:En} {QO:Sl->En->Prop} {Q':PyData->En->Prop} {D':VEnds} {K:Frag} {i:Nat}
theorem awf {a:List (List PyData)} {R:PyData->Prop} (h:R (.list (a.map .list))):FQ (.own (OLL a)) R:=⟨_,ah9,h⟩
theorem at7 {src:List (Option Nat)} {wi:TI} {j:Nat} (h:EvI B wi env fun ds P=>ds.length<=1000000/\QO (.own (OLL (List.replicate ds.length []))) P):EvO B (tLC src wi (aav j) tYes (tLst tNil)) env QO:=fun σ G H F Q I k=>by
 refine h σ G H F _ I fun J O M F1 ds P s g1 it ⟨a1,q⟩ c d=>?_
 let W:Nat->List V->Hp->Prop:=fun n ys H=>∃ (as:List Addr) (g:Hp),ys=as.map V.ref/\as.length=n/\as.Nodup/\c ∉ as/\(∀ b∈as,M b=none/\g b=none/\H b=some (.lst []))/\H c=some (.lst ys)/\g c=none/\Same O g/\Same g H/\Same M H/\(∀ a o,g a=some o->O a=some o\/M a=none)/\FT g H
 refine ⟨fun n m ys σI H=>m=ds.length - n/\n<=ds.length/\W n ys H,⟨ds.length,by simp,aC5 _,[],O,rfl,rfl,List.nodup_nil,by simp,fun b hb=>by simp at hb,aaj,s.no_g d,Same.refl _,s.gh.trans (acg d),acg d,fun a o e => .inl e,fun a T e=>?_⟩,?_⟩
 ·by_cases z:a=c
  ·subst z;rw [aaj] at e;cases e
  ·rw [aaf z] at e;exact s.ft a T e
 rintro n m ys σI H2 ⟨rfl,hn,as,g,rfl,S,nd,na,all,f,ga,C,l,r,K,v⟩
 refine ⟨f,?_⟩
 by_cases hlt:n < ds.length
 ·refine .inr ⟨it.go n g H2 C l hlt,fun E U H'=>W (n+1) E H',fun E U H' hw=>⟨ds.length - (n+1),by omega,rfl,hlt,hw⟩,fun x H3 y=>?_⟩
  obtain ⟨L,o⟩:=it.yld n g H2 x H3 _ C l v (ax5 hlt) y
  refine amc (aou (adq (avf (aos ⟨by decide,fun p A=>?_⟩))))
  have n2:H2 p=none:=ach o.hh A
  have Z:M p=none:=ach r n2
  have Y:p ≠ c:=(aat (o.hh _ _ f) A).symm
  have D:p ∉ as:=fun z=>by
   have:=o.hh _ _ (all p z).2.2
   rw [this] at A;cases A
  refine ⟨by rw [aaf Y.symm];exact o.hh _ _ f,by rw [ax8,S];exact big (by omega),as ++ [p],L,by simp,by simp [S],?_,?_,fun b hb=>?_,aaj,?_,C.trans o.gg,fun a u e=>?_,fun a u e=>?_,fun a u e=>?_,fun a T e=>?_⟩
  ·rw [List.nodup_append]
   exact ⟨nd,by simp,fun x hx y hy=>by simp at hy;subst hy;intro e;subst e;exact D hx⟩
  ·intro z
   rcases ay2.mp z with z | z
   ·exact na z
   ·exact Y (az6.mp z).symm
  ·have gb:∀ b,g b=none->(∃ u,H2 b=some u)->L b=none:=fun b N z_=>by
    obtain ⟨u,R⟩:=z_
    cases e:L b with
    | none=>rfl
    | some w =>
     rcases o.gn b w e with e | e
     ·rw [N] at e;cases e
     ·rw [R] at e;cases e
   rcases ay2.mp hb with hb | hb
   ·obtain ⟨N,R,h3⟩:=all b hb
    refine ⟨N,gb b R ⟨_,h3⟩,?_⟩
    rw [aaf (fun z:b=c=>na (by rw [← z];exact hb)),aaf (fun z:b=p=>D (by rw [← z];exact hb))]
    exact o.hh _ _ h3
   ·have e:b=p:=by simpa using hb
    subst e
    exact ⟨Z,ach o.gh A,by rw [aaf Y,aaj]⟩
  ·cases e:L c with
   | none=>rfl
   | some w =>
    rcases o.gn c w e with e | e
    ·rw [ga] at e;cases e
    ·rw [f] at e;cases e
  ·have ap:a ≠ p:=aat (o.gh a u e) A
   have X:a ≠ c:=by
    rintro rfl
    rcases o.gn _ u e with e | e
    ·rw [ga] at e;cases e
    ·rw [f] at e;cases e
   rw [aaf X,aaf ap];exact o.gh a u e
  ·have ap:a ≠ p:=aat e Z
   have X:a ≠ c:=aat e d
   rw [aaf X,aaf ap];exact o.hh _ _ (r a u e)
  ·rcases o.gn a u e with e | e
   ·exact K a u e
   ·exact .inr (ach r e)
  ·by_cases z:a=c
   ·subst z;rw [aaj] at e;cases e
   ·rw [aaf z] at e
    by_cases y:a=p
    ·subst y;rw [aaj] at e;cases e
    ·rw [aaf y] at e;exact o.ft v a T e
 ·have e:n=ds.length:=by omega
  subst e
  refine .inl ⟨it.stop _ g H2 C l rfl,?_⟩
  have I2:=s.grow C l r K v
  refine k (.ref c) g H2 F1 (fun b=>b=c\/b∈as) (.own (OLL (List.replicate ds.length []))) P I2 (g1.trans C) ⟨⟨c,as,rfl,f,nd,na,by simp [S],fun i b a0 hb hd=>?_,fun b=>Iff.rfl⟩,fun b z=>?_,fun b z=>?_,fun b z=>?_,fun j b z y=>?_⟩ q
  ·rw [aE2] at hd
   split at hd
   ·cases hd;exact ⟨[],(all b (ax7 hb)).2.2,.nil⟩
   ·cases hd
  ·rcases z with rfl | z
   ·exact s.no_b d
   ·exact s.no_b (all b z).1
  ·rcases z with rfl | z
   ·exact ga
   ·exact (all b z).2.1
  ·rcases z with rfl | z
   ·exact ⟨_,f⟩
   ·exact ⟨_,(all b z).2.2⟩
  ·rcases z with rfl | z
   ·exact s.no_f d j y
   ·exact s.no_f (all b z).1 j y
theorem ahe {d:List (List PyData)} {l j n:Nat} {k:Int} {y:PyData} {ds:List PyData} (e:env[i]?=some (some (.own (OLL d)))) (P:env[l]?=some (some (.st (.int k)))) (U:env[j]?=some (some (.st y)))
  (T:ixN d.length k=some n) (hd:d[n]?=some ds) (hl:ds.length<=999999) (q:Q' .none (env.set i (some (.own (OLL (d.set n (ds ++ [y]))))))):Ev B (tBM K "list" aeh (tOp (ab7 K) (tVar i) (tVar l)) (abn (tVar j) tNil)) env Q':=fun σ G H F Q I kk=>by
 obtain ⟨v,M,⟨a,as,rfl,h,E,N,ln,r,f⟩,_⟩:=I.sl i _ e
 obtain ⟨vk,C,Y,_⟩:=I.sl l _ P
 obtain ⟨vy,x,ry,_⟩:=I.sl j _ U
 cases Y
 have hn:n < d.length:=(ax6.mp hd).1
 have hb:as[n]?=some (as[n]'(by omega)):=ax5 _
 generalize as[n]'(by omega)=b at hb
 have s:b∈as:=ax7 hb
 obtain ⟨vs,L,O⟩:=r n b ds hb hd
 have D:atI (as.map V.ref) k=some (.ref b):=by
  unfold atI
  rw [ax8,ln,T]
  simp [hb]
 refine ⟨_,M,_,C,aes h D ⟨.inl ⟨rfl,_,SqL.of L⟩,_,x,ae7 L (by rw [O.length];exact big (by omega)) ?_⟩⟩
 have u:a ≠ b:=fun z=>N (z ▸ s)
 have J:=I.change (A:=OLL (d.set n (ds ++ [y]))) (H2:=upd H b (.lst (vs ++ [vy]))) (F2:=F i) (os':=.own (OLL (d.set n (ds ++ [y])))) i e M (fun c o p w=>by rw [aaf (fun z:c=b=>p ((f c).mpr (.inr (by rw [z];exact s))))];exact w)
  (fun c o w=>by
   by_cases z:c=b
   ·rw [z];exact ⟨_,aaj⟩
   ·rw [aaf z];exact ⟨o,w⟩)
  (fun c z=>⟨.inl z,by
   by_cases y:c=b
   ·rw [y];exact ⟨_,aaj⟩
   ·rw [aaf y];exact I.fo i c z⟩) ?_ (fun c X e=>by
   by_cases z:c=b
   ·subst z;rw [aaj] at e;cases e
   ·rw [aaf z] at e;exact I.ft c X e) (.inl ⟨rfl,_,rfl⟩)
 ·exact kk _ G _ _ _ _ J (Same.refl _) .non q
 ·refine ⟨a,as,rfl,by rw [aaf u];exact h,E,N,by simp [ln],fun m c es p g=>?_,f⟩
  by_cases hm:m=n
  ·subst hm
   rw [hb] at p;cases p
   rw [aA6,aC1 rfl,aC1 hn] at g
   cases g
   exact ⟨_,aaj,O.append (.cons ry .nil)⟩
  ·rw [aA6,aC2 (fun z=>hm z.symm)] at g
   obtain ⟨us,S,Z⟩:=r m c es p g
   refine ⟨us,?_,Z⟩
   rw [aaf]
   ·exact S
   ·rintro rfl
    have i1:=(ax6.mp hb)
    have i2:=(ax6.mp p)
    obtain ⟨R,W⟩:=i1
    obtain ⟨l2,e2⟩:=i2
    exact hm (nodup_ix E l2 R (e2.trans W.symm))
end
@[reducible] def prD (p:Int × Int):PyData:=.tuple [.int p.1,.int p.2]
@[reducible] def webD (n:Int) (es:List (Int × Int)):PyData:=.tuple [.int n,.list (es.map prD)]
def Tied (es:List (Int × Int)) (u v:Int):Prop:=(u,v)∈es\/(v,u)∈es
theorem Tied.symm {es:List (Int × Int)} {u v:Int} (h:Tied es u v):Tied es v u:=h.elim .inr .inl
def InN (n:Int) (es:List (Int × Int)):Prop:=∀ p∈es,0<=p.1/\p.1 < n/\0<=p.2/\p.2 < n
theorem Tied.in {n:Int} {es:List (Int × Int)} {u v:Int} (hi:InN n es) (h:Tied es u v):(0<=u/\u < n)/\0<=v/\v < n:=by
 rcases h with h | h
 ·have:=hi _ h;exact ⟨⟨this.1,this.2.1⟩,this.2.2⟩
 ·have:=hi _ h;exact ⟨⟨this.2.2.1,this.2.2.2⟩,this.1,this.2.1⟩
theorem Tied.snoc {es:List (Int × Int)} {i:Nat} {a b:Int} (h:es[i]?=some (a,b)) (u v:Int):Tied (es.take (i+1)) u v ↔ (Tied (es.take i) u v\/(u=a/\v=b))\/(u=b/\v=a):=by
 have e:es.take (i+1)=es.take i ++ [(a,b)]:=by rw [aD9,h];rfl
 unfold Tied
 rw [e]
 simp only [ay2,az6,Prod.mk.injEq]
 constructor
 ·rintro ((h | ⟨rfl,rfl⟩) | (h | ⟨rfl,rfl⟩))
  ·exact .inl (.inl (.inl h))
  ·exact .inl (.inr ⟨rfl,rfl⟩)
  ·exact .inl (.inl (.inr h))
  ·exact .inr ⟨rfl,rfl⟩
 ·rintro (((h | h) | ⟨rfl,rfl⟩) | ⟨rfl,rfl⟩)
  ·exact .inl (.inl h)
  ·exact .inr (.inl h)
  ·exact .inl (.inr ⟨rfl,rfl⟩)
  ·exact .inr (.inr ⟨rfl,rfl⟩)
def TiedL (n:Int) (T:Int->Int->Prop) (tl:List (List Int)):Prop:=(tl.length:Int)=n/\∀ (i:Nat) ws,tl[i]?=some ws->∀ w,w∈ws ↔ T i w
def oD:Option Nat->PyData
 | none => .none
 | some d => .int d
def lab (n:Nat) (far:Int->Option Nat):List PyData:=(List.range n).map fun (i:Nat)=>oD (far (i:Int))
theorem acs {n:Nat} {far:Int->Option Nat}:(lab n far).length=n:=by simp [lab]
theorem adx {n:Nat} {far:Int->Option Nat} {i:Nat} (h:i < n):(lab n far)[i]?=some (oD (far i)):=by
 unfold lab
 rw [ay0,ax5 (by simpa using h)]
 simp
theorem apb {n:Nat} {far:Int->Option Nat} {v:Int} (a:0<=v) (h:v < n):atI (lab n far) v=some (oD (far v)):=by
 have:=afo (xs:=lab n far) (j:=v.toNat) (adx (by omega))
 rwa [show ((v.toNat:Nat):Int)=v by omega] at this
theorem ahf {n:Nat} {v:Int} (a:0<=v) (h:v < n):ixN n v=some v.toNat:=by
 unfold ixN;rw [aC1 a,aC1 h]
theorem amu {n:Nat} {far:Int->Option Nat} {v:Int} {d:Nat} (a:0<=v) (h:v < n):(lab n far).set v.toNat (.int d)=lab n (Gr.label far v d):=by
 apply aC7
 intro i
 rw [aA6]
 by_cases e:v.toNat=i
 ·rw [aC1 e,aC1 (by rw [acs];omega),adx (by omega)]
  have:(i:Int)=v:=by omega
  rw [this,Gr.label_same];rfl
 ·rw [aC2 e]
  by_cases hi:i < n
  ·rw [adx hi,adx hi,Gr.label_ne (by omega)]
  ·rw [aC3.mpr (by rw [acs];omega),aC3.mpr (by rw [acs];omega)]
theorem apc {n:Nat} {f g:Int->Option Nat} (h:∀ v,0<=v->v < (n:Int)->f v=g v):lab n f=lab n g:=by
 unfold lab
 apply aB6
 intro i hi
 rw [h i (by omega) (by have:=az3.mp hi;omega)]
theorem at8 {o:Option Nat}:isNone (oD o)=o.isNone:=by cases o <;> rfl
theorem adt {α:Type} {f : α->PyData} {xs:List α} {i:Int} {x : α} (h:atI xs i=some x):atI (xs.map f) i=some (f x):=by
 unfold atI at h ⊢
 rw [ax8]
 cases e:ixN xs.length i with
 | none=>rw [e] at h;cases h
 | some j=>rw [e] at h;simp at h ⊢;exact ⟨_,h,rfl⟩
theorem afy {α:Type} {xs:List α} {i:Int} {x : α} (a:0<=i) (h:xs[i.toNat]?=some x):atI xs i=some x:=by
 have:=afo (xs:=xs) (j:=i.toNat) h
 rwa [show ((i.toNat:Nat):Int)=i by omega] at this
@[reducible] def tlD (tl:List (List Int)):List (List PyData):=tl.map fun ws=>ws.map .int
theorem TiedL.get {n:Int} {T:Int->Int->Prop} {tl:List (List Int)} (h:TiedL n T tl) {v:Int} (c:0<=v) (d:v < n):∃ b,tl[v.toNat]?=some b/\∀ w,w∈b ↔ T v w:=by
 have a:v.toNat < tl.length:=by have:=h.1;omega
 refine ⟨tl[v.toNat],ax5 a,fun w=>?_⟩
 rw [h.2 _ _ (ax5 a) w,show ((v.toNat:Nat):Int)=v by omega]
theorem aia {tl:List (List Int)} {i:Nat} {a:List Int} (h:tl[i]?=some a):(tlD tl)[i]?=some (a.map .int):=by
 rw [ay0,h];rfl
theorem TiedL.put {n:Int} {T:Int->Int->Prop} {tl:List (List Int)} (h:TiedL n T tl) {v q:Int} {c:List Int} (j:0<=v) (g:v < n) (d:tl[v.toNat]?=some c):TiedL n (fun a b=>T a b\/(a=v/\b=q)) (tl.set v.toNat (c ++ [q])):=by
 refine ⟨by rw [List.length_set];exact h.1,fun i us hi w=>?_⟩
 rw [aA6] at hi
 by_cases e:v.toNat=i
 ·rw [aC1 e] at hi
  have l:v.toNat < tl.length:=(ax6.mp d).1
  rw [aC1 (by omega)] at hi
  cases hi
  have f:(i:Int)=v:=by omega
  rw [ay2,az6,h.2 i c (by rw [← e];exact d) w,f]
  simp
 ·rw [aC2 e] at hi
  rw [h.2 i us hi w]
  exact ⟨.inl,fun z=>z.elim id fun z=>by omega⟩
theorem amv {tl:List (List Int)} {i:Nat} {a:List Int}:(tlD tl).set i (a.map .int)=tlD (tl.set i a):=by
 unfold tlD;rw [List.map_set]
theorem TiedL.iff {n:Int} {T a:Int->Int->Prop} {tl:List (List Int)} (h:TiedL n T tl) (e:∀ u v,T u v ↔ a u v):TiedL n a tl:=⟨h.1,fun i b hi w=>(h.2 i b hi w).trans (e _ _)⟩
end VL
namespace VL
open PySem L2
def cnt (far:Int->Option Nat):Nat->Nat
 | 0=>0
 | n+1=>cnt far n+(if far (n:Int)=none then 1 else 0)
theorem aey {far:Int->Option Nat} {w:Int} {d:Nat}:∀ {n:Nat},(w:Int) ≥ n->cnt (Gr.label far w d) n=cnt far n
 | 0,_=>rfl
 | n+1,h=>by
  unfold cnt
  rw [aey (by omega),Gr.label_ne (by omega)]
theorem ai0 {far:Int->Option Nat} {w:Int} {d:Nat} (b:0<=w) (a:far w=none):∀ {n:Nat},w < (n:Int)->cnt (Gr.label far w d) n+1=cnt far n
 | 0,h=>by omega
 | n+1,h=>by
  unfold cnt
  by_cases e:w=n
  ·subst e
   rw [aey (by omega),Gr.label_same,a];simp
  ·rw [Gr.label_ne (by omega)]
   have:=ai0 b a (n:=n) (d:=d) (by omega)
   omega
theorem at9 (n:Nat):(List.replicate n [PyData.none]).flatten=lab n (fun _=>none):=by
 apply aC7
 intro i
 by_cases hi:i < n
 ·rw [adx hi]
  have:(List.replicate n [PyData.none]).flatten=List.replicate n PyData.none:=by
   clear hi
   induction n with
   | zero=>rfl
   | succ n ih=>rw [aD8,List.flatten_cons,ih,aD8];rfl
  rw [this,aE2,aC1 hi];rfl
 ·rw [aC3.mpr (by rw [al9];simp;omega),aC3.mpr (by rw [acs];omega)]
theorem alx {α:Type} {f : α->PyData} {xs:List α}:(xs.map f).isEmpty=xs.isEmpty:=by cases xs <;> rfl
theorem adu {xs:List Int} {j:Nat} {u w:Int} (a:xs[j]?=some u) (hm:w∈xs.take (j+1)):w∈xs.take j\/w=u:=by
 rw [aD9,a] at hm
 rcases ay2.mp hm with q | q
 ·exact .inl q
 ·exact .inr (by simpa using q)
theorem apd {n:Nat} {far:Int->Option Nat}:plainDs (lab n far)=true:=by
 rw [aed]
 intro d hd
 obtain ⟨i,_,rfl⟩:=az1.mp hd
 cases far (i:Int) <;> rfl
theorem aua {n:Nat} {far:Int->Option Nat}:((lab n far).any fun z=>PyData.eqv z .none)=true ↔ ∃ v:Int,0<=v/\v < n/\far v=none:=by
 rw [List.any_eq_true]
 constructor
 ·rintro ⟨d,hd,e⟩
  obtain ⟨i,hi,rfl⟩:=az1.mp hd
  refine ⟨i,by omega,by have:=az3.mp hi;omega,?_⟩
  cases h:far (i:Int) with
  | none=>rfl
  | some d=>rw [h] at e;simp [oD,PyData.eqv] at e
 ·rintro ⟨v,a,b,h⟩
  refine ⟨oD (far v),?_,by rw [h];rfl⟩
  have:=adx (far:=far) (show v.toNat < n by omega)
  rw [show ((v.toNat:Nat):Int)=v by omega] at this
  exact ax7 this
def Joined (n:Int) (es:List (Int × Int)):Prop:=∀ v,0<=v->v < n->∃ d,Gr.Dist (Tied es) 0 v d
end VL
namespace DI
open PySem PySem.W
def Raw (h:Heap) (d:Addr) (es:Array DictEntry) (ep:Nat):Prop:=∃ o,h.get? d=some o/\o.ExactDict/\o.data=.dict es ep
theorem Raw.keep {h h':Heap} {d:Addr} {es:Array DictEntry} {a:Nat} (r:Raw h d es a) (k:∀ o,h.get? d=some o->h'.get? d=some o):Raw h' d es a:=let ⟨o,e,x⟩:=r;⟨o,k o e,x⟩
theorem Raw.ty {s:Shared} {d:Addr} {es:Array DictEntry} {a:Nat} (r:Raw s.heap d es a):s.TypeIs (.ref d) "dict":=let ⟨o,e,x,_⟩:=r;⟨o,e,x.1⟩
section
variable {prog:Program} {w:World} {A:Around} {E:Value->Shared->Prop} {s:Shared} {d it:Addr} {es:Array DictEntry} {ep i:Nat}
theorem raw_iter {Q:Value->Shared->Prop} (hd:(d == sysModules)=false) (r:Raw s.heap d es ep)
  (c:Q (.ref s.heap.objs.size) { s with heap:=s.heap.push { cls:=.type "dict_keyiterator",data:=.fields #[.ref d,.int 0 0,.int es.size 0,.int ep 0] } }):wpAny (model prog w) A (pyIter (.ref d)) Q E s:=by
 obtain ⟨o,b,f,a⟩:=id r
 refine wpAny_pyIter_slot r.ty PySem.F.slot_dict_iter (wpAny_call_entry PySem.F.slot_dict_iter r.ty PySem.F.entry_dict_iter ?body (PySem.F.args_dict_iter_1 _))
 case body =>
  unfold Builtin.«dict.__iter__»
  refine aF2 ?slot
  case slot =>
   unfold Builtin.Dict.dictSlotNone
   refine aF2 (wpAny_notOrdered_dict r.ty ?pl)
   case pl =>
    show wpAny _ _ (pure (Value.ref d)) _ _ s
    refine aF3 ?rest
    case rest =>
     show wpAny _ _ (Builtin.Dict.showsAll d >>= _) _ _ s
     unfold Builtin.Dict.showsAll
     rw [aC2 (by rw [hd];exact ay4)]
     refine aF2 (aF3 (aF2 (wpAny_dictEntries b a (aF2 (wpAny_dictEpoch b a (aF2 (aG1 (aF3 ⟨_,rfl,"dict_keyiterator",_,⟨_,aF6 _ rfl,rfl⟩,PySem.F.slot_dict_keyiterator_next.lookup,?fin⟩))))))))
     case fin=>simpa [rawInt] using c
theorem raw_item {Q:Option Value->Shared->Prop} (a:s.heap.IsKeyIter it d i es.size ep) (r:Raw s.heap d es ep) (hi:i < es.size)
  (u:∀ h',h'.IsKeyIter it d (i+1) es.size ep->Heap.SameBut it s.heap h'->Q (some es[i].key) { s with heap:=h' }):wpAny (model prog w) A (pyNext (.ref it)) Q E s:=by
 obtain ⟨o,q,x,hd⟩:=id a
 obtain ⟨od,n,v,p⟩:=r
 unfold pyNext
 refine aF2 (wpAny_attempt (wpAny_callSpecial?_slot (name:=Str.ofString "__next__") a.typeIs PySem.F.slot_dict_keyiterator_next (wpAny_call_entry PySem.F.slot_dict_keyiterator_next a.typeIs PySem.F.entry_dict_keyiterator_next ?b (PySem.F.args_dict_keyiterator_next_1 _))))
 case b =>
  refine aF2 (aF3 (aF2 (aF2 ?c)))
  case c =>
   first | refine aF2 (wpAny_typeNameOfWhole_keyiter a.typeIs (aF3 (aF2 (wpAny_fieldsOf q hd ?e)))) | refine aF2 (wpAny_typeNameOf_keyiter a.typeIs (aF3 (aF2 (wpAny_fieldsOf q hd ?e))))
   case e =>
    simp only [show Builtin.Dict_items.ownsTuple "dict_keyiterator" = false by decide,Bool.false_eq_true,if_false]
    show wpAny _ _ (if (Value.ref d == Value.none)=true then _ else _) _ _ s;rw [aC2 (show ¬ ((Value.ref d == Value.none)=true) from ay4)]
    refine aF2 (aF3 (aF2 (wpAny_dictEntries n p ?f)))
    case f =>
     rw [aC2 (by simp)];refine aF2 (aF3 (aF2 (wpAny_dictEpoch n p ?g)))
     case g =>
      rw [aC2 (by simp)];refine aF3 ?h
      case h =>
       simp only [show ¬ ((i:Int) < 0) by omega,if_false,Int.toNat_natCast,ax9 hi];refine aF2 ?j
       case j =>
        first | refine aF2 (wpAny_typeNameOfWhole_keyiter a.typeIs (aF3 (aF2 (wpAny_isOneOf_keyiter a.typeIs ?k)))) | refine aF2 (wpAny_typeNameOf_keyiter a.typeIs (aF3 (aF2 (wpAny_isOneOf_keyiter a.typeIs ?k))))
        case k =>
         show wpAny _ _ (setField (.ref it) 1 (rawInt ((i:Int)+1)) >>= _) _ _ s;refine aF2 (wpAny_setField q hd (by simp) ?l)
         case l =>
          have nx:(s.heap.update it (Obj.mapFields (·.setIfInBounds 1 (rawInt ((i:Int)+1))))).IsKeyIter it d (i+1) es.size ep:=⟨_,Heap.get?_update_self _ q (Obj.isFreed_of_fields (Obj.data_mapFields hd _)),(Obj.cls_mapFields ..).trans x,by rw [Obj.data_mapFields hd];simp [rawInt]⟩
          refine aF2 (aF8 (aF2 (wpAny_isOneOf_keyiter (s:={ s with heap:=s.heap.update it (Obj.mapFields (·.setIfInBounds 1 (rawInt ((i:Int)+1)))) }) nx.typeIs ?m)))
          case m=>show wpAny _ _ (pure es[i].key) _ _ _;exact aF3 (aF3 ⟨_,rfl,aF3 (u _ nx (Heap.SameBut.update ..))⟩)
theorem raw_end {Q:Option Value->Shared->Prop} (hh:A.handled=none) (i:s.heap.IsKeyIter it d es.size es.size ep) (r:Raw s.heap d es ep) (v:∀ h',Heap.ExtBut it s.heap h'->Q none { s with heap:=h' }):wpAny (model prog w) A (pyNext (.ref it)) Q E s:=by
 obtain ⟨o,u,y,hd⟩:=id i
 obtain ⟨od,n,x,p⟩:=r
 unfold pyNext
 refine aF2 (wpAny_attempt (wpAny_callSpecial?_slot (name:=Str.ofString "__next__") i.typeIs PySem.F.slot_dict_keyiterator_next (wpAny_call_entry PySem.F.slot_dict_keyiterator_next i.typeIs PySem.F.entry_dict_keyiterator_next ?b (PySem.F.args_dict_keyiterator_next_1 _))))
 case b =>
  refine aF2 (aF3 (aF2 (aF2 ?c)))
  case c =>
   first | refine aF2 (wpAny_typeNameOfWhole_keyiter i.typeIs (aF3 (aF2 (wpAny_fieldsOf u hd ?e)))) | refine aF2 (wpAny_typeNameOf_keyiter i.typeIs (aF3 (aF2 (wpAny_fieldsOf u hd ?e))))
   case e =>
    simp only [show Builtin.Dict_items.ownsTuple "dict_keyiterator" = false by decide,Bool.false_eq_true,if_false]
    show wpAny _ _ (if (Value.ref d == Value.none)=true then _ else _) _ _ s;rw [aC2 (show ¬ ((Value.ref d == Value.none)=true) from ay4)]
    refine aF2 (aF3 (aF2 (wpAny_dictEntries n p ?f)))
    case f =>
     rw [aC2 (by simp)];refine aF2 (aF3 (aF2 (wpAny_dictEpoch n p ?g)))
     case g =>
      rw [aC2 (by simp)];refine aF3 ?h
      case h =>
       simp only [show ¬ ((es.size:Int) < 0) by omega,if_false,Int.toNat_natCast,Array.getElem?_eq_none (ay1 es.size)];refine aF2 ?j
       case j =>
        first | refine aF2 (wpAny_typeNameOfWhole_keyiter i.typeIs (aF3 ?k)) | refine aF2 (wpAny_typeNameOf_keyiter i.typeIs (aF3 ?k))
        case k =>
         show wpAny _ _ (setField (.ref it) 0 .none >>= _) _ _ s;refine aF2 (wpAny_setField u hd (by simp) ?l)
         case l =>
          show wpAny _ _ (newExc (.type "StopIteration") [] >>= _) _ _ _;refine aF2 ?m
          case m =>
           simp only [newExc,newTuple];refine aF2 (aG1 ?zz2 (by size_fits))
           case zz2 =>
            refine aF2 (m:=firstArgMember _ _) (wpAny_of_eq (a:=Value.none) (by first | rfl | (simp only [firstArgMember];rfl)) (aG1 ?zz1 (by size_fits)))
            case zz1 =>
             simp only [raiseNew];refine aF2 (wpAny_handled ?q)
             case q =>
              rw [show A.in1.handled=none from hh];refine aF2 (aF3 (wpAny_throw ?u1))
              case u1=>refine aF2 (wpAny_isInstance (T:="StopIteration") (b:=true) ⟨_,aF6 _ rfl,rfl⟩ isSubtype_stop ?u2);exact aF3 (v _ (((Heap.SameBut.update ..).extBut.push _).push _))
end
theorem walks {prog:Program} {w:World} {A:Around} (hh:A.handled=none) (I d:Addr) (c:d ≠ I) (es:Array DictEntry) (g:Nat) :
  Walks prog w A I [I,d] [I] es.size (fun i v=>(es[i]?).map (·.key)=some v) (fun i h=>h.IsKeyIter I d i es.size g/\Raw h d es g) where
 sub:=fun b hb=>by simp at hb;simp [hb]
 frame:=fun _ _ _ st f=>⟨st.1.at fun o e=>f I (by simp) o e,st.2.keep fun o e=>f d (by simp) o e⟩
 item:=fun i s Q E hi st a=>raw_item st.1 st.2 hi fun h' nx sb=>a _ h' s.toks (by rw [ax9 hi];rfl) ⟨nx,st.2.keep fun o e=>sb.extBut d o c e⟩ fun b o hb e=>sb.extBut b o (fun z=>hb (by simp [z])) e
 done:=fun s Q E st a=>raw_end hh st.1 st.2 fun h' j=>a h' s.toks fun b o hb e=>j b o (fun z=>hb (by simp [z])) e
 self:=fun _ _ _ _ st a=>wpAny_pyIter_keyiter st.1 a
end DI
namespace DI
open PySem PySem.W PyProof.Rows
section
variable {prog:Program} {w:World} {A:Around} {E:Value->Shared->Prop} {s:Shared}
theorem src (d:Addr) (es:Array DictEntry) (a:Nat) (hd:(d == sysModules)=false):KdlSrc prog w "dict" d d es.size (fun i v=>(es[i]?).map (·.key)=some v) (fun h=>Raw h d es a) where
 type:=fun s r=>r.ty
 there:=fun h r=>let ⟨o,e,_⟩:=r;⟨aF5 e,aF5 e⟩
 keep:=fun h h' r k=>r.keep fun o e=>k d (.inl rfl) o e
 notList:=by decide
 notTuple:=by decide
 hint:=fun A E s Q r q=>kdl_hint_dict r.ty q
 iter:=fun A s hh r=>⟨{ cls:=.type "dict_keyiterator",data:=.fields #[.ref d,.int 0 0,.int es.size 0,.int a 0] },fun i h=>h.IsKeyIter s.heap.objs.size d i es.size a/\Raw h d es a,fun E Q q=>raw_iter hd r q,
  walks hh s.heap.objs.size d (by obtain ⟨o,e,_⟩:=r;exact az0 (aF5 e)) es a,⟨_,aF6 _ rfl,rfl,rfl⟩,r.keep fun o e=>aF4 _ e⟩
end
end DI
namespace TS
open PySem PySem.W PyProof.Rows
section
variable {prog:Program} {w:World} {A:Around} {E:Value->Shared->Prop} {s:Shared}
end
end TS
namespace L2
open PySem PySem.Spec PyProof.Rows
section
variable {X:Cx} {pins:List (Addr × Obj)} {σ:St} {H:Hp} {s:Shared} {h':Heap}
theorem Inv.turnNew {t':Nat} {ch:List Addr} {T:Addr} {o:HO} (I:Inv X pins σ H s) (f:∀ b∈ch,FpOk X pins H b) (k:∀ b u,b ∉ ch->s.heap.get? b=some u->h'.get? b=some u) (g:s.heap.objs.size<=T) (new:ObjOk X.prog X.w (upd H T o) h' T o) :
  Inv X pins σ (upd H T o) { s with heap:=h',toks:=t' }:=by
 have hn:H T=none:=I.hok.fresh g
 have d:∀ b u,H b=some u->b ∉ ch:=fun b u e z=>by rw [(f b z).1] at e;cases e
 refine I.step (g':=s.gens) (d':=s.drawn) (ch:=ch) (fun b hb=>⟨(f b hb).2.2.2.1,(f b hb).2.1,(f b hb).2.2.2.2.1,(f b hb).2.2.2.2.2⟩) (fun b u _ _ a e _=>k b u a e) (fun b u _ _ a e _=>⟨u.slots,k b u a e⟩)
  (fun b u _ e n=>by rw [aaf (az0 (az9 (aF5 e) g))];exact n) (fun b u a e=>⟨u,k b u a e⟩) (fun b xs e=>by rw [aaf (aat e hn)];exact e) (fun b u v e=>by rw [aaf (aat e hn)];exact e)
  (fun b ps e=>⟨#[],by rw [aaf (aat e hn),e];simp⟩) (fun m hm=>?_) (fun b u e=>?_) I.bare
 ·obtain ⟨u,es,i,h,r⟩:=hm
  exact ⟨u,es,i,k _ u (fun z=>(f _ z).2.1 rfl) h,r⟩
 ·by_cases hb:b=T
  ·subst hb;rw [aaj] at e;cases e;exact new
  ·rw [aaf hb] at e
   refine (I.hok b u e).stay (fun c v a q=>k c v ?_ q) (fun c q=>by rw [aaf (aat q hn)];exact q) fun c xs q=>by rw [aaf (aat q hn)];exact q
   rcases a with z | z
   ·rw [z];exact d b u e
   ·exact d c _ z
theorem Inv.turnedL {t':Nat} {ch:List Addr} (I:Inv X pins σ H s) (f:∀ b∈ch,FpOk X pins H b) (k:∀ b u,b ∉ ch->s.heap.get? b=some u->h'.get? b=some u):Inv X pins σ H { s with heap:=h',toks:=t' }:=by
 have d:∀ b u,H b=some u->b ∉ ch:=fun b u e z=>by rw [(f b z).1] at e;cases e
 refine I.step (g':=s.gens) (d':=s.drawn) (ch:=ch) (fun b hb=>⟨(f b hb).2.2.2.1,(f b hb).2.1,(f b hb).2.2.2.2.1,(f b hb).2.2.2.2.2⟩) (fun b u _ _ a e _=>k b u a e) (fun b u _ _ a e _=>⟨u.slots,k b u a e⟩) (fun _ _ _ _ n=>n)
  (fun b u a e=>⟨u,k b u a e⟩) (fun _ _ e=>e) (fun _ _ _ e=>e) (fun b ps e=>⟨#[],by rw [e];simp⟩) (fun m hm=>?_) (fun b u e=>?_) I.bare
 ·obtain ⟨u,es,h,g,r⟩:=hm
  exact ⟨u,es,h,k _ u (fun z=>(f _ z).2.1 rfl) g,r⟩
 ·refine (I.hok b u e).stay (fun c v a q=>k c v ?_ q) (fun _ q=>q) fun _ _ q=>q
  rcases a with z | z
  ·rw [z];exact d b u e
  ·exact d c _ z
end
def Ite (K:Frag) (a:Addr):It :=
 ⟨fun i H=>∃ xs x,SqL K H a xs/\xs[i]?=some x,fun i H x H'=>∃ p y,x=.ref p/\H p=none/\H'=upd H p (.tup [.int i,y])/\∀ xs,SqL K H a xs->xs[i]?=some y,fun i H=>∃ xs,SqL K H a xs/\xs.length<=i⟩
theorem ape {P:Program} {w:World} {K:Frag} {f:List Expr} {k:Nat} {pos:Pos} (a e it:Addr) (O:e ≠ it) (R:a ≠ e) (B:a ≠ it) :
  Turn P w K (.Tuple f k pos) (Ite K a) [e,it] e (fun i h=>(∃ old,IsEnum h e it i old)/\h.IsListIter it a i) where
 mem:=by simp
 obj:=fun i h st b hb=>by
  obtain ⟨⟨old,g⟩,o,D,c,d⟩:=st
  rcases ay3.mp hb with rfl | hb
  ·exact ⟨_,g,fun v z=>by simp at z⟩
  ·have:b=it:=by simpa using hb
   subst this
   exact ⟨o,D,fun v z=>by rw [d] at z;cases z⟩
 keep:=fun i h h' st q=>⟨let ⟨old,g⟩:=st.1;⟨old,q e (by simp) _ g⟩,st.2.at fun o x=>q it (by simp) o x⟩
 item:=by
  intro X j U C S i pins s σ H E I hf st N
  subst j U C
  obtain ⟨xs,x,r,F⟩:=N
  obtain ⟨its,G,p,hz⟩:=I.list r
  obtain ⟨u,hu,ru⟩:=G.get F
  have hi:i < its.toArray.size:=by simpa using (ax6.mp hu).1
  have W:=WalksT.enumerate (prog:=X.prog) (w:=X.w) (I.ok.hd S) e it a O R B its.toArray
  refine W.item i s _ _ hi ⟨st.1,st.2,p.isList⟩ fun T Y h1 tk j hT L mid kk=>⟨_,rfl,?_⟩
  obtain ⟨t,y,J,rfl⟩:=j
  have ey:y=u:=by
   have:its[i]?=some y:=by simpa using J
   rw [hu] at this;cases this;rfl
  subst ey
  have aT:=W.apart i T _ mid
  refine W.go f k pos i T { s with heap:=h1,toks:=tk } _ _ mid fun Z l k2=>?_
  have m:IsTup Z T #[.int i t,y]:=by
   obtain ⟨o,D,e2,n,e3⟩:=L
   exact ⟨o,k2 T o aT D,e2,n,e3⟩
  refine ⟨.ref T,upd H T (.tup [.int i,x]),I.turnNew hf (fun b o hb q=>k2 b o hb (kk b o hb q)) hT ?_,rfl,⟨T,x,rfl,I.hok.fresh hT,rfl,fun ys J=>by rw [I.list_inj J r];exact F⟩,⟨?_,l.2.1⟩,fun b hb=>?_⟩
  ·exact ⟨by show (2:Nat)<=sizeLine;decide,[.int i t,y],.cons ⟨t,rfl⟩ (.cons ru .nil),m⟩
  ·obtain ⟨old,q⟩:=l.1
   exact ⟨old,by simpa using q⟩
  ·rw [aaf]
   ·exact (hf b hb).1
   ·rintro rfl;exact aT hb
 done:=by
  intro X j U C S i pins s σ H E I hf st N
  subst j U C
  obtain ⟨xs,r,F⟩:=N
  obtain ⟨its,G,p,hz⟩:=I.list r
  obtain ⟨⟨old,g⟩,M⟩:=st
  have hl:=G.length
  exact wpAny_pyNext_enum_end (I.ok.hd S) g M p.isList (by simp;omega) fun Z eb=>⟨rfl,I.turnedL (t':=s.toks) hf fun b o hb q=>eb b o (fun z=>hb (by simp [z])) q⟩
 self:=fun A i s Q E st h=>by
  obtain ⟨⟨old,g⟩,_⟩:=st
  exact wpAny_pyIter_enum g h
section
variable {X:Cx} {elts:List Expr} {k:Nat} {tpos:Pos}
def asa (K:Frag) (ta:TA):TI:=fun σ H R=>ta σ H fun vs H1=>∃ a xs,vs=[.ref a]/\SqL K H1 a xs/\R (Ite K a) H1
theorem aub {a:Expr} {j:TA} {p pos:Pos} (r:Gl X "enumerate") (hm:X.mg "enumerate" = none) (ha:PA X [a] j) (hs:starEach [a] X.env=[(false,eval a X.env)]:=by rfl):PI X (.Tuple elts k tpos) (.Call (.Name "enumerate" p) [a] [] pos) (asa X.K j):=by
 intro pins s σ H R I h
 refine Call_ (adm I r hm akm (PyProof.Rows.callWith_type1 (thn (ha pos pins s σ H _ I h) fun us s1 ⟨vs,y,f,w,a,xs,v,x,q⟩=>?_) hs rfl))
 subst v
 obtain ⟨u,rfl,m⟩:=adh w
 cases m
 obtain ⟨its,A,l,z⟩:=f.list x
 refine call_enumerate_list l.isList fun B i g hsz kp=>?_
 have d:a < s1.heap.objs.size:=by obtain ⟨o,n,e,_⟩:=l;exact aF5 e
 refine wpAny_pyIter_enum i ⟨s1.heap.objs.size+1,[s1.heap.objs.size+1,s1.heap.objs.size],_,_,y,rfl,f.kept (t':=s1.toks) kp,ape a _ _ (Nat.succ_ne_self _) (az0 (Nat.lt_succ_of_lt d)) (az0 d),⟨⟨_,i⟩,g⟩,fun b hb=>?_,q⟩
 have c:s1.heap.objs.size<=b:=by
  rcases ay3.mp hb with rfl | hb
  ·exact Nat.le_succ _
  ·have:b=s1.heap.objs.size:=by simpa using hb
   exact Nat.le_of_eq this.symm
 exact f.fpOk c (f.hok.fresh c)
end
section
variable {X:Cx} {elts:List Expr} {k:Nat} {tpos:Pos}
end
theorem amw:∀ {xs:List V} {us:List Value},xs.length=us.length->(∀ (i:Nat) v u,xs[i]?=some v->us[i]?=some u->RelV v u)->Vals xs us
 | [],[],_,_ => .nil
 | [],_ :: _,h,_=>by simp at h
 | _ :: _,[],h,_=>by simp at h
 | x :: xs,u :: us,h,k => .cons (k 0 x u rfl rfl) (amw (by simpa using h) fun i v w b a=>k (i+1) v w (by simpa using b) (by simpa using a))
theorem awg:bootBuiltins "abs" = some (.builtin "abs"):=by decide +kernel
theorem aly (prog:Program) (w:World) (A:Around) {bs:List Bool} {us:List Value} (r:Vals (bs.map V.bl) us):TruthOf prog w A (fun i v=>us.toArray[i]?=some v) (fun i=>bs.getD i false):=by
 intro i v s Q E d h
 have a:us[i]?=some v:=by simpa using d
 have hi:i < us.length:=(ax6.mp a).1
 have hb:i < bs.length:=by have:=r.length;simp at this;omega
 obtain ⟨u,b,c⟩:=r.get (i:=i) (x:=.bl bs[i]) (by simp [hb])
 rw [a] at b;cases b
 cases (show v=Value.bool bs[i] from c)
 have e:bs.getD i false=bs[i]:=by simp [List.getD,hb]
 have h':Q (bs.getD i false) s:=h
 rw [e] at h'
 exact aG2 h'
section
variable {X:Cx}
theorem apf (bs:List Bool):((List.range bs.length).all fun i=>bs.getD i false)=bs.all id:=by
 rw [aE3,aC0,aC0]
 constructor
 ·intro h b hb
  obtain ⟨i,hi,e⟩:=aE1.mp hb
  have:=h i (az3.mpr hi)
  simp [List.getD,hi,e] at this
  exact this
 ·intro h i hi
  have a:=az3.mp hi
  have:=h bs[i] (List.getElem_mem a)
  simp [List.getD,a];exact this
def rAll (K:Frag):List V->Hp->VK->Prop:=fun xs H Q=>∃ (a:Addr) (bs:List Bool),xs=[.ref a]/\SqL K H a (bs.map V.bl)/\Q (.bl (bs.all id)) H
theorem afd (i:X.calm=true):abh X (.builtin "all") (rAll X.K):=by
 intro pins s σ H xs us Q I r h
 obtain ⟨a,bs,rfl,ha,q⟩:=h
 obtain ⟨u,rfl,f⟩:=adh r
 cases f
 obtain ⟨its,d,c,_⟩:=I.list ha
 have j:a < s.heap.objs.size:=by obtain ⟨o,n,e,_⟩:=c;exact aF5 e
 have g:its.toArray.size=bs.length:=by have:=d.length;simp at this;simp [this]
 refine call_all_walk (wpAny_pyIter_list c.isList ⟨_,[s.heap.objs.size,a],_,_,_,_,_,rfl,Walks.list (A:=X.A.in1) (I.ok.hd i) _ a (az0 j) its.toArray,⟨⟨_,aF6 _ rfl,rfl,rfl⟩,c.isList.push _⟩,aly _ _ _ d,fun l m kp=>?_⟩)
 rw [g,apf]
 refine ⟨.bl _,H,I.kept fun b o e=>kp b o (fun z=>?_) (aF4 _ e),rfl,q⟩
 exact absurd (aF5 e) (by rw [az6.mp z];exact aC9 _)
def rAbs:List V->Hp->VK->Prop:=fun xs H Q=>∃ i:Int,xs=[.int i]/\Q (.int (if i < 0 then -i else i)) H
theorem apg:abh X (.builtin "abs") rAbs:=by
 intro pins s σ H xs us Q I r h
 obtain ⟨i,rfl,q⟩:=h
 obtain ⟨u,rfl,t,rfl⟩:=adh r
 exact call_abs_int fun t' a=>⟨.int _,H,I.tok _,⟨_,rfl⟩,q⟩
def alc (K:Frag):List V->Hp->VK->Prop:=fun xs H Q=>∃ p ys,xs=[.ref p]/\(SqL K H p ys\/SqT K H p ys)/\∀ l,H l=none->Q (.ref l) (upd H l (.lst ys))
theorem ano:abh X (.type "list") (alc X.K):=ake
def aph (ta:TA):TE:=fun σ H Q=>ta σ H fun vs H1=>∃ j:Int,vs=[.int j]/\0<=j/\j<=1000000/\∀ l,H1 l=none->Q (.ref l) (upd H1 l (.lst ((List.range j.toNat).map fun (i:Nat)=>V.int (i:Int))))
theorem agn {a:Expr} {z:TA} {D p2 pos d:Pos} (A:Gl X "list") (hm:X.mg "list" = none) (r:Gl X "range") (y:X.mg "range" = none) (G:X.calm=true) (ha:PA X [a] z) (hs:starEach [a] X.env=[(false,eval a X.env)]:=by rfl)
  (m:starEach [.Call (.Name "range" p2) [a] [] d] X.env=[(false,eval (.Call (.Name "range" p2) [a] [] d) X.env)]:=by rfl):PE X (.Call (.Name "list" D) [.Call (.Name "range" p2) [a] [] d] [] pos) (aph z):=by
 intro pins s σ H Q I h
 refine Call_ (adm I A hm ahv (PyProof.Rows.callWith_type1 ?_ m rfl))
 rw [m]
 refine Calls.spliced_cons (Call_ (adm I r y boot_range (PyProof.Rows.callWith_type1 (thn (ha d pins s σ H _ I h) fun us s1 ⟨vs,R,w,F,j,B,P,O,q⟩=>?_) hs rfl)))
 subst B
 obtain ⟨u,rfl,t,rfl⟩:=adh F
 refine call_range_1 (Calls.spliced_nil ?_)
 have N:IsRange (s1.heap.push { cls:=.type "range",data:=.fields #[.int 0 s1.toks,.int j t,.int 1 (s1.toks+1)] }) s1.heap.objs.size 0 j 1 s1.toks t (s1.toks+1):=aF6 _ rfl
 have hn:Builtin.Range.rangeSize 0 j 1=((j.toNat:Nat):Int):=by rw [rangeSize_one];split <;> omega
 refine call_list_range (s:={ s1 with heap:=s1.heap.push { cls:=.type "range",data:=.fields #[.int 0 s1.toks,.int j t,.int 1 (s1.toks+1)] },toks:=s1.toks+1+1 }) (w.ok.hd G) N (small_one (by omega) (by omega) (by omega) (by omega)) hn (by omega) fun E L l c kp M g=>?_
 have k2:∀ b o,s1.heap.get? b=some o->E.get? b=some o:=fun b o e=>kp b o (aF4 _ e)
 have f:s1.heap.objs.size<=(s1.heap.push { cls:=.type "range",data:=.fields #[.int 0 s1.toks,.int j t,.int 1 (s1.toks+1)] }).objs.size:=by rw [Heap.size_push];exact Nat.le_succ _
 refine ⟨.ref _,_,w.laid (t':=L) (o:=.lst ((List.range j.toNat).map fun (i:Nat)=>V.int (i:Int))) k2 f ?_,rfl,q _ (w.hok.fresh f)⟩
 refine ⟨by rw [ax8,List.length_range];exact aD0 (VL.big (by omega)),l.toList,c,?_,by simpa using M⟩
 obtain ⟨C,x⟩:=g
 refine amw (by simp [C]) fun i v u p J=>?_
 have n:l[i]?=some u:=by simpa using J
 obtain ⟨t',K⟩:=x i u n
 rw [ay0] at p
 have hi:i < j.toNat:=by
  have:=(Array.getElem?_eq_some_iff.mp n).1
  omega
 rw [ax5 (by simpa using hi)] at p
 simp at p
 subst p
 exact ⟨t',by rw [K];simp⟩
end
section
variable {X:Cx} {pins:List (Addr × Obj)} {σ:St} {H:Hp} {s:Shared}
theorem Inv.toFrz {a:Addr} {o:Obj} {u:HO} (I:Inv X pins σ H s) (e:H a=some u) (i:s.heap.get? a=some o) (f:∀ xs,u ≠ .tup xs) (j:∀ o v,u ≠ .frz o v) (nb:∀ ps,u ≠ .tbl ps) (no:∀ x,u ≠ .own x):Inv X pins σ (upd H a (.frz o u)) s:=by
 have ne:∀ b v,H b=some v->v ≠ u->b ≠ a:=fun b v g h z=>by subst z;rw [e] at g;exact h (aA0 g).symm
 have J:=I.un (t':=s.toks) (H':=upd H a (.frz o u)) (h':=s.heap) ⟨fun b o q _ _ _=>q,fun b o q _ _ _=>⟨o.slots,q⟩,fun b o q n _=>by rw [aaf (aat e n).symm];exact n,fun b o q _=>⟨o,q⟩,fun b xs q=>by rw [aaf (ne b _ q (fun z=>f xs z.symm))];exact q,
  fun b w v q=>by rw [aaf (ne b _ q (fun z=>j w v z.symm))];exact q,fun b ps q=>⟨#[],by rw [aaf (ne b _ q (fun z=>nb ps z.symm)),q];simp⟩⟩ fun b v q=>?_
 ·exact J
 ·have st:∀ c v,ObjOk X.prog X.w H s.heap c v->ObjOk X.prog X.w (upd H a (.frz o u)) s.heap c v:=fun c v x=>x.stay (fun _ _ _ q=>q) (fun d q=>by rw [aaf (ne d _ q (fun z=>no c z.symm))];exact q) fun d xs q=>by rw [aaf (ne d _ q (fun z=>f xs z.symm))];exact q
  by_cases hb:b=a
  ·subst hb;rw [aaj] at q;cases q
   exact ⟨i,st _ _ (I.hok b u e)⟩
  ·rw [aaf hb] at q
   exact st _ _ (I.hok b v q)
end
def Itd (a:Addr) (kvs:List (List Key × V)) (o:Obj):It :=
 ⟨fun i H=>i < kvs.length/\H a=some (.frz o (.dT kvs)),fun i H x H'=>H'=H/\∃ b k,x=.ref b/\H b=some (.tup (k.map kV))/\(kvs[i]?).map (·.1)=some k,fun i H=>kvs.length=i/\H a=some (.frz o (.dT kvs))⟩
theorem KT.get {H:Hp}:∀ {kvs:List (List Key × V)} {xs:List (List Key × Addr × Value)} {i:Nat} {p:List Key × V},KT H kvs xs->kvs[i]?=some p->∃ q,xs[i]?=some q/\p.1=q.1/\H q.2.1=some (.tup (p.1.map kV))
 | _,_,_,_,.nil,e=>by simp at e
 | _,_,0,_,.cons r _,e=>by simp at e;subst e;exact ⟨_,rfl,r.1,r.2.1⟩
 | _,_,i+1,p,.cons _ t,e=>by
  obtain ⟨q,b,a⟩:=KT.get (i:=i) (p:=p) t (by simpa using e)
  exact ⟨q,by simpa using b,a⟩
theorem auc {P:Program} {w:World} {K:Frag} {tg:Expr} (a it:Addr) {kvs:List (List Key × V)} {o:Obj} {es:Array DictEntry} {M:Nat} (N:o.ExactDict) (hd:o.data=.dict es M) (hz:es.size=kvs.length) (hn:a ≠ it) :
  Turn P w K tg (Itd a kvs o) [it] it (fun i h=>h.IsKeyIter it a i es.size M) where
 mem:=by simp
 obj:=fun i h st b hb=>by
  have e:b=it:=by simpa using hb
  subst e
  obtain ⟨u,e,c,d⟩:=st
  exact ⟨u,e,fun v z=>by rw [d] at z;cases z⟩
 keep:=fun i h h' st q=>st.at fun u e=>q it (by simp) u e
 item:=by
  intro X B F x Q i pins s σ H E I hf st n
  subst B F x
  obtain ⟨hi,r⟩:=n
  have f:i < es.size:=by omega
  obtain ⟨j,z,y,xs,m,o',R,Z,J,h2,L,U,h5⟩:=(show ObjOk X.prog X.w H s.heap a (.frz o (.dT kvs)) from I.hok a _ r)
  rw [j] at J;cases J
  rw [hd] at L;cases L
  obtain ⟨p,O⟩:∃ p,kvs[i]?=some p:=⟨_,ax5 hi⟩
  obtain ⟨q,W,S,C⟩:=KT.get m O
  have g:es[i].key=.ref q.2.1:=by
   have:es.toList[i]?=some es[i]:=by simp [f]
   rw [U,ay0,W] at this
   simp at this
   rw [← this];rfl
  obtain ⟨D,f1,T,G,l,A⟩:=hf it (by simp)
  refine DI.raw_item st ⟨o,j,N,hd⟩ f fun h' nx sb=>?_
  rw [g]
  have Y:Inv X pins σ H { s with heap:=h' }:=I.turned (t':=s.toks) (fun b u hb e=>(sb.2 b hb).trans e) D f1 G l A
  obtain ⟨u,e,c,d⟩:=id nx
  exact ⟨_,rfl,am4 (s:={ s with heap:=h' }) e c d (by decide) ⟨.ref q.2.1,H,Y,rfl,⟨rfl,q.2.1,p.1,rfl,C,by rw [O];rfl⟩,nx,fun b hb=>(hf b hb).1⟩⟩
 done:=by
  intro X B F x Q i pins s σ H E I hf st n
  subst B F x
  obtain ⟨hi,r⟩:=n
  obtain ⟨j,_⟩:=(show ObjOk X.prog X.w H s.heap a (.frz o (.dT kvs)) from I.hok a _ r)
  obtain ⟨D,f1,T,G,l,A⟩:=hf it (by simp)
  have e:i=es.size:=by omega
  subst e
  exact DI.raw_end (I.ok.hd Q) st ⟨o,j,N,hd⟩ fun h' eb=>⟨rfl,I.turned (t':=s.toks) (fun b u hb e=>eb b u hb e) D f1 G l A⟩
 self:=fun _ _ _ _ _ st h=>wpAny_pyIter_keyiter st h
section
variable {X:Cx} {tg:Expr}
def iDT (te:TE):TI:=fun σ H R=>te σ H fun x H1=>∃ a kvs,x=.ref a/\H1 a=some (.dT kvs)/\∀ o,R (Itd a kvs o) (upd H1 a (.frz o (.dT kvs)))
theorem axn {l:Expr} {te:TE} (r:PE X l te):PI X tg l (iDT te):=by
 intro pins s σ H R I h
 refine thn (r pins s σ H _ I h) fun v s1 ⟨x,C,i,p,a,kvs,ex,j,q⟩=>?_
 subst ex
 cases p
 obtain ⟨z,y,xs,c,o,es,F,d,m,g,B,D⟩:=(show ObjOk X.prog X.w C s1.heap a (.dT kvs) from i.hok a _ j)
 have n:es.size=kvs.length:=by
  have A:es.toList.length=xs.length:=by rw [B];simp
  have E:=Paired.length c
  simp at A;omega
 have J:=i.toFrz (u:=.dT kvs) j d (fun _ z=>nomatch z) (fun _ _ z=>nomatch z) (fun _ z=>nomatch z) fun _ z=>nomatch z
 have f:a < s1.heap.objs.size:=aF5 d
 refine DI.raw_iter y ⟨o,d,m,g⟩ ⟨s1.heap.objs.size,[s1.heap.objs.size],_,_,_,rfl,J.kept (t':=s1.toks) fun b u e=>aF4 _ e,auc a _ m g n (az0 f),⟨_,aF6 _ rfl,rfl,rfl⟩,fun b hb=>?_,q o⟩
 have e:b=s1.heap.objs.size:=by simpa using hb
 subst e
 exact J.fpOk (ay1 _) (J.hok.fresh (ay1 _))
end
end L2
namespace VL
open PySem PySem.Spec L2
def enD (ds:List PyData):List PyData:=(List.range ds.length).map fun (i:Nat) => .tuple [.int (i:Int),ds.getD i .none]
theorem aex {ds:List PyData}:(enD ds).length=ds.length:=by simp [enD]
theorem amx {ds:List PyData} {i:Nat} {d:PyData} (h:(enD ds)[i]?=some d):∃ x,ds[i]?=some x/\d=.tuple [.int (i:Int),x]:=by
 unfold enD at h
 rw [ay0] at h
 by_cases hi:i < ds.length
 ·rw [ax5 (by simpa using hi)] at h
  simp at h
  refine ⟨ds[i],ax5 hi,?_⟩
  rw [← h]
  simp [hi]
 ·rw [aC3.mpr (by simp;omega)] at h;cases h
theorem Out.tup2 {G H:Hp} {p:Addr} {x y:V} {d e:PyData} (g:Same G H) (h:H p=none) (a:Rp G x d) (b:Rp G y e):Out G H (.ref p) (upd G p (.tup [x,y])) (upd H p (.tup [x,y])) (.st (.tuple [d,e])) (fun _=>False):=Out.newT g h (.cons a (.cons b .nil))
section
variable {B:Bs} {env:En} {QI:List PyData->En->Prop} {QO:Sl->En->Prop} {Q':PyData->En->Prop} {K:Frag} {i:Nat} {ta:TA}
theorem ara (h:EvA B ta env fun vs e=>∃ ds,vs=[.list ds]/\QI (enD ds) e):EvI B (asa K ta) env QI:=fun σ G H F R I k =>
 h σ G H F _ I fun vs q D c ds w b m o z=>by
  obtain ⟨xs,C,n⟩:=z
  subst C
  cases o with
  | cons r t =>
   cases t
   cases r with
   | @lst a us _ ha rs =>
    refine ⟨a,us,rfl,SqL.of (b.gh _ _ ha),k _ q D c _ w b m ⟨fun i G' H' g h hi=>?_,fun i G' H' g h hi=>?_,fun i G' H' x H'' d g h ft hd y=>?_⟩ n⟩
    ·have:i < us.length:=by rw [rs.length];rw [aex] at hi;exact hi
     exact ⟨us,us[i],SqL.of (h _ _ (g _ _ ha)),ax5 this⟩
    ·exact ⟨us,SqL.of (h _ _ (g _ _ ha)),by rw [rs.length];rw [aex] at hi;exact Nat.le_of_eq hi.symm⟩
    ·obtain ⟨p,v,rfl,j,rfl,l⟩:=y
     obtain ⟨dx,A,rfl⟩:=amx hd
     obtain ⟨u,s,f⟩:=rs.get A
     have:=l us (SqL.of (h _ _ (g _ _ ha)))
     rw [s] at this;cases this
     exact ⟨_,Out.tup2 h j (.int _) (f.same g)⟩
theorem RpT.len {G:Hp}:∀ {kvs:List (List Key × V)} {es:List (List Key × PyData)},RpT G kvs es->kvs.length=es.length/\kvs.map (·.1)=es.map (·.1)
 | _,_,.nil=>⟨rfl,rfl⟩
 | _,_,.cons _ t=>by
  obtain ⟨b,a⟩:=RpT.len t
  exact ⟨by simp [b],by simp [a]⟩
theorem ago {G:Hp}:∀ (a:List Key),Rps G (a.map kV) (a.map kD)
 | [] => .nil
 | .inl i :: r => .cons (.int i) (ago r)
 | .inr x :: r => .cons (.str x) (ago r)
@[reducible] def tkD (ks:List Key):PyData:=.tuple (ks.map kD)
theorem awh {es:List (List Key × PyData)} (e:env[i]?=some (some (.own (OT es)))) (q:QI (es.map fun p=>tkD p.1) (env.set i none)):EvI B (iDT (tVar i)) env QI:=fun σ G H F R I k=>by
 obtain ⟨v,r,⟨a,kvs,rfl,ha,rt,hf⟩,hb⟩:=I.sl i _ e
 refine ⟨_,r,a,kvs,rfl,ha,fun o=>?_⟩
 have c:F i a:=(hf a).mpr rfl
 have D:=(I.drop i).aside (p:=a) (o:=.frz o (.dT kvs)) (fun _ z=>nomatch z) (I.fg i a c) (fun j z=>by
  by_cases h:j=i
  ·subst h;exact putF_same.mp z
  ·rw [aa8 h] at z;exact h (I.fd j i a z c)) (hb a c)
 have J:=D.freeze (Fv:=(· = a)) (fun b z=>by rw [z];exact hb a c) (fun j b z y=>by
  rw [z] at y
  by_cases h:j=i
  ·subst h;exact putF_same.mp y
  ·rw [aa8 h] at y;exact h (I.fd j i a y c)) (fun b z=>by rw [z];exact I.fg i a c)
 have ga:jn G (upd H a (.frz o (.dT kvs))) (· = a) a=some (.frz o (.dT kvs)):=(afs (F:=(· = a)) rfl).trans aaj
 obtain ⟨w,s⟩:=RpT.len rt
 refine k _ _ _ _ _ _ J (abo fun b z=>by rw [z];exact I.fg i a c) ⟨fun n G' H' g h hn=>⟨by simp at hn;omega,h _ _ (g _ _ ga)⟩,fun n G' H' g h hn=>⟨by simp at hn;omega,h _ _ (g _ _ ga)⟩,fun n G' H' x H'' d g h ft hd y=>?_⟩ q
 obtain ⟨rfl,b,f,rfl,l,u⟩:=y
 have:d=tkD f:=by
  rw [ay0] at hd
  cases e2:es[n]? with
  | none=>rw [e2] at hd;cases hd
  | some p =>
   rw [e2] at hd;cases hd
   have m:(kvs.map (·.1))[n]?=some f:=by rw [ay0];exact u
   rw [s,ay0,e2] at m
   simp at m
   show tkD p.1=tkD f;rw [m]
 subst this
 exact ⟨G',Out.refl h (.tup (ft b f l) (ago f))⟩
@[reducible] def tiD (ns:List Int):PyData:=.tuple (ns.map .int)
def lexS (pss:List (List Int)):Prop:=pss.Pairwise fun x y=>HT.lexLt y x=false
theorem ald {G H:Hp} (ft:FT G H):∀ {vs:List V},(∀ v∈vs,TupI H v)->Rps G vs ((vs.map (kH H)).map tiD)
 | [],_ => .nil
 | v :: vs,h=>by
  obtain ⟨t,ns,rfl,e,_⟩:=h v az2
  rw [aA5,aA5,anj e]
  have:(ns.map V.int)=(ns.map (fun i=>(Sum.inl i:Key))).map kV:=by rw [aB0];rfl
  refine .cons (.tup ?_ (Rps.ints ns)) (ald ft fun u a=>h u (ay9 _ a))
  rw [this];exact ft t _ (by rw [← this];exact e)
theorem af8 {G H:Hp} (gh:Same G H):∀ {vs:List V} {pss:List (List Int)},Rps G vs (pss.map tiD)->(∀ ns∈pss,ns ≠ [])->(∀ v∈vs,TupI H v)/\vs.map (kH H)=pss
 | _,[],.nil,_=>⟨fun v c=>by simp at c,rfl⟩
 | v :: vs,ns :: pss,.cons r t,hn=>by
  obtain ⟨i1,b⟩:=af8 gh t fun d hm=>hn d (ay9 _ hm)
  cases r with
  | tup h rs =>
   have:=Rps.ints_inv rs
   subst this
   have e:=gh _ _ h
   refine ⟨fun u a=>?_,by rw [aA5,anj e,b]⟩
   rcases ay3.mp a with rfl | a
   ·exact ⟨_,ns,rfl,e,hn ns az2⟩
   ·exact i1 u a
theorem api {pss:List (List Int)} (hn:∀ ns∈pss,ns ≠ []) (h:EvA B ta env fun ds e=>ds=[.list (pss.map tiD)]/\∀ b:List (List Int),b.Perm pss->lexS b->QO (.own (OL (b.map tiD))) e):EvO B (tCB (aha K) ta) env QO:=fun σ G H F Q I k =>
 h σ G H F _ I fun vs y f g ds s c j m u=>by
  obtain ⟨w,l⟩:=u
  subst w
  cases m with
  | cons r t =>
   cases t
   cases r with
   | @lst a us _ ha rs =>
    obtain ⟨t1,n⟩:=af8 c.gh rs hn
    refine ⟨a,us,rfl,SqL.of (c.gh _ _ ha),t1,fun x p d hs hf=>?_⟩
    have q:∀ v∈x,TupI f v:=fun v i=>t1 v (d.mem_iff.mp i)
    have o:=Out.newL c.gh hf (ald c.ft q)
    refine k _ _ _ g _ _ s (c.out o).1 (j.trans o.gg) (c.out o).2 (l _ ?_ ?_)
    ·have:=d.map (kH f);rw [n] at this;exact this
    ·unfold lexS;rw [aC6];exact hs
end
section
variable {B:Bs} {env:En} {QO:Sl->En->Prop} {Q':PyData->En->Prop} {K:Frag} {i:Nat} {ta:TA} {R:Sl->Prop}
theorem Rps.bools_inv {G:Hp}:∀ {bs:List Bool} {vs:List V},Rps G vs (bs.map PyData.bool)->vs=bs.map V.bl
 | [],_,.nil=>rfl
 | b :: bs,_,.cons r t=>by
  cases r
  rw [Rps.bools_inv t];rfl
theorem aib {bs:List Bool} (h:R (.st (.bool (bs.all id)))):OpA (rAll K) [.list (bs.map .bool)] R:=fun G H vs Q gh rs k=>by
 cases rs with
 | cons r t =>
  cases t
  cases r with
  | lst ha ra =>
   have:=Rps.bools_inv ra
   subst this
   exact ⟨_,bs,rfl,SqL.of (gh _ _ ha),k _ _ _ _ _ (Out.refl gh (.bl _)) h⟩
theorem aud {n:Int} (h:R (.st (.int (if n < 0 then -n else n)))):OpA rAbs [.int n] R:=fun G H vs Q gh rs k=>by
 obtain rfl:vs=[V.int n]:=Rps.ints_inv (ns:=[n]) rs
 exact ⟨n,rfl,k _ _ _ _ _ (Out.refl gh (.int _)) h⟩
theorem arb {ds:List PyData} (h:R (.own (OL ds))):OpA (alc K) [.list ds] R:=fun G H vs Q gh rs k=>by
 cases rs with
 | cons r t =>
  cases t
  cases r with
  | lst ha ra=>exact ⟨_,_,rfl,.inl (SqL.of (gh _ _ ha)),fun p a=>k _ _ _ _ _ (Out.newL gh a ra) h⟩
theorem apj {G:Hp} (n:Nat):Rps G ((List.range n).map fun (i:Nat)=>V.int (i:Int)) (rngD 0 n):=by
 unfold rngD
 refine alb (by simp) fun i v d a hd=>?_
 rw [ay0] at a hd
 cases e:(List.range n)[i]? with
 | none=>rw [e] at a;cases a
 | some m=>rw [e] at a hd;cases a;cases hd;show Rp G (.int (m:Int)) (.int (0+(m:Int)));rw [Int.zero_add];exact .int _
theorem apk (h:EvA B ta env fun ds e=>∃ j:Int,ds=[.int j]/\0<=j/\j<=1000000/\QO (.own (OL (rngD 0 j.toNat))) e):EvO B (aph ta) env QO:=fun σ G H F Q I k =>
 h σ G H F _ I fun vs r s b ds m a g l n=>by
  obtain ⟨j,q,d,c,i⟩:=n
  subst q
  obtain rfl:vs=[V.int j]:=Rps.ints_inv (ns:=[j]) l
  refine ⟨j,rfl,d,c,fun p f=>?_⟩
  have o:=Out.newL a.gh f (apj j.toNat)
  exact k _ _ _ b _ _ m (a.out o).1 (g.trans o.gg) (a.out o).2 i
end
section
variable {κ:Type} [DecidableEq κ] {α:Type}
def valD (es:List (κ × α)) (k : κ):Option α:=(es.find? fun e=>decide (e.1=k)).map (·.2)
def putD (es:List (κ × α)) (k : κ) (d : α):List (κ × α):=if (es.any fun e=>decide (e.1=k))=true then es.map (fun e=>if e.1=k then (e.1,d) else e) else es ++ [(k,d)]
end
theorem RpK.val {G:Hp} {k:Key}:∀ {kvs:List (Key × V)} {es:List (Key × PyData)},RpK G kvs es->(valD es k=none->valV kvs k=none)/\∀ d,valD es k=some d->∃ v,valV kvs k=some v/\Rp G v d
 | _,_,.nil=>⟨fun _=>rfl,fun d h=>by cases h⟩
 | _,_,.cons (k:=k') r t=>by
  obtain ⟨i1,b⟩:=RpK.val (k:=k) t
  by_cases e:k'=k
  ·refine ⟨fun h=>by simp [valD,e] at h,fun d h=>?_⟩
   simp [valD,e] at h
   subst h
   exact ⟨_,by simp [valV,e],r⟩
  ·refine ⟨fun h=>?_,fun d h=>?_⟩
   ·simp [valV,e];simp [valD,e] at h
    have:=i1 (by simp [valD];exact h)
    simpa [valV] using this
   ·obtain ⟨v,c,a⟩:=b d (by simpa [valD,e] using h)
    exact ⟨v,by simpa [valV,e] using c,a⟩
theorem RpK.any {G:Hp} {k:Key}:∀ {kvs:List (Key × V)} {es:List (Key × PyData)},RpK G kvs es->(kvs.any fun e=>decide (e.1=k))=es.any fun e=>decide (e.1=k)
 | _,_,.nil=>rfl
 | _,_,.cons r t=>by simp [RpK.any t]
theorem RpK.map {G:Hp} {k:Key} {v:V} {d:PyData} (h:Rp G v d):∀ {kvs:List (Key × V)} {es:List (Key × PyData)},RpK G kvs es->RpK G (kvs.map fun e=>if e.1=k then (e.1,v) else e) (es.map fun e=>if e.1=k then (e.1,d) else e)
 | _,_,.nil => .nil
 | _,_,.cons (k:=k') r t=>by
  by_cases e:k'=k
  ·simp only [aA5,e,if_true];exact .cons h (RpK.map h t)
  ·simp only [aA5,e,if_false];exact .cons r (RpK.map h t)
theorem RpK.append {G:Hp}:∀ {a b:List (Key × V)} {c d:List (Key × PyData)},RpK G a c->RpK G b d->RpK G (a ++ b) (c ++ d)
 | _,_,_,_,.nil,s=>s
 | _,_,_,_,.cons r t,s => .cons r (RpK.append t s)
theorem RpK.put {G:Hp} {k:Key} {v:V} {d:PyData} (h:Rp G v d) {kvs:List (Key × V)} {es:List (Key × PyData)} (r:RpK G kvs es):RpK G (putK kvs k v) (putD es k d):=by
 unfold putK putD
 rw [r.any]
 split
 ·exact r.map h
 ·exact r.append (.cons h .nil)
theorem RpT.any {G:Hp} {k:List Key}:∀ {kvs:List (List Key × V)} {es:List (List Key × PyData)},RpT G kvs es->(kvs.any fun e=>decide (e.1=k))=es.any fun e=>decide (e.1=k)
 | _,_,.nil=>rfl
 | _,_,.cons r t=>by simp [RpT.any t]
theorem RpT.map {G:Hp} {k:List Key} {v:V} {d:PyData} (h:Rp G v d):∀ {kvs:List (List Key × V)} {es:List (List Key × PyData)},RpT G kvs es->RpT G (kvs.map fun e=>if e.1=k then (e.1,v) else e) (es.map fun e=>if e.1=k then (e.1,d) else e)
 | _,_,.nil => .nil
 | _,_,.cons (k:=k') r t=>by
  by_cases e:k'=k
  ·simp only [aA5,e,if_true];exact .cons h (RpT.map h t)
  ·simp only [aA5,e,if_false];exact .cons r (RpT.map h t)
theorem RpT.append {G:Hp}:∀ {a b:List (List Key × V)} {c d:List (List Key × PyData)},RpT G a c->RpT G b d->RpT G (a ++ b) (c ++ d)
 | _,_,_,_,.nil,s=>s
 | _,_,_,_,.cons r t,s => .cons r (RpT.append t s)
theorem RpT.put {G:Hp} {k:List Key} {v:V} {d:PyData} (h:Rp G v d) {kvs:List (List Key × V)} {es:List (List Key × PyData)} (r:RpT G kvs es):RpT G (putK kvs k v) (putD es k d):=by
 unfold putK putD
 rw [r.any]
 split
 ·exact r.map h
 ·exact r.append (.cons h .nil)
theorem RpK.length {G:Hp}:∀ {kvs:List (Key × V)} {es:List (Key × PyData)},RpK G kvs es->kvs.length=es.length
 | _,_,.nil=>rfl
 | _,_,.cons _ t=>by simp [RpK.length t]
theorem axo {G:Hp} {v:V} {k:Key} (r:Rp G v (kD k)):v=kV k:=by
 cases k with
 | inl i=>cases r;rfl
 | inr x=>cases r;rfl
theorem apl {G:Hp}:∀ {a:List Key} {vs:List V},Rps G vs (a.map kD)->vs=a.map kV
 | [],_,.nil=>rfl
 | k :: a,_,.cons r t=>by rw [axo r,apl t];rfl
section
variable {B:Bs} {env:En} {QO:Sl->En->Prop} {Q':PyData->En->Prop} {D':VEnds} {i:Nat} {te ty tv td:TE}
theorem ai1 (q:QO (.own (OD [])) env):EvO B aom env QO:=fun σ G H F Q I k p a=>by
 have o:=Out.newD (ds:=[]) I.gh a .nil
 exact k _ _ _ F _ _ env (I.out o).1 o.gg (I.out o).2 q
theorem apm (q:QO (.own (OT [])) env):EvO B aon env QO:=fun σ G H F Q I k p a=>by
 have o:=Out.newDT (ds:=[]) I.gh a .nil
 exact k _ _ _ F _ _ env (I.out o).1 o.gg (I.out o).2 q
theorem apn {n:List (List Key × PyData)} (h:Ev B tv env fun d p=>Has p i (OT n)/\Ev B ty p fun y m=>∃ es j,m[i]?=some (some (.own (OT es)))/\y=tkD j/\es.length<=999999/\D'.nx (m.set i (some (.own (OT (putD es j d)))))):EvS B (ana (tVar i) ty tv) D' env:=fun σ G H F D I r =>
 h σ G H F _ I fun v N P z d p u C M O=>by
  obtain ⟨E,K⟩:=O
  obtain ⟨v0,l,a,kvs,rfl,ha,rt,_⟩:=u.has E
  refine ⟨_,l,K σ N P z _ u fun S A H2 F2 y m s x Q ⟨es,j,g,L,T,J⟩=>?_⟩
  subst L
  obtain ⟨U,f,⟨R,w,q,o,c,hf⟩,hb⟩:=s.sl i _ g
  rw [l] at f;cases f;cases q
  cases Q with
  | tup hk rs =>
   have:=apl rs
   subst this
   refine ⟨a,_,rfl,DPut.t o (s.gh _ _ hk) (by rw [(RpT.len c).1];exact big (by omega)),?_⟩
   exact r.nx σ A _ _ _ (s.upd1 (A':=OT (putD es j d)) g (.inl rfl) l hf ⟨a,_,rfl,aaj,c.put (M.same x),fun b=>Iff.rfl⟩) (C.trans x) J
end
section
variable {B:Bs} {env:En} {QO:Sl->En->Prop} {Q':PyData->En->Prop} {QE:En->Prop} {D':VEnds} {K:Frag} {i:Nat} {ta:TA}
theorem amy {n:Nat} {a:TGs} {ds:List PyData} (b:ds.length=n) (h:EvGs B a ds env QE):EvG B (gLst K n a) (.st (.list ds)) env QE:=fun σ G H F v Fv Q I x k=>by
 obtain ⟨r,_⟩:=x.ok
 cases r with
 | lst ha rs=>exact ⟨_,_,rfl,SqL.of (I.gh _ _ ha),by rw [rs.length,b],h σ G H F _ Q I rs k⟩
theorem ahg {ns:List Int} {tl d:TO} (e:env[i]?=some (some (.scr ns))) (v:B.K=K) (h:EvOp B tl env fun lo f=>EvOp B d f fun hi c=>QO (.own (OL (cutD (ns.map .int) lo hi))) c):EvO B (tSl (rSlL K) (tVar i) tl d) env QO:=fun σ G H F Q I k=>by
 subst v
 obtain ⟨v0,n,⟨a,x,l⟩,_⟩:=I.sl i _ e
 subst x
 refine ⟨_,n,h σ G H F _ I fun lo m H2 F2 f w j r=>r σ m H2 F2 _ w fun hi y H3 u c b g s=>⟨a,_,rfl,b.gh.seq (g.seq (j.seq l)),fun p q=>?_⟩⟩
 have o:=Out.newL (xs:=cutV (ns.map V.int) lo hi) (ds:=cutD (ns.map .int) lo hi) b.gh q (by
  unfold cutV cutD
  rw [ax8,ax8]
  exact ((Rps.ints ns).drop _).take _)
 exact k _ _ _ u _ _ c (b.out o).1 (j.trans (g.trans o.gg)) (b.out o).2 s
theorem apo {ns:List Int} {tl c:TO} (e:env[i]?=some (some (.scr ns))) (f:B.K=K) (h:EvOp B tl env fun lo d=>EvOp B c d fun hi g=>Q' (.list (cutD (ns.map .int) lo hi)) g):Ev B (tSl (rSlL K) (tVar i) tl c) env Q':=abc (ahg e f fun σ G H F Q I k=>h σ G H F Q I fun lo G' H' F' a b g' q=>k lo G' H' F' a b g' fun σ G H F Q I k=>q σ G H F Q I fun hi G' H' F' a b g' q=>k hi G' H' F' a b g' (adj q))
theorem ai2 (h:EvA B ta env fun ds e=>∃ ns:List Int,ds=[.list (ns.map .int)]/\ns.length < 64/\∀ b:List Int,b.Perm ns->b.Pairwise (·<=·)->QO (.own (OL (b.map .int))) e):EvO B (tCB (afa K) ta) env QO:=fun σ G H F Q I k =>
 h σ G H F _ I fun vs s u d ds m c g j n=>by
  obtain ⟨ns,q,l,i⟩:=n
  subst q
  cases j with
  | cons r t =>
   cases t
   cases r with
   | @lst a us _ ha rs =>
    have:=Rps.ints_inv rs
    subst this
    refine ⟨a,ns,rfl,SqL.of (c.gh _ _ ha),l,fun b p f hs hf=>?_⟩
    have o:=Out.newL c.gh hf (Rps.ints b)
    exact k _ _ _ d _ _ m (c.out o).1 (g.trans o.gg) (c.out o).2 (i _ f hs)
theorem x_en {ds:List PyData} {R:List PyData->Prop} (h:R ds):∃ xs,[PyData.list ds]=[.list xs]/\R xs:=⟨ds,rfl,h⟩
theorem aue {j:Int} {R:Int->Prop} (a:0<=j) (b:j<=1000000) (h:R j):∃ i:Int,[PyData.int j]=[.int i]/\0<=i/\i<=1000000/\R i:=⟨j,rfl,a,b,h⟩
theorem x_dT {es:List (List Key × PyData)} {a b:Int} {d:En} {R:List (List Key × PyData)->List Key->Prop} (e:d[i]?=some (some (.own (OT es)))) (f:es.length<=999999) (q:R es [.inl a,.inl b]):∃ es c,d[i]?=some (some (.own (OT es)))/\PyData.tuple [.int a,.int b]=tkD c/\es.length<=999999/\R es c:=⟨es,_,e,rfl,f,q⟩
end
def ltP (p q:Int × Int):Prop:=p.1 < q.1\/(p.1=q.1/\p.2 < q.2)
@[reducible] def p2 (p:Int × Int):List Int:=[p.1,p.2]
theorem lex2 (p q:Int × Int):HT.lexLt (p2 p) (p2 q)=true ↔ ltP p q:=by
 obtain ⟨a,b⟩:=p
 obtain ⟨c,d⟩:=q
 simp [p2,HT.lexLt,ltP]
 split <;> omega
theorem anp {a:List (List Int)} {ps:List (Int × Int)} (h:a.Perm (ps.map p2)):∃ b:List (Int × Int),a=b.map p2/\b.Perm ps:=by
 refine ⟨a.map fun l=>(l.getD 0 0,l.getD 1 0),?_,?_⟩
 ·rw [aB0]
  symm
  conv=>rhs;rw [← List.map_id a]
  apply aB6
  intro l c
  obtain ⟨p,_,rfl⟩:=az1.mp (h.mem_iff.mp c)
  rfl
 ·have:=h.map fun l=>(l.getD 0 0,l.getD 1 0)
  rw [aB0] at this
  have e:((fun l:List Int=>(l.getD 0 0,l.getD 1 0)) ∘ p2)=id:=by funext p;rfl
  rw [e,List.map_id] at this
  exact this
def Rise (es:List (Int × Int)):Prop:=es.Pairwise ltP
theorem afz (p:Int × Int):¬ ltP p p:=by unfold ltP;omega
theorem auf (p q:Int × Int):ltP p q\/p=q\/ltP q p:=by
 obtain ⟨a,b⟩:=p
 obtain ⟨c,d⟩:=q
 unfold ltP
 simp only [Prod.mk.injEq]
 omega
theorem awi {p q r:Int × Int} (h:ltP p q) (g:ltP q r):ltP p r:=by unfold ltP at *;omega
theorem aug {a ps:List (Int × Int)} (c:a.Perm ps) (hn:ps.Nodup) (hs:lexS (a.map p2)):Rise a:=by
 have b:a.Nodup:=c.nodup_iff.mpr hn
 unfold lexS at hs
 rw [aC6] at hs
 unfold Rise
 refine (List.Pairwise.and hs b).imp fun {p q} h=>?_
 have d:¬ ltP q p:=fun z=>by rw [(lex2 q p).mpr z] at h;exact absurd h.1 (by simp)
 rcases auf p q with z | z | z
 ·exact z
 ·exact absurd z h.2
 ·exact absurd z d
theorem Rise.nodup {es:List (Int × Int)} (h:Rise es):es.Nodup:=h.imp fun {p q} z (e:p=q)=>afz q (by rw [e] at z;exact z)
theorem Rise.eq:∀ {as bs:List (Int × Int)},Rise as->Rise bs->(∀ p,p∈as ↔ p∈bs)->as=bs
 | [],[],_,_,_=>rfl
 | [],b :: _,_,_,h=>by have:=(h b).mpr az2;simp at this
 | a :: _,[],_,_,h=>by have:=(h a).mp az2;simp at this
 | a :: as,b :: bs,ha,hb,h=>by
  obtain ⟨d,i⟩:=List.pairwise_cons.mp ha
  obtain ⟨c,f⟩:=List.pairwise_cons.mp hb
  have e:a=b:=by
   rcases ay3.mp ((h a).mp az2) with e | e
   ·exact e
   ·rcases ay3.mp ((h b).mpr az2) with g | g
    ·exact g.symm
    ·exact absurd (awi (d b g) (c a e)) (afz a)
  subst e
  have:=Rise.eq i f fun p=>by
   have j:=h p
   simp only [ay3] at j
   constructor
   ·intro m
    rcases j.mp (.inr m) with e | e
    ·subst e;exact absurd (d p m) (afz p)
    ·exact e
   ·intro m
    rcases j.mpr (.inr m) with e | e
    ·subst e;exact absurd (c p m) (afz p)
    ·exact e
  rw [this]
structure WebOk (n:Int) (es:List (Int × Int)):Prop where
 lo:1<=n
 hi:n<=60
 inn:∀ p∈es,0<=p.1/\p.1 < p.2/\p.2 < n
 rise:Rise es
theorem WebOk.in {n:Int} {es:List (Int × Int)} (h:WebOk n es):InN n es:=fun p a=>by
 have:=h.inn p a;omega
theorem ai3 {n:Nat} {es:List (Int × Int)} (hn:es.Nodup) (hi:∀ p∈es,0<=p.1/\p.1 < (n:Int)/\0<=p.2/\p.2 < (n:Int)):es.length<=n * n:=by
 have h:(es.map fun (p:Int × Int)=>p.1 * (n:Int)+p.2).Nodup:=by
  unfold List.Nodup
  rw [aC6]
  refine aE5 ?_ hn
  intro p q d j c e
  have a:=hi p d
  have b:=hi q j
  apply c
  have f:p.1=q.1:=by
   rcases Int.lt_trichotomy p.1 q.1 with z | z | z
   ·have:(p.1+1) * n<=q.1 * n:=Int.mul_le_mul_of_nonneg_right (by omega) (by omega)
    rw [Int.add_mul] at this;omega
   ·exact z
   ·have:(q.1+1) * n<=p.1 * n:=Int.mul_le_mul_of_nonneg_right (by omega) (by omega)
    rw [Int.add_mul] at this;omega
  rw [f] at e
  exact Prod.ext f (by omega)
 have:=L2.few_places (n * n) _ h fun v g=>by
  obtain ⟨p,d,rfl⟩:=az1.mp g
  have a:=hi p d
  have l:0<=p.1 * (n:Int):=Int.mul_nonneg a.1 (by omega)
  have i:(p.1+1) * (n:Int)<=n * n:=Int.mul_le_mul_of_nonneg_right (by omega) (by omega)
  rw [Int.add_mul] at i
  push_cast
  omega
 simpa using this
theorem WebOk.len {n:Int} {es:List (Int × Int)} (h:WebOk n es):es.length<=3600:=by
 have:=ai3 (n:=n.toNat) h.rise.nodup fun p b=>by have:=h.inn p b;have:=h.lo;omega
 have a:n.toNat<=60:=by have:=h.hi;omega
 exact aA4 this (Nat.mul_le_mul a a)
def kE (ps:List (Int × Int)):List (List Key × PyData):=ps.map fun p=>([Sum.inl p.1,Sum.inl p.2],.bool true)
def addP (ps:List (Int × Int)) (p:Int × Int):List (Int × Int):=if p∈ps then ps else ps ++ [p]
theorem aeb {ps:List (Int × Int)}:(kE ps).length=ps.length:=by simp [kE]
theorem ahh (ps:List (Int × Int)) (a b:Int):putD (kE ps) [Sum.inl a,Sum.inl b] (.bool true)=kE (addP ps (a,b)):=by
 have c:((kE ps).any fun e=>decide (e.1=[Sum.inl a,Sum.inl b]))=decide ((a,b)∈ps):=by
  rw [aE3,List.any_eq_true,decide_eq_true_iff]
  constructor
  ·rintro ⟨e,d,h⟩
   obtain ⟨p,f,rfl⟩:=az1.mp d
   simp at h
   obtain ⟨g,p2⟩:=p
   simp at h
   rw [← h.1,← h.2];exact f
  ·intro h
   exact ⟨_,az1.mpr ⟨(a,b),h,rfl⟩,by simp⟩
 unfold putD
 rw [c]
 unfold addP
 by_cases h:(a,b)∈ps
 ·rw [aC1 (by simpa using h),aC1 h]
  unfold kE
  rw [aB0]
  apply aB6
  intro p _
  simp only [Function.comp]
  split <;> rfl
 ·rw [aC2 (by simpa using h),aC2 h]
  simp [kE]
theorem addP_mem {ps:List (Int × Int)} {p q:Int × Int}:q∈addP ps p ↔ q∈ps\/q=p:=by
 unfold addP
 split
 ·rename_i h
  exact ⟨.inl,fun z=>z.elim id fun e=>e ▸ h⟩
 ·simp
theorem anq {ps:List (Int × Int)} {p:Int × Int} (h:ps.Nodup):(addP ps p).Nodup:=by
 unfold addP
 split
 ·exact h
 ·rename_i hn
  rw [List.nodup_append]
  exact ⟨h,by simp,fun x b y a=>by simp at a;subst a;rintro rfl;exact hn b⟩
theorem auh (ps:List (Int × Int)):(kE ps).map (fun e=>tkD e.1)=ps.map prD:=by
 unfold kE;rw [aB0];rfl
theorem apq (ps:List (Int × Int)):(ps.map p2).map tiD=ps.map prD:=by rw [aB0];rfl
theorem axp {ps:List (Int × Int)}:∀ ns∈ps.map p2,ns ≠ []:=fun ns h=>by
 obtain ⟨p,_,rfl⟩:=az1.mp h
 simp
section
variable {B:Bs} {env:En} {QO:Sl->En->Prop} {K:Frag} {i:Nat} {ta:TA}
theorem ai4 {ps:List (Int × Int)} (h:EvA B ta env fun ds e=>ds=[.list (ps.map prD)]/\∀ a:List (Int × Int),a.Perm ps->lexS (a.map p2)->QO (.own (OL (a.map prD))) e):EvO B (tCB (aha K) ta) env QO :=
 api (pss:=ps.map p2) axp fun σ G H F Q I k=>h σ G H F Q I fun vs G' H' F' ds e i g r ⟨c,q⟩=>k vs G' H' F' ds e i g r ⟨by rw [apq];exact c,fun d b hs=>by
  obtain ⟨a,rfl,f⟩:=anp b
  rw [apq];exact q a f hs⟩
end
section
variable {B:Bs} {env:En} {QO:Sl->En->Prop} {Q':PyData->En->Prop} {K:Frag} {i j:Nat} {ta te:TE}
end
section
variable {B:Bs} {env:En} {Q':PyData->En->Prop} {D':VEnds} {i:Nat} {ty tv:TE}
theorem anr {a:List (List Key × PyData)} (g:env[i]?=some (some (.own (OT a)))) (h:Ev B tv env fun d f=>Has f i (OT a)/\Ev B ty f fun y c=>∃ es b,c[i]?=some (some (.own (OT es)))/\y=tkD b/\es.length<=999999/\D'.nx (c.set i (some (.own (OT (putD es b d)))))):EvS B (ana (tVar i) ty tv) D' env:=apn h
end
section
variable {R:Sl->Prop} {K:Frag}
end
theorem ans (ps:List (Int × Int)):plainDs (ps.map prD)=true:=by
 rw [aed]
 intro d hd
 obtain ⟨p,_,rfl⟩:=az1.mp hd
 rfl
theorem af9 {ds:List PyData} {m:Nat} (h:∀ d∈ds,d.depth<=m):PyData.depthAll ds<=m:=by
 induction ds with
 | nil=>simp [PyData.depthAll]
 | cons d ds ih =>
  simp only [PyData.depthAll]
  exact Nat.max_le.mpr ⟨h d az2,ih fun e a=>h e (ay9 _ a)⟩
theorem apr (p:Int × Int):(prD p).depth<=1:=by simp [prD,PyData.depth,PyData.depthAll]
theorem arc {d:PyData} (h:aas d=true):PyData.eqv d d=true:=(ait d d h h).mpr rfl
end VL
namespace VL
theorem ale {α:Type} (R : α->α->Prop) (tr:∀ {a b c},R a b->R b c->R a c) {xs:List α}:xs.Pairwise R ↔ ∀ i (h:i+1 < xs.length),R (xs[i]'(by omega)) xs[i+1]:=by
 constructor
 ·intro h i hi
  exact aD2.mp h i (i+1) (by omega) hi (by omega)
 ·intro h
  rw [aD2]
  intro i j hi d f
  induction j with
  | zero=>omega
  | succ j ih =>
   by_cases e:i=j
   ·subst e;exact h i d
   ·exact tr (ih (by omega) (by omega)) (h j d)
end VL
namespace VL
open PySem PySem.Spec L2
section
variable {B:Bs} {env:En} {Q':PyData->En->Prop} {K:Frag} {E:XK} {i:Nat}
end
end VL
namespace VL
open PySem L2
theorem axq {B:Bs} {t:TS} {D':VEnds} {e:En} (h:EvS B t D' e):EvS B t D' e:=h
theorem axr {B:Bs} {g:TG} {s:Sl} {e:En} {Q:En->Prop} (h:EvG B g s e Q):EvG B g s e Q:=h
theorem awj {B:Bs} {g:TGs} {s:List PyData} {e:En} {Q:En->Prop} (h:EvGs B g s e Q):EvGs B g s e Q:=h
theorem g_Ev {B:Bs} {t:TE} {e:En} {Q:PyData->En->Prop} (h:Ev B t e Q):Ev B t e Q:=h
theorem axs {B:Bs} {t:TE} {e:En} {Q:Sl->En->Prop} (h:EvO B t e Q):EvO B t e Q:=h
theorem axt {B:Bs} {t:TT} {e:En} {Q:Bool->En->Prop} (h:EvT B t e Q):EvT B t e Q:=h
theorem axu {B:Bs} {t:TA} {e:En} {Q:List PyData->En->Prop} (h:EvA B t e Q):EvA B t e Q:=h
theorem axv {B:Bs} {t:TI} {e:En} {Q:List PyData->En->Prop} (h:EvI B t e Q):EvI B t e Q:=h
theorem awk {B:Bs} {t:TO} {e:En} {Q:Option Int->En->Prop} (h:EvOp B t e Q):EvOp B t e Q:=h
theorem axw {r:R2} {x y:PyData} {R:Sl->Prop} (h:Op2 r x y R):Op2 r x y R:=h
theorem axx {r:V->Hp->VK->Prop} {x:PyData} {R:Sl->Prop} (h:Op1 r x R):Op1 r x R:=h
theorem axy {r:List V->Hp->VK->Prop} {x:List PyData} {R:Sl->Prop} (h:OpA r x R):OpA r x R:=h
theorem g_FQ {s:Sl} {R:PyData->Prop} (h:FQ s R):FQ s R:=h
theorem aui {ds:List PyData} {R:List PyData->Prop} (h:aj4 ds R):aj4 ds R:=h
theorem auj {ds:List PyData} {R:List PyData->Prop} (h:aj5 ds R):aj5 ds R:=h
structure PsOk (n:Int) (ps:List (Int × Int)):Prop where
 nd:ps.Nodup
 inn:∀ p∈ps,0<=p.1/\p.1 < p.2/\p.2 < n
theorem PsOk.nil (n:Int):PsOk n []:=⟨List.nodup_nil,fun p a=>by simp at a⟩
theorem PsOk.add {n a b:Int} {ps:List (Int × Int)} (h:PsOk n ps) (f:0<=a) (g:a < b) (c:b < n):PsOk n (addP ps (a,b)) :=
 ⟨anq h.nd,fun p d=>by
  rcases addP_mem.mp d with q | q
  ·exact h.inn p q
  ·subst q;exact ⟨f,g,c⟩⟩
theorem PsOk.len {n:Int} {ps:List (Int × Int)} (h:PsOk n ps) (hn:n<=100):ps.length<=10000:=by
 by_cases h0:0<=n
 ·have:=ai3 (n:=n.toNat) h.nd fun p b=>by have:=h.inn p b;omega
  have a:n.toNat<=100:=by omega
  exact aA4 this (Nat.mul_le_mul a a)
 ·cases ps with
  | nil=>simp
  | cons p r=>have:=h.inn p az2;omega
def Tr (n:Int) (ps:List (Int × Int)):Prop:=∀ k,1<=k->k < n->∃ h,0<=h/\h < k/\(h,k)∈ps
theorem Tr.add {n:Int} {ps:List (Int × Int)} {p:Int × Int} (h:Tr n ps):Tr n (addP ps p):=fun k k1 k2=>by
 obtain ⟨x,a,b,c⟩:=h k k1 k2
 exact ⟨x,a,b,addP_mem.mpr (.inl c)⟩
def Conn (n:Int) (T:Int->Int->Prop):Prop:=∀ u v,0<=u->u < n->0<=v->v < n->∃ k,Gr.Walk T u k v
theorem Tr.conn {n:Int} {ps:List (Int × Int)} (h:Tr n ps):Conn n (Tied ps):=by
 have d:∀ (m:Nat) (v:Int),v=m->v < n->∃ k,Gr.Walk (Tied ps) 0 k v:=by
  intro m
  induction m using Nat.strongRecOn with
  | ind m ih =>
   intro v i hn
   by_cases h0:m=0
   ·subst h0;have:v=0:=by omega
    subst this;exact ⟨0,.refl⟩
   ·obtain ⟨x,a,b,c⟩:=h v (by omega) hn
    obtain ⟨k,w⟩:=ih x.toNat (by omega) x (by omega) (by omega)
    exact ⟨k+1,.step w (.inl c)⟩
 intro u v l g v0 f
 obtain ⟨k,w⟩:=d u.toNat u (by omega) g
 obtain ⟨j,x⟩:=d v.toNat v (by omega) f
 exact ⟨k+j,(w.rev fun _ _ t=>t.symm).app x⟩
theorem Conn.joined {n:Int} {es:List (Int × Int)} (h:Conn n (Tied es)) (b:0 < n):Joined n es:=fun v v0 a=>by
 obtain ⟨k,w⟩:=h 0 v (by omega) (by omega) v0 a
 obtain ⟨d,_,hd⟩:=Gr.Dist.of_walk w
 exact ⟨d,hd⟩
theorem Joined.conn {n:Int} {es:List (Int × Int)} (h:Joined n es):Conn n (Tied es):=fun u v f b v0 c=>by
 obtain ⟨d,hd⟩:=h u f b
 obtain ⟨e,a⟩:=h v v0 c
 exact ⟨d+e,(hd.1.rev fun _ _ t=>t.symm).app a.1⟩
theorem Conn.mono {n:Int} {T a:Int->Int->Prop} (h:Conn n T) (g:∀ u v,T u v->a u v):Conn n a:=fun u v f b v0 d=>by
 obtain ⟨k,w⟩:=h u v f b v0 d
 exact ⟨k,w.rec .refl fun _ t c => .step c (g _ _ t)⟩
def Order (n:Int) (row:List Int):Prop:=row.Perm ((List.range n.toNat).map fun (i:Nat)=>(i:Int))
theorem Order.len {n:Int} {a:List Int} (h:Order n a):a.length=n.toNat:=by have:=h.length_eq;simpa using this
theorem Order.nodup {n:Int} {c:List Int} (h:Order n c):c.Nodup:=by
 refine h.nodup_iff.mpr ?_
 unfold List.Nodup
 rw [aC6]
 exact List.nodup_range.imp fun {a b} d e=>d (by omega)
theorem Order.mem {n:Int} {a:List Int} (h:Order n a) {v:Int}:v∈a ↔ 0<=v/\v < n:=by
 rw [h.mem_iff,az1]
 constructor
 ·rintro ⟨i,hi,rfl⟩
  have:=az3.mp hi
  omega
 ·rintro ⟨b,c⟩
  exact ⟨v.toNat,az3.mpr (by omega),by omega⟩
theorem Order.get {n:Int} {b:List Int} (h:Order n b) {a:Int} (c:0<=a) (f:a < n):∃ x,b[a.toNat]?=some x/\atI b a=some x/\0<=x/\x < n:=by
 have d:a.toNat < b.length:=by rw [h.len];omega
 have e:b[a.toNat]?=some b[a.toNat]:=ax5 d
 have:=h.mem.mp (ax7 e)
 exact ⟨_,e,afy c e,this.1,this.2⟩
theorem Order.inj {n:Int} {c:List Int} (h:Order n c) {a b x:Int} (a0:0<=a) (b0:0<=b) (ha:c[a.toNat]?=some x) (hb:c[b.toNat]?=some x):a=b:=by
 obtain ⟨g,i⟩:=ax6.mp ha
 obtain ⟨d,f⟩:=ax6.mp hb
 have:=nodup_ix h.nodup g d (i.trans f.symm)
 omega
theorem Order.id (n:Int):Order n ((List.range n.toNat).map fun (i:Nat)=>(i:Int)):=List.Perm.refl _
def aa5 (row:List Int) (a:Int):Int:=row.getD a.toNat 0
def reP (row:List Int) (p:Int × Int):Int × Int:=if aa5 row p.1 < aa5 row p.2 then (aa5 row p.1,aa5 row p.2) else (aa5 row p.2,aa5 row p.1)
theorem Order.at {n:Int} {b:List Int} (h:Order n b) {a:Int} (d:0<=a) (g:a < n):b[a.toNat]?=some (aa5 b a)/\0<=aa5 b a/\aa5 b a < n:=by
 obtain ⟨x,e,_,f,c⟩:=h.get d g
 have:aa5 b a=x:=by unfold aa5;rw [List.getD_eq_getElem?_getD,e];rfl
 rw [this];exact ⟨e,f,c⟩
theorem Order.atI {n:Int} {b:List Int} (h:Order n b) {a:Int} (c:0<=a) (d:a < n):L2.atI b a=some (aa5 b a):=afy c (h.at c d).1
theorem Order.ne {n:Int} {c:List Int} (h:Order n c) {a b:Int} (a0:0<=a) (i:a < n) (b0:0<=b) (g:b < n) (d:a ≠ b):aa5 c a ≠ aa5 c b:=fun e=>by
 have f:=(h.at a0 i).1
 have j:=(h.at b0 g).1
 rw [e] at f
 exact d (h.inj a0 b0 f j)
theorem PsOk.re {n:Int} {ps:List (Int × Int)} {c:List Int} (h:PsOk n ps) (o:Order n c):PsOk n (ps.map (reP c)):=by
 have inn:∀ p∈ps,0<=(reP c p).1/\(reP c p).1 < (reP c p).2/\(reP c p).2 < n:=fun p d=>by
  obtain ⟨p0,w,p2⟩:=h.inn p d
  have a:=o.at p0 (by omega)
  have b:=o.at (a:=p.2) (by omega) p2
  have ne:=o.ne p0 (by omega) (by omega) p2 (by omega)
  unfold reP
  split <;> dsimp only <;> omega
 refine ⟨?_,fun q i=>by obtain ⟨p,d,rfl⟩:=az1.mp i;exact inn p d⟩
 unfold List.Nodup
 rw [aC6]
 refine aE5 ?_ h.nd
 intro p q d i f e
 apply f
 obtain ⟨p0,w,p2⟩:=h.inn p d
 obtain ⟨s,y,r⟩:=h.inn q i
 have inj:∀ a b,0<=a->a < n->0<=b->b < n->aa5 c a=aa5 c b->a=b:=fun a b a0 x b0 v e=>by
  apply Classical.byContradiction
  intro g
  exact o.ne a0 x b0 v g e
 have l:=inj p.1 q.1 p0 (by omega) s (by omega)
 have j:=inj p.2 q.2 (by omega) p2 (by omega) r
 have m:=inj p.1 q.2 p0 (by omega) (by omega) r
 have u:=inj p.2 q.1 (by omega) p2 s (by omega)
 unfold reP at e
 split at e <;> split at e <;> simp only [Prod.mk.injEq] at e
 ·exact Prod.ext (l e.1) (j e.2)
 ·have:=m e.1;have:=u e.2;omega
 ·have:=u e.1;have:=m e.2;omega
 ·exact Prod.ext (l e.2) (j e.1)
theorem Tied.re {ps:List (Int × Int)} {c:List Int} {u v:Int} (h:Tied ps u v):Tied (ps.map (reP c)) (aa5 c u) (aa5 c v):=by
 have d:∀ a b,(a,b)∈ps->Tied (ps.map (reP c)) (aa5 c a) (aa5 c b):=fun a b hm=>by
  have:=List.mem_map_of_mem (f:=reP c) hm
  unfold reP at this
  dsimp only at this
  split at this
  ·exact .inl this
  ·exact .inr this
 rcases h with h | h
 ·exact d u v h
 ·exact (d v u h).symm
theorem Conn.re {n:Int} {ps:List (Int × Int)} {c:List Int} (h:Conn n (Tied ps)) (o:Order n c):Conn n (Tied (ps.map (reP c))):=fun u v l p v0 d=>by
 have back:∀ x,0<=x->x < n->∃ a,0<=a/\a < n/\aa5 c a=x:=fun x j q=>by
  obtain ⟨i,hi,e⟩:=aE1.mp (o.mem.mpr ⟨j,q⟩)
  refine ⟨i,by omega,by rw [o.len] at hi;omega,?_⟩
  unfold aa5
  simp [hi,e]
 obtain ⟨a,a0,m,rfl⟩:=back u l p
 obtain ⟨b,b0,f,rfl⟩:=back v v0 d
 obtain ⟨k,w⟩:=h a b a0 m b0 f
 exact ⟨k,w.rec .refl fun _ t g => .step g t.re⟩
theorem Tied.perm {a ps:List (Int × Int)} (h:a.Perm ps) {u v:Int}:Tied a u v ↔ Tied ps u v:=by unfold Tied;rw [h.mem_iff,h.mem_iff]
theorem alf {n:Int} {ps a:List (Int × Int)} (c:1<=n) (d:n<=60) (h:PsOk n ps) (b:a.Perm ps) (hs:lexS (a.map p2)):WebOk n a:=⟨c,d,fun p hm=>h.inn p (b.mem_iff.mp hm),aug b h.nd hs⟩
theorem WebOk.ps {n:Int} {es:List (Int × Int)} (h:WebOk n es):PsOk n es:=⟨h.rise.nodup,h.inn⟩
theorem ahi {α:Type}:∀ {l:List α} {k:Nat} {x : α},l[k]?=some x->(x :: l.eraseIdx k).Perm l
 | [],_,_,h=>by simp at h
 | a :: l,0,x,h=>by simp at h;subst h;exact List.Perm.refl _
 | a :: l,k+1,x,h=>by
  have b:=ahi (l:=l) (k:=k) (x:=x) (by simpa using h)
  exact (List.Perm.swap a x _).trans (b.cons a)
theorem ahj {n:Int} {a left:List Int} {k:Nat} {x:Int} (h:Order n (a ++ left)) (b:left[k]?=some x):Order n ((a ++ [x]) ++ left.eraseIdx k):=by
 refine List.Perm.trans ?_ h
 rw [ay8]
 refine List.Perm.append_left a ?_
 exact ahi b
section
variable {B:Bs} {env:En} {g:TG} {tif:TT} {te:TE} {K:Frag} {src:List (Option Nat)} {ds:List PyData} {e1:En} {R:List PyData->En->Prop}
theorem ai5 {u:Frag} {α:Type} {xs:List α} {fa fb : α->PyData} (f : α->PyData) (p : α->Bool) (g:noIo (aak src e1)=true) (E:xs.length<=999999)
  (h:∀ x∈xs,∀ a:Bs,a.K=K->EvT a tif (some (.st (fa x)) :: some (.st (fb x)) :: aak src e1) fun b j=>b=p x/\j=some (.st (fa x)) :: some (.st (fb x)) :: aak src e1/\(b=true->Ev a te (some (.st (fa x)) :: some (.st (fb x)) :: aak src e1) fun y m=>y=f x/\m=some (.st (fa x)) :: some (.st (fb x)) :: aak src e1))
  (C:R ((xs.filter p).map f) e1):LcV K (none :: none :: src) (gLst u 2 (abz (aav 0) (abz (aav 1) gNil))) tif te (xs.map fun x => .list [fa x,fb x]) e1 R:=by
 have c:noIo (aak (none :: none :: src) e1)=true:=by
  show ((none :: none :: aak src e1).all fun s => !isIo s)=true
  rw [List.all_cons,List.all_cons]
  exact (aD6 _ _).mpr ⟨rfl,(aD6 _ _).mpr ⟨rfl,g⟩⟩
 refine ⟨fun i ys e=>ys=((xs.take i).filter p).map f/\∃ o o',e=stO o :: stO o' :: aak src e1,⟨by simp,none,none,rfl⟩,?_,?_,?_⟩
 ·rintro i ys e ⟨_,o,o',rfl⟩
  exact ⟨⟨isIo_stO.symm,acz⟩,⟨isIo_stO.symm,acz⟩,ads adk⟩
 ·rintro i d ys e hd ⟨rfl,o,o',rfl⟩ a A
  rw [ay0] at hd
  cases hx:xs[i]? with
  | none=>rw [hx] at hd;cases hd
  | some x =>
   rw [hx] at hd
   cases hd
   have hi:i < xs.length:=(ax6.mp hx).1
   have q:xs.take (i+1)=xs.take i ++ [x]:=by rw [aD9,hx];rfl
   refine amy rfl (adr (aaw (adr (aaw (agk ?_)))))
   show EvT a tif (some (.st (fa x)) :: some (.st (fb x)) :: aak src e1) _
   intro σ G H F Q I k
   refine h x (ax7 hx) a A σ G H F Q I fun b G' H' F' j n g' ⟨hb,z,B⟩=>k b G' H' F' j n g' ?_
   subst z
   by_cases hp:b=true
   ·rw [aC1 hp]
    intro σ G H F Q I k
    refine B hp σ G H F Q I fun v G' H' F' d' m n g' r ⟨w,l⟩=>k v G' H' F' d' m n g' r ?_
    subst w l
    refine ⟨?_,?_,some _,some _,rfl⟩
    ·have:=aB9 p (xs.take i)
     simp only [ax8]
     have D:(xs.take i).length<=i:=by simp;omega
     omega
    ·rw [q,List.filter_append,aB2]
     have:p x=true:=by rw [← hb];exact hp
     simp [this]
   ·rw [aC2 hp]
    refine ⟨?_,some _,some _,rfl⟩
    rw [q,List.filter_append,aB2]
    have:p x=false:=by rw [← hb];simpa using hp
    simp [this]
 ·rintro ys e ⟨rfl,o,o',rfl⟩
  rw [afw c]
  simpa using C
end
theorem aic (n:Nat):rngD 0 n=((List.range n).map fun (i:Nat)=>(i:Int)).map PyData.int:=by simp [rngD]
theorem alg {B:Bs} {t:TS} {D':VEnds} {env:En} (J:En->Prop) (h:EvS B t { D' with nx:=J } env) (k:∀ e,J e->D'.nx e):EvS B t D' env:=fun σ G H F D I r=>h σ G H F D I ⟨fun σ G' H F env a g q=>r.nx _ _ _ _ _ a g (k _ q),r.rt,r.bk,r.ct⟩
theorem af0 {B:Bs} {g:TG} {A:Own} {d:PyData} {env:En} {b:En->Prop} (f:Frz A d) (h:EvG B g (.st d) env b):EvG B g (.own A) env b:=fun σ G H F v Fv Q I x k =>
 h σ _ H F v _ Q (I.freeze x.fb x.fd x.fg) (acv (f G H v Fv x.ok x.fg I.gh)) fun a G' H' F' c i g' q=>k a G' H' F' c i ((abo x.fg).trans g') q
theorem cutR {R X:Prop} (h:R->X) (r:R):X:=h r
end VL
namespace VL
open PySem PySem.Spec L2
def ad1 (e:En):Prop:=∀ (j:Nat) (s:Sl),e[j]?=some (some s)->(∃ d,s=.st d)\/∃ ns:List Int,s=.scr ns
def Sls (K:Frag) (G:Hp) (σ:St) (e:En):Prop:=∀ (j:Nat) (s:Sl),e[j]?=some (some s)->∃ v,σ[j]?=some (some v)/\((∃ d,s=.st d/\Rp G v d)\/∃ (ns:List Int) (a:Addr),s=.scr ns/\v=.ref a/\SqL K G a (ns.map V.int))
theorem Sls.same {K:Frag} {G G':Hp} {σ:St} {e:En} (h:Sls K G σ e) (g:Same G G'):Sls K G' σ e:=fun j s es=>by
 obtain ⟨v,c,q⟩:=h j s es
 refine ⟨v,c,?_⟩
 rcases q with ⟨d,b,r⟩ | ⟨ns,a,b,f,r⟩
 ·exact .inl ⟨d,b,r.same g⟩
 ·exact .inr ⟨ns,a,b,f,g.seq r⟩
def bsC (K:Frag) (G H:Hp) (σ:St):Bs:=⟨K,G,H,H,σ,noF⟩
theorem ai6 {K:Frag} {G H:Hp} {σ:St} {e:En} (gh:Same G H) (ft:FT G H) (ln : σ.length=e.length) (sl:Sls K G σ e):VI (bsC K G H σ) G H σ e noF:=by
 refine ⟨gh,Same.refl _,fun a o e => .inl e,Same.refl _,Same.refl _,fun a o e=>⟨o,e⟩,fun i a z=>z.elim,fun i a z=>z.elim,fun i j a z=>z.elim,fun i a z=>z.elim,fun i s es=>?_,ln,ft⟩
 obtain ⟨v,c,q⟩:=sl i s es
 refine ⟨v,c,?_⟩
 rcases q with ⟨d,b,r⟩ | ⟨ns,a,b,f,r⟩
 ·subst b;exact ⟨r,fun a z=>z⟩
 ·subst b;exact ⟨⟨a,f,r⟩,fun a z=>z⟩
theorem ahk {B:Bs} {K:Frag} {G H:Hp} {σ:St} {e:En} {F:Nat->Addr->Prop} (I:VI B G H σ e F) (c:ad1 e) (g:B.K=K:=by rfl):Sls K G σ e:=fun j s es=>by
 subst g
 obtain ⟨v,f,q⟩:=I.sl j s es
 refine ⟨v,f,?_⟩
 rcases c j s es with ⟨d,rfl⟩ | ⟨ns,rfl⟩
 ·exact .inl ⟨d,rfl,q.1⟩
 ·obtain ⟨⟨a,h,b⟩,_⟩:=q
  exact .inr ⟨ns,a,rfl,h,b⟩
def LcV2 (K:Frag) (src:List (Option Nat)) (g:TG) (tif:TT) (wi2:TI) (g2:TG) (tif2:TT) (te:TE) (ds:List PyData) (e1:En) (R:List PyData->Prop):Prop:=∃ J:Nat->List PyData->En->Prop,J 0 [] (aak src e1)/\(∀ i ys e,J i ys e->ad1 e) /\
 (∀ i d ys e,ds[i]?=some d->J i ys e->∀ B':Bs,B'.K=K->EvG B' g (.st d) e fun e2=>EvT B' tif e2 fun b e3=>if b=true then EvI B' wi2 e3 fun ds2 e4=>∃ J2:Nat->List PyData->En->Prop,J2 0 ys e4/\(∀ j ys e,J2 j ys e->ad1 e) /\
  (∀ j d2 ys2 e,ds2[j]?=some d2->J2 j ys2 e->∀ B2:Bs,B2.K=K->EvG B2 g2 (.st d2) e fun e5=>EvT B2 tif2 e5 fun b e6=>if b=true then Ev B2 te e6 fun y e7=>ys2.length<=999999/\J2 (j+1) (ys2 ++ [y]) e7 else J2 (j+1) ys2 e6)/\(∀ ys2 e,J2 ds2.length ys2 e->J (i+1) ys2 e) else J (i+1) ys e3)/\∀ ys e,J ds.length ys e->R ys
section
variable {B:Bs} {env:En}
theorem amz {src:List (Option Nat)} {wi:TI} {g:TG} {a5:TT} {b0:TI} {g2:TG} {M:TT} {te:TE} {QO:Sl->En->Prop} (h:EvI B wi env fun ds r=>LcV2 B.K src g a5 b0 g2 M te ds r fun ys=>QO (.own (OL ys)) r):EvO B (tLC2 src wi g a5 b0 g2 M te) env QO:=fun σ G H F Q I k=>by
 refine h σ G H F _ I fun J G1 H1 L ds r X g1 it ⟨Jv,j0,jc,js,jd⟩ c l=>?_
 have fa:∀ j,¬ L j c:=X.no_f l
 have hb:B.H c=none:=X.no_b l
 -- between two turns
 let Wv:(List PyData->En->Prop)->List V->St->Hp->Prop:=fun J ys σI H=>∃ f e D,VI B f H σ r L/\Same G1 f/\H c=some (.lst ys)/\Rps f ys D/\f c=none/\J D e/\σI.length=e.length/\Sls B.K f σI e
 -- out of a frame within
 have leave:∀ {n H3:Hp} {σI:St} {ys:List V},VI B n H3 σ r L->n c=none->H3 c=some (.lst ys)->∀ {R Y:Hp} {C:St} {F4:Nat->Addr->Prop} {e4:En},VI (bsC B.K n H3 σI) R Y C e4 F4->VI B R Y σ r L/\R c=none/\Y c=some (.lst ys):=by
  intro n H3 σI ys W ga ac R Y C F4 e4 E
  refine ⟨W.grow E.g0 E.gh E.rs E.gn E.ft,?_,E.rs _ _ ac⟩
  cases e':R c with
  | none=>rfl
  | some u =>
   rcases E.gn c u e' with q | q
   ·change n c=_ at q;rw [ga] at q;cases q
   ·change H3 c=_ at q;rw [ac] at q;cases q
 have step:∀ {f H2:Hp} {ys:List V} {x:V} {n H3:Hp} {d:PyData},VI B f H2 σ r L->f c=none->H2 c=some (.lst ys)->Out f H2 x n H3 (.st d) (fun _=>False)->VI B n H3 σ r L/\n c=none/\H3 c=some (.lst ys):=by
  intro f H2 ys x n H3 d N ga ac o
  refine ⟨(N.out o).1,?_,o.hh _ _ ac⟩
  cases e':n c with
  | none=>rfl
  | some u =>
   rcases o.gn c u e' with q | q
   ·rw [ga] at q;cases q
   ·rw [ac] at q;cases q
 refine ⟨fun i m ys σI H=>m=ds.length - i/\i<=ds.length/\Wv (Jv i) ys σI H,⟨ds.length,by simp,aC5 _,?_⟩,?_⟩
 ·refine ⟨G1,aak src r,[],X.aside (fun _ z=>nomatch z) (X.no_g l) fa hb,Same.refl _,aaj,.nil,X.no_g l,j0,by simp [pick,aak],fun j s e=>?_⟩
  obtain ⟨i,t,hs,ht,hp⟩:=afc e
  obtain ⟨v,hv,q⟩:=X.sl i t ht
  refine ⟨v,ala hs hv,?_⟩
  cases t with
  | st d=>cases hp;exact .inl ⟨d,rfl,q.1⟩
  | scr ns =>
   cases hp
   obtain ⟨⟨a,ea,sq⟩,_⟩:=q
   exact .inr ⟨ns,a,rfl,ea,sq⟩
  | own A=>cases hp;rcases jc _ _ _ j0 j _ e with ⟨d,z⟩ | ⟨ns,z⟩ <;> cases z
  | io A=>cases hp;rcases jc _ _ _ j0 j _ e with ⟨d,z⟩ | ⟨ns,z⟩ <;> cases z
 ·rintro i m ys σI H2 ⟨rfl,hi,f,e,D,N,w,P,ry,ga,jv,ln,sl⟩
  by_cases hlt:i < ds.length
  ·refine .inr ⟨it.go i f H2 w N.gh hlt,Wv (Jv (i+1)),fun b5 c0 H' hw=>⟨ds.length - (i+1),by omega,rfl,hlt,hw⟩,fun x H3 y=>?_⟩
   obtain ⟨n,o⟩:=it.yld i f H2 x H3 _ w N.gh N.ft (ax5 hlt) y
   obtain ⟨W,a3,Z⟩:=step N ga P o
   have E3:=ai6 (K:=B.K) W.gh W.ft ln (sl.same o.gg)
   refine js i _ D e (ax5 hlt) jv (bsC B.K n H3 σI) rfl σI n H3 _ x _ _ E3 (acv o.ok.1) fun C R Y F4 e4 E g4 q4=>?_
   refine q4 C R Y F4 _ E fun b G5 H5 F5 e5 I5 g5 q5=>?_
   have a9:=ry.same (o.gg.trans (g4.trans g5))
   have s5:=w.trans (o.gg.trans (g4.trans g5))
   cases b with
   | false =>
    rw [aC2 ay4] at q5 ⊢
    obtain ⟨K5,b3,b6⟩:=leave W a3 Z I5
    exact ⟨G5,e5,D,K5,s5,b6,a9,b3,q5,I5.ln,ahk I5 (jc _ _ _ q5)⟩
   | true =>
    rw [aC1 rfl] at q5 ⊢
    refine q5 C G5 H5 F5 _ I5 fun J2 G6 H6 F6 p e6 I6 g6 O ⟨Jw,w0,wc,ws,wd⟩=>?_
    obtain ⟨K6,b8,b9⟩:=leave W a3 Z I6
    have s6:=s5.trans g6
    let Wi:Nat->List V->St->Hp->Prop:=fun j ys σI H=>∃ f e D,VI B f H σ r L/\Same G6 f/\H c=some (.lst ys)/\Rps f ys D/\f c=none/\Jw j D e/\σI.length=e.length/\Sls B.K f σI e
    refine ⟨fun j m ys σI H=>m=p.length - j/\j<=p.length/\Wi j ys σI H,⟨p.length,by simp,aC5 _,G6,e6,D,K6,Same.refl _,b9,a9.same g6,b8,w0,I6.ln,ahk I6 (wc _ _ _ w0)⟩,?_⟩
    rintro j m zs a6 H7 ⟨rfl,hj,G7,e7,zd,T,U,S,rz,a2,jw,a4,b2⟩
    refine ⟨S,?_⟩
    by_cases hlt2:j < p.length
    ·refine .inr ⟨O.go j G7 H7 U T.gh hlt2,Wi (j+1),fun b5 c0 H' hw=>⟨p.length - (j+1),by omega,rfl,hlt2,hw⟩,fun x2 H8 y2=>?_⟩
     obtain ⟨G8,o2⟩:=O.yld j G7 H7 x2 H8 _ U T.gh T.ft (ax5 hlt2) y2
     obtain ⟨I8,a1,a7⟩:=step T a2 S o2
     have E8:=ai6 (K:=B.K) I8.gh I8.ft a4 (b2.same o2.gg)
     refine ws j _ zd e7 (ax5 hlt2) jw (bsC B.K G8 H8 a6) rfl a6 G8 H8 _ x2 _ _ E8 (acv o2.ok.1) fun a0 G9 H9 F9 e9 I9 g9 q9=>?_
     refine q9 a0 G9 H9 F9 _ I9 fun b GA HA FA eA IA gA qA=>?_
     cases b with
     | false =>
      rw [aC2 ay4] at qA ⊢
      obtain ⟨KA,b7,b4⟩:=leave I8 a1 a7 IA
      have sA:=o2.gg.trans (g9.trans gA)
      exact ⟨GA,eA,zd,KA,U.trans sA,b4,rz.same sA,b7,qA,IA.ln,ahk IA (wc _ _ _ qA)⟩
     | true =>
      rw [aC1 rfl] at qA ⊢
      refine qA a0 GA HA FA _ IA fun yv GB HB FB dB eB IB gB rB ⟨lB,qB⟩=>?_
      obtain ⟨KB,b1,c1⟩:=leave I8 a1 a7 IB
      have sB:=o2.gg.trans (g9.trans (gA.trans gB))
      have a8:=rz.same sB
      refine ⟨c1,by rw [a8.length];exact aB1 lB (by decide),GB,eB,zd ++ [dB],KB.aside (fun _ z=>nomatch z) b1 fa hb,U.trans sB,aaj,a8.append (.cons rB .nil),b1,qB,IB.ln,ahk IB (wc _ _ _ qB)⟩
    ·have ej:j=p.length:=by omega
     subst ej
     refine .inl ⟨O.stop _ G7 H7 U T.gh rfl,G7,e7,zd,T,s6.trans U,S,rz,a2,wd _ _ jw,a4,b2⟩
  ·have ei:i=ds.length:=by omega
   subst ei
   refine .inl ⟨it.stop _ f H2 w N.gh rfl,?_⟩
   refine k (.ref c) f H2 L (· = c) (.own (OL D)) r N (g1.trans w) ⟨⟨c,ys,rfl,P,ry,fun b=>Iff.rfl⟩,fun a z=>by rw [z];exact hb,fun a z=>by rw [z];exact ga,fun a z=>by rw [z];exact ⟨_,P⟩,fun j a z=>by rw [z];exact fa j⟩ (jd _ _ jv)
end
theorem adl {o:Option PyData} {e:En} (h:ad1 e):ad1 (stO o :: e):=fun j s es=>by
 cases j with
 | zero =>
  cases o with
  | none=>simp [stO] at es
  | some d =>
   have:s=.st d:=by simpa [stO] using es.symm
   exact .inl ⟨d,this⟩
 | succ j=>exact h j s (by simpa using es)
theorem ard {α β:Type} {K:Frag} {src:List (Option Nat)} {c:En} {r:TI} {h:TT} {te:TE} {R:List PyData->Prop} {xs:List α} {g : α->PyData} (a : α->List β) (p : β->PyData) (f : α->β->PyData) (q : α->β->Bool) (U:ad1 (aak src c))
  (hl:(xs.flatMap fun x=>((a x).filter (q x)).map (f x)).length<=999999)
  (X:∀ x∈xs,∀ m:Bs,m.K=K->∀ o,EvI m r (some (.st (g x)) :: stO o :: aak src c) fun w D=>w=(a x).map p/\D=some (.st (g x)) :: stO o :: aak src c)
  (h2:∀ x∈xs,∀ y∈a x,∀ m:Bs,m.K=K->EvT m h (some (.st (g x)) :: some (.st (p y)) :: aak src c) fun b Z=>b=q x y/\Z=some (.st (g x)) :: some (.st (p y)) :: aak src c/\(b=true->Ev m te (some (.st (g x)) :: some (.st (p y)) :: aak src c) fun z Y=>z=f x y/\Y=some (.st (g x)) :: some (.st (p y)) :: aak src c))
  (hR:R (xs.flatMap fun x=>((a x).filter (q x)).map (f x))):LcV2 K (none :: none :: src) (aav 0) tYes r (aav 1) h te (xs.map g) c R:=by
 refine ⟨fun i ys e=>ys=(xs.take i).flatMap (fun x=>((a x).filter (q x)).map (f x))/\∃ o o',e=stO o :: stO o' :: aak src c,⟨by simp,none,none,rfl⟩,?_,?_,?_⟩
 ·rintro i ys e ⟨_,o,o',rfl⟩
  exact adl (adl U)
 ·rintro i d ys e hd ⟨rfl,o,o',rfl⟩ m hB
  rw [ay0] at hd
  cases hx:xs[i]? with
  | none=>rw [hx] at hd;cases hd
  | some x =>
   rw [hx] at hd
   cases hd
   have C:=ax7 hx
   have T:xs.take (i+1)=xs.take i ++ [x]:=by rw [aD9,hx];rfl
   have S:((xs.take (i+1)).flatMap (fun x=>((a x).filter (q x)).map (f x))).length<=999999:=by
    refine aA4 ?_ hl
    conv=>rhs;rw [← az5 (i+1) xs,List.flatMap_append,ay5]
    exact Nat.le_add_right _ _
   refine aaw (aco ?_)
   rw [aC1 rfl]
   show EvI m r (some (.st (g x)) :: stO o' :: aak src c) _
   intro σ G H F Q I k
   refine X x C m hB o' σ G H F Q I fun J G' H' F' w D B g' M ⟨E,s⟩=>k J G' H' F' w D B g' M ?_
   subst E s
   refine ⟨fun j n e=>n=(xs.take i).flatMap (fun x=>((a x).filter (q x)).map (f x)) ++ (((a x).take j).filter (q x)).map (f x)/\∃ o',e=some (.st (g x)) :: stO o' :: aak src c,⟨by simp,o',rfl⟩,?_,?_,?_⟩
   ·rintro j n e ⟨_,u,rfl⟩
    exact adl (o:=some (g x)) (adl U)
   ·rintro j d2 n e l ⟨rfl,u,rfl⟩ W L
    rw [ay0] at l
    cases hy:(a x)[j]? with
    | none=>rw [hy] at l;cases l
    | some y =>
     rw [hy] at l
     cases l
     have A:(a x).take (j+1)=(a x).take j ++ [y]:=by rw [aD9,hy];rfl
     refine aaw ?_
     show EvT W h (some (.st (g x)) :: some (.st (p y)) :: aak src c) _
     intro σ G H F Q I k
     refine h2 x C y (ax7 hy) W L σ G H F Q I fun b G' H' F' e3 B g' ⟨hb,he,hq⟩=>k b G' H' F' e3 B g' ?_
     subst he
     by_cases hp:b=true
     ·rw [aC1 hp]
      intro σ G H F Q I k
      refine hq hp σ G H F Q I fun v G' H' F' d' D B g' r' ⟨O,s⟩=>k v G' H' F' d' D B g' r' ?_
      subst O s
      have P:q x y=true:=by rw [← hb];exact hp
      refine ⟨?_,?_,some (p y),rfl⟩
      ·refine aA4 ?_ S
       rw [T,List.flatMap_append,ay5,ay5]
       refine Nat.add_le_add_left ?_ _
       simp only [List.flatMap_cons,List.flatMap_nil,aB7,ax8]
       exact (List.Sublist.filter (q x) (List.take_sublist j (a x))).length_le
      ·rw [A,List.filter_append,aB2,← ay8]
       simp [P]
     ·rw [aC2 hp]
      have N:q x y=false:=by rw [← hb];simpa using hp
      refine ⟨?_,some (p y),rfl⟩
      rw [A,List.filter_append,aB2]
      simp [N]
   ·rintro n e ⟨rfl,u,rfl⟩
    refine ⟨?_,some (g x),u,rfl⟩
    rw [T,List.flatMap_append]
    simp
 ·rintro ys e ⟨rfl,o,o',rfl⟩
  rw [ax8,aD3]
  exact hR
section
variable {B:Bs} {env:En} {Q':PyData->En->Prop} {QO:Sl->En->Prop} {c:TT} {ta tb:TE}
theorem awl {src:List (Option Nat)} {m:TI} {g:TG} {j:TT} {i:TI} {n:TG} {f:TT} {te:TE} (h:EvI B m env fun ds l=>LcV2 B.K src g j i n f te ds l fun ys=>Q' (.list ys) l):Ev B (tLC2 src m g j i n f te) env Q':=abc (amz fun σ G H F R I k=>h σ G H F R I fun J s v o ds l p r it ⟨u,a,b,c,d⟩=>k J s v o ds l p r it ⟨u,a,b,c,fun ys e q=>adj (d ys e q)⟩)
end
def awm (e:En):Bool:=e.all fun o=>match o with | some (.own _)=>false | some (.io _)=>false | _=>true
theorem aps {e:En} (h:awm e=true):ad1 e:=fun j s es=>by
 have:=aC0.mp h (some s) (ax7 es)
 cases s with
 | st d=>exact .inl ⟨d,rfl⟩
 | scr ns=>exact .inr ⟨ns,rfl⟩
 | own A=>simp at this
 | io A=>simp at this
end VL
namespace VL
open PySem PySem.Spec L2 PyProof.Rows
end VL
namespace VL
open PySem PySem.Spec L2
section
variable {B:Bs} {env:En} {QO:Sl->En->Prop} {i:Nat}
end
mutual
theorem Rp.repL {G:Hp}:∀ {v:V} {d:PyData},Rp G v d->d.canLay0=true->Rep G v d
 | _,_,.non,_ => .non
 | _,_,.bl b,_ => .bl b
 | _,_,.int i,_ => .int i
 | _,_,.str x,_ => .str x
 | _,_,.lst h r,p => .lst h (Rps.repsL r (by simpa [PyData.canLay0] using p))
 | _,_,.tup h r,p => .tup h (Rps.repsL r (by simpa [PyData.canLay0] using p))
 | _,_,.dk h r e,p=>by simp [PyData.canLay0] at p
 | _,_,.dt h r e,p=>by simp [PyData.canLay0] at p
theorem Rps.repsL {G:Hp}:∀ {vs:List V} {ds:List PyData},Rps G vs ds->PyData.canLayAll0 ds=true->Reps G vs ds
 | _,_,.nil,_ => .nil
 | _,_,.cons r t,p=>by
  simp only [PyData.canLayAll0,aD6] at p
  exact .cons (Rp.repL r p.1) (Rps.repsL t p.2)
end
def rEqL:R2:=fun x y H Q=>∃ d e,Rep H x d/\Rep H y e/\d.canLay0=true/\e.canLay0=true/\d.depth<=60/\Q (.bl (PyData.eqv d e)) H
section
variable {X:Cx}
theorem awn (j:X.A.units+64 < cLine):OpR X (compareOp .Eq) rEqL:=fun pins s σ H x y v u Q I c g h=>by
 obtain ⟨d,e,i,re,hd,f,a,q⟩:=h
 obtain ⟨as,b⟩:=i.reads I c
 obtain ⟨bs,rb⟩:=re.reads I g
 refine SeqAt.compareEq_reads b rb hd f ?_ ⟨.bl _,H,I,rfl,q⟩
 exact aB1 (Nat.add_le_add_left (aA4 (Nat.min_le_left ..) a) _) (by omega)
end
section
variable {R:Sl->Prop}
theorem am0 {x y:PyData} (a:x.canLay0=true) (b:y.canLay0=true) (hd:x.depth<=60) (h:R (.st (.bool (PyData.eqv x y)))):Op2 rEqL x y R:=fun G H g f Q gh d c k =>
 ⟨x,y,(d.repL a).same gh,(c.repL b).same gh,a,b,hd,k _ _ _ _ _ (Out.refl gh (.bl _)) h⟩
end
end VL
namespace L2
open PySem PySem.Spec PyProof.Rows
section
variable {X:Cx}
variable {e est:Expr} {te:TE} {ts:TO} {pos p2:Pos}
end
end L2
namespace VL
open PySem PySem.Spec L2
section
variable {B:Bs} {env:En} {QO:Sl->En->Prop} {Q':PyData->En->Prop} {te tl:TE} {ts:TO} {K:Frag} {i:Nat}
end
theorem asb {α:Type} [DecidableEq α]:∀ {as bs:List α},as.Nodup->(∀ a∈as,a∈bs)->as.length<=bs.length
 | [],_,_,_=>aC5 _
 | a :: as,bs,hn,hs=>by
  have ha:a∈bs:=hs a (az2 ..)
  have b:=aE9.mp hn
  have h:=asb (bs:=bs.erase a) b.2 fun x c=>(List.mem_erase_of_ne (show x ≠ a from fun e=>b.1 (by rw [← e];exact c))).mpr (hs x (ay9 _ c))
  rw [List.length_erase_of_mem ha] at h
  have:0 < bs.length:=List.length_pos_of_mem ha
  simp only [aB3]
  omega
structure But (n:Int) (es rem:List (Int × Int)):Prop where
 rise:Rise es
 inn:∀ p∈es,0<=p.1/\p.1 < p.2/\p.2 < n
 all:∀ p:Int × Int,0<=p.1->p.1 < p.2->p.2 < n->p∈es\/p∈rem
theorem But.len {n:Int} {es rem:List (Int × Int)} (h:But n es rem) (hn:8<=n) (b:rem.length<=5):2<=es.length:=by
 have:=asb (as:=[((0:Int),(1:Int)),(0,2),(0,3),(0,4),(0,5),(0,6),(0,7)]) (bs:=es ++ rem) (by decide) (fun p a=>by
  have:0<=p.1/\p.1 < p.2/\p.2 < 8:=by
   simp only [ay3,aE8,or_false] at a
   rcases a with rfl | rfl | rfl | rfl | rfl | rfl | rfl <;> decide
  exact ay2.mpr (h.all p this.1 this.2.1 (by omega)))
 simp at this
 omega
end VL
namespace L2
open PySem PySem.Spec PyProof.Rows
structure FlyT (base:Heap) (l:List Env) (e T:Addr) (cls:Value) (h:Heap):Prop where
 stay:base.StaysIn h
 new:base.get? e=none
 newT:base.get? T=none
 funs:h.FunFrames base l
 tr:∃ oe vs oT ts a0,h.get? e=some oe/\(oe.cls=cls/\vs[0]?=some a0)/\oe.data=.fields vs/\vs[1]?=some (.ref T)/\T ≠ e/\h.get? T=some oT/\oT.data=.fields ts/\ts[3]?=some .none
theorem FlyT.of {base a h':Heap} {as:List Addr} {l:List Env} {e:Addr} {cls a0:Value} (x:Heap.FlyingW (PySem.W.hideAll a as) l e cls a0 h') (n:a.UpToSlots h') (st:base.StaysIn a) (ha:∀ b∈as,base.get? b=none) (fn:a.FunFrames base l) (ne:base.get? e=none) :
  ∃ T,FlyT base l e T cls h'/\(T∈as\/a.get? T=none):=by
 obtain ⟨k1,k2,k3,oe,vs,T,oT,ts,p,r,hd,i,h,g,d,f,j⟩:=x
 have c:T∈as\/a.get? T=none:=by
  by_cases m:T∈as
  ·exact .inl m
  ·cases q:a.get? T with
   | none=>exact .inr rfl
   | some o=>rw [PySem.W.hideAll_get as q m] at h;cases h
 refine ⟨T,⟨fun b o q=>k1 b o (PySem.W.hideAll_get as (st b o q) fun m=>by rw [ha b m] at q;cases q),ne,?_,fn.of_keeps fun b o hb hn=>?_,oe,vs,oT,ts,a0,p,r,hd,i,g,d,f,j⟩,c⟩
 ·rcases c with m | m
  ·exact ha T m
  ·exact PySem.W.fresh_of_stays st m
 ·obtain ⟨sl,q⟩:=n b o hb hn
  exact ⟨_,q,rfl⟩
theorem apt {base c h':Heap} {l d:List Env} {e T:Addr} {cls:Value} (fn:c.FunFrames base l) (g:c.UpToSlots h') (y:FlyT base d e T cls h'):T ∉ frs l:=fun m=>by
 obtain ⟨_,o,f,hn⟩:=fn.mem m
 obtain ⟨sl,q⟩:=g T o f hn
 obtain ⟨oe,vs,oT,ts,a0,_,_,_,_,_,a,b,_⟩:=y.tr
 rw [q] at a;cases a
 exact hn ts b
theorem aid {l:List Env}:∀ env∈l,∀ a,env.frame=some a->a∈frs l:=fun env b a ha=>List.mem_filterMap.mpr ⟨env,b,ha⟩
section
variable {M:Model} {A:Around} {E:Value->Shared->Prop} {s:Shared} {base:Heap} {env:Env} {outer:List Env} {L e T:Addr} {cls:Value} {Q:Unit->Shared->Prop}
theorem arf (l:A.frames=some (env :: outer)) (hf:env.frame=some L) (x:FlyT base (env :: outer) e T cls s.heap)
  (C:∀ h' c,FlyT base outer e c cls h'->(c=T\/s.heap.get? c=none)->(∀ b o,s.heap.get? b=some o->b ≠ e->b ≠ T->b ∉ frs (env :: outer)->h'.get? b=some o)->s.heap.UpToSlots h'->Q () { s with heap:=h' }):wpAny M A (leaving env (.ref e)) Q E s:=by
 obtain ⟨oe,vs,oT,ts,a0,B,D,hd,r,j,d,i,u⟩:=id x.tr
 refine wpAny_leaves_onW (base:=PySem.W.hideAll s.heap (e :: T :: frs (env :: outer))) l hf ⟨fun b o q=>PySem.W.of_hideAll _ q,PySem.W.hideAll_none _ (.head _),PySem.W.funFrames_hide x.funs fun p hn a ha => .tail _ (.tail _ (aid p hn a ha)),
  oe,vs,T,oT,ts,B,D,hd,r,PySem.W.hideAll_none _ (.tail _ (.head _)),j,d,i,u⟩ fun h' f h=>?_
 obtain ⟨c,y,g⟩:=FlyT.of (base:=base) f h x.stay (fun b hb=>by
  rcases ay3.mp hb with z | hb
  ·rw [z];exact x.new
  ·rcases ay3.mp hb with z | hb
   ·rw [z];exact x.newT
   ·exact (x.funs.mem hb).1) x.funs.2.2 x.new
 refine C h' c y ?_ (fun b o q m w v=>f.1 b o (PySem.W.hideAll_get _ q fun z=>?_)) h
 ·rcases g with z | z
  ·rcases ay3.mp z with z | z
   ·obtain ⟨_,_,_,_,_,_,_,_,_,n,_⟩:=y.tr
    exact absurd z n
   ·rcases ay3.mp z with z | z
    ·exact .inl z
    ·exact absurd z (apt x.funs h y)
  ·exact .inr z
 ·rcases ay3.mp z with z | z
  ·exact m z
  ·rcases ay3.mp z with z | z
   ·exact w z
   ·exact v z
theorem ant {h:Heap} {args:List Value} (i:A.frames=some (env :: outer)) (hf:env.frame=some L) (st:base.StaysIn h) (fn:h.FunFrames base (env :: outer)) (g:Heap.MadeExcOf h s.heap e cls args)
  (l:∀ h' c,FlyT base outer e c cls h'->h.get? c=none->(∀ b o,h.get? b=some o->b ∉ frs (env :: outer)->h'.get? b=some o)->h.UpToSlots h'->Q () { s with heap:=h' }):wpAny M A (leaving env (.ref e)) Q E s:=by
 refine wpAny_leaves_madeW (base:=PySem.W.hideAll h (frs (env :: outer))) i hf (fun b o q=>PySem.W.of_hideAll _ q) (PySem.W.funFrames_hide fn aid) g fun h' t f _ _ j=>?_
 have a:h.UpToSlots h':=(Heap.UpToSlots.of_keeps g.keeps).trans j
 obtain ⟨c,y,d⟩:=FlyT.of (base:=base) f a st (fun b hb=>(fn.mem hb).1) fn.2.2 (PySem.W.fresh_of_stays st g.new)
 refine l h' c y ?_ (fun b o q n=>f.1 b o (PySem.W.hideAll_get _ q n)) a
 rcases d with z | z
 ·exact absurd z (apt fn a y)
 ·exact z
end
theorem ObjOk.has {P:Program} {w:World} {H:Hp} {h:Heap} {a:Addr} {o:HO} (x:ObjOk P w H h a o):∃ b,h.get? a=some b:=by
 cases o with
 | lst xs=>obtain ⟨_,_,_,_,e⟩:=x;exact ⟨_,e⟩
 | tup xs=>obtain ⟨_,_,_,b,e,_⟩:=x;exact ⟨_,e⟩
 | dK kvs=>obtain ⟨_,_,_,_,o,_,_,e,_⟩:=x;exact ⟨_,e⟩
 | dT kvs=>obtain ⟨_,_,_,_,o,_,_,e,_⟩:=x;exact ⟨_,e⟩
 | set S n=>obtain ⟨o,_,_,_,e,_⟩:=x;exact ⟨_,e⟩
 | ins C dx fs=>obtain ⟨_,_,_,e,_⟩:=x;exact ⟨_,e⟩
 | own y=>exact x
 | xd fs=>obtain ⟨_,⟨_,_,_,e,_⟩,_⟩:=x;exact ⟨_,e⟩
 | rng lo hi=>obtain ⟨_,_,_,e⟩:=x;exact ⟨_,e⟩
 | frz b u=>obtain ⟨e,_⟩:=x;exact ⟨_,e⟩
 | tbl ps=>exact ⟨_,show h.get? a=some _ from x⟩
 | met f y=>exact ⟨_,show h.get? a=some _ from x⟩
 | ext φ=>obtain ⟨_,e,_⟩:=x;exact e
theorem HOk.no {P:Program} {w:World} {H:Hp} {h:Heap} {a:Addr} (x:HOk P w H h) (e:h.get? a=none):H a=none:=by
 cases q:H a with
 | none=>rfl
 | some o=>obtain ⟨b,z⟩:=(x a o q).has;rw [e] at z;cases z
def CXE (P:Program) (w:World) (base:Heap):CXT:=fun outer H s E e s'=>∃ ea T C H',e=.ref ea/\s'.os=s.os/\AllBare s'.gens/\Un (frs outer) [] H H' s.heap s'.heap/\HOk P w H' s'.heap /\
 FlyT base outer ea T (.ref C) s'.heap/\s.heap.get? ea=none/\s.heap.get? T=none/\H' ea=none/\H' T=none/\E (.ref C) none H'
section
variable {P:Program} {w:World} {K:Frag} {mg:Str->Option Value} {base:Heap} {N:List Str} {qual:Str} {scope:Scope} {f:Addr} {cd:Value} {A:Around} {outer:List Env} {s0:Shared} {H0:Hp} {E:XK}
theorem Un.back {X:Cx} {pins:List (Addr × Obj)} {σ:St} {H:Hp} {s:Shared} {h':Heap} (I:Inv X pins σ H s) (j:X.ex=[]) (keep:∀ b o,X.s₀.heap.get? b=some o->s.heap.get? b=some o->b ∉ frs X.stack->h'.get? b=some o)
  (a:∀ b o o',X.s₀.heap.get? b=some o->s.heap.get? b=some o'->∃ h,h'.get? b=some h) (g:s.heap.UpToSlots h'):Un X.fs [] X.H₀ H X.s₀.heap h':=by
 have i:∀ b o,X.s₀.heap.get? b=some o->b ∉ X.fs->b ∉ frs X.stack:=fun b o q l m=>by
  rcases ay3.mp (I.stkSub b m) with z | z
  ·exact absurd (az9 (aF5 q) (z ▸ I.ok.above)) (aC9 _)
  ·exact l z
 have nx:∀ b:Addr,b ∉ X.ex:=fun b z=>by rw [j] at z;cases z
 refine ⟨fun b o q n hb _=>keep b o q (I.base.keep b o q n hb (nx b)) (i b o q hb),fun b o q n hb _=>?_,fun b o q n _=>I.base.free b o q n (nx b),fun b o q _=>?_,I.base.tups,I.base.frzs,I.base.tbls⟩
 ·obtain ⟨sl,e⟩:=I.base.slot b o q n hb (nx b)
  obtain ⟨_,o',d,hn⟩:=I.funs.mem hb
  rw [e] at d;cases d
  obtain ⟨c,f⟩:=g b _ e hn
  exact ⟨c,f⟩
 ·obtain ⟨o',e⟩:=I.base.there b o q (nx b)
  exact a b o o' q e
theorem anu:agy (CXE P w base) (cxOf (CXE P w base) P w K mg base N qual scope f cd A outer s0 H0 E) E:=by
 intro pins σ H s e F I h
 obtain ⟨g,T,C,H',rfl,p,n,un,hok,D,ne,Q,y,B,G⟩:=h
 have J:=I.call' p un hok n (fun b z=>absurd z (by simp))
 have pre:∀ b o,s0.heap.get? b=some o->∃ o',s.heap.get? b=some o':=fun b o q=>I.base.there b o q (fun z=>absurd (show b∈([]:List Addr) from z) (by simp))
 have i:∀ b o,s0.heap.get? b=some o->b ≠ g:=fun b o q z=>by obtain ⟨o',r⟩:=pre b o q;rw [z,ne] at r;cases r
 have l:∀ b o,s0.heap.get? b=some o->b ≠ T:=fun b o q z=>by obtain ⟨o',r⟩:=pre b o q;rw [z,Q] at r;cases r
 refine arf I.ok.frames rfl D fun h' d j a keep x=>?_
 have U:=Un.back J rfl (h':=h') (fun b o q r m=>keep b o r (i b o q) (l b o q) m) (fun b o o' q r=>by
  by_cases m:b∈frs (envOfC qual scope s0.heap.objs.size f cd :: outer)
  ·obtain ⟨_,M,L,hn⟩:=D.funs.mem m
   obtain ⟨sl,R⟩:=x b M L hn
   exact ⟨_,R⟩
  ·exact ⟨o',keep b o' r (i b o q) (l b o q) m⟩) x
 have tr:∀ b u,H' b=some u->∀ v,F.heap.get? b=some v->h'.get? b=some v:=fun b u q v r=>keep b v r (fun z=>by rw [z,y] at q;cases q) (fun z=>by rw [z,B] at q;cases q) (fun m=>by rw [J.stkFree b m] at q;cases q)
 refine ⟨g,d,C,H',rfl,p.trans I.os,n,U,fun b u q=>(hok b u q).stay (fun c v O r=>?_) (fun _ q=>q) (fun _ _ q=>q),j,?_,?_,y,?_,G⟩
 ·rcases O with z | z
  ·rw [z] at r ⊢;exact tr b u q v r
  ·exact tr c _ z v r
 ·cases q:s0.heap.get? g with
  | none=>rfl
  | some o=>exact absurd rfl (i g o q)
 ·cases q:s0.heap.get? d with
  | none=>rfl
  | some o =>
   rcases a with z | z
   ·exact absurd z (l d o q)
   ·obtain ⟨o',r⟩:=J.base.there d o q (fun z=>absurd (show d∈([]:List Addr) from z) (by simp))
    rw [z] at r;cases r
 ·rcases a with z | z
  ·rw [z];exact B
  ·exact hok.no z
theorem auk {pins:List (Addr × Obj)} {σ:St} {H:Hp} {s:Shared} {d:Heap} {e C:Addr} {args:List Value} (I:Inv (cxOf (CXE P w base) P w K mg base N qual scope f cd A outer s0 H0 E) pins σ H s) (m:Heap.MadeExcOf s.heap d e (.ref C) args)
  (j:E (.ref C) none H):(cxOf (CXE P w base) P w K mg base N qual scope f cd A outer s0 H0 E).xe (.ref e) { s with heap:=d }:=by
 have pre:∀ b o,s0.heap.get? b=some o->∃ o',s.heap.get? b=some o':=fun b o q=>I.base.there b o q (fun z=>absurd (show b∈([]:List Addr) from z) (by simp))
 refine ant (s:={ s with heap:=d }) I.ok.frames rfl I.bk I.stack m fun h' h g a keep i=>?_
 have U:=Un.back I rfl (h':=h') (fun b o q r m=>keep b o r m) (fun b o o' q r=>by
  by_cases m:b∈frs (envOfC qual scope s0.heap.objs.size f cd :: outer)
  ·obtain ⟨_,n,l,hn⟩:=I.stack.mem m
   obtain ⟨sl,x⟩:=i b n l hn
   exact ⟨_,x⟩
  ·exact ⟨o',keep b o' r m⟩) i
 have tr:∀ b u,H b=some u->∀ v,s.heap.get? b=some v->h'.get? b=some v:=fun b u q v r=>keep b v r (fun m=>by rw [I.stkFree b m] at q;cases q)
 refine ⟨e,h,C,H,rfl,I.os,I.bare,U,fun b u q=>(I.hok b u q).stay (fun c v p r=>?_) (fun _ q=>q) (fun _ _ q=>q),g,?_,?_,I.hok.no m.new,I.hok.no a,j⟩
 ·rcases p with z | z
  ·rw [z] at r ⊢;exact tr b u q v r
  ·exact tr c _ z v r
 ·cases q:s0.heap.get? e with
  | none=>rfl
  | some o=>obtain ⟨o',r⟩:=pre e o q;rw [m.new] at r;cases r
 ·cases q:s0.heap.get? h with
  | none=>rfl
  | some o=>obtain ⟨o',r⟩:=pre h o q;rw [a] at r;cases r
end
section
variable {M:Model} {A:Around} {E:Value->Shared->Prop}
variable {nm q nm' q':Str} {C N D N':Addr} {bs bm bs' bm':List Value} {hdct hdct':Bool} {sn sn':List Str} {sub sub':List Value} {ab ab':Bool} {col col':Option Bool} {dd dd':Option Addr} {k0 k1 k2 k3 k5 j0 j1 j2 j3 j5:Option Value} {newId newId':String}
theorem ajr {h:Heap} {g:Array GenState} {d:Drawn} {t:Nat} {os:OsState} {e:Addr} {oe:Obj} {Q:Bool->Shared->Prop}
  (m:h.get? C=some (excClassObj nm q C N bs bm hdct sn sub ab col dd k0 k1 k2 k3 k5 newId)) (j:h.get? D=some (excClassObj nm' q' D N' bs' bm' hdct' sn' sub' ab' col' dd' j0 j1 j2 j3 j5 newId')) (l:h.get? e=some oe) (b:oe.cls=.ref C)
  (a:bm'.contains (.type "BaseException")=true) (c:(Value.ref C :: bm).contains (.ref D)=true) (n:Q true ⟨h,g,d,t,os⟩):wpAny M A (excMatches (.ref e) (.ref D)) Q E ⟨h,g,d,t,os⟩:=by
 have i:(Value.ref D :: bm').contains (.type "BaseException")=true:=by rw [List.contains_cons,a,Bool.or_true]
 have f:=tc_notTuple
 unfold excMatches
 repeat (first | (with_reducible refine wpAny_loadPart_at l ?_;rw [b]) | with_reducible refine wpAny_loadPart_at j ?_ | (with_reducible refine wpAny_isSubtype_exc j ?_;rw [i]) | (with_reducible refine wpAny_isSubtype_exc m ?_;rw [c]) | wp_step)
 exact n
end
abbrev bmV:List Value:=[.type "ValueError",.type "Exception",.type "BaseException",.type "object"]
abbrev XOk (K:Frag) (mg:Str->Option Value) (x:Str) (C:Addr):Prop:=∀ h:Heap,K.In h->OwnCls x C bmV "ValueError.__new__" mg h
def XSub (K:Frag) (C D:Addr):Prop:=∀ h:Heap,K.In h->∃ nm q N bs bm hdct sn sub ab col dd k0 k1 k2 k3 k5 newId,
 h.get? C=some (excClassObj nm q C N bs bm hdct sn sub ab col dd k0 k1 k2 k3 k5 newId)/\(Value.ref C :: bm).contains (.ref D)=true
section
variable {X:Cx}
theorem arh {x:Str} {C:Addr} {v a pos:Pos} {d:Expr} {es:List Expr} {o:TA} {W:Hp->Prop} (c:XOk X.K X.mg x C) (p:Gl X x) (y:X.calm=true) (ha:PA X (d :: es) o)
  (B:∀ (pins:List (Addr × Obj)) (σ:St) (H:Hp) (s:Shared) (l:Heap) (e:Addr) (args:List Value),Inv X pins σ H s->Heap.MadeExcOf s.heap l e (.ref C) args->W H->X.xe (.ref e) { s with heap:=l })
  (i:(x == ("__debug__" : Str))=false:=by decide) (n:starEach (d :: es) X.env=(false,eval d X.env) :: starEach es X.env:=by rfl) (g:(backTo a (starEach es X.env)).any (·.1)=false:=by rfl) :
  PS X (.Raise (some (.Call (.Name x v) (d :: es) [] a)) none pos) (fun _ σ H=>o σ H fun vs j=>vs.length<=sizeLine/\W j):=by
 intro pins s σ H D I h
 obtain ⟨tl,N,nm,q,bs,hdct,sn,sub,ab,col,dd,k0,k1,k2,k3,k5,mN,u,E,f,T⟩:=(c X.base I.mod.kin).obj
 refine wpAny_Raise_call_subT (C:=C) (nm:=nm) (q:=q) (N:=N) (bs:=bs) (bm:=tl) (hdct:=hdct) (sn:=sn) (sub:=sub) (ab:=ab) (col:=col) (dd:=dd) (k0:=k0) (k1:=k1) (k2:=k2) (k3:=k3) (k5:=k5)
  PySem.F.excBase_ValueError (mN:=mN) (T.hasType PySem.F.excBase_ValueError.hasBase) (I.ok.hd y) (by rw [n];show (false || (backTo a (starEach es X.env)).any (·.1))=false;rw [g];rfl) f (aee I p (c X.base I.mod.kin).bound ⟨rfl,?_⟩ i)
 have hh:=ha a pins s σ H _ I h
 rw [n] at hh ⊢
 refine Calls.evalArgs_plain (thn hh fun us s2 z=>?_)
 obtain ⟨vs,j,b,r,A,w⟩:=z
 exact ⟨rfl,by rw [← r.length];exact A,b.bk _ _ u,E.keeps b.bk,T.keeps b.bk,fun h' e m=>B pins σ j s2 h' e us b m w⟩
def af1 (X:Cx) (pins:List (Addr × Obj)) (b:Addr):Prop:=X.s₀.heap.get? b=none/\b ≠ X.env.locals/\(∀ x c,X.env.cells.lookup x=some c->c ≠ b)/\∀ p∈X.pn ++ pins,p.1 ≠ b
theorem asc {pins:List (Addr × Obj)} {σ:St} {H:Hp} {s:Shared} (I:Inv X pins σ H s) (g:X.ex=[]) {b:Addr} (e:s.heap.get? b=none):af1 X pins b:=by
 refine ⟨?_,fun z=>?_,fun x c f z=>?_,fun p d z=>?_⟩
 ·cases q:X.s₀.heap.get? b with
  | none=>rfl
  | some o=>obtain ⟨o',r⟩:=I.base.there b o q (by rw [g];simp);rw [e] at r;cases r
 ·obtain ⟨m,⟨o,_,_,a,_⟩,_⟩:=I.loc
  rw [← z,e] at a;cases a
 ·obtain ⟨v,o,a,_⟩:=I.cell x c f
  rw [z,e] at a;cases a
 ·have:=(I.pin p d).1
  rw [z,e] at this;cases this
theorem Inv.flew {pins:List (Addr × Obj)} {σ:St} {H:Hp} {s:Shared} {h':Heap} {e T:Addr} (J:Inv X pins σ H s) (C:X.ex=[]) (ne:af1 X pins e) (B:af1 X pins T) (F:H e=none) (G:H T=none)
  (keep:∀ b o,s.heap.get? b=some o->b ≠ e->b ≠ T->b ∉ frs X.stack->h'.get? b=some o) (g:s.heap.UpToSlots h'):Inv X pins σ H { s with heap:=h' }:=by
 have w:∀ b o,X.s₀.heap.get? b=some o->b ≠ e:=fun b o q z=>by rw [z,ne.1] at q;cases q
 have A:∀ b o,X.s₀.heap.get? b=some o->b ≠ T:=fun b o q z=>by rw [z,B.1] at q;cases q
 have U:=Un.back J C (h':=h') (fun b o q r m=>keep b o r (w b o q) (A b o q) m) (fun b o o' q r=>by
  by_cases m:b∈frs X.stack
  ·obtain ⟨_,E,j,hn⟩:=J.stack.mem m
   obtain ⟨sl,n⟩:=g b E j hn
   exact ⟨_,n⟩
  ·exact ⟨o',keep b o' r (w b o q) (A b o q) m⟩) g
 have tr:∀ b u,H b=some u->∀ v,s.heap.get? b=some v->h'.get? b=some v:=fun b u q v r=>keep b v r (fun z=>by rw [z,F] at q;cases q) (fun z=>by rw [z,G] at q;cases q) (fun m=>by rw [J.stkFree b m] at q;cases q)
 have y:∀ c v,s.heap.IsCell c v->h'.IsCell c v:=fun c v M=>by
  obtain ⟨o,D,hd⟩:=M
  obtain ⟨sl,z⟩:=g c o D (fun vs q=>by rw [hd] at q;cases q)
  exact ⟨_,z,hd⟩
 refine ⟨J.ok,J.os,J.bare,by rw [C];exact U,?_,fun x c z=>?_,J.free,J.freeC,fun p h=>?_,fun b u q=>(J.hok b u q).stay (fun c v I r=>?_) (fun _ q=>q) (fun _ _ q=>q),J.len⟩
 ·obtain ⟨m,hn,K⟩:=J.loc
  refine ⟨m,g.ns hn,fun i x v L j n=>?_⟩
  obtain ⟨u,r,l⟩:=K i x v L j n
  refine ⟨u,r,?_⟩
  rcases l with l | ⟨k,c,e,z⟩
  ·exact .inl l
  ·exact .inr ⟨k,c,e,y c _ z⟩
 ·obtain ⟨v,q⟩:=J.cell x c z
  exact ⟨v,y c v q⟩
 ·obtain ⟨a,b,c,d,f⟩:=J.pin p h
  refine ⟨keep p.1 p.2 a (ne.2.2.2 p h) (B.2.2.2 p h) (fun m=>?_),b,c,d,f⟩
  rcases ay3.mp (J.stkSub _ m) with z | z
  ·exact c z
  ·exact d z
 ·rcases I with z | z
  ·rw [z] at r ⊢;exact tr b u q v r
  ·exact tr c _ z v r
def ExAt (e C:Addr) (h:Heap):Prop:=∃ ob,h.get? e=some ob/\ob.cls=.ref C
theorem Inv.track {pins:List (Addr × Obj)} {σ:St} {H:Hp} {s:Shared} {e C:Addr} (J:Inv X pins σ H s) (A:X.ex=[]) (ne:af1 X pins e) (j:H e=none) (hf:e ∉ X.fs) (x:ExAt e C s.heap):Inv X pins σ (upd H e (.ext (ExAt e C))) s:=by
 have nn:∀ b u,H b=some u->b ≠ e:=fun b u q z=>by rw [z,j] at q;cases q
 have h:∀ b o,X.s₀.heap.get? b=some o->b ≠ e:=fun b o q z=>by rw [z,ne.1] at q;cases q
 refine ⟨J.ok,J.os,J.bare,⟨J.base.keep,J.base.slot,fun b o q n hb=>?_,J.base.there,fun b xs q=>?_,fun b o u q=>?_,fun b ps q=>?_⟩,J.loc,J.cell,?_,fun y c z=>?_,fun p g=>?_,fun b u q=>?_,J.len⟩
 ·rw [aaf (h b o q)];exact J.base.free b o q n hb
 ·have:=J.base.tups b xs q
  rw [aaf (nn b _ this)];exact this
 ·have:=J.base.frzs b o u q
  rw [aaf (nn b _ this)];exact this
 ·obtain ⟨more,this⟩:=J.base.tbls b ps q
  exact ⟨more,by rw [aaf (nn b _ this)];exact this⟩
 ·rw [aaf (Ne.symm ne.2.1)];exact J.free
 ·rw [aaf (ne.2.2.1 y c z)];exact J.freeC y c z
 ·obtain ⟨a,b,c,d,f⟩:=J.pin p g
  exact ⟨a,by rw [aaf (ne.2.2.2 p g)];exact b,c,d,f⟩
 ·by_cases z:b=e
  ·subst z
   rw [aaj] at q;cases q
   obtain ⟨i,l,v⟩:=id x
   exact ⟨x,⟨i,l⟩,fun m w ⟨o,a,c⟩ k=>⟨o,k o a,c⟩⟩
  ·rw [aaf z] at q
   exact (J.hok b u q).stay (fun _ _ _ r=>r) (fun c r=>by rw [aaf (nn c _ r)];exact r) (fun c xs r=>by rw [aaf (nn c _ r)];exact r)
theorem af2 {M:Model} {A:Around} {E:Value->Shared->Prop} {Q:Unit->Shared->Prop} {pins:List (Addr × Obj)} {σ:St} {H:Hp} {s:Shared} {i:Nat} {n:Str} {pos:Pos} (I:Inv X pins σ H s) (S:X.N.Nodup) (hi:X.N[i]?=some n) (K:X.env.kindOf n=some .local)
  (h:∀ D,Inv X pins (σ.set i none) H D->Q () D):wpAny M A (do bindName X.env n .none;unbindBehindTheSuite X.env n pos) Q E s:=by
 obtain ⟨m,hn,P⟩:=id I.loc
 have x:(X.env.scope.kind == .class || (X.env.scope.kind == .module && X.env.locals != X.env.globals))=false:=by rw [I.ok.kind];rfl
 have l:i < σ.length:=by rw [I.len];exact (ax6.mp hi).1
 refine wpAny_nameGoes_keeps K hn x fun h' v C hs=>h _ ?_
 have a:∀ b o,X.s₀.heap.get? b=some o->b ≠ X.env.locals:=fun b o e=>az0 (az9 (aF5 e) I.ok.above)
 refine ⟨I.ok,I.os,I.bare,⟨fun b o e n hb g=>(hs.2 b (a b o e)).trans (I.base.keep b o e n hb g),fun b o e n hb g=>?_,I.base.free,fun b o e g=>?_,I.base.tups,I.base.frzs,I.base.tbls⟩,⟨_,C,fun j y u f B R=>?_⟩,fun y c e=>?_,I.free,I.freeC,fun p F=>?_,fun b u q=>(I.hok b u q).stay (fun c w O r=>(hs.2 c (fun z=>?_)).trans r) (fun _ q=>q) (fun _ _ q=>q),by simpa using I.len⟩
 ·obtain ⟨sl,f⟩:=I.base.slot b o e n hb g
  exact ⟨sl,(hs.2 b (a b o e)).trans f⟩
 ·obtain ⟨o',f⟩:=I.base.there b o e g
  exact ⟨o',(hs.2 b (a b o e)).trans f⟩
 ·by_cases hj:j=i
  ·subst hj
   rw [List.getElem?_set_self l] at B;cases B
  ·rw [List.getElem?_set_ne (Ne.symm hj)] at B
   obtain ⟨L,G,q⟩:=P j y u f B R
   refine ⟨L,G,?_⟩
   rcases q with ⟨k,e⟩ | ⟨k,c,e,z⟩
   ·refine .inl ⟨k,?_⟩
    have:y ≠ n:=fun e=>hj (nodup_ix S f (e ▸ hi))
    simp [this,e]
   ·exact .inr ⟨k,c,e,z.sameBut hs (I.cne y c e)⟩
 ·obtain ⟨J,z⟩:=I.cell y c e
  exact ⟨J,z.sameBut hs (I.cne y c e)⟩
 ·obtain ⟨e,n,ne,T,d⟩:=I.pin p F
  exact ⟨(hs.2 p.1 ne).trans e,n,ne,T,d⟩
 ·rcases O with y | y
  ·rw [← y,z,I.free] at q;cases q
  ·rw [z,I.free] at y;cases y
abbrev Cx.marked (X:Cx) (ea:Addr):Cx:={ X with A:=X.A.mark (some (.ref ea)),calm:=false }
theorem Inv.mark {pins:List (Addr × Obj)} {σ:St} {H:Hp} {s:Shared} (I:Inv X pins σ H s) (a:Addr):Inv (X.marked a) pins σ H s :=
 ⟨⟨I.ok.mod,I.ok.kind,I.ok.glob,I.ok.blt,I.ok.above,I.ok.inj,I.ok.has,I.ok.cab,fun z=>(by cases z),I.ok.frames,I.ok.stk,I.ok.exf,I.ok.bs,I.ok.bsz,I.ok.noex,I.ok.exfs,I.ok.funs,I.ok.frf⟩,I.os,I.bare,I.base,I.loc,I.cell,I.free,I.freeC,I.pin,I.hok,I.len⟩
theorem Inv.unmark {pins:List (Addr × Obj)} {σ:St} {H:Hp} {s:Shared} {a:Addr} (ok:X.Ok) (I:Inv (X.marked a) pins σ H s):Inv X pins σ H s :=
 ⟨ok,I.os,I.bare,I.base,I.loc,I.cell,I.free,I.freeC,I.pin,I.hok,I.len⟩
abbrev XW:=Value->St->Hp->Prop
def XP (X:Cx) (pins:List (Addr × Obj)) (W:XW) (e:Value) (s':Shared):Prop:=∃ σ ea T C H',e=.ref ea/\Inv X pins σ H' s'/\FlyT X.base X.stack ea T (.ref C) s'.heap/\af1 X pins ea/\af1 X pins T/\H' ea=none/\H' T=none/\W (.ref C) σ H'
def PXs (X:Cx) (st:List Stmt) (t:XW->TS):Prop :=
 ∀ (pins:List (Addr × Obj)) (s:Shared) (σ:St) (H:Hp) (D:Ends) (W:XW),Inv X pins σ H s->t W D σ H->wpAny (model X.prog X.w) X.A (execs st X.env) (SP X pins D) (XP X pins W) s
theorem axz {c:Expr} {a b:List Stmt} {l:TT} {t u:XW->TS} {pos:Pos} (m:PT X.nox c l) (ha:PXs X a t) (hb:PXs X b u):PXs X [.If c a b pos] (fun W D σ H=>l σ H fun v g=>if v=true then t W D σ g else u W D σ g):=by
 intro pins s σ H D W I h
 refine wpAny_execs_cons (thn (Q:=SP X pins D) (wpAny_If (aG0 (m pins s σ H _ (I.wish _) h) (fun d s1 ⟨g,i,j⟩=>?_) fun _ _ z=>False.elim z)) fun f s1 q=>?_)
 ·cases d with
  | true=>exact ha pins s1 σ g D W i.unwish j
  | false=>exact hb pins s1 σ g D W i.unwish j
 ·cases f with
  | next=>exact wpAny_execs_nil q
  | ret v=>exact q
  | brk=>exact q
  | cont=>exact q
theorem aul {k:Nat} {f:Addr} {fd:FuncData} {ps:List Str} {sp:Sp} {x:Str} {p pos o:Pos} {e:Expr} {es:List Expr} {y:TA} (F:FnOk X.prog X.w X.K X.mg X.base (CXE X.prog X.w X.base) k f fd ps sp) (P:Room k X.A) (B:X.ex=[]) (g:Gl X x) (hm:X.mg x=some (.ref f)) (L:keepIn X.K (.ref f)=true)
  (hb:Binds X.K fd ps []) (ha:PA X.nox (e :: es) y) (j:(x == ("__debug__" : Str))=false:=by decide) (l:starEach (e :: es) X.env=(false,eval e X.env) :: starEach es X.env:=by rfl) (i:(backTo pos (starEach es X.env)).any (·.1)=false:=by rfl)
  (hs:swapsWith (.Call (.Name x p) (e :: es) [] pos) none o.line X.env=pure false:=by rfl) :
  PXs X [.Expr (.Call (.Name x p) (e :: es) [] pos) o] (fun W D σ H=>y σ H fun vs m=>sp vs m (fun _ H2=>D.nx σ H2) (fun c _ H2=>W c σ H2)):=by
 intro pins s σ H D W I h
 refine wpAny_execs_cons (thn (Q:=SP X pins D) (wpAny_Expr_any (Q:=SP X pins D) ?_ I.quiet hs) fun f s1 q=>?_)
 ·refine wpAny_Call_Name_kw (aee I g hm ?_ j)
  refine PySem.W.callWith_K (h₀:=X.base) I.ok.mod.kin L (aG0 (ha pos pins s σ H _ (I.wish _) h) (fun us s1 ⟨vs,m,a,r,q⟩=>⟨a.kIn,?_⟩) fun _ _ z=>False.elim z) l i
  have a:=a.unwish
  have O:us.length=ps.length:=by rw [← r.length];exact F.len _ _ _ _ q
  refine wpAny_call (aF7 (F.run X.A X.stack s1 m ⟨us,[]⟩ us vs _ _ P a.env0 (by have:=hb s1 us a.kIn (by simpa using O);simpa using this) r q) fun r S d=>?_)
  cases r with
  | error e =>
   obtain ⟨R,T,C,H',rfl,G,g,un,hok,n,ne,N,l,M,E⟩:=d
   exact ⟨σ,R,T,C,H',rfl,a.call' G un hok g (fun b z=>absurd z (by simp)),n,asc a B ne,asc a B N,l,M,E⟩
  | ok n =>
   cases n with
   | ret u =>
    obtain ⟨v,H2,J,_,q⟩:=a.after d
    exact ⟨σ,H2,J,q⟩
   | next=>exact False.elim d
   | brk=>exact False.elim d
   | cont=>exact False.elim d
 ·cases f with
  | next=>exact wpAny_execs_nil q
  | ret v=>exact q
  | brk=>exact q
  | cont=>exact q
def tTry (K:Frag) (D0:Addr) (i:Nat) (tb:XW->TS) (ts:TS):TS:=fun D σ H=>tb (fun cls σ1 H1=>∃ C,cls=.ref C/\XSub K C D0/\∀ ea,H1 ea=none ->
 ts { nx:=fun σ2 H2=>D.nx (σ2.set i none) H2,rt:=D.rt,bk:=fun σ2 H2=>D.bk (σ2.set i none) H2,ct:=fun σ2 H2=>D.ct (σ2.set i none) H2 } (σ1.set i (some (.ref ea))) (upd H1 ea (.ext (ExAt ea C)))) D σ H
theorem awo {body suite:List Stmt} {b0:Stmt} {x n:Str} {D0:Addr} {i:Nat} {tb:XW->TS} {ts:TS} {np G pos:Pos} (j:X.stack=X.env :: X.outer/\X.env.frame=some X.env.locals) (hx:X.ex=[]) (c:XOk X.K X.mg x D0) (hg:Gl X x) (E:X.N.Nodup) (hi:X.N[i]?=some n) (m:X.env.kindOf n=some .local)
  (hb:PXs X body tb) (hs:∀ d,PSs (X.marked d).nox (b0 :: suite) ts) (O:(x == ("__debug__" : Str))=false:=by decide) :
  PS X (.Try body [.ExceptHandler (some (.Name x np)) (some n) (b0 :: suite) G] [] [] pos) (tTry X.K D0 i tb ts):=by
 intro pins s σ H D I h
 refine wpAny_Try_except (aG0 (hb pins s σ H D _ I h) (fun f s1 q=>?_) fun e s1 q=>?_)
 ·cases f with
  | next=>exact wpAny_execs_nil q
  | ret v=>exact q
  | brk=>exact q
  | cont=>exact q
 ·obtain ⟨a3,d,T,C,H1,rfl,J,w,L,a2,P,hT,C',R,y,a5⟩:=q
  cases R
  obtain ⟨oe,vs,oT,a7,a0,g1,g2,g3,g4,g5,g6,g7,g8⟩:=id w.tr
  have a1:X.A.frames=some (X.env :: X.outer):=J.ok.frames.trans (congrArg some j.1)
  have fw:Heap.FlyingW (PySem.W.hideAll s1.heap (d :: T :: frs X.stack)) (X.env :: X.outer) d (.ref C) a0 s1.heap:=by
   rw [← j.1]
   exact ⟨fun b o q=>PySem.W.of_hideAll _ q,PySem.W.hideAll_none _ (.head _),PySem.W.funFrames_hide w.funs fun en hn a ha => .tail _ (.tail _ (aid en hn a ha)),oe,vs,T,oT,a7,g1,g2,g3,g4,PySem.W.hideAll_none _ (.tail _ (.head _)),g5,g6,g7,g8⟩
  have kp:∀ {h':Heap},(PySem.W.hideAll s1.heap (d :: T :: frs X.stack)).StaysIn h'->∀ b o,s1.heap.get? b=some o->b ≠ d->b ≠ T->b ∉ frs X.stack->h'.get? b=some o:=fun {h'} k b o q n1 n2 n3=>k b o (PySem.W.hideAll_get _ q fun z=>by
   rcases ay3.mp z with z | z
   ·exact n1 z
   ·rcases ay3.mp z with z | z
    ·exact n2 z
    ·exact n3 z)
  have bs:∀ {h':Heap},(PySem.W.hideAll s1.heap (d :: T :: frs X.stack)).StaysIn h'->∀ b o,X.base.get? b=some o->h'.get? b=some o:=fun {h'} k b o q=>kp k b o (J.bk b o q) (fun z=>by rw [z,w.new] at q;cases q) (fun z=>by rw [z,w.newT] at q;cases q) (fun z=>by rw [(w.funs.mem z).1] at q;cases q)
  refine wpAny_looks_onW a1 j.2 fw fun h4 f4 M=>?_
  refine wpAny_landsW f4 fun U p S=>?_
  obtain ⟨nm,q,N,b6,bm,hdct,sn,sub,ab,col,dd,k0,k1,k2,k3,k5,newId,hC,a4⟩:=y U (J.mod.kin.keeps (bs p.1))
  obtain ⟨tl,N',b4,q',b8,Q,b5,a8,b1,a9,b7,j0,j1,j2,j3,j5,mN,hD,b3,b2,Tl⟩:=(c U (J.mod.kin.keeps (bs p.1))).obj
  obtain ⟨ob,a6,B⟩:=p.there
  refine wpAny_handleBy_cons (codeAny_handlers_test ?_) (by intro q;cases q)
  refine Calls.Name_function_global J.ok.kind hg (Calls.loadGlobal_global (by rw [J.ok.glob];exact J.mod.glob.keeps (bs p.1)) (c U (J.mod.kin.keeps (bs p.1))).bound ?_) O
  refine ajr hC hD a6 B (Tl.hasType PySem.F.excBase_ValueError.hasBase) a4 ?_
  refine codeAny_handlers_suite_as ?_
  refine lands_againW p fun h6 f6 Z=>?_
  have J6:Inv X pins a3 H1 { s1 with heap:=h6 }:=J.flew hx L a2 P hT (kp f6.1) ((M.trans S).trans Z)
  have J7:=J6.track hx L P (fun z=>?nf) f6.there
  case nf =>
   obtain ⟨_,o,ho,hn⟩:=J.funs.mem z
   rw [g1] at ho;cases ho
   exact hn vs g3
  refine agb J7 E hi (.inl m) (show RelV (.ref d) (.ref d) from rfl) (fun s7 I7=>?_) (.inr m)
  refine aG0 (hs d pins s7 _ _ _ ((I7.mark d).wish _) (a5 d P)) (fun f s8 q=>?_) fun _ _ z=>False.elim z
  have ok:=I.ok
  cases f with
  | next =>
   obtain ⟨l,H',K,q⟩:=q
   exact af2 (Inv.unmark ok K.unwish) E hi m fun Y g=>⟨_,_,g,q⟩
  | brk =>
   obtain ⟨l,H',K,q⟩:=q
   exact af2 (Inv.unmark ok K.unwish) E hi m fun Y g=>⟨_,_,g,q⟩
  | cont =>
   obtain ⟨l,H',K,q⟩:=q
   exact af2 (Inv.unmark ok K.unwish) E hi m fun Y g=>⟨_,_,g,q⟩
  | ret u =>
   obtain ⟨v,l,H',K,r,q⟩:=q
   exact af2 (Inv.unmark ok K.unwish) E hi m fun Y g=>⟨v,_,_,g,r,q⟩
end
end L2
namespace VL
open PySem PySem.Spec L2
abbrev VPX:=List Sl->(Sl->Prop)->(Addr->Prop)->Prop
def spX (K:Frag) (f:VPX):Sp:=fun vs H Q E=>∃ G ss Q' R',Same G H/\FT G H/\ArgsOk K G vs ss/\f ss Q' R'/\(∀ s,Q' s->∀ v G' H' Fv,Out G H v G' H' s Fv->Q v H') /\
 ∀ C,R' C->∀ G' H',Out G H .non G' H' (.st .none) (fun _=>False)->E (.ref C) none H'
theorem lenX {K:Frag} {f:VPX} {vs:List V} {H:Hp} {Q:VK} {E:XK} {n:Nat} (h:spX K f vs H Q E) (c:∀ ss b a,f ss b a->ss.length=n):vs.length=n:=by
 obtain ⟨G,ss,b,a,_,_,d,hf,_⟩:=h
 rw [d.length];exact c ss b a hf
def EvE (B:Bs) (E:XK) (R:Addr->Prop):Prop:=∀ C,R C->∀ (σ:St) (G H:Hp) (F:Nat->Addr->Prop) (env:En),VI B G H σ env F->E (.ref C) none H
theorem ahl {K:Frag} {f:VPX} {ts:TS} {N:List Str} {vs:List V} {H:Hp} {Q:VK} {E:XK} (h:spX K f vs H Q E)
  (hb:∀ ss b c,f ss b c->∀ B,B.K=K->EvE B E c->EvS B ts { nx:=fun _=>b (.st .none),rt:=fun s _=>b s } (ss.map some ++ List.replicate (N.length - ss.length) none)):ts { nx:=fun _ H'=>Q .non H',rt:=Q } (L2.start N vs) H:=by
 obtain ⟨G,ss,b,c,gh,ft,m,hf,l,u⟩:=h
 have fin:∀ {σ G' H' F env v Fv s},VI (bsP K G H vs) G' H' σ env F->RsX (bsP K G H vs) G' H' v Fv s F->Out G H v G' H' s Fv:=fun I r =>
  ⟨I.g0,I.gh,I.rs,I.gn,r.fb,r.fg,r.fo,r.ok,fun _=>I.ft⟩
 refine hb ss _ _ hf (bsP K G H vs) rfl (fun C p σ G' H' F env I=>u C p G' H' (fin I (acv .non))) (L2.start N vs) G H noF _ ?_ ⟨fun σ G' H' F env I g q=>l _ q _ _ _ _ (fin I (acv .non)),fun σ G' H' F env v Fv s I g r q=>l _ q v G' H' Fv (fin I r),fun _ _ _ _ _ _ _ q=>q,fun _ _ _ _ _ _ _ q=>q⟩
 refine ⟨gh,Same.refl _,fun a o e => .inl e,Same.refl _,Same.refl _,fun a o e=>⟨o,e⟩,fun i a z=>z.elim,fun i a z=>z.elim,fun i j a z=>z.elim,fun i a z=>z.elim,fun i s e=>?_,?_,ft⟩
 ·obtain ⟨v,n,q⟩:=m.get (ah6 e)
  refine ⟨v,by unfold L2.start;exact ah7 n,?_⟩
  cases s with
  | st d=>exact ⟨q,fun a z=>z⟩
  | scr ns=>exact ⟨q,fun a z=>z⟩
  | own A=>exact q.elim
  | io A=>exact q.elim
 ·unfold L2.start;simp [m.length]
section
variable {B:Bs} {env:En} {Q':PyData->En->Prop} {QO:Sl->En->Prop} {K:Frag} {E:XK} {R:Addr->Prop} {D':VEnds}
theorem afe {f:VPX} {t:TA} (d:EvE B E R) (h:EvA B t env fun ds b=>f (ds.map Sl.st) (fun s=>QO s b) R):EvO B (ab6 (spX K f) [] E t) env QO:=fun σ G H F Q I k=>by
 unfold ab6
 simp only [aB7]
 exact h σ G H F _ I fun vs m n c ds b a g l j=>⟨m,_,_,R,a.gh,a.ft,ArgsOk.of l,j,fun s q v G' H' Fv o=>k v G' H' c Fv s b (a.out o).1 (g.trans o.gg) (a.out o).2 q,fun C i G' H' o=>d C i σ G' H' c b (a.out o).1⟩
theorem ai7 {b:TA} {C:Addr} (d:EvE B E R) (g:R C) (h:EvA B b env fun ds _=>ds.length<=1000):EvS B (fun _ σ H=>b σ H fun vs a=>vs.length<=sizeLine/\E (.ref C) none a) D' env:=fun σ G H F D I r =>
 h σ G H F _ I fun vs j a c ds l f m i q=>⟨by rw [i.length];exact aD0 (big (aA4 q (by decide))),d C g σ j a c l f⟩
end
def OE (C:Addr):Own where
 P:=fun G H v F=>∃ a,v=.ref a/\H a=some (.ext (ExAt a C))/\∀ b,F b ↔ b=a
 mono:=fun ⟨a,e,h,f⟩ g hh=>⟨a,e,hh a _ ((f a).mpr rfl) h,f⟩
 dom:=fun ⟨a,e,h,f⟩ b z=>by rw [(f b).mp z];exact ⟨_,h⟩
def EvXs (B:Bs) (tb:XW->TS) (D':VEnds) (RX:Addr->En->Prop) (env:En):Prop:=∀ (σ:St) (G H:Hp) (F:Nat->Addr->Prop) (D:Ends) (W:XW),VI B G H σ env F->RelE B G D D' ->
 (∀ C σ' G' H' F' env',VI B G' H' σ' env' F'->Same G G'->RX C env'->W (.ref C) σ' H')->tb W D σ H
section
variable {B:Bs} {env:En} {K:Frag} {D':VEnds} {RX:Addr->En->Prop}
theorem awp {o:TT} {t u:XW->TS} (h:EvT B o env fun b i=>if b=true then EvXs B t D' RX i else EvXs B u D' RX i):EvXs B (fun W D σ H=>o σ H fun v d=>if v=true then t W D σ d else u W D σ d) D' RX env:=fun σ G H F D W I r w =>
 h σ G H F _ I fun b n d l i m f q=>by
  cases b with
  | true=>exact q σ n d l D W m (r.later f) fun C c G' H' F' a j g' g=>w C c G' H' F' a j (f.trans g') g
  | false=>exact q σ n d l D W m (r.later f) fun C c G' H' F' a j g' g=>w C c G' H' F' a j (f.trans g') g
theorem alh {f:VPX} {i:TA} (h:EvA B i env fun ds a=>f (ds.map Sl.st) (fun _=>D'.nx a) (fun C=>RX C a)):EvXs B (fun W D σ H=>i σ H fun vs j=>spX K f vs j (fun _ H2=>D.nx σ H2) (fun c _ H2=>W c σ H2)) D' RX env:=fun σ G H F D W I r w =>
 h σ G H F _ I fun vs p j d ds a b g n m=>⟨p,_,_,_,b.gh,b.ft,ArgsOk.of n,m,fun s q v G' H' Fv o=>r.nx σ G' H' d a (b.out o).1 (g.trans o.gg) q,fun C l G' H' o=>w C σ G' H' d a (b.out o).1 (g.trans o.gg) l⟩
theorem aum {A:Addr} {i:Nat} {E:XW->TS} {ts:TS} (h:EvXs B E D' (fun C N=>XSub K C A/\EvS B ts { nx:=fun e=>D'.nx (e.set i none),rt:=D'.rt,bk:=fun e=>D'.bk (e.set i none),ct:=fun e=>D'.ct (e.set i none) } (N.set i (some (.own (OE C))))) env):EvS B (tTry K A i E ts) D' env:=fun σ G H F D I r=>by
 refine h σ G H F D _ I r fun C w G' H' F' p n g' q=>⟨C,rfl,q.1,fun d u=>?_⟩
 have L:G' d=none:=n.no_g u
 have M:VI B G' (upd H' d (.ext (ExAt d C))) w p F':=n.grow (Same.refl _) (n.gh.trans (acg u)) (acg u) (fun a o e => .inl e) (fun a O e=>by
  by_cases z:a=d
  ·subst z;rw [aaj] at e;cases e
  ·rw [aaf z] at e;exact n.ft a O e)
 have Q:RsX B G' (upd H' d (.ext (ExAt d C))) (.ref d) (fun a=>a=d) (.own (OE C)) F':=⟨⟨d,rfl,aaj,fun b=>Iff.rfl⟩,fun a z=>z ▸ n.no_b u,fun a z=>z ▸ L,fun a z=>⟨.ext (ExAt d C),by rw [z];exact aaj⟩,fun j a z y=>n.no_f (z ▸ u) j y⟩
 have P:=M.store Q i
 have dn:∀ {c:St} {f H2:Hp} {F2:Nat->Addr->Prop} {l:En},VI B f H2 c l F2->VI B f H2 (c.set i none) (l.set i none) (putF F2 i fun _=>False):=fun J=>J.slot (Fv:=fun _=>False) i none none (fun a z=>z.elim) (fun a z=>z.elim) (fun a z=>z.elim) (fun j a _ z=>z.elim) (fun s e=>by cases e)
 refine q.2 (w.set i (some (.ref d))) G' _ _ _ P ⟨fun c f H2 F2 l J g m=>r.nx _ f H2 _ _ (dn J) (g'.trans g) m,fun c f H2 F2 l v Fv s J g x m=>r.rt c f H2 F2 l v Fv s J (g'.trans g) x m,fun c f H2 F2 l J g m=>r.bk _ f H2 _ _ (dn J) (g'.trans g) m,fun c f H2 F2 l J g m=>r.ct _ f H2 _ _ (dn J) (g'.trans g) m⟩
end
end VL
namespace L2
open PySem PySem.Spec PyProof.Rows
section
open PySem PySem.Calls PyProof.Rows Builtin Builtin.ObjectAttr Builtin.Getset_descriptor
variable {prog:Program} {w:World} {A:Around} {E:Value->Shared->Prop} {K:Frag} {h:Heap} {g:Array GenState} {d:Drawn} {t:Nat} {os:OsState} {x C:Addr} {o:Obj}
theorem aie {M:Model} (b:h.get? x=some o) (a:o.cls=.ref C):PySem.W.Looks M h (typeOf (.ref x)) (.ref C):=a ▸ (PySem.W.Looks.ld b).andThen .now
structure XIn (K:Frag) (C:Addr):Prop where
 cl:(PySem.W.clsIn K C).isSome=true
 ga:PySem.W.findIn K (.ref C) "__getattribute__" = some (some (.builtin "BaseException.__getattribute__"))
 gn:PySem.W.findIn K (.ref C) "__getattr__" = some none
 cs:PySem.W.findIn K (.ref C) "__class__" = some (some (.builtin "object.__class__"))
 mo:mroIn K C (.type "object")=some true
 mb:mroIn K C (.type "BaseException")=some true
theorem awq {R:Result->Shared->Prop} {f:Value} (X:K.In h) (c:XIn K C) (i:h.get? x=some o) (l:o.cls=.ref C) (j:R (.ok (.ret (.ref C))) ⟨h,g,d,t,os⟩) :
  codeAny (model prog w) A (.call (.builtin "getset_descriptor.__get__") ⟨[.builtin "object.__class__",.ref x,f],[]⟩) R ⟨h,g,d,t,os⟩:=by
 have a:=aie (M:=model prog w) i l
 have b:=PySem.W.looks_mroIn (M:=model prog w) X c.mo
 refine codeAny_call_builtin PySem.W.KF.slot_gs.plain PySem.W.KF.entry_gs (PySem.W.KF.slot_gs.check _ _ _ _ _ _ _ _ PySem.W.KF.type_class (PySem.W.KF.args_gs _ _ _) ?_)
 unfold Builtin.«getset_descriptor.__get__» descrGet
 rw [PySem.W.dga_obj]
 refine aF2 (aF3 ?_)
 unfold descrGetter descrCheckInstance descrNameAndClass isInstance
 simp only [PySem.W.KF.owner_class]
 repeat (first | (with_reducible refine a.at ?_) | (with_reducible refine b.at ?_) | wp_step)
 refine ⟨Code.quiet_builtin _ (by decide +kernel),codeAny_builtin PySem.W.KF.entry_class ?_⟩
 unfold Builtin.«object.__class__» shownTypeOf
 repeat (first | (with_reducible refine a.at ?_) | (with_reducible refine b.at ?_) | wp_step)
 exact j
theorem ari {M:Model} {a:Value} {Q:Unit->Shared->Prop} (X:K.In h) (c:XIn K C) (f:h.get? x=some o) (l:o.cls=.ref C) (j:Q () ⟨h,g,d,t,os⟩):wpAny M A (checkBuiltinCall "BaseException.__getattribute__" ⟨[.ref x,a],[]⟩) Q E ⟨h,g,d,t,os⟩:=by
 have i:builtinKind "BaseException.__getattribute__" = some .slot:=by decide +kernel
 have b:splitId "BaseException.__getattribute__" = some ("BaseException","__getattribute__"):=by decide +kernel
 have ha:=F.args_bexc_ga (.ref x) a
 have m:=aie (M:=M) f l
 have n:=PySem.W.looks_mroIn (M:=M) X c.mb
 simp only [checkBuiltinCall,i,b]
 refine aF2 ?_
 ·unfold isInstance
  refine aF2 (m.at (n.at ?_))
  repeat (first | wp_step)
  exact j
theorem arj {f:Tok} {Q:Fin->Shared->Prop} (X:K.In h) (c:XIn K C) (a:h.get? x=some o) (b:o.cls=.ref C) (l:Q (.done (.ret (.ref C))) ⟨h,g,d,t,os⟩) :
  wpAny (model prog w) A (Builtin.«object.__getattribute__» ⟨[.ref x,.str "__class__" f],[]⟩) Q E ⟨h,g,d,t,os⟩:=by
 have i:=PySem.W.looks_findIn (M:=model prog w) X c.cs
 have n:typeOf (.builtin "object.__class__")=pure (.type "getset_descriptor"):=PySem.W.KF.type_class
 have j:=F.slot_gs_get.lookup
 have m:=F.slot_gs_set.lookup
 repeat (any_goals (first | assumption | (with_reducible refine wpAny_loadPart_at a ?_;rw [b]) | with_reducible refine i.at ?_ | wp_step))
 refine awq X c a b ?_
 repeat (any_goals (first | assumption | wp_step))
theorem aun {f:Tok} {R:Result->Shared->Prop} (X:K.In h) (c:XIn K C) (a:h.get? x=some o) (b:o.cls=.ref C) (i:R (.ok (.ret (.ref C))) ⟨h,g,d,t,os⟩) :
  codeAny (model prog w) A (.call (.builtin "BaseException.__getattribute__") ⟨[.ref x,.str "__class__" f],[]⟩) R ⟨h,g,d,t,os⟩ :=
 codeAny_call_builtin PySem.F.attrBase_ValueError.ga.plain F.entry_bexc_ga (ari X c a b (arj X c a b i))
theorem auo {Q:Option Value->Shared->Prop} (X:K.In h) (c:XIn K C) (b:h.get? x=some o) (f:o.cls=.ref C) (n:Q (some (.ref C)) ⟨h,g,d,t+1,os⟩) :
  wpAny (model prog w) A (getAttr? (.ref x) "__class__") Q E ⟨h,g,d,t,os⟩:=by
 have m:=PySem.F.attrBase_ValueError.ga.bind (.ref x)
 have a:(Value.builtin "BaseException.__getattribute__" == Value.builtin "object.__getattribute__")=false:=by decide +kernel
 have j:(onTheHeap (Value.ref C) && Value.builtin "BaseException.__getattribute__" == Value.builtin "object.__getattribute__")=false:=by rw [a];rfl
 have l:=PySem.W.looks_findIn (M:=model prog w) X c.ga
 have i:=PySem.W.looks_findIn (M:=model prog w) X c.gn
 unfold getAttr? getAttrBy? getAttrBy
 repeat (any_goals (first | assumption | (with_reducible refine wpAny_loadPart_at b ?_;rw [f]) | with_reducible refine l.at ?_ | with_reducible refine i.at ?_ | wp_step))
 refine aun X c b f ?_
 repeat (any_goals (first | assumption | wp_step))
end
theorem ark {K:Frag} {x C:Addr} (c:XIn K C):PySem.W.KitX K (.ref x) (.ref C) (ExAt x C) where
 ty:=fun M h _ ⟨o,b,i⟩=>aie b i
 it:=fun _ _ X _=>by
  obtain ⟨j,a⟩:=Option.isSome_iff_exists.mp c.cl
  unfold PySem.W.clsIn at a
  split at a
  ·rename_i c' d' cd' sl' ho
   intro A' r u m k q
   unfold isType loadHead
   exact aF2 (wpAny_loadPart (k _ _ (X _ _ ho)) (aF3 q))
  ·cases a
 ne:=fun h l dd its n sl X f=>by
  obtain ⟨j,a⟩:=Option.isSome_iff_exists.mp c.cl
  refine Bool.eq_false_iff.mpr fun q=>?_
  have e:C=l:=Value.ref.inj (aC8.mp q)
  subst e
  unfold PySem.W.clsIn at a
  split at a
  ·rename_i c' d' cd' sl' ho
   have z:=(X _ _ ho).symm.trans f
   cases z
  ·cases a
 ca:=fun {prog w A E Q s} X p k=>by
  obtain ⟨h,g,d,t,os⟩:=s
  obtain ⟨o,b,i⟩:=p
  exact auo X c b i k
section
variable {X:Cx}
def anv (K:Frag):List V->Hp->VK->Prop:=fun xs H Q=>∃ (a C:Addr) (y:V) (u:Value) (b:Bool),xs=[.ref a,y]/\((∃ D,y=.ref D/\u=.ref D)\/∃ T,y=.ty T/\u=.type T)/\H a=some (.ext (ExAt a C))/\XIn K C/\kitOne K (.ref C) u=some b/\Q (.bl b) H
theorem ab8:abh X (.builtin "isinstance") (anv X.K):=by
 intro pins s σ H xs us Q I r h
 obtain ⟨a,C,y,u,b,rfl,g,ha,c,e,q⟩:=h
 obtain ⟨l,f,rfl,i,d⟩:=ajx r
 cases (show l=Value.ref a from i)
 have j:f=u:=by
  rcases g with ⟨D,rfl,rfl⟩ | ⟨T,rfl,rfl⟩
  ·exact d
  ·exact d
 subst j
 exact PySem.W.kia_one (ark c) I.kIn (show ExAt a C s.heap from (I.hok a _ ha).1) e (fun z=>nomatch z) fun m=>⟨.bl b,H,I.tok _,rfl,q⟩
end
section
variable {P:Program} {w:World} {K:Frag} {mg:Str->Option Value} {base:Heap} {x:Str} {k:Nat} {ps:List Str} {sp:Sp}
def CanX (P:Program) (w:World) (K:Frag) (mg:Str->Option Value) (base:Heap) (x:Str) (k:Nat) (ps:List Str) (sp:Sp):Prop :=
 ∃ f fd,FnOk P w K mg base (CXE P w base) k f fd ps sp/\mg x=some (.ref f)/\keepIn K (.ref f)=true/\Binds K fd ps []
theorem DefAt.canX {st:Stmt} {f:Addr} {fd:FuncData} (D:DefAt K mg x st ps f fd) (ok:FnOk P w K mg base (CXE P w base) k f fd ps sp):CanX P w K mg base x k ps sp:=⟨f,fd,ok,D.mgx,D.fn.kp,D.bd⟩
theorem Fun.okX {qual:Str} {st:Stmt} {f:Addr} {fd:FuncData} {N:List Str} (F:Fun K x qual st f fd) (S:FnScope N ps (aah st)) (len:∀ vs H Q E,sp vs H Q E->vs.length=ps.length)
  (a:∀ (cdv:Value) (A:Around) (outer:List Env) (s:Shared) (H:Hp) (vs:List V) (Q:VK) (E:XK),Room k (A.deeper (envOfC qual (aah st) s.heap.objs.size f cdv))->sp vs H Q E ->
   ∃ t,PSs (cxOf (CXE P w base) P w K mg base N qual (aah st) f cdv A outer s H E) (abw st) t/\t { nx:=fun _ H'=>Q .non H',rt:=Q } (start N vs) H):FnOk P w K mg base (CXE P w base) (k+1) f fd ps sp:=by
 obtain ⟨oc,od,kV,doc,pm,an,cdv,ct,osl,rfl,d,b⟩:=F.ex
 exact ar4 d b S len fun A outer s H vs Q E g c=>a cdv A outer s H vs Q E g c
variable {N:List Str} {qual:Str} {scope:Scope} {f:Addr} {cd:Value} {A:Around} {outer:List Env} {s0:Shared} {H0:Hp} {E:XK} {j:Nat} {p pos ep np cpos:Pos} {e:Expr} {es:List Expr} {t:TA}
theorem agp (F:CanX P w K mg base x k ps sp) (g:Room j (cxOf (CXE P w base) P w K mg base N qual scope f cd A outer s0 H0 E).A) (ha:PA (cxOf (CXE P w base) P w K mg base N qual scope f cd A outer s0 H0 E) (e :: es) t) (i:k<=j:=by decide)
  (h:Gl (cxOf (CXE P w base) P w K mg base N qual scope f cd A outer s0 H0 E) x:=by rfl) (b:(x == ("__debug__" : Str))=false:=by decide)
  (c:starEach (e :: es) (cxOf (CXE P w base) P w K mg base N qual scope f cd A outer s0 H0 E).env=(false,eval e (cxOf (CXE P w base) P w K mg base N qual scope f cd A outer s0 H0 E).env) :: starEach es (cxOf (CXE P w base) P w K mg base N qual scope f cd A outer s0 H0 E).env:=by rfl)
  (a:(backTo pos (starEach es (cxOf (CXE P w base) P w K mg base N qual scope f cd A outer s0 H0 E).env)).any (·.1)=false:=by rfl) :
  PE (cxOf (CXE P w base) P w K mg base N qual scope f cd A outer s0 H0 E) (.Call (.Name x p) (e :: es) [] pos) (ab6 sp [] E t):=by
 obtain ⟨o,fd,l,d,n,m⟩:=F
 exact al5 l (g.mono i) h d n m .nil anu ha b c a
theorem ai8 {C:Addr} {m:Str} {j:Nat} (c:XOk K mg x C) (b:Gl (cxOf (CXE P w base) P w K mg base N qual scope f cd A outer s0 H0 E) x:=by rfl) (a:(x == ("__debug__" : Str))=false:=by decide) :
  PS (cxOf (CXE P w base) P w K mg base N qual scope f cd A outer s0 H0 E) (.Raise (some (.Call (.Name x np) [.Constant (.str m) j ep] [] cpos)) none pos) (fun _ σ H=>abn (tC (.str m)) tNil σ H fun vs d=>vs.length<=sizeLine/\E (.ref C) none d) :=
 arh (W:=fun H=>E (.ref C) none H) c b rfl (aaa an4 aac) (fun pins σ H s g e args I m w=>auk I m w) a
variable {X:Cx}
theorem ali (F:CanX X.prog X.w X.K X.mg X.base x k ps sp) (o:Room j X.A) (ha:PA X.nox (e :: es) t) (m:X.ex=[]:=by rfl) (n:k<=j:=by decide) (d:Gl X x:=by rfl) (b:(x == ("__debug__" : Str))=false:=by decide)
  (l:starEach (e :: es) X.env=(false,eval e X.env) :: starEach es X.env:=by rfl) (a:(backTo pos (starEach es X.env)).any (·.1)=false:=by rfl)
  (hs:swapsWith (.Call (.Name x p) (e :: es) [] pos) none ep.line X.env=pure false:=by rfl) :
  PXs X [.Expr (.Call (.Name x p) (e :: es) [] pos) ep] (fun W D σ H=>t σ H fun vs q=>sp vs q (fun _ H2=>D.nx σ H2) (fun c _ H2=>W c σ H2)):=by
 obtain ⟨r,fd,h,g,i,f⟩:=F
 exact aul h (o.mono n) m d g i f ha b l a hs
end
end L2
namespace VL
open PySem PySem.Spec L2
section
variable {B:Bs} {env:En} {QO:Sl->En->Prop} {Q':PyData->En->Prop} {QT:Bool->En->Prop} {K:Frag} {i:Nat} {C:Addr}
theorem ac0 {D:Addr} {b:Bool} (g:Has env i (OE C)) (c:XIn K C) (e:kitOne K (.ref C) (.ref D)=some b) (q:Q' (.bool b) env):Ev B (tCB (anv K) (abn (tVar i) (abn (tC (.ref D)) tNil))) env Q':=fun σ G H F Q I k=>by
 obtain ⟨v,d,a,rfl,ha,f⟩:=I.has g
 exact ⟨_,d,a,C,_,_,b,rfl,.inl ⟨D,rfl,rfl⟩,ha,c,e,k _ G H F _ env I (Same.refl _) (.bl _) q⟩
theorem arl {T:String} {b:Bool} (g:Has env i (OE C)) (c:XIn K C) (e:kitOne K (.ref C) (.type T)=some b) (q:Q' (.bool b) env):Ev B (tCB (anv K) (abn (tVar i) (abn (tC (.ty T)) tNil))) env Q':=fun σ G H F Q I k=>by
 obtain ⟨v,d,a,rfl,ha,f⟩:=I.has g
 exact ⟨_,d,a,C,_,_,b,rfl,.inr ⟨T,rfl,rfl⟩,ha,c,e,k _ G H F _ env I (Same.refl _) (.bl _) q⟩
theorem aup (b:Has env i (OE C)) (q:Q' (.bool false) env):Ev B (tOp rIsN (tVar i) (tC .non)) env Q':=fun σ G H F Q I k=>by
 obtain ⟨v,c,a,rfl,ha,f⟩:=I.has b
 exact ⟨_,c,rfl,k _ G H F _ env I (Same.refl _) (.bl _) q⟩
end
end VL
namespace L2
open PySem PySem.Spec PyProof.Rows
section
variable {X:Cx}
end
end L2
namespace VL
open PySem PySem.Spec L2
section
variable {B:Bs} {env:En} {Q':PyData->En->Prop} {K:Frag} {i:Nat} {C:Addr} {tl te:TE}
end
end VL
namespace L2
open PySem PySem.Spec PyProof.Rows
theorem alj {K:Frag} {C:Addr} {bmB:List Value} {newId:String} (q:excIn K C bmB newId=true):∃ bm N nm d bs hdct sn sub ab col dd k0 k1 k2 k3 k5,
  K.lookup C=some (excClassObj nm d C N bs bm hdct sn sub ab col dd k0 k1 k2 k3 k5 newId)/\PySem.W.tailIn K bmB bm=true/\PySem.W.nsOkIn K N=true/\nsIn K N "__init__" = some none:=by
 unfold excIn at q
 split at q
 ·rename_i dd cd sl ho
  split at q
  ·rename_i C' bm k0 k1 k2 k3 n k5 hm hs
   simp only [aD6,aC8,Bool.not_eq_true'] at q
   obtain ⟨⟨⟨⟨⟨rfl,rfl⟩,a⟩,h⟩,hok⟩,b⟩:=q
   obtain ⟨nm,bs,g,ns,d,hd,sn,sub,ab,col,f⟩:=cd
   dsimp only at hm a hok b
   subst hm a
   have c:sl = #[k0,k1,k2,k3,some (.builtin n),k5]:=by
    obtain ⟨l⟩:=sl
    simp only at hs
    rw [hs]
   subst c
   exact ⟨bm,ns,nm,d,bs,hd,sn,sub,ab,col,dd,k0,k1,k2,k3,k5,ho,h,hok,b⟩
  ·cases q
 ·cases q
theorem awr {K:Frag} {mg:Str->Option Value} {x:Str} {C:Addr} (m:mg x=some (.ref C)) (q:excIn K C bmV "ValueError.__new__" = true):XOk K mg x C:=fun h X=>by
 obtain ⟨bm,N,nm,c,bs,hdct,sn,sub,ab,col,dd,k0,k1,k2,k3,k5,b,d,hok,a⟩:=alj q
 exact ⟨m,bm,N,nm,c,bs,hdct,sn,sub,ab,col,dd,k0,k1,k2,k3,k5,_,X _ _ b,.of_isNs (PySem.W.isNs_of_in X hok),PySem.W.nsMap_none_of_in X hok a,PySem.W.tail_of_in X d⟩
theorem am1 {K:Frag} {C D:Addr} (q:excIn K C bmV "ValueError.__new__" = true) (m:mroIn K C (.ref D)=some true):XSub K C D:=fun h X=>by
 obtain ⟨bm,N,nm,c,bs,hdct,sn,sub,ab,col,dd,k0,k1,k2,k3,k5,a,d,hok,b⟩:=alj q
 refine ⟨nm,c,N,bs,bm,hdct,sn,sub,ab,col,dd,k0,k1,k2,k3,k5,_,X _ _ a,?_⟩
 unfold mroIn PySem.W.clsIn at m
 rw [a] at m
 simpa [excClassObj] using m
theorem cl_of {K:Frag} {C:Addr} {bmB:List Value} {newId:String} (q:excIn K C bmB newId=true):(PySem.W.clsIn K C).isSome=true:=by
 obtain ⟨bm,N,nm,c,bs,hdct,sn,sub,ab,col,dd,k0,k1,k2,k3,k5,b,d,hok,a⟩:=alj q
 unfold PySem.W.clsIn
 rw [b]
 rfl
structure XCls (K:Frag) (mg:Str->Option Value) (x:Str) (C:Addr):Prop where
 mgx:mg x=some (.ref C)
 exc:excIn K C bmV "ValueError.__new__" = true
 xin:XIn K C
theorem XCls.ok {K:Frag} {mg:Str->Option Value} {x:Str} {C:Addr} (c:XCls K mg x C):XOk K mg x C:=awr c.mgx c.exc
section
variable {P:Program} {w:World} {K:Frag} {mg:Str->Option Value} {base:Heap} {x:Str} {k k2:Nat} {ps:List Str} {sp sp2:Sp}
theorem Can.lift (F:Can P w K mg base x k ps sp) (h:∀ vs H Q E,sp2 vs H Q E->sp vs H Q E):CanX P w K mg base x k ps sp2:=by
 obtain ⟨f,fd,F⟩:=F
 refine ⟨f,fd,⟨fun vs H Q E q=>F.ok.len vs H Q E (h _ _ _ _ q),fun A outer s H args us vs Q E c b hb a hs=>aF7 (F.ok.run A outer s H args us vs Q E c b hb a (h _ _ _ _ hs)) fun r d q=>?_⟩,F.mgx,F.kp,F.bd⟩
 cases r with
 | error e=>exact False.elim q
 | ok fl =>
  cases fl with
  | ret u=>exact q
  | next=>exact q
  | brk=>exact q
  | cont=>exact q
variable {j:Nat} {p pos ep:Pos} {e:Expr} {es:List Expr} {t:TA} {X:Cx}
end
end L2
namespace VL
open PySem PySem.Spec L2
section
variable {P:Program} {w:World} {K:Frag} {mg:Str->Option Value} {base:Heap} {x:Str} {k:Nat} {ps:List Str}
theorem asd {f:VP} (F:Can P w K mg base x k ps (spP K f)):CanX P w K mg base x k ps (spX K fun ss Q _=>f ss Q) :=
 F.lift fun vs H Q E ⟨G,ss,d,i,h,b,c,g,a,_⟩=>⟨G,ss,d,h,b,c,g,a⟩
variable {B:Bs} {env:En} {D':VEnds} {RX:Addr->En->Prop}
end
end VL
namespace L2
open PySem PySem.Spec PyProof.Rows
section
variable {prog:Program} {w:World} {A:Around} {E:Value->Shared->Prop} {s:Shared}
end
section
variable {X:Cx} {tg:Expr}
end
end L2
namespace VL
open PySem PySem.Spec L2
section
variable {B:Bs} {env:En} {g:TG} {tb:TS} {D':VEnds} {QI:List PyData->En->Prop}
end
end VL
namespace PopT
open PySem PyProof.Rows
section
variable {prog:Program} {w:World} {K:Type} [DecidableEq K] {knd:HeapKind prog w K} {A:Around} {E:Value->Shared->Prop} {s:Shared}
end
end PopT
namespace L2
open PySem PySem.Spec PySem.W PyProof.Rows
theorem KT.at {H:Hp} {kvs:List (List Key × V)} {xs:List (List Key × Addr × Value)} (r:KT H kvs xs):∀ {j:Nat} {k:List Key} {v:V},kvs[j]?=some (k,v)->∃ p:Addr × Value,xs[j]?=some (k,p)/\RelV v p.2:=by
 induction r with
 | nil=>intro j k v e;simp at e
 | @cons p q ps qs hq t ih =>
  intro j k v e
  cases j with
  | zero =>
   have e:p=(k,v):=by simpa using e
   subst e
   exact ⟨q.2,by rw [List.getElem?_cons_zero,show k=q.1 from hq.1],hq.2.2⟩
  | succ j=>exact ih (by simpa using e)
theorem KT.erase {H:Hp} {kvs:List (List Key × V)} {xs:List (List Key × Addr × Value)} (r:KT H kvs xs):∀ (j:Nat),KT H (kvs.eraseIdx j) (xs.eraseIdx j):=by
 induction r with
 | nil=>intro j;exact .nil
 | @cons p q ps qs hq t ih =>
  intro j
  cases j with
  | zero=>exact t
  | succ j=>exact .cons hq (ih j)
section
variable {X:Cx} {pins:List (Addr × Obj)} {σ:St} {H:Hp} {s:Shared} {a b:Addr} {A:Around} {E:Value->Shared->Prop}
end
section
variable {X:Cx} {o e f:Expr} {apos cpos:Pos} {td ty tx:TE}
end
end L2
namespace DNe
open PySem PyProof.Rows
end DNe
namespace L2
open PySem PySem.Spec PySem.W PyProof.Rows
end L2
namespace DNe
open PySem PyProof.Rows
section
variable {prog:Program} {w:World} {A:Around} {E:Value->Shared->Prop} {s:Shared}
end
end DNe
namespace L2
open PySem PySem.Spec PySem.W PyProof.Rows
end L2
namespace VL
open PySem PySem.Spec L2
section
variable {B:Bs} {env:En} {Q':PyData->En->Prop} {QO:Sl->En->Prop} {i:Nat} {ty:TE}
theorem RpT.at {G:Hp}:∀ {kvs:List (List Key × V)} {es:List (List Key × PyData)},RpT G kvs es->∀ {j:Nat} {a:List Key} {d:PyData},es[j]?=some (a,d)->∃ v,kvs[j]?=some (a,v)/\Rp G v d
 | _,_,.nil,j,a,d,e=>by simp at e
 | _,_,.cons (k:=k) (v:=v) (d:=d0) h t,0,a,d,e=>by
  have e:(k,d0)=(a,d):=by simpa using e
  cases e
  exact ⟨v,rfl,h⟩
 | _,_,.cons h t,j+1,a,d,e=>by
  obtain ⟨v,b,r⟩:=RpT.at t (j:=j) (by simpa using e)
  exact ⟨v,by simpa using b,r⟩
theorem RpT.erase {G:Hp}:∀ {kvs:List (List Key × V)} {es:List (List Key × PyData)},RpT G kvs es->∀ (j:Nat),RpT G (kvs.eraseIdx j) (es.eraseIdx j)
 | _,_,.nil,_ => .nil
 | _,_,.cons _ t,0=>t
 | _,_,.cons h t,j+1 => .cons h (RpT.erase t j)
end
section
variable {B:Bs} {env:En} {QO:Sl->En->Prop} {Q':PyData->En->Prop} {K:Frag} {i:Nat}
end
end VL
namespace L2
open PySem PySem.Spec PyProof.Rows
section
variable {P:Program} {w:World} {K:Frag} {mg:Str->Option Value} {base:Heap} {x:Str} {k k2:Nat} {ps:List Str} {sp sp2:Sp}
variable {N:List Str} {qual:Str} {scope:Scope} {f:Addr} {cd:Value} {A:Around} {outer:List Env} {s0:Shared} {H0:Hp} {E:XK} {j:Nat} {p pos:Pos} {e:Expr} {es:List Expr} {t:TA}
theorem ai9 (F:CanX P w K mg base x k ps sp) (F2:CanX P w K mg base x k2 ps sp2) (i:Room j (cxOf (CXE P w base) P w K mg base N qual scope f cd A outer s0 H0 E).A) (ha:PA (cxOf (CXE P w base) P w K mg base N qual scope f cd A outer s0 H0 E) (e :: es) t) (G:k<=j:=by decide) (a:k2<=j:=by decide)
  (m:Gl (cxOf (CXE P w base) P w K mg base N qual scope f cd A outer s0 H0 E) x:=by rfl) (d:(x == ("__debug__" : Str))=false:=by decide)
  (z:starEach (e :: es) (cxOf (CXE P w base) P w K mg base N qual scope f cd A outer s0 H0 E).env=(false,eval e (cxOf (CXE P w base) P w K mg base N qual scope f cd A outer s0 H0 E).env) :: starEach es (cxOf (CXE P w base) P w K mg base N qual scope f cd A outer s0 H0 E).env:=by rfl)
  (b:(backTo pos (starEach es (cxOf (CXE P w base) P w K mg base N qual scope f cd A outer s0 H0 E).env)).any (·.1)=false:=by rfl) :
  PE (cxOf (CXE P w base) P w K mg base N qual scope f cd A outer s0 H0 E) (.Call (.Name x p) (e :: es) [] pos) (ab6 (fun vs H Q E=>sp vs H Q E\/sp2 vs H Q E) [] E t):=by
 obtain ⟨f1,B,v,g,y,n⟩:=F
 obtain ⟨L,o,u,l,J,C⟩:=F2
 have D:=g.symm.trans l
 cases D
 intro pins s σ H Q I h
 refine wpAny_Call_Name_kw (aee I m g ?_ d)
 refine PySem.W.callWith_K (h₀:=base) I.ok.mod.kin y (thn (ha pos pins s σ H _ I h) fun us s1 ⟨vs,M,c,r,q⟩=>⟨c.kIn,?_⟩) z b
 rcases q with q | q
 ·exact aj9 v (i.mono G) n .nil anu c r q
 ·exact aj9 u (i.mono a) C .nil anu c r q
end
end L2
namespace VL
open PySem PySem.Spec L2
section
variable {B:Bs} {env:En} {QO:Sl->En->Prop} {Q':PyData->En->Prop} {K:Frag} {E:XK} {R:Addr->Prop}
theorem ahm {f:VPX} {g:VP} {t:TA} (j:EvE B E R) (h:EvA B t env fun ds b=>f (ds.map Sl.st) (fun s=>QO s b) R\/g (ds.map Sl.st) (fun s=>QO s b)) :
  EvO B (ab6 (fun vs H Q E=>spX K f vs H Q E\/spX K (fun ss Q _=>g ss Q) vs H Q E) [] E t) env QO:=fun σ G H F Q I k=>by
 unfold ab6
 simp only [aB7]
 exact h σ G H F _ I fun vs n p d ds b a l m c=>by
  rcases c with c | c
  ·exact .inl ⟨n,_,_,R,a.gh,a.ft,ArgsOk.of m,c,fun s q v G' H' Fv o=>k v G' H' d Fv s b (a.out o).1 (l.trans o.gg) (a.out o).2 q,fun C i G' H' o=>j C i σ G' H' d b (a.out o).1⟩
  ·exact .inr ⟨n,_,_,R,a.gh,a.ft,ArgsOk.of m,c,fun s q v G' H' Fv o=>k v G' H' d Fv s b (a.out o).1 (l.trans o.gg) (a.out o).2 q,fun C i G' H' o=>j C i σ G' H' d b (a.out o).1⟩
end
section
variable {B:Bs} {env:En} {QO:Sl->En->Prop} {Q':PyData->En->Prop} {K:Frag} {i:Nat}
end
section
variable {B:Bs} {env:En} {QO:Sl->En->Prop} {Q':PyData->En->Prop} {K:Frag} {E:XK} {i:Nat}
end
section
variable {B:Bs} {env:En} {G H:Hp} {σ:St} {F:Nat->Addr->Prop} {QO:Sl->En->Prop} {K:Frag} {E:XK} {te:TE}
theorem VI.push {v:V} {A:Own} {Fv:Addr->Prop} (I:VI B G H σ env F) (X:RsX B G H v Fv (.own A) F):VI B G H (σ ++ [some v]) (env ++ [some (.own A)]) (fun j b=>if j=env.length then Fv b else F j b):=by
 have a:=I.ln
 have cs:∀ j b,(if j=env.length then Fv b else F j b)->(j=env.length/\Fv b)\/(j ≠ env.length/\F j b):=fun j b z=>by
  by_cases h:j=env.length
  ·rw [aC1 h] at z;exact .inl ⟨h,z⟩
  ·rw [aC2 h] at z;exact .inr ⟨h,z⟩
 refine ⟨I.gh,I.g0,I.gn,I.rs,I.rb,I.bh,fun j b z=>?_,fun j b z=>?_,fun j k b y z=>?_,fun j b z=>?_,fun j s es=>?_,by simp [a],I.ft⟩
 ·rcases cs j b z with ⟨_,h⟩ | ⟨_,h⟩
  ·exact X.fg b h
  ·exact I.fg j b h
 ·rcases cs j b z with ⟨_,h⟩ | ⟨_,h⟩
  ·exact I.b_r (X.fb b h)
  ·exact I.fr j b h
 ·rcases cs j b y with ⟨g,c⟩ | ⟨g,c⟩ <;> rcases cs k b z with ⟨i,d⟩ | ⟨i,d⟩
  ·rw [g,i]
  ·exact absurd d (X.fd k b c)
  ·exact absurd c (X.fd j b d)
  ·exact I.fd j k b c d
 ·rcases cs j b z with ⟨_,h⟩ | ⟨_,h⟩
  ·exact X.fo b h
  ·exact I.fo j b h
 ·by_cases hj:j < env.length
  ·rw [az7 hj] at es
   obtain ⟨w,l,q⟩:=I.sl j s es
   have f:(fun b=>if j=env.length then Fv b else F j b)=F j:=by
    funext b;rw [aC2 (by omega)]
   refine ⟨w,by rw [az7 (by omega)];exact l,?_⟩
   show SlOk B G H j w (fun b=>if j=env.length then Fv b else F j b) s
   rw [f];exact q
  ·by_cases hj2:j=env.length
   ·subst hj2
    rw [aA2 (ay1 _),aF0] at es
    cases es
    have f:(fun b=>if env.length=env.length then Fv b else F env.length b)=Fv:=by
     funext b;rw [aC1 rfl]
    refine ⟨v,by rw [aA2 (by omega),a,aF0];rfl,?_⟩
    show SlOk B G H env.length v (fun b=>if env.length=env.length then Fv b else F env.length b) (.own A)
    rw [f];exact ⟨X.ok,X.fb⟩
   ·rw [List.getElem?_eq_none (by simp;omega)] at es
    cases es
theorem VI.pop {e:En} {o:Option V} {s:Option Sl} (I:VI B G H (σ ++ [o]) (e ++ [s]) F):VI B G H σ e (fun j b=>j < e.length/\F j b):=by
 have a : σ.length=e.length:=by have:=I.ln;simpa using this
 refine ⟨I.gh,I.g0,I.gn,I.rs,I.rb,I.bh,fun j b z=>I.fg j b z.2,fun j b z=>I.fr j b z.2,fun j k b y z=>I.fd j k b y.2 z.2,fun j b z=>I.fo j b z.2,fun j t es=>?_,a,I.ft⟩
 have d:j < e.length:=(ax6.mp es).1
 obtain ⟨w,c,q⟩:=I.sl j t (by rw [az7 d];exact es)
 have f:(fun b=>j < e.length/\F j b)=F j:=by
  funext b;exact propext ⟨fun z=>z.2,fun z=>⟨d,z⟩⟩
 refine ⟨w,by rw [az7 (by omega)] at c;exact c,?_⟩
 show SlOk B G H j w (fun b=>j < e.length/\F j b) t
 rw [f];exact q
theorem adb {f:VIo} {c:Int} (h:EvO B te env fun s b=>∃ A,s=.own A/\f A [.st (.int c)] fun A' d=>QO d b):EvO B (ab6 (spI K f) [] E (abn te (abn (tC (.int c)) tNil))) env QO:=fun σ G H F Q I k=>by
 refine h σ G H F _ I fun v u M R Fv s b m p O ⟨A,es,hf⟩=>?_
 subst es
 have r:=m.ln
 have J:=m.push O
 have l:EvO B (ab6 (spI K f) [] E (abn (tVar b.length) (abn (tC (.int c)) tNil))) (b ++ [some (.own A)]) (fun d n=>(∃ x,n=b ++ [x])/\QO d b):=by
  refine ao8 ⟨.own A,by rw [aA2 (ay1 _),aF0];rfl⟩ (ak6 (ao4 (amn ?_)))
  refine ⟨.own A,A,by rw [aA2 (ay1 _),aF0];rfl,.inl rfl,?_⟩
  refine cast ?_ hf
  show f A [.st (.int c)] _=f A [.st (.int c)] _
  congr 1
  funext A' d
  apply propext
  constructor
  ·intro q
   exact ⟨⟨some (.own A'),by rw [List.set_append_right _ _ (ay1 _),aF0];rfl⟩,q⟩
  ·intro q;exact q.2
 have:=l (σ ++ [some v]) u M _ Q J fun w o H2 F2 C d n N L g D=>by
  obtain ⟨⟨x,ex⟩,q⟩:=D
  subst ex
  exact k w o H2 _ C d b N.pop (p.trans L) ⟨g.ok,g.fb,g.fg,g.fo,fun j a z y=>g.fd j a z y.2⟩ q
 obtain ⟨P,i,hh⟩:=this
 rw [aA2 (by omega),show b.length - σ.length=0 by omega] at i
 have:P=v:=by simpa using i.symm
 subst this
 exact hh
end
end VL
namespace L2
open PySem PySem.Spec
structure PSq (X:Cx) (sts:List Stmt) (t:TS):Prop where
 out:PSs X sts t
theorem abx {X:Cx} {st:Stmt} {rest:List Stmt} {t u:TS} (b:PS X st t) (a:PSq X rest u):PSq X (st :: rest) (tSeq t u):=⟨aae b a.out⟩
theorem ack {X:Cx} {st:Stmt} {t:TS} (h:PS X st t):PSq X [st] t:=⟨aag h⟩
end L2
namespace G
open PySem L2 VL
def top (i:Nat):Stmt:=PySem.Challenge.pw_fewties_k21_no_webs_to_stay.main.body.getD i (.Pass ⟨0,0,0,0⟩)
abbrev s_is_whole:Stmt:=top 11
abbrev s_is_between:Stmt:=top 12
abbrev s_need_number:Stmt:=top 13
abbrev s_is_place:Stmt:=top 14
abbrev s_is_rising:Stmt:=top 15
abbrev s_tied_places:Stmt:=top 16
abbrev s_far_from:Stmt:=top 17
abbrev s_need_place:Stmt:=top 18
abbrev s_all_far:Stmt:=top 19
abbrev s_is_joined:Stmt:=top 20
abbrev s_need_joined:Stmt:=top 22
abbrev s_far_rows:Stmt:=top 23
abbrev s_most_far:Stmt:=top 24
abbrev s_stay_shows:Stmt:=top 28
abbrev s_is_pair:Stmt:=top 29
abbrev s_need_places:Stmt:=top 30
abbrev s_need_far:Stmt:=top 31
abbrev s_are_apart:Stmt:=top 32
abbrev s_best_stay:Stmt:=top 33
abbrev s_apart_lists:Stmt:=top 34
abbrev s_places_after:Stmt:=top 35
abbrev s_law_draws:Stmt:=top 37
abbrev s_law_web:Stmt:=top 38
abbrev s_law_copy:Stmt:=top 39
abbrev s_law_kinds:Stmt:=top 40
abbrev s_law_beside:Stmt:=top 41
abbrev s_law_parted:Stmt:=top 42
abbrev s_law_alone:Stmt:=top 43
abbrev s_law_caught:Stmt:=top 44
abbrev s_law:Stmt:=top 45
def YF (K:Frag) (mg:Str->Option Value) (r c:Str) (b:Bool):Prop:=∀ C D,mg r=some (.ref C)->mg c=some (.ref D)->kitOne K (.ref C) (.ref D)=some b
structure Txt (K:Frag) (mg:Str->Option Value):Prop where
 b_ValueError:mg "ValueError" = none
 b_all:mg "all" = none
 b_max:mg "max" = none
 b_reversed:mg "reversed" = none
 b_range:mg "range" = none
 b_enumerate:mg "enumerate" = none
 b_list:mg "list" = none
 b_isinstance:mg "isinstance" = none
 b_int:mg "int" = none
 b_len:mg "len" = none
 b_abs:mg "abs" = none
 b_sorted:mg "sorted" = none
 b_bool:mg "bool" = none
 b_tuple:mg "tuple" = none
 b_min:mg "min" = none
 v_MOST_STAY_TIES:∃ t,mg "MOST_STAY_TIES" = some (.int 5 t)
 v_MOST_PLACES_FOR_STAY:∃ t,mg "MOST_PLACES_FOR_STAY" = some (.int 12 t)
 d_is_whole:∃ f fd,DefAt K mg "is_whole" s_is_whole ["thing"] f fd
 d_is_between:∃ f fd,DefAt K mg "is_between" s_is_between ["least","most","thing"] f fd
 d_need_number:∃ f fd,DefAt K mg "need_number" s_need_number ["least","most","thing"] f fd
 d_is_place:∃ f fd,DefAt K mg "is_place" s_is_place ["n","thing"] f fd
 d_is_rising:∃ f fd,DefAt K mg "is_rising" s_is_rising ["things"] f fd
 d_tied_places:∃ f fd,DefAt K mg "tied_places" s_tied_places ["web"] f fd
 d_far_from:∃ f fd,DefAt K mg "far_from" s_far_from ["tied","start"] f fd
 d_need_place:∃ f fd,DefAt K mg "need_place" s_need_place ["web","thing"] f fd
 d_all_far:∃ f fd,DefAt K mg "all_far" s_all_far ["web","a"] f fd
 d_is_joined:∃ f fd,DefAt K mg "is_joined" s_is_joined ["web"] f fd
 d_need_joined:∃ f fd,DefAt K mg "need_joined" s_need_joined ["web"] f fd
 d_far_rows:∃ f fd,DefAt K mg "far_rows" s_far_rows ["web"] f fd
 d_most_far:∃ f fd,DefAt K mg "most_far" s_most_far ["rows"] f fd
 d_stay_shows:∃ f fd,DefAt K mg "stay_shows" s_stay_shows ["web","k","paper"] f fd
 d_is_pair:∃ f fd,DefAt K mg "is_pair" s_is_pair ["thing"] f fd
 d_need_places:∃ f fd,DefAt K mg "need_places" s_need_places ["k"] f fd
 d_need_far:∃ f fd,DefAt K mg "need_far" s_need_far ["r"] f fd
 d_are_apart:∃ f fd,DefAt K mg "are_apart" s_are_apart ["rows","least","places"] f fd
 d_best_stay:∃ f fd,DefAt K mg "best_stay" s_best_stay ["web","k"] f fd
 d_apart_lists:∃ f fd,DefAt K mg "apart_lists" s_apart_lists ["rows","least","many"] f fd
 d_places_after:∃ f fd,DefAt K mg "places_after" s_places_after ["rows","least","places"] f fd
 d_law_draws:∃ f fd,DefAt K mg "_law_draws" s_law_draws ["script","many"] f fd
 d_law_web:∃ f fd,DefAt K mg "_law_web" s_law_web ["d","spot","most"] f fd
 d_law_copy:∃ f fd,DefAt K mg "_law_copy" s_law_copy ["web"] f fd
 d_law_kinds:∃ f fd,DefAt K mg "_law_kinds" s_law_kinds ["caught","due"] f fd
 d_law_beside:∃ f fd,DefAt K mg "_law_beside" s_law_beside ["one","other"] f fd
 d_law_parted:∃ f fd,DefAt K mg "_law_parted" s_law_parted ["d","one","other"] f fd
 d_law_alone:∃ f fd,DefAt K mg "_law_alone" s_law_alone ["web","p"] f fd
 d_law_caught:∃ f fd,DefAt K mg "_law_caught" s_law_caught ["way","web","k","paper"] f fd
 d_law:∃ f fd,DefAt K mg "law" s_law ["script"] f fd
 x_TieError:∃ C,XCls K mg "TieError" C
 x_NoPlace:∃ C,XCls K mg "NoPlace" C
 x_NoJoin:∃ C,XCls K mg "NoJoin" C
 x_NoTie:∃ C,XCls K mg "NoTie" C
 x_NoTree:∃ C,XCls K mg "NoTree" C
 x_NoNumber:∃ C,XCls K mg "NoNumber" C
 x_NoText:∃ C,XCls K mg "NoText" C
 x_NoName:∃ C,XCls K mg "NoName" C
 x_NoRow:∃ C,XCls K mg "NoRow" C
 y_NoPlace_TieError:YF K mg "NoPlace" "TieError" true
 y_NoPlace_NoPlace:YF K mg "NoPlace" "NoPlace" true
 y_NoPlace_NoJoin:YF K mg "NoPlace" "NoJoin" false
 y_NoPlace_NoTie:YF K mg "NoPlace" "NoTie" false
 y_NoPlace_NoTree:YF K mg "NoPlace" "NoTree" false
 y_NoPlace_NoNumber:YF K mg "NoPlace" "NoNumber" false
 y_NoPlace_NoText:YF K mg "NoPlace" "NoText" false
 y_NoPlace_NoName:YF K mg "NoPlace" "NoName" false
 y_NoPlace_NoRow:YF K mg "NoPlace" "NoRow" false
 y_NoPlace_ValueError:∀ C,mg "NoPlace" = some (.ref C)->kitOne K (.ref C) (.type "ValueError")=some true
 s_NoPlace_TieError:∀ C D,mg "NoPlace" = some (.ref C)->mg "TieError" = some (.ref D)->mroIn K C (.ref D)=some true
 y_NoJoin_TieError:YF K mg "NoJoin" "TieError" true
 y_NoJoin_NoPlace:YF K mg "NoJoin" "NoPlace" false
 y_NoJoin_NoJoin:YF K mg "NoJoin" "NoJoin" true
 y_NoJoin_NoTie:YF K mg "NoJoin" "NoTie" false
 y_NoJoin_NoTree:YF K mg "NoJoin" "NoTree" false
 y_NoJoin_NoNumber:YF K mg "NoJoin" "NoNumber" false
 y_NoJoin_NoText:YF K mg "NoJoin" "NoText" false
 y_NoJoin_NoName:YF K mg "NoJoin" "NoName" false
 y_NoJoin_NoRow:YF K mg "NoJoin" "NoRow" false
 y_NoJoin_ValueError:∀ C,mg "NoJoin" = some (.ref C)->kitOne K (.ref C) (.type "ValueError")=some true
 s_NoJoin_TieError:∀ C D,mg "NoJoin" = some (.ref C)->mg "TieError" = some (.ref D)->mroIn K C (.ref D)=some true
 y_NoNumber_TieError:YF K mg "NoNumber" "TieError" true
 y_NoNumber_NoPlace:YF K mg "NoNumber" "NoPlace" false
 y_NoNumber_NoJoin:YF K mg "NoNumber" "NoJoin" false
 y_NoNumber_NoTie:YF K mg "NoNumber" "NoTie" false
 y_NoNumber_NoTree:YF K mg "NoNumber" "NoTree" false
 y_NoNumber_NoNumber:YF K mg "NoNumber" "NoNumber" true
 y_NoNumber_NoText:YF K mg "NoNumber" "NoText" false
 y_NoNumber_NoName:YF K mg "NoNumber" "NoName" false
 y_NoNumber_NoRow:YF K mg "NoNumber" "NoRow" false
 y_NoNumber_ValueError:∀ C,mg "NoNumber" = some (.ref C)->kitOne K (.ref C) (.type "ValueError")=some true
 s_NoNumber_TieError:∀ C D,mg "NoNumber" = some (.ref C)->mg "TieError" = some (.ref D)->mroIn K C (.ref D)=some true
local macro_rules | `(tactic| row_cond sc) => `(tactic| exact ⟨rfl,rfl,rfl,by decide +kernel,rfl,by decide +kernel,by decide +kernel⟩)
local macro_rules | `(tactic| row_cond gn) => `(tactic| first | (with_reducible first | refine evg_n0 ?_ | refine av6 ?_ | refine av7 ?_ | refine av8 ?_ | refine av9 ?_ | refine awa ?_ | refine awb ?_ | refine awc ?_ | refine awd ?_ | refine awe ?_ | refine atu ?_ | refine atv ?_ | refine atw ?_ | refine atx ?_ | refine aty ?_ | refine atz ?_ | refine at3 ?_ | refine at4 ?_ | refine evg_n18 ?_ | refine evg_n19 ?_ | refine evg_n20 ?_ | refine evg_n21 ?_ | refine evg_n22 ?_ | refine evg_n23 ?_ | refine evg_n24 ?_ | refine evg_n25 ?_) | ((with_reducible refine aaw ?_); dsimp only [List.set_cons_zero, List.set_cons_succ]))
local macro_rules | `(tactic| row_cond dc) => `(tactic| first | assumption | omega | (with_reducible rfl))
local macro_rules | `(tactic| row_cond ar) => `(tactic| first | assumption | (refine ⟨?_, ?_, ?_⟩ <;> decide) | (constructor <;> first | assumption | omega) | (show (0 : Int) < _; first | assumption | omega) | (left; constructor <;> first | assumption | omega) | (right; constructor <;> first | assumption | omega))
local macro_rules | `(tactic| row_cond hs) => `(tactic| first | exact Or.inl rfl | exact Or.inr rfl)
local macro_rules | `(tactic| row_cond fz) => `(tactic| first | exact acu | exact ao3 | exact frz_OT | exact frz_OW | exact ah9 | assumption)
local macro_rules | `(tactic| row_cond le) => `(tactic| first | exact Nat.le_of_ble_eq_true rfl | assumption | omega | (simp only [List.length_append, List.length_map, List.length_cons, List.length_nil, List.length_set, List.length_replicate]; omega))
local macro_rules | `(tactic| row_cond ia) => `(tactic| first | assumption | exact at0 | exact at1 | exact at2 | exact rfl)
local macro_rules | `(tactic| row_cond ty) => `(tactic| first | exact av3 | exact ats | exact aq7 | exact att | exact ty_str | exact ty_dict)
local macro_rules | `(tactic| row_cond sEvS) => `(tactic| first | (with_reducible refine aqu (fun c_ hc_ => ?_)) | (with_reducible first | refine aft ?_ | refine avt ?_ | refine aqq ?_) | ((with_reducible refine' aq8 ?h0 ?_); (case h0 => exact rfl)) | (with_reducible first | refine amr ?_ | refine atc ?_ | refine adf ?_) | ((with_reducible refine' anr ?h0 ?_); (case h0 => exact rfl)) | ((with_reducible refine' atd ?h0 ?_); (case h0 => assumption)))
local macro_rules | `(tactic| row_cond sEvG) => `(tactic| first | row_cond gn | ((with_reducible refine' amq ?h0 ?_); (case h0 => exact rfl)) | ((with_reducible refine' aq6 ?h0 ?_); (case h0 => row_cond hs)) | ((with_reducible refine' amy ?h0 ?_); (case h0 => exact rfl)) | (with_reducible refine evg_st ?_))
local macro_rules | `(tactic| row_cond sEvGs) => `(tactic| first | (with_reducible first | refine adr ?_ | refine agk ?_))
local macro_rules | `(tactic| row_cond sEv) => `(tactic| first | ((with_reducible refine' avm ?h0 ?_); (case h0 => exact rfl)) | (with_reducible refine ao4 ?_) | ((with_reducible refine' av1 ?h0 ?_); (case h0 => row_cond hs)) | ((with_reducible refine' avz ?h0 ?_); (case h0 => row_cond hs)) | (with_reducible refine axb ?_) | ((with_reducible refine' av2 ?h0 ?_); (case h0 => row_cond ty)) | ((with_reducible refine' av0 ?h0 ?h1 ?_); (case h0 => row_cond hs); (case h1 => row_cond fz)) | (with_reducible refine aqv ?_) | ((with_reducible refine' as4 ?h0 ?h1 ?_); (case h0 => exact rfl); (case h1 => row_cond fz); dsimp only [List.set_cons_zero, List.set_cons_succ]) | (with_reducible first | refine avq ?_ | refine avr ?_ | refine axa ?_ | refine avn ?_ | refine avo ?_ | refine axc ?_ | refine as9 ?_ | refine ata ?_ | refine aqp ?_ | refine abc (te:=tCB (aha _) _) ?_ | refine abc (te:=tCB (afa _) _) ?_ | refine axd ?_) | ((with_reducible refine' anm ?h0 ?_); (case h0 => row_cond hs)) | ((with_reducible refine' aq5 ?h0 ?_); (case h0 => row_cond hs)) | (with_reducible refine ev_listR ?_) | ((with_reducible refine' axm ?h0 ?_); (case h0 => decide)) | ((with_reducible refine' apo ?h0 ?h1 ?_); (case h0 => exact rfl); (case h1 => assumption)) | (with_reducible first | refine awl ?_))
local macro_rules | `(tactic| row_cond sEvO) => `(tactic| first | (with_reducible first | refine ak5 (r:=rCat) ?_ | refine ak5 (r:=rRep) ?_ | refine aby (te:=tOp _ _ _) ?_ | refine aby (te:=tVar _) ?_ | refine aby (te:=tC _) ?_ | refine amp ?_) | (with_reducible refine amo ?_) | ((with_reducible refine' ao7 ?h0 ?h1 ?_); (case h0 => exact rfl); (case h1 => assumption)) | (with_reducible first | refine aiy ?_ | refine at7 ?_) | ((with_reducible refine' ao9 ?h0 ?_); (case h0 => decide)) | (with_reducible first | refine amz ?_) | ((with_reducible refine' ahg ?h0 ?h1 ?_); (case h0 => exact rfl); (case h1 => assumption)) | (with_reducible first | refine ai1 ?_ | refine apm ?_ | refine apk ?_ | refine ao5 (r:=alc _) ?_ | refine aby (te:=tUn _ _) ?_ | refine aby (te:=am2 _ _) ?_ | refine aby (te:=am3 _) ?_ | refine aby (te:=aj8 _ _ _ _ _) ?_ | refine aby (te:=tCB (rLen _) _) ?_ | refine aby (te:=tCB (rIsi _) _) ?_ | refine aby (te:=tCB ajz _) ?_ | refine aby (te:=tCB aj0 _) ?_ | refine aby (te:=tCB aj1 _) ?_ | refine aby (te:=tCB rAbs _) ?_ | refine aby (te:=tCB (rAll _) _) ?_ | refine aby (te:=tBM _ _ _ _ _) ?_))
local macro_rules | `(tactic| row_cond sEvT) => `(tactic| first | (with_reducible first | refine ak7 ?_ | refine axe ?_ | refine as6 ?_ | refine avs ?_ | refine as7 ?_ | refine aco ?_) | (with_reducible refine as8 ?_))
local macro_rules | `(tactic| row_cond sEvA) => `(tactic| first | (with_reducible first | refine ak6 ?_ | refine amn ?_))
local macro_rules | `(tactic| row_cond sEvI) => `(tactic| first | (with_reducible first | refine aqs ?_ | refine aqt ?_ | refine aqr ?_ | refine ara ?_) | ((with_reducible refine' awh ?h0 ?_); (case h0 => exact rfl); dsimp only [List.set_cons_zero, List.set_cons_succ]) | (with_reducible refine evi_tup ?_))
local macro_rules | `(tactic| row_cond sEvOp) => `(tactic| first | (with_reducible first | refine aq3 ?_ | refine aq4 ?_))
local macro_rules | `(tactic| row_cond sOp2) => `(tactic| first | (with_reducible first | refine atf ?_ | refine atg ?_) | ((with_reducible refine' avx ?h0 ?_); (case h0 => row_cond ar)) | (with_reducible first | refine ath ?_ | refine ati ?_) | ((with_reducible refine' atn ?h0 ?_); (case h0 => row_cond ia)) | ((with_reducible refine' ato ?h0 ?_); (case h0 => row_cond ia)) | (with_reducible first | refine atk ?_ | refine atq ?_) | ((with_reducible refine' atr ?h0 ?_); (case h0 => row_cond le)))
local macro_rules | `(tactic| row_cond sOp1) => `(tactic| first | (with_reducible refine avy ?_))
local macro_rules | `(tactic| row_cond sOpA) => `(tactic| first | (with_reducible first | refine aqy ?_ | refine aqz ?_ | refine aq0 ?_ | refine aq1 ?_ | refine aq2 ?_ | refine aud ?_ | refine arb ?_))
local macro_rules | `(tactic| row_cond sFQ) => `(tactic| first | (with_reducible first | refine aw8 ?_ | refine adj ?_ | refine aw9 ?_))
local macro_rules | `(tactic| row_cond sRngA1) => `(tactic| first | ((with_reducible refine' avv ?h0 ?h1 ?_); (case h0 => omega); (case h1 => omega)))
local macro_rules | `(tactic| row_cond sRngA2) => `(tactic| first | ((with_reducible refine' avw ?h0 ?_); (case h0 => omega)))
local macro_rules | `(tactic| row_cond sRest) => `(tactic| first | (with_reducible first | refine x_bl ?_ | refine x_st ?_ | refine avu ?_ | refine axg ?_) | ((with_reducible refine' axk ?h0 ?h1 ?_); (case h0 => row_cond hs); (case h1 => row_cond ia)) | ((with_reducible refine' x_sc ?h0 ?_); (case h0 => exact rfl)) | ((with_reducible refine' axj ?h0 ?_); (case h0 => row_cond le)) | (with_reducible first | refine adq ?_ | refine aei ?_ | refine ahz ?_ | refine asx ?_) | ((with_reducible refine' aht ?h0 ?_); (case h0 => row_cond dc)) | ((with_reducible refine' ahu ?h0 ?_); (case h0 => row_cond dc)) | ((with_reducible refine' aqn ?h0 ?_); (case h0 => row_cond dc)) | ((with_reducible refine' axl ?h0 ?_); (case h0 => first | exact rfl | row_cond hs)) | ((with_reducible refine' av4 ?h0 ?h1 ?_); (case h0 => exact rfl); (case h1 => row_cond le); dsimp only [List.set_cons_zero, List.set_cons_succ]) | ((with_reducible refine' ann ?h0 ?h1 ?_); (case h0 => exact rfl); (case h1 => first | exact ixN0 | exact ixN1 | exact ixN2 | assumption); dsimp only [List.set_cons_zero, List.set_cons_succ, reS]) | (with_reducible first | refine av5 ?_ | refine aq9 ?_) | ((with_reducible refine' x_dT ?h0 ?h1 ?_); (case h0 => exact rfl); (case h1 => row_cond le); dsimp only [List.set_cons_zero, List.set_cons_succ]) | (with_reducible first | refine x_en ?_) | ((with_reducible refine' aue ?h0 ?h1 ?_); (case h0 => omega); (case h1 => omega)))
local macro_rules | `(tactic| row_cond st) => `(tactic| first | ((with_reducible refine axq ?_); row_cond sEvS) | ((with_reducible refine axr ?_); row_cond sEvG) | ((with_reducible refine awj ?_); row_cond sEvGs) | ((with_reducible refine g_Ev ?_); row_cond sEv) | ((with_reducible refine axs ?_); row_cond sEvO) | ((with_reducible refine axt ?_); row_cond sEvT) | ((with_reducible refine axu ?_); row_cond sEvA) | ((with_reducible refine axv ?_); row_cond sEvI) | ((with_reducible refine awk ?_); row_cond sEvOp) | ((with_reducible refine axw ?_); row_cond sOp2) | ((with_reducible refine axx ?_); row_cond sOp1) | ((with_reducible refine axy ?_); row_cond sOpA) | ((with_reducible refine g_FQ ?_); row_cond sFQ) | ((with_reducible refine aui ?_); row_cond sRngA1) | ((with_reducible refine auj ?_); row_cond sRngA2) | row_cond sRest)
local macro_rules | `(tactic| row_cond go) => `(tactic| repeat row_cond st)
local macro_rules | `(tactic| row_cond hnx) => `(tactic| first | assumption | (apply Ne.symm; assumption) | exact aat (by assumption) (by assumption) | exact (aat (by assumption) (by assumption)).symm)
local macro_rules | `(tactic| row_cond hhp) => `(tactic| first | assumption | exact aaj | (rw [aaf (by row_cond hnx)]; row_cond hhp) | ((refine' Same.at ?ss ?hh); (case ss => assumption); (case hh => row_cond hhp)))
local macro_rules | `(tactic| row_cond hix) => `(tactic| first | assumption | exact at0 | exact at1 | exact at2)
local macro_rules | `(tactic| row_cond hst) => `(tactic| first | (with_reducible first | refine go_seq ?_ | refine go_asg ?_ | refine amc ?_ | refine go_op ?_ | refine go_c ?_ | refine go_I0 ?_ | refine go_U ?_ | refine aot ?_ | refine go_test ?_ | refine go_bl ?_ | refine go_ifS ?_ | refine go_and ?_ | refine go_ret ?_ | refine go_drop ?_ | refine go_next ?_ | refine go_cb ?_ | refine go_cons ?_ | refine aos ?_ | refine go_call ?_ | refine amf ?_ | refine amg ?_ | refine amh ?_ | refine go_gsub ?_ | refine go_lstW ?_ | refine go_bmL ?_ | refine go_for ?_ | refine go_lc ?_ | refine go_irng1 ?_ | refine aou ?_ | refine adq ?_ | refine aei ?_) | ((with_reducible refine' go_var ?hv ?_); (case hv => exact rfl)) | ((with_reducible refine' aes ?ha ?hv ?_); (case ha => row_cond hhp); (case hv => row_cond hix)) | ((with_reducible refine go_I ?hc ?_); (case hc => row_cond ar)) | ((with_reducible refine' ame ?ha ?_); (case ha => row_cond hhp)) | ((with_reducible refine' amd ?ha ?hj ?_); (case ha => row_cond hhp); (case hj => first | exact ixN0 | exact ixN1 | exact ixN2)) | ((with_reducible refine' go_tyL ?ha ?_); (case ha => row_cond hhp)) | ((with_reducible refine' ae7 ?ha ?hl ?_); (case ha => row_cond hhp); (case hl => exact ad5 (by simp; omega))) | ((with_reducible refine' aht ?hc ?_); (case hc => row_cond dc)) | ((with_reducible refine' ahu ?hc ?_); (case hc => row_cond dc)) | dsimp only [List.set_cons_zero, List.set_cons_succ])
local macro_rules | `(tactic| row_cond hgo) => `(tactic| repeat row_cond hst)
def isInt:PyData->Bool
 | .int _=>true
 | _=>false
def btwD (a b:Int):PyData->Bool
 | .int i=>decide (a<=i/\i<=b)
 | _=>false
def auq:VP:=fun ss Q=>∃ d,ss=[.st d]/\Q (.st (.bool (isInt d)))
def apu:VP:=fun ss Q=>∃ (a b:Int) (d:PyData),ss=[.st (.int a),.st (.int b),.st d]/\Q (.st (.bool (btwD a b d)))
def aur:VP:=fun ss Q=>∃ (n:Int) (d:PyData),ss=[.st (.int n),.st d]/\Q (.st (.bool (btwD 0 (n - 1) d)))
section
variable {P:Program} {w:World} {K:Frag} {mg:Str->Option Value} {base:Heap}
theorem sc_is_whole:FnScope ["thing"] ["thing"] (aah s_is_whole):=by row_cond sc
theorem aff (T:Txt K mg):Can P w K mg base "is_whole" 1 ["thing"] (spP K (auq)):=by
 obtain ⟨f,fd,D⟩:=T.d_is_whole
 refine D.can (D.fn.ok sc_is_whole (fun vs H Q E h=>lenP h fun ss c q=>by obtain ⟨d,rfl,k⟩:=q;rfl) (fun cdv A outer s H vs Q E j h=>?_))
 have nd:=sc_is_whole.nd
 refine ⟨_,(aag (aax (aeg (aaq aer (by rfl) T.b_isinstance aa2 (aaa (pv 0) (aaa (aef (v:=.ty "int") rfl T.b_int ag5 rfl) aac))) (ae2 (au6 (aaq aer (by rfl) T.b_isinstance aa2 (aaa (pv 0) (aaa (aef (v:=.ty "bool") rfl T.b_bool asr rfl) aac)))))))),?_⟩
 refine abb h fun ss c q B g=>?_
 refine exS1 ss q fun d a=>?_
 have k:=a
 clear a q
 show EvS B _ _ [some (.st d)]
 row_cond go
 cases d with
 | int i => refine adq ?_; row_cond go; exact k
 | bool b => refine adq ?_; row_cond go; exact k
 | _=>refine aei ?_;exact k
theorem sc_is_between:FnScope ["least","most","thing"] ["least","most","thing"] (aah s_is_between):=by row_cond sc
theorem adg (T:Txt K mg):Can P w K mg base "is_between" 2 ["least","most","thing"] (spP K (apu)):=by
 obtain ⟨f,fd,D⟩:=T.d_is_between
 refine D.can (D.fn.ok sc_is_between (fun vs H Q E h=>lenP h fun ss j q=>by obtain ⟨a,b,d,rfl,k⟩:=q;rfl) (fun cdv A outer s H vs Q E l h=>?_))
 have nd:=sc_is_between.nd
 refine ⟨_,(aag (aax (aeg (aai (aff T) l (aaa (pv 2) aac)) (ae2 (ap3 ar2 ar2 (pv 0) (pv 2) (pv 1)))))),?_⟩
 refine abb h fun ss j q B m=>?_
 refine exS3 ss q fun a b d c=>?_
 have k:=c
 clear c q
 show EvS B _ _ [some (.st (.int a)),some (.st (.int b)),some (.st d)]
 row_cond go
 refine ⟨d,rfl,?_⟩
 row_cond go
 cases d with
 | int i =>
  refine adq ?_
  row_cond go
  refine abk (fun g=>?_) (fun g=>?_)
  ·row_cond go
   have e:decide (i<=b)=btwD a b (.int i):=by
    show _=decide (a<=i/\i<=b)
    rw [aE3];simp [g]
   rw [e];exact k
  ·have e:false=btwD a b (.int i):=by
    show _=decide (a<=i/\i<=b)
    exact (aA8 (fun z=>g z.1)).symm
   rw [e];exact k
 | _=>exact aei k
theorem sc_is_place:FnScope ["n","thing"] ["n","thing"] (aah s_is_place):=by row_cond sc
theorem afg (T:Txt K mg):Can P w K mg base "is_place" 3 ["n","thing"] (spP K (aur)):=by
 obtain ⟨f,fd,D⟩:=T.d_is_place
 refine D.can (D.fn.ok sc_is_place (fun vs H Q E h=>lenP h fun ss b q=>by obtain ⟨n,d,rfl,k⟩:=q;rfl) (fun cdv A outer s H vs Q E c h=>?_))
 have nd:=sc_is_place.nd
 refine ⟨_,(aag (aax (aai (adg T) c (aaa aab (aaa (aad acj (pv 0) aab) (aaa (pv 1) aac)))))),?_⟩
 refine abb h fun ss b q B g=>?_
 refine exS2 ss q fun n d a=>?_
 have k:=a
 clear a q
 show EvS B _ _ [some (.st (.int n)),some (.st d)]
 row_cond go
 exact ⟨_,_,_,rfl,k⟩
def aws:VP:=fun ss Q=>∃ (n:Int) (es:List (Int × Int)),ss=[.st (webD n es)]/\0<=n/\n<=100/\InN n es/\es.length<=10000/\∀ tl,TiedL n (Tied es) tl->Q (.own (OLL (tlD tl)))
theorem sc_tied_places:FnScope ["web","n","ties","tied","a","b"] ["web"] (aah s_tied_places):=by row_cond sc
theorem aec (T:Txt K mg):Can P w K mg base "tied_places" 1 ["web"] (spP K (aws)):=by
 obtain ⟨f,fd,D⟩:=T.d_tied_places
 refine D.can (D.fn.ok sc_tied_places (fun vs H Q E h=>lenP h fun ss M q=>by obtain ⟨n,es,rfl,R,L,p,J,k⟩:=q;rfl) (fun cdv A outer s H vs Q E W h=>?_))
 have nd:=sc_tied_places.nd
 refine ⟨_,(aae (agu (pv 0) (adn rfl (aa4 (aan (i:=1) nd rfl (Or.inl rfl)) (aa4 (aan (i:=2) nd rfl (Or.inl rfl)) acn))))
  (aae (aeo (i:=3) nd rfl (Or.inl rfl) rfl (N:=["place"]) (src:=[none]) (by exact ab1 rfl rfl rfl rfl rfl rfl) (abq rfl T.b_range (aaa (pv 1) aac)) (fun _ _ _ _=>(aan (i:=0) (show List.Nodup (["place"]:List Str) by decide +kernel) rfl (Or.inl rfl) (hf:=Or.inr rfl))) (fun _ _ _ _=>ab0) (fun _ _ _ _=>(aa3 aac)))
  (aae (abp aF9 rfl (abd (pv 2)) (adn rfl (aa4 (aan (i:=4) nd rfl (Or.inl rfl)) (aa4 (aan (i:=5) nd rfl (Or.inl rfl)) acn)))
   (aae (abm (ac9 PySem.F.plainAttrs_list PySem.F.slot_list_append PySem.F.type_list_append abj (aao aap (pv 3) (pv 4) (fun _ _=>rfl)) (aaa (pv 5) aac)))
    (aag (abm (ac9 PySem.F.plainAttrs_list PySem.F.slot_list_append PySem.F.type_list_append abj (aao aap (pv 3) (pv 5) (fun _ _=>rfl)) (aaa (pv 4) aac))))))
  (aag (aax (pv 3)))))),?_⟩
 refine abb h fun ss M q B U=>?_
 refine exS2 ss q fun n es c=>?_
 have R:=c.1
 have L:=c.2.1
 have p:=c.2.2.1
 have J:=c.2.2.2.1
 have k:=c.2.2.2.2
 clear c q
 show EvS B _ _ [some (.st (webD n es)),none,none,none,none,none]
 row_cond go
 rw [acw]
 refine ⟨by omega,?_⟩
 row_cond go
 refine acr (fun i e=>∃ z I tl,e=[some (.st (webD n es)),some (.st (.int n)),some (.st (.list (es.map prD))),some (.own (OLL (tlD tl))),z,I]/\TiedL n (Tied (es.take i)) tl/\∀ j∈tl,j.length<=2 * i)
  ⟨none,none,List.replicate n.toNat [],by simp [tlD],⟨by simp;omega,fun i j hi w=>?_⟩,fun j S=>?_⟩ ?_ ?_
 ·rw [aE2] at hi
  split at hi
  ·cases hi;simp [Tied]
  ·cases hi
 ·have:=List.eq_of_mem_replicate S
  subst this;simp
 ·rintro i ⟨a,b⟩ e G l
  refine exS3 e l fun z I tl c=>?_
  have o:=c.1
  have m:=c.2
  clear c l
  have hi:i < es.length:=(ax6.mp G).1
  obtain ⟨a0,y,b0,r⟩:=p _ (ax7 G)
  dsimp only at a0 y b0 r
  row_cond go
  obtain ⟨j,d,_⟩:=o.get a0 y
  have O:=m j (ax7 d)
  refine ahe (n:=a.toNat) (ds:=j.map .int) rfl rfl rfl (by rw [ax8];exact ahf a0 (by rw [o.1];exact y)) (aia d) (by rw [ax8];omega) ?_
  dsimp only [List.set_cons_zero,List.set_cons_succ]
  have x:=o.put (q:=b) a0 y d
  rw [show j.map PyData.int ++ [.int b]=(j ++ [b]).map .int by simp,amv]
  have g:∀ us∈tl.set a.toNat (j ++ [b]),us.length<=2 * i+1:=fun us C=>by
   rcases List.mem_or_eq_of_mem_set C with h | h
   ·have:=m us h;omega
   ·subst h;simp;omega
  generalize tl.set a.toNat (j ++ [b])=tl2 at x g
  row_cond go
  obtain ⟨j,d,_⟩:=x.get b0 r
  have O:=g j (ax7 d)
  refine ahe (n:=b.toNat) (ds:=j.map .int) rfl rfl rfl (by rw [ax8];exact ahf b0 (by rw [x.1];exact r)) (aia d) (by rw [ax8];omega) ?_
  dsimp only [List.set_cons_zero,List.set_cons_succ]
  rw [show j.map PyData.int ++ [.int a]=(j ++ [a]).map .int by simp,amv]
  refine ⟨_,_,_,rfl,(x.put (q:=a) b0 r d).iff fun u v=>(Tied.snoc G u v).symm,fun us C=>?_⟩
  rcases List.mem_or_eq_of_mem_set C with h | h
  ·have:=g us h;omega
  ·subst h;simp;omega
 ·rintro e l
  refine exS3 e l fun z I tl c=>?_
  have o:=c.1
  have m:=c.2
  clear c l
  rw [aD3] at o
  row_cond go
  exact k tl o
end
@[reducible] def tlV (tl:List (List Int)):PyData:=.list ((tlD tl).map .list)
def ax0:VP:=fun ss Q=>∃ (n a:Int) (T:Int->Int->Prop) (tl:List (List Int)),ss=[.st (tlV tl),.st (.int a)]/\n<=100/\TiedL n T tl/\(∀ u v,T u v->0<=v/\v < n)/\0<=a/\a < n/\Q (.own (OL (lab n.toNat (Gr.farO T a))))
section
variable {P:Program} {w:World} {K:Frag} {mg:Str->Option Value} {base:Heap}
theorem sc_far_from:FnScope ["tied","start","far","edge","beyond","place","other"] ["tied","start"] (aah s_far_from):=by row_cond sc
theorem afh (T:Txt K mg):Can P w K mg base "far_from" 1 ["tied","start"] (spP K (ax0)):=by
 obtain ⟨f,fd,D⟩:=T.d_far_from
 refine D.can (D.fn.ok sc_far_from (fun vs H Q E h=>lenP h fun ss Q' q=>by obtain ⟨n,a,T,tl,rfl,n1,W,hT,a0,a1,k⟩:=q;rfl) (fun cdv A outer s H vs Q E hr h=>?_))
 have nd:=sc_far_from.nd
 refine ⟨_,(aae (aam (i:=2) nd rfl (Or.inl rfl) (aad aoj (aa3 (aaa ac1 aac)) (aaq abr (by rfl) T.b_len act (aaa (pv 0) aac))))
  (aae (agu aab (an6 (pv 2) (pv 1) akb))
  (aae (aam (i:=3) nd rfl (Or.inl rfl) (aa3 (aaa (pv 1) aac)))
  (aae (aj6 aF9 (ao1 (pv 3))
   (aae (aam (i:=4) nd rfl (Or.inl rfl) (aa3 aac))
    (aae (abp aF9 rfl (abd (pv 3)) (aan (i:=5) nd rfl (Or.inl rfl))
     (aag (abp aF9 rfl (abd (aao aap (pv 0) (pv 5) (fun _ _=>rfl))) (aan (i:=6) nd rfl (Or.inl rfl))
       (aag (abe (aa7 aml (aao aap (pv 2) (pv 6) (fun _ _=>rfl)) ac1 (aa0 _))
         (aae (agu (aad aar (aao aap (pv 2) (pv 5) (fun _ _=>rfl)) aab) (an6 (pv 2) (pv 6) akb))
          (aag (abm (ac9 PySem.F.plainAttrs_list PySem.F.slot_list_append PySem.F.type_list_append abj (pv 4) (aaa (pv 6) aac)))))
         aa6)))))
    (aag (aam (i:=3) nd rfl (Or.inl rfl) (pv 4))))))
  (aag (aax (pv 2))))))),?_⟩
 refine abb h fun ss Q' q B hK=>?_
 refine exS4 ss q fun n a T tl b=>?_
 have n1:=b.1
 have W:=b.2.1
 have hT:=b.2.2.1
 have a0:=b.2.2.2.1
 have a1:=b.2.2.2.2.1
 have k:=b.2.2.2.2.2
 clear b q
 show EvS B _ _ [some (.st (tlV tl)),some (.st (.int a)),none,none,none,none,none]
 have hl:tl.length=n.toNat:=by have:=W.1;omega
 row_cond go
 refine ams (by first | omega | (simp;done) | (simp;omega)) (by first | omega | (simp;done) | (simp;omega)) (by first | omega | (simp;done) | (simp;omega)) ?_
 simp only [ax8,hl]
 rw [show ((n.toNat:Nat):Int).toNat=n.toNat by omega,at9]
 row_cond go
 refine ann (j:=a.toNat) rfl (by rw [acs];exact ahf a0 (by omega)) ?_
 dsimp only [List.set_cons_zero,List.set_cons_succ,reS]
 rw [show (PyData.int 0)=.int ((0:Nat):Int) from rfl,amu a0 (by omega)]
 row_cond go
 refine ah8 3 rfl acu ?_
 dsimp only [List.set_cons_zero,List.set_cons_succ]
 refine aix (fun m e=>∃ v4 J y far edge r,e=[some (.st (tlV tl)),some (.st (.int a)),some (.own (OL (lab n.toNat far))),some (.st (.list (edge.map .int))),v4,J,y]/\Gr.Ring T a r far edge/\(∀ v∈edge,0<=v/\v < n)/\m=2 * cnt far n.toNat+(if edge=[] then 0 else 1))
  ⟨_,none,none,none,_,[a],0,rfl,Gr.Ring.start,fun v N=>by simp at N;subst N;exact ⟨a0,a1⟩,rfl⟩ ?_
 rintro m e l
 refine exS6 e l fun v4 J y far edge r b=>?_
 have R:=b.1
 have hb:=b.2.1
 have X:=b.2.2
 clear b l
 subst X
 row_cond go
 rw [alx]
 cases hedge:edge with
 | nil =>
  subst hedge
  refine aei ?_
  row_cond go
  rw [apc (g:=Gr.farO T a) fun v _ _=>R.fin v]
  exact k
 | cons e0 er =>
  refine adq ?_
  rw [← hedge]
  have S:edge ≠ []:=by rw [hedge];simp
  row_cond go
  refine acr (fun i e=>∃ J y c beyond,e=[some (.st (tlV tl)),some (.st (.int a)),some (.own (OL (lab n.toNat c))),some (.st (.list (edge.map .int))),some (.own (OL (beyond.map .int))),J,y]/\Gr.Mid T r far edge (fun u=>u∈edge.take i) c beyond/\cnt c n.toNat+beyond.length=cnt far n.toNat/\∀ v∈beyond,0<=v/\v < n)
   ⟨J,y,far,[],rfl,Gr.Mid.start.imp fun u L=>by simp at L,rfl,fun v N=>by simp at N⟩ ?_ ?_
  ·rintro i p e hp l
   refine exS4 e l fun J y c beyond b=>?_
   have C:=b.1
   have G:=b.2.1
   have o:=b.2.2
   clear b l
   have M:=ax7 hp
   obtain ⟨p0,p1⟩:=hb p M
   obtain ⟨ws,Y,hw⟩:=W.get p0 p1
   have a6:atI ((tlD tl).map PyData.list) p=some (.list (ws.map .int)):=adt (f:=PyData.list) (afy p0 (aia Y))
   row_cond go
   have a2:far p=some r:=(R.lab p r).mpr ⟨(R.edg p).mp M,ay1 _⟩
   refine acr (fun j e=>∃ y c beyond,e=[some (.st (tlV tl)),some (.st (.int a)),some (.own (OL (lab n.toNat c))),some (.st (.list (edge.map .int))),some (.own (OL (beyond.map .int))),some (.st (.int p)),y]/\Gr.Mid T r far edge (fun u=>u∈edge.take i) c beyond/\cnt c n.toNat+beyond.length=cnt far n.toNat/\(∀ v∈beyond,0<=v/\v < n)/\∀ x∈ws.take j,c x ≠ none)
    ⟨y,c,beyond,rfl,C,G,o,fun x I=>by simp at I⟩ ?_ ?_
   ·rintro j u e L l
    refine exS3 e l fun y c beyond b=>?_
    have C:=b.1
    have G:=b.2.1
    have o:=b.2.2.1
    have z:=b.2.2.2
    clear b l
    have tu:T p u:=(hw u).mp (ax7 L)
    obtain ⟨O,u1⟩:=hT _ _ tu
    have a5:atI (lab n.toNat c) u=some (oD (c u)):=apb O (by omega)
    have a4:atI (lab n.toNat c) p=some (.int (r:Int)):=by
     rw [apb p0 (by omega),C.old p r a2];rfl
    row_cond go
    rw [at8]
    cases hf:c u with
    | none =>
     refine adq ?_
     row_cond go
     refine ann (j:=u.toNat) rfl (by rw [acs];exact ahf O (by omega)) ?_
     dsimp only [List.set_cons_zero,List.set_cons_succ,reS]
     rw [show (PyData.int ((r:Int)+1))=.int ((r+1:Nat):Int) by simp,amu O (by omega)]
     have a3:=ai0 (d:=r+1) O hf (n:=n.toNat) (by omega)
     have Z:beyond.length<=cnt far n.toNat:=by omega
     have U:∀ m,cnt far m<=m:=fun m=>by
      induction m with
      | zero=>exact ay1 _
      | succ m ih=>unfold cnt;split <;> omega
     have:=U n.toNat
     row_cond go
     refine ⟨some (.st (.int u)),Gr.label c u (r+1),beyond ++ [u],by simp,C.add M tu hf,by simp;omega,fun v N=>?_,fun x I=>?_⟩
     ·rcases ay2.mp N with h | h
      ·exact o v h
      ·have:v=u:=by simpa using h
       subst this;exact ⟨O,u1⟩
     ·by_cases hx2:x=u
      ·subst hx2;rw [Gr.label_same];simp
      ·rw [Gr.label_ne hx2]
       rcases adu L I with h | h
       ·exact z x h
       ·exact absurd h hx2
    | some d =>
     refine aei ?_
     row_cond go
     refine ⟨_,c,beyond,rfl,C,G,o,fun x I=>?_⟩
     rcases adu L I with h | h
     ·exact z x h
     ·subst h;rw [hf];simp
   ·rintro e l
    refine exS3 e l fun y c beyond b=>?_
    have C:=b.1
    have G:=b.2.1
    have o:=b.2.2.1
    have z:=b.2.2.2
    clear b l
    rw [aD3] at z
    refine ⟨_,_,c,beyond,rfl,?_,G,o⟩
    refine (C.did (u:=p) fun x tx=>z x ((hw x).mpr tx)).imp fun x I=>?_
    exact adu hp I
  ·rintro e l
   refine exS4 e l fun J y c beyond b=>?_
   have C:=b.1
   have G:=b.2.1
   have o:=b.2.2
   clear b l
   row_cond go
   refine ⟨_,?_,_,_,_,c,beyond,r+1,rfl,R.next C fun u L=>by rw [aD3];exact L,o,rfl⟩
   rw [aC2 S]
   cases beyond with
   | nil=>rw [aC1 rfl];simp at G;omega
   | cons b0 br=>rw [aC2 (by simp)];simp at G;omega
end
def alz:VP:=fun ss Q=>∃ (n a:Int) (es:List (Int × Int)),ss=[.st (webD n es),.st (.int a)]/\0<=a/\a < n/\Q (.st .none)
def arm:VP:=fun ss Q=>∃ (n a:Int) (es:List (Int × Int)),ss=[.st (webD n es),.st (.int a)]/\n<=100/\InN n es/\es.length<=10000/\0<=a/\a < n/\Q (.own (OL (lab n.toNat (Gr.farO (Tied es) a))))
def arn:VP:=fun ss Q=>∃ (n:Int) (es:List (Int × Int)),ss=[.st (webD n es)]/\1<=n/\n<=100/\InN n es/\es.length<=10000/\∀ b:Bool,(b=true ↔ Joined n es)->Q (.st (.bool b))
section
variable {P:Program} {w:World} {K:Frag} {mg:Str->Option Value} {base:Heap}
theorem sc_need_place:FnScope ["web","thing"] ["web","thing"] (aah s_need_place):=by row_cond sc
theorem aif (T:Txt K mg):Can P w K mg base "need_place" 4 ["web","thing"] (spP K (alz)):=by
 obtain ⟨f,fd,D⟩:=T.d_need_place
 refine D.can (D.fn.ok sc_need_place (fun vs H Q E h=>lenP h fun ss c q=>by obtain ⟨n,a,es,rfl,a0,d,k⟩:=q;rfl) (fun cdv A outer s H vs Q E g h=>?_))
 have nd:=sc_need_place.nd
 refine ⟨_,(aag (abe (ab4 (ab3 (aai (afg T) g (aaa (aao aap (pv 0) aab (fun _ _=>rfl)) (aaa (pv 1) aac)))))
   (aag agc)
   aa6)),?_⟩
 refine abb h fun ss c q B i=>?_
 refine exS3 ss q fun n a es b=>?_
 have a0:=b.1
 have d:=b.2.1
 have k:=b.2.2
 clear b q
 show EvS B _ _ [some (.st (webD n es)),some (.st (.int a))]
 row_cond go
 refine ⟨_,_,rfl,?_⟩
 row_cond go
 have e:btwD 0 (n - 1) (.int a)=true:=aA9 ⟨a0,by omega⟩
 rw [e]
 row_cond go
 exact k
theorem sc_all_far:FnScope ["web","a"] ["web","a"] (aah s_all_far):=by row_cond sc
theorem al0 (T:Txt K mg):Can P w K mg base "all_far" 5 ["web","a"] (spP K (arm)):=by
 obtain ⟨f,fd,D⟩:=T.d_all_far
 refine D.can (D.fn.ok sc_all_far (fun vs H Q E h=>lenP h fun ss l q=>by obtain ⟨n,a,es,rfl,g,c,d,a0,i,k⟩:=q;rfl) (fun cdv A outer s H vs Q E j h=>?_))
 have nd:=sc_all_far.nd
 refine ⟨_,(aae (abm (aai (aif T) j (aaa (pv 0) (aaa (pv 1) aac))))
  (aag (aax (aai (afh T) j (aaa (aai (aec T) j (aaa (pv 0) aac)) (aaa (pv 1) aac)))))),?_⟩
 refine abb h fun ss l q B o=>?_
 refine exS3 ss q fun n a es b=>?_
 have g:=b.1
 have c:=b.2.1
 have d:=b.2.2.1
 have a0:=b.2.2.2.1
 have i:=b.2.2.2.2.1
 have k:=b.2.2.2.2.2
 clear b q
 show EvS B _ _ [some (.st (webD n es)),some (.st (.int a))]
 row_cond go
 refine ⟨n,a,es,rfl,a0,i,?_⟩
 row_cond go
 refine ⟨n,es,rfl,by omega,g,c,d,fun tl m=>?_⟩
 refine awf ?_
 row_cond go
 exact ⟨n,a,Tied es,tl,rfl,g,m,fun u v h=>(h.in c).2,a0,i,k⟩
theorem sc_is_joined:FnScope ["web"] ["web"] (aah s_is_joined):=by row_cond sc
theorem aez (T:Txt K mg):Can P w K mg base "is_joined" 6 ["web"] (spP K (arn)):=by
 obtain ⟨f,fd,D⟩:=T.d_is_joined
 refine D.can (D.fn.ok sc_is_joined (fun vs H Q E h=>lenP h fun ss j q=>by obtain ⟨n,es,rfl,m,g,b,c,k⟩:=q;rfl) (fun cdv A outer s H vs Q E i h=>?_))
 have nd:=sc_is_joined.nd
 refine ⟨_,(aag (aax (abv (aoz i.units) ac1 (aai (al0 T) i (aaa (pv 0) (aaa aab aac))) rfl))),?_⟩
 refine abb h fun ss j q B o=>?_
 refine exS2 ss q fun n es a=>?_
 have m:=a.1
 have g:=a.2.1
 have b:=a.2.2.1
 have c:=a.2.2.2.1
 have k:=a.2.2.2.2
 clear a q
 show EvS B _ _ [some (.st (webD n es))]
 row_cond go
 refine ⟨n,0,es,rfl,g,b,c,by omega,by omega,?_⟩
 row_cond go
 refine atm rfl apd (by simp [PyData.depth]) ?_
 row_cond go
 refine k _ ?_
 rw [aC1 rfl,Bool.not_eq_true',← Bool.not_eq_true,aua]
 constructor
 ·intro h v v0 l
  cases e:Gr.farO (Tied es) 0 v with
  | some d=>exact ⟨d,Gr.farO_some.mp e⟩
  | none=>exact absurd ⟨v,v0,by omega,e⟩ h
 ·rintro h ⟨v,v0,l,e⟩
  obtain ⟨d,hd⟩:=h v v0 (by omega)
  exact Gr.farO_none.mp e d hd
end
def dsF (es:List (Int × Int)) (u v:Int):Int:=(((Gr.farO (Tied es) u v).getD 0:Nat):Int)
def rowD (n:Nat) (r:Int->Int):List PyData:=(List.range n).map fun (i:Nat) => .int (r (i:Int))
def matD (n:Nat) (m:Int->Int->Int):List PyData:=(List.range n).map fun (u:Nat) => .list (rowD n (m (u:Int)))
theorem awt {n:Nat} {r:Int->Int} {x:Int} (a:0<=x) (b:x < n):atI (rowD n r) x=some (.int (r x)):=by
 have:=afo (xs:=rowD n r) (j:=x.toNat) (v:=.int (r x)) (by
  unfold rowD
  rw [ay0,ax5 (by simp;omega)]
  simp [Int.max_eq_left a])
 rwa [show ((x.toNat:Nat):Int)=x by omega] at this
theorem awu {n:Nat} {m:Int->Int->Int} {x:Int} (a:0<=x) (b:x < n):atI (matD n m) x=some (.list (rowD n (m x))):=by
 have:=afo (xs:=matD n m) (j:=x.toNat) (v:=.list (rowD n (m x))) (by
  unfold matD
  rw [ay0,ax5 (by simp;omega)]
  simp [Int.max_eq_left a])
 rwa [show ((x.toNat:Nat):Int)=x by omega] at this
theorem aus {n:Nat} {m:Int->Int->Int}:(matD n m).length=n:=by simp [matD]
theorem ahn {n:Int} {es:List (Int × Int)} (a:Joined n es) {u v:Int} (g:0<=u) (b:u < n) (v0:0<=v) (f:v < n):∃ d,Gr.farO (Tied es) u v=some d:=by
 cases e:Gr.farO (Tied es) u v with
 | some d=>exact ⟨d,rfl⟩
 | none =>
  obtain ⟨k,c⟩:=a.conn u v g b v0 f
  obtain ⟨d,_,hd⟩:=Gr.Dist.of_walk c
  exact absurd hd (Gr.farO_none.mp e d)
theorem aut {n:Int} {es:List (Int × Int)} (a:Joined n es) {u:Int} (c:0<=u) (b:u < n):lab n.toNat (Gr.farO (Tied es) u)=rowD n.toNat (dsF es u):=by
 unfold lab rowD
 refine aB6 fun i hi=>?_
 obtain ⟨d,e⟩:=ahn a c b (show 0<=(i:Int) by omega) (by have:=az3.mp hi;omega)
 simp only [dsF,e,oD,Option.getD_some]
theorem agq {α:Type} {K:Frag} {src:List (Option Nat)} {a:En} {te:TE} {R:List PyData->En->Prop} {xs:List α} {f : α->PyData} (g : α->PyData) (j:noIo (aak src a)=true) (z:xs.length<=999999)
  (h:∀ x∈xs,∀ c:Bs,c.K=K->Ev c te (some (.st (f x)) :: aak src a) fun y m=>y=g x/\m=some (.st (f x)) :: aak src a)
  (u:R (xs.map g) a):LcV K (none :: src) (aav 0) tYes te (xs.map f) a R:=by
 have b:noIo (aak (none :: src) a)=true:=by
  show ((none :: aak src a).all fun s => !isIo s)=true
  rw [List.all_cons]
  exact (aD6 _ _).mpr ⟨rfl,j⟩
 refine ⟨fun i ys e=>ys=(xs.take i).map g/\∃ o,e=stO o :: aak src a,⟨by simp,none,rfl⟩,?_,?_,?_⟩
 ·rintro i ys e ⟨_,o,rfl⟩
  exact ⟨⟨isIo_stO.symm,acz⟩,ads adk⟩
 ·rintro i d ys e hd ⟨rfl,o,rfl⟩ c p
  rw [ay0] at hd
  cases hx:xs[i]? with
  | none=>rw [hx] at hd;cases hd
  | some x =>
   rw [hx] at hd
   cases hd
   have hi:i < xs.length:=(ax6.mp hx).1
   have q:xs.take (i+1)=xs.take i ++ [x]:=by rw [aD9,hx];rfl
   refine aaw (aco ?_)
   rw [aC1 rfl]
   intro σ G H F Q I k
   refine h x (ax7 hx) c p σ G H F Q I fun v G' H' F' d' m w g' n ⟨r,l⟩=>k v G' H' F' d' m w g' n ?_
   subst r l
   refine ⟨by simp;omega,by rw [q];simp,some _,rfl⟩
 ·rintro ys e ⟨rfl,o,rfl⟩
  rw [afw b]
  simpa using u
def alk:VP:=fun ss Q=>∃ (n:Int) (es:List (Int × Int)),ss=[.st (webD n es)]/\1<=n/\n<=100/\InN n es/\es.length<=10000/\Joined n es/\Q (.st .none)
def apv:VP:=fun ss Q=>∃ (n:Int) (es:List (Int × Int)),ss=[.st (webD n es)]/\1<=n/\n<=100/\InN n es/\es.length<=10000/\Joined n es/\Q (.own (OL (matD n.toNat (dsF es))))
structure FreeAll (n:Int) (es fs:List (Int × Int)):Prop where
 mem:∀ p:Int × Int,p∈fs ↔ (0<=p.1/\p.1 < p.2/\p.2 < n/\p ∉ es)
 rise:Rise fs
theorem FreeAll.eq {n:Int} {es fs a:List (Int × Int)} (h:FreeAll n es fs) (g:FreeAll n es a):fs=a:=h.rise.eq g.rise fun p=>by rw [h.mem,g.mem]
theorem FreeAll.len {n:Int} {es fs:List (Int × Int)} (h:FreeAll n es fs) (a:n<=100):fs.length<=10000:=PsOk.len ⟨h.rise.nodup,fun p b=>by have:=(h.mem p).mp b;omega⟩ a
section
variable {P:Program} {w:World} {K:Frag} {mg:Str->Option Value} {base:Heap}
theorem sc_need_joined:FnScope ["web"] ["web"] (aah s_need_joined):=by row_cond sc
theorem aho (T:Txt K mg):Can P w K mg base "need_joined" 7 ["web"] (spP K (alk)):=by
 obtain ⟨f,fd,D⟩:=T.d_need_joined
 refine D.can (D.fn.ok sc_need_joined (fun vs H Q E h=>lenP h fun ss l q=>by obtain ⟨n,es,rfl,j,g,c,d,i,k⟩:=q;rfl) (fun cdv A outer s H vs Q E m h=>?_))
 have nd:=sc_need_joined.nd
 refine ⟨_,(aag (abe (ab4 (ab3 (aai (aez T) m (aaa (pv 0) aac))))
   (aag agc)
   aa6)),?_⟩
 refine abb h fun ss l q B o=>?_
 refine exS2 ss q fun n es a=>?_
 have j:=a.1
 have g:=a.2.1
 have c:=a.2.2.1
 have d:=a.2.2.2.1
 have i:=a.2.2.2.2.1
 have k:=a.2.2.2.2.2
 clear a q
 show EvS B _ _ [some (.st (webD n es))]
 row_cond go
 refine ⟨n,es,rfl,j,g,c,d,fun b hb=>?_⟩
 have:b=true:=hb.mpr i
 subst this
 row_cond go
 exact k
theorem sc_far_rows:FnScope ["web","tied"] ["web"] (aah s_far_rows):=by row_cond sc
theorem afi (T:Txt K mg):Can P w K mg base "far_rows" 8 ["web"] (spP K (apv)):=by
 obtain ⟨f,fd,D⟩:=T.d_far_rows
 refine D.can (D.fn.ok sc_far_rows (fun vs H Q E h=>lenP h fun ss r q=>by obtain ⟨n,es,rfl,o,d,b,c,j,k⟩:=q;rfl) (fun cdv A outer s H vs Q E l h=>?_))
 have nd:=sc_far_rows.nd
 refine ⟨_,(aae (abm (aai (aho T) l (aaa (pv 0) aac)))
  (aae (aam (i:=1) nd rfl (Or.inr rfl) (aai (aec T) l (aaa (pv 0) aac)))
  (aag (aax (aen rfl (N:=["place","tied"]) (src:=[none,some 1]) (by exact ab1 rfl rfl rfl rfl rfl rfl) (abq rfl T.b_range (aaa (aaq abr (by rfl) T.b_len act (aaa (pv 1) aac)) aac)) (fun _ _ _ _=>(aan (i:=0) (show List.Nodup (["place","tied"]:List Str) by decide +kernel) rfl (Or.inl rfl) (hf:=Or.inr rfl))) (fun _ _ _ _=>ab0) (fun _ _ _ _=>(aai (afh T) l (aaa (pv 1) (aaa (pv 0) aac))))))))),?_⟩
 refine abb h fun ss r q B C=>?_
 refine exS2 ss q fun n es a=>?_
 have o:=a.1
 have d:=a.2.1
 have b:=a.2.2.1
 have c:=a.2.2.2.1
 have j:=a.2.2.2.2.1
 have k:=a.2.2.2.2.2
 clear a q
 show EvS B _ _ [some (.st (webD n es)),none]
 row_cond go
 refine ⟨n,es,rfl,o,d,b,c,j,?_⟩
 row_cond go
 refine ⟨n,es,rfl,by omega,d,b,c,fun tl p=>?_⟩
 refine af0 ah9 ?_
 have y:tl.length=n.toNat:=by have:=p.1;omega
 have m:((tlD tl).map PyData.list).length=n.toNat:=by simp [tlD,y]
 row_cond go
 rw [m,show (((n.toNat:Nat):Int)).toNat=n.toNat by omega]
 unfold rngD
 refine agq (fun u:Nat => .list (rowD n.toNat (dsF es (u:Int)))) rfl (by simp;omega) (fun u x z F=>?_) ?_
 ·have g:(u:Int) < n:=by have:=az3.mp x;omega
  row_cond go
  refine ⟨n,0+(u:Int),Tied es,tl,rfl,d,p,fun u v h=>(h.in b).2,by omega,by omega,adj ⟨?_,rfl⟩⟩
  rw [Int.zero_add,aut j (by omega) g]
 ·row_cond go
  exact k
end
@[reducible] def plD (ps:List Int):PyData:=.list (ps.map .int)
def apw:VP:=fun ss Q=>∃ r:Int,ss=[.st (.int r)]/\-1000000000000000000000000000000<=r/\r<=1000000000000000000000000000000/\Q (.st (.int (2 * r+1)))
def alm:VP:=fun ss Q=>∃ r:Int,ss=[.st (.int r)]/\-1000000000000000000000000000000<=r/\r<=1000000000000000000000000000000/\Q (.st (.int (2 * r+2)))
section
variable {P:Program} {w:World} {K:Frag} {mg:Str->Option Value} {base:Heap}
theorem sc_need_far:FnScope ["r"] ["r"] (aah s_need_far):=by row_cond sc
theorem aln (T:Txt K mg):Can P w K mg base "need_far" 1 ["r"] (spP K (apw)):=by
 obtain ⟨f,fd,D⟩:=T.d_need_far
 refine D.can (D.fn.ok sc_need_far (fun vs H Q E h=>lenP h fun ss b q=>by obtain ⟨r,rfl,c,d,k⟩:=q;rfl) (fun cdv A outer s H vs Q E i h=>?_))
 have nd:=sc_need_far.nd
 refine ⟨_,(aag (aax (aad aar (aad acb aab (pv 0)) aab))),?_⟩
 refine abb h fun ss b q B g=>?_
 refine exS1 ss q fun r a=>?_
 have c:=a.1
 have d:=a.2.1
 have k:=a.2.2
 clear a q
 show EvS B _ _ [some (.st (.int r))]
 row_cond go
 exact k
theorem sc_need_places:FnScope ["k"] ["k"] (aah s_need_places):=by row_cond sc
theorem ahp (T:Txt K mg):Can P w K mg base "need_places" 1 ["k"] (spP K (alm)):=by
 obtain ⟨f,fd,D⟩:=T.d_need_places
 refine D.can (D.fn.ok sc_need_places (fun vs H Q E h=>lenP h fun ss b q=>by obtain ⟨r,rfl,c,d,k⟩:=q;rfl) (fun cdv A outer s H vs Q E i h=>?_))
 have nd:=sc_need_places.nd
 refine ⟨_,(aag (aax (aad aar (aad acb aab (pv 0)) aab))),?_⟩
 refine abb h fun ss b q B g=>?_
 refine exS1 ss q fun r a=>?_
 have c:=a.1
 have d:=a.2.1
 have k:=a.2.2
 clear a q
 show EvS B _ _ [some (.st (.int r))]
 row_cond go
 exact k
end
def awv:VP:=fun ss Q=>∃ (r:Int) (ps:List Int),ss=[.st (.tuple [.int r,plD ps])]/\Q (.st (.bool true))
def aww:VP:=fun ss Q=>∃ (ps:List Int),ss=[.st (plD ps)]/\ps.length<=100000/\∀ b:Bool,(b=true ↔ ps.Pairwise (· < ·))->Q (.st (.bool b))
def anw:VP:=fun ss Q=>∃ (n:Nat) (m:Int->Int->Int) (least:Int) (ps:List Int),ss=[.st (.list (matD n m)),.st (.int least),.st (plD ps)]/\n<=1000/\ps.length<=900/\(∀ x∈ps,0<=x/\x < n)/\∀ b:Bool,(b=true ↔ ∀ a∈ps,∀ c∈ps,a < c->m a c ≥ least)->Q (.st (.bool b))
structure ShowOk (n:Int) (es:List (Int × Int)) (k r:Int) (ps:List Int):Prop where
 k0:0<=k
 r0:0<=r
 len:2 * k+2<=ps.length
 inn:∀ x∈ps,0<=x/\x < n
 rise:ps.Pairwise (· < ·)
 far:∀ a∈ps,∀ c∈ps,a < c->dsF es a c ≥ 2 * r+1
def auu:VP:=fun ss Q=>∃ (n:Int) (es:List (Int × Int)) (k r:Int) (ps:List Int),ss=[.st (webD n es),.st (.int k),.st (.tuple [.int r,plD ps])]/\1<=n/\n<=100/\InN n es/\es.length<=10000/\Joined n es/\-1000000000000000000000000000000<=k/\k<=1000000000000000000000000000000/\-1000000000000000000000000000000<=r/\r<=1000000000000000000000000000000/\ps.length<=900/\∀ b:Bool,(b=true ↔ ShowOk n es k r ps)->Q (.st (.bool b))
theorem apx {α β:Type} (xs:List α) (ys:List β) (q : α->β->Bool) (f : α->β->PyData):(xs.flatMap fun x=>(ys.filter (q x)).map (f x)).length<=xs.length * ys.length:=by
 induction xs with
 | nil=>simp
 | cons x xs ih =>
  rw [List.flatMap_cons,ay5,ax8,aB3,Nat.succ_mul]
  have:=aB9 (q x) ys
  omega
section
variable {P:Program} {w:World} {K:Frag} {mg:Str->Option Value} {base:Heap}
theorem sc_is_pair:FnScope ["thing"] ["thing"] (aah s_is_pair):=by row_cond sc
theorem al1 (T:Txt K mg):Can P w K mg base "is_pair" 2 ["thing"] (spP K (awv)):=by
 obtain ⟨f,fd,D⟩:=T.d_is_pair
 refine D.can (D.fn.ok sc_is_pair (fun vs H Q E h=>lenP h fun ss b q=>by obtain ⟨r,ps,rfl,k⟩:=q;rfl) (fun cdv A outer s H vs Q E c h=>?_))
 have nd:=sc_is_pair.nd
 refine ⟨_,(aae (abe (PW.pt (agt (ab4 (ab3 (aaq aer (by rfl) T.b_isinstance aa2 (aaa (pv 0) (aaa (aef (v:=.ty "tuple") rfl T.b_tuple aqe rfl) aac))))) (ae1 (aa7 ar1 (aaq abr (by rfl) T.b_len act (aaa (pv 0) aac)) aab (aa0 _)))))
   (aag (aax ab2))
   aa6)
  (aag (aax (aeg (aai (aff T) c (aaa (aao aap (pv 0) aab (fun _ _=>rfl)) aac)) (ae2 (aaq aer (by rfl) T.b_isinstance aa2 (aaa (aao aap (pv 0) aab (fun _ _=>rfl)) (aaa (aef (v:=.ty "list") rfl T.b_list ahv rfl) aac)))))))),?_⟩
 refine abb h fun ss b q B d=>?_
 refine exS2 ss q fun r ps a=>?_
 have k:=a
 clear a q
 show EvS B _ _ [some (.st (.tuple [.int r,plD ps]))]
 row_cond go
 refine ahz ?_
 row_cond go
 refine adf ?_
 row_cond go
 refine ⟨_,rfl,?_⟩
 row_cond go
 rw [aC1 (show isInt (PyData.int r)=true from rfl)]
 row_cond go
 exact k
theorem sc_is_rising:FnScope ["things"] ["things"] (aah s_is_rising):=by row_cond sc
theorem ajs (T:Txt K mg):Can P w K mg base "is_rising" 1 ["things"] (spP K (aww)):=by
 obtain ⟨f,fd,D⟩:=T.d_is_rising
 refine D.can (D.fn.ok sc_is_rising (fun vs H Q E h=>lenP h fun ss o q=>by obtain ⟨ps,rfl,r,k⟩:=q;rfl) (fun cdv A outer s H vs Q E C h=>?_))
 have nd:=sc_is_rising.nd
 refine ⟨_,(aag (aax (aaq (afd rfl) (by rfl) T.b_all akl (aaa (aen rfl (N:=["at","things"]) (src:=[none,some 0]) (by exact ab1 rfl rfl rfl rfl rfl rfl) (abq rfl T.b_range (aaa (aad acj (aaq abr (by rfl) T.b_len act (aaa (pv 0) aac)) aab) aac)) (fun _ _ _ _=>(aan (i:=0) (show List.Nodup (["at","things"]:List Str) by decide +kernel) rfl (Or.inl rfl) (hf:=Or.inr rfl))) (fun _ _ _ _=>ab0) (fun _ _ _ _=>(abv adv (aao (show IxR _ (ab7 K) from aap) (pv 1) (pv 0) (fun _ _=>rfl)) (aao (show IxR _ (ab7 K) from aap) (pv 1) (aad aar (pv 0) aab) (fun _ _=>rfl)) (aa0 _)))) aac)))),?_⟩
 refine abb h fun ss o q B x=>?_
 refine exS1 ss q fun ps j=>?_
 have r:=j.1
 have k:=j.2
 clear j q
 show EvS B _ _ [some (.st (plD ps))]
 row_cond go
 rw [ax8]
 row_cond go
 refine ate (fun d=>match d with | .int i => .bool (match ps[i.toNat]?,ps[i.toNat+1]? with | some p,some q=>decide (p < q) | _,_=>false) | _ => .none) rfl (by rw [acw];omega) (fun d hd v z=>?_) ?_
 ·obtain ⟨i,hi⟩:=List.mem_iff_getElem?.mp hd
  obtain ⟨hi,rfl⟩:=agl hi
  have m:i < ps.length:=by omega
  have n:i+1 < ps.length:=by omega
  have y:atI (ps.map PyData.int) (0+(i:Int))=some (.int ps[i]):=adt (f:=PyData.int) (afy (by omega) (by rw [show (0+(i:Int)).toNat=i by omega];exact ax5 m))
  have u:atI (ps.map PyData.int) (0+(i:Int)+1)=some (.int ps[i+1]):=adt (f:=PyData.int) (afy (by omega) (by rw [show (0+(i:Int)+1).toNat=i+1 by omega];exact ax5 n))
  row_cond go
  refine ⟨?_,rfl⟩
  simp [m,n]
 ·row_cond go
  have e:(rngD 0 ((ps.length:Int) - 1).toNat).map (fun d=>match d with | .int i=>PyData.bool (match ps[i.toNat]?,ps[i.toNat+1]? with | some p,some q=>decide (p < q) | _,_=>false) | _ => .none)=((List.range (ps.length - 1)).map fun i=>match ps[i]?,ps[i+1]? with | some p,some q=>decide (p < q) | _,_=>false).map .bool:=by
   unfold rngD
   rw [aB0,aB0,show ((ps.length:Int) - 1).toNat=ps.length - 1 by omega]
   apply aB6
   intro i _
   simp
  rw [e]
  refine aib ?_
  row_cond go
  refine k _ ?_
  rw [List.all_map,aC0]
  rw [ale (· < ·) (fun {a b c} h g=>Int.lt_trans h g)]
  constructor
  ·intro h i hi
   have:=h i (az3.mpr (by omega))
   simp [show i < ps.length by omega,hi] at this
   exact this
  ·intro h i hi
   have l:i+1 < ps.length:=by have:=az3.mp hi;omega
   have:=h i l
   simp [show i < ps.length by omega,l,this]
theorem sc_are_apart:FnScope ["rows","least","places"] ["rows","least","places"] (aah s_are_apart):=by row_cond sc
theorem ajt (T:Txt K mg):Can P w K mg base "are_apart" 1 ["rows","least","places"] (spP K (anw)):=by
 obtain ⟨f,fd,D⟩:=T.d_are_apart
 refine D.can (D.fn.ok sc_are_apart (fun vs H Q E h=>lenP h fun ss z q=>by obtain ⟨n,m,least,ps,rfl,hn,p,d,k⟩:=q;rfl) (fun cdv A outer s H vs Q E J h=>?_))
 have nd:=sc_are_apart.nd
 refine ⟨_,(aag (aax (aaq (afd rfl) (by rfl) T.b_all akl (aaa (ave rfl (N:=["a","b","least","rows","places"]) (src:=[none,none,some 1,some 0,some 2]) (by exact ab1 rfl rfl rfl rfl rfl rfl) (abd (pv 2)) (fun _ _ _ _=>(aan (i:=0) (show List.Nodup (["a","b","least","rows","places"]:List Str) by decide +kernel) rfl (Or.inl rfl) (hf:=Or.inr rfl))) (fun _ _ _ _=>ab0) (fun _ _ _ _=>(show PI _ _ _ (am6 K _) from abd (pv 4))) (fun _ _ _ _=>(aan (i:=1) (show List.Nodup (["a","b","least","rows","places"]:List Str) by decide +kernel) rfl (Or.inl rfl) (hf:=Or.inr rfl))) (fun _ _ _ _=>aso (aa7 adv (pv 0) (pv 1) (aa0 _))) (fun _ _ _ _=>(abv agw (aao (show IxR _ (ab7 K) from aap) (aao (show IxR _ (ab7 K) from aap) (pv 3) (pv 0) (fun _ _=>rfl)) (pv 1) (fun _ _=>rfl)) (pv 2) (aa0 _)))) aac)))),?_⟩
 refine abb h fun ss z q B G=>?_
 refine exS4 ss q fun n m least ps g=>?_
 have hn:=g.1
 have p:=g.2.1
 have d:=g.2.2.1
 have k:=g.2.2.2
 clear g q
 show EvS B _ _ [some (.st (.list (matD n m))),some (.st (.int least)),some (.st (plD ps))]
 row_cond go
 refine ard (xs:=ps) (fun _=>ps) .int (fun a c => .bool (decide (m a c ≥ least))) (fun a c=>decide (a < c)) ?_ ?_ ?_ ?_ ?_
 ·exact aps rfl
 ·refine aA4 (apx ps ps _ _) (aA4 (Nat.mul_le_mul p p) (by decide))
 ·intro a ha y C o
  row_cond go
  exact rfl
 ·intro a ha c j y C
  have I:=awu (n:=n) (m:=m) (x:=a) (d a ha).1 (d a ha).2
  have F:=awt (n:=n) (r:=m a) (x:=c) (d c j).1 (d c j).2
  row_cond go
  intro _
  row_cond go
  exact rfl
 ·row_cond go
  rw [show (ps.flatMap fun x=>(ps.filter fun c=>decide (x < c)).map fun c=>PyData.bool (decide (m x c ≥ least)))=(ps.flatMap fun x=>(ps.filter fun c=>decide (x < c)).map fun c=>decide (m x c ≥ least)).map .bool by rw [List.map_flatMap];congr 1;funext x;rw [aB0];rfl]
  refine aib ?_
  row_cond go
  refine k _ ?_
  rw [aC0]
  constructor
  ·intro h a ha c j l
   have:=h (decide (m a c ≥ least)) (List.mem_flatMap.mpr ⟨a,ha,az1.mpr ⟨c,List.mem_filter.mpr ⟨j,by simpa using l⟩,rfl⟩⟩)
   simpa using this
  ·intro h b hb
   obtain ⟨a,ha,hb⟩:=List.mem_flatMap.mp hb
   obtain ⟨c,j,rfl⟩:=az1.mp hb
   obtain ⟨v,u⟩:=List.mem_filter.mp j
   simpa using h a ha c v (by simpa using u)
theorem sc_stay_shows:FnScope ["web","k","paper","rows","r","places"] ["web","k","paper"] (aah s_stay_shows):=by row_cond sc
theorem aig (T:Txt K mg):Can P w K mg base "stay_shows" 9 ["web","k","paper"] (spP K (auu)):=by
 obtain ⟨f,fd,D⟩:=T.d_stay_shows
 refine D.can (D.fn.ok sc_stay_shows (fun vs H Q E h=>lenP h fun ss C q=>by obtain ⟨n,es,k,r,ps,rfl,G,y,l,u,z,I,S,M,rb,F,v⟩:=q;rfl) (fun cdv A outer s H vs Q E j h=>?_))
 have nd:=sc_stay_shows.nd
 refine ⟨_,(aae (aam (i:=3) nd rfl (Or.inr rfl) (aai (afi T) j (aaa (pv 0) aac)))
  (aae (abe (PW.pt (agt (aa7 adv (pv 1) aab (aa0 _)) (ae1 (ab4 (ab3 (aai (al1 T) j (aaa (pv 2) aac)))))))
   (aag (aax ab2))
   aa6)
  (aae (agu (pv 2) (adn rfl (aa4 (aan (i:=4) nd rfl (Or.inl rfl)) (aa4 (aan (i:=5) nd rfl (Or.inl rfl)) acn))))
  (aae (abe (PW.pt (agt (aa7 adv (pv 4) aab (aa0 _)) (ae1 (aa7 adv (aaq abr (by rfl) T.b_len act (aaa (pv 5) aac)) (aai (ahp T) j (aaa (pv 1) aac)) (aa0 _)))))
   (aag (aax ab2))
   aa6)
  (aae (abe (ab4 (ab3 (aaq (afd rfl) (by rfl) T.b_all akl (aaa (aen rfl (N:=["place","rows"]) (src:=[none,some 3]) (by exact ab1 rfl rfl rfl rfl rfl rfl) (abd (pv 5)) (fun _ _ _ _=>(aan (i:=0) (show List.Nodup (["place","rows"]:List Str) by decide +kernel) rfl (Or.inl rfl) (hf:=Or.inr rfl))) (fun _ _ _ _=>ab0) (fun _ _ _ _=>(aai (afg T) j (aaa (aaq (show abh _ (.builtin "len") (rLen K) from abr) (by rfl) T.b_len act (aaa (pv 1) aac)) (aaa (pv 0) aac))))) aac))))
   (aag (aax ab2))
   aa6)
  (aag (aax (aeg (aai (ajs T) j (aaa (pv 5) aac)) (ae2 (aai (ajt T) j (aaa (pv 3) (aaa (aai (aln T) j (aaa (pv 4) aac)) (aaa (pv 5) aac))))))))))))),?_⟩
 refine abb h fun ss C q B X=>?_
 refine exS5 ss q fun n es k r ps a=>?_
 have G:=a.1
 have y:=a.2.1
 have l:=a.2.2.1
 have u:=a.2.2.2.1
 have z:=a.2.2.2.2.1
 have I:=a.2.2.2.2.2.1
 have S:=a.2.2.2.2.2.2.1
 have M:=a.2.2.2.2.2.2.2.1
 have rb:=a.2.2.2.2.2.2.2.2.1
 have F:=a.2.2.2.2.2.2.2.2.2.1
 have v:=a.2.2.2.2.2.2.2.2.2.2
 clear a q
 show EvS B _ _ [some (.st (webD n es)),some (.st (.int k)),some (.st (.tuple [.int r,plD ps])),none,none,none]
 row_cond go
 refine ⟨n,es,rfl,G,y,l,u,z,af0 acu ?_⟩
 row_cond go
 have no:¬ ShowOk n es k r ps->C (.st (.bool false)):=fun h=>v false ⟨fun e=>(by cases e),fun e=>absurd e h⟩
 refine abk (fun J=>?_) (fun J=>?_)
 ·row_cond go
  exact no fun h=>by have:=h.k0;omega
 ·row_cond go
  refine ⟨r,ps,rfl,?_⟩
  row_cond go
  refine abk (fun R=>?_) (fun R=>?_)
  ·row_cond go
   exact no fun h=>by have:=h.r0;omega
  ·row_cond go
   refine ⟨k,rfl,by omega,by omega,?_⟩
   row_cond go
   rw [ax8]
   refine abk (fun L=>?_) (fun L=>?_)
   ·row_cond go
    exact no fun h=>by have:=h.len;omega
   ·refine adf ?_
    row_cond go
    refine agq (fun o:Int => .bool (btwD 0 (n - 1) (.int o))) rfl (by omega) (fun o U W Y=>?_) ?_
    ·row_cond go
     refine ⟨n,.int o,?_,?_⟩
     ·rw [aus]
      simp
      omega
     ·row_cond go
      exact rfl
    ·row_cond go
     rw [show (ps.map fun o=>PyData.bool (btwD 0 (n - 1) (.int o)))=(ps.map fun o=>btwD 0 (n - 1) (.int o)).map .bool by rw [aB0];rfl]
     refine aib ?_
     row_cond go
     have c:(ps.map fun o=>btwD 0 (n - 1) (.int o)).all id=true ↔ ∀ x∈ps,0<=x/\x < n:=by
      rw [List.all_map,aC0]
      constructor
      ·intro h x p;have:=h x p;simp [btwD] at this;omega
      ·intro h x p;have:=h x p;simp [btwD];omega
     cases hb:(ps.map fun o=>btwD 0 (n - 1) (.int o)).all id with
     | false =>
      row_cond go
      exact no fun h=>by have:=c.mpr h.inn;rw [hb] at this;cases this
     | true =>
      have d:=c.mp hb
      row_cond go
      refine ⟨ps,rfl,by omega,fun b hb=>?_⟩
      row_cond go
      cases b with
      | false =>
       row_cond go
       exact no fun h=>by have:=hb.mpr h.rise;cases this
      | true =>
       have g:=hb.mp rfl
       row_cond go
       refine ⟨r,rfl,by omega,by omega,?_⟩
       row_cond go
       refine ⟨n.toNat,dsF es,2 * r+1,ps,rfl,by omega,F,fun x p=>by have:=d x p;omega,fun O m=>?_⟩
       row_cond go
       exact v O ⟨fun e=>⟨by omega,by omega,by omega,d,g,m.mp e⟩,fun h=>m.mpr h.far⟩
end
def apy:VP:=fun ss Q=>∃ (a b c:Int),ss=[.st (.int a),.st (.int b),.st (.int c)]/\a<=c/\c<=b/\Q (.st .none)
section
variable {P:Program} {w:World} {K:Frag} {mg:Str->Option Value} {base:Heap}
theorem sc_need_number:FnScope ["least","most","thing"] ["least","most","thing"] (aah s_need_number):=by row_cond sc
theorem ahq (T:Txt K mg):Can P w K mg base "need_number" 3 ["least","most","thing"] (spP K (apy)):=by
 obtain ⟨f,fd,D⟩:=T.d_need_number
 refine D.can (D.fn.ok sc_need_number (fun vs H Q E h=>lenP h fun ss g q=>by obtain ⟨a,b,c,rfl,i,j,k⟩:=q;rfl) (fun cdv A outer s H vs Q E l h=>?_))
 have nd:=sc_need_number.nd
 refine ⟨_,(aag (abe (ab4 (ab3 (aai (adg T) l (aaa (pv 0) (aaa (pv 1) (aaa (pv 2) aac))))))
   (aag agc)
   aa6)),?_⟩
 refine abb h fun ss g q B m=>?_
 refine exS3 ss q fun a b c d=>?_
 have i:=d.1
 have j:=d.2.1
 have k:=d.2.2
 clear d q
 show EvS B _ _ [some (.st (.int a)),some (.st (.int b)),some (.st (.int c))]
 row_cond go
 refine ⟨a,b,.int c,rfl,?_⟩
 have:btwD a b (.int c)=true:=by simp [btwD];omega
 rw [this]
 row_cond go
 exact k
end
def DrawsOk (ds:List Int):Prop:=∀ x∈ds,0<=x/\x < 10007
theorem DrawsOk.snoc {ds:List Int} {x:Int} (h:DrawsOk ds) (b:0<=x) (c:x < 10007):DrawsOk (ds ++ [x]):=fun y a=>by
 rcases ay2.mp a with a | a
 ·exact h y a
 ·have:y=x:=by simpa using a
  subst this;exact ⟨b,c⟩
theorem aro {xs:List PyData} {lo hi:Option Int} {d:PyData} (h:d∈cutD xs lo hi):d∈xs:=az8 (az4 h)
theorem arp {xs:List PyData} {lo hi:Option Int}:(cutD xs lo hi).length<=xs.length:=by unfold cutD;simp;omega
theorem ad2 (ds:List Int) (x:Int):ds.map PyData.int ++ [.int x]=(ds ++ [x]).map .int:=by simp
def auv:VP:=fun ss Q=>∃ (ns:List Int) (many:Int),ss=[.scr ns,.st (.int many)]/\ns.length<=63/\0<=many/\many<=1000/\∀ ds:List Int,many<=ds.length->ds.length<=3000->DrawsOk ds->Q (.own (OL (ds.map .int)))
section
variable {P:Program} {w:World} {K:Frag} {mg:Str->Option Value} {base:Heap}
theorem sc_law_draws:FnScope ["script","many","drawn","base","k","cell","number","one"] ["script","many"] (aah s_law_draws):=by row_cond sc
theorem aju (T:Txt K mg):Can P w K mg base "_law_draws" 1 ["script","many"] (spP K (auv)):=by
 obtain ⟨f,fd,D⟩:=T.d_law_draws
 refine D.can (D.fn.ok sc_law_draws (fun vs H Q E h=>lenP h fun ss N q=>by obtain ⟨ns,many,rfl,v,U,X,k⟩:=q;rfl) (fun cdv A outer s H vs Q E hr h=>?_))
 have nd:=sc_law_draws.nd
 refine ⟨_,(aae (aam (i:=2) nd rfl (Or.inl rfl) (aa3 aac))
  (aae (aam (i:=3) nd rfl (Or.inl rfl) aab)
  (aae (abp aF9 rfl (aub rfl T.b_enumerate (aaa (ap5 asn (pv 0) asj (asl aab)) aac)) (adn rfl (aa4 (aan (i:=4) nd rfl (Or.inl rfl)) (aa4 (aan (i:=5) nd rfl (Or.inl rfl)) acn)))
   (aae (aam (i:=6) nd rfl (Or.inl rfl) (aaq apg (by rfl) T.b_abs awg (aaa (pv 5) aac)))
    (aae (aam (i:=3) nd rfl (Or.inl rfl) (aad aau (aad aar (aad acb (pv 3) aab) (pv 6)) aab))
    (aag (abe (aa7 agw (pv 6) (amk (n:=1000000000000000000) (by decide) (by refine ⟨by decide,by decide,by decide⟩)) (aa0 _))
     (aag (aj6 aF9 (PW.pt (ags (aa7 afn (pv 6) aab (aa0 _)) (afl (aa7 adv (aaq abr (by rfl) T.b_len act (aaa (pv 2) aac)) (pv 1) (aa0 _)))))
       (aae (abm (ac9 PySem.F.plainAttrs_list PySem.F.slot_list_append PySem.F.type_list_append abj (pv 2) (aaa (aad aau (pv 6) aab) aac)))
        (aag (aam (i:=6) nd rfl (Or.inl rfl) (aad abu (pv 6) aab))))))
     (aae (aam (i:=7) nd rfl (Or.inl rfl) (aad aau (aad acb (aad aar (aad aar (aad aau (pv 6) aab) (pv 4)) aab) aab) aab))
      (aae (aam (i:=7) nd rfl (Or.inl rfl) (aad aau (aad acb (pv 7) (pv 7)) aab))
      (aae (abm (ac9 PySem.F.plainAttrs_list PySem.F.slot_list_append PySem.F.type_list_append abj (pv 2) (aaa (aad aau (aad abu (pv 7) aab) aab) aac)))
      (aae (aam (i:=7) nd rfl (Or.inl rfl) (aad aau (aad aar (aad aar (aad acb (pv 7) aab) (aad acb aab (pv 4))) aab) aab))
      (aae (aam (i:=7) nd rfl (Or.inl rfl) (aad aau (aad acb (pv 7) (pv 7)) aab))
      (aag (abm (ac9 PySem.F.plainAttrs_list PySem.F.slot_list_append PySem.F.type_list_append abj (pv 2) (aaa (aad aau (aad abu (pv 7) aab) aab) aac))))))))))))))
  (aae (abp aF9 rfl (abq rfl T.b_range (aaa (aad acj (pv 1) (aaq abr (by rfl) T.b_len act (aaa (pv 2) aac))) aac)) (aan (i:=4) nd rfl (Or.inl rfl))
   (aae (aam (i:=7) nd rfl (Or.inl rfl) (aad aau (aad aar (aad aar (pv 3) (aad acb aab (pv 4))) aab) aab))
    (aae (aam (i:=7) nd rfl (Or.inl rfl) (aad aau (aad acb (pv 7) (pv 7)) aab))
    (aae (aam (i:=7) nd rfl (Or.inl rfl) (aad aau (aad aar (aad acb (pv 7) aab) (pv 4)) aab))
    (aag (abm (ac9 PySem.F.plainAttrs_list PySem.F.slot_list_append PySem.F.type_list_append abj (pv 2) (aaa (aad aau (aad abu (aad aau (aad acb (pv 7) (pv 7)) aab) aab) aab) aac))))))))
  (aag (aax (pv 2))))))),?_⟩
 refine abb h fun ss N q B Z=>?_
 refine exS2 ss q fun ns many a=>?_
 have v:=a.1
 have U:=a.2.1
 have X:=a.2.2.1
 have k:=a.2.2.2
 clear a q
 show EvS B _ _ [some (.scr ns),some (.st (.int many)),none,none,none,none,none,none]
 row_cond go
 have I:(cutD (ns.map PyData.int) none (some 63)).length<=63:=aA4 arp (by simpa using v)
 refine ⟨fun i e=>∃ p u r o ds bs,e=[some (.scr ns),some (.st (.int many)),some (.own (OL (ds.map .int))),some (.st (.int bs)),p,u,r,o]/\0<=bs/\bs < 2147483629/\DrawsOk ds/\(ds.length:Int)<=2 * i+many,
  ⟨none,none,none,none,[],7,rfl,by omega,by omega,fun x z=>by simp at z,by simp;omega⟩,?_,?_⟩
 ·rintro i d e hd b
  refine exS6 e b fun p u r o ds bs a=>?_
  have b0:=a.1
  have R:=a.2.1
  have l:=a.2.2.1
  have j:=a.2.2.2
  clear a b
  obtain ⟨x,z,rfl⟩:=amx hd
  have hi:i < 63:=az9 (ax6.mp z).1 I
  obtain ⟨c,_,rfl⟩:=az1.mp (aro (ax7 z))
  row_cond go
  have y:0<=(if c < 0 then -c else c):=by split <;> omega
  generalize (if c < 0 then -c else c)=num0 at y
  refine abk (fun L=>?_) (fun M=>?_)
  ·row_cond go
   refine aix (fun m e=>∃ g ds,e=[some (.scr ns),some (.st (.int many)),some (.own (OL (ds.map .int))),some (.st (.int ((bs * 31+num0) % 2147483629))),some (.st (.int (i:Int))),some (.st (.int c)),some (.st (.int g)),o]/\0<=g/\DrawsOk ds/\(ds.length:Int)<=2 * i+many/\m=g.toNat) ⟨_,num0,ds,rfl,y,l,j,rfl⟩ ?_
   rintro m e b
   refine exS2 e b fun g ds a=>?_
   have n0:=a.1
   have l:=a.2.1
   have j:=a.2.2.1
   have C:=a.2.2.2
   clear a b
   subst C
   row_cond go
   refine abk (fun O=>?_) (fun O=>?_)
   ·row_cond go
    rw [ax8]
    refine abk (fun W=>?_) (fun W=>?_)
    ·row_cond go
     refine ⟨(g / 10007).toNat,by omega,g / 10007,ds ++ [g % 10007],by simp,by omega,l.snoc (by omega) (by omega),by simp;omega,rfl⟩
    ·row_cond go
     exact ⟨_,_,_,_,ds,_,rfl,by omega,by omega,l,by push_cast;omega⟩
   ·row_cond go
    exact ⟨_,_,_,_,ds,_,rfl,by omega,by omega,l,by push_cast;omega⟩
  ·row_cond go
   rw [ad2,ad2]
   refine ⟨_,_,_,_,_,_,rfl,by omega,by omega,(l.snoc (by omega) (by omega)).snoc (by omega) (by omega),by simp;omega⟩
 ·rintro e b
  refine exS6 e b fun p u r o ds bs a=>?_
  have b0:=a.1
  have R:=a.2.1
  have l:=a.2.2.1
  have j:=a.2.2.2
  clear a b
  rw [aex] at j
  row_cond go
  rw [ax8]
  have Y:(ds.length:Int)<=1126:=by omega
  row_cond go
  refine acy (fun i e=>∃ p u r o es,e=[some (.scr ns),some (.st (.int many)),some (.own (OL (es.map .int))),some (.st (.int bs)),p,u,r,o]/\DrawsOk es/\es.length=ds.length+i) ⟨_,_,_,_,ds,rfl,l,rfl⟩ ?_ ?_
  ·rintro i e hi b
   refine exS5 e b fun p u r o es a=>?_
   have J:=a.1
   have G:=a.2
   clear a b
   have S:(i:Int) < 1000:=by omega
   row_cond go
   rw [ad2]
   exact ⟨_,_,_,_,_,rfl,J.snoc (by omega) (by omega),by simp;omega⟩
  ·rintro e b
   refine exS5 e b fun p u r o es a=>?_
   have J:=a.1
   have G:=a.2
   clear a b
   row_cond go
   exact k es (by omega) (by omega) J
end
theorem DrawsOk.at {ds:List Int} (h:DrawsOk ds) {i:Int} (a:0<=i) (c:i < ds.length):∃ x,atI (ds.map PyData.int) i=some (.int x)/\0<=x/\x < 10007:=by
 have b:i.toNat < ds.length:=by omega
 have e:ds[i.toNat]?=some ds[i.toNat]:=ax5 b
 have:=h _ (ax7 e)
 exact ⟨_,adt (f:=PyData.int) (afy a e),this.1,this.2⟩
def ax1:VP:=fun ss Q=>∃ (ds:List Int) (spot most:Int),ss=[.st (.list (ds.map .int)),.st (.int spot),.st (.int most)]/\DrawsOk ds/\0<=spot/\spot+50<=ds.length/\ds.length<=3000/\1<=most/\most<=60/\∀ n es,WebOk n es->n<=most->Joined n es->Q (.st (webD n es))
theorem at5 {a b c d e:Int} {i:Int} (f:0<=i) (g:i < 5):∃ y,atI [PyData.int a,PyData.int b,PyData.int c,PyData.int d,PyData.int e] i=some (PyData.int y)/\(y=a\/y=b\/y=c\/y=d\/y=e):=by
 rcases (show i=0\/i=1\/i=2\/i=3\/i=4 by omega) with rfl | rfl | rfl | rfl | rfl
 ·exact ⟨a,rfl,by simp⟩
 ·exact ⟨b,rfl,by simp⟩
 ·exact ⟨c,rfl,by simp⟩
 ·exact ⟨d,rfl,by simp⟩
 ·exact ⟨e,rfl,by simp⟩
theorem awx {a r n:Int} (a0:0<=a) (b:a < n) (r0:0<=r) (c:r < n - 1):(a+1+r) % n ≠ a:=by
 by_cases h:a+1+r < n
 ·rw [Int.emod_eq_of_lt (by omega) h];omega
 ·have e:a+1+r=(a+1+r - n)+n * 1:=by omega
  rw [e,Int.add_mul_emod_self_left,Int.emod_eq_of_lt (by omega) (by omega)];omega
theorem afj {α β:Type} (f : α->β):∀ (l:List α) (k:Nat),(l.map f).eraseIdx k=(l.eraseIdx k).map f
 | [],_=>rfl
 | _ :: _,0=>rfl
 | a :: l,k+1=>by simp [afj f l k]
theorem apz {j:Int} {n:Nat} (a:0<=j) (b:j < n):seqIndex? j n=some j.toNat:=by unfold seqIndex?;simp;omega
theorem ap0 {left:List Int} {k:Nat} {y:Int} (a:left[k]?=some y):(left.map PyData.int)[k]?=some (.int y):=by rw [ay0,a];rfl
theorem ase {x y:Int} {ns:List Int} (d:ns.Perm [x,y]) (hs:ns.Pairwise (·<=·)):ns=if x < y then [x,y] else [y,x]:=by
 have c:(if x < y then [x,y] else [y,x]).Perm [x,y]:=by
  split
  ·exact List.Perm.refl _
  ·exact List.Perm.swap _ _ _
 have f:(if x < y then [x,y] else [y,x]).Pairwise (·<=·):=by
  split <;> simp <;> omega
 exact (d.trans c.symm).eq_of_pairwise (fun a b _ _ h g=>Int.le_antisymm h g) hs f
section
variable {P:Program} {w:World} {K:Frag} {mg:Str->Option Value} {base:Heap}
theorem sc_law_web:FnScope ["d","spot","most","n","way","ties","k","x","head","a","b","kind","cut","two","order","left","at","turned"] ["d","spot","most"] (aah s_law_web):=by row_cond sc
theorem aga (T:Txt K mg):Can P w K mg base "_law_web" 1 ["d","spot","most"] (spP K (ax1)):=by
 obtain ⟨f,fd,D⟩:=T.d_law_web
 refine D.can (D.fn.ok sc_law_web (fun vs H Q E h=>lenP h fun ss Q' q=>by obtain ⟨ds,spot,most,rfl,X,s0,s1,hl,m0,m1,k⟩:=q;rfl) (fun cdv A outer s H vs Q E hr h=>?_))
 have nd:=sc_law_web.nd
 refine ⟨_,(aae (aam (i:=3) nd rfl (Or.inl rfl) (aad aar aab (aad aau (aao aap (pv 0) (pv 1) (fun _ _=>rfl)) (pv 2))))
  (aae (aam (i:=4) nd rfl (Or.inl rfl) (aad aau (aad abu (aao aap (pv 0) (pv 1) (fun _ _=>rfl)) aab) aab))
  (aae (aam (i:=5) nd rfl (Or.inl rfl) aqa)
  (aae (abp aF9 rfl (an9 rfl T.b_range (aaa aab (aaa (pv 3) aac))) (aan (i:=6) nd rfl (Or.inl rfl))
   (aae (aam (i:=7) nd rfl (Or.inl rfl) (aao aap (pv 0) (aad aar (aad aar (pv 1) aab) (aad aau (pv 6) aab)) (fun _ _=>rfl)))
    (aae (aam (i:=8) nd rfl (Or.inl rfl) (aao aap (aa3 (aaa (aad acj (pv 6) aab) (aaa aab (aaa (aad aau (pv 7) (pv 6)) (aaa (aaq (ag3 rfl) (by rfl) T.b_max aov (aaa aab (aaa (aad acj (aad acj (pv 6) aab) (aad aau (pv 7) aab)) aac))) (aaa (aad acj (pv 6) aab) aac)))))) (pv 4) (fun _ _=>rfl)))
    (aag (afp (ajy hr) (pv 5) (aba (aaa (pv 8) (aaa (pv 6) aac))) ab2 rfl)))))
  (aae (abe (PW.pt (ags (aa7 agv (pv 4) aab (aa0 _)) (afl (aa7 afn (pv 3) aab (aa0 _)))))
   (aag (afp (ajy hr) (pv 5) (aba (aaa aab (aaa (aad acj (pv 3) aab) aac))) ab2 rfl))
   aa6)
  (aae (abp aF9 rfl (abq rfl T.b_range (aaa (aad acb (aao aap (aa3 (aaa aab (aaa aab (aaa aab (aaa aab (aaa (aad abu (pv 3) aab) aac)))))) (aad aau (aao aap (pv 0) (aad aar (pv 1) aab) (fun _ _=>rfl)) aab) (fun _ _=>rfl)) (ad4 aep (by rfl) T.b_int ag5 (aaa (abv afn (pv 3) aab (aa0 _)) aac))) aac)) (aan (i:=6) nd rfl (Or.inl rfl))
   (aae (aam (i:=9) nd rfl (Or.inl rfl) (aad aau (aao aap (pv 0) (aad aar (aad aar (pv 1) aab) (aad aau (pv 6) aab)) (fun _ _=>rfl)) (pv 3)))
    (aae (aam (i:=10) nd rfl (Or.inl rfl) (aad aau (aad aar (aad aar (pv 9) aab) (aad aau (aao aap (pv 0) (aad aar (aad aar (pv 1) aab) (aad aau (pv 6) aab)) (fun _ _=>rfl)) (aad acj (pv 3) aab))) (pv 3)))
    (aag (afp (ajy hr) (pv 5) (aba (aaa (aaq (ag4 rfl) (by rfl) T.b_min aow (aaa (pv 9) (aaa (pv 10) aac))) (aaa (aaq (ag3 rfl) (by rfl) T.b_max aov (aaa (pv 9) (aaa (pv 10) aac))) aac))) ab2 rfl)))))
  (aae (aam (i:=11) nd rfl (Or.inl rfl) (aad aau (aad abu (aao aap (pv 0) (aad aar (pv 1) aab) (fun _ _=>rfl)) aab) aab))
  (aae (aam (i:=12) nd rfl (Or.inl rfl) (aad aar aab (aad aau (aad abu (aao aap (pv 0) (aad aar (pv 1) aab) (fun _ _=>rfl)) aab) (aaq (ag4 rfl) (by rfl) T.b_min aow (aaa (pv 3) (aaa aab aac))))))
  (aae (abp aF9 rfl (abq rfl T.b_range (aaa (pv 3) aac)) (aan (i:=10) nd rfl (Or.inl rfl))
   (aag (abp aF9 rfl (abq rfl T.b_range (aaa (pv 10) aac)) (aan (i:=9) nd rfl (Or.inl rfl))
     (aae (aam (i:=13) nd rfl (Or.inl rfl) (aeg (abv agv (pv 11) aab (aa0 _)) (aeg (abv agw (pv 9) (pv 12) (aa0 _)) (ae2 (abv adv (pv 3) aab (aa0 _))))))
      (aag (abe (PW.pt (ags (aa7 adv (pv 11) aab (aa0 _)) (afl (PW.pt (agt (aa7 adv (pv 10) (pv 12) (aa0 _)) (ae1 (ao1 (pv 13))))))))
       (aag (afp (ajy hr) (pv 5) (aba (aaa (pv 9) (aaa (pv 10) aac))) ab2 rfl))
       aa6))))))
  (aae (aam (i:=14) nd rfl (Or.inr rfl) (agn rfl T.b_list rfl T.b_range rfl (aaa (pv 3) aac)))
  (aae (abe (aa7 afn (aad aau (aad abu (aao aap (pv 0) (aad aar (pv 1) aab) (fun _ _=>rfl)) aab) aab) aab (aa0 _))
   (aae (aam (i:=15) nd rfl (Or.inl rfl) (agn rfl T.b_list rfl T.b_range rfl (aaa (pv 3) aac)))
    (aae (aam (i:=14) nd rfl (Or.inr rfl) (aa3 aac))
    (aag (abp aF9 rfl (abq rfl T.b_range (aaa (pv 3) aac)) (aan (i:=6) nd rfl (Or.inl rfl))
     (aae (aam (i:=16) nd rfl (Or.inl rfl) (aad abu (aao aap (pv 0) (aad aar (aad aar (pv 1) aab) (aad aau (pv 6) aab)) (fun _ _=>rfl)) (aad aar aab (aad abu (pv 6) aab))))
      (aag (abm (ac9 PySem.F.plainAttrs_list PySem.F.slot_list_append PySem.F.type_list_append abj (pv 14) (aaa (ac9 PySem.F.plainAttrs_list PySem.F.slot_list_pop PySem.F.type_list_pop akg (pv 15) (aaa (aad aau (pv 16) (aaq abr (by rfl) T.b_len act (aaa (pv 15) aac))) aac)) aac)))))))))
   aa6)
  (aae (aeo (i:=17) nd rfl (Or.inl rfl) rfl (N:=["a","b","order"]) (src:=[none,none,some 14]) (by exact ab1 rfl rfl rfl rfl rfl rfl) (axn (pv 5)) (fun _ _ _ _=>(show PG _ _ (gTup K 2 (abz (aav 0) (abz (aav 1) gNil))) from (adn rfl (aa4 (aan (i:=0) (show List.Nodup (["a","b","order"]:List Str) by decide +kernel) rfl (Or.inl rfl) (hf:=Or.inr rfl)) (aa4 (aan (i:=1) (show List.Nodup (["a","b","order"]:List Str) by decide +kernel) rfl (Or.inl rfl) (hf:=Or.inr rfl)) acn))))) (fun _ _ _ _=>ab0) (fun _ _ _ _=>(aaq (show abh _ (.builtin "sorted") (afa K) from ag8) (by rfl) T.b_sorted ad9 (aaa (aa3 (aaa (aao (show IxR _ (ab7 K) from aap) (pv 2) (pv 0) (fun _ _=>rfl)) (aaa (aao (show IxR _ (ab7 K) from aap) (pv 2) (pv 1) (fun _ _=>rfl)) aac))) aac))))
  (aag (aax (aba (aaa (pv 3) (aaa (aaq ahb (by rfl) T.b_sorted ad9 (aaa (aen rfl (N:=["a","b"]) (src:=[none,none]) (by exact ab1 rfl rfl rfl rfl rfl rfl) (abd (pv 17)) (fun _ _ _ _=>(show PG _ _ (gLst K 2 (abz (aav 0) (abz (aav 1) gNil))) from (ao0 rfl (aa4 (aan (i:=0) (show List.Nodup (["a","b"]:List Str) by decide +kernel) rfl (Or.inl rfl) (hf:=Or.inr rfl)) (aa4 (aan (i:=1) (show List.Nodup (["a","b"]:List Str) by decide +kernel) rfl (Or.inl rfl) (hf:=Or.inr rfl)) acn))))) (fun _ _ _ _=>ab0) (fun _ _ _ _=>(aba (aaa (pv 0) (aaa (pv 1) aac))))) aac)) aac))))))))))))))))),?_⟩
 refine abb h fun ss Q' q B hK=>?_
 refine exS3 ss q fun ds spot most g=>?_
 have X:=g.1
 have s0:=g.2.1
 have s1:=g.2.2.1
 have hl:=g.2.2.2.1
 have m0:=g.2.2.2.2.1
 have m1:=g.2.2.2.2.2.1
 have k:=g.2.2.2.2.2.2
 clear g q
 show EvS B _ _ [some (.st (.list (ds.map .int))),some (.st (.int spot)),some (.st (.int most)),none,none,none,none,none,none,none,none,none,none,none,none,none,none,none]
 obtain ⟨Z,a0,b7,b6⟩:=X.at (i:=spot) s0 (by omega)
 obtain ⟨d1,a1,c0,b9⟩:=X.at (i:=spot+1) (by omega) (by omega)
 row_cond go
 have a4:1<=1+Z % most:=by have:=aB4 Z (show most ≠ 0 by omega);omega
 have a3:1+Z % most<=most:=by have:=aB5 Z (show 0 < most by omega);omega
 generalize 1+Z % most=n at a4 a3
 generalize hw:Z / 64 % 5=way
 have a8:0<=way:=by omega
 have a7:way < 5:=by omega
 have b5:(spot:Int)<=2950:=by omega
 row_cond go
 refine acy (fun i e=>∃ r G I ps,e=[some (.st (.list (ds.map .int))),some (.st (.int spot)),some (.st (.int most)),some (.st (.int n)),some (.st (.int way)),some (.own (OT (kE ps))),r,G,I,none,none,none,none,none,none,none,none,none]/\PsOk n ps/\Tr (1+i) ps) ⟨_,_,_,[],rfl,PsOk.nil n,fun k _ _=>by omega⟩ ?_ ?_
 ·rintro i e hi l
  refine exS4 e l fun r G I ps g=>?_
  have o:=g.1
  have C:=g.2
  clear g l
  have b8:(i:Int) < n - 1:=by omega
  obtain ⟨x,ax,xl,xh⟩:=X.at (i:=spot+2+(1+(i:Int)) % 20) (by omega) (by omega)
  have x0:=aB4 x (show 1+(i:Int) ≠ 0 by omega)
  have x1:=aB5 x (show 0 < 1+(i:Int) by omega)
  obtain ⟨hd,ah,hh⟩:=at5 (a:=1+(i:Int) - 1) (b:=0) (c:=x % (1+(i:Int))) (d:=if 1+(i:Int) - 1 - x % 3 > 0 then 1+(i:Int) - 1 - x % 3 else 0) (e:=1+(i:Int) - 1) a8 a7
  have h0:0<=hd/\hd < 1+(i:Int):=by
   generalize x % (1+(i:Int))=z at *
   split at hh <;> omega
  clear hh
  have hL:(kE ps).length<=999999:=by rw [aeb];exact aA4 (o.len (by omega)) (by decide)
  row_cond go
  rw [ahh]
  refine ⟨_,_,_,_,rfl,o.add h0.1 h0.2 (by omega),fun k k1 k2=>?_⟩
  by_cases hk:k=1+(i:Int)
  ·subst hk;exact ⟨hd,h0.1,h0.2,addP_mem.mpr (.inr rfl)⟩
  ·obtain ⟨h,z0,z1,z2⟩:=C k k1 (by push_cast at k2;omega);exact ⟨h,z0,z1,addP_mem.mpr (.inl z2)⟩
 ·rintro e l
  refine exS4 e l fun r G I ps g=>?_
  have o:=g.1
  have C:=g.2
  clear g l
  replace C:Tr n ps:=fun k k1 k2=>C k k1 (by omega)
  row_cond go
  refine' cutR (R:=∀ ps,PsOk n ps->Tr n ps->EvS B _ _ [some (.st (.list (ds.map .int))),some (.st (.int spot)),some (.st (.int most)),some (.st (.int n)),some (.st (.int way)),some (.own (OT (kE ps))),r,G,I,none,none,none,none,none,none,none,none,none]) (fun R=>?K1) ?K2
  case K1 =>
   refine abk (fun _=>?_) (fun _=>?_)
   ·row_cond go
    refine abk (fun hn=>?_) (fun hn=>?_)
    ·refine alg (fun e=>∃ ps,e=[some (.st (.list (ds.map .int))),some (.st (.int spot)),some (.st (.int most)),some (.st (.int n)),some (.st (.int way)),some (.own (OT (kE ps))),r,G,I,none,none,none,none,none,none,none,none,none]/\PsOk n ps/\Tr n ps) ?_ ?_
     ·have hL:(kE ps).length<=999999:=by rw [aeb];exact aA4 (o.len (by omega)) (by decide)
      row_cond go
      rw [ahh]
      exact ⟨_,rfl,o.add (by omega) (by omega) (by omega),C.add⟩
     ·rintro e l
      refine exS1 e l fun ps g=>?_
      have o:=g.1
      have C:=g.2
      clear g l
      exact R ps o C
    ·refine adf ?_
     exact R ps o C
   ·refine adf ?_
    exact R ps o C
  case K2 =>
   clear o C ps
   intro ps o C
   obtain ⟨Y,a5,h5⟩:=at5 (a:=0) (b:=0) (c:=1) (d:=2) (e:=n / 2) (i:=d1 % 5) (by omega) (by omega)
   have y0:0<=Y/\Y<=30:=by omega
   clear h5
   row_cond go
   have hm : -(2 ^ 62)<=Y * (if decide (1 < n)=true then 1 else 0)/\Y * (if decide (1 < n)=true then 1 else 0) < 2 ^ 62/\(0 < Y * (if decide (1 < n)=true then 1 else 0)->1 < n):=by
    by_cases hn:1 < n
    ·rw [aC1 (aA9 hn)];omega
    ·rw [aC2 (by simpa using hn)];omega
   generalize (Y * if decide (1 < n)=true then 1 else 0)=tot at hm
   obtain ⟨t0,t1,t2⟩:=hm
   row_cond go
   refine acy (fun i e=>∃ r G I O J ps,e=[some (.st (.list (ds.map .int))),some (.st (.int spot)),some (.st (.int most)),some (.st (.int n)),some (.st (.int way)),some (.own (OT (kE ps))),r,G,I,O,J,none,none,none,none,none,none,none]/\PsOk n ps/\Tr n ps) ⟨_,_,_,_,_,ps,rfl,o,C⟩ ?_ ?_
   ·clear o C r G I ps
    rintro i e hi l
    refine exS6 e l fun r G I O J ps g=>?_
    have o:=g.1
    have C:=g.2
    clear g l
    have hn:1 < n:=t2 (by omega)
    obtain ⟨x,ax,xl,xh⟩:=X.at (i:=spot+22+(0+(i:Int)) % 8) (by omega) (by omega)
    obtain ⟨y,ay,yl,yh⟩:=X.at (i:=spot+30+(0+(i:Int)) % 8) (by omega) (by omega)
    have hL:(kE ps).length<=999999:=by rw [aeb];exact aA4 (o.len (by omega)) (by decide)
    have u0:=aB4 x (show n ≠ 0 by omega)
    have u1:=aB5 x (show 0 < n by omega)
    have w0:=aB4 y (show n - 1 ≠ 0 by omega)
    have w1:=aB5 y (show 0 < n - 1 by omega)
    have z0:=aB4 (x % n+1+y % (n - 1)) (show n ≠ 0 by omega)
    have z1:=aB5 (x % n+1+y % (n - 1)) (show 0 < n by omega)
    have zn:=awx u0 u1 w0 w1
    row_cond go
    rw [ahh]
    generalize (x % n+1+y % (n - 1)) % n=q at *
    generalize x % n=p at *
    refine ⟨_,_,_,_,_,_,rfl,o.add ?_ ?_ ?_,C.add⟩ <;> (by_cases hb:q < p) <;> simp [hb] <;> omega
   ·clear o C r G I ps
    rintro e l
    refine exS6 e l fun r G I O J ps g=>?_
    have o:=g.1
    have C:=g.2
    clear g l
    row_cond go
    generalize d1 / 15 % 8=kind
    generalize (2+d1 / 120 % _:Int)=cut
    refine acy (fun i e=>∃ r G I O J L ps,e=[some (.st (.list (ds.map .int))),some (.st (.int spot)),some (.st (.int most)),some (.st (.int n)),some (.st (.int way)),some (.own (OT (kE ps))),r,G,I,O,J,some (.st (.int kind)),some (.st (.int cut)),L,none,none,none,none]/\PsOk n ps/\Tr n ps) ⟨_,_,_,_,_,_,ps,rfl,o,C⟩ ?_ ?_
    ·clear o C r G I O J ps
     rintro b e hb l
     refine exS7 e l fun r G I O J L ps g=>?_
     have o:=g.1
     have C:=g.2
     clear g l
     have b0:0+(b:Int) < n:=by omega
     row_cond go
     refine acy (fun i e=>∃ r G I O L ps,e=[some (.st (.list (ds.map .int))),some (.st (.int spot)),some (.st (.int most)),some (.st (.int n)),some (.st (.int way)),some (.own (OT (kE ps))),r,G,I,O,some (.st (.int (0+(b:Int)))),some (.st (.int kind)),some (.st (.int cut)),L,none,none,none,none]/\PsOk n ps/\Tr n ps) ⟨_,_,_,_,_,ps,rfl,o,C⟩ ?_ ?_
     ·clear o C r G I O L ps
      rintro a e ha l
      refine exS6 e l fun r G I O L ps g=>?_
      have o:=g.1
      have C:=g.2
      clear g l
      have a9:0+(a:Int) < 0+b:=by omega
      have hL:(kE ps).length<=999999:=by rw [aeb];exact aA4 (o.len (by omega)) (by decide)
      row_cond go
      refine' cutR (R:=∀ bb:Bool,EvS B _ _ [some (.st (.list (ds.map .int))),some (.st (.int spot)),some (.st (.int most)),some (.st (.int n)),some (.st (.int way)),some (.own (OT (kE ps))),r,G,I,some (.st (.int (0+(a:Int)))),some (.st (.int (0+(b:Int)))),some (.st (.int kind)),some (.st (.int cut)),some (.st (.bool bb)),none,none,none,none]) (fun R=>?K1) ?K2
      case K1 =>
       refine abk (fun _=>?_) (fun _=>?_)
       ·repeat (first | exact R _ | row_cond st)
        refine abk (fun _=>?_) (fun _=>?_)
        ·repeat (first | exact R _ | row_cond st)
        ·repeat (first | exact R _ | row_cond st)
       ·repeat (first | exact R _ | row_cond st)
      case K2 =>
       have W:PsOk n (addP ps (0+(a:Int),0+(b:Int)))/\Tr n (addP ps (0+(a:Int),0+(b:Int))):=⟨o.add (by omega) a9 b0,C.add⟩
       rintro (_ | _) <;> row_cond go <;> refine abk (fun _=>?_) (fun _=>?_) <;> row_cond go <;> first | exact ⟨_,_,_,_,_,_,rfl,o,C⟩ | (refine abk (fun _=>?_) (fun _=>?_) <;> row_cond go <;> first | exact ⟨_,_,_,_,_,_,rfl,o,C⟩ | (rw [ahh];exact ⟨_,_,_,_,_,_,rfl,W.1,W.2⟩))
     ·rintro e l
      refine exS6 e l fun r G I O L ps g=>?_
      have o:=g.1
      have C:=g.2
      clear g l
      exact ⟨_,_,_,_,_,_,ps,rfl,o,C⟩
    ·clear o C r G I O J ps
     rintro e l
     refine exS7 e l fun r G I O J L ps g=>?_
     have o:=g.1
     have C:=g.2
     clear g l
     row_cond go
     refine' cutR (R:=∀ m r U M,Order n m->EvS B _ _ [some (.st (.list (ds.map .int))),some (.st (.int spot)),some (.st (.int most)),some (.st (.int n)),some (.st (.int way)),some (.own (OT (kE ps))),r,G,I,O,J,some (.st (.int kind)),some (.st (.int cut)),L,some (.own (OL (m.map .int))),U,M,none]) (fun R=>?K1) ?K2
     case K1 =>
      rw [aic]
      refine abk (fun _=>?_) (fun _=>?_)
      ·refine alg (fun e=>∃ m r U M,e=[some (.st (.list (ds.map .int))),some (.st (.int spot)),some (.st (.int most)),some (.st (.int n)),some (.st (.int way)),some (.own (OT (kE ps))),r,G,I,O,J,some (.st (.int kind)),some (.st (.int cut)),L,some (.own (OL (m.map .int))),U,M,none]/\Order n m) ?_ ?_
       ·row_cond go
        refine acy (fun i e=>∃ m left r M,e=[some (.st (.list (ds.map .int))),some (.st (.int spot)),some (.st (.int most)),some (.st (.int n)),some (.st (.int way)),some (.own (OT (kE ps))),r,G,I,O,J,some (.st (.int kind)),some (.st (.int cut)),L,some (.own (OL (m.map .int))),some (.own (OL (left.map .int))),M,none]/\Order n (m ++ left)/\m.length=i) ⟨[],_,_,_,by rw [aic];rfl,Order.id n,rfl⟩ ?_ ?_
        ·rintro i e hi l
         refine exS4 e l fun m left r M g=>?_
         have S:=g.1
         have b1:=g.2
         clear g l
         have a2:left.length=n.toNat - i:=by have:=S.len;simp at this;omega
         obtain ⟨x,ax,xl,xh⟩:=X.at (i:=spot+38+(0+(i:Int)) % 12) (by omega) (by omega)
         iterate 30 (row_cond st)
         have b3:1<=1+(0+(i:Int)) / 12/\1+(0+(i:Int)) / 12<=100:=by omega
         row_cond st
         (generalize 1+(0+(i:Int)) / 12=z12 at b3)
         row_cond st
         row_cond st
         (generalize x / z12=q)
         row_cond go
         rw [ax8]
         have q0:=aB4 q (show (left.length:Int) ≠ 0 by omega)
         have q1:=aB5 q (show 0 < (left.length:Int) by omega)
         row_cond go
         (generalize q % (left.length:Int)=j at q0 q1)
         obtain ⟨y,hy⟩:∃ y,left[j.toNat]?=some y:=⟨_,ax5 (show j.toNat < left.length by omega)⟩
         refine ⟨_,left.map .int,j,j.toNat,.int y,rfl,rfl,.inl rfl,by omega,by omega,apz q0 (by rw [ax8];exact q1),ap0 hy,?_⟩
         rw [afj]
         dsimp only [List.set_cons_zero,List.set_cons_succ,reS]
         row_cond go
         refine ⟨_,rfl,by rw [ax8];omega,?_⟩
         refine ⟨m ++ [y],left.eraseIdx j.toNat,_,_,by rw [ad2],ahj S hy,by simp;omega⟩
        ·rintro e l
         refine exS4 e l fun m left r M g=>?_
         have S:=g.1
         have b1:=g.2
         clear g l
         have a2:left=[]:=by have:=S.len;simp at this;exact List.length_eq_zero_iff.mp (by omega)
         subst a2
         rw [aB7] at S
         exact ⟨m,_,_,_,rfl,S⟩
       ·rintro e l
        refine exS4 e l fun m r U M g=>?_
        have S:=g
        clear g l
        exact R m r U M S
      ·refine adf ?_
       exact R _ _ _ _ (Order.id n)
     case K2 =>
      clear r
      intro m r U M S
      refine ah8 14 rfl acu ?_
      row_cond go
      rw [auh]
      refine aew (xs:=ps) (fa:=fun p => .int p.1) (fb:=fun p => .int p.2) (fun p => .list [.int (reP m p).1,.int (reP m p).2]) (fun _=>true) rfl (aA4 (o.len (by omega)) (by decide)) ?_ ?_
      ·intro p hp B' hB
       have hq:=o.inn p hp
       have r1:=adt (f:=PyData.int) (S.atI (a:=p.1) (by omega) (by omega))
       have r2:=adt (f:=PyData.int) (S.atI (a:=p.2) (by omega) (by omega))
       refine aco ⟨rfl,rfl,fun _=>?_⟩
       refine abc (ai2 ?_)
       row_cond go
       refine ⟨[aa5 m p.1,aa5 m p.2],rfl,by simp,fun b4 b2 a6=>adj ⟨?_,rfl⟩⟩
       rw [ase b2 a6]
       unfold reP
       split <;> rfl
      ·rw [aci]
       row_cond go
       refine ai4 (ps:=ps.map (reP m)) ?_
       row_cond go
       refine ai5 (xs:=ps) (fa:=fun p => .int (reP m p).1) (fb:=fun p => .int (reP m p).2) (fun p=>prD (reP m p)) (fun _=>true) rfl (aA4 (o.len (by omega)) (by decide)) ?_ ?_
       ·intro p hp B' hB
        refine aco ⟨rfl,rfl,fun _=>?_⟩
        row_cond go
        exact rfl
       ·rw [aci]
        row_cond go
        refine ⟨by rw [aB0];rfl,fun qs hq hs=>adj ?_⟩
        row_cond go
        refine k n qs (alf a4 (by omega) (o.re S) hq hs) a3 ?_
        exact Conn.joined ((C.conn.re S).mono fun u v h=>(Tied.perm hq).mpr h) (by omega)
end
def awy:VP:=fun ss Q=>∃ (n:Int) (es:List (Int × Int)),ss=[.st (webD n es)]/\es.length<=10000/\Q (.st (webD n es))
section
variable {P:Program} {w:World} {K:Frag} {mg:Str->Option Value} {base:Heap}
theorem sc_law_copy:FnScope ["web"] ["web"] (aah s_law_copy):=by row_cond sc
theorem adc (T:Txt K mg):Can P w K mg base "_law_copy" 1 ["web"] (spP K (awy)):=by
 obtain ⟨f,fd,D⟩:=T.d_law_copy
 refine D.can (D.fn.ok sc_law_copy (fun vs H Q E h=>lenP h fun ss b q=>by obtain ⟨n,es,rfl,c,k⟩:=q;rfl) (fun cdv A outer s H vs Q E g h=>?_))
 have nd:=sc_law_copy.nd
 refine ⟨_,(aag (aax (aba (aaa (aao aap (pv 0) aab (fun _ _=>rfl)) (aaa (ad4 ano (by rfl) T.b_list ahv (aaa (aao aap (pv 0) aab (fun _ _=>rfl)) aac)) aac))))),?_⟩
 refine abb h fun ss b q B d=>?_
 refine exS2 ss q fun n es a=>?_
 have c:=a.1
 have k:=a.2
 clear a q
 show EvS B _ _ [some (.st (webD n es))]
 row_cond go
 exact k
end
def vpNJ (mg:Str->Option Value):VPX:=fun ss Q R=>∃ (n:Int) (es:List (Int × Int)),ss=[.st (webD n es)]/\1<=n/\n<=100/\InN n es/\es.length<=10000/\¬ Joined n es/\∀ C,mg "NoJoin" = some (.ref C)->R C
def ax2 (mg:Str->Option Value):VPX:=fun ss Q R=>∃ (n:Int) (es:List (Int × Int)) (d1 d2:PyData),ss=[.st (webD n es),.st d1,.st d2]/\1<=n/\n<=100/\InN n es/\es.length<=10000/\¬ Joined n es/\∀ C,mg "NoJoin" = some (.ref C)->R C
def arq (mg:Str->Option Value):VPX:=fun ss Q R=>∃ (a b:Int) (d:PyData),ss=[.st (.int a),.st (.int b),.st d]/\btwD a b d=false/\∀ C,mg "NoNumber" = some (.ref C)->R C
def ax3 (mg:Str->Option Value):VPX:=fun ss Q R=>∃ (n:Int) (es:List (Int × Int)) (d:PyData),ss=[.st (webD n es),.st d]/\1<=n/\n<=100/\InN n es/\es.length<=10000/\(Joined n es->btwD 0 5 d=false\/12 < n)/\(¬ Joined n es->∀ C,mg "NoJoin" = some (.ref C)->R C)/\(Joined n es->∀ C,mg "NoNumber" = some (.ref C)->R C)
theorem auw {a b:Int} {d:PyData} (h:btwD a b d=true):∃ n,d=.int n/\a<=n/\n<=b:=by
 cases d with
 | int n=>exact ⟨n,rfl,(of_decide_eq_true h).1,(of_decide_eq_true h).2⟩
 | _=>cases h
section
variable {P:Program} {w:World} {K:Frag} {mg:Str->Option Value} {base:Heap}
theorem scX_need_number:FnScope ["least","most","thing"] ["least","most","thing"] (aah s_need_number):=by row_cond sc
theorem ad3 (T:Txt K mg):CanX P w K mg base "need_number" 3 ["least","most","thing"] (spX K (arq mg)):=by
 obtain ⟨f,fd,D⟩:=T.d_need_number
 obtain ⟨g,c⟩:=T.x_NoNumber
 refine D.canX (D.fn.okX scX_need_number (fun vs H Q E h=>lenX h fun ss j i q=>by obtain ⟨a,b,d,rfl,hd,k⟩:=q;rfl) (fun cdv A outer s H vs Q E m h=>?_))
 have nd:=scX_need_number.nd
 refine ⟨_,(aag (abe (ab4 (ab3 (aai (adg T) m (aaa (pv 0) (aaa (pv 1) (aaa (pv 2) aac))))))
   (aag (ai8 c.ok))
   aa6)),?_⟩
 refine ahl h fun ss j i q B n l=>?_
 obtain ⟨a,b,d,rfl,hd,k⟩:=q
 show EvS B _ _ [some (.st (.int a)),some (.st (.int b)),some (.st d)]
 row_cond go
 refine ⟨_,_,_,rfl,?_⟩
 rw [hd]
 row_cond go
 refine ai7 l (k _ c.mgx) ?_
 row_cond go
 exact Nat.le_of_ble_eq_true rfl
theorem scX_need_joined:FnScope ["web"] ["web"] (aah s_need_joined):=by row_cond sc
theorem agr (T:Txt K mg):CanX P w K mg base "need_joined" 7 ["web"] (spX K (vpNJ mg)):=by
 obtain ⟨f,fd,D⟩:=T.d_need_joined
 obtain ⟨d,a⟩:=T.x_NoJoin
 refine D.canX (D.fn.okX scX_need_joined (fun vs H Q E h=>lenX h fun ss o m q=>by obtain ⟨n,es,rfl,l,i,c,g,j,k⟩:=q;rfl) (fun cdv A outer s H vs Q E r h=>?_))
 have nd:=scX_need_joined.nd
 refine ⟨_,(aag (abe (ab4 (ab3 (aai (aez T) r (aaa (pv 0) aac))))
   (aag (ai8 a.ok))
   aa6)),?_⟩
 refine ahl h fun ss o m q B u p=>?_
 obtain ⟨n,es,rfl,l,i,c,g,j,k⟩:=q
 show EvS B _ _ [some (.st (webD n es))]
 row_cond go
 refine ⟨n,es,rfl,l,i,c,g,fun b hb=>?_⟩
 cases b with
 | true=>exact absurd (hb.mp rfl) j
 | false =>
  row_cond go
  refine ai7 p (k _ a.mgx) ?_
  row_cond go
  exact Nat.le_of_ble_eq_true rfl
theorem scX_far_rows:FnScope ["web","tied"] ["web"] (aah s_far_rows):=by row_cond sc
theorem ae0 (T:Txt K mg):CanX P w K mg base "far_rows" 8 ["web"] (spX K (vpNJ mg)):=by
 obtain ⟨f,fd,D⟩:=T.d_far_rows
 refine D.canX (D.fn.okX scX_far_rows (fun vs H Q E h=>lenX h fun ss j i q=>by obtain ⟨n,es,rfl,g,c,a,b,d,k⟩:=q;rfl) (fun cdv A outer s H vs Q E m h=>?_))
 have nd:=scX_far_rows.nd
 refine ⟨_,(aae (abm (agp (agr T) m (aaa (pv 0) aac))) ae3),?_⟩
 refine ahl h fun ss j i q B o l=>?_
 obtain ⟨n,es,rfl,g,c,a,b,d,k⟩:=q
 show EvS B _ _ [some (.st (webD n es)),none]
 row_cond go
 refine afe l ?_
 row_cond go
 exact ⟨n,es,rfl,g,c,a,b,d,k⟩
theorem scX_stay_shows:FnScope ["web","k","paper","rows","r","places"] ["web","k","paper"] (aah s_stay_shows):=by row_cond sc
theorem ahr (T:Txt K mg):CanX P w K mg base "stay_shows" 9 ["web","k","paper"] (spX K (ax2 mg)):=by
 obtain ⟨f,fd,D⟩:=T.d_stay_shows
 refine D.canX (D.fn.okX scX_stay_shows (fun vs H Q E h=>lenX h fun ss o m q=>by obtain ⟨n,es,j,g,rfl,l,c,a,b,d,k⟩:=q;rfl) (fun cdv A outer s H vs Q E r h=>?_))
 have nd:=scX_stay_shows.nd
 refine ⟨_,(aae (aam (i:=3) nd rfl (Or.inr rfl) (agp (ae0 T) r (aaa (pv 0) aac))) ae3),?_⟩
 refine ahl h fun ss o m q B u p=>?_
 obtain ⟨n,es,j,g,rfl,l,c,a,b,d,k⟩:=q
 show EvS B _ _ [some (.st (webD n es)),some (.st j),some (.st g),none,none,none]
 row_cond go
 refine afe p ?_
 row_cond go
 exact ⟨n,es,rfl,l,c,a,b,d,k⟩
theorem scX_best_stay:FnScope ["web","k","rows","r","lists"] ["web","k"] (aah s_best_stay):=by row_cond sc
theorem aih (T:Txt K mg):CanX P w K mg base "best_stay" 9 ["web","k"] (spX K (ax3 mg)):=by
 obtain ⟨f,fd,D⟩:=T.d_best_stay
 obtain ⟨g,b⟩:=T.v_MOST_STAY_TIES
 obtain ⟨c,a⟩:=T.v_MOST_PLACES_FOR_STAY
 refine D.canX (D.fn.okX scX_best_stay (fun vs H Q E h=>lenX h fun ss x u q=>by obtain ⟨n,es,d,rfl,p,m,j,l,hd,k1,k2⟩:=q;rfl) (fun cdv A outer s H vs Q E r h=>?_))
 have nd:=scX_best_stay.nd
 refine ⟨_,(aae (aam (i:=2) nd rfl (Or.inl rfl) (ai9 (ae0 T) (asd (afi T)) r (aaa (pv 0) aac))) (aae (abm (ai9 (ad3 T) (asd (ahq T)) r (aaa aab (aaa (acm (v:=.int 5) rfl b ⟨_,rfl⟩) (aaa (pv 1) aac))))) (aae (abm (agp (ad3 T) r (aaa aab (aaa (acm (v:=.int 12) rfl a ⟨_,rfl⟩) (aaa (aao aap (pv 0) aab (fun _ _=>rfl)) aac))))) ae3))),?_⟩
 refine ahl h fun ss x u q B F o=>?_
 obtain ⟨n,es,d,rfl,p,m,j,l,hd,k1,k2⟩:=q
 show EvS B _ _ [some (.st (webD n es)),some (.st d),none,none,none]
 row_cond go
 refine ahm o ?_
 row_cond go
 by_cases hJ:Joined n es
 ·refine .inr ⟨n,es,rfl,p,m,j,l,hJ,af0 acu ?_⟩
  row_cond go
  refine ahm o ?_
  row_cond go
  cases hb:btwD 0 5 d with
  | false=>exact .inl ⟨_,_,_,rfl,hb,k2 hJ⟩
  | true =>
   obtain ⟨q,rfl,C,y⟩:=auw hb
   have hn:12 < n:=by
    rcases hd hJ with z | z
    ·rw [hb] at z;cases z
    ·exact z
   refine .inr ⟨0,5,q,rfl,C,y,?_⟩
   row_cond go
   refine afe o ?_
   row_cond go
   exact ⟨1,12,.int n,rfl,aA8 (by omega),k2 hJ⟩
 ·exact .inl ⟨n,es,rfl,p,m,j,l,hJ,k1 hJ⟩
end
theorem ajv:bootBuiltins "ValueError" = some (.type "ValueError"):=by decide +kernel
def ap1 (mg:Str->Option Value):VIo:=fun A ss Q=>∃ (C:Addr) (due:Int),A=OE C/\ss=[.st (.int due)]/\((mg "NoJoin" = some (.ref C)/\due=1)\/(mg "NoNumber" = some (.ref C)/\due=4))/\Q (OE C) (.st (.bool true))
def anx (mg:Str->Option Value):VP:=fun ss Q=>∃ (n way:Int) (es:List (Int × Int)) (d1 d2:PyData),ss=[.st (.int way),.st (webD n es),.st d1,.st d2]/\1<=n/\n<=100/\InN n es/\es.length<=10000/\(way=0->Joined n es->btwD 0 5 d1=false\/12 < n)/\(way ≠ 0->¬ Joined n es)/\(¬ Joined n es->∀ C,mg "NoJoin" = some (.ref C)->Q (.own (OE C)))/\(Joined n es->∀ C,mg "NoNumber" = some (.ref C)->Q (.own (OE C)))
section
variable {P:Program} {w:World} {K:Frag} {mg:Str->Option Value} {base:Heap}
theorem sc_law_kinds:FnScope ["caught","due","kinds"] ["caught","due"] (aah s_law_kinds):=by row_cond sc
theorem acl (T:Txt K mg):Can P w K mg base "_law_kinds" 1 ["caught","due"] (spI K (ap1 mg)):=by
 obtain ⟨f,fd,D⟩:=T.d_law_kinds
 obtain ⟨o,d⟩:=T.x_NoPlace
 obtain ⟨j,c⟩:=T.x_NoJoin
 obtain ⟨G,p⟩:=T.x_NoTie
 obtain ⟨z,l⟩:=T.x_NoTree
 obtain ⟨b,a⟩:=T.x_NoNumber
 obtain ⟨y,m⟩:=T.x_NoText
 obtain ⟨x,n⟩:=T.x_NoName
 obtain ⟨F,r⟩:=T.x_NoRow
 refine D.can (D.fn.ok sc_law_kinds (fun vs H Q E h=>lenI h fun A ss U q=>by obtain ⟨C,due,rfl,rfl,g,S⟩:=q;rfl) (fun cdv A outer s H vs Q E L h=>?_))
 have nd:=sc_law_kinds.nd
 refine ⟨_,(aae (aam (i:=2) nd rfl (Or.inl rfl) (aa3 (aaa (aaq ab8 (by rfl) T.b_isinstance aa2 (aaa (pv 0) (aaa (acm (v:=.ref o) rfl d.mgx rfl) aac))) (aaa (aaq ab8 (by rfl) T.b_isinstance aa2 (aaa (pv 0) (aaa (acm (v:=.ref j) rfl c.mgx rfl) aac))) (aaa (aaq ab8 (by rfl) T.b_isinstance aa2 (aaa (pv 0) (aaa (acm (v:=.ref G) rfl p.mgx rfl) aac))) aac)))))
  (aae (aam (i:=2) nd rfl (Or.inl rfl) (aad ag0 (pv 2) (aa3 (aaa (aaq ab8 (by rfl) T.b_isinstance aa2 (aaa (pv 0) (aaa (acm (v:=.ref z) rfl l.mgx rfl) aac))) (aaa (aaq ab8 (by rfl) T.b_isinstance aa2 (aaa (pv 0) (aaa (acm (v:=.ref b) rfl a.mgx rfl) aac))) (aaa (aaq ab8 (by rfl) T.b_isinstance aa2 (aaa (pv 0) (aaa (acm (v:=.ref y) rfl m.mgx rfl) aac))) aac))))))
  (aae (aam (i:=2) nd rfl (Or.inl rfl) (aad ag0 (pv 2) (aa3 (aaa (aaq ab8 (by rfl) T.b_isinstance aa2 (aaa (pv 0) (aaa (acm (v:=.ref x) rfl n.mgx rfl) aac))) (aaa (aaq ab8 (by rfl) T.b_isinstance aa2 (aaa (pv 0) (aaa (acm (v:=.ref F) rfl r.mgx rfl) aac))) aac)))))
  (aae (abe (PW.pt (agt (aa7 aml (pv 0) ac1 (aa0 _)) (ae1 (ab4 (ab3 (aaq ab8 (by rfl) T.b_isinstance aa2 (aaa (pv 0) (aaa (aef (v:=.ty "ValueError") rfl T.b_ValueError ajv rfl) aac))))))))
   (aag (aax ab2))
   aa6)
  (aag (aax (abv (awn L.units) (pv 2) (aen rfl (N:=["k","due"]) (src:=[none,some 1]) (by exact ab1 rfl rfl rfl rfl rfl rfl) (abq rfl T.b_range (aaa aab aac)) (fun _ _ _ _=>(aan (i:=0) (show List.Nodup (["k","due"]:List Str) by decide +kernel) rfl (Or.inl rfl) (hf:=Or.inr rfl))) (fun _ _ _ _=>ab0) (fun _ _ _ _=>(abv agv (pv 0) (pv 1) (aa0 _)))) (aa0 _)))))))),?_⟩
 refine axf h fun A0 ss U q B hK=>?_
 obtain ⟨C,due,rfl,rfl,g,S⟩:=q
 show EvS B _ _ [some (.io (OE C)),some (.st (.int due)),none]
 obtain ⟨O,M,I,X,h2,Y,h4,W,h6,h7,Z,hV,hw⟩:∃ O M:Bool,XIn K C/\kitOne K (.ref C) (.ref o)=some false/\kitOne K (.ref C) (.ref j)=some O/\kitOne K (.ref C) (.ref G)=some false/\kitOne K (.ref C) (.ref z)=some false/\kitOne K (.ref C) (.ref b)=some M/\kitOne K (.ref C) (.ref y)=some false/\kitOne K (.ref C) (.ref x)=some false/\kitOne K (.ref C) (.ref F)=some false/\kitOne K (.ref C) (.type "ValueError")=some true/\((O=true/\M=false/\due=1)\/(O=false/\M=true/\due=4)):=by
  rcases g with ⟨g,rfl⟩ | ⟨g,rfl⟩
  ·obtain rfl:j=C:=by have:=c.mgx.symm.trans g;cases this;rfl
   exact ⟨_,_,c.xin,T.y_NoJoin_NoPlace _ _ g d.mgx,T.y_NoJoin_NoJoin _ _ g g,T.y_NoJoin_NoTie _ _ g p.mgx,T.y_NoJoin_NoTree _ _ g l.mgx,T.y_NoJoin_NoNumber _ _ g a.mgx,T.y_NoJoin_NoText _ _ g m.mgx,T.y_NoJoin_NoName _ _ g n.mgx,T.y_NoJoin_NoRow _ _ g r.mgx,T.y_NoJoin_ValueError _ g,.inl ⟨rfl,rfl,rfl⟩⟩
  ·obtain rfl:b=C:=by have:=a.mgx.symm.trans g;cases this;rfl
   exact ⟨_,_,a.xin,T.y_NoNumber_NoPlace _ _ g d.mgx,T.y_NoNumber_NoJoin _ _ g c.mgx,T.y_NoNumber_NoTie _ _ g p.mgx,T.y_NoNumber_NoTree _ _ g l.mgx,T.y_NoNumber_NoNumber _ _ g g,T.y_NoNumber_NoText _ _ g m.mgx,T.y_NoNumber_NoName _ _ g n.mgx,T.y_NoNumber_NoRow _ _ g r.mgx,T.y_NoNumber_ValueError _ g,.inr ⟨rfl,rfl,rfl⟩⟩
 repeat (first
  | (refine ac0 (.inr rfl) I X ?_)
  | (refine ac0 (.inr rfl) I h2 ?_)
  | (refine ac0 (.inr rfl) I Y ?_)
  | (refine ac0 (.inr rfl) I h4 ?_)
  | (refine ac0 (.inr rfl) I W ?_)
  | (refine ac0 (.inr rfl) I h6 ?_)
  | (refine ac0 (.inr rfl) I h7 ?_)
  | (refine ac0 (.inr rfl) I Z ?_)
  | (refine arl (.inr rfl) I hV ?_)
  | (refine aup (.inr rfl) ?_)
  | row_cond st)
 unfold rngD
 refine agq (fun i:Nat => .bool (decide ((0+(i:Int))=due))) rfl (by simp) (fun u hu B' hB=>?_) ?_
 ·row_cond go
  exact rfl
 ·rcases hw with ⟨rfl,rfl,rfl⟩ | ⟨rfl,rfl,rfl⟩
  ·have L:(List.range (Int.toNat 8)).map (fun i:Nat=>PyData.bool (decide (0+(i:Int)=1)))=[.bool false,.bool true,.bool false,.bool false,.bool false,.bool false,.bool false,.bool false]:=by simp [List.range,List.range.loop]
   rw [L]
   have J:PyData.canLay0 (.list [.bool false,.bool true,.bool false,.bool false,.bool false,.bool false,.bool false,.bool false])=true:=by simp [PyData.canLay0,PyData.canLayAll0]
   refine ⟨_,_,.inl rfl,acu,am0 J J (by decide) ⟨_,rfl,rfl,?_⟩⟩
   have R:PyData.eqv (.list [.bool false,.bool true,.bool false,.bool false,.bool false,.bool false,.bool false,.bool false]) (.list [.bool false,.bool true,.bool false,.bool false,.bool false,.bool false,.bool false,.bool false])=true:=by first | rfl | decide +kernel | simp [PyData.eqv,PyData.eqvAll]
   exact R ▸ ⟨_,rfl,S⟩
  ·have L:(List.range (Int.toNat 8)).map (fun i:Nat=>PyData.bool (decide (0+(i:Int)=4)))=[.bool false,.bool false,.bool false,.bool false,.bool true,.bool false,.bool false,.bool false]:=by simp [List.range,List.range.loop]
   rw [L]
   have J:PyData.canLay0 (.list [.bool false,.bool false,.bool false,.bool false,.bool true,.bool false,.bool false,.bool false])=true:=by simp [PyData.canLay0,PyData.canLayAll0]
   refine ⟨_,_,.inl rfl,acu,am0 J J (by decide) ⟨_,rfl,rfl,?_⟩⟩
   have R:PyData.eqv (.list [.bool false,.bool false,.bool false,.bool false,.bool true,.bool false,.bool false,.bool false]) (.list [.bool false,.bool false,.bool false,.bool false,.bool true,.bool false,.bool false,.bool false])=true:=by first | rfl | decide +kernel | simp [PyData.eqv,PyData.eqvAll]
   exact R ▸ ⟨_,rfl,S⟩
theorem sc_law_caught:FnScope ["way","web","k","paper","e","caught"] ["way","web","k","paper"] (aah s_law_caught):=by row_cond sc
theorem acf (T:Txt K mg):Can P w K mg base "_law_caught" 10 ["way","web","k","paper"] (spP K (anx mg)):=by
 obtain ⟨f,fd,D⟩:=T.d_law_caught
 obtain ⟨d,b⟩:=T.x_TieError
 refine D.can (D.fn.ok sc_law_caught (fun vs H Q E h=>lenP h fun ss J q=>by obtain ⟨n,way,es,u,z,rfl,G,x,o,p,hd,hs,k1,k2⟩:=q;rfl) (fun cdv A outer s H vs Q E I h=>?_))
 have nd:=sc_law_caught.nd
 refine ⟨_,(aae (aam (i:=5) nd rfl (Or.inl rfl) ac1)
  (aae (awo (i:=4) ⟨rfl,rfl⟩ rfl b.ok rfl nd rfl rfl (axz (aa7 agv (pv 0) aab (aa0 _))
    (ali (aih T) I (aaa (pv 1) (aaa (pv 2) aac)))
    (ali (ahr T) I (aaa (pv 1) (aaa (pv 2) (aaa (pv 3) aac)))))
   (fun M=>(aag (aam (i:=5) nd rfl (Or.inl rfl) (pv 4)))))
  (aag (aax (pv 5))))),?_⟩
 refine abb h fun ss J q B L=>?_
 refine exS5 ss q fun n way es u z l=>?_
 have G:=l.1
 have x:=l.2.1
 have o:=l.2.2.1
 have p:=l.2.2.2.1
 have hd:=l.2.2.2.2.1
 have hs:=l.2.2.2.2.2.1
 have k1:=l.2.2.2.2.2.2.1
 have k2:=l.2.2.2.2.2.2.2
 clear l q
 show EvS B _ _ [some (.st (.int way)),some (.st (webD n es)),some (.st u),some (.st z),none,none]
 obtain ⟨g,c⟩:=T.x_NoJoin
 obtain ⟨j,a⟩:=T.x_NoNumber
 have r:XSub K g d:=am1 c.exc (T.s_NoJoin_TieError _ _ c.mgx b.mgx)
 have F:XSub K j d:=am1 a.exc (T.s_NoNumber_TieError _ _ a.mgx b.mgx)
 row_cond go
 refine aum ?_
 refine awp ?_
 row_cond go
 refine abk (fun v=>?_) (fun v=>?_)
 ·refine alh ?_
  row_cond go
  refine ⟨n,es,u,rfl,G,x,o,p,hd v,fun y C m=>?_,fun y C m=>?_⟩
  ·obtain rfl:g=C:=by have:=c.mgx.symm.trans m;cases this;rfl
   refine ⟨r,?_⟩
   dsimp only [List.set_cons_zero,List.set_cons_succ]
   refine aft (aet rfl ?_)
   dsimp only [List.set_cons_zero,List.set_cons_succ]
   repeat (first | row_cond st | (dsimp only [List.set_cons_zero,List.set_cons_succ];row_cond st))
   exact k1 y _ m
  ·obtain rfl:j=C:=by have:=a.mgx.symm.trans m;cases this;rfl
   refine ⟨F,?_⟩
   dsimp only [List.set_cons_zero,List.set_cons_succ]
   refine aft (aet rfl ?_)
   dsimp only [List.set_cons_zero,List.set_cons_succ]
   repeat (first | row_cond st | (dsimp only [List.set_cons_zero,List.set_cons_succ];row_cond st))
   exact k2 y _ m
 ·refine alh ?_
  row_cond go
  refine ⟨n,es,u,z,rfl,G,x,o,p,hs v,fun C m=>?_⟩
  obtain rfl:g=C:=by have:=c.mgx.symm.trans m;cases this;rfl
  refine ⟨r,?_⟩
  dsimp only [List.set_cons_zero,List.set_cons_succ]
  refine aft (aet rfl ?_)
  dsimp only [List.set_cons_zero,List.set_cons_succ]
  repeat (first | row_cond st | (dsimp only [List.set_cons_zero,List.set_cons_succ];row_cond st))
  exact k1 (hs v) _ m
end
def shP (n:Int) (p:Int × Int):Int × Int:=(p.1+n,p.2+n)
theorem anz {n m:Int} {es fs:List (Int × Int)} (h:WebOk n es) (g:WebOk m fs) (i:n+m<=60):WebOk (n+m) (es ++ fs.map (shP n)):=by
 have:=h.lo
 have:=g.lo
 refine ⟨by omega,i,fun p c=>?_,aA3.mpr ⟨h.rise,?_,fun p c q d=>?_⟩⟩
 ·rcases ay2.mp c with c | c
  ·have:=h.inn p c;omega
  ·obtain ⟨q,d,rfl⟩:=az1.mp c
   have:=g.inn q d
   simp only [shP];omega
 ·rw [aC6]
  exact g.rise.imp fun {a b} h=>by simp only [ltP,shP] at *;omega
 ·obtain ⟨r,f,rfl⟩:=az1.mp d
  have:=h.inn p c
  have:=g.inn r f
  simp only [ltP,shP];omega
theorem ars {α:Type} (k:Nat) (x : α):(List.replicate k [x]).flatten=List.replicate k x:=by
 induction k with
 | zero=>rfl
 | succ k ih=>rw [aD8,List.flatten_cons,ih];rfl
def Split (n:Int) (es:List (Int × Int)):Prop:=∃ S:Int->Prop,(∀ u v,Tied es u v->(S u ↔ S v))/\(∃ u,0<=u/\u < n/\S u)/\∃ v,0<=v/\v < n/\¬ S v
theorem Split.not {n:Int} {es:List (Int × Int)} (h:Split n es):¬ Joined n es:=fun b=>by
 obtain ⟨S,cl,⟨u,g,l,j⟩,v,v0,f,c⟩:=h
 have a:∀ {d:Nat} {x:Int},Gr.Walk (Tied es) 0 d x->(S 0 ↔ S x):=fun w=>by
  induction w with
  | refl=>exact Iff.rfl
  | step _ t ih=>exact ih.trans (cl _ _ t)
 obtain ⟨d,hd⟩:=b u g l
 obtain ⟨e,i⟩:=b v v0 f
 exact c ((a i.1).mp ((a hd.1).mpr j))
theorem alo {n m:Int} {es fs:List (Int × Int)} (h:WebOk n es) (g:WebOk m fs):Split (n+m) (es ++ fs.map (shP n)):=by
 have c:=h.lo
 have g0:=g.lo
 have a:∀ u v,(u,v)∈es ++ fs.map (shP n)->(u < n ↔ v < n):=fun u v hm=>by
  rcases ay2.mp hm with z | z
  ·have:=h.inn _ z
   simp only at this
   omega
  ·obtain ⟨p,b,e⟩:=az1.mp z
   have:=g.inn p b
   unfold shP at e
   cases e
   omega
 refine ⟨fun u=>u < n,fun u v t=>?_,⟨0,by omega,by omega,by omega⟩,n,by omega,by omega,by omega⟩
 rcases t with t | t
 ·exact a u v t
 ·exact (a v u t).symm
theorem Split.re {n:Int} {es j:List (Int × Int)} {d:List Int} (h:Split n es) (hi:∀ p∈es,0<=p.1/\p.1 < p.2/\p.2 < n) (o:Order n d) (E:j.Perm (es.map (reP d))):Split n j:=by
 obtain ⟨S,cl,⟨u,m,q,D⟩,v,v0,l,B⟩:=h
 let i:Int->Prop:=fun x=>∃ a,0<=a/\a < n/\aa5 d a=x/\S a
 have f:∀ a,0<=a->a < n->(i (aa5 d a) ↔ S a):=fun a a0 A=>by
  constructor
  ·rintro ⟨b,b0,C,e,hb⟩
   by_cases z:b=a
   ·rw [← z];exact hb
   ·exact absurd e (o.ne b0 C a0 A z)
  ·intro ha;exact ⟨a,a0,A,rfl,ha⟩
 have g:∀ x y,(x,y)∈j->(i x ↔ i y):=fun x y hm=>by
  obtain ⟨p,r,e⟩:=az1.mp (E.mem_iff.mp hm)
  have:=hi p r
  have c:=cl p.1 p.2 (.inl r)
  have w:=f p.1 (by omega) (by omega)
  have s:=f p.2 (by omega) (by omega)
  unfold reP at e
  split at e
  ·cases e;exact w.trans (c.trans s.symm)
  ·cases e;exact s.trans (c.symm.trans w.symm)
 refine ⟨i,fun x y t=>?_,⟨aa5 d u,(o.at m q).2.1,(o.at m q).2.2,(f u m q).mpr D⟩,aa5 d v,(o.at v0 l).2.1,(o.at v0 l).2.2,fun z=>B ((f v v0 l).mp z)⟩
 rcases t with t | t
 ·exact g x y t
 ·exact (g y x t).symm
def upF (p a:Int):Int:=a+(if a ≥ p then 1 else 0)
def upP (p:Int) (q:Int × Int):Int × Int:=(upF p q.1,upF p q.2)
theorem al2 {n p:Int} {es:List (Int × Int)} (h:WebOk n es) (p0:0<=p) (b:p<=n):Split (n+1) (es.map (upP p)):=by
 have d:=h.lo
 have a:∀ u v,(u,v)∈es.map (upP p)->(u=p ↔ v=p):=fun u v hm=>by
  obtain ⟨q,c,e⟩:=az1.mp hm
  unfold upP upF at e
  cases e
  constructor
  ·intro z;exfalso;split at z <;> omega
  ·intro z;exfalso;split at z <;> omega
 have cl:∀ u v,Tied (es.map (upP p)) u v->(u=p ↔ v=p):=fun u v t=>by
  rcases t with t | t
  ·exact a u v t
  ·exact (a v u t).symm
 refine ⟨fun u=>u=p,cl,⟨p,p0,by omega,rfl⟩,if p=0 then 1 else 0,?_,?_,?_⟩
 ·split <;> omega
 ·split <;> omega
 ·intro z
  split at z <;> omega
theorem art {n p:Int} {es:List (Int × Int)} (h:WebOk n es):InN (n+1) (es.map (upP p)):=fun q b=>by
 obtain ⟨r,a,rfl⟩:=az1.mp b
 have:=h.inn r a
 unfold upP upF
 refine ⟨?_,?_,?_,?_⟩ <;> simp only <;> split <;> omega
def aux:VP:=fun ss Q=>∃ (n m:Int) (es fs:List (Int × Int)),ss=[.st (webD n es),.st (webD m fs)]/\WebOk n es/\WebOk m fs/\n+m<=60/\∀ gs,WebOk (n+m) gs->Split (n+m) gs->Q (.st (webD (n+m) gs))
def aru:VP:=fun ss Q=>∃ (n m:Int) (es fs:List (Int × Int)) (ds:List Int),ss=[.st (.list (ds.map .int)),.st (webD n es),.st (webD m fs)]/\DrawsOk ds/\140<=ds.length/\ds.length<=3000/\WebOk n es/\WebOk m fs/\n+m<=58/\∀ N qs,WebOk N qs->Split N qs->Q (.st (webD N qs))
def auy:VP:=fun ss Q=>∃ (n p:Int) (es:List (Int × Int)),ss=[.st (webD n es),.st (.int p)]/\WebOk n es/\Q (.st (webD (n+1) (es.map (upP p))))
section
variable {P:Program} {w:World} {K:Frag} {mg:Str->Option Value} {base:Heap}
theorem sc_law_beside:FnScope ["one","other","moved"] ["one","other"] (aah s_law_beside):=by row_cond sc
theorem ael (T:Txt K mg):Can P w K mg base "_law_beside" 1 ["one","other"] (spP K (aux)):=by
 obtain ⟨f,fd,D⟩:=T.d_law_beside
 refine D.can (D.fn.ok sc_law_beside (fun vs H Q E h=>lenP h fun ss g q=>by obtain ⟨n,m,es,fs,rfl,c,b,d,k⟩:=q;rfl) (fun cdv A outer s H vs Q E y h=>?_))
 have nd:=sc_law_beside.nd
 refine ⟨_,(aae (aeo (i:=2) nd rfl (Or.inl rfl) rfl (N:=["a","b","one"]) (src:=[none,none,some 0]) (by exact ab1 rfl rfl rfl rfl rfl rfl) (abd (aao aap (pv 1) aab (fun _ _=>rfl))) (fun _ _ _ _=>(show PG _ _ (gTup K 2 (abz (aav 0) (abz (aav 1) gNil))) from (adn rfl (aa4 (aan (i:=0) (show List.Nodup (["a","b","one"]:List Str) by decide +kernel) rfl (Or.inl rfl) (hf:=Or.inr rfl)) (aa4 (aan (i:=1) (show List.Nodup (["a","b","one"]:List Str) by decide +kernel) rfl (Or.inl rfl) (hf:=Or.inr rfl)) acn))))) (fun _ _ _ _=>ab0) (fun _ _ _ _=>(aba (aaa (aad aar (pv 0) (aao (show IxR _ (ab7 K) from aap) (pv 2) aab (fun _ _=>rfl))) (aaa (aad aar (pv 1) (aao (show IxR _ (ab7 K) from aap) (pv 2) aab (fun _ _=>rfl))) aac)))))
  (aag (aax (aba (aaa (aad aar (aao aap (pv 0) aab (fun _ _=>rfl)) (aao aap (pv 1) aab (fun _ _=>rfl))) (aaa (aad ag0 (aao aap (pv 0) aab (fun _ _=>rfl)) (pv 2)) aac)))))),?_⟩
 refine abb h fun ss g q B v=>?_
 refine exS4 ss q fun n m es fs a=>?_
 have c:=a.1
 have b:=a.2.1
 have d:=a.2.2.1
 have k:=a.2.2.2
 clear a q
 show EvS B _ _ [some (.st (webD n es)),some (.st (webD m fs)),none]
 row_cond go
 have j:=c.len
 have l:=b.len
 have u:(es.map prD).length+(fs.map fun p=>prD (shP n p)).length<=1000000:=by simp only [ax8];omega
 refine aew (xs:=fs) (fa:=fun p => .int p.1) (fb:=fun p => .int p.2) (fun p=>prD (shP n p)) (fun _=>true) rfl (by omega) ?_ ?_
 ·intro p o r x
  refine aco ⟨rfl,rfl,fun _=>?_⟩
  row_cond go
  exact rfl
 ·rw [aci]
  row_cond go
  rw [show (fs.map fun p=>prD (shP n p))=(fs.map (shP n)).map prD by rw [aB0];rfl,← aB2]
  exact k _ (anz c b d) (alo c b)
theorem sc_law_alone:FnScope ["web","p"] ["web","p"] (aah s_law_alone):=by row_cond sc
theorem ajw (T:Txt K mg):Can P w K mg base "_law_alone" 1 ["web","p"] (spP K (auy)):=by
 obtain ⟨f,fd,D⟩:=T.d_law_alone
 refine D.can (D.fn.ok sc_law_alone (fun vs H Q E h=>lenP h fun ss c q=>by obtain ⟨n,p,es,rfl,b,k⟩:=q;rfl) (fun cdv A outer s H vs Q E m h=>?_))
 have nd:=sc_law_alone.nd
 refine ⟨_,(aag (aax (aba (aaa (aad aar (aao aap (pv 0) aab (fun _ _=>rfl)) aab) (aaa (aen rfl (N:=["a","b","p"]) (src:=[none,none,some 1]) (by exact ab1 rfl rfl rfl rfl rfl rfl) (abd (aao aap (pv 0) aab (fun _ _=>rfl))) (fun _ _ _ _=>(show PG _ _ (gTup K 2 (abz (aav 0) (abz (aav 1) gNil))) from (adn rfl (aa4 (aan (i:=0) (show List.Nodup (["a","b","p"]:List Str) by decide +kernel) rfl (Or.inl rfl) (hf:=Or.inr rfl)) (aa4 (aan (i:=1) (show List.Nodup (["a","b","p"]:List Str) by decide +kernel) rfl (Or.inl rfl) (hf:=Or.inr rfl)) acn))))) (fun _ _ _ _=>ab0) (fun _ _ _ _=>(aba (aaa (aad aar (pv 0) (ad4 aep (by rfl) T.b_int ag5 (aaa (abv agw (pv 0) (pv 2) (aa0 _)) aac))) (aaa (aad aar (pv 1) (ad4 aep (by rfl) T.b_int ag5 (aaa (abv agw (pv 1) (pv 2) (aa0 _)) aac))) aac))))) aac))))),?_⟩
 refine abb h fun ss c q B j=>?_
 refine exS3 ss q fun n p es a=>?_
 have b:=a.1
 have k:=a.2
 clear a q
 show EvS B _ _ [some (.st (webD n es)),some (.st (.int p))]
 have d:=b.len
 row_cond go
 refine aew (xs:=es) (fa:=fun p => .int p.1) (fb:=fun p => .int p.2) (fun q=>prD (upP p q)) (fun _=>true) rfl (by omega) ?_ ?_
 ·intro q o g l
  refine aco ⟨rfl,rfl,fun _=>?_⟩
  row_cond go
  exact ⟨by simp [upP,upF,prD],rfl⟩
 ·rw [aci]
  row_cond go
  rw [show (es.map fun q=>prD (upP p q))=(es.map (upP p)).map prD by rw [aB0];rfl]
  exact k
theorem sc_law_parted:FnScope ["d","one","other","found","left","order","k","turned"] ["d","one","other"] (aah s_law_parted):=by row_cond sc
theorem aii (T:Txt K mg):Can P w K mg base "_law_parted" 2 ["d","one","other"] (spP K (aru)):=by
 obtain ⟨f,fd,D⟩:=T.d_law_parted
 refine D.can (D.fn.ok sc_law_parted (fun vs H Q E h=>lenP h fun ss M q=>by obtain ⟨n,m,es,fs,ds,rfl,C,W,a2,Z,G,hl,k⟩:=q;rfl) (fun cdv A outer s H vs Q E hr h=>?_))
 have nd:=sc_law_parted.nd
 refine ⟨_,(aae (aam (i:=3) nd rfl (Or.inl rfl) (aai (ael T) hr (aaa (pv 1) (aaa (pv 2) aac))))
  (aae (abe (aa7 agv (aad aau (aao aap (pv 0) aab (fun _ _=>rfl)) aab) aab (aa0 _))
   (aag (aam (i:=3) nd rfl (Or.inl rfl) (aai (ael T) hr (aaa (pv 3) (aaa (aba (aaa (aad aar aab (aad aau (aao aap (pv 0) aab (fun _ _=>rfl)) aab)) (aaa (aad aoj (aa3 (aaa (aba (aaa aab (aaa aab aac))) aac)) (aad aau (aao aap (pv 0) aab (fun _ _=>rfl)) aab)) aac))) aac)))))
   aa6)
  (aae (aam (i:=4) nd rfl (Or.inl rfl) (agn rfl T.b_list rfl T.b_range rfl (aaa (aao aap (pv 3) aab (fun _ _=>rfl)) aac)))
  (aae (aam (i:=5) nd rfl (Or.inr rfl) (aa3 aac))
  (aae (abp aF9 rfl (abq rfl T.b_range (aaa (aao aap (pv 3) aab (fun _ _=>rfl)) aac)) (aan (i:=6) nd rfl (Or.inl rfl))
   (aag (abm (ac9 PySem.F.plainAttrs_list PySem.F.slot_list_append PySem.F.type_list_append abj (pv 5) (aaa (ac9 PySem.F.plainAttrs_list PySem.F.slot_list_pop PySem.F.type_list_pop akg (pv 4) (aaa (aad aau (aad abu (aao aap (pv 0) (aad aar aab (aad aau (pv 6) aab)) (fun _ _=>rfl)) (aad aar aab (aad abu (pv 6) aab))) (aaq abr (by rfl) T.b_len act (aaa (pv 4) aac))) aac)) aac)))))
  (aae (aeo (i:=7) nd rfl (Or.inl rfl) rfl (N:=["a","b","order"]) (src:=[none,none,some 5]) (by exact ab1 rfl rfl rfl rfl rfl rfl) (abd (aao aap (pv 3) aab (fun _ _=>rfl))) (fun _ _ _ _=>(show PG _ _ (gTup K 2 (abz (aav 0) (abz (aav 1) gNil))) from (adn rfl (aa4 (aan (i:=0) (show List.Nodup (["a","b","order"]:List Str) by decide +kernel) rfl (Or.inl rfl) (hf:=Or.inr rfl)) (aa4 (aan (i:=1) (show List.Nodup (["a","b","order"]:List Str) by decide +kernel) rfl (Or.inl rfl) (hf:=Or.inr rfl)) acn))))) (fun _ _ _ _=>ab0) (fun _ _ _ _=>(aaq (show abh _ (.builtin "sorted") (afa K) from ag8) (by rfl) T.b_sorted ad9 (aaa (aa3 (aaa (aao (show IxR _ (ab7 K) from aap) (pv 2) (pv 0) (fun _ _=>rfl)) (aaa (aao (show IxR _ (ab7 K) from aap) (pv 2) (pv 1) (fun _ _=>rfl)) aac))) aac))))
  (aag (aax (aba (aaa (aao aap (pv 3) aab (fun _ _=>rfl)) (aaa (aaq ahb (by rfl) T.b_sorted ad9 (aaa (aen rfl (N:=["a","b"]) (src:=[none,none]) (by exact ab1 rfl rfl rfl rfl rfl rfl) (abd (pv 7)) (fun _ _ _ _=>(show PG _ _ (gLst K 2 (abz (aav 0) (abz (aav 1) gNil))) from (ao0 rfl (aa4 (aan (i:=0) (show List.Nodup (["a","b"]:List Str) by decide +kernel) rfl (Or.inl rfl) (hf:=Or.inr rfl)) (aa4 (aan (i:=1) (show List.Nodup (["a","b"]:List Str) by decide +kernel) rfl (Or.inl rfl) (hf:=Or.inr rfl)) acn))))) (fun _ _ _ _=>ab0) (fun _ _ _ _=>(aba (aaa (pv 0) (aaa (pv 1) aac))))) aac)) aac))))))))))),?_⟩
 refine abb h fun ss M q B hK=>?_
 refine exS5 ss q fun n m es fs ds b=>?_
 have C:=b.1
 have W:=b.2.1
 have a2:=b.2.2.1
 have Z:=b.2.2.2.1
 have G:=b.2.2.2.2.1
 have hl:=b.2.2.2.2.2.1
 have k:=b.2.2.2.2.2.2
 clear b q
 show EvS B _ _ [some (.st (.list (ds.map .int))),some (.st (webD n es)),some (.st (webD m fs)),none,none,none,none,none]
 obtain ⟨x4,a4,_,_⟩:=C.at (i:=124) (by omega) (by omega)
 obtain ⟨v,a5,_,_⟩:=C.at (i:=125) (by omega) (by omega)
 have hn:=Z.lo
 have hm:=G.lo
 row_cond go
 refine ⟨n,m,es,fs,rfl,Z,G,by omega,fun r l J=>?_⟩
 row_cond go
 rename_i c_ hc_
 refine' cutR (R:=∀ (N:Int) (r:List (Int × Int)),WebOk N r->Split N r->EvS B c_ { nx:=fun x=>M (.st .none),rt:=fun s x=>M s } [some (.st (.list (ds.map .int))),some (.st (webD n es)),some (.st (webD m fs)),some (.st (webD N r)),none,none,none,none]) (fun R=>?K1) ?K2
 case K1 =>
  refine abk (fun h=>?_) (fun h=>?_)
  ·row_cond go
   refine ams (by omega) (by omega) (by simp;omega) ?_
   rw [ars]
   obtain ⟨hs,a1,X⟩:∃ hs:List (Int × Int),WebOk (1+v % 2) hs/\List.replicate (v % 2).toNat (PyData.tuple [PyData.int 0,PyData.int 1])=hs.map prD:=by
    rcases (show v % 2=0\/v % 2=1 by omega) with z | z <;> rw [z]
    ·exact ⟨[],⟨by omega,by omega,(fun p o=>by cases o),List.Pairwise.nil⟩,rfl⟩
    ·exact ⟨[(0,1)],⟨by omega,by omega,(fun p o=>by cases az6.mp o;simp),List.pairwise_singleton _ _⟩,rfl⟩
   rw [X]
   row_cond go
   refine ⟨n+m,1+v % 2,r,hs,rfl,l,a1,by omega,fun a8 a9 b1=>?_⟩
   repeat (first | (refine R _ _ ?_ ?_ <;> assumption) | row_cond st)
  ·repeat (first | (refine R _ _ ?_ ?_ <;> assumption) | row_cond st)
 case K2 =>
  clear l J r
  (generalize some (Sl.st (webD n es))=v1)
  (generalize some (Sl.st (webD m fs))=v2)
  intro N es l J
  have a3:=l.lo
  have O:=l.hi
  have b0:=l.len
  row_cond go
  refine acy (fun i e=>∃ c left S,e=[some (.st (.list (ds.map .int))),v1,v2,some (.st (webD N es)),some (.own (OL (left.map .int))),some (.own (OL (c.map .int))),S,none]/\Order N (c ++ left)/\c.length=i) ⟨[],(List.range N.toNat).map fun (i:Nat)=>(i:Int),none,by rw [← aic];rfl,Order.id N,rfl⟩ ?_ ?_
  ·rintro i e hi d
   refine exS3 e d fun c left S b=>?_
   have g:=b.1
   have Y:=b.2
   clear b d
   have u:left.length=N.toNat - i:=by have:=g.len;simp at this;omega
   obtain ⟨x,ax,xl,xh⟩:=C.at (i:=126+(0+(i:Int)) % 12) (by omega) (by omega)
   have a6:1<=1+(0+(i:Int)) / 12/\1+(0+(i:Int)) / 12<=100:=by omega
   iterate 29 (row_cond st)
   (generalize 1+(0+(i:Int)) / 12=z12 at a6)
   row_cond st
   row_cond st
   (generalize x / z12=q)
   row_cond go
   rw [ax8]
   have q0:=aB4 q (show (left.length:Int) ≠ 0 by omega)
   have q1:=aB5 q (show 0 < (left.length:Int) by omega)
   row_cond go
   (generalize q % (left.length:Int)=j at q0 q1)
   obtain ⟨y,hy⟩:∃ y,left[j.toNat]?=some y:=⟨_,ax5 (show j.toNat < left.length by omega)⟩
   refine ⟨_,left.map .int,j,j.toNat,.int y,rfl,rfl,.inl rfl,by omega,by omega,apz q0 (by rw [ax8];exact q1),ap0 hy,?_⟩
   rw [afj]
   dsimp only [List.set_cons_zero,List.set_cons_succ,reS]
   row_cond go
   refine ⟨_,rfl,by rw [ax8];omega,?_⟩
   refine ⟨c ++ [y],left.eraseIdx j.toNat,_,by rw [ad2],ahj g hy,by simp;omega⟩
  ·rintro e d
   refine exS3 e d fun c left S b=>?_
   have g:=b.1
   have Y:=b.2
   clear b d
   have u:left=[]:=by have:=g.len;simp at this;exact List.length_eq_zero_iff.mp (by omega)
   subst u
   rw [aB7] at g
   have L:=l.ps
   refine ah8 5 rfl acu ?_
   row_cond go
   refine aew (xs:=es) (fa:=fun p => .int p.1) (fb:=fun p => .int p.2) (fun p => .list [.int (reP c p).1,.int (reP c p).2]) (fun _=>true) rfl (by omega) ?_ ?_
   ·intro p o B' hB
    have U:=L.inn p o
    have r1:=adt (f:=PyData.int) (g.atI (a:=p.1) (by omega) (by omega))
    have r2:=adt (f:=PyData.int) (g.atI (a:=p.2) (by omega) (by omega))
    refine aco ⟨rfl,rfl,fun _=>?_⟩
    refine abc (ai2 ?_)
    row_cond go
    refine ⟨[aa5 c p.1,aa5 c p.2],rfl,by simp,fun a7 a0 I=>adj ⟨?_,rfl⟩⟩
    rw [ase a0 I]
    unfold reP
    split <;> rfl
   ·rw [aci]
    row_cond go
    refine ai4 (ps:=es.map (reP c)) ?_
    row_cond go
    refine ai5 (xs:=es) (fa:=fun p => .int (reP c p).1) (fb:=fun p => .int (reP c p).2) (fun p=>prD (reP c p)) (fun _=>true) rfl (by omega) ?_ ?_
    ·intro p o B' hB
     refine aco ⟨rfl,rfl,fun _=>?_⟩
     row_cond go
     exact rfl
    ·rw [aci]
     row_cond go
     refine ⟨by rw [aB0];rfl,fun qs U hs=>adj ?_⟩
     row_cond go
     exact k N qs (alf a3 O (L.re g) U hs) (J.re L.inn g U)
end
def an0 (K:Frag):Sp:=fun vs H Q _=>∃ (a:Addr) (ns:List Int),vs=[.ref a]/\SqL K H a (ns.map V.int)/\ns.length<=63/\∀ H',Q (.bl true) H'
def asf:VP:=fun ss Q=>∃ ns:List Int,ss=[.scr ns]/\ns.length<=63/\Q (.st (.bool true))
theorem arv {K:Frag} {vs:List V} {H:Hp} {Q:VK} {E:XK} (h:an0 K vs H Q E):spP K asf vs H Q E:=by
 obtain ⟨a,ns,rfl,c,b,k⟩:=h
 refine ⟨H,[.scr ns],fun s=>s=.st (.bool true),Same.refl _,fun a d h=>h,.cons ⟨a,rfl,c⟩ .nil,⟨ns,rfl,b,rfl⟩,fun s e v G' H' Fv o=>?_⟩
 subst e
 have r:=o.ok.1
 cases r
 exact k _
theorem webP (n:Int) (es:List (Int × Int)):aas (webD n es)=true:=by
 have:=ans es
 simp only [webD,aas,plainDs,this,Bool.and_self]
theorem ax4 (n:Int) (es:List (Int × Int)):(webD n es).depth<=4:=by
 have h:PyData.depthAll (es.map prD)<=1:=af9 fun d hd=>by
  obtain ⟨p,_,rfl⟩:=az1.mp hd
  exact apr p
 simp only [webD,PyData.depth,PyData.depthAll]
 omega
theorem awz {n u v:Int} {es:List (Int × Int)} (a:Joined n es) (f:0<=u) (b:u < n) (v0:0<=v) (c:v < n) (h:u ≠ v):0 < dsF es u v:=by
 obtain ⟨d,e⟩:=ahn a f b v0 c
 have hd:=(Gr.farO_some.mp e).1
 simp only [dsF,e,Option.getD_some]
 cases d with
 | zero=>cases hd;exact absurd rfl h
 | succ d=>omega
def oddL (x1 x2:Int):List PyData:=[.int 6,.int (-1),.int (6+x1),.int (0 - x2 - 1),.int 10000000000000000000000000,.bool true,.bool false,.none,.str "0",.list [.int 0],.tuple [.int 0],.dict []]
theorem auz {a b:Int} (f:0<=a) (c:0<=b):∀ d∈oddL a b,btwD 0 5 d=false:=by
 intro d hd
 unfold oddL at hd
 simp only [ay3,aE8,or_false] at hd
 rcases hd with rfl | rfl | rfl | rfl | rfl | rfl | rfl | rfl | rfl | rfl | rfl | rfl
 all_goals first | rfl | exact aA8 (by omega) | (show decide _=false;exact aA8 (by omega))
section
variable {P:Program} {w:World} {K:Frag} {mg:Str->Option Value} {base:Heap}
theorem sc_law:FnScope ["script","d","web","other","apart","alone","kept","odd","thing","one","paper","k"] ["script"] (aah s_law):=by row_cond sc
theorem au0 (T:Txt K mg) {f:Addr} {fd:FuncData} (D:DefAt K mg "law" s_law ["script"] f fd):FnOk P w K mg base CX0 12 f fd ["script"] (spP K (asf)):=by
 refine D.fn.ok sc_law (fun vs H Q E h=>lenP h fun ss Q' q=>by obtain ⟨ns,rfl,b0,kk⟩:=q;rfl) (fun cdv A outer s H vs Q E o h=>?_)
 have nd:=sc_law.nd
 refine ⟨_,(PSq.out (abx (aam (i:=1) nd rfl (Or.inl rfl) (aai (aju T) o (@aaa _ _ _ _ _ (pv 0) (@aaa _ _ _ _ _ aab aac rfl) rfl))) (abx (aam (i:=2) nd rfl (Or.inl rfl) (aai (aga T) o (@aaa _ _ _ _ _ (pv 1) (@aaa _ _ _ _ _ aab (@aaa _ _ _ _ _ (aao aap (@aa3 _ _ _ _ (@aaa _ _ _ _ _ aab (@aaa _ _ _ _ _ aab (@aaa _ _ _ _ _ aab aac rfl) rfl) rfl)) (aad aau (aao aap (pv 1) aab (fun _ _=>rfl)) aab) (fun _ _=>rfl)) aac rfl) rfl) rfl))) (abx (aam (i:=3) nd rfl (Or.inl rfl) (aai (aga T) o (@aaa _ _ _ _ _ (pv 1) (@aaa _ _ _ _ _ aab (@aaa _ _ _ _ _ aab aac rfl) rfl) rfl))) (abx (aam (i:=4) nd rfl (Or.inl rfl) (aai (aii T) o (@aaa _ _ _ _ _ (pv 1) (@aaa _ _ _ _ _ (pv 3) (@aaa _ _ _ _ _ (pv 2) aac rfl) rfl) rfl))) (abx (aam (i:=5) nd rfl (Or.inl rfl) (aai (ajw T) o (@aaa _ _ _ _ _ (pv 3) (@aaa _ _ _ _ _ (aad aau (aao aap (pv 1) aab (fun _ _=>rfl)) (aad aar (aao aap (pv 3) aab (fun _ _=>rfl)) aab)) aac rfl) rfl))) (abx (aam (i:=6) nd rfl (Or.inl rfl) (@aa3 _ _ _ _ (@aaa _ _ _ _ _ (aai (adc T) o (@aaa _ _ _ _ _ (pv 2) aac rfl)) (@aaa _ _ _ _ _ (aai (adc T) o (@aaa _ _ _ _ _ (pv 3) aac rfl)) (@aaa _ _ _ _ _ (aai (adc T) o (@aaa _ _ _ _ _ (pv 4) aac rfl)) (@aaa _ _ _ _ _ (aai (adc T) o (@aaa _ _ _ _ _ (pv 5) aac rfl)) aac rfl) rfl) rfl) rfl))) (abx (aam (i:=7) nd rfl (Or.inl rfl) (@aa3 _ _ _ _ (by (refine' aaa (hs:=?C30) ?A30 ?B30;(case C30=>exact rfl);(case A30=>exact aab);(case B30=>refine' aaa (hs:=?C29) ?A29 ?B29;(case C29=>exact rfl);(case A29=>exact (ar0 aob aab));(case B29=>refine' aaa (hs:=?C28) ?A28 ?B28;(case C28=>exact rfl);(case A28=>exact (aad aar aab (aao aap (pv 1) aab (fun _ _=>rfl))));(case B28=>refine' aaa (hs:=?C27) ?A27 ?B27;(case C27=>exact rfl);(case A27=>exact (aad acj (aad acj aab (aao aap (pv 1) aab (fun _ _=>rfl))) aab));(case B27=>refine' aaa (hs:=?C26) ?A26 ?B26;(case C26=>exact rfl);(case A26=>exact (amk (n:=10000000000000000000000000) (by decide) (by refine ⟨by decide,by decide,by decide⟩)));(case B26=>refine' aaa (hs:=?C25) ?A25 ?B25;(case C25=>exact rfl);(case A25=>exact ab2);(case B25=>refine' aaa (hs:=?C24) ?A24 ?B24;(case C24=>exact rfl);(case A24=>exact ab2);(case B24=>refine' aaa (hs:=?C23) ?A23 ?B23;(case C23=>exact rfl);(case A23=>exact ac1);(case B23=>refine' aaa (hs:=?C22) ?A22 ?B22;(case C22=>exact rfl);(case A22=>exact an4);(case B22=>refine' aaa (hs:=?C21) ?A21 ?B21;(case C21=>exact rfl);(case A21=>exact (@aa3 _ _ _ _ (@aaa _ _ _ _ _ aab aac rfl)));(case B21=>refine' aaa (hs:=?C20) ?A20 ?B20;(case C20=>exact rfl);(case A20=>exact (@aba _ _ _ _ _ (@aaa _ _ _ _ _ aab aac rfl)));(case B20=>refine' aaa (hs:=?C19) ?A19 ?B19;(case C19=>exact rfl);(case A19=>exact ap9);(case B19=>exact aac)))))))))))))))) (abx (@abp _ _ _ _ _ _ _ _ aF9 rfl (@abd _ _ _ _ (aad ag0 (@aa3 _ _ _ _ (@aaa _ _ _ _ _ aab (@aaa _ _ _ _ _ aab (@aaa _ _ _ _ _ aab aac rfl) rfl) rfl)) (pv 7))) (aan (i:=8) nd rfl (Or.inl rfl))
   (PSq.out (abx (@abp _ _ _ _ _ _ _ _ aF9 rfl (@abd _ _ _ _ (@aa3 _ _ _ _ (@aaa _ _ _ _ _ (pv 4) (@aaa _ _ _ _ _ (pv 5) aac rfl) rfl))) (aan (i:=9) nd rfl (Or.inl rfl))
   (PSq.out (ack (@abe _ _ _ _ _ _ _ _ (ab4 (ab3 (aai (acl T) o (by (refine' aaa (hs:=?C14) ?A14 ?B14;(case C14=>exact rfl);(case A14=>exact (aai (acf T) o (by (refine' aaa (hs:=?C18) ?A18 ?B18;(case C18=>exact rfl);(case A18=>exact aab);(case B18=>refine' aaa (hs:=?C17) ?A17 ?B17;(case C17=>exact rfl);(case A17=>exact (pv 9));(case B17=>refine' aaa (hs:=?C16) ?A16 ?B16;(case C16=>exact rfl);(case A16=>exact (pv 8));(case B16=>refine' aaa (hs:=?C15) ?A15 ?B15;(case C15=>exact rfl);(case A15=>exact ac1);(case B15=>exact aac))))))));(case B14=>refine' aaa (hs:=?C13) ?A13 ?B13;(case C13=>exact rfl);(case A13=>exact aab);(case B13=>exact aac)))))))
   (PSq.out (ack (aax ab2)))
   aa6))) (fun _=>rfl)) (ack (@abe _ _ _ _ _ _ _ _ (PW.pt (ags (aa7 afn (aao aap (pv 2) aab (fun _ _=>rfl)) aab (aa0 _)) (afl (ab4 (ab3 (aai (acl T) o (by (refine' aaa (hs:=?C8) ?A8 ?B8;(case C8=>exact rfl);(case A8=>exact (aai (acf T) o (by (refine' aaa (hs:=?C12) ?A12 ?B12;(case C12=>exact rfl);(case A12=>exact aab);(case B12=>refine' aaa (hs:=?C11) ?A11 ?B11;(case C11=>exact rfl);(case A11=>exact (pv 2));(case B11=>refine' aaa (hs:=?C10) ?A10 ?B10;(case C10=>exact rfl);(case A10=>exact (pv 8));(case B10=>refine' aaa (hs:=?C9) ?A9 ?B9;(case C9=>exact rfl);(case A9=>exact ac1);(case B9=>exact aac))))))));(case B8=>refine' aaa (hs:=?C7) ?A7 ?B7;(case C7=>exact rfl);(case A7=>exact aab);(case B7=>exact aac))))))))))
   (PSq.out (ack (aax ab2)))
   aa6)))) (fun _=>rfl)) (abx (@abp _ _ _ _ _ _ _ _ aF9 rfl (@abd _ _ _ _ (pv 7)) (aan (i:=8) nd rfl (Or.inl rfl))
   (PSq.out (ack (@abe _ _ _ _ _ _ _ _ (ab4 (ab3 (aai (acl T) o (by (refine' aaa (hs:=?C2) ?A2 ?B2;(case C2=>exact rfl);(case A2=>exact (aai (acf T) o (by (refine' aaa (hs:=?C6) ?A6 ?B6;(case C6=>exact rfl);(case A6=>exact aab);(case B6=>refine' aaa (hs:=?C5) ?A5 ?B5;(case C5=>exact rfl);(case A5=>exact (pv 3));(case B5=>refine' aaa (hs:=?C4) ?A4 ?B4;(case C4=>exact rfl);(case A4=>exact (pv 8));(case B4=>refine' aaa (hs:=?C3) ?A3 ?B3;(case C3=>exact rfl);(case A3=>exact ac1);(case B3=>exact aac))))))));(case B2=>refine' aaa (hs:=?C1) ?A1 ?B1;(case C1=>exact rfl);(case A1=>exact aab);(case B1=>exact aac)))))))
   (PSq.out (ack (aax ab2)))
   aa6))) (fun _=>rfl)) (abx (@abp _ _ _ _ _ _ _ _ aF9 rfl (@abd _ _ _ _ (@aa3 _ _ _ _ (@aaa _ _ _ _ _ (@aba _ _ _ _ _ (@aaa _ _ _ _ _ aab (@aaa _ _ _ _ _ (@aa3 _ _ _ _ (@aaa _ _ _ _ _ aab (@aaa _ _ _ _ _ aab aac rfl) rfl)) aac rfl) rfl)) (@aaa _ _ _ _ _ (@aba _ _ _ _ _ (@aaa _ _ _ _ _ aab (@aaa _ _ _ _ _ (@aa3 _ _ _ _ aac) aac rfl) rfl)) (@aaa _ _ _ _ _ (@aba _ _ _ _ _ (@aaa _ _ _ _ _ aab (@aaa _ _ _ _ _ (@aa3 _ _ _ _ (@aaa _ _ _ _ _ aab (@aaa _ _ _ _ _ (aad acj (aao aap (pv 4) aab (fun _ _=>rfl)) aab) aac rfl) rfl)) aac rfl) rfl)) (@aaa _ _ _ _ _ (@aba _ _ _ _ _ (@aaa _ _ _ _ _ (ar0 aob aab) (@aaa _ _ _ _ _ (@aa3 _ _ _ _ (@aaa _ _ _ _ _ aab aac rfl)) aac rfl) rfl)) aac rfl) rfl) rfl) rfl))) (aan (i:=10) nd rfl (Or.inl rfl))
   (PSq.out (ack (@abp _ _ _ _ _ _ _ _ aF9 rfl (@abd _ _ _ _ (@aa3 _ _ _ _ (@aaa _ _ _ _ _ aab (@aaa _ _ _ _ _ aab (@aaa _ _ _ _ _ (aad aau (aao aap (pv 1) aab (fun _ _=>rfl)) aab) aac rfl) rfl) rfl))) (aan (i:=11) nd rfl (Or.inl rfl))
   (PSq.out (abx (@abe _ _ _ _ _ _ _ _ (ab4 (ab3 (aai (acl T) o (@aaa _ _ _ _ _ (aai (acf T) o (@aaa _ _ _ _ _ aab (@aaa _ _ _ _ _ (pv 4) (@aaa _ _ _ _ _ (pv 11) (@aaa _ _ _ _ _ (pv 10) aac rfl) rfl) rfl) rfl)) (@aaa _ _ _ _ _ aab aac rfl) rfl))))
   (PSq.out (ack (aax ab2)))
   aa6) (ack (@abe _ _ _ _ _ _ _ _ (ab4 (ab3 (aai (acl T) o (@aaa _ _ _ _ _ (aai (acf T) o (@aaa _ _ _ _ _ aab (@aaa _ _ _ _ _ (pv 5) (@aaa _ _ _ _ _ (pv 11) (@aaa _ _ _ _ _ (pv 10) aac rfl) rfl) rfl) rfl)) (@aaa _ _ _ _ _ aab aac rfl) rfl))))
   (PSq.out (ack (aax ab2)))
   aa6)))) (fun _=>rfl)))) (fun _=>rfl)) (abx (@abe _ _ _ _ _ _ _ _ (aa7 ar1 (aai (aig T) o (@aaa _ _ _ _ _ (pv 3) (@aaa _ _ _ _ _ aab (@aaa _ _ _ _ _ (@aba _ _ _ _ _ (@aaa _ _ _ _ _ aab (@aaa _ _ _ _ _ (@aa3 _ _ _ _ (@aaa _ _ _ _ _ aab (@aaa _ _ _ _ _ aab aac rfl) rfl)) aac rfl) rfl)) aac rfl) rfl) rfl)) (abv afn (aao aap (pv 3) aab (fun _ _=>rfl)) aab (aa0 _)) (aa0 _))
   (PSq.out (ack (aax ab2)))
   aa6) (ack (aax (abv (avl o.units) (@aa3 _ _ _ _ (@aaa _ _ _ _ _ (pv 2) (@aaa _ _ _ _ _ (pv 3) (@aaa _ _ _ _ _ (pv 4) (@aaa _ _ _ _ _ (pv 5) aac rfl) rfl) rfl) rfl)) (pv 6) (aa0 _)))))))))))))))),?_⟩
 refine abb h fun ss Q' q B hK=>?_
 refine exS1 ss q fun ns a4=>?_
 have b0:=a4.1
 have kk:=a4.2
 clear a4 q
 show EvS B _ _ [some (.scr ns),none,none,none,none,none,none,none,none,none,none,none]
 row_cond go
 refine ⟨ns,140,rfl,b0,by decide,by decide,fun ds c5 S L=>af0 acu ?_⟩
 obtain ⟨x0,a0,_,_⟩:=L.at (i:=120) (by omega) (by omega)
 obtain ⟨R,a1,b5,_⟩:=L.at (i:=121) (by omega) (by omega)
 obtain ⟨Y,a2,b3,_⟩:=L.at (i:=122) (by omega) (by omega)
 obtain ⟨x3,a3,c6,_⟩:=L.at (i:=123) (by omega) (by omega)
 obtain ⟨x8,a8,_,_⟩:=L.at (i:=138) (by omega) (by omega)
 obtain ⟨mo,c7,b8,b9⟩:∃ mo:Int,atI [PyData.int 12,.int 20,.int 45] (x0 % 3)=some (.int mo)/\1<=mo/\mo<=45:=by
  rcases (show x0 % 3=0\/x0 % 3=1\/x0 % 3=2 by omega) with h | h | h <;> rw [h]
  ·exact ⟨12,rfl,by omega,by omega⟩
  ·exact ⟨20,rfl,by omega,by omega⟩
  ·exact ⟨45,rfl,by omega,by omega⟩
 row_cond go
 refine ⟨ds,0,mo,rfl,L,by omega,by omega,S,b8,by omega,fun n es hW c4 I=>?_⟩
 row_cond go
 refine ⟨ds,60,12,rfl,L,by omega,by omega,S,by omega,by omega,fun m fs M d0 X=>?_⟩
 have n0:=hW.lo
 have m0:=M.lo
 have c8:=hW.len
 have b6:=M.len
 row_cond go
 refine ⟨m,n,fs,es,ds,rfl,L,by omega,S,M,hW,by omega,fun N y hU hS=>?_⟩
 have c9:=hU.len
 have N0:=hU.lo
 have N1:=hU.hi
 have p0:=aB4 x8 (show m+1 ≠ 0 by omega)
 have p1:=aB5 x8 (show 0 < m+1 by omega)
 row_cond go
 refine ⟨m,x8 % (m+1),fs,rfl,M,?_⟩
 have hA:=al2 M p0 (by omega)
 have W:=art (p:=x8 % (m+1)) M
 (generalize has:fs.map (upP (x8 % (m+1)))=as at hA W)
 have c0:as.length<=3600:=by rw [← has,ax8];exact b6
 row_cond go
 refine ⟨n,es,rfl,by omega,?_⟩
 row_cond go
 refine ⟨m,fs,rfl,by omega,?_⟩
 row_cond go
 refine ⟨N,y,rfl,by omega,?_⟩
 row_cond go
 refine ⟨m+1,as,rfl,by omega,?_⟩
 repeat (first | (refine abc (ai1 ?_)) | row_cond st)
 have Z:=hS.not
 have a5:=hA.not
 have a7:=auz b5 b3
 have a9:=hU.in
 have b4:=hW.in
 have a6:=M.in
 have c1:=hW.hi
 have c3:=M.hi
 refine acr (xs:=[PyData.int 0,.int 1,.int 5] ++ oddL R Y) (f:=id) (fun l e=>∃ G r,e=[some (.scr ns),some (.st (.list (ds.map .int))),some (.st (webD n es)),some (.st (webD m fs)),some (.st (webD N y)),some (.st (webD (m+1) as)),some (.own (OL [webD n es,webD m fs,webD N y,webD (m+1) as])),some (.st (.list (oddL R Y))),G,r,none,none]) ⟨_,_,rfl⟩ ?_ ?_
 ·rintro l d e S g
  refine exE2 e g fun G r=>?_
  clear g
  show EvG B _ (.st d) _ _
  row_cond go
  refine acr (xs:=[(N,y),(m+1,as)]) (f:=fun w:Int × List (Int × Int)=>webD w.1 w.2) (fun j e=>∃ r,e=[some (.scr ns),some (.st (.list (ds.map .int))),some (.st (webD n es)),some (.st (webD m fs)),some (.st (webD N y)),some (.st (webD (m+1) as)),some (.own (OL [webD n es,webD m fs,webD N y,webD (m+1) as])),some (.st (.list (oddL R Y))),some (.st d),r,none,none]) ⟨_,rfl⟩ ?_ ?_
  ·rintro j u e hu g
   refine exE1 e g fun r=>?_
   clear g
   obtain ⟨u0,u1,ui,ul,un⟩:1<=u.1/\u.1<=100/\InN u.1 u.2/\u.2.length<=10000/\¬ Joined u.1 u.2:=by
    have:=ax7 hu
    simp only [ay3,aE8,or_false] at this
    rcases this with rfl | rfl
    ·exact ⟨N0,by simp only;omega,a9,by simp only;omega,Z⟩
    ·exact ⟨by simp only;omega,by simp only;omega,W,by simp only;omega,a5⟩
   repeat (first | (refine abc (adb ?_)) | row_cond st)
   refine ⟨u.1,0,u.2,d,.none,rfl,u0,u1,ui,ul,fun _ I=>absurd I un,fun z=>absurd rfl z,fun _ C J=>?_,fun I=>absurd I un⟩
   refine ⟨_,rfl,C,1,rfl,rfl,.inl ⟨J,rfl⟩,?_⟩
   row_cond go
   exact ⟨_,rfl⟩
  ·rintro e g
   refine exE1 e g fun r=>?_
   clear g
   row_cond go
   refine abk (fun b2=>?_) (fun b2=>?_)
   ·repeat (first | (refine abc (adb ?_)) | row_cond st)
    refine ⟨n,0,es,d,.none,rfl,n0,by omega,b4,by omega,fun _ _ => .inr b2,fun z=>absurd rfl z,fun z=>absurd I z,fun _ C J=>?_⟩
    refine ⟨_,rfl,C,4,rfl,rfl,.inr ⟨J,rfl⟩,?_⟩
    row_cond go
    exact ⟨_,_,rfl⟩
   ·row_cond go
    exact ⟨_,_,rfl⟩
 ·rintro e g
  refine exE2 e g fun G r=>?_
  clear g
  row_cond go
  unfold oddL
  refine acr (xs:=oddL R Y) (f:=id) (fun l e=>∃ G r,e=[some (.scr ns),some (.st (.list (ds.map .int))),some (.st (webD n es)),some (.st (webD m fs)),some (.st (webD N y)),some (.st (webD (m+1) as)),some (.own (OL [webD n es,webD m fs,webD N y,webD (m+1) as])),some (.st (.list (oddL R Y))),G,r,none,none]) ⟨_,_,rfl⟩ ?_ ?_
  ·rintro l d e S g
   refine exE2 e g fun G r=>?_
   clear g
   show EvG B _ (.st d) _ _
   repeat (first | (refine abc (adb ?_)) | row_cond st)
   refine ⟨m,0,fs,d,.none,rfl,m0,by omega,a6,by omega,fun _ _ => .inl (a7 d (ax7 S)),fun z=>absurd rfl z,fun z=>absurd X z,fun _ C J=>?_⟩
   refine ⟨_,rfl,C,4,rfl,rfl,.inr ⟨J,rfl⟩,?_⟩
   row_cond go
   exact ⟨_,_,rfl⟩
  ·rintro e g
   refine exE2 e g fun G r=>?_
   clear g
   row_cond go
   refine acr (xs:=[PyData.tuple [.int 0,.list [.int 0,.int 1]],.tuple [.int 0,.list []],.tuple [.int 1,.list [.int 0,.int (N - 1)]],.tuple [.int (-1),.list [.int 0]]]) (f:=id) (fun l e=>∃ G r O F,e=[some (.scr ns),some (.st (.list (ds.map .int))),some (.st (webD n es)),some (.st (webD m fs)),some (.st (webD N y)),some (.st (webD (m+1) as)),some (.own (OL [webD n es,webD m fs,webD N y,webD (m+1) as])),some (.st (.list (oddL R Y))),G,r,O,F]) ⟨_,_,_,_,rfl⟩ ?_ ?_
   ·rintro l d e S g
    refine exE4 e g fun G r O F=>?_
    clear g
    show EvG B _ (.st d) _ _
    row_cond go
    refine acr (xs:=[0,1,x3 % 9]) (f:=PyData.int) (fun j e=>∃ F,e=[some (.scr ns),some (.st (.list (ds.map .int))),some (.st (webD n es)),some (.st (webD m fs)),some (.st (webD N y)),some (.st (webD (m+1) as)),some (.own (OL [webD n es,webD m fs,webD N y,webD (m+1) as])),some (.st (.list (oddL R Y))),G,r,some (.st d),F]) ⟨_,rfl⟩ ?_ ?_
    ·rintro j q e hq g
     refine exE1 e g fun F=>?_
     clear g
     repeat (first | (refine abc (adb ?_)) | row_cond st)
     refine ⟨N,1,y,.int q,d,rfl,N0,by omega,a9,by omega,fun z=>by omega,fun _=>Z,fun _ C J=>?_,fun I=>absurd I Z⟩
     refine ⟨_,rfl,C,1,rfl,rfl,.inl ⟨J,rfl⟩,?_⟩
     repeat (first | (refine abc (adb ?_)) | row_cond st)
     refine ⟨m+1,1,as,.int q,d,rfl,by omega,by omega,W,by omega,fun z=>by omega,fun _=>a5,fun _ C J=>?_,fun I=>absurd I a5⟩
     refine ⟨_,rfl,C,1,rfl,rfl,.inl ⟨J,rfl⟩,?_⟩
     row_cond go
     exact ⟨_,rfl⟩
    ·rintro e g
     refine exE1 e g fun F=>?_
     clear g
     exact ⟨_,_,_,_,rfl⟩
   ·rintro e g
    refine exE4 e g fun G r O F=>?_
    clear g
    row_cond go
    refine ⟨m,fs,0,0,[0,1],rfl,m0,by omega,a6,by omega,X,by omega,by omega,by omega,by omega,by simp,fun b hb=>?_⟩
    obtain rfl:b=decide (1 < m):=by
     have b1:ShowOk m fs 0 0 [0,1] ↔ 1 < m:=by
      constructor
      ·intro h
       have:=h.inn 1 (by simp)
       omega
      ·intro h
       refine ⟨by omega,by omega,by simp,fun x hx=>?_,by simp,fun a ha c hc c2=>?_⟩
       ·simp at hx;omega
       ·simp at ha hc
        obtain rfl:a=0:=by omega
        obtain rfl:c=1:=by omega
        have:=awz X (u:=0) (v:=1) (by omega) (by omega) (by omega) h (by omega)
        omega
     by_cases h:1 < m
     ·rw [aA9 h];exact hb.mpr (b1.mpr h)
     ·rw [aA8 h]
      cases b with
      | false=>rfl
      | true=>exact absurd (b1.mp (hb.mp rfl)) h
    row_cond go
    have U:aas (.list [webD n es,webD m fs,webD N y,webD (m+1) as])=true:=(aed _).mpr fun d hd=>by
     simp only [ay3,aE8,or_false] at hd
     rcases hd with rfl | rfl | rfl | rfl <;> exact webP _ _
    have b7:(PyData.list [webD n es,webD m fs,webD N y,webD (m+1) as]).depth<=60:=by
     have:PyData.depthAll [webD n es,webD m fs,webD N y,webD (m+1) as]<=4:=af9 fun d hd=>by
      simp only [ay3,aE8,or_false] at hd
      rcases hd with rfl | rfl | rfl | rfl <;> exact ax4 _ _
     simp only [PyData.depth]
     omega
    refine atl U U b7 ?_
    rw [arc U]
    row_cond go
    exact kk
theorem aw0 (T:Txt K mg) {f:Addr} {fd:FuncData} (D:DefAt K mg "law" s_law ["script"] f fd):FnOk P w K mg base CX0 12 f fd ["script"] (an0 K):=(au0 T D).imp fun _ _ _ _ h=>arv h
end
theorem len0 {α:Type} {us:List α} (h:us.length=0):us=[]:=aD7 h
theorem len1 {α:Type} {us:List α} (h:us.length=1):∃ a0,us=[a0]:=by
 cases us with
 | nil=>cases h
 | cons a us=>exact ⟨a,by rw [len0 (Nat.succ.inj h)]⟩
theorem len2 {α:Type} {us:List α} (h:us.length=2):∃ a0 b,us=[a0,b]:=by
 cases us with
 | nil=>cases h
 | cons a us=>obtain ⟨b,e⟩:=len1 (Nat.succ.inj h);exact ⟨a,b,by rw [e]⟩
theorem len3 {α:Type} {us:List α} (h:us.length=3):∃ a0 c b,us=[a0,c,b]:=by
 cases us with
 | nil=>cases h
 | cons a us=>obtain ⟨c,b,e⟩:=len2 (Nat.succ.inj h);exact ⟨a,c,b,by rw [e]⟩
theorem len4 {α:Type} {us:List α} (h:us.length=4):∃ a0 c b d,us=[a0,c,b,d]:=by
 cases us with
 | nil=>cases h
 | cons a us=>obtain ⟨c,b,d,e⟩:=len3 (Nat.succ.inj h);exact ⟨a,c,b,d,by rw [e]⟩
def Bnd (x:Str) (st:Stmt) (ps:List Str):Prop:=∀ (kV doc pm:Value) (an:Option Addr) (cdv ct:Value) (us:List Value),us.length=ps.length->bindArgs (fnOf x x (acd st) (abw st) (aah st) .none kV doc pm an cdv ct) ⟨us,[]⟩=pure (ps.zip us)
def FnIn (K:Frag) (x:Str) (st:Stmt):Prop:=∃ f oc od kV dc pm an cd ct sl,nsIn K mainGlobals x=some (some (.ref f))/\K.lookup f=some ⟨oc,od,.func (fnOf x x (acd st) (abw st) (aah st) .none kV dc pm an cd ct),sl⟩/\codeIn K cd x=true/\keepIn K (.ref f)=true
theorem fn_in {K:Frag} {x:Str} {st:Stmt} {f:Addr} {od an:Option Addr} {sl:Array (Option Value)} {oc kV d pm b ct:Value} (a:nsIn K mainGlobals x=some (some (.ref f))) (l:K.lookup f=some ⟨oc,od,.func (fnOf x x (acd st) (abw st) (aah st) .none kV d pm an b ct),sl⟩) (c:codeIn K b x=true) (k:keepIn K (.ref f)=true):FnIn K x st:=⟨f,oc,od,kV,d,pm,an,b,ct,sl,a,l,c,k⟩
theorem bnd1 {st:Stmt} {x:Str} {ps:List Str} (c:ps.length=1) (h:∀ (kV doc pm:Value) (an:Option Addr) (cdv ct:Value) (b:Value),bindArgs (fnOf x x (acd st) (abw st) (aah st) .none kV doc pm an cdv ct) ⟨[b],[]⟩=pure (ps.zip [b])):Bnd x st ps:=by
 intro kV doc pm an cdv ct us a
 rw [c] at a
 obtain ⟨_,rfl⟩:=len1 a
 exact h _ _ _ _ _ _ _
theorem bnd2 {st:Stmt} {x:Str} {ps:List Str} (d:ps.length=2) (h:∀ (kV doc pm:Value) (an:Option Addr) (cdv ct:Value) (c a:Value),bindArgs (fnOf x x (acd st) (abw st) (aah st) .none kV doc pm an cdv ct) ⟨[c,a],[]⟩=pure (ps.zip [c,a])):Bnd x st ps:=by
 intro kV doc pm an cdv ct us b
 rw [d] at b
 obtain ⟨_,_,rfl⟩:=len2 b
 exact h _ _ _ _ _ _ _ _
theorem bnd3 {st:Stmt} {x:Str} {ps:List Str} (f:ps.length=3) (h:∀ (kV doc pm:Value) (an:Option Addr) (cdv ct:Value) (d a b:Value),bindArgs (fnOf x x (acd st) (abw st) (aah st) .none kV doc pm an cdv ct) ⟨[d,a,b],[]⟩=pure (ps.zip [d,a,b])):Bnd x st ps:=by
 intro kV doc pm an cdv ct us c
 rw [f] at c
 obtain ⟨_,_,_,rfl⟩:=len3 c
 exact h _ _ _ _ _ _ _ _ _
theorem bnd4 {st:Stmt} {x:Str} {ps:List Str} (g:ps.length=4) (h:∀ (kV doc pm:Value) (an:Option Addr) (cdv ct:Value) (b d a f:Value),bindArgs (fnOf x x (acd st) (abw st) (aah st) .none kV doc pm an cdv ct) ⟨[b,d,a,f],[]⟩=pure (ps.zip [b,d,a,f])):Bnd x st ps:=by
 intro kV doc pm an cdv ct us c
 rw [g] at c
 obtain ⟨_,_,_,_,rfl⟩:=len4 c
 exact h _ _ _ _ _ _ _ _ _ _
theorem aa1 {K:Frag} {h:Heap} {mg:Str->Option Value} {x:Str} {st:Stmt} {ps:List Str} (X:K.In h) (G:h.Ns mainGlobals mg) (q:FnIn K x st)
  (hb:Bnd x st ps):∃ f fd,DefAt K mg x st ps f fd:=by
 obtain ⟨f,oc,od,kV,b,pm,an,d,ct,sl,a,l,c,k⟩:=q
 exact ⟨_,_,have F:=avd (st:=st) l c k;⟨F,mg_of X G a,F.binds hb⟩⟩
theorem aa9 {K:Frag} {h:Heap} {mg:Str->Option Value} {r c:Str} {b:Bool} {C D:Addr} (X:K.In h) (G:h.Ns mainGlobals mg) (a:nsIn K mainGlobals r=some (some (.ref C))) (d:nsIn K mainGlobals c=some (some (.ref D))) (y:kitOne K (.ref C) (.ref D)=some b):YF K mg r c b:=fun C D g f=>by
 rw [mg_of X G a] at g
 rw [mg_of X G d] at f
 cases g;cases f;exact y
theorem txt_mk {K:Frag} {h:Heap} {mg:Str->Option Value} (X:K.In h) (G:h.Ns mainGlobals mg)
  {y:Tok} {o:Tok} {i:Addr} {d:Addr} {g:Addr} {r:Addr} {m:Addr} {a:Addr} {l:Addr} {n:Addr} {p:Addr} 
  (h0:FnIn K "is_whole" s_is_whole)
  (h1:FnIn K "is_between" s_is_between)
  (h2:FnIn K "need_number" s_need_number)
  (h3:FnIn K "is_place" s_is_place)
  (h4:FnIn K "is_rising" s_is_rising)
  (h5:FnIn K "tied_places" s_tied_places)
  (h6:FnIn K "far_from" s_far_from)
  (h7:FnIn K "need_place" s_need_place)
  (h8:FnIn K "all_far" s_all_far)
  (h9:FnIn K "is_joined" s_is_joined)
  (b4:FnIn K "need_joined" s_need_joined)
  (d1:FnIn K "far_rows" s_far_rows)
  (d2:FnIn K "most_far" s_most_far)
  (b6:FnIn K "stay_shows" s_stay_shows)
  (d3:FnIn K "is_pair" s_is_pair)
  (d0:FnIn K "need_places" s_need_places)
  (c2:FnIn K "need_far" s_need_far)
  (c4:FnIn K "are_apart" s_are_apart)
  (b5:FnIn K "best_stay" s_best_stay)
  (c0:FnIn K "apart_lists" s_apart_lists)
  (c1:FnIn K "places_after" s_places_after)
  (c3:FnIn K "_law_draws" s_law_draws)
  (c8:FnIn K "_law_web" s_law_web)
  (b7:FnIn K "_law_copy" s_law_copy)
  (c5:FnIn K "_law_kinds" s_law_kinds)
  (c9:FnIn K "_law_beside" s_law_beside)
  (c6:FnIn K "_law_parted" s_law_parted)
  (c7:FnIn K "_law_alone" s_law_alone)
  (b8:FnIn K "_law_caught" s_law_caught)
  (b9:FnIn K "law" s_law)
  (A:nsIn K mainGlobals "ValueError" = some none)
  (b1:nsIn K mainGlobals "all" = some none)
  (b3:nsIn K mainGlobals "max" = some none)
  (N:nsIn K mainGlobals "reversed" = some none)
  (a4:nsIn K mainGlobals "range" = some none)
  (H:nsIn K mainGlobals "enumerate" = some none)
  (a6:nsIn K mainGlobals "list" = some none)
  (B:nsIn K mainGlobals "isinstance" = some none)
  (a9:nsIn K mainGlobals "int" = some none)
  (a8:nsIn K mainGlobals "len" = some none)
  (b2:nsIn K mainGlobals "abs" = some none)
  (a2:nsIn K mainGlobals "sorted" = some none)
  (a7:nsIn K mainGlobals "bool" = some none)
  (a5:nsIn K mainGlobals "tuple" = some none)
  (b0:nsIn K mainGlobals "min" = some none)
  (z:nsIn K mainGlobals "MOST_STAY_TIES" = some (some (.int 5 y)))
  (q:nsIn K mainGlobals "MOST_PLACES_FOR_STAY" = some (some (.int 12 o)))
  (j:nsIn K mainGlobals "TieError" = some (some (.ref i))) (E:excIn K i bmV "ValueError.__new__" = true) (I:XIn K i)
  (c:nsIn K mainGlobals "NoPlace" = some (some (.ref d))) (L:excIn K d bmV "ValueError.__new__" = true) (O:XIn K d)
  (f:nsIn K mainGlobals "NoJoin" = some (some (.ref g))) (S:excIn K g bmV "ValueError.__new__" = true) (W:XIn K g)
  (x:nsIn K mainGlobals "NoTie" = some (some (.ref r))) (a0:excIn K r bmV "ValueError.__new__" = true) (a1:XIn K r)
  (u:nsIn K mainGlobals "NoTree" = some (some (.ref m))) (Q:excIn K m bmV "ValueError.__new__" = true) (Y:XIn K m)
  (b:nsIn K mainGlobals "NoNumber" = some (some (.ref a))) (F:excIn K a bmV "ValueError.__new__" = true) (J:XIn K a)
  (s:nsIn K mainGlobals "NoText" = some (some (.ref l))) (P:excIn K l bmV "ValueError.__new__" = true) (T:XIn K l)
  (v:nsIn K mainGlobals "NoName" = some (some (.ref n))) (U:excIn K n bmV "ValueError.__new__" = true) (R:XIn K n)
  (w:nsIn K mainGlobals "NoRow" = some (some (.ref p))) (a3:excIn K p bmV "ValueError.__new__" = true) (Z:XIn K p)
  (y_NoPlace_TieError:kitOne K (.ref d) (.ref i)=some true)
  (y_NoPlace_NoPlace:kitOne K (.ref d) (.ref d)=some true)
  (y_NoPlace_NoJoin:kitOne K (.ref d) (.ref g)=some false)
  (y_NoPlace_NoTie:kitOne K (.ref d) (.ref r)=some false)
  (y_NoPlace_NoTree:kitOne K (.ref d) (.ref m)=some false)
  (y_NoPlace_NoNumber:kitOne K (.ref d) (.ref a)=some false)
  (y_NoPlace_NoText:kitOne K (.ref d) (.ref l)=some false)
  (y_NoPlace_NoName:kitOne K (.ref d) (.ref n)=some false)
  (y_NoPlace_NoRow:kitOne K (.ref d) (.ref p)=some false)
  (y_NoPlace_ValueError:kitOne K (.ref d) (.type "ValueError")=some true)
  (s_NoPlace_TieError:mroIn K d (.ref i)=some true)
  (y_NoJoin_TieError:kitOne K (.ref g) (.ref i)=some true)
  (y_NoJoin_NoPlace:kitOne K (.ref g) (.ref d)=some false)
  (y_NoJoin_NoJoin:kitOne K (.ref g) (.ref g)=some true)
  (y_NoJoin_NoTie:kitOne K (.ref g) (.ref r)=some false)
  (y_NoJoin_NoTree:kitOne K (.ref g) (.ref m)=some false)
  (y_NoJoin_NoNumber:kitOne K (.ref g) (.ref a)=some false)
  (y_NoJoin_NoText:kitOne K (.ref g) (.ref l)=some false)
  (y_NoJoin_NoName:kitOne K (.ref g) (.ref n)=some false)
  (y_NoJoin_NoRow:kitOne K (.ref g) (.ref p)=some false)
  (y_NoJoin_ValueError:kitOne K (.ref g) (.type "ValueError")=some true)
  (s_NoJoin_TieError:mroIn K g (.ref i)=some true)
  (y_NoNumber_TieError:kitOne K (.ref a) (.ref i)=some true)
  (y_NoNumber_NoPlace:kitOne K (.ref a) (.ref d)=some false)
  (y_NoNumber_NoJoin:kitOne K (.ref a) (.ref g)=some false)
  (y_NoNumber_NoTie:kitOne K (.ref a) (.ref r)=some false)
  (y_NoNumber_NoTree:kitOne K (.ref a) (.ref m)=some false)
  (y_NoNumber_NoNumber:kitOne K (.ref a) (.ref a)=some true)
  (y_NoNumber_NoText:kitOne K (.ref a) (.ref l)=some false)
  (y_NoNumber_NoName:kitOne K (.ref a) (.ref n)=some false)
  (y_NoNumber_NoRow:kitOne K (.ref a) (.ref p)=some false)
  (y_NoNumber_ValueError:kitOne K (.ref a) (.type "ValueError")=some true)
  (s_NoNumber_TieError:mroIn K a (.ref i)=some true)
  : Txt K mg where
  x_TieError:=⟨_,mg_of X G j,E,I⟩
  x_NoPlace:=⟨_,mg_of X G c,L,O⟩
  x_NoJoin:=⟨_,mg_of X G f,S,W⟩
  x_NoTie:=⟨_,mg_of X G x,a0,a1⟩
  x_NoTree:=⟨_,mg_of X G u,Q,Y⟩
  x_NoNumber:=⟨_,mg_of X G b,F,J⟩
  x_NoText:=⟨_,mg_of X G s,P,T⟩
  x_NoName:=⟨_,mg_of X G v,U,R⟩
  x_NoRow:=⟨_,mg_of X G w,a3,Z⟩
  y_NoPlace_TieError:=aa9 X G c j y_NoPlace_TieError
  y_NoPlace_NoPlace:=aa9 X G c c y_NoPlace_NoPlace
  y_NoPlace_NoJoin:=aa9 X G c f y_NoPlace_NoJoin
  y_NoPlace_NoTie:=aa9 X G c x y_NoPlace_NoTie
  y_NoPlace_NoTree:=aa9 X G c u y_NoPlace_NoTree
  y_NoPlace_NoNumber:=aa9 X G c b y_NoPlace_NoNumber
  y_NoPlace_NoText:=aa9 X G c s y_NoPlace_NoText
  y_NoPlace_NoName:=aa9 X G c v y_NoPlace_NoName
  y_NoPlace_NoRow:=aa9 X G c w y_NoPlace_NoRow
  y_NoPlace_ValueError:=fun C M=>by rw [mg_of X G c] at M;cases M;exact y_NoPlace_ValueError
  s_NoPlace_TieError:=fun C D M e2=>by rw [mg_of X G c] at M;rw [mg_of X G j] at e2;cases M;cases e2;exact s_NoPlace_TieError
  y_NoJoin_TieError:=aa9 X G f j y_NoJoin_TieError
  y_NoJoin_NoPlace:=aa9 X G f c y_NoJoin_NoPlace
  y_NoJoin_NoJoin:=aa9 X G f f y_NoJoin_NoJoin
  y_NoJoin_NoTie:=aa9 X G f x y_NoJoin_NoTie
  y_NoJoin_NoTree:=aa9 X G f u y_NoJoin_NoTree
  y_NoJoin_NoNumber:=aa9 X G f b y_NoJoin_NoNumber
  y_NoJoin_NoText:=aa9 X G f s y_NoJoin_NoText
  y_NoJoin_NoName:=aa9 X G f v y_NoJoin_NoName
  y_NoJoin_NoRow:=aa9 X G f w y_NoJoin_NoRow
  y_NoJoin_ValueError:=fun C M=>by rw [mg_of X G f] at M;cases M;exact y_NoJoin_ValueError
  s_NoJoin_TieError:=fun C D M e2=>by rw [mg_of X G f] at M;rw [mg_of X G j] at e2;cases M;cases e2;exact s_NoJoin_TieError
  y_NoNumber_TieError:=aa9 X G b j y_NoNumber_TieError
  y_NoNumber_NoPlace:=aa9 X G b c y_NoNumber_NoPlace
  y_NoNumber_NoJoin:=aa9 X G b f y_NoNumber_NoJoin
  y_NoNumber_NoTie:=aa9 X G b x y_NoNumber_NoTie
  y_NoNumber_NoTree:=aa9 X G b u y_NoNumber_NoTree
  y_NoNumber_NoNumber:=aa9 X G b b y_NoNumber_NoNumber
  y_NoNumber_NoText:=aa9 X G b s y_NoNumber_NoText
  y_NoNumber_NoName:=aa9 X G b v y_NoNumber_NoName
  y_NoNumber_NoRow:=aa9 X G b w y_NoNumber_NoRow
  y_NoNumber_ValueError:=fun C M=>by rw [mg_of X G b] at M;cases M;exact y_NoNumber_ValueError
  s_NoNumber_TieError:=fun C D M e2=>by rw [mg_of X G b] at M;rw [mg_of X G j] at e2;cases M;cases e2;exact s_NoNumber_TieError
  b_ValueError:=mg_none_of X G A
  b_all:=mg_none_of X G b1
  b_max:=mg_none_of X G b3
  b_reversed:=mg_none_of X G N
  b_range:=mg_none_of X G a4
  b_enumerate:=mg_none_of X G H
  b_list:=mg_none_of X G a6
  b_isinstance:=mg_none_of X G B
  b_int:=mg_none_of X G a9
  b_len:=mg_none_of X G a8
  b_abs:=mg_none_of X G b2
  b_sorted:=mg_none_of X G a2
  b_bool:=mg_none_of X G a7
  b_tuple:=mg_none_of X G a5
  b_min:=mg_none_of X G b0
  v_MOST_STAY_TIES:=⟨_,mg_of X G z⟩
  v_MOST_PLACES_FOR_STAY:=⟨_,mg_of X G q⟩
  d_is_whole:=aa1 X G h0 (bnd1 rfl fun _ _ _ _ _ _ _=>rfl)
  d_is_between:=aa1 X G h1 (bnd3 rfl fun _ _ _ _ _ _ _ _ _=>rfl)
  d_need_number:=aa1 X G h2 (bnd3 rfl fun _ _ _ _ _ _ _ _ _=>rfl)
  d_is_place:=aa1 X G h3 (bnd2 rfl fun _ _ _ _ _ _ _ _=>rfl)
  d_is_rising:=aa1 X G h4 (bnd1 rfl fun _ _ _ _ _ _ _=>rfl)
  d_tied_places:=aa1 X G h5 (bnd1 rfl fun _ _ _ _ _ _ _=>rfl)
  d_far_from:=aa1 X G h6 (bnd2 rfl fun _ _ _ _ _ _ _ _=>rfl)
  d_need_place:=aa1 X G h7 (bnd2 rfl fun _ _ _ _ _ _ _ _=>rfl)
  d_all_far:=aa1 X G h8 (bnd2 rfl fun _ _ _ _ _ _ _ _=>rfl)
  d_is_joined:=aa1 X G h9 (bnd1 rfl fun _ _ _ _ _ _ _=>rfl)
  d_need_joined:=aa1 X G b4 (bnd1 rfl fun _ _ _ _ _ _ _=>rfl)
  d_far_rows:=aa1 X G d1 (bnd1 rfl fun _ _ _ _ _ _ _=>rfl)
  d_most_far:=aa1 X G d2 (bnd1 rfl fun _ _ _ _ _ _ _=>rfl)
  d_stay_shows:=aa1 X G b6 (bnd3 rfl fun _ _ _ _ _ _ _ _ _=>rfl)
  d_is_pair:=aa1 X G d3 (bnd1 rfl fun _ _ _ _ _ _ _=>rfl)
  d_need_places:=aa1 X G d0 (bnd1 rfl fun _ _ _ _ _ _ _=>rfl)
  d_need_far:=aa1 X G c2 (bnd1 rfl fun _ _ _ _ _ _ _=>rfl)
  d_are_apart:=aa1 X G c4 (bnd3 rfl fun _ _ _ _ _ _ _ _ _=>rfl)
  d_best_stay:=aa1 X G b5 (bnd2 rfl fun _ _ _ _ _ _ _ _=>rfl)
  d_apart_lists:=aa1 X G c0 (bnd3 rfl fun _ _ _ _ _ _ _ _ _=>rfl)
  d_places_after:=aa1 X G c1 (bnd3 rfl fun _ _ _ _ _ _ _ _ _=>rfl)
  d_law_draws:=aa1 X G c3 (bnd2 rfl fun _ _ _ _ _ _ _ _=>rfl)
  d_law_web:=aa1 X G c8 (bnd3 rfl fun _ _ _ _ _ _ _ _ _=>rfl)
  d_law_copy:=aa1 X G b7 (bnd1 rfl fun _ _ _ _ _ _ _=>rfl)
  d_law_kinds:=aa1 X G c5 (bnd2 rfl fun _ _ _ _ _ _ _ _=>rfl)
  d_law_beside:=aa1 X G c9 (bnd2 rfl fun _ _ _ _ _ _ _ _=>rfl)
  d_law_parted:=aa1 X G c6 (bnd3 rfl fun _ _ _ _ _ _ _ _ _=>rfl)
  d_law_alone:=aa1 X G c7 (bnd2 rfl fun _ _ _ _ _ _ _ _=>rfl)
  d_law_caught:=aa1 X G b8 (bnd4 rfl fun _ _ _ _ _ _ _ _ _ _=>rfl)
  d_law:=aa1 X G b9 (bnd1 rfl fun _ _ _ _ _ _ _=>rfl)
theorem walk {l:PySem.W.OpenLaw} {q:Program} {b:List Str} {XP:(Str->Option Value)->Heap->Prop} {j:World->Heap->Prop} {d:DefRec} {K:Params->Frag} (hn:l.most=some 63) (i:d.params.defaults=[]) (g:d.name = "law")
  (m:∀ (w:World) (h:Heap),j w h->(K w.params).In h)
  (F:∀ (w:World) (mg:Str->Option Value) (h:Heap),(K w.params).In h->h.Ns mainGlobals mg->Txt (K w.params) mg) :
  PySem.W.WalkO q b XP j l.row.toRowW d [] (fun f vs=>PySem.call f vs):=by
 refine L2.walk_of (n:=63) (k:=12) (x:="script") (CX:=fun _=>CX0) (sp:=fun w=>an0 (K w.params)) hn (by decide) i ⟨rfl,by decide,by decide⟩ m (fun w mg fa h X G e=>?_) (fun _ _ a ns p _ v=>⟨a,ns,rfl,v,p,fun _=>rfl⟩) fun _ _ _ _ _ z=>z
 have T:=F w mg h X G
 rw [g] at e
 obtain ⟨f1,c,D⟩:=T.d_law
 have r:=e.symm.trans D.mgx
 cases r
 refine ⟨c,fun s u=>?_,fun base _ _=>?_⟩
 ·obtain ⟨oc,od,kV,doc,pm,an,cdv,ct,osl,rfl,y,o⟩:=D.fn.ex
  exact .of_eq rfl
 ·exact aw0 T D
end G
end
theorem PySem.W.Fast.tw12687384567102158194 : True := trivial
theorem PySem.W.Fast.tw3394293539729366411 : True := trivial
theorem PySem.W.Fast.tw2430827182095491444 : True := trivial
theorem PySem.W.Fast.tw14201332657288515153 : True := trivial
theorem PySem.W.Fast.tw7623354780926183703 : True := trivial
theorem PySem.W.Fast.tw5548314399338863310 : True := trivial
theorem PySem.W.Fast.tw2205273879188607941 : True := trivial
theorem PySem.W.Fast.tw10724400533470693857 : True := trivial
theorem PySem.W.Fast.tw7301692221566163133 : True := trivial
theorem PySem.W.Fast.tw3757004899252784799 : True := trivial
theorem PySem.W.Fast.tw7254114073941338199 : True := trivial
theorem PySem.W.Fast.tw14276259948227221838 : True := trivial
theorem PySem.W.Fast.tw8789768392610686238 : True := trivial
theorem PySem.W.Fast.tw466264963617884458 : True := trivial
theorem PySem.W.Fast.tw3060951516560592433 : True := trivial
theorem PySem.W.Fast.tw11709201981847676565 : True := trivial
theorem PySem.W.Fast.tw7391189971584155817 : True := trivial
theorem PySem.W.Fast.tw7769586225805812882 : True := trivial
theorem PySem.W.Fast.tw784900824226129610 : True := trivial
theorem PySem.W.Fast.tw1691202473838826241 : True := trivial
theorem PySem.W.Fast.tw12425700315431388231 : True := trivial
theorem PySem.W.Fast.tw1312322755068055767 : True := trivial
theorem PySem.W.Fast.tw17655063481628349170 : True := trivial
theorem PySem.W.Fast.tw2790173149245212517 : True := trivial
theorem PySem.W.Fast.tw1684902437622155046 : True := trivial
theorem PySem.W.Fast.tw4790123592291149045 : True := trivial
theorem PySem.W.Fast.tw16076154376792257083 : True := trivial
theorem PySem.W.Fast.tw9639054198826440189 : True := trivial
theorem PySem.W.Fast.tw8371937407821762590 : True := trivial
theorem PySem.W.Fast.tw16489766115424103825 : True := trivial
theorem PySem.W.Fast.tw10032746774556807048 : True := trivial
theorem PySem.W.Fast.tw15067067931034411023 : True := trivial
theorem PySem.W.Fast.tw5588711494022098514 : True := trivial
theorem PySem.W.Fast.tw8022219000332373348 : True := trivial
theorem PySem.W.Fast.tw4682679234690274529 : True := trivial
theorem PySem.W.Fast.tw14070485427487754043 : True := trivial
theorem PySem.W.Fast.tw12621392861581324754 : True := trivial
theorem PySem.W.Fast.tw10595146043418878087 : True := trivial
theorem PySem.W.Fast.tw15231642664620154410 : True := trivial
theorem PySem.W.Fast.tw6256640988001596556 : True := trivial
theorem PySem.W.Fast.tw283877411561107147 : True := trivial
theorem PySem.W.Fast.tw8310704118883441988 : True := trivial
theorem PySem.W.Fast.tw10936205654132227214 : True := trivial
theorem PySem.W.Fast.tw10168613236686049815 : True := trivial
theorem PySem.W.Fast.tw8509752367360352858 : True := trivial
theorem PySem.W.Fast.tw2026526494181947625 : True := trivial
theorem PySem.W.Fast.tw7256218219692565432 : True := trivial
theorem PySem.W.Fast.tw488822883555285790 : True := trivial
theorem PySem.W.Fast.tw14614878158509766041 : True := trivial
theorem PySem.W.Fast.tw17243259052028774941 : True := trivial
theorem PySem.W.Fast.tw8628242973711896526 : True := trivial
theorem PySem.W.Fast.tw4453998231069540034 : True := trivial
theorem PySem.W.Fast.tw11582640262108887394 : True := trivial
theorem PySem.W.Fast.tw11725363162916961123 : True := trivial
theorem PySem.W.Fast.tw12846736986318149296 : True := trivial
theorem PySem.W.Fast.tw1244394460085928206 : True := trivial
theorem PySem.W.Fast.tw14569411704745326534 : True := trivial
theorem PySem.W.Fast.tw11344307248919733526 : True := trivial
theorem PySem.W.Fast.tw11212188010125537191 : True := trivial
theorem PySem.W.Fast.tw16718169046355823761 : True := trivial
theorem PySem.W.Fast.tw16789761050662965197 : True := trivial
theorem PySem.W.Fast.tw15004022820731952352 : True := trivial
theorem PySem.W.Fast.tw15632119537177771277 : True := trivial
theorem PySem.W.Fast.tw13160584447925863745 : True := trivial
theorem PySem.W.Fast.tw191133706511464983 : True := trivial
theorem PySem.W.Fast.tw4568861173863742027 : True := trivial
theorem PySem.W.Fast.tw15462500022630635521 : True := trivial
theorem PySem.W.Fast.tw13194351602102989685 : True := trivial
theorem PySem.W.Fast.tw9574320938175372962 : True := trivial
theorem PySem.W.Fast.tw12822023350113448707 : True := trivial
theorem PySem.W.Fast.tw2943182453895525778 : True := trivial
theorem PySem.W.Fast.tw17984530311521199534 : True := trivial
theorem PySem.W.Fast.tw17145287806886608331 : True := trivial
theorem PySem.W.Fast.tw2414163224506054463 : True := trivial
theorem PySem.W.Fast.tw3793250458307894130 : True := trivial
theorem PySem.W.Fast.tw5722730145692429803 : True := trivial
theorem PySem.W.Fast.tw6527709311459921064 : True := trivial
theorem PySem.W.Fast.tw92957541146406305 : True := trivial
theorem PySem.W.Fast.tw4617975911624771977 : True := trivial
theorem PySem.W.Fast.tw6566113020874208819 : True := trivial
theorem PySem.W.Fast.tw17770415739616591928 : True := trivial
theorem PySem.W.Fast.tw16507403280821406191 : True := trivial
theorem PySem.W.Fast.tw7066180573500296021 : True := trivial
theorem PySem.W.Fast.tw14208840933176826601 : True := trivial
theorem PySem.W.Fast.tw516395970785161169 : True := trivial
theorem PySem.W.Fast.tw7625926403583939366 : True := trivial
theorem PySem.W.Fast.tw16209837074576406325 : True := trivial
theorem PySem.W.Fast.tw324964507033347453 : True := trivial
theorem PySem.W.Fast.tw9435025657347162669 : True := trivial
theorem PySem.W.Fast.tw2195978800784124408 : True := trivial
theorem PySem.W.Fast.tw7405270151030573510 : True := trivial
theorem PySem.W.Fast.tw5346104075995976327 : True := trivial
theorem PySem.W.Fast.tw9004749265833566889 : True := trivial
theorem PySem.W.Fast.tw3999198708423195471 : True := trivial
theorem PySem.W.Fast.tw17988273037743357270 : True := trivial
theorem PySem.W.Fast.tw12669481219116680266 : True := trivial
theorem PySem.W.Fast.tw13949795888345921409 : True := trivial
theorem PySem.W.Fast.tw8332744608295104374 : True := trivial
theorem PySem.W.Fast.tw3633183097217422673 : True := trivial
theorem PySem.W.Fast.tw290742260807860209 : True := trivial
theorem PySem.W.Fast.tw1129418455855596486 : True := trivial
theorem PySem.W.Fast.tw14996621159652145172 : True := trivial
theorem PySem.W.Fast.tw2681135713294756303 : True := trivial
theorem PySem.W.Fast.tw13564209746426246374 : True := trivial
theorem PySem.W.Fast.tw6446782046429943432 : True := trivial
theorem PySem.W.Fast.tw9683493892157409013 : True := trivial
theorem PySem.W.Fast.tw15120318394302135093 : True := trivial
theorem PySem.W.Fast.tw12251155608925679717 : True := trivial
theorem PySem.W.Fast.tw6953923229775748117 : True := trivial
theorem PySem.W.Fast.tw14235961248854856746 : True := trivial
theorem PySem.W.Fast.tw13228458128768994577 : True := trivial
theorem PySem.W.Fast.tw5864219352359081324 : True := trivial
theorem PySem.W.Fast.tw17010342553630000044 : True := trivial
theorem PySem.W.Fast.tw8012143618705999942 : True := trivial
theorem PySem.W.Fast.tw17400499568050029407 : True := trivial
theorem PySem.W.Fast.tw1448610142836069780 : True := trivial
theorem PySem.W.Fast.tw9360346734176850475 : True := trivial
theorem PySem.W.Fast.tw8546705470759247601 : True := trivial
theorem PySem.W.Fast.tw3811852172680901198 : True := trivial
theorem PySem.W.Fast.tw7878612062308236117 : True := trivial
theorem PySem.W.Fast.tw17691565133816175972 : True := trivial
theorem PySem.W.Fast.tw8286987138902848900 : True := trivial
theorem PySem.W.Fast.tw17184467382590664327 : True := trivial
theorem PySem.W.Fast.tw15128687160613872878 : True := trivial
theorem PySem.W.Fast.tw18055865040432431328 : True := trivial
theorem PySem.W.Fast.tw14323041490731891384 : True := trivial
theorem PySem.W.Fast.tw8473617596954008924 : True := trivial
theorem PySem.W.Fast.tw9954909145550736607 : True := trivial
theorem PySem.W.Fast.tw13553223543831782006 : True := trivial
theorem PySem.W.Fast.tw12454838891213780632 : True := trivial
theorem PySem.W.Fast.tw4917162460183410668 : True := trivial
theorem PySem.W.Fast.tw12409007511240625885 : True := trivial
theorem PySem.W.Fast.tw7609777351118864332 : True := trivial
theorem PySem.W.Fast.tw16991078565048463059 : True := trivial
theorem PySem.W.Fast.tw7393978026327788525 : True := trivial
theorem PySem.W.Fast.tw9298419413750478391 : True := trivial
theorem PySem.W.Fast.tw2730146864247393992 : True := trivial
theorem PySem.W.Fast.tw7151955040607516875 : True := trivial
theorem PySem.W.Fast.tw9483138918733186888 : True := trivial
theorem PySem.W.Fast.tw411052854200319719 : True := trivial
theorem PySem.W.Fast.tw12920337503358763280 : True := trivial
theorem PySem.W.Fast.tw16206735852738521254 : True := trivial
theorem PySem.W.Fast.tw9285850762662733269 : True := trivial
theorem PySem.W.Fast.tw12930797893985095610 : True := trivial
theorem PySem.W.Fast.tw14367208656444415980 : True := trivial
theorem PySem.W.Fast.tw12209073459501383326 : True := trivial
theorem PySem.W.Fast.tw1722209471068582212 : True := trivial
theorem PySem.W.Fast.tw16300200024455510196 : True := trivial
theorem PySem.W.Fast.tw1989585051623680369 : True := trivial
theorem PySem.W.Fast.tw14913290468614577934 : True := trivial
theorem PySem.W.Fast.tw9730635840647759007 : True := trivial
theorem PySem.W.Fast.tw2149843167580644747 : True := trivial
theorem PySem.W.Fast.tw18267396022038161637 : True := trivial
theorem PySem.W.Fast.tw5886468411987721937 : True := trivial
theorem PySem.W.Fast.tw5745077317470369118 : True := trivial
theorem PySem.W.Fast.tw10980882987435474344 : True := trivial
theorem PySem.W.Fast.tw11081802984128419821 : True := trivial
theorem PySem.W.Fast.tw14643193139045010754 : True := trivial
theorem PySem.W.Fast.tw4805808255354830898 : True := trivial
theorem PySem.W.Fast.tw9021091158409846894 : True := trivial
theorem PySem.W.Fast.tw4322645445569415206 : True := trivial
theorem PySem.W.Fast.tw11126007431555605588 : True := trivial
theorem PySem.W.Fast.tw18273620069353092975 : True := trivial
theorem PySem.W.Fast.tw8228478566589177487 : True := trivial
theorem PySem.W.Fast.tw11548119985458607104 : True := trivial
theorem PySem.W.Fast.tw10180481195723209553 : True := trivial
theorem PySem.W.Fast.tw941331843116066757 : True := trivial
theorem PySem.W.Fast.tw2211917104875236327 : True := trivial
theorem PySem.W.Fast.tw5750361376042215135 : True := trivial
theorem PySem.W.Fast.tw15610648546313280890 : True := trivial
open PySem PySem.W PyProof.Rows
set_option maxRecDepth 100000 in
set_option maxHeartbeats 0 in
theorem PySem.Challenge.cw_fewties_k21_no_webs_to_stay_holds : PySem.Challenge.rw_fewties_k21_no_webs_to_stay.Holds := by
 w_on;o_law;k_head;(case hw=>w_witness2)
 k_fill
 refine G.walk (l:=PySem.Challenge.rw_fewties_k21_no_webs_to_stay) rfl rfl rfl (fun w h Y=>PySem.W.kIn_of Y) ?F
 case F =>
  intro w mg h KX GG
  refine' G.txt_mk KX GG ..
  all_goals try (refine' G.fn_in ?a_ ?l_ ?c_ ?k_;(case a_=>k_is);(case l_=>k_is);(case c_=>k_is);(case k_=>k_is))
  all_goals try k_is
  all_goals try k_exc
  all_goals try kit_is
  all_goals exact ⟨L2.cl_of (bmB:=L2.bmV) (newId:="ValueError.__new__") (by k_exc),by k_is,by k_is,by k_is,by k_is,by k_is⟩
#print axioms PySem.Challenge.cw_fewties_k21_no_webs_to_stay_holds
