import PyProof.Rows.All
import Wide.All
import OpenK.AllK
import Wide.FinOn
import PyProof.EqAt
import PyProof.EqKinds
import PyProof.TupleCall
import PyProof.NeData
import PyProof.P3In
import PyProof.WalkInts
import PyProof.Rows.SortWalk
import PyProof.SumWalkG
import PyProof.Rows.CallKwBuiltin
import KE.KDictList
import PyProof.WalksEnum
import PyProof.ZipIter
import PyProof.ConsumeWalk
import PyProof.ListRange
import PyProof.TupleOfSeq
import PyProof.Rows.RuleN_abs
import PySem.Challenge.RW_fewties_k06_whole_ways_and_numbers
open PySem.W (Frag kitOne mg_of nsIn mg_none_of excIn fnOf mroIn keepIn codeIn)
set_option Elab.async false
set_option linter.all false
set_option compiler.extract_closed false
set_option maxRecDepth 100000
set_option maxHeartbeats 4000000
noncomputable section
abbrev ay0:=@List.getElem?_eq_getElem
abbrev ay1:=@List.getElem?_eq_some_iff
abbrev ay2:=@List.mem_of_getElem?
abbrev ay3:=@List.length_map
abbrev ay4:=@Array.getElem?_eq_getElem
abbrev ay5:=@List.getElem?_map
abbrev ay6:=@Nat.le_refl
abbrev ay7:=@List.mem_append
abbrev ay8:=@List.mem_cons
abbrev ay9:=@Bool.false_ne_true
abbrev az0:=@List.length_append
abbrev az1:=@List.size_toArray
abbrev az2:=@List.mem_append_right
abbrev az3:=@List.append_assoc
abbrev az4:=@List.mem_cons_of_mem
abbrev az5:=@Nat.ne_of_lt
abbrev az6:=@List.mem_map
abbrev az7:=@List.mem_cons_self
abbrev az8:=@List.mem_range
abbrev az9:=@List.mem_of_mem_take
abbrev aA0:=@List.take_append_drop
abbrev aA1:=@List.mem_singleton
abbrev aA2:=@List.getElem?_append_left
abbrev aA3:=@List.mem_of_mem_drop
abbrev aA4:=@Nat.lt_of_lt_of_le
abbrev aA5:=@Option.some.inj
abbrev aA6:=@List.mem_append_left
abbrev aA7:=@List.getElem?_append_right
abbrev aA8:=@List.pairwise_append
abbrev aA9:=@Nat.le_trans
abbrev aB0:=@List.map_cons
abbrev aB1:=@List.getElem?_set
abbrev aB2:=@Classical.byContradiction
abbrev aB3:=@Array.getElem?_toList
abbrev aB4:=@decide_eq_false
abbrev aB5:=@decide_eq_true
abbrev aB6:=@List.map_map
abbrev aB7:=@Nat.lt_of_le_of_lt
abbrev aB8:=@List.map_append
abbrev aB9:=@List.length_cons
abbrev aC0:=@Int.emod_lt_of_pos
abbrev aC1:=@List.map_congr_left
abbrev aC2:=@List.append_nil
abbrev aC3:=@List.take_of_length_le
abbrev aC4:=@List.all_eq_true
abbrev aC5:=@if_pos
abbrev aC6:=@if_neg
abbrev aC7:=@List.getElem?_eq_none_iff
abbrev aC8:=@Nat.lt_succ_of_lt
abbrev aC9:=@List.length_pos_iff
abbrev aD0:=@Nat.zero_le
abbrev aD1:=@List.pairwise_map
abbrev aD2:=@List.ext_getElem?
abbrev aD3:=@beq_iff_eq
abbrev aD4:=@Nat.lt_irrefl
abbrev aD5:=@Nat.le_of_lt
abbrev aD6:=@Array.toList_append
abbrev aD7:=@List.pairwise_iff_getElem
abbrev aD8:=@List.take_length
abbrev aD9:=@List.lookup_cons
abbrev aE0:=@List.length_take
abbrev aE1:=@Bool.and_eq_true
abbrev aE2:=@List.eq_nil_of_length_eq_zero
abbrev aE3:=@List.replicate_succ
abbrev aE4:=@List.take_add_one
abbrev aE5:=@List.getElem?_take_of_lt
abbrev aE6:=@List.mem_iff_getElem
abbrev aE7:=@List.getElem?_replicate
abbrev aE8:=@Bool.eq_iff_iff
abbrev aE9:=@Array.size_push
abbrev aF0:=@List.Pairwise.imp_of_mem
abbrev aF1:=@Option.map_some
abbrev aF2:=@List.getElem?_drop
abbrev aF3:=@List.nodup_cons
abbrev aF4:=@List.pairwise_cons
abbrev aF5:=@Nat.sub_self
abbrev aF6:=@Nat.lt_succ_self
abbrev aF7:=@List.length_nil
open PySem PySem.Spec in
abbrev aF8:=@wpAny_bind
open PySem PySem.Spec in
abbrev aF9:=@wpAny_pure
open PySem PySem.Spec in
abbrev aG0:=@Heap.get?_push_of_some
open PySem PySem.Spec in
abbrev aG1:=@Heap.lt_size
open PySem PySem.Spec in
abbrev aG2:=@Heap.get?_push_size
open PySem PySem.Spec in
abbrev aG3:=@wpAny_holding
open PySem PySem.Spec in
abbrev aG4:=@PassesOwn.never
open PySem PySem.Spec in
abbrev aG5:=@wpAny_mono
open PySem PySem.Spec in
abbrev aG6:=@wpAny_newObj_type
open PySem PySem.Spec in
abbrev aG7:=@Heap.size_push
open PySem PySem.Spec in
abbrev aG8:=@wpAny_call_entry
open PySem PySem.Spec in
abbrev aG9:=@wpAny_truthy_bool
open PySem PySem.Spec in
abbrev aH0:=@wpAny_pyIter_list
namespace L2
open PySem PySem.Spec PyProof.Rows
abbrev Key:=Sum Int Str
def af0:Key->Value->Bool
 | .inl k,v=>Value.isInt k v
 | .inr x,v=>Value.isStrOf x v
def keyH (w:World):Key->Int
 | .inl k=>hashInt k
 | .inr x=>hashStr w x
theorem abg:∀ {k:Key} {v:Value},af0 k v=true->(∃ i t,k=Sum.inl i/\v=Value.int i t)\/(∃ x t,k=Sum.inr x/\v=Value.str x t)
 | .inl i,v,h=>by
  obtain ⟨t,e⟩:=Value.isInt_shape (k:=i) (v:=v) h
  exact .inl ⟨i,t,rfl,e⟩
 | .inr x,v,h=>by
  obtain ⟨t,e⟩:=Value.isStrOf_shape (x:=x) (v:=v) h
  exact .inr ⟨x,t,rfl,e⟩
theorem aoi (i:Int) (t:Tok):af0 (.inl i) (.int i t)=true:=by simp [af0,Value.isInt]
theorem aoj (x:Str) (t:Tok):af0 (.inr x) (.str x t)=true:=by simp [af0,Value.isStrOf]
theorem au3 (a b:Int):decide ((Sum.inl a:Key)=Sum.inl b)=(a == b):=by
 by_cases e:a=b
 ·subst e;simp
 ·have h:¬ (Sum.inl a:Key)=Sum.inl b:=fun q=>e (Sum.inl.inj q)
  rw [aB4 h]
  exact (beq_eq_false_iff_ne.mpr e).symm
theorem au4 (a b:Str):decide ((Sum.inr a:Key)=Sum.inr b)=decide (a=b):=by
 by_cases e:a=b
 ·subst e;simp
 ·have h:¬ (Sum.inr a:Key)=Sum.inr b:=fun q=>e (Sum.inr.inj q)
  rw [aB4 h,aB4 e]
theorem au5 (a:Int) (b:Str):decide ((Sum.inl a:Key)=Sum.inr b)=false:=aB4 (fun q=>nomatch q)
theorem au6 (a:Str) (b:Int):decide ((Sum.inr a:Key)=Sum.inl b)=false:=aB4 (fun q=>nomatch q)
def abd (prog:Program) (w:World):PySem.KeyKind prog w Key where
 is:=af0
 hash:=keyH w
 inj:=fun v a b ha hb=>by
  rcases abg ha with ⟨i,t,rfl,rfl⟩ | ⟨x,t,rfl,rfl⟩
  ·rcases abg hb with ⟨j,u,rfl,e⟩ | ⟨y,u,rfl,e⟩
   ·injection e with e1 _;rw [e1]
   ·exact nomatch e
  ·rcases abg hb with ⟨j,u,rfl,e⟩ | ⟨y,u,rfl,e⟩
   ·exact nomatch e
   ·injection e with e1 _;rw [e1]
 byValue:=fun k v h=>by
  rcases abg h with ⟨i,t,rfl,rfl⟩ | ⟨x,t,rfl,rfl⟩ <;> rfl
 pyHash:=fun hv h=>by
  rcases abg hv with ⟨i,t,rfl,rfl⟩ | ⟨x,t,rfl,rfl⟩
  ·exact wpAny_pyHash_int h
  ·exact wpAny_pyHash_str h
 eqBool:=fun hu hv h=>by
  rcases abg hu with ⟨i,t,rfl,rfl⟩ | ⟨x,t,rfl,rfl⟩
  ·rcases abg hv with ⟨j,u,rfl,rfl⟩ | ⟨y,u,rfl,rfl⟩
   ·rw [au3] at h;exact wpAny_eqBool_int h
   ·rw [au5] at h;exact SeqAt.EqAt.int_str i t y u _ _ _ _ h
  ·rcases abg hv with ⟨j,u,rfl,rfl⟩ | ⟨y,u,rfl,rfl⟩
   ·rw [au6] at h;exact SeqAt.EqAt.str_int x t j u _ _ _ _ h
   ·rw [au4] at h;exact wpAny_eqBool_str h
 «strs»:=fun k x t v h=>by
  rcases abg h with ⟨i,u,rfl,e⟩ | ⟨y,u,rfl,e⟩
  ·exact nomatch e
  ·injection e with e1 _
   subst e1
   cases v <;> rfl
theorem al1 (prog:Program) (w:World) (i:Int) (t:Tok):(abd prog w).is (.inl i) (.int i t)=true:=aoi i t
theorem al2 (prog:Program) (w:World) (x:Str) (t:Tok):(abd prog w).is (.inr x) (.str x t)=true:=aoj x t
inductive V where
 | non | bl (b:Bool) | int (i:Int) | str (x:Str) | byt (b:Array UInt8) | flt (b:UInt64) | ref (a:Addr) | ty (n:String)
 deriving DecidableEq
def RelV:V->Value->Prop
 | .non,u=>u=Value.none
 | .bl b,u=>u=Value.bool b
 | .int i,u=>∃ t,u=Value.int i t
 | .str x,u=>∃ t,u=Value.str x t
 | .byt b,u=>∃ t,u=Value.bytes b t
 | .flt b,u=>∃ t,u=Value.float b t
 | .ref a,u=>u=Value.ref a
 | .ty n,u=>u=Value.type n
abbrev Vals:List V->List Value->Prop:=Paired RelV
theorem Vals.length {xs:List V} {us:List Value} (r:Vals xs us):xs.length=us.length:=Paired.length r
theorem Vals.get:∀ {xs:List V} {us:List Value} {i:Nat} {x:V},Vals xs us->xs[i]?=some x->∃ u,us[i]?=some u/\RelV x u
 | _,_,_,_,.nil,e=>by simp at e
 | _,_,0,_,.cons r _,e=>by simp at e;subst e;exact ⟨_,rfl,r⟩
 | _,_,i+1,x,.cons _ t,e=>by
  obtain ⟨u,b,a⟩:=Vals.get (i:=i) (x:=x) t (by simpa using e)
  exact ⟨u,by simpa using b,a⟩
theorem Vals.set {x:V} {u:Value} (r:RelV x u):∀ {xs:List V} {us:List Value} (i:Nat),Vals xs us->Vals (xs.set i x) (us.set i u)
 | _,_,_,.nil => .nil
 | _,_,0,.cons _ t => .cons r t
 | _,_,i+1,.cons q t => .cons q (Vals.set r i t)
theorem Vals.append:∀ {xs ys:List V} {us ws:List Value},Vals xs us->Vals ys ws->Vals (xs ++ ys) (us ++ ws)
 | _,_,_,_,.nil,s=>s
 | _,_,_,_,.cons r t,s => .cons r (Vals.append t s)
theorem Vals.take:∀ {xs:List V} {us:List Value} (n:Nat),Vals xs us->Vals (xs.take n) (us.take n)
 | _,_,0,_ => .nil
 | _,_,_+1,.nil => .nil
 | _,_,n+1,.cons r t => .cons r (Vals.take n t)
theorem Vals.drop:∀ {xs:List V} {us:List Value} (n:Nat),Vals xs us->Vals (xs.drop n) (us.drop n)
 | _,_,0,r=>r
 | _,_,_+1,.nil => .nil
 | _,_,n+1,.cons _ t=>Vals.drop n t
def RelO:Option V->Option Value->Prop
 | some v,some u=>RelV v u
 | none,none=>True
 | _,_=>False
def KV {κ:Type}:List (κ × V)->List (κ × Value)->Prop:=Paired fun (p : κ × V) (q : κ × Value)=>p.1=q.1/\RelV p.2 q.2
def kV:Key->V
 | .inl i => .int i
 | .inr x => .str x
inductive HO where
 /-- a list -/
 | lst (xs:List V)
 /-- a tuple (never changes) -/
 | tup (xs:List V)
 /-- a dict whose keys are ints and texts; one whose keys are tuples of ints and texts (the empty one is both) -/
 | dK (kvs:List (Key × V)) | dT (kvs:List (List Key × V))
 /-- a set of ints: its members, its size -/
 | set (S:Int->Bool) (n:Nat)
 /-- an instance of the class at C, its dict at dx, its attributes -/
 | ins (C dx:Addr) (fs:List (Str × V))
 /-- the dict of the instance at x -/
 | own (x:Addr)
 /-- the dict of an exception -/
 | xd (fs:List (Str × V))
 /-- a bound method, f of x -/
 | met (f x:Addr)
 /-- a range object lo, lo + 1, .. below hi -/
 | rng (lo hi:Int)
 /-- a thing that is known to the object (the script; a dict while a loop walks it): read, never written while it is so -/
 | frz (o:Obj) (u:HO)
 /-- a code object's table -/
 | tbl (ps:Array Value)
 /-- any other thing, by what is true of its one object (a def of one's own: SetO a S n:=HO.ext fun h => ..) -/
 | ext (φ:Heap->Prop)
abbrev Hp:=Addr->Option HO
def upd (H:Hp) (a:Addr) (o:HO):Hp:=fun b=>if b=a then some o else H b
theorem aai {H:Hp} {a:Addr} {o:HO}:upd H a o a=some o:=by unfold upd;rw [aC5 rfl]
theorem aag {H:Hp} {a b:Addr} {o:HO} (h:b ≠ a):upd H a o b=H b:=by unfold upd;rw [aC6 h]
theorem ar0 {H:Hp} {a b:Addr} {o u:HO} (h:H a=some o) (h':H b=some u) (d:o ≠ u):a ≠ b:=by
 intro e;subst e;rw [h] at h';exact d (aA5 h')
theorem aa0 {H:Hp} {a b:Addr} {o:HO} (h:H a=some o) (h':H b=none):a ≠ b:=by
 intro e;subst e;rw [h] at h';cases h'
section
variable (P:Program) (w:World)
def ObjOk (H:Hp) (h:Heap) (a:Addr):HO->Prop
 | .lst xs=>xs.length<=sizeLine/\∃ (its:List Value) (n:Nat),Vals xs its/\h.get? a=some { cls:=.type "list",data:=.seq its.toArray n }
 | .tup xs=>xs.length<=sizeLine/\∃ its:List Value,Vals xs its/\IsTup h a its.toArray
 | .dK kvs=>kvs.length<=sizeLine/\(a == sysModules)=false/\∃ vs,KV kvs vs/\h.DictOf (abd P w) a vs
 | .dT kvs=>kvs.length<=sizeLine/\(a == sysModules)=false/\∃ xs:List (List Key × Addr × Value),
   Paired (fun (p:List Key × V) (q:List Key × Addr × Value)=>p.1=q.1/\H q.2.1=some (.tup (p.1.map kV))/\RelV p.2 q.2.2) kvs xs /\
   ∃ o es ep,h.get? a=some o/\o.ExactDict/\o.data=.dict es ep/\es.toList=xs.map (entryOfKey (tupleKind (abd P w)))/\(xs.map (·.1)).Nodup
 | .set S n=>h.SetOf (intKind P w) a S n
 | .ins C dx fs=>H dx=some (.own a)/\fs.length<=1000/\dx ≠ a/\h.get? a=some (PySem.W.instObj C dx) /\
   ∃ mA,h.Ns1 dx mA/\(∀ f,RelO (fs.lookup f) (mA f))/\PySem.Within mA (fs.map (·.1))
 | .own _=>∃ o,h.get? a=some o
 | .xd fs=>∃ mA,h.Ns1 a mA/\∀ f,RelO (fs.lookup f) (mA f)
 | .rng lo hi=>∃ t u v,h.get? a=some { cls:=.type "range",data:=.fields #[.int lo t,.int hi u,.int 1 v] }
 | .frz o u=>h.get? a=some o/\ObjOk H h a u
 | .tbl ps=>h.get? a=some { cls:=.none,data:=.fields ps }
 | .met f x=>h.get? a=some (PySem.W.methodObj (.ref f) (.ref x))
 | .ext φ => φ h/\(∃ o,h.get? a=some o)/\∀ h1 h2:Heap,φ h1->(∀ o,h1.get? a=some o->h2.get? a=some o)->φ h2
def HOk (H:Hp) (h:Heap):Prop:=∀ a o,H a=some o->ObjOk P w H h a o
end
section
variable {P:Program} {w:World} {H H':Hp} {h h':Heap} {a:Addr} {o:HO}
theorem ObjOk.lt (x:ObjOk P w H h a o):a < h.objs.size:=by
 cases o with
 | lst xs=>obtain ⟨_,_,_,_,e⟩:=x;exact aG1 e
 | tup xs=>obtain ⟨_,_,_,p⟩:=x;exact p.lt
 | dK kvs=>obtain ⟨_,_,_,_,o,_,_,e,_⟩:=x;exact aG1 e
 | dT kvs=>obtain ⟨_,_,_,_,o,_,_,e,_⟩:=x;exact aG1 e
 | set S n=>obtain ⟨o,_,_,_,e,_⟩:=x;exact aG1 e
 | ins C dx fs=>obtain ⟨_,_,_,e,_⟩:=x;exact aG1 e
 | own y=>obtain ⟨_,e⟩:=x;exact aG1 e
 | xd fs=>obtain ⟨_,⟨_,_,_,e,_⟩,_⟩:=x;exact aG1 e
 | rng lo hi=>obtain ⟨_,_,_,e⟩:=x;exact aG1 e
 | frz ob u=>obtain ⟨e,_⟩:=x;exact aG1 e
 | tbl ps=>exact aG1 (show h.get? a=some _ from x)
 | met f y=>exact aG1 (show h.get? a=some _ from x)
 | ext φ=>obtain ⟨_,⟨_,e⟩,_⟩:=x;exact aG1 e
theorem Paired.mapP {α β:Type} {F G : α->β->Prop}:∀ {l₁:List α} {l₂:List β},Paired F l₁ l₂->(∀ a b,F a b->G a b)->Paired G l₁ l₂
 | _,_,.nil,_ => .nil
 | _,_,.cons r t,f => .cons (f _ _ r) (Paired.mapP t f)
theorem ObjOk.stay (x:ObjOk P w H h a o) (k:∀ b u,(b=a\/H b=some (.own a))->h.get? b=some u->h'.get? b=some u)
  (l:∀ b,H b=some (.own a)->H' b=some (.own a)) (j:∀ b xs,H b=some (.tup xs)->H' b=some (.tup xs)):ObjOk P w H' h' a o:=by
 induction o with
 | lst xs=>obtain ⟨z,its,n,r,e⟩:=x;exact ⟨z,its,n,r,k _ _ (.inl rfl) e⟩
 | tup xs=>obtain ⟨z,its,r,g,e,c⟩:=x;exact ⟨z,its,r,g,k _ _ (.inl rfl) e,c⟩
 | dK kvs=>obtain ⟨z,y,vs,r,g,es,i,e,c⟩:=x;exact ⟨z,y,vs,r,g,es,i,k _ _ (.inl rfl) e,c⟩
 | dT kvs =>
  obtain ⟨z,y,xs,r,g,es,i,e,c⟩:=x
  exact ⟨z,y,xs,Paired.mapP r fun p q z=>⟨z.1,j _ _ z.2.1,z.2.2⟩,g,es,i,k _ _ (.inl rfl) e,c⟩
 | set S n=>obtain ⟨g,es,i,t,e,c⟩:=x;exact ⟨g,es,i,t,k _ _ (.inl rfl) e,c⟩
 | ins C dx fs =>
  obtain ⟨d,z,ne,e,mA,⟨od,es,i,m,c⟩,r⟩:=x
  exact ⟨l _ d,z,ne,k _ _ (.inl rfl) e,mA,⟨od,es,i,k _ _ (.inr d) m,c⟩,r⟩
 | own y=>obtain ⟨g,e⟩:=x;exact ⟨g,k _ _ (.inl rfl) e⟩
 | xd fs=>obtain ⟨mA,⟨od,es,i,e,c⟩,r⟩:=x;exact ⟨mA,⟨od,es,i,k _ _ (.inl rfl) e,c⟩,r⟩
 | rng lo hi=>obtain ⟨t,u,v,e⟩:=x;exact ⟨t,u,v,k _ _ (.inl rfl) e⟩
 | frz g u ih=>obtain ⟨e,q⟩:=x;exact ⟨k _ _ (.inl rfl) e,ih q⟩
 | tbl ps =>
  have e:h.get? a=some { cls:=.none,data:=.fields ps }:=x
  show h'.get? a=some { cls:=.none,data:=.fields ps }
  exact k a _ (.inl rfl) e
 | met f y =>
  have e:h.get? a=some (PySem.W.methodObj (.ref f) (.ref y)):=x
  show h'.get? a=some (PySem.W.methodObj (.ref f) (.ref y))
  exact k a _ (.inl rfl) e
 | ext φ=>obtain ⟨p,⟨o,e⟩,st⟩:=x;exact ⟨st _ _ p fun o q=>k _ _ (.inl rfl) q,⟨o,k _ _ (.inl rfl) e⟩,st⟩
theorem HOk.lt (x:HOk P w H h) (e:H a=some o):a < h.objs.size:=(x a o e).lt
theorem HOk.fresh (x:HOk P w H h) (e:h.objs.size<=a):H a=none:=by
 cases q:H a with
 | none=>rfl
 | some u=>exact absurd (aA4 (x.lt q) e) (aD4 _)
theorem HOk.kept (x:HOk P w H h) (k:∀ b u,h.get? b=some u->h'.get? b=some u):HOk P w H h':=fun a o e =>
 (x a o e).stay (fun b u _ q=>k b u q) (fun _ q=>q) fun _ _ q=>q
theorem HOk.laid (x:HOk P w H h) (k:∀ b u,h.get? b=some u->h'.get? b=some u) (d:h.objs.size<=a) (new:ObjOk P w (upd H a o) h' a o):HOk P w (upd H a o) h':=fun b u e=>by
 have hn:=x.fresh d
 by_cases hb:b=a
 ·subst hb;rw [aai] at e;cases e;exact new
 ·rw [aag hb] at e
  exact (x b u e).stay (fun c v _ q=>k c v q) (fun c q=>by rw [aag (aa0 q hn)];exact q) fun c xs q=>by rw [aag (aa0 q hn)];exact q
end
def Rd (H:Hp) (a:Addr) (u:HO):Prop:=H a=some u\/∃ o,H a=some (.frz o u)
theorem Rd.ok {P:Program} {w:World} {H:Hp} {h:Heap} {a:Addr} {u:HO} (r:Rd H a u) (x:HOk P w H h):ObjOk P w H h a u:=by
 rcases r with r | ⟨o,r⟩
 ·exact x a u r
 ·obtain ⟨_,q⟩:=x a _ r
  exact q
def Mut:Option HO->Prop
 | some (.lst _)=>True
 | some (.dK _)=>True
 | some (.dT _)=>True
 | some (.set _ _)=>True
 | some (.ins _ _ _)=>True
 | some (.ext _)=>True
 | _=>False
section
variable {P:Program} {w:World} {H:Hp} {h h':Heap} {x e:Addr} {o':HO}
theorem HOk.write (ok:HOk P w H h) (f:Mut (H x)) (l:e=x\/H e=some (.own x)) (k:∀ b u,b ≠ e->h.get? b=some u->h'.get? b=some u) (i:∃ u,h'.get? e=some u)
  (new:ObjOk P w (upd H x o') h' x o'):HOk P w (upd H x o') h':=fun b u q=>by
 have a:∀ c y,H c=some (.own y)->c ≠ x:=fun c y r z=>by subst z;rw [r] at f;exact f
 have d:∀ c xs,H c=some (.tup xs)->c ≠ x:=fun c xs r z=>by subst z;rw [r] at f;exact f
 by_cases hb:b=x
 ·subst hb;rw [aai] at q;cases q;exact new
 ·rw [aag hb] at q
  by_cases hbe:b=e
  ·have j:H b=some (.own x):=by
    rcases l with z | z
    ·exact absurd (hbe.trans z) hb
    ·rw [hbe];exact z
   rw [q] at j;cases j
   obtain ⟨v,m⟩:=i
   exact ⟨v,by rw [hbe];exact m⟩
  ·refine (ok b u q).stay (fun c v g r=>k c v ?_ r) (fun c r=>by rw [aag (a c b r)];exact r) fun c xs r=>by rw [aag (d c xs r)];exact r
   rcases g with rfl | g
   ·exact hbe
   ·rintro rfl
    rcases l with z | z
    ·exact a c b g z
    ·rw [g] at z;cases z;exact hb rfl
end
structure Un (fs ex:List Addr) (H H':Hp) (h h':Heap):Prop where
 keep:∀ b o,h.get? b=some o->H b=none->b ∉ fs->b ∉ ex->h'.get? b=some o
 slot:∀ b o,h.get? b=some o->H b=none->b∈fs->b ∉ ex->∃ sl,h'.get? b=some { o with slots:=sl }
 free:∀ b o,h.get? b=some o->H b=none->b ∉ ex->H' b=none
 there:∀ b o,h.get? b=some o->b ∉ ex->∃ o',h'.get? b=some o'
 tups:∀ b xs,H b=some (.tup xs)->H' b=some (.tup xs)
 frzs:∀ b o u,H b=some (.frz o u)->H' b=some (.frz o u)
 tbls:∀ b ps,H b=some (.tbl ps)->∃ more,H' b=some (.tbl (ps ++ more))
section
variable {fs fs' ex ex':List Addr} {H H1 H2:Hp} {h h1 h2 h':Heap} {a x e:Addr} {o:HO}
theorem Un.any (u:Un fs ex H H1 h h1) {b:Addr} {a:Obj} (q:h.get? b=some a) (n:H b=none) (c:b ∉ ex):∃ sl,h1.get? b=some { a with slots:=sl }:=by
 by_cases hb:b∈fs
 ·exact u.slot b a q n hb c
 ·exact ⟨a.slots,u.keep b a q n hb c⟩
theorem Un.trans (a:Un fs ex H H1 h h1) (b:Un fs ex H1 H2 h1 h2):Un fs ex H H2 h h2 where
 keep:=fun c d q n i f=>b.keep c d (a.keep c d q n i f) (a.free c d q n f) i f
 slot:=fun c d q n i f=>by
  obtain ⟨sl,g⟩:=a.slot c d q n i f
  obtain ⟨j,l⟩:=b.slot c _ g (a.free c d q n f) i f
  exact ⟨j,l⟩
 free:=fun c d q n f=>by
  obtain ⟨o',g⟩:=a.there c d q f
  exact b.free c o' g (a.free c d q n f) f
 there:=fun c d q f=>by
  obtain ⟨o',g⟩:=a.there c d q f
  exact b.there c o' g f
 tups:=fun c xs q=>b.tups c xs (a.tups c xs q)
 frzs:=fun c d xs q=>b.frzs c d xs (a.frzs c d xs q)
 tbls:=fun c ps q=>by
  obtain ⟨o,g⟩:=a.tbls c ps q
  obtain ⟨m,l⟩:=b.tbls c _ g
  exact ⟨o ++ m,by rw [l,Array.append_assoc]⟩
theorem Un.kept (k:∀ b u,h.get? b=some u->h'.get? b=some u):Un fs ex H H h h' :=
 ⟨fun b a q _ _ _=>k b a q,fun b a q _ _ _=>⟨a.slots,k b a q⟩,fun _ _ _ n _=>n,fun b a q _=>⟨a,k b a q⟩,fun _ _ q=>q,fun _ _ _ q=>q,fun _ ps q=>⟨#[],by rw [q];simp⟩⟩
theorem Un.refl:Un fs ex H H h h:=Un.kept fun _ _ q=>q
theorem Un.laid (k:∀ b u,h.get? b=some u->h'.get? b=some u) (c:h.objs.size<=a) (hn:H a=none):Un fs ex H (upd H a o) h h' where
 keep:=fun b u q _ _ _=>k b u q
 slot:=fun b u q _ _ _=>⟨u.slots,k b u q⟩
 free:=fun b u q n _=>by rw [aag (az5 (aA4 (aG1 q) c))];exact n
 there:=fun b u q _=>⟨u,k b u q⟩
 tups:=fun b xs q=>by rw [aag (aa0 q hn)];exact q
 frzs:=fun b u xs q=>by rw [aag (aa0 q hn)];exact q
 tbls:=fun b ps q=>⟨#[],by rw [aag (aa0 q hn),q];simp⟩
theorem Un.write (a:Mut (H x)) (g:e=x\/H e=some (.own x)) (k:∀ b u,b ≠ e->h.get? b=some u->h'.get? b=some u) (c:∃ u,h'.get? e=some u):Un fs ex H (upd H x o) h h':=by
 have d:∀ b,H b=none->b ≠ x:=fun b n z=>by subst z;rw [n] at a;exact a
 have hb:∀ b,H b=none->b ≠ e:=fun b n z=>by
  subst z
  rcases g with r | r
  ·exact d b n r
  ·rw [n] at r;cases r
 have hm:∀ b u,H b=some u->¬ Mut (some u)->b ≠ x:=fun b u q f z=>by subst z;rw [q] at a;exact f a
 refine ⟨fun b u q n _ _=>k b u (hb b n) q,fun b u q n _ _=>⟨u.slots,k b u (hb b n) q⟩,fun b u q n _=>by rw [aag (d b n)];exact n,fun b u q _=>?_,
  fun b xs q=>by rw [aag (hm b _ q fun z=>z)];exact q,fun b u xs q=>by rw [aag (hm b _ q fun z=>z)];exact q,fun b ps q=>⟨#[],by rw [aag (hm b _ q fun z=>z),q];simp⟩⟩
 by_cases hbe:b=e
 ·subst hbe;exact c
 ·exact ⟨u,k b u hbe q⟩
theorem Un.mono (u:Un fs ex H H1 h h1) (f:∀ b∈fs,b∈fs') (d:∀ b∈ex,b∈ex'):Un fs' ex' H H1 h h1 :=
 ⟨fun b c q n hb a=>u.keep b c q n (fun z=>hb (f b z)) fun z=>a (d b z),fun _ _ q n _ a=>u.any q n fun z=>a (d _ z),fun b c q n a=>u.free b c q n fun z=>a (d b z),fun b c q a=>u.there b c q fun z=>a (d b z),u.tups,u.frzs,u.tbls⟩
end
def trk (h:Heap) (H:Hp):List Addr:=(List.range h.objs.size).filter fun a=>(H a).isSome
def hidT (h:Heap) (H:Hp):Heap:=PySem.W.hideAll h (trk h H)
theorem aok (h:Heap) (H:Hp):(hidT h H).objs.size=h.objs.size:=PySem.W.hideAll_size _ _
theorem ap4 {h:Heap} {H:Hp} {b:Addr} {o:Obj} (e:h.get? b=some o) (n:H b=none):(hidT h H).get? b=some o :=
 PySem.W.hideAll_get _ e fun hm=>by
  have q:(H b).isSome=true:=(List.mem_filter.mp hm).2
  rw [n] at q;simp at q
theorem asj {h:Heap} {H:Hp} {b:Addr} {o:Obj} (e:(hidT h H).get? b=some o):h.get? b=some o/\H b=none:=by
 have a:h.get? b=some o:=PySem.W.of_hideAll (trk h H) e
 refine ⟨a,?_⟩
 cases q:H b with
 | none=>rfl
 | some x =>
  have hm:b∈trk h H:=List.mem_filter.mpr ⟨az8.mpr (aG1 a),by simp [q]⟩
  have z:(hidT h H).get? b=none:=PySem.W.hideAll_none (trk h H) hm
  rw [z] at e;cases e
def asl (g h:Heap) (L:Addr):List (Addr × Obj):=(List.range h.objs.size).filterMap fun a=>if a=L\/(g.get? a).isSome=true then none else (h.get? a).map fun o=>(a,o)
def rest (g h:Heap) (L d:Addr):List (Addr × Obj):=(asl g h L).filter fun p=>decide (p.1 ≠ d)
structure Mod (K:Frag) (mg:Str->Option Value) (base:Heap):Prop where
 kin:K.In base
 glob:base.Ns mainGlobals mg
 blt:∃ mb,base.Ns builtinsNs mb/\∀ x:Str,x ≠ "__name__"->mb x=bootBuiltins x
 nolimit:base.NoLimit
/-- the context: a def's body (or a comprehension's block) running. base: fixed through the whole law; s₀, H₀: the entry; outer: the frames whose slots others may change (a def's callers); stack: all frames that run;
  ex: iterators that were made ahead of the entry and are walked here (a comprehension's);fn: the names whose cells were made at the entry (a def: all;a comprehension's block: its own);calm: not within an except suite;pn: pins that every state bears;xe: what is wanted of an exception that leaves the code -/
structure Cx where
 prog:Program
 w:World
 K:Frag
 mg:Str->Option Value
 base:Heap
 A:Around
 N:List Str
 s₀:Shared
 H₀:Hp
 env:Env
 outer:List Env
 stack:List Env
 ex:List Addr
 fn:Str->Bool
 calm:Bool
 pn:List (Addr × Obj)
 xe:Value->Shared->Prop
def frs (l:List Env):List Addr:=l.filterMap (·.frame)
abbrev Cx.fs (X:Cx):List Addr:=frs X.outer
def Vis (sc:Scope) (x:Str):Prop:=sc.names.lookup x=some .local\/sc.names.lookup x=some .cell\/sc.names.lookup x=some .free
def Loc (sc:Scope) (x:Str):Prop:=sc.names.lookup x=some .local\/sc.names.lookup x=some .cell
def Look (env:Env) (h:Heap) (m:Str->Option Value) (x:Str) (u:Value):Prop :=
 (env.kindOf x=some .local/\m x=some u)\/((env.kindOf x=some .cell\/env.kindOf x=some .free)/\∃ c,env.cells.lookup x=some c/\h.IsCell c (some u))
structure Cx.Ok (X:Cx):Prop where
 mod:Mod X.K X.mg X.base
 kind:X.env.scope.kind=.function
 glob:X.env.globals=mainGlobals
 blt:X.env.builtins=builtinsNs
 above:X.s₀.heap.objs.size<=X.env.locals
 inj:∀ x y c,X.env.cells.lookup x=some c->X.env.cells.lookup y=some c->x=y
 has:∀ x,(X.env.kindOf x=some .cell\/X.env.kindOf x=some .free)->∃ c,X.env.cells.lookup x=some c
 cab:∀ x c,X.fn x=true->X.env.cells.lookup x=some c->X.s₀.heap.objs.size<=c
 hd:X.calm=true->X.A.handled=none
 frames:X.A.frames=some X.stack
 stk:X.stack=X.outer\/(X.stack=X.env :: X.outer/\X.env.frame=some X.env.locals)
 exf:∀ b∈X.ex,b ≠ X.env.locals/\∀ x c,X.env.cells.lookup x=some c->c ≠ b
 bs:∀ b o,X.base.get? b=some o->X.s₀.heap.get? b=some o/\X.H₀ b=none
 bsz:X.base.objs.size<=X.s₀.heap.objs.size
 noex:∀ b o,X.base.get? b=some o->b ∉ X.ex
 exfs:∀ b∈X.ex,b ∉ X.fs
 funs:X.s₀.heap.FunFrames X.base X.outer
 frf:∀ b∈X.fs,X.H₀ b=none
structure Inv (X:Cx) (pins:List (Addr × Obj)) (σ:List (Option V)) (H:Hp) (s:Shared):Prop where
 ok:X.Ok
 os:s.os=X.s₀.os
 bare:AllBare s.gens
 base:Un X.fs X.ex X.H₀ H X.s₀.heap s.heap
 loc:∃ m,s.heap.Ns X.env.locals m/\∀ (i:Nat) (x:Str) (v:V),X.N[i]?=some x->σ[i]?=some (some v)->Vis X.env.scope x->∃ u,RelV v u/\Look X.env s.heap m x u
 cell:∀ x c,X.env.cells.lookup x=some c->∃ v,s.heap.IsCell c v
 free:H X.env.locals=none
 freeC:∀ x c,X.env.cells.lookup x=some c->H c=none
 pin:∀ p∈X.pn ++ pins,s.heap.get? p.1=some p.2/\H p.1=none/\p.1 ≠ X.env.locals/\p.1 ∉ X.fs/\∀ v,p.2.data ≠ .cell v
 hok:HOk X.prog X.w H s.heap
 len : σ.length=X.N.length
section
variable {X:Cx} {pins:List (Addr × Obj)} {σ:List (Option V)} {H H':Hp} {s:Shared} {h':Heap}
theorem Cx.Ok.nofr (ok:X.Ok) {b:Addr} {o:Obj} (e:X.base.get? b=some o):b ∉ X.fs:=fun hb=>by
 have:=(ok.funs.mem hb).1
 rw [e] at this;cases this
theorem Inv.bs (I:Inv X pins σ H s):∀ b o,X.base.get? b=some o->s.heap.get? b=some o/\H b=none:=fun b o e =>
 ⟨I.base.keep b o (I.ok.bs b o e).1 (I.ok.bs b o e).2 (I.ok.nofr e) (I.ok.noex b o e),I.base.free b o (I.ok.bs b o e).1 (I.ok.bs b o e).2 (I.ok.noex b o e)⟩
theorem Inv.bk (I:Inv X pins σ H s):∀ b o,X.base.get? b=some o->s.heap.get? b=some o:=fun b o e=>(I.bs b o e).1
theorem Inv.mod (I:Inv X pins σ H s):Mod X.K X.mg X.base:=I.ok.mod
theorem Inv.kIn (I:Inv X pins σ H s):X.K.In s.heap:=I.ok.mod.kin.keeps I.bk
theorem Inv.fr (I:Inv X pins σ H s):∃ m,Fr X.base X.env.locals s.heap m :=
 let ⟨m,hn,_⟩:=I.loc
 ⟨m,hn,I.bk,aA9 I.ok.bsz I.ok.above⟩
theorem Inv.lt (I:Inv X pins σ H s):X.env.locals < s.heap.objs.size:=let ⟨_,hn,_⟩:=I.loc;hn.lt
theorem Inv.sz (I:Inv X pins σ H s):X.s₀.heap.objs.size<=s.heap.objs.size:=aA9 I.ok.above (aD5 I.lt)
theorem Inv.nofs (I:Inv X pins σ H s) {a:Addr} (h:s.heap.objs.size<=a):a ∉ X.fs:=fun hb=>by
 obtain ⟨_,o,b,_⟩:=I.ok.funs.mem hb
 exact absurd (aA4 (aG1 b) (aA9 I.sz h)) (aD4 _)
theorem Inv.cne (I:Inv X pins σ H s):∀ x c,X.env.cells.lookup x=some c->c ≠ X.env.locals:=fun x c e z=>by
 obtain ⟨v,o,d,hd⟩:=I.cell x c e
 obtain ⟨m,⟨o',es,f,a,b,_⟩,_⟩:=I.loc
 rw [z,a] at d;cases d;rw [b] at hd;cases hd
theorem Inv.funs (I:Inv X pins σ H s):s.heap.FunFrames X.base X.outer:=by
 have all:∀ (l:List Env),(∀ b∈frs l,b∈X.fs)->X.s₀.heap.FunFrames X.base l->s.heap.FunFrames X.base l:=by
  intro l
  induction l with
  | nil=>intro _ _;trivial
  | cons env r ih =>
   intro c g
   obtain ⟨f,⟨L,o,hf,hn,d,hd⟩,h⟩:=g
   have a:L∈X.fs:=c L (by unfold frs;rw [List.filterMap_cons,hf];exact az7)
   obtain ⟨sl,e⟩:=I.base.slot L o d (I.ok.frf L a) a fun z=>I.ok.exfs L z a
   exact ⟨f,⟨L,_,hf,hn,e,hd⟩,ih (fun b hb=>c b (by unfold frs;rw [List.filterMap_cons,hf];exact az4 _ hb)) h⟩
 exact all X.outer (fun _ hb=>hb) I.ok.funs
theorem Inv.stack (I:Inv X pins σ H s):s.heap.FunFrames X.base X.stack:=by
 rcases I.ok.stk with e | ⟨e,hf⟩
 ·rw [e];exact I.funs
 ·rw [e]
  obtain ⟨m,hn,_⟩:=I.loc
  refine .cons (by rw [I.ok.kind];decide) hf hn ?_ I.funs
  exact Heap.get?_none_of_le (aA9 I.ok.bsz I.ok.above)
theorem Inv.stkSub (I:Inv X pins σ H s):∀ b∈frs X.stack,b∈X.env.locals :: X.fs:=fun b hb=>by
 rcases I.ok.stk with e | ⟨e,hf⟩
 ·rw [e] at hb;exact az4 _ hb
 ·rw [e] at hb
  unfold frs at hb
  rw [List.filterMap_cons,hf] at hb
  exact hb
theorem Inv.stkFree (I:Inv X pins σ H s):∀ b∈frs X.stack,H b=none:=fun b hb=>by
 rcases ay8.mp (I.stkSub b hb) with e | hb
 ·rw [e];exact I.free
 ·obtain ⟨_,o,a,_⟩:=I.ok.funs.mem hb
  exact I.base.free b o a (I.ok.frf b hb) fun z=>I.ok.exfs b z hb
theorem Inv.step {g':Array GenState} {t':Nat} {d':Drawn} {ch:List Addr} (I:Inv X pins σ H s)
  (h:∀ b∈ch,(b∈X.ex\/X.s₀.heap.objs.size<=b)/\b ≠ X.env.locals/\(∀ x c,X.env.cells.lookup x=some c->c ≠ b)/\∀ p∈X.pn ++ pins,p.1 ≠ b)
  (keep:∀ b o,b ≠ X.env.locals->b ∉ X.fs->b ∉ ch->s.heap.get? b=some o->H b=none->h'.get? b=some o)
  (slot:∀ b o,b ≠ X.env.locals->b∈X.fs->b ∉ ch->s.heap.get? b=some o->H b=none->∃ sl,h'.get? b=some { o with slots:=sl }) (free:∀ b o,b ∉ ch->s.heap.get? b=some o->H b=none->H' b=none)
  (there:∀ b o,b ∉ ch->s.heap.get? b=some o->∃ o',h'.get? b=some o')
  (tups:∀ b xs,H b=some (.tup xs)->H' b=some (.tup xs)) (frzs:∀ b o u,H b=some (.frz o u)->H' b=some (.frz o u)) (tbls:∀ b ps,H b=some (.tbl ps)->∃ more,H' b=some (.tbl (ps ++ more)))
  (ns:∀ m,s.heap.Ns X.env.locals m->h'.Ns X.env.locals m) (hok:HOk X.prog X.w H' h') (G:AllBare g') :
  Inv X pins σ H' { s with heap:=h',gens:=g',drawn:=d',toks:=t' }:=by
 have B:∀ b o,X.s₀.heap.get? b=some o->b ≠ X.env.locals:=fun b o e=>az5 (aA4 (aG1 e) I.ok.above)
 have j:∀ b o,X.s₀.heap.get? b=some o->b ∉ X.ex->b ∉ ch:=fun b o e a hb=>by
  rcases (h b hb).1 with z | z
  ·exact a z
  ·exact absurd (aA4 (aG1 e) z) (aD4 _)
 have g:∀ x c,X.env.cells.lookup x=some c->∀ v,s.heap.IsCell c v->h'.IsCell c v:=fun x c e v M=>by
  obtain ⟨o,A,hd⟩:=M
  have f:c ∉ ch:=fun z=>(h c z).2.2.1 x c e rfl
  by_cases hc:c∈X.fs
  ·obtain ⟨sl,q⟩:=slot c o (I.cne x c e) hc f A (I.freeC x c e)
   exact ⟨_,q,hd⟩
  ·exact ⟨o,keep c o (I.cne x c e) hc f A (I.freeC x c e),hd⟩
 refine ⟨I.ok,I.os,G,⟨fun b o e n hb a=>?_,fun b o e n hb a=>?_,fun b o e n a=>?_,fun b o e a=>?_,fun b xs e=>tups b xs (I.base.tups b xs e),fun b o xs e=>frzs b o xs (I.base.frzs b o xs e),fun b ps e=>?_⟩,?_,fun x c e=>?_,?_,fun x c e=>?_,fun p F=>?_,hok,I.len⟩
 ·exact keep b o (B b o e) hb (j b o e a) (I.base.keep b o e n hb a) (I.base.free b o e n a)
 ·obtain ⟨sl,y⟩:=I.base.slot b o e n hb a
  obtain ⟨D,C⟩:=slot b _ (B b o e) hb (j b o e a) y (I.base.free b o e n a)
  exact ⟨D,C⟩
 ·obtain ⟨o',y⟩:=I.base.there b o e a
  exact free b o' (j b o e a) y (I.base.free b o e n a)
 ·obtain ⟨o',y⟩:=I.base.there b o e a
  exact there b o' (j b o e a) y
 ·obtain ⟨L,y⟩:=I.base.tbls b ps e
  obtain ⟨K,C⟩:=tbls b _ y
  exact ⟨L ++ K,by rw [C,Array.append_assoc]⟩
 ·obtain ⟨m,hn,N⟩:=I.loc
  refine ⟨m,ns m hn,fun i x v y C J=>?_⟩
  obtain ⟨u,r,l⟩:=N i x v y C J
  refine ⟨u,r,?_⟩
  rcases l with l | ⟨k,c,e,z⟩
  ·exact .inl l
  ·exact .inr ⟨k,c,e,g x c e _ z⟩
 ·obtain ⟨v,z⟩:=I.cell x c e
  exact ⟨v,g x c e v z⟩
 ·obtain ⟨m,⟨o,_,_,A,_⟩,_⟩:=I.loc
  exact free _ o (fun z=>(h _ z).2.1 rfl) A I.free
 ·obtain ⟨v,o,A,hd⟩:=I.cell x c e
  exact free c o (fun z=>(h c z).2.2.1 x c e rfl) A (I.freeC x c e)
 ·obtain ⟨e,n,ne,E,d⟩:=I.pin p F
  have f:p.1 ∉ ch:=fun z=>(h p.1 z).2.2.2 p F rfl
  exact ⟨keep p.1 p.2 ne E f e n,free p.1 p.2 f e n,ne,E,d⟩
theorem Inv.un {t':Nat} (I:Inv X pins σ H s) (u:Un X.fs [] H H' s.heap h') (hok:HOk X.prog X.w H' h'):Inv X pins σ H' { s with heap:=h',toks:=t' }:=by
 obtain ⟨m,⟨o,es,j,f,r⟩,_⟩:=id I.loc
 obtain ⟨sl,g⟩:=u.any f I.free (by simp)
 exact I.step (g':=s.gens) (d':=s.drawn) (ch:=[]) (fun _ z=>nomatch z) (fun b o _ hb _ e n=>u.keep b o e n hb (by simp)) (fun b o _ hb _ e n=>u.slot b o e n hb (by simp)) (fun b o _ e n=>u.free b o e n (by simp)) (fun b o _ e=>u.there b o e (by simp)) u.tups u.frzs u.tbls (fun i hm=>by
  obtain ⟨o',c,d,a,h⟩:=hm
  rw [f] at a;cases a
  exact ⟨_,c,d,g,h⟩) hok I.bare
theorem Inv.call {g':Array GenState} {t':Nat} {d':Drawn} {ch:List Addr} (I:Inv X pins σ H s) (u:Un (frs X.stack) ch H H' s.heap h') (hok:HOk X.prog X.w H' h') (l:AllBare g')
  (d:∀ b∈ch,(b∈X.ex\/X.s₀.heap.objs.size<=b)/\b ≠ X.env.locals/\(∀ x c,X.env.cells.lookup x=some c->c ≠ b)/\∀ p∈X.pn ++ pins,p.1 ≠ b) :
  Inv X pins σ H' { s with heap:=h',gens:=g',drawn:=d',toks:=t' }:=by
 obtain ⟨m,⟨o,es,y,j,r⟩,_⟩:=id I.loc
 obtain ⟨sl,g⟩:=u.any j I.free fun z=>(d _ z).2.1 rfl
 exact I.step (ch:=ch) d (fun b o g hb a e n=>u.keep b o e n (fun z=>(ay8.mp (I.stkSub b z)).elim g hb) a) (fun b o _ _ a e n=>u.any e n a) (fun b o a e n=>u.free b o e n a) (fun b o a e=>u.there b o e a) u.tups u.frzs u.tbls (fun v hm=>by
  obtain ⟨o',h,i,f,q⟩:=hm
  rw [j] at f;cases f
  exact ⟨_,h,i,g,q⟩) hok l
theorem Inv.turned {t':Nat} {it:Addr} (I:Inv X pins σ H s) (k:∀ b o,b ≠ it->s.heap.get? b=some o->h'.get? b=some o) (hn:H it=none) (f:it ≠ X.env.locals)
  (g:it∈X.ex\/X.s₀.heap.objs.size<=it) (i:∀ x c,X.env.cells.lookup x=some c->c ≠ it) (j:∀ p∈X.pn ++ pins,p.1 ≠ it):Inv X pins σ H { s with heap:=h',toks:=t' }:=by
 have d:∀ b u,H b=some u->b ≠ it:=fun b u e z=>by rw [z,hn] at e;cases e
 refine I.step (g':=s.gens) (d':=s.drawn) (ch:=[it]) (fun b hb=>?_) (fun b o _ _ a e _=>k b o (fun z=>a (by simp [z])) e) (fun b o _ _ a e _=>⟨o.slots,k b o (fun z=>a (by simp [z])) e⟩) (fun _ _ _ _ n=>n)
  (fun b o a e=>⟨o,k b o (fun z=>a (by simp [z])) e⟩) (fun _ _ e=>e) (fun _ _ _ e=>e) (fun b ps e=>⟨#[],by rw [e];simp⟩) (fun m hm=>?_) (fun b u e=>?_) I.bare
 ·have e:b=it:=by simpa using hb
  subst e
  exact ⟨g,f,i,j⟩
 ·obtain ⟨o,es,l,h,r⟩:=hm
  exact ⟨o,es,l,k _ o (Ne.symm f) h,r⟩
 ·refine (I.hok b u e).stay (fun c v a q=>k c v ?_ q) (fun _ q=>q) fun _ _ q=>q
  rcases a with z | z
  ·rw [z];exact d b u e
  ·exact d c _ z
theorem Inv.tok (I:Inv X pins σ H s) (t:Nat):Inv X pins σ H { s with toks:=t }:=I.un (h':=s.heap) (t':=t) Un.refl I.hok
theorem Inv.kept {t':Nat} (I:Inv X pins σ H s) (k:∀ b u,s.heap.get? b=some u->h'.get? b=some u):Inv X pins σ H { s with heap:=h',toks:=t' }:=I.un (Un.kept k) (I.hok.kept k)
theorem Inv.laid {a:Addr} {o:HO} {t':Nat} (I:Inv X pins σ H s) (k:∀ b u,s.heap.get? b=some u->h'.get? b=some u) (c:s.heap.objs.size<=a) (new:ObjOk X.prog X.w (upd H a o) h' a o) :
  Inv X pins σ (upd H a o) { s with heap:=h',toks:=t' }:=I.un (Un.laid k c (I.hok.fresh c)) (I.hok.laid k c new)
theorem Inv.write {x e:Addr} {o:HO} {t':Nat} (I:Inv X pins σ H s) (d:Mut (H x)) (c:e=x\/H e=some (.own x)) (k:∀ b u,b ≠ e->s.heap.get? b=some u->h'.get? b=some u) (a:∃ u,h'.get? e=some u)
  (new:ObjOk X.prog X.w (upd H x o) h' x o):Inv X pins σ (upd H x o) { s with heap:=h',toks:=t' }:=I.un (Un.write d c k a) (I.hok.write d c k a new)
theorem Inv.pins_of {a:List (Addr × Obj)} (I:Inv X pins σ H s) (h:∀ p∈a,s.heap.get? p.1=some p.2/\H p.1=none/\p.1 ≠ X.env.locals/\p.1 ∉ X.fs/\∀ v,p.2.data ≠ .cell v):Inv X a σ H s :=
 ⟨I.ok,I.os,I.bare,I.base,I.loc,I.cell,I.free,I.freeC,fun p b=>(ay7.mp b).elim (fun z=>I.pin p (aA6 _ z)) (h p),I.hok,I.len⟩
theorem nodup_ix {N:List Str} (f:N.Nodup) {i j:Nat} {x:Str} (a:N[i]?=some x) (b:N[j]?=some x):i=j:=by
 obtain ⟨h,d⟩:=ay1.mp a
 obtain ⟨g,c⟩:=ay1.mp b
 exact (List.getElem_inj f).mp (d.trans c.symm)
theorem ain {M:Model} {A:Around} {E:Value->Shared->Prop} {i:Nat} {x:Str} {v:V} {u:Value} {Q:Unit->Shared->Prop} (I:Inv X pins σ H s) (hN:X.N.Nodup) (hi:X.N[i]?=some x) (C:Loc X.env.scope x) (r:RelV v u)
  (h:∀ s',Inv X pins (σ.set i (some v)) H s'->(∃ a,Heap.SameBut a s.heap s'.heap/\(a=X.env.locals\/X.env.cells.lookup x=some a))->Q () s') (hf:X.fn x=true\/X.env.scope.names.lookup x=some .local:=by first | exact .inl rfl | exact .inr rfl | assumption):wpAny M A (storeName X.env x u) Q E s:=by
 obtain ⟨m,hn,hl⟩:=id I.loc
 have L:(X.env.scope.kind == .class || (X.env.scope.kind == .module && X.env.locals != X.env.globals))=false:=by rw [I.ok.kind];rfl
 have G:i < σ.length:=by rw [I.len];exact (ay1.mp hi).1
 have cne:=I.cne
 have g:∀ {a:Addr} {h':Heap},(∃ o,s.heap.get? a=some o/\H a=none)->Heap.SameBut a s.heap h'->HOk X.prog X.w H h':=fun {a h'} ha f b ob e=>by
  obtain ⟨_,_,D⟩:=ha
  refine (I.hok b ob e).stay (fun c S B q=>(f.2 c ?_).trans q) (fun _ q=>q) fun _ _ q=>q
  rintro rfl
  rcases B with rfl | B
  ·rw [D] at e;cases e
  ·rw [D] at B;cases B
 rcases C with J | J
 ·refine wpAny_storeName_local J hn (fun h' Z f=>?_) L
  obtain ⟨oL,_,_,a0,_⟩:=id hn
  refine h _ ⟨I.ok,I.os,I.bare,⟨fun b o e n hb C=>?_,fun b o e n hb C=>?_,I.base.free,fun b o e C=>?_,I.base.tups,I.base.frzs,I.base.tbls⟩,⟨_,Z,fun j y v' l F U=>?_⟩,fun y c e=>?_,I.free,I.freeC,fun p hp=>?_,g ⟨oL,a0,I.free⟩ f,by simpa using I.len⟩ ⟨_,f,.inl rfl⟩
  ·exact (f.2 b (az5 (aA4 (aG1 e) I.ok.above))).trans (I.base.keep b o e n hb C)
  ·obtain ⟨sl,l⟩:=I.base.slot b o e n hb C
   exact ⟨sl,(f.2 b (az5 (aA4 (aG1 e) I.ok.above))).trans l⟩
  ·obtain ⟨o',l⟩:=I.base.there b o e C
   exact ⟨o',(f.2 b (az5 (aA4 (aG1 e) I.ok.above))).trans l⟩
  ·by_cases hj:j=i
   ·subst hj
    rw [hi] at l;cases l
    rw [List.getElem?_set_self G] at F
    cases F
    exact ⟨u,r,.inl ⟨J,by simp⟩⟩
   ·rw [List.getElem?_set_ne (Ne.symm hj)] at F
    obtain ⟨u',Y,q⟩:=hl j y v' l F U
    refine ⟨u',Y,?_⟩
    rcases q with ⟨k,e⟩ | ⟨k,c,e,z⟩
    ·refine .inl ⟨k,?_⟩
     have:y ≠ x:=fun e=>hj (nodup_ix hN l (e ▸ hi))
     simp [this,e]
    ·exact .inr ⟨k,c,e,z.sameBut f (cne y c e)⟩
  ·obtain ⟨S,z⟩:=I.cell y c e
   exact ⟨S,z.sameBut f (cne y c e)⟩
  ·obtain ⟨e,n,ne,W,d⟩:=I.pin p hp
   exact ⟨(f.2 p.1 ne).trans e,n,ne,W,d⟩
 ·have K:X.fn x=true:=by
   rcases hf with z | z
   ·exact z
   ·rw [z] at J;cases J
  obtain ⟨c,B⟩:=I.ok.has x (.inl J)
  obtain ⟨S,z⟩:=I.cell x c B
  refine wpAny_storeName_cell I.ok.kind J B z (fun h' O f=>?_)
  obtain ⟨oc,R,P⟩:=id z
  refine h { s with heap:=h' } ⟨I.ok,I.os,I.bare,⟨fun b o e n hb C=>?_,fun b o e n hb C=>?_,I.base.free,fun b o e C=>?_,I.base.tups,I.base.frzs,I.base.tbls⟩,⟨m,hn.sameBut f (Ne.symm (cne x c B)),fun j y v' l F U=>?_⟩,fun y T e=>?_,I.free,I.freeC,fun p hp=>?_,g ⟨oc,R,I.freeC x c B⟩ f,by simpa using I.len⟩ ⟨c,f,.inr B⟩
  ·exact (f.2 b (az5 (aA4 (aG1 e) (I.ok.cab x c K B)))).trans (I.base.keep b o e n hb C)
  ·obtain ⟨sl,l⟩:=I.base.slot b o e n hb C
   exact ⟨sl,(f.2 b (az5 (aA4 (aG1 e) (I.ok.cab x c K B)))).trans l⟩
  ·obtain ⟨o',l⟩:=I.base.there b o e C
   exact ⟨o',(f.2 b (az5 (aA4 (aG1 e) (I.ok.cab x c K B)))).trans l⟩
  ·by_cases hj:j=i
   ·subst hj
    rw [hi] at l;cases l
    rw [List.getElem?_set_self G] at F
    cases F
    exact ⟨u,r,.inr ⟨.inl J,c,B,O⟩⟩
   ·rw [List.getElem?_set_ne (Ne.symm hj)] at F
    obtain ⟨u',Y,q⟩:=hl j y v' l F U
    refine ⟨u',Y,?_⟩
    rcases q with q | ⟨k,T,e,z'⟩
    ·exact .inl q
    ·refine .inr ⟨k,T,e,z'.sameBut f ?_⟩
     rintro rfl
     exact hj (nodup_ix hN l (I.ok.inj _ _ _ e B ▸ hi))
  ·by_cases hcc:T=c
   ·subst hcc;exact ⟨_,O⟩
   ·obtain ⟨w2,z2⟩:=I.cell y T e
    exact ⟨w2,z2.sameBut f hcc⟩
  ·obtain ⟨e,n,ne,W,d⟩:=I.pin p hp
   refine ⟨(f.2 p.1 ?_).trans e,n,ne,W,d⟩
   intro q
   rw [q,R] at e
   have q':oc=p.2:=aA5 e
   exact d S (by rw [← q'];exact P)
theorem aj7 {M:Model} {A:Around} {E:Value->Shared->Prop} {i:Nat} {x:Str} {v:V} {u:Value} {Q:Unit->Shared->Prop} (I:Inv X pins σ H s) (d:X.N.Nodup) (hi:X.N[i]?=some x) (c:Loc X.env.scope x) (r:RelV v u)
  (h:∀ a,Inv X pins (σ.set i (some v)) H a->Q () a) (hf:X.fn x=true\/X.env.scope.names.lookup x=some .local:=by first | exact .inl rfl | exact .inr rfl | assumption):wpAny M A (storeName X.env x u) Q E s :=
 ain I d hi c r (fun a b _=>h a b) hf
theorem Inv.call' {a:Shared} {ch:List Addr} (I:Inv X pins σ H s) (g:a.os=s.os) (u:Un (frs X.stack) ch H H' s.heap a.heap) (hok:HOk X.prog X.w H' a.heap) (f:AllBare a.gens)
  (d:∀ b∈ch,(b∈X.ex\/X.s₀.heap.objs.size<=b)/\b ≠ X.env.locals/\(∀ x c,X.env.cells.lookup x=some c->c ≠ b)/\∀ p∈X.pn ++ pins,p.1 ≠ b):Inv X pins σ H' a:=by
 obtain ⟨h',g',d',t',o'⟩:=a
 have e:o'=s.os:=g
 subst e
 exact I.call (g':=g') (t':=t') (d':=d') u hok f d
end
abbrev XK:=Value->Option Addr->Hp->Prop
abbrev St:=List (Option V)
abbrev VK:=V->Hp->Prop
abbrev TE:=St->Hp->VK->Prop
abbrev TT:=St->Hp->(Bool->Hp->Prop)->Prop
abbrev TA:=St->Hp->(List V->Hp->Prop)->Prop
structure Ends where
 nx:St->Hp->Prop
 rt:VK
 bk:St->Hp->Prop:=fun _ _=>False
 ct:St->Hp->Prop:=fun _ _=>False
abbrev TS:=Ends->St->Hp->Prop
def EP (X:Cx) (pins:List (Addr × Obj)) (σ:St) (Q:VK) (u:Value) (s':Shared):Prop:=∃ v H',Inv X pins σ H' s'/\RelV v u/\Q v H'
def TP (X:Cx) (pins:List (Addr × Obj)) (σ:St) (Q:Bool->Hp->Prop) (b:Bool) (s':Shared):Prop:=∃ H',Inv X pins σ H' s'/\Q b H'
def AP (X:Cx) (pins:List (Addr × Obj)) (σ:St) (Q:List V->Hp->Prop) (us:List Value) (s':Shared):Prop:=∃ vs H',Inv X pins σ H' s'/\Vals vs us/\Q vs H'
def SP (X:Cx) (pins:List (Addr × Obj)) (D:Ends) (f:Flow) (s':Shared):Prop :=
 match f with
 | .next=>∃ σ' H',Inv X pins σ' H' s'/\D.nx σ' H'
 | .brk=>∃ σ' H',Inv X pins σ' H' s'/\D.bk σ' H'
 | .cont=>∃ σ' H',Inv X pins σ' H' s'/\D.ct σ' H'
 | .ret u=>∃ v σ' H',Inv X pins σ' H' s'/\RelV v u/\D.rt v H'
def PE (X:Cx) (e:Expr) (t:TE):Prop :=
 ∀ (pins:List (Addr × Obj)) (s:Shared) (σ:St) (H:Hp) (Q:VK),Inv X pins σ H s->t σ H Q->wpAny (model X.prog X.w) X.A (eval e X.env) (EP X pins σ Q) X.xe s
def PT (X:Cx) (e:Expr) (t:TT):Prop :=
 ∀ (pins:List (Addr × Obj)) (s:Shared) (σ:St) (H:Hp) (Q:Bool->Hp->Prop),Inv X pins σ H s->t σ H Q->wpAny (model X.prog X.w) X.A (isTrue e X.env (eval e X.env)) (TP X pins σ Q) X.xe s
def PW (X:Cx) (e:Expr) (t:TT):Prop :=
 ∀ (whole:Sem Value) (pins:List (Addr × Obj)) (s:Shared) (σ:St) (H:Hp) (Q:Bool->Hp->Prop),Inv X pins σ H s->t σ H Q->wpAny (model X.prog X.w) X.A (isTrue e X.env whole) (TP X pins σ Q) X.xe s
theorem PW.pt {X:Cx} {e:Expr} {t:TT} (h:PW X e t):PT X e t:=h _
def PA (X:Cx) (es:List Expr) (t:TA):Prop :=
 ∀ (pos:Pos) (pins:List (Addr × Obj)) (s:Shared) (σ:St) (H:Hp) (Q:List V->Hp->Prop),Inv X pins σ H s->t σ H Q->wpAny (model X.prog X.w) X.A (spliced (backTo pos (starEach es X.env))) (AP X pins σ Q) X.xe s
def PS (X:Cx) (st:Stmt) (t:TS):Prop :=
 ∀ (pins:List (Addr × Obj)) (s:Shared) (σ:St) (H:Hp) (D:Ends),Inv X pins σ H s->t D σ H->wpAny (model X.prog X.w) X.A (exec st X.env) (SP X pins D) X.xe s
def PSs (X:Cx) (st:List Stmt) (t:TS):Prop :=
 ∀ (pins:List (Addr × Obj)) (s:Shared) (σ:St) (H:Hp) (D:Ends),Inv X pins σ H s->t D σ H->wpAny (model X.prog X.w) X.A (execs st X.env) (SP X pins D) X.xe s
theorem thn {α:Type} {t:Sem α} {Q b : α->Shared->Prop} {M:Model} {A:Around} {E:Value->Shared->Prop} {s:Shared} (h:wpAny M A t Q E s) (c:∀ a s,Q a s->b a s):wpAny M A t b E s:=aG5 h c fun _ _ x=>x
section
variable {X:Cx}
def tVar (i:Nat):TE:=fun σ H Q=>∃ v,σ[i]?=some (some v)/\Q v H
def tC (v:V):TE:=fun _ H Q=>Q v H
theorem au7 {i:Nat} {x:Str} {d:Pos} (n:X.N[i]?=some x) (j:Vis X.env.scope x) (hd:(x == ("__debug__" : Str))=false:=by decide) (f:(x == ("__classdict__" : Str))=false:=by decide):PE X (.Name x d) (tVar i):=by
 intro pins s σ H Q I h
 obtain ⟨v,e,h⟩:=h
 obtain ⟨m,hn,o⟩:=I.loc
 obtain ⟨u,r,l⟩:=o i x v n e j
 have fin:EP X pins σ Q u s:=⟨v,H,I,r,h⟩
 rcases l with ⟨b,hm⟩ | ⟨b,c,g,a⟩
 ·exact wpAny_Name (wpAny_loadName_local I.ok.kind b hn hm fin) hd
 ·rcases b with b | b
  ·exact wpAny_Name (wpAny_loadName_cell I.ok.kind b g a fin) hd
  ·exact wpAny_Name (wpAny_loadName_free I.ok.kind b g a fin f) hd
theorem aad {i j pos}:PE X (.Constant (.int i) j pos) (tC (.int i)):=fun _ _ _ H _ I h=>wpAny_Constant_int ⟨.int i,H,I.tok _,⟨_,rfl⟩,h⟩
theorem abh {b j pos}:PE X (.Constant (.bool b) j pos) (tC (.bl b)):=fun _ _ _ H _ I h=>Constant_bool ⟨.bl b,H,I,rfl,h⟩
theorem abn {j pos}:PE X (.Constant .none j pos) (tC .non):=fun _ _ _ H _ I h=>Constant_none ⟨.non,H,I,rfl,h⟩
def Gl (X:Cx) (x:Str):Prop:=X.env.kindOf x=some .globalImplicit
theorem amf {E:Value->Shared->Prop} {pins:List (Addr × Obj)} {s:Shared} {σ:St} {H:Hp} {x:Str} {u:Value} {a:Pos} {Q:Value->Shared->Prop} (I:Inv X pins σ H s) (b:Gl X x) (hm:X.mg x=some u) (h:Q u s)
  (hd:(x == ("__debug__" : Str))=false:=by decide):wpAny (model X.prog X.w) X.A (eval (.Name x a) X.env) Q E s :=
 Calls.Name_function_global I.ok.kind b (Calls.loadGlobal_global (by rw [I.ok.glob];exact I.mod.glob.keeps I.bk) hm h) hd
theorem ad3 {E:Value->Shared->Prop} {pins:List (Addr × Obj)} {s:Shared} {σ:St} {H:Hp} {x:Str} {u:Value} {a:Pos} {Q:Value->Shared->Prop} (I:Inv X pins σ H s) (b:Gl X x) (hm:X.mg x=none) (d:bootBuiltins x=some u) (h:Q u s)
  (hn:x ≠ "__name__":=by decide) (hd:(x == ("__debug__" : Str))=false:=by decide):wpAny (model X.prog X.w) X.A (eval (.Name x a) X.env) Q E s:=by
 obtain ⟨mb,c,f⟩:=I.mod.blt
 exact Calls.Name_function_global I.ok.kind b (Calls.loadGlobal_builtin (by rw [I.ok.glob];exact I.mod.glob.keeps I.bk) hm (by rw [I.ok.blt];exact c.keeps I.bk) ((f x hn).trans d) h) hd
theorem asm {x:Str} {v:V} {u:Value} {a:Pos} (b:Gl X x) (hm:X.mg x=some u) (r:RelV v u) (hd:(x == ("__debug__" : Str))=false:=by decide):PE X (.Name x a) (tC v) :=
 fun _ _ _ H _ I h=>amf I b hm ⟨v,H,I,r,h⟩ hd
theorem aes {x:Str} {v:V} {u:Value} {a:Pos} (b:Gl X x) (hm:X.mg x=none) (c:bootBuiltins x=some u) (r:RelV v u) (hn:x ≠ "__name__":=by decide) (hd:(x == ("__debug__" : Str))=false:=by decide):PE X (.Name x a) (tC v) :=
 fun _ _ _ H _ I h=>ad3 I b hm c ⟨v,H,I,r,h⟩ hn hd
variable {a b:Expr} {ta tb:TE} {pos:Pos}
def tB (t:TE):TT:=fun σ H Q=>t σ H fun x H1=>∃ c,x=.bl c/\Q c H1
theorem adj {e:Expr} {t:TE} (h:PE X e t) (g:∀ whole,isTrue e X.env whole=(do let v ← whole;standAt e.pos;holding [v] (truthy v)):=by intro _;rfl):PT X e (tB t):=by
 intro pins s σ H Q I i
 refine isTrue_plain (thn (h pins s σ H _ I i) fun v s1 ⟨x,a,b,f,c⟩=>?_) (g _)
 obtain ⟨d,rfl,q⟩:=c
 cases f
 exact aG9 ⟨a,b,q⟩
variable {tA tB':TT} {rest:List Expr}
def tAnd (t u:TT):TT:=fun σ H Q=>t σ H fun c H1=>if c=true then u σ H1 Q else Q false H1
def tOr (t u:TT):TT:=fun σ H Q=>t σ H fun c H1=>if c=true then Q true H1 else u σ H1 Q
def tNot (t:TT):TT:=fun σ H Q=>t σ H fun c H1=>Q (!c) H1
theorem ahu (ha:PT X a tA):PW X (.BoolOp .And [a] pos) tA:=by
 intro b pins s σ H Q I h
 refine isTrue_and (thn (ha pins s σ H Q I h) fun c s1 e=>?_)
 cases c with
 | true=>exact isTrue_and_nil e
 | false=>exact e
theorem ad4 (ha:PT X a tA):PW X (.BoolOp .Or [a] pos) tA:=by
 intro b pins s σ H Q I h
 refine isTrue_or (thn (ha pins s σ H Q I h) fun c s1 e=>?_)
 cases c with
 | false=>exact isTrue_or_nil e
 | true=>exact e
theorem aj8 (ha:PT X a tA) (hb:PW X (.BoolOp .And (b :: rest) pos) tB'):PW X (.BoolOp .And (a :: b :: rest) pos) (tAnd tA tB'):=by
 intro i pins s σ H Q I h
 refine isTrue_and (thn (ha pins s σ H _ I h) fun c s1 ⟨d,f,g⟩=>?_)
 cases c with
 | true=>exact hb i pins s1 σ d Q f g
 | false=>exact ⟨d,f,g⟩
theorem adv (ha:PT X a tA) (hb:PW X (.BoolOp .Or (b :: rest) pos) tB'):PW X (.BoolOp .Or (a :: b :: rest) pos) (tOr tA tB'):=by
 intro i pins s σ H Q I h
 refine isTrue_or (thn (ha pins s σ H _ I h) fun c s1 ⟨d,f,g⟩=>?_)
 cases c with
 | true=>exact ⟨d,f,g⟩
 | false=>exact hb i pins s1 σ d Q f g
theorem adk (ha:PT X a tA):PT X (.UnaryOp .Not a pos) (tNot tA):=by
 intro pins s σ H Q I h
 exact isTrue_not (ha pins s σ H (fun c b=>Q (!c) b) I h)
def anj (ta tb:TE):TE:=fun σ H Q=>ta σ H fun x H1=>∃ c,x=.bl c/\if c=true then tb σ H1 Q else Q (.bl false) H1
def tOrV (ta tb:TE):TE:=fun σ H Q=>ta σ H fun x H1=>∃ c,x=.bl c/\if c=true then Q (.bl true) H1 else tb σ H1 Q
def ank (ta:TE):TE:=fun σ H Q=>ta σ H fun x H1=>∃ c,x=.bl c/\Q (.bl (!c)) H1
theorem ad5 {op} {t:TE} (h:PE X a t):PE X (.BoolOp op [a] pos) t:=fun pins s σ H Q I b=>BoolOp_one (h pins s σ H Q I b)
theorem adl (ha:PE X a ta) (hb:PE X (.BoolOp .And (b :: rest) pos) tb):PE X (.BoolOp .And (a :: b :: rest) pos) (anj ta tb):=by
 intro pins s σ H Q I h
 refine BoolOp_and (thn (ha pins s σ H _ I h) fun v s1 ⟨x,f,g,i,d⟩=>?_)
 obtain ⟨c,rfl,d⟩:=d
 cases i
 refine aG9 ?_
 cases c with
 | true=>exact hb pins s1 σ f Q g d
 | false=>exact ⟨.bl false,f,g,rfl,d⟩
theorem axc (ha:PE X a ta) (hb:PE X (.BoolOp .Or (b :: rest) pos) tb):PE X (.BoolOp .Or (a :: b :: rest) pos) (tOrV ta tb):=by
 intro pins s σ H Q I h
 refine BoolOp_or (thn (ha pins s σ H _ I h) fun v s1 ⟨x,f,g,i,d⟩=>?_)
 obtain ⟨c,rfl,d⟩:=d
 cases i
 refine aG9 ?_
 cases c with
 | false=>exact hb pins s1 σ f Q g d
 | true=>exact ⟨.bl true,f,g,rfl,d⟩
theorem au8 (ha:PE X a ta):PE X (.UnaryOp .Not a pos) (ank ta):=by
 intro pins s σ H Q I h
 refine UnaryOp_ (thn (ha pins s σ H _ I h) fun v s1 ⟨x,f,g,d,b⟩=>?_)
 obtain ⟨c,rfl,b⟩:=b
 cases d
 exact not_of (aG9 ⟨.bl (!c),f,g,rfl,b⟩)
end
def SqL (K:Frag) (H:Hp) (a:Addr) (xs:List V):Prop :=
 Rd H a (.lst xs) ∨
  ∃ (o:Obj) (its:Array Value) (n:Nat),K.lookup a=some o/\o.cls=.type "list"/\o.dict=none/\o.data=.seq its n/\its.size<=sizeLine/\Vals xs its.toList
def SqT (K:Frag) (H:Hp) (a:Addr) (xs:List V):Prop :=
 Rd H a (.tup xs) ∨
  ∃ (o:Obj) (its:Array Value) (n:Nat),K.lookup a=some o/\o.cls=.type "tuple"/\o.data=.seq its n/\its.size<=sizeLine/\Vals xs its.toList
def absV:Value->Option V
 | .none=>some .non
 | .bool b=>some (.bl b)
 | .int i _=>some (.int i)
 | .str x _=>some (.str x)
 | .bytes b _=>some (.byt b)
 | .float b _=>some (.flt b)
 | .ref a=>some (.ref a)
 | .type n=>some (.ty n)
 | _=>none
theorem RelV.abs {x:V} {u:Value} (r:RelV x u):absV u=some x:=by
 cases x with
 | non=>cases r;rfl
 | bl _=>cases r;rfl
 | int _=>obtain ⟨t,rfl⟩:=r;rfl
 | str _=>obtain ⟨t,rfl⟩:=r;rfl
 | byt _=>obtain ⟨t,rfl⟩:=r;rfl
 | flt _=>obtain ⟨t,rfl⟩:=r;rfl
 | ref _=>cases r;rfl
 | ty _=>cases r;rfl
theorem RelV.inj {x y:V} {u:Value} (r:RelV x u) (q:RelV y u):x=y:=aA5 (r.abs.symm.trans q.abs)
theorem Vals.inj:∀ {xs ys:List V} {us:List Value},Vals xs us->Vals ys us->xs=ys
 | _,_,_,.nil,.nil=>rfl
 | _,_,_,.cons r t,.cons r' t'=>by rw [r.inj r',Vals.inj t t']
section
variable {X:Cx} {pins:List (Addr × Obj)} {σ:St} {H:Hp} {s:Shared} {a:Addr} {xs ys:List V}
theorem SqL.of {K:Frag} (h:H a=some (.lst xs)):SqL K H a xs:=.inl (.inl h)
theorem SqT.of {K:Frag} (h:H a=some (.tup xs)):SqT K H a xs:=.inl (.inl h)
theorem Inv.list (I:Inv X pins σ H s) (h:SqL X.K H a xs):∃ its:List Value,Vals xs its/\PlainL s.heap a its.toArray/\xs.length<=sizeLine:=by
 rcases h with h | ⟨o,its,n,d,c,hd,b,hz,r⟩
 ·obtain ⟨z,its,n,r,e⟩:=h.ok I.hok
  exact ⟨its,r,⟨_,n,e,rfl,rfl,rfl⟩,z⟩
 ·refine ⟨its.toList,r,⟨o,n,I.kIn a o d,c,hd,by simpa using b⟩,?_⟩
  have e:=r.length
  simp only [Array.length_toList] at e
  omega
theorem Inv.tuple (I:Inv X pins σ H s) (h:SqT X.K H a xs):∃ its:List Value,Vals xs its/\IsTup s.heap a its.toArray/\xs.length<=sizeLine:=by
 rcases h with h | ⟨o,its,n,d,c,b,hz,r⟩
 ·obtain ⟨z,its,r,p⟩:=h.ok I.hok
  exact ⟨its,r,p,z⟩
 ·refine ⟨its.toList,r,⟨o,I.kIn a o d,c,n,by simpa using b⟩,?_⟩
  have e:=r.length
  simp only [Array.length_toList] at e
  omega
theorem Inv.list_inj (I:Inv X pins σ H s) (h:SqL X.K H a xs) (h':SqL X.K H a ys):xs=ys:=by
 obtain ⟨its,r,⟨o,n,e,_,_,d⟩,_⟩:=I.list h
 obtain ⟨its',c,⟨o',g,b,_,_,d'⟩,_⟩:=I.list h'
 rw [e] at b;cases b
 rw [d] at d'
 injection d' with f _
 have:its=its':=by simpa using congrArg Array.toList f
 subst this
 exact r.inj c
end
abbrev Cx.wish (X:Cx) (E:Value->Shared->Prop):Cx:={ X with xe:=E }
abbrev Cx.nox (X:Cx):Cx:=X.wish fun _ _=>False
theorem Cx.Ok.wish {X:Cx} (ok:X.Ok) (E:Value->Shared->Prop):(X.wish E).Ok :=
 ⟨ok.mod,ok.kind,ok.glob,ok.blt,ok.above,ok.inj,ok.has,ok.cab,ok.hd,ok.frames,ok.stk,ok.exf,ok.bs,ok.bsz,ok.noex,ok.exfs,ok.funs,ok.frf⟩
theorem Cx.Ok.unwish {X:Cx} {E:Value->Shared->Prop} (ok:(X.wish E).Ok):X.Ok :=
 ⟨ok.mod,ok.kind,ok.glob,ok.blt,ok.above,ok.inj,ok.has,ok.cab,ok.hd,ok.frames,ok.stk,ok.exf,ok.bs,ok.bsz,ok.noex,ok.exfs,ok.funs,ok.frf⟩
section
variable {X:Cx} {pins:List (Addr × Obj)} {σ:St} {H:Hp} {s:Shared} {E:Value->Shared->Prop}
theorem Inv.wish (I:Inv X pins σ H s) (E:Value->Shared->Prop):Inv (X.wish E) pins σ H s:=⟨I.ok.wish E,I.os,I.bare,I.base,I.loc,I.cell,I.free,I.freeC,I.pin,I.hok,I.len⟩
theorem Inv.unwish (I:Inv (X.wish E) pins σ H s):Inv X pins σ H s:=⟨I.ok.unwish,I.os,I.bare,I.base,I.loc,I.cell,I.free,I.freeC,I.pin,I.hok,I.len⟩
theorem SP.unwish {D:Ends} {f:Flow} {b:Shared} (h:SP (X.wish E) pins D f b):SP X pins D f b:=by
 cases f with
 | next=>obtain ⟨a,H',I,q⟩:=h;exact ⟨a,H',I.unwish,q⟩
 | brk=>obtain ⟨a,H',I,q⟩:=h;exact ⟨a,H',I.unwish,q⟩
 | cont=>obtain ⟨a,H',I,q⟩:=h;exact ⟨a,H',I.unwish,q⟩
 | ret u=>obtain ⟨v,a,H',I,r,q⟩:=h;exact ⟨v,a,H',I.unwish,r,q⟩
theorem PSs.nox {st:List Stmt} {t:TS} (h:PSs X.nox st t):PSs X st t:=fun pins s σ H D I a =>
 aG5 (h pins s σ H D (I.wish _) a) (fun _ _ q=>q.unwish) fun _ _ z=>False.elim z
end
section
variable {X:Cx} {st:Stmt} {rest:List Stmt} {t u:TS} {e:Expr} {te:TE} {pos:Pos}
def anl:TS:=fun D σ H=>D.nx σ H
def tSeq (t u:TS):TS:=fun D σ H=>t { D with nx:=u D } σ H
theorem aaz:PSs X [] anl:=fun _ _ σ H _ I h=>wpAny_execs_nil ⟨σ,H,I,h⟩
theorem aac (d:PS X st t) (b:PSs X rest u):PSs X (st :: rest) (tSeq t u):=by
 intro pins s σ H D I h
 refine wpAny_execs_cons (thn (d pins s σ H { D with nx:=u D } I h) fun f s1 q=>?_)
 cases f with
 | next =>
  obtain ⟨a,H',c,q⟩:=q
  exact b pins s1 a H' D c q
 | ret v=>exact q
 | brk=>exact q
 | cont=>exact q
theorem aaf (a:PS X st t):PSs X [st] t:=by
 intro pins s σ H D I h
 refine wpAny_execs_cons (thn (a pins s σ H D I h) fun f s1 q=>?_)
 cases f with
 | next=>exact wpAny_execs_nil q
 | ret v=>exact q
 | brk=>exact q
 | cont=>exact q
theorem Inv.quiet {pins:List (Addr × Obj)} {σ:St} {H:Hp} {s:Shared} (I:Inv X pins σ H s):interactive X.env=false:=by simp [interactive,I.ok.kind]
def anm (te:TE):TS:=fun D σ H=>te σ H fun _ H1=>D.nx σ H1
theorem abr (c:PE X e te) (b:swapsWith e none pos.line X.env=pure false:=by rfl):PS X (.Expr e pos) (anm te):=by
 intro pins s σ H D I h
 exact wpAny_Expr_any (thn (c pins s σ H _ I h) fun v s1 ⟨x,a,d,g,f⟩=>⟨σ,a,d,f⟩) I.quiet b
def tRet (te:TE):TS:=fun D σ H=>te σ H D.rt
theorem aas (c:PE X e te):PS X (.Return (some e) pos) (tRet te):=by
 intro pins s σ H D I h
 exact wpAny_Return_some (thn (c pins s σ H _ I h) fun v s1 ⟨x,b,d,a,f⟩=>⟨x,σ,b,d,a,f⟩)
def tIfS (c:TT) (t u:TS):TS:=fun D σ H=>c σ H fun b H1=>if b=true then t D σ H1 else u D σ H1
theorem aa5 {c:Expr} {a b:List Stmt} {i:TT} (l:PT X c i) (ha:PSs X a t) (hb:PSs X b u):PS X (.If c a b pos) (tIfS i t u):=by
 intro pins s σ H D I h
 refine wpAny_If (thn (l pins s σ H _ I h) fun d s1 ⟨f,g,j⟩=>?_)
 cases d with
 | true=>exact ha pins s1 σ f D g j
 | false=>exact hb pins s1 σ f D g j
def au9:TS:=fun _ _ _=>False
theorem ap5:PS X st au9:=fun _ _ _ _ _ _ h=>h.elim
end
abbrev TG:=V->St->Hp->(St->Hp->Prop)->Prop
abbrev TGs:=List V->St->Hp->(St->Hp->Prop)->Prop
def PG (X:Cx) (target:Expr) (t:TG):Prop :=
 ∀ (pins:List (Addr × Obj)) (s:Shared) (σ:St) (H:Hp) (v:V) (u:Value) (Q:St->Hp->Prop),Inv X pins σ H s->RelV v u->t v σ H Q ->
  wpAny (model X.prog X.w) X.A (assign target X.env u) (fun _ s'=>∃ σ' H',Inv X pins σ' H' s'/\Q σ' H') X.xe s
def PGs (X:Cx) (ts:List Expr) (t:TGs):Prop :=
 ∀ (pins:List (Addr × Obj)) (s:Shared) (σ:St) (H:Hp) (vs:List V) (us:List Value) (Q:St->Hp->Prop),Inv X pins σ H s->Vals vs us->t vs σ H Q ->
  wpAny (model X.prog X.w) X.A (assignInOrder ((assignEach ts X.env).map (·.2)) us) (fun _ s'=>∃ σ' H',Inv X pins σ' H' s'/\Q σ' H') X.xe s
abbrev TSet:=V->V->V->Hp->(Hp->Prop)->Prop
def PSet (X:Cx) (t:TSet):Prop :=
 ∀ (pins:List (Addr × Obj)) (s:Shared) (σ:St) (H:Hp) (o i v:V) (ov iv u:Value) (Q:Hp->Prop),Inv X pins σ H s->RelV o ov->RelV i iv->RelV v u->t o i v H Q ->
  wpAny (model X.prog X.w) X.A (setItem ov iv u) (fun _ s'=>∃ H',Inv X pins σ H' s'/\Q H') X.xe s
section
variable {X:Cx} {pos:Pos}
def aa6 (i:Nat):TG:=fun v σ H Q=>Q (σ.set i (some v)) H
theorem aap {i:Nat} {x:Str} (c:X.N.Nodup) (hi:X.N[i]?=some x) (b:Loc X.env.scope x) (hf:X.fn x=true\/X.env.scope.names.lookup x=some .local:=by first | exact .inl rfl | exact .inr rfl | assumption):PG X (.Name x pos) (aa6 i):=by
 intro pins s σ H v u Q I r h
 exact wpAny_assign_Name (aj7 I c hi b r (fun d a=>⟨_,H,a,h⟩) hf)
def gNil:TGs:=fun vs σ H Q=>vs=[]/\Q σ H
def af1 (t:TG) (u:TGs):TGs:=fun vs σ H Q=>∃ v r,vs=v :: r/\t v σ H fun σ' H'=>u r σ' H' Q
theorem ac7:PGs X [] gNil:=by
 intro pins s σ H vs us Q I r h
 obtain ⟨e,h⟩:=h
 subst e
 cases r
 exact assignInOrder_nil ⟨σ,H,I,h⟩
theorem aa8 {e:Expr} {es:List Expr} {t:TG} {u:TGs} (c:PG X e t) (g:PGs X es u)
  (i:(assignEach (e :: es) X.env).map (·.2)=assign e X.env :: (assignEach es X.env).map (·.2):=by rfl):PGs X (e :: es) (af1 t u):=by
 intro pins s σ H vs us Q I r h
 obtain ⟨v,l,j,h⟩:=h
 subst j
 cases r with
 | cons r rr =>
  rw [i]
  refine assignInOrder_cons (thn (c pins s σ H _ _ _ I r h) fun _ s1 ⟨a,b,d,f⟩=>?_)
  exact g pins s1 a b _ _ Q d rr f
def gTup (K:Frag) (n:Nat) (t:TGs):TG:=fun v σ H Q=>∃ a xs,v=.ref a/\SqT K H a xs/\xs.length=n/\t xs σ H Q
theorem aet {es:List Expr} {k:Nat} {t:TGs} {n:Nat} (j:X.calm=true) (h:PGs X es t)
  (hn:(assignEach es X.env).length=n:=by rfl) (c:(assignEach es X.env).findIdx? (·.1)=none:=by rfl):PG X (.Tuple es k pos) (gTup X.K n t):=by
 intro pins s σ H v u Q I r d
 obtain ⟨a,xs,q,l,p,d⟩:=d
 subst q
 cases r
 obtain ⟨its,f,g,hz⟩:=I.tuple l
 refine assign_Tuple_tuple (I.ok.hd j) g (by simp [hn,← p,f.length]) c fun h' m=>?_
 have i:Inv X pins σ H { s with heap:=h' }:=I.kept (t':=s.toks) fun b o e=>m b o (az5 (aG1 e)) e
 exact h pins _ σ H xs _ Q i (by simpa using f) d
def gSub (to ti:TE) (t:TSet):TG:=fun v σ H Q=>to σ H fun o H1=>ti σ H1 fun i H2=>t o i v H2 fun H3=>Q σ H3
theorem aff {o i:Expr} {to c:TE} {t:TSet} (l:PE X o to) (hi:PE X i c) (w:PSet X t)
  (ha:∀ v,assign (.Subscript o i pos) X.env v=(do
   let a ← holding [v] (eval o X.env)
   let b ← holding [v,a] (eval i X.env)
   standAt pos
   holding [v,a,b] (setItem a b v)
   release [v,a,b] []):=by intro _;rfl):PG X (.Subscript o i pos) (gSub to c t):=by
 intro pins s σ H v u Q I r h
 rw [ha]
 refine aF8 (aG3 (thn (l pins s σ H _ I h) fun a s1 ⟨x,d,j,q,p⟩=>?_))
 refine aF8 (aG3 (thn (hi pins s1 σ d _ j p) fun b s2 ⟨y,H2,g,f,m⟩=>?_))
 refine aF8 (wpAny_standAt (aF8 (aG3 (thn (w pins s2 σ H2 x y v a b u _ g q f r m) fun _ A ⟨H3,n,z⟩=>?_))))
 exact wpAny_release ⟨σ,H3,n,z⟩
def tAsg (te:TE) (g:TG):TS:=fun D σ H=>te σ H fun x H1=>g x σ H1 D.nx
theorem acl {tg e:Expr} {te:TE} {g:TG} (l:PE X e te) (a:PG X tg g) (j:swapsWithSole [tg] e pos.line X.env=pure false:=by rfl) (m:swappedStores [tg] e X.env=pure none:=by rfl)
  (c:(assignEach [tg] X.env).map (·.2)=[assign tg X.env]:=by rfl):PS X (.Assign [tg] e pos) (tAsg te g):=by
 intro pins s σ H D I h
 refine wpAny_Assign_stores (thn (l pins s σ H _ I h) fun v s1 ⟨x,b,d,i,f⟩=>?_) j m
 rw [c]
 exact thn (a pins s1 σ b x v _ d i f) fun _ s2 q=>q
theorem aar {i:Nat} {x:Str} {e:Expr} {te:TE} {a:Pos} (g:X.N.Nodup) (hi:X.N[i]?=some x) (n:Loc X.env.scope x) (m:PE X e te) (l:swapsWith e (some (.Name x a)) pos.line X.env=pure false:=by rfl) (hf:X.fn x=true\/X.env.scope.names.lookup x=some .local:=by first | exact .inl rfl | exact .inr rfl | assumption) :
  PS X (.Assign [.Name x a] e pos) (tAsg te (aa6 i)):=by
 intro pins s σ H D I h
 refine wpAny_Assign_Name (thn (m pins s σ H _ I h) fun v s1 ⟨y,b,d,j,f⟩=>?_) l
 exact aj7 d g hi n j (fun s2 c=>⟨_,b,c,f⟩) hf
end
section
variable {X:Cx} {pos:Pos}
def aol (c:TT) (tb:TS):TS:=fun D σ H=>∃ W:Nat->St->Hp->Prop,(∃ m,W m σ H)/\∀ m σ H,W m σ H ->
 c σ H fun b H1=>if b=true then ∃ N:St->Hp->Prop,(∀ σ' H',N σ' H'->∃ m',m' < m/\W m' σ' H')/\tb { D with nx:=N,ct:=N,bk:=D.nx } σ H1 else D.nx σ H1
theorem aj9 {c:Expr} {body:List Stmt} {x:TT} {y:TS} (z:PassesOwn (model X.prog X.w) X.A X.env X.xe) (F:PT X c x) (hb:PSs X body y):PS X (.While c body [] pos) (aol x y):=by
 intro pins s σ H D I h
 obtain ⟨W,⟨G,J⟩,g⟩:=h
 refine wpAny_While (codeAny_whileLoop (fun n E=>∃ i H',Inv X pins i H' E/\W n i H') ?_ G ⟨σ,H,I,J⟩)
 rintro n s1 ⟨d,r,C,K⟩
 refine wpAny_passesOwn z (thn (F pins s1 d r _ C (g n d r K)) fun b s2 ⟨H2,u,j⟩=>?_)
 cases b with
 | true =>
  obtain ⟨N,B,j⟩:=j
  rw [aC5 rfl]
  refine wpAny_passesOwn z (thn (hb pins s2 d H2 _ u j) fun f L l=>?_)
  cases f with
  | next =>
   obtain ⟨a,H3,m,q⟩:=l
   obtain ⟨p,hm,o⟩:=B a H3 q
   exact ⟨p,hm,a,H3,m,o⟩
  | cont =>
   obtain ⟨a,H3,m,q⟩:=l
   obtain ⟨p,hm,o⟩:=B a H3 q
   exact ⟨p,hm,a,H3,m,o⟩
  | brk=>exact l
  | ret v=>exact l
 | false =>
  rw [aC6 ay9]
  exact wpAny_execs_nil ⟨d,H2,u,j⟩
end
structure It where
 go:Nat->Hp->Prop
 yld:Nat->Hp->V->Hp->Prop
 stop:Nat->Hp->Prop
def FpOk (X:Cx) (pins:List (Addr × Obj)) (H:Hp) (b:Addr):Prop :=
 H b=none/\b ≠ X.env.locals/\b ∉ X.fs/\(b∈X.ex\/X.s₀.heap.objs.size<=b)/\(∀ x c,X.env.cells.lookup x=some c->c ≠ b)/\∀ p∈X.pn ++ pins,p.1 ≠ b
theorem Inv.fpOk {X:Cx} {pins:List (Addr × Obj)} {σ:St} {H H':Hp} {s:Shared} {b:Addr} (I:Inv X pins σ H s) (hb:s.heap.objs.size<=b) (hn:H' b=none):FpOk X pins H' b:=by
 refine ⟨hn,Nat.ne_of_gt (aA4 I.lt hb),I.nofs hb,.inr (aA9 I.sz hb),fun x c e z=>?_,fun p a z=>?_⟩
 ·obtain ⟨v,q⟩:=I.cell x c e
  exact absurd (aA4 q.lt (by rw [z];exact hb)) (aD4 _)
 ·exact absurd (aA4 (aG1 (I.pin p a).1) (by rw [z];exact hb)) (aD4 _)
structure Turn (P:Program) (w:World) (K:Frag) (tg:Expr) (J:It) (fp:List Addr) (it:Addr) (tn:Nat->Heap->Prop):Prop where
 mem:it∈fp
 obj:∀ i h,tn i h->∀ b∈fp,∃ o,h.get? b=some o/\∀ v,o.data ≠ .cell v
 keep:∀ i h h',tn i h->(∀ b∈fp,∀ o,h.get? b=some o->h'.get? b=some o)->tn i h'
 item:∀ (X:Cx),X.prog=P->X.w=w->X.K=K->X.calm=true->∀ (i:Nat) (pins:List (Addr × Obj)) (s:Shared) (σ:St) (H:Hp) (E:Value->Shared->Prop),Inv X pins σ H s->(∀ b∈fp,FpOk X pins H b)->tn i s.heap->J.go i H ->
  wpAny (model P w) X.A (pyNext (.ref it)) (fun r s1=>∃ u,r=some u /\
   wpAny (model P w) X.A (letOwnedTupleGo tg (.ref it) u) (fun _ s2=>∃ x H',Inv X pins σ H' s2/\RelV x u/\J.yld i H x H'/\tn (i+1) s2.heap/\∀ b∈fp,H' b=none) E s1) E s
 done:∀ (X:Cx),X.prog=P->X.w=w->X.K=K->X.calm=true->∀ (i:Nat) (pins:List (Addr × Obj)) (s:Shared) (σ:St) (H:Hp) (E:Value->Shared->Prop),Inv X pins σ H s->(∀ b∈fp,FpOk X pins H b)->tn i s.heap->J.stop i H ->
  wpAny (model P w) X.A (pyNext (.ref it)) (fun r s1=>r=none/\Inv X pins σ H s1) E s
 self:∀ (A:Around) (i:Nat) (s:Shared) (Q:Value->Shared->Prop) (E:Value->Shared->Prop),tn i s.heap->Q (.ref it) s->wpAny (model P w) A (pyIter (.ref it)) Q E s
abbrev TI:=St->Hp->(It->Hp->Prop)->Prop
def PIE (X:Cx) (pins:List (Addr × Obj)) (σ:St) (tg:Expr) (R:It->Hp->Prop) (itv:Value) (s2:Shared):Prop :=
 ∃ (it:Addr) (fp:List Addr) (tn:Nat->Heap->Prop) (J:It) (H':Hp),itv=.ref it/\Inv X pins σ H' s2/\Turn X.prog X.w X.K tg J fp it tn/\tn 0 s2.heap/\(∀ b∈fp,FpOk X pins H' b)/\R J H'
def PI (X:Cx) (tg iter:Expr) (wi:TI):Prop :=
 ∀ (pins:List (Addr × Obj)) (s:Shared) (σ:St) (H:Hp) (R:It->Hp->Prop),Inv X pins σ H s->wi σ H R ->
  wpAny (model X.prog X.w) X.A (eval iter X.env) (fun v s1=>wpAny (model X.prog X.w) X.A (pyIter v) (PIE X pins σ tg R) X.xe s1) X.xe s
theorem ar1 {M:Model} {A:Around} {E:Value->Shared->Prop} {s:Shared} {tg:Expr} {it:Addr} {u:Value} {o:Obj} {n:String} {vs:Array Value} {Q:Unit->Shared->Prop} (c:s.heap.get? it=some o) (b:o.cls=.type n) (hd:o.data=.fields vs)
  (hn:["enumerate","zip","dict_itemiterator","dict_reverseitemiterator","odict_iterator","itertools.zip_longest","itertools.pairwise"].contains n=false) (a:Q () s):wpAny M A (letOwnedTupleGo tg (.ref it) u) Q E s:=by
 unfold letOwnedTupleGo
 cases tg <;> first
  | exact aF9 a
  | (cases u <;> first
    | exact aF9 a
    | (refine aF8 (wpAny_load c ?_)
       rw [b,hd]
       show wpAny M A (if (["enumerate","zip","dict_itemiterator","dict_reverseitemiterator","odict_iterator","itertools.zip_longest","itertools.pairwise"].contains n && vs[0]? == some (rawInt _))=true then _ else _) Q E s
       rw [aC6 (by intro h;rw [hn,Bool.false_and] at h;cases h)]
       exact aF9 a))
def Itl (K:Frag) (a:Addr):It :=
 ⟨fun i H=>∃ xs x,SqL K H a xs/\xs[i]?=some x,fun i H x H'=>H'=H/\∀ xs,SqL K H a xs->xs[i]?=some x,fun i H=>∃ xs,SqL K H a xs/\xs.length<=i⟩
def Itr (lo:Int) (n:Nat):It:=⟨fun i _=>i < n,fun i H x H'=>H'=H/\x=.int (lo+i),fun i _=>n<=i⟩
theorem aom {P:Program} {w:World} {K:Frag} {tg:Expr} (a it:Addr):Turn P w K tg (Itl K a) [it] it (fun i h=>h.IsListIter it a i) where
 mem:=by simp
 obj:=fun i h st b hb=>by
  have e:b=it:=by simpa using hb
  subst e
  obtain ⟨o,e,c,d⟩:=st
  exact ⟨o,e,fun v z=>by rw [d] at z;cases z⟩
 keep:=fun i h h' st k=>st.at fun o e=>k it (by simp) o e
 item:=by
  intro X m C l D i pins s σ H E I hf st g
  subst m C l
  obtain ⟨xs,x,f,A⟩:=g
  obtain ⟨its,y,p,hz⟩:=I.list f
  obtain ⟨u,M,N⟩:=y.get A
  obtain ⟨r,B,G,j,q,n⟩:=hf it (by simp)
  refine wpAny_pyNext_list_item st p.isList (x:=u) (by simpa using M) fun h' st' sb=>?_
  have F:Inv X pins σ H { s with heap:=h' }:=I.turned (t':=s.toks) (fun b o hb e=>(sb.2 b hb).trans e) r B j q n
  obtain ⟨o,e,c,d⟩:=id st'
  exact ⟨u,rfl,ar1 (s:={ s with heap:=h' }) e c d (by decide) ⟨x,H,F,N,⟨rfl,fun ys J=>by rw [I.list_inj J f];exact A⟩,st',fun b hb=>(hf b hb).1⟩⟩
 done:=by
  intro X m C l D i pins s σ H E I hf st g
  subst m C l
  obtain ⟨xs,f,A⟩:=g
  obtain ⟨its,y,p,hz⟩:=I.list f
  obtain ⟨r,B,G,j,q,n⟩:=hf it (by simp)
  have O:=y.length
  exact wpAny_pyNext_list_end (I.ok.hd D) st p.isList (by simp;omega) fun h' L=>⟨rfl,I.turned (t':=s.toks) (fun b o hb e=>L b o hb e) r B j q n⟩
 self:=fun _ _ _ _ _ st h=>wpAny_pyIter_listiter st h
theorem ann {P:Program} {w:World} {K:Frag} {tg:Expr} (it:Addr) (lo:Int) (n:Nat):Turn P w K tg (Itr lo n) [it] it (fun i h=>IsRangeIter h it (lo+(i:Nat) * 1) ((n:Int) - (i:Nat)) 1) where
 mem:=by simp
 obj:=fun i h st b hb=>by
  have e:b=it:=by simpa using hb
  subst e
  exact ⟨_,st,fun v z=>by
   have C:Data.fields _=Data.cell v:=z
   cases C⟩
 keep:=fun i h h' st k=>k it (by simp) _ st
 item:=by
  intro X f q d j i pins s σ H E I hf st a
  subst f q d
  obtain ⟨m,p,x,c,l,g⟩:=hf it (by simp)
  have W:=Walks.range (prog:=X.prog) (w:=X.w) (I.ok.hd j) it lo 1 n
  refine W.item i s _ _ a st fun v h' r y st' B=>?_
  obtain ⟨t,rfl⟩:=y
  have u:Inv X pins σ H { s with heap:=h',toks:=r }:=I.turned (fun b o hb e=>B b o (by simpa using hb) e) m p c l g
  refine ⟨_,rfl,ar1 (s:={ s with heap:=h',toks:=r }) (n:="range_iterator") st' rfl rfl (by decide) ⟨.int (lo+i),H,u,⟨t,?_⟩,⟨rfl,rfl⟩,st',fun b hb=>(hf b hb).1⟩⟩
  rw [Int.mul_one]
 done:=by
  intro X f q d j i pins s σ H E I hf st a
  subst f q d
  obtain ⟨m,p,x,c,l,g⟩:=hf it (by simp)
  exact wpAny_pyNext_range_end (I.ok.hd j) st (by have:n<=i:=a;omega) fun h' A=>⟨rfl,I.turned (t':=s.toks) (fun b o hb e=>A b o hb e) m p c l g⟩
 self:=fun _ _ _ _ _ st h=>wpAny_pyIter_rangeiter st h
section
variable {X:Cx} {tg:Expr}
def ar2 (K:Frag) (tl:TE):TI:=fun σ H R=>tl σ H fun x H1=>∃ a,x=.ref a/\(∃ xs,SqL K H1 a xs)/\R (Itl K a) H1
theorem abw {l:Expr} {tl:TE} (j:PE X l tl):PI X tg l (ar2 X.K tl):=by
 intro pins s σ H R I h
 refine thn (j pins s σ H _ I h) fun v s1 ⟨x,d,c,g,f⟩=>?_
 obtain ⟨a,e,⟨xs,i⟩,q⟩:=f
 subst e
 cases g
 obtain ⟨its,m,p,hz⟩:=c.list i
 refine aH0 p.isList ?_
 refine ⟨s1.heap.objs.size,[s1.heap.objs.size],_,_,d,rfl,c.kept (t':=s1.toks) fun b o e=>aG0 _ e,aom a _,⟨_,aG2 _ rfl,rfl,rfl⟩,fun b hb=>?_,q⟩
 have e:b=s1.heap.objs.size:=by simpa using hb
 subst e
 exact c.fpOk (ay6 _) (c.hok.fresh (ay6 _))
theorem aka {pins:List (Addr × Obj)} {σ:St} {H:Hp} {s:Shared} {R:It->Hp->Prop} {E:Value->Shared->Prop} {lo hi:Int} {t u v:Tok} {a:Nat} (I:Inv X pins σ H s) (d : -(2 ^ 62)<=lo) (h:lo < 2 ^ 62) (i : -(2 ^ 62)<=hi) (f:hi < 2 ^ 62)
  (q:R (Itr lo (hi - lo).toNat) H):wpAny (model X.prog X.w) X.A (pyIter (.ref s.heap.objs.size)) (PIE X pins σ tg R) E { s with heap:=s.heap.push { cls:=.type "range",data:=.fields #[.int lo t,.int hi u,.int 1 v] },toks:=a }:=by
 refine wpAny_pyIter_range (IsRange.new ..) (small_one d h i f) ?_
 have c:Inv X pins σ H { s with heap:=s.heap.push { cls:=.type "range",data:=.fields #[.int lo t,.int hi u,.int 1 v] },toks:=a }:=I.kept fun b o e=>aG0 _ e
 refine ⟨(s.heap.push { cls:=.type "range",data:=.fields #[.int lo t,.int hi u,.int 1 v] }).objs.size,[(s.heap.push { cls:=.type "range",data:=.fields #[.int lo t,.int hi u,.int 1 v] }).objs.size],_,_,H,rfl,
  c.kept (t':=a) fun b o e=>aG0 _ e,ann _ lo (hi - lo).toNat,?_,fun b hb=>?_,q⟩
 ·have j:lo+((0:Nat):Int) * 1=lo:=by simp
  have g:(((hi - lo).toNat:Nat):Int) - ((0:Nat):Int)=Builtin.Range.rangeSize lo hi 1:=by rw [rangeSize_one];split <;> omega
  show IsRangeIter _ _ (lo+((0:Nat):Int) * 1) ((((hi - lo).toNat:Nat):Int) - ((0:Nat):Int)) 1
  rw [j,g]
  exact aG2 _ rfl
 ·have e:b=(s.heap.push { cls:=.type "range",data:=.fields #[.int lo t,.int hi u,.int 1 v] }).objs.size:=by simpa using hb
  subst e
  exact c.fpOk (ay6 _) (c.hok.fresh (ay6 _))
def ano (ta:TA):TI:=fun σ H R=>ta σ H fun vs H1=>∃ j:Int,vs=[.int j]/\-(2 ^ 62)<=j/\j < 2 ^ 62/\R (Itr 0 j.toNat) H1
def ar3 (ta:TA):TI:=fun σ H R=>ta σ H fun vs H1=>∃ i j:Int,vs=[.int i,.int j]/\(-(2 ^ 62)<=i/\i < 2 ^ 62/\-(2 ^ 62)<=j/\j < 2 ^ 62)/\R (Itr i (j - i).toNat) H1
theorem abj {a:Expr} {d:TA} {p b:Pos} (f:Gl X "range") (hm:X.mg "range" = none) (ha:PA X [a] d) (m:starEach [a] X.env=[(false,eval a X.env)]:=by rfl):PI X tg (.Call (.Name "range" p) [a] [] b) (ano d):=by
 intro pins s σ H R I h
 refine Call_ (ad3 I f hm boot_range (PyProof.Rows.callWith_type1 (thn (ha b pins s σ H _ I h) fun us s1 ⟨vs,n,g,l,c⟩=>?_) m rfl))
 obtain ⟨j,e,c,i,q⟩:=c
 subst e
 cases l with
 | cons r rr =>
  cases rr
  obtain ⟨t,rfl⟩:=r
  exact call_range_1 (aka g (by omega) (by omega) c i (by simpa using q))
theorem aeg {a b:Expr} {g:TA} {p c:Pos} (l:Gl X "range") (hm:X.mg "range" = none) (ha:PA X [a,b] g) (v:starEach [a,b] X.env=[(false,eval a X.env),(false,eval b X.env)]:=by rfl) (d:starEach [b] X.env=[(false,eval b X.env)]:=by rfl) :
  PI X tg (.Call (.Name "range" p) [a,b] [] c) (ar3 g):=by
 intro pins s σ H R I h
 refine Call_ (ad3 I l hm boot_range (PyProof.Rows.callWith_type1 (thn (ha c pins s σ H _ I h) fun us s1 ⟨vs,x,m,u,f⟩=>?_) (by rw [v,d]) (by rw [d];rfl)))
 obtain ⟨i,j,e,⟨f,n,w,o⟩,q⟩:=f
 subst e
 cases u with
 | cons r rr =>
  cases rr with
  | cons r' rr =>
   cases rr
   obtain ⟨t,rfl⟩:=r
   obtain ⟨t',rfl⟩:=r'
   exact call_range_2 (aka m f n w o q)
def tFor (wi:TI) (g:TG) (tb:TS):TS:=fun D σ H=>wi σ H fun J H1=>∃ W:Nat->Nat->St->Hp->Prop,(∃ m,W 0 m σ H1)/\∀ i m σ H,W i m σ H ->
 (J.stop i H/\D.nx σ H)\/(J.go i H/\∃ N:St->Hp->Prop,(∀ σ' H',N σ' H'->∃ m',m' < m/\W (i+1) m' σ' H')/\∀ x H',J.yld i H x H'->g x σ H' fun σ2 H2=>tb { D with nx:=N,ct:=N,bk:=D.nx } σ2 H2)
def afg (fp:List Addr) (h:Heap):List (Addr × Obj):=fp.filterMap fun b=>(h.get? b).map fun o=>(b,o)
theorem adw {fp:List Addr} {h:Heap} {b:Addr} {o:Obj} (hb:b∈fp) (e:h.get? b=some o):(b,o)∈afg fp h:=List.mem_filterMap.mpr ⟨b,hb,by rw [e];rfl⟩
theorem aon {fp:List Addr} {h:Heap} {p:Addr × Obj} (c:p∈afg fp h):p.1∈fp/\h.get? p.1=some p.2:=by
 obtain ⟨b,hb,e⟩:=List.mem_filterMap.mp c
 cases q:h.get? b with
 | none=>rw [q] at e;cases e
 | some o =>
  rw [q] at e
  have a:(b,o)=p:=aA5 e
  subst a
  exact ⟨hb,q⟩
theorem Inv.pinned {pins:List (Addr × Obj)} {σ:St} {H:Hp} {s:Shared} {fp:List Addr} (I:Inv X pins σ H s) (hf:∀ b∈fp,FpOk X pins H b) (c:∀ b∈fp,∃ o,s.heap.get? b=some o/\∀ v,o.data ≠ .cell v):Inv X (pins ++ afg fp s.heap) σ H s :=
 I.pins_of fun p g=>(ay7.mp g).elim (fun z=>I.pin p (az2 _ z)) fun z=>by
  obtain ⟨hb,e⟩:=aon z
  obtain ⟨h,i,f,_⟩:=hf p.1 hb
  obtain ⟨o,a,d⟩:=c p.1 hb
  rw [e] at a;cases a
  exact ⟨e,h,i,f,d⟩
theorem Inv.unpinned {pins b:List (Addr × Obj)} {σ:St} {H:Hp} {s:Shared} (I:Inv X (pins ++ b) σ H s):Inv X pins σ H s:=I.pins_of fun p a=>I.pin p (az2 _ (aA6 _ a))
theorem abo {l:Expr} {body:List Stmt} {Y:TI} {g:TG} {tb:TS} {Q:Pos} (K:PassesOwn (model X.prog X.w) X.A X.env X.xe) (hc:X.calm=true) (hi:PI X tg l Y) (hg:PG X tg g) (hb:PSs X body tb)
  (hs:∀ x,foldedSetIterable l X.env x=pure x:=by intro _;rfl):PS X (.For tg l body [] Q) (tFor Y g tb):=by
 intro pins s σ H D I h
 refine wpAny_For (thn (hi pins s σ H _ I h) fun v s1 h1=>thn h1 fun a0 s2 h2=>?_) hs
 obtain ⟨it,fp,tn,J,H2,e,I2,T,O,f2,W,⟨m0,w0⟩,L⟩:=h2
 subst e
 -- what stays true of the iterator's objects through the loop
 have q:∀ {H':Hp},(∀ b∈fp,H' b=none)->∀ b∈fp,FpOk X pins H' b:=fun hn b hb=>⟨hn b hb,(f2 b hb).2⟩
 refine codeAny_forLoop_any (fun n s'=>∃ i y H',Inv X pins y H' s'/\tn i s'.heap/\(∀ b∈fp,H' b=none)/\W i n y H') ?_ m0 ⟨0,σ,H2,I2,O,fun b hb=>(f2 b hb).1,w0⟩
 rintro n s3 ⟨i,j,H3,I3,G,E,w3⟩
 rcases L i n j H3 w3 with ⟨stop,qn⟩ | ⟨go,N,hN,step⟩
 ·refine wpAny_passesOwn K (thn (T.done X rfl rfl rfl hc i pins s3 j H3 X.xe I3 (q E) G stop) fun r s4 ⟨P,I4⟩=>?_)
  subst P
  exact wpAny_execs_nil ⟨j,H3,I4,qn⟩
 ·refine wpAny_passesOwn K (thn (T.item X rfl rfl rfl hc i pins s3 j H3 X.xe I3 (q E) G go) fun r s4 ⟨u,P,h4⟩=>?_)
  subst P
  refine wpAny_passesOwn K (thn h4 fun _ s5 ⟨x,Z,I5,r5,y5,C,U⟩=>?_)
  have R:=I5.pinned (q U) (T.obj _ _ C)
  refine wpAny_passesOwn K (thn (hg _ s5 j Z x u _ R r5 (step x Z y5)) fun _ s6 ⟨M,H6,I6,q6⟩=>?_)
  refine wpAny_passesOwn K (thn (hb _ s6 M H6 _ I6 q6) fun f S B=>?_)
  have c:∀ {a:St} {p:Hp},Inv X (pins ++ afg fp s5.heap) a p S->N a p->∃ m,m < n/\∃ i y H',Inv X pins y H' S/\tn i S.heap/\(∀ b∈fp,H' b=none)/\W i m y H':=fun {a p} z F=>by
   obtain ⟨m',hm,w7⟩:=hN a p F
   refine ⟨m',hm,i+1,a,p,z.unpinned,T.keep _ _ _ C fun b hb o e=>(z.pin (b,o) (az2 _ (az2 _ (adw hb e)))).1,fun b hb=>?_,w7⟩
   obtain ⟨o,e,d⟩:=T.obj _ _ C b hb
   exact (z.pin (b,o) (az2 _ (az2 _ (adw hb e)))).2.1
  cases f with
  | next=>obtain ⟨a,p,z,F⟩:=B;exact c z F
  | cont=>obtain ⟨a,p,z,F⟩:=B;exact c z F
  | brk=>obtain ⟨a,p,z,B⟩:=B;exact ⟨a,p,z.unpinned,B⟩
  | ret v=>obtain ⟨x7,a,p,z,r7,B⟩:=B;exact ⟨x7,a,p,z.unpinned,r7,B⟩
end
theorem aoo {lo:Int} {n:Nat} {g:TG} {d:TS} {D:Ends} {σ:St} {H:Hp} (a:Nat->St->Hp->Prop) (l:a 0 σ H)
  (j:∀ i σ H,i < n->a i σ H->g (.int (lo+i)) σ H fun b H2=>d { D with nx:=a (i+1),ct:=a (i+1),bk:=D.nx } b H2) (hd:∀ σ H,a n σ H->D.nx σ H) :
  ∃ W:Nat->Nat->St->Hp->Prop,(∃ m,W 0 m σ H)/\∀ i m σ H,W i m σ H ->
   ((Itr lo n).stop i H/\D.nx σ H)\/((Itr lo n).go i H/\∃ N:St->Hp->Prop,(∀ c H',N c H'->∃ f,f < m/\W (i+1) f c H')/\∀ x H',(Itr lo n).yld i H x H'->g x σ H' fun b H2=>d { D with nx:=N,ct:=N,bk:=D.nx } b H2):=by
 refine ⟨fun i m σ H=>m=n - i/\i<=n/\a i σ H,⟨n,by simp,aD0 _,l⟩,?_⟩
 rintro i m σ H ⟨rfl,hi,p⟩
 by_cases hlt:i < n
 ·refine .inr ⟨hlt,a (i+1),fun c H' h=>⟨n - (i+1),by omega,rfl,hlt,h⟩,fun x H' y=>?_⟩
  obtain ⟨e,y⟩:=y
  subst e y
  exact j i σ _ hlt p
 ·have e:i=n:=by omega
  subst e
  exact .inl ⟨ay6 _,hd σ H p⟩
abbrev R2:=V->V->Hp->VK->Prop
def OpR (X:Cx) (f:Value->Value->Sem Value) (r:R2):Prop :=
 ∀ (pins:List (Addr × Obj)) (s:Shared) (σ:St) (H:Hp) (x y:V) (v u:Value) (Q:VK),Inv X pins σ H s->RelV x v->RelV y u->r x y H Q ->
  wpAny (model X.prog X.w) X.A (f v u) (EP X pins σ Q) X.xe s
def UnR (X:Cx) (f:Value->Sem Value) (r:V->Hp->VK->Prop):Prop :=
 ∀ (pins:List (Addr × Obj)) (s:Shared) (σ:St) (H:Hp) (x:V) (v:Value) (Q:VK),Inv X pins σ H s->RelV x v->r x H Q ->
  wpAny (model X.prog X.w) X.A (f v) (EP X pins σ Q) X.xe s
def abc (X:Cx) (f:Value) (r:List V->Hp->VK->Prop):Prop :=
 ∀ (pins:List (Addr × Obj)) (s:Shared) (σ:St) (H:Hp) (xs:List V) (us:List Value) (Q:VK),Inv X pins σ H s->Vals xs us->r xs H Q ->
  wpAny (model X.prog X.w) X.A (call f us) (EP X pins σ Q) X.xe s
def TruR (X:Cx) (r:V->Hp->(Bool->Hp->Prop)->Prop):Prop :=
 ∀ (pins:List (Addr × Obj)) (s:Shared) (σ:St) (H:Hp) (x:V) (v:Value) (Q:Bool->Hp->Prop),Inv X pins σ H s->RelV x v->r x H Q ->
  wpAny (model X.prog X.w) X.A (truthy v) (TP X pins σ Q) X.xe s
def tOp (r:R2) (ta tb:TE):TE:=fun σ H Q=>ta σ H fun x H1=>tb σ H1 fun y H2=>r x y H2 Q
def tUn (r:V->Hp->VK->Prop) (ta:TE):TE:=fun σ H Q=>ta σ H fun x H1=>r x H1 Q
def rI (C:Int->Int->Prop) (g:Int->Int->V):R2:=fun x y H Q=>∃ i j,x=.int i/\y=.int j/\C i j/\Q (g i j) H
def rI0 (g:Int->Int->V):R2:=fun x y H Q=>∃ i j,x=.int i/\y=.int j/\Q (g i j) H
def rU (g:Int->V):V->Hp->VK->Prop:=fun x H Q=>∃ i,x=.int i/\Q (g i) H
section
variable {X:Cx} {a b c:Expr} {ta tb tc:TE} {pos:Pos}
theorem binT (ha:PE X a ta) (hb:PE X b tb) {pins:List (Addr × Obj)} {s:Shared} {σ:St} {H:Hp} {R:V->V->Hp->Prop} (I:Inv X pins σ H s)
  (h:ta σ H fun x g=>tb σ g fun y H2=>R x y H2) {Q:Value->Shared->Prop} {f:Value->Value->Sem Value}
  (hf:∀ v u s2 x y H2,Inv X pins σ H2 s2->RelV x v->RelV y u->R x y H2->wpAny (model X.prog X.w) X.A (f v u) Q X.xe s2) :
  wpAny (model X.prog X.w) X.A (eval a X.env) (fun v c=>wpAny (model X.prog X.w) X.A (eval b X.env) (fun u d=>wpAny (model X.prog X.w) X.A (f v u) Q X.xe d) X.xe c) X.xe s:=by
 refine thn (ha pins s σ H _ I h) fun v s1 ⟨x,g,l,o,n⟩=>?_
 refine thn (hb pins s1 σ g _ l n) fun u s2 ⟨y,H2,j,i,m⟩=>?_
 exact hf v u s2 x y H2 j o i m
theorem aau {op:Operator} {r:R2} (f:OpR X (binaryOp op) r) (ha:PE X a ta) (hb:PE X b tb):PE X (.BinOp a op b pos) (tOp r ta tb):=by
 intro pins s σ H Q I h
 exact wpAny_BinOp (binT ha hb I h fun v u s2 x y H2 d g c q=>f pins s2 σ H2 x y v u Q d g c q)
theorem ag1 {op:UnaryOp} {r:V->Hp->VK->Prop} (f:UnR X (unaryOp op) r) (ha:PE X a ta):PE X (.UnaryOp op a pos) (tUn r ta):=by
 intro pins s σ H Q I h
 exact UnaryOp_ (thn (ha pins s σ H _ I h) fun v s1 ⟨x,c,d,b,g⟩=>f pins s1 σ c x v Q d b g)
theorem opI {f:Value->Value->Sem Value} {C:Int->Int->Prop} {g:Int->Int->Int}
  (a:∀ (i j:Int) (t u:Tok) (s:Shared) (Q:Value->Shared->Prop) (E:Value->Shared->Prop),C i j->Q (.int (g i j) s.toks) { s with toks:=s.toks+1 }->wpAny (model X.prog X.w) X.A (f (.int i t) (.int j u)) Q E s) :
  OpR X f (rI C fun i j => .int (g i j)):=by
 intro pins s σ H x y v u Q I c b h
 obtain ⟨i,j,rfl,rfl,d,q⟩:=h
 obtain ⟨t,rfl⟩:=c
 obtain ⟨t',rfl⟩:=b
 exact a i j t t' s _ _ d ⟨.int (g i j),H,I.tok _,⟨_,rfl⟩,q⟩
theorem opI0 {f:Value->Value->Sem Value} {g:Int->Int->Int}
  (a:∀ (i j:Int) (t u:Tok) (s:Shared) (Q:Value->Shared->Prop) (E:Value->Shared->Prop),Q (.int (g i j) s.toks) { s with toks:=s.toks+1 }->wpAny (model X.prog X.w) X.A (f (.int i t) (.int j u)) Q E s) :
  OpR X f (rI0 fun i j => .int (g i j)):=by
 intro pins s σ H x y v u Q I c b h
 obtain ⟨i,j,rfl,rfl,q⟩:=h
 obtain ⟨t,rfl⟩:=c
 obtain ⟨t',rfl⟩:=b
 exact a i j t t' s _ _ ⟨.int (g i j),H,I.tok _,⟨_,rfl⟩,q⟩
theorem opB0 {f:Value->Value->Sem Value} {g:Int->Int->Bool}
  (a:∀ (i j:Int) (t u:Tok) (s:Shared) (Q:Value->Shared->Prop) (E:Value->Shared->Prop),Q (.bool (g i j)) s->wpAny (model X.prog X.w) X.A (f (.int i t) (.int j u)) Q E s) :
  OpR X f (rI0 fun i j => .bl (g i j)):=by
 intro pins s σ H x y v u Q I c b h
 obtain ⟨i,j,rfl,rfl,q⟩:=h
 obtain ⟨t,rfl⟩:=c
 obtain ⟨t',rfl⟩:=b
 exact a i j t t' s _ _ ⟨.bl (g i j),H,I,rfl,q⟩
def CDiv (i j:Int):Prop:=0 < j/\j < 1073741824
def CPow (i j:Int):Prop:=0<=j/\j<=1000000/\i.natAbs < 2 ^ 64
def CMul (i j:Int):Prop:=(-(2 ^ 64) < i/\i < 2 ^ 64)\/(-(2 ^ 64) < j/\j < 2 ^ 64)
theorem CMul.ok {i j:Int} (h:CMul i j):IntMulOk i j:=by
 rcases h with ⟨b,a⟩ | ⟨b,a⟩
 ·exact .of_left (intBits_le_64 b a)
 ·exact .of_right (intBits_le_64 b a)
theorem aa7:OpR X (binaryOp .Add) (rI0 fun i j => .int (i+j)):=opI0 fun _ _ _ _ _ _ _ q=>add_int q
theorem ad6:OpR X (binaryOp .Sub) (rI0 fun i j => .int (i - j)):=opI0 fun _ _ _ _ _ _ _ q=>sub_int q
theorem afh:OpR X (binaryOp .Mult) (rI CMul fun i j => .int (i * j)):=opI fun _ _ _ _ _ _ _ a q=>mul_int q a.ok
theorem ahv:OpR X (binaryOp .FloorDiv) (rI CDiv fun i j => .int (i / j)):=opI fun i j _ _ _ _ _ a q=>by
 have c:(0:Int) < j:=a.1
 have b:j < 1073741824:=a.2
 exact floordiv_int (by omega) (by rw [Int.fdiv_eq_ediv_of_nonneg i (by omega)];exact q) (.inl (PyProof.noPylong_small (by omega)))
theorem ad7:OpR X (binaryOp .Mod) (rI (fun _ j=>0 < j) fun i j => .int (i % j)):=opI fun i j _ _ _ _ _ a q=>by
 have b:(0:Int) < j:=a
 exact mod_int' (by omega) (by rw [Int.fmod_eq_emod_of_nonneg i (by omega)];exact q)
theorem ava:OpR X (binaryOp .Pow) (rI CPow fun i j => .int (i ^ j.toNat)):=opI fun _ _ _ _ _ _ _ a q=>pow_int_small a.1 a.2.1 a.2.2 q
theorem unI {f:Value->Sem Value} {g:Int->Int}
  (a:∀ (i:Int) (t:Tok) (s:Shared) (Q:Value->Shared->Prop) (E:Value->Shared->Prop),Q (.int (g i) s.toks) { s with toks:=s.toks+1 }->wpAny (model X.prog X.w) X.A (f (.int i t)) Q E s) :
  UnR X f (rU fun i => .int (g i)):=by
 intro pins s σ H x v Q I b h
 obtain ⟨i,rfl,q⟩:=h
 obtain ⟨t,rfl⟩:=b
 exact a i t s _ _ ⟨.int (g i),H,I.tok _,⟨_,rfl⟩,q⟩
theorem afi:UnR X (unaryOp .USub) (rU fun i => .int (-i)):=unI fun _ _ _ _ _ q=>neg_int q
end
def scal:V->V->Bool
 | .non,.non=>true | .non,.int _=>true | .int _,.non=>true | .non,.bl _=>true | .bl _,.non=>true | .non,.str _=>true | .str _,.non=>true
 | .int _,.int _=>true | .bl _,.bl _=>true | .str _,.str _=>true | .byt _,.byt _=>true
 | .int _,.str _=>true | .str _,.int _=>true | .bl _,.str _=>true | .str _,.bl _=>true
 | _,_=>false
def rEq:R2:=fun x y H Q=>scal x y=true/\Q (.bl (decide (x=y))) H
def rNe:R2:=fun x y H Q=>scal x y=true/\Q (.bl (!decide (x=y))) H
theorem af2 {i j:Int}:decide (V.int i=V.int j)=(i == j):=by
 rw [aE8]
 simp
theorem aop {i j:Bool}:decide (V.bl i=V.bl j)=(i == j):=by
 rw [aE8]
 simp
theorem amg {i j:Str}:decide (V.str i=V.str j)=(i == j):=by
 rw [aE8]
 simp
theorem amh {i j:Array UInt8}:decide (V.byt i=V.byt j)=(i.toList == j.toList):=by
 rw [aE8]
 cases i
 cases j
 simp
section
variable {X:Cx} {a b c:Expr} {ta tb tc:TE} {pos:Pos}
theorem aay {pins:List (Addr × Obj)} {σ:St} {H:Hp} {s:Shared} {Q:VK} {k a:Bool} (I:Inv X pins σ H s) (q:Q (.bl k) H) (e:k=a):EP X pins σ Q (.bool a) s:=by
 subst e
 exact ⟨.bl k,H,I,rfl,q⟩
theorem ag2:OpR X (compareOp .Eq) rEq:=by
 intro pins s σ H x y v u Q I c a h
 obtain ⟨b,q⟩:=h
 cases x with
 | non =>
  cases c
  cases y with
  | non=>cases a;exact PySem.EqNone.eq_none_none (aay I q (by simp))
  | bl j=>cases a;exact PySem.EqNone.eq_none_bool (aay I q (by simp))
  | int j=>obtain ⟨t',rfl⟩:=a;exact PySem.EqNone.eq_none_int (aay I q (by simp))
  | str j=>obtain ⟨t',rfl⟩:=a;exact PySem.EqNone.eq_none_str (aay I q (by simp))
  | _=>exact absurd (show false=true from b) ay9
 | bl i =>
  cases c
  cases y with
  | non=>cases a;exact PySem.EqNone.eq_bool_none (aay I q (by simp))
  | bl j=>cases a;exact eq_bool (aay I q aop)
  | str j=>obtain ⟨t',rfl⟩:=a;exact PySem.EqMixed.eq_bool_str (aay I q (by simp))
  | _=>exact absurd (show false=true from b) ay9
 | int i =>
  obtain ⟨t,rfl⟩:=c
  cases y with
  | non=>cases a;exact PySem.EqNone.eq_int_none (aay I q (by simp))
  | int j=>obtain ⟨t',rfl⟩:=a;exact eq_int (aay I q af2)
  | str j=>obtain ⟨t',rfl⟩:=a;exact PySem.EqMixed.eq_int_str (aay I q (by simp))
  | _=>exact absurd (show false=true from b) ay9
 | str i =>
  obtain ⟨t,rfl⟩:=c
  cases y with
  | non=>cases a;exact PySem.EqNone.eq_str_none (aay I q (by simp))
  | bl j=>cases a;exact PySem.EqMixed.eq_str_bool (aay I q (by simp))
  | int j=>obtain ⟨t',rfl⟩:=a;exact PySem.EqMixed.eq_str_int (aay I q (by simp))
  | str j=>obtain ⟨t',rfl⟩:=a;exact eq_str (aay I q amg)
  | _=>exact absurd (show false=true from b) ay9
 | byt i =>
  obtain ⟨t,rfl⟩:=c
  cases y with
  | byt j=>obtain ⟨t',rfl⟩:=a;exact PySem.W.eq_bytes (aay I q amh)
  | _=>exact absurd (show false=true from b) ay9
 | _=>cases y <;> exact absurd (show false=true from b) ay9
theorem acj:OpR X (compareOp .NotEq) rNe:=by
 intro pins s σ H x y v u Q I c a h
 obtain ⟨b,q⟩:=h
 cases x with
 | non =>
  cases c
  cases y with
  | non=>cases a;exact PySem.EqNone.ne_none_none (aay I q (by simp))
  | bl j=>cases a;exact PySem.EqNone.ne_none_bool (aay I q (by simp))
  | int j=>obtain ⟨t',rfl⟩:=a;exact PySem.EqNone.ne_none_int (aay I q (by simp))
  | str j=>obtain ⟨t',rfl⟩:=a;exact PySem.EqNone.ne_none_str (aay I q (by simp))
  | _=>exact absurd (show false=true from b) ay9
 | bl i =>
  cases c
  cases y with
  | non=>cases a;exact PySem.EqNone.ne_bool_none (aay I q (by simp))
  | bl j=>cases a;exact ne_bool (aay I q (congrArg not aop))
  | str j=>obtain ⟨t',rfl⟩:=a;exact PySem.EqMixed.ne_bool_str (aay I q (by simp))
  | _=>exact absurd (show false=true from b) ay9
 | int i =>
  obtain ⟨t,rfl⟩:=c
  cases y with
  | non=>cases a;exact PySem.EqNone.ne_int_none (aay I q (by simp))
  | int j=>obtain ⟨t',rfl⟩:=a;exact ne_int (aay I q (congrArg not af2))
  | str j=>obtain ⟨t',rfl⟩:=a;exact PySem.EqMixed.ne_int_str (aay I q (by simp))
  | _=>exact absurd (show false=true from b) ay9
 | str i =>
  obtain ⟨t,rfl⟩:=c
  cases y with
  | non=>cases a;exact PySem.EqNone.ne_str_none (aay I q (by simp))
  | bl j=>cases a;exact PySem.EqMixed.ne_str_bool (aay I q (by simp))
  | int j=>obtain ⟨t',rfl⟩:=a;exact PySem.EqMixed.ne_str_int (aay I q (by simp))
  | str j=>obtain ⟨t',rfl⟩:=a;exact ne_str (aay I q (congrArg not amg))
  | _=>exact absurd (show false=true from b) ay9
 | byt i =>
  obtain ⟨t,rfl⟩:=c
  cases y with
  | byt j=>obtain ⟨t',rfl⟩:=a;exact PySem.W.ne_bytes (aay I q (congrArg not amh))
  | _=>exact absurd (show false=true from b) ay9
 | _=>cases y <;> exact absurd (show false=true from b) ay9
theorem ar4:OpR X (compareOp .Lt) (rI0 fun i j => .bl (decide (i < j))):=opB0 fun _ _ _ _ _ _ _ q=>lt_int q
theorem anp:OpR X (compareOp .LtE) (rI0 fun i j => .bl (decide (i<=j))):=opB0 fun _ _ _ _ _ _ _ q=>le_int q
theorem anq:OpR X (compareOp .Gt) (rI0 fun i j => .bl (decide (j < i))):=opB0 fun _ _ _ _ _ _ _ q=>gt_int q
theorem axd:OpR X (compareOp .GtE) (rI0 fun i j => .bl (decide (j<=i))):=opB0 fun _ _ _ _ _ _ _ q=>ge_int q
theorem avb:OpR X (compareOp .Is) (fun x y H Q=>y=.non/\Q (.bl (decide (x=.non))) H):=by
 intro pins s σ H x y v u Q I a b h
 obtain ⟨rfl,q⟩:=h
 cases b
 refine is_none_gen (aay I q ?_)
 cases x <;> first
  | (cases a;rfl)
  | (obtain ⟨t,rfl⟩:=a;rfl)
theorem asn:OpR X (compareOp .IsNot) (fun x y H Q=>y=.non/\Q (.bl (!decide (x=.non))) H):=by
 intro pins s σ H x y v u Q I a b h
 obtain ⟨rfl,q⟩:=h
 cases b
 refine isnot_none_gen (aay I q ?_)
 cases x <;> first
  | (cases a;rfl)
  | (obtain ⟨t,rfl⟩:=a;rfl)
theorem aat (b:Expr) {op:CmpOp} (h:op ≠ .In:=by decide) (a:op ≠ .NotIn:=by decide):behindInMarks op b=false:=by
 have d:(op == CmpOp.In)=false:=by cases op <;> first | rfl | exact absurd rfl h
 have c:(op == CmpOp.NotIn)=false:=by cases op <;> first | rfl | exact absurd rfl a
 cases b <;> simp [behindInMarks,d,c]
theorem abe {op:CmpOp} {r:R2} (f:OpR X (compareOp op) r) (ha:PE X a ta) (hb:PE X b tb) (hm:behindInMarks op b=false):PE X (.Compare a [op] [b] pos) (tOp r ta tb):=by
 intro pins s σ H Q I h
 exact wpAny_Compare1 (binT ha hb I h fun v u s2 x y H2 d g c q=>f pins s2 σ H2 x y v u Q d g c q) hm
def anr (t:TE):TT:=fun σ H Q=>t σ H fun x H'=>∃ k,x=.bl k/\Q k H'
theorem aaw {op:CmpOp} {r:R2} (j:OpR X (compareOp op) r) (ha:PE X a ta) (hb:PE X b tb) (hm:behindInMarks op b=false):PT X (.Compare a [op] [b] pos) (anr (tOp r ta tb)):=by
 intro pins s σ H Q I h
 refine wpAny_isTrue_Compare1 (thn (ha pins s σ H _ I h) fun v s1 ⟨x,d,i,p,o⟩=>thn (hb pins s1 σ d _ i o) fun u s2 ⟨y,H2,g,f,l⟩ =>
  thn (j pins s2 σ H2 x y v u _ g p f l) fun c w ⟨z,H3,m,n,k,e,q⟩=>?_) hm
 subst e
 cases n
 exact aG9 ⟨H3,m,q⟩
def akb (r r':R2) (ta tb tc:TE):TE:=fun σ H Q=>ta σ H fun x H1=>tb σ H1 fun y H2=>r x y H2 fun z H3=>∃ k,z=.bl k /\
 (if k=true then tc σ H3 fun w' H4=>r' y w' H4 Q else Q (.bl false) H3)
theorem ap6 {op f:CmpOp} {r j:R2} (q:OpR X (compareOp op) r) (g:OpR X (compareOp f) j) (ha:PE X a ta) (hb:PE X b tb) (F:PE X c tc)
  (hm:lastMarks [op,f] [b,c]=false:=by with_unfolding_all rfl):PE X (.Compare a [op,f] [b,c] pos) (akb r j ta tb tc):=by
 intro pins s σ H Q I h
 refine Compare_chain (thn (ha pins s σ H _ I h) fun v s1 ⟨x,n,p,K,J⟩=>chain_link (thn (hb pins s1 σ n _ p J) fun u s2 ⟨y,H2,o,i,w⟩ =>
  thn (q pins s2 σ H2 x y v u _ o K i w) fun d D ⟨z,H3,l,G,k,e,m⟩=>?_)) hm
 subst e
 cases G
 refine aG9 ?_
 cases k with
 | false=>exact ite_ff ⟨.bl false,H3,l,rfl,m⟩
 | true=>exact ite_tt (chain_last (thn (F pins D σ H3 _ l m) fun A E ⟨N,B,M,L,C⟩=>g pins E σ B y N u A Q M i L C))
def TruV (K:Frag) (x:V) (H:Hp) (k:Bool):Prop :=
 match x with
 | .non=>k=false
 | .bl b=>k=b
 | .int i=>k=(i != 0)
 | .str y=>y.length<=sizeLine/\k=((y.length:Int) != 0)
 | .byt y=>y.size<=sizeLine/\k=((y.size:Int) != 0)
 | .ref p=>(∃ xs,SqL K H p xs/\k = !xs.isEmpty)\/(∃ xs,SqT K H p xs/\k = !xs.isEmpty)\/∃ kvs,H p=some (.dK kvs)/\k = !kvs.isEmpty
 | _=>False
theorem ans {κ:Type} {kvs:List (κ × V)} {vs:List (κ × Value)} (r:KV kvs vs):(!vs.isEmpty) = !kvs.isEmpty:=by
 cases r <;> rfl
theorem ag3 {xs:List V} {its:List Value} (r:Vals xs its):(!its.toArray.isEmpty) = !xs.isEmpty:=by
 cases r <;> simp
theorem afj:(sizeLine:Nat) < 2 ^ 63:=by rw [sizeLine_eq];decide
theorem avc:TruR X (fun x H Q=>∃ k,TruV X.K x H k/\Q k H):=by
 intro pins s σ H x v Q I d h
 obtain ⟨k,e,q⟩:=h
 have o:=afj
 have n:sizeLine=16777216:=sizeLine_eq
 cases x with
 | non =>
  cases d
  have a:k=false:=e
  subst a
  exact truthy_none ⟨H,I,q⟩
 | bl b =>
  cases d
  have a:k=b:=e
  subst a
  exact aG9 ⟨H,I,q⟩
 | int i =>
  obtain ⟨t,rfl⟩:=d
  have a:k=(i != 0):=e
  subst a
  exact PySem.P.truthy_int ⟨H,I,q⟩
 | str y =>
  obtain ⟨t,rfl⟩:=d
  obtain ⟨j,a⟩:y.length<=sizeLine/\k=((y.length:Int) != 0):=e
  subst a
  exact PySem.P.truthy_str (by omega) ⟨H,I.tok _,q⟩
 | byt y =>
  obtain ⟨t,rfl⟩:=d
  obtain ⟨j,a⟩:y.size<=sizeLine/\k=((y.size:Int) != 0):=e
  subst a
  exact PySem.W.truthy_bytes (by omega) ⟨H,I.tok _,q⟩
 | ref p =>
  cases d
  have a:(∃ xs,SqL X.K H p xs/\k = !xs.isEmpty)\/(∃ xs,SqT X.K H p xs/\k = !xs.isEmpty)\/∃ kvs,H p=some (.dK kvs)/\k = !kvs.isEmpty:=e
  rcases a with ⟨xs,f,a⟩ | ⟨xs,f,a⟩ | ⟨kvs,f,a⟩
  ·subst a
   obtain ⟨its,r,g,hz⟩:=I.list f
   have c:=r.length
   exact wpAny_truthy_list g.isList (by simp only [az1];omega) ⟨H,I.tok _,by rw [ag3 r];exact q⟩
  ·subst a
   obtain ⟨its,r,g,hz⟩:=I.tuple f
   have c:=r.length
   exact truthy_tuple g (by simp only [az1];omega) ⟨H,I.tok _,by rw [ag3 r];exact q⟩
  ·subst a
   obtain ⟨hz,l,vs,r,m⟩:kvs.length<=sizeLine/\(p == sysModules)=false/\∃ vs,KV kvs vs/\s.heap.DictOf (abd X.prog X.w) p vs:=I.hok p _ f
   have c:kvs.length=vs.length:=Paired.length r
   exact wpAny_truthy_dict l m (by omega) ⟨H,I.tok _,by rw [ans r];exact q⟩
 | _=>exact (show False from e).elim
theorem ap7 (ha:PE X a ta) (g:∀ whole,isTrue a X.env whole=(do let v ← whole;standAt a.pos;holding [v] (truthy v))) :
  PT X a (fun σ H Q=>ta σ H fun x H'=>∃ k,TruV X.K x H' k/\Q k H'):=by
 intro pins s σ H Q I h
 exact isTrue_plain (thn (ha pins s σ H _ I h) fun v s1 ⟨x,b,c,f,d⟩=>avc pins s1 σ b x v Q c f d) (g _)
theorem acz {x:V} {us:List Value} (r:Vals [x] us):∃ u,us=[u]/\RelV x u:=by
 cases r with
 | cons r1 r2=>cases r2;exact ⟨_,rfl,r1⟩
theorem ant {x y:V} {us:List Value} (r:Vals [x,y] us):∃ u a,us=[u,a]/\RelV x u/\RelV y a:=by
 cases r with
 | cons r1 r2 =>
  cases r2 with
  | cons r3 r4=>cases r4;exact ⟨_,_,rfl,r1,r3⟩
theorem aoq (a:X.calm=true):abc X (.builtin "max") (fun xs H Q=>∃ i j,xs=[.int i,.int j]/\Q (.int (if j > i then j else i)) H):=by
 intro pins s σ H xs us Q I r h
 obtain ⟨i,j,rfl,q⟩:=h
 obtain ⟨u,c,rfl,⟨t,rfl⟩,⟨t',rfl⟩⟩:=ant r
 refine max_two_ints (I.ok.hd a) fun h' b k=>⟨_,H,I.kept k,?_,q⟩
 by_cases hj:j > i
 ·rw [aC5 hj,aC5 hj];exact ⟨_,rfl⟩
 ·rw [aC6 hj,aC6 hj];exact ⟨_,rfl⟩
theorem aor (a:X.calm=true):abc X (.builtin "min") (fun xs H Q=>∃ i j,xs=[.int i,.int j]/\Q (.int (if j < i then j else i)) H):=by
 intro pins s σ H xs us Q I r h
 obtain ⟨i,j,rfl,q⟩:=h
 obtain ⟨u,c,rfl,⟨t,rfl⟩,⟨t',rfl⟩⟩:=ant r
 refine min_two_ints (I.ok.hd a) fun h' b k=>⟨_,H,I.kept k,?_,q⟩
 by_cases hj:j < i
 ·rw [aC5 hj,aC5 hj];exact ⟨_,rfl⟩
 ·rw [aC6 hj,aC6 hj];exact ⟨_,rfl⟩
theorem aos:abc X (.type "int") (fun xs H Q=>(∃ i,xs=[.int i]/\Q (.int i) H)\/∃ k,xs=[.bl k]/\Q (.int (if k then 1 else 0)) H):=by
 intro pins s σ H xs us Q I r h
 rcases h with ⟨i,rfl,q⟩ | ⟨k,rfl,q⟩
 ·obtain ⟨u,rfl,t,rfl⟩:=acz r
  exact call_int_int ⟨.int i,H,I,⟨_,rfl⟩,q⟩
 ·obtain ⟨u,rfl,a⟩:=acz r
  cases a
  exact call_int_bool ⟨.int (if k then 1 else 0),H,I.tok _,⟨_,rfl⟩,q⟩
end
structure ObjM (h:Heap) (x dx C:Addr) (mA:Str->Option Value):Prop where
 obj:h.get? x=some (PySem.W.instObj C dx)
 ns:h.Ns1 dx mA
 ne:dx ≠ x
theorem aot {h:Heap} {dx:Addr} {mA:Str->Option Value} (n:h.Ns1 dx mA):∃ od,h.get? dx=some od/\∀ name,PySem.W.lookIn name od=some (mA name):=by
 obtain ⟨o,es,i,c,hd,g,_,hm⟩:=n
 refine ⟨o,c,fun name=>?_⟩
 have e:=hm name
 unfold nsFind findBy at e
 rw [← Array.find?_toList] at e
 unfold PySem.W.lookIn
 rw [hd]
 dsimp only
 split
 ·rename_i y q
  rw [q] at e
  exact congrArg some e
 ·rename_i q
  rw [q] at e
  have a:es.toList.any (·.refKey)=false:=by
   rw [List.any_eq_false]
   intro y d
   obtain ⟨z,t,b⟩:=g y (Array.mem_toList_iff.mp d)
   simp [DictEntry.refKey,b]
  have f:¬ es.toList.any (·.refKey)=true:=by rw [a];exact ay9
  rw [aC6 f]
  exact congrArg some e
theorem ObjM.look {h:Heap} {x dx C:Addr} {mA:Str->Option Value} (I:ObjM h x dx C mA):∃ od,PySem.W.InstAt h x (PySem.W.instObj C dx) C (some od)/\∀ name,PySem.W.lookIn name od=some (mA name) :=
 let ⟨od,a,b⟩:=aot I.ns
 ⟨od,⟨I.obj,rfl,rfl,a⟩,b⟩
section
variable {prog:Program} {w:World} {A:Around} {E:Value->Shared->Prop} {s:Shared} {K:Frag} {x dx C f:Addr} {mA:Str->Option Value} {name:Str} {v:Value}
end
def putF (f:Str) (v:V):List (Str × V)->List (Str × V)
 | []=>[(f,v)]
 | (g,x) :: r=>if g=f then (g,v) :: r else (g,x) :: putF f v r
section
variable {P:Program} {w:World} {H H':Hp} {h h':Heap} {a C dx:Addr} {fs fs':List (Str × V)}
theorem aso (hok:HOk P w H h) (e:H a=some (.ins C dx fs)):∃ mA,ObjM h a dx C mA/\(∀ f,RelO (fs.lookup f) (mA f))/\PySem.Within mA (fs.map (·.1))/\fs.length<=1000/\H dx=some (.own a):=by
 obtain ⟨d,z,ne,b,mA,n,r,q⟩:=(show ObjOk P w H h a (.ins C dx fs) from hok a _ e)
 exact ⟨mA,⟨b,n,ne⟩,r,q,z,d⟩
end
structure Cls (K:Frag) (C:Addr):Prop where
 pg:PySem.W.plainGet K C Str.empty=true
 hd:PySem.W.hasDictIn K C=true
 po:PySem.W.plainOver K C=true
 sa:PySem.W.findIn K (.ref C) "__setattr__" = some (some (.builtin "object.__setattr__"))
theorem Cls.get {K:Frag} {C:Addr} (c:Cls K C) (f:Str):PySem.W.plainGet K C f=true:=c.pg
section
variable {X:Cx} {pins:List (Addr × Obj)} {σ:St} {H:Hp} {s:Shared} {a C dx:Addr} {fs:List (Str × V)} {f:Str} {v:V} {A:Around} {E:Value->Shared->Prop}
end
section
variable {X:Cx} {o e value:Expr} {f:Str} {pos pos' tpos:Pos} {ta tv:TE}
end
section
variable {X:Cx} {pins:List (Addr × Obj)} {σ:St} {H:Hp} {s:Shared} {A:Around} {E:Value->Shared->Prop} {Q:Value->Shared->Prop} {c:Value} {b:Bool}
inductive TyOf (K:Frag) (H:Hp):V->Value->Prop where
 | non:TyOf K H .non (.type "NoneType")
 | bl (x:Bool):TyOf K H (.bl x) (.type "bool")
 | int (i:Int):TyOf K H (.int i) (.type "int")
 | str (x:Str):TyOf K H (.str x) (.type "str")
 | flt (x:UInt64):TyOf K H (.flt x) (.type "float")
 | lst {a:Addr} {xs:List V} (e:H a=some (.lst xs)):TyOf K H (.ref a) (.type "list")
 | frz {a:Addr} {o:Obj} {xs:List V} (e:H a=some (.frz o (.lst xs))):TyOf K H (.ref a) (.type "list")
 | tup {a:Addr} {xs:List V} (e:H a=some (.tup xs)):TyOf K H (.ref a) (.type "tuple")
 | dK {a:Addr} {kvs:List (Key × V)} (e:H a=some (.dK kvs)):TyOf K H (.ref a) (.type "dict")
 | dT {a:Addr} {kvs:List (List Key × V)} (e:H a=some (.dT kvs)):TyOf K H (.ref a) (.type "dict")
 | ins {a C dx:Addr} {fs:List (Str × V)} (e:H a=some (.ins C dx fs)) (cl:Cls K C) (ha:PySem.W.findIn K (.ref C) "__class__" = some (some (.builtin "object.__class__")))
   (hn:PySem.W.specialIn K (.builtin "object.__class__") "__get__" = some (some (.builtin "getset_descriptor.__get__"))) (htk:PySem.W.takesIn K (.builtin "object.__class__")=some true)
   (hm:mroIn K C (.type "object")=some true):TyOf K H (.ref a) (.ref C)
theorem aou {x:V} {u t:Value} (I:Inv X pins σ H s) (d:RelV x u) (ty:TyOf X.K H x t) (e:kitOne X.K t c=some b) (h:∀ j,Q (.bool b) { s with toks:=j }) :
  wpAny (model X.prog X.w) A (call (.builtin "isinstance") [u,c]) Q E s:=by
 cases ty with
 | non=>cases (show u=Value.none from d);exact PySem.W.kia_one PySem.W.kitx_none I.kIn True.intro e (fun z=>nomatch z) h
 | bl y=>cases (show u=Value.bool y from d);exact PySem.W.kia_one PySem.W.kitx_bool I.kIn True.intro e (fun z=>nomatch z) h
 | int i=>obtain ⟨t,q⟩:=(show ∃ t,u=Value.int i t from d);cases q;exact PySem.W.kia_one PySem.W.kitx_int I.kIn True.intro e (fun z=>nomatch z) h
 | str y=>obtain ⟨t,q⟩:=(show ∃ t,u=Value.str y t from d);cases q;exact PySem.W.kia_one PySem.W.kitx_str I.kIn True.intro e (fun z=>nomatch z) h
 | flt y=>obtain ⟨t,q⟩:=(show ∃ t,u=Value.float y t from d);cases q;exact PySem.W.kia_one PySem.W.kitx_float I.kIn True.intro e (fun z=>nomatch z) h
 | @lst a xs ea =>
  cases (show u=Value.ref a from d)
  obtain ⟨_,_,n,_,f⟩:=(show ObjOk X.prog X.w H s.heap a (.lst xs) from I.hok a _ ea)
  exact PySem.W.kia_one PySem.W.kitx_list I.kIn ⟨_,f,rfl⟩ e (fun z=>nomatch z) h
 | @frz a ob xs ea =>
  cases (show u=Value.ref a from d)
  obtain ⟨_,_,_,n,_,f⟩:=(show ObjOk X.prog X.w H s.heap a (.frz ob (.lst xs)) from I.hok a _ ea)
  exact PySem.W.kia_one PySem.W.kitx_list I.kIn ⟨_,f,rfl⟩ e (fun z=>nomatch z) h
 | @tup a xs ea =>
  cases (show u=Value.ref a from d)
  obtain ⟨_,_,_,p⟩:=(show ObjOk X.prog X.w H s.heap a (.tup xs) from I.hok a _ ea)
  obtain ⟨o,f,g,_⟩:=p
  exact PySem.W.kia_one PySem.W.kitx_tuple I.kIn ⟨o,f,g⟩ e (fun z=>nomatch z) h
 | @dK a kvs ea =>
  cases (show u=Value.ref a from d)
  obtain ⟨_,_,vs,_,p⟩:=(show ObjOk X.prog X.w H s.heap a (.dK kvs) from I.hok a _ ea)
  obtain ⟨o,es,l,f,g,_⟩:=p
  exact PySem.W.kia_one PySem.W.kitx_dict I.kIn ⟨o,f,g.1⟩ e (fun z=>nomatch z) h
 | @dT a kvs ea =>
  cases (show u=Value.ref a from d)
  obtain ⟨_,_,xs,_,o,es,l,f,g,_⟩:=(show ObjOk X.prog X.w H s.heap a (.dT kvs) from I.hok a _ ea)
  exact PySem.W.kia_one PySem.W.kitx_dict I.kIn ⟨o,f,g.1⟩ e (fun z=>nomatch z) h
 | @ins a C dx fs ea cl ha hn htk hm =>
  cases (show u=Value.ref a from d)
  obtain ⟨mA,O,_⟩:=aso I.hok ea
  obtain ⟨od,J,_⟩:=O.look
  exact PySem.W.kia_one (PySem.W.kitx_own (cl.get _) cl.hd ha hn htk hm) I.kIn J e (fun z=>nomatch z) h
end
structure Room (k:Nat) (A:Around):Prop where
 hd:A.handled=none
 dp:A.depth+3 * k+5 < recursionLimit
 un:A.units+16 * k+200 < cLine
theorem Room.mono {j k:Nat} {A:Around} (r:Room k A) (h:j<=k):Room j A:=⟨r.hd,by have:=r.dp;omega,by have:=r.un;omega⟩
theorem Room.deeper {k:Nat} {A:Around} (r:Room (k+1) A) (env:Env):Room k (A.deeper env) :=
 ⟨r.hd,by have:=r.dp;show A.depth+1+3 * k+5 < _;omega,by have:=r.un;show A.units+3+16 * k+200 < _;omega⟩
theorem Room.in1 {k:Nat} {A:Around} (r:Room (k+1) A):Room k A.in1 :=
 ⟨r.hd,by have:=r.dp;show A.depth+3 * k+5 < _;omega,by have:=r.un;show A.units+1+16 * k+200 < _;omega⟩
theorem Room.depth {k:Nat} {A:Around} (r:Room k A):A.depth < recursionLimit:=by have:=r.dp;omega
theorem Room.units {k:Nat} {A:Around} (r:Room k A):A.units+64 < cLine:=by have:=r.un;omega
theorem Room.units0 {k:Nat} {A:Around} (r:Room k A):A.units < cLine:=by have:=r.un;omega
def tNil:TA:=fun _ H Q=>Q [] H
def abu (ta:TE) (tr:TA):TA:=fun σ H Q=>ta σ H fun x H1=>tr σ H1 fun xs H2=>Q (x :: xs) H2
section
variable {X:Cx} {e:Expr} {es:List Expr} {te:TE} {t:TA} {pos:Pos}
theorem aab:PA X [] tNil:=fun _ _ _ _ H Q I h=>Calls.spliced_nil ⟨[],H,I,.nil,h⟩
theorem aaa (ha:PE X e te) (m:PA X es t) (l:starEach (e :: es) X.env=(false,eval e X.env) :: starEach es X.env:=by rfl):PA X (e :: es) (abu te t):=by
 intro a pins s σ H Q I h
 rw [l]
 show wpAny _ _ (spliced ((false,eval e X.env) :: backTo a (starEach es X.env))) _ _ s
 refine Calls.spliced_cons (thn (ha pins s σ H _ I h) fun u s1 ⟨x,b,f,j,i⟩=>?_)
 exact thn (m a pins s1 σ b _ f i) fun us s2 ⟨xs,H2,d,c,g⟩=>⟨x :: xs,H2,d,.cons j c,g⟩
def tTup (t:TA):TE:=fun σ H Q=>t σ H fun xs H1=>xs.length<=sizeLine/\∀ p,H1 p=none->Q (.ref p) (upd H1 p (.tup xs))
def tLst (t:TA):TE:=fun σ H Q=>t σ H fun xs H1=>xs.length<=sizeLine/\∀ p,H1 p=none->Q (.ref p) (upd H1 p (.lst xs))
theorem aby {x1} (h:PA X es t):PE X (.Tuple es x1 pos) (tTup t):=by
 intro pins s σ H Q I d
 refine wpAny_Tuple_spliced (thn (h pos pins s σ H _ I d) fun us s1 ⟨xs,a,c,r,z,q⟩=>⟨by rw [← r.length];exact z,?_⟩)
 have hf:a s1.heap.objs.size=none:=c.hok.fresh (ay6 _)
 refine ⟨.ref s1.heap.objs.size,upd a s1.heap.objs.size (.tup xs),c.laid (t':=s1.toks) (fun b u e=>aG0 _ e) (ay6 _) ?_,rfl,q _ hf⟩
 exact ⟨z,us,r,⟨_,aG2 _ rfl,rfl,_,rfl⟩⟩
theorem aa9 (h:PA X es t):PE X (.List es pos) (tLst t):=by
 intro pins s σ H Q I d
 refine wpAny_List_spliced (thn (h pos pins s σ H _ I d) fun us s1 ⟨xs,a,c,r,z,q⟩=>⟨by rw [← r.length];exact z,?_⟩)
 have hf:a s1.heap.objs.size=none:=c.hok.fresh (ay6 _)
 refine ⟨.ref s1.heap.objs.size,upd a s1.heap.objs.size (.lst xs),c.laid (t':=s1.toks) (fun b u e=>aG0 _ e) (ay6 _) ?_,rfl,q _ hf⟩
 exact ⟨z,us,0,r,aG2 _ rfl⟩
end
abbrev Sp:=List V->Hp->VK->XK->Prop
abbrev CXT:=List Env->Hp->Shared->XK->Value->Shared->Prop
structure Env0 (P:Program) (w:World) (K:Frag) (mg:Str->Option Value) (base:Heap) (A:Around) (outer:List Env) (s:Shared) (H:Hp):Prop where
 frames:A.frames=some outer
 mod:Mod K mg base
 bs:∀ b o,base.get? b=some o->s.heap.get? b=some o/\H b=none
 bsz:base.objs.size<=s.heap.objs.size
 funs:s.heap.FunFrames base outer
 frf:∀ b∈frs outer,H b=none
 hok:HOk P w H s.heap
 bare:AllBare s.gens
def CE (outer:List Env) (P:Program) (w:World) (H:Hp) (s:Shared) (Q:VK) (u:Value) (s':Shared):Prop :=
 ∃ v H',s'.os=s.os/\AllBare s'.gens/\Un (frs outer) [] H H' s.heap s'.heap/\HOk P w H' s'.heap/\RelV v u/\Q v H'
def CR (CX:CXT) (outer:List Env) (P:Program) (w:World) (H:Hp) (s:Shared) (Q:VK) (E:XK) (r:Result) (s':Shared):Prop :=
 match r with
 | .ok (.ret u)=>CE outer P w H s Q u s'
 | .ok _=>False
 | .error e=>CX outer H s E e s'
structure FnOk (P:Program) (w:World) (K:Frag) (mg:Str->Option Value) (base:Heap) (CX:CXT) (k:Nat) (f:Addr) (fd:FuncData) (ps:List Str) (sp:Sp):Prop where
 len:∀ vs H Q E,sp vs H Q E->vs.length=ps.length
 run:∀ (A:Around) (outer:List Env) (s:Shared) (H:Hp) (args:Args) (us:List Value) (vs:List V) (Q:VK) (E:XK),Room k A->Env0 P w K mg base A outer s H->BindsTo s fd args (ps.zip us)->Vals vs us->sp vs H Q E ->
  codeAny (model P w) A (.call (.ref f) args) (CR CX outer P w H s Q E) s
theorem FnOk.mono {P:Program} {w:World} {K:Frag} {mg:Str->Option Value} {base:Heap} {CX:CXT} {j k:Nat} {f:Addr} {fd:FuncData} {ps:List Str} {sp:Sp} (F:FnOk P w K mg base CX j f fd ps sp) (h:j<=k) :
  FnOk P w K mg base CX k f fd ps sp:=⟨F.len,fun A outer s H args us vs Q E a=>F.run A outer s H args us vs Q E (a.mono h)⟩
theorem FnOk.imp {P:Program} {w:World} {K:Frag} {mg:Str->Option Value} {base:Heap} {CX:CXT} {k:Nat} {f:Addr} {fd:FuncData} {ps:List Str} {sp a:Sp} (F:FnOk P w K mg base CX k f fd ps sp)
  (h:∀ vs H Q E,a vs H Q E->sp vs H Q E):FnOk P w K mg base CX k f fd ps a :=
 ⟨fun vs H Q E q=>F.len vs H Q E (h _ _ _ _ q),fun A outer s H args us vs Q E g d hb b c=>F.run A outer s H args us vs Q E g d hb b (h _ _ _ _ c)⟩
theorem Env0.in1 {P:Program} {w:World} {K:Frag} {mg:Str->Option Value} {base:Heap} {A:Around} {outer:List Env} {s:Shared} {H:Hp} (e:Env0 P w K mg base A outer s H) :
  Env0 P w K mg base A.in1 outer s H:=⟨e.frames,e.mod,e.bs,e.bsz,e.funs,e.frf,e.hok,e.bare⟩
section
variable {X:Cx} {pins:List (Addr × Obj)} {σ:St} {H:Hp} {s s':Shared}
theorem Inv.env0 (I:Inv X pins σ H s):Env0 X.prog X.w X.K X.mg X.base X.A X.stack s H :=
 ⟨I.ok.frames,I.ok.mod,I.bs,aA9 I.ok.bsz I.sz,I.stack,I.stkFree,I.hok,I.bare⟩
theorem Inv.after {Q:VK} {u:Value} (I:Inv X pins σ H s) (h:CE X.stack X.prog X.w H s Q u s'):EP X pins σ Q u s':=by
 obtain ⟨v,H',os,bare,un,hok,r,q⟩:=h
 obtain ⟨hh,g,d,t,os'⟩:=s'
 obtain rfl:os'=s.os:=os
 exact ⟨v,H',I.call (h':=hh) (g':=g) (d':=d) (t':=t) (ch:=[]) un hok bare (fun b z=>absurd z (by simp)),r,q⟩
end
def ab9 (sp:Sp) (dvs:List V) (E:XK) (t:TA):TE:=fun σ H Q=>t σ H fun vs H1=>sp (vs ++ dvs) H1 Q E
def Binds (K:Frag) (fd:FuncData) (ps:List Str) (ds:List Value):Prop :=
 ∀ (s:Shared) (us:List Value),K.In s.heap->(us ++ ds).length=ps.length->BindsTo s fd ⟨us,[]⟩ (ps.zip (us ++ ds))
theorem Binds.all {K:Frag} {fd:FuncData} {ps:List Str} (h:∀ us:List Value,us.length=ps.length->bindArgs fd ⟨us,[]⟩=pure (ps.zip us)):Binds K fd ps []:=fun s us _ a=>by
 rw [aC2] at a ⊢
 exact .of_eq (h us a)
def akc (CX:CXT) (X:Cx) (E:XK):Prop:=∀ (pins:List (Addr × Obj)) (σ:St) (H:Hp) (s:Shared) (e:Value) (s':Shared),Inv X pins σ H s->CX X.stack H s E e s'->X.xe e s'
section
variable {X:Cx} {CX:CXT} {k:Nat} {f C:Addr} {fd:FuncData} {ps:List Str} {sp:Sp} {dvs:List V} {ds:List Value} {E:XK} {x m:Str} {p pos apos:Pos} {e o:Expr} {es:List Expr} {ta:TE} {t:TA}
theorem avd {pins:List (Addr × Obj)} {σ:St} {H:Hp} {s:Shared} {Q:VK} {us:List Value} {vs:List V} (F:FnOk X.prog X.w X.K X.mg X.base CX k f fd ps sp) (i:Room k X.A) (hb:Binds X.K fd ps ds) (hd:Vals dvs ds) (d:akc CX X E)
  (I:Inv X pins σ H s) (r:Vals vs us) (h:sp (vs ++ dvs) H Q E):wpAny (model X.prog X.w) X.A (call (.ref f) us) (EP X pins σ Q) X.xe s:=by
 have b:Vals (vs ++ dvs) (us ++ ds):=r.append hd
 have g:(us ++ ds).length=ps.length:=by rw [← b.length];exact F.len _ _ _ _ h
 refine wpAny_call (codeAny_mono (F.run X.A X.stack s H ⟨us,[]⟩ (us ++ ds) (vs ++ dvs) Q E i I.env0 (hb s us I.kIn g) b h) fun r c a=>?_)
 cases r with
 | error e=>exact d pins σ H s e c I a
 | ok fl =>
  cases fl with
  | ret u=>exact I.after a
  | next=>exact False.elim a
  | brk=>exact False.elim a
  | cont=>exact False.elim a
theorem asp (F:FnOk X.prog X.w X.K X.mg X.base CX k f fd ps sp) (g:Room k X.A) (d:Gl X x) (hm:X.mg x=some (.ref f)) (l:keepIn X.K (.ref f)=true) (hb:Binds X.K fd ps ds) (hd:Vals dvs ds) (j:akc CX X E)
  (ha:PA X (e :: es) t) (a:(x == ("__debug__" : Str))=false:=by decide) (i:starEach (e :: es) X.env=(false,eval e X.env) :: starEach es X.env:=by rfl) (b:(backTo pos (starEach es X.env)).any (·.1)=false:=by rfl) :
  PE X (.Call (.Name x p) (e :: es) [] pos) (ab9 sp dvs E t):=by
 intro pins s σ H Q I h
 refine wpAny_Call_Name_kw (amf I d hm ?_ a)
 refine PySem.W.callWith_K (h₀:=X.base) I.ok.mod.kin l (thn (ha pos pins s σ H _ I h) fun us s1 ⟨vs,m,c,r,q⟩=>⟨c.kIn,?_⟩) i b
 exact avd F g hb hd j c r q
end
section
variable {X:Cx} {CX:CXT} {k:Nat} {f C:Addr} {fd:FuncData} {ps ks:List Str} {sp:Sp} {E:XK} {x m:Str} {p pos apos kpos:Pos} {e o:Expr} {es:List Expr} {kws:List Keyword} {te ta:TE} {t tk:TA} {nm:Option Str}
variable {g:List Value->List Value->List Value} {gV:List V->List V->List V}
end
structure FnScope (N P:List Str) (sc:Scope):Prop where
 kind:sc.kind=.function
 co:sc.isCoroutine=false
 gen:sc.isGenerator=false
 nd:N.Nodup
 pre:N.take P.length=P
 par:∀ x∈P,sc.names.lookup x=some .local\/sc.names.lookup x=some .cell
 nofree:∀ y∈sc.names,y.2 ≠ .free
theorem aio {kindOf:Str->Option NameKind} {x:Str}:∀ {binds:List (Str × Value)} {m:Str->Option Value},(∀ v,(x,v) ∉ binds)->bindL kindOf binds m x=m x
 | [],_,_=>rfl
 | (n,v) :: r,m,h=>by
  unfold bindL
  rw [aio fun w a=>h w (az4 _ a)]
  split
  ·have:x ≠ n:=by rintro rfl;exact h v az7
   simp [this]
  ·rfl
theorem aip {kindOf:Str->Option NameKind} {x:Str}:∀ {binds:List (Str × Value)} {m:Str->Option Value},(∀ v,(x,v) ∉ binds)->bindC kindOf binds m x=m x
 | [],_,_=>rfl
 | (n,v) :: r,m,h=>by
  unfold bindC
  rw [aip fun w a=>h w (az4 _ a)]
  split
  ·rfl
  ·have:x ≠ n:=by rintro rfl;exact h v az7
   simp [this]
theorem aiq {kindOf:Str->Option NameKind} {x:Str} {v:Value}:∀ {P:List Str} {vs:List Value} {i:Nat} {m:Str->Option Value},P.Nodup->P[i]?=some x->vs[i]?=some v->kindOf x=some .local ->
  bindL kindOf (P.zip vs) m x=some v
 | [],_,_,_,_,h,_,_=>by simp at h
 | _ :: _,[],_,_,_,_,h,_=>by simp at h
 | p :: P,w :: vs,0,m,nd,h1,h2,hk=>by
  simp at h1 h2;subst h1;subst h2
  show bindL kindOf ((p,w) :: P.zip vs) m p=_
  unfold bindL
  rw [aio fun v a=>(aF3.mp nd).1 (List.of_mem_zip a).1,aC5 hk]
  simp
 | p :: P,w :: vs,i+1,m,nd,h1,h2,hk=>by
  show bindL kindOf ((p,w) :: P.zip vs) m x=_
  unfold bindL
  exact aiq (i:=i) (aF3.mp nd).2 (by simpa using h1) (by simpa using h2) hk
theorem air {kindOf:Str->Option NameKind} {x:Str} {v:Value}:∀ {P:List Str} {vs:List Value} {i:Nat} {m:Str->Option Value},P.Nodup->P[i]?=some x->vs[i]?=some v->kindOf x ≠ some .local ->
  bindC kindOf (P.zip vs) m x=some v
 | [],_,_,_,_,h,_,_=>by simp at h
 | _ :: _,[],_,_,_,_,h,_=>by simp at h
 | p :: P,w :: vs,0,m,nd,h1,h2,hk=>by
  simp at h1 h2;subst h1;subst h2
  show bindC kindOf ((p,w) :: P.zip vs) m p=_
  unfold bindC
  rw [aip fun v a=>(aF3.mp nd).1 (List.of_mem_zip a).1,aC6 hk]
  simp
 | p :: P,w :: vs,i+1,m,nd,h1,h2,hk=>by
  show bindC kindOf ((p,w) :: P.zip vs) m x=_
  unfold bindC
  exact air (i:=i) (aF3.mp nd).2 (by simpa using h1) (by simpa using h2) hk
def start (N:List Str) (vs:List V):St:=vs.map some ++ List.replicate (N.length - vs.length) none
def cxOf (CX:CXT) (P:Program) (w:World) (K:Frag) (mg:Str->Option Value) (base:Heap) (N:List Str) (qual:Str) (scope:Scope) (f:Addr) (cd:Value) (A:Around) (outer:List Env) (s:Shared) (H:Hp) (E:XK):Cx where
 prog:=P
 w:=w
 K:=K
 mg:=mg
 base:=base
 A:=A.deeper (envOfC qual scope s.heap.objs.size f cd)
 N:=N
 s₀:=s
 H₀:=H
 env:=envOfC qual scope s.heap.objs.size f cd
 outer:=outer
 stack:=envOfC qual scope s.heap.objs.size f cd :: outer
 ex:=[]
 calm:=true
 fn:=fun _=>true
 pn:=[]
 xe:=fun e s'=>wpAny (model P w) (A.deeper (envOfC qual scope s.heap.objs.size f cd)) (leaving (envOfC qual scope s.heap.objs.size f cd) e) (fun _ s''=>CX outer H s E e s'') (fun e' s''=>CX outer H s E e' s'') s'
theorem akd {sc:Scope} {n:Nat} {x:Str} (h:sc.names.lookup x=some .cell):∃ c,(cellsFrom n sc.names []).lookup x=some c:=by
 have q:=PySem.W.cellsFrom_some sc.names n [] (.inl h)
 exact Option.isSome_iff_exists.mp q
theorem aov {CX:CXT} {P:Program} {w:World} {K:Frag} {mg:Str->Option Value} {base:Heap} {N ps:List Str} {qual:Str} {scope:Scope} {f:Addr} {C:Value} {A:Around} {outer:List Env} {s s1:Shared} {H:Hp} {E:XK} {us:List Value} {vs:List V}
  (S:FnScope N ps scope) (hd:A.handled=none) (g:Env0 P w K mg base A outer s H) (M:vs.length=ps.length) (r:Vals vs us)
  (x:InCallC s s.heap.objs.size (bindL (envOfC qual scope s.heap.objs.size f C).kindOf (ps.zip us) fun _=>none) (cellsFrom (s.heap.objs.size+1) scope.names []) (bindC (envOfC qual scope s.heap.objs.size f C).kindOf (ps.zip us) fun _=>none) s1) :
  Inv (cxOf CX P w K mg base N qual scope f C A outer s H E) [] (start N vs) H s1:=by
 have I:ps.length<=N.length:=by have:=congrArg List.length S.pre;rw [aE0] at this;omega
 obtain ⟨B,J,rfl,D⟩:=x.done
 have j:∀ b:Addr,b ∉ (cxOf CX P w K mg base N qual scope f C A outer s H E).ex:=fun b z=>absurd (show b∈([]:List Addr) from z) (by simp)
 refine ⟨⟨g.mod,S.kind,rfl,rfl,ay6 _,fun y z c B d=>?_,fun y l=>?_,fun y c _ h=>?_,fun _=>hd,Around.frames_deeper g.frames,.inr ⟨rfl,rfl⟩,fun b z=>absurd z (j b),g.bs,g.bsz,fun b _ _=>j b,fun b z=>absurd z (j b),g.funs,g.frf⟩,
  rfl,g.bare,Un.kept D,⟨_,x.toInCall.ns,fun i y v B d L=>?_⟩,fun y c h=>⟨_,x.cell y c h⟩,g.hok.fresh (ay6 _),fun y c h=>?_,fun p o=>absurd (show p∈([]:List (Addr × Obj)) from o) (by simp),g.hok.kept D,?_⟩
 ·exact name_of_addr x.apart (PySem.mem_of_lookup B) (PySem.mem_of_lookup d)
 ·have l:scope.names.lookup y=some .cell\/scope.names.lookup y=some .free:=l
  rcases l with l | l
  ·exact akd l
  ·exact absurd rfl (S.nofree _ (PySem.mem_of_lookup l))
 ·exact aD5 (x.above y c (PySem.mem_of_lookup h))
 ·have hi:i < vs.length:=by
   unfold start at d
   by_cases hi:i < vs.length
   ·exact hi
   ·rw [aA7 (by simpa using hi)] at d
    rw [aE7] at d
    split at d <;> cases d
  have ha:vs[i]?=some v:=by
   unfold start at d
   rw [aA2 (by simpa using hi),ay5] at d
   cases e:vs[i]? with
   | none=>rw [e] at d;cases d
   | some a=>rw [e] at d;cases d;rfl
  obtain ⟨u,F,G⟩:=r.get ha
  have o:ps[i]?=some y:=by
   rw [← S.pre,aE5 (by omega)];exact B
  have m:ps.Nodup:=by rw [← S.pre];exact S.nd.sublist (List.take_sublist _ _)
  refine ⟨u,G,?_⟩
  rcases S.par y (ay2 o) with k | k
  ·exact .inl ⟨k,aiq m o F k⟩
  ·obtain ⟨c,e⟩:=akd (n:=s.heap.objs.size+1) k
   refine .inr ⟨.inl k,c,e,?_⟩
   have q:=x.cell y c e
   rw [air m o F (by show scope.names.lookup y ≠ _;rw [k];decide)] at q
   exact q
 ·exact g.hok.fresh (aD5 (x.above y c (PySem.mem_of_lookup h)))
 ·unfold start
  show _=N.length
  rw [az0,ay3,List.length_replicate]
  omega
theorem axe {CX:CXT} {P:Program} {w:World} {K:Frag} {mg:Str->Option Value} {base:Heap} {k:Nat} {f:Addr} {name qual:Str} {a:Arguments} {body:List Stmt} {scope:Scope} {C kV doc pm cdv ct oc:Value} {an od:Option Addr}
  {osl:Array (Option Value)} {N ps:List Str} {sp:Sp} (M:K.lookup f=some ⟨oc,od,.func (fnOf name qual a body scope C kV doc pm an cdv ct),osl⟩) (l:codeIn K cdv qual=true) (S:FnScope N ps scope)
  (len:∀ vs H Q E,sp vs H Q E->vs.length=ps.length)
  (g:∀ (A:Around) (outer:List Env) (s:Shared) (H:Hp) (vs:List V) (Q:VK) (E:XK),Room k (A.deeper (envOfC qual scope s.heap.objs.size f cdv))->sp vs H Q E ->
   ∃ t,PSs (cxOf CX P w K mg base N qual scope f cdv A outer s H E) body t/\t { nx:=fun _ H'=>Q .non H',rt:=Q } (start N vs) H) :
  FnOk P w K mg base CX (k+1) f (fnOf name qual a body scope C kV doc pm an cdv ct) ps sp:=by
 refine ⟨len,fun A outer s H args us vs Q E B i hb r j=>?_⟩
 have T:=len _ _ _ _ j
 have D:K.In s.heap:=i.mod.kin.keeps fun b o e=>(i.bs b o e).1
 have p:s.heap.NoLimit:=i.mod.nolimit.keeps fun b o e=>(i.bs b o e).1
 have d:∀ y∈ps.zip us,scope.names.lookup y.1=some .local\/(scope.names.lookup y.1=some .cell/\((cellsFrom (s.heap.objs.size+1) scope.names []).lookup y.1).isSome=true):=fun ⟨n,v⟩ L=>by
  rcases S.par n (List.of_mem_zip L).1 with q | q
  ·exact .inl q
  ·exact .inr ⟨q,PySem.W.cellsFrom_some _ _ _ (.inl q)⟩
 refine codeAny_call_function B.depth (D _ _ M) rfl S.co S.gen rfl (PySem.W.codeRec_of D l) (hb _ _ _ _ ?_)
 refine wpAny_newFunctionEnv_cells S.kind d fun env R s1 x=>?_
 subst R
 refine ⟨p.keeps x.toInCall.keep,codeAny_func ?_⟩
 obtain ⟨t,F,O⟩:=g A outer s H vs Q E (B.deeper _) j
 have I:Inv (cxOf CX P w K mg base N qual scope f cdv A outer s H E) [] (start N vs) H s1:=aov S B.hd i T r x
 refine aG5 (F [] s1 (start N vs) H _ I O) (fun G m h=>?_) fun e m h=>h
 have fin:∀ {c:St} {H':Hp} {v:V} {u:Value},Inv (cxOf CX P w K mg base N qual scope f cdv A outer s H E) [] c H' m->RelV v u->Q v H'->CE outer P w H s Q u m :=
  fun {c H' v u} J z q=>⟨v,H',J.os,J.bare,J.base,J.hok,z,q⟩
 cases G with
 | ret u =>
  obtain ⟨v,c,H',J,z,q⟩:=h
  exact fin J z q
 | next =>
  obtain ⟨c,H',J,q⟩:=h
  exact fin (v:=V.non) (u:=Value.none) J rfl q
 | brk =>
  obtain ⟨_,_,_,q⟩:=h
  exact False.elim q
 | cont =>
  obtain ⟨_,_,_,q⟩:=h
  exact False.elim q
section
variable {X:Cx} {x:Str} {p pos:Pos} {e:Expr} {es:List Expr} {t:TA} {id T:String} {r:List V->Hp->VK->Prop}
def tCB (r:List V->Hp->VK->Prop) (t:TA):TE:=fun σ H Q=>t σ H fun vs H1=>r vs H1 Q
theorem aah (i:abc X (.builtin id) r) (c:Gl X x) (hm:X.mg x=none) (g:bootBuiltins x=some (.builtin id)) (ha:PA X (e :: es) t) (hn:x ≠ "__name__":=by decide) (a:(x == ("__debug__" : Str))=false:=by decide)
  (m:starEach (e :: es) X.env=(false,eval e X.env) :: starEach es X.env:=by rfl) (b:(backTo pos (starEach es X.env)).any (·.1)=false:=by rfl):PE X (.Call (.Name x p) (e :: es) [] pos) (tCB r t):=by
 intro pins s σ H Q I h
 refine wpAny_Call_Name_kw (ad3 I c hm g ?_ hn a)
 exact PyProof.Rows.callWith_builtin1 (thn (ha pos pins s σ H _ I h) fun us s1 ⟨vs,d,f,l,j⟩=>i pins s1 σ d vs us Q f l j) m b
theorem aow (i:abc X (.type T) r) (c:Gl X x) (hm:X.mg x=none) (g:bootBuiltins x=some (.type T)) (ha:PA X (e :: es) t) (hn:x ≠ "__name__":=by decide) (a:(x == ("__debug__" : Str))=false:=by decide)
  (m:starEach (e :: es) X.env=(false,eval e X.env) :: starEach es X.env:=by rfl) (b:(backTo pos (starEach es X.env)).any (·.1)=false:=by rfl):PE X (.Call (.Name x p) (e :: es) [] pos) (tCB r t):=by
 intro pins s σ H Q I h
 refine wpAny_Call_Name_kw (ad3 I c hm g ?_ hn a)
 exact PyProof.Rows.callWith_type1 (thn (ha pos pins s σ H _ I h) fun us s1 ⟨vs,d,f,l,j⟩=>i pins s1 σ d vs us Q f l j) m b
end
end L2
namespace HT
open PySem PyProof.Rows
def lexLt:List Int->List Int->Bool
 | [],[]=>false
 | [],_ :: _=>true
 | _ :: _,[]=>false
 | x :: xs,y :: ys=>if x=y then lexLt xs ys else decide (x < y)
theorem adx (x y:Int) (xs ys:List Int):lexLt (x :: xs) (y :: ys)=if x=y then lexLt xs ys else decide (x < y):=rfl
theorem ajd:lexLt [] []=false:=rfl
theorem ahw (y:Int) (ys:List Int):lexLt [] (y :: ys)=true:=rfl
theorem ahx (x:Int) (xs:List Int):lexLt (x :: xs) []=false:=rfl
theorem ap8 (A:Around) (s:Shared) (a:Int) (t:Tok) (c:Int) (u:Tok):∃ e,SeqAt.EqAt A s (.int a t) (.int c u) e/\(e=true ↔ a=c) :=
 ⟨(a == c),SeqAt.EqAt.int_int a t c u,by simp⟩
theorem ap9 (A:Around) (s:Shared) (a:Int) (t:Tok) (c:Int) (u:Tok) (prog:Program) (w:World) (E:Value->Shared->Prop) (Q:Value->Shared->Prop) (h:Q (.bool (decide (a < c))) s) :
  wpAny (model prog w) A (richCompare .Lt (.int a t) (.int c u)) Q E s :=
 (PyProof.Rows.lt_int h:wpAny (model prog w) A (compareOp .Lt (.int a t) (.int c u)) Q E s)
section
open PySem.SeqAt
open PySem.AutoSeq1 (wpAny_loadPart')
open PySem.MeetsSeq PySem.MeetsSeq2 PySem.MeetsSeq3
theorem aje (l b:Addr) (i f:Array Value) (n Q:Nat) (dd H:Option Addr) (sl K:Array (Option Value)) (ns F:List Int) (hi:IntsAre i.toList ns) (L:IntsAre f.toList F) :
  Meets (Builtin.«tuple.__lt__» ⟨[.ref l,.ref b],[]⟩)
   (fun _ R s=>s.heap.get? l=some { cls:=.type "tuple",dict:=dd,data:=.seq i n,slots:=sl }/\s.heap.get? b=some { cls:=.type "tuple",dict:=H,data:=.seq f Q,slots:=K } /\
    R (.ok (.ret (.bool (lexLt ns F)))) s) :=
 .of_wp fun prog w A R s h=>by
  obtain ⟨E,g,d,D,os⟩:=s;obtain ⟨S,hb,h⟩:=h
  have U:=AutoSeq1.sub_tuple_tuple
  have X:i.size=ns.length:=by rw [← hi.length];simp
  have Y:f.size=F.length:=by rw [← L.length];simp
  wp_walk using wpAny_loadPart' S,wpAny_loadPart' hb,wpAny_forIn_list _ (fun rest b G=>b.1=none/\G=⟨E,g,d,D,os⟩/\∃ (vs ws:List Value) (m o:List Int),rest=vs.zip ws /\
   IntsAre vs m/\IntsAre ws o/\m.length+f.size=o.length+i.size/\R (.ok (.ret (.bool (lexLt m o)))) ⟨E,g,d,D,os⟩) _
  case turn =>
   rintro ⟨y,x⟩ rest b G ⟨z,rfl,vs,ws,m,o,hz,B,p,j,v⟩
   cases B with
   | nil=>rw [List.zip_nil_left] at hz;cases hz
   | cons a t hvi' =>
    cases p with
    | nil=>rw [List.zip_nil_right] at hz;cases hz
    | cons c u hwi' =>
     rw [List.zip_cons_cons] at hz
     injection hz with I C
     injection I with N P
     subst N P
     rw [adx] at v
     simp only [aB9] at j
     obtain ⟨e,O,r⟩:=ap8 A.in1 ⟨E,g,d,D,os⟩ a t c u
     refine aF8 (O prog w _ _ ?_)
     cases e with
     | true =>
      rw [aC5 (r.mp rfl)] at v
      wp_walk
      exact ⟨rfl,rfl,_,_,_,_,C,hvi',hwi',by omega,v⟩
     | false =>
      rw [aC6 (fun q=>absurd (r.mpr q) ay9)] at v
      have J:=ap9 A.in1 ⟨E,g,d,D,os⟩ a t c u prog w
      wp_walk using J
      exact ⟨_,rfl,by simpa using v⟩
  case fin =>
   rintro ⟨W,T⟩ G ⟨z,rfl,vs,ws,m,o,hz,B,p,j,v⟩
   simp only at z
   subst z
   have M:lexLt m o=decide (i.size < f.size):=by
    cases B with
    | nil =>
     cases p with
     | nil =>
      simp only [aF7] at j
      rw [ajd]
      exact (aB4 (by omega)).symm
     | cons c u hw =>
      simp only [aF7,aB9] at j
      rw [ahw]
      exact (aB5 (by omega)).symm
    | cons a t M =>
     cases p with
     | nil =>
      simp only [aF7,aB9] at j
      rw [ahx]
      exact (aB4 (by omega)).symm
     | cons c u hw =>
      rw [List.zip_cons_cons] at hz
      cases hz
   rw [M] at v
   wp_walk
   exact ⟨_,rfl,by simpa [Builtin.Tuple.tupleCompareSizes] using v⟩
  case h =>
   exact ⟨rfl,rfl,i.toList,f.toList,ns,F,rfl,hi,L,by omega,h⟩
end
section
variable {prog:Program} {w:World} {A:Around} {E:Value->Shared->Prop} {s:Shared}
theorem lt_tupInts {l b:Addr} {c a:Array Value} {ns i:List Int} {Q:Value->Shared->Prop} (z:IsTup s.heap l c) (hb:IsTup s.heap b a) (hi:IntsAre c.toList ns) (u:IntsAre a.toList i)
  (y:A.units < cLine) (h:Q (.bool (lexLt ns i)) s):wpAny (model prog w) A (compareOp .Lt (.ref l) (.ref b)) Q E s:=by
 obtain ⟨⟨cls,dd,data,sl⟩,p,r,n,hd⟩:=id z
 obtain ⟨⟨q,j,m,o⟩,d,g,v,f⟩:=id hb
 simp only at r hd g f
 subst r hd g f
 exact richCompare_meets_room (op:=.Lt) ⟨_,p,rfl⟩ ⟨_,d,rfl⟩ PySem.F.slot_tuple_lt PySem.F.entry_tuple_lt (PySem.F.args_tuple_lt_2 _ _) (aje l b c a n v dd j sl o ns i hi u)
  ⟨p,d,show Value.bool (lexLt ns i) ≠ Value.notImplemented/\Q (.bool (lexLt ns i)) s from ⟨(fun x=>nomatch x),h⟩⟩ y
def sIx (n d:Nat):Option Int->Nat
 | none=>d
 | some v=>if v < 0 then (v+(n:Int)).toNat else min v.toNat n
theorem sIx_none (n d:Nat):sIx n d none=d:=rfl
theorem sIx_nat (n d k:Nat):sIx n d (some (k:Int))=min k n:=by
 show (if (k:Int) < 0 then ((k:Int)+(n:Int)).toNat else min (k:Int).toNat n)=min k n
 rw [aC6 (by omega),Int.toNat_natCast]
end
end HT
namespace L2
open PySem PySem.Spec PyProof.Rows
abbrev TO:=St->Hp->(Option Int->Hp->Prop)->Prop
def PO (X:Cx) (e:Option Expr) (t:TO):Prop :=
 ∀ (pins:List (Addr × Obj)) (s:Shared) (σ:St) (H:Hp) (Q:Option Int->Hp->Prop),Inv X pins σ H s->t σ H Q ->
  wpAny (model X.prog X.w) X.A (evalPart e X.env) (fun u s'=>∃ o H',Inv X pins σ H' s'/\IsPart u o/\Q o H') X.xe s
def ami:TO:=fun _ H Q=>Q none H
def ar5 (t:TE):TO:=fun σ H Q=>t σ H fun x H1=>∃ i,x=.int i/\Q (some i) H1
theorem abp {ns:List Int}:∀ {us:List Value},Vals (ns.map V.int) us->IntsAre us ns:=by
 induction ns with
 | nil=>intro us r;rw [List.map_nil] at r;cases r;exact .nil
 | cons n ns ih =>
  intro us r
  rw [aB0] at r
  cases r with
  | cons r1 r2 =>
   obtain ⟨t,e⟩:=r1
   subst e
   exact .cons n t (ih r2)
section
variable {X:Cx} {e:Expr} {te:TE} {lo hi:Option Expr} {tl th:TO} {pos p2:Pos}
theorem asq:PO X none ami:=by
 intro pins s σ H Q I h
 rw [evalPart_none]
 exact aF9 ⟨none,H,I,.none,h⟩
theorem ahy (h:PE X e te):PO X (some e) (ar5 te):=by
 intro pins s σ H Q I f
 rw [evalPart_some]
 refine thn (h pins s σ H _ I f) fun u s1 ⟨x,a,b,d,c⟩=>?_
 obtain ⟨i,rfl,q⟩:=c
 obtain ⟨t,rfl⟩:=d
 exact ⟨some i,a,b,.int i t,q⟩
def SlR (X:Cx) (r:V->Option Int->Option Int->Hp->VK->Prop):Prop :=
 ∀ (pins:List (Addr × Obj)) (s:Shared) (σ:St) (H:Hp) (x:V) (v vl vu:Value) (lo hi:Option Int) (sl:Addr) (Q:VK),Inv X pins σ H s->RelV x v->s.heap.IsSliceOf sl vl vu .none->IsPart vl lo->IsPart vu hi->r x lo hi H Q ->
  ∃ T id,typeLookup (.type T) "__getitem__" = pure (some (.builtin id))/\s.TypeIs v T/\wpAny (model X.prog X.w) X.A (getItem v (.ref sl)) (EP X pins σ Q) X.xe s
def tSl (r:V->Option Int->Option Int->Hp->VK->Prop) (te:TE) (tl th:TO):TE:=fun σ H Q=>te σ H fun x H1=>tl σ H1 fun l H2=>th σ H2 fun u H3=>r x l u H3 Q
theorem ake {r:V->Option Int->Option Int->Hp->VK->Prop} (K:SlR X r) (D:PE X e te) (G:PO X lo tl) (E:PO X hi th):PE X (.Subscript e (.Slice lo hi none p2) pos) (tSl r te tl th):=by
 intro pins s σ H Q I h
 refine Subscript_ (thn (D pins s σ H _ I h) fun v s1 ⟨x,g,m,C,y⟩=>?_)
 refine wpAny_Slice (thn (G pins s1 σ g _ m y) fun d s2 ⟨l,H2,i,B,n⟩=>thn (E pins s2 σ H2 _ i n) fun c a ⟨u,H3,p,o,J⟩=>?_)
 rw [evalPart_none]
 refine aF9 ?_
 have F:Inv X pins σ H3 { a with heap:=a.heap.push { cls:=.type "slice",data:=.fields #[d,c,.none] } }:=p.kept (t':=a.toks) fun b L q=>aG0 _ q
 obtain ⟨T,id,z,j,f⟩:=K pins { a with heap:=a.heap.push { cls:=.type "slice",data:=.fields #[d,c,.none] } } σ H3 x v d c l u a.heap.objs.size Q F C (Heap.IsSliceOf.new ..) B o J
 show wpAny (model X.prog X.w) X.A (subscriptTail e (.Slice lo hi none p2) v (.ref a.heap.objs.size)) (EP X pins σ Q) X.xe { a with heap:=a.heap.push { cls:=.type "slice",data:=.fields #[d,c,.none] } }
 exact tail_any (ops:=[.ref a.heap.objs.size,v]) j z f (by with_unfolding_all rfl)
def cutV (xs:List V) (lo hi:Option Int):List V:=(xs.drop (HT.sIx xs.length 0 lo)).take (HT.sIx xs.length xs.length hi - HT.sIx xs.length 0 lo)
theorem al3 (xs:List V) (lo hi:Option Int):(cutV xs lo hi).length<=xs.length:=by
 unfold cutV
 rw [aE0,List.length_drop]
 omega
def rLtT (K:Frag):R2:=fun x y H Q=>∃ a b ns ms,x=.ref a/\y=.ref b/\SqT K H a (ns.map V.int)/\SqT K H b (ms.map V.int)/\Q (.bl (HT.lexLt ns ms)) H
theorem ave (n:X.A.units < cLine):OpR X (compareOp .Lt) (rLtT X.K):=by
 intro pins s σ H x y v u Q I j g h
 obtain ⟨a,b,ns,d,rfl,rfl,ha,hb,q⟩:=h
 cases j
 cases g
 obtain ⟨its,l,o,_⟩:=I.tuple ha
 obtain ⟨c,f,p2,_⟩:=I.tuple hb
 have i:IntsAre its.toArray.toList ns:=abp l
 have m:IntsAre c.toArray.toList d:=abp f
 exact HT.lt_tupInts o p2 i m n ⟨.bl (HT.lexLt ns d),H,I,rfl,q⟩
end
def ixN (n:Nat) (i:Int):Option Nat:=if 0<=i then (if i < n then some i.toNat else none) else if -(n:Int)<=i then some (i+n).toNat else none
def atI {α:Type} (xs:List α) (i:Int):Option α:=(ixN xs.length i).bind fun j=>xs[j]?
theorem amj {n:Nat} {i:Int} {j:Nat} (h:ixN n i=some j):seqIndex? i n=some j/\j < n/\-(n:Int)<=i/\i < n:=by
 unfold ixN at h
 by_cases h0:0<=i
 ·rw [aC5 h0] at h
  by_cases h1:i < n
  ·rw [aC5 h1] at h
   have e:i.toNat=j:=aA5 h
   exact ⟨by rw [seqIndex_of h0 h1,e],by omega,by omega,h1⟩
  ·rw [aC6 h1] at h;cases h
 ·rw [aC6 h0] at h
  by_cases h1 : -(n:Int)<=i
  ·rw [aC5 h1] at h
   have e:(i+n).toNat=j:=aA5 h
   exact ⟨by rw [seqIndex_neg (by omega) h1,e],by omega,h1,by omega⟩
  ·rw [aC6 h1] at h;cases h
theorem amk {α:Type} {xs:List α} {i:Int} {v : α} (h:atI xs i=some v):∃ j,seqIndex? i xs.length=some j/\xs[j]?=some v/\j < xs.length/\-(xs.length:Int)<=i/\i < xs.length:=by
 unfold atI at h
 cases e:ixN xs.length i with
 | none=>rw [e] at h;cases h
 | some j =>
  rw [e] at h
  obtain ⟨d,b,a,c⟩:=amj e
  exact ⟨j,d,h,b,a,c⟩
theorem aeu {α:Type} {xs:List α} {j:Nat} {v : α} (h:xs[j]?=some v):atI xs (j:Int)=some v:=by
 have a:j < xs.length:=(ay1.mp h).1
 have e:ixN xs.length (j:Int)=some j:=by
  unfold ixN
  rw [aC5 (by omega),aC5 (by omega)];simp
 unfold atI;rw [e];exact h
def asr (b:Expr):Prop:=∀ o i,subscripted b false o i=operate [o,i] (getItem o i)
def IxR (X:Cx) (r:R2):Prop :=
 ∀ (value slice:Expr) (pins:List (Addr × Obj)) (s:Shared) (σ:St) (H:Hp) (x y:V) (v u:Value) (Q:VK),Inv X pins σ H s->RelV x v->RelV y u->r x y H Q ->
  subscripted slice false v u=operate [v,u] (getItem v u)->wpAny (model X.prog X.w) X.A (subscriptTail value slice v u) (EP X pins σ Q) X.xe s
def MtR (X:Cx) (id:String) (r:V->List V->Hp->VK->Prop):Prop :=
 ∀ (pins:List (Addr × Obj)) (s:Shared) (σ:St) (H:Hp) (x:V) (xs:List V) (v:Value) (us:List Value) (Q:VK),Inv X pins σ H s->RelV x v->Vals xs us->r x xs H Q ->
  wpAny (model X.prog X.w) X.A (call (.builtin id) (v :: us)) (EP X pins σ Q) X.xe s
section
variable {X:Cx} {a b:Expr} {ta tb:TE} {pos:Pos}
theorem IxR.or {r d:R2} (h:IxR X r) (h':IxR X d):IxR X (fun x y H Q=>r x y H Q\/d x y H Q):=by
 intro b a pins s σ H x y v u Q I f c q g
 rcases q with q | q
 ·exact h b a pins s σ H x y v u Q I f c q g
 ·exact h' b a pins s σ H x y v u Q I f c q g
theorem aal {r:R2} (i:IxR X r) (ha:PE X a ta) (hb:PE X b tb) (g:asr b):PE X (.Subscript a b pos) (tOp r ta tb):=by
 intro pins s σ H Q I h
 exact Subscript_ (binT ha hb I h fun v u s2 x y H2 d f c q=>i a b pins s2 σ H2 x y v u Q d f c q (g _ _))
def rIxL (K:Frag):R2:=fun x y H Q=>∃ p xs i v,x=.ref p/\y=.int i/\SqL K H p xs/\atI xs i=some v/\Q v H
def rIxT (K:Frag):R2:=fun x y H Q=>∃ p xs i v,x=.ref p/\y=.int i/\SqT K H p xs/\atI xs i=some v/\Q v H
theorem ix_list:IxR X (rIxL X.K):=by
 intro g c pins s σ H x y v u Q I A n h m
 obtain ⟨p,xs,i,z,rfl,rfl,C,D,q⟩:=h
 cases A
 obtain ⟨t,rfl⟩:=n
 obtain ⟨its,r,d,hz⟩:=I.list C
 obtain ⟨j,a,B,J,G,E⟩:=amk D
 obtain ⟨w,l,f⟩:=r.get B
 have F:=r.length
 have hn:=afj
 have fin:EP X pins σ Q w s:=⟨z,H,I,f,q⟩
 by_cases h0:0<=i
 ·have b:i.toNat=j:=by
   rw [seqIndex_of h0 E] at a
   exact aA5 a
  exact item_listR d.isList h0 (by omega) (by rw [b];simpa using l) fin m
 ·have b:(i+(its.toArray.size:Int)).toNat=j:=by
   rw [seqIndex_neg (by omega) G] at a
   rw [az1,← F]
   exact aA5 a
  exact subscriptTail_builtinR (x:=w) d.isList.typeIs slot_list_getitem.lookup
   (wpAny_getItem_list_neg (Q:=fun r o=>r=w/\EP X pins σ Q r o) d.isList (by omega) (by rw [az1] <;> omega) (by omega) (by rw [b];simpa using l) ⟨rfl,fin⟩) m
theorem avf:IxR X (rIxT X.K):=by
 intro c a pins s σ H x y v u Q I m f h B
 obtain ⟨p,xs,i,z,rfl,rfl,o,C,q⟩:=h
 cases m
 obtain ⟨t,rfl⟩:=f
 obtain ⟨its,r,d,hz⟩:=I.tuple o
 obtain ⟨j,g,n,E,G,F⟩:=amk C
 obtain ⟨w,A,b⟩:=r.get n
 have D:=r.length
 have hn:=afj
 have fin:EP X pins σ Q w s:=⟨z,H,I,b,q⟩
 exact subscriptTail_builtinR (x:=w) d.typeIs slot_tuple_getitem.lookup
  (getItem_tuple (j:=j) (Q:=fun r l=>r=w/\EP X pins σ Q r l) d (by omega) (by omega) (by rw [az1,← D];exact g) (by simpa using A) ⟨rfl,fin⟩) B
theorem anu (its:List Value) (n j:Nat) (u:Value):Obj.mapSeq (·.setIfInBounds j u) { cls:=.type "list",data:=.seq its.toArray n }={ cls:=.type "list",data:=.seq (its.set j u).toArray n }:=by
 simp [Obj.mapSeq]
theorem Inv.lst {pins:List (Addr × Obj)} {σ:St} {H:Hp} {s:Shared} {p:Addr} {xs:List V} (I:Inv X pins σ H s) (h:H p=some (.lst xs)) :
  ∃ (its:List Value) (n:Nat),Vals xs its/\s.heap.get? p=some { cls:=.type "list",data:=.seq its.toArray n }/\xs.length<=sizeLine:=by
 obtain ⟨z,its,n,r,e⟩:=I.hok p _ h
 exact ⟨its,n,r,e,z⟩
theorem Inv.lstUpd {pins:List (Addr × Obj)} {σ:St} {H:Hp} {s:Shared} {p:Addr} {xs ys:List V} {its its':List Value} {n a:Nat} {f:Obj->Obj} (I:Inv X pins σ H s) (h:H p=some (.lst xs))
  (c:s.heap.get? p=some { cls:=.type "list",data:=.seq its.toArray n }) (hf:f { cls:=.type "list",data:=.seq its.toArray n }={ cls:=.type "list",data:=.seq its'.toArray a }) (r:Vals ys its') (hz:ys.length<=sizeLine) (t:Nat) :
  Inv X pins σ (upd H p (.lst ys)) { s with heap:=s.heap.update p f,toks:=t }:=by
 have e:(s.heap.update p f).get? p=some { cls:=.type "list",data:=.seq its'.toArray a }:=by
  rw [Heap.get?_update_self f c (by rw [hf] <;> rfl),hf]
 refine I.write (x:=p) (e:=p) (by rw [h];trivial) (.inl rfl) (fun b u hb q=>(Heap.get?_update_other _ _ (Ne.symm hb)).trans q) ⟨_,e⟩ ?_
 exact ⟨hz,its',a,r,e⟩
def anv:V->V->V->Hp->(Hp->Prop)->Prop:=fun o i v H Q=>∃ p xs k j,o=.ref p/\i=.int k/\H p=some (.lst xs)/\ixN xs.length k=some j/\Q (upd H p (.lst (xs.set j v)))
theorem ad8:PSet X anv:=by
 intro pins s σ H o i v B C u Q I y z x h
 obtain ⟨p,xs,k,j,rfl,rfl,g,w,q⟩:=h
 cases y
 obtain ⟨t,rfl⟩:=z
 obtain ⟨its,n,r,b,hz⟩:=I.lst g
 obtain ⟨a,A,l,f⟩:=amj w
 have d:=r.length
 have hn:=afj
 have m:Inv X pins σ (upd H p (.lst (xs.set j v))) { s with heap:=s.heap.update p (Obj.mapSeq (·.setIfInBounds j u)) } :=
  I.lstUpd g b (anu its n j u) (r.set x j) (by rw [List.length_set];exact hz) s.toks
 by_cases h0:0<=k
 ·have c:k.toNat=j:=by
   rw [seqIndex_of h0 f] at a
   exact aA5 a
  exact PySem.W.ki_setAt b h0 (by omega) (by rw [az1,← d];exact f) (by rw [c];exact ⟨_,m,q⟩)
 ·have c:(k+(its.toArray.size:Int)).toNat=j:=by
   rw [seqIndex_neg (by omega) l] at a
   rw [az1,← d]
   exact aA5 a
  exact PySem.W.ki_setBack b (by omega) (by rw [az1,← d];exact l) (by omega) (by rw [c];exact ⟨_,m,q⟩)
theorem akf (lo hi:Option Int) (n:Nat):(sliceBounds lo hi none n).1=((HT.sIx n 0 lo:Nat):Int)/\(sliceBounds lo hi none n).2.1=((HT.sIx n n hi:Nat):Int)/\(sliceBounds lo hi none n).2.2=1:=by
 refine ⟨?_,?_,rfl⟩
 ·cases lo with
  | none=>simp [sliceBounds,HT.sIx]
  | some i =>
   simp only [sliceBounds,HT.sIx,Option.getD_none,show (1:Int) > 0 by decide,if_true]
   by_cases h:i < 0
   ·simp only [h,if_true] <;> omega
   ·simp only [h,if_false] <;> omega
 ·cases hi with
  | none=>simp [sliceBounds,HT.sIx]
  | some i =>
   simp only [sliceBounds,HT.sIx,Option.getD_none,show (1:Int) > 0 by decide,if_true]
   by_cases h:i < 0
   ·simp only [h,if_true] <;> omega
   ·simp only [h,if_false] <;> omega
theorem ajf (its:List Value) (lo hi:Option Int):slicePick its.toArray lo hi none=((its.drop (HT.sIx its.length 0 lo)).take (HT.sIx its.length its.length hi - HT.sIx its.length 0 lo)).toArray:=by
 obtain ⟨c,b,a⟩:=akf lo hi its.toArray.size
 unfold slicePick
 rw [c,b,a]
 simp only [sliceRange_one,pick_run,az1] <;> rfl
def rSlL (K:Frag):V->Option Int->Option Int->Hp->VK->Prop:=fun x lo hi H Q=>∃ a xs,x=.ref a/\SqL K H a xs/\∀ p,H p=none->Q (.ref p) (upd H p (.lst (cutV xs lo hi)))
theorem aml:SlR X (rSlL X.K):=by
 intro pins s σ H x v p m lo hi sl Q I g j i f h
 obtain ⟨a,xs,rfl,l,q⟩:=h
 cases g
 obtain ⟨its,r,d,hz⟩:=I.list l
 have c:=r.length
 refine ⟨"list",_,slot_list_getitem.lookup,d.isList.typeIs,?_⟩
 refine wpAny_getItem_list_slice d.isList j i f .none (by simp) ?_ (by rw [az1] <;> omega)
 rw [ajf,← c]
 refine ⟨.ref s.heap.objs.size,_,I.laid (t':=s.toks) (o:=.lst (cutV xs lo hi)) (fun b n q=>aG0 _ q) (ay6 _) ?_,rfl,q _ (I.hok.fresh (ay6 _))⟩
 exact ⟨aA9 (al3 xs lo hi) hz,_,0,(r.drop (HT.sIx xs.length 0 lo)).take (HT.sIx xs.length xs.length hi - HT.sIx xs.length 0 lo),aG2 _ rfl⟩
theorem akg:abc X (.builtin "len") (fun xs H Q=>∃ p ys,xs=[.ref p]/\(SqL X.K H p ys\/SqT X.K H p ys)/\Q (.int ys.length) H):=by
 intro pins s σ H xs us Q I r h
 obtain ⟨p,ys,rfl,b,q⟩:=h
 obtain ⟨u,rfl,f⟩:=acz r
 cases f
 have hn:=afj
 rcases b with b | b
 ·obtain ⟨its,c,d,hz⟩:=I.list b
  have a:=c.length
  exact Calls.call_len_list d.isList (by simp only [az1] <;> omega) ⟨.int ys.length,H,I.tok _,⟨s.toks+1,by rw [az1,a]⟩,q⟩
 ·obtain ⟨its,c,d,hz⟩:=I.tuple b
  have a:=c.length
  exact len_tuple d (by simp only [az1] <;> omega) ⟨.int ys.length,H,I.tok _,⟨s.toks+1,by rw [az1,a]⟩,q⟩
def tyV (K:Frag) (T:String) (x:V) (H:Hp):Prop:=match x with
 | .str _=>T = "str"
 | .int _=>T = "int"
 | .ref p=>(T = "list"/\∃ xs,SqL K H p xs)\/(T = "tuple"/\∃ o,K.lookup p=some o/\o.cls=.type "tuple"/\o.dict=none) ∨
   (T = "dict"/\((∃ kvs,H p=some (.dK kvs))\/∃ kvs,H p=some (.dT kvs)))\/(T = "set"/\∃ S n,H p=some (.set S n))
 | _=>False
theorem avg {pins:List (Addr × Obj)} {σ:St} {H:Hp} {s:Shared} {T:String} {x:V} {v:Value} (I:Inv X pins σ H s) (r:RelV x v) (ty:tyV X.K T x H) :
  s.TypeIs v T/\∀ a,v=.ref a->∃ f,s.heap.get? a=some f/\f.dict=none:=by
 cases x with
 | str z =>
  obtain ⟨t,rfl⟩:=r
  cases (show T = "str" from ty)
  exact ⟨typeIs_str s z t,fun _ e=>nomatch e⟩
 | int i =>
  obtain ⟨t,rfl⟩:=r
  cases (show T = "int" from ty)
  exact ⟨typeIs_int s i t,fun _ e=>nomatch e⟩
 | ref p =>
  cases r
  rcases ty with ⟨rfl,xs,j⟩ | ⟨rfl,o,b,h,hd⟩ | ⟨rfl,b⟩ | ⟨rfl,S,n,b⟩
  ·obtain ⟨its,_,g,_⟩:=I.list j
   refine ⟨g.isList.typeIs,fun a e=>?_⟩
   cases e
   obtain ⟨o,n,e,c,hd,_⟩:=g
   exact ⟨o,e,hd⟩
  ·refine ⟨⟨o,I.kIn p o b,h⟩,fun a e=>?_⟩
   cases e
   exact ⟨o,I.kIn _ o b,hd⟩
  ·have z:∃ o,s.heap.get? p=some o/\o.ExactDict:=by
    rcases b with ⟨kvs,b⟩ | ⟨kvs,b⟩
    ·obtain ⟨_,_,_,_,o,_,_,e,ex,_⟩:=I.hok p _ b
     exact ⟨o,e,ex⟩
    ·obtain ⟨_,_,_,_,o,_,_,e,ex,_⟩:=I.hok p _ b
     exact ⟨o,e,ex⟩
   obtain ⟨o,e,ex⟩:=z
   refine ⟨⟨o,e,ex.1⟩,fun a d=>?_⟩
   cases d
   exact ⟨o,e,ex.2.1⟩
  ·obtain ⟨o,_,_,_,e,ex,_⟩:=I.hok p _ b
   refine ⟨⟨o,e,ex.1⟩,fun a d=>?_⟩
   cases d
   exact ⟨o,e,ex.2.1⟩
 | _=>exact False.elim ty
def tBM (K:Frag) (T:String) (r:V->List V->Hp->VK->Prop) (to:TE) (t:TA):TE:=fun σ H Q=>to σ H fun x H1=>tyV K T x H1/\t σ H1 fun xs H2=>r x xs H2 Q
variable {o e:Expr} {es:List Expr} {to:TE} {t:TA} {name:Str} {apos cpos:Pos} {T id:String} {r:V->List V->Hp->VK->Prop}
theorem aeh (B:PlainAttrs T) (slot:Slot T name id) (g:typeOf (.builtin id)=pure (.type "method_descriptor")) (hm:MtR X id r) (u:PE X o to) (ha:PA X (e :: es) t)
  (d:attributeBase o name X.env (eval o X.env)=eval o X.env:=by rfl)
  (f:((backTo cpos (starEach (e :: es) X.env)).all (fun x => !x.1) && (backToKw cpos (keywordEach [] X.env)).all (fun x=>x.1.isSome)
   && decide ((e :: es).length+([]:List Keyword).length+(if ([]:List Keyword).isEmpty then 0 else 1) < 30))=true:=by rfl)
  (c:(apos.endLine == cpos.line)=true:=by rfl) (A:starEach (e :: es) X.env=(false,eval e X.env) :: starEach es X.env:=by rfl) (b:(backTo cpos (starEach es X.env)).any (·.1)=false:=by rfl) :
  PE X (.Call (.Attribute o name apos) (e :: es) [] cpos) (tBM X.K T r to t):=by
 intro pins s σ H Q I h
 refine wpAny_Call_method_late d f c rfl (thn (u pins s σ H _ I h) fun v s1 ⟨x,m,i,j,ty,y⟩=>?_)
 obtain ⟨q,z⟩:=avg i j ty
 refine ⟨T,id,B,slot,g,q,z,?_⟩
 have l:=ha cpos pins s1 σ m _ i y
 rw [A] at l ⊢
 refine Calls.callWith_builtin (by show (false || (backTo cpos (starEach es X.env)).any (·.1))=false;rw [b] <;> rfl) (Calls.evalArgs_plain ?_)
 exact thn l fun us s2 ⟨vs,H2,p,n,w⟩=>hm pins s2 σ H2 x vs v us Q p j n w
/- xs.append(e), list.index on a module's tuple .. are MtR facts of 06m -/
end
def MtM (X:Cx) (id:String) (r:V->List V->Hp->VK->Prop):Prop :=
 ∀ (pins:List (Addr × Obj)) (s:Shared) (σ:St) (H:Hp) (x:V) (xs:List V) (v:Value) (us:List Value) (Q:VK),Inv X pins σ H s->RelV x v->Vals xs us->r x xs H Q ->
  wpAny (model X.prog X.w) X.A (call (.builtin id) (v :: us)) (EP X pins σ Q) X.xe s
theorem Vals.one:∀ {x:V} {us:List Value},Vals [x] us->∃ u,us=[u]/\RelV x u
 | _,_,.cons r .nil=>⟨_,rfl,r⟩
theorem Vals.eraseIdx:∀ {xs:List V} {us:List Value} (i:Nat),Vals xs us->Vals (xs.eraseIdx i) (us.eraseIdx i)
 | _,_,_,.nil => .nil
 | _,_,0,.cons _ t=>t
 | _,_,i+1,.cons r t => .cons r (Vals.eraseIdx i t)
theorem Vals.reverse {xs:List V} {us:List Value} (h:Vals xs us):Vals xs.reverse us.reverse:=by
 induction h with
 | nil=>exact .nil
 | cons r t ih=>rw [List.reverse_cons,List.reverse_cons];exact Vals.append ih (.cons r .nil)
theorem Vals.rep {xs:List V} {us:List Value} (h:Vals xs us):∀ k:Nat,Vals (List.replicate k xs).flatten (List.replicate k us).flatten
 | 0 => .nil
 | k+1=>by
  rw [aE3,aE3,List.flatten_cons,List.flatten_cons]
  exact Vals.append h (Vals.rep h k)
theorem ais {α:Type}:∀ (l:List α) (i:Nat),(l.eraseIdx i).length<=l.length
 | [],_=>ay6 _
 | _ :: _,0=>Nat.le_succ _
 | _ :: r,i+1=>Nat.succ_le_succ (ais r i)
theorem ait (its:List Value):∀ (k:Nat) (a:List Value),
  List.foldl (fun d c=>d ++ c) a.toArray (List.replicate k its.toArray)=(a ++ (List.replicate k its).flatten).toArray
 | 0,a=>by simp
 | k+1,a=>by
  have e:a.toArray ++ its.toArray=(a ++ its).toArray:=by simp
  have b:(a ++ its) ++ (List.replicate k its).flatten=a ++ (List.replicate (k+1) its).flatten:=by
   rw [aE3,List.flatten_cons,az3]
  rw [← b,← ait its k (a ++ its),← e,aE3,List.foldl_cons]
section
variable {X:Cx} {pins:List (Addr × Obj)} {σ:St} {H:Hp} {s:Shared} {l b:Addr} {xs ys zs:List V}
theorem Inv.lset {its its':List Value} {n:Nat} {f:Array Value->Array Value} {t':Nat} (I:Inv X pins σ H s) (a:H l=some (.lst xs))
  (e:s.heap.get? l=some { cls:=.type "list",data:=.seq its.toArray n }) (hf:f its.toArray=its'.toArray) (b:Vals ys its') (hz:ys.length<=sizeLine) :
  Inv X pins σ (upd H l (.lst ys)) { s with heap:=s.heap.update l (Obj.mapSeq f),toks:=t' }:=by
 have q:=PySem.IsL.update e f
 rw [hf] at q
 refine I.write (x:=l) (e:=l) (by rw [a];exact trivial) (.inl rfl) (fun d u hb c=>(Heap.get?_update_other s.heap (Obj.mapSeq f) (Ne.symm hb)).trans c) ⟨_,q⟩ ?_
 exact ⟨hz,its',_,b,q⟩
theorem Inv.lnew {its:List Value} {t':Nat} (I:Inv X pins σ H s) (a:Vals ys its) (hz:ys.length<=sizeLine) :
  Inv X pins σ (upd H s.heap.objs.size (.lst ys)) { s with heap:=s.heap.push { cls:=.type "list",data:=.seq its.toArray },toks:=t' } :=
 I.laid (fun _ _ q=>aG0 _ q) (ay6 _) ⟨hz,its,0,a,aG2 _ rfl⟩
theorem Inv.fresh (I:Inv X pins σ H s):H s.heap.objs.size=none:=I.hok.fresh (ay6 _)
theorem Inv.lstM (I:Inv X pins σ H s) (a:H l=some (.lst xs)):xs.length<=sizeLine/\∃ (its:List Value) (n:Nat),Vals xs its/\xs.length=its.length/\s.heap.get? l=some { cls:=.type "list",data:=.seq its.toArray n }:=by
 obtain ⟨z,its,n,r,e⟩:=I.hok l _ a
 exact ⟨z,its,n,r,r.length,e⟩
theorem akh {n:Nat} (h:n<=sizeLine):Builtin.List.listTooLong n=false:=by
 unfold Builtin.List.listTooLong
 exact aB4 (by omega)
end
section
variable {X:Cx}
def aev:V->List V->Hp->VK->Prop:=fun x vs H Q=>∃ l xs y,x=.ref l/\vs=[y]/\H l=some (.lst xs)/\xs.length < sizeLine/\Q .non (upd H l (.lst (xs ++ [y])))
theorem acm:MtM X "list.append" aev:=by
 intro pins s σ H x vs v us Q I b c h
 obtain ⟨l,xs,y,rfl,rfl,a,hz,q⟩:=h
 cases b
 obtain ⟨u,rfl,d⟩:=c.one
 obtain ⟨z,its,n,r,f,e⟩:=I.lstM a
 refine call_meets F.slot_list_append ⟨_,e,rfl⟩ F.entry_list_append (F.args_list_append_2 _ _) (PySem.list_append l its.toArray n u (by rw [az1];omega)) ⟨e,?_⟩
 refine ⟨.non,_,I.lset (its':=its ++ [u]) a e (by simp) (r.append (.cons d .nil)) ?_,rfl,q⟩
 rw [az0,List.length_singleton]
 omega
def ahz:V->List V->Hp->VK->Prop:=fun x vs H Q=>∃ l b xs zs,x=.ref l/\vs=[.ref b]/\H l=some (.lst xs)/\H b=some (.lst zs)/\xs.length+zs.length<=sizeLine/\Q .non (upd H l (.lst (xs ++ zs)))
theorem aox:MtM X "list.extend" ahz:=by
 intro pins s σ H x vs v us Q I i o h
 obtain ⟨l,b,xs,y,rfl,rfl,d,m,hz,q⟩:=h
 cases i
 obtain ⟨u,rfl,w⟩:=o.one
 cases w
 obtain ⟨z,its,n,r,A,e⟩:=I.lstM d
 obtain ⟨B,a,p,f,g,j⟩:=I.lstM m
 have hsz:its.toArray.size+a.toArray.size<=sizeLine:=by rw [az1,az1];omega
 have c:¬ (!its.toArray.isEmpty && Builtin.List.listTooLong (its.toArray.size+a.toArray.size))=true:=by
  rw [akh hsz,Bool.and_false]
  exact ay9
 refine call_meets F.slot_list_extend ⟨_,e,rfl⟩ F.entry_list_extend (F.args_list_extend_2 _ _)
  (AutoSeq1.list_extend_list_list_0 l its.toArray n b a.toArray p c (by rw [az1];omega) (by omega)) ⟨e,j,?_⟩
 refine ⟨.non,_,I.lset (its':=its ++ a) d e (by simp) (r.append f) ?_,rfl,q⟩
 rw [az0]
 omega
def aki:V->List V->Hp->VK->Prop:=fun x vs H Q=>∃ l xs i k y,x=.ref l/\vs=[.int i]/\H l=some (.lst xs)/\-(2 ^ 63)<=i/\i < 2 ^ 63/\seqIndex? i xs.length=some k/\xs[k]?=some y/\Q y (upd H l (.lst (xs.eraseIdx k)))
theorem aqa:MtM X "list.pop" aki:=by
 intro pins s σ H x vs v us Q I f j h
 obtain ⟨l,xs,i,k,y,rfl,rfl,b,c,g,m,d,q⟩:=h
 cases f
 obtain ⟨u,rfl,o⟩:=j.one
 obtain ⟨t,rfl⟩:=o
 obtain ⟨z,its,n,r,p,e⟩:=I.lstM b
 obtain ⟨w,A,a⟩:=r.get d
 refine call_meets F.slot_list_pop ⟨_,e,rfl⟩ F.entry_list_pop (F.args_list_pop_2 _ _)
  (MeetsSeq.list_pop_at l its.toArray n i t k w (fitsIndex_both c g) (by rw [az1,← p];exact m) (by rw [← aB3];exact A) (by rw [az1];omega)) ⟨e,?_⟩
 refine ⟨y,_,I.lset (its':=its.eraseIdx k) b e ?_ (r.eraseIdx k) ?_,a,q⟩
 ·show its.toArray.eraseIdxIfInBounds k=(its.eraseIdx k).toArray
  rw [List.eraseIdxIfInBounds_toArray]
 ·have:=ais xs k
  omega
def rCat:R2:=fun x y H Q=>∃ l b xs zs,x=.ref l/\y=.ref b/\H l=some (.lst xs)/\H b=some (.lst zs)/\xs.length+zs.length<=sizeLine/\∀ p,H p=none->Q (.ref p) (upd H p (.lst (xs ++ zs)))
theorem akj:OpR X (binaryOp .Add) rCat:=by
 intro pins s σ H x y v u Q I i d h
 obtain ⟨l,b,xs,w,rfl,rfl,f,m,hz,q⟩:=h
 cases i
 cases d
 obtain ⟨z,its,n,r,A,e⟩:=I.lstM f
 obtain ⟨B,a,p,c,g,j⟩:=I.lstM m
 refine PySem.P.add_list e j ?_ (by rw [az1,az1];omega)
 have o:its.toArray ++ a.toArray=(its ++ a).toArray:=by simp
 rw [o]
 exact ⟨.ref _,_,I.lnew (t':=s.toks) (r.append c) (by rw [az0];omega),rfl,q _ I.fresh⟩
def rRep:R2:=fun x y H Q=>∃ l k xs,x=.ref l/\y=.int k/\H l=some (.lst xs)/\-(2 ^ 63)<=k/\k < 2 ^ 63/\xs.length * k.toNat<=sizeLine /\
 ∀ p,H p=none->Q (.ref p) (upd H p (.lst (List.replicate k.toNat xs).flatten))
theorem amm {α:Type} (xs:List α) (k:Nat):(List.replicate k xs).flatten.length=k * xs.length:=by
 induction k with
 | zero=>simp
 | succ k ih=>rw [aE3,List.flatten_cons,az0,ih,Nat.succ_mul,Nat.add_comm]
theorem avh:OpR X (binaryOp .Mult) rRep:=by
 intro pins s σ H x y v u Q I B o h
 obtain ⟨l,k,xs,rfl,rfl,p,w,C,hz,q⟩:=h
 cases B
 obtain ⟨t,rfl⟩:=o
 obtain ⟨z,its,n,r,E,e⟩:=I.lstM p
 have d:its.toArray.size * k.toNat<=sizeLine:=by rw [az1,← E];exact hz
 have c:¬ its.toArray.size * k.toNat > (2 ^ 63 - 1) / 8:=by
  have:(sizeLine:Nat)<=(2 ^ 63 - 1) / 8:=by decide
  omega
 have f:¬ (!Builtin.List.listFitsIndex k)=true:=by
  rw [fitsIndex_both w C]
  exact ay9
 have b:¬ Builtin.List.listTooLong (its.toArray.size * k.toNat)=true:=by
  rw [akh d]
  exact ay9
 have g:List.foldl (fun i j=>i ++ j) #[] (List.replicate (if its.toArray.isEmpty=true then 0 else k.toNat) its.toArray)=(List.replicate k.toNat its).flatten.toArray:=by
  have D:∀ m:Nat,List.foldl (fun i j=>i ++ j) #[] (List.replicate m its.toArray)=(List.replicate m its).flatten.toArray:=fun m=>by
   have:=ait its m []
   rw [List.nil_append] at this
   exact this
  rw [D]
  cases its with
  | nil=>simp
  | cons a r'=>rw [aC6 (by simp)]
 refine wpAny_binaryOp_repeat_ref (T:="list") (U:="int") (by decide) ⟨_,e,rfl⟩ (fun A=>typeIs_int A k t) noFill_list_mul F.fills_int_mul F.slot_int_rmul repeat_list F.slot_int_index.lookup
  (call_meets F.slot_int_rmul (typeIs_int s k t) F.entry_int_rmul (F.args_int_rmul_2 _ _) (int___rmul___int_list k t l its.toArray n)
   ⟨e,rfl,⟨_,e,rfl⟩,call_meets F.slot_list_mul ⟨_,e,rfl⟩ F.entry_list_mul (F.args_list_mul_2 _ _) (AutoListH.list___mul___list_int_3 l its.toArray n k t f c b) ⟨e,?_⟩⟩)
 rw [g]
 exact ⟨.ref _,_,I.lnew (t':=s.toks) (r.rep k.toNat) (by rw [amm,Nat.mul_comm];exact hz),rfl,q _ I.fresh⟩
end
section
variable {prog:Program} {w:World} {A:Around} {E:Value->Shared->Prop} {s:Shared}
end
section
variable {X:Cx}
end
section
variable {κ:Type} [DecidableEq κ]
def valV (kvs:List (κ × V)) (k : κ):Option V:=(kvs.find? fun kv=>decide (kv.1=k)).map (·.2)
def putK (kvs:List (κ × V)) (k : κ) (v:V):List (κ × V) :=
 if (kvs.any fun kv=>decide (kv.1=k))=true then kvs.map (fun kv=>if kv.1=k then (kv.1,v) else kv) else kvs ++ [(k,v)]
def ar6 (kvs:List (κ × V)) (k : κ):List (κ × V):=kvs.filter fun kv=>decide (kv.1 ≠ k)
theorem agn {p : κ × V} {r:List (κ × V)} {k : κ} (e:p.1=k):valV (p :: r) k=some p.2:=by simp [valV,List.find?_cons,e]
theorem ago {p : κ × V} {r:List (κ × V)} {k : κ} (e:¬ p.1=k):valV (p :: r) k=valV r k:=by simp [valV,List.find?_cons,e]
theorem akk (k : κ):∀ kvs:List (κ × V),(kvs.any fun a=>decide (a.1=k))=(valV kvs k).isSome
 | []=>rfl
 | p :: r=>by
  rw [List.any_cons]
  by_cases e:p.1=k
  ·simp only [agn e,aB5 e,Bool.true_or,Option.isSome_some]
  ·rw [ago e,aB4 e,Bool.false_or];exact akk k r
theorem agi (kvs:List (κ × V)) (k : κ) (v:V):(putK kvs k v).length<=kvs.length+1:=by
 unfold putK
 split
 ·rw [ay3];omega
 ·rw [az0,aB9,aF7];omega
theorem RelO.isSome_eq {o:Option V} {u:Option Value} (r:RelO o u):o.isSome=u.isSome:=by
 cases o with
 | none=>cases u with
  | none=>rfl
  | some _=>exact (show False from r).elim
 | some _=>cases u with
  | none=>exact (show False from r).elim
  | some _=>rfl
theorem RelO.getD {o:Option V} {u:Option Value} {d:V} {d':Value} (r:RelO o u) (a:RelV d d'):RelV (o.getD d) (u.getD d'):=by
 cases o with
 | none=>cases u with
  | none=>exact a
  | some _=>exact (show False from r).elim
 | some _=>cases u with
  | none=>exact (show False from r).elim
  | some _=>exact r
theorem KV.val {kvs:List (κ × V)} {vs:List (κ × Value)} (r:KV kvs vs) (k : κ):RelO (valV kvs k) (valueAt vs k):=by
 unfold KV at r
 induction r with
 | nil=>exact True.intro
 | @cons p q ps qs h t ih =>
  obtain ⟨c,d⟩:=h
  by_cases e:p.1=k
  ·have a:q.1=k:=c.symm.trans e
   have b:valueAt (q :: qs) k=some q.2:=by simp [valueAt,List.find?_cons,a]
   rw [agn e,b];exact d
  ·have a:¬ q.1=k:=fun z=>e (c.trans z)
   have b:valueAt (q :: qs) k=valueAt qs k:=by simp [valueAt,List.find?_cons,a]
   rw [ago e,b];exact ih
theorem KV.any {kvs:List (κ × V)} {vs:List (κ × Value)} (r:KV kvs vs) (k : κ):(kvs.any fun a=>decide (a.1=k))=vs.any fun a=>decide (a.1=k):=by
 unfold KV at r
 induction r with
 | nil=>rfl
 | cons h t ih=>rw [List.any_cons,List.any_cons,ih,h.1]
theorem KV.repl {kvs:List (κ × V)} {vs:List (κ × Value)} (r:KV kvs vs) (k : κ) {y:V} {u:Value} (d:RelV y u) :
  KV (kvs.map fun a=>if a.1=k then (a.1,y) else a) (vs.map fun a=>if a.1=k then (a.1,u) else a):=by
 unfold KV at r ⊢
 induction r with
 | nil=>exact .nil
 | @cons p q ps qs h t ih =>
  rw [aB0,aB0]
  refine .cons ?_ ih
  obtain ⟨b,c⟩:=h
  by_cases e:p.1=k
  ·rw [aC5 e,aC5 (b.symm.trans e)];exact ⟨b,d⟩
  ·rw [aC6 e,aC6 (fun z=>e (b.trans z))];exact ⟨b,c⟩
theorem KV.put {kvs:List (κ × V)} {vs:List (κ × Value)} (r:KV kvs vs) (k : κ) {y:V} {u:Value} (a:RelV y u):KV (putK kvs k y) (stored vs k u):=by
 unfold putK stored
 rw [r.any k]
 by_cases e:(vs.any fun b=>decide (b.1=k))=true
 ·rw [aC5 e,aC5 e];exact r.repl k a
 ·rw [aC6 e,aC6 e];exact Paired.snoc r ⟨rfl,a⟩
theorem KV.drop {kvs:List (κ × V)} {vs:List (κ × Value)} (r:KV kvs vs) (k : κ):KV (ar6 kvs k) (without vs k):=by
 unfold KV at r ⊢
 unfold ar6 without
 induction r with
 | nil=>exact .nil
 | @cons p q ps qs h t ih =>
  obtain ⟨c,d⟩:=h
  rw [List.filter_cons,List.filter_cons]
  by_cases e:p.1=k
  ·have a:¬ decide (p.1 ≠ k)=true:=by simp [e]
   have b:¬ decide (q.1 ≠ k)=true:=by simp [c.symm.trans e]
   rw [aC6 a,aC6 b];exact ih
  ·have f:¬ q.1=k:=fun z=>e (c.trans z)
   have a:decide (p.1 ≠ k)=true:=by simp [e]
   have b:decide (q.1 ≠ k)=true:=by simp [f]
   rw [aC5 a,aC5 b];exact .cons ⟨c,d⟩ ih
theorem KV.length {kvs:List (κ × V)} {vs:List (κ × Value)} (r:KV kvs vs):kvs.length=vs.length:=Paired.length r
end
theorem ar7 {P:Program} {w:World} {k:Key} {u:Value} (r:RelV (kV k) u):(abd P w).is k u=true:=by
 cases k with
 | inl i=>obtain ⟨t,e⟩:=(show ∃ t,u=Value.int i t from r);subst e;exact al1 P w i t
 | inr x=>obtain ⟨t,e⟩:=(show ∃ t,u=Value.str x t from r);subst e;exact al2 P w x t
theorem aiu {P:Program} {w:World}:∀ {a:List Key} {us:List Value},Vals (a.map kV) us->ItemsAre (abd P w) a us
 | [],_,r=>by rw [List.map_nil] at r;cases r;exact .nil
 | k :: a,_,r=>by
  rw [aB0] at r
  cases r with
  | cons h t=>exact .cons (ar7 h) (aiu t)
abbrev KT (H:Hp):List (List Key × V)->List (List Key × Addr × Value)->Prop:=Paired fun p q=>p.1=q.1/\H q.2.1=some (.tup (p.1.map kV))/\RelV p.2 q.2.2
theorem KT.val {H:Hp} {kvs:List (List Key × V)} {xs:List (List Key × Addr × Value)} (r:KT H kvs xs) (k:List Key):RelO (valV kvs k) ((atKey xs k).map (·.2)):=by
 induction r with
 | nil=>exact True.intro
 | @cons p q ps qs h t ih =>
  obtain ⟨c,_,d⟩:=h
  by_cases e:p.1=k
  ·have a:q.1=k:=c.symm.trans e
   have b:atKey (q :: qs) k=some q.2:=by simp [atKey,List.find?_cons,a]
   rw [agn e,b];exact d
  ·have a:¬ q.1=k:=fun z=>e (c.trans z)
   have b:atKey (q :: qs) k=atKey qs k:=by simp [atKey,List.find?_cons,a]
   rw [ago e,b];exact ih
theorem KT.repl {H:Hp} {kvs:List (List Key × V)} {xs:List (List Key × Addr × Value)} (r:KT H kvs xs) (k:List Key) {y:V} {u:Value} (f:RelV y u) :
  KT H (kvs.map fun b=>if b.1=k then (b.1,y) else b) (xs.map (putAt k u)):=by
 induction r with
 | nil=>exact .nil
 | @cons p q ps qs h t ih =>
  rw [aB0,aB0]
  refine .cons ?_ ih
  obtain ⟨a,c,d⟩:=h
  unfold putAt
  by_cases e:p.1=k
  ·rw [aC5 e,aC5 (a.symm.trans e)];exact ⟨a,c,f⟩
  ·rw [aC6 e,aC6 (fun z=>e (a.trans z))];exact ⟨a,c,d⟩
theorem KT.put {H:Hp} {kvs:List (List Key × V)} {xs:List (List Key × Addr × Value)} (r:KT H kvs xs) (k:List Key) {b:Addr} {y:V} {u:Value} (hb:H b=some (.tup (k.map kV))) (a:RelV y u) :
  KT H (putK kvs k y) (storedH xs k b u):=by
 have e:(kvs.any fun c=>decide (c.1=k))=(atKey xs k).isSome:=by
  rw [akk,(r.val k).isSome_eq,Option.isSome_map]
 unfold putK storedH
 rw [e]
 by_cases q:(atKey xs k).isSome=true
 ·rw [aC5 q,aC5 q];exact r.repl k a
 ·rw [aC6 q,aC6 q];exact Paired.snoc r ⟨rfl,hb,a⟩
theorem KT.keeps {H H':Hp} {kvs:List (List Key × V)} {xs:List (List Key × Addr × Value)} (r:KT H kvs xs) (a:∀ b ys,H b=some (.tup ys)->H' b=some (.tup ys)):KT H' kvs xs :=
 Paired.mapP r fun _ _ z=>⟨z.1,a _ _ z.2.1,z.2.2⟩
section
variable {P:Program} {w:World} {H:Hp} {h:Heap} {a:Addr}
theorem ar8 {u:HO} (ok:HOk P w H h) (e:Rd H a u):ObjOk P w H h a u:=e.ok ok
theorem ar9 {kvs:List (Key × V)} (ok:HOk P w H h) (e:Rd H a (.dK kvs)):kvs.length<=sizeLine/\(a == sysModules)=false/\∃ vs,KV kvs vs/\h.DictOf (abd P w) a vs :=
 show ObjOk P w H h a (.dK kvs) from ar8 ok e
theorem axf {kvs:List (Key × V)} (ok:HOk P w H h) (e:H a=some (.dK kvs)):kvs.length<=sizeLine/\(a == sysModules)=false/\∃ vs,KV kvs vs/\h.DictOf (abd P w) a vs:=ar9 ok (.inl e)
theorem akl {b:List Key} (ok:HOk P w H h) (e:H a=some (.tup (b.map kV))):(tupleKind (abd P w)).is h b a:=by
 obtain ⟨_,its,r,o,f,d,n,c⟩:=(show ObjOk P w H h a (.tup (b.map kV)) from ok a _ e)
 exact ⟨o,its.toArray,n,f,d,c,by simpa using aiu r⟩
theorem asa {kvs:List (List Key × V)} (ok:HOk P w H h) (e:Rd H a (.dT kvs)):kvs.length<=sizeLine/\(a == sysModules)=false /\
  ∃ xs,KT H kvs xs/\h.DictOfH (tupleKind (abd P w)) a xs:=by
 obtain ⟨z,y,xs,r,o,es,f,c,d,g,j,i⟩:=(show ObjOk P w H h a (.dT kvs) from ar8 ok e)
 refine ⟨z,y,xs,r,o,es,f,c,d,g,j,fun x b=>?_,i⟩
 have all:∀ {l:List (List Key × V)} {m:List (List Key × Addr × Value)},KT H l m->∀ x∈m,(tupleKind (abd P w)).is h x.1 x.2.1:=by
  intro l m q
  induction q with
  | nil=>intro x b;exact nomatch b
  | @cons p q ps qs hq t ih =>
   intro x b
   rcases ay8.mp b with e | b
   ·subst e
    exact akl ok (by rw [← hq.1];exact hq.2.1)
   ·exact ih x b
 exact all r x b
theorem ag4 {kvs:List (List Key × V)} (ok:HOk P w H h) (e:H a=some (.dT kvs)):kvs.length<=sizeLine/\(a == sysModules)=false /\
  ∃ xs,KT H kvs xs/\h.DictOfH (tupleKind (abd P w)) a xs:=asa ok (.inl e)
end
def DGet (H:Hp) (a:Addr) (y:V) (r:Option V):Prop :=
 (∃ kvs k,Rd H a (.dK kvs)/\y=kV k/\r=valV kvs k)\/∃ kvs k b,Rd H a (.dT kvs)/\y=.ref b/\H b=some (.tup (k.map kV))/\r=valV kvs k
def DPut (H:Hp) (a:Addr) (y v:V) (H':Hp):Prop :=
 (∃ kvs k,H a=some (.dK kvs)/\y=kV k/\kvs.length < sizeLine/\H'=upd H a (.dK (putK kvs k v))) ∨
 ∃ kvs k b,H a=some (.dT kvs)/\y=.ref b/\H b=some (.tup (k.map kV))/\kvs.length < sizeLine/\H'=upd H a (.dT (putK kvs k v))
theorem DGet.k {H:Hp} {a:Addr} {kvs:List (Key × V)} {k:Key} (e:H a=some (.dK kvs)):DGet H a (kV k) (valV kvs k):=.inl ⟨kvs,k,.inl e,rfl,rfl⟩
theorem DGet.t {H:Hp} {a b:Addr} {kvs:List (List Key × V)} {k:List Key} (e:H a=some (.dT kvs)) (c:H b=some (.tup (k.map kV))):DGet H a (.ref b) (valV kvs k):=.inr ⟨kvs,k,b,.inl e,rfl,c,rfl⟩
theorem DPut.k {H:Hp} {a:Addr} {kvs:List (Key × V)} {k:Key} {v:V} (e:H a=some (.dK kvs)) (b:kvs.length < sizeLine):DPut H a (kV k) v (upd H a (.dK (putK kvs k v))):=.inl ⟨kvs,k,e,rfl,b,rfl⟩
theorem DPut.t {H:Hp} {a b:Addr} {kvs:List (List Key × V)} {k:List Key} {v:V} (e:H a=some (.dT kvs)) (c:H b=some (.tup (k.map kV))) (d:kvs.length < sizeLine) :
  DPut H a (.ref b) v (upd H a (.dT (putK kvs k v))):=.inr ⟨kvs,k,b,e,rfl,c,d,rfl⟩
section
variable {X:Cx} {pins:List (Addr × Obj)} {σ:St} {H:Hp} {s:Shared} {a:Addr} {y v:V} {u r:Value} {o:Option V} {A:Around} {E:Value->Shared->Prop}
theorem Inv.big (I:Inv X pins σ H s):sysModules < s.heap.objs.size:=by
 have h:mainGlobals < s.heap.objs.size:=(I.mod.glob.keeps I.bk).lt
 exact Nat.lt_trans (by decide) h
theorem ah0 {h':Heap} {t':Nat} {c:HO} (I:Inv X pins σ H s) (f:Mut (H a)) (d:Heap.SameBut a s.heap h') (g:∃ q,h'.get? a=some q) (new:ObjOk X.prog X.w (upd H a c) h' a c) :
  Inv X pins σ (upd H a c) { s with heap:=h',toks:=t' } :=
 I.write (x:=a) (e:=a) f (.inl rfl) (fun b q hb z=>(d.2 b hb).trans z) g new
theorem avi {P:Program} {w:World} {H':Hp} {h':Heap} {kvs:List (Key × V)} {vs:List (Key × Value)} (z:kvs.length<=sizeLine) (hd:(a == sysModules)=false) (b:KV kvs vs) (dd:h'.DictOf (abd P w) a vs) :
  ObjOk P w H' h' a (.dK kvs):=⟨z,hd,vs,b,dd⟩
theorem aoy {H':Hp} {Q:Unit->Shared->Prop} (J:A.units+1 < cLine) (I:Inv X pins σ H s) (g:DPut H a y v H') (p:RelV y u) (D:RelV v r) (h:∀ x,Inv X pins σ H' x->Q () x) :
  wpAny (model X.prog X.w) A (setItem (.ref a) u r) Q E s:=by
 rcases g with ⟨kvs,k,e,j,l,n⟩ | ⟨kvs,k,b,e,j,B,l,n⟩
 ·subst j n
  obtain ⟨z,hd,vs,d,dd⟩:=axf I.hok e
  have hz:vs.length<=sizeLine:=by rw [← d.length];exact z
  have o:(putK kvs k v).length<=sizeLine:=by have:=agi kvs k v;omega
  refine wpAny_setItem_pairs (hsz:=hz) (ar7 p) dd fun h' f m=>h _ ?_
  have G:∃ q,h'.get? a=some q:=let ⟨q,_,_,i,_⟩:=f;⟨q,i⟩
  exact ah0 I (by rw [e];exact True.intro) m G (avi o hd (d.put k D) f)
 ·subst j n
  cases (show u=Value.ref b from p)
  obtain ⟨z,hd,xs,d,dd⟩:=ag4 I.hok e
  have hz:xs.length<=sizeLine:=by rw [← Paired.length d];exact z
  have o:(putK kvs k v).length<=sizeLine:=by have:=agi kvs k v;omega
  refine wpAny_setItem_heap (hsz:=hz) (tupleKind_room_in1 J) (akl I.hok B) dd fun h' f m=>h _ ?_
  obtain ⟨q,es,K,i,F,L,N,_,M⟩:=f
  refine ah0 I (by rw [e];exact True.intro) m ⟨q,i⟩ ⟨o,hd,_,(d.put k B D).keeps fun c ys C=>?_,q,es,K,i,F,L,N,M⟩
  rw [aag (ar0 C e (fun z=>nomatch z))]
  exact C
end
section
variable {X:Cx} {pins:List (Addr × Obj)} {σ:St} {H:Hp} {s:Shared} {a:Addr} {kvs:List (Key × V)} {k:Key} {u:Value} {A:Around} {E:Value->Shared->Prop}
end
def anw (td ty tv:TE):TS:=fun D σ H=>tv σ H fun v H1=>td σ H1 fun x H2=>ty σ H2 fun y H3=>∃ a H4,x=.ref a/\DPut H3 a y v H4/\D.nx σ H4
section
variable {X:Cx} {o i e value:Expr} {pos pos' tpos:Pos} {td ty tv:TE}
theorem ah1 (B:X.A.units+1 < cLine) (j:PE X o td) (hi:PE X i ty) (p:PE X value tv) (z:swapsWith value (some (.Subscript o i pos')) pos.line X.env=pure false) :
  PS X (.Assign [.Subscript o i pos'] value pos) (anw td ty tv):=by
 intro pins s σ H D I h
 refine wpAny_Assign_Subscript (thn (p pins s σ H _ I h) fun r s1 ⟨v,b,f,E,w⟩=>thn (j pins s1 σ b _ f w) fun u s2 ⟨x,H2,d,n,l⟩=>thn (hi pins s2 σ H2 _ d l) fun K G ⟨y,H3,q,c,a,m,ex,g,F⟩=>?_) z
 subst ex
 obtain rfl:u=Value.ref a:=n
 exact aoy B q g c E fun J C=>⟨σ,m,C,F⟩
end
theorem aqb {P:Program} {w:World} {H:Hp} (h:Heap) (hb:sysModules < h.objs.size):ObjOk P w H (h.push { cls:=.type "dict",data:=.dict #[] }) h.objs.size (.dT []) :=
 ⟨aD0 _,beq_eq_false_iff_ne.mpr (Ne.symm (az5 hb)),[],.nil,_,#[],0,aG2 _ rfl,⟨rfl,rfl,rfl⟩,rfl,rfl,List.nodup_nil⟩
def akm:TE:=fun _ H Q=>∀ p,H p=none->Q (.ref p) (upd H p (.dT []))
section
variable {X:Cx} {pos:Pos}
theorem akn:PE X (.Dict [] [] pos) akm:=fun pins s σ H Q I h =>
 wpAny_Dict_empty ⟨.ref s.heap.objs.size,_,I.laid (a:=s.heap.objs.size) (o:=.dT []) (t':=s.toks) (fun _ _ q=>aG0 _ q) (ay6 _) (aqb s.heap I.big),rfl,h _ (I.hok.fresh (ay6 _))⟩
end
structure M1 (X:Cx) (o:Expr) (m:Str) (apos:Pos) (e:Expr) (cpos:Pos):Prop where
 base:attributeBase o m X.env (eval o X.env)=eval o X.env
 few:((backTo cpos (starEach [e] X.env)).all (fun x => !x.1) && (backToKw cpos (keywordEach [] X.env)).all (fun x=>x.1.isSome)
  && decide (([e]:List Expr).length+([]:List Keyword).length+(if ([]:List Keyword).isEmpty then 0 else 1) < 30))=true
 line:(apos.endLine == cpos.line)=true
 trees:backTo cpos (starEach [e] X.env)=[(false,eval e X.env)]
def IsD (H:Hp) (a:Addr):Prop:=(∃ kvs,Rd H a (.dK kvs))\/∃ kvs,Rd H a (.dT kvs)
theorem avj {X:Cx} {pins:List (Addr × Obj)} {σ:St} {H:Hp} {s:Shared} {a:Addr} (I:Inv X pins σ H s) (d:IsD H a) :
  s.TypeIs (.ref a) "dict"/\(∀ b,Value.ref a=.ref b->∃ c,s.heap.get? b=some c/\c.dict=none)/\(a == sysModules)=false:=by
 rcases d with ⟨kvs,e⟩ | ⟨kvs,e⟩
 ·obtain ⟨_,hd,vs,_,dd⟩:=ar9 I.hok e
  refine ⟨dd.typeIs,fun b q=>?_,hd⟩
  cases q
  obtain ⟨c,_,_,f,g,_⟩:=dd
  exact ⟨c,f,g.2.1⟩
 ·obtain ⟨_,hd,xs,_,dd⟩:=asa I.hok e
  refine ⟨dd.typeIs,fun b q=>?_,hd⟩
  cases q
  obtain ⟨c,_,_,f,g,_⟩:=dd
  exact ⟨c,f,g.2.1⟩
section
variable {X:Cx} {pins:List (Addr × Obj)} {σ:St} {H:Hp} {s:Shared} {a:Addr} {y d:V} {u r:Value} {o:Option V} {A:Around} {E:Value->Shared->Prop}
end
section
variable {X:Cx} {o e f:Expr} {apos cpos:Pos} {td ty tx:TE}
end
section
variable {X:Cx} {pins:List (Addr × Obj)} {σ:St} {H:Hp} {s:Shared} {a:Addr} {kvs:List (Key × V)} {A:Around} {E:Value->Shared->Prop}
end
section
variable {X:Cx} {pins:List (Addr × Obj)} {σ:St} {H:Hp} {s:Shared} {a:Addr} {y:V} {u:Value} {A:Around} {E:Value->Shared->Prop}
end
end L2
namespace Att
open PySem PySem.W PySem.Calls PyProof.Rows
theorem ag5 {P:Params} {h:Heap}:∀ (ns:List Int) (vs:List Value),WellAll P h vs (ns.map WData.int)->IntsAre vs ns:=by
 intro ns
 induction ns with
 | nil =>
  intro vs w
  rw [List.map_nil] at w
  cases w
  exact .nil
 | cons n ns ih =>
  intro vs w
  rw [aB0] at w
  cases w with
  | cons a b =>
   cases a
   exact .cons _ _ (ih _ b)
theorem aoz {l:OpenLaw} {n:Nat} (hn:l.most=some n) {P:Params} {h:Heap} {args:List WData} {c:List Value}
  (b:l.row.toRowW.claim.pre args=true) (j:WellAll P h c args) :
  ∃ a vs ns,c=[Value.ref a]/\args=[WData.list (ns.map WData.int)]/\h.get? a=some { cls:=.type "list",data:=.seq vs.toArray }/\IntsAre vs ns/\ns.length<=n:=by
 have m:WShape.hasAll [] args [.list .int]=true:=(pre_splitW b).1
 have o:l.pre.holds [] { args:=args }=true:=(pre_splitW b).2
 obtain ⟨d,r,rfl,p,u⟩:=hasAllW_cons m
 obtain rfl:=hasAllW_nil u
 obtain ⟨xs,rfl,v⟩:=hasW_list p
 obtain ⟨ns,rfl⟩:=items_int v
 have f:ns.length<=n:=by
  unfold OpenLaw.pre at o
  have i:(WTm.not (.lt (.lit (.int (n:Int))) (.len (.arg 0)))).holds [] { args:=[.list (ns.map .int)] }=true:=by
   have i:=(holds_andW o).1
   rw [hn] at i
   exact i
  have g:=condW_of i (w_not (w_lt w_lit (w_len_list (w_arg rfl))))
  rw [ay3] at g
  refine Nat.le_of_not_lt fun q=>?_
  have s:(n:Int) < ((ns.length:Nat):Int):=by omega
  first
   | (rw [aB5 s] at g;exact absurd g (by decide))
   | (simp at g;omega)
 cases j with
 | cons w1 w2 =>
  cases w2
  cases w1 with
  | list ho hall=>exact ⟨_,_,ns,rfl,rfl,ho,ag5 ns _ hall,f⟩
theorem ao0 (l:OpenLaw) (args:List WData):l.row.toRowW.claim.post args (.bool true) args=true :=
 postW_of (r:=l.row.toRowW) (X:=(true == true))
  (show WShape.has [] (.bool true) .bool=true by first | rfl | decide | simp [WShape.has,WShape.arms,WShape.armsAll])
  (show (WTm.eq .res (.lit (.bool true))).value [] { args:=args,res:=some (.bool true),after:=args }=some (.bool (true == true)) from w_eq_bool (w_res rfl) w_lit) rfl
theorem attach_call {l:OpenLaw} {n:Nat} {q:Program} {c:List Str} {z:(Str->Option Value)->Heap->Prop} {C:World->Heap->Prop} {d:DefRec}
  (hn:l.most=some n) (v:d.params.defaults=[])
  (call:∀ (w:World) (s₀ b:Shared) (mg mb:Str->Option Value) (fa:Addr) (o:Obj) (pm p doc:Value) (a:Addr) (vs:List Value) (ns:List Int),
   Ground q c [] z w s₀ mg mb b.heap->C w b.heap ->
   b.heap.get? fa=some o->o.data=.func (docDef d.name d.params d.body d.scope pm p doc)->b.heap.CodeRec p d.name->mg d.name=some (.ref fa) ->
   b.heap.get? a=some { cls:=.type "list",data:=.seq vs.toArray }->IntsAre vs ns->ns.length<=n->b.gens = #[] ->
   codeAny (model l.prog w) callerA (.call (.ref fa) ⟨[.ref a],[]⟩) (fun r m=>r=.ok (.ret (.bool true))/\OldK b.heap m.heap/\m.os=b.os/\AllBare m.gens) b) :
  WalkO q c z C l.row.toRowW d [] (fun f vs=>PySem.call f vs):=by
 intro w s₀ b mg mb G Y fa o pm p doc F kV E hd u B x D args A as i y L s I
 obtain rfl:F=.none:=Dflts.none B v
 obtain rfl:kV=.none:=Dflts.noKw B
 obtain ⟨a,vs,ns,rfl,rfl,j,g,h⟩:=aoz hn i s
 refine enter_call (codeAny_mono (call w s₀ b mg mb fa o pm p doc a vs ns G Y E (fd_plain hd) u x j g h D) fun r m J=>?_)
 obtain ⟨rfl,H,K,M⟩:=J
 exact ⟨.inl ⟨.bool true,.bool true,[],rfl,fun _=>rfl,.bool true,ao0 l _,fun _=>⟨List.Pairwise.nil,fun _ hm=>(nomatch hm)⟩⟩,H,K,M⟩
section
variable {prog:Program} {w:World} {A:Around} {E:Value->Shared->Prop} {s:Shared} {K:Frag}
end
end Att
namespace L2
open PySem PySem.Spec PyProof.Rows
theorem afk:∀ {vs:List Value} {ns:List Int},IntsAre vs ns->Vals (ns.map V.int) vs
 | _,_,.nil => .nil
 | _,_,.cons n t h => .cons ⟨t,rfl⟩ (afk h)
def Only (H:Hp):Prop:=∀ b,H b=none\/∃ o xs,H b=some (.frz o (.lst xs))
theorem aqc {P:Program} {w:World} {K:Frag} {mg mb:Str->Option Value} {CX:CXT} {k:Nat} {fa a:Addr} {fd:FuncData} {x:Str} {sp:Sp} {c:Shared} {vs:List Value} {ns:List Int}
  (R:K.In c.heap) (B:c.heap.Ns mainGlobals mg) (hb:c.heap.Ns builtinsNs mb) (L:∀ x:Str,x ≠ "__name__"->mb x=bootBuiltins x) (p:c.heap.NoLimit) (hg:c.gens = #[])
  (ha:c.heap.get? a=some { cls:=.type "list",data:=.seq vs.toArray }) (hi:IntsAre vs ns) (O:ns.length<=sizeLine) (X:Room k callerA)
  (F:∀ base:Heap,K.In base->base.Ns mainGlobals mg->FnOk P w K mg base CX k fa fd [x] sp) (l:∀ (s:Shared) (u:Value),BindsTo s fd ⟨[u],[]⟩ [(x,u)])
  (M:∀ H:Hp,Only H->SqL K H a (ns.map V.int)->sp [.ref a] H (fun v _=>v=.bl true) fun _ _ _=>False)
  (J:∀ H e g,CX [] H c (fun _ _ _=>False) e g->False) :
  codeAny (model P w) callerA (.call (.ref fa) ⟨[.ref a],[]⟩) (fun r g=>r=.ok (.ret (.bool true))/\OldK c.heap g.heap/\g.os=c.os/\AllBare g.gens) c:=by
 have N:=afk hi
 have y:=hi.length
 -- from an abstract heap in which nothing but the script may be tracked
 have j:∀ H:Hp,Only H->SqL K H a (ns.map V.int)->HOk P w H c.heap->(∀ b,H b ≠ none->b=a)->(H a ≠ none->K.lookup a=none) ->
   codeAny (model P w) callerA (.call (.ref fa) ⟨[.ref a],[]⟩) (fun r g=>r=.ok (.ret (.bool true))/\OldK c.heap g.heap/\g.os=c.os/\AllBare g.gens) c:=by
  intro H Q hS hok T hK
  have f:∀ {b:Addr} {o:Obj},c.heap.get? b=some o->H b=none->(hidT c.heap H).get? b=some o:=fun e n=>ap4 e n
  have I:∀ {b:Addr} {o:Obj} {es:Array DictEntry} {A:Nat},c.heap.get? b=some o->o.data=.dict es A->H b=none:=fun {b o es A} e d=>by
   cases q:H b with
   | none=>rfl
   | some u =>
    have G:b=a:=T b (by rw [q];simp)
    subst G
    rw [ha] at e;cases e
    have d':Data.seq vs.toArray _=Data.dict es A:=d
    cases d'
  have i:∀ {b:Addr} {m:Str->Option Value},c.heap.Ns b m->(hidT c.heap H).Ns b m:=fun {b m} ⟨o,es,A,e,d,r⟩=>⟨o,es,A,f e (I e d),d,r⟩
  have D:K.In (hidT c.heap H):=fun b o e=>f (R b o e) (by
   cases q:H b with
   | none=>rfl
   | some u =>
    have G:b=a:=T b (by rw [q];simp)
    subst G
    rw [hK (by rw [q];simp)] at e;cases e)
  have hM:Mod K mg (hidT c.heap H):=⟨D,i B,⟨mb,i hb,L⟩,let ⟨mc,U,Z⟩:=p;⟨mc,i U,Z⟩⟩
  have e0:Env0 P w K mg (hidT c.heap H) callerA [] c H:=⟨rfl,hM,fun b o e=>asj e,Nat.le_of_eq (aok _ _),trivial,fun b hb=>absurd (show b∈([]:List Addr) from hb) (by simp),hok,.of_eq hg⟩
  refine codeAny_mono ((F _ D (i B)).run callerA [] c H ⟨[.ref a],[]⟩ [.ref a] [.ref a] _ _ X e0 (l c (.ref a)) (.cons rfl .nil) (M H Q hS)) fun r g h=>?_
  cases r with
  | error e=>exact (J H e g h).elim
  | ok fl =>
   cases fl with
   | next=>exact False.elim h
   | brk=>exact False.elim h
   | cont=>exact False.elim h
   | ret u =>
    obtain ⟨v,H',os,bare,un,C,r',q⟩:=h
    have Y:v=.bl true:=q
    subst Y
    obtain rfl:u=Value.bool true:=r'
    refine ⟨rfl,OldK.of_keep fun b o e=>?_,os,bare⟩
    cases q:H b with
    | none=>exact un.keep b o e q (by intro z;exact absurd (show b∈([]:List Addr) from z) (by simp)) (by simp)
    | some u =>
     rcases Q b with z | ⟨ob,xs,z⟩
     ·rw [q] at z;cases z
     ·have W:=un.frzs b ob _ z
      obtain ⟨S,_⟩:=hok b _ z
      obtain ⟨e2,_⟩:=C b _ W
      rw [e] at S;cases S
      exact e2
 cases hk:K.lookup a with
 | some o =>
  -- the script is one of the module's own objects
  have e:=R a o hk
  rw [ha] at e
  cases e
  refine j (fun _=>none) (fun _ => .inl rfl) (.inr ⟨_,vs.toArray,_,hk,rfl,rfl,rfl,by rw [az1,y];exact O,by simpa using N⟩) (fun b u z=>by have E:(none:Option HO)=some u:=z;cases E) (fun b z=>absurd rfl z) fun z=>absurd rfl z
 | none =>
  refine j (fun b=>if b=a then some (.frz { cls:=.type "list",data:=.seq vs.toArray } (.lst (ns.map V.int))) else none) (fun b=>?_) (.inl (.inr ⟨{ cls:=.type "list",data:=.seq vs.toArray },aC5 rfl⟩)) (fun b u z=>?_) (fun b z=>?_) fun _=>hk
  ·by_cases hb:b=a
   ·exact .inr ⟨_,_,aC5 hb⟩
   ·exact .inl (aC6 hb)
  ·by_cases hb:b=a
   ·have E:=(aC5 hb).symm.trans z
    cases E
    subst hb
    exact ⟨ha,by rw [ay3];exact O,vs,_,N,ha⟩
   ·have E:=(aC6 hb).symm.trans z
    cases E
  ·by_cases hb:b=a
   ·exact hb
   ·exact absurd (aC6 hb) z
abbrev KOf {K:Frag} {h:Heap} (_:K.In h):Frag:=K
theorem walk_of {l:PySem.W.OpenLaw} {n k:Nat} {q:Program} {i:List Str} {M:(Str->Option Value)->Heap->Prop} {E:World->Heap->Prop} {d:DefRec} {K:Params->Frag} {CX:World->CXT} {sp:World->Sp} {x:Str}
  (hn:l.most=some n) (A:n<=sizeLine) (r:d.params.defaults=[]) (Q:Room k callerA)
  (L:∀ (w:World) (h:Heap),E w h->(K w.params).In h)
  (F:∀ (w:World) (mg:Str->Option Value) (fa:Addr) (h:Heap),(K w.params).In h->h.Ns mainGlobals mg->mg d.name=some (.ref fa) ->
   ∃ fd:FuncData,(∀ (s:Shared) (u:Value),BindsTo s fd ⟨[u],[]⟩ [(x,u)]) /\
    ∀ base:Heap,(K w.params).In base->base.Ns mainGlobals mg->FnOk l.prog w (K w.params) mg base (CX w) k fa fd [x] (sp w))
  (B:∀ (w:World) (H:Hp) (a:Addr) (ns:List Int),ns.length<=n->Only H->SqL (K w.params) H a (ns.map V.int)->sp w [.ref a] H (fun v _=>v=.bl true) fun _ _ _=>False)
  (C:∀ (w:World) (H:Hp) (s:Shared) (e:Value) (z:Shared),CX w [] H s (fun _ _ _=>False) e z->False) :
  PySem.W.WalkO q i M E l.row.toRowW d [] (fun f vs=>PySem.call f vs):=by
 refine Att.attach_call hn r fun w s₀ m mg mb fa o pm S doc a vs ns G Y R hd J y p j c I=>?_
 have D:=L w _ Y
 obtain ⟨fd,hb,P⟩:=F w mg fa _ D G.T.g y
 exact aqc D G.T.g G.T.b G.T.builtins G.T.nolimit I p j (aA9 c A) Q P hb (fun H N O=>B w H a ns c N O) fun H e z=>C w H m e z
end L2
/- THE LAST THEOREM (shape; LID, My.* are yours):
  My.Adr: a structure of the addresses that your layer names (classes,functions);My.Txt K t: a structure (Prop) of the equations over K;
  My.txt_mk:{K} {implicit addresses ..} (e1:nsIn K mainGlobals "law" = some (some (.ref f))) (e2:K.lookup f=some ⟨oc,od,.func (fnOf "law" "law" params body scope dV kV doc pm an cdv ct),sl⟩) (e3:codeIn K cdv "law" = true) .. : ∃ t,My.Txt K t
set_option maxRecDepth 100000 in
set_option maxHeartbeats 0 in
theorem PySem.Challenge.cw_LID_holds : PySem.Challenge.rw_LID.Holds := by
 w_on;o_law;k_head;(case hw=>w_witness2)
 k_fill
 refine L2.walk_of (l:=PySem.Challenge.rw_LID) (n:=63) (k:=40) (x:="script") (CX:=fun w => ..) (sp:=fun _=>My.sp_law) rfl (by decide) rfl ⟨rfl,by decide,by decide⟩ (fun w h Y=>PySem.W.kIn_of Y) ?F ?S ?C
 case F =>
  intro w mg fa h KX G hmg
  have T:∃ t,My.Txt (L2.KOf KX) t:=by
   dsimp only [L2.KOf]                          -- K must stand as «<heap const> w.params» for k_is
   refine' My.txt_mk ?e1 ?e2 ?e3 ..
   (case e1=>PySem.W.k_is)                    -- in the order: a name -> its address -> its object -> its parts
   (case e2=>PySem.W.k_is)
   ..
  obtain ⟨t,T⟩:=T
  have e0:=hmg.symm.trans (mg_of KX G T.law)
  cases e0                                       -- fa is the law's own address
  exact ⟨_,fun s u => .of_eq rfl,fun base kb nb=>My.law_fn T kb nb⟩     -- if «.of_eq rfl» comes too early: refine' ⟨_,?b,fun base kb nb=>My.law_fn T kb nb⟩;exact fun s u => .of_eq rfl
 case S=>exact fun w H a ns hl hO hS => ..
 case C=>exact ..
(the tactic k_is has no namespace: write k_is) -/
namespace L2
open PySem PySem.Spec PyProof.Rows
def abx (s:Stmt):Arguments:=match s with
 | .FunctionDef _ a _ _ _ _ _ _ _ _=>a
 | _=>{ posonlyargs:=[],args:=[],vararg:=none,kwonlyargs:=[],kw_defaults:=[],kwarg:=none,defaults:=[] }
def abt (s:Stmt):List Stmt:=match s with
 | .FunctionDef _ _ b _ _ _ _ _ _ _=>b
 | _=>[]
def aaj (s:Stmt):Scope:=match s with
 | .FunctionDef _ _ _ _ _ _ sc _ _ _=>sc
 | _=>{ kind:=.function,names:=[],isGenerator:=false,isCoroutine:=false }
abbrev CX0:CXT:=fun _ _ _ _ _ _=>False
abbrev E0:XK:=fun _ _ _=>False
theorem axg {X:Cx}:akc CX0 X E0:=fun _ _ _ _ _ _ _ h=>h.elim
structure Fun (K:Frag) (x qual:Str) (st:Stmt) (f:Addr) (fd:FuncData):Prop where
 ex:∃ (oc:Value) (od:Option Addr) (kV doc pm:Value) (an:Option Addr) (cdv ct:Value) (osl:Array (Option Value)),
  fd=fnOf x qual (abx st) (abt st) (aaj st) .none kV doc pm an cdv ct/\K.lookup f=some ⟨oc,od,.func fd,osl⟩/\codeIn K cdv qual=true
 kp:keepIn K (.ref f)=true
section
variable {P:Program} {w:World} {K:Frag} {mg:Str->Option Value} {base:Heap}
theorem Fun.ok {x qual:Str} {st:Stmt} {f:Addr} {fd:FuncData} {N ps:List Str} {k:Nat} {sp:Sp} (F:Fun K x qual st f fd) (S:FnScope N ps (aaj st)) (len:∀ vs H Q E,sp vs H Q E->vs.length=ps.length)
  (a:∀ (cdv:Value) (A:Around) (outer:List Env) (s:Shared) (H:Hp) (vs:List V) (Q:VK) (E:XK),Room k (A.deeper (envOfC qual (aaj st) s.heap.objs.size f cdv))->sp vs H Q E ->
   ∃ t,PSs (cxOf CX0 P w K mg base N qual (aaj st) f cdv A outer s H E).nox (abt st) t/\t { nx:=fun _ H'=>Q .non H',rt:=Q } (start N vs) H):FnOk P w K mg base CX0 (k+1) f fd ps sp:=by
 obtain ⟨oc,od,kV,doc,pm,an,cdv,ct,osl,rfl,g,c⟩:=F.ex
 refine axe g c S len fun A outer s H vs Q E d b=>?_
 obtain ⟨t,h,q⟩:=a cdv A outer s H vs Q E d b
 exact ⟨t,h.nox,q⟩
theorem Fun.binds {x qual:Str} {st:Stmt} {f:Addr} {fd:FuncData} {ps:List Str} (F:Fun K x qual st f fd)
  (h:∀ (kV doc pm:Value) (an:Option Addr) (cdv ct:Value) (us:List Value),us.length=ps.length->bindArgs (fnOf x qual (abx st) (abt st) (aaj st) .none kV doc pm an cdv ct) ⟨us,[]⟩=pure (ps.zip us)):Binds K fd ps []:=by
 obtain ⟨oc,od,kV,doc,pm,an,cdv,ct,osl,rfl,b,a⟩:=F.ex
 exact .all (h kV doc pm an cdv ct)
theorem avk {x qual:Str} {st:Stmt} {f:Addr} {oc:Value} {od an:Option Addr} {osl:Array (Option Value)} {kV doc pm cdv ct:Value} (l:K.lookup f=some ⟨oc,od,.func (fnOf x qual (abx st) (abt st) (aaj st) .none kV doc pm an cdv ct),osl⟩)
  (c:codeIn K cdv qual=true) (k:keepIn K (.ref f)=true):Fun K x qual st f (fnOf x qual (abx st) (abt st) (aaj st) .none kV doc pm an cdv ct):=⟨⟨oc,od,kV,doc,pm,an,cdv,ct,osl,rfl,l,c⟩,k⟩
end
theorem ajw {A:Around} {k:Nat} (a:Room k A):A.units+1 < cLine:=aB7 (Nat.add_le_add_left (by decide:1<=64) _) a.units
theorem adm {n:Nat} (h:n<=1000):n < sizeLine:=aB7 h (by decide)
section
variable {X:Cx}
theorem pv (i:Nat) {x:Str} {a:Pos} (d:X.N[i]?=some x:=by rfl) (c:Vis X.env.scope x:=by first | exact Or.inl rfl | exact Or.inr (Or.inl rfl) | exact Or.inr (Or.inr rfl)) (hd:(x == ("__debug__" : Str))=false:=by decide)
  (b:(x == ("__classdict__" : Str))=false:=by decide):PE X (.Name x a) (tVar i):=au7 d c hd b
end
theorem iteF {A B:Prop} (h:B):if false=true then A else B:=by
 rw [aC6 ay9]
 exact h
theorem iteT {A B:Prop} (h:A):if true=true then A else B:=by
 rw [aC5 rfl]
 exact h
def Same (H H':Hp):Prop:=∀ b o,H b=some o->H' b=some o
theorem Same.refl (H:Hp):Same H H:=fun _ _ h=>h
theorem Same.trans {H d H2:Hp} (a:Same H d) (b:Same d H2):Same H H2:=fun c o h=>b c o (a c o h)
theorem Same.free {H H':Hp} (e:Same H H') {l:Addr} (h:H' l=Option.none):H l=Option.none:=by
 cases q:H l with
 | none=>rfl
 | some o =>
  rw [e l o q] at h
  cases h
theorem Same.seq {K:Frag} {H H':Hp} {a:Addr} {xs:List V} (e:Same H H') (h:SqL K H a xs):SqL K H' a xs:=by
 rcases h with (h | ⟨o,h⟩) | h
 ·exact .inl (.inl (e _ _ h))
 ·exact .inl (.inr ⟨o,e _ _ h⟩)
 ·exact .inr h
section
variable {X:Cx}
end
section
variable {κ:Type} [DecidableEq κ]
end
def clos (env:Env):List (Str × NameKind)->List (Str × Addr)->List (Str × Addr)
 | [],cs=>cs
 | (n,k) :: r,cs=>if k == NameKind.free then (match env.cells.lookup n with | some a=>clos env r ((n,a) :: cs) | none=>clos env r cs) else clos env r cs
theorem ag6 {env:Env} {sc:Scope} (h:∀ n,(n,NameKind.free)∈sc.names->∃ a,env.cells.lookup n=some a):closureFor sc env=pure (clos env sc.names []):=by
 have all:∀ (l:List (Str × NameKind)) (cs:List (Str × Addr)),(∀ n,(n,NameKind.free)∈l->∃ a,env.cells.lookup n=some a) ->
   (forIn l cs fun (x:Str × NameKind) (cs:List (Str × Addr))=>match x with | (name,kind)=>if kind == NameKind.free then (do let a ← cellOf env name;pure (ForInStep.yield ((name,a) :: cs))) else pure (ForInStep.yield cs))=(pure (clos env l cs):Sem _):=by
  intro l
  induction l with
  | nil=>intro cs _;rfl
  | cons p r ih =>
   intro cs c
   obtain ⟨n,k⟩:=p
   rw [List.forIn_cons]
   unfold clos
   dsimp only
   cases hk:(k == NameKind.free) with
   | false =>
    simp only [Bool.false_eq_true,if_false,pure_bind]
    exact ih cs fun m hm=>c m (az4 _ hm)
   | true =>
    have d:k=NameKind.free:=by simpa using hk
    subst d
    obtain ⟨a,ha⟩:=c n az7
    have f:cellOf env n=pure a:=by unfold cellOf;rw [ha]
    simp only [if_true,f,pure_bind,ha]
    exact ih _ fun m hm=>c m (az4 _ hm)
 have e:=all sc.names [] h
 unfold closureFor
 refine Eq.trans (b:=(pure (clos env sc.names []):Sem _) >>= fun cs=>pure cs) ?_ (pure_bind _ _)
 exact congrArg (fun z:Sem (List (Str × Addr))=>z >>= fun cs=>pure cs) e
theorem aei {env:Env} {x:Str} {c:Addr}:∀ {l:List (Str × NameKind)} {cs:List (Str × Addr)},(clos env l cs).lookup x=some c->env.cells.lookup x=some c\/cs.lookup x=some c
 | [],cs,h => .inr h
 | (n,k) :: r,cs,h=>by
  unfold clos at h
  by_cases hk:(k == NameKind.free)=true
  ·rw [aC5 hk] at h
   cases ha:env.cells.lookup n with
   | none=>rw [ha] at h;exact aei h
   | some a =>
    rw [ha] at h
    rcases aei h with e | e
    ·exact .inl e
    ·rw [aD9] at e
     cases hx:(x == n) with
     | true =>
      rw [hx] at e
      have:x=n:=by simpa using hx
      subst this
      cases e
      exact .inl ha
     | false=>rw [hx] at e;exact .inr e
  ·rw [aC6 hk] at h
   exact aei h
theorem aej {env:Env} {x:Str}:∀ {l:List (Str × NameKind)} {cs:List (Str × Addr)},(∃ c,cs.lookup x=some c)->∃ c,(clos env l cs).lookup x=some c
 | [],cs,h=>h
 | (n,k) :: r,cs,h=>by
  unfold clos
  by_cases hk:(k == NameKind.free)=true
  ·rw [aC5 hk]
   cases ha:env.cells.lookup n with
   | none=>exact aej h
   | some a =>
    refine aej ?_
    rw [aD9]
    cases hx:(x == n) with
    | true=>exact ⟨_,rfl⟩
    | false=>exact h
  ·rw [aC6 hk]
   exact aej h
theorem ad9 {env:Env} {x:Str} (h:∃ a,env.cells.lookup x=some a):∀ {l:List (Str × NameKind)} {cs:List (Str × Addr)},(x,NameKind.free)∈l->∃ c,(clos env l cs).lookup x=some c
 | [],_,hm=>absurd hm (by simp)
 | (n,k) :: r,cs,hm=>by
  rcases ay8.mp hm with e | hm
  ·cases e
   obtain ⟨a,ha⟩:=h
   unfold clos
   rw [aC5 (by rfl),ha]
   refine aej ⟨a,?_⟩
   rw [aD9]
   simp
  ·unfold clos
   by_cases hk:(k == NameKind.free)=true
   ·rw [aC5 hk]
    cases ha:env.cells.lookup n with
    | none=>exact ad9 h hm
    | some a=>exact ad9 h hm
   ·rw [aC6 hk]
    exact ad9 h hm
theorem afl {env:Env} {x:Str}:∀ {names:List (Str × NameKind)},(∀ y∈names,y.2 ≠ .cell) ->
  ((names.map fun (n,k)=>if (k == NameKind.free && env.scope.kind == .function && env.kindOf n == some .cell) then (n,NameKind.cell) else (n,k)).lookup x=some .cell ∨
   (names.map fun (n,k)=>if (k == NameKind.free && env.scope.kind == .function && env.kindOf n == some .cell) then (n,NameKind.cell) else (n,k)).lookup x=some .free)->names.lookup x=some .free
 | [],_,h=>by rcases h with h | h <;> simp at h
 | (n,k) :: r,hc,h=>by
  have a:=@afl env x r fun y c=>hc y (az4 _ c)
  rw [aD9]
  simp only [aB0] at h
  by_cases hq:(k == NameKind.free && env.scope.kind == .function && env.kindOf n == some .cell)=true
  ·rw [aC5 hq] at h
   have b:k=NameKind.free:=by
    have:=hq;simp only [aE1] at this;simpa using this.1.1
   subst b
   cases hx:(x == n) with
   | true=>rfl
   | false=>simp only [aD9,hx] at h;exact a h
  ·rw [aC6 hq] at h
   cases hx:(x == n) with
   | true =>
    simp only [aD9,hx] at h
    rcases h with h | h
    ·cases h;exact absurd rfl (hc (n,NameKind.cell) az7)
    ·exact h
   | false=>simp only [aD9,hx] at h;exact a h
theorem aek {env:Env} {x:Str}:∀ {names:List (Str × NameKind)},names.lookup x=some .free ->
  ((names.map fun (n,k)=>if (k == NameKind.free && env.scope.kind == .function && env.kindOf n == some .cell) then (n,NameKind.cell) else (n,k)).lookup x=some .cell ∨
   (names.map fun (n,k)=>if (k == NameKind.free && env.scope.kind == .function && env.kindOf n == some .cell) then (n,NameKind.cell) else (n,k)).lookup x=some .free)
 | [],h=>by simp at h
 | (n,k) :: r,h=>by
  have a:=@aek env x r
  rw [aD9] at h
  simp only [aB0]
  by_cases hq:(k == NameKind.free && env.scope.kind == .function && env.kindOf n == some .cell)=true
  ·rw [aC5 hq]
   cases hx:(x == n) with
   | true=>left;simp [aD9,hx]
   | false=>rw [hx] at h;simp only [aD9,hx];exact a h
  ·rw [aC6 hq]
   cases hx:(x == n) with
   | true=>rw [hx] at h;right;simp only [aD9,hx];exact h
   | false=>rw [hx] at h;simp only [aD9,hx];exact a h
def Cx.comp (X:Cx) (N:List Str) (sc:Scope) (C:Addr) (s0:Shared) (H0:Hp) (ex:List Addr):Cx where
 prog:=X.prog
 w:=X.w
 K:=X.K
 mg:=X.mg
 base:=X.base
 A:=X.A
 N:=N
 s₀:=s0
 H₀:=H0
 env:=compEnvC sc (clos X.env sc.names []) C X.env
 outer:=X.stack
 stack:=X.stack
 ex:=ex
 fn:=fun _=>false
 calm:=X.calm
 pn:=[]
 xe:=fun _ _=>False
def pick (src:List (Option Nat)) (σ:St):St:=src.map fun o=>match o with | some j=>(σ[j]?).getD none | none=>none
structure LcOk (X:Cx) (N:List Str) (sc:Scope) (src:List (Option Nat)):Prop where
 kind:sc.kind=.function
 nocell:∀ y∈sc.names,y.2 ≠ .cell
 own:∀ y∈sc.names,y.2=.local->sc.names.lookup y.1=some .local
 outs:∀ y∈sc.names,y.2=.free->X.env.kindOf y.1=some .cell\/X.env.kindOf y.1=some .free
 len:src.length=N.length
 from':∀ (i j:Nat),src[i]?=some (some j)->∃ x,N[i]?=some x/\X.N[j]?=some x/\sc.names.lookup x=some .free
theorem LcOk.clo {X:Cx} {N:List Str} {sc:Scope} {src:List (Option Nat)} (L:LcOk X N sc src) (ok:X.Ok):closureFor sc X.env=pure (clos X.env sc.names []) :=
 ag6 fun n hn=>ok.has n (L.outs (n,.free) hn rfl)
theorem aqd {X:Cx} {pins:List (Addr × Obj)} {σ:St} {H:Hp} {s:Shared} {N:List Str} {sc:Scope} {src:List (Option Nat)} {fp:List Addr} {h:Heap} {t':Nat}
  (L:LcOk X N sc src) (I:Inv X pins σ H s) (hf:∀ b∈fp,FpOk X pins H b) (f:∀ b∈fp,b < s.heap.objs.size)
  (hn:h.Ns s.heap.objs.size fun _=>none) (g:∀ b o,s.heap.get? b=some o->h.get? b=some o) :
  Inv (X.comp N sc s.heap.objs.size s H fp) [] (pick src σ) H { s with heap:=h,toks:=t' }:=by
 have look:∀ {x c},(clos X.env sc.names []).lookup x=some c->X.env.cells.lookup x=some c:=fun {x c} e=>by
  rcases aei e with z | z
  ·exact z
  ·simp at z
 refine ⟨⟨I.ok.mod,L.kind,I.ok.glob,I.ok.blt,ay6 _,fun x y c B a=>?_,fun x K=>?_,fun x c z _=>?_,I.ok.hd,I.ok.frames,.inl rfl,fun b hb=>⟨?_,fun x c e=>?_⟩,I.bs,aA9 I.ok.bsz I.sz,fun b o e hb=>?_,fun b hb z=>?_,I.stack,I.stkFree⟩,
  rfl,I.bare,Un.kept g,⟨_,hn,fun i x v B a Q=>?_⟩,fun x c e=>?_,I.hok.fresh (ay6 _),fun x c e=>I.freeC x c (look e),fun p J=>?_,I.hok.kept g,?_⟩
 ·exact I.ok.inj x y c (look B) (look a)
 ·have q:=afl (env:=X.env) (x:=x) L.nocell K
  exact ad9 (I.ok.has x (L.outs (x,.free) (PySem.mem_of_lookup q) rfl)) (PySem.mem_of_lookup q)
 ·exact Bool.noConfusion z
 ·exact az5 (f b hb)
 ·exact (hf b hb).2.2.2.2.1 x c (look e)
 ·rcases (hf b hb).2.2.2.1 with z | z
  ·exact I.ok.noex b o e z
  ·exact absurd (aA4 (aG1 e) (aA9 I.ok.bsz z)) (aD4 _)
 ·rcases ay8.mp (I.stkSub b z) with q | q
  ·exact (hf b hb).2.1 q
  ·exact (hf b hb).2.2.1 q
 ·unfold pick at a
  rw [ay5] at a
  cases q:src[i]? with
  | none=>rw [q] at a;cases a
  | some o =>
   rw [q] at a
   cases o with
   | none=>cases a
   | some j =>
    obtain ⟨y,E,M,A⟩:=L.from' i j q
    have n:N[i]?=some x:=B
    rw [n] at E
    cases E
    have G : σ[j]?=some (some v):=by
     cases q2 : σ[j]? with
     | none=>simp [q2] at a
     | some z=>simp [q2] at a;rw [a]
    have f:=L.outs (x,.free) (PySem.mem_of_lookup A) rfl
    have w:Vis X.env.scope x:=by
     rcases f with z | z
     ·exact .inr (.inl z)
     ·exact .inr (.inr z)
    obtain ⟨m,_,O⟩:=I.loc
    obtain ⟨u,r,l⟩:=O j x v M G w
    refine ⟨u,r,.inr ⟨?_,?_⟩⟩
    ·exact aek (env:=X.env) A
    ·rcases l with ⟨z,_⟩ | ⟨_,c,C,oc,d,hd⟩
     ·rcases f with F | F <;> (rw [F] at z;cases z)
     ·obtain ⟨P,D⟩:=ad9 (env:=X.env) ⟨c,C⟩ (PySem.mem_of_lookup A) (cs:=[])
      have:=look D
      rw [C] at this;cases this
      exact ⟨c,D,oc,g c oc d,hd⟩
 ·obtain ⟨v,oc,d,hd⟩:=I.cell x c (look e)
  exact ⟨v,oc,g c oc d,hd⟩
 ·exact absurd (show p∈([]:List (Addr × Obj)) from J) (by simp)
 ·show (pick src σ).length=N.length
  unfold pick
  rw [ay3]
  exact L.len
def PIf (X:Cx) (ifs:List Expr) (t:TT):Prop :=
 ∀ (pins:List (Addr × Obj)) (s:Shared) (σ:St) (H:Hp) (Q:Bool->Hp->Prop),Inv X pins σ H s->t σ H Q ->
  wpAny (model X.prog X.w) X.A (forIn ifs true fun c r=>if r=true then do let ok ← isTrue c X.env (eval c X.env);pure (ForInStep.yield ok) else pure (ForInStep.yield r)) (TP X pins σ Q) X.xe s
def tYes:TT:=fun _ H Q=>Q true H
theorem acu {X:Cx}:PIf X [] tYes:=fun _ _ _ H _ I h=>wpAny_tests_nil ⟨H,I,h⟩
theorem amn {X:Cx} {c:Expr} {t:TT} (h:PT X c t):PIf X [c] t:=fun pins s σ H Q I q=>wpAny_tests_one (h pins s σ H Q I q)
abbrev LW:=Nat->Nat->List V->St->Hp->Prop
def afm (J:It) (g:TG) (tif:TT) (te:TE) (acc:Addr) (Qd:List V->Hp->Prop) (W:LW):Prop:=∀ (i m:Nat) (ys:List V) (σ:St) (H:Hp),W i m ys σ H->H acc=some (.lst ys)/\((J.stop i H/\Qd ys H)\/(J.go i H /\
 ∃ Nx:List V->St->Hp->Prop,(∀ ys' σ' H',Nx ys' σ' H'->∃ m',m' < m/\W (i+1) m' ys' σ' H')/\∀ x H2,J.yld i H x H2 ->
 g x σ H2 fun σ3 H3=>tif σ3 H3 fun b H4=>if b=true then te σ3 H4 fun y H5=>H5 acc=some (.lst ys)/\ys.length < sizeLine/\Nx (ys ++ [y]) σ3 (upd H5 acc (.lst (ys ++ [y]))) else Nx ys σ3 H4))
theorem ao1 {X:Cx} {tg q B:Expr} {D:List Expr} {sc:Scope} {F:Pos} {J:It} {fp:List Addr} {it:Addr} {tn:Nat->Heap->Prop} {g:TG} {N:TT} {te:TE} {a:Addr} {Qd:List V->Hp->Prop} {W:LW} {R:Result->Shared->Prop}
  (T:Turn X.prog X.w X.K tg J fp it tn) (hc:X.calm=true) (l:∀ e s,¬ X.xe e s) (hg:PG X tg g) (a1:PIf X D N) (he:PE X B te)
  (S:afm J g N te a Qd W) (hR:∀ ys σ H s,Inv X [] σ H s->Qd ys H->R (.ok .next) s)
  {i m:Nat} {ys:List V} {σ:St} {H:Hp} {s:Shared} (I:Inv X [] σ H s) (st:tn i s.heap) (hf:∀ b∈fp,FpOk X [] H b) (w:W i m ys σ H) :
  codeAny (model X.prog X.w) X.A (.compLoop (.ListComp B [⟨tg,q,D,0⟩] sc F) 0 (.ref it) (.ref a) X.env) R s:=by
 have f:∀ {H':Hp},(∀ b∈fp,H' b=none)->∀ b∈fp,FpOk X [] H' b:=fun hn b hb=>⟨hn b hb,(hf b hb).2⟩
 refine codeAny_loop rfl (fun n j=>∃ i ys h H',Inv X [] h H' j/\tn i j.heap/\(∀ b∈fp,H' b=none)/\W i n ys h H') ?_ m ⟨i,ys,σ,H,I,st,fun b hb=>(hf b hb).1,w⟩
 rintro n s1 ⟨i,ys,c,Y,I1,P,M,w1⟩
 show wpAny _ X.A ((compTurn (.ListComp B [⟨tg,q,D,0⟩] sc F) 0 (.ref it) (.ref a) X.env).onRaise (fun x=>do noteFrame x X.env;theTreesLotGoes x)) _ _ s1
 refine wpAny_noted ?_
 rw [compTurn_list]
 refine aF8 (wpAny_standAt (aF8 ?_))
 obtain ⟨a3,⟨stop,qd⟩ | ⟨go,Nx,G,step⟩⟩:=S i n ys c Y w1
 ·refine thn (T.done X rfl rfl rfl hc i [] s1 c Y _ I1 (f M) P stop) fun r s2 ⟨hr,I2⟩=>?_
  subst hr
  exact aF9 (hR ys c Y s2 I2 qd)
 ·refine thn (T.item X rfl rfl rfl hc i [] s1 c Y _ I1 (f M) P go) fun r s2 ⟨u,hr,h2⟩=>?_
  subst hr
  refine aF8 (thn h2 fun _ s3 ⟨x,H3,I3,r3,y3,E,a2⟩=>?_)
  have a0:=I3.pinned (f a2) (T.obj _ _ E)
  refine aF8 (aG5 (hg _ s3 c H3 x u _ a0 r3 (step x H3 y3)) (fun _ s4 ⟨C,H4,I4,q4⟩=>?_) fun e j z=>(l e j z).elim)
  have v:∀ {p:St} {L:Hp} {O:Shared} {zs:List V},Inv X ([] ++ afg fp s3.heap) p L O->(∃ U,U < n/\W (i+1) U zs p L)->∃ m,m < n/\∃ i ys h H',Inv X [] h H' O/\tn i O.heap/\(∀ b∈fp,H' b=none)/\W i m ys h H':=fun {p L O zs} Q w7=>by
   obtain ⟨U,hm,w7⟩:=w7
   refine ⟨U,hm,i+1,zs,p,L,Q.unpinned,T.keep _ _ _ E fun b hb o e=>(Q.pin (b,o) (az2 _ (az2 _ (adw hb e)))).1,fun b hb=>?_,w7⟩
   obtain ⟨o,e,d⟩:=T.obj _ _ E b hb
   exact (Q.pin (b,o) (az2 _ (az2 _ (adw hb e)))).2.1
  refine aF8 (aG5 (a1 _ s4 C H4 _ I4 q4) (fun b s5 ⟨H5,I5,Z⟩=>?_) fun e j z=>(l e j z).elim)
  cases b with
  | false =>
   rw [aC6 ay9] at Z
   exact aF9 ⟨rfl,v I5 (G _ _ _ Z)⟩
  | true =>
   rw [aC5 rfl] at Z
   refine aF8 (aF8 (aG5 (he _ s5 C H5 _ I5 Z) (fun yv s6 ⟨y,H6,I6,r6,a6,l6,w6⟩=>?_) fun e j z=>(l e j z).elim))
   have ap:=acm (X:=X) _ s6 C H6 (.ref a) [y] (.ref a) [yv] (fun _ H'=>H'=upd H6 a (.lst (ys ++ [y]))) I6 rfl (.cons r6 .nil) ⟨a,ys,y,rfl,rfl,a6,l6,rfl⟩
   refine aF8 (aG5 ap (fun _ O ⟨v7,L,Q,_,e7⟩=>?_) fun e j z=>(l e j z).elim)
   subst e7
   exact aF9 (aF9 ⟨rfl,v Q (G _ _ _ w6)⟩)
def tLC (src:List (Option Nat)) (wi:TI) (g:TG) (tif:TT) (te:TE):TE:=fun σ H Q=>wi σ H fun J H1=>∀ acc,H1 acc=none->∃ W:LW,(∃ m,W 0 m [] (pick src σ) (upd H1 acc (.lst [])))/\afm J g tif te acc (fun _ H'=>Q (.ref acc) H') W
section
variable {X:Cx} {N:List Str} {tg iter elt:Expr} {ifs:List Expr} {sc:Scope} {src:List (Option Nat)} {wi:TI} {g:TG} {tif:TT} {te:TE} {pos:Pos}
theorem ass (hc:X.calm=true) (L:LcOk X N sc src) (U:∀ C s q ex,PG (X.comp N sc C s q ex) tg g) (O:∀ C s q ex,PIf (X.comp N sc C s q ex) ifs tif) (he:∀ C s q ex,PE (X.comp N sc C s q ex) elt te)
  {pins:List (Addr × Obj)} {d:Shared} {σ:St} {H3:Hp} {Q:VK} (i:Inv X pins σ H3 d) {it a:Addr} {fp:List Addr} {J:It} {tn:Nat->Heap->Prop} (T:Turn X.prog X.w X.K tg J fp it tn) (n:tn 0 d.heap) (j:∀ b∈fp,FpOk X pins H3 b)
  {W:LW} {m0:Nat} (w0:W 0 m0 [] (pick src σ) H3) (G:afm J g tif te a (fun _ H'=>Q (.ref a) H') W) (use:Option (Value->Sem Unit)) (P:Value->Shared->Prop)
  (hP:∀ C H' f m,Inv X pins σ H' f->Q (.ref a) H'->f.heap.Ns C m->H' C=none->C ≠ X.env.locals->(C∈X.ex\/X.s₀.heap.objs.size<=C)->(∀ x c,X.env.cells.lookup x=some c->c ≠ C)->(∀ p∈X.pn ++ pins,p.1 ≠ C) ->
   compPost (model X.prog X.w) X.A X.xe use P (.ref a) C (.ok .next) f) :
  wpAny (model X.prog X.w) X.A (newFunctionEnv sc X.env.globals (clos X.env sc.names []) [] X.env.qual none .none (some X.env)) (fun h F =>
    codeAny (model X.prog X.w) X.A (.compStart (.ListComp elt [⟨tg,iter,ifs,0⟩] sc pos) 0 (.ref it) (.ref a) { h with scope:=relabel sc X.env }) (compPost (model X.prog X.w) X.A X.xe use P (.ref a) h.locals) F) X.xe d:=by
 refine wpAny_newFunctionEnv L.nocell (by intro y Y;simp at Y) (fun M E B=>?_) L.kind
 have S:∀ b∈fp,b < d.heap.objs.size:=fun b hb=>by
  obtain ⟨o,I,_⟩:=T.obj _ _ n b hb
  exact aG1 I
 have r:∀ b o,d.heap.get? b=some o->M.get? b=some o:=fun b o e=>B.extBut b o (az5 (aG1 e)) (aG0 _ e)
 have H:=aqd (t':=d.toks+([]:List (Str × Value)).length) L i j S (by simpa using E) r
 have D:tn 0 M:=T.keep _ _ _ n fun b _ o e=>r b o e
 have Z:∀ b∈fp,FpOk (X.comp N sc d.heap.objs.size d H3 fp) [] H3 b:=fun b hb =>
  ⟨(j b hb).1,(H.ok.exf b hb).1,H.ok.exfs b hb,.inl hb,(H.ok.exf b hb).2,fun p R=>absurd (show p∈([]:List (Addr × Obj)) from R) (by simp)⟩
 have fin:∀ (ys:List V) u H' f,Inv (X.comp N sc d.heap.objs.size d H3 fp) [] u H' f->Q (.ref a) H'->compPost (model X.prog X.w) X.A X.xe use P (.ref a) d.heap.objs.size (.ok .next) f:=fun ys u H' f l q'=>by
  have Jo:Inv X pins σ H' f:=i.call' (ch:=fp) l.os l.base l.hok l.bare fun b hb=>⟨(j b hb).2.2.2.1,(j b hb).2.1,(j b hb).2.2.2.2.1,(j b hb).2.2.2.2.2⟩
  obtain ⟨m,hn,_⟩:=l.loc
  refine hP _ H' f m Jo q' hn l.free (Nat.ne_of_gt i.lt) (.inr i.sz) (fun x c e z=>?_) fun p R z=>?_
  ·obtain ⟨v,o,I,_⟩:=i.cell x c e
   exact absurd (aG1 I) (by rw [z];exact aD4 _)
  ·exact absurd (aG1 (i.pin p R).1) (by rw [z];exact aD4 _)
 have loop:codeAny (model X.prog X.w) X.A (.compLoop (.ListComp elt [⟨tg,iter,ifs,0⟩] sc pos) 0 (.ref it) (.ref a) (X.comp N sc d.heap.objs.size d H3 fp).env)
   (compPost (model X.prog X.w) X.A X.xe use P (.ref a) d.heap.objs.size) { d with heap:=M,toks:=d.toks+([]:List (Str × Value)).length } :=
  ao1 (X:=X.comp N sc d.heap.objs.size d H3 fp) T hc (fun _ _ z=>z) (U _ _ _ _) (O _ _ _ _) (he _ _ _ _) G fin H D Z w0
 exact codeAny_compStart_list loop (T.self _ 0 _ _ _ D loop)
theorem ako (K:X.calm=true) (L:LcOk X N sc src) (hi:PI X tg iter wi) (B:∀ C i a ex,PG (X.comp N sc C i a ex) tg g) (n:∀ C i a ex,PIf (X.comp N sc C i a ex) ifs tif) (R:∀ C i a ex,PE (X.comp N sc C i a ex) elt te)
  {pins:List (Addr × Obj)} {s:Shared} {σ:St} {H:Hp} {Q:VK} (I:Inv X pins σ H s) (h:tLC src wi g tif te σ H Q) (use:Option (Value->Sem Unit)) (P:Value->Shared->Prop)
  (G:∀ d C H' q m,Inv X pins σ H' q->Q (.ref d) H'->q.heap.Ns C m->H' C=none->C ≠ X.env.locals->(C∈X.ex\/X.s₀.heap.objs.size<=C)->(∀ x c,X.env.cells.lookup x=some c->c ≠ C)->(∀ p∈X.pn ++ pins,p.1 ≠ C) ->
   compPost (model X.prog X.w) X.A X.xe use P (.ref d) C (.ok .next) q)
  (O:∀ x,foldedSetIterable iter X.env x=pure x) :
  wpAny (model X.prog X.w) X.A (comprehension (.ListComp elt [⟨tg,iter,ifs,0⟩] sc pos) sc X.env (firstIterPos [⟨tg,iter,ifs,0⟩] pos) (newList []) false (eval iter X.env) use) P X.xe s:=by
 refine wpAny_comprehension_free rfl O (L.clo I.ok) L.kind L.own (thn (hi pins s σ H _ I h) fun v s1 D=>thn D fun U s2 M=>?_)
 obtain ⟨it,fp,tn,J,H2,e,y,T,l,z,F⟩:=M
 subst e
 have f:H2 s2.heap.objs.size=none:=y.hok.fresh (ay6 _)
 obtain ⟨W,⟨Y,S⟩,j⟩:=F s2.heap.objs.size f
 have r:∀ b∈fp,b < s2.heap.objs.size:=fun b hb=>by
  obtain ⟨o,E,_⟩:=T.obj _ _ l b hb
  exact aG1 E
 refine aG6 ?_
 refine ass K L B n R (H3:=upd H2 s2.heap.objs.size (.lst [])) ?_ T ?_ ?_ S j use P (G _)
 ·exact y.laid (t':=s2.toks) (fun b u e=>aG0 _ e) (ay6 _) ⟨aD0 _,[],0,.nil,aG2 _ rfl⟩
 ·exact T.keep _ _ _ l fun b _ o e=>aG0 _ e
 ·exact fun b hb=>⟨by rw [aag (az5 (r b hb))];exact (z b hb).1,(z b hb).2⟩
theorem ady (p:X.calm=true) (L:LcOk X N sc src) (hi:PI X tg iter wi) (j:∀ C c a ex,PG (X.comp N sc C c a ex) tg g) (d:∀ C c a ex,PIf (X.comp N sc C c a ex) ifs tif) (v:∀ C c a ex,PE (X.comp N sc C c a ex) elt te)
  (u:∀ x,foldedSetIterable iter X.env x=pure x:=by intro _;rfl):PE X (.ListComp elt [⟨tg,iter,ifs,0⟩] sc pos) (tLC src wi g tif te):=by
 intro pins s σ H Q I h
 rw [eval_ListComp]
 refine ako p L hi j d v I h none _ (fun f C H' n m J q hn w l y i r=>?_) u
 refine ⟨m,hn,fun h' sb=>⟨.ref f,H',?_,rfl,q⟩⟩
 exact J.turned (t':=n.toks) (fun b o hb e=>sb.extBut b o hb e) w l y i r
end
section
variable {X:Cx} {N:List Str} {tg iter elt:Expr} {ifs:List Expr} {sc:Scope} {src:List (Option Nat)} {wi:TI} {g:TG} {tif:TT} {te:TE} {pos spos px:Pos}
theorem akp {i:Nat} {x:Str} (M:X.N.Nodup) (r:X.N[i]?=some x) (S:Loc X.env.scope x) (G:X.calm=true) (L:LcOk X N sc src) (hi:PI X tg iter wi) (E:∀ C j c ex,PG (X.comp N sc C j c ex) tg g)
  (l:∀ C j c ex,PIf (X.comp N sc C j c ex) ifs tif) (Q:∀ C j c ex,PE (X.comp N sc C j c ex) elt te)
  (w:swapsWith (.ListComp elt [⟨tg,iter,ifs,0⟩] sc pos) (some (.Name x px)) spos.line X.env=pure true:=by rfl)
  (hf:X.fn x=true\/X.env.scope.names.lookup x=some .local:=by first | exact .inl rfl | exact .inr rfl | assumption)
  (P:∀ x,foldedSetIterable iter X.env x=pure x:=by intro _;rfl):PS X (.Assign [.Name x px] (.ListComp elt [⟨tg,iter,ifs,0⟩] sc pos) spos) (tAsg (tLC src wi g tif te) (aa6 i)):=by
 intro pins s σ H D I h
 rw [exec_Assign_Name_used _ _ _ _ w]
 refine aF8 (wpAny_standAt (aF8 ?_))
 show wpAny _ X.A (do let _ ← comprehension (.ListComp elt [⟨tg,iter,ifs,0⟩] sc pos) sc X.env _ (newList []) false (eval iter X.env) (some (assign (.Name x px) X.env))) _ _ s
 refine aF8 (aG5 (ako G L hi E l Q I h (some (assign (.Name x px) X.env)) (fun _ p=>SP X pins D .next p) (fun d C H' p m J q hn R B u f K=>?_) P) (fun _ p O=>aF9 (aF9 O)) fun _ _ e=>e)
 show wpAny _ X.A (assign (.Name x px) X.env (.ref d)) _ _ _
 refine wpAny_assign_Name (ain J M r S (v:=.ref d) rfl (fun s2 F ⟨a,sb,ha⟩=>?_) hf)
 have n:C ≠ a:=by
  rcases ha with z | z
  ·rw [z];exact B
  ·exact (f x a z).symm
 refine ⟨m,hn.sameBut sb n,fun h' y=>⟨_,H',?_,q⟩⟩
 exact F.turned (t':=s2.toks) (fun b o hb e=>y.extBut b o hb e) R B u f K
end
section
variable {g:TG} {tif:TT} {te:TE} {acc:Addr} {Qd:List V->Hp->Prop} {σ0:St} {H0:Hp}
theorem aqe {lo:Int} {n:Nat} (c:Nat->List V->St->Hp->Prop) (o:c 0 [] σ0 H0) (ha:∀ i ys σ H,c i ys σ H->H acc=some (.lst ys))
  (j:∀ i ys σ H,i < n->c i ys σ H->g (.int (lo+i)) σ H fun a H3=>tif a H3 fun b d=>if b=true then te a d fun y f=>f acc=some (.lst ys)/\ys.length < sizeLine/\c (i+1) (ys ++ [y]) a (upd f acc (.lst (ys ++ [y]))) else c (i+1) ys a d)
  (hd:∀ ys σ H,c n ys σ H->Qd ys H):∃ W:LW,(∃ m,W 0 m [] σ0 H0)/\afm (Itr lo n) g tif te acc Qd W:=by
 refine ⟨fun i m ys σ H=>m=n - i/\i<=n/\c i ys σ H,⟨n,by simp,aD0 _,o⟩,?_⟩
 rintro i m ys σ H ⟨rfl,hi,p⟩
 refine ⟨ha i ys σ H p,?_⟩
 by_cases hlt:i < n
 ·refine .inr ⟨hlt,c (i+1),fun l q H' h=>⟨n - (i+1),by omega,rfl,hlt,h⟩,fun x H' y=>?_⟩
  obtain ⟨e,y⟩:=y
  subst e y
  exact j i ys σ _ hlt p
 ·have e:i=n:=by omega
  subst e
  exact .inl ⟨ay6 _,hd ys σ H p⟩
end
section
variable {X:Cx} {N:List Str} {t1 i1 t2 i2 elt:Expr} {f1 f2:List Expr} {sc:Scope} {src:List (Option Nat)} {wi wi2:TI} {g g2:TG} {tif tif2:TT} {te:TE} {pos:Pos}
end
def rLen (K:Frag):List V->Hp->VK->Prop:=fun xs H Q=>∃ p ys,xs=[.ref p]/\(SqL K H p ys\/SqT K H p ys)/\Q (.int ys.length) H
theorem abk {X:Cx}:abc X (.builtin "len") (rLen X.K):=akg
def ajx:List V->Hp->VK->Prop:=fun xs H Q=>∃ i j,xs=[.int i,.int j]/\Q (.int (if j > i then j else i)) H
def ajy:List V->Hp->VK->Prop:=fun xs H Q=>∃ i j,xs=[.int i,.int j]/\Q (.int (if j < i then j else i)) H
theorem abz {X:Cx} (a:X.calm=true):abc X (.builtin "max") ajx:=aoq a
theorem ab0 {X:Cx} (a:X.calm=true):abc X (.builtin "min") ajy:=aor a
def anx:List V->Hp->VK->Prop:=fun xs H Q=>(∃ i,xs=[.int i]/\Q (.int i) H)\/∃ k,xs=[.bl k]/\Q (.int (if k then 1 else 0)) H
theorem anz {X:Cx}:abc X (.type "int") anx:=aos
section
variable {σ:St} {H:Hp} {D:Ends} {K:Frag}
theorem avl {t u:TS} (h:t { D with nx:=u D } σ H):tSeq t u D σ H:=h
theorem avm {te:TE} {g:TG} (h:te σ H fun x a=>g x σ a D.nx):tAsg te g D σ H:=h
theorem avn {te:TE} (h:te σ H D.rt):tRet te D σ H:=h
theorem ast {te:TE} (h:te σ H fun _ a=>D.nx σ a):anm te D σ H:=h
theorem asu (h:D.nx σ H):anl D σ H:=h
theorem avo {c:TT} {t u:TS} (h:c σ H fun b a=>if b=true then t D σ a else u D σ a):tIfS c t u D σ H:=h
theorem amo {i:Nat} {v:V} {Q:St->Hp->Prop} (h:Q (σ.set i (some v)) H):aa6 i v σ H Q:=h
theorem asv {to a:TE} {t:TSet} {v:V} {Q:St->Hp->Prop} (h:to σ H fun o b=>a σ b fun i H2=>t o i v H2 fun H3=>Q σ H3):gSub to a t v σ H Q:=h
theorem avp {i:Nat} {v:V} {Q:VK} (a : σ[i]?=some (some v)) (h:Q v H):tVar i σ H Q:=⟨v,a,h⟩
theorem go_c {v:V} {Q:VK} (h:Q v H):tC v σ H Q:=h
theorem axh {r:R2} {b a:TE} {Q:VK} (h:b σ H fun x c=>a σ c fun y H2=>r x y H2 Q):tOp r b a σ H Q:=h
theorem asw {t:TE} {Q:Bool->Hp->Prop} (h:t σ H fun x H'=>∃ k,x=.bl k/\Q k H'):anr t σ H Q:=h
theorem axi {k:Bool} {Q:Bool->Prop} (h:Q k):∃ a,V.bl k=.bl a/\Q a:=⟨k,rfl,h⟩
theorem avq {t u:TT} {Q:Bool->Hp->Prop} (h:t σ H fun c a=>if c=true then u σ a Q else Q false a):tAnd t u σ H Q:=h
theorem asx {a:TE} {tr:TA} {Q:List V->Hp->Prop} (h:a σ H fun x b=>tr σ b fun xs H2=>Q (x :: xs) H2):abu a tr σ H Q:=h
theorem ao2 {Q:List V->Hp->Prop} (h:Q [] H):tNil σ H Q:=h
theorem avr {t:TA} {Q:VK} (h:t σ H fun xs a=>xs.length<=sizeLine/\∀ p,a p=none->Q (.ref p) (upd a p (.lst xs))):tLst t σ H Q:=h
theorem axj {r:List V->Hp->VK->Prop} {t:TA} {Q:VK} (h:t σ H fun vs a=>r vs a Q):tCB r t σ H Q:=h
theorem asz {sp:Sp} {E:XK} {t:TA} {Q:VK} (h:t σ H fun vs a=>sp vs a Q E):ab9 sp [] E t σ H Q:=by
 unfold ab9
 simp only [aC2]
 exact h
theorem go_I {C:Int->Int->Prop} {g:Int->Int->V} {i j:Int} {Q:VK} (a:C i j) (h:Q (g i j) H):rI C g (.int i) (.int j) H Q:=⟨i,j,rfl,rfl,a,h⟩
theorem axk {g:Int->Int->V} {i j:Int} {Q:VK} (h:Q (g i j) H):rI0 g (.int i) (.int j) H Q:=⟨i,j,rfl,rfl,h⟩
theorem ao3 {i j:Int} {Q:VK} (h:Q (.bl (decide (i=j))) H):rEq (.int i) (.int j) H Q:=by
 have e:decide (V.int i=V.int j)=decide (i=j):=by rw [af2];exact Bool.beq_eq_decide_eq i j
 exact ⟨rfl,by rw [e];exact h⟩
theorem avs {i j:Int} {Q:VK} (h:Q (.bl (!decide (i=j))) H):rNe (.int i) (.int j) H Q:=by
 have e:decide (V.int i=V.int j)=decide (i=j):=by rw [af2];exact Bool.beq_eq_decide_eq i j
 exact ⟨rfl,by rw [e];exact h⟩
theorem avt {a:Addr} {xs:List V} {i:Int} {v:V} {Q:VK} (ha:H a=some (.lst xs)) (b:atI xs i=some v) (h:Q v H):rIxL K (.ref a) (.int i) H Q:=⟨a,xs,i,v,rfl,rfl,SqL.of ha,b,h⟩
theorem avu {a:Addr} {xs:List V} {i:Int} {v:V} {Q:VK} (ha:H a=some (.tup xs)) (b:atI xs i=some v) (h:Q v H):rIxT K (.ref a) (.int i) H Q:=⟨a,xs,i,v,rfl,rfl,SqT.of ha,b,h⟩
theorem amp {a:Addr} {xs:List V} {k:Int} {j:Nat} {v:V} {Q:Hp->Prop} (ha:H a=some (.lst xs)) (b:ixN xs.length k=some j) (h:Q (upd H a (.lst (xs.set j v)))):anv (.ref a) (.int k) v H Q:=⟨a,xs,k,j,rfl,rfl,ha,b,h⟩
theorem afn {a:Addr} {xs:List V} {y:V} {Q:VK} (ha:H a=some (.lst xs)) (b:xs.length < sizeLine) (h:Q .non (upd H a (.lst (xs ++ [y])))):aev (.ref a) [y] H Q:=⟨a,xs,y,rfl,rfl,ha,b,h⟩
theorem ao4 {a b:Addr} {xs c:List V} {Q:VK} (ha:H a=some (.lst xs)) (hb:H b=some (.lst c)) (d:xs.length+c.length<=sizeLine) (h:Q .non (upd H a (.lst (xs ++ c)))):ahz (.ref a) [.ref b] H Q:=⟨a,b,xs,c,rfl,rfl,ha,hb,d,h⟩
theorem avv {r:V->List V->Hp->VK->Prop} {to:TE} {t:TA} {Q:VK} (h:to σ H fun x a=>tyV K "list" x a/\t σ a fun xs H2=>r x xs H2 Q):tBM K "list" r to t σ H Q:=h
theorem avw {a b:Addr} {xs c:List V} {Q:VK} (ha:H a=some (.lst xs)) (hb:H b=some (.lst c)) (d:xs.length+c.length<=sizeLine) (h:∀ p,H p=none->Q (.ref p) (upd H p (.lst (xs ++ c)))):rCat (.ref a) (.ref b) H Q:=⟨a,b,xs,c,rfl,rfl,ha,hb,d,h⟩
theorem amq {a:Addr} {xs:List V} {Q:VK} (ha:H a=some (.lst xs)) (h:Q (.int xs.length) H):rLen K [.ref a] H Q:=⟨a,xs,rfl,.inl (SqL.of ha),h⟩
theorem as0 {a:Addr} {xs:List V} {Q:VK} (ha:H a=some (.tup xs)) (h:Q (.int xs.length) H):rLen K [.ref a] H Q:=⟨a,xs,rfl,.inr (SqT.of ha),h⟩
theorem amr {i j:Int} {Q:VK} (h:Q (.int (if j > i then j else i)) H):ajx [.int i,.int j] H Q:=⟨i,j,rfl,h⟩
theorem ams {i j:Int} {Q:VK} (h:Q (.int (if j < i then j else i)) H):ajy [.int i,.int j] H Q:=⟨i,j,rfl,h⟩
theorem as4 {k:Bool} {Q:VK} (h:Q (.int (if k then 1 else 0)) H):anx [.bl k] H Q:=.inr ⟨k,rfl,h⟩
theorem ah2 {c:Prop} [Decidable c] {A B:Prop} (a:c) (h:A):if decide c=true then A else B:=by rw [aB5 a];exact iteT h
theorem ah3 {c:Prop} [Decidable c] {A B:Prop} (a:¬ c) (h:B):if decide c=true then A else B:=by rw [aB4 a];exact iteF h
theorem adn {c:Prop} [Decidable c] {A B:Prop} (b:c->A) (a:¬ c->B):if decide c=true then A else B:=by
 by_cases hc:c
 ·exact ah2 hc (b hc)
 ·exact ah3 hc (a hc)
theorem as6 {c:Prop} [Decidable c] {A B:Prop} (b:¬ c->A) (a:c->B):if (!decide c)=true then A else B:=by
 by_cases hc:c
 ·rw [aB5 hc];exact iteF (a hc)
 ·rw [aB4 hc];exact iteT (b hc)
theorem at0 {x:V} {xs:List V}:atI (x :: xs) 0=some x:=aeu (j:=0) rfl
theorem at1 {x y:V} {xs:List V}:atI (x :: y :: xs) 1=some y:=aeu (j:=1) rfl
theorem at2 {x y z:V} {xs:List V}:atI (x :: y :: z :: xs) 2=some z:=aeu (j:=2) rfl
theorem ixN0 {n:Nat}:ixN (n+1) 0=some 0:=by unfold ixN;rw [aC5 (by decide),aC5 (by omega)];rfl
theorem ixN1 {n:Nat}:ixN (n+2) 1=some 1:=by unfold ixN;rw [aC5 (by decide),aC5 (by omega)];rfl
theorem ixN2 {n:Nat}:ixN (n+3) 2=some 2:=by unfold ixN;rw [aC5 (by decide),aC5 (by omega)];rfl
end
structure CallOk (P:Program) (w:World) (K:Frag) (mg:Str->Option Value) (base:Heap) (x:Str) (k:Nat) (ps:List Str) (sp:Sp) (f:Addr) (fd:FuncData):Prop where
 ok:FnOk P w K mg base CX0 k f fd ps sp
 mgx:mg x=some (.ref f)
 kp:keepIn K (.ref f)=true
 bd:Binds K fd ps []
def Can (P:Program) (w:World) (K:Frag) (mg:Str->Option Value) (base:Heap) (x:Str) (k:Nat) (ps:List Str) (sp:Sp):Prop:=∃ f fd,CallOk P w K mg base x k ps sp f fd
structure DefAt (K:Frag) (mg:Str->Option Value) (x:Str) (st:Stmt) (ps:List Str) (f:Addr) (fd:FuncData):Prop where
 fn:Fun K x x st f fd
 mgx:mg x=some (.ref f)
 bd:Binds K fd ps []
theorem DefAt.can {P:Program} {w:World} {K:Frag} {mg:Str->Option Value} {base:Heap} {x:Str} {st:Stmt} {k:Nat} {ps:List Str} {sp:Sp} {f:Addr} {fd:FuncData} (D:DefAt K mg x st ps f fd) (ok:FnOk P w K mg base CX0 k f fd ps sp):Can P w K mg base x k ps sp :=
 ⟨f,fd,ok,D.mgx,D.fn.kp,D.bd⟩
section
variable {X:Cx} {k j:Nat} {ps:List Str} {sp:Sp} {x:Str} {p pos:Pos} {e:Expr} {es:List Expr} {t:TA}
theorem aae (F:Can X.prog X.w X.K X.mg X.base x k ps sp) (h:Room j X.A) (ha:PA X (e :: es) t) (c:k<=j:=by decide) (d:Gl X x:=by rfl) (b:(x == ("__debug__" : Str))=false:=by decide)
  (g:starEach (e :: es) X.env=(false,eval e X.env) :: starEach es X.env:=by rfl) (a:(backTo pos (starEach es X.env)).any (·.1)=false:=by rfl) :
  PE X (.Call (.Name x p) (e :: es) [] pos) (ab9 sp [] E0 t):=by
 obtain ⟨f,fd,C⟩:=F
 exact asp C.ok (h.mono c) d C.mgx C.kp C.bd .nil axg ha b g a
end
theorem ab4 {X:Cx} {N:List Str} {sc:Scope} {src:List (Option Nat)} (c:sc.kind=.function) (b:sc.names.all (fun y=>y.2 != .cell)=true) (f:sc.names.all (fun y=>y.2 != .local || sc.names.lookup y.1 == some .local)=true)
  (l:sc.names.all (fun y=>y.2 != .free || X.env.kindOf y.1 == some .cell || X.env.kindOf y.1 == some .free)=true) (g:src.length=N.length)
  (d:(List.range src.length).all (fun i=>match src[i]? with | some (some j)=>(match N[i]?,X.N[j]? with | some x,some y=>x == y && sc.names.lookup x == some .free | _,_=>false) | _=>true)=true):LcOk X N sc src:=by
 refine ⟨c,fun y a e=>?_,fun y a e=>?_,fun y a e=>?_,g,fun i j e=>?_⟩
 ·have:=aC4.mp b y a
  rw [e] at this
  exact absurd this (by decide)
 ·have:=aC4.mp f y a
  rw [e] at this
  simpa using this
 ·have:=aC4.mp l y a
  rw [e] at this
  simpa using this
 ·have hi:i < src.length:=(ay1.mp e).1
  have:=aC4.mp d i (az8.mpr hi)
  rw [e] at this
  dsimp only at this
  cases h7:N[i]? with
  | none=>rw [h7] at this;cases this
  | some x =>
   cases h8:X.N[j]? with
   | none=>rw [h7,h8] at this;cases this
   | some y =>
    rw [h7,h8] at this
    simp only [aE1] at this
    have h:x=y:=by simpa using this.1
    subst h
    exact ⟨x,rfl,rfl,by simpa using this.2⟩
section
variable {σ:St} {H:Hp} {D:Ends} {K:Frag}
def ForW (J:It) (g:TG) (tb:TS) (D:Ends) (σ:St) (H1:Hp):Prop:=∃ W:Nat->Nat->St->Hp->Prop,(∃ m,W 0 m σ H1)/\∀ i m σ H,W i m σ H ->
 (J.stop i H/\D.nx σ H)\/(J.go i H/\∃ N:St->Hp->Prop,(∀ σ' H',N σ' H'->∃ m',m' < m/\W (i+1) m' σ' H')/\∀ x H',J.yld i H x H'->g x σ H' fun σ2 H2=>tb { D with nx:=N,ct:=N,bk:=D.nx } σ2 H2)
theorem avx {b:TI} {g:TG} {a:TS} (h:b σ H fun J c=>ForW J g a D σ c):tFor b g a D σ H:=h
def LcW (J:It) (g:TG) (tif:TT) (te:TE) (σ0:St) (Q:VK) (H1:Hp):Prop:=∀ acc,H1 acc=none->∃ W:LW,(∃ m,W 0 m [] σ0 (upd H1 acc (.lst [])))/\afm J g tif te acc (fun _ H'=>Q (.ref acc) H') W
theorem axl {src:List (Option Nat)} {b:TI} {g:TG} {a:TT} {te:TE} {Q:VK} (h:b σ H fun J c=>LcW J g a te (pick src σ) Q c):tLC src b g a te σ H Q:=h
def asb (R:It->Hp->Prop):List V->Hp->Prop:=fun vs H1=>∃ j:Int,vs=[.int j]/\-(2 ^ 62)<=j/\j < 2 ^ 62/\R (Itr 0 j.toNat) H1
theorem aqf {a:TA} {R:It->Hp->Prop} (h:a σ H (asb R)):ano a σ H R:=h
theorem amt {R:It->Hp->Prop} {j:Int} (b:0<=j) (a:j < 2 ^ 62) (h:R (Itr 0 j.toNat) H):asb R [.int j] H:=⟨j,rfl,by omega,a,h⟩
theorem avy {a:Addr} {xs:List V} {i:Int} {v:V} {Q:VK} (ha:SqL K H a xs) (b:atI xs i=some v) (h:Q v H):rIxL K (.ref a) (.int i) H Q:=⟨a,xs,i,v,rfl,rfl,ha,b,h⟩
theorem amu {a:Addr} {xs:List V} {Q:VK} (ha:SqL K H a xs) (h:Q (.int xs.length) H):rLen K [.ref a] H Q:=⟨a,xs,rfl,.inl ha,h⟩
theorem avz {a:Addr} {xs:List V} {R:Prop} (ha:H a=some (.lst xs)) (h:R):tyV K "list" (.ref a) H/\R:=⟨.inl ⟨rfl,_,SqL.of ha⟩,h⟩
theorem ao5 {Q:Bool->Hp->Prop} (h:Q true H):tYes σ H Q:=h
theorem aqg {a:Addr} {xs:List V} {i:Int} {k:Nat} {y:V} {Q:VK} (ha:H a=some (.lst xs)) (d : -(2 ^ 63)<=i) (c:i < 2 ^ 63) (b:seqIndex? i xs.length=some k) (f:xs[k]?=some y) (h:Q y (upd H a (.lst (xs.eraseIdx k)))):aki (.ref a) [.int i] H Q :=
 ⟨a,xs,i,k,y,rfl,rfl,ha,d,c,b,f,h⟩
end
end L2
namespace L2
open PySem
theorem ace:bootBuiltins "len" = some (.builtin "len"):=by decide +kernel
theorem ada:bootBuiltins "max" = some (.builtin "max"):=by decide +kernel
theorem acx:bootBuiltins "min" = some (.builtin "min"):=by decide +kernel
theorem ao6:bootBuiltins "sum" = some (.builtin "sum"):=by decide +kernel
theorem acn:bootBuiltins "sorted" = some (.builtin "sorted"):=by decide +kernel
theorem acf:bootBuiltins "isinstance" = some (.builtin "isinstance"):=by decide +kernel
theorem ao7:bootBuiltins "all" = some (.builtin "all"):=by decide +kernel
theorem ao8:bootBuiltins "int" = some (.type "int"):=by decide +kernel
theorem amv:bootBuiltins "list" = some (.type "list"):=by decide +kernel
theorem akq:bootBuiltins "tuple" = some (.type "tuple"):=by decide +kernel
theorem as7:bootBuiltins "bool" = some (.type "bool"):=by decide +kernel
end L2
namespace TS
open PySem PyProof.Rows
def ah4:Bool->Keyed->Array Keyed->Nat->Nat->Nat->StateT SortSt Sem (Option Nat):=sortPriv% PySem.Builtin.gallop
def aqh:Array Keyed->Array Keyed->StateT SortSt Sem (Array Keyed):=sortPriv% PySem.Builtin.mergeLo
def aqi:Array Keyed->Array Keyed->StateT SortSt Sem (Array Keyed):=sortPriv% PySem.Builtin.mergeHi
def akr:Nat->StateT SortSt Sem Bool:=sortPriv% PySem.Builtin.mergeAt
def as8:Nat->Nat->StateT SortSt Sem (Option Nat):=sortPriv% PySem.Builtin.countRun
def aqj:Nat->Nat->Nat->StateT SortSt Sem Bool:=sortPriv% PySem.Builtin.binarySort
def axm:StateT SortSt Sem Unit:=sortPriv% PySem.Builtin.sortRuns
structure Cmp (M:Model) (A:Around) (E:Value->Shared->Prop) (s:Shared) (κ:SortKind) (S:Keyed->Prop) (R:Keyed->Keyed->Bool):Prop where
 ask:∀ x y,S x->S y->∀ (Q:Option Bool->SortSt->Prop) (st:SortSt),kindOf st = κ->Q (some (R x y)) st->wpS M A E s (lt' x y) Q st
 asy:∀ x y,S x->S y->R x y=true->R y x=false
 tr:∀ x y z,S x->S y->S z->R y x=false->R z y=false->R z x=false
section
variable {M:Model} {A:Around} {E:Value->Shared->Prop} {s:Shared} {κ:SortKind} {S:Keyed->Prop} {R:Keyed->Keyed->Bool}
theorem aax {arr:Array Keyed} {i:Nat} {x:Keyed} {Q:Keyed->SortSt->Prop} {st:SortSt} (a:arr[i]?=some x) (h:Q x st):wpS M A E s (elem' arr i) Q st:=by
 rw [elem'_eq,a]
 exact wpS_pure h
theorem adf {x:String} {Q:Unit->SortSt->Prop} {st:SortSt} (h:Q () st):wpS M A E s (liftM (PySem.rule x):StateT SortSt Sem Unit) Q st :=
 wpS_lift (wpAny_rule ⟨rfl,h⟩)
def bey (left:Bool) (key:Keyed) (arr:Array Keyed) (base i:Nat):StateT SortSt Sem (Option Bool):=do
 let x ← elem' arr (base+i)
 if left=true then lt' x key else do
  let r ← lt' key x
  pure (Option.map (fun b => !b) r)
theorem aiv {left:Bool} {p:Keyed} {arr:Array Keyed} {base n a:Nat} {B:Nat->Bool}
  (hb:∀ i,i < n->∀ (Q:Option Bool->SortSt->Prop) (st:SortSt),kindOf st = κ->Q (some (B i)) st->wpS M A E s (bey left p arr base i) Q st)
  (mono:∀ i j,i < j->j < n->B j=true->B i=true) (hh:a < n) {Q:Option Nat->SortSt->Prop} {st:SortSt} (x:kindOf st = κ)
  (h:∀ k,k<=n->(∀ i,i < k->B i=true)->(∀ i,k<=i->i < n->B i=false)->Q (some k) st):wpS M A E s (ah4 left p arr base n a) Q st:=by
 have c:∀ i j,i < j->j < n->B i=false->B j=false:=fun i j y G hi=>by
  cases e:B j with
  | false=>rfl
  | true=>rw [mono i j y G e] at hi;cases hi
 -- the last loop
 have last:∀ (lo hi:Nat) (F:Option (Option Nat) × Nat × Nat->StateT SortSt Sem (Option Nat)),lo<=hi->hi<=n->(∀ i,i < lo->B i=true)->(∀ i,hi<=i->i < n->B i=false) ->
   (∀ lo hi,F (none,lo,hi)=pure (some hi)) ->
   wpS M A E s (forIn [:n] ((none,lo,hi):Option (Option Nat) × Nat × Nat) (fun (_:Nat) z=>if z.2.1 ≥ z.2.2 then pure (ForInStep.done (none,z.2.1,z.2.2)) else bey left p arr base (z.2.1+(z.2.2 - z.2.1) / 2) >>= fun r=>match r with
    | some more=>if more=true then pure (ForInStep.yield (none,z.2.1+(z.2.2 - z.2.1) / 2+1,z.2.2)) else pure (ForInStep.yield (none,z.2.1,z.2.1+(z.2.2 - z.2.1) / 2))
    | _=>pure (ForInStep.done (some none,z.2.1,z.2.2))) >>= F) Q st:=by
  intro lo hi F H K L I D
  refine wpS_bind (wpS_forRange (fun t z st'=>st'=st/\z.1=none/\z.2.1<=z.2.2/\z.2.2<=n/\z.2.2 - z.2.1+t<=n/\(∀ i,i < z.2.1->B i=true)/\(∀ i,z.2.2<=i->i < n->B i=false)) ?_ ?_ ⟨rfl,rfl,H,K,by dsimp only;omega,L,I⟩)
  ·rintro t ⟨o,l,u⟩ st' _ C ⟨rfl,e,q,d,b,g,w⟩
   dsimp only at e q d b g w ⊢
   subst e
   by_cases hlu:l ≥ u
   ·rw [aC5 hlu]
    have:l=u:=by omega
    subst this
    exact wpS_pure (by dsimp only;rw [D];exact wpS_pure (h l d g w))
   ·rw [aC6 hlu]
    have hm:l+(u - l) / 2 < u:=by omega
    refine wpS_bind (hb _ (by omega) _ _ x ?_)
    dsimp only
    cases e:B (l+(u - l) / 2) with
    | true =>
     rw [aC5 rfl]
     refine wpS_pure ⟨rfl,rfl,by dsimp only;omega,d,by dsimp only;omega,fun i hi=>?_,w⟩
     dsimp only at hi
     by_cases hi2:i=l+(u - l) / 2
     ·rw [hi2];exact e
     ·exact mono i _ (by omega) (by omega) e
    | false =>
     rw [aC6 (by simp)]
     refine wpS_pure ⟨rfl,rfl,by dsimp only;omega,by dsimp only;omega,by dsimp only;omega,g,fun i hi hn=>?_⟩
     dsimp only at hi
     by_cases hi2:i=l+(u - l) / 2
     ·rw [hi2];exact e
     ·exact c _ i (by omega) hn e
  ·rintro ⟨o,l,u⟩ st' ⟨rfl,e,q,d,b,g,w⟩
   dsimp only at e q d b g w ⊢
   subst e
   have : l = u := by have:n ≤ max 0 n := by omega
                      omega
   subst this
   rw [D]
   exact wpS_pure (h l d g w)
 refine wpS_bind (f:=fun J=>_) (m:=bey left p arr base a) (hb a hh _ st x ?_)
 dsimp only
 cases e0:B a with
 | true =>
  rw [aC5 rfl]
  refine wpS_bind ?_
  refine wpS_forRange (fun t (z:Option (Option Nat) × Nat × Nat) st'=>st'=st/\z.1=none/\z.2.1 < z.2.2/\a+z.2.1 < n/\B (a+z.2.1)=true/\t+1<=z.2.2) ?_ ?_ ⟨rfl,rfl,by decide,by dsimp only;omega,e0,Nat.le_refl _⟩
  ·rintro t ⟨o,l,u⟩ st' _ C ⟨rfl,e,q,d,b,g⟩
   dsimp only at e q d b g ⊢
   subst e
   by_cases hu:u ≥ n - a
   ·rw [aC5 hu]
    refine wpS_pure ?_
    dsimp only
    refine last _ _ _ (by omega) (by omega) (fun i hi=>?_) (fun i hi hn=>by omega) (fun _ _=>rfl)
    by_cases hi2:i=a+l
    ·rw [hi2];exact b
    ·exact mono i _ (by omega) d b
   ·rw [aC6 hu]
    refine wpS_bind (m:=bey left p arr base (a+u)) (hb _ (by omega) _ _ x ?_)
    dsimp only
    cases e1:B (a+u) with
    | true =>
     rw [aC6 (by decide)]
     exact wpS_pure ⟨rfl,rfl,by dsimp only;omega,by dsimp only;omega,e1,by dsimp only;omega⟩
    | false =>
     rw [aC5 (by decide)]
     refine wpS_pure ?_
     dsimp only
     refine last _ _ _ (by omega) (by omega) (fun i hi=>?_) (fun i hi hn=>?_) (fun _ _=>rfl)
     ·by_cases hi2:i=a+l
      ·rw [hi2];exact b
      ·exact mono i _ (by omega) d b
     ·by_cases hi2:i=a+u
      ·rw [hi2];exact e1
      ·exact c _ i (by omega) hn e1
  ·rintro ⟨o,l,u⟩ st' ⟨rfl,e,q,d,b,g⟩
   dsimp only at e q d b g ⊢
   subst e
   dsimp only
   refine last _ _ _ (by omega) (by omega) (fun i hi=>?_) (fun i hi hn=>by omega) (fun _ _=>rfl)
   by_cases hi2:i=a+l
   ·rw [hi2];exact b
   ·exact mono i _ (by omega) d b
 | false =>
  rw [aC6 (by decide)]
  refine wpS_bind ?_
  refine wpS_forRange (fun t (z:Option (Option Nat) × Nat × Nat) st'=>st'=st/\z.1=none/\z.2.1 < z.2.2/\z.2.1<=a/\B (a - z.2.1)=false/\t+1<=z.2.2) ?_ ?_ ⟨rfl,rfl,by decide,aD0 _,e0,ay6 _⟩
  ·rintro t ⟨o,l,u⟩ st' _ C ⟨rfl,e,q,d,b,g⟩
   dsimp only at e q d b g ⊢
   subst e
   have v:∀ i,a - l<=i->i < n->B i=false:=fun i hi hn=>by
    by_cases hi2:i=a - l
    ·rw [hi2];exact b
    ·exact c _ i (by omega) hn b
   by_cases hu:u ≥ a+1
   ·rw [aC5 hu]
    refine wpS_pure ?_
    dsimp only
    exact last _ _ _ (by omega) (by omega) (fun i hi=>by omega) v (fun _ _=>rfl)
   ·rw [aC6 hu]
    refine wpS_bind (m:=bey left p arr base (a - u)) (hb _ (by omega) _ _ x ?_)
    dsimp only
    cases e1:B (a - u) with
    | true =>
     rw [aC5 rfl]
     refine wpS_pure ?_
     dsimp only
     refine last _ _ _ (by omega) (by omega) (fun i hi=>?_) v (fun _ _=>rfl)
     by_cases hi2:i=a - u
     ·rw [hi2];exact e1
     ·exact mono i _ (by omega) (by omega) e1
    | false =>
     rw [aC6 (by decide)]
     exact wpS_pure ⟨rfl,rfl,by dsimp only;omega,by dsimp only;omega,e1,by dsimp only;omega⟩
  ·rintro ⟨o,l,u⟩ st' ⟨rfl,e,q,d,b,g⟩
   dsimp only at e q d b g ⊢
   subst e
   dsimp only
   refine last _ _ _ (by omega) (by omega) (fun i hi=>by omega) (fun i hi hn=>?_) (fun _ _=>rfl)
   by_cases hi2:i=a - l
   ·rw [hi2];exact b
   ·exact c _ i (by omega) hn b
end
def Srt (R:Keyed->Keyed->Bool) (l:List Keyed):Prop:=l.Pairwise fun x y=>R y x=false
structure Mid (R:Keyed->Keyed->Bool) (L out a b:List Keyed):Prop where
 perm:(out ++ a ++ b).Perm L
 so:Srt R out
 le:∀ x∈out,∀ y∈a ++ b,R y x=false
 sa:Srt R a
 sb:Srt R b
section
variable {R:Keyed->Keyed->Bool} {L out a b p:List Keyed}
theorem Mid.takeA (m:Mid R L out (p ++ a) b) (h:∀ x∈p,∀ y∈b,R y x=false):Mid R L (out ++ p) a b:=by
 have sp:=aA8.mp m.sa
 refine ⟨by have:=m.perm;rw [← az3] at this;exact this,aA8.mpr ⟨m.so,sp.1,fun x d y c=>m.le x d y (aA6 _ (aA6 _ c))⟩,fun x d y c=>?_,sp.2.1,m.sb⟩
 rcases ay7.mp d with d | d
 ·refine m.le x d y ?_
  rcases ay7.mp c with c | c
  ·exact aA6 _ (az2 _ c)
  ·exact az2 _ c
 ·rcases ay7.mp c with c | c
  ·exact sp.2.2 x d y c
  ·exact h x d y c
theorem Mid.takeB (m:Mid R L out a (p ++ b)) (h:∀ x∈p,∀ y∈a,R y x=false):Mid R L (out ++ p) a b:=by
 have sp:=aA8.mp m.sb
 refine ⟨List.Perm.trans ?_ m.perm,aA8.mpr ⟨m.so,sp.1,fun x d y c=>m.le x d y (az2 _ (aA6 _ c))⟩,fun x d y c=>?_,m.sa,sp.2.1⟩
 ·rw [← az3 (out ++ a) p b]
  refine List.Perm.append_right b ?_
  rw [az3,az3]
  exact List.Perm.append_left out List.perm_append_comm
 ·rcases ay7.mp d with d | d
  ·refine m.le x d y ?_
   rcases ay7.mp c with c | c
   ·exact aA6 _ c
   ·exact az2 _ (az2 _ c)
  ·rcases ay7.mp c with c | c
   ·exact h x d y c
   ·exact sp.2.2 x d y c
theorem Mid.done (m:Mid R L out a b) (h:a=[]\/b=[]):(out ++ a ++ b).Perm L/\Srt R (out ++ a ++ b):=by
 refine ⟨m.perm,?_⟩
 rw [az3]
 refine aA8.mpr ⟨m.so,?_,m.le⟩
 rcases h with h | h
 ·subst h;exact m.sb
 ·subst h;rw [aC2];exact m.sa
theorem Mid.last (m:Mid R L out a b) (h:∀ y∈b,∀ x∈a,R x y=false):(out ++ b ++ a).Perm L/\Srt R (out ++ b ++ a):=by
 refine ⟨List.Perm.trans ?_ m.perm,?_⟩
 ·rw [az3,az3]
  exact List.Perm.append_left out List.perm_append_comm
 ·rw [az3]
  refine aA8.mpr ⟨m.so,aA8.mpr ⟨m.sb,m.sa,h⟩,fun x d y c=>m.le x d y ?_⟩
  rcases ay7.mp c with c | c
  ·exact az2 _ c
  ·exact aA6 _ c
end
structure Eqv (st st':SortSt):Prop where
 k:kindOf st'=kindOf st
 a:arrOf st'=arrOf st
 p:pendingOf st'=pendingOf st
 f:failedOf st'=failedOf st
theorem Eqv.refl (st:SortSt):Eqv st st:=⟨rfl,rfl,rfl,rfl⟩
theorem Eqv.trans {a b c:SortSt} (h:Eqv a b) (g:Eqv b c):Eqv a c:=⟨g.k.trans h.k,g.a.trans h.a,g.p.trans h.p,g.f.trans h.f⟩
theorem af3 (a:Array Keyed) (i:Nat):(a.extract i a.size).toList=a.toList.drop i:=by
 rw [Array.toList_extract];simp only [List.extract_eq_take_drop];exact aC3 (by simp)
theorem ah5 (a:Array Keyed) (i k:Nat):(a.extract i (i+k)).toList=(a.toList.drop i).take k:=by
 rw [Array.toList_extract];simp [List.extract]
theorem abf {a:Array Keyed} {i:Nat} (h:i < a.size):a.toList.drop i=a[i] :: a.toList.drop (i+1):=by
 rw [List.drop_eq_getElem_cons (by simpa using h)];simp
section
variable {M:Model} {A:Around} {E:Value->Shared->Prop} {s:Shared} {κ:SortKind} {S:Keyed->Prop} {R:Keyed->Keyed->Bool}
theorem Cmp.irr {x:Keyed} (C:Cmp M A E s κ S R) (a:S x):R x x=false:=by
 cases e:R x x with
 | false=>rfl
 | true=>have:=C.asy x x a a e;rw [e] at this;cases this
theorem afo (C:Cmp M A E s κ S R) {b:Keyed} {arr:Array Keyed} {base n g:Nat} (l:S b) (U:∀ x∈arr.toList,S x) (hn:base+n<=arr.size) (P:Srt R ((arr.toList.drop base).take n)) (hh:g < n)
  {Q:Option Nat->SortSt->Prop} {st:SortSt} (T:kindOf st = κ)
  (h:∀ k,k<=n->(∀ x∈(arr.toList.drop base).take k,R b x=false)->(∀ x∈((arr.toList.drop base).take n).drop k,R b x=true)->Q (some k) st) :
  wpS M A E s (ah4 false b arr base n g) Q st:=by
 have a:∀ i,i < n->∃ x,arr[base+i]?=some x/\S x/\((arr.toList.drop base).take n)[i]?=some x:=fun i hi=>by
  have q:base+i < arr.size:=by omega
  refine ⟨arr[base+i],ay4 q,U _ (by simp),?_⟩
  rw [aE5 hi,aF2]
  simp [q]
 have o:∀ i j x y,i < j->j < n->arr[base+i]?=some x->arr[base+j]?=some y->R y x=false:=fun i j x y m r ex J=>by
  obtain ⟨Z,d,_,c⟩:=a i (by omega)
  obtain ⟨X,F,_,v⟩:=a j r
  rw [ex] at d;cases d
  rw [J] at F;cases F
  obtain ⟨K,c⟩:=ay1.mp c
  obtain ⟨L,v⟩:=ay1.mp v
  have:=aD7.mp P i j K L m
  rw [c,v] at this
  exact this
 refine aiv (κ:=κ) (B:=fun i=>match arr[base+i]? with | some x => !(R b x) | none=>false) (fun i hi Y st' u G=>?_) (fun i j m r p=>?_) hh T fun k D I N=>h k D (fun x z=>?_) fun x z=>?_
 ·obtain ⟨x,d,w,_⟩:=a i hi
  unfold bey
  refine wpS_bind (aax d ?_)
  rw [aC6 (by decide)]
  refine wpS_bind (C.ask _ _ l w _ _ u ?_)
  refine wpS_pure ?_
  simp only [d] at G
  exact G
 ·obtain ⟨x,d,w,_⟩:=a i (by omega)
  obtain ⟨y,c,W,_⟩:=a j r
  simp only [d,c] at p ⊢
  have O:=o i j x y m r d c
  have H:R b y=false:=by simpa using p
  have:=C.tr x y b w W l O H
  simp [this]
 ·obtain ⟨i,hi,e⟩:=List.getElem_of_mem z
  have f:i < k:=by rw [aE0] at hi;omega
  obtain ⟨y,d,_,c⟩:=a i (by omega)
  have hb:=I i f
  simp only [d] at hb
  have ex:x=y:=by
   have:((arr.toList.drop base).take k)[i]?=some x:=by rw [ay0 hi,e]
   rw [aE5 f] at this
   rw [aE5 (by omega)] at c
   rw [this] at c;exact aA5 c
  subst ex
  simpa using hb
 ·obtain ⟨i,hi,e⟩:=List.getElem_of_mem z
  have f:k+i < n:=by rw [List.length_drop,aE0] at hi;omega
  obtain ⟨y,d,_,c⟩:=a (k+i) f
  have hb:=N (k+i) (by omega) f
  simp only [d] at hb
  have ex:x=y:=by
   have:(((arr.toList.drop base).take n).drop k)[i]?=some x:=by rw [ay0 hi,e]
   rw [aF2] at this
   rw [this] at c;exact aA5 c
  subst ex
  simpa using hb
theorem agp (C:Cmp M A E s κ S R) {b:Keyed} {arr:Array Keyed} {base n g:Nat} (l:S b) (T:∀ x∈arr.toList,S x) (hn:base+n<=arr.size) (O:Srt R ((arr.toList.drop base).take n)) (hh:g < n)
  {Q:Option Nat->SortSt->Prop} {st:SortSt} (P:kindOf st = κ)
  (h:∀ k,k<=n->(∀ x∈(arr.toList.drop base).take k,R x b=true)->(∀ x∈((arr.toList.drop base).take n).drop k,R x b=false)->Q (some k) st) :
  wpS M A E s (ah4 true b arr base n g) Q st:=by
 have a:∀ i,i < n->∃ x,arr[base+i]?=some x/\S x/\((arr.toList.drop base).take n)[i]?=some x:=fun i hi=>by
  have q:base+i < arr.size:=by omega
  refine ⟨arr[base+i],ay4 q,T _ (by simp),?_⟩
  rw [aE5 hi,aF2]
  simp [q]
 have p:∀ i j x y,i < j->j < n->arr[base+i]?=some x->arr[base+j]?=some y->R y x=false:=fun i j x y m r ex I=>by
  obtain ⟨Y,d,_,c⟩:=a i (by omega)
  obtain ⟨W,F,_,v⟩:=a j r
  rw [ex] at d;cases d
  rw [I] at F;cases F
  obtain ⟨J,c⟩:=ay1.mp c
  obtain ⟨K,v⟩:=ay1.mp v
  have:=aD7.mp O i j J K m
  rw [c,v] at this
  exact this
 refine aiv (κ:=κ) (B:=fun i=>match arr[base+i]? with | some x=>R x b | none=>false) (fun i hi X st' u G=>?_) (fun i j m r o=>?_) hh P fun k D H L=>h k D (fun x z=>?_) fun x z=>?_
 ·obtain ⟨x,d,w,_⟩:=a i hi
  unfold bey
  refine wpS_bind (aax d ?_)
  rw [aC5 rfl]
  simp only [d] at G
  exact C.ask _ _ w l _ _ u G
 ·obtain ⟨x,d,w,_⟩:=a i (by omega)
  obtain ⟨y,c,U,_⟩:=a j r
  simp only [d,c] at o ⊢
  have N:=p i j x y m r d c
  cases e:R x b with
  | true=>rfl
  | false =>
   have:=C.tr b x y l w U e N
   rw [this] at o;cases o
 ·obtain ⟨i,hi,e⟩:=List.getElem_of_mem z
  have f:i < k:=by rw [aE0] at hi;omega
  obtain ⟨y,d,_,c⟩:=a i (by omega)
  have hb:=H i f
  simp only [d] at hb
  have ex:x=y:=by
   have:((arr.toList.drop base).take k)[i]?=some x:=by rw [ay0 hi,e]
   rw [aE5 f] at this
   rw [aE5 (by omega)] at c
   rw [this] at c;exact aA5 c
  subst ex
  exact hb
 ·obtain ⟨i,hi,e⟩:=List.getElem_of_mem z
  have f:k+i < n:=by rw [List.length_drop,aE0] at hi;omega
  obtain ⟨y,d,_,c⟩:=a (k+i) f
  have hb:=L (k+i) (by omega) f
  simp only [d] at hb
  have ex:x=y:=by
   have:(((arr.toList.drop base).take n).drop k)[i]?=some x:=by rw [ay0 hi,e]
   rw [aF2] at this
   rw [this] at c;exact aA5 c
  subst ex
  exact hb
end
section
variable {M:Model} {A:Around} {E:Value->Shared->Prop} {s:Shared} {κ:SortKind} {S:Keyed->Prop} {R:Keyed->Keyed->Bool}
structure Two (S:Keyed->Prop) (R:Keyed->Keyed->Bool) (a b:Array Keyed):Prop where
 ha:∀ x∈a.toList,S x
 hb:∀ x∈b.toList,S x
 sa:Srt R a.toList
 sb:Srt R b.toList
 a0:0 < a.size
 b0:0 < b.size
 first:∀ x∈a.toList,∀ y,b[0]?=some y->R x y=false
 last:∀ y∈b.toList,∀ x,a[a.size - 1]?=some x->R x y=false
def Fin2 (R:Keyed->Keyed->Bool) (a b m:Array Keyed):Prop:=m.toList.Perm (a.toList ++ b.toList)/\Srt R m.toList
structure Lo (S:Keyed->Prop) (R:Keyed->Keyed->Bool) (a b out:Array Keyed) (ia ib:Nat):Prop where
 mid:Mid R (a.toList ++ b.toList) out.toList (a.toList.drop ia) (b.toList.drop ib)
 ia:ia<=a.size
 ib:ib<=b.size
theorem Lo.len {a b out:Array Keyed} {ia ib:Nat} (l:Lo S R a b out ia ib):out.size+(a.size - ia)+(b.size - ib)=a.size+b.size:=by
 have:=l.mid.perm.length_eq
 simp at this
 omega
theorem Lo.doneA {a b out:Array Keyed} {ia ib:Nat} (l:Lo S R a b out ia ib) (h:ib=b.size\/ia=a.size):Fin2 R a b (out ++ a.extract ia ++ b.extract ib):=by
 have:=l.mid.done (by
  rcases h with h | h
  ·right;rw [h];simp
  ·left;rw [h];simp)
 unfold Fin2
 rw [aD6,aD6,af3,af3]
 exact this
theorem ao9 {a:Array Keyed} {i:Nat} (h:i+1=a.size):a.toList.drop i=[a[a.size - 1]'(by omega)]:=by
 have hi:i < a.size:=by omega
 rw [abf hi]
 have:i=a.size - 1:=by omega
 subst this
 have e:a.toList.drop (a.size - 1+1)=[]:=by
  apply List.drop_eq_nil_of_le
  simp;omega
 rw [e]
theorem Lo.lastA {a b out:Array Keyed} {ia ib:Nat} (T:Two S R a b) (l:Lo S R a b out ia ib) (h:ia+1=a.size):Fin2 R a b (out ++ b.extract ib ++ a.extract ia):=by
 have:=l.mid.last (by
  intro y d x c
  rw [ao9 h] at c
  have ex:x=a[a.size - 1]'(by omega):=by simpa using c
  refine T.last y (aA3 d) x ?_
  rw [ex]
  exact ay4 _)
 unfold Fin2
 rw [aD6,aD6,af3,af3]
 exact this
theorem aea {x:Keyed} {l:List Keyed} (C:Cmp M A E s κ S R) (h:Srt R (x :: l)) (b:S x):∀ y∈x :: l,R y x=false:=by
 intro y a
 rcases ay8.mp a with e | a
 ·rw [e];exact C.irr b
 ·exact (aF4.mp h).1 y a
theorem Lo.pushB {a b out:Array Keyed} {ia ib:Nat} (C:Cmp M A E s κ S R) (T:Two S R a b) (l:Lo S R a b out ia ib) (hb:ib < b.size) (h:∀ x∈a.toList.drop ia,R x b[ib]=false):Lo S R a b (out.push b[ib]) ia (ib+1):=by
 refine ⟨?_,l.ia,hb⟩
 have m:=l.mid
 rw [abf hb] at m
 rw [Array.toList_push]
 exact m.takeB (p:=[b[ib]]) (fun x c y d=>by
  have:x=b[ib]:=by simpa using c
  rw [this];exact h y d)
theorem Lo.pushA {a b out:Array Keyed} {ia ib:Nat} (l:Lo S R a b out ia ib) (ha:ia < a.size) (h:∀ y∈b.toList.drop ib,R y a[ia]=false):Lo S R a b (out.push a[ia]) (ia+1) ib:=by
 refine ⟨?_,ha,l.ib⟩
 have m:=l.mid
 rw [abf ha] at m
 rw [Array.toList_push]
 exact m.takeA (p:=[a[ia]]) (fun x c y d=>by
  have:x=a[ia]:=by simpa using c
  rw [this];exact h y d)
theorem Lo.runA {a b out:Array Keyed} {ia ib k:Nat} (l:Lo S R a b out ia ib) (d:ia+k<=a.size) (h:∀ x∈(a.toList.drop ia).take k,∀ y∈b.toList.drop ib,R y x=false):Lo S R a b (out ++ a.extract ia (ia+k)) (ia+k) ib:=by
 refine ⟨?_,d,l.ib⟩
 have m:=l.mid
 rw [← aA0 k (a.toList.drop ia)] at m
 rw [aD6,ah5]
 have c:=m.takeA h
 rw [List.drop_drop] at c
 exact c
theorem Lo.runB {a b out:Array Keyed} {ia ib k:Nat} (l:Lo S R a b out ia ib) (d:ib+k<=b.size) (h:∀ x∈(b.toList.drop ib).take k,∀ y∈a.toList.drop ia,R y x=false):Lo S R a b (out ++ b.extract ib (ib+k)) ia (ib+k):=by
 refine ⟨?_,l.ia,d⟩
 have m:=l.mid
 rw [← aA0 k (b.toList.drop ib)] at m
 rw [aD6,ah5]
 have c:=m.takeB h
 rw [List.drop_drop] at c
 exact c
theorem aco {l:List Keyed} {i:Nat} (h:Srt R l):Srt R (l.drop i):=List.Pairwise.sublist (List.drop_sublist i l) h
theorem jpn {α β:Type} {prog : β->StateT SortSt Sem α} {P : β->Prop} {Q : α->SortSt->Prop} {st:SortSt} {G:Prop} (use:(∀ m,P m->wpS M A E s (prog m) Q st)->G) (a:∀ m,P m->wpS M A E s (prog m) Q st):G:=use a
theorem jpn2 {α:Type} {prog:Array Keyed->Nat->StateT SortSt Sem α} {P:Array Keyed->Nat->Prop} {Q : α->SortSt->Prop} {st:SortSt} {G:Prop} (use:(∀ o i,P o i->wpS M A E s (prog o i) Q st)->G) (a:∀ o i,P o i->wpS M A E s (prog o i) Q st):G:=use a
section
variable {ρ β γ δ ε ζ η:Type}
@[elab_as_elim] theorem un5 {J : β->γ->δ->ε->Prop} {G:Option ρ × β × γ × δ × ε->Prop} (z:Option ρ × β × γ × δ × ε) (h:z.1=none/\J z.2.1 z.2.2.1 z.2.2.2.1 z.2.2.2.2) (k:∀ x y u v,J x y u v->G (none,x,y,u,v)):G z:=by
 have e:z=(none,z.2.1,z.2.2.1,z.2.2.2.1,z.2.2.2.2):=by rw [← h.1]
 rw [e];exact k _ _ _ _ h.2
@[elab_as_elim] theorem un6 {J : β->γ->δ->ε->ζ->Prop} {G:Option ρ × β × γ × δ × ε × ζ->Prop} (z:Option ρ × β × γ × δ × ε × ζ) (h:z.1=none/\J z.2.1 z.2.2.1 z.2.2.2.1 z.2.2.2.2.1 z.2.2.2.2.2) (k:∀ x y u v a,J x y u v a->G (none,x,y,u,v,a)):G z:=by
 have e:z=(none,z.2.1,z.2.2.1,z.2.2.2.1,z.2.2.2.2.1,z.2.2.2.2.2):=by rw [← h.1]
 rw [e];exact k _ _ _ _ _ h.2
@[elab_as_elim] theorem un7 {J : β->γ->δ->ε->ζ->η->Prop} {G:Option ρ × β × γ × δ × ε × ζ × η->Prop} (z:Option ρ × β × γ × δ × ε × ζ × η) (h:z.1=none/\J z.2.1 z.2.2.1 z.2.2.2.1 z.2.2.2.2.1 z.2.2.2.2.2.1 z.2.2.2.2.2.2) (k:∀ x y u v a b,J x y u v a b->G (none,x,y,u,v,a,b)):G z:=by
 have e:z=(none,z.2.1,z.2.2.1,z.2.2.2.1,z.2.2.2.2.1,z.2.2.2.2.2.1,z.2.2.2.2.2.2):=by rw [← h.1]
 rw [e];exact k _ _ _ _ _ _ h.2
@[elab_as_elim] theorem unR {κ:Type} {F : ρ->Prop} {J : κ->Prop} {G:Option ρ × κ->Prop} (z:Option ρ × κ) (h:(∃ r,z.1=some r/\F r)\/(z.1=none/\J z.2)) (a:∀ r x,F r->G (some r,x)) (c:z.1=none/\J z.2->G z):G z:=by
 rcases h with ⟨r,e,b⟩ | h
 ·have e:z=(some r,z.2):=by rw [← e]
  rw [e];exact a _ _ b
 ·exact c h
end
theorem aan {c:Prop} [Decidable c] {α:Type} {a b:StateT SortSt Sem α} {Q : α->SortSt->Prop} {st:SortSt} (f:c->wpS M A E s a Q st) (d:¬ c->wpS M A E s b Q st):wpS M A E s (if c then a else b) Q st:=by
 by_cases h:c
 ·rw [aC5 h];exact f h
 ·rw [aC6 h];exact d h
theorem an0 (C:Cmp M A E s κ S R) {a b:Array Keyed} (T:Two S R a b) {Q:Array Keyed->SortSt->Prop} {st:SortSt} (hk:kindOf st = κ)
  (h:∀ m st',Eqv st st'->Fin2 R a b m->Q m st'):wpS M A E s (aqh a b) Q st:=by
 have L:∀ i (h:i < a.size),S a[i]:=fun i h=>T.ha _ (by simp)
 have O:∀ i (h:i < b.size),S b[i]:=fun i h=>T.hb _ (by simp)
 have b0:=T.b0
 have a0:=T.a0
 refine wpS_bind (adf ?_)
 refine wpS_bind (aax (x:=b[0]'b0) (ay4 b0) ?_)
 have l1:Lo S R a b #[b[0]'b0] 0 1:=by
  have l0:Lo S R a b #[] 0 0:=⟨⟨by simp,List.Pairwise.nil,fun x w=>by simp at w,T.sa,T.sb⟩,aD0 _,aD0 _⟩
  exact l0.pushB C T b0 fun x w=>T.first x (by simpa using w) _ (ay4 b0)
 refine aan (fun e1=>wpS_pure (h _ _ (Eqv.refl _) (l1.doneA (.inl (aD3.mp e1))))) (fun e1=>?_)
 refine aan (fun e2=>wpS_pure (h _ _ (Eqv.refl _) (l1.lastA T (aD3.mp e2)))) (fun e2=>?_)
 replace e1:1 ≠ b.size:=fun q=>e1 (aD3.mpr q)
 replace e2:0+1 ≠ a.size:=fun q=>e2 (aD3.mpr q)
 refine wpS_bind (wpS_get ?_)
 refine wpS_bind (wpS_mono (Q:=fun (z:Option (Array Keyed) × Array Keyed × Nat × Nat × Nat) st'=>Eqv st st'/\∃ r,z.1=some r/\Fin2 R a b r) ?_ ?_)
 ·refine wpS_forRange (fun t (z:Option (Array Keyed) × Array Keyed × Nat × Nat × Nat) st'=>Eqv st st'/\z.1=none/\Lo S R a b z.2.1 z.2.2.1 z.2.2.2.1/\z.2.2.1+1 < a.size/\z.2.2.2.1 < b.size/\t+1<=z.2.1.size) ?_ ?_ ⟨Eqv.refl _,rfl,l1,by dsimp only;omega,by dsimp only;omega,by simp⟩
  ·intro t z b2 _ ht n
   have q1:=n.1
   refine un5 (J:=fun out ia ib _=>Lo S R a b out ia ib/\ia+1 < a.size/\ib < b.size/\t+1<=out.size) z n.2 fun out ia ib mg v=>?_
   dsimp only
   refine wpS_bind (wpS_mono (Q:=fun (z:Option (Array Keyed) × Array Keyed × Nat × Nat × Nat × Nat) st'=>Eqv st st'/\((∃ r,z.1=some r/\Fin2 R a b r)\/(z.1=none/\Lo S R a b z.2.1 z.2.2.1 z.2.2.2.1/\z.2.2.1+1 < a.size/\z.2.2.2.1 < b.size/\t+2<=z.2.1.size))) ?_ ?_)
   ·refine wpS_forRange (fun i (z:Option (Array Keyed) × Array Keyed × Nat × Nat × Nat × Nat) st'=>Eqv st st'/\z.1=none/\Lo S R a b z.2.1 z.2.2.1 z.2.2.2.1/\z.2.2.1+1 < a.size/\z.2.2.2.1 < b.size/\t+1+min i 1<=z.2.1.size) ?_ ?_ ⟨q1,rfl,v.1,v.2.1,v.2.2.1,v.2.2.2⟩
    ·intro i z o _ hi n
     have q:=n.1
     refine un6 (J:=fun out ia ib _ _=>Lo S R a b out ia ib/\ia+1 < a.size/\ib < b.size/\t+1+min i 1<=out.size) z n.2 fun out ia ib ac bc v=>?_
     have l:=v.1
     have H:=v.2.1
     have d:=v.2.2.1
     have hsz:=v.2.2.2
     have g:ia < a.size:=Nat.lt_of_succ_lt H
     refine wpS_bind (aax (x:=b[ib]) (ay4 d) ?_)
     refine wpS_bind (aax (x:=a[ia]) (ay4 g) ?_)
     refine wpS_bind (C.ask _ _ (O ib d) (L ia g) _ _ (q.k.trans hk) ?_)
     dsimp only
     refine aan (fun er=>?_) (fun er=>?_)
     ·refine wpS_bind (aax (x:=b[ib]) (ay4 d) ?_)
      have D:Lo S R a b (out.push b[ib]) ia (ib+1):=l.pushB C T d fun x w=>by
       rw [abf g] at w
       have hd:Srt R (a[ia] :: a.toList.drop (ia+1)):=by rw [← abf g];exact aco T.sa
       have sx:S x:=T.ha x (aA3 (i:=ia) (by rw [abf g];exact w))
       exact C.tr _ _ _ (O ib d) (L ia g) sx (C.asy _ _ (O ib d) (L ia g) er) (aea C hd (L ia g) x w)
      refine aan (fun F=>wpS_pure ⟨q,.inl ⟨_,rfl,D.doneA (.inl (aD3.mp F))⟩⟩) (fun F=>?_)
      have hf:ib+1 < b.size/\t+2<=(out.push b[ib]).size:=by
       have a2:ib+1 ≠ b.size:=fun q=>F (aD3.mpr q)
       rw [aE9];omega
      refine aan (fun _=>wpS_pure ⟨q,.inr ⟨rfl,D,H,hf⟩⟩) (fun _=>wpS_pure ⟨q,rfl,D,H,hf.1,aA9 (by omega) hf.2⟩)
     ·refine wpS_bind (aax (x:=a[ia]) (ay4 g) ?_)
      have D:Lo S R a b (out.push a[ia]) (ia+1) ib:=l.pushA g fun y G=>by
       rw [abf d] at G
       have hd:Srt R (b[ib] :: b.toList.drop (ib+1)):=by rw [← abf d];exact aco T.sb
       have sy:S y:=T.hb y (aA3 (i:=ib) (by rw [abf d];exact G))
       exact C.tr _ _ _ (L ia g) (O ib d) sy (eq_false_of_ne_true er) (aea C hd (O ib d) y G)
      refine aan (fun F=>wpS_pure ⟨q,.inl ⟨_,rfl,D.lastA T (aD3.mp F)⟩⟩) (fun F=>?_)
      have hf:ia+1+1 < a.size/\ib < b.size/\t+2<=(out.push a[ia]).size:=by
       have a2:ia+1+1 ≠ a.size:=fun q=>F (aD3.mpr q)
       rw [aE9];omega
      refine aan (fun _=>wpS_pure ⟨q,.inr ⟨rfl,D,hf⟩⟩) (fun _=>wpS_pure ⟨q,rfl,D,hf.1,d,aA9 (by omega) hf.2.2⟩)
    ·exact fun z o n=>⟨n.1,.inr ⟨n.2.1,n.2.2.1,n.2.2.2.1,n.2.2.2.2.1,aA9 (by omega) n.2.2.2.2.2⟩⟩
   ·intro z o n
    have X:=n.1
    refine unR (J:=fun y:Array Keyed × Nat × Nat × Nat × Nat=>Lo S R a b y.1 y.2.1 y.2.2.1/\y.2.1+1 < a.size/\y.2.2.1 < b.size/\t+2<=y.1.size) z n.2 (fun r x Z=>wpS_pure ⟨X,r,rfl,Z⟩) fun Y=>?_
    refine un6 (J:=fun out ia ib _ _=>Lo S R a b out ia ib/\ia+1 < a.size/\ib < b.size/\t+2<=out.size) z Y fun out ia ib ac bc v=>?_
    dsimp only
    refine wpS_bind (adf ?_)
    refine wpS_bind (wpS_mono (Q:=fun (z:Option (Array Keyed) × Array Keyed × Nat × Nat × Nat × Nat × Nat) st'=>Eqv st st'/\((∃ r,z.1=some r/\Fin2 R a b r)\/(z.1=none/\Lo S R a b z.2.1 z.2.2.1 z.2.2.2.1/\z.2.2.1+1 < a.size/\z.2.2.2.1 < b.size/\t+2<=z.2.1.size))) ?_ ?_)
    ·refine wpS_forRange (fun i (z:Option (Array Keyed) × Array Keyed × Nat × Nat × Nat × Nat × Nat) st'=>Eqv st st'/\z.1=none/\Lo S R a b z.2.1 z.2.2.1 z.2.2.2.1/\z.2.2.1+1 < a.size/\z.2.2.2.1 < b.size/\t+2<=z.2.1.size) ?_ (fun z o n=>⟨n.1,.inr n.2⟩) ⟨X,rfl,v⟩
     intro i z o _ hi n
     have q:=n.1
     refine un7 (J:=fun out ia ib _ _ _=>Lo S R a b out ia ib/\ia+1 < a.size/\ib < b.size/\t+2<=out.size) z n.2 fun out ia ib mg ac bc v=>?_
     have l:=v.1
     have H:=v.2.1
     have d:=v.2.2.1
     have hsz:=v.2.2.2
     dsimp only
     refine' jpn (M:=M) (A:=A) (E:=E) (s:=s) (st:=o) (β:=Nat) (P:=fun _=>True) (prog:=?prog) (fun U=>?use) (fun a7 _=>?pf)
     case use =>
      refine aan (fun hm=>?_) (fun hm=>?_)
      ·generalize mg - 1=m
       exact U m trivial
      ·exact U mg trivial
     refine wpS_bind (wpS_mono (Q:=fun _ N=>Eqv o N) (wpS_modify ⟨rfl,rfl,rfl,rfl⟩) fun _ N I=>?_)
     replace I:=q.trans I
     refine wpS_bind (aax (x:=b[ib]) (ay4 d) ?_)
     refine wpS_bind (afo C (O ib d) T.ha (by omega) (by rw [aC3 (by simp)];exact aco T.sa) (by omega) (I.k.trans hk) fun k a6 h1 h2=>?_)
     rw [aC3 (by simp),List.drop_drop] at h2
     dsimp only
     refine' jpn2 (M:=M) (A:=A) (E:=E) (s:=s) (st:=N) (P:=fun j c=>Lo S R a b j c ib/\c+1 < a.size/\(∀ x∈a.toList.drop c,R x b[ib]=false)/\t+2<=j.size) (prog:=?prog2) (fun U=>?use2) (fun j c h5=>?pf2)
     case use2 =>
      have u:∀ x∈a.toList.drop (ia+k),R x b[ib]=false:=fun x w=>C.asy _ _ (O ib d) (T.ha x (aA3 w)) (h2 x w)
      refine aan (fun k0=>?_) (fun k0=>?_)
      ·have D:Lo S R a b (out ++ a.extract ia (ia+k)) (ia+k) ib:=l.runA (by omega) fun x w y G=>by
        rw [abf d] at G
        have hd:Srt R (b[ib] :: b.toList.drop (ib+1)):=by rw [← abf d];exact aco T.sb
        have sy:S y:=T.hb y (aA3 (i:=ib) (by rw [abf d];exact G))
        exact C.tr _ _ _ (T.ha x (aA3 (az9 w))) (O ib d) sy (h1 x w) (aea C hd (O ib d) y G)
       refine aan (fun F=>wpS_pure ⟨I,.inl ⟨_,rfl,D.lastA T (aD3.mp F)⟩⟩) (fun F=>?_)
       refine aan (fun e4=>wpS_pure ⟨I,.inl ⟨_,rfl,D.doneA (.inr (aD3.mp e4))⟩⟩) (fun e4=>?_)
       have W:Lo S R a b (out ++ a.extract ia (ia+k)) (ia+k) ib/\ia+k+1 < a.size/\(∀ x∈a.toList.drop (ia+k),R x b[ib]=false)/\t+2<=(out ++ a.extract ia (ia+k)).size:=by
        have a2:ia+k+1 ≠ a.size:=fun q=>F (aD3.mpr q)
        have a5:ia+k ≠ a.size:=fun q=>e4 (aD3.mpr q)
        exact ⟨D,by omega,u,by rw [Array.size_append];omega⟩
       revert W
       clear F e4 D u
       generalize out ++ a.extract ia (ia+k)=j
       generalize ia+k=c
       intro W
       exact U j c W
      ·have:k=0:=by omega
       rw [this] at u
       exact U out ia ⟨l,H,u,hsz⟩
     have l3:=h5.1
     have a1:=h5.2.1
     have a3:=h5.2.2.1
     have a4:=h5.2.2.2
     have f:c < a.size:=Nat.lt_of_succ_lt a1
     refine wpS_bind (aax (x:=b[ib]) (ay4 d) ?_)
     have l4:=l3.pushB C T d a3
     refine aan (fun e5=>wpS_pure ⟨I,.inl ⟨_,rfl,l4.doneA (.inl (aD3.mp e5))⟩⟩) (fun e5=>?_)
     replace e5:ib+1 ≠ b.size:=fun q=>e5 (aD3.mpr q)
     refine wpS_bind (aax (x:=a[c]) (ay4 f) ?_)
     refine wpS_bind (agp C (L c f) T.hb (by omega) (by rw [aC3 (by simp)];exact aco T.sb) (by omega) (I.k.trans hk) fun K b1 h3 h4=>?_)
     rw [aC3 (by simp),List.drop_drop] at h4
     dsimp only
     refine' jpn2 (M:=M) (A:=A) (E:=E) (s:=s) (st:=N) (P:=fun p B=>Lo S R a b p c B/\B < b.size/\(∀ y∈b.toList.drop B,R y a[c]=false)/\t+2<=p.size) (prog:=?prog3) (fun U=>?use3) (fun p B h6=>?pf3)
     case use3 =>
      refine aan (fun k0=>?_) (fun k0=>?_)
      ·have hd:Srt R (a[c] :: a.toList.drop (c+1)):=by rw [← abf f];exact aco T.sa
       have l5:Lo S R a b (j.push b[ib] ++ b.extract (ib+1) (ib+1+K)) c (ib+1+K):=l4.runB (by omega) fun x w y G=>by
        rw [abf f] at G
        have sy:S y:=T.ha y (aA3 (i:=c) (by rw [abf f];exact G))
        have sx:S x:=T.hb x (aA3 (az9 w))
        exact C.tr _ _ _ sx (L c f) sy (C.asy _ _ sx (L c f) (h3 x w)) (aea C hd (L c f) y G)
       refine aan (fun e6=>wpS_pure ⟨I,.inl ⟨_,rfl,l5.doneA (.inl (aD3.mp e6))⟩⟩) (fun e6=>?_)
       have W:Lo S R a b (j.push b[ib] ++ b.extract (ib+1) (ib+1+K)) c (ib+1+K)/\ib+1+K < b.size/\(∀ y∈b.toList.drop (ib+1+K),R y a[c]=false)/\t+2<=(j.push b[ib] ++ b.extract (ib+1) (ib+1+K)).size:=by
        have a8:ib+1+K ≠ b.size:=fun q=>e6 (aD3.mpr q)
        exact ⟨l5,by omega,h4,by rw [Array.size_append,aE9];omega⟩
       revert W
       clear e6 l5 hd
       generalize j.push b[ib] ++ b.extract (ib+1) (ib+1+K)=p
       generalize ib+1+K=B
       intro W
       exact U p B W
      ·have:K=0:=by omega
       rw [this] at h4
       exact U (j.push b[ib]) (ib+1) ⟨l4,by omega,h4,by rw [aE9];omega⟩
     refine wpS_bind (aax (x:=a[c]) (ay4 f) ?_)
     have l7:=h6.1.pushA f h6.2.2.1
     refine aan (fun e7=>wpS_pure ⟨I,.inl ⟨_,rfl,l7.lastA T (aD3.mp e7)⟩⟩) (fun e7=>?_)
     have hf:c+1+1 < a.size/\B < b.size/\t+2<=(p.push a[c]).size:=by
      have a9:c+1+1 ≠ a.size:=fun q=>e7 (aD3.mpr q)
      have h7:=h6.2.2.2
      exact ⟨by omega,h6.2.1,by rw [aE9];omega⟩
     exact aan (fun _=>wpS_pure ⟨I,.inr ⟨rfl,l7,hf⟩⟩) (fun _=>wpS_pure ⟨I,rfl,l7,hf⟩)
    ·intro z o n
     have X:=n.1
     refine unR (J:=fun y:Array Keyed × Nat × Nat × Nat × Nat × Nat=>Lo S R a b y.1 y.2.1 y.2.2.1/\y.2.1+1 < a.size/\y.2.2.1 < b.size/\t+2<=y.1.size) z n.2 (fun r x Z=>wpS_pure ⟨X,r,rfl,Z⟩) fun Y=>?_
     refine un7 (J:=fun out ia ib _ _ _=>Lo S R a b out ia ib/\ia+1 < a.size/\ib < b.size/\t+2<=out.size) z Y fun out ia ib mg ac bc v=>?_
     dsimp only
     refine wpS_bind (wpS_modify ?_)
     exact wpS_pure ⟨X.trans ⟨rfl,rfl,rfl,rfl⟩,rfl,v⟩
  ·intro z o n
   exfalso
   have h1:=n.2.2.1.len
   have h2:=n.2.2.2
   have:a.size+b.size<=max 0 (a.size+b.size):=by omega
   omega
 ·intro z o n
  have X:=n.1
  exact unR (J:=fun _=>False) z (.inl n.2) (fun r x Z=>wpS_pure (h r o X Z)) fun Y=>Y.2.elim
end
structure MidH (R:Keyed->Keyed->Bool) (L a b tl:List Keyed):Prop where
 perm:(a ++ b ++ tl).Perm L
 so:Srt R tl
 le:∀ x∈a ++ b,∀ y∈tl,R y x=false
 sa:Srt R a
 sb:Srt R b
section
variable {R:Keyed->Keyed->Bool} {L tl a b p:List Keyed}
theorem MidH.takeA (m:MidH R L (a ++ p) b tl) (h:∀ x∈b,∀ y∈p,R y x=false):MidH R L a b (p ++ tl):=by
 have sp:=aA8.mp m.sa
 refine ⟨List.Perm.trans ?_ m.perm,aA8.mpr ⟨sp.2.1,m.so,fun x c y d=>m.le x (aA6 _ (az2 _ c)) y d⟩,fun x c y d=>?_,sp.1,m.sb⟩
 ·rw [← az3,az3 a p b,az3 a b p]
  exact List.Perm.append_right tl (List.Perm.append_left a List.perm_append_comm)
 ·rcases ay7.mp d with d | d
  ·rcases ay7.mp c with c | c
   ·exact sp.2.2 x c y d
   ·exact h x c y d
  ·refine m.le x ?_ y d
   rcases ay7.mp c with c | c
   ·exact aA6 _ (aA6 _ c)
   ·exact az2 _ c
theorem MidH.takeB (m:MidH R L a (b ++ p) tl) (h:∀ x∈a,∀ y∈p,R y x=false):MidH R L a b (p ++ tl):=by
 have sp:=aA8.mp m.sb
 refine ⟨by have:=m.perm;simp only [az3] at this ⊢;exact this,aA8.mpr ⟨sp.2.1,m.so,fun x c y d=>m.le x (az2 _ (az2 _ c)) y d⟩,fun x c y d=>?_,m.sa,sp.1⟩
 rcases ay7.mp d with d | d
 ·rcases ay7.mp c with c | c
  ·exact h x c y d
  ·exact sp.2.2 x c y d
 ·refine m.le x ?_ y d
  rcases ay7.mp c with c | c
  ·exact aA6 _ c
  ·exact az2 _ (aA6 _ c)
theorem MidH.done (m:MidH R L a b tl) (h:a=[]\/b=[]):(a ++ b ++ tl).Perm L/\Srt R (a ++ b ++ tl):=by
 refine ⟨m.perm,aA8.mpr ⟨?_,m.so,m.le⟩⟩
 rcases h with h | h
 ·subst h;exact m.sb
 ·subst h;rw [aC2];exact m.sa
theorem MidH.first (m:MidH R L a b tl) (h:∀ y∈b,∀ x∈a,R x y=false):(b ++ a ++ tl).Perm L/\Srt R (b ++ a ++ tl):=by
 refine ⟨List.Perm.trans (List.Perm.append_right tl List.perm_append_comm) m.perm,aA8.mpr ⟨aA8.mpr ⟨m.sb,m.sa,h⟩,m.so,fun x c y d=>m.le x ?_ y d⟩⟩
 rcases ay7.mp c with c | c
 ·exact az2 _ c
 ·exact aA6 _ c
end
theorem ab5 {a:Array Keyed} {i:Nat} (c:0 < i) (h:i<=a.size):a.toList.take i=a.toList.take (i - 1) ++ [a[i - 1]'(by omega)]:=by
 obtain ⟨j,rfl⟩:∃ j,i=j+1:=⟨i - 1,by omega⟩
 rw [List.take_succ]
 have b:j < a.size:=by omega
 simp [b]
theorem ajz (a:Array Keyed) (k:Nat):(a.extract 0 k).toList=a.toList.take k:=by
 rw [Array.toList_extract];simp [List.extract]
theorem aks (a:Array Keyed) (k n:Nat):(a.extract k n).toList=(a.toList.take n).drop k:=by
 rw [Array.toList_extract];simp [List.extract,List.drop_take]
section
variable {M:Model} {A:Around} {E:Value->Shared->Prop} {s:Shared} {κ:SortKind} {S:Keyed->Prop} {R:Keyed->Keyed->Bool}
structure Hi (S:Keyed->Prop) (R:Keyed->Keyed->Bool) (a b out:Array Keyed) (na nb:Nat):Prop where
 mid:MidH R (a.toList ++ b.toList) (a.toList.take na) (b.toList.take nb) out.toList.reverse
 na:na<=a.size
 nb:nb<=b.size
theorem Hi.len {a b out:Array Keyed} {na nb:Nat} (l:Hi S R a b out na nb):out.size+na+nb=a.size+b.size:=by
 have:=l.mid.perm.length_eq
 have d:=l.na
 have c:=l.nb
 simp at this
 omega
theorem Hi.doneA {a b out:Array Keyed} {na nb:Nat} (l:Hi S R a b out na nb) (h:na=0\/nb=0):Fin2 R a b (a.extract 0 na ++ b.extract 0 nb ++ out.reverse):=by
 have:=l.mid.done (by
  rcases h with h | h
  ·left;rw [h];simp
  ·right;rw [h];simp)
 unfold Fin2
 rw [aD6,aD6,ajz,ajz,Array.toList_reverse]
 exact this
theorem Hi.firstB {a b out:Array Keyed} {na nb:Nat} (T:Two S R a b) (l:Hi S R a b out na nb) (h:nb=1):Fin2 R a b (b.extract 0 nb ++ a.extract 0 na ++ out.reverse):=by
 subst h
 have:=l.mid.first (by
  intro y c x f
  rw [ab5 (by decide) l.nb] at c
  have d:y=b[0]'T.b0:=by simpa using c
  exact T.first x (az9 f) y (by rw [d];exact ay4 _))
 unfold Fin2
 rw [aD6,aD6,ajz,ajz,Array.toList_reverse]
 exact this
theorem ab2 {l:List Keyed} {i:Nat} (h:Srt R l):Srt R (l.take i):=List.Pairwise.sublist (List.take_sublist i l) h
theorem ado {x:Keyed} {l:List Keyed} (C:Cmp M A E s κ S R) (h:Srt R (l ++ [x])) (b:S x):∀ y∈l ++ [x],R x y=false:=by
 intro y a
 rcases ay7.mp a with a | a
 ·exact (aA8.mp h).2.2 y a x (by simp)
 ·have:y=x:=by simpa using a
  rw [this];exact C.irr b
theorem Hi.pushA {a b out:Array Keyed} {na nb:Nat} (l:Hi S R a b out na nb) (d:0 < na) (h:∀ x∈b.toList.take nb,R (a[na - 1]'(by have:=l.na;omega)) x=false):Hi S R a b (out.push (a[na - 1]'(by have:=l.na;omega))) (na - 1) nb:=by
 refine ⟨?_,by have:=l.na;omega,l.nb⟩
 have m:=l.mid
 rw [ab5 d l.na] at m
 rw [Array.toList_push,List.reverse_append]
 exact m.takeA (p:=[_]) (fun x c y f=>by
  rw [aA1.mp f];exact h x c)
theorem Hi.pushB {a b out:Array Keyed} {na nb:Nat} (l:Hi S R a b out na nb) (d:0 < nb) (h:∀ x∈a.toList.take na,R (b[nb - 1]'(by have:=l.nb;omega)) x=false):Hi S R a b (out.push (b[nb - 1]'(by have:=l.nb;omega))) na (nb - 1):=by
 refine ⟨?_,l.na,by have:=l.nb;omega⟩
 have m:=l.mid
 rw [ab5 d l.nb] at m
 rw [Array.toList_push,List.reverse_append]
 exact m.takeB (p:=[_]) (fun x c y f=>by
  rw [aA1.mp f];exact h x c)
theorem Hi.runA {a b out:Array Keyed} {na nb k:Nat} (l:Hi S R a b out na nb) (d:k<=na) (h:∀ x∈b.toList.take nb,∀ y∈(a.toList.take na).drop k,R y x=false):Hi S R a b (out ++ (a.extract k na).reverse) k nb:=by
 refine ⟨?_,by have:=l.na;omega,l.nb⟩
 have m:=l.mid
 rw [← aA0 k (a.toList.take na)] at m
 rw [aD6,Array.toList_reverse,aks,List.reverse_append,List.reverse_reverse]
 have c:=m.takeA h
 rw [List.take_take,Nat.min_eq_left d] at c
 exact c
theorem Hi.runB {a b out:Array Keyed} {na nb k:Nat} (l:Hi S R a b out na nb) (d:k<=nb) (h:∀ x∈a.toList.take na,∀ y∈(b.toList.take nb).drop k,R y x=false):Hi S R a b (out ++ (b.extract k nb).reverse) na k:=by
 refine ⟨?_,l.na,by have:=l.nb;omega⟩
 have m:=l.mid
 rw [← aA0 k (b.toList.take nb)] at m
 rw [aD6,Array.toList_reverse,aks,List.reverse_append,List.reverse_reverse]
 have c:=m.takeB h
 rw [List.take_take,Nat.min_eq_left d] at c
 exact c
theorem an1 (C:Cmp M A E s κ S R) {a b:Array Keyed} (T:Two S R a b) {Q:Array Keyed->SortSt->Prop} {st:SortSt} (hk:kindOf st = κ)
  (h:∀ m st',Eqv st st'->Fin2 R a b m->Q m st'):wpS M A E s (aqi a b) Q st:=by
 have K:∀ i (h:i < a.size),S a[i]:=fun i h=>T.ha _ (by simp)
 have N:∀ i (h:i < b.size),S b[i]:=fun i h=>T.hb _ (by simp)
 have b0:=T.b0
 have a0:=T.a0
 have la:a.size - 1 < a.size:=by omega
 refine wpS_bind (adf ?_)
 refine wpS_bind (aax (x:=a[a.size - 1]'la) (ay4 la) ?_)
 have l1:Hi S R a b #[a[a.size - 1]'la] (a.size - 1) b.size:=by
  have l0:Hi S R a b #[] a.size b.size:=⟨⟨by simp [aC3],List.Pairwise.nil,fun x j y Z=>by simp at Z,ab2 T.sa,ab2 T.sb⟩,ay6 _,ay6 _⟩
  exact l0.pushA a0 fun x j=>T.last x (az9 j) _ (ay4 la)
 refine aan (fun e1=>wpS_pure (h _ _ (Eqv.refl _) (l1.doneA (.inl (aD3.mp e1))))) (fun e1=>?_)
 refine aan (fun e2=>wpS_pure (h _ _ (Eqv.refl _) (l1.firstB T (aD3.mp e2)))) (fun e2=>?_)
 replace e1:a.size - 1 ≠ 0:=fun q=>e1 (aD3.mpr q)
 replace e2:b.size ≠ 1:=fun q=>e2 (aD3.mpr q)
 refine wpS_bind (wpS_get ?_)
 have a6:∀ {na nb:Nat} (B:0 < na) (I:na<=a.size) (X:0 < nb) (Y:nb<=b.size),R (b[nb - 1]'(by omega)) (a[na - 1]'(by omega))=true->∀ x∈b.toList.take nb,R (a[na - 1]'(by omega)) x=false:=fun {na nb} B I X Y er x j=>by
  have sx:S x:=T.hb x (az9 j)
  have hs:Srt R (b.toList.take (nb - 1) ++ [b[nb - 1]'(by omega)]):=by rw [← ab5 X Y];exact ab2 T.sb
  rw [ab5 X Y] at j
  exact C.tr _ _ _ sx (N _ _) (K _ _) (ado C hs (N _ _) x j) (C.asy _ _ (N _ _) (K _ _) er)
 have b1:∀ {na nb:Nat} (B:0 < na) (I:na<=a.size) (X:0 < nb) (Y:nb<=b.size),R (b[nb - 1]'(by omega)) (a[na - 1]'(by omega))=false->∀ x∈a.toList.take na,R (b[nb - 1]'(by omega)) x=false:=fun {na nb} B I X Y er x j=>by
  have sx:S x:=T.ha x (az9 j)
  have hs:Srt R (a.toList.take (na - 1) ++ [a[na - 1]'(by omega)]):=by rw [← ab5 B I];exact ab2 T.sa
  rw [ab5 B I] at j
  exact C.tr _ _ _ sx (K _ _) (N _ _) (ado C hs (K _ _) x j) er
 refine wpS_bind (wpS_mono (Q:=fun (z:Option (Array Keyed) × Nat × Nat × Array Keyed × Nat) st'=>Eqv st st'/\∃ r,z.1=some r/\Fin2 R a b r) ?_ ?_)
 ·refine wpS_forRange (fun t (z:Option (Array Keyed) × Nat × Nat × Array Keyed × Nat) st'=>Eqv st st'/\z.1=none/\Hi S R a b z.2.2.2.1 z.2.1 z.2.2.1/\0 < z.2.1/\1 < z.2.2.1/\t+1<=z.2.2.2.1.size) ?_ ?_ ⟨Eqv.refl _,rfl,l1,by dsimp only;omega,by dsimp only;omega,by simp⟩
  ·intro t z b7 _ ht f
   have q1:=f.1
   refine un5 (J:=fun na nb out _=>Hi S R a b out na nb/\0 < na/\1 < nb/\t+1<=out.size) z f.2 fun na nb out mg o=>?_
   dsimp only
   refine wpS_bind (wpS_mono (Q:=fun (z:Option (Array Keyed) × Nat × Nat × Array Keyed × Nat × Nat) st'=>Eqv st st'/\((∃ r,z.1=some r/\Fin2 R a b r)\/(z.1=none/\Hi S R a b z.2.2.2.1 z.2.1 z.2.2.1/\0 < z.2.1/\1 < z.2.2.1/\t+2<=z.2.2.2.1.size))) ?_ ?_)
   ·refine wpS_forRange (fun i (z:Option (Array Keyed) × Nat × Nat × Array Keyed × Nat × Nat) st'=>Eqv st st'/\z.1=none/\Hi S R a b z.2.2.2.1 z.2.1 z.2.2.1/\0 < z.2.1/\1 < z.2.2.1/\t+1+min i 1<=z.2.2.2.1.size) ?_ ?_ ⟨q1,rfl,o.1,o.2.1,o.2.2.1,o.2.2.2⟩
    ·intro i z g _ hi f
     have q:=f.1
     refine un6 (J:=fun na nb out _ _=>Hi S R a b out na nb/\0 < na/\1 < nb/\t+1+min i 1<=out.size) z f.2 fun na nb out ac bc o=>?_
     have l:=o.1
     have u:=o.2.1
     have a3:=o.2.2.1
     have hsz:=o.2.2.2
     have ia:na - 1 < a.size:=by have:=l.na;omega
     have ib:nb - 1 < b.size:=by have:=l.nb;omega
     refine wpS_bind (aax (x:=b[nb - 1]) (ay4 ib) ?_)
     refine wpS_bind (aax (x:=a[na - 1]) (ay4 ia) ?_)
     refine wpS_bind (C.ask _ _ (N _ ib) (K _ ia) _ _ (q.k.trans hk) ?_)
     dsimp only
     refine aan (fun er=>?_) (fun er=>?_)
     ·refine wpS_bind (aax (x:=a[na - 1]) (ay4 ia) ?_)
      have D:=l.pushA u (a6 u l.na (by omega) l.nb er)
      refine aan (fun w=>wpS_pure ⟨q,.inl ⟨_,rfl,D.doneA (.inl (aD3.mp w))⟩⟩) (fun w=>?_)
      have hf:0 < na - 1/\1 < nb/\t+2<=(out.push a[na - 1]).size:=by
       have a2:na - 1 ≠ 0:=fun q=>w (aD3.mpr q)
       rw [aE9];omega
      exact aan (fun _=>wpS_pure ⟨q,.inr ⟨rfl,D,hf⟩⟩) (fun _=>wpS_pure ⟨q,rfl,D,hf.1,a3,aA9 (by omega) hf.2.2⟩)
     ·refine wpS_bind (aax (x:=b[nb - 1]) (ay4 ib) ?_)
      have D:=l.pushB (by omega) (b1 u l.na (by omega) l.nb (eq_false_of_ne_true er))
      refine aan (fun w=>wpS_pure ⟨q,.inl ⟨_,rfl,D.firstB T (aD3.mp w)⟩⟩) (fun w=>?_)
      have hf:1 < nb - 1/\t+2<=(out.push b[nb - 1]).size:=by
       have a2:nb - 1 ≠ 1:=fun q=>w (aD3.mpr q)
       rw [aE9];omega
      exact aan (fun _=>wpS_pure ⟨q,.inr ⟨rfl,D,u,hf⟩⟩) (fun _=>wpS_pure ⟨q,rfl,D,u,hf.1,aA9 (by omega) hf.2⟩)
    ·exact fun z g f=>⟨f.1,.inr ⟨f.2.1,f.2.2.1,f.2.2.2.1,f.2.2.2.2.1,aA9 (by omega) f.2.2.2.2.2⟩⟩
   ·intro z g f
    have q2:=f.1
    refine unR (J:=fun y:Nat × Nat × Array Keyed × Nat × Nat=>Hi S R a b y.2.2.1 y.1 y.2.1/\0 < y.1/\1 < y.2.1/\t+2<=y.2.2.1.size) z f.2 (fun r x hr=>wpS_pure ⟨q2,r,rfl,hr⟩) fun hN=>?_
    refine un6 (J:=fun na nb out _ _=>Hi S R a b out na nb/\0 < na/\1 < nb/\t+2<=out.size) z hN fun na nb out ac bc o=>?_
    dsimp only
    refine wpS_bind (adf ?_)
    refine wpS_bind (wpS_mono (Q:=fun (z:Option (Array Keyed) × Nat × Nat × Array Keyed × Nat × Nat × Nat) st'=>Eqv st st'/\((∃ r,z.1=some r/\Fin2 R a b r)\/(z.1=none/\Hi S R a b z.2.2.2.1 z.2.1 z.2.2.1/\0 < z.2.1/\1 < z.2.2.1/\t+2<=z.2.2.2.1.size))) ?_ ?_)
    ·refine wpS_forRange (fun i (z:Option (Array Keyed) × Nat × Nat × Array Keyed × Nat × Nat × Nat) st'=>Eqv st st'/\z.1=none/\Hi S R a b z.2.2.2.1 z.2.1 z.2.2.1/\0 < z.2.1/\1 < z.2.2.1/\t+2<=z.2.2.2.1.size) ?_ (fun z g f=>⟨f.1,.inr f.2⟩) ⟨q2,rfl,o⟩
     intro i z g _ hi f
     have q:=f.1
     refine un7 (J:=fun na nb out _ _ _=>Hi S R a b out na nb/\0 < na/\1 < nb/\t+2<=out.size) z f.2 fun na nb out mg ac bc o=>?_
     have l:=o.1
     have u:=o.2.1
     have a3:=o.2.2.1
     have hsz:=o.2.2.2
     have b3:=l.na
     have U:=l.nb
     have ib:nb - 1 < b.size:=by omega
     dsimp only
     refine' jpn (M:=M) (A:=A) (E:=E) (s:=s) (st:=g) (β:=Nat) (P:=fun _=>True) (prog:=?prog) (fun O=>?use) (fun b5 _=>?pf)
     case use =>
      refine aan (fun hm=>?_) (fun hm=>?_)
      ·generalize mg - 1=m
       exact O m trivial
      ·exact O mg trivial
     refine wpS_bind (wpS_mono (Q:=fun _ L=>Eqv g L) (wpS_modify ⟨rfl,rfl,rfl,rfl⟩) fun _ L F=>?_)
     replace F:=q.trans F
     refine wpS_bind (aax (x:=b[nb - 1]) (ay4 ib) ?_)
     refine wpS_bind (afo C (N _ ib) T.ha (by omega) (by rw [List.drop_zero];exact ab2 T.sa) (by omega) (F.k.trans hk) fun k a5 B I=>?_)
     rw [List.drop_zero] at B I
     dsimp only
     generalize hac:na - k=ac2
     refine' jpn2 (M:=M) (A:=A) (E:=E) (s:=s) (st:=L) (P:=fun d c=>Hi S R a b d c nb/\0 < c/\(∀ x∈a.toList.take c,R b[nb - 1] x=false)/\t+2<=d.size) (prog:=?prog2) (fun O=>?use2) (fun d c h5=>?pf2)
     case use2 =>
      refine aan (fun k0=>?_) (fun k0=>?_)
      ·have b2:Srt R (b.toList.take (nb - 1) ++ [b[nb - 1]]):=by rw [← ab5 (by omega) U];exact ab2 T.sb
       have D:Hi S R a b (out ++ (a.extract k na).reverse) k nb:=l.runA a5 fun x j y Z=>by
        have sx:S x:=T.hb x (az9 j)
        have sy:S y:=T.ha y (az9 (aA3 Z))
        rw [ab5 (by omega) U] at j
        exact C.tr _ _ _ sx (N _ ib) sy (ado C b2 (N _ ib) x j) (C.asy _ _ (N _ ib) sy (I y Z))
       refine aan (fun w=>wpS_pure ⟨F,.inl ⟨_,rfl,D.doneA (.inl (aD3.mp w))⟩⟩) (fun w=>?_)
       have hP:Hi S R a b (out ++ (a.extract k na).reverse) k nb/\0 < k/\(∀ x∈a.toList.take k,R b[nb - 1] x=false)/\t+2<=(out ++ (a.extract k na).reverse).size:=by
        have a2:k ≠ 0:=fun q=>w (aD3.mpr q)
        exact ⟨D,by omega,B,by rw [Array.size_append];omega⟩
       revert hP
       clear w D
       generalize out ++ (a.extract k na).reverse=d
       generalize k=c
       intro hP
       exact O d c hP
      ·have:k=na:=by omega
       rw [this] at B
       exact O out na ⟨l,u,B,hsz⟩
     have l3:=h5.1
     have H:=h5.2.1
     have a4:=h5.2.2.1
     have b4:=h5.2.2.2
     have G:=l3.na
     have ia:c - 1 < a.size:=by omega
     refine wpS_bind (aax (x:=b[nb - 1]) (ay4 ib) ?_)
     have l4:=l3.pushB (by omega) a4
     refine aan (fun e5=>wpS_pure ⟨F,.inl ⟨_,rfl,l4.firstB T (aD3.mp e5)⟩⟩) (fun e5=>?_)
     replace e5:nb - 1 ≠ 1:=fun q=>e5 (aD3.mpr q)
     refine wpS_bind (aax (x:=a[c - 1]) (ay4 ia) ?_)
     refine wpS_bind (agp C (K _ ia) T.hb (by omega) (by rw [List.drop_zero];exact ab2 T.sb) (by omega) (F.k.trans hk) fun v a8 X Y=>?_)
     rw [List.drop_zero] at X Y
     dsimp only
     generalize hbc:nb - 1 - v=bc2
     refine' jpn2 (M:=M) (A:=A) (E:=E) (s:=s) (st:=L) (P:=fun n p=>Hi S R a b n c p/\1 < p/\(∀ x∈b.toList.take p,R a[c - 1] x=false)/\t+2<=n.size) (prog:=?prog3) (fun O=>?use3) (fun n p h6=>?pf3)
     case use3 =>
      have a1:∀ x∈b.toList.take v,R a[c - 1] x=false:=fun x j=>C.asy _ _ (T.hb x (az9 j)) (K _ ia) (X x j)
      refine aan (fun k0=>?_) (fun k0=>?_)
      ·have a9:Srt R (a.toList.take (c - 1) ++ [a[c - 1]]):=by rw [← ab5 H G];exact ab2 T.sa
       have l5:Hi S R a b (d.push b[nb - 1] ++ (b.extract v (nb - 1)).reverse) c v:=l4.runB a8 fun x j y Z=>by
        have sx:S x:=T.ha x (az9 j)
        have sy:S y:=T.hb y (az9 (aA3 Z))
        rw [ab5 H G] at j
        exact C.tr _ _ _ sx (K _ ia) sy (ado C a9 (K _ ia) x j) (Y y Z)
       refine aan (fun e6=>wpS_pure ⟨F,.inl ⟨_,rfl,l5.firstB T (aD3.mp e6)⟩⟩) (fun e6=>?_)
       refine aan (fun W=>wpS_pure ⟨F,.inl ⟨_,rfl,l5.doneA (.inr (aD3.mp W))⟩⟩) (fun W=>?_)
       have hP:Hi S R a b (d.push b[nb - 1] ++ (b.extract v (nb - 1)).reverse) c v/\1 < v/\(∀ x∈b.toList.take v,R a[c - 1] x=false)/\t+2<=(d.push b[nb - 1] ++ (b.extract v (nb - 1)).reverse).size:=by
        have b6:v ≠ 1:=fun q=>e6 (aD3.mpr q)
        have a7:v ≠ 0:=fun q=>W (aD3.mpr q)
        exact ⟨l5,by omega,a1,by rw [Array.size_append,aE9];omega⟩
       revert hP
       clear e6 W l5
       generalize d.push b[nb - 1] ++ (b.extract v (nb - 1)).reverse=n
       generalize v=p
       intro hP
       exact O n p hP
      ·have:v=nb - 1:=by omega
       rw [this] at a1
       exact O (d.push b[nb - 1]) (nb - 1) ⟨l4,by omega,a1,by rw [aE9];omega⟩
     refine wpS_bind (aax (x:=a[c - 1]) (ay4 ia) ?_)
     have l7:=h6.1.pushA H h6.2.2.1
     refine aan (fun W=>wpS_pure ⟨F,.inl ⟨_,rfl,l7.doneA (.inl (aD3.mp W))⟩⟩) (fun W=>?_)
     have hf:0 < c - 1/\1 < p/\t+2<=(n.push a[c - 1]).size:=by
      have a7:c - 1 ≠ 0:=fun q=>W (aD3.mpr q)
      have h7:=h6.2.2.2
      exact ⟨by omega,h6.2.1,by rw [aE9];omega⟩
     exact aan (fun _=>wpS_pure ⟨F,.inr ⟨rfl,l7,hf⟩⟩) (fun _=>wpS_pure ⟨F,rfl,l7,hf⟩)
    ·intro z g f
     have q2:=f.1
     refine unR (J:=fun y:Nat × Nat × Array Keyed × Nat × Nat × Nat=>Hi S R a b y.2.2.1 y.1 y.2.1/\0 < y.1/\1 < y.2.1/\t+2<=y.2.2.1.size) z f.2 (fun r x hr=>wpS_pure ⟨q2,r,rfl,hr⟩) fun hN=>?_
     refine un7 (J:=fun na nb out _ _ _=>Hi S R a b out na nb/\0 < na/\1 < nb/\t+2<=out.size) z hN fun na nb out mg ac bc o=>?_
     dsimp only
     refine wpS_bind (wpS_modify ?_)
     exact wpS_pure ⟨q2.trans ⟨rfl,rfl,rfl,rfl⟩,rfl,o⟩
  ·intro z g f
   exfalso
   have B:=f.2.2.1.len
   have I:=f.2.2.2
   have:a.size+b.size<=max 0 (a.size+b.size):=by omega
   omega
 ·intro z g f
  have q2:=f.1
  exact unR (J:=fun _=>False) z (.inl f.2) (fun r x hr=>wpS_pure (h r g q2 hr)) fun hN=>hN.2.elim
end
theorem aiw (base:Nat):∀ (b v u w:List Keyed) (j:Nat) (xs:Array Keyed),xs.toList=u ++ v ++ w->v.length=b.length->u.length=base+j ->
  ((b.zipIdx j).foldl (fun a x=>match x with | (p,j)=>a.setIfInBounds (base+j) p) xs).toList=u ++ b ++ w
 | [],v,u,w,j,xs,h1,h2,h3=>by
  have:v=[]:=aE2 h2
  subst this
  exact h1
 | m :: b,v,u,w,j,xs,h1,h2,h3=>by
  cases v with
  | nil=>cases h2
  | cons y v =>
   rw [List.zipIdx_cons,List.foldl_cons]
   have c:=aiw base b v (u ++ [m]) w (j+1) (xs.setIfInBounds (base+j) m) (by
    rw [Array.toList_setIfInBounds,h1,← h3]
    simp [List.set_append]) (by simpa using h2) (by simp [h3];omega)
   rw [c]
   simp
section
variable {M:Model} {A:Around} {E:Value->Shared->Prop} {s:Shared} {κ:SortKind} {S:Keyed->Prop} {R:Keyed->Keyed->Bool}
theorem as9 {σ:Type} {st st' : σ} {Q:PUnit->σ->Prop} (h:Q ⟨⟩ st'):wpS M A E s (set st':StateT σ Sem PUnit) Q st:=by
 unfold wpS
 rw [StateT.run_set]
 exact aF9 ⟨rfl,h⟩
theorem an2 (C:Cmp M A E s κ S R) {st:SortSt} {i pw pw2:Nat} {pre a b g:List Keyed} (G:(arrOf st).toList=pre ++ a ++ b ++ g) (hS:∀ x∈(arrOf st).toList,S x)
  (a6:(pendingOf st)[i]?=some (pre.length,a.length,pw)) (a9:(pendingOf st)[i+1]?=some (pre.length+a.length,b.length,pw2)) (na:a ≠ []) (nb:b ≠ []) (W:Srt R a) (U:Srt R b) (hk:kindOf st = κ) (hf:failedOf st=none)
  {Q:Bool->SortSt->Prop}
  (h:∀ st' m,kindOf st' = κ->failedOf st'=none->pendingOf st'=((pendingOf st).setIfInBounds i (pre.length,a.length+b.length,pw)).eraseIdxIfInBounds (i+1)->(arrOf st').toList=pre ++ m ++ g->m.Perm (a ++ b)->Srt R m->Q true st') :
  wpS M A E s (akr i) Q st:=by
 have la:0 < a.length:=aC9.mpr na
 have lb:0 < b.length:=aC9.mpr nb
 have J:∀ x∈a,S x:=fun x c=>hS x (by rw [G];simp [c])
 have N:∀ x∈b,S x:=fun x c=>hS x (by rw [G];simp [c])
 have lx:(arrOf st).size=pre.length+a.length+b.length+g.length:=by
  have:=congrArg List.length G
  simp at this
  omega
 have B:((arrOf st).toList.drop pre.length).take a.length=a:=by rw [G];simp [az3]
 have F:((arrOf st).toList.drop (pre.length+a.length)).take b.length=b:=by
  rw [show pre.length+a.length=(pre ++ a).length by simp,G,az3 (pre ++ a),List.drop_left,List.take_left]
 refine wpS_bind (wpS_get ?_)
 rw [a6,a9]
 refine wpS_bind (wpS_mono (Q:=fun _ o=>kindOf o = κ/\failedOf o=none/\arrOf o=arrOf st/\pendingOf o=((pendingOf st).setIfInBounds i (pre.length,a.length+b.length,pw)).eraseIdxIfInBounds (i+1)) (as9 ⟨hk,hf,rfl,rfl⟩) fun _ o ⟨Z,f1,a1,p1⟩=>?_)
 obtain ⟨b0,bt,eb⟩:∃ b0 bt,b=b0 :: bt:=by cases b with | nil=>exact absurd rfl nb | cons x r=>exact ⟨x,r,rfl⟩
 have a4:(arrOf st)[pre.length+a.length]?=some b0:=by
  rw [← aB3,G,eb]
  simp [List.getElem?_append]
 have v:S b0:=N b0 (by rw [eb];simp)
 have D:∀ y∈b,R y b0=false:=fun y d=>by rw [eb] at d U;exact aea C U v y d
 -- nothing is laid together: the two stand in order already
 have w:(∀ x∈a,∀ y∈b,R y x=false)->∀ st',Eqv o st'->Q true st':=fun hc st' q=>by
  refine h st' (a ++ b) (q.k.trans Z) (q.f.trans f1) (q.p.trans p1) ?_ (List.Perm.refl _) (aA8.mpr ⟨W,U,hc⟩)
  rw [q.a,a1,G]
  simp [az3]
 refine wpS_bind (aax a4 ?_)
 refine wpS_bind (afo C v hS (by omega) (by rw [B];exact W) la Z fun k a3 h1 h2=>?_)
 rw [B] at h2
 have I:∀ x∈a.take k,R b0 x=false:=fun x c=>h1 x (by
  have:((arrOf st).toList.drop pre.length).take k=a.take k:=by rw [← B,List.take_take,Nat.min_eq_left a3]
  rw [this];exact c)
 dsimp only
 refine aan (fun e=>?_) (fun e=>?_)
 ·have e':a.length - k=0:=by simpa using e
  refine wpS_pure (w (fun x c y d=>?_) o (Eqv.refl _))
  have:a.take k=a:=aC3 (by omega)
  rw [this] at I
  exact C.tr x b0 y (J x c) v (N y d) (I x c) (D y d)
 ·have e':a.length - k ≠ 0:=by simpa using e
  -- the last of a
  have P:pre.length+k+(a.length - k) - 1=pre.length+(a.length - 1):=by omega
  have n:a.length - 1 < a.length:=by omega
  have a5:(arrOf st)[pre.length+k+(a.length - k) - 1]?=some (a[a.length - 1]'n):=by
   rw [← aB3,G,P]
   simp [List.getElem?_append,n,az3]
  have Sl:S (a[a.length - 1]'n):=J _ (List.getElem_mem n)
  have u:a=a.take (a.length - 1) ++ [a[a.length - 1]'n]:=by
   have:=List.take_succ (l:=a) (i:=a.length - 1)
   rw [show a.length - 1+1=a.length by omega,aD8] at this
   simpa [n] using this
  have L:∀ x∈a,R (a[a.length - 1]'n) x=false:=fun x c=>by
   have hs:Srt R (a.take (a.length - 1) ++ [a[a.length - 1]'n]):=by rw [← u];exact W
   exact ado C hs Sl x (by rw [← u];exact c)
  refine wpS_bind (aax a5 ?_)
  refine wpS_bind (agp C Sl hS (by omega) (by rw [F];exact U) (by omega) Z fun j a8 h3 h4=>?_)
  rw [F] at h4
  have a2:((arrOf st).toList.drop (pre.length+a.length)).take j=b.take j:=by rw [← F,List.take_take,Nat.min_eq_left a8]
  rw [a2] at h3
  dsimp only
  refine aan (fun e2=>?_) (fun e2=>?_)
  ·have a0:j=0:=by simpa using e2
   subst a0
   refine wpS_pure (w (fun x c y d=>?_) o (Eqv.refl _))
   exact C.tr x _ y (J x c) Sl (N y d) (L x c) (h4 y (by simpa using d))
  ·have a0:j ≠ 0:=by simpa using e2
   have ex:((arrOf st).extract (pre.length+k) (pre.length+a.length)).toList=a.drop k:=by
    rw [aks,G]
    simp [az3,List.take_append,List.drop_append]
   have O:((arrOf st).extract (pre.length+a.length) (pre.length+a.length+j)).toList=b.take j:=by
    rw [ah5,a2]
   generalize hX:(arrOf st).extract (pre.length+k) (pre.length+a.length)=X at ex
   generalize hY:(arrOf st).extract (pre.length+a.length) (pre.length+a.length+j)=Y at O
   have sX:X.size=a.length - k:=by have:=congrArg List.length ex;simpa using this
   have sY:Y.size=j:=by have:=congrArg List.length O;simp at this;omega
   have T:Two S R X Y:=by
    refine ⟨fun x c=>J x (aA3 (by rw [← ex];exact c)),fun x c=>N x (az9 (by rw [← O];exact c)),by rw [ex];exact aco W,by rw [O];exact ab2 U,by omega,by omega,fun x c y d=>?_,fun y d x c=>?_⟩
    ·rw [← aB3,O,eb] at d
     have:y=b0:=by
      obtain ⟨j',rfl⟩:∃ j',j=j'+1:=⟨j - 1,by omega⟩
      simpa using d.symm
     rw [this]
     rw [ex] at c
     exact C.asy _ _ v (J x (aA3 c)) (h2 x c)
    ·rw [← aB3,ex,sX] at c
     rw [aF2,show k+(a.length - k - 1)=a.length - 1 by omega,ay0 n] at c
     cases c
     rw [O] at d
     exact C.asy _ _ (N y (az9 d)) Sl (h3 y d)
   have fin:∀ (m:Array Keyed) (st':SortSt),Eqv o st'->Fin2 R X Y m->wpS M A E s (do
     modify fun (z:SortSt)=>setArr z (List.foldl (fun a x=>match x with | (p,j)=>a.setIfInBounds (pre.length+k+j) p) (arrOf z) m.toList.zipIdx)
     let z ← get
     pure (failedOf z).isNone) Q st':=by
    intro m st' q ⟨H,ms⟩
    rw [ex,O] at H
    refine wpS_bind (wpS_modify ?_)
    refine wpS_bind (wpS_get ?_)
    refine wpS_pure ?_
    show Q (failedOf st').isNone _
    rw [q.f,f1]
    have lm:m.toList.length=(a.drop k).length+(b.take j).length:=by rw [H.length_eq,az0]
    have K:∀ z∈m.toList,z∈a.drop k\/z∈b.take j:=fun z hz=>ay7.mp (H.mem_iff.mp hz)
    refine h _ (a.take k ++ m.toList ++ b.drop j) (q.k.trans Z) (q.f.trans f1) (q.p.trans p1) ?_ ?_ ?_
    ·show (List.foldl _ (arrOf st') m.toList.zipIdx).toList=_
     have base:(arrOf st').toList=(pre ++ a.take k) ++ (a.drop k ++ b.take j) ++ (b.drop j ++ g):=by
      rw [q.a,a1,G]
      have t1:=aA0 k a
      have t2:=aA0 j b
      calc pre ++ a ++ b ++ g=pre ++ (a.take k ++ a.drop k) ++ (b.take j ++ b.drop j) ++ g:=by rw [t1,t2]
       _=_:=by simp only [az3]
     have:=aiw (pre.length+k) m.toList (a.drop k ++ b.take j) (pre ++ a.take k) (b.drop j ++ g) 0 (arrOf st') base (by rw [az0,lm]) (by rw [az0,aE0];omega)
     rw [this]
     simp only [az3]
    ·have t1:=aA0 k a
     have t2:=aA0 j b
     calc (a.take k ++ m.toList ++ b.drop j).Perm (a.take k ++ (a.drop k ++ b.take j) ++ b.drop j):=List.Perm.append_right _ (List.Perm.append_left _ H)
      _ = a ++ b:=by
       simp only [az3]
       rw [t2,← az3,t1]
    ·have a7:Srt R (a.take k ++ a.drop k):=by rw [aA0];exact W
     have b1:Srt R (b.take j ++ b.drop j):=by rw [aA0];exact U
     have ca:=(aA8.mp a7).2.2
     have cb:=(aA8.mp b1).2.2
     refine aA8.mpr ⟨aA8.mpr ⟨ab2 W,ms,fun x c y d=>?_⟩,aco U,fun x c y d=>?_⟩
     ·rcases K y d with d | d
      ·exact ca x c y d
      ·exact C.tr x b0 y (J x (az9 c)) v (N y (az9 d)) (I x c) (D y (az9 d))
     ·have Sy:=N y (aA3 d)
      rcases ay7.mp c with c | c
      ·exact C.tr x b0 y (J x (az9 c)) v Sy (I x c) (D y (aA3 d))
      ·rcases K x c with c | c
       ·exact C.tr x _ y (J x (aA3 c)) Sl Sy (L x (aA3 c)) (h4 y d)
       ·exact cb x c y d
   refine aan (fun e3=>?_) (fun e3=>?_)
   ·exact wpS_bind (an0 C T Z fun m st' q fm=>fin m st' q fm)
   ·exact wpS_bind (an1 C T Z fun m st' q fm=>fin m st' q fm)
end
def e (xs:Array Keyed) (k:Nat):Keyed:=(xs[k]?).getD (.none,.none)
theorem ag7 {xs:Array Keyed} {k:Nat} (h:k < xs.size):xs[k]?=some (e xs k):=by
 unfold e;rw [ay4 h];rfl
def Asc (R:Keyed->Keyed->Bool) (xs:Array Keyed) (l h:Nat):Prop:=∀ i j,l<=i->i<=j->j < h->R (e xs j) (e xs i)=false
def Des (R:Keyed->Keyed->Bool) (xs:Array Keyed) (l h:Nat):Prop:=∀ i j,l<=i->i<=j->j < h->R (e xs i) (e xs j)=false
structure Bs (κ:SortKind) (p0:Array (Nat × Nat × Nat)) (a0:Array Keyed) (lo:Nat) (st:SortSt):Prop where
 k:kindOf st = κ
 f:failedOf st=none
 p:pendingOf st=p0
 perm:(arrOf st).toList.Perm a0.toList
 pre:∀ k,k < lo->(arrOf st)[k]?=a0[k]?
theorem aqk {xs:Array Keyed} {src d:Nat} (a:src < xs.size) (hd:d<=src) (k:Nat):e (bubble xs src d) k=if k=src - d then e xs src else if src - d < k/\k<=src then e xs (k - 1) else e xs k:=by
 unfold e
 rw [getElem?_bubble a d hd]
 repeat' split
 all_goals rfl
theorem ac5 {xs:Array Keyed} {i j:Nat} (a:j<=xs.size) (k:Nat):e (mirror xs i j ((j - i) / 2)) k=if i<=k/\k < j then e xs (i+j - 1 - k) else e xs k:=by
 unfold e
 rw [getElem?_mirror_all a]
 split <;> rfl
section
variable {M:Model} {A:Around} {E:Value->Shared->Prop} {s:Shared} {κ:SortKind} {S:Keyed->Prop} {R:Keyed->Keyed->Bool} {p0:Array (Nat × Nat × Nat)} {a0:Array Keyed} {lo:Nat}
theorem Bs.size {st:SortSt} (B:Bs κ p0 a0 lo st):(arrOf st).size=a0.size:=by
 have:=B.perm.length_eq
 simpa using this
theorem Bs.sat {st:SortSt} (B:Bs κ p0 a0 lo st) (a:∀ x∈a0.toList,S x) {k:Nat} (b:k < a0.size):S (e (arrOf st) k):=by
 have h:=ag7 (xs:=arrOf st) (k:=k) (by rw [B.size];exact b)
 refine a _ (B.perm.mem_iff.mp ?_)
 rw [← aB3] at h
 exact ay2 h
theorem afp (C:Cmp M A E s κ S R) (a:∀ x∈a0.toList,S x) {st:SortSt} (B:Bs κ p0 a0 lo st) {i j:Nat} (hi:i < a0.size) (b:j < a0.size) {Q:Option Bool->SortSt->Prop} (h:Q (some (R (e (arrOf st) i) (e (arrOf st) j))) st) :
  wpS M A E s (ltAt' i j) Q st:=by
 rw [ltAt'_eq]
 refine wpS_bind (wpS_get ?_)
 refine wpS_bind (aax (ag7 (by rw [B.size];exact hi)) ?_)
 refine wpS_bind (aax (ag7 (by rw [B.size];exact b)) ?_)
 exact C.ask _ _ (B.sat a hi) (B.sat a b) _ _ B.k h
theorem aql (C:Cmp M A E s κ S R) {xs:Array Keyed} {l h:Nat} (b:∀ k,k<=h->S (e xs k)) (g:l < h) (a:Asc R xs l h) (n:R (e xs h) (e xs (h - 1))=false):Asc R xs l (h+1):=by
 intro i j c d f
 by_cases hj:j=h
 ·subst hj
  by_cases hi:i=j
  ·subst hi;exact C.irr (b _ (ay6 _))
  ·exact C.tr _ (e xs (j - 1)) _ (b _ (by omega)) (b _ (by omega)) (b _ (by omega)) (a i (j - 1) c (by omega) (by omega)) n
 ·exact a i j c d (by omega)
theorem ae2 (C:Cmp M A E s κ S R) {xs:Array Keyed} {l h:Nat} (b:∀ k,k<=h->S (e xs k)) (g:l < h) (a:Des R xs l h) (n:R (e xs (h - 1)) (e xs h)=false):Des R xs l (h+1):=by
 intro i j c d f
 by_cases hj:j=h
 ·subst hj
  by_cases hi:i=j
  ·subst hi;exact C.irr (b _ (ay6 _))
  ·exact C.tr _ (e xs (j - 1)) _ (b _ (by omega)) (b _ (by omega)) (b _ (by omega)) n (a i (j - 1) c (by omega) (by omega))
 ·exact a i j c d (by omega)
theorem Bs.set {st:SortSt} (B:Bs κ p0 a0 lo st) {xs:Array Keyed} (c:xs.Perm (arrOf st)) (b:∀ k,k < lo->xs[k]?=(arrOf st)[k]?):Bs κ p0 a0 lo (setArr st xs) :=
 ⟨B.k,B.f,B.p,c.toList.trans B.perm,fun k a=>(b k a).trans (B.pre k a)⟩
theorem an3 (C:Cmp M A E s κ S R) (G:∀ x∈a0.toList,S x) {st:SortSt} (B:Bs κ p0 a0 lo st) {n ok:Nat} (hn:lo+n<=a0.size) (hok:ok<=n) (P:1<=n) (L:Asc R (arrOf st) lo (lo+ok)) {Q:Bool->SortSt->Prop}
  (h:∀ st',Bs κ p0 a0 lo st'->Asc R (arrOf st') lo (lo+n)->Q true st'):wpS M A E s (aqj lo n ok) Q st:=by
 refine wpS_bind (wpS_mono (Q:=fun (z:Option Bool × Unit) st'=>z.1=none/\Bs κ p0 a0 lo st'/\Asc R (arrOf st') lo (lo+n)) ?_ ?_)
 ·refine wpS_forRange (fun k (z:Option Bool × Unit) st'=>z.1=none/\Bs κ p0 a0 lo st'/\Asc R (arrOf st') lo (lo+k)) ?_ ?_ ⟨rfl,B,fun i j m f v=>?_⟩
  ·rintro k ⟨o,_⟩ b O J ⟨rfl,q,as⟩
   have d:∀ j,j < lo+n->S (e (arrOf b) j):=fun j w=>q.sat G (by omega)
   refine wpS_bind (wpS_mono (Q:=fun (z:Option Bool × Nat × Nat) st'=>st'=b/\z.1=none/\z.2.1<=k/\(∀ i,i < z.2.1->R (e (arrOf b) (lo+k)) (e (arrOf b) (lo+i))=false)/\(∀ i,z.2.1<=i->i < k->R (e (arrOf b) (lo+k)) (e (arrOf b) (lo+i))=true)) ?_ ?_)
   ·refine wpS_forRange (fun t (z:Option Bool × Nat × Nat) st'=>st'=b/\z.1=none/\z.2.1<=z.2.2/\z.2.2<=k/\z.2.2 - z.2.1+t<=k/\(∀ i,i < z.2.1->R (e (arrOf b) (lo+k)) (e (arrOf b) (lo+i))=false)/\(∀ i,z.2.2<=i->i < k->R (e (arrOf b) (lo+k)) (e (arrOf b) (lo+i))=true)) ?_ ?_
     ⟨rfl,rfl,Nat.zero_le _,Nat.le_refl _,by dsimp only;omega,fun i hi=>absurd hi (Nat.not_lt_zero _),fun i m f=>by dsimp only at m;omega⟩
    ·rintro t ⟨o,l,r⟩ a _ T ⟨rfl,c,m,f,v,g,p⟩
     dsimp only at c m f v g p ⊢
     subst c
     refine aan (fun D=>?_) (fun D=>?_)
     ·have:l=r:=by omega
      subst this
      exact wpS_pure ⟨rfl,rfl,f,g,p⟩
     ·have hm:(l+r) / 2 < r:=by omega
      have y:l<=(l+r) / 2:=by omega
      refine wpS_bind (afp C G q (by omega) (by omega) ?_)
      dsimp only
      cases er:R (e (arrOf a) (lo+k)) (e (arrOf a) (lo+(l+r) / 2)) with
      | true =>
       rw [aC5 rfl]
       refine wpS_pure ⟨rfl,rfl,y,by dsimp only;omega,by dsimp only;omega,g,fun i u F=>?_⟩
       dsimp only at u
       cases e2:R (e (arrOf a) (lo+k)) (e (arrOf a) (lo+i)) with
       | true=>rfl
       | false =>
        have:=C.tr _ _ _ (d _ (by omega)) (d _ (by omega)) (d _ (by omega)) (as (lo+(l+r) / 2) (lo+i) (by omega) (by omega) (by omega)) e2
        rw [this] at er;cases er
      | false =>
       rw [aC6 (by decide)]
       refine wpS_pure ⟨rfl,rfl,by dsimp only;omega,f,by dsimp only;omega,fun i u=>?_,p⟩
       dsimp only at u
       exact C.tr _ _ _ (d _ (by omega)) (d _ (by omega)) (d _ (by omega)) (as (lo+i) (lo+(l+r) / 2) (by omega) (by omega) (by omega)) er
    ·rintro ⟨o,l,r⟩ a ⟨rfl,c,m,f,v,g,p⟩
     dsimp only at c m f v g p ⊢
     have : l = r := by have:k ≤ max 0 k := by omega
                        omega
     subst this
     exact ⟨rfl,c,f,g,p⟩
   ·rintro ⟨o,l,r⟩ a ⟨rfl,c,m,g,p⟩
    dsimp only at c m g p ⊢
    subst c
    dsimp only
    have hsz:lo+k < (arrOf a).size:=by rw [q.size];omega
    have hd:(lo+k) - (lo+l)=k - l:=by omega
    refine wpS_bind (wpS_modify ?_)
    have H:∀ j,e (bubble (arrOf a) (lo+k) (lo+k - (lo+l))) j=if j=lo+l then e (arrOf a) (lo+k) else if lo+l < j/\j<=lo+k then e (arrOf a) (j - 1) else e (arrOf a) j:=fun j=>by
     rw [aqk hsz (by omega),show lo+k - (lo+k - (lo+l))=lo+l by omega]
    refine wpS_pure ⟨rfl,q.set (bubble_perm _ _ _) (fun j w=>?_),fun i j u F N=>?_⟩
    ·show (bubble (arrOf a) (lo+k) (lo+k - (lo+l)))[j]?=_
     rw [getElem?_bubble hsz _ (by omega),aC6 (by omega),aC6 (by omega)]
    ·show R (e (bubble (arrOf a) (lo+k) (lo+k - (lo+l))) j) (e (bubble (arrOf a) (lo+k) (lo+k - (lo+l))) i)=false
     rw [H,H]
     have K:∀ j,j < lo+n->S (e (arrOf a) j):=d
     by_cases j1:j=lo+l
     ·rw [aC5 j1]
      by_cases i4:i=lo+l
      ·rw [aC5 i4];exact C.irr (d _ (by omega))
      ·rw [aC6 i4,aC6 (by omega)]
       have:=g (i - lo) (by omega)
       rw [show lo+(i - lo)=i by omega] at this
       exact this
     ·rw [aC6 j1]
      by_cases j2:lo+l < j/\j<=lo+k
      ·rw [aC5 j2]
       have I:=p (j - 1 - lo) (by omega) (by omega)
       rw [show lo+(j - 1 - lo)=j - 1 by omega] at I
       by_cases i4:i=lo+l
       ·rw [aC5 i4];exact C.asy _ _ (d _ (by omega)) (d _ (by omega)) I
       ·rw [aC6 i4]
        by_cases i5:lo+l < i/\i<=lo+k
        ·rw [aC5 i5];exact as (i - 1) (j - 1) (by omega) (by omega) (by omega)
        ·rw [aC6 i5];exact as i (j - 1) (by omega) (by omega) (by omega)
      ·rw [aC6 j2,aC6 (by omega),aC6 (by omega)]
       exact as i j (by omega) (by omega) (by omega)
  ·rintro ⟨o,_⟩ b ⟨c,q,as⟩
   exact ⟨c,q,fun i j u F N=>as i j u F (by omega)⟩
  ·by_cases w:j < lo+ok
   ·exact L i j m f w
   ·have:i=j:=by omega
    subst this
    exact C.irr (B.sat G (by omega))
 ·rintro ⟨o,_⟩ b ⟨c,q,as⟩
  dsimp only at c ⊢
  subst c
  exact wpS_pure (h b q as)
end
def Eqb (R:Keyed->Keyed->Bool) (xs:Array Keyed) (l h:Nat):Prop:=∀ i j,l<=i->i < h->l<=j->j < h->R (e xs i) (e xs j)=false
section
variable {M:Model} {A:Around} {E:Value->Shared->Prop} {s:Shared} {κ:SortKind} {S:Keyed->Prop} {R:Keyed->Keyed->Bool} {p0:Array (Nat × Nat × Nat)} {a0:Array Keyed} {lo:Nat}
theorem amw {α:Type} {prog:StateT SortSt Sem α} {P:SortSt->Prop} {Q : α->SortSt->Prop} {G:Prop} (use:(∀ st,P st->wpS M A E s prog Q st)->G) (a:∀ st,P st->wpS M A E s prog Q st):G:=use a
theorem akt (C:Cmp M A E s κ S R) (f:∀ x∈a0.toList,S x) {st:SortSt} (B:Bs κ p0 a0 lo st) {a nrem:Nat} (j:1<=a) (i:a<=nrem) (hn:lo+nrem<=a0.size) (as:Asc R (arrOf st) lo (lo+a)) {Q:Option (Option Nat) × Nat->SortSt->Prop}
  (h:∀ n,a<=n->n<=nrem->Asc R (arrOf st) lo (lo+n)->(n < nrem->R (e (arrOf st) (lo+n)) (e (arrOf st) (lo+n - 1))=true)->Q (none,n) st) :
  wpS M A E s (forIn [a:nrem] ((none,a):Option (Option Nat) × Nat) (fun (_:Nat) z=>ltAt' (lo+z.2) (lo+z.2 - 1) >>= fun x=>match x with
   | some smaller=>if smaller=true then pure (ForInStep.done (none,z.2)) else pure (ForInStep.yield (none,z.2+1))
   | _=>pure (ForInStep.done (some none,z.2)))) Q st:=by
 refine wpS_forRange (fun t (z:Option (Option Nat) × Nat) st'=>st'=st/\z=(none,t)/\Asc R (arrOf st) lo (lo+t)) ?_ ?_ ⟨rfl,rfl,as⟩
 ·rintro t ⟨o,n⟩ c g l ⟨rfl,d,b⟩
  cases d
  dsimp only
  refine wpS_bind (afp C f B (by omega) (by omega) ?_)
  dsimp only
  cases er:R (e (arrOf c) (lo+t)) (e (arrOf c) (lo+t - 1)) with
  | true =>
   rw [aC5 rfl]
   exact wpS_pure (h t g (by omega) b fun _=>er)
  | false =>
   rw [aC6 (by decide)]
   exact wpS_pure ⟨rfl,rfl,aql C (h:=lo+t) (fun k m=>B.sat f (by omega)) (by omega) b er⟩
 ·rintro ⟨o,n⟩ c ⟨rfl,d,b⟩
  cases d
  rw [show max a nrem=nrem by omega] at b ⊢
  exact h nrem i (ay6 _) b fun z=>absurd z (aD4 _)
theorem aqm (C:Cmp M A E s κ S R) {st:SortSt} (B:Bs κ p0 a0 lo st) {n:Nat} (hn:lo+n<=a0.size) (a:Des R (arrOf st) lo (lo+n)) :
  Bs κ p0 a0 lo (setArr st (mirror (arrOf st) lo (lo+n) ((lo+n - lo) / 2)))/\Asc R (mirror (arrOf st) lo (lo+n) ((lo+n - lo) / 2)) lo (lo+n):=by
 have hz:lo+n<=(arrOf st).size:=by rw [B.size];exact hn
 refine ⟨B.set (mirror_perm _ _ _ _) (fun k f=>by rw [getElem?_mirror_all hz,aC6 (by omega)]),fun i j d c b=>?_⟩
 rw [ac5 hz,ac5 hz,aC5 (by omega),aC5 (by omega)]
 exact a _ _ (by omega) (by omega) (by omega)
theorem ah6 (C:Cmp M A E s κ S R) (d:∀ x∈a0.toList,S x) {st:SortSt} (B:Bs κ p0 a0 lo st) {l h m:Nat} (p:lo<=l) (hh:h<=a0.size) (hm:h<=m) (b:m<=a0.size) (a:Des R (arrOf st) lo m) (eq:Eqb R (arrOf st) l h) :
  Bs κ p0 a0 lo (setArr st (mirror (arrOf st) l h ((h - l) / 2)))/\Des R (mirror (arrOf st) l h ((h - l) / 2)) lo m:=by
 have hz:h<=(arrOf st).size:=by rw [B.size];exact hh
 refine ⟨B.set (mirror_perm _ _ _ _) (fun k c=>by rw [getElem?_mirror_all hz,aC6 (by omega)]),fun i j f g n=>?_⟩
 rw [ac5 hz,ac5 hz]
 have o:∀ k,k < m->S (e (arrOf st) k):=fun k c=>B.sat d (by omega)
 by_cases c1:l<=i/\i < h
 ·rw [aC5 c1]
  by_cases c2:l<=j/\j < h
  ·rw [aC5 c2]
   exact eq _ _ (by omega) (by omega) (by omega) (by omega)
  ·rw [aC6 c2]
   exact a _ _ (by omega) (by omega) (by omega)
 ·rw [aC6 c1]
  by_cases c2:l<=j/\j < h
  ·rw [aC5 c2]
   exact a _ _ (by omega) (by omega) (by omega)
  ·rw [aC6 c2]
   exact a _ _ (by omega) (by omega) (by omega)
theorem apa (C:Cmp M A E s κ S R) (p:∀ x∈a0.toList,S x) {st:SortSt} (B:Bs κ p0 a0 lo st) {nrem:Nat} (h1:1<=nrem) (hn:lo+nrem<=a0.size) {Q:Option Nat->SortSt->Prop}
  (h:∀ st' n,Bs κ p0 a0 lo st'->1<=n->n<=nrem->Asc R (arrOf st') lo (lo+n)->Q (some n) st'):wpS M A E s (as8 lo nrem) Q st:=by
 refine wpS_bind (akt C p B (ay6 1) h1 hn (fun i j r u Z=>?_) fun n n1 n2 as br=>?_)
 ·have:i=j:=by omega
  subst this
  exact C.irr (B.sat p (by omega))
 dsimp only
 refine aan (fun en=>wpS_pure (h st n B n1 n2 as)) (fun en=>?_)
 have a6:n ≠ nrem:=by simpa using en
 have a3:n < nrem:=by omega
 have G:=br a3
 refine amw (M:=M) (A:=A) (E:=E) (s:=s) (α:=Option Nat) (Q:=Q) (P:=fun w=>Bs κ p0 a0 lo w/\Des R (arrOf w) lo (lo+n)/\R (e (arrOf w) (lo+n)) (e (arrOf w) (lo+n - 1))=true) (prog:=?prog) (fun N=>?use) (fun w ⟨O,W,U⟩=>?pf)
 case use =>
  refine aan (fun g1=>?_) (fun g1=>?_)
  ·refine wpS_bind (afp C p B (by omega) (by omega) ?_)
   dsimp only
   cases er:R (e (arrOf st) lo) (e (arrOf st) (lo+n - 1)) with
   | true=>rw [aC5 rfl];exact wpS_pure (h st n B n1 n2 as)
   | false =>
    rw [aC6 (by decide)]
    -- all of them are equal
    have c:∀ k,k < lo+n->S (e (arrOf st) k):=fun k K=>B.sat p (by omega)
    have all:Eqb R (arrOf st) lo (lo+n):=fun i j r u D y=>by
     -- j<=last<=first<=i
     have a1:=as j (lo+n - 1) D (by omega) (by omega)
     have a2:=as lo i (ay6 _) r u
     exact C.tr _ _ _ (c j y) (c lo (by omega)) (c i u) (C.tr _ _ _ (c j y) (c (lo+n - 1) (by omega)) (c lo (by omega)) a1 er) a2
    have W:Des R (arrOf st) lo (lo+n):=fun i j r u Z=>all i j r (by omega) (by omega) Z
    have hz:lo+n<=(arrOf st).size:=by rw [B.size];omega
    obtain ⟨q,a⟩:=ah6 C p B (ay6 lo) (show lo+n<=a0.size by omega) (ay6 _) (by omega) W all
    refine wpS_bind (wpS_modify ?_)
    refine N _ ⟨q,a,?_⟩
    show R (e (mirror (arrOf st) lo (lo+n) ((lo+n - lo) / 2)) (lo+n)) (e (mirror (arrOf st) lo (lo+n) ((lo+n - lo) / 2)) (lo+n - 1))=true
    rw [ac5 hz,ac5 hz,aC6 (by omega),aC5 (by omega)]
    rw [show lo+(lo+n) - 1 - (lo+n - 1)=lo by omega]
    cases e2:R (e (arrOf st) (lo+n)) (e (arrOf st) lo) with
    | true=>rfl
    | false =>
     have:=C.tr _ _ _ (c (lo+n - 1) (by omega)) (c lo (by omega)) (B.sat p (show lo+n < a0.size by omega)) er e2
     rw [this] at G;cases G
  ·have:n=1:=by omega
   subst this
   refine N st ⟨B,fun i j r u Z=>?_,G⟩
   have:i=j:=by omega
   subst this
   exact C.irr (B.sat p (by omega))
 case pf =>
  -- the falling part
  refine wpS_bind (adf ?_)
  refine wpS_bind (wpS_mono (Q:=fun (z:Option (Option Nat) × Nat × Nat) st'=>z.1=none/\Bs κ p0 a0 lo st'/\z.2.1<=nrem/\z.2.2+1<=z.2.1/\Des R (arrOf st') lo (lo+z.2.1)/\Eqb R (arrOf st') (lo+z.2.1 - (z.2.2+1)) (lo+z.2.1)) ?_ ?_)
  ·refine wpS_forRange (fun t (z:Option (Option Nat) × Nat × Nat) st'=>z.1=none/\z.2.1=t/\Bs κ p0 a0 lo st'/\z.2.2+1<=z.2.1/\Des R (arrOf st') lo (lo+z.2.1)/\Eqb R (arrOf st') (lo+z.2.1 - (z.2.2+1)) (lo+z.2.1)) ?_ ?_ ⟨rfl,rfl,O,by dsimp only;omega,?_,fun i j r u D y=>?_⟩
   ·rintro t ⟨o,m,b⟩ d t1 t2 ⟨F,T,q,J,a,f⟩
    dsimp only at F T J a f ⊢
    subst F T
    have c:∀ k,k < a0.size->S (e (arrOf d) k):=fun k K=>q.sat p K
    refine wpS_bind (afp C p q (by omega) (by omega) ?_)
    dsimp only
    cases er:R (e (arrOf d) (lo+m)) (e (arrOf d) (lo+m - 1)) with
    | true =>
     rw [aC5 rfl]
     refine aan (fun g=>?_) (fun g=>?_)
     ·have hz:lo+m<=(arrOf d).size:=by rw [q.size];omega
      obtain ⟨H,v⟩:=ah6 C p q (l:=lo+m - (b+1)) (h:=lo+m) (by omega) (by omega) (ay6 _) (by omega) a f
      have L:∀ k,e (mirror (arrOf d) (lo+m - (b+1)) (lo+m) ((lo+m - (lo+m - (b+1))) / 2)) k=if lo+m - (b+1)<=k/\k < lo+m then e (arrOf d) (lo+m - (b+1)+(lo+m) - 1 - k) else e (arrOf d) k:=fun k=>ac5 hz k
      refine wpS_bind (wpS_modify ?_)
      refine wpS_pure ⟨rfl,rfl,H,by dsimp only;omega,?_,fun i j r u D y=>?_⟩
      ·show Des R (mirror (arrOf d) (lo+m - (b+1)) (lo+m) ((lo+m - (lo+m - (b+1))) / 2)) lo (lo+(m+1))
       refine ae2 C (h:=lo+m) (fun k K=>H.sat p (by omega)) (by omega) v ?_
       rw [L,L,aC5 (by omega),aC6 (by omega)]
       rw [show lo+m - (b+1)+(lo+m) - 1 - (lo+m - 1)=lo+m - (b+1) by omega]
       exact C.tr _ _ _ (c _ (by omega)) (c (lo+m - 1) (by omega)) (c _ (by omega)) (C.asy _ _ (c _ (by omega)) (c _ (by omega)) er) (a _ _ (by omega) (by omega) (by omega))
      ·dsimp only at r u D y
       have:i=j:=by omega
       subst this
       exact C.irr (H.sat p (by omega))
     ·have:b=0:=by omega
      subst this
      refine wpS_pure ⟨rfl,rfl,q,by dsimp only;omega,ae2 C (h:=lo+m) (fun k K=>c k (by omega)) (by omega) a (C.asy _ _ (c _ (by omega)) (c _ (by omega)) er),fun i j r u D y=>?_⟩
      dsimp only at r u D y
      have:i=j:=by omega
      subst this
      exact C.irr (c _ (by omega))
    | false =>
     rw [aC6 (by decide)]
     refine wpS_bind (afp C p q (by omega) (by omega) ?_)
     dsimp only
     cases er2:R (e (arrOf d) (lo+m - 1)) (e (arrOf d) (lo+m)) with
     | true =>
      rw [aC5 rfl]
      exact wpS_pure ⟨rfl,q,by dsimp only;omega,J,a,f⟩
     | false =>
      rw [aC6 (by decide)]
      refine wpS_pure ⟨rfl,rfl,q,by dsimp only;omega,ae2 C (h:=lo+m) (fun k K=>c k (by omega)) (by omega) a er2,fun i j r u D y=>?_⟩
      dsimp only at r u D y
      by_cases ci:i=lo+m
      ·by_cases cj:j=lo+m
       ·rw [ci,cj];exact C.irr (c _ (by omega))
       ·rw [ci]
        exact C.tr _ _ _ (c j (by omega)) (c (lo+m - 1) (by omega)) (c _ (by omega)) (f (lo+m - 1) j (by omega) (by omega) (by omega) (by omega)) er
      ·by_cases cj:j=lo+m
       ·rw [cj]
        exact C.tr _ _ _ (c _ (by omega)) (c (lo+m - 1) (by omega)) (c i (by omega)) er2 (f i (lo+m - 1) (by omega) (by omega) (by omega) (by omega))
       ·exact f i j (by omega) (by omega) (by omega) (by omega)
   ·rintro ⟨o,m,b⟩ d ⟨F,T,q,J,a,f⟩
    dsimp only at F T J a f ⊢
    exact ⟨F,q,by omega,J,a,f⟩
   ·exact ae2 C (h:=lo+n) (fun k K=>O.sat p (by omega)) (by omega) W (C.asy _ _ (O.sat p (by omega)) (O.sat p (by omega)) U)
   ·dsimp only at r u D y
    have:i=j:=by omega
    subst this
    exact C.irr (O.sat p (by omega))
  ·rintro ⟨o,m,b⟩ d ⟨F,q,hm,J,a,f⟩
   dsimp only at F hm J a f ⊢
   subst F
   dsimp only
   refine amw (M:=M) (A:=A) (E:=E) (s:=s) (α:=Option Nat) (Q:=Q) (P:=fun I=>Bs κ p0 a0 lo I/\Des R (arrOf I) lo (lo+m)) (prog:=?prog2) (fun N=>?use2) (fun I ⟨H,v⟩=>?pf2)
   case use2 =>
    refine aan (fun g=>?_) (fun g=>?_)
    ·obtain ⟨H,v⟩:=ah6 C p q (l:=lo+m - (b+1)) (h:=lo+m) (by omega) (by omega) (ay6 _) (by omega) a f
     refine wpS_bind (wpS_modify ?_)
     exact N _ ⟨H,v⟩
    ·exact N _ ⟨q,a⟩
   case pf2 =>
    obtain ⟨B5,X⟩:=aqm C H (n:=m) (by omega) v
    refine wpS_bind (wpS_modify ?_)
    refine wpS_bind (akt C p B5 (by omega) hm hn X fun n' a5 Y a4 _=>?_)
    exact wpS_pure (h _ n' B5 (by omega) Y a4)
end
def flat (rs:List (List Keyed × Nat)):List Keyed:=(rs.map (·.1)).flatten
def pend:Nat->List (List Keyed × Nat)->List (Nat × Nat × Nat)
 | _,[]=>[]
 | k,(r,pw) :: t=>(k,r.length,pw) :: pend (k+r.length) t
theorem agq:flat []=[]:=rfl
theorem abq (r:List Keyed × Nat) (t:List (List Keyed × Nat)):flat (r :: t)=r.1 ++ flat t:=rfl
theorem abi (p q:List (List Keyed × Nat)):flat (p ++ q)=flat p ++ flat q:=by simp [flat]
theorem ab3:∀ (k:Nat) (p q:List (List Keyed × Nat)),pend k (p ++ q)=pend k p ++ pend (k+(flat p).length) q
 | k,[],q=>by simp [pend,agq]
 | k,(r,pw) :: t,q=>by
  simp only [List.cons_append,pend,abq,az0,List.cons.injEq,true_and]
  rw [ab3 (k+r.length) t q,Nat.add_assoc]
theorem adg:∀ (k:Nat) (p:List (List Keyed × Nat)),(pend k p).length=p.length
 | _,[]=>rfl
 | k,(r,pw) :: t=>by simp [pend,adg _ t]
section
variable {M:Model} {A:Around} {E:Value->Shared->Prop} {s:Shared} {κ:SortKind} {S:Keyed->Prop} {R:Keyed->Keyed->Bool} {a0:Array Keyed}
structure Rn (κ:SortKind) (R:Keyed->Keyed->Bool) (a0:Array Keyed) (rs:List (List Keyed × Nat)) (rest:List Keyed) (st:SortSt):Prop where
 k:kindOf st = κ
 f:failedOf st=none
 arr:(arrOf st).toList=flat rs ++ rest
 pn:(pendingOf st).toList=pend 0 rs
 ok:∀ r∈rs,r.1 ≠ []/\Srt R r.1
 perm:(arrOf st).toList.Perm a0.toList
theorem ata {α:Type} (a c:List α) (x b y : α):((a ++ x :: y :: c).set a.length b).eraseIdx (a.length+1)=a ++ b :: c:=by
 rw [List.set_append_right _ _ (ay6 _),aF5,List.set_cons_zero,List.eraseIdx_append_of_length_le (by omega)]
 rw [show a.length+1 - a.length=1 by omega]
 rfl
theorem ag8 (C:Cmp M A E s κ S R) (F:∀ x∈a0.toList,S x) {st:SortSt} {rs:List (List Keyed × Nat)} {rest:List Keyed} (N:Rn κ R a0 rs rest st) {i:Nat} (hi:i+1 < rs.length) {Q:Bool->SortSt->Prop}
  (h:∀ st' n,Rn κ R a0 n rest st'->n.length+1=rs.length->(flat n).length=(flat rs).length->Q true st'):wpS M A E s (akr i) Q st:=by
 obtain ⟨p,a,pw,b,pw2,q,e,w⟩:∃ p a pw b pw2 q,rs=p ++ (a,pw) :: (b,pw2) :: q/\p.length=i:=by
  have H:rs=rs.take i ++ rs.drop i:=(aA0 i rs).symm
  have hd:rs.drop i=rs[i] :: rs[i+1] :: rs.drop (i+2):=by
   rw [List.drop_eq_getElem_cons (by omega),List.drop_eq_getElem_cons hi]
  exact ⟨rs.take i,rs[i].1,rs[i].2,rs[i+1].1,rs[i+1].2,rs.drop (i+2),by rw [← hd];exact H,by simp;omega⟩
 subst w
 have d:=N.ok (a,pw) (by rw [e];simp)
 have j:=N.ok (b,pw2) (by rw [e];simp)
 have l:(pendingOf st).toList=pend 0 p ++ ((flat p).length,a.length,pw) :: ((flat p).length+a.length,b.length,pw2) :: pend ((flat p).length+a.length+b.length) q:=by
  rw [N.pn,e,ab3];simp [pend]
 have c:(pend 0 p).length=p.length:=adg 0 p
 have g:(arrOf st).toList=flat p ++ a ++ b ++ (flat q ++ rest):=by
  rw [N.arr,e,abi,abq,abq];simp [az3]
 refine an2 C (i:=p.length) (pw:=pw) (pw2:=pw2) g (fun x B=>F x (N.perm.mem_iff.mp B)) ?_ ?_ d.1 j.1 d.2 j.2 N.k N.f fun st' m D v y u pm G=>?_
 ·rw [← aB3,l,aA7 (by omega),c,aF5];rfl
 ·rw [← aB3,l,aA7 (by omega),c,show p.length+1 - p.length=1 by omega];rfl
 ·refine h st' (p ++ (m,pw) :: q) ⟨D,v,?_,?_,fun r o=>?_,?_⟩ (by rw [e];simp;omega) ?_
  ·rw [u,abi,abq];simp [az3]
  ·rw [y,Array.toList_eraseIdxIfInBounds,Array.toList_setIfInBounds,l,← c,ata,ab3]
   simp [pend,pm.length_eq,Nat.add_assoc]
  ·rcases ay7.mp o with o | o
   ·exact N.ok r (by rw [e];simp [o])
   ·rcases ay8.mp o with rfl | o
    ·refine ⟨?_,G⟩
     intro z
     have:=pm.length_eq
     have I:m=[]:=z
     rw [I] at this
     have:=aC9.mpr d.1
     simp at *
     omega
    ·exact N.ok r (by rw [e];simp [o])
  ·rw [u]
   refine List.Perm.trans ?_ N.perm
   rw [g]
   have:(flat p ++ a ++ b ++ (flat q ++ rest))=flat p ++ (a ++ b) ++ (flat q ++ rest):=by simp [az3]
   rw [this]
   exact (pm.append_left (flat p)).append_right _
  ·rw [e,abi,abi,abq,abq,abq]
   simp [pm.length_eq]
   omega
theorem Rn.run {rs:List (List Keyed × Nat)} {rest:List Keyed} {st st':SortSt} {n:Nat} (N:Rn κ R a0 rs rest st) (B:Bs κ (pendingOf st) (arrOf st) (flat rs).length st') (u:1<=n) (hn:(flat rs).length+n<=(arrOf st).size) (as:Asc R (arrOf st') (flat rs).length ((flat rs).length+n)) :
  ∃ r a,r.length=n/\r ≠ []/\Srt R r/\Rn κ R a0 rs (r ++ a) st':=by
 have hsz:=B.size
 have c:(arrOf st').toList.take (flat rs).length=flat rs:=by
  have q:(arrOf st').toList.take (flat rs).length=(arrOf st).toList.take (flat rs).length:=by
   apply aD2
   intro k
   rw [List.getElem?_take,List.getElem?_take]
   split
   ·rename_i d
    have:=B.pre k d
    simpa using this
   ·rfl
  rw [q,N.arr,List.take_left]
 refine ⟨((arrOf st').toList.drop (flat rs).length).take n,((arrOf st').toList.drop (flat rs).length).drop n,?_,?_,?_,B.k,B.f,?_,?_,N.ok,B.perm.trans N.perm⟩
 ·simp;omega
 ·intro z
  have:=congrArg List.length z
  simp at this
  omega
 ·unfold Srt
  rw [aD7]
  intro i j hi g m
  have b:j < n:=by simp at g;omega
  have get:∀ k,k < n->∀ (d:k < (((arrOf st').toList.drop (flat rs).length).take n).length),(((arrOf st').toList.drop (flat rs).length).take n)[k]=e (arrOf st') ((flat rs).length+k):=by
   intro k d l
   rw [List.getElem_take,List.getElem_drop]
   have o:=ag7 (xs:=arrOf st') (k:=(flat rs).length+k) (by omega)
   have s:(flat rs).length+k < (arrOf st').toList.length:=by simp;omega
   have h:(arrOf st').toList[(flat rs).length+k]?=some (e (arrOf st') ((flat rs).length+k)):=by simpa using o
   rw [ay0 s] at h
   exact aA5 h
  rw [get i (by omega) hi,get j b g]
  exact as _ _ (by omega) (by omega) (by omega)
 ·rw [aA0]
  conv=>lhs;rw [← aA0 (flat rs).length (arrOf st').toList,c]
 ·rw [B.p];exact N.pn
theorem Rn.bs {rs:List (List Keyed × Nat)} {rest:List Keyed} {st:SortSt} (N:Rn κ R a0 rs rest st):Bs κ (pendingOf st) (arrOf st) (flat rs).length st:=⟨N.k,N.f,rfl,List.Perm.refl _,fun _ _=>rfl⟩
theorem Rn.size {rs:List (List Keyed × Nat)} {rest:List Keyed} {st:SortSt} (N:Rn κ R a0 rs rest st):(arrOf st).size=a0.size:=by
 have:=N.perm.length_eq;simpa using this
theorem Rn.len {rs:List (List Keyed × Nat)} {rest:List Keyed} {st:SortSt} (N:Rn κ R a0 rs rest st):(flat rs).length+rest.length=a0.size:=by
 have:=congrArg List.length N.arr
 have a:=N.size
 simp at this
 omega
theorem aqn {rs:List (List Keyed × Nat)} (h:∀ r∈rs,r.1 ≠ []):rs.length<=(flat rs).length:=by
 induction rs with
 | nil=>simp [flat]
 | cons r t ih =>
  rw [abq,az0,aB9]
  have:=ih fun q a=>h q (az4 _ a)
  have:=aC9.mpr (h r az7)
  omega
theorem aku {α:Type} (f : α->α):∀ (l:List α) (x : α),(l ++ [x]).modify l.length f=l ++ [f x]
 | [],x=>rfl
 | y :: l,x=>by
  show (y :: (l ++ [x])).modify (l.length+1) f=_
  rw [List.modify_succ_cons,aku f l x];rfl
theorem al4 {α:Type} (arr:Array α) (f : α->α) {l:List α} {x : α} (h:arr.toList=l ++ [x]):(arr.modify (arr.size - 1) f).toList=l ++ [f x]:=by
 have a:arr.size=l.length+1:=by have:=congrArg List.length h;simpa using this
 rw [Array.toList_modify,h,a,show l.length+1 - 1=l.length by omega]
 exact aku f l x
theorem atb {α:Type} (arr:Array α) {l:List α} {x : α} (h:arr.toList=l ++ [x]):arr.back?=some x:=by
 have a:arr.size=l.length+1:=by have:=congrArg List.length h;simpa using this
 rw [Array.back?_eq_getElem?,← aB3,h,a]
 simp
theorem amx:∀ (rs:List (List Keyed × Nat)),rs ≠ []->∃ p x,rs=p ++ [x]
 | rs,h=>⟨rs.dropLast,rs.getLast h,(List.dropLast_concat_getLast h).symm⟩
theorem Rn.push {rs:List (List Keyed × Nat)} {r rest:List Keyed} {st st':SortSt} (N:Rn κ R a0 rs (r ++ rest) st) (c:r ≠ []) (d:Srt R r) (k:kindOf st'=kindOf st) (f:failedOf st'=failedOf st) (a:arrOf st'=arrOf st)
  (p:pendingOf st'=(pendingOf st).push ((flat rs).length,r.length,0)):Rn κ R a0 (rs ++ [(r,0)]) rest st':=by
 refine ⟨k.trans N.k,f.trans N.f,?_,?_,fun q b=>?_,by rw [a];exact N.perm⟩
 ·rw [a,N.arr,abi];simp [flat,az3]
 ·rw [p,Array.toList_push,N.pn,ab3];simp [pend]
 ·rcases ay7.mp b with b | b
  ·exact N.ok q b
  ·have:q=(r,0):=by simpa using b
   subst this;exact ⟨c,d⟩
theorem Rn.pow {rs:List (List Keyed × Nat)} {rest:List Keyed} {st st':SortSt} {pw:Nat} (N:Rn κ R a0 rs rest st) (hz:rs ≠ []) (k:kindOf st'=kindOf st) (f:failedOf st'=failedOf st) (a:arrOf st'=arrOf st)
  (p:pendingOf st'=(pendingOf st).modify ((pendingOf st).size - 1) fun x=>(x.1,x.2.1,pw)):∃ g,Rn κ R a0 g rest st'/\(flat g).length=(flat rs).length:=by
 obtain ⟨q,⟨b,c⟩,e⟩:=amx rs hz
 subst e
 have h:(pendingOf st).toList=pend 0 q ++ [((flat q).length,b.length,c)]:=by rw [N.pn,ab3];simp [pend]
 refine ⟨q ++ [(b,pw)],⟨k.trans N.k,f.trans N.f,?_,?_,fun x d=>?_,by rw [a];exact N.perm⟩,by simp [abi,abq,agq]⟩
 ·rw [a,N.arr];simp [abi,abq,agq]
 ·rw [p,al4 _ _ h,ab3];simp [pend]
 ·rcases ay7.mp d with d | d
  ·exact N.ok x (by simp [d])
  ·have:x=(b,pw):=by simpa using d
   subst this
   exact N.ok (b,c) (by simp)
theorem av0 {c:Prop} [Decidable c] {x y z:Nat} (b:x+1 < z) (a:y+1 < z):(if c then x else y)+1 < z:=by
 split
 ·exact b
 ·exact a
theorem Rn.powK {rs:List (List Keyed × Nat)} {rest:List Keyed} {st st':SortSt} {pw:Nat} {G:SortSt->Prop} (N:Rn κ R a0 rs rest st) (hz:rs ≠ []) (h:∀ b,Rn κ R a0 b rest st'->(flat b).length=(flat rs).length->G st') (k:kindOf st'=kindOf st) (f:failedOf st'=failedOf st) (a:arrOf st'=arrOf st)
  (p:pendingOf st'=(pendingOf st).modify ((pendingOf st).size - 1) fun x=>(x.1,x.2.1,pw)):G st':=by
 obtain ⟨b,d,c⟩:=N.pow hz k f a p
 exact h b d c
theorem atc (C:Cmp M A E s κ S R) (hS:∀ x∈a0.toList,S x) {st:SortSt} (h0:arrOf st=a0) (hk:kindOf st = κ) (hf:failedOf st=none) (hp:pendingOf st = #[]) {Q:Unit->SortSt->Prop}
  (h:∀ st',failedOf st'=none->(arrOf st').toList.Perm a0.toList->Srt R (arrOf st').toList->Q () st'):wpS M A E s axm Q st:=by
 have o:(arrOf st).size=a0.size:=by rw [h0]
 refine wpS_bind (wpS_get ?_)
 dsimp only
 refine wpS_bind (wpS_mono (Q:=fun (c:Option Unit × Nat) u=>c.1=none/\∃ rs,Rn κ R a0 rs [] u) ?_ ?_)
 ·refine wpS_forRange (fun i (c:Option Unit × Nat) u=>c.1=none/\∃ rs rest,Rn κ R a0 rs rest u/\c.2=(flat rs).length/\i<=c.2) ?_ ?_ ⟨rfl,[],a0.toList,⟨hk,hf,by rw [h0];rfl,by rw [hp];rfl,fun r H=>(by cases H),by rw [h0]⟩,rfl,ay6 _⟩
  ·rintro i ⟨c1,lo⟩ u _ hi ⟨F,rs,rest,N,Z,D⟩
   dsimp only at F Z D ⊢
   subst F Z
   have U:=N.len
   have b4:i < a0.size:=by rw [← o];exact hi
   refine aan (fun a1=>?_) (fun a5=>?_)
   ·have a9:a0.size<=(flat rs).length:=by rw [← o];exact a1
    refine wpS_pure ⟨rfl,rs,?_⟩
    have:rest=[]:=aE2 (by omega)
    subst this
    exact N
   ·have a8:(flat rs).length < a0.size:=by
     have:¬ (flat rs).length ≥ (arrOf st).size:=a5
     omega
    refine wpS_bind (apa C (fun x hx=>hS x (N.perm.mem_iff.mp hx)) N.bs (nrem:=(arrOf st).size - (flat rs).length) (by omega) (by rw [N.size];omega) fun b1 n B2 n1 n2 O=>?_)
    dsimp only
    have w:=N.size
    refine aan (fun l=>?g1) (fun l=>?g2)
    case' g1 =>
     refine wpS_bind (adf ?_)
     generalize hmr:min (_:Nat) _=nn
     refine wpS_bind (an3 C (fun x hx=>hS x (N.perm.mem_iff.mp hx)) B2 (n:=nn) (ok:=n) ?_ ?_ ?_ O fun b2 B3 a6=>?_)
     ·have:nn<=(arrOf st).size - (flat rs).length:=by rw [← hmr];exact Nat.min_le_left _ _
      rw [w];omega
     ·rw [← hmr];exact Nat.le_min.mpr ⟨n2,aD5 l⟩
     ·have:n<=nn:=by rw [← hmr];exact Nat.le_min.mpr ⟨n2,aD5 l⟩
      omega
     rw [aC6 (by decide)]
     have L:1<=nn:=by
      have:n<=nn:=by rw [← hmr];exact Nat.le_min.mpr ⟨n2,aD5 l⟩
      omega
     have b0:nn<=(arrOf st).size - (flat rs).length:=by rw [← hmr];exact Nat.min_le_left _ _
     obtain ⟨r,g,H,y,I,P⟩:=N.run B3 L (by rw [w];omega) a6
     clear hmr
     subst H
    case' g2 =>
     obtain ⟨r,g,H,y,I,P⟩:=N.run B2 n1 (by rw [w];omega) O
     clear l
     subst H
    all_goals
     refine wpS_bind (wpS_get ?_)
     rcases Classical.em (rs=[]) with hz | hz
     ·have B:=P.pn
      rw [hz] at B
      have hb:=Array.back?_eq_none_iff.mpr (Array.toList_eq_nil_iff.mp B)
      rw [hb]
      dsimp only
      refine wpS_bind (wpS_modify (wpS_pure ⟨rfl,rs ++ [(r,0)],g,P.push y I rfl rfl rfl rfl,?_,?_⟩))
      ·rw [abi,az0];simp [flat]
      ·have:=aC9.mpr y
       show i+1<=(flat rs).length+r.length
       omega
     ·obtain ⟨q,⟨b,T⟩,eq⟩:=amx rs hz
      have B:=P.pn
      rw [eq,ab3,show pend (0+(flat q).length) [(b,T)]=[((flat q).length,b.length,T)] by simp [pend]] at B
      have hb:=atb _ B
      rw [hb]
      dsimp only
      refine wpS_bind (wpS_mono (Q:=fun (c:Option Unit × Unit) d=>c.1=none/\∃ a,Rn κ R a0 a (r ++ g) d/\a ≠ []/\(flat a).length=(flat rs).length) ?_ ?_)
      ·refine wpS_forRange (fun _ (c:Option Unit × Unit) d=>c.1=none/\∃ a,Rn κ R a0 a (r ++ g) d/\a ≠ []/\(flat a).length=(flat rs).length) ?_ (fun c d h4=>h4) ⟨rfl,rs,P,hz,rfl⟩
       rintro i4 ⟨Y,X⟩ d _ _ ⟨v,a,m,z4,p⟩
       dsimp only at v
       subst v
       refine wpS_bind (wpS_get ?_)
       have W:(pendingOf d).size=a.length:=by
        have:=congrArg List.length m.pn
        rw [adg] at this
        simpa using this
       by_cases K:(pendingOf d).size > 1
       ·rw [aC5 K]
        obtain ⟨x4,a3⟩:∃ x4,(pendingOf d)[(pendingOf d).size - 2]?=some x4:=⟨_,ay4 (by omega)⟩
        obtain ⟨y1,y2,y3⟩:=x4
        rw [a3]
        dsimp only
        refine aan (fun _=>wpS_pure ⟨rfl,a,m,z4,p⟩) (fun _=>?_)
        rw [W]
        refine wpS_bind (ag8 C hS m (i:=a.length - 2) (by omega) fun a4 J N5 l5 f5=>?_)
        rw [aC6 (by decide)]
        refine wpS_pure ⟨rfl,J,N5,?_,by omega⟩
        rintro rfl
        simp at l5
        omega
       ·rw [aC6 K]
        exact wpS_pure ⟨rfl,a,m,z4,p⟩
      ·rintro ⟨Y,X⟩ d ⟨v,a,m,z4,p⟩
       dsimp only at v ⊢
       subst v
       dsimp only
       refine wpS_bind (wpS_modify ?_)
       refine m.powK (G:=fun z=>wpS M A E s _ _ z) z4 (fun a2 N6 l6=>?_) rfl rfl rfl rfl
       refine wpS_bind (wpS_modify (wpS_pure ⟨rfl,a2 ++ [(r,0)],g,N6.push y I rfl rfl rfl ?_,?_,?_⟩))
       ·rw [l6,p]
       ·rw [abi,az0,l6,p];simp [flat]
       ·have:=aC9.mpr y
        show i+1<=(flat rs).length+r.length
        omega
  ·rintro ⟨c1,lo⟩ u ⟨F,rs,rest,N,Z,D⟩
   dsimp only at F Z D ⊢
   refine ⟨F,rs,?_⟩
   have U:=N.len
   have a7:(arrOf st).size<=lo:=aA9 (Nat.le_max_right 0 _) D
   have:rest=[]:=aE2 (by rw [o] at a7;omega)
   subst this
   exact N
 ·rintro ⟨c1,lo⟩ u ⟨F,rs,N⟩
  dsimp only at F ⊢
  subst F
  dsimp only
  refine wpS_bind (wpS_mono (Q:=fun (c:Option Unit × Unit) d=>c.1=none/\∃ a,Rn κ R a0 a [] d/\a.length<=1) ?_ ?_)
  ·refine wpS_forRange (fun j (c:Option Unit × Unit) d=>c.1=none/\∃ a,Rn κ R a0 a [] d/\(a.length<=1\/a.length+j<=a0.size)) ?_ ?_ ⟨rfl,rs,N,.inr ?_⟩
   ·rintro j ⟨Y,X⟩ d _ _ ⟨v,a,m,p⟩
    dsimp only at v
    subst v
    refine wpS_bind (wpS_get ?_)
    have W:(pendingOf d).size=a.length:=by
     have:=congrArg List.length m.pn
     rw [adg] at this
     simpa using this
    refine aan (fun K=>wpS_pure ⟨rfl,a,m,?_⟩) (fun K=>?_)
    ·have:(pendingOf d).size<=1:=K
     omega
    ·have b3:¬ (pendingOf d).size<=1:=K
     refine wpS_bind (ag8 C hS m (i:=_) ?_ fun a4 J N5 l5 f5=>?_)
     ·refine av0 ?_ ?_
      ·show (pendingOf d).size - 2 - 1+1 < a.length
       omega
      ·show (pendingOf d).size - 2+1 < a.length
       omega
     rw [aC6 (by decide)]
     exact wpS_pure ⟨rfl,J,N5,by omega⟩
   ·rintro ⟨Y,X⟩ d ⟨v,a,m,p⟩
    refine ⟨v,a,m,?_⟩
    rcases p with p | p
    ·exact p
    ·have:(arrOf st).size<=max 0 (arrOf st).size:=Nat.le_max_right _ _
     have h3:a.length+max 0 (arrOf st).size<=a0.size:=p
     omega
   ·have:=aqn fun r H=>(N.ok r H).1
    have:=N.len
    omega
  ·rintro ⟨Y,X⟩ d ⟨v,a,m,p⟩
   dsimp only at v ⊢
   subst v
   dsimp only
   refine wpS_pure (h d m.f m.perm ?_)
   rw [m.arr]
   match a,p with
   | [],_=>exact List.Pairwise.nil
   | [x],_=>simpa [flat] using (m.ok x (by simp)).2
end
end TS
namespace L2
open PySem PySem.Spec PyProof.Rows
mutual
inductive Rep (H:Hp):V->PyData->Prop
 | non:Rep H .non .none
 | bl (b:Bool):Rep H (.bl b) (.bool b)
 | int (i:Int):Rep H (.int i) (.int i)
 | str (x:Str):Rep H (.str x) (.str x)
 | lst {a:Addr} {xs:List V} {ds:List PyData}:H a=some (.lst xs)->Reps H xs ds->Rep H (.ref a) (.list ds)
 | tup {a:Addr} {xs:List V} {ds:List PyData}:H a=some (.tup xs)->Reps H xs ds->Rep H (.ref a) (.tuple ds)
inductive Reps (H:Hp):List V->List PyData->Prop
 | nil:Reps H [] []
 | cons {v:V} {vs:List V} {d:PyData} {ds:List PyData}:Rep H v d->Reps H vs ds->Reps H (v :: vs) (d :: ds)
end
mutual
theorem Rep.same {H H':Hp} (s:Same H H'):∀ {v:V} {d:PyData},Rep H v d->Rep H' v d
 | _,_,.non => .non
 | _,_,.bl b => .bl b
 | _,_,.int i => .int i
 | _,_,.str x => .str x
 | _,_,.lst h r => .lst (s _ _ h) (Reps.same s r)
 | _,_,.tup h r => .tup (s _ _ h) (Reps.same s r)
theorem Reps.same {H H':Hp} (s:Same H H'):∀ {vs:List V} {ds:List PyData},Reps H vs ds->Reps H' vs ds
 | _,_,.nil => .nil
 | _,_,.cons r t => .cons (Rep.same s r) (Reps.same s t)
end
theorem Reps.length {H:Hp}:∀ {vs:List V} {ds:List PyData},Reps H vs ds->vs.length=ds.length
 | _,_,.nil=>rfl
 | _,_,.cons _ t=>by simp [Reps.length t]
theorem Reps.get {H:Hp}:∀ {vs:List V} {ds:List PyData} {i:Nat} {d:PyData},Reps H vs ds->ds[i]?=some d->∃ v,vs[i]?=some v/\Rep H v d
 | _,_,_,_,.nil,e=>by simp at e
 | _,_,0,_,.cons r _,e=>by simp at e;subst e;exact ⟨_,rfl,r⟩
 | _,_,i+1,d,.cons _ t,e=>by
  obtain ⟨u,b,a⟩:=Reps.get (i:=i) (d:=d) t (by simpa using e)
  exact ⟨u,by simpa using b,a⟩
theorem Reps.append {H:Hp}:∀ {vs ws:List V} {ds es:List PyData},Reps H vs ds->Reps H ws es->Reps H (vs ++ ws) (ds ++ es)
 | _,_,_,_,.nil,s=>s
 | _,_,_,_,.cons r t,s => .cons r (Reps.append t s)
section
variable {X:Cx} {pins:List (Addr × Obj)} {σ:St} {H:Hp} {s:Shared}
mutual
theorem Rep.reads (I:Inv X pins σ H s):∀ {v:V} {d:PyData} {u:Value},Rep H v d->RelV v u->∃ as,Reads s.heap u d as
 | _,_,_,.non,r=>by cases r;exact ⟨_,.none⟩
 | _,_,_,.bl b,r=>by cases r;exact ⟨_,.bool b⟩
 | _,_,_,.int i,r=>by obtain ⟨t,rfl⟩:=r;exact ⟨_,.int i t⟩
 | _,_,_,.str x,r=>by obtain ⟨t,rfl⟩:=r;exact ⟨_,.str x t⟩
 | _,_,_,.lst (a:=a) (xs:=xs) h q,r=>by
  cases r
  obtain ⟨_,its,n,f,e⟩:=(show ObjOk X.prog X.w H s.heap a (.lst xs) from I.hok a _ h)
  obtain ⟨as,g⟩:=Reps.reads I q f
  exact ⟨_,.list e rfl rfl (by simpa using g)⟩
 | _,_,_,.tup (a:=a) (xs:=xs) h q,r=>by
  cases r
  obtain ⟨_,its,f,o,e,c,n,dd⟩:=(show ObjOk X.prog X.w H s.heap a (.tup xs) from I.hok a _ h)
  obtain ⟨as,g⟩:=Reps.reads I q f
  exact ⟨_,.tuple e c dd (by simpa using g)⟩
theorem Reps.reads (I:Inv X pins σ H s):∀ {vs:List V} {ds:List PyData} {us:List Value},Reps H vs ds->Vals vs us->∃ as,ReadsAll s.heap us ds as
 | _,_,_,.nil,.nil=>⟨_,.nil⟩
 | _,_,_,.cons r t,.cons q qs=>by
  obtain ⟨as,a⟩:=Rep.reads I r q
  obtain ⟨bs,rb⟩:=Reps.reads I t qs
  exact ⟨_,.cons a rb⟩
end
end
mutual
def aaq:PyData->Bool
 | .none | .int _=>true
 | .list xs | .tuple xs=>plainDs xs
 | _=>false
def plainDs:List PyData->Bool
 | []=>true
 | x :: xs=>aaq x && plainDs xs
end
mutual
theorem ab1:∀ (d:PyData),aaq d=true->d.canLay0=true
 | .none,_=>by simp [PyData.canLay0]
 | .int _,_=>by simp [PyData.canLay0]
 | .list xs,h=>by simp only [PyData.canLay0];exact plain_lays xs (by simpa [aaq] using h)
 | .tuple xs,h=>by simp only [PyData.canLay0];exact plain_lays xs (by simpa [aaq] using h)
 | .bool _,h=>by simp [aaq] at h
 | .str _,h=>by simp [aaq] at h
 | .dict _,h=>by simp [aaq] at h
theorem plain_lays:∀ (ds:List PyData),plainDs ds=true->PyData.canLayAll0 ds=true
 | [],_=>by simp [PyData.canLayAll0]
 | x :: xs,h=>by
  have h':aaq x=true/\plainDs xs=true:=by simpa [plainDs] using h
  simp only [PyData.canLayAll0,ab1 x h'.1,plain_lays xs h'.2,Bool.and_self]
end
mutual
theorem ael:∀ (d e:PyData),aaq d=true->aaq e=true->(PyData.eqv d e=true ↔ d=e)
 | .none,e,_,h=>by cases e <;> simp_all [aaq,PyData.eqv]
 | .int i,e,_,h=>by cases e <;> simp_all [aaq,PyData.eqv]
 | .list xs,e,g,h=>by
  cases e with
  | list ys=>simp only [PyData.eqv,PyData.list.injEq];exact eqvAll_plain xs ys (by simpa [aaq] using g) (by simpa [aaq] using h)
  | _=>simp_all [aaq,PyData.eqv]
 | .tuple xs,e,g,h=>by
  cases e with
  | tuple ys=>simp only [PyData.eqv,PyData.tuple.injEq];exact eqvAll_plain xs ys (by simpa [aaq] using g) (by simpa [aaq] using h)
  | _=>simp_all [aaq,PyData.eqv]
 | .bool _,_,h,_=>by simp [aaq] at h
 | .str _,_,h,_=>by simp [aaq] at h
 | .dict _,_,h,_=>by simp [aaq] at h
theorem eqvAll_plain:∀ (ds es:List PyData),plainDs ds=true->plainDs es=true->(PyData.eqvAll ds es=true ↔ ds=es)
 | [],[],_,_=>by simp [PyData.eqvAll]
 | [],_ :: _,_,_=>by simp [PyData.eqvAll]
 | _ :: _,[],_,_=>by simp [PyData.eqvAll]
 | x :: xs,y :: ys,g,h=>by
  have g':aaq x=true/\plainDs xs=true:=by simpa [plainDs] using g
  have h':aaq y=true/\plainDs ys=true:=by simpa [plainDs] using h
  simp only [PyData.eqvAll,aE1,List.cons.injEq,ael x y g'.1 h'.1,eqvAll_plain xs ys g'.2 h'.2]
end
theorem agj (ds:List PyData):plainDs ds=true ↔ ∀ d∈ds,aaq d=true:=by
 induction ds with
 | nil=>simp [plainDs]
 | cons d ds ih=>simp [plainDs,ih]
def rEqD:R2:=fun x y H Q=>∃ d e,Rep H x d/\Rep H y e/\aaq d=true/\aaq e=true/\d.depth<=60/\Q (.bl (PyData.eqv d e)) H
def rNeD:R2:=fun x y H Q=>∃ d e,Rep H x d/\Rep H y e/\aaq d=true/\aaq e=true/\d.depth<=60/\Q (.bl (!PyData.eqv d e)) H
section
variable {X:Cx}
theorem akv (i:X.A.units+64 < cLine):OpR X (compareOp .Eq) rEqD:=by
 intro pins s σ H x y v u Q I b a h
 obtain ⟨d,e,g,re,hd,f,hz,q⟩:=h
 obtain ⟨as,c⟩:=g.reads I b
 obtain ⟨bs,rb⟩:=re.reads I a
 refine SeqAt.compareEq_reads c rb (ab1 _ hd) (ab1 _ f) ?_ ⟨.bl _,H,I,rfl,q⟩
 have:=Nat.min_le_left d.depth e.depth
 omega
theorem akw (i:X.A.units+64 < cLine):OpR X (compareOp .NotEq) rNeD:=by
 intro pins s σ H x y v u Q I b a h
 obtain ⟨d,e,g,re,hd,f,hz,q⟩:=h
 obtain ⟨as,c⟩:=g.reads I b
 obtain ⟨bs,rb⟩:=re.reads I a
 refine SeqAt.compareNe_reads c rb (ab1 _ hd) (ab1 _ f) ?_ ⟨.bl _,H,I,rfl,q⟩
 have:=Nat.min_le_left d.depth e.depth
 omega
def rInD (neg:Bool):R2:=fun x y H Q=>∃ d es,Rep H x d/\(Rep H y (.list es)\/Rep H y (.tuple es))/\aaq d=true/\plainDs es=true/\d.depth<=60/\Q (.bl (if neg then !es.any (fun z=>PyData.eqv z d) else es.any (fun z=>PyData.eqv z d))) H
theorem av1 (i:X.A.units+64 < cLine):OpR X (compareOp .In) (rInD false):=by
 intro pins s σ H x y v u Q I f a h
 obtain ⟨d,es,g,re,hd,c,hz,q⟩:=h
 obtain ⟨as,b⟩:=g.reads I f
 have hm:=Nat.min_le_right (PyData.depthAll es) d.depth
 rcases re with re | re
 ·obtain ⟨bs,rb⟩:=re.reads I a
  exact SeqAt.in_list_reads rb b (plain_lays _ c) (ab1 _ hd) (by omega) ⟨.bl _,H,I,rfl,q⟩
 ·obtain ⟨bs,rb⟩:=re.reads I a
  exact SeqAt.in_tuple_reads rb b (plain_lays _ c) (ab1 _ hd) (by omega) ⟨.bl _,H,I,rfl,q⟩
theorem aem (i:X.A.units+64 < cLine):OpR X (compareOp .NotIn) (rInD true):=by
 intro pins s σ H x y v u Q I f a h
 obtain ⟨d,es,g,re,hd,c,hz,q⟩:=h
 obtain ⟨as,b⟩:=g.reads I f
 have hm:=Nat.min_le_right (PyData.depthAll es) d.depth
 rcases re with re | re
 ·obtain ⟨bs,rb⟩:=re.reads I a
  exact SeqAt.notIn_list_reads rb b (plain_lays _ c) (ab1 _ hd) (by omega) ⟨.bl _,H,I,rfl,q⟩
 ·obtain ⟨bs,rb⟩:=re.reads I a
  exact SeqAt.notIn_tuple_reads rb b (plain_lays _ c) (ab1 _ hd) (by omega) ⟨.bl _,H,I,rfl,q⟩
def rIsi (K:Frag):List V->Hp->VK->Prop:=fun xs H Q=>∃ (x:V) (T:String) (t:Value) (b:Bool),xs=[x,.ty T]/\TyOf K H x t/\kitOne K t (.type T)=some b/\Q (.bl b) H
theorem aeb:abc X (.builtin "isinstance") (rIsi X.K):=by
 intro pins s σ H xs us Q I r h
 obtain ⟨x,T,t,b,rfl,ty,e,q⟩:=h
 obtain ⟨u,c,rfl,d,a⟩:=ant r
 cases a
 exact aou I d ty e fun f=>⟨.bl b,H,I.tok _,rfl,q⟩
end
end L2
namespace HT
open PySem PyProof.Rows
section
open PySem.SeqAt
open PySem.AutoSeq1 (wpAny_loadPart')
open PySem.MeetsSeq PySem.MeetsSeq2 PySem.MeetsSeq3
end
section
variable {prog:Program} {w:World} {A:Around} {E:Value->Shared->Prop} {s:Shared}
theorem aix {it t:Addr} {a:Array Value} (h:t ≠ it):∀ (n i:Nat) (s:Shared) (Q:List Value->Shared->Prop),s.heap.IsListIter it t i->s.heap.IsList t a->i+n<=a.size ->
  (∀ h',h'.IsListIter it t (i+n)->Heap.SameBut it s.heap h'->Q ((a.toList.drop i).take n) { s with heap:=h' })->wpAny (model prog w) A (draw (.ref it) n) Q E s
 | 0,i,s,Q,hit,_,_,hQ=>by
  show wpAny _ _ (pure []) Q E s
  exact aF9 (by simpa using hQ s.heap hit (Heap.SameBut.refl ..))
 | n+1,i,s,Q,hit,ht,hle,hQ=>by
  have j:i < a.size:=by omega
  show wpAny _ _ (pyNext (.ref it) >>= _) Q E s
  refine aF8 (wpAny_pyNext_list_item hit ht (x:=a[i]) (by simp [j]) fun l c b=>?_)
  refine aF8 (aG3 (aix h n (i+1) _ _ c (ht.extBut b.extBut h) (by omega) fun g d f=>aF9 ?_))
  have hd:a.toList.drop i=a[i] :: a.toList.drop (i+1):=by simp [List.drop_eq_getElem_cons,j]
  have:=hQ g (by rw [show i+(n+1)=i+1+n by omega];exact d) (b.trans f)
  rw [hd,List.take_succ_cons] at this
  exact this
theorem agr {t:Addr} {a:Array Value} {Q:List Value->Shared->Prop} (hh:A.handled=none) (h:s.heap.IsList t a)
  (p:∀ h',Heap.ExtBut s.heap.objs.size s.heap h'->Q a.toList { s with heap:=h' }):wpAny (model prog w) A (unpackItems (.ref t) a.size none) Q E s:=by
 have m:t ≠ s.heap.objs.size:=by obtain ⟨o,n,_⟩:=h;exact az5 (aG1 n)
 unfold unpackItems
 refine aF8 ?_
 ·unfold notIterableAtAll
  refine aF8 (wpAny_specialOf h.typeIs slot_list_iter.lookup ?_)
  refine aF9 ?_
  simp only [Bool.false_eq_true,if_false]
  refine aF8 (aG3 (aH0 h ?_))
  refine aF8 (aG3 (aix m a.size 0 _ _ ⟨_,aG2 _ rfl,rfl,rfl⟩ (h.push _) (by omega) fun l d c=>?_))
  have i:List.take a.size (List.drop 0 a.toList)=a.toList:=by
   rw [List.drop_zero];exact aC3 (by simp)
  rw [i]
  rw [aC6 (by simp)]
  have g:l.IsList t a:=(h.push _).extBut c.extBut m
  refine aF8 (aG3 (wpAny_pyNext_list_end hh d g (by simp) fun j f=>?_))
  simp only [Option.isSome_none,Bool.false_eq_true,if_false]
  refine aF9 (p j fun b o hb e=>f b o hb (c.extBut b o hb (aG0 _ e)))
theorem assign_Tuple_list {env:Env} {b:List Expr} {x1} {d:Pos} {t:Addr} {a:Array Value} {Q:Unit->Shared->Prop} (hh:A.handled=none) (f:s.heap.IsList t a)
  (hn:(assignEach b env).length=a.size) (c:(assignEach b env).findIdx? (·.1)=none)
  (h:∀ h',Heap.ExtBut s.heap.objs.size s.heap h'->wpAny (model prog w) A (assignInOrder ((assignEach b env).map (·.2)) a.toList) Q E { s with heap:=h' }) :
  wpAny (model prog w) A (assign (.Tuple b x1 d) env (.ref t)) Q E s:=by
 rw [assign_Tuple]
 refine aF8 (wpAny_standAt ?_)
 unfold unpack
 rw [hn,c]
 exact aF8 (aG3 (agr hh f h))
end
end HT
namespace L2
open PySem PySem.Spec PyProof.Rows
section
variable {X:Cx}
def gLst (K:Frag) (n:Nat) (t:TGs):TG:=fun v σ H Q=>∃ a xs,v=.ref a/\SqL K H a xs/\xs.length=n/\t xs σ H Q
theorem apb {es:List Expr} {k:Nat} {t:TGs} {n:Nat} {c:Pos} (l:X.calm=true) (h:PGs X es t)
  (hn:(assignEach es X.env).length=n:=by rfl) (d:(assignEach es X.env).findIdx? (·.1)=none:=by rfl):PG X (.Tuple es k c) (gLst X.K n t):=by
 intro pins s σ H v u Q I r f
 obtain ⟨a,xs,w,m,q,f⟩:=f
 subst w
 cases r
 obtain ⟨its,g,i,hz⟩:=I.list m
 refine HT.assign_Tuple_list (I.ok.hd l) i.isList (by simp [hn,← q,g.length]) d fun h' p=>?_
 have j:Inv X pins σ H { s with heap:=h' }:=I.kept (t':=s.toks) fun b o e=>p b o (az5 (aG1 e)) e
 exact h pins _ σ H xs _ Q j (by simpa using g) f
def akx (K:Frag):List V->Hp->VK->Prop:=fun xs H Q=>∃ (a:Addr) (ns:List Int),xs=[.ref a]/\SqL K H a (ns.map V.int)/\ns.length < 64/\∀ (ns':List Int) (p:Addr),ns'.Perm ns->ns'.Pairwise (·<=·)->H p=none->Q (.ref p) (upd H p (.lst (ns'.map V.int)))
theorem ag9:abc X (.builtin "sorted") (akx X.K):=by
 intro pins s σ H xs us Q I r h
 obtain ⟨a,ns,rfl,ha,f,q⟩:=h
 obtain ⟨u,rfl,v⟩:=acz r
 cases v
 obtain ⟨its,m,w,hz⟩:=I.list ha
 have j:IntsAre its.toArray.toList ns:=abp m
 have i:IntsAre its ns:=by simpa using j
 refine sorted_ints (vs:=its) w.isList i (by rw [i.length];exact f) fun out d l g p=>?_
 obtain ⟨e,n⟩:=sortedAll_at s.heap its out
 have c:H (s.heap.objs.size+1)=none:=I.hok.fresh (Nat.le_succ _)
 refine ⟨.ref (s.heap.objs.size+1),_,I.laid (t':=s.toks) (o:=.lst (d.map V.int)) (fun b x q=>sortedAll_old q) (Nat.le_succ _) ?_,rfl,q d _ g p c⟩
 refine ⟨?_,out.toList,e,afk l,by rw [n]⟩
 rw [ay3,g.length_eq]
 exact aD5 (adm (by omega))
end
end L2
namespace HT
open PySem PyProof.Rows
theorem ah7 (val:Nat->Int):∀ k,argBest (fun i j=>decide (val i > val j)) k<=k/\∀ i,i<=k->val i<=val (argBest (fun i j=>decide (val i > val j)) k)
 | 0 => ⟨Nat.le_refl _, fun i hi => by have:i=0 := by omega
                                       subst this;exact Int.le_refl _⟩
 | k+1=>by
  obtain ⟨b,a⟩:=ah7 val k
  unfold argBest
  by_cases hc:val (k+1) > val (argBest (fun i j=>decide (val i > val j)) k)
  ·rw [aC5 (aB5 hc)]
   refine ⟨ay6 _,fun i hi=>?_⟩
   by_cases e:i=k+1
   ·subst e;exact Int.le_refl _
   ·have:=a i (by omega)
    exact Int.le_trans this (Int.le_of_lt hc)
  ·rw [aC6 (by simpa using hc)]
   refine ⟨by omega,fun i hi=>?_⟩
   by_cases e:i=k+1
   ·subst e;omega
   ·exact a i (by omega)
theorem ah8 (val:Nat->Int):∀ k,argBest (fun i j=>decide (val i < val j)) k<=k/\∀ i,i<=k->val (argBest (fun i j=>decide (val i < val j)) k)<=val i
 | 0 => ⟨Nat.le_refl _, fun i hi => by have:i=0 := by omega
                                       subst this;exact Int.le_refl _⟩
 | k+1=>by
  obtain ⟨b,a⟩:=ah8 val k
  unfold argBest
  by_cases hc:val (k+1) < val (argBest (fun i j=>decide (val i < val j)) k)
  ·rw [aC5 (aB5 hc)]
   refine ⟨ay6 _,fun i hi=>?_⟩
   by_cases e:i=k+1
   ·subst e;exact Int.le_refl _
   ·have:=a i (by omega)
    exact Int.le_trans (Int.le_of_lt hc) this
  ·rw [aC6 (by simpa using hc)]
   refine ⟨by omega,fun i hi=>?_⟩
   by_cases e:i=k+1
   ·subst e;omega
   ·exact a i (by omega)
def val (ns:List Int) (i:Nat):Int:=(ns[i]?).getD 0
theorem adb {us:List Value} {ns:List Int} (hi:IntsAre us ns) (i:Nat) (v:Value) (h:us.toArray[i]?=some v):∃ t,v=.int (val ns i) t:=by
 induction hi generalizing i with
 | nil=>simp at h
 | cons n t r ih =>
  cases i with
  | zero=>simp at h;subst h;exact ⟨t,by simp [val]⟩
  | succ i =>
   obtain ⟨t',e⟩:=ih i (by simpa using h)
   exact ⟨t',by simpa [val] using e⟩
theorem af4 {ns:List Int} {i:Nat} (h:i < ns.length):val ns i∈ns:=by
 unfold val
 rw [ay0 h]
 exact List.getElem_mem h
theorem aha {ns:List Int} {x:Int} (h:x∈ns):∃ i,i < ns.length/\val ns i=x:=by
 obtain ⟨i,hi,e⟩:=aE6.mp h
 exact ⟨i,hi,by unfold val;rw [ay0 hi];exact e⟩
section
variable {prog:Program} {w:World} {A:Around} {E:Value->Shared->Prop} {s:Shared}
theorem max_list {l:Addr} {us:List Value} {ns:List Int} {Q:Value->Shared->Prop} (hh:A.handled=none) (g:s.heap.IsList l us.toArray) (hi:IntsAre us ns) (d:ns ≠ [])
  (h:∀ m t h' c,m∈ns->(∀ x∈ns,x<=m)->(∀ b o,s.heap.get? b=some o->h'.get? b=some o)->Q (.int m t) { s with heap:=h',toks:=c }) :
  wpAny (model prog w) A (call (.builtin "max") [.ref l]) Q E s:=by
 have a:l < s.heap.objs.size:=by obtain ⟨_,e,_⟩:=g;exact aG1 e
 have hz:us.length=ns.length:=hi.length
 have z:0 < ns.length:=aC9.mpr d
 refine call_max_walk (aH0 g ?_)
 refine ⟨_,[s.heap.objs.size,l],_,_,_,_,_,rfl,Walks.list (A:=A.in1) hh _ l (az5 a) us.toArray,⟨⟨_,aG2 _ rfl,rfl,rfl⟩,g.push _⟩,fun b hb=>?_,by simp;omega,CmpOf.ints_gt (val ns) (fun i v=>adb hi i v),fun v h' c n u=>?_⟩
 ·show b < (s.heap.push _).objs.size
  rw [aG7]
  rcases ay8.mp hb with rfl | hb
  ·exact aF6 _
  ·rcases ay8.mp hb with rfl | hb
   ·exact aC8 a
   ·cases hb
 ·obtain ⟨t,e⟩:=adb hi _ _ n
  obtain ⟨p,j⟩:=ah7 (val ns) (us.toArray.size - 1)
  have f:us.toArray.size=ns.length:=by simp [hz]
  rw [f] at p j
  subst e
  refine h _ t h' c (af4 (by rw [f];omega)) (fun x r=>?_) fun b o e=>?_
  ·obtain ⟨i,q,e⟩:=aha r
   have:=j i (by omega)
   rw [e] at this
   rw [f]
   exact this
  ·refine u b o (fun hm=>?_) (aG0 _ e)
   rcases ay8.mp hm with y | hm
   ·exact absurd (y ▸ aG1 e) (aD4 _)
   ·cases hm
theorem min_list {l:Addr} {us:List Value} {ns:List Int} {Q:Value->Shared->Prop} (hh:A.handled=none) (g:s.heap.IsList l us.toArray) (hi:IntsAre us ns) (d:ns ≠ [])
  (h:∀ m t h' c,m∈ns->(∀ x∈ns,m<=x)->(∀ b o,s.heap.get? b=some o->h'.get? b=some o)->Q (.int m t) { s with heap:=h',toks:=c }) :
  wpAny (model prog w) A (call (.builtin "min") [.ref l]) Q E s:=by
 have a:l < s.heap.objs.size:=by obtain ⟨_,e,_⟩:=g;exact aG1 e
 have hz:us.length=ns.length:=hi.length
 have z:0 < ns.length:=aC9.mpr d
 refine call_min_walk (aH0 g ?_)
 refine ⟨_,[s.heap.objs.size,l],_,_,_,_,_,rfl,Walks.list (A:=A.in1) hh _ l (az5 a) us.toArray,⟨⟨_,aG2 _ rfl,rfl,rfl⟩,g.push _⟩,fun b hb=>?_,by simp;omega,CmpOf.ints_lt (val ns) (fun i v=>adb hi i v),fun v h' c n u=>?_⟩
 ·show b < (s.heap.push _).objs.size
  rw [aG7]
  rcases ay8.mp hb with rfl | hb
  ·exact aF6 _
  ·rcases ay8.mp hb with rfl | hb
   ·exact aC8 a
   ·cases hb
 ·obtain ⟨t,e⟩:=adb hi _ _ n
  obtain ⟨p,j⟩:=ah8 (val ns) (us.toArray.size - 1)
  have f:us.toArray.size=ns.length:=by simp [hz]
  rw [f] at p j
  subst e
  refine h _ t h' c (af4 (by rw [f];omega)) (fun x r=>?_) fun b o e=>?_
  ·obtain ⟨i,q,e⟩:=aha r
   have:=j i (by omega)
   rw [e] at this
   rw [f]
   exact this
  ·refine u b o (fun hm=>?_) (aG0 _ e)
   rcases ay8.mp hm with y | hm
   ·exact absurd (y ▸ aG1 e) (aD4 _)
   ·cases hm
theorem max_tup {l:Addr} {us:List Value} {ns:List Int} {Q:Value->Shared->Prop} (hh:A.handled=none) (j:s.heap.IsTuple l us.toArray) (hi:IntsAre us ns) (f:ns ≠ [])
  (h:∀ m t h' c,m∈ns->(∀ x∈ns,x<=m)->(∀ b o,s.heap.get? b=some o->h'.get? b=some o)->Q (.int m t) { s with heap:=h',toks:=c }) :
  wpAny (model prog w) A.in1 (pyIter (.ref l)) (fun it a=>∃ I fp q n P St r,it=.ref I/\Walks prog w A.in1 I fp q n P St/\St 0 a.heap/\(∀ b∈fp,b < a.heap.objs.size)/\0 < n/\CmpOf prog w A.in1 .Gt P r /\
   ∀ v h' c,P (argBest r (n - 1)) v->(∀ b o,b ∉ q->a.heap.get? b=some o->h'.get? b=some o)->Q v { a with heap:=h',toks:=c }) E s:=by
 have d:l < s.heap.objs.size:=by obtain ⟨_,e,_⟩:=j;exact aG1 e
 have hz:us.length=ns.length:=hi.length
 have F:0 < ns.length:=aC9.mpr f
 refine wpAny_pyIter_tuple j ?_
 refine ⟨_,[s.heap.objs.size,l],[_],_,_,_,_,rfl,Walks.tuple (A:=A.in1) hh _ l (az5 d) us.toArray,⟨⟨_,aG2 _ rfl,rfl,rfl⟩,j.push _⟩,fun b hb=>?_,by simp;omega,CmpOf.ints_gt (val ns) (fun i v=>adb hi i v),fun v h' c u B=>?_⟩
 ·show b < (s.heap.push _).objs.size
  rw [aG7]
  rcases ay8.mp hb with rfl | hb
  ·exact aF6 _
  ·rcases ay8.mp hb with rfl | hb
   ·exact aC8 d
   ·cases hb
 ·obtain ⟨t,e⟩:=adb hi _ _ u
  obtain ⟨y,p⟩:=ah7 (val ns) (us.toArray.size - 1)
  have g:us.toArray.size=ns.length:=by simp [hz]
  rw [g] at y p
  subst e
  refine h _ t h' c (af4 (by rw [g];omega)) (fun x z=>?_) fun b o e=>?_
  ·obtain ⟨i,C,e⟩:=aha z
   have:=p i (by omega)
   rw [e] at this
   rw [g]
   exact this
  ·refine B b o (fun hm=>?_) (aG0 _ e)
   rcases ay8.mp hm with D | hm
   ·exact absurd (D ▸ aG1 e) (aD4 _)
   ·cases hm
theorem min_tup {l:Addr} {us:List Value} {ns:List Int} {Q:Value->Shared->Prop} (hh:A.handled=none) (j:s.heap.IsTuple l us.toArray) (hi:IntsAre us ns) (f:ns ≠ [])
  (h:∀ m t h' c,m∈ns->(∀ x∈ns,m<=x)->(∀ b o,s.heap.get? b=some o->h'.get? b=some o)->Q (.int m t) { s with heap:=h',toks:=c }) :
  wpAny (model prog w) A.in1 (pyIter (.ref l)) (fun it a=>∃ I fp q n P St r,it=.ref I/\Walks prog w A.in1 I fp q n P St/\St 0 a.heap/\(∀ b∈fp,b < a.heap.objs.size)/\0 < n/\CmpOf prog w A.in1 .Lt P r /\
   ∀ v h' c,P (argBest r (n - 1)) v->(∀ b o,b ∉ q->a.heap.get? b=some o->h'.get? b=some o)->Q v { a with heap:=h',toks:=c }) E s:=by
 have d:l < s.heap.objs.size:=by obtain ⟨_,e,_⟩:=j;exact aG1 e
 have hz:us.length=ns.length:=hi.length
 have F:0 < ns.length:=aC9.mpr f
 refine wpAny_pyIter_tuple j ?_
 refine ⟨_,[s.heap.objs.size,l],[_],_,_,_,_,rfl,Walks.tuple (A:=A.in1) hh _ l (az5 d) us.toArray,⟨⟨_,aG2 _ rfl,rfl,rfl⟩,j.push _⟩,fun b hb=>?_,by simp;omega,CmpOf.ints_lt (val ns) (fun i v=>adb hi i v),fun v h' c u B=>?_⟩
 ·show b < (s.heap.push _).objs.size
  rw [aG7]
  rcases ay8.mp hb with rfl | hb
  ·exact aF6 _
  ·rcases ay8.mp hb with rfl | hb
   ·exact aC8 d
   ·cases hb
 ·obtain ⟨t,e⟩:=adb hi _ _ u
  obtain ⟨y,p⟩:=ah8 (val ns) (us.toArray.size - 1)
  have g:us.toArray.size=ns.length:=by simp [hz]
  rw [g] at y p
  subst e
  refine h _ t h' c (af4 (by rw [g];omega)) (fun x z=>?_) fun b o e=>?_
  ·obtain ⟨i,C,e⟩:=aha z
   have:=p i (by omega)
   rw [e] at this
   rw [g]
   exact this
  ·refine B b o (fun hm=>?_) (aG0 _ e)
   rcases ay8.mp hm with D | hm
   ·exact absurd (D ▸ aG1 e) (aD4 _)
   ·cases hm
end
end HT
namespace L2
open PySem PySem.Spec PyProof.Rows
section
variable {X:Cx}
def an4 (ns:List Int) (m:Int):Prop:=m∈ns/\∀ x∈ns,x<=m
def aj0 (ns:List Int) (m:Int):Prop:=m∈ns/\∀ x∈ns,m<=x
def aj1 (K:Frag):List V->Hp->VK->Prop:=fun xs H Q=>∃ (a:Addr) (ns:List Int),xs=[.ref a]/\(SqL K H a (ns.map V.int)\/SqT K H a (ns.map V.int))/\ns ≠ []/\∀ m,an4 ns m->Q (.int m) H
def ahb (K:Frag):List V->Hp->VK->Prop:=fun xs H Q=>∃ (a:Addr) (ns:List Int),xs=[.ref a]/\(SqL K H a (ns.map V.int)\/SqT K H a (ns.map V.int))/\ns ≠ []/\∀ m,aj0 ns m->Q (.int m) H
theorem apc (j:X.calm=true):abc X (.builtin "max") (aj1 X.K):=by
 intro pins s σ H xs us Q I r h
 obtain ⟨a,ns,rfl,ha,b,q⟩:=h
 obtain ⟨u,rfl,n⟩:=acz r
 cases n
 rcases ha with ha | ha
 ·obtain ⟨its,g,i,_⟩:=I.list ha
  have d:IntsAre its.toArray.toList ns:=abp g
  exact HT.max_list (I.ok.hd j) i.isList (by simpa using d) b fun m t h' l f c kp=>⟨.int m,H,I.kept kp,⟨_,rfl⟩,q m ⟨f,c⟩⟩
 ·obtain ⟨its,g,i,_⟩:=I.tuple ha
  have d:IntsAre its.toArray.toList ns:=abp g
  refine call_max_walk (HT.max_tup (I.ok.hd j) i (by simpa using d) b fun m t h' l f c kp=>⟨.int m,H,I.kept kp,⟨_,rfl⟩,q m ⟨f,c⟩⟩)
theorem aiy (j:X.calm=true):abc X (.builtin "min") (ahb X.K):=by
 intro pins s σ H xs us Q I r h
 obtain ⟨a,ns,rfl,ha,b,q⟩:=h
 obtain ⟨u,rfl,n⟩:=acz r
 cases n
 rcases ha with ha | ha
 ·obtain ⟨its,g,i,_⟩:=I.list ha
  have d:IntsAre its.toArray.toList ns:=abp g
  exact HT.min_list (I.ok.hd j) i.isList (by simpa using d) b fun m t h' l f c kp=>⟨.int m,H,I.kept kp,⟨_,rfl⟩,q m ⟨f,c⟩⟩
 ·obtain ⟨its,g,i,_⟩:=I.tuple ha
  have d:IntsAre its.toArray.toList ns:=abp g
  refine call_min_walk (HT.min_tup (I.ok.hd j) i (by simpa using d) b fun m t h' l f c kp=>⟨.int m,H,I.kept kp,⟨_,rfl⟩,q m ⟨f,c⟩⟩)
end
def tTru (K:Frag) (ta:TE):TT:=fun σ H Q=>ta σ H fun x H'=>∃ k,TruV K x H' k/\Q k H'
def rIsN:R2:=fun x y H Q=>y=.non/\Q (.bl (decide (x=.non))) H
def asc:R2:=fun x y H Q=>y=.non/\Q (.bl (!decide (x=.non))) H
section
variable {X:Cx} {a:Expr} {ta:TE}
theorem av2 (ha:PE X a ta) (b:∀ whole,isTrue a X.env whole=(do let v ← whole;standAt a.pos;holding [v] (truthy v)):=by intro _;rfl):PT X a (tTru X.K ta):=ap7 ha b
def abv (K:Frag):R2:=fun x y H Q=>rIxL K x y H Q\/rIxT K x y H Q
theorem aam:IxR X (abv X.K):=ix_list.or avf
theorem atd {i j n:Int} {f b:Nat} {c p2 a:Pos} (h:i ^ j.toNat=n) (d:CPow i j):PE X (.BinOp (.Constant (.int i) f c) .Pow (.Constant (.int j) b p2) a) (tC (.int n)):=by
 intro pins s σ H Q I q
 subst h
 exact aau ava aad aad pins s σ H Q I ⟨i,j,rfl,rfl,d,q⟩
theorem ac8:OpR X (compareOp .Is) rIsN:=avb
theorem aky:OpR X (compareOp .IsNot) asc:=asn
end
section
variable {σ:St} {H:Hp} {D:Ends} {K:Frag}
theorem ae3 {a:Addr} {xs:List V} {i:Int} {v:V} {Q:VK} (ha:H a=some (.lst xs)) (b:atI xs i=some v) (h:Q v H):abv K (.ref a) (.int i) H Q:=.inl (avt ha b h)
theorem aqo {a:Addr} {xs:List V} {i:Int} {v:V} {Q:VK} (ha:H a=some (.tup xs)) (b:atI xs i=some v) (h:Q v H):abv K (.ref a) (.int i) H Q:=.inr (avu ha b h)
theorem aqp {a:Addr} {xs:List V} {i:Int} {v:V} {Q:VK} (ha:SqL K H a xs) (b:atI xs i=some v) (h:Q v H):abv K (.ref a) (.int i) H Q:=.inl (avy ha b h)
theorem ab6 {A B:Prop} (h:A):if true=true then A else B:=by rw [aC5 rfl];exact h
theorem acg {A B:Prop} (h:B):if false=true then A else B:=by rw [aC6 ay9];exact h
theorem ah9 {A B:Prop} (h:B):if (!true)=true then A else B:=by rw [aC6 (by decide)];exact h
theorem aia {A B:Prop} (h:A):if (!false)=true then A else B:=by rw [aC5 (by decide)];exact h
theorem aqq {c:Prop} [Decidable c] {A B:Prop} (a:c) (h:B):if (!decide c)=true then A else B:=by rw [aB5 a];exact ah9 h
theorem aqr {c:Prop} [Decidable c] {A B:Prop} (a:¬ c) (h:A):if (!decide c)=true then A else B:=by rw [aB4 a];exact aia h
theorem ags {K:Frag}:kitOne K (.type "NoneType") (.type "int")=some false:=by first | rfl | decide
theorem agd {K:Frag}:kitOne K (.type "NoneType") (.type "bool")=some false:=by first | rfl | decide
theorem afq {K:Frag}:kitOne K (.type "NoneType") (.type "tuple")=some false:=by first | rfl | decide
theorem age {K:Frag}:kitOne K (.type "NoneType") (.type "list")=some false:=by first | rfl | decide
theorem agt {K:Frag}:kitOne K (.type "NoneType") (.type "str")=some false:=by first | rfl | decide
theorem agf {K:Frag}:kitOne K (.type "NoneType") (.type "dict")=some false:=by first | rfl | decide
theorem akz {K:Frag}:kitOne K (.type "bool") (.type "int")=some true:=by first | rfl | decide
theorem ajg {K:Frag}:kitOne K (.type "bool") (.type "bool")=some true:=by first | rfl | decide
theorem aib {K:Frag}:kitOne K (.type "bool") (.type "tuple")=some false:=by first | rfl | decide
theorem ajh {K:Frag}:kitOne K (.type "bool") (.type "list")=some false:=by first | rfl | decide
theorem ak0 {K:Frag}:kitOne K (.type "bool") (.type "str")=some false:=by first | rfl | decide
theorem aji {K:Frag}:kitOne K (.type "bool") (.type "dict")=some false:=by first | rfl | decide
theorem al5 {K:Frag}:kitOne K (.type "int") (.type "int")=some true:=by first | rfl | decide
theorem ak1 {K:Frag}:kitOne K (.type "int") (.type "bool")=some false:=by first | rfl | decide
theorem ajj {K:Frag}:kitOne K (.type "int") (.type "tuple")=some false:=by first | rfl | decide
theorem ak2 {K:Frag}:kitOne K (.type "int") (.type "list")=some false:=by first | rfl | decide
theorem al6 {K:Frag}:kitOne K (.type "int") (.type "str")=some false:=by first | rfl | decide
theorem ak3 {K:Frag}:kitOne K (.type "int") (.type "dict")=some false:=by first | rfl | decide
theorem al7 {K:Frag}:kitOne K (.type "str") (.type "int")=some false:=by first | rfl | decide
theorem ak4 {K:Frag}:kitOne K (.type "str") (.type "bool")=some false:=by first | rfl | decide
theorem ajk {K:Frag}:kitOne K (.type "str") (.type "tuple")=some false:=by first | rfl | decide
theorem ak5 {K:Frag}:kitOne K (.type "str") (.type "list")=some false:=by first | rfl | decide
theorem al8 {K:Frag}:kitOne K (.type "str") (.type "str")=some true:=by first | rfl | decide
theorem ak6 {K:Frag}:kitOne K (.type "str") (.type "dict")=some false:=by first | rfl | decide
theorem ak7 {K:Frag}:kitOne K (.type "list") (.type "int")=some false:=by first | rfl | decide
theorem ajl {K:Frag}:kitOne K (.type "list") (.type "bool")=some false:=by first | rfl | decide
theorem aic {K:Frag}:kitOne K (.type "list") (.type "tuple")=some false:=by first | rfl | decide
theorem ajm {K:Frag}:kitOne K (.type "list") (.type "list")=some true:=by first | rfl | decide
theorem ak8 {K:Frag}:kitOne K (.type "list") (.type "str")=some false:=by first | rfl | decide
theorem ajn {K:Frag}:kitOne K (.type "list") (.type "dict")=some false:=by first | rfl | decide
theorem ajo {K:Frag}:kitOne K (.type "tuple") (.type "int")=some false:=by first | rfl | decide
theorem aid {K:Frag}:kitOne K (.type "tuple") (.type "bool")=some false:=by first | rfl | decide
theorem ahc {K:Frag}:kitOne K (.type "tuple") (.type "tuple")=some true:=by first | rfl | decide
theorem aie {K:Frag}:kitOne K (.type "tuple") (.type "list")=some false:=by first | rfl | decide
theorem ajp {K:Frag}:kitOne K (.type "tuple") (.type "str")=some false:=by first | rfl | decide
theorem aif {K:Frag}:kitOne K (.type "tuple") (.type "dict")=some false:=by first | rfl | decide
theorem ak9 {K:Frag}:kitOne K (.type "dict") (.type "int")=some false:=by first | rfl | decide
theorem ajq {K:Frag}:kitOne K (.type "dict") (.type "bool")=some false:=by first | rfl | decide
theorem aig {K:Frag}:kitOne K (.type "dict") (.type "tuple")=some false:=by first | rfl | decide
theorem ajr {K:Frag}:kitOne K (.type "dict") (.type "list")=some false:=by first | rfl | decide
theorem ala {K:Frag}:kitOne K (.type "dict") (.type "str")=some false:=by first | rfl | decide
theorem ajs {K:Frag}:kitOne K (.type "dict") (.type "dict")=some true:=by first | rfl | decide
end
end L2
namespace L2
open PySem
section
variable {σ:St} {H:Hp} {K:Frag}
theorem acp {p:Addr} {o:HO} (a:H p=none):Same H (upd H p o):=fun b u e=>by rw [aag (aa0 e a)];exact e
theorem Same.new {H H':Hp} {q:Addr} {o:HO} (s:Same H H') (h:H' q=none):Same H (upd H' q o):=fun b u e=>by
 have:=s b u e
 rw [aag (aa0 this h)];exact this
theorem Same.set {H H':Hp} {q:Addr} {o:HO} (s:Same H H') (h:H q=none):Same H (upd H' q o):=fun b u e=>by
 have:=s b u e
 rw [aag (aa0 e h)];exact this
theorem Same.at {H H':Hp} {b:Addr} {o:HO} (s:Same H H') (h:H b=some o):H' b=some o:=s b o h
end
section
variable {σ:St} {H:Hp} {K:Frag}
abbrev NewL (Q:VK):List V->Hp->Prop:=fun xs H1=>xs.length<=sizeLine/\∀ p,H1 p=none->Q (.ref p) (upd H1 p (.lst xs))
theorem ate {t:TA} {Q:VK} (h:t σ H (NewL Q)):tLst t σ H Q:=h
end
end L2
namespace Gr
inductive Walk (T:Int->Int->Prop) (u:Int):Nat->Int->Prop
 | refl:Walk T u 0 u
 | step {k:Nat} {v w:Int}:Walk T u k v->T v w->Walk T u (k+1) w
def Dist (T:Int->Int->Prop) (u v:Int) (d:Nat):Prop:=Walk T u d v/\∀ k,Walk T u k v->d<=k
theorem Dist.uniq {T:Int->Int->Prop} {u v:Int} {d e:Nat} (h:Dist T u v d) (g:Dist T u v e):d=e:=Nat.le_antisymm (h.2 _ g.1) (g.2 _ h.1)
theorem Dist.self (T:Int->Int->Prop) (u:Int):Dist T u u 0:=⟨.refl,fun _ _=>aD0 _⟩
theorem Dist.of_walk {T:Int->Int->Prop} {u v:Int} {k:Nat} (h:Walk T u k v):∃ d,d<=k/\Dist T u v d:=by
 induction k using Nat.strongRecOn with
 | ind k ih =>
  by_cases hx:∃ j,j < k/\Walk T u j v
  ·obtain ⟨j,a,w⟩:=hx
   obtain ⟨d,hd,e⟩:=ih j a w
   exact ⟨d,by omega,e⟩
  ·refine ⟨k,ay6 _,h,fun j w=>?_⟩
   by_cases a:j < k
   ·exact absurd ⟨j,a,w⟩ hx
   ·omega
theorem Dist.pred {T:Int->Int->Prop} {u w:Int} {d:Nat} (h:Dist T u w (d+1)):∃ v,T v w/\Dist T u v d:=by
 obtain ⟨b,hm⟩:=h
 cases b with
 | step hv ht =>
  rename_i v
  refine ⟨v,ht,hv,fun k a=>?_⟩
  have:=hm (k+1) (.step a ht)
  omega
theorem Dist.next {T:Int->Int->Prop} {u v w:Int} {d:Nat} (h:Dist T u v d) (t:T v w):∃ e,e<=d+1/\Dist T u w e:=Dist.of_walk (.step h.1 t)
structure Bfs (T:Int->Int->Prop) (a:Int) (line:List Int) (ds:List Nat) (at_:Nat):Prop where
 len:ds.length=line.length
 fst:line[0]?=some a
 nd:line.Nodup
 le:at_<=line.length
 dist:∀ (i:Nat) v d,line[i]?=some v->ds[i]?=some d->Dist T a v d
 mono:∀ (i j:Nat) d e,i<=j->ds[i]?=some d->ds[j]?=some e->d<=e
 near:∀ (i j:Nat) d e,at_<=i->ds[i]?=some d->ds[j]?=some e->e<=d+1
 done:∀ (i:Nat) v w,i < at_->line[i]?=some v->T v w->w∈line
theorem Bfs.start (T:Int->Int->Prop) (a:Int):Bfs T a [a] [0] 0:=by
 refine ⟨rfl,rfl,by simp,aD0 _,fun i v d c b=>?_,fun i j d e h c b=>?_,fun i j d e h c b=>?_,fun i v w h=>absurd h (by omega)⟩
 ·match i,c,b with
  | 0,c,b=>simp at c b;subst c b;exact Dist.self T a
  | i+1,c,_=>simp at c
 ·match j,b with
  | 0,b =>
   have:i=0:=by omega
   subst this
   rw [c] at b;cases b;exact ay6 _
  | j+1,b=>simp at b
 ·match i,j,c,b with
  | 0,0,c,b=>rw [c] at b;cases b;omega
  | i+1,_,c,_=>simp at c
  | 0,j+1,_,b=>simp at b
theorem Bfs.all {T:Int->Int->Prop} {a:Int} {line:List Int} {ds:List Nat} {at_:Nat} {d:Nat} (b:Bfs T a line ds at_) (hd:ds[at_]?=some d) :
  ∀ k w,k<=d->Dist T a w k->w∈line:=by
 intro k
 induction k with
 | zero =>
  intro w _ h
  have:w=a:=by
   cases h.1;rfl
  subst this
  exact ay2 b.fst
 | succ k ih =>
  intro w o h
  obtain ⟨v,l,f⟩:=h.pred
  have m:=ih v (by omega) f
  obtain ⟨i,hi,e⟩:=aE6.mp m
  have j:line[i]?=some v:=by rw [ay0 hi,e]
  have c:i < ds.length:=by rw [b.len];exact hi
  have g:ds[i]?=some ds[i]:=ay0 c
  have n:=(b.dist i v _ j g).uniq f
  by_cases hlt:i < at_
  ·exact b.done i v w hlt j l
  ·have:=b.mono at_ i d _ (by omega) hd g
   omega
theorem Bfs.add {T:Int->Int->Prop} {a:Int} {line:List Int} {ds:List Nat} {at_:Nat} {p w:Int} {d:Nat} (b:Bfs T a line ds at_) (o:line[at_]?=some p) (hd:ds[at_]?=some d) (t:T p w) (r:w ∉ line) :
  Bfs T a (line ++ [w]) (ds ++ [d+1]) at_:=by
 have B:at_ < line.length:=(ay1.mp o).1
 have C:Dist T a w (d+1):=by
  obtain ⟨e,D,h⟩:=(b.dist _ _ _ o hd).next t
  by_cases f:e<=d
  ·exact absurd (b.all hd e w f h) r
  ·have:e=d+1:=by omega
   rw [← this];exact h
 have g:∀ (j:Nat) e,(ds ++ [d+1])[j]?=some e->(ds[j]?=some e)\/(j=ds.length/\e=d+1):=by
  intro j e h
  rw [List.getElem?_append] at h
  split at h
  ·exact .inl h
  ·rename_i hj
   right
   have:j - ds.length=0:=by
    match hz:j - ds.length,h with
    | 0,_=>rfl
    | k+1,h=>simp at h
   rw [this] at h
   simp at h
   exact ⟨by omega,h.symm⟩
 refine ⟨by simp [b.len],?_,?_,by simp;omega,fun i v e c f=>?_,fun i j x y h c f=>?_,fun i j x y h c f=>?_,fun i v u h c s=>?_⟩
 ·rw [aA2 (by omega)];exact b.fst
 ·rw [List.nodup_append]
  exact ⟨b.nd,by simp,fun x A y n=>by simp at n;subst n;intro e;subst e;exact r A⟩
 ·rcases g _ _ f with f | ⟨q,l⟩
  ·have hi:i < ds.length:=(ay1.mp f).1
   rw [aA2 (by rw [← b.len];exact hi)] at c
   exact b.dist i v e c f
  ·subst l
   rw [aA7 (by rw [← b.len];omega)] at c
   have:i - line.length=0:=by rw [← b.len];omega
   rw [this] at c
   simp at c;subst c
   exact C
 ·rcases g _ _ c with c | ⟨q,l⟩
  ·rcases g _ _ f with f | ⟨m,l⟩
   ·exact b.mono i j x y h c f
   ·subst l
    by_cases hia:at_<=i
    ·exact b.near at_ i d x (ay6 _) hd c
    ·have:=b.mono i at_ x d (by omega) c hd;omega
  ·rcases g _ _ f with f | ⟨m,z⟩
   ·have:=(ay1.mp f).1;omega
   ·omega
 ·rcases g _ _ c with c | ⟨q,l⟩
  ·rcases g _ _ f with f | ⟨m,l⟩
   ·exact b.near i j x y h c f
   ·subst l
    have:=b.mono at_ i d x h hd c;omega
  ·subst l
   rcases g _ _ f with f | ⟨m,l⟩
   ·have:=b.near at_ j d y (ay6 _) hd f;omega
   ·omega
 ·rw [aA2 (by omega)] at c
  exact aA6 _ (b.done i v u h c s)
theorem Bfs.next {T:Int->Int->Prop} {a:Int} {line:List Int} {ds:List Nat} {at_:Nat} {p:Int} (b:Bfs T a line ds at_) (g:line[at_]?=some p) (h:∀ w,T p w->w∈line):Bfs T a line ds (at_+1):=by
 have f:at_ < line.length:=(ay1.mp g).1
 refine ⟨b.len,b.fst,b.nd,f,b.dist,b.mono,fun i j d e hi=>b.near i j d e (by omega),fun i v w hi c t=>?_⟩
 by_cases e:i=at_
 ·subst e
  rw [g] at c;cases c
  exact h w t
 ·exact b.done i v w (by omega) c t
theorem Bfs.fin {T:Int->Int->Prop} {a:Int} {line:List Int} {ds:List Nat} (b:Bfs T a line ds line.length):∀ k w,Walk T a k w->w∈line:=by
 intro k w h
 induction h with
 | refl=>exact ay2 b.fst
 | step _ t ih =>
  obtain ⟨i,hi,e⟩:=aE6.mp ih
  exact b.done i _ _ hi (by rw [ay0 hi,e]) t
end Gr
namespace L2
open PySem PySem.Spec PyProof.Rows
section
variable {σ:St} {H:Hp} {D:Ends} {K:Frag}
end
theorem few_places:∀ (n:Nat) (l:List Int),l.Nodup->(∀ v∈l,0<=v/\v < (n:Int))->l.length<=n
 | 0,l,_,h=>by
  cases l with
  | nil=>simp
  | cons v r=>have:=h v (by simp);omega
 | n+1,l,hn,h=>by
  have d:=few_places n (l.erase (n:Int)) (hn.erase _) fun v a=>by
   have hm:=List.mem_of_mem_erase a
   have hb:=h v hm
   have b:v ≠ (n:Int):=by
    rintro rfl
    exact absurd a (List.Nodup.not_mem_erase hn)
   omega
  have c:l.length<=(l.erase (n:Int)).length+1:=by
   rw [List.length_erase]
   split <;> omega
  omega
end L2
namespace L2
open PySem
end L2
namespace HT
open PySem PyProof.Rows
theorem ahd (ns:List Int):∀ k,k<=ns.length->preSum (val ns) k=(ns.take k).sum
 | 0,_=>by simp [preSum]
 | k+1,h=>by
  have a:=ahd ns k (by omega)
  have e:ns.take (k+1)=ns.take k ++ [ns[k]]:=by rw [aE4,ay0 (by omega)];rfl
  rw [e,List.sum_append]
  unfold preSum
  rw [a]
  unfold val
  rw [ay0 (by omega)]
  simp
section
variable {prog:Program} {w:World} {A:Around} {E:Value->Shared->Prop} {s:Shared}
theorem sum_list {l:Addr} {us:List Value} {ns:List Int} {Q:Value->Shared->Prop} (hh:A.handled=none) (d:s.heap.IsList l us.toArray) (hi:IntsAre us ns)
  (h:∀ t h' c,(∀ b o,s.heap.get? b=some o->h'.get? b=some o)->Q (.int ns.sum t) { s with heap:=h',toks:=c }) :
  wpAny (model prog w) A (call (.builtin "sum") [.ref l]) Q E s:=by
 have a:l < s.heap.objs.size:=by obtain ⟨_,e,_⟩:=d;exact aG1 e
 have hz:us.length=ns.length:=hi.length
 refine call_sum_walkG (aH0 d ?_)
 refine ⟨_,[s.heap.objs.size,l],_,_,_,_,val ns,rfl,Walks.list (A:=A.in1) hh _ l (az5 a) us.toArray,⟨⟨_,aG2 _ rfl,rfl,rfl⟩,d.push _⟩,fun b hb=>?_,fun i v=>adb hi i v,fun h' c t' g=>?_⟩
 ·show b < (s.heap.push _).objs.size
  rw [aG7]
  rcases ay8.mp hb with rfl | hb
  ·exact aF6 _
  ·rcases ay8.mp hb with rfl | hb
   ·exact aC8 a
   ·cases hb
 ·have f:us.toArray.size=ns.length:=by simp [hz]
  rw [f,ahd ns _ (ay6 _),aD8]
  refine h t' h' c fun b o e=>?_
  refine g b o (fun hm=>?_) (aG0 _ e)
  rcases ay8.mp hm with j | hm
  ·exact absurd (j ▸ aG1 e) (aD4 _)
  ·cases hm
end
end HT
namespace L2
open PySem PySem.Spec PyProof.Rows
section
variable {X:Cx}
def an5 (K:Frag):List V->Hp->VK->Prop:=fun xs H Q=>∃ (a:Addr) (ns:List Int),xs=[.ref a]/\SqL K H a (ns.map V.int)/\Q (.int ns.sum) H
theorem aiz (c:X.calm=true):abc X (.builtin "sum") (an5 X.K):=by
 intro pins s σ H xs us Q I r h
 obtain ⟨a,ns,rfl,ha,q⟩:=h
 obtain ⟨u,rfl,f⟩:=acz r
 cases f
 obtain ⟨its,d,g,_⟩:=I.list ha
 have b:IntsAre its.toArray.toList ns:=abp d
 exact HT.sum_list (I.ok.hd c) g.isList (by simpa using b) fun t h' i kp=>⟨.int _,H,I.kept kp,⟨_,rfl⟩,q⟩
end
section
variable {X:Cx} {pins:List (Addr × Obj)} {σ:St} {H:Hp} {s:Shared} {A:Around} {E:Value->Shared->Prop} {Q:Value->Shared->Prop} {b:Bool}
end
section
variable {X:Cx}
end
end L2
namespace HT
open PySem PyProof.Rows L2
def LtAt (A:Around) (s:Shared) (y x:Value) (b:Bool):Prop :=
 ∀ (prog:Program) (w:World) (E:Value->Shared->Prop) (Q:Value->Shared->Prop),Q (.bool b) s->wpAny (model prog w) A (richCompare .Lt y x) Q E s
section
open PySem.SeqAt
open PySem.AutoSeq1 (wpAny_loadPart')
open PySem.MeetsSeq PySem.MeetsSeq2 PySem.MeetsSeq3
inductive Its (A:Around) (s:Shared):List Value->List Value->Bool->Prop
 | nn:Its A s [] [] false
 | nc {x:Value} {ys:List Value}:Its A s [] (x :: ys) true
 | cn {x:Value} {xs:List Value}:Its A s (x :: xs) [] false
 | eq {x y:Value} {xs ys:List Value} {b:Bool}:EqAt A s x y true->Its A s xs ys b->Its A s (x :: xs) (y :: ys) b
 | ne {x y:Value} {xs ys:List Value} {b:Bool}:EqAt A s x y false->LtAt A s x y b->Its A s (x :: xs) (y :: ys) b
theorem alb (l b:Addr) (c a:Array Value) (n F:Nat) (dd q:Option Addr) (sl B:Array (Option Value)) (r:Bool) :
  Meets (Builtin.«tuple.__lt__» ⟨[.ref l,.ref b],[]⟩)
   (fun A R s=>s.heap.get? l=some { cls:=.type "tuple",dict:=dd,data:=.seq c n,slots:=sl }/\s.heap.get? b=some { cls:=.type "tuple",dict:=q,data:=.seq a F,slots:=B } /\
    Its A.in1 s c.toList a.toList r/\R (.ok (.ret (.bool r))) s) :=
 .of_wp fun prog w A R s h=>by
  obtain ⟨D,g,d,C,os⟩:=s;obtain ⟨G,hb,hi,h⟩:=h
  have I:=AutoSeq1.sub_tuple_tuple
  wp_walk using wpAny_loadPart' G,wpAny_loadPart' hb,wpAny_forIn_list _ (fun rest b p=>b.1=none/\p=⟨D,g,d,C,os⟩/\∃ (vs ws:List Value),rest=vs.zip ws /\
   vs.length+a.size=ws.length+c.size/\Its A.in1 ⟨D,g,d,C,os⟩ vs ws r) _
  case turn =>
   rintro ⟨y,x⟩ rest b p ⟨j,rfl,vs,ws,hz,f,v⟩
   cases v with
   | nn=>cases hz
   | nc=>cases hz
   | cn=>cases hz
   | eq he hI' =>
    rw [List.zip_cons_cons] at hz
    injection hz with m i
    injection m with o u
    subst o u
    simp only [aB9] at f
    refine aF8 (he prog w _ _ ?_)
    wp_walk
    exact ⟨rfl,rfl,_,_,i,by omega,hI'⟩
   | ne he hlt =>
    rw [List.zip_cons_cons] at hz
    injection hz with m i
    injection m with o u
    subst o u
    refine aF8 (he prog w _ _ ?_)
    have z:=hlt prog w
    wp_walk using z
    exact ⟨_,rfl,by simpa using h⟩
  case fin =>
   rintro ⟨J,H⟩ p ⟨j,rfl,vs,ws,hz,f,v⟩
   simp only at j
   subst j
   have E:r=decide (c.size < a.size):=by
    cases v with
    | nn =>
     simp only [aF7] at f
     exact (aB4 (by omega)).symm
    | nc =>
     simp only [aF7,aB9] at f
     exact (aB5 (by omega)).symm
    | cn =>
     simp only [aF7,aB9] at f
     exact (aB4 (by omega)).symm
    | eq=>cases hz
    | ne=>cases hz
   rw [E] at h
   wp_walk
   exact ⟨_,rfl,by simpa [Builtin.Tuple.tupleCompareSizes] using h⟩
  case h =>
   exact ⟨rfl,rfl,c.toList,a.toList,rfl,by simp;omega,hi⟩
end
section
variable {A:Around} {s:Shared}
theorem LtAt.tup {l b:Addr} {o g:Obj} {c a:Array Value} {n u:Nat} {r:Bool} (v:s.heap.get? l=some o) (p:o.cls=.type "tuple") (hd:o.data=.seq c n) (hb:s.heap.get? b=some g) (f:g.cls=.type "tuple") (d:g.data=.seq a u)
  (y:A.units < cLine) (hi:Its A.in1 s c.toList a.toList r):LtAt A s (.ref l) (.ref b) r:=by
 intro prog w E Q q
 obtain ⟨cls,dd,data,sl⟩:=o
 obtain ⟨m,h,i,j⟩:=g
 simp only at p hd f d
 subst p hd f d
 exact richCompare_meets_room (op:=.Lt) ⟨_,v,rfl⟩ ⟨_,hb,rfl⟩ PySem.F.slot_tuple_lt PySem.F.entry_tuple_lt (PySem.F.args_tuple_lt_2 _ _) (alb l b c a n u dd h sl j r)
  ⟨v,hb,hi,show Value.bool r ≠ Value.notImplemented/\Q (.bool r) s from ⟨(fun x=>nomatch x),q⟩⟩ y
end
end HT
namespace L2
open PySem PySem.Spec PyProof.Rows
section
variable {X:Cx}
end
end L2
namespace L2
open PySem
end L2
namespace TS
open PySem PyProof.Rows HT
theorem amy:∀ x y:List Int,HT.lexLt x y=true->HT.lexLt y x=false
 | [],[],h=>by simp [HT.lexLt] at h
 | [],_ :: _,_=>rfl
 | _ :: _,[],h=>by simp [HT.lexLt] at h
 | a :: x,b :: y,h=>by
  rw [adx] at h ⊢
  by_cases e:a=b
  ·subst e
   rw [aC5 rfl] at h ⊢
   exact amy x y h
  ·rw [aC6 e] at h
   rw [aC6 (fun z=>e z.symm)]
   have:=of_decide_eq_true h
   exact aB4 (by omega)
theorem apd:∀ x y z:List Int,HT.lexLt y x=false->HT.lexLt z y=false->HT.lexLt z x=false
 | _,[],[],h,_=>h
 | [],[],_ :: _,_,_=>rfl
 | _ :: _,[],_ :: _,h,_=>by simp [HT.lexLt] at h
 | _,_ :: _,[],_,h=>by simp [HT.lexLt] at h
 | [],_ :: _,_ :: _,_,_=>rfl
 | a :: x,b :: y,c :: z,h,g=>by
  rw [adx] at h g ⊢
  by_cases e:b=a
  ·subst e
   rw [aC5 rfl] at h
   by_cases e2:c=b
   ·subst e2
    rw [aC5 rfl] at g ⊢
    exact apd x y z h g
   ·rw [aC6 e2] at g ⊢
    exact g
  ·rw [aC6 e] at h
   have h':=of_decide_eq_false h
   by_cases e2:c=b
   ·subst e2
    rw [aC6 e]
    exact h
   ·rw [aC6 e2] at g
    have g':=of_decide_eq_false g
    rw [aC6 (by omega)]
    exact aB4 (by omega)
def TI (h:Heap) (a:Addr) (ns:List Int):Prop:=∃ o xs n,h.get? a=some o/\o.cls=.type "tuple"/\o.data=.seq xs n/\IntsAre xs.toList ns
def kfV (kf:Addr->List Int):Value->List Int
 | .ref a=>kf a
 | _=>[]
section
variable {prog:Program} {w:World} {A:Around} {E:Value->Shared->Prop} {s:Shared}
theorem agk {fin:Bool} {Q:Bool->Shared->Prop}:∀ {xs ys:List Value} {ns c:List Int} (i:Nat),IntsAre xs ns->IntsAre ys c->(ns.length < c.length->fin=true)->(c.length<=ns.length->fin=false)->Q (HT.lexLt ns c) s ->
  PySem.W.KatLex prog w A true fin Q (xs.zip ys) i s
 | _,_,_,_,i,.nil,.nil,_,h2,q=>by
  rw [h2 (ay6 _)];exact q
 | _,_,_,_,i,.nil,.cons b u r,h1,_,q=>by
  rw [h1 (by simp)];exact q
 | _,_,_,_,i,.cons a t r,.nil,_,h2,q=>by
  rw [List.zip_nil_right,h2 (by simp)];exact q
 | _,_,_,_,i,.cons a t r,.cons b u r2,h1,h2,q=>by
  rw [List.zip_cons_cons]
  refine PySem.W.kat_cons (SeqAt.EqAt.int_int a t b u prog w _ _ ?_)
  rw [adx] at q
  by_cases e:a=b
  ·subst e
   rw [aC5 rfl] at q
   rw [show (a == a)=true by simp]
   exact PySem.W.kat_yes (agk (i+1) r r2 (fun z=>h1 (by simpa using z)) (fun z=>h2 (by simpa using z)) q)
  ·rw [aC6 e] at q
   rw [show (a == b)=false by simpa using e]
   refine PySem.W.kat_no ?_
   by_cases hi:i=0
   ·subst hi
    exact oneLt_int q
   ·rw [show (true && i == 0)=false by simpa using hi]
    exact PySem.W.kat_one _ _ (PyProof.Rows.lt_int q)
def tS (h:Heap) (kf:Addr->List Int) (x:Keyed):Prop:=x.1=x.2/\∃ a,x.1=.ref a/\TI h a (kf a)
def tR (kf:Addr->List Int) (x y:Keyed):Bool:=HT.lexLt (kfV kf x.1) (kfV kf y.1)
theorem cmp_tups (i:Addr->List Int):Cmp (model prog w) A E s (tuples' true) (tS s.heap i) (tR i):=by
 refine ⟨fun x y u m Q st v q=>?_,fun x y _ _=>amy _ _,fun x y z _ _ _=>apd _ _ _⟩
 obtain ⟨I,J⟩:=x
 obtain ⟨H,F⟩:=y
 obtain ⟨_,a,j,o,xs,n,B,D,l,f⟩:=u
 obtain ⟨_,b,h,o',ys,G,r,C,p,g⟩:=m
 dsimp only at j h
 subst j h
 rw [lt'_eq]
 refine wpS_bind (wpS_get ?_)
 rw [v]
 refine wpS_bind (wpS_lift (wpAny_attempt (PySem.W.kat_lt B l r p (agk 0 f g (fun z=>?_) (fun z=>?_) ⟨rfl,?_⟩))))
 ·have c:=f.length;have d:=g.length
  simp at c d
  exact aB5 (by omega)
 ·have c:=f.length;have d:=g.length
  simp at c d
  exact aB4 (by omega)
 ·exact wpS_pure q
theorem an6 {vs:List Value} {ps:List Keyed} (h:ps.Perm (vs.zip vs)):(∀ p∈ps,p.1=p.2/\p.1∈vs)/\(ps.map (·.2)).Perm vs:=by
 refine ⟨fun p b=>mem_zip_self (h.mem_iff.mp b),?_⟩
 have a:=h.map (fun p=>p.2)
 have e:(vs.zip vs).map (fun p=>p.2)=vs:=List.map_snd_zip (ay6 _)
 rwa [e] at a
theorem afa {a:Addr} {vs:List Value} {n:Nat} {P:PySem.Fin->Shared->Prop} (j:s.heap.get? a=some (seqObj "list" vs.toArray n)) (c:vs.length<=sizeLine)
  (p:2<=vs.length->∀ h',(∀ b o,b ≠ a->s.heap.get? b=some o->h'.get? b=some o)->∃ κ S R,(∀ (Q:SortKind->Shared->Prop),Q κ { s with heap:=h' }->wpAny (model prog w) A (keyKind' vs.toArray) Q E { s with heap:=h' })/\Cmp (model prog w) A E { s with heap:=h' } κ S R/\(∀ v∈vs,S (v,v)) /\
   ∀ out:List Value,out.Perm vs->out.Pairwise (fun x y=>R (y,y) (x,x)=false)->P (.done (.ret .none)) { s with heap:=sortedHeap s.heap a vs out.toArray })
  (B:vs.length < 2->P (.done (.ret .none)) { s with heap:=sortedHeap s.heap a vs vs.toArray }) :
  wpAny (model prog w) A (Builtin.«list.sort» ⟨[.ref a],[]⟩) P E s:=by
 rw [list_sort_plain]
 have ha:a < s.heap.objs.size:=aG1 j
 refine aF8 (listItems_at j rfl ?_)
 refine aF8 (listUpdate_at j rfl ?_ (by rw [az1];exact c) (aD0 _))
 obtain ⟨r,h⟩:∃ r,(s.heap.update a (Obj.mapSeq fun _ => #[])).get? a=some (seqObj "list" #[] r):=⟨_,get?_update_seq j (fun _ => #[])⟩
 refine aF8 (seqEpoch_at h rfl ?_)
 refine aF8 (wpAny_newTuple ?_ (by show vs.length<=_;exact c))
 refine aF8 (wpAny_newList ?_ (aD0 _))
 refine aG3 ?_
 have d:(((s.heap.update a (Obj.mapSeq fun _ => #[])).push (seqObj "tuple" vs.toArray 0)).push (seqObj "list" #[] 0)).get? a=some (seqObj "list" #[] r):=by
  rw [Heap.get?_push_ne _ _ _ (by rw [size_push',Heap.size_update];exact az5 (aC8 ha)),Heap.get?_push_ne _ _ _ (by rw [Heap.size_update];exact az5 ha)]
  exact h
 show wpAny (model prog w) A _ P E { s with heap:=((s.heap.update a (Obj.mapSeq fun _ => #[])).push (seqObj "tuple" vs.toArray 0)).push (seqObj "list" #[] 0) }
 dsimp only
 have hsz:vs.toArray.size=vs.length:=by simp
 have kp:∀ b o,b ≠ a->s.heap.get? b=some o->(((s.heap.update a (Obj.mapSeq fun _ => #[])).push (seqObj "tuple" vs.toArray 0)).push (seqObj "list" #[] 0)).get? b=some o:=fun b o hb e=>by
  refine aG0 _ (aG0 _ ?_)
  rw [Heap.get?_update_ne _ _ _ _ hb];exact e
 by_cases h2:vs.toArray.size < 2
 ·rw [aC5 h2,aC5 h2]
  refine aF8 (aF9 ?_)
  rw [StateT.run_pure]
  refine aF8 (aF9 ?_)
  dsimp only
  have l:(arrOf (SortSt.mk' general' (vs.toArray.zip vs.toArray) #[] 7 none)).map (·.2)=vs.toArray:=by
   show (vs.toArray.zip vs.toArray).map (·.2)=vs.toArray
   apply Array.toList_inj.mp
   rw [Array.toList_map,Array.toList_zip]
   exact List.map_snd_zip (ay6 _)
  rw [l]
  refine aF8 (seqEpoch_at d rfl ?_)
  refine aF8 (listUpdate_at d rfl ?_ (aD0 _) (by rw [az1];exact Nat.le_succ_of_le c))
  simp only [bne_self_eq_false,Bool.false_eq_true,if_false]
  exact aF9 (B (by omega))
 ·rw [aC6 h2,aC6 h2]
  obtain ⟨κ,S,R,J,C,L,i⟩:=p (by omega) _ kp
  refine aF8 (J _ ?_)
  refine aF8 (aG5 (atc C (a0:=vs.toArray.zip vs.toArray) (st:=SortSt.mk' κ (vs.toArray.zip vs.toArray) #[] 7 none) (Q:=fun _ st'=>failedOf st'=none/\(arrOf st').toList.Perm (vs.zip vs)/\Srt R (arrOf st').toList) (fun x q=>?_) rfl rfl rfl rfl fun st' F H z=>⟨F,by simpa using H,z⟩) ?_ fun _ _ e=>e)
  ·have:x∈vs.zip vs:=by simpa using q
   obtain ⟨g,f⟩:=mem_zip_self this
   obtain ⟨K,M⟩:=x
   dsimp only at g f
   subst g
   exact L _ f
  rintro ⟨⟨⟩,st'⟩ z ⟨rfl,hf,G,I⟩
  dsimp only
  obtain ⟨g,f⟩:=an6 G
  have l:(arrOf st').map (·.2)=(((arrOf st').toList.map (·.2)).toArray):=by
   apply Array.toList_inj.mp
   simp
  rw [l]
  have m:((arrOf st').toList.map (·.2)).length=vs.length:=f.length_eq
  refine aF8 (seqEpoch_at d rfl ?_)
  refine aF8 (listUpdate_at d rfl ?_ (aD0 _) (by rw [az1,m];exact Nat.le_succ_of_le c))
  rw [hf]
  simp only [bne_self_eq_false,Bool.false_eq_true,if_false]
  refine aF9 (i _ f ?_)
  rw [aD1]
  refine aF0 ?_ I
  intro x y q D N
  have ex:=(g x q).1
  have u:=(g y D).1
  obtain ⟨K,M⟩:=x
  obtain ⟨T,O⟩:=y
  dsimp only at ex u
  subst ex u
  exact N
theorem sorted_any {l:Addr} {vs:List Value} {Q:Value->Shared->Prop} (u:s.heap.IsList l vs.toArray) (a:vs.length<=sizeLine)
  (h:2<=vs.length->∀ h',(∀ b o,s.heap.get? b=some o->h'.get? b=some o)->∃ κ S R,(∀ (Q:SortKind->Shared->Prop),Q κ { s with heap:=h' }->wpAny (model prog w) A.in1.in1 (keyKind' vs.toArray) Q E { s with heap:=h' })/\Cmp (model prog w) A.in1.in1 E { s with heap:=h' } κ S R/\(∀ v∈vs,S (v,v)) /\
   ∀ out:List Value,out.Perm vs->out.Pairwise (fun x y=>R (y,y) (x,x)=false)->Q (.ref (s.heap.objs.size+1)) { s with heap:=sortedAll s.heap vs out.toArray })
  (i:vs.length < 2->Q (.ref (s.heap.objs.size+1)) { s with heap:=sortedAll s.heap vs vs.toArray }) :
  wpAny (model prog w) A (call (.builtin "sorted") [.ref l]) Q E s:=by
 refine Calls.call_function_entry kind_sorted plain_sorted entry_sorted (args_sorted1 _) ?_
 unfold Builtin.«sorted»
 refine aF8 (m:=checkCount "sorted" 1 1 _) (aF9 ?_)
 refine aF8 (collect_list u ?_ a)
 refine aF8 (wpAny_newList ?_ a)
 have hsz:((s.heap.push (seqObj "list" #[] 0)).update s.heap.objs.size (Obj.mapSeq (· ++ vs.toArray))).objs.size=s.heap.objs.size+1:=by
  rw [Heap.size_update,size_push']
 have d:(((s.heap.push (seqObj "list" #[] 0)).update s.heap.objs.size (Obj.mapSeq (· ++ vs.toArray))).push (seqObj "list" vs.toArray 0)).get? (s.heap.objs.size+1)=some (seqObj "list" vs.toArray 0):=by
  rw [← hsz];exact aG2 _ rfl
 have keep:∀ b o,s.heap.get? b=some o->(((s.heap.push (seqObj "list" #[] 0)).update s.heap.objs.size (Obj.mapSeq (· ++ vs.toArray))).push (seqObj "list" vs.toArray 0)).get? b=some o:=fun b o q=>by
  have c:b < s.heap.objs.size:=aG1 q
  rw [Heap.get?_push_ne _ _ _ (by rw [hsz];exact az5 (aC8 c)),Heap.get?_update_ne _ _ _ _ (az5 c),Heap.get?_push_ne _ _ _ (az5 c)]
  exact q
 show wpAny _ _ _ _ _ { s with heap:=((s.heap.push (seqObj "list" #[] 0)).update s.heap.objs.size (Obj.mapSeq (· ++ vs.toArray))).push (seqObj "list" vs.toArray 0) }
 rw [hsz]
 refine aF8 (aG3 (aG8 slot_list_sort ⟨_,d,rfl⟩ entry_list_sort ?body (args_list_sort _)))
 case body =>
  refine afa (s:={ s with heap:=((s.heap.push (seqObj "list" #[] 0)).update s.heap.objs.size (Obj.mapSeq (· ++ vs.toArray))).push (seqObj "list" vs.toArray 0) }) d a (fun g h' kp=>?_) fun c=>?_
  ·obtain ⟨κ,S,R,p,C,r,f⟩:=h g h' fun b o e=>kp b o (az5 (aC8 (aG1 e))) (keep b o e)
   exact ⟨κ,S,R,p,C,r,fun out n j=>⟨_,rfl,aF9 ⟨_,rfl,f out n j⟩⟩⟩
  ·exact ⟨_,rfl,aF9 ⟨_,rfl,i c⟩⟩
end
end TS
namespace L2
open PySem PySem.Spec PyProof.Rows
def toI:V->Int
 | .int i=>i
 | _=>0
def kH (H:Hp):V->List Int
 | .ref t=>match H t with
  | some (.tup xs)=>xs.map toI
  | _=>[]
 | _=>[]
theorem atf (ns:List Int):(ns.map V.int).map toI=ns:=by
 rw [aB6]
 have:(toI ∘ V.int)=id:=by funext i;rfl
 rw [this,List.map_id]
theorem aj2 {H:Hp} {t:Addr} {ns:List Int} (h:H t=some (.tup (ns.map V.int))):kH H (.ref t)=ns:=by
 simp only [kH,h];exact atf ns
def TupI (H:Hp) (v:V):Prop:=∃ t ns,v=.ref t/\H t=some (.tup (ns.map V.int))/\ns ≠ []
def adc:Value->V
 | .ref a => .ref a
 | _ => .non
theorem afr:∀ {us:List Value},(∀ u∈us,∃ a,u=.ref a)->Vals (us.map adc) us
 | [],_ => .nil
 | u :: us,h=>by
  obtain ⟨a,e⟩:=h u az7
  subst e
  exact .cons rfl (afr fun v b=>h v (az4 _ b))
theorem afs {H:Hp}:∀ {vs:List V} {us:List Value},Vals vs us->(∀ v∈vs,TupI H v)->(∀ u∈us,∃ a,u=.ref a)/\us.map adc=vs
 | _,_,.nil,_=>⟨fun u g=>(by cases g),rfl⟩
 | v :: vs,u :: us,.cons r t,h=>by
  obtain ⟨a,ns,rfl,_,_⟩:=h v az7
  cases r
  obtain ⟨d,c⟩:=afs t fun v f=>h v (az4 _ f)
  refine ⟨fun x b=>?_,by rw [aB0,c];rfl⟩
  rcases ay8.mp b with rfl | b
  ·exact ⟨_,rfl⟩
  ·exact d x b
section
variable {X:Cx}
def ahe (K:Frag):List V->Hp->VK->Prop:=fun xs H Q=>∃ (a:Addr) (vs:List V),xs=[.ref a]/\SqL K H a vs/\(∀ v∈vs,TupI H v) /\
 ∀ (vs':List V) (p:Addr),vs'.Perm vs->vs'.Pairwise (fun x y=>HT.lexLt (kH H y) (kH H x)=false)->H p=none->Q (.ref p) (upd H p (.lst vs'))
theorem agu {H:Hp} {pins:List (Addr × Obj)} {σ:St} {s:Shared} (I:Inv X pins σ H s) {h':Heap} (kp:∀ b o,s.heap.get? b=some o->h'.get? b=some o):∀ {vs:List V} {us:List Value},Vals vs us->(∀ v∈vs,TupI H v) ->
  (∃ fs,PySem.W.KatTups h' us fs/\fs.length=us.length/\∀ f∈fs,∃ i t,f=.int i t)/\∀ u∈us,∃ a,u=.ref a/\TS.TI h' a (kH H (.ref a))
 | _,_,.nil,_=>⟨⟨[],trivial,rfl,fun f hf=>by cases hf⟩,fun u G=>by cases G⟩
 | v :: vs,u :: us,.cons r t,h=>by
  obtain ⟨a,ns,rfl,e,j⟩:=h v az7
  cases r
  obtain ⟨⟨fs,E,D,F⟩,z⟩:=agu I kp t fun v y=>h v (az4 _ y)
  obtain ⟨_,its,C,o,q,p,n,m⟩:=(show ObjOk X.prog X.w H s.heap a (.tup (ns.map V.int)) from I.hok a _ e)
  have hi:IntsAre its ns:=by simpa using (abp C:IntsAre its.toArray.toList ns)
  have B:TS.TI h' a (kH H (.ref a)):=⟨o,its.toArray,n,kp _ _ q,p,m,by rw [aj2 e];simpa using hi⟩
  obtain ⟨f,hf,i,d,A⟩:∃ f,its.toArray[0]?=some f/\∃ i t,f=.int i t:=by
   cases hi with
   | nil=>exact absurd rfl j
   | cons i d _=>exact ⟨_,by simp,i,d,rfl⟩
  refine ⟨⟨f :: fs,PySem.W.KatTups.cons (kp _ _ q) p m hf E,by simp [D],fun g c=>?_⟩,fun x l=>?_⟩
  ·rcases ay8.mp c with rfl | c
   ·exact ⟨i,d,A⟩
   ·exact F g c
  ·rcases ay8.mp l with rfl | l
   ·exact ⟨a,rfl,B⟩
   ·exact z x l
theorem alc {α:Type} {R : α->α->Prop}:∀ {l:List α},l.length < 2->l.Pairwise R
 | [],_=>List.Pairwise.nil
 | [_],_=>List.pairwise_singleton _ _
 | _ :: _ :: _,h=>absurd h (by simp)
theorem ae4:abc X (.builtin "sorted") (ahe X.K):=by
 intro pins s σ H xs us Q I r h
 obtain ⟨a,vs,rfl,ha,w,q⟩:=h
 obtain ⟨u,rfl,N⟩:=acz r
 cases N
 obtain ⟨its,m,O,hz⟩:=I.list ha
 obtain ⟨l,B⟩:=afs m w
 have c:its.length<=sizeLine:=by rw [← m.length];exact hz
 have d:H (s.heap.objs.size+1)=none:=I.hok.fresh (Nat.le_succ _)
 have fin:∀ out:List Value,out.Perm its->(out.map adc).Pairwise (fun x y=>HT.lexLt (kH H y) (kH H x)=false)->EP X pins σ Q (.ref (s.heap.objs.size+1)) { s with heap:=sortedAll s.heap its out.toArray }:=by
  intro out f n
  obtain ⟨e,F⟩:=sortedAll_at s.heap its out.toArray
  have g:Vals (out.map adc) out:=afr fun u M=>l u (f.mem_iff.mp M)
  refine ⟨.ref (s.heap.objs.size+1),_,I.laid (t':=s.toks) (o:=.lst (out.map adc)) (fun b S q=>sortedAll_old q) (Nat.le_succ _) ?_,rfl,q _ _ ?_ n d⟩
  ·refine ⟨by rw [ay3,f.length_eq];exact c,out,e,g,by rw [F]⟩
  ·rw [← B];exact f.map adc
 refine TS.sorted_any O.isList c (fun z h' kp=>?_) fun p=>?_
 ·obtain ⟨⟨fs,G,Y,L⟩,D⟩:=agu I kp m w
  have j:(Value.type "int" != Value.type "tuple")=true:=by rfl
  refine ⟨tuples' true,TS.tS h' (fun a=>kH H (.ref a)),TS.tR (fun a=>kH H (.ref a)),fun R E=>?_,TS.cmp_tups (s:={ s with heap:=h' }) (fun a=>kH H (.ref a)),fun v g=>?_,fun out f n=>fin out f ?_⟩
  ·refine PySem.W.kat_kind (T:=.type "int") (s:={ s with heap:=h' }) G (by omega) (fun v g=>?_) (by rfl) ?_
   ·obtain ⟨i,t,rfl⟩:=L v g
    exact .now
   ·rw [j];exact E
  ·obtain ⟨a,e,A⟩:=D v g
   exact ⟨rfl,a,e,A⟩
  ·rw [aD1]
   refine aF0 ?_ n
   intro x y J C P
   obtain ⟨Z,rfl⟩:=l x (f.mem_iff.mp J)
   obtain ⟨U,rfl⟩:=l y (f.mem_iff.mp C)
   exact P
 ·refine fin its (List.Perm.refl _) ?_
  exact alc (by rw [ay3];exact p)
end
end L2
namespace HT
open PySem PySem.Spec PyProof.Rows L2
section
variable {prog:Program} {w:World} {A:Around} {kw:List (Str × Value)} {R:Result->Shared->Prop} {I S:Addr} {fp wr:List Addr} {n:Nat} {P:Nat->Value->Prop} {St:Nat->Heap->Prop} {Hd:Heap->Prop}
end
section
variable {prog:Program} {w:World} {A:Around} {E:Value->Shared->Prop} {s:Shared}
end
end HT
namespace L2
open PySem PySem.Spec PyProof.Rows
section
variable {X:Cx} {x:Str} {p pos kpos:Pos} {e en:Expr} {t:TA}
end
end L2
namespace HT
open PySem PySem.Spec PyProof.Rows
section
variable {prog:Program} {w:World} {A:Around} {E:Value->Shared->Prop} {s:Shared}
end
end HT
namespace L2
open PySem PySem.Spec PyProof.Rows
section
variable {X:Cx}
end
end L2
namespace VL
open PySem PySem.Spec L2
def kD:Key->PyData
 | .inl i => .int i
 | .inr x => .str x
mutual
inductive Rp (G:Hp):V->PyData->Prop
 | non:Rp G .non .none
 | bl (b:Bool):Rp G (.bl b) (.bool b)
 | int (i:Int):Rp G (.int i) (.int i)
 | str (x:Str):Rp G (.str x) (.str x)
 | lst {a:Addr} {xs:List V} {ds:List PyData}:G a=some (.lst xs)->Rps G xs ds->Rp G (.ref a) (.list ds)
 | tup {a:Addr} {xs:List V} {ds:List PyData}:G a=some (.tup xs)->Rps G xs ds->Rp G (.ref a) (.tuple ds)
 | dk {a:Addr} {kvs:List (Key × V)} {es:List (Key × PyData)} {ds:List (PyData × PyData)}:G a=some (.dK kvs)->RpK G kvs es->ds=es.map (fun p=>(kD p.1,p.2))->Rp G (.ref a) (.dict ds)
 | dt {a:Addr} {kvs:List (List Key × V)} {es:List (List Key × PyData)} {ds:List (PyData × PyData)}:G a=some (.dT kvs)->RpT G kvs es->ds=es.map (fun p=>(.tuple (p.1.map kD),p.2))->Rp G (.ref a) (.dict ds)
inductive Rps (G:Hp):List V->List PyData->Prop
 | nil:Rps G [] []
 | cons {v:V} {vs:List V} {d:PyData} {ds:List PyData}:Rp G v d->Rps G vs ds->Rps G (v :: vs) (d :: ds)
inductive RpK (G:Hp):List (Key × V)->List (Key × PyData)->Prop
 | nil:RpK G [] []
 | cons {k:Key} {v:V} {d:PyData} {r:List (Key × V)} {s:List (Key × PyData)}:Rp G v d->RpK G r s->RpK G ((k,v) :: r) ((k,d) :: s)
inductive RpT (G:Hp):List (List Key × V)->List (List Key × PyData)->Prop
 | nil:RpT G [] []
 | cons {k:List Key} {v:V} {d:PyData} {r:List (List Key × V)} {s:List (List Key × PyData)}:Rp G v d->RpT G r s->RpT G ((k,v) :: r) ((k,d) :: s)
end
mutual
theorem Rp.same {G G':Hp} (s:Same G G'):∀ {v:V} {d:PyData},Rp G v d->Rp G' v d
 | _,_,.non => .non
 | _,_,.bl b => .bl b
 | _,_,.int i => .int i
 | _,_,.str x => .str x
 | _,_,.lst h r => .lst (s _ _ h) (Rps.same s r)
 | _,_,.tup h r => .tup (s _ _ h) (Rps.same s r)
 | _,_,.dk h r e => .dk (s _ _ h) (RpK.same s r) e
 | _,_,.dt h r e => .dt (s _ _ h) (RpT.same s r) e
theorem Rps.same {G G':Hp} (s:Same G G'):∀ {vs:List V} {ds:List PyData},Rps G vs ds->Rps G' vs ds
 | _,_,.nil => .nil
 | _,_,.cons r t => .cons (Rp.same s r) (Rps.same s t)
theorem RpK.same {G G':Hp} (s:Same G G'):∀ {vs:List (Key × V)} {ds:List (Key × PyData)},RpK G vs ds->RpK G' vs ds
 | _,_,.nil => .nil
 | _,_,.cons r t => .cons (Rp.same s r) (RpK.same s t)
theorem RpT.same {G G':Hp} (s:Same G G'):∀ {vs:List (List Key × V)} {ds:List (List Key × PyData)},RpT G vs ds->RpT G' vs ds
 | _,_,.nil => .nil
 | _,_,.cons r t => .cons (Rp.same s r) (RpT.same s t)
end
theorem Rps.length {G:Hp}:∀ {vs:List V} {ds:List PyData},Rps G vs ds->vs.length=ds.length
 | _,_,.nil=>rfl
 | _,_,.cons _ t=>by simp [Rps.length t]
theorem Rps.get {G:Hp}:∀ {vs:List V} {ds:List PyData} {i:Nat} {d:PyData},Rps G vs ds->ds[i]?=some d->∃ v,vs[i]?=some v/\Rp G v d
 | _,_,_,_,.nil,e=>by simp at e
 | _,_,0,_,.cons r _,e=>by simp at e;subst e;exact ⟨_,rfl,r⟩
 | _,_,i+1,d,.cons _ t,e=>by
  obtain ⟨u,b,a⟩:=Rps.get (i:=i) (d:=d) t (by simpa using e)
  exact ⟨u,by simpa using b,a⟩
theorem Rps.append {G:Hp}:∀ {vs ws:List V} {ds es:List PyData},Rps G vs ds->Rps G ws es->Rps G (vs ++ ws) (ds ++ es)
 | _,_,_,_,.nil,s=>s
 | _,_,_,_,.cons r t,s => .cons r (Rps.append t s)
theorem Rps.set {G:Hp} {v:V} {d:PyData} (h:Rp G v d):∀ {vs:List V} {ds:List PyData} (i:Nat),Rps G vs ds->Rps G (vs.set i v) (ds.set i d)
 | _,_,_,.nil => .nil
 | _,_,0,.cons _ t => .cons h t
 | _,_,i+1,.cons r t => .cons r (Rps.set h i t)
theorem Rps.erase {G:Hp}:∀ {vs:List V} {ds:List PyData} (i:Nat),Rps G vs ds->Rps G (vs.eraseIdx i) (ds.eraseIdx i)
 | _,_,_,.nil => .nil
 | _,_,0,.cons _ t=>t
 | _,_,i+1,.cons r t => .cons r (Rps.erase i t)
theorem Rps.take {G:Hp}:∀ {vs:List V} {ds:List PyData} (i:Nat),Rps G vs ds->Rps G (vs.take i) (ds.take i)
 | _,_,0,_ => .nil
 | _,_,_+1,.nil => .nil
 | _,_,i+1,.cons r t => .cons r (Rps.take i t)
theorem Rps.drop {G:Hp}:∀ {vs:List V} {ds:List PyData} (i:Nat),Rps G vs ds->Rps G (vs.drop i) (ds.drop i)
 | _,_,0,r=>r
 | _,_,_+1,.nil => .nil
 | _,_,i+1,.cons _ t=>Rps.drop i t
theorem Rps.rep {G:Hp} {vs:List V} {ds:List PyData} (h:Rps G vs ds):∀ (k:Nat),Rps G (List.replicate k vs).flatten (List.replicate k ds).flatten
 | 0 => .nil
 | k+1=>by
  rw [aE3,aE3,List.flatten_cons,List.flatten_cons]
  exact h.append (Rps.rep h k)
theorem Rps.ints {G:Hp}:∀ (ns:List Int),Rps G (ns.map V.int) (ns.map PyData.int)
 | [] => .nil
 | n :: ns => .cons (.int n) (Rps.ints ns)
theorem Rps.ints_inv {G:Hp}:∀ {ns:List Int} {vs:List V},Rps G vs (ns.map PyData.int)->vs=ns.map V.int
 | [],_,.nil=>rfl
 | n :: ns,_,.cons r t=>by
  cases r
  rw [Rps.ints_inv t];rfl
mutual
theorem Rp.rep {G:Hp}:∀ {v:V} {d:PyData},Rp G v d->aaq d=true->Rep G v d
 | _,_,.non,_ => .non
 | _,_,.bl b,_ => .bl b
 | _,_,.int i,_ => .int i
 | _,_,.str x,_ => .str x
 | _,_,.lst h r,p => .lst h (Rps.reps r (by simpa [aaq] using p))
 | _,_,.tup h r,p => .tup h (Rps.reps r (by simpa [aaq] using p))
 | _,_,.dk h r e,p=>by simp [aaq] at p
 | _,_,.dt h r e,p=>by simp [aaq] at p
theorem Rps.reps {G:Hp}:∀ {vs:List V} {ds:List PyData},Rps G vs ds->plainDs ds=true->Reps G vs ds
 | _,_,.nil,_ => .nil
 | _,_,.cons r t,p=>by
  simp only [plainDs,aE1] at p
  exact .cons (Rp.rep r p.1) (Rps.reps t p.2)
end
structure Own where
 P:Hp->Hp->V->(Addr->Prop)->Prop
 mono:∀ {G H G' H':Hp} {v:V} {F:Addr->Prop},P G H v F->Same G G'->(∀ a o,F a->H a=some o->H' a=some o)->P G' H' v F
 dom:∀ {G H:Hp} {v:V} {F:Addr->Prop},P G H v F->∀ a,F a->∃ o,H a=some o
inductive Sl where
 | st (d:PyData) | own (A:Own) | io (A:Own) | scr (ns:List Int)
abbrev En:=List (Option Sl)
structure Bs where
 K:Frag
 G:Hp
 H:Hp
 R:Hp
 S:St
 F:Nat->Addr->Prop
def SlOk (B:Bs) (G H:Hp) (i:Nat) (v:V) (F:Addr->Prop):Sl->Prop
 | .st d=>Rp G v d/\∀ a,¬ F a
 | .own A=>A.P G H v F/\∀ a,F a->B.H a=none
 | .io A=>A.P G H v F/\(∀ a,F a->B.F i a\/B.H a=none)/\B.S[i]?=some (some v)
 | .scr ns=>(∃ a,v=.ref a/\SqL B.K G a (ns.map V.int))/\∀ a,¬ F a
def FT (G H:Hp):Prop:=∀ (a:Addr) (ks:List Key),H a=some (.tup (ks.map kV))->G a=some (.tup (ks.map kV))
structure VI (B:Bs) (G H:Hp) (σ:St) (env:En) (F:Nat->Addr->Prop):Prop where
 gh:Same G H
 g0:Same B.G G
 gn:∀ a o,G a=some o->B.G a=some o\/B.H a=none
 rs:Same B.R H
 rb:Same B.R B.H
 bh:∀ a o,B.H a=some o->∃ o',H a=some o'
 fg:∀ i a,F i a->G a=none
 fr:∀ i a,F i a->B.R a=none
 fd:∀ i j a,F i a->F j a->i=j
 fo:∀ i a,F i a->∃ o,H a=some o
 sl:∀ i s,env[i]?=some (some s)->∃ v,σ[i]?=some (some v)/\SlOk B G H i v (F i) s
 ln : σ.length=env.length
 ft:FT G H
def RsOk (G H:Hp) (v:V) (F:Addr->Prop):Sl->Prop
 | .st d=>Rp G v d/\∀ a,¬ F a
 | .own A=>A.P G H v F
 | _=>False
structure RsX (B:Bs) (G H:Hp) (v:V) (Fv:Addr->Prop) (s:Sl) (F:Nat->Addr->Prop):Prop where
 ok:RsOk G H v Fv s
 fb:∀ a,Fv a->B.H a=none
 fg:∀ a,Fv a->G a=none
 fo:∀ a,Fv a->∃ o,H a=some o
 fd:∀ j a,Fv a->¬ F j a
structure Out (G H:Hp) (v:V) (G' H':Hp) (s:Sl) (Fv:Addr->Prop):Prop where
 gg:Same G G'
 gh:Same G' H'
 hh:Same H H'
 gn:∀ a o,G' a=some o->G a=some o\/H a=none
 fn:∀ a,Fv a->H a=none
 fg:∀ a,Fv a->G' a=none
 fo:∀ a,Fv a->∃ o,H' a=some o
 ok:RsOk G' H' v Fv s
 ft:FT G H->FT G' H'
theorem SlOk.mono {B:Bs} {G H G' H':Hp} {i:Nat} {v:V} {F:Addr->Prop} {s:Sl} (h:SlOk B G H i v F s) (g:Same G G') (hh:∀ a o,F a->H a=some o->H' a=some o):SlOk B G' H' i v F s:=by
 cases s with
 | st d=>exact ⟨h.1.same g,h.2⟩
 | own A=>exact ⟨A.mono h.1 g hh,h.2⟩
 | io A=>exact ⟨A.mono h.1 g hh,h.2⟩
 | scr ns =>
  obtain ⟨⟨a,e,q⟩,n⟩:=h
  exact ⟨⟨a,e,g.seq q⟩,n⟩
section
variable {B:Bs} {G H G' H':Hp} {σ:St} {env:En} {F:Nat->Addr->Prop} {v:V} {s:Sl} {Fv:Addr->Prop}
theorem VI.no_r (I:VI B G H σ env F) {a:Addr} (h:H a=none):B.R a=none:=by
 cases e:B.R a with
 | none=>rfl
 | some o=>rw [I.rs a o e] at h;cases h
theorem VI.no_b (I:VI B G H σ env F) {a:Addr} (h:H a=none):B.H a=none:=by
 cases e:B.H a with
 | none=>rfl
 | some o=>obtain ⟨o',b⟩:=I.bh a o e;rw [b] at h;cases h
theorem VI.no_g (I:VI B G H σ env F) {a:Addr} (h:H a=none):G a=none:=by
 cases e:G a with
 | none=>rfl
 | some o=>rw [I.gh a o e] at h;cases h
theorem VI.no_f (I:VI B G H σ env F) {a:Addr} (h:H a=none) (i:Nat):¬ F i a:=fun z=>by
 obtain ⟨o,e⟩:=I.fo i a z;rw [e] at h;cases h
theorem VI.grow (I:VI B G H σ env F) (gg:Same G G') (gh:Same G' H') (hh:Same H H') (gn:∀ a o,G' a=some o->G a=some o\/H a=none) (ft:FT G' H'):VI B G' H' σ env F where
 gh:=gh
 g0:=I.g0.trans gg
 gn:=fun a o e=>by
  rcases gn a o e with e | e
  ·exact I.gn a o e
  ·exact .inr (I.no_b e)
 rs:=I.rs.trans hh
 rb:=I.rb
 bh:=fun a o e=>by obtain ⟨o',c⟩:=I.bh a o e;exact ⟨o',hh _ _ c⟩
 fg:=fun i a z=>by
  cases e:G' a with
  | none=>rfl
  | some o =>
   rcases gn a o e with e | e
   ·rw [I.fg i a z] at e;cases e
   ·exact absurd z (I.no_f e i)
 fr:=I.fr
 fd:=I.fd
 fo:=fun i a z=>by obtain ⟨o,e⟩:=I.fo i a z;exact ⟨o,hh _ _ e⟩
 sl:=fun i s e=>by
  obtain ⟨v,d,b⟩:=I.sl i s e
  exact ⟨v,d,b.mono gg fun a o _ q=>hh _ _ q⟩
 ln:=I.ln
 ft:=ft
theorem VI.out (I:VI B G H σ env F) (o:Out G H v G' H' s Fv):VI B G' H' σ env F/\RsX B G' H' v Fv s F :=
 ⟨I.grow o.gg o.gh o.hh o.gn (o.ft I.ft),o.ok,fun a z=>I.no_b (o.fn a z),o.fg,o.fo,fun j a z y=>I.no_f (o.fn a z) j y⟩
theorem VI.b_r (I:VI B G H σ env F) {a:Addr} (h:B.H a=none):B.R a=none:=by
 cases e:B.R a with
 | none=>rfl
 | some o=>rw [I.rb a o e] at h;cases h
def putF (F:Nat->Addr->Prop) (i:Nat) (Fv:Addr->Prop):Nat->Addr->Prop:=fun j a=>if j=i then Fv a else F j a
theorem putF_same {i:Nat} {a:Addr}:putF F i Fv i a ↔ Fv a:=by unfold putF;rw [aC5 rfl]
theorem aew {i:Nat}:putF F i Fv i=Fv:=by funext a;unfold putF;rw [aC5 rfl]
theorem aba {i j:Nat} (h:j ≠ i):putF F i Fv j=F j:=by funext a;unfold putF;rw [aC6 h]
theorem VI.slot (I:VI B G H σ env F) (i:Nat) (o:Option V) (os:Option Sl) (fg:∀ a,Fv a->G a=none) (fr:∀ a,Fv a->B.R a=none) (fo:∀ a,Fv a->∃ o,H a=some o) (fd:∀ j a,j ≠ i->Fv a->¬ F j a)
  (ok:∀ s,os=some s->∃ v,o=some v/\SlOk B G H i v Fv s):VI B G H (σ.set i o) (env.set i os) (putF F i Fv) where
 gh:=I.gh
 g0:=I.g0
 gn:=I.gn
 rs:=I.rs
 rb:=I.rb
 bh:=I.bh
 fg:=fun j a z=>by
  by_cases h:j=i
  ·subst h;exact fg a (putF_same.mp z)
  ·rw [aba h] at z;exact I.fg j a z
 fr:=fun j a z=>by
  by_cases h:j=i
  ·subst h;exact fr a (putF_same.mp z)
  ·rw [aba h] at z;exact I.fr j a z
 fd:=fun j k a y z=>by
  by_cases h:j=i
  ·by_cases g:k=i
   ·rw [h,g]
   ·subst h;rw [aba g] at z;exact absurd z (fd k a g (putF_same.mp y))
  ·by_cases g:k=i
   ·subst g;rw [aba h] at y;exact absurd y (fd j a h (putF_same.mp z))
   ·rw [aba h] at y;rw [aba g] at z;exact I.fd j k a y z
 fo:=fun j a z=>by
  by_cases h:j=i
  ·subst h;exact fo a (putF_same.mp z)
  ·rw [aba h] at z;exact I.fo j a z
 sl:=fun j t e=>by
  by_cases h:j=i
  ·subst h
   rw [aB1,aC5 rfl] at e
   by_cases hl:j < env.length
   ·rw [aC5 hl] at e
    obtain ⟨v,b,q⟩:=ok t (aA5 e)
    refine ⟨v,by rw [aB1,aC5 rfl,aC5 (by rw [I.ln];exact hl),b],?_⟩
    rw [aew];exact q
   ·rw [aC6 hl] at e;cases e
  ·rw [aB1,aC6 (fun z=>h z.symm)] at e
   obtain ⟨v,b,q⟩:=I.sl j t e
   refine ⟨v,by rw [aB1,aC6 (fun z=>h z.symm)];exact b,?_⟩
   rw [aba h];exact q
 ln:=by simp [I.ln]
 ft:=I.ft
theorem VI.store (I:VI B G H σ env F) (r:RsX B G H v Fv s F) (i:Nat):VI B G H (σ.set i (some v)) (env.set i (some s)) (putF F i Fv):=by
 refine I.slot i (some v) (some s) r.fg (fun a z=>I.b_r (r.fb a z)) r.fo (fun j a _ z=>r.fd j a z) fun t e=>?_
 cases e
 refine ⟨v,rfl,?_⟩
 have:=r.ok
 cases s with
 | st d=>exact this
 | own A=>exact ⟨this,r.fb⟩
 | io A=>exact this.elim
 | scr ns=>exact this.elim
theorem VI.drop (I:VI B G H σ env F) (i:Nat):VI B G H σ (env.set i none) (putF F i fun _=>False):=by
 have:=I.slot (Fv:=fun _=>False) i ((σ[i]?).getD none) none (fun a z=>z.elim) (fun a z=>z.elim) (fun a z=>z.elim) (fun j a _ z=>z.elim) (fun s e=>by cases e)
 rwa [show σ.set i ((σ[i]?).getD none) = σ from ?_] at this
 apply aD2
 intro j
 rw [aB1]
 by_cases h:i=j
 ·subst h
  rw [aC5 rfl]
  by_cases hl:i < σ.length
  ·rw [aC5 hl,ay0 hl];rfl
  ·rw [aC6 hl,aC7.mpr (by omega)]
 ·rw [aC6 h]
theorem VI.change {A:Own} (I:VI B G H σ env F) (i:Nat) {H2:Hp} {F2:Addr->Prop} {os os':Sl} (e:env[i]?=some (some os)) (g : σ[i]?=some (some v))
  (keep:∀ a o,¬ F i a->H a=some o->H2 a=some o) (p:∀ a o,H a=some o->∃ o',H2 a=some o') (c:∀ a,F2 a->(F i a\/H a=none)/\∃ o,H2 a=some o) (n:A.P G H2 v F2) (w:FT G H2)
  (O:(os'=.own A/\∃ d,os=.own d)\/(os'=.io A/\∃ d,os=.io d)):VI B G H2 σ (env.set i (some os')) (putF F i F2):=by
 obtain ⟨R,f,q⟩:=I.sl i os e
 rw [g] at f;cases f
 have m:∀ j a,j ≠ i->F j a->¬ F i a:=fun j a b y z=>b (I.fd j i a y z)
 have K:∀ a,F2 a->G a=none:=fun a z=>by
  rcases (c a z).1 with y | y
  ·exact I.fg i a y
  ·exact I.no_g y
 have J:VI B G H2 σ (env.set i none) (putF F i fun _=>False):=by
  have D:=I.drop i
  refine ⟨fun a o x=>keep a o (fun z=>by rw [I.fg i a z] at x;cases x) (I.gh a o x),D.g0,D.gn,fun a o x=>keep a o (fun z=>by rw [I.fr i a z] at x;cases x) (I.rs a o x),D.rb,fun a o x=>?_,D.fg,D.fr,D.fd,fun j a z=>?_,fun j s x=>?_,D.ln,w⟩
  ·obtain ⟨o',E⟩:=I.bh a o x
   exact p a o' E
  ·obtain ⟨o,x⟩:=D.fo j a z
   exact p a o x
  ·obtain ⟨u,r,N⟩:=D.sl j s x
   refine ⟨u,r,N.mono (Same.refl G) fun a o z y=>?_⟩
   by_cases b:j=i
   ·subst b;exact (putF_same.mp z).elim
   ·rw [aba b] at z
    exact keep a o (m j a b z) y
 have l:=J.slot (Fv:=F2) i (some v) (some os') K (fun a z=>by
   rcases (c a z).1 with y | y
   ·exact I.fr i a y
   ·exact I.no_r y) (fun a z=>(c a z).2) (fun j a b z y=>by
   rw [aba b] at y
   rcases (c a z).1 with x | x
   ·exact m j a b y x
   ·exact I.no_f x j y) fun t M=>by
   cases M
   refine ⟨v,rfl,?_⟩
   rcases O with ⟨rfl,d,rfl⟩ | ⟨rfl,d,rfl⟩
   ·refine ⟨n,fun a z=>?_⟩
    rcases (c a z).1 with y | y
    ·exact q.2 a y
    ·exact I.no_b y
   ·refine ⟨n,fun a z=>?_,q.2.2⟩
    rcases (c a z).1 with y | y
    ·exact q.2.1 a y
    ·exact .inr (I.no_b y)
 have Q : σ.set i (some v) = σ:=by
  apply aD2
  intro j
  rw [aB1]
  by_cases h:i=j
  ·subst h
   rw [aC5 rfl,g,aC5 (ay1.mp g).1]
  ·rw [aC6 h]
 have L:(env.set i none).set i (some os')=env.set i (some os'):=by simp
 have C:putF (putF F i fun _=>False) i F2=putF F i F2:=by
  funext j a
  by_cases h:j=i
  ·subst h;rw [aew,aew]
  ·rw [aba h,aba h,aba h]
 rw [Q,L,C] at l
 exact l
end
open Classical in
def jn (G H:Hp) (F:Addr->Prop):Hp:=fun a=>if F a then H a else G a
theorem aj3 {G H:Hp} {F:Addr->Prop} {a:Addr} (h:F a):jn G H F a=H a:=aC5 h
theorem aj4 {G H:Hp} {F:Addr->Prop} {a:Addr} (h:¬ F a):jn G H F a=G a:=aC6 h
theorem ach {G H:Hp} {F:Addr->Prop} (h:∀ a,F a->G a=none):Same G (jn G H F):=fun a o e=>by
 rw [aj4 (fun z=>by rw [h a z] at e;cases e)];exact e
theorem axn {G H:Hp} {F:Addr->Prop} (h:Same G H):Same (jn G H F) H:=fun a o e=>by
 by_cases z:F a
 ·rw [aj3 z] at e;exact e
 ·rw [aj4 z] at e;exact h a o e
def Frz (A:Own) (d:PyData):Prop:=∀ (G H:Hp) (v:V) (F:Addr->Prop),A.P G H v F->(∀ a,F a->G a=none)->Same G H->Rp (jn G H F) v d
def FQ:Sl->(PyData->Prop)->Prop
 | .st d,R=>R d
 | .own A,R=>∃ d,Frz A d/\R d
 | _,_=>False
def OL (ds:List PyData):Own where
 P:=fun G H v F=>∃ a vs,v=.ref a/\H a=some (.lst vs)/\Rps G vs ds/\∀ b,F b ↔ b=a
 mono:=fun ⟨a,vs,e,h,r,f⟩ g hh=>⟨a,vs,e,hh a _ ((f a).mpr rfl) h,r.same g,f⟩
 dom:=fun ⟨a,vs,e,h,r,f⟩ b z=>by rw [(f b).mp z];exact ⟨_,h⟩
def OT (es:List (List Key × PyData)):Own where
 P:=fun G H v F=>∃ a kvs,v=.ref a/\H a=some (.dT kvs)/\RpT G kvs es/\∀ b,F b ↔ b=a
 mono:=fun ⟨a,vs,e,h,r,f⟩ g hh=>⟨a,vs,e,hh a _ ((f a).mpr rfl) h,r.same g,f⟩
 dom:=fun ⟨a,vs,e,h,r,f⟩ b z=>by rw [(f b).mp z];exact ⟨_,h⟩
theorem acq {ds:List PyData}:Frz (OL ds) (.list ds):=fun G H v F ⟨a,vs,e,h,r,f⟩ n g=>by
 subst e
 exact .lst (by rw [aj3 ((f a).mpr rfl)];exact h) (r.same (ach n))
theorem axo {d:PyData} {R:PyData->Prop} (h:R d):FQ (.st d) R:=h
theorem ac0 {ds:List PyData} {R:PyData->Prop} (h:R (.list ds)):FQ (.own (OL ds)) R:=⟨_,acq,h⟩
section
variable {B:Bs} {G H G' H':Hp} {σ:St} {env:En} {F:Nat->Addr->Prop} {v:V} {s:Sl} {Fv:Addr->Prop}
theorem VI.freeze (I:VI B G H σ env F) (fb:∀ a,Fv a->B.H a=none) (fd:∀ j a,Fv a->¬ F j a) (fg:∀ a,Fv a->G a=none):VI B (jn G H Fv) H σ env F where
 gh:=axn I.gh
 g0:=I.g0.trans (ach fg)
 gn:=fun a o e=>by
  by_cases z:Fv a
  ·exact .inr (fb a z)
  ·rw [aj4 z] at e;exact I.gn a o e
 rs:=I.rs
 rb:=I.rb
 bh:=I.bh
 fg:=fun i a z=>by
  rw [aj4 (fun y=>fd i a y z)];exact I.fg i a z
 fr:=I.fr
 fd:=I.fd
 fo:=I.fo
 sl:=fun i s e=>by
  obtain ⟨v,d,c⟩:=I.sl i s e
  exact ⟨v,d,c.mono (ach fg) fun a o _ q=>q⟩
 ln:=I.ln
 ft:=fun a b e=>ach fg _ _ (I.ft a b e)
theorem VI.frz {A:Own} {d:PyData} {i:Nat} (I:VI B G H σ env F) (e:env[i]?=some (some (.own A))) (f:Frz A d) :
  ∃ v,σ[i]?=some (some v)/\Rp (jn G H (F i)) v d/\Same G (jn G H (F i))/\VI B (jn G H (F i)) H σ (env.set i (some (.st d))) (putF F i fun _=>False):=by
 obtain ⟨v,b,q⟩:=I.sl i _ e
 have c:=f G H v (F i) q.1 (I.fg i) I.gh
 refine ⟨v,b,c,ach (I.fg i),?_⟩
 have D:=(I.drop i).freeze (Fv:=F i) q.2 (fun j a z y=>by
  by_cases h:j=i
  ·subst h;exact (putF_same.mp y).elim
  ·rw [aba h] at y;exact h (I.fd j i a y z)) (I.fg i)
 have J:=D.slot (Fv:=fun _=>False) i (some v) (some (.st d)) (fun a z=>z.elim) (fun a z=>z.elim) (fun a z=>z.elim) (fun j a _ z=>z.elim) (fun t l=>by cases l;exact ⟨v,rfl,c,fun a z=>z⟩)
 have m : σ.set i (some v) = σ:=by
  apply aD2
  intro j
  rw [aB1]
  by_cases h:i=j
  ·subst h
   rw [aC5 rfl,b,aC5 (ay1.mp b).1]
  ·rw [aC6 h]
 have g:putF (putF F i fun _=>False) i (fun _=>False)=putF F i fun _=>False:=by
  funext j a
  by_cases h:j=i
  ·subst h;rw [aew,aew]
  ·rw [aba h,aba h]
 rw [m,g,List.set_set] at J
 exact J
theorem Out.refl {d:PyData} (g:Same G H) (r:Rp G v d):Out G H v G H (.st d) (fun _=>False):=⟨Same.refl _,g,Same.refl _,fun a o e => .inl e,fun a z=>z.elim,fun a z=>z.elim,fun a z=>z.elim,⟨r,fun a z=>z⟩,fun t=>t⟩
theorem atg {p:Addr} {o:HO} (g:Same G H) (h:H p=none):Same (upd G p o) (upd H p o):=fun a u e=>by
 by_cases z:a=p
 ·subst z;rw [aai] at e ⊢;exact e
 ·rw [aag z] at e ⊢;exact g a u e
theorem aca {p:Addr} (g:Same G H) (h:H p=none):G p=none:=by
 cases e:G p with
 | none=>rfl
 | some o=>rw [g p o e] at h;cases h
theorem Out.newT {p:Addr} {xs:List V} {ds:List PyData} (g:Same G H) (h:H p=none) (r:Rps G xs ds):Out G H (.ref p) (upd G p (.tup xs)) (upd H p (.tup xs)) (.st (.tuple ds)) (fun _=>False) where
 gg:=acp (aca g h)
 gh:=atg g h
 hh:=acp h
 gn:=fun a o e=>by
  by_cases z:a=p
  ·subst z;exact .inr h
  ·rw [aag z] at e;exact .inl e
 fn:=fun a z=>z.elim
 fg:=fun a z=>z.elim
 fo:=fun a z=>z.elim
 ok:=⟨.tup aai (r.same (acp (aca g h))),fun a z=>z⟩
 ft:=fun t a b e=>by
  by_cases z:a=p
  ·subst z;rw [aai] at e ⊢;exact e
  ·rw [aag z] at e ⊢;exact t a b e
theorem Out.newO {p:Addr} {o:HO} {A:Own} (g:Same G H) (h:H p=none) (c:∀ xs,o ≠ .tup xs) (r:A.P G (upd H p o) (.ref p) (· = p)):Out G H (.ref p) G (upd H p o) (.own A) (· = p) where
 gg:=Same.refl _
 gh:=g.trans (acp h)
 hh:=acp h
 gn:=fun a o e => .inl e
 fn:=fun a z=>by rw [z];exact h
 fg:=fun a z=>by rw [z];exact aca g h
 fo:=fun a z=>by rw [z];exact ⟨_,aai⟩
 ok:=r
 ft:=fun t a b e=>by
  by_cases z:a=p
  ·subst z;rw [aai] at e;exact absurd (aA5 e) (c _)
  ·rw [aag z] at e;exact t a b e
theorem Out.newL {p:Addr} {xs:List V} {ds:List PyData} (g:Same G H) (h:H p=none) (r:Rps G xs ds):Out G H (.ref p) G (upd H p (.lst xs)) (.own (OL ds)) (· = p) :=
 .newO g h (fun _ z=>nomatch z) ⟨p,xs,rfl,aai,r,fun b=>Iff.rfl⟩
theorem Out.newDT {p:Addr} {xs:List (List Key × V)} {ds:List (List Key × PyData)} (g:Same G H) (h:H p=none) (r:RpT G xs ds):Out G H (.ref p) G (upd H p (.dT xs)) (.own (OT ds)) (· = p) :=
 .newO g h (fun _ z=>nomatch z) ⟨p,xs,rfl,aai,r,fun b=>Iff.rfl⟩
end
def EvO (B:Bs) (te:TE) (env:En) (Q':Sl->En->Prop):Prop:=∀ (σ:St) (G H:Hp) (F:Nat->Addr->Prop) (Q:VK),VI B G H σ env F ->
 (∀ v G' H' F' Fv s env',VI B G' H' σ env' F'->Same G G'->RsX B G' H' v Fv s F'->Q' s env'->Q v H')->te σ H Q
def Ev (B:Bs) (te:TE) (env:En) (Q':PyData->En->Prop):Prop:=∀ (σ:St) (G H:Hp) (F:Nat->Addr->Prop) (Q:VK),VI B G H σ env F ->
 (∀ v G' H' F' d env',VI B G' H' σ env' F'->Same G G'->Rp G' v d->Q' d env'->Q v H')->te σ H Q
def EvT (B:Bs) (tt:TT) (env:En) (Q':Bool->En->Prop):Prop:=∀ (σ:St) (G H:Hp) (F:Nat->Addr->Prop) (Q:Bool->Hp->Prop),VI B G H σ env F ->
 (∀ b G' H' F' env',VI B G' H' σ env' F'->Same G G'->Q' b env'->Q b H')->tt σ H Q
def EvA (B:Bs) (ta:TA) (env:En) (Q':List PyData->En->Prop):Prop:=∀ (σ:St) (G H:Hp) (F:Nat->Addr->Prop) (Q:List V->Hp->Prop),VI B G H σ env F ->
 (∀ vs G' H' F' ds env',VI B G' H' σ env' F'->Same G G'->Rps G' vs ds->Q' ds env'->Q vs H')->ta σ H Q
structure ItOk (G:Hp) (J:It) (ds:List PyData):Prop where
 go:∀ i G' H',Same G G'->Same G' H'->i < ds.length->J.go i H'
 stop:∀ i G' H',Same G G'->Same G' H'->i=ds.length->J.stop i H'
 yld:∀ i G' H' x H'' d,Same G G'->Same G' H'->FT G' H'->ds[i]?=some d->J.yld i H' x H''->∃ G'',Out G' H' x G'' H'' (.st d) (fun _=>False)
def EvI (B:Bs) (ti:TI) (env:En) (Q':List PyData->En->Prop):Prop:=∀ (σ:St) (G H:Hp) (F:Nat->Addr->Prop) (R:It->Hp->Prop),VI B G H σ env F ->
 (∀ J G' H' F' ds env',VI B G' H' σ env' F'->Same G G'->ItOk G' J ds->Q' ds env'->R J H')->ti σ H R
def EvG (B:Bs) (g:TG) (s:Sl) (env:En) (Q':En->Prop):Prop:=∀ (σ:St) (G H:Hp) (F:Nat->Addr->Prop) (v:V) (Fv:Addr->Prop) (Q:St->Hp->Prop),VI B G H σ env F->RsX B G H v Fv s F ->
 (∀ σ' G' H' F' env',VI B G' H' σ' env' F'->Same G G'->Q' env'->Q σ' H')->g v σ H Q
def EvGs (B:Bs) (g:TGs) (ds:List PyData) (env:En) (Q':En->Prop):Prop:=∀ (σ:St) (G H:Hp) (F:Nat->Addr->Prop) (vs:List V) (Q:St->Hp->Prop),VI B G H σ env F->Rps G vs ds ->
 (∀ σ' G' H' F' env',VI B G' H' σ' env' F'->Same G G'->Q' env'->Q σ' H')->g vs σ H Q
structure VEnds where
 nx:En->Prop
 rt:Sl->En->Prop
 bk:En->Prop:=fun _=>False
 ct:En->Prop:=fun _=>False
structure RelE (B:Bs) (G:Hp) (D:Ends) (D':VEnds):Prop where
 nx:∀ σ G' H F env,VI B G' H σ env F->Same G G'->D'.nx env->D.nx σ H
 rt:∀ σ G' H F env v Fv s,VI B G' H σ env F->Same G G'->RsX B G' H v Fv s F->D'.rt s env->D.rt v H
 bk:∀ σ G' H F env,VI B G' H σ env F->Same G G'->D'.bk env->D.bk σ H
 ct:∀ σ G' H F env,VI B G' H σ env F->Same G G'->D'.ct env->D.ct σ H
def EvS (B:Bs) (ts:TS) (D':VEnds) (env:En):Prop:=∀ (σ:St) (G H:Hp) (F:Nat->Addr->Prop) (D:Ends),VI B G H σ env F->RelE B G D D'->ts D σ H
theorem RelE.later {B:Bs} {G G':Hp} {D:Ends} {D':VEnds} (r:RelE B G D D') (g:Same G G'):RelE B G' D D' :=
 ⟨fun σ a H F env I q=>r.nx σ a H F env I (g.trans q),fun σ a H F env v Fv s I q=>r.rt σ a H F env v Fv s I (g.trans q),fun σ a H F env I q=>r.bk σ a H F env I (g.trans q),fun σ a H F env I q=>r.ct σ a H F env I (g.trans q)⟩
section
variable {B:Bs} {env:En} {Q':PyData->En->Prop} {QO:Sl->En->Prop} {QT:Bool->En->Prop} {QA:List PyData->En->Prop} {te ta tb:TE}
theorem aec {G H:Hp} {v:V} {d:PyData} {F:Nat->Addr->Prop} (r:Rp G v d):RsX B G H v (fun _=>False) (.st d) F:=⟨⟨r,fun a z=>z⟩,fun a z=>z.elim,fun a z=>z.elim,fun a z=>z.elim,fun j a z=>z.elim⟩
theorem abb (h:Ev B te env fun d e=>QO (.st d) e):EvO B te env QO:=fun σ G H F Q I k =>
 h σ G H F Q I fun v G' H' F' d a b g r q=>k v G' H' F' _ (.st d) a b g (aec r) q
theorem abl (h:EvO B te env fun s e=>FQ s fun d=>Q' d e):Ev B te env Q':=fun σ G H F Q I k =>
 h σ G H F Q I fun v G' H' F' Fv s a b g r q=>by
  cases s with
  | st d=>exact k v G' H' F' d a b g r.ok.1 q
  | own A =>
   obtain ⟨d,f,q⟩:=q
   exact k v _ H' F' d a (b.freeze r.fb r.fd r.fg) (g.trans (ach r.fg)) (f G' H' v Fv r.ok r.fg b.gh) q
  | io A=>exact q.elim
  | scr ns=>exact q.elim
theorem av3 {i:Nat} {d:PyData} (e:env[i]?=some (some (.st d))) (q:Q' d env):Ev B (tVar i) env Q':=fun σ G H F Q I k=>by
 obtain ⟨v,a,r⟩:=I.sl i _ e
 exact ⟨v,a,k v G H F d env I (Same.refl _) r.1 q⟩
theorem ath {i:Nat} {A:Own} {d:PyData} (e:env[i]?=some (some (.own A))) (f:Frz A d) (q:Q' d (env.set i (some (.st d)))):Ev B (tVar i) env Q':=fun σ G H F Q I k=>by
 obtain ⟨v,a,r,g,J⟩:=I.frz e f
 exact ⟨v,a,k v _ H _ d _ J g r q⟩
theorem aqs {i:Nat} {A:Own} (e:env[i]?=some (some (.own A))) (q:QO (.own A) (env.set i none)):EvO B (tVar i) env QO:=fun σ G H F Q I k=>by
 obtain ⟨v,b,r⟩:=I.sl i _ e
 refine ⟨v,b,k v G H _ (F i) (.own A) _ (I.drop i) (Same.refl _) ⟨r.1,r.2,I.fg i,I.fo i,fun j a z y=>?_⟩ q⟩
 by_cases h:j=i
 ·subst h;exact putF_same.mp y
 ·rw [aba h] at y;exact h (I.fd j i a y z)
theorem av4 {i:Int} (q:Q' (.int i) env):Ev B (tC (.int i)) env Q':=fun σ G H F Q I k=>k _ G H F _ env I (Same.refl _) (.int i) q
theorem axp {b:Bool} (q:Q' (.bool b) env):Ev B (tC (.bl b)) env Q':=fun σ G H F Q I k=>k _ G H F _ env I (Same.refl _) (.bl b) q
theorem av5 (q:Q' .none env):Ev B (tC .non) env Q':=fun σ G H F Q I k=>k _ G H F _ env I (Same.refl _) .non q
def Op2 (r:R2) (x y:PyData) (R:Sl->Prop):Prop:=∀ (G H:Hp) (vx vy:V) (Q:VK),Same G H->Rp G vx x->Rp G vy y->(∀ v G' H' s Fv,Out G H v G' H' s Fv->R s->Q v H')->r vx vy H Q
def Op1 (r:V->Hp->VK->Prop) (x:PyData) (R:Sl->Prop):Prop:=∀ (G H:Hp) (vx:V) (Q:VK),Same G H->Rp G vx x->(∀ v G' H' s Fv,Out G H v G' H' s Fv->R s->Q v H')->r vx H Q
def OpA (r:List V->Hp->VK->Prop) (ds:List PyData) (R:Sl->Prop):Prop:=∀ (G H:Hp) (vs:List V) (Q:VK),Same G H->Rps G vs ds->(∀ v G' H' s Fv,Out G H v G' H' s Fv->R s->Q v H')->r vs H Q
theorem ald {r:R2} (h:Ev B ta env fun x d=>Ev B tb d fun y b=>Op2 r x y fun s=>QO s b):EvO B (tOp r ta tb) env QO:=fun σ G H F Q I k =>
 h σ G H F _ I fun w C f p x d i n u q=>q σ C f p _ i fun m j H2 F2 y b a c g l =>
  l j H2 w m Q a.gh (u.same c) g fun v z H3 s Fv o A=>k v z H3 F2 Fv s b (a.out o).1 (n.trans (c.trans o.gg)) (a.out o).2 A
theorem asd {r:R2} (h:Ev B ta env fun x b=>Ev B tb b fun y a=>Op2 r x y fun s=>FQ s fun d=>Q' d a):Ev B (tOp r ta tb) env Q':=abl (ald h)
theorem av6 {r:V->Hp->VK->Prop} (h:Ev B ta env fun x b=>Op1 r x fun s=>QO s b):EvO B (tUn r ta) env QO:=fun σ G H F Q I k =>
 h σ G H F _ I fun j n c f x b a d i g=>g n c j Q a.gh i fun v l H3 s Fv o m=>k v l H3 f Fv s b (a.out o).1 (d.trans o.gg) (a.out o).2 m
theorem axq {r:V->Hp->VK->Prop} (h:Ev B ta env fun x a=>Op1 r x fun s=>FQ s fun d=>Q' d a):Ev B (tUn r ta) env Q':=abl (av6 h)
theorem ati (q:QA [] env):EvA B tNil env QA:=fun σ G H F Q I k=>k [] G H F [] env I (Same.refl _) .nil q
theorem ale {tr:TA} (h:Ev B ta env fun x c=>EvA B tr c fun xs a=>QA (x :: xs) a):EvA B (abu ta tr) env QA:=fun σ G H F Q I k =>
 h σ G H F _ I fun r q d n x c i m p o=>o σ q d n _ i fun vs j H2 F2 ds a g b f l=>k _ j H2 F2 _ a g (m.trans b) (.cons (p.same b) f) l
theorem av7 {r:List V->Hp->VK->Prop} {t:TA} (h:EvA B t env fun ds b=>OpA r ds fun s=>QO s b):EvO B (tCB r t) env QO:=fun σ G H F Q I k =>
 h σ G H F _ I fun vs m c f ds b a d i g=>g m c vs Q a.gh i fun v j H3 s Fv o l=>k v j H3 f Fv s b (a.out o).1 (d.trans o.gg) (a.out o).2 l
theorem axr {r:List V->Hp->VK->Prop} {t:TA} (h:EvA B t env fun ds a=>OpA r ds fun s=>FQ s fun d=>Q' d a):Ev B (tCB r t) env Q':=abl (av7 h)
theorem amz {t:TA} (h:EvA B t env fun ds b=>ds.length<=1000/\QO (.st (.tuple ds)) b):EvO B (tTup t) env QO:=fun σ G H F Q I k =>
 h σ G H F _ I fun vs l j g ds b a f d c=>⟨by rw [d.length];exact aD5 (adm c.1),fun p i=>by
  have o:=Out.newT a.gh i d
  exact k _ _ _ g _ _ b (a.out o).1 (f.trans o.gg) (a.out o).2 c.2⟩
theorem av8 {t:TA} (h:EvA B t env fun ds a=>ds.length<=1000/\Q' (.tuple ds) a):Ev B (tTup t) env Q':=abl (amz h)
theorem am0 {t:TA} (h:EvA B t env fun ds b=>ds.length<=1000/\QO (.own (OL ds)) b):EvO B (tLst t) env QO:=fun σ G H F Q I k =>
 h σ G H F _ I fun vs l j g ds b a f d c=>⟨by rw [d.length];exact aD5 (adm c.1),fun p i=>by
  have o:=Out.newL a.gh i d
  exact k _ _ _ g _ _ b (a.out o).1 (f.trans o.gg) (a.out o).2 c.2⟩
theorem av9 {t:TA} (h:EvA B t env fun ds a=>ds.length<=1000/\Q' (.list ds) a):Ev B (tLst t) env Q':=abl (am0 fun σ G H F Q I k=>h σ G H F Q I fun vs G' H' F' ds a b g r q=>k vs G' H' F' ds a b g r ⟨q.1,ac0 q.2⟩)
theorem alf (h:Ev B te env fun x a=>∃ b,x=.bool b/\QT b a):EvT B (anr te) env QT:=fun σ G H F Q I k =>
 h σ G H F _ I fun v l c g x a d f i j=>by
  obtain ⟨b,e,q⟩:=j
  subst e
  cases i
  exact ⟨b,rfl,k b l c g a d f q⟩
theorem axs (h:Ev B te env fun x a=>∃ b,x=.bool b/\QT b a):EvT B (tB te) env QT:=alf h
theorem x_bl {b:Bool} {R:Bool->Prop} (h:R b):∃ c,PyData.bool b=.bool c/\R c:=⟨b,rfl,h⟩
theorem atj {t u:TT} (h:EvT B t env fun c a=>if c=true then EvT B u a QT else QT false a):EvT B (tAnd t u) env QT:=fun σ G H F Q I k =>
 h σ G H F _ I fun b j d i a f g q=>by
  cases b with
  | true=>rw [aC5 rfl] at q ⊢;exact q σ j d i Q f fun c m H2 F2 p l o n=>k c m H2 F2 p l (g.trans o) n
  | false=>rw [aC6 ay9] at q ⊢;exact k false j d i a f g q
theorem awa {t u:TT} (h:EvT B t env fun c a=>if c=true then QT true a else EvT B u a QT):EvT B (tOr t u) env QT:=fun σ G H F Q I k =>
 h σ G H F _ I fun b j d i a f g q=>by
  cases b with
  | false=>rw [aC6 ay9] at q ⊢;exact q σ j d i Q f fun c m H2 F2 p l o n=>k c m H2 F2 p l (g.trans o) n
  | true=>rw [aC5 rfl] at q ⊢;exact k true j d i a f g q
theorem atk {t:TT} (h:EvT B t env fun c a=>QT (!c) a):EvT B (tNot t) env QT:=fun σ G H F Q I k =>
 h σ G H F _ I fun b j d g a i f q=>k (!b) j d g a i f q
theorem aex (q:QT true env):EvT B tYes env QT:=fun σ G H F Q I k=>k true G H F env I (Same.refl _) q
def TruD:PyData->Bool->Prop
 | .bool b,k=>k=b
 | .list ds,k=>k = !ds.isEmpty
 | _,_=>False
theorem atm {K:Frag} (h:Ev B te env fun x a=>∃ b,TruD x b/\QT b a):EvT B (tTru K te) env QT:=fun σ G H F Q I k =>
 h σ G H F _ I fun v j f i x a d g l n=>by
  obtain ⟨b,e,q⟩:=n
  cases l with
  | bl c=>cases e;exact ⟨_,rfl,k _ j f i a d g q⟩
  | lst ha rs =>
   refine ⟨b,.inl ⟨_,SqL.of (d.gh _ _ ha),?_⟩,k _ j f i a d g q⟩
   have m:b = !_:=e
   rw [m]
   cases rs <;> rfl
  | _=>exact e.elim
theorem atn (h:Ev B ta env fun x a=>∃ b,x=.bool b/\if b=true then Ev B tb a Q' else Q' (.bool false) a):Ev B (anj ta tb) env Q':=fun σ G H F Q I k =>
 h σ G H F _ I fun v j c i x a f g s u=>by
  obtain ⟨b,e,q⟩:=u
  subst e
  cases s
  refine ⟨b,rfl,?_⟩
  cases b with
  | true=>rw [aC5 rfl] at q ⊢;exact q σ j c i Q f fun v n H2 F2 d r m p l o=>k v n H2 F2 d r m (g.trans p) l o
  | false=>rw [aC6 ay9] at q ⊢;exact k _ j c i _ a f g (.bl false) q
theorem awb (h:Ev B ta env fun x a=>∃ b,x=.bool b/\if b=true then Q' (.bool true) a else Ev B tb a Q'):Ev B (tOrV ta tb) env Q':=fun σ G H F Q I k =>
 h σ G H F _ I fun v j c i x a f g s u=>by
  obtain ⟨b,e,q⟩:=u
  subst e
  cases s
  refine ⟨b,rfl,?_⟩
  cases b with
  | false=>rw [aC6 ay9] at q ⊢;exact q σ j c i Q f fun v n H2 F2 d r m p l o=>k v n H2 F2 d r m (g.trans p) l o
  | true=>rw [aC5 rfl] at q ⊢;exact k _ j c i _ a f g (.bl true) q
theorem ato (h:Ev B ta env fun x a=>∃ b,x=.bool b/\Q' (.bool (!b)) a):Ev B (ank ta) env Q':=fun σ G H F Q I k =>
 h σ G H F _ I fun v l c g x a d f i j=>by
  obtain ⟨b,e,q⟩:=j
  subst e
  cases i
  exact ⟨b,rfl,k _ l c g _ a d f (.bl _) q⟩
theorem aqt {r K:R2} {E:TE} (h:Ev B ta env fun x T=>Ev B tb T fun y a=>Op2 r x y fun s=>∃ b,s=.st (.bool b)/\if b=true then Ev B E a fun z W=>Op2 K y z fun s'=>FQ s' fun d=>Q' d W else Q' (.bool false) a):Ev B (akb r K ta tb E) env Q':=fun σ G H F Q I k =>
 h σ G H F _ I fun v1 G1 U F1 x T X L r1 q1=>q1 σ G1 U F1 _ X fun D Y H2 F2 y a w j u Z =>
  Z Y H2 v1 D _ w.gh (r1.same j) u fun v P H3 s Fv o z_=>by
   obtain ⟨b,es,c⟩:=z_
   have M:=(w.out o).1
   have m:=o.ok
   subst es
   obtain ⟨m,_⟩:=m
   cases m
   refine ⟨b,rfl,?_⟩
   cases b with
   | false=>rw [aC6 ay9] at c ⊢;exact k _ P H3 F2 _ a M (L.trans (j.trans o.gg)) (.bl _) c
   | true =>
    rw [aC5 rfl] at c ⊢
    refine c σ P H3 F2 _ M fun v3 G4 H4 N z O R S r4 q4=>q4 G4 H4 D v3 Q R.gh (u.same (o.gg.trans S)) r4 fun p C l s5 i n g=>?_
    have J:=R.out n
    have gg:=L.trans (j.trans (o.gg.trans (S.trans n.gg)))
    cases s5 with
    | st d=>exact k p C l N d O J.1 gg n.ok.1 g
    | own A =>
     obtain ⟨d,f,q⟩:=g
     exact k p _ l N d O (J.1.freeze J.2.fb J.2.fd J.2.fg) (gg.trans (ach J.2.fg)) (f C l p i J.2.ok J.2.fg J.1.gh) q
    | io A=>exact g.elim
    | scr ns=>exact g.elim
end
section
variable {B:Bs} {env:En} {D':VEnds} {t u tb:TS} {te:TE} {g:TG} {c:TT} {QE:En->Prop}
theorem atp (h:EvS B t { D' with nx:=fun e=>EvS B u D' e } env):EvS B (tSeq t u) D' env:=fun σ G H F D I r =>
 h σ G H F { D with nx:=u D } I ⟨fun σ G' H F env a g q=>q σ G' H F D a (r.later g),r.rt,r.bk,r.ct⟩
theorem alg (h:D'.nx env):EvS B anl D' env:=fun σ G H F D I r=>r.nx σ G H F env I (Same.refl _) h
theorem atq (h:EvO B te env fun s e=>EvG B g s e D'.nx):EvS B (tAsg te g) D' env:=fun σ G H F D I r =>
 h σ G H F _ I fun v q b n Fv s u d j p o=>o σ q b n v Fv D.nx d p fun a f H2 F2 m c l i=>r.nx a f H2 F2 m c (j.trans l) i
theorem aa3 {i:Nat} {s:Sl} (h:QE (env.set i (some s))):EvG B (aa6 i) s env QE:=fun σ G H F v Fv Q I x k=>k _ G H _ _ (I.store x i) (Same.refl _) h
theorem alh (h:QE env):EvGs B gNil [] env QE:=fun σ G H F vs Q I x k=>by cases x;exact ⟨rfl,k σ G H F env I (Same.refl _) h⟩
theorem aft {f:TGs} {d:PyData} {ds:List PyData} (h:EvG B g (.st d) env fun e=>EvGs B f ds e QE):EvGs B (af1 g f) (d :: ds) env QE:=fun σ G H F vs Q I x k=>by
 cases x with
 | cons r rs =>
  refine ⟨_,_,rfl,h σ G H F _ _ _ I (aec r) fun a u i q v l c s=>s a u i q _ Q l (rs.same c) fun b m H2 F2 p j o n=>k b m H2 F2 p j (c.trans o) n⟩
theorem am1 {K:Frag} {n:Nat} {a:TGs} {ds:List PyData} (b:ds.length=n) (h:EvGs B a ds env QE):EvG B (gTup K n a) (.st (.tuple ds)) env QE:=fun σ G H F v Fv Q I x k=>by
 obtain ⟨r,_⟩:=x.ok
 cases r with
 | tup ha rs=>exact ⟨_,_,rfl,SqT.of (I.gh _ _ ha),by rw [rs.length,b],h σ G H F _ Q I rs k⟩
theorem am2 (h:EvO B te env fun s e=>D'.rt s e):EvS B (tRet te) D' env:=fun σ G H F D I r =>
 h σ G H F _ I fun v j a d Fv s i b c g f=>r.rt σ j a d i v Fv s b c g f
theorem ali (h:EvO B te env fun _ e=>D'.nx e):EvS B (anm te) D' env:=fun σ G H F D I r =>
 h σ G H F _ I fun v i a d Fv s g b c j f=>r.nx σ i a d g b c f
theorem awc (h:EvT B c env fun b e=>if b=true then EvS B t D' e else EvS B u D' e):EvS B (tIfS c t u) D' env:=fun σ G H F D I r =>
 h σ G H F _ I fun b i a f j g d q=>by
  cases b with
  | true=>rw [aC5 rfl] at q ⊢;exact q σ i a f D g (r.later d)
  | false=>rw [aC6 ay9] at q ⊢;exact q σ i a f D g (r.later d)
def ForV (B:Bs) (g:TG) (tb:TS) (D':VEnds) (ds:List PyData) (e1:En):Prop:=∃ J:Nat->En->Prop,J 0 e1/\(∀ i d e,ds[i]?=some d->J i e->EvG B g (.st d) e fun e2=>EvS B tb { D' with nx:=J (i+1),ct:=J (i+1),bk:=D'.nx } e2)/\∀ e,J ds.length e->D'.nx e
theorem atr {L:TI} (h:EvI B L env fun ds C=>ForV B g tb D' ds C):EvS B (tFor L g tb) D' env:=fun σ G H F D I r =>
 h σ G H F _ I fun J z H1 W ds C P w it Y=>by
  obtain ⟨O,Q,js,Z⟩:=Y
  refine ⟨fun i m σ H=>m=ds.length - i/\i<=ds.length/\∃ d F2 p,VI B d H σ p F2/\Same z d/\O i p,⟨ds.length,by simp,aD0 _,z,W,C,P,Same.refl _,Q⟩,?_⟩
  rintro i m σ H ⟨rfl,hi,d,F2,p,n,q,N⟩
  by_cases hlt:i < ds.length
  ·refine .inr ⟨it.go i d H q n.gh hlt,fun σ H=>∃ u X K,VI B u H σ K X/\Same z u/\O (i+1) K,fun a0 H' h'=>⟨ds.length - (i+1),by omega,rfl,hlt,h'⟩,fun x H' y=>?_⟩
   obtain ⟨u,o⟩:=it.yld i d H x H' _ q n.gh n.ft (ay0 hlt) y
   have M:=n.out o
   refine js i _ p (ay0 hlt) N σ u H' F2 x _ _ M.1 M.2 fun A S R U e4 I4 g4 T=>?_
   have gg:=q.trans (o.gg.trans g4)
   refine T A S R U _ I4 ⟨fun a c s j b l f E=>⟨c,j,b,l,gg.trans f,E⟩,fun a c s j b v5 v s5 l f=>r.rt a c s j b v5 v s5 l (w.trans (gg.trans f)),fun a c s j b l f=>r.nx a c s j b l (w.trans (gg.trans f)),fun a c s j b l f E=>⟨c,j,b,l,gg.trans f,E⟩⟩
  ·have e:i=ds.length:=by omega
   subst e
   exact .inl ⟨it.stop _ d H q n.gh rfl,r.nx σ d H F2 p n (w.trans q) (Z p N)⟩
theorem ai0 (J:Nat->En->Prop) (x:∃ m,J m env) (h:∀ m e,J m e->EvT B c e fun b E=>if b=true then EvS B tb { D' with nx:=fun f=>∃ d,d < m/\J d f,ct:=fun f=>∃ d,d < m/\J d f,bk:=D'.nx } E else D'.nx E):EvS B (aol c tb) D' env:=fun σ G H F D I r=>by
 obtain ⟨O,x⟩:=x
 refine ⟨fun m σ H=>∃ q F2 f,VI B q H σ f F2/\Same G q/\J m f,⟨O,G,F,env,I,Same.refl _,x⟩,?_⟩
 rintro m σ H ⟨q,F2,f,L,N,P⟩
 refine h m f P σ q H F2 _ L fun b C H3 A K z M p=>?_
 have gg:=N.trans M
 cases b with
 | false=>rw [aC6 ay9] at p ⊢;exact r.nx σ C H3 A K z gg p
 | true =>
  rw [aC5 rfl] at p ⊢
  refine ⟨fun σ H=>∃ s w u,VI B s H σ u w/\Same G s/\∃ d,d < m/\J d u,fun W H' ⟨s,w,u,R,T,d,hm,Q⟩=>⟨d,hm,s,w,u,R,T,Q⟩,?_⟩
  exact p σ C H3 A _ z ⟨fun a i o l g n j y=>⟨i,l,g,n,gg.trans j,y⟩,fun a i o l g U v S n j=>r.rt a i o l g U v S n (gg.trans j),fun a i o l g n j=>r.nx a i o l g n (gg.trans j),fun a i o l g n j y=>⟨i,l,g,n,gg.trans j,y⟩⟩
variable {QI:List PyData->En->Prop}
theorem aqu {K:Frag} (h:Ev B te env fun d e=>∃ ds,d=.list ds/\QI ds e):EvI B (ar2 K te) env QI:=fun σ G H F R I k =>
 h σ G H F _ I fun v n c l d r b f o q=>by
  obtain ⟨ds,p,m⟩:=q
  subst p
  cases o with
  | @lst a vs ds ha rs =>
   refine ⟨a,rfl,⟨vs,SqL.of (b.gh _ _ ha)⟩,k _ n c l ds r b f ⟨fun i G' H' g h hi=>?_,fun i G' H' g h hi=>?_,fun i G' H' x H'' d g h ft hd y=>?_⟩ m⟩
   ·have:i < vs.length:=by rw [rs.length];exact hi
    exact ⟨vs,vs[i],SqL.of (h _ _ (g _ _ ha)),ay0 this⟩
   ·exact ⟨vs,SqL.of (h _ _ (g _ _ ha)),by rw [rs.length];exact Nat.le_of_eq hi.symm⟩
   ·obtain ⟨e,y⟩:=y
    subst e
    obtain ⟨v,j,s⟩:=rs.get hd
    have:=y vs (SqL.of (h _ _ (g _ _ ha)))
    rw [j] at this
    cases this
    exact ⟨G',Out.refl h (s.same g)⟩
theorem awd {ds:List PyData} {R:List PyData->Prop} (h:R ds):∃ xs,PyData.list ds=.list xs/\R xs:=⟨ds,rfl,h⟩
def rngD (lo:Int) (n:Nat):List PyData:=(List.range n).map fun (i:Nat) => .int (lo+(i:Int))
theorem aci {lo:Int} {n:Nat}:(rngD lo n).length=n:=by simp [rngD]
theorem ae5 {lo:Int} {n i:Nat} {d:PyData} (h:(rngD lo n)[i]?=some d):i < n/\d=.int (lo+(i:Int)):=by
 unfold rngD at h
 rw [ay5] at h
 have hi:i < n:=by
  have:=(ay1 (l:=(List.range n).map fun (i:Nat)=>PyData.int (lo+(i:Int)))).mp (by rw [ay5];exact h)
  obtain ⟨q,_⟩:=this
  simpa using q
 rw [ay0 (by simpa using hi)] at h
 simp at h
 exact ⟨hi,h.symm⟩
theorem ape {G:Hp} {lo:Int} {n:Nat}:ItOk G (Itr lo n) (rngD lo n):=by
 refine ⟨fun i G' H' g h hi=>?_,fun i G' H' g h hi=>?_,fun i G' H' x H'' d g h ft hd y=>?_⟩
 ·rw [aci] at hi;exact hi
 ·rw [aci] at hi;exact Nat.le_of_eq hi.symm
 ·obtain ⟨e,y⟩:=y
  subst e y
  rw [(ae5 hd).2]
  exact ⟨G',Out.refl h (.int _)⟩
def aj5 (ds:List PyData) (R:List PyData->Prop):Prop:=∃ j:Int,ds=[.int j]/\-(2 ^ 62)<=j/\j < 2 ^ 62/\R (rngD 0 j.toNat)
def aj6 (ds:List PyData) (R:List PyData->Prop):Prop:=∃ i j:Int,ds=[.int i,.int j]/\(-(2 ^ 62)<=i/\i < 2 ^ 62/\-(2 ^ 62)<=j/\j < 2 ^ 62)/\R (rngD i (j - i).toNat)
theorem aqv {a:TA} (h:EvA B a env fun ds e=>aj5 ds fun xs=>QI xs e):EvI B (ano a) env QI:=fun σ G H F R I k =>
 h σ G H F _ I fun vs q b i ds p d f m o=>by
  obtain ⟨j,n,g,c,l⟩:=o
  subst n
  obtain rfl:vs=[V.int j]:=Rps.ints_inv (ns:=[j]) m
  exact ⟨j,rfl,g,c,k _ q b i _ p d f ape l⟩
theorem aqw {a:TA} (h:EvA B a env fun ds e=>aj6 ds fun xs=>QI xs e):EvI B (ar3 a) env QI:=fun σ G H F R I k =>
 h σ G H F _ I fun vs q b g ds p c d m o=>by
  obtain ⟨i,j,n,f,l⟩:=o
  subst n
  obtain rfl:vs=[V.int i,V.int j]:=Rps.ints_inv (ns:=[i,j]) m
  exact ⟨i,j,rfl,f,k _ q b g _ p c d ape l⟩
theorem awe {j:Int} {R:List PyData->Prop} (b : -4611686018427387904<=j) (a:j < 4611686018427387904) (h:R (rngD 0 j.toNat)):aj5 [.int j] R:=⟨j,rfl,by omega,by omega,h⟩
theorem awf {a b:Int} {R:List PyData->Prop} (c : -4611686018427387904<=a/\a < 4611686018427387904/\-4611686018427387904<=b/\b < 4611686018427387904) (h:R (rngD a (b - a).toNat)):aj6 [.int a,.int b] R:=⟨a,b,rfl,by omega,h⟩
theorem acr {lo:Int} {n:Nat} (J:Nat->En->Prop) (a:J 0 env) (c:∀ i e,i < n->J i e->EvG B g (.st (.int (lo+(i:Int)))) e fun b=>EvS B tb { D' with nx:=J (i+1),ct:=J (i+1),bk:=D'.nx } b) (hd:∀ e,J n e->D'.nx e):ForV B g tb D' (rngD lo n) env :=
 ⟨J,a,fun i d e h j=>by obtain ⟨hi,rfl⟩:=ae5 h;exact c i e hi j,fun e j=>hd e (by rw [aci] at j;exact j)⟩
theorem ac6 {α:Type} {f : α->PyData} {xs:List α} (J:Nat->En->Prop) (a:J 0 env) (c:∀ i x e,xs[i]?=some x->J i e->EvG B g (.st (f x)) e fun b=>EvS B tb { D' with nx:=J (i+1),ct:=J (i+1),bk:=D'.nx } b) (hd:∀ e,J xs.length e->D'.nx e):ForV B g tb D' (xs.map f) env :=
 ⟨J,a,fun i d e h j=>by
  rw [ay5] at h
  cases hx:xs[i]? with
  | none=>rw [hx] at h;cases h
  | some x=>rw [hx] at h;cases h;exact c i x e hx j,fun e j=>hd e (by rw [ay3] at j;exact j)⟩
end
theorem alj {B:Bs} {a b:TS} {D':VEnds} {env:En} (h:∀ c:TS,c=b->EvS B a { D' with nx:=fun e=>EvS B c D' e } env):EvS B (tSeq a b) D' env:=atp (h b rfl)
theorem am3 {B:Bs} {c b:TS} {D':VEnds} {env:En} (e:c=b) (h:EvS B b D' env):EvS B c D' env:=by rw [e];exact h
@[elab_as_elim] theorem exS1 {c:Type} {σ:Type} {f : c->σ} {p : c->Prop} {a : σ->Prop} (s : σ) (h:∃ b,s=f b/\p b) (k:∀ b,p b->a (f b)):a s:=by
 obtain ⟨b,e,h⟩:=h
 rw [e];exact k _ h
@[elab_as_elim] theorem exE1 {c:Type} {σ:Type} {f : c->σ} {a : σ->Prop} (s : σ) (h:∃ b,s=f b) (k:∀ b,a (f b)):a s:=by
 obtain ⟨b,e⟩:=h
 rw [e];exact k _
@[elab_as_elim] theorem exS2 {g:Type} {d:Type} {σ:Type} {f : g->d->σ} {p : g->d->Prop} {a : σ->Prop} (s : σ) (h:∃ b c,s=f b c/\p b c) (k:∀ b c,p b c->a (f b c)):a s:=by
 obtain ⟨b,c,e,h⟩:=h
 rw [e];exact k _ _ h
@[elab_as_elim] theorem exS3 {i:Type} {g:Type} {j:Type} {σ:Type} {f : i->g->j->σ} {p : i->g->j->Prop} {a : σ->Prop} (s : σ) (h:∃ b d c,s=f b d c/\p b d c) (k:∀ b d c,p b d c->a (f b d c)):a s:=by
 obtain ⟨b,d,c,e,h⟩:=h
 rw [e];exact k _ _ _ h
@[elab_as_elim] theorem exE3 {i:Type} {g:Type} {j:Type} {σ:Type} {f : i->g->j->σ} {a : σ->Prop} (s : σ) (h:∃ b d c,s=f b d c) (k:∀ b d c,a (f b d c)):a s:=by
 obtain ⟨b,d,c,e⟩:=h
 rw [e];exact k _ _ _
@[elab_as_elim] theorem exS4 {j:Type} {i:Type} {l:Type} {m:Type} {σ:Type} {f : j->i->l->m->σ} {p : j->i->l->m->Prop} {a : σ->Prop} (s : σ) (h:∃ c g d b,s=f c g d b/\p c g d b) (k:∀ c g d b,p c g d b->a (f c g d b)):a s:=by
 obtain ⟨c,g,d,b,e,h⟩:=h
 rw [e];exact k _ _ _ _ h
@[elab_as_elim] theorem exS5 {m:Type} {l:Type} {n:Type} {o:Type} {j:Type} {σ:Type} {f : m->l->n->o->j->σ} {p : m->l->n->o->j->Prop} {a : σ->Prop} (s : σ) (h:∃ i g d c b,s=f i g d c b/\p i g d c b) (k:∀ i g d c b,p i g d c b->a (f i g d c b)):a s:=by
 obtain ⟨i,g,d,c,b,e,h⟩:=h
 rw [e];exact k _ _ _ _ _ h
@[elab_as_elim] theorem exE5 {m:Type} {l:Type} {n:Type} {o:Type} {j:Type} {σ:Type} {f : m->l->n->o->j->σ} {a : σ->Prop} (s : σ) (h:∃ d i g c b,s=f d i g c b) (k:∀ d i g c b,a (f d i g c b)):a s:=by
 obtain ⟨d,i,g,c,b,e⟩:=h
 rw [e];exact k _ _ _ _ _
@[elab_as_elim] theorem exS6 {n:Type} {m:Type} {o:Type} {r:Type} {l:Type} {q:Type} {σ:Type} {f : n->m->o->r->l->q->σ} {p : n->m->o->r->l->q->Prop} {a : σ->Prop} (s : σ) (h:∃ b i j g d c,s=f b i j g d c/\p b i j g d c) (k:∀ b i j g d c,p b i j g d c->a (f b i j g d c)):a s:=by
 obtain ⟨b,i,j,g,d,c,e,h⟩:=h
 rw [e];exact k _ _ _ _ _ _ h
@[elab_as_elim] theorem exE6 {n:Type} {m:Type} {o:Type} {q:Type} {l:Type} {p:Type} {σ:Type} {f : n->m->o->q->l->p->σ} {a : σ->Prop} (s : σ) (h:∃ b i j g d c,s=f b i j g d c) (k:∀ b i j g d c,a (f b i j g d c)):a s:=by
 obtain ⟨b,i,j,g,d,c,e⟩:=h
 rw [e];exact k _ _ _ _ _ _
@[elab_as_elim] theorem exS7 {o:Type} {n:Type} {q:Type} {v:Type} {m:Type} {r:Type} {u:Type} {σ:Type} {f : o->n->q->v->m->r->u->σ} {p : o->n->q->v->m->r->u->Prop} {a : σ->Prop} (s : σ) (h:∃ b j l i g d c,s=f b j l i g d c/\p b j l i g d c) (k:∀ b j l i g d c,p b j l i g d c->a (f b j l i g d c)):a s:=by
 obtain ⟨b,j,l,i,g,d,c,e,h⟩:=h
 rw [e];exact k _ _ _ _ _ _ _ h
theorem big {n:Nat} (h:n<=1000000):n < sizeLine:=aB7 h (by decide)
section
variable {B B1:Bs} {G H G' H':Hp} {σ σI:St} {env envI:En} {F F':Nat->Addr->Prop} {v:V} {s:Sl} {Fv:Addr->Prop} {inv:Nat->Option Nat}
open Classical in
def ack (H:Hp) (F:Nat->Addr->Prop) (inv:Nat->Option Nat):Hp:=fun a=>if ∃ i j,inv i=some j/\F i a then none else H a
theorem ae6 {i j:Nat} {a:Addr} (h:inv i=some j) (f:F i a):ack H F inv a=none:=aC5 ⟨i,j,h,f⟩
theorem agv {a:Addr} (h:∀ i j,inv i=some j->¬ F i a):ack H F inv a=H a:=aC6 fun ⟨i,j,x,y⟩=>h i j x y
theorem ade:Same (ack H F inv) H:=fun a o e=>by
 unfold ack at e
 split at e
 ·cases e
 ·exact e
theorem VI.enter (I:VI B G H σ env F) (inj:∀ i b j,inv i=some j->inv b=some j->i=b) (ln : σI.length=envI.length)
  (sl:∀ j s,envI[j]?=some (some s)->∃ v,σI[j]?=some (some v)/\((∃ d,s=.st d/\Rp G v d/\∀ i,inv i ≠ some j)\/(∃ ns a,s=.scr ns/\v=.ref a/\SqL B.K G a (ns.map V.int)/\∀ i,inv i ≠ some j) ∨
   ∃ i A,inv i=some j/\s=.io A/\σ[i]?=some (some v)/\(env[i]?=some (some (.own A))\/env[i]?=some (some (.io A))))) :
  VI ⟨B.K,G,H,ack H F inv,σI,fun j a=>∃ i,inv i=some j/\F i a⟩ G H σI envI (fun j a=>∃ i,inv i=some j/\F i a) where
 gh:=I.gh
 g0:=Same.refl _
 gn:=fun a o e => .inl e
 rs:=ade
 rb:=ade
 bh:=fun a o e=>⟨o,e⟩
 fg:=fun j a ⟨i,_,z⟩=>I.fg i a z
 fr:=fun j a ⟨i,h,z⟩=>ae6 h z
 fd:=fun j k a ⟨i,h,z⟩ ⟨b,h',w⟩=>by
  have:=I.fd i b a z w
  subst this
  rw [h] at h';cases h';rfl
 fo:=fun j a ⟨i,h,z⟩=>I.fo i a z
 sl:=fun j s e=>by
  obtain ⟨v,l,q⟩:=sl j s e
  refine ⟨v,l,?_⟩
  rcases q with ⟨d,rfl,r,n⟩ | ⟨ns,a,rfl,rfl,q,n⟩ | ⟨i,A,hi,rfl,m,c⟩
  ·exact ⟨r,fun a ⟨i,h,_⟩=>n i h⟩
  ·exact ⟨⟨a,rfl,q⟩,fun a ⟨i,h,_⟩=>n i h⟩
  ·refine ⟨?_,fun a z => .inl z,l⟩
   have p:(fun a=>∃ b,inv b=some j/\F b a)=F i:=by
    funext a
    exact propext ⟨fun ⟨b,h,z⟩=>by rw [inj i b j hi h];exact z,fun z=>⟨i,hi,z⟩⟩
   show A.P G H v (fun a=>∃ b,inv b=some j/\F b a)
   rw [p]
   rcases c with c | c
   ·obtain ⟨u,f,g⟩:=I.sl i _ c
    rw [m] at f;cases f;exact g.1
   ·obtain ⟨u,f,g⟩:=I.sl i _ c
    rw [m] at f;cases f;exact g.1
 ln:=ln
 ft:=I.ft
theorem VI.leave (I:VI B G H σ env F) (inj:∀ i p j,inv i=some j->inv p=some j->i=p) (r:B1.G=G) (m:B1.H=H) (K:∀ a o,H a=some o->(∀ i j,inv i=some j->¬ F i a)->B1.R a=some o)
  (D:∀ i j,inv i=some j->∀ a,B1.F j a->F i a) (C:∀ i j,inv i=some j->B1.S[j]? = σ[i]?) (J:VI B1 G' H' σI envI F') (io:∀ i j,inv i=some j->∃ A',envI[j]?=some (some (.io A'))) {env2:En} (N:env2.length=env.length)
  (L:∀ i s,env2[i]?=some (some s)->(inv i=none/\env[i]?=some (some s))\/∃ j A A',inv i=some j/\envI[j]?=some (some (.io A'))/\((env[i]?=some (some (.own A))/\s=.own A')\/(env[i]?=some (some (.io A))/\s=.io A'))) :
  VI B G' H' σ env2 (fun i a=>match inv i with | some j=>F' j a | none=>F i a):=by
 have b:∀ a o,G' a=some o->G a=some o\/H a=none:=fun a o e=>by
  have:=J.gn a o e
  rw [r,m] at this;exact this
 have fi:∀ i j a,inv i=some j->F' j a->F i a\/H a=none:=fun i j a hi z=>by
  obtain ⟨A',e⟩:=io i j hi
  obtain ⟨v,_,q⟩:=J.sl j _ e
  rcases q.2.1 a z with y | y
  ·exact .inl (D i j hi a y)
  ·rw [m] at y;exact .inr y
 have kp:∀ a o,H a=some o->(∀ i j,inv i=some j->¬ F i a)->H' a=some o:=fun a o e n=>J.rs a o (K a o e n)
 refine ⟨J.gh,I.g0.trans (r ▸ J.g0),fun a o e=>?_,fun a o e=>?_,I.rb,fun a o e=>?_,fun i a z=>?_,fun i a z=>?_,fun i k a y z=>?_,fun i a z=>?_,fun i t e=>?_,by rw [N];exact I.ln,J.ft⟩
 ·rcases b a o e with e | e
  ·exact I.gn a o e
  ·exact .inr (I.no_b e)
 ·refine kp a o (I.rs a o e) fun i j _ z=>?_
  rw [I.fr i a z] at e;cases e
 ·obtain ⟨E,f⟩:=I.bh a o e
  exact J.bh a E (by rw [m];exact f)
 ·cases hi:inv i with
  | some j=>rw [hi] at z;exact J.fg j a z
  | none =>
   rw [hi] at z
   cases e:G' a with
   | none=>rfl
   | some o =>
    rcases b a o e with e | e
    ·rw [I.fg i a z] at e;cases e
    ·exact absurd z (I.no_f e i)
 ·cases hi:inv i with
  | some j =>
   rw [hi] at z
   rcases fi i j a hi z with y | y
   ·exact I.fr i a y
   ·exact I.no_r y
  | none=>rw [hi] at z;exact I.fr i a z
 ·cases hi:inv i with
  | some j =>
   rw [hi] at y
   cases hk:inv k with
   | some l =>
    rw [hk] at z
    have:=J.fd j l a y z
    subst this
    exact inj i k j hi hk
   | none =>
    rw [hk] at z
    rcases fi i j a hi y with x | x
    ·exact I.fd i k a x z
    ·exact absurd z (I.no_f x k)
  | none =>
   rw [hi] at y
   cases hk:inv k with
   | some l =>
    rw [hk] at z
    rcases fi k l a hk z with x | x
    ·exact I.fd i k a y x
    ·exact absurd y (I.no_f x i)
   | none=>rw [hk] at z;exact I.fd i k a y z
 ·cases hi:inv i with
  | some j=>rw [hi] at z;exact J.fo j a z
  | none =>
   rw [hi] at z
   obtain ⟨o,e⟩:=I.fo i a z
   exact J.bh a o (by rw [m];exact e)
 ·rcases L i t e with ⟨hi,f⟩ | ⟨j,A,A',hi,f,c⟩
  ·obtain ⟨v,u,q⟩:=I.sl i t f
   refine ⟨v,u,?_⟩
   simp only [hi]
   refine q.mono (r ▸ J.g0) fun a o z y=>kp a o y fun p P g M=>?_
   have:=I.fd i p a z M
   subst this
   rw [hi] at g;cases g
  ·obtain ⟨v,u,q⟩:=J.sl j _ f
   have w : σ[i]?=some (some v):=by rw [← C i j hi];exact q.2.2
   refine ⟨v,w,?_⟩
   simp only [hi]
   rcases c with ⟨c,rfl⟩ | ⟨c,rfl⟩
   ·obtain ⟨O,_,h⟩:=I.sl i _ c
    refine ⟨q.1,fun a z=>?_⟩
    rcases fi i j a hi z with y | y
    ·exact h.2 a y
    ·exact I.no_b y
   ·obtain ⟨O,d,h⟩:=I.sl i _ c
    rw [w] at d;cases d
    refine ⟨q.1,fun a z=>?_,h.2.2⟩
    rcases fi i j a hi z with y | y
    ·exact h.2.1 a y
    ·exact .inr (I.no_b y)
theorem RsX.leave (I:VI B G H σ env F) (b:B1.H=H) (r:RsX B1 G' H' v Fv s F'):RsX B G' H' v Fv s (fun i a=>match inv i with | some j=>F' j a | none=>F i a):=by
 have hn:∀ a,Fv a->H a=none:=fun a z=>b ▸ r.fb a z
 refine ⟨r.ok,fun a z=>I.no_b (hn a z),r.fg,r.fo,fun i a z y=>?_⟩
 cases hi:inv i with
 | some j=>rw [hi] at y;exact r.fd j a z y
 | none=>rw [hi] at y;exact I.no_f (hn a z) i y
end
abbrev VP:=List Sl->(Sl->Prop)->Prop
abbrev VIo:=Own->List Sl->(Own->Sl->Prop)->Prop
def noF:Nat->Addr->Prop:=fun _ _=>False
def bsP (K:Frag) (G H:Hp) (vs:List V):Bs:=⟨K,G,H,H,vs.map some,noF⟩
def ase (K:Frag) (G:Hp):V->Sl->Prop
 | v,.st d=>Rp G v d
 | v,.scr ns=>∃ a,v=.ref a/\SqL K G a (ns.map V.int)
 | _,_=>False
inductive ArgsOk (K:Frag) (G:Hp):List V->List Sl->Prop
 | nil:ArgsOk K G [] []
 | cons {v:V} {s:Sl} {vs:List V} {ss:List Sl}:ase K G v s->ArgsOk K G vs ss->ArgsOk K G (v :: vs) (s :: ss)
theorem ArgsOk.length {K:Frag} {G:Hp}:∀ {vs:List V} {ss:List Sl},ArgsOk K G vs ss->vs.length=ss.length
 | _,_,.nil=>rfl
 | _,_,.cons _ t=>by simp [ArgsOk.length t]
theorem ArgsOk.get {K:Frag} {G:Hp}:∀ {vs:List V} {ss:List Sl} {i:Nat} {s:Sl},ArgsOk K G vs ss->ss[i]?=some s->∃ v,vs[i]?=some v/\ase K G v s
 | _,_,_,_,.nil,e=>by simp at e
 | _,_,0,_,.cons r _,e=>by simp at e;subst e;exact ⟨_,rfl,r⟩
 | _,_,i+1,s,.cons _ t,e=>by
  obtain ⟨u,b,a⟩:=ArgsOk.get (i:=i) (s:=s) t (by simpa using e)
  exact ⟨u,by simpa using b,a⟩
theorem ArgsOk.of {K:Frag} {G:Hp}:∀ {vs:List V} {ds:List PyData},Rps G vs ds->ArgsOk K G vs (ds.map Sl.st)
 | _,_,.nil => .nil
 | _,_,.cons r t => .cons r (ArgsOk.of t)
theorem am4 {α:Type} {xs:List α} {n i:Nat} {s : α} (e:(xs.map some ++ List.replicate n none)[i]?=some (some s)):xs[i]?=some s:=by
 by_cases h:i < xs.length
 ·rw [aA2 (by simpa using h),ay5] at e
  rw [ay0 h] at e ⊢
  simpa using e
 ·rw [aA7 (by simpa using h),aE7] at e
  split at e <;> cases e
theorem am5 {α:Type} {xs:List α} {n i:Nat} {s : α} (e:xs[i]?=some s):(xs.map some ++ List.replicate n none)[i]?=some (some s):=by
 have h:i < xs.length:=(ay1.mp e).1
 rw [aA2 (by simpa using h),ay5,e];rfl
def spP (K:Frag) (f:VP):Sp:=fun vs H Q _=>∃ G ss Q',Same G H/\FT G H/\ArgsOk K G vs ss/\f ss Q'/\∀ s,Q' s->∀ v G' H' Fv,Out G H v G' H' s Fv->Q v H'
structure OutI (G H R:Hp) (F0:Addr->Prop) (v0:V) (A':Own) (s:Sl) (v:V) (G' H':Hp) (F' Fv:Addr->Prop):Prop where
 gg:Same G G'
 gh:Same G' H'
 ft:FT G' H'
 gn:∀ a o,G' a=some o->G a=some o\/H a=none
 rs:Same R H'
 bh:∀ a o,H a=some o->∃ o',H' a=some o'
 ap:A'.P G' H' v0 F'
 fi:∀ a,F' a->F0 a\/H a=none
 fg:∀ a,F' a->G' a=none
 ok:RsOk G' H' v Fv s
 fv:∀ a,Fv a->H a=none/\G' a=none/\(∃ o,H' a=some o)/\¬ F' a
def spI (K:Frag) (f:VIo):Sp:=fun vs H Q _=>∃ v0 vr G R A ss F0 Q',vs=v0 :: vr/\Same G H/\FT G H/\Same R H/\A.P G H v0 F0/\(∀ a,F0 a->G a=none)/\(∀ a,F0 a->R a=none)/\ArgsOk K G vr ss /\
 f A ss Q'/\∀ A' s,Q' A' s->∀ v G' H' F' Fv,OutI G H R F0 v0 A' s v G' H' F' Fv->Q v H'
theorem abm {K:Frag} {f:VP} {l:TS} {N:List Str} {vs:List V} {H:Hp} {Q:VK} {E:XK} (h:spP K f vs H Q E)
  (hb:∀ ss b,f ss b->∀ B,B.K=K->EvS B l { nx:=fun _=>b (.st .none),rt:=fun s _=>b s } (ss.map some ++ List.replicate (N.length - ss.length) none)):l { nx:=fun _ H'=>Q .non H',rt:=Q } (L2.start N vs) H:=by
 obtain ⟨G,ss,b,gh,ft,m,hf,c⟩:=h
 have fin:∀ {σ G' H' F env v Fv s},VI (bsP K G H vs) G' H' σ env F->RsX (bsP K G H vs) G' H' v Fv s F->Out G H v G' H' s Fv:=fun I r =>
  ⟨I.g0,I.gh,I.rs,I.gn,r.fb,r.fg,r.fo,r.ok,fun _=>I.ft⟩
 refine hb ss _ hf (bsP K G H vs) rfl (L2.start N vs) G H noF _ ?_ ⟨fun σ G' H' F env I g q=>c _ q _ _ _ _ (fin I (aec .non)),fun σ G' H' F env v Fv s I g r q=>c _ q v G' H' Fv (fin I r),fun _ _ _ _ _ _ _ q=>q,fun _ _ _ _ _ _ _ q=>q⟩
 refine ⟨gh,Same.refl _,fun a o e => .inl e,Same.refl _,Same.refl _,fun a o e=>⟨o,e⟩,fun i a z=>z.elim,fun i a z=>z.elim,fun i j a z=>z.elim,fun i a z=>z.elim,fun i s e=>?_,?_,ft⟩
 ·obtain ⟨v,n,q⟩:=m.get (am4 e)
  refine ⟨v,by unfold L2.start;exact am5 n,?_⟩
  cases s with
  | st d=>exact ⟨q,fun a z=>z⟩
  | scr ns=>exact ⟨q,fun a z=>z⟩
  | own A=>exact q.elim
  | io A=>exact q.elim
 ·unfold L2.start;simp [m.length]
theorem an7 {K:Frag} {f:VIo} {p:TS} {N:List Str} {vs:List V} {H:Hp} {Q:VK} {E:XK} (h:spI K f vs H Q E)
  (hb:∀ A ss c,f A ss c->∀ B,B.K=K->EvS B p { nx:=fun e=>∃ A',e[0]?=some (some (.io A'))/\c A' (.st .none),rt:=fun s e=>∃ A',e[0]?=some (some (.io A'))/\c A' s } (some (.io A) :: (ss.map some ++ List.replicate (N.length - (ss.length+1)) none))):p { nx:=fun _ H'=>Q .non H',rt:=Q } (L2.start N vs) H:=by
 obtain ⟨v0,b,G,R,A,ss,F0,c,rfl,gh,ft,n,ap,fg,fr,l,hf,J⟩:=h
 have O:(v0 :: b).length=ss.length+1:=by simp [l.length]
 refine hb A ss _ hf ⟨K,G,H,R,(v0 :: b).map some,fun i a=>i=0/\F0 a⟩ rfl (L2.start N (v0 :: b)) G H (fun i a=>i=0/\F0 a) _ ?_ ?_
 ·refine ⟨gh,Same.refl _,fun a o e => .inl e,n,n,fun a o e=>⟨o,e⟩,fun i a z=>fg a z.2,fun i a z=>fr a z.2,fun i j a z y=>by rw [z.1,y.1],fun i a z=>A.dom ap a z.2,fun i s e=>?_,?_,ft⟩
  ·cases i with
   | zero =>
    simp at e
    subst e
    refine ⟨v0,rfl,?_,fun a z => .inl z,rfl⟩
    have:(fun a=>0=0/\F0 a)=F0:=by funext a;simp
    rw [this];exact ap
   | succ i =>
    have M:(ss.map some ++ List.replicate (N.length - (ss.length+1)) none)[i]?=some (some s):=by simpa using e
    obtain ⟨v,C,q⟩:=l.get (am4 M)
    refine ⟨v,?_,?_⟩
    ·unfold L2.start;exact am5 (by simpa using C)
    ·cases s with
     | st d=>exact ⟨q,fun a z=>by cases z.1⟩
     | scr ns=>exact ⟨q,fun a z=>by cases z.1⟩
     | own A=>exact q.elim
     | io A=>exact q.elim
  ·unfold L2.start;simp [l.length]
 ·have fin:∀ σ G' H' F env v Fv s,VI ⟨K,G,H,R,(v0 :: b).map some,fun i a=>i=0/\F0 a⟩ G' H' σ env F->RsX ⟨K,G,H,R,(v0 :: b).map some,fun i a=>i=0/\F0 a⟩ G' H' v Fv s F->(∃ A',env[0]?=some (some (.io A'))/\c A' s)->Q v H':=by
   intro σ G' H' F env v Fv s I r ⟨A',e,q⟩
   obtain ⟨u,L,D,x,w⟩:=I.sl 0 _ e
   have:u=v0:=by
    have m:((v0 :: b).map some)[0]?=some (some u):=w
    simpa using m.symm
   subst this
   exact J A' s q v G' H' (F 0) Fv ⟨I.g0,I.gh,I.ft,I.gn,I.rs,I.bh,D,fun a z=>by
    rcases x a z with y | y
    ·exact .inl y.2
    ·exact .inr y,I.fg 0,r.ok,fun a z=>⟨r.fb a z,r.fg a z,r.fo a z,r.fd 0 a z⟩⟩
  refine ⟨fun σ G' H' F env I g q=>fin σ G' H' F env .non _ (.st .none) I (aec .non) q,fun σ G' H' F env v Fv s I g r q=>fin σ G' H' F env v Fv s I r q,fun _ _ _ _ _ _ _ q=>q,fun _ _ _ _ _ _ _ q=>q⟩
section
variable {B:Bs} {env:En} {Q':PyData->En->Prop} {QO:Sl->En->Prop} {K:Frag} {E:XK}
theorem ai1 {f:VP} {t:TA} (h:EvA B t env fun ds b=>f (ds.map Sl.st) fun s=>QO s b):EvO B (ab9 (spP K f) [] E t) env QO:=fun σ G H F Q I k=>by
 unfold ab9
 simp only [aC2]
 exact h σ G H F _ I fun vs j l d ds b a c i g=>⟨j,_,_,a.gh,a.ft,ArgsOk.of i,g,fun s q v G' H' Fv o=>k v G' H' d Fv s b (a.out o).1 (c.trans o.gg) (a.out o).2 q⟩
theorem aqx {f:VP} {t:TA} (h:EvA B t env fun ds a=>f (ds.map Sl.st) fun s=>FQ s fun d=>Q' d a):Ev B (ab9 (spP K f) [] E t) env Q':=abl (ai1 h)
theorem apf {f:VP} {t:TA} {i:Nat} {ns:List Int} (e:env[i]?=some (some (.scr ns))) (g:B.K=K) (h:EvA B t env fun ds c=>f (.scr ns :: ds.map Sl.st) fun s=>QO s c):EvO B (ab9 (spP K f) [] E (abu (tVar i) t)) env QO:=fun σ G H F Q I k=>by
 subst g
 unfold ab9
 simp only [aC2]
 obtain ⟨v0,j,⟨a,r,p⟩,_⟩:=I.sl i _ e
 refine ⟨v0,j,h σ G H F _ I fun vs u w l ds c b d n m=>⟨u,_,_,b.gh,b.ft,.cons (s:=.scr ns) ⟨a,r,d.seq p⟩ (ArgsOk.of n),m,fun s q v G' H' Fv o=>k v G' H' l Fv s c (b.out o).1 (d.trans o.gg) (b.out o).2 q⟩⟩
def reS:Sl->Own->Sl
 | .io _,A => .io A
 | _,A => .own A
theorem ai2 {f:VIo} {t:TA} {i:Nat} (W:∃ s,env[i]?=some (some s)) (h:EvA B t env fun ds D=>∃ w A,D[i]?=some (some w)/\(w=.own A\/w=.io A)/\f A (ds.map Sl.st) fun A' s=>QO s (D.set i (some (reS w A')))):EvO B (ab9 (spI K f) [] E (abu (tVar i) t)) env QO:=fun σ G H F Q I k=>by
 unfold ab9
 simp only [aC2]
 obtain ⟨s,e⟩:=W
 obtain ⟨v0,O,_⟩:=I.sl i _ e
 refine ⟨v0,O,h σ G H F _ I fun vs N p m ds D r S U ⟨w,A,M,R,T⟩=>?_⟩
 obtain ⟨Z,C,q⟩:=r.sl i _ M
 rw [O] at C;cases C
 have ap:A.P N p v0 (m i):=by
  rcases R with rfl | rfl
  ·exact q.1
  ·exact q.1
 let inv:Nat->Option Nat:=fun j=>if j=i then some 0 else none
 have d:inv i=some 0:=aC5 rfl
 have g:∀ j,j ≠ i->inv j=none:=fun j h=>aC6 h
 have c:∀ j l,inv j=some l->j=i/\l=0:=fun j l h=>by
  by_cases hj:j=i
  ·subst hj;rw [d] at h;cases h;exact ⟨rfl,rfl⟩
  ·rw [g j hj] at h;cases h
 refine ⟨v0,vs,N,ack p m inv,A,_,m i,_,rfl,r.gh,r.ft,ade,ap,r.fg i,fun a z=>ae6 d z,ArgsOk.of U,T,fun A' s q v G' H' F' Fv o=>?_⟩
 have hi:i < D.length:=(ay1.mp M).1
 have J:VI ⟨K,N,p,ack p m inv,[some v0],fun j a=>j=0/\m i a⟩ G' H' [some v0] [some (.io A')] (fun j a=>j=0/\F' a):=by
  refine ⟨o.gh,o.gg,o.gn,o.rs,ade,o.bh,fun j a z=>o.fg a z.2,fun j a z=>?_,fun j l a y z=>by rw [y.1,z.1],fun j a z=>A'.dom o.ap a z.2,fun j s e=>?_,rfl,o.ft⟩
  ·rcases o.fi a z.2 with y | y
   ·exact ae6 d y
   ·cases e:ack p m inv a with
    | none=>exact e
    | some u=>rw [ade a u e] at y;cases y
  ·cases j with
   | zero =>
    simp at e
    subst e
    refine ⟨v0,rfl,?_,fun a z=>?_,rfl⟩
    ·have:(fun a=>0=0/\F' a)=F':=by funext a;simp
     rw [this];exact o.ap
    ·rcases o.fi a z.2 with y | y
     ·exact .inl ⟨rfl,y⟩
     ·exact .inr y
   | succ j=>simp at e
 have L:=r.leave (inv:=inv) (env2:=D.set i (some (reS w A'))) (fun a b j ha hb=>by rw [(c a j ha).1,(c b j hb).1]) rfl rfl (fun a u e n=>by show ack p m inv a=_;rw [agv n];exact e)
  (fun a j ha x z=>by rw [(c a j ha).1];exact z.2) (fun a j ha=>by rw [(c a j ha).1,(c a j ha).2,O];rfl) J (fun a j ha=>⟨A',by rw [(c a j ha).2];rfl⟩) (by simp) fun j Y e=>by
   by_cases hj:j=i
   ·subst hj
    rw [aB1,aC5 rfl,aC5 hi] at e
    cases e
    refine .inr ⟨0,A,A',d,rfl,?_⟩
    rcases R with rfl | rfl
    ·exact .inl ⟨M,rfl⟩
    ·exact .inr ⟨M,rfl⟩
   ·rw [aB1,aC6 (fun z=>hj z.symm)] at e
    exact .inl ⟨g j hj,e⟩
 have X:RsX ⟨K,N,p,ack p m inv,[some v0],fun j a=>j=0/\m i a⟩ G' H' v Fv s (fun j a=>j=0/\F' a):=⟨o.ok,fun a z=>(o.fv a z).1,fun a z=>(o.fv a z).2.1,fun a z=>(o.fv a z).2.2.1,fun j a z y=>(o.fv a z).2.2.2 y.2⟩
 exact k v G' H' _ Fv s _ L (S.trans o.gg) (X.leave (inv:=inv) r rfl) q
end
def ahf:Option Sl->Option Sl
 | some (.own A)=>some (.io A)
 | s=>s
def aav (src:List (Option Nat)) (env:En):En:=src.map fun o=>match o with | some j=>ahf ((env[j]?).getD none) | none=>none
def isIo:Option Sl->Bool
 | some (.io _)=>true
 | _=>false
def idxE (i:Nat):List (Option Nat)->Nat->Option Nat
 | [],_=>none
 | o :: r,k=>if o=some i then some k else idxE i r (k+1)
def af5 (src:List (Option Nat)) (e:En) (i:Nat) (s:Option Sl):Option Sl :=
 match s with
 | some (.own A)=>(match idxE i src 0 with | some j=>(match e[j]? with | some (some (.io A'))=>some (.own A') | _=>none) | none=>some (.own A))
 | some (.io A)=>(match idxE i src 0 with | some j=>(match e[j]? with | some (some (.io A'))=>some (.io A') | _=>none) | none=>some (.io A))
 | s=>s
def aey (src:List (Option Nat)) (e:En):Nat->En->En
 | _,[]=>[]
 | k,s :: r=>af5 src e k s :: aey src e (k+1) r
def ahg (src:List (Option Nat)) (e1 e:En):En:=aey src e 0 e1
theorem ae7 (src:List (Option Nat)) (e:En):∀ (k:Nat) (l:En) (i:Nat),(aey src e k l)[i]?=(l[i]?).map (af5 src e (k+i))
 | _,[],i=>by simp [aey]
 | k,s :: r,0=>by simp [aey]
 | k,s :: r,i+1=>by
  have:=ae7 src e (k+1) r i
  simp only [aey,List.getElem?_cons_succ,this]
  rw [show k+1+i=k+(i+1) by omega]
theorem aen {i:Nat}:∀ {src:List (Option Nat)} {k j:Nat},idxE i src k=some j->k<=j/\src[j - k]?=some (some i)
 | [],_,_,h=>by cases h
 | o :: r,k,j,h=>by
  unfold idxE at h
  by_cases e:o=some i
  ·rw [aC5 e] at h;cases h
   exact ⟨ay6 _,by simp [e]⟩
  ·rw [aC6 e] at h
   obtain ⟨b,a⟩:=aen h
   refine ⟨by omega,?_⟩
   rw [show j - k=(j - (k+1))+1 by omega]
   simpa using a
theorem ai3 {i:Nat}:∀ {src:List (Option Nat)} {k:Nat},idxE i src k=none->∀ j:Nat,src[j]? ≠ some (some i)
 | [],_,_,j=>by simp
 | o :: r,k,h,j=>by
  unfold idxE at h
  by_cases e:o=some i
  ·rw [aC5 e] at h;cases h
  ·rw [aC6 e] at h
   cases j with
   | zero=>simpa using e
   | succ j=>simpa using ai3 h j
theorem alk:∀ (src:List (Option Nat)),(src.filterMap id).Nodup->∀ j a i:Nat,src[j]?=some (some i)->src[a]?=some (some i)->j=a
 | [],_,j,_,_,h,_=>by simp at h
 | none :: r,h,j,a,i,h1,h2=>by
  cases j with
  | zero=>simp at h1
  | succ j =>
   cases a with
   | zero=>simp at h2
   | succ a=>rw [alk r (by simpa using h) j a i (by simpa using h1) (by simpa using h2)]
 | some x :: r,h,j,a,i,h1,h2=>by
  have h':=aF3.mp (show (x :: r.filterMap id).Nodup by simpa using h)
  have c:∀ k,r[k]?=some (some x)->False:=fun k d=>h'.1 (List.mem_filterMap.mpr ⟨some x,ay2 d,rfl⟩)
  cases j with
  | zero =>
   have b:x=i:=by simpa using h1
   subst b
   cases a with
   | zero=>rfl
   | succ a=>exact (c a (by simpa using h2)).elim
  | succ j =>
   cases a with
   | zero =>
    have b:x=i:=by simpa using h2
    subst b
    exact (c j (by simpa using h1)).elim
   | succ a=>rw [alk r h'.2 j a i (by simpa using h1) (by simpa using h2)]
def af6:Option Sl->Bool
 | some (.own _)=>true
 | _=>false
def ioLe:En->En->Prop
 | a :: r,b :: s=>(isIo a=isIo b/\af6 b=false)/\ioLe r s
 | [],[]=>True
 | _,_=>False
theorem alm {x:Option Sl} (h:isIo x=true):∃ A,x=some (.io A):=by
 cases x with
 | none=>simp [isIo] at h
 | some y =>
  cases y with
  | io A=>exact ⟨A,rfl⟩
  | _=>simp [isIo] at h
theorem ioLe.get:∀ {a b:En} {j:Nat} {x:Option Sl},ioLe a b->a[j]?=some x->isIo x=true->∃ A,b[j]?=some (some (.io A))
 | [],_,_,_,_,e,_=>by simp at e
 | x :: r,[],_,_,h,_,_=>h.elim
 | x :: r,y :: s,0,z,h,e,p=>by
  simp at e;subst e
  have:=h.1.1
  rw [p] at this
  obtain ⟨A,q⟩:=alm this.symm
  exact ⟨A,by simp [q]⟩
 | x :: r,y :: s,j+1,z,h,e,p=>by
  obtain ⟨A,q⟩:=ioLe.get (j:=j) h.2 (by simpa using e) p
  exact ⟨A,by simpa using q⟩
theorem ioLe.got:∀ {a b:En} {j:Nat} {x:Option Sl},ioLe a b->b[j]?=some x->(isIo x=true->∃ A,a[j]?=some (some (.io A)))/\af6 x=false
 | [],[],_,_,_,e=>by simp at e
 | [],_ :: _,_,_,h,e=>h.elim
 | x :: r,[],_,_,h,_=>h.elim
 | x :: r,y :: s,0,z,h,e=>by
  simp at e;subst e
  refine ⟨fun p=>?_,h.1.2⟩
  have:=h.1.1
  rw [p] at this
  obtain ⟨A,q⟩:=alm this
  exact ⟨A,by simp [q]⟩
 | x :: r,y :: s,j+1,z,h,e=>by
  obtain ⟨p,q⟩:=ioLe.got (j:=j) (x:=z) h.2 (by simpa using e)
  exact ⟨fun t=>by obtain ⟨A,u⟩:=p t;exact ⟨A,by simpa using u⟩,q⟩
section
variable {B:Bs} {G H:Hp} {σ:St} {env:En} {F:Nat->Addr->Prop}
theorem VI.aside (I:VI B G H σ env F) {p:Addr} {o:HO} (f:∀ xs,o ≠ .tup xs) (b:G p=none) (hf:∀ j,¬ F j p) (hb:B.H p=none):VI B G (upd H p o) σ env F where
 gh:=fun a u e=>by rw [aag (aa0 e b)];exact I.gh a u e
 g0:=I.g0
 gn:=I.gn
 rs:=fun a u e=>by rw [aag (aa0 e (I.b_r hb))];exact I.rs a u e
 rb:=I.rb
 bh:=fun a u e=>by rw [aag (aa0 e hb)];exact I.bh a u e
 fg:=I.fg
 fr:=I.fr
 fd:=I.fd
 fo:=fun j a z=>by rw [aag (fun e:a=p=>hf j (e ▸ z))];exact I.fo j a z
 sl:=fun i s e=>by
  obtain ⟨v,c,q⟩:=I.sl i s e
  exact ⟨v,c,q.mono (Same.refl _) fun a u z y=>by rw [aag (fun e:a=p=>hf i (e ▸ z))];exact y⟩
 ln:=I.ln
 ft:=fun a d e=>by
  by_cases z:a=p
  ·subst z;rw [aai] at e;exact absurd (aA5 e) (f _)
  ·rw [aag z] at e;exact I.ft a d e
def LcV (K:Frag) (src:List (Option Nat)) (g:TG) (tif:TT) (te:TE) (ds:List PyData) (e1:En) (R:List PyData->En->Prop):Prop:=∃ J:Nat->List PyData->En->Prop,J 0 [] (aav src e1)/\(∀ i ys e,J i ys e->ioLe (aav src e1) e) /\
 (∀ i d ys e,ds[i]?=some d->J i ys e->∀ B':Bs,B'.K=K->EvG B' g (.st d) e fun e2=>EvT B' tif e2 fun b e3=>if b=true then Ev B' te e3 fun y e4=>ys.length<=999999/\J (i+1) (ys ++ [y]) e4 else J (i+1) ys e3)/\∀ ys e,J ds.length ys e->R ys (ahg src e1 e)
theorem ai4 {src:List (Option Nat)} {j:Nat} {s:Sl} (h:(aav src env)[j]?=some (some s)):∃ i t,src[j]?=some (some i)/\env[i]?=some (some t)/\ahf (some t)=some s:=by
 unfold aav at h
 rw [ay5] at h
 cases e:src[j]? with
 | none=>rw [e] at h;cases h
 | some o =>
  rw [e] at h
  cases o with
  | none=>cases h
  | some i =>
   simp only [aF1,Option.some.injEq] at h
   cases e2:env[i]? with
   | none=>rw [e2] at h;cases h
   | some o2 =>
    rw [e2] at h
    cases o2 with
    | none=>cases h
    | some t=>exact ⟨i,t,rfl,e2,h⟩
theorem aqy {src:List (Option Nat)} {i j:Nat} {v:V} (h:src[j]?=some (some i)) (a : σ[i]?=some (some v)):(pick src σ)[j]?=some (some v):=by
 unfold pick
 rw [ay5,h]
 simp [a]
theorem apg {src:List (Option Nat)} {wi:TI} {g:TG} {b4:TT} {te:TE} {QO:Sl->En->Prop} (nd:(src.filterMap id).Nodup) (h:EvI B wi env fun ds W=>LcV B.K src g b4 te ds W fun ys X=>QO (.own (OL ys)) X):EvO B (tLC src wi g b4 te) env QO:=fun σ G H F Q I k=>by
 refine h σ G H F _ I fun J G1 H1 F1 ds W I1 g1 it ⟨Jv,j0,a7,js,jd⟩ p S=>?_
 let M:Nat->Bool:=fun i=>match W[i]? with | some (some (.own _))=>true | some (some (.io _))=>true | _=>false
 let inv:Nat->Option Nat:=fun i=>if M i=true then idxE i src 0 else none
 have D:∀ i j,inv i=some j->src[j]?=some (some i)/\M i=true:=fun i j hi=>by
  by_cases hm:M i=true
  ·have f:idxE i src 0=some j:=by simpa [inv,hm] using hi
   have:=(aen f).2
   exact ⟨by simpa using this,hm⟩
  ·simp [inv,hm] at hi
 have a0:∀ i j,src[j]?=some (some i)->M i=true->inv i=some j:=fun i j Y hm=>by
  have e0:inv i=idxE i src 0:=by simp [inv,hm]
  cases e:idxE i src 0 with
  | none=>exact absurd Y (ai3 e j)
  | some j' =>
   have:=(aen e).2
   rw [e0,e,alk src nd j j' i Y (by simpa using this)]
 have inj:∀ i c j,inv i=some j->inv c=some j->i=c:=fun i c j Z C=>by
  have a:=(D i j Z).1
  rw [(D c j C).1] at a
  simpa using a.symm
 have b5:∀ i,M i=true->∃ A,W[i]?=some (some (.own A))\/W[i]?=some (some (.io A)):=fun i hm=>by
  cases e:W[i]? with
  | none=>simp [M,e] at hm
  | some o =>
   cases o with
   | none=>simp [M,e] at hm
   | some s =>
    cases s with
    | own A=>exact ⟨A,.inl rfl⟩
    | io A=>exact ⟨A,.inr rfl⟩
    | st d=>simp [M,e] at hm
    | scr ns=>simp [M,e] at hm
 have b3:∀ i ys e,Jv i ys e->∀ c j,inv c=some j->∃ A,e[j]?=some (some (.io A)):=fun i ys e hj c j hi=>by
  obtain ⟨Y,hm⟩:=D c j hi
  obtain ⟨A,P⟩:=b5 c hm
  refine (a7 i ys e hj).get (x:=some (.io A)) ?_ rfl
  unfold aav
  rw [ay5,Y]
  rcases P with P | P <;> simp [P,ahf]
 -- between two turns
 let Wv:Nat->List V->St->Hp->Prop:=fun i ys σI H=>∃ G2 F2 e env2 yd,VI B G2 H σ env2 F2/\Same G1 G2/\H p=some (.lst ys)/\Rps G2 ys yd/\G2 p=none/\(∀ j,¬ F2 j p)/\Jv i yd e/\σI.length=e.length/\env2.length=W.length /\
  (∀ j s,e[j]?=some (some s)->∃ v,σI[j]?=some (some v)/\((∃ d,s=.st d/\Rp G2 v d/\∀ i,inv i ≠ some j)\/(∃ ns a,s=.scr ns/\v=.ref a/\SqL B.K G2 a (ns.map V.int)/\∀ i,inv i ≠ some j) ∨
   ∃ i A,inv i=some j/\s=.io A/\σ[i]?=some (some v)/\(env2[i]?=some (some (.own A))\/env2[i]?=some (some (.io A))))) /\
  (∀ i,inv i=none->env2[i]?=W[i]?)/\(∀ i j,inv i=some j->∃ A0 A,e[j]?=some (some (.io A))/\((W[i]?=some (some (.own A0))/\env2[i]?=some (some (.own A)))\/(W[i]?=some (some (.io A0))/\env2[i]?=some (some (.io A)))))
 have hb:B.H p=none:=I1.no_b S
 refine ⟨fun i m ys σI H=>m=ds.length - i/\i<=ds.length/\Wv i ys σI H,⟨ds.length,by simp,aD0 _,?_⟩,?_⟩
 ·refine ⟨G1,F1,aav src W,W,[],I1.aside (fun _ z=>nomatch z) (I1.no_g S) (I1.no_f S) hb,Same.refl _,aai,.nil,I1.no_g S,I1.no_f S,j0,by simp [pick,aav],rfl,fun j s e=>?_,fun _ _=>rfl,fun i j hi=>?_⟩
  ·obtain ⟨i,t,Y,ht,hp⟩:=ai4 e
   obtain ⟨v,hv,q⟩:=I1.sl i t ht
   refine ⟨v,aqy Y hv,?_⟩
   cases t with
   | st d =>
    cases hp
    refine .inl ⟨d,rfl,q.1,fun c f=>?_⟩
    have a:=(D c j f).1
    rw [Y] at a
    have:i=c:=by simpa using a
    subst this
    have:=(D i j f).2
    simp [M,ht] at this
   | scr ns =>
    cases hp
    obtain ⟨⟨a,ea,sq⟩,_⟩:=q
    refine .inr (.inl ⟨ns,a,rfl,ea,sq,fun c f=>?_⟩)
    have a:=(D c j f).1
    rw [Y] at a
    have:i=c:=by simpa using a
    subst this
    have:=(D i j f).2
    simp [M,ht] at this
   | own A=>cases hp;exact .inr (.inr ⟨i,A,a0 i j Y (by simp [M,ht]),rfl,hv,.inl ht⟩)
   | io A=>cases hp;exact .inr (.inr ⟨i,A,a0 i j Y (by simp [M,ht]),rfl,hv,.inr ht⟩)
  ·obtain ⟨Y,hm⟩:=D i j hi
   obtain ⟨A,P⟩:=b5 i hm
   refine ⟨A,A,?_,?_⟩
   ·unfold aav
    rw [ay5,Y]
    rcases P with P | P <;> simp [P,ahf]
   ·rcases P with P | P
    ·exact .inl ⟨P,P⟩
    ·exact .inr ⟨P,P⟩
 ·rintro i m ys σI H2 ⟨rfl,hi,G2,F2,e,env2,yd,I2,g2,a1,ry,ga,fa,jv,ln,b7,sl,un,mv⟩
  refine ⟨a1,?_⟩
  by_cases hlt:i < ds.length
  ·refine .inr ⟨it.go i G2 H2 g2 I2.gh hlt,Wv (i+1),fun a3 c3 H' hw=>⟨ds.length - (i+1),by omega,rfl,hlt,hw⟩,fun x H3 y=>?_⟩
   obtain ⟨G3,o⟩:=it.yld i G2 H2 x H3 _ g2 I2.gh I2.ft (ay0 hlt) y
   obtain ⟨I3,X3⟩:=I2.out o
   have a8:=o.hh _ _ a1
   have b0:=fa
   have b9:G3 p=none:=by
    cases e':G3 p with
    | none=>rfl
    | some u =>
     rcases o.gn p u e' with q | q
     ·rw [ga] at q;cases q
     ·rw [a1] at q;cases q
   have c1:∀ j s,e[j]?=some (some s)->∃ v,σI[j]?=some (some v)/\((∃ d,s=.st d/\Rp G3 v d/\∀ i,inv i ≠ some j)\/(∃ ns a,s=.scr ns/\v=.ref a/\SqL B.K G3 a (ns.map V.int)/\∀ i,inv i ≠ some j) ∨
     ∃ i A,inv i=some j/\s=.io A/\σ[i]?=some (some v)/\(env2[i]?=some (some (.own A))\/env2[i]?=some (some (.io A)))):=fun j s es=>by
    obtain ⟨v,hv,q⟩:=sl j s es
    refine ⟨v,hv,?_⟩
    rcases q with ⟨d,a9,r,n⟩ | ⟨ns,a,a9,b8,r,n⟩ | q
    ·exact .inl ⟨d,a9,r.same o.gg,n⟩
    ·exact .inr (.inl ⟨ns,a,a9,b8,o.gg.seq r,n⟩)
    ·exact .inr (.inr q)
   have E3:=I3.enter (inv:=inv) (σI:=σI) (envI:=e) inj ln c1
   -- back from the turn
   have fin:∀ (T:St) (G4 H4:Hp) (F4:Nat->Addr->Prop) (e4:En) (a2:List PyData) (a3:List V) (o4:HO),VI ⟨B.K,G3,H3,ack H3 F2 inv,σI,fun j a=>∃ i,inv i=some j/\F2 i a⟩ G4 H4 T e4 F4->Jv (i+1) a2 e4->Rps G4 a3 a2 ->
     Wv (i+1) a3 T (upd H4 p (.lst a3))/\H4 p=some (.lst ys):=by
    intro T G4 H4 F4 e4 a2 a3 o4 I4 j4 r4
    have a5:=b3 (i+1) a2 e4 j4
    have c2:H4 p=some (.lst ys):=I4.rs p _ (by show ack H3 F2 inv p=_;rw [agv (fun c _ _=>b0 c)];exact a8)
    have b2:G4 p=none:=by
     cases e':G4 p with
     | none=>rfl
     | some u =>
      rcases I4.gn p u e' with q | q
      ·change G3 p=_ at q;rw [b9] at q;cases q
      ·change H3 p=_ at q;rw [a8] at q;cases q
    -- the slots of the outer frame
    let E:En:=(List.range env2.length).map fun c=>match inv c with
     | some j=>(match env2[c]?,e4[j]? with | some (some (.own _)),some (some (.io A))=>some (.own A) | some (some (.io _)),some (some (.io A))=>some (.io A) | _,_=>none)
     | none=>(env2[c]?).getD none
    have N:∀ c,c < env2.length->E[c]?=some (match inv c with
     | some j=>(match env2[c]?,e4[j]? with | some (some (.own _)),some (some (.io A))=>some (.own A) | some (some (.io _)),some (some (.io A))=>some (.io A) | _,_=>none)
     | none=>(env2[c]?).getD none):=fun c hl=>by
     simp only [E,ay5]
     rw [ay0 (by simpa using hl)]
     simp
    have L:=I3.leave (inv:=inv) (env2:=E) inj rfl rfl (fun a u q n=>by show ack H3 F2 inv a=_;rw [agv n];exact q) (fun c j f a z=>by obtain ⟨U,Z,C⟩:=z;rw [inj c U j f Z];exact C)
     (fun c j f=>by
      obtain ⟨A0,A,Z,C⟩:=mv c j f
      obtain ⟨v,hv,q⟩:=sl j _ Z
      rcases q with ⟨d,q,_⟩ | ⟨ns,a,q,_⟩ | ⟨U,c0,q1,q2,q3,_⟩
      ·cases q
      ·cases q
      ·rw [inj c U j f q1]
       show σI[j]?=_
       rw [hv,q3]) I4 a5 (by simp [E]) (fun c s es=>by
      have hl:c < env2.length:=by
       have:=(ay1.mp es).1
       simpa [E] using this
      rw [N c hl] at es
      cases f:inv c with
      | none =>
       refine .inl ⟨rfl,?_⟩
       rw [f] at es
       simp only [Option.some.injEq] at es
       cases q:env2[c]? with
       | none=>rw [q] at es;cases es
       | some u=>rw [q] at es;simp at es;rw [es]
      | some j =>
       rw [f] at es
       obtain ⟨A',R⟩:=a5 c j f
       obtain ⟨A0,A,Z,C⟩:=mv c j f
       simp only [R] at es
       rcases C with ⟨_,C⟩ | ⟨_,C⟩
       ·rw [C] at es
        simp only [Option.some.injEq] at es
        exact .inr ⟨j,A,A',rfl,R,.inl ⟨C,es.symm⟩⟩
       ·rw [C] at es
        simp only [Option.some.injEq] at es
        exact .inr ⟨j,A,A',rfl,R,.inr ⟨C,es.symm⟩⟩)
    have b1:∀ j,¬ (match inv j with | some j=>F4 j p | none=>F2 j p):=fun j z=>by
     cases hj:inv j with
     | none=>rw [hj] at z;exact b0 j z
     | some l =>
      rw [hj] at z
      obtain ⟨A',R⟩:=a5 j l hj
      obtain ⟨v,_,q⟩:=I4.sl l _ R
      rcases q.2.1 p z with ⟨U,_,q⟩ | q
      ·exact b0 U q
      ·change H3 p=_ at q;rw [a8] at q;cases q
    refine ⟨⟨G4,_,e4,E,a2,L.aside (fun _ z=>nomatch z) b2 b1 hb,g2.trans (o.gg.trans I4.g0),aai,r4,b2,b1,j4,I4.ln,by simp [E,b7],fun j s es=>?_,fun c f=>?_,fun c j f=>?_⟩,c2⟩
    ·obtain ⟨v,hv,q⟩:=I4.sl j s es
     refine ⟨v,hv,?_⟩
     have a4:(∀ A,s ≠ .io A)->∀ c,inv c ≠ some j:=fun hn c f=>by
      obtain ⟨A,P⟩:=a5 c j f
      rw [es] at P
      exact hn A (by simpa using P)
     cases s with
     | st d=>exact .inl ⟨d,rfl,q.1,a4 (by intro A z;cases z)⟩
     | scr ns =>
      obtain ⟨⟨a,ea,sq⟩,_⟩:=q
      exact .inr (.inl ⟨ns,a,rfl,ea,sq,a4 (by intro A z;cases z)⟩)
     | own A =>
      have:=((a7 _ _ _ j4).got es).2
      simp [af6] at this
     | io A =>
      obtain ⟨A0,h0⟩:=((a7 _ _ _ j4).got es).1 rfl
      obtain ⟨c,t,Y,ht,hp⟩:=ai4 h0
      have hm:M c=true:=by
       cases t with
       | own A=>simp [M,ht]
       | io A=>simp [M,ht]
       | st d=>cases hp
       | scr ns=>cases hp
      have f:=a0 c j Y hm
      obtain ⟨B0,A1,Z,C⟩:=mv c j f
      have hl:c < env2.length:=by
       rcases C with ⟨_,C⟩ | ⟨_,C⟩ <;> exact (ay1.mp C).1
      refine .inr (.inr ⟨c,A,f,rfl,?_,?_⟩)
      ·have hS : σI[j]?=some (some v):=q.2.2
       obtain ⟨v',b6,q'⟩:=sl j _ Z
       rcases q' with ⟨d,q',_⟩ | ⟨ns,a,q',_⟩ | ⟨U,c0,q1,q2,q3,_⟩
       ·cases q'
       ·cases q'
       ·rw [inj c U j f q1,q3,← b6,hS]
      ·rw [N c hl,f]
       simp only [es]
       rcases C with ⟨_,C⟩ | ⟨_,C⟩
       ·rw [C];exact .inl rfl
       ·rw [C];exact .inr rfl
    ·by_cases hl:c < env2.length
     ·rw [N c hl,f]
      simp only
      rw [← un c f]
      rw [ay0 hl];rfl
     ·rw [aC7.mpr (by simp [E];omega),← un c f,aC7.mpr (by omega)]
    ·obtain ⟨A',R⟩:=a5 c j f
     obtain ⟨A0,A,Z,C⟩:=mv c j f
     have hl:c < env2.length:=by
      rcases C with ⟨_,C⟩ | ⟨_,C⟩ <;> exact (ay1.mp C).1
     refine ⟨A0,A',R,?_⟩
     rw [N c hl,f]
     simp only [R]
     rcases C with ⟨h3,C⟩ | ⟨h3,C⟩
     ·rw [C];exact .inl ⟨h3,rfl⟩
     ·rw [C];exact .inr ⟨h3,rfl⟩
   have hd:ds[i]?=some ds[i]:=ay0 hlt
   refine js i _ yd e hd jv ⟨B.K,G3,H3,ack H3 F2 inv,σI,fun j a=>∃ i,inv i=some j/\F2 i a⟩ rfl σI G3 H3 _ x _ _ E3 (aec o.ok.1) fun T G4 H4 F4 e4 I4 g4 q4=>?_
   refine q4 T G4 H4 F4 _ I4 fun b G5 H5 F5 e5 I5 g5 q5=>?_
   cases b with
   | false =>
    rw [aC6 ay9] at q5 ⊢
    obtain ⟨w,ac⟩:=fin T G5 H5 F5 e5 yd ys (.lst ys) I5 q5 (ry.same (o.gg.trans (g4.trans g5)))
    have:upd H5 p (.lst ys)=H5:=by
     funext b
     unfold upd
     split
     ·rename_i hb';rw [hb'];exact ac.symm
     ·rfl
    rw [this] at w
    exact w
   | true =>
    rw [aC5 rfl] at q5 ⊢
    refine q5 T G5 H5 F5 _ I5 fun y G6 H6 F6 d6 e6 I6 g6 r6 q6=>?_
    obtain ⟨w,ac⟩:=fin T G6 H6 F6 e6 (yd ++ [d6]) (ys ++ [y]) (.lst ys) I6 q6.2 ((ry.same (o.gg.trans (g4.trans (g5.trans g6)))).append (.cons r6 .nil))
    exact ⟨ac,by rw [ry.length];exact big (by have:=q6.1;omega),w⟩
  ·have ei:i=ds.length:=by omega
   subst ei
   refine .inl ⟨it.stop _ G2 H2 g2 I2.gh rfl,?_⟩
   have q:=jd yd e jv
   have eb:ahg src W e=env2:=by
    apply aD2
    intro c
    unfold ahg
    rw [ae7,Nat.zero_add]
    have O:M c=false->env2[c]?=W[c]?:=fun hm=>un c (by simp [inv,hm])
    cases X:W[c]? with
    | none =>
     rw [O (by simp [M,X]),X];rfl
    | some o =>
     cases o with
     | none=>rw [O (by simp [M,X]),X];rfl
     | some t =>
      have a6:∀ A,(t=.own A\/t=.io A)->M c=true:=fun A h=>by rcases h with rfl | rfl <;> simp [M,X]
      cases t with
      | st d=>rw [O (by simp [M,X]),X];rfl
      | scr ns=>rw [O (by simp [M,X]),X];rfl
      | own A =>
       have hm:=a6 A (.inl rfl)
       simp only [aF1,af5]
       cases e3:idxE c src 0 with
       | none =>
        have:inv c=none:=by simp [inv,e3]
        rw [un c this,X]
       | some j =>
        have f:inv c=some j:=by simp [inv,hm,e3]
        obtain ⟨A0,A1,Z,C⟩:=mv c j f
        simp only [Z]
        rcases C with ⟨h3,C⟩ | ⟨h3,C⟩
        ·rw [C]
        ·rw [X] at h3;cases h3
      | io A =>
       have hm:=a6 A (.inr rfl)
       simp only [aF1,af5]
       cases e3:idxE c src 0 with
       | none =>
        have:inv c=none:=by simp [inv,e3]
        rw [un c this,X]
       | some j =>
        have f:inv c=some j:=by simp [inv,hm,e3]
        obtain ⟨A0,A1,Z,C⟩:=mv c j f
        simp only [Z]
        rcases C with ⟨h3,C⟩ | ⟨h3,C⟩
        ·rw [X] at h3;cases h3
        ·rw [C]
   rw [eb] at q
   refine k (.ref p) G2 H2 F2 (· = p) (.own (OL yd)) env2 I2 (g1.trans g2) ⟨⟨p,ys,rfl,a1,ry,fun b=>Iff.rfl⟩,fun a z=>by rw [z];exact hb,fun a z=>by rw [z];exact ga,fun a z=>by rw [z];exact ⟨_,a1⟩,fun j a z=>by rw [z];exact fa j⟩ q
end
def noIo (e:En):Bool:=e.all fun s => !isIo s
theorem aqz {e:En} {j:Nat} {x:Option Sl} (h:noIo e=true) (a:e[j]?=some x):isIo x=false:=by
 have:=aC4.mp h x (ay2 a)
 simpa using this
theorem af7 {src:List (Option Nat)} {b e:En} (h:noIo (aav src b)=true):ahg src b e=b:=by
 apply aD2
 intro i
 unfold ahg
 rw [ae7,Nat.zero_add]
 cases e2:b[i]? with
 | none=>rfl
 | some o =>
  have a:∀ A,(o=some (.own A)\/o=some (.io A))->idxE i src 0=none:=fun A f=>by
   cases e3:idxE i src 0 with
   | none=>rfl
   | some j =>
    have c:=(aen e3).2
    have:(aav src b)[j]?=some (some (.io A)):=by
     unfold aav
     rw [ay5,show src[j]?=some (some i) by simpa using c]
     rcases f with rfl | rfl <;> simp [e2,ahf]
    have:=aqz h this
    simp [isIo] at this
  cases o with
  | none=>rfl
  | some t =>
   cases t with
   | st d=>rfl
   | scr ns=>rfl
   | own A=>simp only [aF1,af5,a A (.inl rfl)]
   | io A=>simp only [aF1,af5,a A (.inr rfl)]
def stO:Option PyData->Option Sl:=Option.map Sl.st
theorem isIo_stO {o:Option PyData}:isIo (stO o)=false:=by cases o <;> rfl
theorem ac9 {o:Option PyData}:af6 (stO o)=false:=by cases o <;> rfl
theorem adh {src:List (Option Nat)} {b:En}:∀ x∈aav src b,af6 x=false:=by
 intro x a
 unfold aav at a
 obtain ⟨o,_,rfl⟩:=az6.mp a
 cases o with
 | none=>rfl
 | some j =>
  dsimp only
  cases (b[j]?).getD none with
  | none=>rfl
  | some t=>cases t <;> rfl
theorem adp:∀ {e:En},(∀ x∈e,af6 x=false)->ioLe e e
 | [],_=>True.intro
 | x :: r,h=>⟨⟨rfl,h x az7⟩,adp fun y a=>h y (az4 _ a)⟩
section
variable {B:Bs} {env:En} {g:TG} {tif:TT} {te:TE} {K:Frag} {src:List (Option Nat)} {ds:List PyData} {e1:En} {R:List PyData->En->Prop}
theorem aq0 (f:PyData->PyData) (p:PyData->Bool) (j:noIo (aav src e1)=true) (C:ds.length<=999999)
  (h:∀ d∈ds,∀ a:Bs,a.K=K->EvT a tif (some (.st d) :: aav src e1) fun b g=>b=p d/\g=some (.st d) :: aav src e1/\(b=true->Ev a te (some (.st d) :: aav src e1) fun y m=>y=f d/\m=some (.st d) :: aav src e1))
  (z:R ((ds.filter p).map f) e1):LcV K (none :: src) (aa6 0) tif te ds e1 R:=by
 have c:noIo (aav (none :: src) e1)=true:=by
  show ((none :: aav src e1).all fun s => !isIo s)=true
  rw [List.all_cons]
  exact (aE1 _ _).mpr ⟨rfl,j⟩
 refine ⟨fun i ys e=>ys=((ds.take i).filter p).map f/\∃ o,e=stO o :: aav src e1,⟨by simp,none,rfl⟩,?_,?_,?_⟩
 ·rintro i ys e ⟨_,o,rfl⟩
  exact ⟨⟨isIo_stO.symm,ac9⟩,adp adh⟩
 ·rintro i d ys e hd ⟨rfl,o,rfl⟩ a w
  have hi:i < ds.length:=(ay1.mp hd).1
  have q:ds.take (i+1)=ds.take i ++ [d]:=by rw [aE4,hd];rfl
  refine aa3 ?_
  show EvT a tif (some (.st d) :: aav src e1) _
  intro σ G H F Q I k
  refine h d (ay2 hd) a w σ G H F Q I fun b G' H' F' g n g' ⟨hb,A,x⟩=>k b G' H' F' g n g' ?_
  subst A
  by_cases hp:b=true
  ·rw [aC5 hp]
   intro σ G H F Q I k
   refine x hp σ G H F Q I fun v G' H' F' d' m n g' u ⟨r,l⟩=>k v G' H' F' d' m n g' u ?_
   subst r l
   refine ⟨?_,?_,some d,rfl⟩
   ·have:=List.length_filter_le p (ds.take i)
    simp only [ay3]
    have B:(ds.take i).length<=i:=by simp;omega
    omega
   ·rw [q,List.filter_append,aB8]
    have:p d=true:=by rw [← hb];exact hp
    simp [this]
  ·rw [aC6 hp]
   refine ⟨?_,some d,rfl⟩
   rw [q,List.filter_append,aB8]
   have:p d=false:=by rw [← hb];simpa using hp
   simp [this]
 ·rintro ys e ⟨rfl,o,rfl⟩
  rw [af7 c,aD8]
  exact z
theorem ahh {α:Type} (xs:List α):xs.filter (fun _=>true)=xs:=by simp
theorem am6 (f:PyData->PyData) (b:noIo (aav src e1)=true) (j:ds.length<=999999)
  (h:∀ d∈ds,∀ a:Bs,a.K=K->Ev a te (some (.st d) :: aav src e1) fun y g=>y=f d/\g=some (.st d) :: aav src e1)
  (c:R (ds.map f) e1):LcV K (none :: src) (aa6 0) tYes te ds e1 R :=
 aq0 f (fun _=>true) b j (fun d hd a i=>aex ⟨rfl,rfl,fun _=>h d hd a i⟩) (by rw [ahh];exact c)
theorem aq1 {C:Frag} {α:Type} {xs:List α} {fa fb : α->PyData} (f : α->PyData) (p : α->Bool) (j:noIo (aav src e1)=true) (E:xs.length<=999999)
  (h:∀ x∈xs,∀ a:Bs,a.K=K->EvT a tif (some (.st (fa x)) :: some (.st (fb x)) :: aav src e1) fun b g=>b=p x/\g=some (.st (fa x)) :: some (.st (fb x)) :: aav src e1/\(b=true->Ev a te (some (.st (fa x)) :: some (.st (fb x)) :: aav src e1) fun y m=>y=f x/\m=some (.st (fa x)) :: some (.st (fb x)) :: aav src e1))
  (A:R ((xs.filter p).map f) e1):LcV K (none :: none :: src) (gTup C 2 (af1 (aa6 0) (af1 (aa6 1) gNil))) tif te (xs.map fun x => .tuple [fa x,fb x]) e1 R:=by
 have c:noIo (aav (none :: none :: src) e1)=true:=by
  show ((none :: none :: aav src e1).all fun s => !isIo s)=true
  rw [List.all_cons,List.all_cons]
  exact (aE1 _ _).mpr ⟨rfl,(aE1 _ _).mpr ⟨rfl,j⟩⟩
 refine ⟨fun i ys e=>ys=((xs.take i).filter p).map f/\∃ o o',e=stO o :: stO o' :: aav src e1,⟨by simp,none,none,rfl⟩,?_,?_,?_⟩
 ·rintro i ys e ⟨_,o,o',rfl⟩
  exact ⟨⟨isIo_stO.symm,ac9⟩,⟨isIo_stO.symm,ac9⟩,adp adh⟩
 ·rintro i d ys e hd ⟨rfl,o,o',rfl⟩ a w
  rw [ay5] at hd
  cases hx:xs[i]? with
  | none=>rw [hx] at hd;cases hd
  | some x =>
   rw [hx] at hd
   cases hd
   have hi:i < xs.length:=(ay1.mp hx).1
   have q:xs.take (i+1)=xs.take i ++ [x]:=by rw [aE4,hx];rfl
   refine am1 rfl (aft (aa3 (aft (aa3 (alh ?_)))))
   show EvT a tif (some (.st (fa x)) :: some (.st (fb x)) :: aav src e1) _
   intro σ G H F Q I k
   refine h x (ay2 hx) a w σ G H F Q I fun b G' H' F' g n g' ⟨hb,B,z⟩=>k b G' H' F' g n g' ?_
   subst B
   by_cases hp:b=true
   ·rw [aC5 hp]
    intro σ G H F Q I k
    refine z hp σ G H F Q I fun v G' H' F' d' m n g' u ⟨r,l⟩=>k v G' H' F' d' m n g' u ?_
    subst r l
    refine ⟨?_,?_,some _,some _,rfl⟩
    ·have:=List.length_filter_le p (xs.take i)
     simp only [ay3]
     have D:(xs.take i).length<=i:=by simp;omega
     omega
    ·rw [q,List.filter_append,aB8]
     have:p x=true:=by rw [← hb];exact hp
     simp [this]
   ·rw [aC6 hp]
    refine ⟨?_,some _,some _,rfl⟩
    rw [q,List.filter_append,aB8]
    have:p x=false:=by rw [← hb];simpa using hp
    simp [this]
 ·rintro ys e ⟨rfl,o,o',rfl⟩
  rw [af7 c]
  simpa using A
end
section
variable {R:Sl->Prop}
theorem ats {g:Int->Int->Int} {i j:Int} (h:R (.st (.int (g i j)))):Op2 (rI0 fun i j => .int (g i j)) (.int i) (.int j) R:=fun G H c d Q gh b a k=>by
 cases b;cases a
 exact ⟨i,j,rfl,rfl,k _ _ _ _ _ (Out.refl gh (.int _)) h⟩
theorem att {g:Int->Int->Bool} {i j:Int} (h:R (.st (.bool (g i j)))):Op2 (rI0 fun i j => .bl (g i j)) (.int i) (.int j) R:=fun G H c d Q gh b a k=>by
 cases b;cases a
 exact ⟨i,j,rfl,rfl,k _ _ _ _ _ (Out.refl gh (.bl _)) h⟩
theorem awg {C:Int->Int->Prop} {g:Int->Int->Int} {i j:Int} (c:C i j) (h:R (.st (.int (g i j)))):Op2 (rI C fun i j => .int (g i j)) (.int i) (.int j) R:=fun G H d f Q gh b a k=>by
 cases b;cases a
 exact ⟨i,j,rfl,rfl,c,k _ _ _ _ _ (Out.refl gh (.int _)) h⟩
theorem awh {g:Int->Int} {i:Int} (h:R (.st (.int (g i)))):Op1 (rU fun i => .int (g i)) (.int i) R:=fun G H b Q gh a k=>by
 cases a
 exact ⟨i,rfl,k _ _ _ _ _ (Out.refl gh (.int _)) h⟩
theorem atu {i j:Int} (h:R (.st (.bool (decide (i=j))))):Op2 rEq (.int i) (.int j) R:=fun G H c d Q gh b a k=>by
 cases b;cases a
 exact ao3 (k _ _ _ _ _ (Out.refl gh (.bl _)) h)
theorem atv {i j:Int} (h:R (.st (.bool (!decide (i=j))))):Op2 rNe (.int i) (.int j) R:=fun G H c d Q gh b a k=>by
 cases b;cases a
 exact avs (k _ _ _ _ _ (Out.refl gh (.bl _)) h)
theorem atw (i j:Bool):decide (V.bl i=V.bl j)=decide (i=j):=by cases i <;> cases j <;> rfl
theorem atx {i j:Bool} (h:R (.st (.bool (!decide (i=j))))):Op2 rNe (.bool i) (.bool j) R:=fun G H c d Q gh b a k=>by
 cases b;cases a
 refine ⟨rfl,?_⟩
 rw [atw]
 exact k _ _ _ _ _ (Out.refl gh (.bl _)) h
theorem aez {x y:PyData} (b:aaq x=true) (a:aaq y=true) (hd:x.depth<=60) (h:R (.st (.bool (PyData.eqv x y)))):Op2 rEqD x y R:=fun G H f g Q gh d c k =>
 ⟨x,y,(d.rep b).same gh,(c.rep a).same gh,b,a,hd,k _ _ _ _ _ (Out.refl gh (.bl _)) h⟩
theorem af8 {x y:PyData} (b:aaq x=true) (a:aaq y=true) (hd:x.depth<=60) (h:R (.st (.bool (!PyData.eqv x y)))):Op2 rNeD x y R:=fun G H f g Q gh d c k =>
 ⟨x,y,(d.rep b).same gh,(c.rep a).same gh,b,a,hd,k _ _ _ _ _ (Out.refl gh (.bl _)) h⟩
theorem ad0 {a:Bool} {x:PyData} {es:List PyData} (c:aaq x=true) (b:plainDs es=true) (hd:x.depth<=60) (h:R (.st (.bool (if a then !es.any (fun z=>PyData.eqv z x) else es.any (fun z=>PyData.eqv z x))))):Op2 (rInD a) x (.list es) R:=fun G H g i Q gh f d k =>
 ⟨x,es,(f.rep c).same gh,.inl ((d.rep (by simpa [aaq] using b)).same gh),c,b,hd,k _ _ _ _ _ (Out.refl gh (.bl _)) h⟩
theorem Rps.at {G:Hp} {vs:List V} {ds:List PyData} {i:Int} {d:PyData} (r:Rps G vs ds) (h:atI ds i=some d):∃ v,atI vs i=some v/\Rp G v d:=by
 unfold atI at h ⊢
 rw [r.length]
 cases e:ixN ds.length i with
 | none=>rw [e] at h;cases h
 | some j =>
  rw [e] at h
  exact r.get h
theorem aty {K:Frag} {ds:List PyData} {i:Int} {d:PyData} (hd:atI ds i=some d) (h:R (.st d)):Op2 (abv K) (.list ds) (.int i) R:=fun G H g j Q gh b a k=>by
 cases a
 cases b with
 | lst ha rs =>
  obtain ⟨v,c,f⟩:=rs.at hd
  exact ae3 (gh _ _ ha) c (k _ _ _ _ _ (Out.refl gh f) h)
theorem atz {K:Frag} {ds:List PyData} {i:Int} {d:PyData} (hd:atI ds i=some d) (h:R (.st d)):Op2 (abv K) (.tuple ds) (.int i) R:=fun G H g j Q gh b a k=>by
 cases a
 cases b with
 | tup ha rs =>
  obtain ⟨v,c,f⟩:=rs.at hd
  exact aqo (gh _ _ ha) c (k _ _ _ _ _ (Out.refl gh f) h)
def isNone:PyData->Bool
 | .none=>true
 | _=>false
theorem am7 {G:Hp} {v:V} {x:PyData} (r:Rp G v x):decide (v=.non)=isNone x:=by cases r <;> rfl
theorem at3 {x:PyData} (h:R (.st (.bool (isNone x)))):Op2 rIsN x .none R:=fun G H c d Q gh b a k=>by
 cases a
 refine ⟨rfl,?_⟩
 rw [am7 b]
 exact k _ _ _ _ _ (Out.refl gh (.bl _)) h
theorem aq2 {x:PyData} (h:R (.st (.bool (!isNone x)))):Op2 asc x .none R:=fun G H c d Q gh b a k=>by
 cases a
 refine ⟨rfl,?_⟩
 rw [am7 b]
 exact k _ _ _ _ _ (Out.refl gh (.bl _)) h
theorem at4 {xs ys:List PyData} (c:xs.length+ys.length<=1000000) (h:R (.own (OL (xs ++ ys)))):Op2 rCat (.list xs) (.list ys) R:=fun G H f g Q gh b a k=>by
 cases b with
 | lst ha ra =>
  cases a with
  | lst hb rb =>
   refine avw (gh _ _ ha) (gh _ _ hb) ?_ fun p d=>k _ _ _ _ _ (Out.newL gh d (ra.append rb)) h
   rw [ra.length,rb.length];exact aD5 (big c)
theorem at5 {xs:List PyData} {n:Int} (c : -(2 ^ 63)<=n) (a:n < 2 ^ 63) (f:xs.length * n.toNat<=1000000) (h:R (.own (OL (List.replicate n.toNat xs).flatten))):Op2 rRep (.list xs) (.int n) R:=fun G H i j Q gh d b k=>by
 cases b
 cases d with
 | lst ha ra =>
  refine ⟨_,n,_,rfl,rfl,gh _ _ ha,c,a,?_,fun p g=>k _ _ _ _ _ (Out.newL gh g (ra.rep _)) h⟩
  rw [ra.length];exact aD5 (big f)
theorem aq3 {K:Frag} {xs:List PyData} (h:R (.st (.int xs.length))):OpA (rLen K) [.list xs] R:=fun G H vs Q gh rs k=>by
 cases rs with
 | cons r t =>
  cases t
  cases r with
  | lst ha ra =>
   refine amq (gh _ _ ha) ?_
   rw [ra.length]
   exact k _ _ _ _ _ (Out.refl gh (.int _)) h
theorem aq4 {K:Frag} {xs:List PyData} (h:R (.st (.int xs.length))):OpA (rLen K) [.tuple xs] R:=fun G H vs Q gh rs k=>by
 cases rs with
 | cons r t =>
  cases t
  cases r with
  | tup ha ra =>
   refine as0 (gh _ _ ha) ?_
   rw [ra.length]
   exact k _ _ _ _ _ (Out.refl gh (.int _)) h
theorem aq5 {i j:Int} (h:R (.st (.int (if j > i then j else i)))):OpA ajx [.int i,.int j] R:=fun G H vs Q gh rs k=>by
 obtain rfl:vs=[V.int i,V.int j]:=Rps.ints_inv (ns:=[i,j]) rs
 exact amr (k _ _ _ _ _ (Out.refl gh (.int _)) h)
theorem aq6 {i j:Int} (h:R (.st (.int (if j < i then j else i)))):OpA ajy [.int i,.int j] R:=fun G H vs Q gh rs k=>by
 obtain rfl:vs=[V.int i,V.int j]:=Rps.ints_inv (ns:=[i,j]) rs
 exact ams (k _ _ _ _ _ (Out.refl gh (.int _)) h)
theorem aq7 {K:Frag} {ns:List Int} (a:ns ≠ []) (h:∀ m,aj0 ns m->R (.st (.int m))):OpA (ahb K) [.list (ns.map .int)] R:=fun G H vs Q gh rs k=>by
 cases rs with
 | cons r t =>
  cases t
  cases r with
  | lst ha ra =>
   have:=Rps.ints_inv ra
   subst this
   exact ⟨_,ns,rfl,.inl (SqL.of (gh _ _ ha)),a,fun m hm=>k _ _ _ _ _ (Out.refl gh (.int _)) (h m hm)⟩
theorem aq8 {K:Frag} {ns:List Int} {ds:List PyData} (e:ds=ns.map .int) (a:ns ≠ []) (h:∀ m,an4 ns m->R (.st (.int m))):OpA (aj1 K) [.tuple ds] R:=fun G H vs Q gh rs k=>by
 subst e
 cases rs with
 | cons r t =>
  cases t
  cases r with
  | tup ha ra =>
   have:=Rps.ints_inv ra
   subst this
   exact ⟨_,ns,rfl,.inr (SqT.of (gh _ _ ha)),a,fun m hm=>k _ _ _ _ _ (Out.refl gh (.int _)) (h m hm)⟩
theorem aq9 {K:Frag} {ns:List Int} {ds:List PyData} (e:ds=ns.map .int) (a:ns ≠ []) (h:∀ m,aj0 ns m->R (.st (.int m))):OpA (ahb K) [.tuple ds] R:=fun G H vs Q gh rs k=>by
 subst e
 cases rs with
 | cons r t =>
  cases t
  cases r with
  | tup ha ra =>
   have:=Rps.ints_inv ra
   subst this
   exact ⟨_,ns,rfl,.inr (SqT.of (gh _ _ ha)),a,fun m hm=>k _ _ _ _ _ (Out.refl gh (.int _)) (h m hm)⟩
theorem am8 {K:Frag} {ns:List Int} {ds:List PyData} (e:ds=ns.map .int) (h:R (.st (.int ns.sum))):OpA (an5 K) [.list ds] R:=fun G H vs Q gh rs k=>by
 subst e
 cases rs with
 | cons r t =>
  cases t
  cases r with
  | lst ha ra =>
   have:=Rps.ints_inv ra
   subst this
   exact ⟨_,ns,rfl,SqL.of (gh _ _ ha),k _ _ _ _ _ (Out.refl gh (.int _)) h⟩
end
section
variable {B:Bs} {env:En} {QO:Sl->En->Prop} {Q':PyData->En->Prop} {te tl th:TE} {K:Frag}
def cutD (xs:List PyData) (lo hi:Option Int):List PyData:=(xs.drop (HT.sIx xs.length 0 lo)).take (HT.sIx xs.length xs.length hi - HT.sIx xs.length 0 lo)
def EvOp (B:Bs) (t:TO) (env:En) (Q':Option Int->En->Prop):Prop:=∀ (σ:St) (G H:Hp) (F:Nat->Addr->Prop) (Q:Option Int->Hp->Prop),VI B G H σ env F->(∀ o G' H' F' env',VI B G' H' σ env' F'->Same G G'->Q' o env'->Q o H')->t σ H Q
theorem ara {a:Option Int->En->Prop} (q:a none env):EvOp B ami env a:=fun σ G H F Q I k=>k none G H F env I (Same.refl _) q
theorem arb {a:Option Int->En->Prop} (h:Ev B te env fun d e=>∃ i,d=.int i/\a (some i) e):EvOp B (ar5 te) env a:=fun σ G H F Q I k =>
 h σ G H F _ I fun v o b g d n c f j m=>by
  obtain ⟨i,l,q⟩:=m
  subst l;cases j
  exact ⟨i,rfl,k _ o b g n c f q⟩
theorem axt {i:Int} {R:Int->Prop} (h:R i):∃ j,PyData.int i=.int j/\R j:=⟨i,rfl,h⟩
theorem ai5 {tl j:TO} (h:Ev B te env fun d m=>∃ ds,d=.list ds/\EvOp B tl m fun lo l=>EvOp B j l fun hi c=>QO (.own (OL (cutD ds lo hi))) c):EvO B (tSl (rSlL K) te tl j) env QO:=fun σ G H F Q I k =>
 h σ G H F _ I fun v L n x d m r w A E=>by
  obtain ⟨ds,C,y⟩:=E
  subst C
  cases A with
  | @lst a vs _ ha rs =>
   refine y σ L n x _ r fun lo s H2 F2 l q g u=>u σ s H2 F2 _ q fun hi M H3 D c b f J=>?_
   have i:=rs.same (g.trans f)
   refine ⟨a,vs,rfl,SqL.of (b.gh _ _ (f _ _ (g _ _ ha))),fun p z=>?_⟩
   have e:cutV vs lo hi=(vs.drop (HT.sIx ds.length 0 lo)).take (HT.sIx ds.length ds.length hi - HT.sIx ds.length 0 lo):=by unfold cutV;rw [rs.length]
   have o:=Out.newL (xs:=cutV vs lo hi) (ds:=cutD ds lo hi) b.gh z (by rw [e];exact (i.drop _).take _)
   exact k _ _ _ D _ _ c (b.out o).1 (w.trans (g.trans (f.trans o.gg))) (b.out o).2 J
theorem arc {tl c:TO} (h:Ev B te env fun d b=>∃ ds,d=.list ds/\EvOp B tl b fun lo j=>EvOp B c j fun hi f=>Q' (.list (cutD ds lo hi)) f):Ev B (tSl (rSlL K) te tl c) env Q':=abl (ai5 (by
 intro σ G H F Q I k
 refine h σ G H F Q I fun v G' H' F' d b g i l ⟨ds,m,q⟩=>k v G' H' F' d b g i l ⟨ds,m,?_⟩
 intro σ G H F Q I k
 refine q σ G H F Q I fun lo G' H' F' e a g' q=>k lo G' H' F' e a g' ?_
 intro σ G H F Q I k
 exact q σ G H F Q I fun hi G' H' F' e a g' q=>k hi G' H' F' e a g' (ac0 q)))
end
def Has (env:En) (i:Nat) (A:Own):Prop:=env[i]?=some (some (.own A))\/env[i]?=some (some (.io A))
section
variable {B:Bs} {env:En} {QO:Sl->En->Prop} {Q':PyData->En->Prop} {QT:Bool->En->Prop} {QE:En->Prop} {te ta tb tk:TE} {K:Frag} {i:Nat}
theorem VI.has {G H:Hp} {σ:St} {F:Nat->Addr->Prop} {A:Own} (I:VI B G H σ env F) (h:Has env i A):∃ v,σ[i]?=some (some v)/\A.P G H v (F i):=by
 rcases h with h | h
 ·obtain ⟨v,a,q⟩:=I.sl i _ h;exact ⟨v,a,q.1⟩
 ·obtain ⟨v,a,q⟩:=I.sl i _ h;exact ⟨v,a,q.1⟩
theorem awi {g:List PyData} (A:Has env i (OL g)) (h:Ev B tb env fun y c=>∃ ds k d,Has c i (OL ds)/\y=.int k/\atI ds k=some d/\Q' d c):Ev B (tOp (abv K) (tVar i) tb) env Q':=fun σ G H F Q I k=>by
 obtain ⟨v,n,_⟩:=I.has A
 refine ⟨v,n,h σ G H F _ I fun u r H2 F2 y c m s o ⟨ds,j,d,z,p,l,q⟩=>?_⟩
 subst p
 cases o
 obtain ⟨D,b,a,vs,x,ha,rs,_⟩:=m.has z
 rw [n] at b;cases b
 subst x
 obtain ⟨w,C,f⟩:=rs.at l
 exact ae3 ha C (k w r H2 F2 d c m s f q)
theorem VI.upd1 {G H:Hp} {σ:St} {F:Nat->Addr->Prop} {s:Sl} {A A':Own} {a:Addr} {o:HO} (I:VI B G H σ env F) (e:env[i]?=some (some s)) (g:s=.own A\/s=.io A) (d : σ[i]?=some (some (.ref a))) (hf:∀ b,F i b ↔ b=a) (f:A'.P G (upd H a o) (.ref a) (· = a)) (j:∀ xs,o ≠ .tup xs:=by intro _ z;cases z) :
  VI B G (upd H a o) σ (env.set i (some (reS s A'))) (putF F i (· = a)):=by
 refine I.change (A:=A') i e d (fun b u hb c=>by rw [aag (fun z=>hb ((hf b).mpr z))];exact c) (fun b u c=>?_) (fun b z=>⟨.inl ((hf b).mpr z),by rw [z];exact ⟨_,aai⟩⟩) f (fun b h e=>?_) ?_
 ·by_cases z:b=a
  ·rw [z];exact ⟨_,aai⟩
  ·rw [aag z];exact ⟨u,c⟩
 ·by_cases z:b=a
  ·subst z;rw [aai] at e;exact absurd (aA5 e) (j _)
  ·rw [aag z] at e;exact I.ft b h e
 ·rcases g with rfl | rfl
  ·exact .inl ⟨rfl,A,rfl⟩
  ·exact .inr ⟨rfl,A,rfl⟩
theorem aph {m:List PyData} (C:Has env i (OL m)) (h:Ev B te env fun y f=>∃ s ds,f[i]?=some (some s)/\(s=.own (OL ds)\/s=.io (OL ds))/\ds.length<=999999/\Q' .none (f.set i (some (reS s (OL (ds ++ [y])))))):Ev B (tBM K "list" aev (tVar i) (abu te tNil)) env Q':=fun σ G H F Q I k=>by
 obtain ⟨v,j,a,vs,x,ha,rs,_⟩:=I.has C
 subst x
 refine ⟨_,j,.inl ⟨rfl,_,SqL.of ha⟩,h σ G H F _ I fun u r H2 F2 y f n w p ⟨s,ds,es,o,J,q⟩=>?_⟩
 have z:Has f i (OL ds):=by rcases o with rfl | rfl;exact .inl es;exact .inr es
 obtain ⟨E,c,D,A,l,g,d,hf⟩:=n.has z
 rw [j] at c;cases c;cases l
 refine afn g (by rw [d.length];exact big (by omega)) ?_
 exact k _ r _ _ _ _ (n.upd1 (A':=OL (ds ++ [y])) es o j hf ⟨a,_,rfl,aai,d.append (.cons p .nil),fun b=>Iff.rfl⟩) w .non q
theorem an8 {a:List PyData} (l:Has env i (OL a)) (h:Ev B te env fun y b=>∃ ds,b[i]?=some (some (.own (OL ds)))/\ds.length<=999999/\Q' .none (b.set i (some (.own (OL (ds ++ [y])))))):Ev B (tBM K "list" aev (tVar i) (abu te tNil)) env Q' :=
 aph l fun σ G H F Q I k=>h σ G H F Q I fun v G' H' F' d e j g r ⟨ds,c,f,q⟩=>k v G' H' F' d e j g r ⟨_,ds,c,.inl rfl,f,q⟩
theorem an9 {n:List PyData} (A:Has env i (OL n)) (h:Ev B te env fun y j=>∃ ds ys,y=.list ys/\j[i]?=some (some (.own (OL ds)))/\ds.length+ys.length<=1000000/\Q' .none (j.set i (some (.own (OL (ds ++ ys)))))):Ev B (tBM K "list" ahz (tVar i) (abu te tNil)) env Q':=fun σ G H F Q I k=>by
 obtain ⟨v,l,a,vs,w,ha,rs,_⟩:=I.has A
 subst w
 refine ⟨_,l,.inl ⟨rfl,_,SqL.of ha⟩,h σ G H F _ I fun u r H2 F2 y j f s o ⟨ds,ys,p,es,z,q⟩=>?_⟩
 subst p
 cases o with
 | lst hb rb =>
  obtain ⟨D,c,C,x,m,g,d,hf⟩:=f.has (.inl es)
  rw [l] at c;cases c;cases m
  refine ao4 g (f.gh _ _ hb) (by rw [d.length,rb.length];exact aD5 (big z)) ?_
  exact k _ r _ _ _ _ (f.upd1 (A':=OL (ds ++ ys)) es (.inl rfl) l hf ⟨a,_,rfl,aai,d.append rb,fun b=>Iff.rfl⟩) s .non q
theorem ard {d:PyData} {p:List PyData} (N:Has env i (OL p)) (h:Ev B tk env fun y g=>∃ s ds k j,y=.int k/\g[i]?=some (some s)/\(s=.own (OL ds)\/s=.io (OL ds))/\ixN ds.length k=some j/\QE (g.set i (some (reS s (OL (ds.set j d)))))):EvG B (gSub (tVar i) tk anv) (.st d) env QE:=fun σ G H F v Fv Q I x k=>by
 obtain ⟨M,_⟩:=x.ok
 obtain ⟨P,m,a,vs,J,ha,rs,_⟩:=I.has N
 subst J
 refine ⟨_,m,h σ G H F _ I fun u E H2 F2 y g r w C ⟨s,ds,n,j,D,es,z,A,q⟩=>?_⟩
 subst D
 cases C
 have K:Has g i (OL ds):=by rcases z with rfl | rfl;exact .inl es;exact .inr es
 obtain ⟨R,c,O,L,o,l,f,hf⟩:=r.has K
 rw [m] at c;cases c;cases o
 refine amp l (by rw [f.length];exact A) ?_
 exact k _ E _ _ _ (r.upd1 (A':=OL (ds.set j d)) es z m hf ⟨a,_,rfl,aai,f.set (M.same w) j,fun b=>Iff.rfl⟩) w q
theorem at6 {t:TS} {D':VEnds} {A:Own} {d:PyData} (i:Nat) (e:env[i]?=some (some (.own A))) (f:Frz A d) (h:EvS B t D' (env.set i (some (.st d)))):EvS B t D' env:=fun σ G H F D I r=>by
 obtain ⟨v,a,b,g,J⟩:=I.frz e f
 exact h σ _ H _ D J (r.later g)
end
def tyD:PyData->String
 | .none => "NoneType" | .bool _ => "bool" | .int _ => "int" | .str _ => "str" | .list _ => "list" | .tuple _ => "tuple" | .dict _ => "dict"
def ad1 (T:String):Prop:=T = "int"\/T = "bool"\/T = "tuple"\/T = "list"\/T = "str"\/T = "dict"
def isiD (T:String) (d:PyData):Bool:=tyD d == T || (T == "int" && tyD d == "bool")
theorem axu {K:Frag} {H:Hp} {v:V} {d:PyData} (r:Rp H v d):TyOf K H v (.type (tyD d)):=by
 cases r with
 | non=>exact .non
 | bl b=>exact .bl b
 | int i=>exact .int i
 | str x=>exact .str x
 | lst h _=>exact .lst h
 | tup h _=>exact .tup h
 | dk h _ _=>exact .dK h
 | dt h _ _=>exact .dT h
theorem axv {K:Frag} {T:String} (h:ad1 T) (d:PyData):kitOne K (.type (tyD d)) (.type T)=some (isiD T d):=by
 rcases h with rfl | rfl | rfl | rfl | rfl | rfl
 ·cases d with
  | none=>exact ags
  | bool _=>exact akz
  | int _=>exact al5
  | str _=>exact al7
  | list _=>exact ak7
  | tuple _=>exact ajo
  | dict _=>exact ak9
 ·cases d with
  | none=>exact agd
  | bool _=>exact ajg
  | int _=>exact ak1
  | str _=>exact ak4
  | list _=>exact ajl
  | tuple _=>exact aid
  | dict _=>exact ajq
 ·cases d with
  | none=>exact afq
  | bool _=>exact aib
  | int _=>exact ajj
  | str _=>exact ajk
  | list _=>exact aic
  | tuple _=>exact ahc
  | dict _=>exact aig
 ·cases d with
  | none=>exact age
  | bool _=>exact ajh
  | int _=>exact ak2
  | str _=>exact ak5
  | list _=>exact ajm
  | tuple _=>exact aie
  | dict _=>exact ajr
 ·cases d with
  | none=>exact agt
  | bool _=>exact ak0
  | int _=>exact al6
  | str _=>exact al8
  | list _=>exact ak8
  | tuple _=>exact ajp
  | dict _=>exact ala
 ·cases d with
  | none=>exact agf
  | bool _=>exact aji
  | int _=>exact ak3
  | str _=>exact ak6
  | list _=>exact ajn
  | tuple _=>exact aif
  | dict _=>exact ajs
section
variable {B:Bs} {env:En} {QO:Sl->En->Prop} {Q':PyData->En->Prop} {QT:Bool->En->Prop} {QE:En->Prop} {te ta tb tk:TE} {K:Frag} {i:Nat}
theorem awj {T:String} (i:ad1 T) (h:Ev B te env fun d e=>Q' (.bool (isiD T d)) e):Ev B (tCB (rIsi K) (abu te (abu (tC (.ty T)) tNil))) env Q':=fun σ G H F Q I k =>
 h σ G H F _ I fun v m b f d l a c j g=>⟨v,T,_,_,rfl,axu (j.same a.gh),axv i d,k _ m b f _ l a c (.bl _) g⟩
theorem awk:ad1 "int":=.inl rfl
theorem at7:ad1 "bool":=.inr (.inl rfl)
theorem arf:ad1 "tuple":=.inr (.inr (.inl rfl))
theorem at8:ad1 "list":=.inr (.inr (.inr (.inl rfl)))
theorem arh {A:Own} {D':VEnds} (e:env[i]?=some (some (.own A))) (q:D'.rt (.own A) (env.set i none)):EvS B (tRet (tVar i)) D' env:=am2 (aqs e q)
theorem axw {n m:Nat} {P:Prop} (h:n<=m) (q:P):n<=m/\P:=⟨h,q⟩
theorem awl {ds:List PyData} {a:En} {R:List PyData->Prop} (e:a[i]?=some (some (.own (OL ds)))) (b:ds.length<=999999) (q:R ds):∃ ds,a[i]?=some (some (.own (OL ds)))/\ds.length<=999999/\R ds:=⟨ds,e,b,q⟩
theorem axx {ds:List PyData} {d:PyData} {k:Int} {a:En} {R:PyData->Prop} (c:Has a i (OL ds)) (h:atI ds k=some d) (q:R d):∃ ds b d,Has a i (OL ds)/\PyData.int k=.int b/\atI ds b=some d/\R d:=⟨ds,k,d,c,rfl,h,q⟩
theorem aoa {ds:List PyData} {k:Int} {j:Nat} {a:En} {R:Sl->List PyData->Nat->Prop} (e:a[i]?=some (some (.own (OL ds)))) (c:ixN ds.length k=some j) (q:R (.own (OL ds)) ds j):∃ s ds b j,PyData.int k=.int b/\a[i]?=some (some s)/\(s=.own (OL ds)\/s=.io (OL ds))/\ixN ds.length b=some j/\R s ds j:=⟨_,ds,k,j,rfl,e,.inl rfl,c,q⟩
theorem x_rt {A:Own} {a:En} {R:Own->Prop} (e:a[0]?=some (some (.io A))) (q:R A):∃ A',a[0]?=some (some (.io A'))/\R A':=⟨A,e,q⟩
theorem x_st {b:Bool} {R:Bool->Prop} (h:R b):∃ c,Sl.st (.bool b)=.st (.bool c)/\R c:=⟨b,rfl,h⟩
theorem ari {ds:List PyData} {R:Bool->Prop} (h:R (!ds.isEmpty)):∃ k,TruD (.list ds) k/\R k:=⟨_,rfl,h⟩
theorem lenP {f:VP} {n:Nat} {vs:List V} {H:Hp} {Q:VK} {E:XK} (h:spP K f vs H Q E) (hf:∀ ss a,f ss a->ss.length=n):vs.length=n:=by
 obtain ⟨G,ss,a,_,_,b,q,_⟩:=h
 rw [b.length];exact hf ss a q
theorem lenI {f:VIo} {n:Nat} {vs:List V} {H:Hp} {Q:VK} {E:XK} (h:spI K f vs H Q E) (hf:∀ A ss a,f A ss a->ss.length+1=n):vs.length=n:=by
 obtain ⟨v0,c,G,R,A,ss,F0,a,rfl,_,_,_,_,_,_,b,q,_⟩:=h
 rw [aB9,b.length];exact hf A ss a q
theorem ahi {f:VIo} {t:TA} {E:XK} {A:Own} (d:env[i]?=some (some (.io A))) (h:EvA B t env fun ds a=>a[i]?=some (some (.io A))/\f A (ds.map Sl.st) fun A' s=>QO s (a.set i (some (.io A')))):EvO B (ab9 (spI K f) [] E (abu (tVar i) t)) env QO :=
 ai2 ⟨_,d⟩ fun σ G H F Q I k=>h σ G H F Q I fun vs G' H' F' ds a c g r ⟨b,q⟩=>k vs G' H' F' ds a c g r ⟨_,A,b,.inr rfl,q⟩
theorem ahj {f:VIo} {t:TA} {E:XK} {A:Own} (d:env[i]?=some (some (.own A))) (h:EvA B t env fun ds a=>a[i]?=some (some (.own A))/\f A (ds.map Sl.st) fun A' s=>QO s (a.set i (some (.own A')))):EvO B (ab9 (spI K f) [] E (abu (tVar i) t)) env QO :=
 ai2 ⟨_,d⟩ fun σ G H F Q I k=>h σ G H F Q I fun vs G' H' F' ds a c g r ⟨b,q⟩=>k vs G' H' F' ds a c g r ⟨_,A,b,.inl rfl,q⟩
theorem ai6 {f:VIo} {t:TA} {E:XK} {A:Own} (b:env[i]?=some (some (.io A))) (h:EvA B t env fun ds a=>a[i]?=some (some (.io A))/\f A (ds.map Sl.st) fun A' s=>FQ s fun d=>Q' d (a.set i (some (.io A')))):Ev B (ab9 (spI K f) [] E (abu (tVar i) t)) env Q':=abl (ahi b h)
theorem api {f:VIo} {t:TA} {E:XK} {A:Own} (b:env[i]?=some (some (.own A))) (h:EvA B t env fun ds a=>a[i]?=some (some (.own A))/\f A (ds.map Sl.st) fun A' s=>FQ s fun d=>Q' d (a.set i (some (.own A')))):Ev B (ab9 (spI K f) [] E (abu (tVar i) t)) env Q':=abl (ahj b h)
theorem axy {P Q:Prop} (h:P) (q:Q):P/\Q:=⟨h,q⟩
theorem axz {src:List (Option Nat)} {j:TI} {g:TG} {f:TT} (nd:(src.filterMap id).Nodup) (h:EvI B j env fun ds i=>LcV B.K src g f te ds i fun ys l=>Q' (.list ys) l):Ev B (tLC src j g f te) env Q':=abl (apg nd fun σ G H F R I k=>h σ G H F R I fun J G' H' F' ds i n g' it ⟨m,a,b,c,d⟩=>k J G' H' F' ds i n g' it ⟨m,a,b,c,fun ys e q=>ac0 (d ys e q)⟩)
theorem awm {g:TG} {s:Sl} (h:FQ s fun d=>EvG B g (.st d) env QE):EvG B g s env QE:=fun σ G H F v Fv Q I x k=>by
 cases s with
 | st d=>exact h σ G H F v Fv Q I x k
 | own A =>
  obtain ⟨d,f,h⟩:=h
  exact h σ _ H F v _ Q (I.freeze x.fb x.fd x.fg) (aec (f G H v Fv x.ok x.fg I.gh)) fun a G' H' F' b c g' q=>k a G' H' F' b c ((ach x.fg).trans g') q
 | io A=>exact h.elim
 | scr ns=>exact h.elim
end
end VL
namespace VL
open PySem L2
section
variable {B:Bs} {QE:En->Prop} {Q':PyData->En->Prop} {s:Sl} {r:En} {A:Own} {d:PyData} {x0 x1 x2 x3 x4 x5 x6 x7 x8 x9 x10 x11 x12 x13 x14 x15 x16 x17 x18 x19 x20 x21 x22 x23 x24 x25:Option Sl}
theorem awn (h:QE (x0 :: some s :: r)):EvG B (aa6 1) s (x0 :: x1 :: r) QE:=aa3 h
theorem awo (h:QE (x0 :: x1 :: some s :: r)):EvG B (aa6 2) s (x0 :: x1 :: x2 :: r) QE:=aa3 h
theorem awp (h:QE (x0 :: x1 :: x2 :: some s :: r)):EvG B (aa6 3) s (x0 :: x1 :: x2 :: x3 :: r) QE:=aa3 h
theorem awq (h:QE (x0 :: x1 :: x2 :: x3 :: some s :: r)):EvG B (aa6 4) s (x0 :: x1 :: x2 :: x3 :: x4 :: r) QE:=aa3 h
theorem awr (h:QE (x0 :: x1 :: x2 :: x3 :: x4 :: some s :: r)):EvG B (aa6 5) s (x0 :: x1 :: x2 :: x3 :: x4 :: x5 :: r) QE:=aa3 h
theorem aws (h:QE (x0 :: x1 :: x2 :: x3 :: x4 :: x5 :: some s :: r)):EvG B (aa6 6) s (x0 :: x1 :: x2 :: x3 :: x4 :: x5 :: x6 :: r) QE:=aa3 h
theorem awt (h:QE (x0 :: x1 :: x2 :: x3 :: x4 :: x5 :: x6 :: some s :: r)):EvG B (aa6 7) s (x0 :: x1 :: x2 :: x3 :: x4 :: x5 :: x6 :: x7 :: r) QE:=aa3 h
theorem awu (h:QE (x0 :: x1 :: x2 :: x3 :: x4 :: x5 :: x6 :: x7 :: some s :: r)):EvG B (aa6 8) s (x0 :: x1 :: x2 :: x3 :: x4 :: x5 :: x6 :: x7 :: x8 :: r) QE:=aa3 h
theorem awv (h:QE (x0 :: x1 :: x2 :: x3 :: x4 :: x5 :: x6 :: x7 :: x8 :: some s :: r)):EvG B (aa6 9) s (x0 :: x1 :: x2 :: x3 :: x4 :: x5 :: x6 :: x7 :: x8 :: x9 :: r) QE:=aa3 h
theorem at9 (h:QE (x0 :: x1 :: x2 :: x3 :: x4 :: x5 :: x6 :: x7 :: x8 :: x9 :: some s :: r)):EvG B (aa6 10) s (x0 :: x1 :: x2 :: x3 :: x4 :: x5 :: x6 :: x7 :: x8 :: x9 :: x10 :: r) QE:=aa3 h
theorem aua (h:QE (x0 :: x1 :: x2 :: x3 :: x4 :: x5 :: x6 :: x7 :: x8 :: x9 :: x10 :: some s :: r)):EvG B (aa6 11) s (x0 :: x1 :: x2 :: x3 :: x4 :: x5 :: x6 :: x7 :: x8 :: x9 :: x10 :: x11 :: r) QE:=aa3 h
theorem aub (h:QE (x0 :: x1 :: x2 :: x3 :: x4 :: x5 :: x6 :: x7 :: x8 :: x9 :: x10 :: x11 :: some s :: r)):EvG B (aa6 12) s (x0 :: x1 :: x2 :: x3 :: x4 :: x5 :: x6 :: x7 :: x8 :: x9 :: x10 :: x11 :: x12 :: r) QE:=aa3 h
end
end VL
namespace Gr
structure Ring (T:Int->Int->Prop) (a:Int) (k:Nat) (far:Int->Option Nat) (edge:List Int):Prop where
 lab:∀ v d,far v=some d ↔ (Dist T a v d/\d<=k)
 edg:∀ v,v∈edge ↔ Dist T a v k
structure Mid (T:Int->Int->Prop) (k:Nat) (far0:Int->Option Nat) (edge:List Int) (done:Int->Prop) (far:Int->Option Nat) (beyond:List Int):Prop where
 old:∀ v d,far0 v=some d->far v=some d
 new:∀ v,v∈beyond ↔ (far0 v=none/\far v ≠ none)
 val:∀ v d,far0 v=none->far v=some d->d=k+1/\∃ u,u∈edge/\T u v
 dn:∀ u w,done u->T u w->far w ≠ none
def label (far:Int->Option Nat) (w:Int) (d:Nat):Int->Option Nat:=fun v=>if v=w then some d else far v
theorem label_same {far:Int->Option Nat} {w:Int} {d:Nat}:label far w d w=some d:=aC5 rfl
theorem label_ne {far:Int->Option Nat} {w v:Int} {d:Nat} (h:v ≠ w):label far w d v=far v:=aC6 h
variable {T:Int->Int->Prop} {a:Int} {k:Nat} {far0 far:Int->Option Nat} {edge beyond:List Int} {done:Int->Prop}
theorem Ring.start:Ring T a 0 (label (fun _=>none) a 0) [a]:=by
 refine ⟨fun v d=>?_,fun v=>?_⟩
 ·by_cases h:v=a
  ·subst h
   rw [label_same]
   constructor
   ·intro e;cases e;exact ⟨Dist.self T v,ay6 _⟩
   ·rintro ⟨h,_⟩;rw [h.uniq (Dist.self T v)]
  ·rw [label_ne h]
   constructor
   ·intro e;cases e
   ·rintro ⟨b,c⟩
    have:d=0:=by omega
    subst this
    cases b.1
    exact absurd rfl h
 ·simp only [aA1]
  constructor
  ·rintro rfl;exact Dist.self T v
  ·intro h;cases h.1;rfl
theorem Mid.start:Mid T k far0 edge (fun _=>False) far0 [] :=
 ⟨fun v d h=>h,fun v=>⟨fun h=>by simp at h,fun h=>absurd h.1 h.2⟩,fun v d h g=>(by rw [h] at g;cases g),fun u w h=>h.elim⟩
theorem Mid.add (m:Mid T k far0 edge done far beyond) {u w:Int} (f:u∈edge) (t:T u w) (b:far w=none):Mid T k far0 edge done (label far w (k+1)) (beyond ++ [w]):=by
 have a:far0 w=none:=by
  cases e:far0 w with
  | none=>rfl
  | some d=>rw [m.old w d e] at b;cases b
 refine ⟨fun v d h=>?_,fun v=>?_,fun v d h g=>?_,fun x y c i=>?_⟩
 ·rw [label_ne (by rintro rfl;rw [a] at h;cases h)];exact m.old v d h
 ·by_cases hv:v=w
  ·subst hv
   simp [label_same,a]
  ·rw [label_ne hv]
   simp only [ay7,aA1,hv,or_false]
   exact m.new v
 ·by_cases hv:v=w
  ·subst hv
   rw [label_same] at g
   cases g
   exact ⟨rfl,u,f,t⟩
  ·rw [label_ne hv] at g
   exact m.val v d h g
 ·by_cases hv:y=w
  ·subst hv;rw [label_same];simp
  ·rw [label_ne hv];exact m.dn x y c i
theorem Mid.did (m:Mid T k far0 edge done far beyond) {u:Int} (h:∀ w,T u w->far w ≠ none):Mid T k far0 edge (fun x=>done x\/x=u) far beyond :=
 ⟨m.old,m.new,m.val,fun x w a t=>by rcases a with a | rfl;exact m.dn x w a t;exact h w t⟩
theorem Mid.imp {a:Int->Prop} (m:Mid T k far0 edge done far beyond) (h:∀ u,a u->done u):Mid T k far0 edge a far beyond :=
 ⟨m.old,m.new,m.val,fun x w b t=>m.dn x w (h x b) t⟩
theorem Ring.next (r:Ring T a k far0 edge) (m:Mid T k far0 edge done far beyond) (hd:∀ u∈edge,done u):Ring T a (k+1) far beyond:=by
 have g:∀ v,far0 v=none->far v ≠ none->Dist T a v (k+1):=fun v f b=>by
  cases e:far v with
  | none=>exact absurd e b
  | some d =>
   obtain ⟨rfl,u,l,t⟩:=m.val v d f e
   obtain ⟨j,p,h⟩:=((r.edg u).mp l).next t
   by_cases i:j<=k
   ·rw [(r.lab v j).mpr ⟨h,i⟩] at f;cases f
   ·have:j=k+1:=by omega
    rw [← this];exact h
 have c:∀ v,Dist T a v (k+1)->far0 v=none/\far v ≠ none:=fun v h=>by
  refine ⟨?_,?_⟩
  ·cases e:far0 v with
   | none=>rfl
   | some d =>
    obtain ⟨b,n⟩:=(r.lab v d).mp e
    have:=b.uniq h
    omega
  ·obtain ⟨u,t,l⟩:=h.pred
   exact m.dn u v (hd u ((r.edg u).mpr l)) t
 refine ⟨fun v d=>?_,fun v=>⟨fun h=>?_,fun h=>(m.new v).mpr (c v h)⟩⟩
 ·constructor
  ·intro e
   cases e0:far0 v with
   | some d0 =>
    rw [m.old v d0 e0] at e
    cases e
    obtain ⟨b,n⟩:=(r.lab v d).mp e0
    exact ⟨b,by omega⟩
   | none =>
    have i:=(m.val v d e0 e).1
    subst i
    exact ⟨g v e0 (by rw [e];simp),ay6 _⟩
  ·rintro ⟨h,i⟩
   by_cases hd':d<=k
   ·exact m.old v d ((r.lab v d).mpr ⟨h,hd'⟩)
   ·have o:d=k+1:=by omega
    subst o
    obtain ⟨f,b⟩:=c v h
    cases e:far v with
    | none=>exact absurd e b
    | some d=>rw [(m.val v d f e).1]
 ·obtain ⟨f,b⟩:=(m.new v).mp h
  exact g v f b
theorem Dist.down {v:Int}:∀ {d:Nat},Dist T a v d->∀ j,j<=d->∃ u,Dist T a u j
 | 0,h,j,hj=>⟨v,by rw [show j=0 by omega];exact h⟩
 | d+1,h,j,hj=>by
  by_cases e:j=d+1
  ·rw [e];exact ⟨v,h⟩
  ·obtain ⟨u,_,b⟩:=h.pred
   exact Dist.down b j (by omega)
def farO (T:Int->Int->Prop) (a v:Int):Option Nat:=open Classical in if h:∃ d,Dist T a v d then some (Classical.choose h) else none
theorem farO_some {v:Int} {d:Nat}:farO T a v=some d ↔ Dist T a v d:=by
 unfold farO
 constructor
 ·intro h
  split at h
  ·rename_i b
   cases h
   exact Classical.choose_spec b
  ·cases h
 ·intro h
  have b:∃ d,Dist T a v d:=⟨d,h⟩
  rw [dif_pos b,(Classical.choose_spec b).uniq h]
theorem farO_none {v:Int}:farO T a v=none ↔ ∀ d,¬ Dist T a v d:=by
 constructor
 ·intro h d hd
  rw [farO_some.mpr hd] at h;cases h
 ·intro h
  cases e:farO T a v with
  | none=>rfl
  | some d=>exact absurd (farO_some.mp e) (h d)
theorem am9 {v:Int} {o:Option Nat} (h:∀ d,o=some d ↔ Dist T a v d):o=farO T a v:=by
 cases o with
 | some d=>exact (farO_some.mpr ((h d).mp rfl)).symm
 | none=>exact (farO_none.mpr fun d hd=>by cases (h d).mpr hd).symm
theorem Ring.fin (r:Ring T a k far0 []) (v:Int):far0 v=farO T a v:=by
 refine am9 fun d=>?_
 rw [r.lab]
 refine ⟨fun h=>h.1,fun h=>⟨h,?_⟩⟩
 apply aB2
 intro c
 obtain ⟨u,b⟩:=h.down k (by omega)
 have:=(r.edg u).mpr b
 simp at this
theorem Walk.app {u v w:Int} {i j:Nat} (h:Walk T u i v) (g:Walk T v j w):Walk T u (i+j) w:=by
 induction g with
 | refl=>exact h
 | step _ t ih=>exact .step ih t
theorem Walk.rev (a:∀ u v,T u v->T v u) {u v:Int} {i:Nat} (h:Walk T u i v):Walk T v i u:=by
 induction h with
 | refl=>exact .refl
 | @step j x y _ t ih =>
  have:=(Walk.step (T:=T) (u:=y) .refl (a _ _ t)).app ih
  rw [Nat.add_comm] at this
  exact this
theorem Dist.rev (a:∀ u v,T u v->T v u) {u v:Int} {d:Nat} (h:Dist T u v d):Dist T v u d:=⟨h.1.rev a,fun k w=>h.2 k (w.rev a)⟩
theorem farO_comm (a:∀ u v,T u v->T v u) (u v:Int):farO T u v=farO T v u:=am9 fun d=>by
 rw [farO_some];exact ⟨fun h=>h.rev a,fun h=>h.rev a⟩
theorem Dist.lt {n:Nat} (s:∀ u v,T u v->0<=v/\v < (n:Int)) (ha:0<=a/\a < (n:Int)) {v:Int} {d:Nat} (h:Dist T a v d):d < n:=by
 -- the places of a shortest way are unlike
 have i:∀ d v,Dist T a v d->∃ l:List Int,l.length=d+1/\l.Nodup/\∀ x∈l,(0<=x/\x < (n:Int))/\∃ j,j<=d/\Dist T a x j:=by
  intro d
  induction d with
  | zero =>
   intro v h
   have:v=a:=by cases h.1;rfl
   subst this
   exact ⟨[v],rfl,by simp,fun x b=>by simp at b;subst b;exact ⟨ha,0,ay6 _,h⟩⟩
  | succ d ih =>
   intro v h
   obtain ⟨u,t,w⟩:=h.pred
   obtain ⟨l,g,c,f⟩:=ih u w
   refine ⟨v :: l,by simp [g],aF3.mpr ⟨fun hm=>?_,c⟩,fun x b=>?_⟩
   ·obtain ⟨_,j,o,hd⟩:=f v hm
    have:=hd.uniq h
    omega
   ·rcases ay8.mp b with rfl | b
    ·exact ⟨s _ _ t,d+1,ay6 _,h⟩
    ·obtain ⟨q,j,o,hd⟩:=f x b
     exact ⟨q,j,by omega,hd⟩
 obtain ⟨l,g,c,f⟩:=i d v h
 have few:∀ (n:Nat) (l:List Int),l.Nodup->(∀ v∈l,0<=v/\v < (n:Int))->l.length<=n:=by
  intro n
  induction n with
  | zero =>
   intro l _ h
   cases l with
   | nil=>simp
   | cons v r=>have:=h v (by simp);omega
  | succ n ih =>
   intro l hn h
   have g:=ih (l.erase (n:Int)) (hn.erase _) fun v m=>by
    have hm:=List.mem_of_mem_erase m
    have hb:=h v hm
    have p:v ≠ (n:Int):=by
     rintro rfl
     exact absurd m (List.Nodup.not_mem_erase hn)
    omega
   have c:l.length<=(l.erase (n:Int)).length+1:=by
    rw [List.length_erase]
    split <;> omega
   omega
 have:=few n l c fun x b=>(f x b).1
 omega
end Gr
namespace VL
open PySem PySem.Spec L2
theorem nodup_ix {α:Type} {xs:List α} (h:xs.Nodup) {i j:Nat} (hi:i < xs.length) (a:j < xs.length) (e:xs[i]=xs[j]):i=j:=by
 have p:=aD7.mp h
 rcases Nat.lt_trichotomy i j with q | q | q
 ·exact absurd e (p i j hi a q)
 ·exact q
 ·exact absurd e.symm (p j i a hi q)
def OLL (dss:List (List PyData)):Own where
 P:=fun G H v F=>∃ (a:Addr) (as:List Addr),v=.ref a/\H a=some (.lst (as.map V.ref))/\as.Nodup/\a ∉ as/\as.length=dss.length/\(∀ (i:Nat) b ds,as[i]?=some b->dss[i]?=some ds->∃ vs,H b=some (.lst vs)/\Rps G vs ds)/\∀ b,F b ↔ b=a\/b∈as
 mono:=fun ⟨a,as,e,h,n1,n2,l,r,f⟩ g hh=>⟨a,as,e,hh a _ ((f a).mpr (.inl rfl)) h,n1,n2,l,fun i b ds hb hd=>by
  obtain ⟨vs,h1,h2⟩:=r i b ds hb hd
  exact ⟨vs,hh b _ ((f b).mpr (.inr (ay2 hb))) h1,h2.same g⟩,f⟩
 dom:=fun ⟨a,as,e,h,n1,n2,l,r,f⟩ b z=>by
  rcases (f b).mp z with rfl | z
  ·exact ⟨_,h⟩
  ·obtain ⟨i,hi,e⟩:=aE6.mp z
   have hb:as[i]?=some b:=by rw [ay0 hi,e]
   obtain ⟨vs,h1,_⟩:=r i b _ hb (ay0 (by rw [← l];exact hi))
   exact ⟨_,h1⟩
theorem aln {G:Hp}:∀ {vs:List V} {ds:List PyData},vs.length=ds.length->(∀ (i:Nat) v d,vs[i]?=some v->ds[i]?=some d->Rp G v d)->Rps G vs ds
 | [],[],_,_ => .nil
 | [],_ :: _,h,_=>by simp at h
 | _ :: _,[],h,_=>by simp at h
 | v :: vs,d :: ds,h,k => .cons (k 0 v d rfl rfl) (aln (by simpa using h) fun i v d b a=>k (i+1) v d (by simpa using b) (by simpa using a))
theorem aih {c:List (List PyData)}:Frz (OLL c) (.list (c.map .list)):=fun G H v F ⟨a,as,e,h,p,q,l,r,f⟩ n g=>by
 subst e
 refine .lst (by rw [aj3 ((f a).mpr (.inl rfl))];exact h) (aln (by simp [l]) fun i u d j hd=>?_)
 rw [ay5] at j hd
 cases hb:as[i]? with
 | none=>rw [hb] at j;cases j
 | some b =>
  cases hds:c[i]? with
  | none=>rw [hds] at hd;cases hd
  | some ds =>
   rw [hb] at j;rw [hds] at hd
   cases j;cases hd
   obtain ⟨vs,m,o⟩:=r i b ds hb hds
   exact .lst (by rw [aj3 ((f b).mpr (.inr (ay2 hb)))];exact m) (o.same (ach n))
section
variable {B:Bs} {env:En} {QO:Sl->En->Prop} {Q':PyData->En->Prop} {D':VEnds} {K:Frag} {i:Nat}
theorem aww {a:List (List PyData)} {R:PyData->Prop} (h:R (.list (a.map .list))):FQ (.own (OLL a)) R:=⟨_,aih,h⟩
theorem auc {src:List (Option Nat)} {wi:TI} {j:Nat} (h:EvI B wi env fun ds T=>ds.length<=1000000/\QO (.own (OLL (List.replicate ds.length []))) T):EvO B (tLC src wi (aa6 j) tYes (tLst tNil)) env QO:=fun σ G H F Q I k=>by
 refine h σ G H F _ I fun J Z M F1 ds T s g1 it ⟨a1,q⟩ c d=>?_
 let W:Nat->List V->Hp->Prop:=fun n ys H=>∃ (as:List Addr) (g:Hp),ys=as.map V.ref/\as.length=n/\as.Nodup/\c ∉ as/\(∀ b∈as,M b=none/\g b=none/\H b=some (.lst []))/\H c=some (.lst ys)/\g c=none/\Same Z g/\Same g H/\Same M H/\(∀ a o,g a=some o->Z a=some o\/M a=none)/\FT g H
 refine ⟨fun n m ys σI H=>m=ds.length - n/\n<=ds.length/\W n ys H,⟨ds.length,by simp,aD0 _,[],Z,rfl,rfl,List.nodup_nil,by simp,fun b hb=>by simp at hb,aai,s.no_g d,Same.refl _,s.gh.trans (acp d),acp d,fun a o e => .inl e,fun a P e=>?_⟩,?_⟩
 ·by_cases z:a=c
  ·subst z;rw [aai] at e;cases e
  ·rw [aag z] at e;exact s.ft a P e
 rintro n m ys σI H2 ⟨rfl,hn,as,g,rfl,R,nd,na,all,f,Y,A,l,r,E,v⟩
 refine ⟨f,?_⟩
 by_cases hlt:n < ds.length
 ·refine .inr ⟨it.go n g H2 A l hlt,fun K X H'=>W (n+1) K H',fun K X H' hw=>⟨ds.length - (n+1),by omega,rfl,hlt,hw⟩,fun x H3 y=>?_⟩
  obtain ⟨L,o⟩:=it.yld n g H2 x H3 _ A l v (ay0 hlt) y
  refine amo (ao5 (ab6 (avr (ao2 ⟨by decide,fun p C=>?_⟩))))
  have n2:H2 p=none:=aca o.hh C
  have n1:M p=none:=aca r n2
  have U:p ≠ c:=(aa0 (o.hh _ _ f) C).symm
  have D:p ∉ as:=fun z=>by
   have:=o.hh _ _ (all p z).2.2
   rw [this] at C;cases C
  refine ⟨by rw [aag U.symm];exact o.hh _ _ f,by rw [ay3,R];exact big (by omega),as ++ [p],L,by simp,by simp [R],?_,?_,fun b hb=>?_,aai,?_,A.trans o.gg,fun a u e=>?_,fun a u e=>?_,fun a u e=>?_,fun a P e=>?_⟩
  ·rw [List.nodup_append]
   exact ⟨nd,by simp,fun x hx y hy=>by simp at hy;subst hy;intro e;subst e;exact D hx⟩
  ·intro z
   rcases ay7.mp z with z | z
   ·exact na z
   ·exact U (aA1.mp z).symm
  ·have gb:∀ b,g b=none->(∃ u,H2 b=some u)->L b=none:=fun b N z_=>by
    obtain ⟨u,S⟩:=z_
    cases e:L b with
    | none=>rfl
    | some w =>
     rcases o.gn b w e with e | e
     ·rw [N] at e;cases e
     ·rw [S] at e;cases e
   rcases ay7.mp hb with hb | hb
   ·obtain ⟨N,S,h3⟩:=all b hb
    refine ⟨N,gb b S ⟨_,h3⟩,?_⟩
    rw [aag (fun z:b=c=>na (by rw [← z];exact hb)),aag (fun z:b=p=>D (by rw [← z];exact hb))]
    exact o.hh _ _ h3
   ·have e:b=p:=by simpa using hb
    subst e
    exact ⟨n1,aca o.gh C,by rw [aag U,aai]⟩
  ·cases e:L c with
   | none=>rfl
   | some w =>
    rcases o.gn c w e with e | e
    ·rw [Y] at e;cases e
    ·rw [f] at e;cases e
  ·have ap:a ≠ p:=aa0 (o.gh a u e) C
   have O:a ≠ c:=by
    rintro rfl
    rcases o.gn _ u e with e | e
    ·rw [Y] at e;cases e
    ·rw [f] at e;cases e
   rw [aag O,aag ap];exact o.gh a u e
  ·have ap:a ≠ p:=aa0 e n1
   have O:a ≠ c:=aa0 e d
   rw [aag O,aag ap];exact o.hh _ _ (r a u e)
  ·rcases o.gn a u e with e | e
   ·exact E a u e
   ·exact .inr (aca r e)
  ·by_cases z:a=c
   ·subst z;rw [aai] at e;cases e
   ·rw [aag z] at e
    by_cases y:a=p
    ·subst y;rw [aai] at e;cases e
    ·rw [aag y] at e;exact o.ft v a P e
 ·have e:n=ds.length:=by omega
  subst e
  refine .inl ⟨it.stop _ g H2 A l rfl,?_⟩
  have I2:=s.grow A l r E v
  refine k (.ref c) g H2 F1 (fun b=>b=c\/b∈as) (.own (OLL (List.replicate ds.length []))) T I2 (g1.trans A) ⟨⟨c,as,rfl,f,nd,na,by simp [R],fun i b a0 hb hd=>?_,fun b=>Iff.rfl⟩,fun b z=>?_,fun b z=>?_,fun b z=>?_,fun j b z y=>?_⟩ q
  ·rw [aE7] at hd
   split at hd
   ·cases hd;exact ⟨[],(all b (ay2 hb)).2.2,.nil⟩
   ·cases hd
  ·rcases z with rfl | z
   ·exact s.no_b d
   ·exact s.no_b (all b z).1
  ·rcases z with rfl | z
   ·exact Y
   ·exact (all b z).2.1
  ·rcases z with rfl | z
   ·exact ⟨_,f⟩
   ·exact ⟨_,(all b z).2.2⟩
  ·rcases z with rfl | z
   ·exact s.no_f d j y
   ·exact s.no_f (all b z).1 j y
theorem ahk {d:List (List PyData)} {l j n:Nat} {k:Int} {y:PyData} {ds:List PyData} (e:env[i]?=some (some (.own (OLL d)))) (ek:env[l]?=some (some (.st (.int k)))) (R:env[j]?=some (some (.st y)))
  (hk:ixN d.length k=some n) (hd:d[n]?=some ds) (hl:ds.length<=999999) (q:Q' .none (env.set i (some (.own (OLL (d.set n (ds ++ [y]))))))):Ev B (tBM K "list" aev (tOp (abv K) (tVar i) (tVar l)) (abu (tVar j) tNil)) env Q':=fun σ G H F Q I Y=>by
 obtain ⟨v,L,⟨a,as,rfl,h,N,O,ln,r,f⟩,_⟩:=I.sl i _ e
 obtain ⟨vk,C,rk,_⟩:=I.sl l _ ek
 obtain ⟨vy,x,P,_⟩:=I.sl j _ R
 cases rk
 have hn:n < d.length:=(ay1.mp hd).1
 have hb:as[n]?=some (as[n]'(by omega)):=ay0 _
 generalize as[n]'(by omega)=b at hb
 have s:b∈as:=ay2 hb
 obtain ⟨vs,E,M⟩:=r n b ds hb hd
 have u:atI (as.map V.ref) k=some (.ref b):=by
  unfold atI
  rw [ay3,ln,hk]
  simp [hb]
 refine ⟨_,L,_,C,ae3 h u ⟨.inl ⟨rfl,_,SqL.of E⟩,_,x,afn E (by rw [M.length];exact big (by omega)) ?_⟩⟩
 have w:a ≠ b:=fun z=>O (z ▸ s)
 have J:=I.change (A:=OLL (d.set n (ds ++ [y]))) (H2:=upd H b (.lst (vs ++ [vy]))) (F2:=F i) (os':=.own (OLL (d.set n (ds ++ [y])))) i e L (fun c o p D=>by rw [aag (fun z:c=b=>p ((f c).mpr (.inr (by rw [z];exact s))))];exact D)
  (fun c o D=>by
   by_cases z:c=b
   ·rw [z];exact ⟨_,aai⟩
   ·rw [aag z];exact ⟨o,D⟩)
  (fun c z=>⟨.inl z,by
   by_cases y:c=b
   ·rw [y];exact ⟨_,aai⟩
   ·rw [aag y];exact I.fo i c z⟩) ?_ (fun c X e=>by
   by_cases z:c=b
   ·subst z;rw [aai] at e;cases e
   ·rw [aag z] at e;exact I.ft c X e) (.inl ⟨rfl,_,rfl⟩)
 ·exact Y _ G _ _ _ _ J (Same.refl _) .non q
 ·refine ⟨a,as,rfl,by rw [aag w];exact h,N,O,by simp [ln],fun m c es p g=>?_,f⟩
  by_cases hm:m=n
  ·subst hm
   rw [hb] at p;cases p
   rw [aB1,aC5 rfl,aC5 hn] at g
   cases g
   exact ⟨_,aai,M.append (.cons P .nil)⟩
  ·rw [aB1,aC6 (fun z=>hm z.symm)] at g
   obtain ⟨us,W,Z⟩:=r m c es p g
   refine ⟨us,?_,Z⟩
   rw [aag]
   ·exact W
   ·rintro rfl
    have T:=(ay1.mp hb)
    have U:=(ay1.mp p)
    obtain ⟨S,e1⟩:=T
    obtain ⟨l2,e2⟩:=U
    exact hm (nodup_ix N l2 S (e2.trans e1.symm))
end
@[reducible] def prD (p:Int × Int):PyData:=.tuple [.int p.1,.int p.2]
@[reducible] def webD (n:Int) (es:List (Int × Int)):PyData:=.tuple [.int n,.list (es.map prD)]
def Tied (es:List (Int × Int)) (u v:Int):Prop:=(u,v)∈es\/(v,u)∈es
theorem Tied.symm {es:List (Int × Int)} {u v:Int} (h:Tied es u v):Tied es v u:=h.elim .inr .inl
def InN (n:Int) (es:List (Int × Int)):Prop:=∀ p∈es,0<=p.1/\p.1 < n/\0<=p.2/\p.2 < n
theorem Tied.in {n:Int} {es:List (Int × Int)} {u v:Int} (hi:InN n es) (h:Tied es u v):(0<=u/\u < n)/\0<=v/\v < n:=by
 rcases h with h | h
 ·have:=hi _ h;exact ⟨⟨this.1,this.2.1⟩,this.2.2⟩
 ·have:=hi _ h;exact ⟨⟨this.2.2.1,this.2.2.2⟩,this.1,this.2.1⟩
theorem Tied.snoc {es:List (Int × Int)} {i:Nat} {a b:Int} (h:es[i]?=some (a,b)) (u v:Int):Tied (es.take (i+1)) u v ↔ (Tied (es.take i) u v\/(u=a/\v=b))\/(u=b/\v=a):=by
 have e:es.take (i+1)=es.take i ++ [(a,b)]:=by rw [aE4,h];rfl
 unfold Tied
 rw [e]
 simp only [ay7,aA1,Prod.mk.injEq]
 constructor
 ·rintro ((h | ⟨rfl,rfl⟩) | (h | ⟨rfl,rfl⟩))
  ·exact .inl (.inl (.inl h))
  ·exact .inl (.inr ⟨rfl,rfl⟩)
  ·exact .inl (.inl (.inr h))
  ·exact .inr ⟨rfl,rfl⟩
 ·rintro (((h | h) | ⟨rfl,rfl⟩) | ⟨rfl,rfl⟩)
  ·exact .inl (.inl h)
  ·exact .inr (.inl h)
  ·exact .inl (.inr ⟨rfl,rfl⟩)
  ·exact .inr (.inr ⟨rfl,rfl⟩)
def TiedL (n:Int) (T:Int->Int->Prop) (tl:List (List Int)):Prop:=(tl.length:Int)=n/\∀ (i:Nat) ws,tl[i]?=some ws->∀ w,w∈ws ↔ T i w
def oD:Option Nat->PyData
 | none => .none
 | some d => .int d
def lab (n:Nat) (far:Int->Option Nat):List PyData:=(List.range n).map fun (i:Nat)=>oD (far (i:Int))
theorem acv {n:Nat} {far:Int->Option Nat}:(lab n far).length=n:=by simp [lab]
theorem ad2 {n:Nat} {far:Int->Option Nat} {i:Nat} (h:i < n):(lab n far)[i]?=some (oD (far i)):=by
 unfold lab
 rw [ay5,ay0 (by simpa using h)]
 simp
theorem aed {n:Nat} {far:Int->Option Nat} {v:Int} (a:0<=v) (h:v < n):atI (lab n far) v=some (oD (far v)):=by
 have:=aeu (xs:=lab n far) (j:=v.toNat) (ad2 (by omega))
 rwa [show ((v.toNat:Nat):Int)=v by omega] at this
theorem ahl {n:Nat} {v:Int} (a:0<=v) (h:v < n):ixN n v=some v.toNat:=by
 unfold ixN;rw [aC5 a,aC5 h]
theorem ana {n:Nat} {far:Int->Option Nat} {v:Int} {d:Nat} (a:0<=v) (h:v < n):(lab n far).set v.toNat (.int d)=lab n (Gr.label far v d):=by
 apply aD2
 intro i
 rw [aB1]
 by_cases e:v.toNat=i
 ·rw [aC5 e,aC5 (by rw [acv];omega),ad2 (by omega)]
  have:(i:Int)=v:=by omega
  rw [this,Gr.label_same];rfl
 ·rw [aC6 e]
  by_cases hi:i < n
  ·rw [ad2 hi,ad2 hi,Gr.label_ne (by omega)]
  ·rw [aC7.mpr (by rw [acv];omega),aC7.mpr (by rw [acv];omega)]
theorem apj {n:Nat} {f g:Int->Option Nat} (h:∀ v,0<=v->v < (n:Int)->f v=g v):lab n f=lab n g:=by
 unfold lab
 apply aC1
 intro i hi
 rw [h i (by omega) (by have:=az8.mp hi;omega)]
theorem aud {o:Option Nat}:isNone (oD o)=o.isNone:=by cases o <;> rfl
theorem adq {α:Type} {f : α->PyData} {xs:List α} {i:Int} {x : α} (h:atI xs i=some x):atI (xs.map f) i=some (f x):=by
 unfold atI at h ⊢
 rw [ay3]
 cases e:ixN xs.length i with
 | none=>rw [e] at h;cases h
 | some j=>rw [e] at h;simp at h ⊢;exact ⟨_,h,rfl⟩
theorem acb {α:Type} {xs:List α} {i:Int} {x : α} (a:0<=i) (h:xs[i.toNat]?=some x):atI xs i=some x:=by
 have:=aeu (xs:=xs) (j:=i.toNat) h
 rwa [show ((i.toNat:Nat):Int)=i by omega] at this
@[reducible] def tlD (tl:List (List Int)):List (List PyData):=tl.map fun ws=>ws.map .int
theorem TiedL.get {n:Int} {T:Int->Int->Prop} {tl:List (List Int)} (h:TiedL n T tl) {v:Int} (c:0<=v) (b:v < n):∃ ws,tl[v.toNat]?=some ws/\∀ w,w∈ws ↔ T v w:=by
 have a:v.toNat < tl.length:=by have:=h.1;omega
 refine ⟨tl[v.toNat],ay0 a,fun w=>?_⟩
 rw [h.2 _ _ (ay0 a) w,show ((v.toNat:Nat):Int)=v by omega]
theorem af9 {tl:List (List Int)} {i:Nat} {ws:List Int} (h:tl[i]?=some ws):(tlD tl)[i]?=some (ws.map .int):=by
 rw [ay5,h];rfl
theorem TiedL.put {n:Int} {T:Int->Int->Prop} {tl:List (List Int)} (h:TiedL n T tl) {v q:Int} {ws:List Int} (j:0<=v) (f:v < n) (c:tl[v.toNat]?=some ws):TiedL n (fun a b=>T a b\/(a=v/\b=q)) (tl.set v.toNat (ws ++ [q])):=by
 refine ⟨by rw [List.length_set];exact h.1,fun i us hi w=>?_⟩
 rw [aB1] at hi
 by_cases e:v.toNat=i
 ·rw [aC5 e] at hi
  have g:v.toNat < tl.length:=(ay1.mp c).1
  rw [aC5 (by omega)] at hi
  cases hi
  have d:(i:Int)=v:=by omega
  rw [ay7,aA1,h.2 i ws (by rw [← e];exact c) w,d]
  simp
 ·rw [aC6 e] at hi
  rw [h.2 i us hi w]
  exact ⟨.inl,fun z=>z.elim id fun z=>by omega⟩
theorem anb {tl:List (List Int)} {i:Nat} {ws:List Int}:(tlD tl).set i (ws.map .int)=tlD (tl.set i ws):=by
 unfold tlD;rw [List.map_set]
theorem TiedL.iff {n:Int} {T a:Int->Int->Prop} {tl:List (List Int)} (h:TiedL n T tl) (e:∀ u v,T u v ↔ a u v):TiedL n a tl:=⟨h.1,fun i ws hi w=>(h.2 i ws hi w).trans (e _ _)⟩
end VL
namespace VL
open PySem L2
def cnt (far:Int->Option Nat):Nat->Nat
 | 0=>0
 | n+1=>cnt far n+(if far (n:Int)=none then 1 else 0)
theorem afb {far:Int->Option Nat} {w:Int} {d:Nat}:∀ {n:Nat},(w:Int) ≥ n->cnt (Gr.label far w d) n=cnt far n
 | 0,_=>rfl
 | n+1,h=>by
  unfold cnt
  rw [afb (by omega),Gr.label_ne (by omega)]
theorem ai7 {far:Int->Option Nat} {w:Int} {d:Nat} (b:0<=w) (a:far w=none):∀ {n:Nat},w < (n:Int)->cnt (Gr.label far w d) n+1=cnt far n
 | 0,h=>by omega
 | n+1,h=>by
  unfold cnt
  by_cases e:w=n
  ·subst e
   rw [afb (by omega),Gr.label_same,a];simp
  ·rw [Gr.label_ne (by omega)]
   have:=ai7 b a (n:=n) (d:=d) (by omega)
   omega
theorem aue (n:Nat):(List.replicate n [PyData.none]).flatten=lab n (fun _=>none):=by
 apply aD2
 intro i
 by_cases hi:i < n
 ·rw [ad2 hi]
  have:(List.replicate n [PyData.none]).flatten=List.replicate n PyData.none:=by
   clear hi
   induction n with
   | zero=>rfl
   | succ n ih=>rw [aE3,List.flatten_cons,ih,aE3];rfl
  rw [this,aE7,aC5 hi];rfl
 ·rw [aC7.mpr (by rw [amm];simp;omega),aC7.mpr (by rw [acv];omega)]
theorem al9 {α:Type} {f : α->PyData} {xs:List α}:(xs.map f).isEmpty=xs.isEmpty:=by cases xs <;> rfl
theorem ads {xs:List Int} {j:Nat} {u w:Int} (a:xs[j]?=some u) (hm:w∈xs.take (j+1)):w∈xs.take j\/w=u:=by
 rw [aE4,a] at hm
 rcases ay7.mp hm with q | q
 ·exact .inl q
 ·exact .inr (by simpa using q)
theorem adr {n:Nat} {far:Int->Option Nat}:plainDs (lab n far)=true:=by
 rw [agj]
 intro d hd
 obtain ⟨i,_,rfl⟩:=az6.mp hd
 cases far (i:Int) <;> rfl
theorem anc {n:Nat} {far:Int->Option Nat}:((lab n far).any fun z=>PyData.eqv z .none)=true ↔ ∃ v:Int,0<=v/\v < n/\far v=none:=by
 rw [List.any_eq_true]
 constructor
 ·rintro ⟨d,hd,e⟩
  obtain ⟨i,hi,rfl⟩:=az6.mp hd
  refine ⟨i,by omega,by have:=az8.mp hi;omega,?_⟩
  cases h:far (i:Int) with
  | none=>rfl
  | some d=>rw [h] at e;simp [oD,PyData.eqv] at e
 ·rintro ⟨v,a,b,h⟩
  refine ⟨oD (far v),?_,by rw [h];rfl⟩
  have:=ad2 (far:=far) (show v.toNat < n by omega)
  rw [show ((v.toNat:Nat):Int)=v by omega] at this
  exact ay2 this
def Joined (n:Int) (es:List (Int × Int)):Prop:=∀ v,0<=v->v < n->∃ d,Gr.Dist (Tied es) 0 v d
end VL
namespace DI
open PySem PySem.W
def Raw (h:Heap) (d:Addr) (es:Array DictEntry) (ep:Nat):Prop:=∃ o,h.get? d=some o/\o.ExactDict/\o.data=.dict es ep
theorem Raw.keep {h h':Heap} {d:Addr} {es:Array DictEntry} {a:Nat} (r:Raw h d es a) (k:∀ o,h.get? d=some o->h'.get? d=some o):Raw h' d es a:=let ⟨o,e,x⟩:=r;⟨o,k o e,x⟩
theorem Raw.ty {s:Shared} {d:Addr} {es:Array DictEntry} {a:Nat} (r:Raw s.heap d es a):s.TypeIs (.ref d) "dict":=let ⟨o,e,x,_⟩:=r;⟨o,e,x.1⟩
section
variable {prog:Program} {w:World} {A:Around} {E:Value->Shared->Prop} {s:Shared} {d it:Addr} {es:Array DictEntry} {ep i:Nat}
theorem arj {Q:Value->Shared->Prop} (hd:(d == sysModules)=false) (r:Raw s.heap d es ep)
  (c:Q (.ref s.heap.objs.size) { s with heap:=s.heap.push { cls:=.type "dict_keyiterator",data:=.fields #[.ref d,.int 0 0,.int es.size 0,.int ep 0] } }):wpAny (model prog w) A (pyIter (.ref d)) Q E s:=by
 obtain ⟨o,b,f,a⟩:=id r
 refine wpAny_pyIter_slot r.ty PySem.F.slot_dict_iter (aG8 PySem.F.slot_dict_iter r.ty PySem.F.entry_dict_iter ?body (PySem.F.args_dict_iter_1 _))
 case body =>
  unfold Builtin.«dict.__iter__»
  refine aF8 ?slot
  case slot =>
   unfold Builtin.Dict.dictSlotNone
   refine aF8 (wpAny_notOrdered_dict r.ty ?pl)
   case pl =>
    show wpAny _ _ (pure (Value.ref d)) _ _ s
    refine aF9 ?rest
    case rest =>
     show wpAny _ _ (Builtin.Dict.showsAll d >>= _) _ _ s
     unfold Builtin.Dict.showsAll
     rw [aC6 (by rw [hd];exact ay9)]
     refine aF8 (aF9 (aF8 (wpAny_dictEntries b a (aF8 (wpAny_dictEpoch b a (aF8 (aG6 (aF9 ⟨_,rfl,"dict_keyiterator",_,⟨_,aG2 _ rfl,rfl⟩,PySem.F.slot_dict_keyiterator_next.lookup,?fin⟩))))))))
     case fin=>simpa [rawInt] using c
theorem ark {Q:Option Value->Shared->Prop} (a:s.heap.IsKeyIter it d i es.size ep) (r:Raw s.heap d es ep) (hi:i < es.size)
  (u:∀ h',h'.IsKeyIter it d (i+1) es.size ep->Heap.SameBut it s.heap h'->Q (some es[i].key) { s with heap:=h' }):wpAny (model prog w) A (pyNext (.ref it)) Q E s:=by
 obtain ⟨o,q,x,hd⟩:=id a
 obtain ⟨od,p,v,n⟩:=r
 unfold pyNext
 refine aF8 (wpAny_attempt (wpAny_callSpecial?_slot (name:=Str.ofString "__next__") a.typeIs PySem.F.slot_dict_keyiterator_next (aG8 PySem.F.slot_dict_keyiterator_next a.typeIs PySem.F.entry_dict_keyiterator_next ?b (PySem.F.args_dict_keyiterator_next_1 _))))
 case b =>
  refine aF8 (aF9 (aF8 (aF8 ?c)))
  case c =>
   first | refine aF8 (wpAny_typeNameOfWhole_keyiter a.typeIs (aF9 (aF8 (wpAny_fieldsOf q hd ?e)))) | refine aF8 (wpAny_typeNameOf_keyiter a.typeIs (aF9 (aF8 (wpAny_fieldsOf q hd ?e))))
   case e =>
    simp only [show Builtin.Dict_items.ownsTuple "dict_keyiterator" = false by decide,Bool.false_eq_true,if_false]
    show wpAny _ _ (if (Value.ref d == Value.none)=true then _ else _) _ _ s;rw [aC6 (show ¬ ((Value.ref d == Value.none)=true) from ay9)]
    refine aF8 (aF9 (aF8 (wpAny_dictEntries p n ?f)))
    case f =>
     rw [aC6 (by simp)];refine aF8 (aF9 (aF8 (wpAny_dictEpoch p n ?g)))
     case g =>
      rw [aC6 (by simp)];refine aF9 ?h
      case h =>
       simp only [show ¬ ((i:Int) < 0) by omega,if_false,Int.toNat_natCast,ay4 hi];refine aF8 ?j
       case j =>
        first | refine aF8 (wpAny_typeNameOfWhole_keyiter a.typeIs (aF9 (aF8 (wpAny_isOneOf_keyiter a.typeIs ?k)))) | refine aF8 (wpAny_typeNameOf_keyiter a.typeIs (aF9 (aF8 (wpAny_isOneOf_keyiter a.typeIs ?k))))
        case k =>
         show wpAny _ _ (setField (.ref it) 1 (rawInt ((i:Int)+1)) >>= _) _ _ s;refine aF8 (wpAny_setField q hd (by simp) ?l)
         case l =>
          have nx:(s.heap.update it (Obj.mapFields (·.setIfInBounds 1 (rawInt ((i:Int)+1))))).IsKeyIter it d (i+1) es.size ep:=⟨_,Heap.get?_update_self _ q (Obj.isFreed_of_fields (Obj.data_mapFields hd _)),(Obj.cls_mapFields ..).trans x,by rw [Obj.data_mapFields hd];simp [rawInt]⟩
          refine aF8 (aG3 (aF8 (wpAny_isOneOf_keyiter (s:={ s with heap:=s.heap.update it (Obj.mapFields (·.setIfInBounds 1 (rawInt ((i:Int)+1)))) }) nx.typeIs ?m)))
          case m=>show wpAny _ _ (pure es[i].key) _ _ _;exact aF9 (aF9 ⟨_,rfl,aF9 (u _ nx (Heap.SameBut.update ..))⟩)
theorem auf {Q:Option Value->Shared->Prop} (hh:A.handled=none) (i:s.heap.IsKeyIter it d es.size es.size ep) (r:Raw s.heap d es ep) (v:∀ h',Heap.ExtBut it s.heap h'->Q none { s with heap:=h' }):wpAny (model prog w) A (pyNext (.ref it)) Q E s:=by
 obtain ⟨o,u,y,hd⟩:=id i
 obtain ⟨od,p,x,n⟩:=r
 unfold pyNext
 refine aF8 (wpAny_attempt (wpAny_callSpecial?_slot (name:=Str.ofString "__next__") i.typeIs PySem.F.slot_dict_keyiterator_next (aG8 PySem.F.slot_dict_keyiterator_next i.typeIs PySem.F.entry_dict_keyiterator_next ?b (PySem.F.args_dict_keyiterator_next_1 _))))
 case b =>
  refine aF8 (aF9 (aF8 (aF8 ?c)))
  case c =>
   first | refine aF8 (wpAny_typeNameOfWhole_keyiter i.typeIs (aF9 (aF8 (wpAny_fieldsOf u hd ?e)))) | refine aF8 (wpAny_typeNameOf_keyiter i.typeIs (aF9 (aF8 (wpAny_fieldsOf u hd ?e))))
   case e =>
    simp only [show Builtin.Dict_items.ownsTuple "dict_keyiterator" = false by decide,Bool.false_eq_true,if_false]
    show wpAny _ _ (if (Value.ref d == Value.none)=true then _ else _) _ _ s;rw [aC6 (show ¬ ((Value.ref d == Value.none)=true) from ay9)]
    refine aF8 (aF9 (aF8 (wpAny_dictEntries p n ?f)))
    case f =>
     rw [aC6 (by simp)];refine aF8 (aF9 (aF8 (wpAny_dictEpoch p n ?g)))
     case g =>
      rw [aC6 (by simp)];refine aF9 ?h
      case h =>
       simp only [show ¬ ((es.size:Int) < 0) by omega,if_false,Int.toNat_natCast,Array.getElem?_eq_none (ay6 es.size)];refine aF8 ?j
       case j =>
        first | refine aF8 (wpAny_typeNameOfWhole_keyiter i.typeIs (aF9 ?k)) | refine aF8 (wpAny_typeNameOf_keyiter i.typeIs (aF9 ?k))
        case k =>
         show wpAny _ _ (setField (.ref it) 0 .none >>= _) _ _ s;refine aF8 (wpAny_setField u hd (by simp) ?l)
         case l =>
          show wpAny _ _ (newExc (.type "StopIteration") [] >>= _) _ _ _;refine aF8 ?m
          case m =>
           simp only [newExc,newTuple];refine aF8 (aG6 ?zz2 (by size_fits))
           case zz2 =>
            refine aF8 (m:=firstArgMember _ _) (wpAny_of_eq (a:=Value.none) (by first | rfl | (simp only [firstArgMember];rfl)) (aG6 ?zz1 (by size_fits)))
            case zz1 =>
             simp only [raiseNew];refine aF8 (wpAny_handled ?q)
             case q =>
              rw [show A.in1.handled=none from hh];refine aF8 (aF9 (wpAny_throw ?u1))
              case u1=>refine aF8 (wpAny_isInstance (T:="StopIteration") (b:=true) ⟨_,aG2 _ rfl,rfl⟩ isSubtype_stop ?u2);exact aF9 (v _ (((Heap.SameBut.update ..).extBut.push _).push _))
end
theorem walks {prog:Program} {w:World} {A:Around} (hh:A.handled=none) (I d:Addr) (c:d ≠ I) (es:Array DictEntry) (g:Nat) :
  Walks prog w A I [I,d] [I] es.size (fun i v=>(es[i]?).map (·.key)=some v) (fun i h=>h.IsKeyIter I d i es.size g/\Raw h d es g) where
 sub:=fun b hb=>by simp at hb;simp [hb]
 frame:=fun _ _ _ st f=>⟨st.1.at fun o e=>f I (by simp) o e,st.2.keep fun o e=>f d (by simp) o e⟩
 item:=fun i s Q E hi st a=>ark st.1 st.2 hi fun h' nx sb=>a _ h' s.toks (by rw [ay4 hi];rfl) ⟨nx,st.2.keep fun o e=>sb.extBut d o c e⟩ fun b o hb e=>sb.extBut b o (fun z=>hb (by simp [z])) e
 done:=fun s Q E st a=>auf hh st.1 st.2 fun h' j=>a h' s.toks fun b o hb e=>j b o (fun z=>hb (by simp [z])) e
 self:=fun _ _ _ _ st a=>wpAny_pyIter_keyiter st.1 a
end DI
namespace DI
open PySem PySem.W PyProof.Rows
section
variable {prog:Program} {w:World} {A:Around} {E:Value->Shared->Prop} {s:Shared}
theorem src (d:Addr) (es:Array DictEntry) (a:Nat) (hd:(d == sysModules)=false):KdlSrc prog w "dict" d d es.size (fun i v=>(es[i]?).map (·.key)=some v) (fun h=>Raw h d es a) where
 type:=fun s r=>r.ty
 there:=fun h r=>let ⟨o,e,_⟩:=r;⟨aG1 e,aG1 e⟩
 keep:=fun h h' r k=>r.keep fun o e=>k d (.inl rfl) o e
 notList:=by decide
 notTuple:=by decide
 hint:=fun A E s Q r q=>kdl_hint_dict r.ty q
 iter:=fun A s hh r=>⟨{ cls:=.type "dict_keyiterator",data:=.fields #[.ref d,.int 0 0,.int es.size 0,.int a 0] },fun i h=>h.IsKeyIter s.heap.objs.size d i es.size a/\Raw h d es a,fun E Q q=>arj hd r q,
  walks hh s.heap.objs.size d (by obtain ⟨o,e,_⟩:=r;exact az5 (aG1 e)) es a,⟨_,aG2 _ rfl,rfl,rfl⟩,r.keep fun o e=>aG0 _ e⟩
theorem collect_src {T:String} {r d:Addr} {n:Nat} {P:Nat->Value->Prop} {j:Heap->Prop} {Q:List Value->Shared->Prop} (K:KdlSrc prog w T r d n P j) (hh:A.handled=none) (hok:j s.heap) (hn:n<=sizeLine)
  (u:∀ h' i (f:Array Value),(∀ b o,s.heap.get? b=some o->h'.get? b=some o)->s.heap.objs.size<=h'.objs.size->ItemsOf P f n->Q f.toList { s with heap:=h',toks:=i }):wpAny (model prog w) A (collect (.ref r)) Q E s:=by
 unfold collect
 refine aF8 (wpAny_runValue (codeAny_builtin PySem.F.entry_proto_collect ?a1))
 case a1 =>
  rw [Around.under_plainId PySem.F.plain_proto_collect _];show wpAny _ A.in1 (newList [] >>= fun l=>again (.builtin "list.__iadd__" ⟨[l,.ref r],[]⟩)) _ _ s
  refine aF8 (aG6 (aF9 ⟨plainId_quiet PySem.F.plain_list_iadd _,codeAny_builtin PySem.F.entry_list_iadd ?a2⟩))
  case a2 =>
   rw [Around.under_plainId PySem.F.plain_list_iadd _];show wpAny _ A.in1 (Builtin.List.listExtendWith (.ref s.heap.objs.size) (.ref r) (.ref s.heap.objs.size)) _ _ _
   have x:(s.heap.push { cls:=.type "list",data:=.seq ([]:List Value).toArray }).get? s.heap.objs.size=some { cls:=.type "list",data:=.seq #[] 0 }:=aG2 _ rfl
   obtain ⟨m,p⟩:=K.there _ hok
   refine kdl_extend (R:=wants (fun v q=>wpAny (model prog w) A (match v with | .ref a=>(do match (← load a).data with | .seq xs _=>pure xs.toList | _=>unsupported "internal:collect") | _=>unsupported "internal:collect") Q E q) E) (s:={ s with heap:=s.heap.push { cls:=.type "list",data:=.seq ([]:List Value).toArray } }) K hh (K.keep _ _ hok fun b _ o e=>aG0 _ e) s.heap.objs.size (Nat.ne_of_gt m) (Nat.ne_of_gt p) _ 0 x (fun h' i f c k h g=>?a3) hn
   case a3 =>
    show wpAny (model prog w) A _ Q E _
    refine aF8 (wpAny_load h ?a4)
    case a4=>exact aF9 (u h' i f (fun b o e=>k b o (az5 (aG1 e)) (aG0 _ e)) (aD5 (aG1 h)) g)
end
end DI
namespace TS
open PySem PySem.W PyProof.Rows
section
variable {prog:Program} {w:World} {A:Around} {E:Value->Shared->Prop} {s:Shared}
theorem sorted_gen {l:Addr} {Ok:List Value->Prop} {Q:Value->Shared->Prop}
  (i:∀ (D:List Value->Shared->Prop),(∀ vs h d,(∀ b o,s.heap.get? b=some o->h.get? b=some o)->s.heap.objs.size<=h.objs.size->Ok vs->D vs { s with heap:=h,toks:=d })->wpAny (model prog w) A.in1 (collect (.ref l)) D E s)
  (c:∀ vs,Ok vs->vs.length<=sizeLine)
  (B:∀ vs,Ok vs->2<=vs.length->∀ h' d,(∀ b o,s.heap.get? b=some o->h'.get? b=some o)->∃ κ S R,(∀ (Q:SortKind->Shared->Prop),Q κ { s with heap:=h',toks:=d }->wpAny (model prog w) A.in1.in1 (keyKind' vs.toArray) Q E { s with heap:=h',toks:=d }) /\
   Cmp (model prog w) A.in1.in1 E { s with heap:=h',toks:=d } κ S R/\(∀ v∈vs,S (v,v))/\∀ out:List Value,out.Perm vs->out.Pairwise (fun x y=>R (y,y) (x,x)=false) ->
    ∀ a h' d e,(∀ b o,s.heap.get? b=some o->h'.get? b=some o)->s.heap.objs.size<=a->h'.get? a=some (seqObj "list" out.toArray e)->Q (.ref a) { s with heap:=h',toks:=d })
  (h:∀ vs,Ok vs->vs.length < 2->∀ a h' d e,(∀ b o,s.heap.get? b=some o->h'.get? b=some o)->s.heap.objs.size<=a->h'.get? a=some (seqObj "list" vs.toArray e)->Q (.ref a) { s with heap:=h',toks:=d }) :
  wpAny (model prog w) A (call (.builtin "sorted") [.ref l]) Q E s:=by
 refine Calls.call_function_entry kind_sorted plain_sorted entry_sorted (args_sorted1 _) ?_
 unfold Builtin.«sorted»
 refine aF8 (m:=checkCount "sorted" 1 1 _) (aF9 (aF8 (i _ fun vs g d kp hsz r=>?_)))
 have c:=c vs r
 refine aF8 (wpAny_newList ?_ c)
 have f:(g.push (seqObj "list" vs.toArray 0)).get? g.objs.size=some (seqObj "list" vs.toArray 0):=aG2 _ rfl
 have keep:∀ b o,s.heap.get? b=some o->(g.push (seqObj "list" vs.toArray 0)).get? b=some o:=fun b o q=>aG0 _ (kp b o q)
 refine aF8 (aG3 (aG8 slot_list_sort ⟨_,f,rfl⟩ entry_list_sort ?body (args_list_sort _)))
 case body =>
  have fin:∀ out:List Value,∃ e,(sortedHeap (g.push (seqObj "list" vs.toArray 0)) g.objs.size vs out.toArray).get? g.objs.size=some (seqObj "list" out.toArray e):=fun out=>sortedHeap_at (n:=0) f
  have old:∀ (out:List Value) b o,s.heap.get? b=some o->(sortedHeap (g.push (seqObj "list" vs.toArray 0)) g.objs.size vs out.toArray).get? b=some o:=fun out b o e=>by
   have lt:=aG1 (kp b o e)
   rw [sortedHeap_old (az5 lt) (by rw [size_push'];exact aC8 lt)];exact keep b o e
  refine afa (s:={ s with heap:=g.push (seqObj "list" vs.toArray 0),toks:=d }) f c (fun p h' J=>?_) fun z=>?_
  ·obtain ⟨κ,S,R,H,C,I,j⟩:=B vs r p h' d fun b o e=>J b o (az5 (aG1 (kp b o e))) (keep b o e)
   refine ⟨κ,S,R,H,C,I,fun out G F=>⟨_,rfl,aF9 ⟨_,rfl,?_⟩⟩⟩
   obtain ⟨e,u⟩:=fin out
   exact j out G F _ _ _ e (old out) hsz u
  ·obtain ⟨e,u⟩:=fin vs
   exact ⟨_,rfl,aF9 ⟨_,rfl,h vs r z _ _ _ e (old vs) hsz u⟩⟩
end
end TS
namespace L2
open PySem PySem.Spec PyProof.Rows
section
variable {X:Cx} {pins:List (Addr × Obj)} {σ:St} {H:Hp} {s:Shared} {h':Heap}
end
section
variable {X:Cx} {elts:List Expr} {k:Nat} {tpos:Pos}
end
section
variable {X:Cx} {elts:List Expr} {k:Nat} {tpos:Pos}
end
theorem aii:∀ {xs:List V} {us:List Value},xs.length=us.length->(∀ (i:Nat) v u,xs[i]?=some v->us[i]?=some u->RelV v u)->Vals xs us
 | [],[],_,_ => .nil
 | [],_ :: _,h,_=>by simp at h
 | _ :: _,[],h,_=>by simp at h
 | x :: xs,u :: us,h,k => .cons (k 0 x u rfl rfl) (aii (by simpa using h) fun i v w b a=>k (i+1) v w (by simpa using b) (by simpa using a))
theorem ama (prog:Program) (w:World) (A:Around) {bs:List Bool} {us:List Value} (r:Vals (bs.map V.bl) us):TruthOf prog w A (fun i v=>us.toArray[i]?=some v) (fun i=>bs.getD i false):=by
 intro i v s Q E c h
 have a:us[i]?=some v:=by simpa using c
 have hi:i < us.length:=(ay1.mp a).1
 have hb:i < bs.length:=by have:=r.length;simp at this;omega
 obtain ⟨u,b,d⟩:=r.get (i:=i) (x:=.bl bs[i]) (by simp [hb])
 rw [a] at b;cases b
 cases (show v=Value.bool bs[i] from d)
 have e:bs.getD i false=bs[i]:=by simp [List.getD,hb]
 have h':Q (bs.getD i false) s:=h
 rw [e] at h'
 exact aG9 h'
section
variable {X:Cx}
theorem apk (bs:List Bool):((List.range bs.length).all fun i=>bs.getD i false)=bs.all id:=by
 rw [aE8,aC4,aC4]
 constructor
 ·intro h b hb
  obtain ⟨i,hi,e⟩:=aE6.mp hb
  have:=h i (az8.mpr hi)
  simp [List.getD,hi,e] at this
  exact this
 ·intro h i hi
  have a:=az8.mp hi
  have:=h bs[i] (List.getElem_mem a)
  simp [List.getD,a];exact this
def rAll (K:Frag):List V->Hp->VK->Prop:=fun xs H Q=>∃ (a:Addr) (bs:List Bool),xs=[.ref a]/\SqL K H a (bs.map V.bl)/\Q (.bl (bs.all id)) H
theorem ai8 (f:X.calm=true):abc X (.builtin "all") (rAll X.K):=by
 intro pins s σ H xs us Q I r h
 obtain ⟨a,bs,rfl,ha,q⟩:=h
 obtain ⟨u,rfl,g⟩:=acz r
 cases g
 obtain ⟨its,d,c,_⟩:=I.list ha
 have i:a < s.heap.objs.size:=by obtain ⟨o,n,e,_⟩:=c;exact aG1 e
 have hz:its.toArray.size=bs.length:=by have:=d.length;simp at this;simp [this]
 refine call_all_walk (aH0 c.isList ⟨_,[s.heap.objs.size,a],_,_,_,_,_,rfl,Walks.list (A:=X.A.in1) (I.ok.hd f) _ a (az5 i) its.toArray,⟨⟨_,aG2 _ rfl,rfl,rfl⟩,c.isList.push _⟩,ama _ _ _ d,fun l j kp=>?_⟩)
 rw [hz,apk]
 refine ⟨.bl _,H,I.kept fun b o e=>kp b o (fun z=>?_) (aG0 _ e),rfl,q⟩
 exact absurd (aG1 e) (by rw [aA1.mp z];exact aD4 _)
def ahm (ta:TA):TE:=fun σ H Q=>ta σ H fun vs H1=>∃ j:Int,vs=[.int j]/\0<=j/\j<=1000000/\∀ l,H1 l=none->Q (.ref l) (upd H1 l (.lst ((List.range j.toNat).map fun (i:Nat)=>V.int (i:Int))))
theorem alo {a:Expr} {A:TA} {P p2 r d:Pos} (B:Gl X "list") (hm:X.mg "list" = none) (z:Gl X "range") (w:X.mg "range" = none) (F:X.calm=true) (ha:PA X [a] A) (L:starEach [a] X.env=[(false,eval a X.env)]:=by rfl)
  (n:starEach [.Call (.Name "range" p2) [a] [] d] X.env=[(false,eval (.Call (.Name "range" p2) [a] [] d) X.env)]:=by rfl):PE X (.Call (.Name "list" P) [.Call (.Name "range" p2) [a] [] d] [] r) (ahm A):=by
 intro pins s σ H Q I h
 refine Call_ (ad3 I B hm amv (PyProof.Rows.callWith_type1 ?_ n rfl))
 rw [n]
 refine Calls.spliced_cons (Call_ (ad3 I z w boot_range (PyProof.Rows.callWith_type1 (thn (ha d pins s σ H _ I h) fun us s1 ⟨vs,S,x,J,j,E,U,T,q⟩=>?_) L rfl)))
 subst E
 obtain ⟨u,rfl,t,rfl⟩:=acz J
 refine call_range_1 (Calls.spliced_nil ?_)
 have R:IsRange (s1.heap.push { cls:=.type "range",data:=.fields #[.int 0 s1.toks,.int j t,.int 1 (s1.toks+1)] }) s1.heap.objs.size 0 j 1 s1.toks t (s1.toks+1):=aG2 _ rfl
 have hn:Builtin.Range.rangeSize 0 j 1=((j.toNat:Nat):Int):=by rw [rangeSize_one];split <;> omega
 refine call_list_range (s:={ s1 with heap:=s1.heap.push { cls:=.type "range",data:=.fields #[.int 0 s1.toks,.int j t,.int 1 (s1.toks+1)] },toks:=s1.toks+1+1 }) (x.ok.hd F) R (small_one (by omega) (by omega) (by omega) (by omega)) hn (by omega) fun G C m c kp O g=>?_
 have M:∀ b o,s1.heap.get? b=some o->G.get? b=some o:=fun b o e=>kp b o (aG0 _ e)
 have f:s1.heap.objs.size<=(s1.heap.push { cls:=.type "range",data:=.fields #[.int 0 s1.toks,.int j t,.int 1 (s1.toks+1)] }).objs.size:=by rw [aG7];exact Nat.le_succ _
 refine ⟨.ref _,_,x.laid (t':=C) (o:=.lst ((List.range j.toNat).map fun (i:Nat)=>V.int (i:Int))) M f ?_,rfl,q _ (x.hok.fresh f)⟩
 refine ⟨by rw [ay3,List.length_range];exact aD5 (VL.big (by omega)),m.toList,c,?_,by simpa using O⟩
 obtain ⟨D,y⟩:=g
 refine aii (by simp [D]) fun i v u p N=>?_
 have l:m[i]?=some u:=by simpa using N
 obtain ⟨t',K⟩:=y i u l
 rw [ay5] at p
 have hi:i < j.toNat:=by
  have:=(Array.getElem?_eq_some_iff.mp l).1
  omega
 rw [ay0 (by simpa using hi)] at p
 simp at p
 subst p
 exact ⟨t',by rw [K];simp⟩
end
section
variable {X:Cx} {pins:List (Addr × Obj)} {σ:St} {H:Hp} {s:Shared}
end
theorem KT.get {H:Hp}:∀ {kvs:List (List Key × V)} {xs:List (List Key × Addr × Value)} {i:Nat} {p:List Key × V},KT H kvs xs->kvs[i]?=some p->∃ q,xs[i]?=some q/\p.1=q.1/\H q.2.1=some (.tup (p.1.map kV))
 | _,_,_,_,.nil,e=>by simp at e
 | _,_,0,_,.cons r _,e=>by simp at e;subst e;exact ⟨_,rfl,r.1,r.2.1⟩
 | _,_,i+1,p,.cons _ t,e=>by
  obtain ⟨q,b,a⟩:=KT.get (i:=i) (p:=p) t (by simpa using e)
  exact ⟨q,by simpa using b,a⟩
section
variable {X:Cx} {tg:Expr}
def aga:List V->Hp->VK->Prop:=fun xs H Q=>∃ (a:Addr) (kvs:List (List Key × V)) (kss:List (List Int)),xs=[.ref a]/\H a=some (.dT kvs)/\kvs.map (·.1)=kss.map (fun ns=>ns.map Sum.inl)/\(∀ ns∈kss,ns ≠ []) /\
 ∀ (vs:List V) (p:Addr),(∀ v∈vs,TupI H v)->(vs.map (kH H)).Perm kss->vs.Pairwise (fun x y=>HT.lexLt (kH H y) (kH H x)=false)->H p=none->Q (.ref p) (upd H p (.lst vs))
theorem ane {H:Hp}:∀ {kvs:List (List Key × V)} {xs:List (List Key × Addr × Value)} {a:List (List Int)},KT H kvs xs->kvs.map (·.1)=a.map (fun ns=>ns.map Sum.inl)->(∀ ns∈a,ns ≠ []) ->
  (∀ v∈xs.map (fun q=>V.ref q.2.1),TupI H v)/\(xs.map (fun q=>V.ref q.2.1)).map (kH H)=a
 | _,_,[],.nil,_,_=>⟨fun v b=>by simp at b,rfl⟩
 | _,_,_ :: _,.nil,h,_=>by simp at h
 | _,_,[],.cons _ _,h,_=>by simp at h
 | p :: kvs,q :: xs,ns :: a,.cons r t,h,hn=>by
  simp only [aB0,List.cons.injEq] at h
  obtain ⟨c,f⟩:=ane t h.2 fun d hm=>hn d (az4 _ hm)
  have e:H q.2.1=some (.tup (ns.map V.int)):=by
   rw [r.2.1,h.1,aB6];rfl
  refine ⟨fun v b=>?_,?_⟩
  ·rcases ay8.mp b with rfl | b
   ·exact ⟨_,ns,rfl,e,hn ns az7⟩
   ·exact c v b
  ·rw [aB0,aB0,aj2 e,f]
theorem agl (hc:X.calm=true):abc X (.builtin "sorted") aga:=by
 intro pins s σ H xs us Q I r h
 obtain ⟨a,kvs,a0,rfl,hH,hk,K,q⟩:=h
 obtain ⟨u,rfl,ru⟩:=acz r
 cases ru
 obtain ⟨z,y,ys,C,o,es,ep,U,n,h3,P,h5⟩:=(show ObjOk X.prog X.w H s.heap a (.dT kvs) from I.hok a _ hH)
 obtain ⟨D,t2⟩:=ane C hk K
 have hz:es.size=ys.length:=by
  have e1:es.toList.length=ys.length:=by rw [P];simp
  simpa using e1
 have g:ys.length<=sizeLine:=by have:=Paired.length C;omega
 let c:List Value:=ys.map fun q => .ref q.2.1
 have O:Vals (ys.map fun q=>V.ref q.2.1) c:=aii (by simp [c]) fun i v u d B=>by
  rw [ay5] at d B
  cases e:ys[i]? with
  | none=>rw [e] at d;cases d
  | some q=>rw [e] at d B;cases d;cases B;rfl
 obtain ⟨L,N⟩:=afs O D
 have fin:∀ out:List Value,out.Perm c->(out.map adc).Pairwise (fun x y=>HT.lexLt (kH H y) (kH H x)=false)->∀ p n f e,(∀ b o,s.heap.get? b=some o->n.get? b=some o)->s.heap.objs.size<=p->n.get? p=some (seqObj "list" out.toArray e)->EP X pins σ Q (.ref p) { s with heap:=n,toks:=f }:=by
  intro out j G p n f e kp hsz he
  have d:Vals (out.map adc) out:=afr fun u B=>L u (j.mem_iff.mp B)
  refine ⟨.ref p,_,I.laid (t':=f) (o:=.lst (out.map adc)) kp hsz ?_,rfl,q _ _ (fun v F=>?_) ?_ G (I.hok.fresh hsz)⟩
  ·refine ⟨by rw [ay3,j.length_eq];simp [c];exact g,out,e,d,by rw [he]⟩
  ·have:=(j.map adc).mem_iff.mp F
   rw [N] at this;exact D v this
  ·have:=(j.map adc).map (kH H)
   rw [N,t2] at this;exact this
 refine TS.sorted_gen (Ok:=fun vs=>vs=c) (fun Qc E=>DI.collect_src (DI.src a es ep y) (I.ok.hd hc) ⟨o,U,n,h3⟩ (by omega) fun h' f m kp hsz l=>E _ h' f kp hsz ?_) (fun vs e=>by subst e;simp [c];exact g) (fun vs e S h' f kp=>?_) fun vs e J=>?_
 ·obtain ⟨i1,Z⟩:=l
  apply aD2
  intro i
  simp only [c,ay5]
  by_cases hi:i < ys.length
  ·have ha:m[i]?=some m[i]:=ay4 (by omega)
   have:(es[i]?).map (·.key)=some m[i]:=Z i _ ha
   have R:es[i]?=some es[i]:=ay4 (by omega)
   rw [R] at this
   have M:es.toList[i]?=some es[i]:=by rw [aB3];exact R
   rw [P,ay5,ay0 hi] at M
   rw [ay0 hi]
   simp at this M
   rw [aB3,ha,← this,← M];rfl
  ·rw [aC7.mpr (by simp;omega),aC7.mpr (by omega)];rfl
 ·subst e
  obtain ⟨⟨fs,k1,k2,k3⟩,k4⟩:=agu I kp O D
  have A:(Value.type "int" != Value.type "tuple")=true:=by rfl
  refine ⟨tuples' true,TS.tS h' (fun a=>kH H (.ref a)),TS.tR (fun a=>kH H (.ref a)),fun Q' E=>?_,TS.cmp_tups (s:={ s with heap:=h',toks:=f }) (fun a=>kH H (.ref a)),fun v d=>?_,fun out j G=>fin out j ?_⟩
  ·refine PySem.W.kat_kind (T:=.type "int") (s:={ s with heap:=h',toks:=f }) k1 (by omega) (fun v d=>?_) (by rfl) ?_
   ·obtain ⟨i,t,rfl⟩:=k3 v d
    exact .now
   ·rw [A];exact E
  ·obtain ⟨a,e,ht⟩:=k4 v d
   exact ⟨rfl,a,e,ht⟩
  ·rw [aD1]
   refine aF0 ?_ G
   intro x y hx Y hr
   obtain ⟨ax,rfl⟩:=L x (j.mem_iff.mp hx)
   obtain ⟨ay,rfl⟩:=L y (j.mem_iff.mp Y)
   exact hr
 ·subst e
  exact fin c (List.Perm.refl _) (alc (by rw [ay3];exact J))
end
end L2
namespace VL
open PySem PySem.Spec L2
section
variable {B:Bs} {env:En} {QI:List PyData->En->Prop} {QO:Sl->En->Prop} {Q':PyData->En->Prop} {K:Frag} {i:Nat} {ta:TA}
theorem RpT.len {G:Hp}:∀ {kvs:List (List Key × V)} {es:List (List Key × PyData)},RpT G kvs es->kvs.length=es.length/\kvs.map (·.1)=es.map (·.1)
 | _,_,.nil=>⟨rfl,rfl⟩
 | _,_,.cons _ t=>by
  obtain ⟨b,a⟩:=RpT.len t
  exact ⟨by simp [b],by simp [a]⟩
@[reducible] def tkD (ks:List Key):PyData:=.tuple (ks.map kD)
@[reducible] def tiD (ns:List Int):PyData:=.tuple (ns.map .int)
def lexS (pss:List (List Int)):Prop:=pss.Pairwise fun x y=>HT.lexLt y x=false
theorem agw {G H:Hp} (ft:FT G H):∀ {vs:List V},(∀ v∈vs,TupI H v)->Rps G vs ((vs.map (kH H)).map tiD)
 | [],_ => .nil
 | v :: vs,h=>by
  obtain ⟨t,ns,rfl,e,_⟩:=h v az7
  rw [aB0,aB0,aj2 e]
  have:(ns.map V.int)=(ns.map (fun i=>(Sum.inl i:Key))).map kV:=by rw [aB6];rfl
  refine .cons (.tup ?_ (Rps.ints ns)) (agw ft fun u a=>h u (az4 _ a))
  rw [this];exact ft t _ (by rw [← this];exact e)
theorem agm {G H:Hp} (gh:Same G H):∀ {vs:List V} {pss:List (List Int)},Rps G vs (pss.map tiD)->(∀ ns∈pss,ns ≠ [])->(∀ v∈vs,TupI H v)/\vs.map (kH H)=pss
 | _,[],.nil,_=>⟨fun v d=>by simp at d,rfl⟩
 | v :: vs,ns :: pss,.cons r t,hn=>by
  obtain ⟨b,f⟩:=agm gh t fun c hm=>hn c (az4 _ hm)
  cases r with
  | tup h rs =>
   have:=Rps.ints_inv rs
   subst this
   have e:=gh _ _ h
   refine ⟨fun u a=>?_,by rw [aB0,aj2 e,f]⟩
   rcases ay8.mp a with rfl | a
   ·exact ⟨_,ns,rfl,e,hn ns az7⟩
   ·exact b u a
theorem apl {pss:List (List Int)} (hn:∀ ns∈pss,ns ≠ []) (h:EvA B ta env fun ds e=>ds=[.list (pss.map tiD)]/\∀ b:List (List Int),b.Perm pss->lexS b->QO (.own (OL (b.map tiD))) e):EvO B (tCB (ahe K) ta) env QO:=fun σ G H F Q I k =>
 h σ G H F _ I fun vs z f m ds x c j q w=>by
  obtain ⟨s,n⟩:=w
  subst s
  cases q with
  | cons r t =>
   cases t
   cases r with
   | @lst a us _ ha rs =>
    obtain ⟨d,i⟩:=agm c.gh rs hn
    refine ⟨a,us,rfl,SqL.of (c.gh _ _ ha),d,fun ws p g u hf=>?_⟩
    have y:∀ v∈ws,TupI f v:=fun v l=>d v (g.mem_iff.mp l)
    have o:=Out.newL c.gh hf (agw c.ft y)
    refine k _ _ _ m _ _ x (c.out o).1 (j.trans o.gg) (c.out o).2 (n _ ?_ ?_)
    ·have:=g.map (kH f);rw [i] at this;exact this
    ·unfold lexS;rw [aD1];exact u
theorem aob {es:List (List Key × PyData)} {b:List (List Int)} (m:Has env i (OT es)) (l:es.map (·.1)=b.map (fun ns=>ns.map Sum.inl)) (hn:∀ ns∈b,ns ≠ []) (q:∀ c:List (List Int),c.Perm b->lexS c->QO (.own (OL (c.map tiD))) env):EvO B (tCB aga (abu (tVar i) tNil)) env QO:=fun σ G H F Q I k=>by
 obtain ⟨v,f,a,kvs,rfl,ha,rt,hf⟩:=I.has m
 obtain ⟨r,g⟩:=RpT.len rt
 refine ⟨_,f,a,kvs,b,rfl,ha,by rw [g,l],hn,fun ws p n h j d=>?_⟩
 have o:=Out.newL I.gh d (agw I.ft n)
 refine k _ _ _ F _ _ env (I.out o).1 o.gg (I.out o).2 (q _ h ?_)
 unfold lexS;rw [aD1];exact j
end
section
variable {B:Bs} {env:En} {QO:Sl->En->Prop} {Q':PyData->En->Prop} {K:Frag} {i:Nat} {ta:TA} {R:Sl->Prop}
theorem Rps.bools_inv {G:Hp}:∀ {bs:List Bool} {vs:List V},Rps G vs (bs.map PyData.bool)->vs=bs.map V.bl
 | [],_,.nil=>rfl
 | b :: bs,_,.cons r t=>by
  cases r
  rw [Rps.bools_inv t];rfl
theorem anf {bs:List Bool} (h:R (.st (.bool (bs.all id)))):OpA (rAll K) [.list (bs.map .bool)] R:=fun G H vs Q gh rs k=>by
 cases rs with
 | cons r t =>
  cases t
  cases r with
  | lst ha ra =>
   have:=Rps.bools_inv ra
   subst this
   exact ⟨_,bs,rfl,SqL.of (gh _ _ ha),k _ _ _ _ _ (Out.refl gh (.bl _)) h⟩
theorem apm {G:Hp} (n:Nat):Rps G ((List.range n).map fun (i:Nat)=>V.int (i:Int)) (rngD 0 n):=by
 unfold rngD
 refine aln (by simp) fun i v d a hd=>?_
 rw [ay5] at a hd
 cases e:(List.range n)[i]? with
 | none=>rw [e] at a;cases a
 | some m=>rw [e] at a hd;cases a;cases hd;show Rp G (.int (m:Int)) (.int (0+(m:Int)));rw [Int.zero_add];exact .int _
theorem ai9 (h:EvA B ta env fun ds e=>∃ j:Int,ds=[.int j]/\0<=j/\j<=1000000/\QO (.own (OL (rngD 0 j.toNat))) e):EvO B (ahm ta) env QO:=fun σ G H F Q I k =>
 h σ G H F _ I fun vs s r c ds m a b g l=>by
  obtain ⟨j,i,q,n,d⟩:=l
  subst i
  obtain rfl:vs=[V.int j]:=Rps.ints_inv (ns:=[j]) g
  refine ⟨j,rfl,q,n,fun p f=>?_⟩
  have o:=Out.newL a.gh f (apm j.toNat)
  exact k _ _ _ c _ _ m (a.out o).1 (b.trans o.gg) (a.out o).2 d
theorem arl (h:EvA B ta env fun ds e=>∃ j:Int,ds=[.int j]/\0<=j/\j<=1000000/\Q' (.list (rngD 0 j.toNat)) e):Ev B (ahm ta) env Q':=abl (ai9 fun σ G H F Q I k=>h σ G H F Q I fun vs G' H' F' ds f d g r ⟨j,a,b,c,q⟩=>k vs G' H' F' ds f d g r ⟨j,a,b,c,ac0 q⟩)
end
section
variable {κ:Type} [DecidableEq κ] {α:Type}
def valD (es:List (κ × α)) (k : κ):Option α:=(es.find? fun e=>decide (e.1=k)).map (·.2)
def putD (es:List (κ × α)) (k : κ) (d : α):List (κ × α):=if (es.any fun e=>decide (e.1=k))=true then es.map (fun e=>if e.1=k then (e.1,d) else e) else es ++ [(k,d)]
end
theorem RpK.val {G:Hp} {k:Key}:∀ {kvs:List (Key × V)} {es:List (Key × PyData)},RpK G kvs es->(valD es k=none->valV kvs k=none)/\∀ d,valD es k=some d->∃ v,valV kvs k=some v/\Rp G v d
 | _,_,.nil=>⟨fun _=>rfl,fun d h=>by cases h⟩
 | _,_,.cons (k:=k') r t=>by
  obtain ⟨b,f⟩:=RpK.val (k:=k) t
  by_cases e:k'=k
  ·refine ⟨fun h=>by simp [valD,e] at h,fun d h=>?_⟩
   simp [valD,e] at h
   subst h
   exact ⟨_,by simp [valV,e],r⟩
  ·refine ⟨fun h=>?_,fun d h=>?_⟩
   ·simp [valV,e];simp [valD,e] at h
    have:=b (by simp [valD];exact h)
    simpa [valV] using this
   ·obtain ⟨v,c,a⟩:=f d (by simpa [valD,e] using h)
    exact ⟨v,by simpa [valV,e] using c,a⟩
theorem RpK.any {G:Hp} {k:Key}:∀ {kvs:List (Key × V)} {es:List (Key × PyData)},RpK G kvs es->(kvs.any fun e=>decide (e.1=k))=es.any fun e=>decide (e.1=k)
 | _,_,.nil=>rfl
 | _,_,.cons r t=>by simp [RpK.any t]
theorem RpK.map {G:Hp} {k:Key} {v:V} {d:PyData} (h:Rp G v d):∀ {kvs:List (Key × V)} {es:List (Key × PyData)},RpK G kvs es->RpK G (kvs.map fun e=>if e.1=k then (e.1,v) else e) (es.map fun e=>if e.1=k then (e.1,d) else e)
 | _,_,.nil => .nil
 | _,_,.cons (k:=k') r t=>by
  by_cases e:k'=k
  ·simp only [aB0,e,if_true];exact .cons h (RpK.map h t)
  ·simp only [aB0,e,if_false];exact .cons r (RpK.map h t)
theorem RpK.append {G:Hp}:∀ {a b:List (Key × V)} {c d:List (Key × PyData)},RpK G a c->RpK G b d->RpK G (a ++ b) (c ++ d)
 | _,_,_,_,.nil,s=>s
 | _,_,_,_,.cons r t,s => .cons r (RpK.append t s)
theorem RpK.put {G:Hp} {k:Key} {v:V} {d:PyData} (h:Rp G v d) {kvs:List (Key × V)} {es:List (Key × PyData)} (r:RpK G kvs es):RpK G (putK kvs k v) (putD es k d):=by
 unfold putK putD
 rw [r.any]
 split
 ·exact r.map h
 ·exact r.append (.cons h .nil)
theorem RpT.any {G:Hp} {k:List Key}:∀ {kvs:List (List Key × V)} {es:List (List Key × PyData)},RpT G kvs es->(kvs.any fun e=>decide (e.1=k))=es.any fun e=>decide (e.1=k)
 | _,_,.nil=>rfl
 | _,_,.cons r t=>by simp [RpT.any t]
theorem RpT.map {G:Hp} {k:List Key} {v:V} {d:PyData} (h:Rp G v d):∀ {kvs:List (List Key × V)} {es:List (List Key × PyData)},RpT G kvs es->RpT G (kvs.map fun e=>if e.1=k then (e.1,v) else e) (es.map fun e=>if e.1=k then (e.1,d) else e)
 | _,_,.nil => .nil
 | _,_,.cons (k:=k') r t=>by
  by_cases e:k'=k
  ·simp only [aB0,e,if_true];exact .cons h (RpT.map h t)
  ·simp only [aB0,e,if_false];exact .cons r (RpT.map h t)
theorem RpT.append {G:Hp}:∀ {a b:List (List Key × V)} {c d:List (List Key × PyData)},RpT G a c->RpT G b d->RpT G (a ++ b) (c ++ d)
 | _,_,_,_,.nil,s=>s
 | _,_,_,_,.cons r t,s => .cons r (RpT.append t s)
theorem RpT.put {G:Hp} {k:List Key} {v:V} {d:PyData} (h:Rp G v d) {kvs:List (List Key × V)} {es:List (List Key × PyData)} (r:RpT G kvs es):RpT G (putK kvs k v) (putD es k d):=by
 unfold putK putD
 rw [r.any]
 split
 ·exact r.map h
 ·exact r.append (.cons h .nil)
theorem RpK.length {G:Hp}:∀ {kvs:List (Key × V)} {es:List (Key × PyData)},RpK G kvs es->kvs.length=es.length
 | _,_,.nil=>rfl
 | _,_,.cons _ t=>by simp [RpK.length t]
theorem ax0 {G:Hp} {v:V} {k:Key} (r:Rp G v (kD k)):v=kV k:=by
 cases k with
 | inl i=>cases r;rfl
 | inr x=>cases r;rfl
theorem alp {G:Hp}:∀ {a:List Key} {vs:List V},Rps G vs (a.map kD)->vs=a.map kV
 | [],_,.nil=>rfl
 | k :: a,_,.cons r t=>by rw [ax0 r,alp t];rfl
section
variable {B:Bs} {env:En} {QO:Sl->En->Prop} {Q':PyData->En->Prop} {D':VEnds} {i:Nat} {te ty tv td:TE}
theorem apn (q:QO (.own (OT [])) env):EvO B akm env QO:=fun σ G H F Q I k p a=>by
 have o:=Out.newDT (ds:=[]) I.gh a .nil
 exact k _ _ _ F _ _ env (I.out o).1 o.gg (I.out o).2 q
theorem apo {n:List (List Key × PyData)} (h:Ev B tv env fun d s=>Has s i (OT n)/\Ev B ty s fun y o=>∃ es j,o[i]?=some (some (.own (OT es)))/\y=tkD j/\es.length<=999999/\D'.nx (o.set i (some (.own (OT (putD es j d)))))):EvS B (anw (tVar i) ty tv) D' env:=fun σ G H F D I r =>
 h σ G H F _ I fun v Q z L d s u K N O=>by
  obtain ⟨P,M⟩:=O
  obtain ⟨v0,p,a,kvs,rfl,ha,rt,_⟩:=u.has P
  refine ⟨_,p,M σ Q z L _ u fun U E H2 F2 y o l w A ⟨es,j,g,C,T,J⟩=>?_⟩
  subst C
  obtain ⟨S,f,⟨R,x,q,m,c,hf⟩,hb⟩:=l.sl i _ g
  rw [p] at f;cases f;cases q
  cases A with
  | tup hk rs =>
   have:=alp rs
   subst this
   refine ⟨a,_,rfl,DPut.t m (l.gh _ _ hk) (by rw [(RpT.len c).1];exact big (by omega)),?_⟩
   exact r.nx σ E _ _ _ (l.upd1 (A':=OT (putD es j d)) g (.inl rfl) p hf ⟨a,_,rfl,aai,c.put (N.same w),fun b=>Iff.rfl⟩) (K.trans w) J
end
section
variable {B:Bs} {env:En} {QO:Sl->En->Prop} {Q':PyData->En->Prop} {QE:En->Prop} {D':VEnds} {K:Frag} {i:Nat} {ta:TA}
theorem aug {n:Nat} {a:TGs} {ds:List PyData} (b:ds.length=n) (h:EvGs B a ds env QE):EvG B (gLst K n a) (.st (.list ds)) env QE:=fun σ G H F v Fv Q I x k=>by
 obtain ⟨r,_⟩:=x.ok
 cases r with
 | lst ha rs=>exact ⟨_,_,rfl,SqL.of (I.gh _ _ ha),by rw [rs.length,b],h σ G H F _ Q I rs k⟩
theorem aja (h:EvA B ta env fun ds e=>∃ ns:List Int,ds=[.list (ns.map .int)]/\ns.length < 64/\∀ b:List Int,b.Perm ns->b.Pairwise (·<=·)->QO (.own (OL (b.map .int))) e):EvO B (tCB (akx K) ta) env QO:=fun σ G H F Q I k =>
 h σ G H F _ I fun vs v u f ds s c d j n=>by
  obtain ⟨ns,l,q,g⟩:=n
  subst l
  cases j with
  | cons r t =>
   cases t
   cases r with
   | @lst a us _ ha rs =>
    have:=Rps.ints_inv rs
    subst this
    refine ⟨a,ns,rfl,SqL.of (c.gh _ _ ha),q,fun b p i m hf=>?_⟩
    have o:=Out.newL c.gh hf (Rps.ints b)
    exact k _ _ _ f _ _ s (c.out o).1 (d.trans o.gg) (c.out o).2 (g _ i m)
theorem auh {j:Int} {R:Int->Prop} (b:0<=j) (a:j<=1000000) (h:R j):∃ i:Int,[PyData.int j]=[.int i]/\0<=i/\i<=1000000/\R i:=⟨j,rfl,b,a,h⟩
theorem x_dT {es:List (List Key × PyData)} {a b:Int} {d:En} {R:List (List Key × PyData)->List Key->Prop} (e:d[i]?=some (some (.own (OT es)))) (f:es.length<=999999) (q:R es [.inl a,.inl b]):∃ es c,d[i]?=some (some (.own (OT es)))/\PyData.tuple [.int a,.int b]=tkD c/\es.length<=999999/\R es c:=⟨es,_,e,rfl,f,q⟩
end
def ltP (p q:Int × Int):Prop:=p.1 < q.1\/(p.1=q.1/\p.2 < q.2)
@[reducible] def p2 (p:Int × Int):List Int:=[p.1,p.2]
theorem lex2 (p q:Int × Int):HT.lexLt (p2 p) (p2 q)=true ↔ ltP p q:=by
 obtain ⟨a,b⟩:=p
 obtain ⟨c,d⟩:=q
 simp [p2,HT.lexLt,ltP]
 split <;> omega
theorem ahn {a:List (List Int)} {ps:List (Int × Int)} (h:a.Perm (ps.map p2)):∃ qs:List (Int × Int),a=qs.map p2/\qs.Perm ps:=by
 refine ⟨a.map fun l=>(l.getD 0 0,l.getD 1 0),?_,?_⟩
 ·rw [aB6]
  symm
  conv=>rhs;rw [← List.map_id a]
  apply aC1
  intro l b
  obtain ⟨p,_,rfl⟩:=az6.mp (h.mem_iff.mp b)
  rfl
 ·have:=h.map fun l=>(l.getD 0 0,l.getD 1 0)
  rw [aB6] at this
  have e:((fun l:List Int=>(l.getD 0 0,l.getD 1 0)) ∘ p2)=id:=by funext p;rfl
  rw [e,List.map_id] at this
  exact this
def Rise (es:List (Int × Int)):Prop:=es.Pairwise ltP
theorem agb (p:Int × Int):¬ ltP p p:=by unfold ltP;omega
theorem aui (p q:Int × Int):ltP p q\/p=q\/ltP q p:=by
 obtain ⟨a,b⟩:=p
 obtain ⟨c,d⟩:=q
 unfold ltP
 simp only [Prod.mk.injEq]
 omega
theorem apq {p q r:Int × Int} (h:ltP p q) (g:ltP q r):ltP p r:=by unfold ltP at *;omega
theorem auj {qs ps:List (Int × Int)} (d:qs.Perm ps) (hn:ps.Nodup) (a:lexS (qs.map p2)):Rise qs:=by
 have b:qs.Nodup:=d.nodup_iff.mpr hn
 unfold lexS at a
 rw [aD1] at a
 unfold Rise
 refine (List.Pairwise.and a b).imp fun {p q} h=>?_
 have c:¬ ltP q p:=fun z=>by rw [(lex2 q p).mpr z] at h;exact absurd h.1 (by simp)
 rcases aui p q with z | z | z
 ·exact z
 ·exact absurd z h.2
 ·exact absurd z c
theorem Rise.nodup {es:List (Int × Int)} (h:Rise es):es.Nodup:=h.imp fun {p q} z (e:p=q)=>agb q (by rw [e] at z;exact z)
theorem Rise.eq:∀ {as bs:List (Int × Int)},Rise as->Rise bs->(∀ p,p∈as ↔ p∈bs)->as=bs
 | [],[],_,_,_=>rfl
 | [],b :: _,_,_,h=>by have:=(h b).mpr az7;simp at this
 | a :: _,[],_,_,h=>by have:=(h a).mp az7;simp at this
 | a :: as,b :: bs,ha,hb,h=>by
  obtain ⟨c,f⟩:=aF4.mp ha
  obtain ⟨d,i⟩:=aF4.mp hb
  have e:a=b:=by
   rcases ay8.mp ((h a).mp az7) with e | e
   ·exact e
   ·rcases ay8.mp ((h b).mpr az7) with g | g
    ·exact g.symm
    ·exact absurd (apq (c b g) (d a e)) (agb a)
  subst e
  have:=Rise.eq f i fun p=>by
   have j:=h p
   simp only [ay8] at j
   constructor
   ·intro m
    rcases j.mp (.inr m) with e | e
    ·subst e;exact absurd (c p m) (agb p)
    ·exact e
   ·intro m
    rcases j.mpr (.inr m) with e | e
    ·subst e;exact absurd (d p m) (agb p)
    ·exact e
  rw [this]
structure WebOk (n:Int) (es:List (Int × Int)):Prop where
 lo:1<=n
 hi:n<=60
 inn:∀ p∈es,0<=p.1/\p.1 < p.2/\p.2 < n
 rise:Rise es
theorem ajb {n:Nat} {es:List (Int × Int)} (hn:es.Nodup) (hi:∀ p∈es,0<=p.1/\p.1 < (n:Int)/\0<=p.2/\p.2 < (n:Int)):es.length<=n * n:=by
 have g:(es.map fun (p:Int × Int)=>p.1 * (n:Int)+p.2).Nodup:=by
  unfold List.Nodup
  rw [aD1]
  refine aF0 ?_ hn
  intro p q d i c e
  have a:=hi p d
  have b:=hi q i
  apply c
  have f:p.1=q.1:=by
   rcases Int.lt_trichotomy p.1 q.1 with z | z | z
   ·have:(p.1+1) * n<=q.1 * n:=Int.mul_le_mul_of_nonneg_right (by omega) (by omega)
    rw [Int.add_mul] at this;omega
   ·exact z
   ·have:(q.1+1) * n<=p.1 * n:=Int.mul_le_mul_of_nonneg_right (by omega) (by omega)
    rw [Int.add_mul] at this;omega
  rw [f] at e
  exact Prod.ext f (by omega)
 have:=L2.few_places (n * n) _ g fun v h=>by
  obtain ⟨p,d,rfl⟩:=az6.mp h
  have a:=hi p d
  have l:0<=p.1 * (n:Int):=Int.mul_nonneg a.1 (by omega)
  have j:(p.1+1) * (n:Int)<=n * n:=Int.mul_le_mul_of_nonneg_right (by omega) (by omega)
  rw [Int.add_mul] at j
  push_cast
  omega
 simpa using this
theorem WebOk.len {n:Int} {es:List (Int × Int)} (h:WebOk n es):es.length<=3600:=by
 have:=ajb (n:=n.toNat) h.rise.nodup fun p b=>by have:=h.inn p b;have:=h.lo;omega
 have a:n.toNat<=60:=by have:=h.hi;omega
 exact aA9 this (Nat.mul_le_mul a a)
def kE (ps:List (Int × Int)):List (List Key × PyData):=ps.map fun p=>([Sum.inl p.1,Sum.inl p.2],.bool true)
def addP (ps:List (Int × Int)) (p:Int × Int):List (Int × Int):=if p∈ps then ps else ps ++ [p]
theorem aeo {ps:List (Int × Int)}:(kE ps).length=ps.length:=by simp [kE]
theorem alq (ps:List (Int × Int)) (a b:Int):putD (kE ps) [Sum.inl a,Sum.inl b] (.bool true)=kE (addP ps (a,b)):=by
 have c:((kE ps).any fun e=>decide (e.1=[Sum.inl a,Sum.inl b]))=decide ((a,b)∈ps):=by
  rw [aE8,List.any_eq_true,decide_eq_true_iff]
  constructor
  ·rintro ⟨e,d,h⟩
   obtain ⟨p,f,rfl⟩:=az6.mp d
   simp at h
   obtain ⟨g,p2⟩:=p
   simp at h
   rw [← h.1,← h.2];exact f
  ·intro h
   exact ⟨_,az6.mpr ⟨(a,b),h,rfl⟩,by simp⟩
 unfold putD
 rw [c]
 unfold addP
 by_cases h:(a,b)∈ps
 ·rw [aC5 (by simpa using h),aC5 h]
  unfold kE
  rw [aB6]
  apply aC1
  intro p _
  simp only [Function.comp]
  split <;> rfl
 ·rw [aC6 (by simpa using h),aC6 h]
  simp [kE]
theorem addP_mem {ps:List (Int × Int)} {p q:Int × Int}:q∈addP ps p ↔ q∈ps\/q=p:=by
 unfold addP
 split
 ·rename_i h
  exact ⟨.inl,fun z=>z.elim id fun e=>e ▸ h⟩
 ·simp
theorem aoc {ps:List (Int × Int)} {p:Int × Int} (h:ps.Nodup):(addP ps p).Nodup:=by
 unfold addP
 split
 ·exact h
 ·rename_i hn
  rw [List.nodup_append]
  exact ⟨h,by simp,fun x b y a=>by simp at a;subst a;rintro rfl;exact hn b⟩
theorem agx {ps:List (Int × Int)} {p:Int × Int}:(addP ps p).length<=ps.length+1:=by
 unfold addP;split <;> simp
theorem auk (ps:List (Int × Int)):(kE ps).map (·.1)=(ps.map p2).map (fun ns=>ns.map Sum.inl):=by
 unfold kE;rw [aB6,aB6];rfl
theorem awx:([]:List (List Key × PyData))=kE []:=rfl
theorem alr (ps:List (Int × Int)):(ps.map p2).map tiD=ps.map prD:=by rw [aB6];rfl
theorem asf {ps:List (Int × Int)}:∀ ns∈ps.map p2,ns ≠ []:=fun ns h=>by
 obtain ⟨p,_,rfl⟩:=az6.mp h
 simp
section
variable {B:Bs} {env:En} {QO:Sl->En->Prop} {K:Frag} {i:Nat} {ta:TA}
theorem afu {ps:List (Int × Int)} (h:EvA B ta env fun ds e=>ds=[.list (ps.map prD)]/\∀ qs:List (Int × Int),qs.Perm ps->lexS (qs.map p2)->QO (.own (OL (qs.map prD))) e):EvO B (tCB (ahe K) ta) env QO :=
 apl (pss:=ps.map p2) asf fun σ G H F Q I k=>h σ G H F Q I fun vs G' H' F' ds e i g r ⟨a,q⟩=>k vs G' H' F' ds e i g r ⟨by rw [alr];exact a,fun c b f=>by
  obtain ⟨qs,rfl,d⟩:=ahn b
  rw [alr];exact q qs d f⟩
theorem aho {ps:List (Int × Int)} (c:Has env i (OT (kE ps))) (q:∀ qs:List (Int × Int),qs.Perm ps->lexS (qs.map p2)->QO (.own (OL (qs.map prD))) env):EvO B (tCB aga (abu (tVar i) tNil)) env QO :=
 aob c (auk ps) asf fun f d b=>by
  obtain ⟨qs,rfl,a⟩:=ahn d
  rw [alr];exact q qs a b
end
section
variable {B:Bs} {env:En} {QO:Sl->En->Prop} {Q':PyData->En->Prop} {K:Frag} {i j:Nat} {ta te:TE}
end
section
variable {B:Bs} {env:En} {Q':PyData->En->Prop} {D':VEnds} {i:Nat} {ty tv:TE}
theorem aod {a:List (List Key × PyData)} (g:env[i]?=some (some (.own (OT a)))) (h:Ev B tv env fun d f=>Has f i (OT a)/\Ev B ty f fun y c=>∃ es b,c[i]?=some (some (.own (OT es)))/\y=tkD b/\es.length<=999999/\D'.nx (c.set i (some (.own (OT (putD es b d)))))):EvS B (anw (tVar i) ty tv) D' env:=apo h
end
section
variable {R:Sl->Prop} {K:Frag}
theorem aul {p q:Int × Int} (h:R (.st (.bool (HT.lexLt (p2 p) (p2 q))))):Op2 (rLtT K) (prD p) (prD q) R:=fun G H f g Q gh b a k=>by
 cases b with
 | tup ha ra =>
  cases a with
  | tup hb rb =>
   have d:=Rps.ints_inv (ns:=p2 p) ra
   have c:=Rps.ints_inv (ns:=p2 q) rb
   subst d c
   exact ⟨_,_,p2 p,p2 q,rfl,rfl,SqT.of (gh _ _ ha),SqT.of (gh _ _ hb),k _ _ _ _ _ (Out.refl gh (.bl _)) h⟩
end
theorem aep (p:Int × Int):aaq (prD p)=true:=rfl
theorem adz (ps:List (Int × Int)):plainDs (ps.map prD)=true:=by
 rw [agj]
 intro d hd
 obtain ⟨p,_,rfl⟩:=az6.mp hd
 rfl
theorem ang (p q:Int × Int):PyData.eqv (prD p) (prD q)=decide (p=q):=by
 rw [aE8,ael _ _ rfl rfl,decide_eq_true_iff]
 constructor
 ·intro h
  simp [prD] at h
  exact Prod.ext h.1 h.2
 ·rintro rfl;rfl
theorem agc (ps:List (Int × Int)) (q:Int × Int):((ps.map prD).any fun z=>PyData.eqv z (prD q))=decide (q∈ps):=by
 rw [aE8,List.any_eq_true,decide_eq_true_iff]
 constructor
 ·rintro ⟨d,hd,e⟩
  obtain ⟨p,a,rfl⟩:=az6.mp hd
  rw [ang] at e
  rw [← of_decide_eq_true e];exact a
 ·intro h
  exact ⟨prD q,az6.mpr ⟨q,h,rfl⟩,by rw [ang];exact aB5 rfl⟩
theorem amb {ds:List PyData} {m:Nat} (h:∀ d∈ds,d.depth<=m):PyData.depthAll ds<=m:=by
 induction ds with
 | nil=>simp [PyData.depthAll]
 | cons d ds ih =>
  simp only [PyData.depthAll]
  exact Nat.max_le.mpr ⟨h d az7,ih fun e a=>h e (az4 _ a)⟩
theorem aeq (p:Int × Int):(prD p).depth<=1:=by simp [prD,PyData.depth,PyData.depthAll]
theorem aee {d:PyData} (h:aaq d=true):PyData.eqv d d=true:=(ael d d h h).mpr rfl
end VL
namespace VL
theorem als {α:Type} (R : α->α->Prop) (tr:∀ {a b c},R a b->R b c->R a c) {xs:List α}:xs.Pairwise R ↔ ∀ i (h:i+1 < xs.length),R (xs[i]'(by omega)) xs[i+1]:=by
 constructor
 ·intro h i hi
  exact aD7.mp h i (i+1) (by omega) hi (by omega)
 ·intro h
  rw [aD7]
  intro i j hi d f
  induction j with
  | zero=>omega
  | succ j ih =>
   by_cases e:i=j
   ·subst e;exact h i d
   ·exact tr (ih (by omega) (by omega)) (h j d)
end VL
namespace VL
open PySem PySem.Spec L2
section
variable {B:Bs} {env:En} {Q':PyData->En->Prop} {K:Frag} {E:XK} {i:Nat}
end
end VL
namespace VL
open PySem L2
theorem ax1 {B:Bs} {t:TS} {D':VEnds} {e:En} (h:EvS B t D' e):EvS B t D' e:=h
theorem ax2 {B:Bs} {g:TG} {s:Sl} {e:En} {Q:En->Prop} (h:EvG B g s e Q):EvG B g s e Q:=h
theorem awy {B:Bs} {g:TGs} {s:List PyData} {e:En} {Q:En->Prop} (h:EvGs B g s e Q):EvGs B g s e Q:=h
theorem g_Ev {B:Bs} {t:TE} {e:En} {Q:PyData->En->Prop} (h:Ev B t e Q):Ev B t e Q:=h
theorem ax3 {B:Bs} {t:TE} {e:En} {Q:Sl->En->Prop} (h:EvO B t e Q):EvO B t e Q:=h
theorem ax4 {B:Bs} {t:TT} {e:En} {Q:Bool->En->Prop} (h:EvT B t e Q):EvT B t e Q:=h
theorem ax5 {B:Bs} {t:TA} {e:En} {Q:List PyData->En->Prop} (h:EvA B t e Q):EvA B t e Q:=h
theorem ax6 {B:Bs} {t:TI} {e:En} {Q:List PyData->En->Prop} (h:EvI B t e Q):EvI B t e Q:=h
theorem awz {B:Bs} {t:TO} {e:En} {Q:Option Int->En->Prop} (h:EvOp B t e Q):EvOp B t e Q:=h
theorem ax7 {r:R2} {x y:PyData} {R:Sl->Prop} (h:Op2 r x y R):Op2 r x y R:=h
theorem ax8 {r:V->Hp->VK->Prop} {x:PyData} {R:Sl->Prop} (h:Op1 r x R):Op1 r x R:=h
theorem ax9 {r:List V->Hp->VK->Prop} {x:List PyData} {R:Sl->Prop} (h:OpA r x R):OpA r x R:=h
theorem g_FQ {s:Sl} {R:PyData->Prop} (h:FQ s R):FQ s R:=h
theorem aum {ds:List PyData} {R:List PyData->Prop} (h:aj5 ds R):aj5 ds R:=h
theorem aun {ds:List PyData} {R:List PyData->Prop} (h:aj6 ds R):aj6 ds R:=h
structure PsOk (n:Int) (ps:List (Int × Int)):Prop where
 nd:ps.Nodup
 inn:∀ p∈ps,0<=p.1/\p.1 < p.2/\p.2 < n
theorem PsOk.nil (n:Int):PsOk n []:=⟨List.nodup_nil,fun p a=>by simp at a⟩
theorem PsOk.add {n a b:Int} {ps:List (Int × Int)} (h:PsOk n ps) (f:0<=a) (d:a < b) (c:b < n):PsOk n (addP ps (a,b)) :=
 ⟨aoc h.nd,fun p g=>by
  rcases addP_mem.mp g with q | q
  ·exact h.inn p q
  ·subst q;exact ⟨f,d,c⟩⟩
theorem PsOk.len {n:Int} {ps:List (Int × Int)} (h:PsOk n ps) (hn:n<=100):ps.length<=10000:=by
 by_cases h0:0<=n
 ·have:=ajb (n:=n.toNat) h.nd fun p b=>by have:=h.inn p b;omega
  have a:n.toNat<=100:=by omega
  exact aA9 this (Nat.mul_le_mul a a)
 ·cases ps with
  | nil=>simp
  | cons p r=>have:=h.inn p az7;omega
def Tr (n:Int) (ps:List (Int × Int)):Prop:=∀ k,1<=k->k < n->∃ h,0<=h/\h < k/\(h,k)∈ps
theorem Tr.add {n:Int} {ps:List (Int × Int)} {p:Int × Int} (h:Tr n ps):Tr n (addP ps p):=fun k d f=>by
 obtain ⟨x,a,b,c⟩:=h k d f
 exact ⟨x,a,b,addP_mem.mpr (.inl c)⟩
def Conn (n:Int) (T:Int->Int->Prop):Prop:=∀ u v,0<=u->u < n->0<=v->v < n->∃ k,Gr.Walk T u k v
theorem Joined.conn {n:Int} {es:List (Int × Int)} (h:Joined n es):Conn n (Tied es):=fun u v c f v0 a=>by
 obtain ⟨d,hd⟩:=h u c f
 obtain ⟨e,b⟩:=h v v0 a
 exact ⟨d+e,(hd.1.rev fun _ _ t=>t.symm).app b.1⟩
theorem Conn.mono {n:Int} {T a:Int->Int->Prop} (h:Conn n T) (g:∀ u v,T u v->a u v):Conn n a:=fun u v d f v0 c=>by
 obtain ⟨k,w⟩:=h u v d f v0 c
 exact ⟨k,w.rec .refl fun _ t b => .step b (g _ _ t)⟩
def Order (n:Int) (row:List Int):Prop:=row.Perm ((List.range n.toNat).map fun (i:Nat)=>(i:Int))
theorem Order.len {n:Int} {a:List Int} (h:Order n a):a.length=n.toNat:=by have:=h.length_eq;simpa using this
theorem Order.nodup {n:Int} {c:List Int} (h:Order n c):c.Nodup:=by
 refine h.nodup_iff.mpr ?_
 unfold List.Nodup
 rw [aD1]
 exact List.nodup_range.imp fun {a b} d e=>d (by omega)
theorem Order.mem {n:Int} {a:List Int} (h:Order n a) {v:Int}:v∈a ↔ 0<=v/\v < n:=by
 rw [h.mem_iff,az6]
 constructor
 ·rintro ⟨i,hi,rfl⟩
  have:=az8.mp hi
  omega
 ·rintro ⟨c,b⟩
  exact ⟨v.toNat,az8.mpr (by omega),by omega⟩
theorem Order.get {n:Int} {b:List Int} (h:Order n b) {a:Int} (c:0<=a) (f:a < n):∃ x,b[a.toNat]?=some x/\atI b a=some x/\0<=x/\x < n:=by
 have d:a.toNat < b.length:=by rw [h.len];omega
 have e:b[a.toNat]?=some b[a.toNat]:=ay0 d
 have:=h.mem.mp (ay2 e)
 exact ⟨_,e,acb c e,this.1,this.2⟩
theorem Order.inj {n:Int} {c:List Int} (h:Order n c) {a b x:Int} (a0:0<=a) (b0:0<=b) (ha:c[a.toNat]?=some x) (hb:c[b.toNat]?=some x):a=b:=by
 obtain ⟨i,g⟩:=ay1.mp ha
 obtain ⟨f,d⟩:=ay1.mp hb
 have:=nodup_ix h.nodup i f (g.trans d.symm)
 omega
theorem Order.id (n:Int):Order n ((List.range n.toNat).map fun (i:Nat)=>(i:Int)):=List.Perm.refl _
def aao (row:List Int) (a:Int):Int:=row.getD a.toNat 0
def reP (row:List Int) (p:Int × Int):Int × Int:=if aao row p.1 < aao row p.2 then (aao row p.1,aao row p.2) else (aao row p.2,aao row p.1)
theorem Order.at {n:Int} {b:List Int} (h:Order n b) {a:Int} (c:0<=a) (d:a < n):b[a.toNat]?=some (aao b a)/\0<=aao b a/\aao b a < n:=by
 obtain ⟨x,e,_,g,f⟩:=h.get c d
 have:aao b a=x:=by unfold aao;rw [List.getD_eq_getElem?_getD,e];rfl
 rw [this];exact ⟨e,g,f⟩
theorem Order.atI {n:Int} {b:List Int} (h:Order n b) {a:Int} (c:0<=a) (d:a < n):L2.atI b a=some (aao b a):=acb c (h.at c d).1
theorem Order.ne {n:Int} {c:List Int} (h:Order n c) {a b:Int} (a0:0<=a) (j:a < n) (b0:0<=b) (i:b < n) (d:a ≠ b):aao c a ≠ aao c b:=fun e=>by
 have f:=(h.at a0 j).1
 have g:=(h.at b0 i).1
 rw [e] at f
 exact d (h.inj a0 b0 f g)
theorem PsOk.re {n:Int} {ps:List (Int × Int)} {c:List Int} (h:PsOk n ps) (o:Order n c):PsOk n (ps.map (reP c)):=by
 have inn:∀ p∈ps,0<=(reP c p).1/\(reP c p).1 < (reP c p).2/\(reP c p).2 < n:=fun p d=>by
  obtain ⟨p0,x,p2⟩:=h.inn p d
  have a:=o.at p0 (by omega)
  have b:=o.at (a:=p.2) (by omega) p2
  have ne:=o.ne p0 (by omega) (by omega) p2 (by omega)
  unfold reP
  split <;> dsimp only <;> omega
 refine ⟨?_,fun q g=>by obtain ⟨p,d,rfl⟩:=az6.mp g;exact inn p d⟩
 unfold List.Nodup
 rw [aD1]
 refine aF0 ?_ h.nd
 intro p q d g f e
 apply f
 obtain ⟨p0,x,p2⟩:=h.inn p d
 obtain ⟨j,y,l⟩:=h.inn q g
 have inj:∀ a b,0<=a->a < n->0<=b->b < n->aao c a=aao c b->a=b:=fun a b a0 w b0 v e=>by
  apply aB2
  intro i
  exact o.ne a0 w b0 v i e
 have u:=inj p.1 q.1 p0 (by omega) j (by omega)
 have r:=inj p.2 q.2 (by omega) p2 (by omega) l
 have s:=inj p.1 q.2 p0 (by omega) (by omega) l
 have m:=inj p.2 q.1 (by omega) p2 j (by omega)
 unfold reP at e
 split at e <;> split at e <;> simp only [Prod.mk.injEq] at e
 ·exact Prod.ext (u e.1) (r e.2)
 ·have:=s e.1;have:=m e.2;omega
 ·have:=m e.1;have:=s e.2;omega
 ·exact Prod.ext (u e.2) (r e.1)
theorem Tied.perm {qs ps:List (Int × Int)} (h:qs.Perm ps) {u v:Int}:Tied qs u v ↔ Tied ps u v:=by unfold Tied;rw [h.mem_iff,h.mem_iff]
theorem WebOk.ps {n:Int} {es:List (Int × Int)} (h:WebOk n es):PsOk n es:=⟨h.rise.nodup,h.inn⟩
theorem ahp {α:Type}:∀ {l:List α} {k:Nat} {x : α},l[k]?=some x->(x :: l.eraseIdx k).Perm l
 | [],_,_,h=>by simp at h
 | a :: l,0,x,h=>by simp at h;subst h;exact List.Perm.refl _
 | a :: l,k+1,x,h=>by
  have b:=ahp (l:=l) (k:=k) (x:=x) (by simpa using h)
  exact (List.Perm.swap a x _).trans (b.cons a)
theorem aoe {n:Int} {a left:List Int} {k:Nat} {x:Int} (h:Order n (a ++ left)) (b:left[k]?=some x):Order n ((a ++ [x]) ++ left.eraseIdx k):=by
 refine List.Perm.trans ?_ h
 rw [az3]
 refine List.Perm.append_left a ?_
 exact ahp b
section
variable {B:Bs} {env:En} {g:TG} {tif:TT} {te:TE} {K:Frag} {src:List (Option Nat)} {ds:List PyData} {e1:En} {R:List PyData->En->Prop}
end
theorem auo (n:Nat):rngD 0 n=((List.range n).map fun (i:Nat)=>(i:Int)).map PyData.int:=by simp [rngD]
theorem arm {B:Bs} {t:TS} {D':VEnds} {env:En} (J:En->Prop) (h:EvS B t { D' with nx:=J } env) (k:∀ e,J e->D'.nx e):EvS B t D' env:=fun σ G H F D I r=>h σ G H F D I ⟨fun σ G' H F env a g q=>r.nx _ _ _ _ _ a g (k _ q),r.rt,r.bk,r.ct⟩
theorem acw {B:Bs} {g:TG} {A:Own} {d:PyData} {env:En} {b:En->Prop} (f:Frz A d) (h:EvG B g (.st d) env b):EvG B g (.own A) env b:=fun σ G H F v Fv Q I x k =>
 h σ _ H F v _ Q (I.freeze x.fb x.fd x.fg) (aec (f G H v Fv x.ok x.fg I.gh)) fun a G' H' F' c i g' q=>k a G' H' F' c i ((ach x.fg).trans g') q
end VL
namespace VL
open PySem PySem.Spec L2
def Sls (K:Frag) (G:Hp) (σ:St) (e:En):Prop:=∀ (j:Nat) (s:Sl),e[j]?=some (some s)->∃ v,σ[j]?=some (some v)/\((∃ d,s=.st d/\Rp G v d)\/∃ (ns:List Int) (a:Addr),s=.scr ns/\v=.ref a/\SqL K G a (ns.map V.int))
theorem Sls.same {K:Frag} {G G':Hp} {σ:St} {e:En} (h:Sls K G σ e) (g:Same G G'):Sls K G' σ e:=fun j s es=>by
 obtain ⟨v,c,q⟩:=h j s es
 refine ⟨v,c,?_⟩
 rcases q with ⟨d,b,r⟩ | ⟨ns,a,b,f,r⟩
 ·exact .inl ⟨d,b,r.same g⟩
 ·exact .inr ⟨ns,a,b,f,g.seq r⟩
section
variable {B:Bs} {env:En}
end
section
variable {B:Bs} {env:En} {Q':PyData->En->Prop} {QO:Sl->En->Prop} {c:TT} {ta tb:TE}
end
end VL
namespace VL
open PySem PySem.Spec L2 PyProof.Rows
end VL
namespace VL
open PySem PySem.Spec L2
section
variable {B:Bs} {env:En} {QO:Sl->En->Prop} {i:Nat}
end
section
variable {X:Cx}
end
section
variable {R:Sl->Prop}
end
end VL
namespace L2
open PySem PySem.Spec PyProof.Rows
section
variable {X:Cx}
variable {e est:Expr} {te:TE} {ts:TO} {pos p2:Pos}
end
end L2
namespace VL
open PySem PySem.Spec L2
section
variable {B:Bs} {env:En} {QO:Sl->En->Prop} {Q':PyData->En->Prop} {te tl:TE} {ts:TO} {K:Frag} {i:Nat}
theorem Rps.rev {G:Hp}:∀ {vs:List V} {ds:List PyData},Rps G vs ds->Rps G vs.reverse ds.reverse
 | _,_,.nil => .nil
 | _,_,.cons r t=>by
  rw [List.reverse_cons,List.reverse_cons]
  exact (Rps.rev t).append (.cons r .nil)
end
theorem asg {α:Type} [DecidableEq α]:∀ {as bs:List α},as.Nodup->(∀ a∈as,a∈bs)->as.length<=bs.length
 | [],_,_,_=>aD0 _
 | a :: as,bs,hn,hs=>by
  have ha:a∈bs:=hs a (az7 ..)
  have b:=aF3.mp hn
  have h:=asg (bs:=bs.erase a) b.2 fun x c=>(List.mem_erase_of_ne (show x ≠ a from fun e=>b.1 (by rw [← e];exact c))).mpr (hs x (az4 _ c))
  rw [List.length_erase_of_mem ha] at h
  have:0 < bs.length:=List.length_pos_of_mem ha
  simp only [aB9]
  omega
structure But (n:Int) (es rem:List (Int × Int)):Prop where
 rise:Rise es
 inn:∀ p∈es,0<=p.1/\p.1 < p.2/\p.2 < n
 all:∀ p:Int × Int,0<=p.1->p.1 < p.2->p.2 < n->p∈es\/p∈rem
theorem But.len {n:Int} {es rem:List (Int × Int)} (h:But n es rem) (hn:8<=n) (b:rem.length<=5):2<=es.length:=by
 have:=asg (as:=[((0:Int),(1:Int)),(0,2),(0,3),(0,4),(0,5),(0,6),(0,7)]) (bs:=es ++ rem) (by decide) (fun p a=>by
  have:0<=p.1/\p.1 < p.2/\p.2 < 8:=by
   simp only [ay8,List.not_mem_nil,or_false] at a
   rcases a with rfl | rfl | rfl | rfl | rfl | rfl | rfl <;> decide
  exact ay7.mpr (h.all p this.1 this.2.1 (by omega)))
 simp at this
 omega
end VL
namespace PopT
open PySem PyProof.Rows
section
variable {prog:Program} {w:World} {K:Type} [DecidableEq K] {knd:HeapKind prog w K} {A:Around} {E:Value->Shared->Prop} {s:Shared}
theorem alt {d a:Addr} {xs:List (K × Addr × Value)} {k:K} {j:Nat} {p:Addr × Value} {Q:Option DictEntry->Shared->Prop} (y:knd.room A) (b:knd.is s.heap k a) (hm:s.heap.DictOfH knd d xs) (m:xs[j]?=some (k,p))
  (D:∀ e h',e.val=p.2->h'.DictOfH knd d (xs.eraseIdx j)->Heap.SameBut d s.heap h'->Q (some e) { s with heap:=h',toks:=s.toks+knd.draws k })
  (hsz:xs.length<=sizeLine):wpAny (model prog w) A (Builtin.Dict.takeOut d (.ref a)) Q E s:=by
 obtain ⟨o,es,G,c,C,hd,h,g,hn⟩:=hm
 unfold Builtin.Dict.takeOut
 try with_reducible refine aG3 ?_
 refine aF8 (knd.pyHash y b ?_)
 refine aF8 (wpAny_dictFind_heap (s:={ s with toks:=s.toks+knd.draws k }) y b c hd h g hn (fun r=>absurd m (r j p)) ?_)
 intro i q hi
 have n:i=j:=by
  have z:(xs.map (·.1))[i]?=some k:=by rw [ay5,hi];rfl
  have v:(xs.map (·.1))[j]?=some k:=by rw [ay5,m];rfl
  have B:=(ay1.mp z).1
  have J:=(ay1.mp v).1
  exact (List.getElem?_inj B hn).mp (z.trans v.symm)
 subst n
 have u:es.size<=sizeLine:=by have e:=size_of_entries h;omega
 refine aF8 (wpAny_dictEntries (s:={ s with toks:=s.toks+knd.draws k }) c hd ?_)
 rw [entry_at h i,m]
 refine aF8 (wpAny_updateDictKeys (hz:=u) (s:={ s with toks:=s.toks+knd.draws k }) c hd (aF9 (D _ _ rfl ⟨_,_,G+1,Heap.get?_update_self _ c (Obj.isFreed_of_dict (Obj.data_mapDictKeys hd _)),
  C.mapDictKeys _,Obj.data_mapDictKeys hd _,?_,?_,?_⟩ (Heap.SameBut.update ..))))
 ·have H:∀ {α β:Type} (f : α->β) (l:List α) (k:Nat),(l.map f).eraseIdx k=(l.eraseIdx k).map f:=by
   intro α β f l
   induction l with
   | nil=>intro k;rfl
   | cons a l ih =>
    intro k
    cases k with
    | zero=>rfl
    | succ k=>simp [ih k]
  rw [← H,← h]
  obtain ⟨l⟩:=es
  have I:i < l.length:=by
   have:=(ay1.mp m).1
   have e:=size_of_entries h
   simp at e;omega
  simp [Array.eraseIdxIfInBounds,I]
 ·intro x F
  exact knd.keeps (g x ((List.eraseIdx_sublist xs i).mem F)) c hd (Heap.SameBut.update ..)
 ·exact hn.sublist ((List.eraseIdx_sublist xs i).map _)
theorem meetsH_dict_pop {d a:Addr} (kp:keyPart (.ref a)=none) :
  MeetsIn prog w (Builtin.«dict.pop» ⟨[.ref d,.ref a],[]⟩) (fun A R s=>knd.room A.in1/\∃ k xs j p,knd.is s.heap k a/\s.heap.DictOfH knd d xs/\xs.length<=sizeLine/\xs[j]?=some (k,p) /\
   ∀ h',h'.DictOfH knd d (xs.eraseIdx j)->Heap.SameBut d s.heap h'->R (.ok (.ret p.2)) { s with heap:=h',toks:=s.toks+knd.draws k }) :=
 .of_wp fun A R s v=>by
  obtain ⟨x,k,xs,j,p,b,hm,hsz,m,h⟩:=v
  have f:=hm
  obtain ⟨o,es,z,n,y,hd,u,r,hn⟩:=f
  have g:es.isEmpty=false:=by
   have e:=size_of_entries u
   have:=(ay1.mp m).1
   cases q:es.isEmpty with
   | false=>rfl
   | true=>have:=Array.isEmpty_iff.mp q;rw [this] at e;simp at e;omega
  unfold Builtin.«dict.pop»
  refine aF8 ?_
  unfold Builtin.Dict.keyAndDefault
  refine aF8 (wpAny_notOrdered_dict hm.typeIs ?_)
  show wpAny _ _ (pure (d,Value.ref a,none)) _ _ s
  refine aF9 ?_
  simp only [kp,Option.isSome_none,Bool.false_eq_true,if_false]
  refine aF8 (wpAny_dictEntries n hd ?_)
  refine aF8 (aF9 ?_)
  simp only [g,Bool.false_eq_true,if_false]
  refine aF8 (alt x b hm m (fun e h' l c i=>?_) hsz)
  simp only [Option.isNone_some,Bool.false_eq_true,if_false]
  exact aF8 (wpAny_letGo (aF9 ⟨e.val,rfl,by rw [l];exact h h' c i⟩))
end
end PopT
namespace L2
open PySem PySem.Spec PySem.W PyProof.Rows
theorem KT.at {H:Hp} {kvs:List (List Key × V)} {xs:List (List Key × Addr × Value)} (r:KT H kvs xs):∀ {j:Nat} {k:List Key} {v:V},kvs[j]?=some (k,v)->∃ p:Addr × Value,xs[j]?=some (k,p)/\RelV v p.2:=by
 induction r with
 | nil=>intro j k v e;simp at e
 | @cons p q ps qs hq t ih =>
  intro j k v e
  cases j with
  | zero =>
   have e:p=(k,v):=by simpa using e
   subst e
   exact ⟨q.2,by rw [List.getElem?_cons_zero,show k=q.1 from hq.1],hq.2.2⟩
  | succ j=>exact ih (by simpa using e)
theorem KT.erase {H:Hp} {kvs:List (List Key × V)} {xs:List (List Key × Addr × Value)} (r:KT H kvs xs):∀ (j:Nat),KT H (kvs.eraseIdx j) (xs.eraseIdx j):=by
 induction r with
 | nil=>intro j;exact .nil
 | @cons p q ps qs hq t ih =>
  intro j
  cases j with
  | zero=>exact t
  | succ j=>exact .cons hq (ih j)
section
variable {X:Cx} {pins:List (Addr × Obj)} {σ:St} {H:Hp} {s:Shared} {a b:Addr} {A:Around} {E:Value->Shared->Prop}
theorem aw0 {kvs:List (List Key × V)} {k:List Key} {j:Nat} {v:V} {Q:Value->Shared->Prop} (D:A.units+1 < cLine) (I:Inv X pins σ H s) (e:H a=some (.dT kvs)) (B:H b=some (.tup (k.map kV))) (l:kvs[j]?=some (k,v))
  (h:∀ g i,Inv X pins σ (upd H a (.dT (kvs.eraseIdx j))) i->RelV v g->Q g i):wpAny (model X.prog X.w) A (call (.builtin "dict.pop") [.ref a,.ref b]) Q E s:=by
 obtain ⟨z,hd,xs,d,dd⟩:=ag4 I.hok e
 have hz:xs.length<=sizeLine:=by rw [← Paired.length d];exact z
 obtain ⟨p,y,o⟩:=KT.at d l
 refine call_meetsIn PySem.F.slot_dict_pop dd.typeIs PySem.F.entry_dict_pop (PySem.F.args_dict_pop_2 _ _) (PopT.meetsH_dict_pop (knd:=tupleKind (abd X.prog X.w)) rfl)
  ⟨tupleKind_room_in1 D,k,xs,j,p,akl I.hok B,dd,hz,y,fun h' f C=>h p.2 _ ?_ o⟩
 obtain ⟨q,es,G,m,x,r,J,_,u⟩:=f
 refine ah0 I (by rw [e];exact True.intro) C ⟨q,m⟩ ⟨aA9 (List.length_eraseIdx_le kvs j) z,hd,_,(KT.erase d j).keeps fun c ys n=>?_,q,es,G,m,x,r,J,u⟩
 rw [aag (ar0 n e (fun z=>nomatch z))]
 exact n
end
def apr (td ty:TE):TE:=fun σ H Q=>td σ H fun x H1=>∃ a,x=.ref a/\IsD H1 a/\ty σ H1 fun y H2=>∃ kvs k j v b,H2 a=some (.dT kvs)/\y=.ref b/\H2 b=some (.tup (k.map kV))/\kvs[j]?=some (k,v)/\Q v (upd H2 a (.dT (kvs.eraseIdx j)))
section
variable {X:Cx} {o e f:Expr} {apos cpos:Pos} {td ty tx:TE}
theorem arn (J:X.A.units+1 < cLine) (r:PE X o td) (G:PE X e ty) (m:M1 X o "pop" apos e cpos):PE X (.Call (.Attribute o "pop" apos) [e] [] cpos) (apr td ty):=by
 intro pins s σ H Q I h
 refine wpAny_Call_method m.base m.few m.line PySem.F.plainAttrs_dict PySem.F.slot_dict_pop PySem.F.type_dict_pop (thn (r pins s σ H _ I h) fun u s1 ⟨x,i,f,B,a,ex,d,D⟩=>?_)
 subst ex
 obtain rfl:u=Value.ref a:=B
 obtain ⟨g,q,_⟩:=avj f d
 refine ⟨g,q,?_⟩
 rw [m.trees]
 refine Calls.callWith_builtin rfl (Calls.evalArgs_plain (Calls.spliced_cons (thn (G pins s1 σ i _ f D) fun K s2 ⟨y,H2,p,n,kvs,k,j,v,b,L,w,E,l,z⟩=>Calls.spliced_nil ?_)))
 subst w
 obtain rfl:K=Value.ref b:=n
 exact aw0 J p L E l fun M N C c=>⟨v,_,C,c,z⟩
end
end L2
namespace DNe
open PySem PyProof.Rows
theorem dict_ne_some (l b:Addr) (es:Array DictEntry) (n j:Nat) (dd a:Option Addr) (sl c:Array (Option Value)) (m:(l == sysModules)=false) (i:(b == sysModules)=false) (f:(es.size != 0)=true) :
  Meets (Builtin.«dict.__ne__» ⟨[.ref l,.ref b],[]⟩)
   (fun _ R s=>s.heap.get? l=some { cls:=.type "dict",dict:=dd,data:=.dict es n,slots:=sl }/\s.heap.get? b=some { cls:=.type "dict",dict:=a,data:=.dict #[] j,slots:=c } /\
    R (.ok (.ret (.bool true))) s) :=
 .of_wp fun prog w A R s h=>by
  obtain ⟨q,g,d,o,os⟩:=s;obtain ⟨r,hb,h⟩:=h
  have p:=PySem.F.sub_dict_dict
  wp_walk
  exact ⟨_,rfl,h⟩
theorem aps {prog:Program} {w:World} {A:Around} {E:Value->Shared->Prop} {s:Shared} {Q:Bool->Shared->Prop} {id:String} {l b:Addr} {o f:Obj} {n i:Nat} (d:(l == sysModules)=false) (a:(b == sysModules)=false)
  (g:s.heap.get? l=some o) (hd:o.data=.dict #[] n) (hb:s.heap.get? b=some f) (c:f.data=.dict #[] i) (h:Q true s):wpAny (model prog w) A (Builtin.Dict.samePairs id l b) Q E s:=by
 unfold Builtin.Dict.samePairs Builtin.Dict.showsAll
 rw [d,a]
 simp only [Bool.false_eq_true,if_false]
 refine aF8 (aF9 (aF8 (aF9 ?_)))
 refine aF8 (wpAny_dictEntries g hd (aF8 (wpAny_dictEntries hb c ?_)))
 simp only [bne_self_eq_false,Bool.false_eq_true,if_false]
 refine aF8 (wpAny_dictEpoch g hd ?_)
 rw [Std.Legacy.Range.forIn_eq_forIn_range']
 simp only [Std.Legacy.Range.size]
 exact aF8 (aF9 (aF9 h))
theorem dict_ne_none (l b:Addr) (n j:Nat) (dd a:Option Addr) (sl i:Array (Option Value)) (f:(l == sysModules)=false) (c:(b == sysModules)=false) :
  Meets (Builtin.«dict.__ne__» ⟨[.ref l,.ref b],[]⟩)
   (fun _ R s=>s.heap.get? l=some { cls:=.type "dict",dict:=dd,data:=.dict #[] n,slots:=sl }/\s.heap.get? b=some { cls:=.type "dict",dict:=a,data:=.dict #[] j,slots:=i } /\
    R (.ok (.ret (.bool false))) s) :=
 .of_wp fun prog w A R s h=>by
  obtain ⟨q,g,d,o,os⟩:=s;obtain ⟨m,hb,h⟩:=h
  have p:=PySem.F.sub_dict_dict
  wp_walk using aps f c m rfl hb rfl
  exact ⟨_,rfl,h⟩
end DNe
namespace L2
open PySem PySem.Spec PySem.W PyProof.Rows
def rNeE:R2:=fun x y H Q=>∃ a b kvs,x=.ref a/\y=.ref b/\H a=some (.dT kvs)/\H b=some (.dT [])/\Q (.bl (!kvs.isEmpty)) H
theorem aw1 {X:Cx} (S:X.A.units+64 < cLine):OpR X (compareOp .NotEq) rNeE:=by
 intro pins s σ H x y v u Q I K J h
 obtain ⟨a,b,kvs,rfl,rfl,R,O,q⟩:=h
 obtain rfl:v=Value.ref a:=K
 obtain rfl:u=Value.ref b:=J
 obtain ⟨_,c,xs,z,⟨cls,dd,data,sl⟩,es,E,n,M,G,B,_,_⟩:=ag4 I.hok R
 obtain ⟨_,j,ys,i,⟨f,g,r,m⟩,fs,d,o,L,D,C,_,_⟩:=ag4 I.hok O
 cases i
 have hf:fs = #[]:=by
  obtain ⟨l⟩:=fs
  simp at C
  rw [C]
 subst hf
 have P:cls=.type "dict":=M.1
 have N:f=.type "dict":=L.1
 simp only at G D
 subst P N G D
 have hn:Value.bool true ≠ Value.notImplemented:=fun x=>nomatch x
 have p:Value.bool false ≠ Value.notImplemented:=fun x=>nomatch x
 cases z with
 | nil =>
  have w:es = #[]:=by
   obtain ⟨l⟩:=es
   simp at B
   rw [B]
  subst w
  exact richCompare_meets_room (op:=.NotEq) ⟨_,n,rfl⟩ ⟨_,o,rfl⟩ PySem.F.slot_dict_ne PySem.F.entry_dict_ne (PySem.F.args_dict_ne_2 _ _) (DNe.dict_ne_none a b E d dd g sl m c j)
   ⟨n,o,show Value.bool false ≠ Value.notImplemented/\_ from ⟨p,⟨.bl false,H,I,rfl,q⟩⟩⟩ (by omega)
 | cons hq t =>
  have w:(es.size != 0)=true:=by
   have:=congrArg List.length B
   simp at this
   simp [this]
  exact richCompare_meets_room (op:=.NotEq) ⟨_,n,rfl⟩ ⟨_,o,rfl⟩ PySem.F.slot_dict_ne PySem.F.entry_dict_ne (PySem.F.args_dict_ne_2 _ _) (DNe.dict_ne_some a b es E d dd g sl m c j w)
   ⟨n,o,show Value.bool true ≠ Value.notImplemented/\_ from ⟨hn,⟨.bl true,H,I,rfl,q⟩⟩⟩ (by omega)
end L2
namespace DNe
open PySem PyProof.Rows
theorem alu (l:Addr) (es:Array DictEntry) (n:Nat) (dd:Option Addr) (sl:Array (Option Value)) (a:(l == sysModules)=false) :
  Meets (Builtin.«dict.__len__» ⟨[.ref l],[]⟩)
   (fun _ R s=>s.heap.get? l=some { cls:=.type "dict",dict:=dd,data:=.dict es n,slots:=sl }/\R (.ok (.ret (.int (es.size:Int) s.toks))) { s with toks:=s.toks+1 }) :=
 .of_wp fun prog w A R s h=>by
  obtain ⟨c,g,d,b,os⟩:=s;obtain ⟨f,h⟩:=h
  wp_walk
  exact ⟨_,rfl,h⟩
section
variable {prog:Program} {w:World} {A:Around} {E:Value->Shared->Prop} {s:Shared}
theorem call_len_raw {d:Addr} {es:Array DictEntry} {n:Nat} {dd:Option Addr} {sl:Array (Option Value)} {Q:Value->Shared->Prop} (hd:(d == sysModules)=false) (a:s.heap.get? d=some { cls:=.type "dict",dict:=dd,data:=.dict es n,slots:=sl }) (b:(es.size:Int) < 2 ^ 63)
  (h:Q (.int (es.size:Int) (s.toks+1)) { s with toks:=s.toks+1+1 }):wpAny (model prog w) A (call (.builtin "len") [.ref d]) Q E s:=by
 have c:s.TypeIs (.ref d) "dict":=⟨_,a,rfl⟩
 refine Calls.call_function_entry kind_len plain_len entry_len (args_len1 _) ?_
 unfold Builtin.«len»
 refine aF8 (m:=oneArg "len" _) (aF9 ?_)
 refine aF8 (m:=callSpecial? (.ref d) (Str.ofString "__len__")) (wpAny_callSpecial?_slot (name:=Str.ofString "__len__") c PySem.F.slot_dict_len
  (call_meets PySem.F.slot_dict_len c PySem.F.entry_dict_len (PySem.F.args_dict_len_1 _) (alu d es n dd sl hd) ⟨a,?_⟩))
 show wpAny _ _ _ _ _ { s with toks:=s.toks+1 }
 refine aF8 (aG3 (aF9 ?_))
 refine aF8 (wpAny_letGo ?_)
 show wpAny _ _ (if (es.size:Int) < 0 then _ else _) _ _ _
 rw [aC6 (by omega)]
 show wpAny _ _ (if (es.size:Int) ≥ 2 ^ 63 then _ else _) _ _ _
 rw [aC6 (by omega)]
 exact aF8 (wpAny_mkInt (aF9 ⟨_,rfl,h⟩))
end
end DNe
namespace L2
open PySem PySem.Spec PySem.W PyProof.Rows
def ash:List V->Hp->VK->Prop:=fun xs H Q=>∃ a kvs,xs=[V.ref a]/\H a=some (.dT kvs)/\Q (.int kvs.length) H
theorem apt {X:Cx}:abc X (.builtin "len") ash:=by
 intro pins s σ H xs us Q I r h
 obtain ⟨a,kvs,rfl,ha,q⟩:=h
 obtain ⟨u,rfl,i⟩:=acz r
 cases i
 obtain ⟨z,hd,ys,b,⟨cls,dd,data,sl⟩,es,m,d,f,c,l,_,_⟩:=ag4 I.hok ha
 have j:cls=.type "dict":=f.1
 simp only at c
 subst j c
 have g:es.size=kvs.length:=by
  have:=congrArg List.length l
  simp at this
  rw [this];exact (Paired.length b).symm
 refine DNe.call_len_raw hd d (by rw [sizeLine_eq] at z;omega) ?_
 rw [g]
 exact ⟨.int kvs.length,H,(I.tok _).tok _,⟨_,rfl⟩,q⟩
end L2
namespace VL
open PySem PySem.Spec L2
section
variable {B:Bs} {env:En} {Q':PyData->En->Prop} {QO:Sl->En->Prop} {i:Nat} {ty:TE}
theorem RpT.at {G:Hp}:∀ {kvs:List (List Key × V)} {es:List (List Key × PyData)},RpT G kvs es->∀ {j:Nat} {a:List Key} {d:PyData},es[j]?=some (a,d)->∃ v,kvs[j]?=some (a,v)/\Rp G v d
 | _,_,.nil,j,a,d,e=>by simp at e
 | _,_,.cons (k:=k) (v:=v) (d:=d0) h t,0,a,d,e=>by
  have e:(k,d0)=(a,d):=by simpa using e
  cases e
  exact ⟨v,rfl,h⟩
 | _,_,.cons h t,j+1,a,d,e=>by
  obtain ⟨v,b,r⟩:=RpT.at t (j:=j) (by simpa using e)
  exact ⟨v,by simpa using b,r⟩
theorem RpT.erase {G:Hp}:∀ {kvs:List (List Key × V)} {es:List (List Key × PyData)},RpT G kvs es->∀ (j:Nat),RpT G (kvs.eraseIdx j) (es.eraseIdx j)
 | _,_,.nil,_ => .nil
 | _,_,.cons _ t,0=>t
 | _,_,.cons h t,j+1 => .cons h (RpT.erase t j)
theorem aro {p:List (List Key × PyData)} (M:Has env i (OT p)) (h:Ev B ty env fun y r=>∃ es m j d,r[i]?=some (some (.own (OT es)))/\y=tkD m/\es[j]?=some (m,d)/\Q' d (r.set i (some (.own (OT (es.eraseIdx j)))))):Ev B (apr (tVar i) ty) env Q':=fun σ G H F Q I k=>by
 obtain ⟨v,s,a,kvs,K,ha,rt,_⟩:=I.has M
 subst K
 refine ⟨_,s,a,rfl,.inr ⟨kvs,.inl ha⟩,h σ G H F _ I fun u D H2 F2 y r n J z ⟨es,m,j,d,g,C,x,q⟩=>?_⟩
 subst C
 obtain ⟨O,f,⟨N,l,w,o,c,hf⟩,hb⟩:=n.sl i _ g
 rw [s] at f;cases f;cases w
 cases z with
 | @tup b vs ds hk rs =>
  have:=alp rs
  subst this
  obtain ⟨E,A,L⟩:=RpT.at c x
  refine ⟨l,m,j,E,b,o,rfl,n.gh _ _ hk,A,?_⟩
  exact k _ D _ _ _ _ (n.upd1 (A':=OT (es.eraseIdx j)) g (.inl rfl) s hf ⟨a,_,rfl,aai,RpT.erase c j,fun b=>Iff.rfl⟩) J L q
theorem aw2 {es:List (List Key × PyData)} (d:Has env i (OT es)) (q:Q' (.bool (!es.isEmpty)) env):Ev B (tOp rNeE (tVar i) akm) env Q':=fun σ G H F Q I k=>by
 obtain ⟨v,c,a,kvs,f,ha,rt,_⟩:=I.has d
 subst f
 refine ⟨_,c,fun p b=>⟨a,p,kvs,rfl,rfl,by rw [aag (aa0 ha b)];exact ha,aai,?_⟩⟩
 have o:=Out.newDT (xs:=[]) (ds:=[]) I.gh b .nil
 have e:kvs.isEmpty=es.isEmpty:=by cases rt <;> rfl
 rw [e]
 exact k _ G _ F _ env (I.out o).1 (Same.refl _) (.bl _) q
theorem aup {es:List (List Key × PyData)} (d:Has env i (OT es)) (q:Q' (.int es.length) env):Ev B (tCB ash (abu (tVar i) tNil)) env Q':=fun σ G H F Q I k=>by
 obtain ⟨v,c,a,kvs,b,ha,rt,_⟩:=I.has d
 subst b
 refine ⟨_,c,a,kvs,rfl,ha,?_⟩
 rw [(RpT.len rt).1]
 exact k _ G H F _ env I (Same.refl _) (.int _) q
end
end VL
namespace VL
open PySem L2
theorem arp {n:Int} {es:List (Int × Int)} (h:Conn n (Tied es)):∃ fs:List (Int × Int),fs.Nodup/\(∀ p∈fs,p∈es)/\(fs.length:Int)=(n - 1).toNat:=by
 have g:∀ i:Nat,∃ p:Int × Int,(i:Int)+1 < n->p∈es/\∃ (u:Int) (d:Nat),(p=(u,(i:Int)+1)\/p=((i:Int)+1,u))/\Gr.Dist (Tied es) 0 u d/\Gr.Dist (Tied es) 0 ((i:Int)+1) (d+1):=by
  intro i
  by_cases hi:(i:Int)+1 < n
  ·obtain ⟨k,w⟩:=h 0 ((i:Int)+1) (by omega) (by omega) (by omega) hi
   obtain ⟨d,_,hd⟩:=Gr.Dist.of_walk w
   cases d with
   | zero =>
    have hz:=hd.1
    generalize r:(i:Int)+1=v at hz
    cases hz
    omega
   | succ d =>
    obtain ⟨u,a,l⟩:=hd.pred
    rcases a with a | a
    ·exact ⟨_,fun _=>⟨a,u,d,.inl rfl,l,hd⟩⟩
    ·exact ⟨_,fun _=>⟨a,u,d,.inr rfl,l,hd⟩⟩
  ·exact ⟨(0,0),fun q=>absurd q hi⟩
 obtain ⟨f,hf⟩:∃ f:Nat->Int × Int,∀ i:Nat,(i:Int)+1 < n->f i∈es/\∃ (u:Int) (d:Nat),(f i=(u,(i:Int)+1)\/f i=((i:Int)+1,u))/\Gr.Dist (Tied es) 0 u d/\Gr.Dist (Tied es) 0 ((i:Int)+1) (d+1):=⟨fun i=>Classical.choose (g i),fun i=>Classical.choose_spec (g i)⟩
 refine ⟨(List.range (n - 1).toNat).map f,?_,fun p B=>?_,by simp⟩
 ·unfold List.Nodup
  rw [aD1]
  refine aF0 ?_ List.nodup_range
  intro i j hi s z e
  have y:=az8.mp hi
  have x:=az8.mp s
  obtain ⟨_,u,d,o,l,hd⟩:=hf i (by omega)
  obtain ⟨_,v,c,b,r,A⟩:=hf j (by omega)
  rw [e] at o
  have m:u=(j:Int)+1/\v=(i:Int)+1:=by
   rcases o with o | o <;> rcases b with b | b <;> rw [o] at b <;> simp only [Prod.mk.injEq] at b <;> omega
  rw [m.1] at l
  rw [m.2] at r
  have:=l.uniq A
  have:=r.uniq hd
  omega
 ·obtain ⟨i,hi,rfl⟩:=az6.mp B
  exact (hf i (by have:=az8.mp hi;omega)).1
def ac1 (es:List (Int × Int)) (t:Int × Int):List (Int × Int):=es.filter fun p => !decide (p=t)
theorem lessE_mem {es:List (Int × Int)} {t p:Int × Int}:p∈ac1 es t ↔ p∈es/\p ≠ t:=by simp [ac1]
theorem apu {es:List (Int × Int)} {a b:Int} (h:(a,b)∈es) (x y:Int):Tied es x y ↔ Tied (ac1 es (a,b)) x y\/(x=a/\y=b)\/(x=b/\y=a):=by
 unfold Tied
 rw [lessE_mem,lessE_mem]
 constructor
 ·rintro (q | q)
  ·by_cases e:(x,y)=(a,b)
   ·exact .inr (.inl (by simpa using e))
   ·exact .inl (.inl ⟨q,e⟩)
  ·by_cases e:(y,x)=(a,b)
   ·simp only [Prod.mk.injEq] at e
    exact .inr (.inr ⟨e.2,e.1⟩)
   ·exact .inl (.inr ⟨q,e⟩)
 ·rintro ((q | q) | ⟨rfl,rfl⟩ | ⟨rfl,rfl⟩)
  ·exact .inl q.1
  ·exact .inr q.1
  ·exact .inl h
  ·exact .inr h
theorem ahq {n:Int} {es:List (Int × Int)} {a b:Int} (hn:1<=n) (s:(es.length:Int)=n - 1) (o:Conn n (Tied es)) (h:(a,b)∈es) (k:Nat):¬ Gr.Walk (Tied (ac1 es (a,b))) a k b:=fun g=>by
 have r:∀ u v,Tied (ac1 es (a,b)) u v->Tied (ac1 es (a,b)) v u:=fun _ _ t=>t.symm
 have d:Conn n (Tied (ac1 es (a,b))):=fun u v i l v0 f=>by
  obtain ⟨j,w⟩:=o u v i l v0 f
  clear v0 f
  induction w with
  | refl=>exact ⟨0,.refl⟩
  | step _ t ih =>
   obtain ⟨m,w⟩:=ih
   rcases (apu h _ _).mp t with t | ⟨rfl,rfl⟩ | ⟨rfl,rfl⟩
   ·exact ⟨_,.step w t⟩
   ·exact ⟨_,w.app g⟩
   ·exact ⟨_,w.app (g.rev r)⟩
 obtain ⟨fs,nd,sub,len⟩:=arp d
 have:=List.Nodup.length_le_of_subset (l₁:=(a,b) :: fs) (l₂:=es) (aF3.mpr ⟨fun q=>(lessE_mem.mp (sub _ q)).2 rfl,nd⟩) fun p c=>by
  rcases ay8.mp c with rfl | c
  ·exact h
  ·exact (lessE_mem.mp (sub _ c)).1
 simp only [aB9] at this
 omega
section
variable {T T':Int->Int->Prop} {a b:Int}
end
theorem agy {T c:Int->Int->Prop} {b v:Int} {K:Nat} (a:Gr.Dist T b v (K+1)) (d:∀ x y,x ≠ v->y ≠ v->T x y->c x y):∀ (k:Nat) (p:Int),k<=K->Gr.Dist T b p k->Gr.Walk c b k p
 | 0,p,_,h=>by cases h.1;exact .refl
 | k+1,p,hk,h=>by
  obtain ⟨u,t,f⟩:=h.pred
  refine .step (agy a d k u (by omega) f) (d u p ?_ ?_ t)
  ·rintro rfl;have:=f.uniq a;omega
  ·rintro rfl;have:=h.uniq a;omega
theorem apv {n:Int} {es:List (Int × Int)} {b v p q:Int} {K:Nat} (hn:1<=n) (r:(es.length:Int)=n - 1) (j:Conn n (Tied es)) (A:Tied es v p) (s:Tied es v q) (m:Gr.Dist (Tied es) b p K) (o:Gr.Dist (Tied es) b q K) (d:Gr.Dist (Tied es) b v (K+1)):p=q:=by
 apply aB2
 intro z
 have pv:p ≠ v:=by rintro rfl;have:=m.uniq d;omega
 have D:q ≠ v:=by rintro rfl;have:=o.uniq d;omega
 have c:∀ t:Int × Int,(t=(v,p)\/t=(p,v))->∃ k,Gr.Walk (Tied (ac1 es t)) v k p:=by
  intro t a
  have B:∀ u v,Tied (ac1 es t) u v->Tied (ac1 es t) v u:=fun _ _ t=>t.symm
  have l:∀ x y,x ≠ v->y ≠ v->Tied es x y->Tied (ac1 es t) x y:=fun x y E C h=>by
   have f:(x,y) ≠ t:=fun e=>by rw [← e] at a;simp only [Prod.mk.injEq] at a;omega
   have g:(y,x) ≠ t:=fun e=>by rw [← e] at a;simp only [Prod.mk.injEq] at a;omega
   rcases h with h | h
   ·exact .inl (lessE_mem.mpr ⟨h,f⟩)
   ·exact .inr (lessE_mem.mpr ⟨h,g⟩)
  have i:Tied (ac1 es t) v q:=by
   have f:(v,q) ≠ t:=fun e=>by rw [← e] at a;simp only [Prod.mk.injEq] at a;omega
   have g:(q,v) ≠ t:=fun e=>by rw [← e] at a;simp only [Prod.mk.injEq] at a;omega
   rcases s with h | h
   ·exact .inl (lessE_mem.mpr ⟨h,f⟩)
   ·exact .inr (lessE_mem.mpr ⟨h,g⟩)
  exact ⟨_,(Gr.Walk.step .refl i).app (((agy d l K q (ay6 _) o).rev B).app (agy d l K p (ay6 _) m))⟩
 rcases A with h | h
 ·obtain ⟨k,w⟩:=c (v,p) (.inl rfl)
  exact ahq hn r j h k w
 ·obtain ⟨k,w⟩:=c (p,v) (.inr rfl)
  exact ahq hn r j h k (w.rev fun _ _ t=>t.symm)
structure WayTo (T:Int->Int->Prop) (a b:Int) (d:Nat) (ws:List Int):Prop where
 len:ws.length=d+1
 fst:ws[0]?=some a
 far:∀ (i:Nat) x,ws[i]?=some x->Gr.Dist T b x (d - i)
 tie:∀ (i:Nat) x y,ws[i]?=some x->ws[i+1]?=some y->T x y
theorem WayTo.uniq {n:Int} {es:List (Int × Int)} {a b:Int} {d:Nat} {ws c:List Int} (hn:1<=n) (r:(es.length:Int)=n - 1) (p:Conn n (Tied es)) (h:WayTo (Tied es) a b d ws) (g:WayTo (Tied es) a b d c):ws=c:=by
 have l:∀ i:Nat,i<=d->ws[i]?=c[i]?:=by
  intro i
  induction i with
  | zero=>intro _;rw [h.fst,g.fst]
  | succ i ih =>
   intro hi
   have e:=ih (by omega)
   obtain ⟨x,m⟩:∃ x,ws[i]?=some x:=⟨_,ay0 (by rw [h.len];omega)⟩
   obtain ⟨y,f⟩:∃ y,ws[i+1]?=some y:=⟨_,ay0 (by rw [h.len];omega)⟩
   obtain ⟨z,hz⟩:∃ z,c[i+1]?=some z:=⟨_,ay0 (by rw [g.len];omega)⟩
   have j:c[i]?=some x:=by rw [← e];exact m
   have dx:=h.far i x m
   have q:=h.far (i+1) y f
   have o:=g.far (i+1) z hz
   rw [show d - i=d - (i+1)+1 by omega] at dx
   rw [f,hz,apv hn r p (h.tie i x y m f) (g.tie i x z j hz) q o dx]
 refine aD2 fun i=>?_
 by_cases hi:i<=d
 ·exact l i hi
 ·rw [List.getElem?_eq_none (by rw [h.len];omega),List.getElem?_eq_none (by rw [g.len];omega)]
theorem WayTo.walk {T:Int->Int->Prop} {a b:Int} {d:Nat} {c:List Int} (h:WayTo T a b d c):∀ (j:Nat) x,c[j]?=some x->Gr.Walk T a j x
 | 0,x,e=>by rw [h.fst] at e;cases e;exact .refl
 | j+1,x,e=>by
  have g:=(ay1.mp e).1
  obtain ⟨y,f⟩:∃ y,c[j]?=some y:=⟨_,ay0 (by omega)⟩
  exact .step (h.walk j y f) (h.tie j y x f e)
theorem WayTo.rev {T:Int->Int->Prop} {a b:Int} {d:Nat} {c:List Int} (m:∀ u v,T u v->T v u) (h:WayTo T b a d c):WayTo T a b d c.reverse:=by
 have get:∀ (i:Nat) x,c.reverse[i]?=some x->i<=d/\c[d - i]?=some x:=fun i x e=>by
  have hi:=(ay1.mp e).1
  rw [List.length_reverse,h.len] at hi
  rw [List.getElem?_reverse (by rw [h.len];exact hi),h.len] at e
  exact ⟨by omega,by rw [show d - i=d+1 - 1 - i by omega];exact e⟩
 have g:Gr.Dist T a b d:=h.far 0 b h.fst
 refine ⟨by rw [List.length_reverse,h.len],?_,fun i x e=>?_,fun i x y j f=>?_⟩
 ·rw [List.getElem?_reverse (by rw [h.len];omega),h.len]
  obtain ⟨x,n⟩:∃ x,c[d+1 - 1 - 0]?=some x:=⟨_,ay0 (by rw [h.len];omega)⟩
  have:=h.far _ x n
  rw [show d - (d+1 - 1 - 0)=0 by omega] at this
  rw [n]
  cases this.1
  rfl
 ·obtain ⟨hi,e⟩:=get i x e
  refine ⟨h.walk (d - i) x e,fun k w=>?_⟩
  have l:=h.far (d - i) x e
  rw [show d - (d - i)=i by omega] at l
  have:=g.2 _ (l.1.app (w.rev m))
  omega
 ·obtain ⟨hi,j⟩:=get i x j
  obtain ⟨o,f⟩:=get (i+1) y f
  exact m _ _ (h.tie (d - (i+1)) y x f (by rw [show d - (i+1)+1=d - i by omega];exact j))
end VL
namespace VL
open PySem PySem.Spec L2
section
variable {B:Bs} {env:En} {QO:Sl->En->Prop} {Q':PyData->En->Prop} {K:Frag} {i:Nat}
end
theorem ajc {α:Type} {K:Frag} {src:List (Option Nat)} {a:En} {te:TE} {c:TT} {R:List PyData->En->Prop} {xs:List α} {f : α->PyData} (g : α->PyData) (p : α->Bool) (n:noIo (aav src a)=true) (L:xs.length<=999999)
  (h:∀ x∈xs,∀ j:Bs,j.K=K->EvT j c (some (.st (f x)) :: aav src a) fun b m=>b=p x/\m=some (.st (f x)) :: aav src a/\(b=true->Ev j te (some (.st (f x)) :: aav src a) fun y r=>y=g x/\r=some (.st (f x)) :: aav src a))
  (D:R ((xs.filter p).map g) a):LcV K (none :: src) (aa6 0) c te (xs.map f) a R:=by
 have l:noIo (aav (none :: src) a)=true:=by
  show ((none :: aav src a).all fun s => !isIo s)=true
  rw [List.all_cons]
  exact (aE1 _ _).mpr ⟨rfl,n⟩
 refine ⟨fun i ys e=>ys=((xs.take i).filter p).map g/\∃ o,e=stO o :: aav src a,⟨by simp,none,rfl⟩,?_,?_,?_⟩
 ·rintro i ys e ⟨_,o,rfl⟩
  exact ⟨⟨isIo_stO.symm,ac9⟩,adp adh⟩
 ·rintro i d ys e hd ⟨rfl,o,rfl⟩ j B
  rw [ay5] at hd
  cases hx:xs[i]? with
  | none=>rw [hx] at hd;cases hd
  | some x =>
  rw [hx] at hd
  cases hd
  have hi:i < xs.length:=(ay1.mp hx).1
  have w:xs.take (i+1)=xs.take i ++ [x]:=by rw [aE4,hx];rfl
  refine aa3 ?_
  show EvT j c (some (.st (f x)) :: aav src a) _
  intro σ G H F Q I k
  refine h x (ay2 hx) j B σ G H F Q I fun b G' H' F' m u g' ⟨hb,E,C⟩=>k b G' H' F' m u g' ?_
  subst E
  by_cases hp:b=true
  ·rw [aC5 hp]
   intro σ G H F Q I k
   refine C hp σ G H F Q I fun v G' H' F' d' r u g' A ⟨z,q⟩=>k v G' H' F' d' r u g' A ?_
   subst z q
   refine ⟨?_,?_,some _,rfl⟩
   ·have:=List.length_filter_le p (xs.take i)
    simp only [ay3]
    have J:(xs.take i).length<=i:=by simp;omega
    omega
   ·rw [w,List.filter_append,aB8]
    have:p x=true:=by rw [← hb];exact hp
    simp [this]
  ·rw [aC6 hp]
   refine ⟨?_,some _,rfl⟩
   rw [w,List.filter_append,aB8]
   have:p x=false:=by rw [← hb];simpa using hp
   simp [this]
 ·rintro ys e ⟨rfl,o,rfl⟩
  rw [af7 l,ay3,aD8]
  exact D
section
variable {B:Bs} {env:En} {QO:Sl->En->Prop} {Q':PyData->En->Prop} {K:Frag} {i:Nat}
end
end VL
namespace L2
open PySem PySem.W PyProof.Rows
section
variable {X:Cx}
end
end L2
namespace VL
open PySem PySem.Spec L2
section
variable {B:Bs} {env:En} {Q':PyData->En->Prop} {R:Sl->Prop} {td:TE}
end
end VL
namespace L2
open PySem PySem.W PyProof.Rows
section
variable {X:Cx}
end
end L2
namespace VL
open PySem PySem.Spec L2
end VL
namespace G
open PySem L2 VL
def top (i:Nat):Stmt:=PySem.Challenge.pw_fewties_k06_whole_ways_and_numbers.main.body.getD i (.Pass ⟨0,0,0,0⟩)
abbrev s_is_whole:Stmt:=top 5
abbrev s_is_between:Stmt:=top 6
abbrev s_is_place:Stmt:=top 7
abbrev s_is_tie:Stmt:=top 8
abbrev s_are_ties:Stmt:=top 9
abbrev s_is_rising:Stmt:=top 10
abbrev s_is_web:Stmt:=top 11
abbrev s_tied_places:Stmt:=top 12
abbrev s_far_from:Stmt:=top 13
abbrev s_need_place:Stmt:=top 14
abbrev s_all_far:Stmt:=top 15
abbrev s_how_far:Stmt:=top 16
abbrev s_is_joined:Stmt:=top 17
abbrev s_short_way:Stmt:=top 18
abbrev s_law_deck:Stmt:=top 20
abbrev s_law_draw:Stmt:=top 21
abbrev s_law_order:Stmt:=top 22
abbrev s_law_crowds:Stmt:=top 23
abbrev s_law_web:Stmt:=top 24
abbrev s_law_least:Stmt:=top 25
abbrev s_law_sum:Stmt:=top 26
abbrev s_law_way_right:Stmt:=top 27
abbrev s_law_tie_right:Stmt:=top 28
abbrev s_law_third_right:Stmt:=top 29
abbrev s_law_right:Stmt:=top 30
abbrev s_law:Stmt:=top 31
structure Txt (K:Frag) (mg:Str->Option Value):Prop where
 b_ValueError:mg "ValueError" = none
 b_all:mg "all" = none
 b_range:mg "range" = none
 b_list:mg "list" = none
 b_sorted:mg "sorted" = none
 b_isinstance:mg "isinstance" = none
 b_int:mg "int" = none
 b_len:mg "len" = none
 b_max:mg "max" = none
 b_sum:mg "sum" = none
 b_min:mg "min" = none
 b_bool:mg "bool" = none
 b_tuple:mg "tuple" = none
 v_MOST_PLACES:∃ t,mg "MOST_PLACES" = some (.int 60 t)
 d_is_whole:∃ f fd,DefAt K mg "is_whole" s_is_whole ["thing"] f fd
 d_is_between:∃ f fd,DefAt K mg "is_between" s_is_between ["least","most","thing"] f fd
 d_is_place:∃ f fd,DefAt K mg "is_place" s_is_place ["n","thing"] f fd
 d_is_tie:∃ f fd,DefAt K mg "is_tie" s_is_tie ["n","thing"] f fd
 d_are_ties:∃ f fd,DefAt K mg "are_ties" s_are_ties ["n","thing"] f fd
 d_is_rising:∃ f fd,DefAt K mg "is_rising" s_is_rising ["things"] f fd
 d_is_web:∃ f fd,DefAt K mg "is_web" s_is_web ["thing"] f fd
 d_tied_places:∃ f fd,DefAt K mg "tied_places" s_tied_places ["web"] f fd
 d_far_from:∃ f fd,DefAt K mg "far_from" s_far_from ["tied","start"] f fd
 d_need_place:∃ f fd,DefAt K mg "need_place" s_need_place ["web","thing"] f fd
 d_all_far:∃ f fd,DefAt K mg "all_far" s_all_far ["web","a"] f fd
 d_how_far:∃ f fd,DefAt K mg "how_far" s_how_far ["web","a","b"] f fd
 d_is_joined:∃ f fd,DefAt K mg "is_joined" s_is_joined ["web"] f fd
 d_short_way:∃ f fd,DefAt K mg "short_way" s_short_way ["web","a","b"] f fd
 d_law_deck:∃ f fd,DefAt K mg "_law_deck" s_law_deck ["script"] f fd
 d_law_draw:∃ f fd,DefAt K mg "_law_draw" s_law_draw ["deck","many"] f fd
 d_law_order:∃ f fd,DefAt K mg "_law_order" s_law_order ["deck","n"] f fd
 d_law_crowds:∃ f fd,DefAt K mg "_law_crowds" s_law_crowds ["deck"] f fd
 d_law_web:∃ f fd,DefAt K mg "_law_web" s_law_web ["deck"] f fd
 d_law_least:∃ f fd,DefAt K mg "_law_least" s_law_least ["fars"] f fd
 d_law_sum:∃ f fd,DefAt K mg "_law_sum" s_law_sum ["one","other"] f fd
 d_law_way_right:∃ f fd,DefAt K mg "_law_way_right" s_law_way_right ["web","a","b"] f fd
 d_law_tie_right:∃ f fd,DefAt K mg "_law_tie_right" s_law_tie_right ["web","other","tie","a","b"] f fd
 d_law_third_right:∃ f fd,DefAt K mg "_law_third_right" s_law_third_right ["web","a","b","c"] f fd
 d_law_right:∃ f fd,DefAt K mg "_law_right" s_law_right ["deck","web"] f fd
 d_law:∃ f fd,DefAt K mg "law" s_law ["script"] f fd
local macro_rules | `(tactic| row_cond sc) => `(tactic| exact ⟨rfl,rfl,rfl,by decide +kernel,rfl,by decide +kernel,by decide +kernel⟩)
local macro_rules | `(tactic| row_cond gn) => `(tactic| first | (with_reducible first | refine evg_n0 ?_ | refine awn ?_ | refine awo ?_ | refine awp ?_ | refine awq ?_ | refine awr ?_ | refine aws ?_ | refine awt ?_ | refine awu ?_ | refine awv ?_ | refine at9 ?_ | refine aua ?_ | refine aub ?_ | refine evg_n13 ?_ | refine evg_n14 ?_ | refine evg_n15 ?_ | refine evg_n16 ?_ | refine evg_n17 ?_ | refine evg_n18 ?_ | refine evg_n19 ?_ | refine evg_n20 ?_ | refine evg_n21 ?_ | refine evg_n22 ?_ | refine evg_n23 ?_ | refine evg_n24 ?_ | refine evg_n25 ?_) | ((with_reducible refine aa3 ?_); dsimp only [List.set_cons_zero, List.set_cons_succ]))
local macro_rules | `(tactic| row_cond dc) => `(tactic| first | assumption | omega | (with_reducible rfl))
local macro_rules | `(tactic| row_cond ar) => `(tactic| first | assumption | (refine ⟨?_, ?_, ?_⟩ <;> decide) | (constructor <;> first | assumption | omega) | (show (0 : Int) < _; first | assumption | omega) | (left; constructor <;> first | assumption | omega) | (right; constructor <;> first | assumption | omega))
local macro_rules | `(tactic| row_cond hs) => `(tactic| first | exact Or.inl rfl | exact Or.inr rfl)
local macro_rules | `(tactic| row_cond fz) => `(tactic| first | exact acq | exact frz_OD | exact frz_OT | exact frz_OW | exact aih | assumption)
local macro_rules | `(tactic| row_cond le) => `(tactic| first | exact Nat.le_of_ble_eq_true rfl | assumption | omega | (simp only [List.length_append, List.length_map, List.length_cons, List.length_nil, List.length_set, List.length_replicate]; omega))
local macro_rules | `(tactic| row_cond ia) => `(tactic| first | assumption | exact at0 | exact at1 | exact at2 | exact rfl)
local macro_rules | `(tactic| row_cond ty) => `(tactic| first | exact awk | exact at7 | exact arf | exact at8 | exact ty_str | exact ty_dict)
local macro_rules | `(tactic| row_cond sEvS) => `(tactic| first | (with_reducible refine alj (fun c_ hc_ => ?_)) | (with_reducible first | refine atq ?_ | refine awc ?_ | refine ali ?_) | ((with_reducible refine' arh ?h0 ?_); (case h0 => exact rfl)) | (with_reducible first | refine am2 ?_ | refine atr ?_ | refine alg ?_) | ((with_reducible refine' aod ?h0 ?_); (case h0 => exact rfl)) | ((with_reducible refine' am3 ?h0 ?_); (case h0 => assumption)))
local macro_rules | `(tactic| row_cond sEvG) => `(tactic| first | row_cond gn | ((with_reducible refine' am1 ?h0 ?_); (case h0 => exact rfl)) | ((with_reducible refine' ard ?h0 ?_); (case h0 => row_cond hs)) | ((with_reducible refine' aug ?h0 ?_); (case h0 => exact rfl)) | (with_reducible refine awm ?_))
local macro_rules | `(tactic| row_cond sEvGs) => `(tactic| first | (with_reducible first | refine aft ?_ | refine alh ?_))
local macro_rules | `(tactic| row_cond sEv) => `(tactic| first | ((with_reducible refine' av3 ?h0 ?_); (case h0 => exact rfl)) | (with_reducible refine av4 ?_) | ((with_reducible refine' awi ?h0 ?_); (case h0 => row_cond hs)) | (with_reducible refine asd ?_) | ((with_reducible refine' awj ?h0 ?_); (case h0 => row_cond ty)) | ((with_reducible refine' ai6 ?h0 ?_); (case h0 => exact rfl)) | ((with_reducible refine' api ?h0 ?_); (case h0 => exact rfl)) | (with_reducible refine aqx ?_) | ((with_reducible refine' ath ?h0 ?h1 ?_); (case h0 => exact rfl); (case h1 => row_cond fz); dsimp only [List.set_cons_zero, List.set_cons_succ]) | (with_reducible first | refine av8 ?_ | refine av9 ?_ | refine axp ?_ | refine av5 ?_ | refine axq ?_ | refine atn ?_ | refine awb ?_ | refine ato ?_ | refine aqt ?_ | refine abl (te:=tCB (ahe _) _) ?_ | refine abl (te:=tCB (akx _) _) ?_ | refine abl (te:=tCB aga _) ?_ | refine axr ?_) | ((with_reducible refine' an8 ?h0 ?_); (case h0 => row_cond hs)) | ((with_reducible refine' an9 ?h0 ?_); (case h0 => row_cond hs)) | (with_reducible refine arl ?_) | ((with_reducible refine' axz ?h0 ?_); (case h0 => decide)) | (with_reducible first | refine arc ?_))
local macro_rules | `(tactic| row_cond sEvO) => `(tactic| first | (with_reducible first | refine ald (r:=rCat) ?_ | refine ald (r:=rRep) ?_ | refine abb (te:=tOp _ _ _) ?_ | refine abb (te:=tVar _) ?_ | refine abb (te:=tC _) ?_ | refine am0 ?_) | (with_reducible refine amz ?_) | ((with_reducible refine' ahi ?h0 ?_); (case h0 => exact rfl)) | ((with_reducible refine' ahj ?h0 ?_); (case h0 => exact rfl)) | ((with_reducible refine' apf ?h0 ?h1 ?_); (case h0 => exact rfl); (case h1 => assumption)) | (with_reducible first | refine ai1 ?_ | refine auc ?_) | ((with_reducible refine' apg ?h0 ?_); (case h0 => decide)) | (with_reducible first | refine ai5 ?_ | refine apn ?_ | refine ai9 ?_ | refine abb (te:=tUn _ _) ?_ | refine abb (te:=anj _ _) ?_ | refine abb (te:=tOrV _ _) ?_ | refine abb (te:=ank _) ?_ | refine abb (te:=akb _ _ _ _ _) ?_ | refine abb (te:=tCB (rLen _) _) ?_ | refine abb (te:=tCB (rIsi _) _) ?_ | refine abb (te:=tCB ajx _) ?_ | refine abb (te:=tCB ajy _) ?_ | refine abb (te:=tCB anx _) ?_ | refine abb (te:=tCB (aj1 _) _) ?_ | refine abb (te:=tCB (ahb _) _) ?_ | refine abb (te:=tCB (an5 _) _) ?_ | refine abb (te:=tCB (rAll _) _) ?_ | refine abb (te:=tBM _ _ _ _ _) ?_))
local macro_rules | `(tactic| row_cond sEvT) => `(tactic| first | (with_reducible first | refine alf ?_ | refine axs ?_ | refine atj ?_ | refine awa ?_ | refine atk ?_ | refine aex ?_) | (with_reducible refine atm ?_))
local macro_rules | `(tactic| row_cond sEvA) => `(tactic| first | (with_reducible first | refine ale ?_ | refine ati ?_))
local macro_rules | `(tactic| row_cond sEvI) => `(tactic| first | (with_reducible first | refine aqv ?_ | refine aqw ?_ | refine evi_down ?_ | refine aqu ?_) | (with_reducible refine evi_tup ?_))
local macro_rules | `(tactic| row_cond sEvOp) => `(tactic| first | (with_reducible first | refine ara ?_ | refine arb ?_))
local macro_rules | `(tactic| row_cond sOp2) => `(tactic| first | (with_reducible first | refine ats ?_ | refine att ?_) | ((with_reducible refine' awg ?h0 ?_); (case h0 => row_cond ar)) | (with_reducible first | refine atu ?_ | refine atv ?_) | ((with_reducible refine' aty ?h0 ?_); (case h0 => row_cond ia)) | ((with_reducible refine' atz ?h0 ?_); (case h0 => row_cond ia)) | (with_reducible first | refine atx ?_ | refine at3 ?_ | refine aq2 ?_) | ((with_reducible refine' at4 ?h0 ?_); (case h0 => row_cond le)))
local macro_rules | `(tactic| row_cond sOp1) => `(tactic| first | (with_reducible refine awh ?_))
local macro_rules | `(tactic| row_cond sOpA) => `(tactic| first | (with_reducible first | refine aq3 ?_ | refine aq4 ?_ | refine aq5 ?_ | refine aq6 ?_))
local macro_rules | `(tactic| row_cond sFQ) => `(tactic| first | (with_reducible first | refine axo ?_ | refine ac0 ?_))
local macro_rules | `(tactic| row_cond sRngA1) => `(tactic| first | ((with_reducible refine' awe ?h0 ?h1 ?_); (case h0 => omega); (case h1 => omega)))
local macro_rules | `(tactic| row_cond sRngA2) => `(tactic| first | ((with_reducible refine' awf ?h0 ?_); (case h0 => omega)))
local macro_rules | `(tactic| row_cond sRest) => `(tactic| first | (with_reducible first | refine x_bl ?_ | refine x_st ?_ | refine awd ?_ | refine axt ?_) | ((with_reducible refine' axx ?h0 ?h1 ?_); (case h0 => row_cond hs); (case h1 => row_cond ia)) | ((with_reducible refine' axw ?h0 ?_); (case h0 => row_cond le)) | (with_reducible first | refine ab6 ?_ | refine acg ?_ | refine ah9 ?_ | refine aia ?_) | ((with_reducible refine' ah2 ?h0 ?_); (case h0 => row_cond dc)) | ((with_reducible refine' ah3 ?h0 ?_); (case h0 => row_cond dc)) | ((with_reducible refine' aqq ?h0 ?_); (case h0 => row_cond dc)) | ((with_reducible refine' aqr ?h0 ?_); (case h0 => row_cond dc)) | ((with_reducible refine' axy ?h0 ?_); (case h0 => first | exact rfl | row_cond hs)) | ((with_reducible refine' x_rt ?h0 ?_); (case h0 => exact rfl)) | ((with_reducible refine' awl ?h0 ?h1 ?_); (case h0 => exact rfl); (case h1 => row_cond le); dsimp only [List.set_cons_zero, List.set_cons_succ]) | ((with_reducible refine' aoa ?h0 ?h1 ?_); (case h0 => exact rfl); (case h1 => first | exact ixN0 | exact ixN1 | exact ixN2 | assumption); dsimp only [List.set_cons_zero, List.set_cons_succ, reS]) | (with_reducible first | refine ari ?_) | ((with_reducible refine' x_dT ?h0 ?h1 ?_); (case h0 => exact rfl); (case h1 => row_cond le); dsimp only [List.set_cons_zero, List.set_cons_succ]) | ((with_reducible refine' auh ?h0 ?h1 ?_); (case h0 => omega); (case h1 => omega)))
local macro_rules | `(tactic| row_cond st) => `(tactic| first | ((with_reducible refine ax1 ?_); row_cond sEvS) | ((with_reducible refine ax2 ?_); row_cond sEvG) | ((with_reducible refine awy ?_); row_cond sEvGs) | ((with_reducible refine g_Ev ?_); row_cond sEv) | ((with_reducible refine ax3 ?_); row_cond sEvO) | ((with_reducible refine ax4 ?_); row_cond sEvT) | ((with_reducible refine ax5 ?_); row_cond sEvA) | ((with_reducible refine ax6 ?_); row_cond sEvI) | ((with_reducible refine awz ?_); row_cond sEvOp) | ((with_reducible refine ax7 ?_); row_cond sOp2) | ((with_reducible refine ax8 ?_); row_cond sOp1) | ((with_reducible refine ax9 ?_); row_cond sOpA) | ((with_reducible refine g_FQ ?_); row_cond sFQ) | ((with_reducible refine aum ?_); row_cond sRngA1) | ((with_reducible refine aun ?_); row_cond sRngA2) | row_cond sRest)
local macro_rules | `(tactic| row_cond go) => `(tactic| repeat row_cond st)
local macro_rules | `(tactic| row_cond hnx) => `(tactic| first | assumption | (apply Ne.symm; assumption) | exact aa0 (by assumption) (by assumption) | exact (aa0 (by assumption) (by assumption)).symm)
local macro_rules | `(tactic| row_cond hhp) => `(tactic| first | assumption | exact aai | (rw [aag (by row_cond hnx)]; row_cond hhp) | ((refine' Same.at ?ss ?hh); (case ss => assumption); (case hh => row_cond hhp)))
local macro_rules | `(tactic| row_cond hix) => `(tactic| first | assumption | exact at0 | exact at1 | exact at2)
local macro_rules | `(tactic| row_cond hst) => `(tactic| first | (with_reducible first | refine avl ?_ | refine avm ?_ | refine amo ?_ | refine axh ?_ | refine go_c ?_ | refine axk ?_ | refine go_U ?_ | refine ao3 ?_ | refine asw ?_ | refine axi ?_ | refine avo ?_ | refine avq ?_ | refine avn ?_ | refine ast ?_ | refine asu ?_ | refine axj ?_ | refine asx ?_ | refine ao2 ?_ | refine asz ?_ | refine amr ?_ | refine ams ?_ | refine as4 ?_ | refine asv ?_ | refine ate ?_ | refine avv ?_ | refine avx ?_ | refine axl ?_ | refine aqf ?_ | refine ao5 ?_ | refine ab6 ?_ | refine acg ?_) | ((with_reducible refine' avp ?hv ?_); (case hv => exact rfl)) | ((with_reducible refine' ae3 ?ha ?hv ?_); (case ha => row_cond hhp); (case hv => row_cond hix)) | ((with_reducible refine go_I ?hc ?_); (case hc => row_cond ar)) | ((with_reducible refine' amq ?ha ?_); (case ha => row_cond hhp)) | ((with_reducible refine' amp ?ha ?hj ?_); (case ha => row_cond hhp); (case hj => first | exact ixN0 | exact ixN1 | exact ixN2)) | ((with_reducible refine' avz ?ha ?_); (case ha => row_cond hhp)) | ((with_reducible refine' afn ?ha ?hl ?_); (case ha => row_cond hhp); (case hl => exact adm (by simp; omega))) | ((with_reducible refine' ah2 ?hc ?_); (case hc => row_cond dc)) | ((with_reducible refine' ah3 ?hc ?_); (case hc => row_cond dc)) | dsimp only [List.set_cons_zero, List.set_cons_succ])
local macro_rules | `(tactic| row_cond hgo) => `(tactic| repeat row_cond hst)
def isInt:PyData->Bool
 | .int _=>true
 | _=>false
def btwD (a b:Int):PyData->Bool
 | .int i=>decide (a<=i/\i<=b)
 | _=>false
def auq:VP:=fun ss Q=>∃ d,ss=[.st d]/\Q (.st (.bool (isInt d)))
def apw:VP:=fun ss Q=>∃ (a b:Int) (d:PyData),ss=[.st (.int a),.st (.int b),.st d]/\Q (.st (.bool (btwD a b d)))
def aur:VP:=fun ss Q=>∃ (n:Int) (d:PyData),ss=[.st (.int n),.st d]/\Q (.st (.bool (btwD 0 (n - 1) d)))
section
variable {P:Program} {w:World} {K:Frag} {mg:Str->Option Value} {base:Heap}
theorem sc_is_whole:FnScope ["thing"] ["thing"] (aaj s_is_whole):=by row_cond sc
theorem alv (T:Txt K mg):Can P w K mg base "is_whole" 1 ["thing"] (spP K (auq)):=by
 obtain ⟨f,fd,D⟩:=T.d_is_whole
 refine D.can (D.fn.ok sc_is_whole (fun vs H Q E h=>lenP h fun ss c q=>by obtain ⟨d,rfl,k⟩:=q;rfl) (fun cdv A outer s H vs Q E j h=>?_))
 have nd:=sc_is_whole.nd
 refine ⟨_,(aaf (aas (adl (aah aeb (by rfl) T.b_isinstance acf (aaa (pv 0) (aaa (aes (v:=.ty "int") rfl T.b_int ao8 rfl) aab))) (ad5 (au8 (aah aeb (by rfl) T.b_isinstance acf (aaa (pv 0) (aaa (aes (v:=.ty "bool") rfl T.b_bool as7 rfl) aab)))))))),?_⟩
 refine abm h fun ss c q B g=>?_
 refine exS1 ss q fun d a=>?_
 have k:=a
 clear a q
 show EvS B _ _ [some (.st d)]
 row_cond go
 cases d with
 | int i => refine ab6 ?_; row_cond go; exact k
 | bool b => refine ab6 ?_; row_cond go; exact k
 | _=>refine acg ?_;exact k
theorem sc_is_between:FnScope ["least","most","thing"] ["least","most","thing"] (aaj s_is_between):=by row_cond sc
theorem ae0 (T:Txt K mg):Can P w K mg base "is_between" 2 ["least","most","thing"] (spP K (apw)):=by
 obtain ⟨f,fd,D⟩:=T.d_is_between
 refine D.can (D.fn.ok sc_is_between (fun vs H Q E h=>lenP h fun ss j q=>by obtain ⟨a,b,d,rfl,k⟩:=q;rfl) (fun cdv A outer s H vs Q E l h=>?_))
 have nd:=sc_is_between.nd
 refine ⟨_,(aaf (aas (adl (aae (alv T) l (aaa (pv 2) aab)) (ad5 (ap6 anp anp (pv 0) (pv 2) (pv 1)))))),?_⟩
 refine abm h fun ss j q B m=>?_
 refine exS3 ss q fun a b d c=>?_
 have k:=c
 clear c q
 show EvS B _ _ [some (.st (.int a)),some (.st (.int b)),some (.st d)]
 row_cond go
 refine ⟨d,rfl,?_⟩
 row_cond go
 cases d with
 | int i =>
  refine ab6 ?_
  row_cond go
  refine adn (fun g=>?_) (fun g=>?_)
  ·row_cond go
   have e:decide (i<=b)=btwD a b (.int i):=by
    show _=decide (a<=i/\i<=b)
    rw [aE8];simp [g]
   rw [e];exact k
  ·have e:false=btwD a b (.int i):=by
    show _=decide (a<=i/\i<=b)
    exact (aB4 (fun z=>g z.1)).symm
   rw [e];exact k
 | _=>exact acg k
theorem sc_is_place:FnScope ["n","thing"] ["n","thing"] (aaj s_is_place):=by row_cond sc
theorem aef (T:Txt K mg):Can P w K mg base "is_place" 3 ["n","thing"] (spP K (aur)):=by
 obtain ⟨f,fd,D⟩:=T.d_is_place
 refine D.can (D.fn.ok sc_is_place (fun vs H Q E h=>lenP h fun ss b q=>by obtain ⟨n,d,rfl,k⟩:=q;rfl) (fun cdv A outer s H vs Q E c h=>?_))
 have nd:=sc_is_place.nd
 refine ⟨_,(aaf (aas (aae (ae0 T) c (aaa aad (aaa (aau ad6 (pv 0) aad) (aaa (pv 1) aab)))))),?_⟩
 refine abm h fun ss b q B g=>?_
 refine exS2 ss q fun n d a=>?_
 have k:=a
 clear a q
 show EvS B _ _ [some (.st (.int n)),some (.st d)]
 row_cond go
 exact ⟨_,_,_,rfl,k⟩
def aw3:VP:=fun ss Q=>∃ (n:Int) (es:List (Int × Int)),ss=[.st (webD n es)]/\0<=n/\n<=100/\InN n es/\es.length<=10000/\∀ tl,TiedL n (Tied es) tl->(∀ us∈tl,us.length<=20000)->Q (.own (OLL (tlD tl)))
theorem sc_tied_places:FnScope ["web","n","ties","tied","a","b"] ["web"] (aaj s_tied_places):=by row_cond sc
theorem aer (T:Txt K mg):Can P w K mg base "tied_places" 1 ["web"] (spP K (aw3)):=by
 obtain ⟨f,fd,D⟩:=T.d_tied_places
 refine D.can (D.fn.ok sc_tied_places (fun vs H Q E h=>lenP h fun ss J q=>by obtain ⟨n,es,rfl,M,O,o,z,k⟩:=q;rfl) (fun cdv A outer s H vs Q E U h=>?_))
 have nd:=sc_tied_places.nd
 refine ⟨_,(aac (acl (pv 0) (aet rfl (aa8 (aap (i:=1) nd rfl (Or.inl rfl)) (aa8 (aap (i:=2) nd rfl (Or.inl rfl)) ac7))))
  (aac (akp (i:=3) nd rfl (Or.inl rfl) rfl (N:=["place"]) (src:=[none]) (by exact ab4 rfl rfl rfl rfl rfl rfl) (abj rfl T.b_range (aaa (pv 1) aab)) (fun _ _ _ _=>(aap (i:=0) (show List.Nodup (["place"]:List Str) by decide +kernel) rfl (Or.inl rfl) (hf:=Or.inr rfl))) (fun _ _ _ _=>acu) (fun _ _ _ _=>(aa9 aab)))
  (aac (abo aG4 rfl (abw (pv 2)) (aet rfl (aa8 (aap (i:=4) nd rfl (Or.inl rfl)) (aa8 (aap (i:=5) nd rfl (Or.inl rfl)) ac7)))
   (aac (abr (aeh PySem.F.plainAttrs_list PySem.F.slot_list_append PySem.F.type_list_append acm (aal aam (pv 3) (pv 4) (fun _ _=>rfl)) (aaa (pv 5) aab)))
    (aaf (abr (aeh PySem.F.plainAttrs_list PySem.F.slot_list_append PySem.F.type_list_append acm (aal aam (pv 3) (pv 5) (fun _ _=>rfl)) (aaa (pv 4) aab))))))
  (aaf (aas (pv 3)))))),?_⟩
 refine abm h fun ss J q B S=>?_
 refine exS2 ss q fun n es c=>?_
 have M:=c.1
 have O:=c.2.1
 have o:=c.2.2.1
 have z:=c.2.2.2.1
 have k:=c.2.2.2.2
 clear c q
 show EvS B _ _ [some (.st (webD n es)),none,none,none,none,none]
 row_cond go
 rw [aci]
 refine ⟨by omega,?_⟩
 row_cond go
 refine ac6 (fun i e=>∃ G I tl,e=[some (.st (webD n es)),some (.st (.int n)),some (.st (.list (es.map prD))),some (.own (OLL (tlD tl))),G,I]/\TiedL n (Tied (es.take i)) tl/\∀ ws∈tl,ws.length<=2 * i)
  ⟨none,none,List.replicate n.toNat [],by simp [tlD],⟨by simp;omega,fun i ws hi w=>?_⟩,fun ws R=>?_⟩ ?_ ?_
 ·rw [aE7] at hi
  split at hi
  ·cases hi;simp [Tied]
  ·cases hi
 ·have:=List.eq_of_mem_replicate R
  subst this;simp
 ·rintro i ⟨a,b⟩ e C l
  refine exS3 e l fun G I tl c=>?_
  have m:=c.1
  have j:=c.2
  clear c l
  have hi:i < es.length:=(ay1.mp C).1
  obtain ⟨a0,y,b0,x⟩:=o _ (ay2 C)
  dsimp only at a0 y b0 x
  row_cond go
  obtain ⟨ws,g,_⟩:=m.get a0 y
  have L:=j ws (ay2 g)
  refine ahk (n:=a.toNat) (ds:=ws.map .int) rfl rfl rfl (by rw [ay3];exact ahl a0 (by rw [m.1];exact y)) (af9 g) (by rw [ay3];omega) ?_
  dsimp only [List.set_cons_zero,List.set_cons_succ]
  have r:=m.put (q:=b) a0 y g
  rw [show ws.map PyData.int ++ [.int b]=(ws ++ [b]).map .int by simp,anb]
  have d:∀ us∈tl.set a.toNat (ws ++ [b]),us.length<=2 * i+1:=fun us p=>by
   rcases List.mem_or_eq_of_mem_set p with h | h
   ·have:=j us h;omega
   ·subst h;simp;omega
  generalize tl.set a.toNat (ws ++ [b])=tl2 at r d
  row_cond go
  obtain ⟨ws,g,_⟩:=r.get b0 x
  have L:=d ws (ay2 g)
  refine ahk (n:=b.toNat) (ds:=ws.map .int) rfl rfl rfl (by rw [ay3];exact ahl b0 (by rw [r.1];exact x)) (af9 g) (by rw [ay3];omega) ?_
  dsimp only [List.set_cons_zero,List.set_cons_succ]
  rw [show ws.map PyData.int ++ [.int a]=(ws ++ [a]).map .int by simp,anb]
  refine ⟨_,_,_,rfl,(r.put (q:=a) b0 x g).iff fun u v=>(Tied.snoc C u v).symm,fun us p=>?_⟩
  rcases List.mem_or_eq_of_mem_set p with h | h
  ·have:=d us h;omega
  ·subst h;simp;omega
 ·rintro e l
  refine exS3 e l fun G I tl c=>?_
  have m:=c.1
  have j:=c.2
  clear c l
  rw [aD8] at m
  row_cond go
  exact k tl m fun us p=>by have:=j us p;omega
end
@[reducible] def tlV (tl:List (List Int)):PyData:=.list ((tlD tl).map .list)
def aya:VP:=fun ss Q=>∃ (n a:Int) (T:Int->Int->Prop) (tl:List (List Int)),ss=[.st (tlV tl),.st (.int a)]/\n<=100/\TiedL n T tl/\(∀ u v,T u v->0<=v/\v < n)/\0<=a/\a < n/\Q (.own (OL (lab n.toNat (Gr.farO T a))))
section
variable {P:Program} {w:World} {K:Frag} {mg:Str->Option Value} {base:Heap}
theorem sc_far_from:FnScope ["tied","start","far","edge","beyond","place","other"] ["tied","start"] (aaj s_far_from):=by row_cond sc
theorem afv (T:Txt K mg):Can P w K mg base "far_from" 1 ["tied","start"] (spP K (aya)):=by
 obtain ⟨f,fd,D⟩:=T.d_far_from
 refine D.can (D.fn.ok sc_far_from (fun vs H Q E h=>lenP h fun ss Q' q=>by obtain ⟨n,a,T,tl,rfl,n1,Z,hT,a0,a1,k⟩:=q;rfl) (fun cdv A outer s H vs Q E hr h=>?_))
 have nd:=sc_far_from.nd
 refine ⟨_,(aac (aar (i:=2) nd rfl (Or.inl rfl) (aau avh (aa9 (aaa abn aab)) (aah abk (by rfl) T.b_len ace (aaa (pv 0) aab))))
  (aac (acl aad (aff (pv 2) (pv 1) ad8))
  (aac (aar (i:=3) nd rfl (Or.inl rfl) (aa9 (aaa (pv 1) aab)))
  (aac (aj9 aG4 (av2 (pv 3))
   (aac (aar (i:=4) nd rfl (Or.inl rfl) (aa9 aab))
    (aac (abo aG4 rfl (abw (pv 3)) (aap (i:=5) nd rfl (Or.inl rfl))
     (aaf (abo aG4 rfl (abw (aal aam (pv 0) (pv 5) (fun _ _=>rfl))) (aap (i:=6) nd rfl (Or.inl rfl))
       (aaf (aa5 (aaw ac8 (aal aam (pv 2) (pv 6) (fun _ _=>rfl)) abn (aat _))
         (aac (acl (aau aa7 (aal aam (pv 2) (pv 5) (fun _ _=>rfl)) aad) (aff (pv 2) (pv 6) ad8))
          (aaf (abr (aeh PySem.F.plainAttrs_list PySem.F.slot_list_append PySem.F.type_list_append acm (pv 4) (aaa (pv 6) aab)))))
         aaz)))))
    (aaf (aar (i:=3) nd rfl (Or.inl rfl) (pv 4))))))
  (aaf (aas (pv 2))))))),?_⟩
 refine abm h fun ss Q' q B hK=>?_
 refine exS4 ss q fun n a T tl b=>?_
 have n1:=b.1
 have Z:=b.2.1
 have hT:=b.2.2.1
 have a0:=b.2.2.2.1
 have a1:=b.2.2.2.2.1
 have k:=b.2.2.2.2.2
 clear b q
 show EvS B _ _ [some (.st (tlV tl)),some (.st (.int a)),none,none,none,none,none]
 have hl:tl.length=n.toNat:=by have:=Z.1;omega
 row_cond go
 refine at5 (by first | omega | (simp;done) | (simp;omega)) (by first | omega | (simp;done) | (simp;omega)) (by first | omega | (simp;done) | (simp;omega)) ?_
 simp only [ay3,hl]
 rw [show ((n.toNat:Nat):Int).toNat=n.toNat by omega,aue]
 row_cond go
 refine aoa (j:=a.toNat) rfl (by rw [acv];exact ahl a0 (by omega)) ?_
 dsimp only [List.set_cons_zero,List.set_cons_succ,reS]
 rw [show (PyData.int 0)=.int ((0:Nat):Int) from rfl,ana a0 (by omega)]
 row_cond go
 refine at6 3 rfl acq ?_
 dsimp only [List.set_cons_zero,List.set_cons_succ]
 refine ai0 (fun m e=>∃ v4 J y far edge r,e=[some (.st (tlV tl)),some (.st (.int a)),some (.own (OL (lab n.toNat far))),some (.st (.list (edge.map .int))),v4,J,y]/\Gr.Ring T a r far edge/\(∀ v∈edge,0<=v/\v < n)/\m=2 * cnt far n.toNat+(if edge=[] then 0 else 1))
  ⟨_,none,none,none,_,[a],0,rfl,Gr.Ring.start,fun v N=>by simp at N;subst N;exact ⟨a0,a1⟩,rfl⟩ ?_
 rintro m e l
 refine exS6 e l fun v4 J y far edge r b=>?_
 have R:=b.1
 have hb:=b.2.1
 have W:=b.2.2
 clear b l
 subst W
 row_cond go
 rw [al9]
 cases hedge:edge with
 | nil =>
  subst hedge
  refine acg ?_
  row_cond go
  rw [apj (g:=Gr.farO T a) fun v _ _=>R.fin v]
  exact k
 | cons e0 er =>
  refine ab6 ?_
  rw [← hedge]
  have a2:edge ≠ []:=by rw [hedge];simp
  row_cond go
  refine ac6 (fun i e=>∃ J y c beyond,e=[some (.st (tlV tl)),some (.st (.int a)),some (.own (OL (lab n.toNat c))),some (.st (.list (edge.map .int))),some (.own (OL (beyond.map .int))),J,y]/\Gr.Mid T r far edge (fun u=>u∈edge.take i) c beyond/\cnt c n.toNat+beyond.length=cnt far n.toNat/\∀ v∈beyond,0<=v/\v < n)
   ⟨J,y,far,[],rfl,Gr.Mid.start.imp fun u M=>by simp at M,rfl,fun v N=>by simp at N⟩ ?_ ?_
  ·rintro i p e hp l
   refine exS4 e l fun J y c beyond b=>?_
   have C:=b.1
   have G:=b.2.1
   have o:=b.2.2
   clear b l
   have I:=ay2 hp
   obtain ⟨p0,p1⟩:=hb p I
   obtain ⟨ws,Y,hw⟩:=Z.get p0 p1
   have a4:atI ((tlD tl).map PyData.list) p=some (.list (ws.map .int)):=adq (f:=PyData.list) (acb p0 (af9 Y))
   row_cond go
   have X:far p=some r:=(R.lab p r).mpr ⟨(R.edg p).mp I,ay6 _⟩
   refine ac6 (fun j e=>∃ y c beyond,e=[some (.st (tlV tl)),some (.st (.int a)),some (.own (OL (lab n.toNat c))),some (.st (.list (edge.map .int))),some (.own (OL (beyond.map .int))),some (.st (.int p)),y]/\Gr.Mid T r far edge (fun u=>u∈edge.take i) c beyond/\cnt c n.toNat+beyond.length=cnt far n.toNat/\(∀ v∈beyond,0<=v/\v < n)/\∀ x∈ws.take j,c x ≠ none)
    ⟨y,c,beyond,rfl,C,G,o,fun x L=>by simp at L⟩ ?_ ?_
   ·rintro j u e M l
    refine exS3 e l fun y c beyond b=>?_
    have C:=b.1
    have G:=b.2.1
    have o:=b.2.2.1
    have z:=b.2.2.2
    clear b l
    have tu:T p u:=(hw u).mp (ay2 M)
    obtain ⟨O,u1⟩:=hT _ _ tu
    have a5:atI (lab n.toNat c) u=some (oD (c u)):=aed O (by omega)
    have a3:atI (lab n.toNat c) p=some (.int (r:Int)):=by
     rw [aed p0 (by omega),C.old p r X];rfl
    row_cond go
    rw [aud]
    cases hf:c u with
    | none =>
     refine ab6 ?_
     row_cond go
     refine aoa (j:=u.toNat) rfl (by rw [acv];exact ahl O (by omega)) ?_
     dsimp only [List.set_cons_zero,List.set_cons_succ,reS]
     rw [show (PyData.int ((r:Int)+1))=.int ((r+1:Nat):Int) by simp,ana O (by omega)]
     have a6:=ai7 (d:=r+1) O hf (n:=n.toNat) (by omega)
     have S:beyond.length<=cnt far n.toNat:=by omega
     have U:∀ m,cnt far m<=m:=fun m=>by
      induction m with
      | zero=>exact ay6 _
      | succ m ih=>unfold cnt;split <;> omega
     have:=U n.toNat
     row_cond go
     refine ⟨some (.st (.int u)),Gr.label c u (r+1),beyond ++ [u],by simp,C.add I tu hf,by simp;omega,fun v N=>?_,fun x L=>?_⟩
     ·rcases ay7.mp N with h | h
      ·exact o v h
      ·have:v=u:=by simpa using h
       subst this;exact ⟨O,u1⟩
     ·by_cases hx2:x=u
      ·subst hx2;rw [Gr.label_same];simp
      ·rw [Gr.label_ne hx2]
       rcases ads M L with h | h
       ·exact z x h
       ·exact absurd h hx2
    | some d =>
     refine acg ?_
     row_cond go
     refine ⟨_,c,beyond,rfl,C,G,o,fun x L=>?_⟩
     rcases ads M L with h | h
     ·exact z x h
     ·subst h;rw [hf];simp
   ·rintro e l
    refine exS3 e l fun y c beyond b=>?_
    have C:=b.1
    have G:=b.2.1
    have o:=b.2.2.1
    have z:=b.2.2.2
    clear b l
    rw [aD8] at z
    refine ⟨_,_,c,beyond,rfl,?_,G,o⟩
    refine (C.did (u:=p) fun x tx=>z x ((hw x).mpr tx)).imp fun x L=>?_
    exact ads hp L
  ·rintro e l
   refine exS4 e l fun J y c beyond b=>?_
   have C:=b.1
   have G:=b.2.1
   have o:=b.2.2
   clear b l
   row_cond go
   refine ⟨_,?_,_,_,_,c,beyond,r+1,rfl,R.next C fun u M=>by rw [aD8];exact M,o,rfl⟩
   rw [aC6 a2]
   cases beyond with
   | nil=>rw [aC5 rfl];simp at G;omega
   | cons b0 br=>rw [aC6 (by simp)];simp at G;omega
end
def amc:VP:=fun ss Q=>∃ (n a:Int) (es:List (Int × Int)),ss=[.st (webD n es),.st (.int a)]/\0<=a/\a < n/\Q (.st .none)
def arq:VP:=fun ss Q=>∃ (n a:Int) (es:List (Int × Int)),ss=[.st (webD n es),.st (.int a)]/\n<=100/\InN n es/\es.length<=10000/\0<=a/\a < n/\Q (.own (OL (lab n.toNat (Gr.farO (Tied es) a))))
def ars:VP:=fun ss Q=>∃ (n a b:Int) (es:List (Int × Int)),ss=[.st (webD n es),.st (.int a),.st (.int b)]/\n<=100/\InN n es/\es.length<=10000/\0<=a/\a < n/\0<=b/\b < n/\Q (.st (oD (Gr.farO (Tied es) a b)))
def art:VP:=fun ss Q=>∃ (n:Int) (es:List (Int × Int)),ss=[.st (webD n es)]/\1<=n/\n<=100/\InN n es/\es.length<=10000/\∀ b:Bool,(b=true ↔ Joined n es)->Q (.st (.bool b))
section
variable {P:Program} {w:World} {K:Frag} {mg:Str->Option Value} {base:Heap}
theorem sc_need_place:FnScope ["web","thing"] ["web","thing"] (aaj s_need_place):=by row_cond sc
theorem ab7 (T:Txt K mg):Can P w K mg base "need_place" 4 ["web","thing"] (spP K (amc)):=by
 obtain ⟨f,fd,D⟩:=T.d_need_place
 refine D.can (D.fn.ok sc_need_place (fun vs H Q E h=>lenP h fun ss c q=>by obtain ⟨n,a,es,rfl,a0,d,k⟩:=q;rfl) (fun cdv A outer s H vs Q E g h=>?_))
 have nd:=sc_need_place.nd
 refine ⟨_,(aaf (aa5 (adk (adj (aae (aef T) g (aaa (aal aam (pv 0) aad (fun _ _=>rfl)) (aaa (pv 1) aab)))))
   (aaf ap5)
   aaz)),?_⟩
 refine abm h fun ss c q B i=>?_
 refine exS3 ss q fun n a es b=>?_
 have a0:=b.1
 have d:=b.2.1
 have k:=b.2.2
 clear b q
 show EvS B _ _ [some (.st (webD n es)),some (.st (.int a))]
 row_cond go
 refine ⟨_,_,rfl,?_⟩
 row_cond go
 have e:btwD 0 (n - 1) (.int a)=true:=aB5 ⟨a0,by omega⟩
 rw [e]
 row_cond go
 exact k
theorem sc_all_far:FnScope ["web","a"] ["web","a"] (aaj s_all_far):=by row_cond sc
theorem adi (T:Txt K mg):Can P w K mg base "all_far" 5 ["web","a"] (spP K (arq)):=by
 obtain ⟨f,fd,D⟩:=T.d_all_far
 refine D.can (D.fn.ok sc_all_far (fun vs H Q E h=>lenP h fun ss l q=>by obtain ⟨n,a,es,rfl,g,c,d,a0,i,k⟩:=q;rfl) (fun cdv A outer s H vs Q E j h=>?_))
 have nd:=sc_all_far.nd
 refine ⟨_,(aac (abr (aae (ab7 T) j (aaa (pv 0) (aaa (pv 1) aab))))
  (aaf (aas (aae (afv T) j (aaa (aae (aer T) j (aaa (pv 0) aab)) (aaa (pv 1) aab)))))),?_⟩
 refine abm h fun ss l q B o=>?_
 refine exS3 ss q fun n a es b=>?_
 have g:=b.1
 have c:=b.2.1
 have d:=b.2.2.1
 have a0:=b.2.2.2.1
 have i:=b.2.2.2.2.1
 have k:=b.2.2.2.2.2
 clear b q
 show EvS B _ _ [some (.st (webD n es)),some (.st (.int a))]
 row_cond go
 refine ⟨n,a,es,rfl,a0,i,?_⟩
 row_cond go
 refine ⟨n,es,rfl,by omega,g,c,d,fun tl m _=>?_⟩
 refine aww ?_
 row_cond go
 exact ⟨n,a,Tied es,tl,rfl,g,m,fun u v h=>(h.in c).2,a0,i,k⟩
theorem sc_how_far:FnScope ["web","a","b"] ["web","a","b"] (aaj s_how_far):=by row_cond sc
theorem aa1 (T:Txt K mg):Can P w K mg base "how_far" 6 ["web","a","b"] (spP K (ars)):=by
 obtain ⟨f,fd,D⟩:=T.d_how_far
 refine D.can (D.fn.ok sc_how_far (fun vs H Q E h=>lenP h fun ss o q=>by obtain ⟨n,a,b,es,rfl,m,d,g,a0,i,b0,l,k⟩:=q;rfl) (fun cdv A outer s H vs Q E j h=>?_))
 have nd:=sc_how_far.nd
 refine ⟨_,(aac (abr (aae (ab7 T) j (aaa (pv 0) (aaa (pv 1) aab))))
  (aac (abr (aae (ab7 T) j (aaa (pv 0) (aaa (pv 2) aab))))
  (aaf (aas (aal aam (aae (adi T) j (aaa (pv 0) (aaa (pv 1) aab))) (pv 2) (fun _ _=>rfl)))))),?_⟩
 refine abm h fun ss o q B r=>?_
 refine exS4 ss q fun n a b es c=>?_
 have m:=c.1
 have d:=c.2.1
 have g:=c.2.2.1
 have a0:=c.2.2.2.1
 have i:=c.2.2.2.2.1
 have b0:=c.2.2.2.2.2.1
 have l:=c.2.2.2.2.2.2.1
 have k:=c.2.2.2.2.2.2.2
 clear c q
 show EvS B _ _ [some (.st (webD n es)),some (.st (.int a)),some (.st (.int b))]
 row_cond go
 refine ⟨n,a,es,rfl,a0,i,?_⟩
 row_cond go
 refine ⟨n,b,es,rfl,b0,l,?_⟩
 row_cond go
 refine ⟨n,a,es,rfl,m,d,g,a0,i,?_⟩
 have p:atI (lab n.toNat (Gr.farO (Tied es) a)) b=some (oD (Gr.farO (Tied es) a b)):=aed b0 (by omega)
 row_cond go
 exact k
theorem sc_is_joined:FnScope ["web"] ["web"] (aaj s_is_joined):=by row_cond sc
theorem adt (T:Txt K mg):Can P w K mg base "is_joined" 6 ["web"] (spP K (art)):=by
 obtain ⟨f,fd,D⟩:=T.d_is_joined
 refine D.can (D.fn.ok sc_is_joined (fun vs H Q E h=>lenP h fun ss j q=>by obtain ⟨n,es,rfl,l,g,b,c,k⟩:=q;rfl) (fun cdv A outer s H vs Q E i h=>?_))
 have nd:=sc_is_joined.nd
 refine ⟨_,(aaf (aas (abe (aem i.units) abn (aae (adi T) i (aaa (pv 0) (aaa aad aab))) rfl))),?_⟩
 refine abm h fun ss j q B o=>?_
 refine exS2 ss q fun n es a=>?_
 have l:=a.1
 have g:=a.2.1
 have b:=a.2.2.1
 have c:=a.2.2.2.1
 have k:=a.2.2.2.2
 clear a q
 show EvS B _ _ [some (.st (webD n es))]
 row_cond go
 refine ⟨n,0,es,rfl,g,b,c,by omega,by omega,?_⟩
 row_cond go
 refine ad0 rfl adr (by simp [PyData.depth]) ?_
 row_cond go
 refine k _ ?_
 rw [aC5 rfl,Bool.not_eq_true',← Bool.not_eq_true,anc]
 constructor
 ·intro h v v0 m
  cases e:Gr.farO (Tied es) 0 v with
  | some d=>exact ⟨d,Gr.farO_some.mp e⟩
  | none=>exact absurd ⟨v,v0,by omega,e⟩ h
 ·rintro h ⟨v,v0,m,e⟩
  obtain ⟨d,hd⟩:=h v v0 (by omega)
  exact Gr.farO_none.mp e d hd
end
theorem agz {α:Type} {K:Frag} {src:List (Option Nat)} {a:En} {te:TE} {R:List PyData->En->Prop} {xs:List α} {f : α->PyData} (g : α->PyData) (l:noIo (aav src a)=true) (z:xs.length<=999999)
  (h:∀ x∈xs,∀ c:Bs,c.K=K->Ev c te (some (.st (f x)) :: aav src a) fun y j=>y=g x/\j=some (.st (f x)) :: aav src a)
  (n:R (xs.map g) a):LcV K (none :: src) (aa6 0) tYes te (xs.map f) a R:=by
 have b:noIo (aav (none :: src) a)=true:=by
  show ((none :: aav src a).all fun s => !isIo s)=true
  rw [List.all_cons]
  exact (aE1 _ _).mpr ⟨rfl,l⟩
 refine ⟨fun i ys e=>ys=(xs.take i).map g/\∃ o,e=stO o :: aav src a,⟨by simp,none,rfl⟩,?_,?_,?_⟩
 ·rintro i ys e ⟨_,o,rfl⟩
  exact ⟨⟨isIo_stO.symm,ac9⟩,adp adh⟩
 ·rintro i d ys e hd ⟨rfl,o,rfl⟩ c w
  rw [ay5] at hd
  cases hx:xs[i]? with
  | none=>rw [hx] at hd;cases hd
  | some x =>
   rw [hx] at hd
   cases hd
   have hi:i < xs.length:=(ay1.mp hx).1
   have u:xs.take (i+1)=xs.take i ++ [x]:=by rw [aE4,hx];rfl
   refine aa3 (aex ?_)
   rw [aC5 rfl]
   intro σ G H F Q I k
   refine h x (ay2 hx) c w σ G H F Q I fun v G' H' F' d' j r g' q ⟨p,m⟩=>k v G' H' F' d' j r g' q ?_
   subst p m
   refine ⟨by simp;omega,by rw [u];simp,some _,rfl⟩
 ·rintro ys e ⟨rfl,o,rfl⟩
  rw [af7 b]
  simpa using n
structure Dk (H:Hp) (d p:Addr) (i:Int) (qs:List Addr):Prop where
 dd:H d=some (.lst [.ref p,.int i])
 pp:H p=some (.lst (qs.map V.ref))
 ne:qs ≠ []
 le:qs.length<=63
 dp:d ≠ p
 dq:d ∉ qs
 pq:p ∉ qs
 ql:∀ q∈qs,∃ c f k:Int,H q=some (.lst [.int c,.int f,.int k])
def anh:Sp:=fun vs H Q _=>∃ (d p:Addr) (i many:Int) (qs:List Addr),vs=[.ref d,.int many]/\Dk H d p i qs/\0 < many/\many < 1073741824 /\
 ∀ (r:Int) (H':Hp) (i':Int),0<=r->r < many->Dk H' d p i' qs->(∀ a,a ≠ d->a ∉ qs->H' a=H a)->Q (.int r) H'
theorem Dk.pick {H:Hp} {d p:Addr} {i:Int} {qs:List Addr} (h:Dk H d p i qs) (j:Int):∃ q,q∈qs/\atI (qs.map V.ref) (j % ((qs.map V.ref).length:Int))=some (.ref q):=by
 have c:0 < qs.length:=aC9.mpr h.ne
 have a:=Int.emod_nonneg j (show ((qs.map V.ref).length:Int) ≠ 0 by rw [ay3];omega)
 have b:=aC0 j (show (0:Int) < ((qs.map V.ref).length:Int) by rw [ay3];omega)
 generalize j % ((qs.map V.ref).length:Int)=m at a b
 have hm:m.toNat < qs.length:=by rw [ay3] at b;omega
 exact ⟨qs[m.toNat],List.getElem_mem _,acb a (by rw [ay5,ay0 hm];rfl)⟩
theorem Dk.put {H:Hp} {d p q:Addr} {i b:Int} {qs:List Addr} (h:Dk H d p i qs) (a:q∈qs) (c f k:Int):Dk (upd (upd H d (.lst [.ref p,.int b])) q (.lst [.int c,.int f,.int k])) d p b qs:=by
 have j:d ≠ q:=fun e=>h.dq (e ▸ a)
 have g:p ≠ q:=fun e=>h.pq (e ▸ a)
 refine ⟨by rw [aag j,aai],by rw [aag g,aag h.dp.symm];exact h.pp,h.ne,h.le,h.dp,h.dq,h.pq,fun z hz=>?_⟩
 by_cases e:z=q
 ·subst e;exact ⟨c,f,k,aai⟩
 ·rw [aag e,aag (show z ≠ d from fun e=>h.dq (e ▸ hz))];exact h.ql z hz
def ODk:Own where
 P:=fun _ H v F=>∃ d p i qs,v=.ref d/\Dk H d p i qs/\∀ b,F b ↔ b=d\/b=p\/b∈qs
 mono:=fun ⟨d,p,i,qs,e,h,f⟩ _ hh=>⟨d,p,i,qs,e,⟨hh d _ ((f d).mpr (.inl rfl)) h.dd,hh p _ ((f p).mpr (.inr (.inl rfl))) h.pp,h.ne,h.le,h.dp,h.dq,h.pq,fun q hq=>by
  obtain ⟨c,g,k,e⟩:=h.ql q hq
  exact ⟨c,g,k,hh q _ ((f q).mpr (.inr (.inr hq))) e⟩⟩,f⟩
 dom:=fun ⟨d,p,i,qs,e,h,f⟩ b z=>by
  rcases (f b).mp z with rfl | rfl | z
  ·exact ⟨_,h.dd⟩
  ·exact ⟨_,h.pp⟩
  ·obtain ⟨c,g,k,e⟩:=h.ql b z
   exact ⟨_,e⟩
theorem aus {P:Program} {w:World} {K:Frag} {mg:Str->Option Value} {base:Heap} {x:Str} {k:Nat} {ps:List Str} {sp a:Sp} (c:Can P w K mg base x k ps sp) (h:∀ vs H Q E,a vs H Q E->sp vs H Q E):Can P w K mg base x k ps a:=by
 obtain ⟨f,fd,ok,m,kp,b⟩:=c
 exact ⟨f,fd,ok.imp h,m,kp,b⟩
def apx:VIo:=fun A ss Q=>∃ many:Int,A=ODk/\ss=[.st (.int many)]/\0 < many/\many < 1073741824/\∀ r:Int,0<=r->r < many->Q ODk (.st (.int r))
theorem aut {K:Frag} {vs:List V} {H:Hp} {Q:VK} {E:XK} (h:spI K apx vs H Q E):anh vs H Q E:=by
 obtain ⟨v0,D,G,R,A,ss,F0,C,rfl,gh,ft,n,ap,fg,fr,q,⟨many,rfl,rfl,m,u,k⟩,s⟩:=h
 obtain ⟨d,p,i,qs,rfl,w,j⟩:=ap
 cases q with
 | cons ha hr =>
  cases hr
  cases (show Rp G _ (.int many) from ha)
  refine ⟨d,p,i,many,qs,rfl,w,m,u,fun r H' B l v b x=>s ODk _ (k r l v) _ G H' F0 (fun _=>False) ?_⟩
  have out:∀ a,¬ F0 a->H' a=H a:=fun a z=>x a (fun e=>z ((j a).mpr (.inl e))) (fun e=>z ((j a).mpr (.inr (.inr e))))
  have g:∀ a,F0 a->(∃ o,H' a=some o)/\∀ xs,H' a ≠ some (.tup xs):=fun a z=>by
   rcases (j a).mp z with rfl | rfl | z
   ·rw [b.dd];exact ⟨⟨_,rfl⟩,fun xs e=>by cases e⟩
   ·rw [b.pp];exact ⟨⟨_,rfl⟩,fun xs e=>by cases e⟩
   ·obtain ⟨c,f,F,e⟩:=b.ql a z
    rw [e];exact ⟨⟨_,rfl⟩,fun xs e=>by cases e⟩
  refine ⟨Same.refl _,fun a o e=>?_,fun a y e=>?_,fun a o e => .inl e,fun a o e=>?_,fun a o e=>?_,⟨d,p,B,qs,rfl,b,j⟩,fun a z => .inl z,fg,⟨.int _,fun a z=>z⟩,fun a z=>z.elim⟩
  ·rw [out a fun z=>by rw [fg a z] at e;cases e];exact gh a o e
  ·by_cases z:F0 a
   ·exact absurd e ((g a z).2 _)
   ·rw [out a z] at e;exact ft a y e
  ·rw [out a fun z=>by rw [fr a z] at e;cases e];exact n a o e
  ·by_cases z:F0 a
   ·exact (g a z).1
   ·rw [out a z];exact ⟨o,e⟩
def apy:VP:=fun ss Q=>∃ ns:List Int,ss=[.scr ns]/\ns.length<=63/\Q (.own ODk)
theorem ani {K:Frag} {vs:List V} {H:Hp} {Q:VK} {E:XK} (h:spP K apy vs H Q E):∃ (a:Addr) (ns:List Int),vs=[.ref a]/\SqL K H a (ns.map V.int)/\ns.length<=63 /\
  ∀ (d p:Addr) (i:Int) (qs:List Addr) (H':Hp),Dk H' d p i qs->(∀ b,b=d\/b=p\/b∈qs->H b=none)->(∀ b,b ≠ d->b ≠ p->b ∉ qs->H' b=H b)->Q (.ref d) H':=by
 obtain ⟨G,ss,u,gh,ft,n,⟨ns,rfl,hn,k⟩,q⟩:=h
 cases n with
 | cons ha hr =>
  cases hr
  obtain ⟨a,rfl,r⟩:=(show ∃ a,_=V.ref a/\SqL K G a (ns.map V.int) from ha)
  refine ⟨a,ns,rfl,gh.seq r,hn,fun d p i qs H' l j m=>q _ k _ G H' (fun b=>b=d\/b=p\/b∈qs) ?_⟩
  have hh:Same H H':=fun a o e=>by
   rw [m a (fun z=>by rw [j a (.inl z)] at e;cases e) (fun z=>by rw [j a (.inr (.inl z))] at e;cases e) (fun z=>by rw [j a (.inr (.inr z))] at e;cases e)];exact e
  have g:∀ a,a=d\/a=p\/a∈qs->(∃ o,H' a=some o)/\∀ xs,H' a ≠ some (.tup xs):=fun a z=>by
   rcases z with rfl | rfl | z
   ·rw [l.dd];exact ⟨⟨_,rfl⟩,fun xs e=>by cases e⟩
   ·rw [l.pp];exact ⟨⟨_,rfl⟩,fun xs e=>by cases e⟩
   ·obtain ⟨c,f,v,e⟩:=l.ql a z
    rw [e];exact ⟨⟨_,rfl⟩,fun xs e=>by cases e⟩
  refine ⟨Same.refl _,gh.trans hh,hh,fun a o e => .inl e,j,fun a z=>?_,fun a z=>(g a z).1,⟨d,p,i,qs,rfl,l,fun b=>Iff.rfl⟩,fun _ a s e=>?_⟩
  ·cases e:G a with
   | none=>rfl
   | some o=>have:=gh a o e;rw [j a z] at this;cases this
  ·by_cases z:a=d\/a=p\/a∈qs
   ·exact absurd e ((g a z).2 _)
   ·rw [m a (fun y=>z (.inl y)) (fun y=>z (.inr (.inl y))) (fun y=>z (.inr (.inr y)))] at e;exact ft a s e
section
variable {P:Program} {w:World} {K:Frag} {mg:Str->Option Value} {base:Heap}
theorem sc_law_draw:FnScope ["deck","many","pool","found","number"] ["deck","many"] (aaj s_law_draw):=by row_cond sc
theorem afc (T:Txt K mg):Can P w K mg base "_law_draw" 1 ["deck","many"] anh:=by
 obtain ⟨f,fd,D⟩:=T.d_law_draw
 refine D.can (D.fn.ok sc_law_draw (fun vs H Q E h=>by obtain ⟨d,p,i,many,qs,rfl,b,j,r,k⟩:=h;rfl) (fun cdv A outer s H vs Q E C h=>?_))
 obtain ⟨d,p,i,many,qs,rfl,b,j,r,k⟩:=h
 have nd:=sc_law_draw.nd
 refine ⟨_,(aac (aar (i:=2) nd rfl (Or.inl rfl) (aal aam (aal aam (pv 0) aad (fun _ _=>rfl)) (aau ad7 (aal aam (pv 0) aad (fun _ _=>rfl)) (aah abk (by rfl) T.b_len ace (aaa (aal aam (pv 0) aad (fun _ _=>rfl)) aab))) (fun _ _=>rfl)))
  (aac (acl (aau aa7 (aal aam (pv 0) aad (fun _ _=>rfl)) aad) (aff (pv 0) aad ad8))
  (aac (aa5 (PW.pt (aj8 (aaw ag2 (aal aam (pv 2) aad (fun _ _=>rfl)) aad (aat _)) (ahu (aaw anq (aal aam (pv 2) aad (fun _ _=>rfl)) aad (aat _)))))
   (aac (aar (i:=3) nd rfl (Or.inl rfl) (aau ad7 (aal aam (pv 2) aad (fun _ _=>rfl)) (pv 1)))
    (aac (acl (aau ahv (aal aam (pv 2) aad (fun _ _=>rfl)) (pv 1)) (aff (pv 2) aad ad8))
    (aaf (aas (pv 3)))))
   aaz)
  (aac (acl (aau aa7 (aal aam (pv 2) aad (fun _ _=>rfl)) aad) (aff (pv 2) aad ad8))
  (aac (aar (i:=4) nd rfl (Or.inl rfl) (aau ad7 (aau aa7 (aau ad7 (aal aam (pv 2) aad (fun _ _=>rfl)) aad) (aau afh aad (aal aam (pv 2) aad (fun _ _=>rfl)))) aad))
  (aac (aar (i:=4) nd rfl (Or.inl rfl) (aau ad7 (aau afh (pv 4) (pv 4)) aad))
  (aac (aar (i:=4) nd rfl (Or.inl rfl) (aau ad7 (aau afh (pv 4) (aau aa7 (pv 4) aad)) aad))
  (aaf (aas (aau ad7 (aau ahv (pv 4) aad) (pv 1))))))))))),?_⟩
 show (_:TS) _ [some (.ref d),some (.int many),none,none,none] H
 obtain ⟨q,g,y⟩:=b.pick i
 obtain ⟨c,f,B,m⟩:=b.ql q g
 have l:=b.dd
 have o:=b.pp
 have v:(0:Int) < ((qs.map V.ref).length:Int):=by have:=aC9.mpr b.ne;rw [ay3];omega
 have z:q ≠ d:=fun e=>b.dq (e ▸ g)
 have fin:∀ (c f k:Int) (a:Addr),a ≠ d->a ∉ qs->upd (upd H d (.lst [.ref p,.int (i+1)])) q (.lst [.int c,.int f,.int k]) a=H a:=fun c f k a u x=>by
  rw [aag (show a ≠ q from fun e=>x (e ▸ g)),aag u]
 row_cond hgo
 refine adn (fun hf=>?_) (fun hf=>?_)
 ·row_cond hgo
  refine adn (fun n=>?_) (fun n=>?_)
  ·row_cond hgo
   exact k _ _ (i+1) (Int.emod_nonneg _ (by omega)) (aC0 _ j) (b.put g _ _ _) (fin _ _ _)
  ·row_cond hgo
   exact k _ _ (i+1) (Int.emod_nonneg _ (by omega)) (aC0 _ j) (b.put g _ _ _) (fin _ _ _)
 ·row_cond hgo
  exact k _ _ (i+1) (Int.emod_nonneg _ (by omega)) (aC0 _ j) (b.put g _ _ _) (fin _ _ _)
theorem aak (T:Txt K mg):Can P w K mg base "_law_draw" 1 ["deck","many"] (spI K apx):=aus (afc T) fun _ _ _ _ h=>aut h
theorem sc_law_deck:FnScope ["script","pools","k","cell"] ["script"] (aaj s_law_deck):=by row_cond sc
theorem alw (T:Txt K mg):Can P w K mg base "_law_deck" 1 ["script"] (spP K apy):=by
 obtain ⟨f,fd,D⟩:=T.d_law_deck
 refine D.can (D.fn.ok sc_law_deck (fun vs H Q E h=>by obtain ⟨a,ns,rfl,I,hn,k⟩:=ani h;rfl) (fun cdv A outer s H vs Q E hr h=>?_))
 obtain ⟨a,ns,rfl,I,hn,k⟩:=ani h
 have nd:=sc_law_deck.nd
 refine ⟨_,(aac (aar (i:=1) nd rfl (Or.inl rfl) (aa9 aab))
  (aac (abo aG4 rfl (abj rfl T.b_range (aaa (aah (abz rfl) (by rfl) T.b_max ada (aaa aad (aaa (aah (ab0 rfl) (by rfl) T.b_min acx (aaa aad (aaa (aah abk (by rfl) T.b_len ace (aaa (pv 0) aab)) aab))) aab))) aab)) (aap (i:=2) nd rfl (Or.inl rfl))
   (aac (aar (i:=3) nd rfl (Or.inl rfl) aad)
    (aac (aa5 (aaw ar4 (pv 2) (aah abk (by rfl) T.b_len ace (aaa (pv 0) aab)) (aat _))
     (aaf (aar (i:=3) nd rfl (Or.inl rfl) (aal aam (pv 0) (pv 2) (fun _ _=>rfl))))
     aaz)
    (aaf (abr (aeh PySem.F.plainAttrs_list PySem.F.slot_list_append PySem.F.type_list_append acm (pv 1) (aaa (aa9 (aaa (pv 3) (aaa (aow anz (by rfl) T.b_int ao8 (aaa (abe axd (pv 3) (atd (n:=1000000000000000000) (by decide) (by refine ⟨by decide,by decide,by decide⟩)) (aat _)) aab)) (aaa (aau afh aad (pv 2)) aab)))) aab)))))))
  (aaf (aas (aa9 (aaa (pv 1) (aaa aad aab))))))),?_⟩
 show (_:TS) _ [some (.ref a),none,none,none] H
 row_cond hgo
 refine ⟨by show 0<=sizeLine;decide,fun p G=>?_⟩
 row_cond hgo
 refine amu ((acp G).seq I) ?_
 rw [ay3]
 row_cond hgo
 refine amt (by split <;> split <;> omega) (by split <;> split <;> omega) ?_
 refine aoo (fun i σ H2=>∃ (u r:Option V) (qs:List Addr),σ=[some (.ref a),some (.ref p),u,r]/\H2 p=some (.lst (qs.map V.ref))/\qs.length=i/\p ∉ qs/\(∀ q∈qs,H q=none/\∃ c f k:Int,H2 q=some (.lst [.int c,.int f,.int k]))/\∀ b,b ≠ p->b ∉ qs->H2 b=H b)
  ⟨_,_,[],rfl,aai,rfl,by simp,(fun q m=>nomatch m),fun b hb _=>aag hb⟩ ?_ ?_
 ·rintro i σ H2 hi ⟨u,r,qs,rfl,j,B,pq,m,x⟩
  have S:i < 63:=by
   revert hi
   split <;> split <;> omega
  have s2:Same H H2:=fun b o e=>by
   rw [x b (fun z=>by rw [z,G] at e;cases e) (fun z=>by rw [(m b z).1] at e;cases e)];exact e
  have fin:∀ (c f k:Int) (q:Addr) (u r:Option V),H2 q=none->∃ (L R:Option V) (l:List Addr),[some (V.ref a),some (.ref p),u,r]=[some (.ref a),some (.ref p),L,R]/\upd (upd H2 q (.lst [.int c,.int f,.int k])) p (.lst (qs.map V.ref ++ [.ref q])) p=some (.lst (l.map V.ref))/\l.length=i+1/\p ∉ l/\(∀ z∈l,H z=none/\∃ U Y k':Int,upd (upd H2 q (.lst [.int c,.int f,.int k])) p (.lst (qs.map V.ref ++ [.ref q])) z=some (.lst [.int U,.int Y,.int k']))/\∀ b,b ≠ p->b ∉ l->upd (upd H2 q (.lst [.int c,.int f,.int k])) p (.lst (qs.map V.ref ++ [.ref q])) b=H b:=fun c f k q u r g=>by
   have C:q ≠ p:=fun e=>by rw [e,j] at g;cases g
   have N:H q=none:=by
    cases e:H q with
    | none=>rfl
    | some o=>rw [s2 q o e] at g;cases g
   refine ⟨u,r,qs ++ [q],rfl,by rw [aai,aB8];rfl,by simp [B],fun z=>?_,fun z hz=>?_,fun b hb v=>?_⟩
   ·rcases ay7.mp z with z | z
    ·exact pq z
    ·exact C (aA1.mp z).symm
   ·have zp:z ≠ p:=fun e=>by
     subst e
     rcases ay7.mp hz with z | z
     ·exact pq z
     ·exact C (aA1.mp z).symm
    rw [aag zp]
    by_cases zq:z=q
    ·subst zq;exact ⟨N,c,f,k,aai⟩
    ·rw [aag zq]
     exact m z ((ay7.mp hz).resolve_right fun y=>zq (aA1.mp y))
   ·rw [aag hb,aag (show b ≠ q from fun e=>v (ay7.mpr (.inr (aA1.mpr e))))]
    exact x b hb fun z=>v (ay7.mpr (.inl z))
  row_cond hgo
  refine amu (s2.seq I) ?_
  rw [ay3]
  row_cond hgo
  refine adn (fun hk=>?_) (fun hk=>?_)
  ·have M:i < ns.length:=by omega
   have O:atI (ns.map V.int) (0+(i:Int))=some (.int ns[i]):=acb (by omega) (by rw [ay5,show (0+(i:Int)).toNat=i by omega,ay0 M];rfl)
   row_cond hgo
   refine aqp (s2.seq I) O ?_
   row_cond hgo
   refine ⟨by show 3<=sizeLine;decide,fun q g=>?_⟩
   have C:p ≠ q:=fun e=>by rw [← e,j] at g;cases g
   row_cond hgo
   exact fin _ _ _ q _ _ g
  ·row_cond hgo
   refine ⟨by show 3<=sizeLine;decide,fun q g=>?_⟩
   have C:p ≠ q:=fun e=>by rw [← e,j] at g;cases g
   row_cond hgo
   exact fin _ _ _ q _ _ g
 ·rintro σ H2 ⟨u,r,qs,rfl,j,B,pq,m,x⟩
  have s2:Same H H2:=fun b o e=>by
   rw [x b (fun z=>by rw [z,G] at e;cases e) (fun z=>by rw [(m b z).1] at e;cases e)];exact e
  row_cond hgo
  refine ⟨by show 2<=sizeLine;decide,fun d hd=>?_⟩
  have dp:d ≠ p:=fun e=>by rw [e,j] at hd;cases hd
  have dq:d ∉ qs:=fun z=>by obtain ⟨_,c,f,k,e⟩:=m d z;rw [e] at hd;cases hd
  have J:H d=none:=by
   cases e:H d with
   | none=>rfl
   | some o=>rw [s2 d o e] at hd;cases hd
  refine k d p 0 qs _ ⟨aai,by rw [aag dp.symm];exact j,?_,?_,dp,dq,pq,fun q z=>?_⟩ ?_ ?_
  ·intro e
   rw [e] at B
   revert B
   simp only [aF7]
   split <;> split <;> omega
  ·rw [B]
   split <;> split <;> omega
  ·rw [aag (show q ≠ d from fun e=>dq (e ▸ z))];exact (m q z).2
  ·rintro b (rfl | rfl | z)
   ·exact J
   ·exact G
   ·exact (m b z).1
  ·intro b X W Z
   rw [aag X];exact x b W Z
end
theorem afw {α β:Type} (f : α->β):∀ (l:List α) (k:Nat),(l.map f).eraseIdx k=(l.eraseIdx k).map f
 | [],_=>rfl
 | _ :: _,0=>rfl
 | a :: l,k+1=>by simp [afw f l k]
theorem aw4 {j:Int} {n:Nat} (b:0<=j) (a:j < n):seqIndex? j n=some j.toNat:=by unfold seqIndex?;simp;omega
theorem Dk.frame {H H':Hp} {d p:Addr} {i:Int} {qs:List Addr} (h:Dk H d p i qs) (e:∀ a,a=d\/a=p\/a∈qs->H' a=H a):Dk H' d p i qs :=
 ⟨(e d (.inl rfl)).trans h.dd,(e p (.inr (.inl rfl))).trans h.pp,h.ne,h.le,h.dp,h.dq,h.pq,fun q b=>by rw [e q (.inr (.inr b))];exact h.ql q b⟩
def alx:VIo:=fun A ss Q=>∃ n:Int,A=ODk/\ss=[.st (.int n)]/\0<=n/\n<=61/\∀ row:List Int,Order n row->Q ODk (.own (OL (row.map .int)))
theorem aly {K:Frag} {vs:List V} {H:Hp} {Q:VK} {E:XK} (h:spI K alx vs H Q E):∃ (d p:Addr) (i n:Int) (qs:List Addr),vs=[.ref d,.int n]/\Dk H d p i qs/\0<=n/\n<=61 /\
  ∀ (g:List Int) (l:Addr) (H':Hp) (u:Int),Order n g->Dk H' d p u qs->H l=none->H' l=some (.lst (g.map V.int))->(∀ a o,a ≠ d->a ∉ qs->H a=some o->H' a=some o)->(∀ a xs,H' a=some (.tup xs)->H a=some (.tup xs))->Q (.ref l) H':=by
 obtain ⟨v0,N,G,R,A,ss,F0,M,rfl,gh,ft,y,ap,fg,fr,C,⟨n,rfl,rfl,v,F,k⟩,D⟩:=h
 obtain ⟨d,p,i,qs,rfl,s,r⟩:=ap
 cases C with
 | cons ha hr =>
  cases hr
  cases (show Rp G _ (.int n) from ha)
  refine ⟨d,p,i,n,qs,rfl,s,v,F,fun g l H' u x j m q I w=>D ODk _ (k g x) _ G H' F0 (fun b=>b=l) ?_⟩
  have out:∀ a o,¬ F0 a->H a=some o->H' a=some o:=fun a o z=>I a o (fun e=>z ((r a).mpr (.inl e))) (fun e=>z ((r a).mpr (.inr (.inr e))))
  have B:G l=none:=by
   cases e:G l with
   | none=>rfl
   | some o=>rw [gh l o e] at m;cases m
  refine ⟨Same.refl _,fun a o e=>?_,fun a J e=>?_,fun a o e => .inl e,fun a o e=>?_,fun a o e=>?_,⟨d,p,u,qs,rfl,j,r⟩,fun a z => .inl z,fg,⟨l,g.map V.int,rfl,q,Rps.ints g,fun b=>Iff.rfl⟩,fun a z=>?_⟩
  ·exact out a o (fun z=>by rw [fg a z] at e;cases e) (gh a o e)
  ·exact ft a J (w a _ e)
  ·exact out a o (fun z=>by rw [fr a z] at e;cases e) (y a o e)
  ·by_cases z:F0 a
   ·rcases (r a).mp z with rfl | rfl | z
    ·exact ⟨_,j.dd⟩
    ·exact ⟨_,j.pp⟩
    ·obtain ⟨c,f,L,e⟩:=j.ql a z
     exact ⟨_,e⟩
   ·exact ⟨o,out a o z e⟩
  ·subst z
   refine ⟨m,B,⟨_,q⟩,fun z=>?_⟩
   rcases (r a).mp z with rfl | rfl | z
   ·rw [s.dd] at m;cases m
   ·rw [s.pp] at m;cases m
   ·obtain ⟨c,f,L,e⟩:=s.ql a z
    rw [e] at m;cases m
section
variable {P:Program} {w:World} {K:Frag} {mg:Str->Option Value} {base:Heap}
theorem sc_law_order:FnScope ["deck","n","left"] ["deck","n"] (aaj s_law_order):=by row_cond sc
theorem adu (T:Txt K mg):Can P w K mg base "_law_order" 2 ["deck","n"] (spI K alx):=by
 obtain ⟨f,fd,D⟩:=T.d_law_order
 refine D.can (D.fn.ok sc_law_order (fun vs H Q E h=>by obtain ⟨d,p,i,n,qs,rfl,O,h1,h2,k⟩:=aly h;rfl) (fun cdv A outer s H vs Q E hr h=>?_))
 obtain ⟨d,p,i,n,qs,rfl,O,h1,h2,k⟩:=aly h
 have nd:=sc_law_order.nd
 refine ⟨_,(aac (aar (i:=2) nd rfl (Or.inr rfl) (alo rfl T.b_list rfl T.b_range rfl (aaa (pv 1) aab)))
  (aaf (aas (ady rfl (N:=["k","left","deck"]) (src:=[none,some 2,some 0]) (by exact ab4 rfl rfl rfl rfl rfl rfl) (abj rfl T.b_range (aaa (pv 1) aab)) (fun _ _ _ _=>(aap (i:=0) (show List.Nodup (["k","left","deck"]:List Str) by decide +kernel) rfl (Or.inl rfl) (hf:=Or.inr rfl))) (fun _ _ _ _=>acu) (fun _ _ _ _=>(show PE _ _ (tBM K "list" aki _ _) from (aeh PySem.F.plainAttrs_list PySem.F.slot_list_pop PySem.F.type_list_pop aqa (pv 1) (aaa (aae (afc T) hr (aaa (pv 2) (aaa (aah (show abc _ (.builtin "len") (rLen K) from abk) (by rfl) T.b_len ace (aaa (pv 1) aab)) aab))) aab)))))))),?_⟩
 show (_:TS) _ [some (.ref d),some (.int n),none] H
 row_cond hgo
 unfold ahm
 row_cond hgo
 refine ⟨n,rfl,h1,by omega,fun m hm=>?_⟩
 row_cond hgo
 refine amt (by omega) (by omega) ?_
 intro g b
 have M:∀ a,a=d\/a=p\/a∈qs->∃ o,H a=some o:=fun a z=>by
  rcases z with rfl | rfl | z
  ·exact ⟨_,O.dd⟩
  ·exact ⟨_,O.pp⟩
  ·obtain ⟨c,f,kk,e⟩:=O.ql a z
   exact ⟨_,e⟩
 have S:∀ a,a=d\/a=p\/a∈qs->a ≠ m:=fun a z e=>by
  obtain ⟨o,J⟩:=M a z
  rw [e,hm] at J;cases J
 have U:g ≠ m:=fun e=>by rw [e,aai] at b;cases b
 rw [aag U] at b
 have W:∀ a,a=d\/a=p\/a∈qs->a ≠ g:=fun a z e=>by
  obtain ⟨o,J⟩:=M a z
  rw [e,b] at J;cases J
 refine aqe (fun j ys σ H2=>∃ (v:Option V) (l left:List Int) (G:Int),σ=[v,some (.ref m),some (.ref d)]/\ys=l.map V.int/\l.length=j/\Order n (l ++ left)/\H2 m=some (.lst (left.map V.int))/\H2 g=some (.lst ys)/\Dk H2 d p G qs/\∀ a,a ≠ d->a ∉ qs->a ≠ m->a ≠ g->H2 a=H a)
  ⟨_,[],(List.range n.toNat).map fun (i:Nat)=>(i:Int),i,rfl,rfl,rfl,?_,?_,aai,?_,?_⟩ (fun j ys σ H2 h=>by obtain ⟨v,l,left,G,_,_,_,_,_,e,_⟩:=h;exact e) ?_ ?_
 ·exact Order.id n
 ·rw [aag U.symm,aai,aB6];rfl
 ·exact O.frame fun a z=>by rw [aag (W a z),aag (S a z)]
 ·intro a _ _ Z X
  rw [aag X,aag Z]
 ·rintro j ys σ H2 hj ⟨v,l,left,G,rfl,rfl,R,I,B,u,q,x⟩
  have L:left.length=n.toNat - j:=by have:=I.len;simp at this;omega
  have md:m ≠ d:=(S d (.inl rfl)).symm
  have mq:m ∉ qs:=fun z=>S m (.inr (.inr z)) rfl
  have ad:g ≠ d:=(W d (.inl rfl)).symm
  have aq:g ∉ qs:=fun z=>W g (.inr (.inr z)) rfl
  row_cond hgo
  refine ⟨d,p,G,_,qs,rfl,q,by rw [ay3];omega,by rw [ay3];omega,fun r H3 i3 r0 r1 Y C=>?_⟩
  rw [ay3] at r1
  row_cond hgo
  obtain ⟨y,hy⟩:∃ y,left[r.toNat]?=some y:=⟨_,ay0 (show r.toNat < left.length by omega)⟩
  refine aqg (y:=.int y) ((C m md mq).trans B) (by omega) (by omega) (aw4 r0 (by rw [ay3];exact r1)) (by rw [ay5,hy];rfl) ?_
  refine ⟨by rw [aag U];exact (C g ad aq).trans u,adm (by simp;omega),_,l ++ [y],left.eraseIdx r.toNat,i3,rfl,by simp,by simp [R],aoe I hy,?_,aai,?_,?_⟩
  ·rw [aag U.symm,aai,afw]
  ·exact Y.frame fun a z=>by rw [aag (W a z),aag (S a z)]
  ·intro a b1 b2 b3 b4
   rw [aag b4,aag b3,C a b1 b2];exact x a b1 b2 b3 b4
 ·rintro ys σ H2 ⟨v,l,left,G,rfl,rfl,R,I,B,u,q,x⟩
  have L:left=[]:=by have:=I.len;simp at this;exact List.length_eq_zero_iff.mp (by omega)
  subst L
  rw [aC2] at I
  row_cond hgo
  refine k l g H2 G I q b u (fun a o Z X e=>?_) fun a xs e=>?_
  ·rw [x a Z X (fun z=>by rw [z,hm] at e;cases e) (fun z=>by rw [z,b] at e;cases e)];exact e
  ·rw [← x a (fun z=>?_) (fun z=>?_) (fun z=>?_) (fun z=>?_)]
   ·exact e
   ·rw [z,q.dd] at e;cases e
   ·obtain ⟨c,f,kk,e2⟩:=q.ql a z
    rw [e2] at e;cases e
   ·rw [z,B] at e;cases e
   ·rw [z,u] at e;cases e
end
def apz:VIo:=fun A ss Q=>A=ODk/\ss=[]/\∀ (n:Int) (es:List (Int × Int)),1<=n->n<=60->PsOk n es->es.length<=1900->Q ODk (.st (webD n es))
def mmP (p:Int × Int):Int × Int:=if p.2 < p.1 then (p.2,p.1) else p
theorem aw5 {p:Int × Int} {x y:Int} (b:aj0 [p.1,p.2] x) (a:an4 [p.1,p.2] y):mmP p=(x,y):=by
 have h:=b.2 p.1 (by simp)
 have f:=b.2 p.2 (by simp)
 have g:=a.2 p.1 (by simp)
 have i:=a.2 p.2 (by simp)
 have c:=b.1
 have d:=a.1
 simp only [ay8,List.not_mem_nil,or_false] at c d
 unfold mmP
 split
 ·exact Prod.ext (by show p.2=x;omega) (by show p.1=y;omega)
 ·exact Prod.ext (by omega) (by omega)
def ixR (row:List Int) (p:Int × Int):Int × Int:=(aao row p.1,aao row p.2)
theorem ayb {n:Int} {c:List Int} {d:List (Int × Int)} (g:Order n c) (h:PsOk n d):(d.map (ixR c)).map mmP=d.map (reP c):=by
 rw [aB6]
 refine aC1 fun p f=>?_
 have:=h.inn p f
 have i:=g.ne (a:=p.1) (b:=p.2) (by omega) (by omega) (by omega) (by omega) (by omega)
 show mmP (aao c p.1,aao c p.2)=reP c p
 unfold mmP reP
 by_cases h1:aao c p.1 < aao c p.2
 ·rw [aC6 (by simp only;omega),aC5 h1]
 ·rw [aC5 (by simp only;omega),aC6 h1]
theorem ap0 {n:Int} {ps qs:List (Int × Int)} (h:PsOk n ps) (g:PsOk n qs) (d:∀ p∈ps,∀ q∈qs,p ≠ q):PsOk n (ps ++ qs) :=
 ⟨List.nodup_append.mpr ⟨h.nd,g.nd,d⟩,fun p a=>by
  rcases ay7.mp a with z | z
  ·exact h.inn p z
  ·exact g.inn p z⟩
theorem ap1 {l:List Int} (h:∀ x∈l,2<=x):0<=l.sum:=by
 induction l with
 | nil=>simp
 | cons a l ih =>
  have:=h a (by simp)
  have:=ih fun x b=>h x (by simp [b])
  simp;omega
theorem aru {sz:List Int} (h:∀ x∈sz,2<=x) {i:Nat} {x:Int} (b:sz[i]?=some x):(sz.take (i+1)).sum=(sz.take i).sum+x/\(sz.take (i+1)).sum<=sz.sum/\0<=(sz.take i).sum:=by
 refine ⟨by rw [aE4,b];simp,?_,ap1 fun y a=>h y (az9 a)⟩
 have:=congrArg List.sum (aA0 (i+1) sz)
 rw [List.sum_append] at this
 have:=ap1 fun y (a:y∈sz.drop (i+1))=>h y (aA3 a)
 omega
section
variable {P:Program} {w:World} {K:Frag} {mg:Str->Option Value} {base:Heap}
theorem sc_law_crowds:FnScope ["deck","sizes","n","row","ties","at","size","a","b"] ["deck"] (aaj s_law_crowds):=by row_cond sc
theorem aij (T:Txt K mg):Can P w K mg base "_law_crowds" 3 ["deck"] (spI K (apz)):=by
 obtain ⟨f,fd,D⟩:=T.d_law_crowds
 refine D.can (D.fn.ok sc_law_crowds (fun vs H Q E h=>lenI h fun A ss Q' q=>by obtain ⟨rfl,rfl,k⟩:=q;rfl) (fun cdv A outer s H vs Q E J h=>?_))
 have nd:=sc_law_crowds.nd
 refine ⟨_,(aac (aar (i:=1) nd rfl (Or.inl rfl) (aal aam (aa9 (aaa (aa9 (aaa (aau aa7 aad (aae (aak T) J (aaa (pv 0) (aaa aad aab)))) aab)) (aaa (aa9 (aaa (aau aa7 aad (aae (aak T) J (aaa (pv 0) (aaa aad aab)))) (aaa (aau aa7 aad (aae (aak T) J (aaa (pv 0) (aaa aad aab)))) aab))) aab))) (aae (aak T) J (aaa (pv 0) (aaa aad aab))) (fun _ _=>rfl)))
  (aac (aar (i:=2) nd rfl (Or.inl rfl) (aau aa7 (aah (aiz rfl) (by rfl) T.b_sum ao6 (aaa (pv 1) aab)) (aae (aak T) J (aaa (pv 0) (aaa (aau ad6 aad (aah (aiz rfl) (by rfl) T.b_sum ao6 (aaa (pv 1) aab))) aab)))))
  (aac (aar (i:=3) nd rfl (Or.inr rfl) (aae (adu T) J (aaa (pv 0) (aaa (pv 2) aab))))
  (aac (aar (i:=4) nd rfl (Or.inl rfl) (aa9 aab))
  (aac (aar (i:=5) nd rfl (Or.inl rfl) aad)
  (aac (abo aG4 rfl (abw (pv 1)) (aap (i:=6) nd rfl (Or.inl rfl))
   (aac (abo aG4 rfl (aeg rfl T.b_range (aaa (pv 5) (aaa (aau aa7 (pv 5) (pv 6)) aab))) (aap (i:=7) nd rfl (Or.inr rfl))
     (aaf (abr (aeh PySem.F.plainAttrs_list PySem.F.slot_list_extend PySem.F.type_list_extend aox (pv 4) (aaa (ady rfl (N:=["b","row","a"]) (src:=[none,some 3,some 7]) (by exact ab4 rfl rfl rfl rfl rfl rfl) (aeg rfl T.b_range (aaa (aau aa7 (pv 7) aad) (aaa (aau aa7 (pv 5) (pv 6)) aab))) (fun _ _ _ _=>(aap (i:=0) (show List.Nodup (["b","row","a"]:List Str) by decide +kernel) rfl (Or.inl rfl) (hf:=Or.inr rfl))) (fun _ _ _ _=>acu) (fun _ _ _ _=>(aby (aaa (aal (show IxR _ (abv K) from aam) (pv 1) (pv 2) (fun _ _=>rfl)) (aaa (aal (show IxR _ (abv K) from aam) (pv 1) (pv 0) (fun _ _=>rfl)) aab))))) aab)))))
    (aaf (aar (i:=5) nd rfl (Or.inl rfl) (aau aa7 (pv 5) (pv 6))))))
  (aac (abo aG4 rfl (aeg rfl T.b_range (aaa (pv 5) (aaa (pv 2) aab))) (aap (i:=8) nd rfl (Or.inl rfl))
   (aaf (aa5 (aaw anq (aae (aak T) J (aaa (pv 0) (aaa aad aab))) aad (aat _))
     (aaf (abr (aeh PySem.F.plainAttrs_list PySem.F.slot_list_append PySem.F.type_list_append acm (pv 4) (aaa (aby (aaa (aal aam (pv 3) (aae (aak T) J (aaa (pv 0) (aaa (pv 8) aab))) (fun _ _=>rfl)) (aaa (aal aam (pv 3) (pv 8) (fun _ _=>rfl)) aab))) aab))))
     aaz)))
  (aaf (aas (aby (aaa (pv 2) (aaa (aah ae4 (by rfl) T.b_sorted acn (aaa (ady rfl (N:=["tie"]) (src:=[none]) (by exact ab4 rfl rfl rfl rfl rfl rfl) (abw (pv 4)) (fun _ _ _ _=>(aap (i:=0) (show List.Nodup (["tie"]:List Str) by decide +kernel) rfl (Or.inl rfl) (hf:=Or.inr rfl))) (fun _ _ _ _=>acu) (fun _ _ _ _=>(aby (aaa (aah (show abc _ (.builtin "min") (ahb K) from (aiy rfl)) (by rfl) T.b_min acx (aaa (pv 0) aab)) (aaa (aah (show abc _ (.builtin "max") (aj1 K) from (apc rfl)) (by rfl) T.b_max ada (aaa (pv 0) aab)) aab))))) aab)) aab)))))))))))),?_⟩
 refine an7 h fun A0 ss Q' q B hK=>?_
 obtain ⟨rfl,rfl,k⟩:=q
 show EvS B _ _ [some (.io ODk),none,none,none,none,none,none,none,none]
 row_cond go
 refine ⟨11,rfl,rfl,by omega,by omega,fun r1 b3 b0=>?_⟩
 row_cond go
 refine ⟨15,rfl,rfl,by omega,by omega,fun r2 b8 b1=>?_⟩
 row_cond go
 refine ⟨15,rfl,rfl,by omega,by omega,fun r3 b4 c1=>?_⟩
 row_cond go
 refine ⟨2,rfl,rfl,by omega,by omega,fun r4 b2 c0=>?_⟩
 obtain ⟨sz,I,W,a5,a6⟩:∃ sz:List Int,atI [PyData.list [.int (12+r1)],.list [.int (2+r2),.int (2+r3)]] r4=some (.list (sz.map .int))/\(∀ x∈sz,2<=x)/\(2<=sz.sum/\sz.sum<=32)/\sz.length<=2:=by
  rcases (show r4=0\/r4=1 by omega) with rfl | rfl
  ·exact ⟨[12+r1],rfl,fun x O=>by simp at O;omega,by simp;omega,by simp⟩
  ·exact ⟨[2+r2,2+r3],rfl,fun x O=>by simp at O;omega,by simp;omega,by simp⟩
 row_cond go
 refine am8 rfl ?_
 row_cond go
 refine am8 rfl ?_
 row_cond go
 refine ⟨61 - sz.sum,rfl,rfl,by omega,by omega,fun r5 b9 a7=>?_⟩
 row_cond go
 refine ⟨sz.sum+r5,rfl,rfl,by omega,by omega,fun l L=>acw acq ?_⟩
 obtain ⟨n,hn,c3,a4⟩:∃ n,n=sz.sum+r5/\sz.sum<=n/\n<=60:=⟨_,rfl,by omega,by omega⟩
 rw [← hn] at L
 rw [← hn]
 have I:∀ j:Int,0<=j->j < n->∃ x,atI (l.map PyData.int) j=some (.int x)/\0<=x/\x < n/\x=aao l j:=fun j X j1=>⟨aao l j,acb X (by rw [ay5,(L.at X j1).1];rfl),(L.at X j1).2.1,(L.at X j1).2.2,rfl⟩
 row_cond go
 refine ac6 (fun i e=>∃ M C G ps,e=[some (.io ODk),some (.st (.list (sz.map .int))),some (.st (.int n)),some (.st (.list (l.map .int))),some (.own (OL ((ps.map (ixR l)).map prD))),some (.st (.int (sz.take i).sum)),M,C,G]/\PsOk n ps/\(ps.length:Int)<=32 * (sz.take i).sum/\∀ p∈ps,p.2 < (sz.take i).sum) ⟨none,none,none,[],rfl,PsOk.nil n,by simp,fun p m=>by cases m⟩ ?_ ?_
 ·rintro i x e O g
  refine exS4 e g fun M C G ps d=>?_
  have r:=d.1
  have v:=d.2.1
  have o:=d.2.2
  clear d g
  have c5:=W x (ay2 O)
  obtain ⟨t1,t2,t3⟩:=aru W O
  rw [t1] at t2
  rw [t1]
  generalize (sz.take i).sum=c at v t2 t3 o
  row_cond go
  refine acr (fun j e=>∃ C G ps,e=[some (.io ODk),some (.st (.list (sz.map .int))),some (.st (.int n)),some (.st (.list (l.map .int))),some (.own (OL ((ps.map (ixR l)).map prD))),some (.st (.int c)),some (.st (.int x)),C,G]/\PsOk n ps/\(ps.length:Int)<=32 * (c+j)/\∀ p∈ps,p.1 < c+(j:Int)/\p.2 < c+x) ⟨_,_,ps,rfl,r,by simpa using v,fun p m=>by have:=o p m;have:=r.inn p m;omega⟩ ?_ ?_
  ·clear r v o ps
   rintro j e hj g
   refine exS3 e g fun C G ps d=>?_
   have r:=d.1
   have v:=d.2.1
   have o:=d.2.2
   clear d g
   have b6:c+(j:Int) < c+x:=by omega
   obtain ⟨xa,ea,b7,a8,a0⟩:=I (c+(j:Int)) (by omega) (by omega)
   row_cond go
   unfold rngD
   refine agz (fun u:Nat=>prD (xa,aao l (c+(j:Int)+1+(u:Int)))) rfl (by simp;omega) (fun u R B' hB=>?_) ?_
   ·have S:=az8.mp R
    have hb:=L.at (a:=c+(j:Int)+1+(u:Int)) (by omega) (by omega)
    have eb:atI (l.map PyData.int) (c+(j:Int)+1+(u:Int))=some (.int (aao l (c+(j:Int)+1+(u:Int)))):=acb (by omega) (by rw [ay5,hb.1];rfl)
    row_cond go
    rfl
   ·refine ⟨_,_,rfl,rfl,by simp;omega,?_⟩
    dsimp only [List.set_cons_zero,List.set_cons_succ]
    subst a0
    refine ⟨_,_,ps ++ (List.range (c+x - (c+(j:Int)+1)).toNat).map fun u:Nat=>(c+(j:Int),c+(j:Int)+1+(u:Int)),by simp only [aB8,aB6];rfl,ap0 r ⟨?_,fun p m=>?_⟩ fun p m q U e=>?_,by simp;omega,fun p m=>?_⟩
    ·exact aD1.mpr (List.nodup_range.imp fun {a b} h e=>h (by have:=congrArg Prod.snd e;simp only at this;omega))
    ·obtain ⟨u,R,rfl⟩:=az6.mp m
     have S:=az8.mp R
     exact ⟨by simp only;omega,by simp only;omega,by simp only;omega⟩
    ·obtain ⟨u,R,rfl⟩:=az6.mp U
     have:=o p m
     rw [e] at this
     simp only at this
     omega
    ·rcases ay7.mp m with z | z
     ·have:=o p z
      omega
     ·obtain ⟨u,R,rfl⟩:=az6.mp z
      have S:=az8.mp R
      exact ⟨by simp only;omega,by simp only;omega⟩
  ·clear r v o ps
   rintro e g
   refine exS3 e g fun C G ps d=>?_
   have r:=d.1
   have v:=d.2.1
   have o:=d.2.2
   clear d g
   row_cond go
   exact ⟨_,_,_,ps,rfl,r,by omega,fun p m=>(o p m).2⟩
 ·rintro e g
  refine exS4 e g fun M C G ps d=>?_
  have r:=d.1
  have v:=d.2.1
  have o:=d.2.2
  clear d g
  rw [aD8] at v o ⊢
  row_cond go
  refine acr (fun j e=>∃ M C G ps,e=[some (.io ODk),some (.st (.list (sz.map .int))),some (.st (.int n)),some (.st (.list (l.map .int))),some (.own (OL ((ps.map (ixR l)).map prD))),some (.st (.int sz.sum)),M,C,G]/\PsOk n ps/\(ps.length:Int)<=1024+j/\∀ p∈ps,p.2 < sz.sum+(j:Int)) ⟨_,_,_,ps,rfl,r,by omega,fun p m=>by have:=o p m;omega⟩ ?_ ?_
  ·clear r v o ps
   rintro j e hj g
   refine exS4 e g fun M C G ps d=>?_
   have r:=d.1
   have v:=d.2.1
   have o:=d.2.2
   clear d g
   obtain ⟨xb,eb,c4,c2,a2⟩:=I (sz.sum+(j:Int)) (by omega) (by omega)
   row_cond go
   refine ⟨5,rfl,rfl,by omega,by omega,fun q qa qb=>?_⟩
   row_cond go
   refine adn (fun U=>?_) (fun U=>?_)
   ·row_cond go
    refine ⟨sz.sum+(j:Int),rfl,rfl,by omega,by omega,fun y ya yb=>?_⟩
    obtain ⟨xy,ey,a9,b5,a3⟩:=I y ya (by omega)
    row_cond go
    subst a3 a2
    refine ⟨_,_,_,ps ++ [(y,sz.sum+(j:Int))],by rw [aB8,aB8];rfl,ap0 r ⟨by simp,fun p m=>by cases aA1.mp m;exact ⟨by simp only;omega,by simp only;omega,by simp only;omega⟩⟩ fun p m q U e=>?_,by simp;omega,fun p m=>?_⟩
    ·cases aA1.mp U
     have:=o p m
     rw [e] at this
     simp only at this
     omega
    ·rcases ay7.mp m with z | z
     ·have:=o p z
      push_cast
      omega
     ·cases aA1.mp z
      simp only
      push_cast
      omega
   ·row_cond go
    exact ⟨_,_,_,ps,rfl,r,by push_cast;omega,fun p m=>by have:=o p m;push_cast;omega⟩
  ·clear r v o ps
   rintro e g
   refine exS4 e g fun M C G ps d=>?_
   have r:=d.1
   have v:=d.2.1
   have o:=d.2.2
   clear d g
   row_cond go
   refine afu (ps:=ps.map (reP l)) ?_
   row_cond go
   refine agz (xs:=ps.map (ixR l)) (fun p:Int × Int=>prD (mmP p)) rfl (by rw [ay3];omega) (fun p m B' hB=>?_) ?_
   ·row_cond go
    refine aq9 (ns:=[p.1,p.2]) rfl (by simp) fun m1 Z=>?_
    row_cond go
    refine aq8 (ns:=[p.1,p.2]) rfl (by simp) fun m2 Y=>?_
    row_cond go
    exact ⟨by rw [aw5 Z Y],rfl⟩
   ·row_cond go
    refine ⟨by rw [← ayb L r];simp only [aB6];rfl,fun qs m hs=>ac0 ?_⟩
    row_cond go
    have hR:=r.re L
    exact k n qs (by omega) a4 ⟨m.nodup_iff.mpr hR.nd,fun p a1=>hR.inn p (m.mem_iff.mp a1)⟩ (by rw [m.length_eq,ay3];omega)
end
section
variable {P:Program} {w:World} {K:Frag} {mg:Str->Option Value} {base:Heap}
theorem sc_law_web:FnScope ["deck","n","row","kind","ties","k","heads","head","a","b"] ["deck"] (aaj s_law_web):=by row_cond sc
theorem amd (T:Txt K mg):Can P w K mg base "_law_web" 4 ["deck"] (spI K (apz)):=by
 obtain ⟨f,fd,D⟩:=T.d_law_web
 refine D.can (D.fn.ok sc_law_web (fun vs H Q E h=>lenI h fun A ss Q' q=>by obtain ⟨rfl,rfl,k⟩:=q;rfl) (fun cdv A outer s H vs Q E d h=>?_))
 have nd:=sc_law_web.nd
 refine ⟨_,(aac (aa5 (aaw ag2 (aae (aak T) d (aaa (pv 0) (aaa aad aab))) aad (aat _))
   (aaf (aas (aae (aij T) d (aaa (pv 0) aab))))
   aaz)
  (aac (aar (i:=1) nd rfl (Or.inl rfl) (aau aa7 aad (aae (aak T) d (aaa (pv 0) (aaa (aal aam (aa9 (aaa aad (aaa aad (aaa aad (aaa aad aab))))) (aae (aak T) d (aaa (pv 0) (aaa aad aab))) (fun _ _=>rfl)) aab)))))
  (aac (aar (i:=2) nd rfl (Or.inl rfl) (aal aam (aa9 (aaa (alo rfl T.b_list rfl T.b_range rfl (aaa (pv 1) aab)) (aaa (aae (adu T) d (aaa (pv 0) (aaa (pv 1) aab))) aab))) (aae (aak T) d (aaa (pv 0) (aaa aad aab))) (fun _ _=>rfl)))
  (aac (aar (i:=3) nd rfl (Or.inl rfl) (aae (aak T) d (aaa (pv 0) (aaa aad aab))))
  (aac (aar (i:=4) nd rfl (Or.inl rfl) akn)
  (aac (abo aG4 rfl (aeg rfl T.b_range (aaa aad (aaa (pv 1) aab))) (aap (i:=5) nd rfl (Or.inl rfl))
   (aac (aar (i:=6) nd rfl (Or.inl rfl) (aa9 (aaa (aau ad6 (pv 5) aad) (aaa (aae (aak T) d (aaa (pv 0) (aaa (pv 5) aab))) (aaa (aah (abz rfl) (by rfl) T.b_max ada (aaa aad (aaa (aau ad6 (aau ad6 (pv 5) aad) (aae (aak T) d (aaa (pv 0) (aaa aad aab)))) aab))) (aaa aad (aaa (aau ahv (pv 5) aad) aab)))))))
    (aac (aar (i:=7) nd rfl (Or.inl rfl) (aal aam (aau akj (pv 6) (aa9 (aaa (aae (aak T) d (aaa (pv 0) (aaa (aah (ab0 rfl) (by rfl) T.b_min acx (aaa (pv 5) (aaa aad aab))) aab))) aab))) (pv 3) (fun _ _=>rfl)))
    (aaf (ah1 (ajw d) (pv 4) (aby (aaa (aah (ab0 rfl) (by rfl) T.b_min acx (aaa (aal aam (pv 2) (pv 5) (fun _ _=>rfl)) (aaa (aal aam (pv 2) (pv 7) (fun _ _=>rfl)) aab))) (aaa (aah (abz rfl) (by rfl) T.b_max ada (aaa (aal aam (pv 2) (pv 5) (fun _ _=>rfl)) (aaa (aal aam (pv 2) (pv 7) (fun _ _=>rfl)) aab))) aab))) abh rfl)))))
  (aac (aa5 (PW.pt (aj8 (aaw ag2 (aae (aak T) d (aaa (pv 0) (aaa aad aab))) aad (aat _)) (ahu (aaw anq (pv 1) aad (aat _)))))
   (aaf (ah1 (ajw d) (pv 4) (aby (aaa (aah (ab0 rfl) (by rfl) T.b_min acx (aaa (aal aam (pv 2) aad (fun _ _=>rfl)) (aaa (aal aam (pv 2) (ag1 afi aad) (fun _ _=>rfl)) aab))) (aaa (aah (abz rfl) (by rfl) T.b_max ada (aaa (aal aam (pv 2) aad (fun _ _=>rfl)) (aaa (aal aam (pv 2) (ag1 afi aad) (fun _ _=>rfl)) aab))) aab))) abh rfl))
   aaz)
  (aac (abo aG4 rfl (abj rfl T.b_range (aaa (aal aam (aa9 (aaa aad (aaa (aae (aak T) d (aaa (pv 0) (aaa aad aab))) (aaa (aae (aak T) d (aaa (pv 0) (aaa (aau aa7 (pv 1) aad) aab))) (aaa (aae (aak T) d (aaa (pv 0) (aaa (aau afh aad (pv 1)) aab))) aab))))) (aae (aak T) d (aaa (pv 0) (aaa aad aab))) (fun _ _=>rfl)) aab)) (aap (i:=5) nd rfl (Or.inl rfl))
   (aac (aar (i:=8) nd rfl (Or.inl rfl) (aae (aak T) d (aaa (pv 0) (aaa (pv 1) aab))))
    (aac (aar (i:=9) nd rfl (Or.inl rfl) (aae (aak T) d (aaa (pv 0) (aaa (pv 1) aab))))
    (aaf (aa5 (aaw acj (pv 8) (pv 9) (aat _))
     (aaf (ah1 (ajw d) (pv 4) (aby (aaa (aah (ab0 rfl) (by rfl) T.b_min acx (aaa (pv 8) (aaa (pv 9) aab))) (aaa (aah (abz rfl) (by rfl) T.b_max ada (aaa (pv 8) (aaa (pv 9) aab))) aab))) abh rfl))
     aaz)))))
  (aac (abo aG4 rfl (abj rfl T.b_range (aaa (aal aam (aa9 (aaa aad (aaa aad (aaa (aae (aak T) d (aaa (pv 0) (aaa aad aab))) (aaa (aae (aak T) d (aaa (pv 0) (aaa (aau aa7 (pv 1) aad) aab))) aab))))) (aae (aak T) d (aaa (pv 0) (aaa aad aab))) (fun _ _=>rfl)) aab)) (aap (i:=5) nd rfl (Or.inl rfl))
   (aaf (aa5 (aaw (aw1 d.units) (pv 4) akn (aat _))
     (aaf (abr (arn (ajw d) (pv 4) (aal aam (aah (agl rfl) (by rfl) T.b_sorted acn (aaa (pv 4) aab)) (aae (aak T) d (aaa (pv 0) (aaa (aah apt (by rfl) T.b_len ace (aaa (pv 4) aab)) aab))) (fun _ _=>rfl)) ⟨rfl,rfl,rfl,rfl⟩)))
     aaz)))
  (aaf (aas (aby (aaa (pv 1) (aaa (aah (agl rfl) (by rfl) T.b_sorted acn (aaa (pv 4) aab)) aab)))))))))))))),?_⟩
 refine an7 h fun A0 ss Q' q B hK=>?_
 obtain ⟨rfl,rfl,k⟩:=q
 show EvS B _ _ [some (.io ODk),none,none,none,none,none,none,none,none,none]
 row_cond go
 refine ⟨8,rfl,rfl,by omega,by omega,fun r0 d5 g6=>?_⟩
 row_cond go
 refine adn (fun a6=>?_) (fun a6=>?_)
 ·row_cond go
  exact ⟨rfl,rfl,fun n es n0 Z g z=>⟨ODk,rfl,k n es n0 Z g z⟩⟩
 ·row_cond go
  refine ⟨4,rfl,rfl,by omega,by omega,fun L e2 c7=>?_⟩
  obtain ⟨O,c4,b7,c2⟩:∃ O:Int,atI [PyData.int 4,PyData.int 12,PyData.int 12,PyData.int 60] L=some (.int O)/\4<=O/\O<=60:=by
   rcases (show L=0\/L=1\/L=2\/L=3 by omega) with rfl | rfl | rfl | rfl
   ·exact ⟨4,rfl,by omega,by omega⟩
   ·exact ⟨12,rfl,by omega,by omega⟩
   ·exact ⟨12,rfl,by omega,by omega⟩
   ·exact ⟨60,rfl,by omega,by omega⟩
  row_cond go
  refine ⟨O,rfl,rfl,by omega,by omega,fun r2 f4 d6=>?_⟩
  row_cond go
  obtain ⟨n,hn,n0,Z⟩:∃ n,1+r2=n/\1<=n/\n<=60:=⟨_,rfl,by omega,by omega⟩
  rw [hn]
  row_cond go
  refine ⟨n,rfl,rfl,by omega,by omega,fun F U=>ac0 ?_⟩
  row_cond go
  refine ⟨2,rfl,rfl,by omega,by omega,fun r3 e6 f9=>?_⟩
  obtain ⟨c,b5,J⟩:∃ c:List Int,atI [PyData.list (rngD 0 n.toNat),PyData.list (F.map .int)] r3=some (.list (c.map .int))/\Order n c:=by
   rcases (show r3=0\/r3=1 by omega) with rfl | rfl
   ·exact ⟨(List.range n.toNat).map fun (i:Nat)=>(i:Int),by show some _=some _;rw [auo],Order.id n⟩
   ·exact ⟨F,rfl,U⟩
  have C:∀ j:Int,0<=j->j < n->∃ x,atI (c.map PyData.int) j=some (.int x)/\0<=x/\x < n/\x=aao c j:=fun j R j1=>⟨aao c j,acb R (by rw [ay5,(J.at R j1).1];rfl),(J.at R j1).2.1,(J.at R j1).2.2,rfl⟩
  row_cond go
  refine ⟨6,rfl,rfl,by omega,by omega,fun kind ka kb=>?_⟩
  row_cond go
  rw [awx]
  refine acr (fun i e=>∃ o y u v l ps,e=[some (.io ODk),some (.st (.int n)),some (.st (.list (c.map .int))),some (.st (.int kind)),some (.own (OT (kE ps))),o,y,u,v,l]/\PsOk n ps/\ps.length<=i) ⟨_,_,_,_,_,[],rfl,PsOk.nil n,ay6 _⟩ ?_ ?_
  ·rintro i e hi b
   refine exS6 e b fun o y u v l ps a=>?_
   have g:=a.1
   have z:=a.2
   clear a b
   have b0:1+(i:Int) < n:=by omega
   obtain ⟨xk,ek,f8,d4,S⟩:=C (1+(i:Int)) (by omega) b0
   have I:(kE ps).length<=999999:=by rw [aeo];omega
   row_cond go
   refine ⟨1+(i:Int),rfl,rfl,by omega,by omega,fun d1 g7 d8=>?_⟩
   row_cond go
   refine ⟨3,rfl,rfl,by omega,by omega,fun d2 f7 f3=>?_⟩
   iterate 16 row_cond st
   refine acw acq ?_
   row_cond go
   refine ⟨_,rfl,rfl,by split <;> omega,by split <;> omega,fun d3 g9 Y=>?_⟩
   have d0:d3 < 1+(i:Int):=by split at Y <;> omega
   obtain ⟨hd,f5,W,e8⟩:∃ hd:Int,atI ([PyData.int (1+(i:Int) - 1),PyData.int d1,PyData.int (if 1+(i:Int) - 1 - d2 > 0 then 1+(i:Int) - 1 - d2 else 0),PyData.int 0,PyData.int ((1+(i:Int)) / 2)] ++ [PyData.int d3]) kind=some (.int hd)/\0<=hd/\hd < 1+(i:Int):=by
    rcases (show kind=0\/kind=1\/kind=2\/kind=3\/kind=4\/kind=5 by omega) with rfl | rfl | rfl | rfl | rfl | rfl
    ·exact ⟨_,rfl,by omega,by omega⟩
    ·exact ⟨_,rfl,by omega,by omega⟩
    ·exact ⟨_,rfl,by split <;> omega,by split <;> omega⟩
    ·exact ⟨_,rfl,by omega,by omega⟩
    ·exact ⟨_,rfl,by omega,by omega⟩
    ·exact ⟨_,rfl,by omega,by omega⟩
   obtain ⟨xh,eh,d9,c0,a5⟩:=C hd W (by omega)
   have a9:xk ≠ xh:=by rw [S,a5];exact J.ne (by omega) (by omega) (by omega) (by omega) (by omega)
   row_cond go
   rw [alq]
   exact ⟨_,_,_,_,_,_,rfl,g.add (by split <;> omega) (by split <;> split <;> omega) (by split <;> omega),aA9 agx (by omega)⟩
  ·rintro e b
   refine exS6 e b fun o y u v l ps a=>?_
   have g:=a.1
   have z:=a.2
   clear a b
   have I:(kE ps).length<=999999:=by rw [aeo];omega
   obtain ⟨x0,e0,g2,g1,a7⟩:=C 0 (by omega) (by omega)
   obtain ⟨xl,el,c3,e1,b4⟩:∃ x,atI (c.map PyData.int) (-1)=some (.int x)/\0<=x/\x < n/\x=aao c (n - 1):=by
    obtain ⟨x,ex,x0,x1,a8⟩:=C (n - 1) (by omega) (by omega)
    refine ⟨x,?_,x0,x1,a8⟩
    have hl:(c.map PyData.int).length=n.toNat:=by rw [ay3];exact J.len
    have h2:ixN n.toNat (-1)=some (n.toNat - 1):=by unfold ixN;rw [aC6 (by omega),aC5 (by omega)];congr 1;omega
    have h3:ixN n.toNat (n - 1)=some (n.toNat - 1):=by unfold ixN;rw [aC5 (by omega),aC5 (by omega)];congr 1;omega
    unfold atI at ex ⊢
    rw [hl,h3] at ex
    rw [hl,h2]
    exact ex
   refine' am3 (by assumption) ?_
   refine alj (fun c_ c6=>?_)
   refine arm (fun e=>∃ ps,e=[some (.io ODk),some (.st (.int n)),some (.st (.list (c.map .int))),some (.st (.int kind)),some (.own (OT (kE ps))),o,y,u,v,l]/\PsOk n ps/\ps.length<=61) ?_ ?_
   ·row_cond go
    refine ⟨4,rfl,rfl,by omega,by omega,fun q qa qb=>?_⟩
    row_cond go
    refine adn (fun h=>?_) (fun h=>?_)
    ·row_cond go
     refine adn (fun h=>?_) (fun h=>?_)
     ·row_cond go
      rw [alq]
      have a9:x0 ≠ xl:=by rw [a7,b4];exact J.ne (by omega) (by omega) (by omega) (by omega) (by omega)
      exact ⟨_,rfl,g.add (by split <;> omega) (by split <;> split <;> omega) (by split <;> omega),aA9 agx (by omega)⟩
     ·row_cond go
      exact ⟨ps,rfl,g,by omega⟩
    ·row_cond go
     exact ⟨ps,rfl,g,by omega⟩
   ·clear g z I ps
    rintro e b
    refine exS1 e b fun ps a=>?_
    have g:=a.1
    have z:=a.2
    clear a b
    row_cond go
    refine ⟨4,rfl,rfl,by omega,by omega,fun a1 c5 c1=>?_⟩
    row_cond go
    refine ⟨n+1,rfl,rfl,by omega,by omega,fun a2 g8 e5=>?_⟩
    row_cond go
    refine ⟨4 * n,rfl,rfl,by omega,by omega,fun a3 g0 d7=>?_⟩
    row_cond go
    refine ⟨4,rfl,rfl,by omega,by omega,fun M f2 g4=>?_⟩
    obtain ⟨m,em,m0,m1⟩:∃ m:Int,atI [PyData.int 0,PyData.int a1,PyData.int a2,PyData.int a3] M=some (.int m)/\0<=m/\m<=240:=by
     rcases (show M=0\/M=1\/M=2\/M=3 by omega) with rfl | rfl | rfl | rfl <;> exact ⟨_,rfl,by omega,by omega⟩
    row_cond go
    refine acr (fun i e=>∃ o y u v l ps,e=[some (.io ODk),some (.st (.int n)),some (.st (.list (c.map .int))),some (.st (.int kind)),some (.own (OT (kE ps))),o,y,u,v,l]/\PsOk n ps/\ps.length<=61+i) ⟨_,_,_,_,_,ps,rfl,g,z⟩ ?_ ?_
    ·rintro i e hi b
     refine exS6 e b fun o y u v l ps a=>?_
     have g:=a.1
     have z:=a.2
     clear a b
     have I:(kE ps).length<=999999:=by rw [aeo];omega
     row_cond go
     refine ⟨n,rfl,rfl,by omega,by omega,fun ba c8 f6=>?_⟩
     row_cond go
     refine ⟨n,rfl,rfl,by omega,by omega,fun bb b9 g5=>?_⟩
     row_cond go
     refine as6 (fun h=>?_) (fun h=>?_)
     ·row_cond go
      rw [alq]
      exact ⟨_,_,_,_,_,_,rfl,g.add (by split <;> omega) (by split <;> split <;> omega) (by split <;> omega),aA9 agx (by omega)⟩
     ·row_cond go
      exact ⟨_,_,_,_,_,ps,rfl,g,by omega⟩
    ·rintro e b
     refine exS6 e b fun o y u v l ps a=>?_
     have g:=a.1
     have z:=a.2
     clear a b
     row_cond go
     refine ⟨6,rfl,rfl,by omega,by omega,fun b1 f0 e3=>?_⟩
     row_cond go
     refine ⟨n+1,rfl,rfl,by omega,by omega,fun b2 f1 b8=>?_⟩
     row_cond go
     refine ⟨4,rfl,rfl,by omega,by omega,fun N c9 e4=>?_⟩
     obtain ⟨m',e9,g3,e7⟩:∃ m:Int,atI [PyData.int 0,PyData.int 1,PyData.int b1,PyData.int b2] N=some (.int m)/\0<=m/\m<=61:=by
      rcases (show N=0\/N=1\/N=2\/N=3 by omega) with rfl | rfl | rfl | rfl <;> exact ⟨_,rfl,by omega,by omega⟩
     row_cond go
     have X:ps.length<=301:=by omega
     refine acr (fun i e=>∃ o y u v l ps,e=[some (.io ODk),some (.st (.int n)),some (.st (.list (c.map .int))),some (.st (.int kind)),some (.own (OT (kE ps))),o,y,u,v,l]/\PsOk n ps/\ps.length<=301) ⟨_,_,_,_,_,ps,rfl,g,X⟩ ?_ ?_
     ·rintro i e hi b
      refine exS6 e b fun o y u v l ps a=>?_
      have g:=a.1
      have z:=a.2
      clear a b
      iterate 3 row_cond st
      refine aw2 (.inl rfl) ?_
      row_cond go
      cases hps:ps with
      | nil =>
       refine acg ?_
       row_cond go
       exact ⟨_,_,_,_,_,[],rfl,PsOk.nil n,by simp⟩
      | cons p0 pr =>
       have b6:0 < ps.length:=by rw [hps];simp
       rw [← hps]
       rw [aC5 (show (!(kE ps).isEmpty)=true by rw [hps];rfl)]
       refine ali (abb ?_)
       refine aro (.inl rfl) ?_
       refine asd ?_
       refine abl (aho (.inl rfl) fun qs G hs=>ac0 ?_)
       refine ai6 rfl ?_
       refine ale (aup (.inl rfl) ?_)
       row_cond go
       rw [aeo]
       refine ⟨_,rfl,rfl,by omega,by omega,fun r ra rb=>?_⟩
       obtain ⟨q,hq⟩:∃ q,qs[r.toNat]?=some q:=⟨_,ay0 (show r.toNat < qs.length by rw [G.length_eq];omega)⟩
       have eq:atI (qs.map prD) r=some (prD q):=acb ra (by rw [ay5,hq];rfl)
       obtain ⟨j,hj⟩:=List.getElem?_of_mem (G.mem_iff.mp (ay2 hq))
       row_cond go
       refine ⟨kE ps,[Sum.inl q.1,Sum.inl q.2],j,.bool true,rfl,rfl,by unfold kE;rw [ay5,hj];rfl,?_⟩
       dsimp only [List.set_cons_zero,List.set_cons_succ]
       row_cond go
       exact ⟨_,_,_,_,_,ps.eraseIdx j,by rw [show (kE ps).eraseIdx j=kE (ps.eraseIdx j) from afw _ _ _],⟨g.nd.sublist (List.eraseIdx_sublist ps j),fun p G=>g.inn p ((List.eraseIdx_sublist ps j).mem G)⟩,aA9 (List.length_eraseIdx_le ps j) z⟩
     ·rintro e b
      refine exS6 e b fun o y u v l ps a=>?_
      have g:=a.1
      have z:=a.2
      clear a b
      iterate 6 row_cond st
      refine abl (aho (.inl rfl) fun qs G hs=>ac0 ?_)
      row_cond go
      exact k n qs n0 Z ⟨G.nodup_iff.mpr g.nd,fun p a0=>g.inn p (G.mem_iff.mp a0)⟩ (by rw [G.length_eq];omega)
end
def auu:VP:=fun ss Q=>∃ (n a b:Int) (es:List (Int × Int)),ss=[.st (webD n es),.st (.int a),.st (.int b)]/\n<=100/\InN n es/\es.length<=10000/\0<=a/\a < n/\0<=b/\b < n/\(∀ d ws,Gr.Dist (Tied es) b a d->WayTo (Tied es) a b d ws->Q (.own (OL (ws.map .int))))/\((∀ d,¬ Gr.Dist (Tied es) a b d)->Q (.st .none))
theorem auv {α:Type} (xs:List α) (x : α):atI (xs ++ [x]) (-1)=some x:=by
 unfold atI ixN
 rw [aC6 (by omega),aC5 (by simp;omega)]
 show (xs ++ [x])[(-1+((xs ++ [x]).length:Int)).toNat]?=some x
 rw [show (-1+((xs ++ [x]).length:Int)).toNat=xs.length by simp;omega,aA7 (ay6 _),aF5]
 rfl
structure WayAt (T:Int->Int->Prop) (a b:Int) (d:Nat) (pre:List Int) (here:Int):Prop where
 len:pre.length<=d
 fst:(pre ++ [here])[0]?=some a
 far:∀ (i:Nat) x,(pre ++ [here])[i]?=some x->Gr.Dist T b x (d - i)
 tie:∀ (i:Nat) x y,(pre ++ [here])[i]?=some x->(pre ++ [here])[i+1]?=some y->T x y
theorem WayAt.start {T:Int->Int->Prop} {a b:Int} {d:Nat} (h:Gr.Dist T b a d):WayAt T a b d [] a:=by
 refine ⟨aD0 _,rfl,fun i x e=>?_,fun i x y _ e=>by simp at e⟩
 have hi:=(ay1.mp e).1
 have:i=0:=by simp at hi;exact hi
 subst this
 simp at e
 subst e
 exact h
theorem WayAt.here {T:Int->Int->Prop} {a b:Int} {d:Nat} {pre:List Int} {here:Int} (h:WayAt T a b d pre here):Gr.Dist T b here (d - pre.length):=h.far pre.length here (by rw [aA7 (ay6 _),aF5];rfl)
theorem WayAt.more {T:Int->Int->Prop} {a b:Int} {d:Nat} {pre:List Int} {here p:Int} (h:WayAt T a b d pre here) (n:pre.length < d) (t:T here p) (j:Gr.Dist T b p (d - (pre.length+1))):WayAt T a b d (pre ++ [here]) p:=by
 have f:(pre ++ [here]).length=pre.length+1:=by simp
 have get:∀ (i:Nat) x,((pre ++ [here]) ++ [p])[i]?=some x->(pre ++ [here])[i]?=some x\/(i=pre.length+1/\x=p):=fun i x e=>by
  by_cases hi:i < (pre ++ [here]).length
  ·rw [aA2 hi] at e;exact .inl e
  ·have l:=(ay1.mp e).1
   rw [az0,List.length_singleton] at l
   have:i=(pre ++ [here]).length:=by omega
   subst this
   rw [aA7 (ay6 _),aF5] at e
   exact .inr ⟨f,by simpa using e.symm⟩
 refine ⟨by omega,by rw [aA2 (by omega)];exact h.fst,fun i x e=>?_,fun i x y c g=>?_⟩
 ·rcases get i x e with e | ⟨rfl,rfl⟩
  ·exact h.far i x e
  ·exact j
 ·rcases get (i+1) y g with g | ⟨hi,rfl⟩
  ·rcases get i x c with c | ⟨hi,_⟩
   ·exact h.tie i x y c g
   ·have:=(ay1.mp g).1;omega
  ·rcases get i x c with c | ⟨m,_⟩
   ·have:i=pre.length:=by omega
    subst this
    rw [aA7 (ay6 _),aF5] at c
    have:x=here:=by simpa using c.symm
    rw [this];exact t
   ·omega
theorem WayAt.fin {T:Int->Int->Prop} {a b:Int} {d:Nat} {pre:List Int} (h:WayAt T a b d pre b):WayTo T a b d (pre ++ [b]):=by
 have:=h.here.uniq (Gr.Dist.self T b)
 have:=h.len
 exact ⟨by simp;omega,h.fst,h.far,h.tie⟩
theorem WayAt.not {T:Int->Int->Prop} {a b:Int} {d:Nat} {pre:List Int} {here:Int} (h:WayAt T a b d pre here) (hb:here ≠ b):pre.length < d:=by
 have:=h.len
 apply aB2
 intro hn
 have hh:=h.here
 rw [show d - pre.length=0 by omega] at hh
 cases hh.1
 exact hb rfl
section
variable {P:Program} {w:World} {K:Frag} {mg:Str->Option Value} {base:Heap}
theorem sc_short_way:FnScope ["web","a","b","tied","far","way","here"] ["web","a","b"] (aaj s_short_way):=by row_cond sc
theorem afd (T:Txt K mg):Can P w K mg base "short_way" 5 ["web","a","b"] (spP K (auu)):=by
 obtain ⟨f,fd,D⟩:=T.d_short_way
 refine D.can (D.fn.ok sc_short_way (fun vs H Q E h=>lenP h fun ss Q' q=>by obtain ⟨n,a,b,es,rfl,I,g,l,a0,W,b0,U,k,X⟩:=q;rfl) (fun cdv A outer s H vs Q E z h=>?_))
 have nd:=sc_short_way.nd
 refine ⟨_,(aac (abr (aae (ab7 T) z (aaa (pv 0) (aaa (pv 1) aab))))
  (aac (abr (aae (ab7 T) z (aaa (pv 0) (aaa (pv 2) aab))))
  (aac (aar (i:=3) nd rfl (Or.inl rfl) (aae (aer T) z (aaa (pv 0) aab)))
  (aac (aar (i:=4) nd rfl (Or.inr rfl) (aae (afv T) z (aaa (pv 3) (aaa (pv 2) aab))))
  (aac (aa5 (aaw ac8 (aal aam (pv 4) (pv 1) (fun _ _=>rfl)) abn (aat _))
   (aaf (aas abn))
   aaz)
  (aac (aar (i:=5) nd rfl (Or.inl rfl) (aa9 (aaa (pv 1) aab)))
  (aac (aj9 aG4 (aaw acj (aal aam (pv 5) (ag1 afi aad) (fun _ _=>rfl)) (pv 2) (aat _))
   (aac (aar (i:=6) nd rfl (Or.inr rfl) (aal aam (pv 5) (ag1 afi aad) (fun _ _=>rfl)))
    (aaf (abr (aeh PySem.F.plainAttrs_list PySem.F.slot_list_append PySem.F.type_list_append acm (pv 5) (aaa (aah (aiy rfl) (by rfl) T.b_min acx (aaa (ady rfl (N:=["place","far","here"]) (src:=[none,some 4,some 6]) (by exact ab4 rfl rfl rfl rfl rfl rfl) (abw (aal aam (pv 3) (pv 6) (fun _ _=>rfl))) (fun _ _ _ _=>(aap (i:=0) (show List.Nodup (["place","far","here"]:List Str) by decide +kernel) rfl (Or.inl rfl) (hf:=Or.inr rfl))) (fun _ _ _ _=>amn (aaw ag2 (aal (show IxR _ (abv K) from aam) (pv 1) (pv 0) (fun _ _=>rfl)) (aau ad6 (aal (show IxR _ (abv K) from aam) (pv 1) (pv 2) (fun _ _=>rfl)) aad) (aat _))) (fun _ _ _ _=>(pv 0))) aab)) aab))))))
  (aaf (aas (pv 5)))))))))),?_⟩
 refine abm h fun ss Q' q B hK=>?_
 refine exS4 ss q fun n a b es c=>?_
 have I:=c.1
 have g:=c.2.1
 have l:=c.2.2.1
 have a0:=c.2.2.2.1
 have W:=c.2.2.2.2.1
 have b0:=c.2.2.2.2.2.1
 have U:=c.2.2.2.2.2.2.1
 have k:=c.2.2.2.2.2.2.2.1
 have X:=c.2.2.2.2.2.2.2.2
 clear c q
 show EvS B _ _ [some (.st (webD n es)),some (.st (.int a)),some (.st (.int b)),none,none,none,none]
 have hs:∀ u v,Tied es u v->Tied es v u:=fun _ _ t=>t.symm
 row_cond go
 refine ⟨n,a,es,rfl,a0,W,?_⟩
 row_cond go
 refine ⟨n,b,es,rfl,b0,U,?_⟩
 row_cond go
 refine ⟨n,es,rfl,by omega,I,g,l,fun tl ht hu=>acw aih ?_⟩
 row_cond go
 refine ⟨n,b,Tied es,tl,rfl,I,ht,fun u v h=>(h.in g).2,b0,U,acw acq ?_⟩
 by_cases hno:∀ d,¬ Gr.Dist (Tied es) b a d
 ·have ha:atI (lab n.toNat (Gr.farO (Tied es) b)) a=some .none:=by rw [aed a0 (by omega),Gr.farO_none.mpr hno];rfl
  row_cond go
  refine ab6 ?_
  row_cond go
  exact X fun d h=>hno d (h.rev hs)
 obtain ⟨d,hd⟩:∃ d,Gr.Dist (Tied es) b a d:=aB2 fun q=>hno fun d h=>q ⟨d,h⟩
 have a5:d < 101:=by
  have:=hd.lt (n:=100) (fun u v h=>by have:=(h.in g).2;omega) (by omega)
  omega
 have ha:atI (lab n.toNat (Gr.farO (Tied es) b)) a=some (.int (d:Int)):=by rw [aed a0 (by omega),Gr.farO_some.mpr hd];rfl
 row_cond go
 refine acg ?_
 row_cond go
 refine ai0 (fun Z e=>∃ v6 pre here,e=[some (.st (webD n es)),some (.st (.int a)),some (.st (.int b)),some (.st (tlV tl)),some (.st (.list (lab n.toNat (Gr.farO (Tied es) b)))),some (.own (OL (List.map PyData.int (pre ++ [here])))),v6]/\WayAt (Tied es) a b d pre here/\0<=here/\here < n/\Z=d - pre.length) ⟨_,_,[],a,rfl,WayAt.start hd,a0,W,rfl⟩ ?_
 rintro Z e x
 refine exS3 e x fun v6 pre here c=>?_
 have y:=c.1
 have M:=c.2.1
 have h1:=c.2.2.1
 have J:=c.2.2.2
 clear c x
 subst J
 rw [aB8]
 have a4:=auv (pre.map PyData.int) (PyData.int here)
 have a2:=y.len
 row_cond go
 by_cases hb:here=b
 ·subst hb
  rw [aB5 rfl]
  refine acg ?_
  row_cond go
  have:=k _ _ hd y.fin
  rw [aB8] at this
  exact this
 ·have O:=y.not hb
  have hh:=y.here
  obtain ⟨us,r,R⟩:=ht.get M h1
  have a3:atI ((tlD tl).map PyData.list) here=some (.list (us.map .int)):=adq (f:=PyData.list) (acb M (af9 r))
  have a6:atI (lab n.toNat (Gr.farO (Tied es) b)) here=some (.int ((d - pre.length:Nat):Int)):=by rw [aed M (by omega),Gr.farO_some.mpr hh];rfl
  have o:us.length<=999999:=by have:=hu us (ay2 r);omega
  rw [aB4 hb]
  refine ab6 ?_
  row_cond go
  refine ajc (xs:=us) (f:=PyData.int) PyData.int (fun v=>decide (Gr.farO (Tied es) b v=some (d - (pre.length+1)))) rfl o (fun v hv B' hB=>?_) ?_
  ·have m:=(R v).mp hv
   have G:=(m.in g).2
   obtain ⟨e,_,he⟩:=hh.next m
   have a7:atI (lab n.toNat (Gr.farO (Tied es) b)) v=some (.int (e:Int)):=by rw [aed G.1 (by omega),Gr.farO_some.mpr he];rfl
   row_cond go
   refine ⟨?_,rfl,fun _=>?_⟩
   ·rw [Gr.farO_some.mpr he,aE8,decide_eq_true_iff,decide_eq_true_iff,Option.some.injEq]
    omega
   ·row_cond go
    exact rfl
  ·row_cond go
   refine aq7 ?_ fun p hp=>?_
   ·intro e0
    obtain ⟨u,t,C⟩:=(show Gr.Dist (Tied es) b here (d - (pre.length+1)+1) by rw [show d - (pre.length+1)+1=d - pre.length by omega];exact hh).pred
    have:u∈us.filter fun v=>decide (Gr.farO (Tied es) b v=some (d - (pre.length+1))):=List.mem_filter.mpr ⟨(R u).mpr (hs _ _ t),aB5 (Gr.farO_some.mpr C)⟩
    rw [e0] at this
    cases this
   ·obtain ⟨L,S⟩:=List.mem_filter.mp hp.1
    have Y:=(R p).mp L
    have dp:=Gr.farO_some.mp (of_decide_eq_true S)
    have j:=(Y.in g).2
    row_cond go
    exact ⟨d - (pre.length+1),by omega,_,pre ++ [here],p,by rw [aB8,aB8];rfl,y.more O Y dp,j.1,j.2,by simp⟩
end
theorem ahr {n:Int} {b:List Int} (o:Order n b) {y:Int} (d:0<=y) (c:y < n):∃ x,0<=x/\x < n/\aao b x=y:=by
 obtain ⟨i,hi⟩:=List.mem_iff_getElem?.mp (o.mem.mpr ⟨d,c⟩)
 have f:=o.len
 have:i < b.length:=(ay1.mp hi).1
 refine ⟨(i:Int),by omega,by omega,?_⟩
 have:=(o.at (a:=(i:Int)) (by omega) (by omega)).1
 rw [Int.toNat_natCast,hi] at this
 exact (aA5 this).symm
theorem ap2 {n:Int} {ps:List (Int × Int)} {c:List Int} (o:Order n c) (g:InN n ps) {v y:Int} (v0:0<=v) (j:v < n) (t:Tied (ps.map (reP c)) (aao c v) y):∃ w,0<=w/\w < n/\y=aao c w/\Tied ps v w:=by
 have inj:∀ {a b:Int},0<=a->a < n->0<=b->b < n->aao c a=aao c b->a=b:=fun a0 m b0 l e=>by
  apply aB2
  intro h
  exact o.ne a0 m b0 l h e
 have:∃ p∈ps,(aao c p.1=aao c v/\aao c p.2=y)\/(aao c p.2=aao c v/\aao c p.1=y):=by
  rcases t with t | t
  ·obtain ⟨p,d,e⟩:=az6.mp t
   refine ⟨p,d,?_⟩
   unfold reP at e
   split at e
   ·exact .inl ⟨congrArg Prod.fst e,congrArg Prod.snd e⟩
   ·exact .inr ⟨congrArg Prod.fst e,congrArg Prod.snd e⟩
  ·obtain ⟨p,d,e⟩:=az6.mp t
   refine ⟨p,d,?_⟩
   unfold reP at e
   split at e
   ·exact .inr ⟨congrArg Prod.snd e,congrArg Prod.fst e⟩
   ·exact .inl ⟨congrArg Prod.snd e,congrArg Prod.fst e⟩
 obtain ⟨p,d,h⟩:=this
 have hb:=g p d
 rcases h with ⟨f,i⟩ | ⟨f,i⟩
 ·have e:=inj hb.1 hb.2.1 v0 j f
  exact ⟨p.2,hb.2.2.1,hb.2.2.2,i.symm,.inl (by rw [← e];exact d)⟩
 ·have e:=inj hb.2.2.1 hb.2.2.2 v0 j f
  exact ⟨p.1,hb.1,hb.2.1,i.symm,.inr (by rw [← e];exact d)⟩
def addO:Option Nat->Option Nat->Option Nat
 | some x,some y=>some (x+y)
 | _,_=>none
def LeastO (xs:List (Option Nat)):Option Nat->Prop
 | none=>∀ x∈xs,x=none
 | some k=>some k∈xs/\∀ j,some j∈xs->k<=j
theorem LeastO.uniq {xs:List (Option Nat)} {m a:Option Nat} (h:LeastO xs m) (g:LeastO xs a):m=a:=by
 cases m with
 | none =>
  cases a with
  | none=>rfl
  | some k=>have:=h _ g.1;cases this
 | some k =>
  cases a with
  | none=>have:=g _ h.1;cases this
  | some k' =>
   have c:=h.2 k' g.1
   have b:=g.2 k h.1
   rw [show k=k' by omega]
theorem alz (es:List (Int × Int)) (u v:Int):Gr.farO (Tied es) u v=Gr.farO (Tied es) v u:=Gr.farO_comm (fun _ _ t=>Tied.symm t) u v
theorem far_zero {es:List (Int × Int)} {u v:Int}:Gr.farO (Tied es) u v=some 0 ↔ u=v:=by
 rw [Gr.farO_some]
 constructor
 ·intro h
  cases h.1
  rfl
 ·rintro rfl
  exact Gr.Dist.self _ _
theorem aik {es:List (Int × Int)} {u v:Int} (h:u ≠ v):Gr.farO (Tied es) u v=some 1 ↔ Tied es u v:=by
 rw [Gr.farO_some]
 constructor
 ·intro h
  have w:=h.1
  cases w with
  | step w t=>cases w;exact t
 ·intro t
  refine ⟨.step .refl t,fun k w=>?_⟩
  cases w with
  | refl=>exact absurd rfl h
  | step _ _=>omega
theorem acs {es:List (Int × Int)} {u v:Int} {k:Nat} (w:Gr.Walk (Tied es) u k v):∃ d,Gr.farO (Tied es) u v=some d/\d<=k:=by
 obtain ⟨d,b,a⟩:=Gr.Dist.of_walk w
 exact ⟨d,Gr.farO_some.mpr a,b⟩
theorem acd {es:List (Int × Int)} {u v:Int} {d:Nat} (h:Gr.farO (Tied es) u v=some d):Gr.Walk (Tied es) u d v:=(Gr.farO_some.mp h).1
theorem ap3 (es:List (Int × Int)) (a b c:Int):∀ k,addO (Gr.farO (Tied es) a b) (Gr.farO (Tied es) b c)=some k->∃ d,Gr.farO (Tied es) a c=some d/\d<=k:=fun k h=>by
 cases e1:Gr.farO (Tied es) a b with
 | none=>rw [e1] at h;cases h
 | some x =>
  cases e2:Gr.farO (Tied es) b c with
  | none=>rw [e1,e2] at h;cases h
  | some y =>
   rw [e1,e2] at h
   cases h
   exact acs ((acd e1).app (acd e2))
theorem arv {es qs:List (Int × Int)} {s t:Int} (h:∀ p,p∈qs ↔ p∈es\/p=(s,t)) {u v:Int} {k:Nat} (w:Gr.Walk (Tied qs) u k v):(∃ m,m<=k/\Gr.Walk (Tied es) u m v)\/(∃ m b,m+1+b<=k/\Gr.Walk (Tied es) u m s/\Gr.Walk (Tied es) t b v)\/∃ m b,m+1+b<=k/\Gr.Walk (Tied es) u m t/\Gr.Walk (Tied es) s b v:=by
 induction w with
 | refl=>exact .inl ⟨0,ay6 _,.refl⟩
 | @step k x y _ tt ih =>
  have g:Tied es x y\/(x=s/\y=t)\/(x=t/\y=s):=by
   rcases tt with z | z <;> rcases (h _).mp z with z | z
   ·exact .inl (.inl z)
   ·cases z;exact .inr (.inl ⟨rfl,rfl⟩)
   ·exact .inl (.inr z)
   ·cases z;exact .inr (.inr ⟨rfl,rfl⟩)
  rcases g with f | ⟨rfl,rfl⟩ | ⟨rfl,rfl⟩
  ·rcases ih with ⟨m,c,a⟩ | ⟨m,b,c,a,d⟩ | ⟨m,b,c,a,d⟩
   ·exact .inl ⟨m+1,by omega,a.step f⟩
   ·exact .inr (.inl ⟨m,b+1,by omega,a,d.step f⟩)
   ·exact .inr (.inr ⟨m,b+1,by omega,a,d.step f⟩)
  ·rcases ih with ⟨m,c,a⟩ | ⟨m,b,c,a,d⟩ | ⟨m,b,c,a,d⟩
   ·exact .inr (.inl ⟨m,0,by omega,a,.refl⟩)
   ·exact .inr (.inl ⟨m,0,by omega,a,.refl⟩)
   ·exact .inl ⟨m,by omega,a⟩
  ·rcases ih with ⟨m,c,a⟩ | ⟨m,b,c,a,d⟩ | ⟨m,b,c,a,d⟩
   ·exact .inr (.inr ⟨m,0,by omega,a,.refl⟩)
   ·exact .inl ⟨m,by omega,a⟩
   ·exact .inr (.inr ⟨m,0,by omega,a,.refl⟩)
theorem ae1 {es qs:List (Int × Int)} (h:∀ p∈es,p∈qs) {u v:Int} {k:Nat} (w:Gr.Walk (Tied es) u k v):Gr.Walk (Tied qs) u k v:=w.rec .refl fun _ t a => .step a (t.imp (h _) (h _))
theorem auw {es qs:List (Int × Int)} {s t:Int} (q:∀ p,p∈qs ↔ p∈es\/p=(s,t)) (a b:Int):LeastO [Gr.farO (Tied es) a b,addO (addO (Gr.farO (Tied es) a s) (Gr.farO (Tied es) t b)) (some 1),addO (addO (Gr.farO (Tied es) a t) (Gr.farO (Tied es) s b)) (some 1)] (Gr.farO (Tied qs) a b):=by
 have l:Tied qs s t:=.inl ((q _).mpr (.inr rfl))
 have g:∀ p∈es,p∈qs:=fun p h=>(q p).mpr (.inl h)
 have o:∀ {k:Nat},some k ∈ [Gr.farO (Tied es) a b,addO (addO (Gr.farO (Tied es) a s) (Gr.farO (Tied es) t b)) (some 1),addO (addO (Gr.farO (Tied es) a t) (Gr.farO (Tied es) s b)) (some 1)]->∃ d,Gr.farO (Tied qs) a b=some d/\d<=k:=fun {k} h=>by
  simp only [ay8,List.not_mem_nil,or_false] at h
  rcases h with h | h | h
  ·exact acs (ae1 g (acd h.symm))
  ·cases c:Gr.farO (Tied es) a s with
   | none=>rw [c] at h;cases h
   | some x =>
    cases f:Gr.farO (Tied es) t b with
    | none=>rw [c,f] at h;cases h
    | some y =>
     rw [c,f] at h
     have u:k=x+y+1:=aA5 h
     obtain ⟨d,i,w⟩:=acs ((Gr.Walk.step (ae1 g (acd c)) l).app (ae1 g (acd f)))
     exact ⟨d,i,by omega⟩
  ·cases c:Gr.farO (Tied es) a t with
   | none=>rw [c] at h;cases h
   | some x =>
    cases f:Gr.farO (Tied es) s b with
    | none=>rw [c,f] at h;cases h
    | some y =>
     rw [c,f] at h
     have u:k=x+y+1:=aA5 h
     obtain ⟨d,i,w⟩:=acs ((Gr.Walk.step (ae1 g (acd c)) l.symm).app (ae1 g (acd f)))
     exact ⟨d,i,by omega⟩
 have down:∀ {d:Nat},Gr.farO (Tied qs) a b=some d->∃ k,some k ∈ [Gr.farO (Tied es) a b,addO (addO (Gr.farO (Tied es) a s) (Gr.farO (Tied es) t b)) (some 1),addO (addO (Gr.farO (Tied es) a t) (Gr.farO (Tied es) s b)) (some 1)]/\k<=d:=fun {d} h=>by
  rcases arv q (acd h) with ⟨m,i,n⟩ | ⟨m,E,i,n,r⟩ | ⟨m,E,i,n,r⟩
  ·obtain ⟨x,c,v⟩:=acs n
   exact ⟨x,by rw [c];simp,by omega⟩
  ·obtain ⟨x,c,v⟩:=acs n
   obtain ⟨y,f,C⟩:=acs r
   exact ⟨x+y+1,by rw [c,f];simp [addO],by omega⟩
  ·obtain ⟨x,c,v⟩:=acs n
   obtain ⟨y,f,C⟩:=acs r
   exact ⟨x+y+1,by rw [c,f];simp [addO],by omega⟩
 cases e:Gr.farO (Tied qs) a b with
 | none =>
  intro x D
  cases x with
  | none=>rfl
  | some k=>obtain ⟨d,h,_⟩:=o D;rw [e] at h;cases h
 | some d =>
  obtain ⟨k,i,w⟩:=down e
  obtain ⟨d',z,H⟩:=o i
  rw [e] at z
  cases z
  have u:k=d:=by omega
  subst u
  refine ⟨i,fun j B=>?_⟩
  obtain ⟨G,A,F⟩:=o B
  rw [e] at A
  cases A
  exact F
theorem aux {n:Int} {ps:List (Int × Int)} {c:List Int} {u v:Int} (t:Tied ps u v):Tied (ps.map (reP c)) (aao c u) (aao c v):=by
 have d:∀ {a b:Int},(a,b)∈ps->Tied (ps.map (reP c)) (aao c a) (aao c b):=fun {a b} h=>by
  have hm:=List.mem_map_of_mem (f:=reP c) h
  unfold reP at hm
  simp only at hm
  split at hm
  ·exact .inl hm
  ·exact .inr hm
 rcases t with h | h
 ·exact d h
 ·exact (d h).symm
theorem afx {n:Int} {es qs:List (Int × Int)} {a:List Int} (m:Order n a) (g:InN n es) (p:qs.Perm (es.map (reP a))) {u v:Int} (q:0<=u) (B:u < n) (v0:0<=v) (A:v < n):Gr.farO (Tied qs) (aao a u) (aao a v)=Gr.farO (Tied es) u v:=by
 have o:∀ x y,Tied qs x y ↔ Tied (es.map (reP a)) x y:=fun x y=>or_congr p.mem_iff p.mem_iff
 have to:∀ {k:Nat} {y:Int},Gr.Walk (Tied es) u k y->Gr.Walk (Tied qs) (aao a u) k (aao a y):=fun w=>w.rec .refl fun _ t i => .step i ((o _ _).mpr (aux (n:=n) t))
 have c:∀ {k:Nat} {y:Int},Gr.Walk (Tied qs) (aao a u) k y->∃ x,0<=x/\x < n/\y=aao a x/\Gr.Walk (Tied es) u k x:=by
  intro k y w
  induction w with
  | refl=>exact ⟨u,q,B,rfl,.refl⟩
  | step _ t i =>
   obtain ⟨x,f,j,rfl,w⟩:=i
   obtain ⟨z,s,r,rfl,t'⟩:=ap2 m g f j ((o _ _).mp t)
   exact ⟨z,s,r,rfl,w.step t'⟩
 have b:∀ {k:Nat},Gr.Walk (Tied qs) (aao a u) k (aao a v)->Gr.Walk (Tied es) u k v:=fun {k} w=>by
  obtain ⟨x,f,j,e,w⟩:=c w
  have:x=v:=aB2 fun h=>m.ne f j v0 A h e.symm
  exact this ▸ w
 cases e:Gr.farO (Tied es) u v with
 | none =>
  refine Gr.farO_none.mpr fun d h=>?_
  obtain ⟨d',l,_⟩:=acs (b h.1)
  rw [e] at l
  cases l
 | some d=>exact Gr.farO_some.mpr ⟨to (acd e),fun k w=>(Gr.farO_some.mp e).2 k (b w)⟩
theorem ahs {n:Int} {es:List (Int × Int)} (g:1<=n):Joined n es ↔ ∀ u v:Int,0<=u->u < n->0<=v->v < n->Gr.farO (Tied es) u v ≠ none:=by
 constructor
 ·intro h u v c f v0 a e
  obtain ⟨k,w⟩:=h.conn u v c f v0 a
  obtain ⟨d,b,_⟩:=acs w
  rw [b] at e
  cases e
 ·intro h v v0 a
  cases e:Gr.farO (Tied es) 0 v with
  | none=>exact absurd e (h 0 v (by omega) (by omega) v0 a)
  | some d=>exact ⟨d,Gr.farO_some.mp e⟩
theorem ame {n:Int} {es qs:List (Int × Int)} {c:List Int} (l:1<=n) (a:Order n c) (b:InN n es) (p:qs.Perm (es.map (reP c))):Joined n qs ↔ Joined n es:=by
 rw [ahs l,ahs l]
 constructor
 ·intro h u v d g v0 f
  have i:=a.at d g
  have o:=a.at v0 f
  rw [← afx a b p d g v0 f]
  exact h _ _ i.2.1 i.2.2 o.2.1 o.2.2
 ·intro h u v d g v0 f
  obtain ⟨x,j,q,rfl⟩:=ahr a d g
  obtain ⟨y,r,m,rfl⟩:=ahr a v0 f
  rw [afx a b p j q r m]
  exact h x y j q r m
def ab8 (n:Int):PyData->Bool
 | .tuple [.int a,.int b]=>decide (0<=a/\a<=n - 1) && decide (0<=b/\b<=n - 1) && decide (a < b)
 | _=>false
def ae8 (n:Int):PyData->Bool
 | .list ds=>ds.all (ab8 n)
 | _=>false
def ayc:VP:=fun ss Q=>∃ (n:Int) (d:PyData),ss=[.st (.int n),.st d]/\Q (.st (.bool (ab8 n d)))
def aw6:VP:=fun ss Q=>∃ (n:Int) (d:PyData),ss=[.st (.int n),.st d]/\(∀ ds,d=.list ds->ds.length<=100000)/\Q (.st (.bool (ae8 n d)))
def arw:VP:=fun ss Q=>∃ (ps:List (Int × Int)),ss=[.st (.list (ps.map prD))]/\ps.length<=100000/\∀ b:Bool,(b=true ↔ Rise ps)->Q (.st (.bool b))
section
variable {P:Program} {w:World} {K:Frag} {mg:Str->Option Value} {base:Heap}
theorem sc_is_tie:FnScope ["n","thing","a","b"] ["n","thing"] (aaj s_is_tie):=by row_cond sc
theorem aof (T:Txt K mg):Can P w K mg base "is_tie" 4 ["n","thing"] (spP K (ayc)):=by
 obtain ⟨f,fd,D⟩:=T.d_is_tie
 refine D.can (D.fn.ok sc_is_tie (fun vs H Q E h=>lenP h fun ss m q=>by obtain ⟨n,d,rfl,k⟩:=q;rfl) (fun cdv A outer s H vs Q E l h=>?_))
 have nd:=sc_is_tie.nd
 refine ⟨_,(aac (aa5 (PW.pt (adv (adk (adj (aah aeb (by rfl) T.b_isinstance acf (aaa (pv 1) (aaa (aes (v:=.ty "tuple") rfl T.b_tuple akq rfl) aab))))) (ad4 (aaw acj (aah abk (by rfl) T.b_len ace (aaa (pv 1) aab)) aad (aat _)))))
   (aaf (aas abh))
   aaz)
  (aac (acl (pv 1) (aet rfl (aa8 (aap (i:=2) nd rfl (Or.inl rfl)) (aa8 (aap (i:=3) nd rfl (Or.inl rfl)) ac7))))
  (aaf (aas (adl (aae (aef T) l (aaa (pv 0) (aaa (pv 2) aab))) (adl (aae (aef T) l (aaa (pv 0) (aaa (pv 3) aab))) (ad5 (abe ar4 (pv 2) (pv 3) (aat _))))))))),?_⟩
 refine abm h fun ss m q B o=>?_
 refine exS2 ss q fun n d g=>?_
 have k:=g
 clear g q
 show EvS B _ _ [some (.st (.int n)),some (.st d),none,none]
 row_cond go
 cases d with
 | tuple xs =>
  refine ah9 ?_
  row_cond go
  rcases (show xs.length=2\/xs.length ≠ 2 by omega) with j | j
  ·match xs,j with
   | [x,y],_ =>
    row_cond go
    refine ⟨n,x,rfl,?_⟩
    row_cond go
    have c:ab8 n (.tuple [x,y])=(btwD 0 (n - 1) x && (btwD 0 (n - 1) y && match x,y with | .int a,.int b=>decide (a < b) | _,_=>false)):=by
     cases x <;> cases y <;> simp [ab8,btwD,Bool.and_assoc]
    cases hx:btwD 0 (n - 1) x with
    | false =>
     rw [hx,Bool.false_and] at c
     refine acg ?_
     rw [← c];exact k
    | true =>
     refine ab6 ?_
     row_cond go
     refine ⟨n,y,rfl,?_⟩
     row_cond go
     cases hy:btwD 0 (n - 1) y with
     | false =>
      rw [hx,hy] at c
      refine acg ?_
      rw [show false=ab8 n (.tuple [x,y]) by rw [c];rfl];exact k
     | true =>
      refine ab6 ?_
      cases x with
      | int a =>
       cases y with
       | int b =>
        row_cond go
        rw [hx,hy] at c
        rw [show decide (a < b)=ab8 n (.tuple [.int a,.int b]) by rw [c];rfl];exact k
       | _=>simp [btwD] at hy
      | _=>simp [btwD] at hx
  ·row_cond go
   have:ab8 n (.tuple xs)=false:=by
    match xs,j with
    | [],_=>rfl
    | [x],_=>cases x <;> rfl
    | [_,_],h=>exact absurd rfl h
    | x :: y :: _ :: _,_=>cases x <;> cases y <;> rfl
   rw [← this];exact k
 | _ =>
  refine aia ?_
  row_cond go
  exact k
theorem sc_are_ties:FnScope ["n","thing"] ["n","thing"] (aaj s_are_ties):=by row_cond sc
theorem al0 (T:Txt K mg):Can P w K mg base "are_ties" 5 ["n","thing"] (spP K (aw6)):=by
 obtain ⟨f,fd,D⟩:=T.d_are_ties
 refine D.can (D.fn.ok sc_are_ties (fun vs H Q E h=>lenP h fun ss c q=>by obtain ⟨n,d,rfl,b,k⟩:=q;rfl) (fun cdv A outer s H vs Q E g h=>?_))
 have nd:=sc_are_ties.nd
 refine ⟨_,(aaf (aas (adl (aah aeb (by rfl) T.b_isinstance acf (aaa (pv 1) (aaa (aes (v:=.ty "list") rfl T.b_list amv rfl) aab))) (ad5 (aah (ai8 rfl) (by rfl) T.b_all ao7 (aaa (ady rfl (N:=["tie","n"]) (src:=[none,some 0]) (by exact ab4 rfl rfl rfl rfl rfl rfl) (abw (pv 1)) (fun _ _ _ _=>(aap (i:=0) (show List.Nodup (["tie","n"]:List Str) by decide +kernel) rfl (Or.inl rfl) (hf:=Or.inr rfl))) (fun _ _ _ _=>acu) (fun _ _ _ _=>(aae (aof T) g (aaa (pv 1) (aaa (pv 0) aab))))) aab)))))),?_⟩
 refine abm h fun ss c q B j=>?_
 refine exS2 ss q fun n d a=>?_
 have b:=a.1
 have k:=a.2
 clear a q
 show EvS B _ _ [some (.st (.int n)),some (.st d)]
 row_cond go
 cases d with
 | list ds =>
  have b:=b ds rfl
  refine ab6 ?_
  row_cond go
  refine am6 (fun t => .bool (ab8 n t)) rfl (by omega) (fun t _ m l=>?_) ?_
  ·row_cond go
   exact ⟨n,t,rfl,rfl,rfl⟩
  ·row_cond go
   rw [show (ds.map fun t=>PyData.bool (ab8 n t))=(ds.map (ab8 n)).map .bool by rw [aB6];rfl]
   refine anf ?_
   row_cond go
   rw [show (ds.map (ab8 n)).all id=ae8 n (.list ds) by simp [ae8,List.all_map]]
   exact k
 | _ =>
  refine acg ?_
  exact k
theorem sc_is_rising:FnScope ["things"] ["things"] (aaj s_is_rising):=by row_cond sc
theorem ajt (T:Txt K mg):Can P w K mg base "is_rising" 1 ["things"] (spP K (arw)):=by
 obtain ⟨f,fd,D⟩:=T.d_is_rising
 refine D.can (D.fn.ok sc_is_rising (fun vs H Q E h=>lenP h fun ss l q=>by obtain ⟨ps,rfl,m,k⟩:=q;rfl) (fun cdv A outer s H vs Q E n h=>?_))
 have nd:=sc_is_rising.nd
 refine ⟨_,(aaf (aas (aah (ai8 rfl) (by rfl) T.b_all ao7 (aaa (ady rfl (N:=["at","things"]) (src:=[none,some 0]) (by exact ab4 rfl rfl rfl rfl rfl rfl) (abj rfl T.b_range (aaa (aau ad6 (aah abk (by rfl) T.b_len ace (aaa (pv 0) aab)) aad) aab)) (fun _ _ _ _=>(aap (i:=0) (show List.Nodup (["at","things"]:List Str) by decide +kernel) rfl (Or.inl rfl) (hf:=Or.inr rfl))) (fun _ _ _ _=>acu) (fun _ _ _ _=>(abe (show OpR _ (compareOp .Lt) (rLtT K) from ave n.units0) (aal (show IxR _ (abv K) from aam) (pv 1) (pv 0) (fun _ _=>rfl)) (aal (show IxR _ (abv K) from aam) (pv 1) (aau aa7 (pv 0) aad) (fun _ _=>rfl)) (aat _)))) aab)))),?_⟩
 refine abm h fun ss l q B o=>?_
 refine exS1 ss q fun ps a=>?_
 have m:=a.1
 have k:=a.2
 clear a q
 show EvS B _ _ [some (.st (.list (ps.map prD)))]
 row_cond go
 rw [ay3]
 row_cond go
 refine am6 (fun d=>match d with | .int i => .bool (match ps[i.toNat]?,ps[i.toNat+1]? with | some p,some q=>HT.lexLt (p2 p) (p2 q) | _,_=>false) | _ => .none) rfl (by rw [aci];omega) (fun d hd u r=>?_) ?_
 ·obtain ⟨i,hi⟩:=List.mem_iff_getElem?.mp hd
  obtain ⟨hi,rfl⟩:=ae5 hi
  have c:i < ps.length:=by omega
  have j:i+1 < ps.length:=by omega
  have x:atI (ps.map prD) (0+(i:Int))=some (prD ps[i]):=adq (f:=prD) (acb (by omega) (by rw [show (0+(i:Int)).toNat=i by omega];exact ay0 c))
  have v:atI (ps.map prD) (0+(i:Int)+1)=some (prD ps[i+1]):=adq (f:=prD) (acb (by omega) (by rw [show (0+(i:Int)+1).toNat=i+1 by omega];exact ay0 j))
  row_cond go
  refine aul ?_
  row_cond go
  refine ⟨?_,rfl⟩
  simp [c,j]
 ·row_cond go
  have e:(rngD 0 ((ps.length:Int) - 1).toNat).map (fun d=>match d with | .int i=>PyData.bool (match ps[i.toNat]?,ps[i.toNat+1]? with | some p,some q=>HT.lexLt (p2 p) (p2 q) | _,_=>false) | _ => .none)=((List.range (ps.length - 1)).map fun i=>match ps[i]?,ps[i+1]? with | some p,some q=>HT.lexLt (p2 p) (p2 q) | _,_=>false).map .bool:=by
   unfold rngD
   rw [aB6,aB6,show ((ps.length:Int) - 1).toNat=ps.length - 1 by omega]
   apply aC1
   intro i _
   simp
  rw [e]
  refine anf ?_
  row_cond go
  refine k _ ?_
  rw [List.all_map,aC4]
  unfold Rise
  rw [als ltP (fun h g=>apq h g)]
  constructor
  ·intro h i hi
   have:=h i (az8.mpr (by omega))
   simp [show i < ps.length by omega,hi] at this
   exact (lex2 _ _).mp this
  ·intro h i hi
   have b:i+1 < ps.length:=by have:=az8.mp hi;omega
   have:=(lex2 _ _).mpr (h i b)
   simp [show i < ps.length by omega,b,this]
end
def aog (K:Frag):Sp:=fun vs H Q _=>∃ (a:Addr) (ns:List Int),vs=[.ref a]/\SqL K H a (ns.map V.int)/\ns.length<=63/\∀ H',Q (.bl true) H'
def asi:VP:=fun ss Q=>∃ ns:List Int,ss=[.scr ns]/\ns.length<=63/\Q (.st (.bool true))
theorem arx {K:Frag} {vs:List V} {H:Hp} {Q:VK} {E:XK} (h:aog K vs H Q E):spP K asi vs H Q E:=by
 obtain ⟨a,ns,rfl,b,c,k⟩:=h
 refine ⟨H,[.scr ns],fun s=>s=.st (.bool true),Same.refl _,fun a d h=>h,.cons ⟨a,rfl,b⟩ .nil,⟨ns,rfl,c,rfl⟩,fun s e v G' H' Fv o=>?_⟩
 subst e
 have r:=o.ok.1
 cases r
 exact k _
theorem aa4 (x:Option Nat):aaq (oD x)=true:=by cases x <;> rfl
theorem act (x:Option Nat):(oD x).depth<=60:=by cases x <;> simp [oD,PyData.depth]
theorem aw7 {x y:Option Nat} (h:oD x=oD y):x=y:=by
 cases x <;> cases y <;> simp [oD] at h ⊢
 omega
theorem ag0:isNone (oD none)=true:=rfl
theorem ae9 (k:Nat):¬ isNone (oD (some k))=true:=fun z=>nomatch z
theorem afy (k:Nat):oD (some k)=PyData.int (k:Int):=rfl
theorem afz:∀ xs:List (Option Nat),(xs.filter fun x=>x.isSome).map oD=(xs.filterMap id).map (PyData.int ∘ fun k:Nat=>(k:Int))
 | []=>rfl
 | none :: xs=>afz xs
 | some k :: xs=>congrArg (PyData.int (k:Int) :: ·) (afz xs)
theorem ary {xs:List (Option Nat)} {a:List Int} (c:a.Perm ((xs.filterMap id).map fun k:Nat=>(k:Int))) (d:a.Pairwise (·<=·)):LeastO xs (a.head?.map Int.toNat):=by
 have hm:∀ k:Nat,(k:Int)∈a ↔ some k∈xs:=fun k=>by
  rw [c.mem_iff,az6]
  constructor
  ·rintro ⟨j,b,e⟩
   have:j=k:=by omega
   subst this
   simpa using b
  ·intro h
   exact ⟨k,by simpa using h,rfl⟩
 cases a with
 | nil =>
  intro x f
  cases x with
  | none=>rfl
  | some k=>have:=(hm k).mpr f;cases this
 | cons y ys =>
  obtain ⟨k,_,e⟩:=az6.mp (c.mem_iff.mp az7)
  subst e
  refine ⟨(hm k).mp az7,fun j b=>?_⟩
  rcases ay8.mp ((hm j).mpr b) with e | e
  ·omega
  ·have:=(aF4.mp d).1 _ e
   show (k:Int).toNat<=j
   omega
theorem aht (x:Option Nat) (k:Nat):PyData.eqv (oD x) (.int (k:Int))=decide (x=some k):=by
 rw [aE8,ael _ _ (aa4 x) rfl,decide_eq_true_iff]
 exact ⟨fun h=>aw7 (y:=some k) h,fun h=>by rw [h];rfl⟩
theorem aw8 (n:Nat) (f:Int->Option Nat):(PyData.list (lab n f)).depth<=60:=by
 have h:PyData.depthAll (lab n f)<=1:=amb fun d hd=>by
  obtain ⟨i,_,rfl⟩:=az6.mp hd
  cases f (i:Int) <;> simp [oD,PyData.depth]
 simp only [PyData.depth]
 omega
def ayd:VP:=fun ss Q=>∃ x y:Option Nat,ss=[.st (oD x),.st (oD y)]/\Q (.st (oD (addO x y)))
def auy:VP:=fun ss Q=>∃ xs:List (Option Nat),ss=[.st (.list (xs.map oD))]/\xs.length<=20/\∀ m,LeastO xs m->Q (.st (oD m))
def auz:VP:=fun ss Q=>∃ (n:Int) (es:List (Int × Int)),ss=[.st (webD n es)]/\1<=n/\n<=60/\PsOk n es/\Rise es/\es.length<=10000/\Q (.st (.bool true))
structure DW (n:Int) (es:List (Int × Int)):Prop where
 lo:1<=n
 hi:n<=60
 ps:PsOk n es
 len:es.length<=2000
theorem DW.inn {n:Int} {es:List (Int × Int)} (h:DW n es):InN n es:=fun p a=>by have:=h.ps.inn p a;exact ⟨by omega,by omega,by omega,by omega⟩
theorem ail {n:Int} {es:List (Int × Int)} (h:PsOk n es) (a b:Int):(if b < a then b else a,if b > a then b else a)∈es ↔ Tied es a b:=by
 by_cases hab:b < a
 ·rw [aC5 hab,aC6 (by omega)]
  refine ⟨fun z => .inr z,fun z=>?_⟩
  rcases z with z | z
  ·have:=h.inn _ z
   simp only at this
   omega
  ·exact z
 ·by_cases e:a=b
  ·subst e
   rw [aC6 hab]
   exact ⟨fun z => .inl (by simpa using z),fun z=>by simpa using z.elim id id⟩
  ·rw [aC6 hab,aC5 (by omega)]
   refine ⟨fun z => .inl z,fun z=>?_⟩
   rcases z with z | z
   ·exact z
   ·have:=h.inn _ z
    simp only at this
    omega
theorem aim {n:Int} {es:List (Int × Int)} (h:PsOk n es) {a b:Int} (t:Tied es a b):a ≠ b:=by
 rcases t with z | z <;> have:=h.inn _ z <;> simp only at this <;> omega
theorem aye {x y:Int} {ns:List Int} (i:ns.Perm [x,y]) (d:ns.Pairwise (·<=·)):ns=if x < y then [x,y] else [y,x]:=by
 have c:(if x < y then [x,y] else [y,x]).Perm [x,y]:=by
  split
  ·exact List.Perm.refl _
  ·exact List.Perm.swap _ _ _
 have f:(if x < y then [x,y] else [y,x]).Pairwise (·<=·):=by
  split <;> simp <;> omega
 exact (i.trans c.symm).eq_of_pairwise (fun a b _ _ h g=>Int.le_antisymm h g) d f
def au0:VP:=fun ss Q=>∃ (n a b:Int) (es:List (Int × Int)),ss=[.st (webD n es),.st (.int a),.st (.int b)]/\DW n es/\0<=a/\a < n/\0<=b/\b < n/\Q (.st (.bool true))
def au1:VP:=fun ss Q=>∃ (n a b c:Int) (es:List (Int × Int)),ss=[.st (webD n es),.st (.int a),.st (.int b),.st (.int c)]/\DW n es/\0<=a/\a < n/\0<=b/\b < n/\0<=c/\c < n/\Q (.st (.bool true))
def aw9:VP:=fun ss Q=>∃ (n a b s t:Int) (es qs:List (Int × Int)),ss=[.st (webD n es),.st (webD n qs),.st (prD (s,t)),.st (.int a),.st (.int b)]/\DW n es/\InN n qs/\qs.length<=3000/\(∀ p,p∈qs ↔ p∈es\/p=(s,t))/\0<=s/\s < n/\0<=t/\t < n/\0<=a/\a < n/\0<=b/\b < n/\Q (.st (.bool true))
theorem axa (a:List Int) (p:Int × Int):PyData.tuple [.int (if aao a p.2 < aao a p.1 then aao a p.2 else aao a p.1),.int (if aao a p.2 > aao a p.1 then aao a p.2 else aao a p.1)]=prD (reP a p):=by
 unfold reP prD
 split <;> split <;> first | rfl | omega | (simp only [PyData.tuple.injEq,List.cons.injEq,PyData.int.injEq,and_true];omega)
def arz:VIo:=fun A ss Q=>∃ (n:Int) (es:List (Int × Int)),A=ODk/\ss=[.st (webD n es)]/\DW n es/\Q ODk (.st (.bool true))
section
variable {P:Program} {w:World} {K:Frag} {mg:Str->Option Value} {base:Heap}
theorem sc_is_web:FnScope ["thing","n","ties"] ["thing"] (aaj s_is_web):=by row_cond sc
theorem aoh (T:Txt K mg):Can P w K mg base "is_web" 6 ["thing"] (spP K (auz)):=by
 obtain ⟨f,fd,D⟩:=T.d_is_web
 obtain ⟨d,a⟩:=T.v_MOST_PLACES
 refine D.can (D.fn.ok sc_is_web (fun vs H Q E h=>lenP h fun ss o q=>by obtain ⟨n,es,rfl,u,z,j,l,C,m⟩:=q;rfl) (fun cdv A outer s H vs Q E g h=>?_))
 have nd:=sc_is_web.nd
 refine ⟨_,(aac (aa5 (PW.pt (adv (adk (adj (aah aeb (by rfl) T.b_isinstance acf (aaa (pv 0) (aaa (aes (v:=.ty "tuple") rfl T.b_tuple akq rfl) aab))))) (ad4 (aaw acj (aah abk (by rfl) T.b_len ace (aaa (pv 0) aab)) aad (aat _)))))
   (aaf (aas abh))
   aaz)
  (aac (acl (pv 0) (aet rfl (aa8 (aap (i:=1) nd rfl (Or.inl rfl)) (aa8 (aap (i:=2) nd rfl (Or.inl rfl)) ac7))))
  (aaf (aas (adl (aae (ae0 T) g (aaa aad (aaa (asm (v:=.int 60) rfl a ⟨_,rfl⟩) (aaa (pv 1) aab)))) (adl (aae (al0 T) g (aaa (pv 1) (aaa (pv 2) aab))) (ad5 (aae (ajt T) g (aaa (pv 2) aab))))))))),?_⟩
 refine abm h fun ss o q B F=>?_
 refine exS2 ss q fun n es c=>?_
 have u:=c.1
 have z:=c.2.1
 have j:=c.2.2.1
 have l:=c.2.2.2.1
 have C:=c.2.2.2.2.1
 have m:=c.2.2.2.2.2
 clear c q
 show EvS B _ _ [some (.st (webD n es)),none,none]
 have x:isiD "tuple" (webD n es)=true:=rfl
 have r:ae8 n (.list (es.map prD))=true:=by
  show ((es.map prD).all (ab8 n))=true
  rw [List.all_map,aC4]
  intro p y
  have:=j.inn p y
  simp [ab8,prD];omega
 row_cond go
 rw [x]
 row_cond go
 refine alg ?_
 row_cond go
 refine ⟨1,60,_,rfl,?_⟩
 rw [show btwD 1 60 (.int n)=true by simp [btwD];omega]
 row_cond go
 refine ⟨n,_,rfl,fun ds e=>by cases e;rw [ay3];omega,?_⟩
 rw [r]
 row_cond go
 refine ⟨es,rfl,by omega,fun b hb=>?_⟩
 obtain rfl:=hb.mpr l
 row_cond go
 exact m
theorem sc_law_sum:FnScope ["one","other"] ["one","other"] (aaj s_law_sum):=by row_cond sc
theorem acy (T:Txt K mg):Can P w K mg base "_law_sum" 1 ["one","other"] (spP K (ayd)):=by
 obtain ⟨f,fd,D⟩:=T.d_law_sum
 refine D.can (D.fn.ok sc_law_sum (fun vs H Q E h=>lenP h fun ss c q=>by obtain ⟨x,y,rfl,b⟩:=q;rfl) (fun cdv A outer s H vs Q E g h=>?_))
 have nd:=sc_law_sum.nd
 refine ⟨_,(aac (aa5 (PW.pt (adv (aaw ac8 (pv 0) abn (aat _)) (ad4 (aaw ac8 (pv 1) abn (aat _)))))
   (aaf (aas abn))
   aaz)
  (aaf (aas (aau aa7 (pv 0) (pv 1))))),?_⟩
 refine abm h fun ss c q B d=>?_
 refine exS2 ss q fun x y a=>?_
 have b:=a
 clear a q
 show EvS B _ _ [some (.st (oD x)),some (.st (oD y))]
 cases x with
 | none =>
  row_cond go
  rw [aC5 ag0]
  row_cond go
  exact b
 | some x =>
  cases y with
  | none =>
   row_cond go
   rw [aC6 (ae9 x)]
   row_cond go
   rw [aC5 ag0]
   row_cond go
   exact b
  | some y =>
   row_cond go
   rw [aC6 (ae9 x)]
   row_cond go
   rw [aC6 (ae9 y),afy,afy]
   row_cond go
   rw [show (x:Int)+(y:Int)=((x+y:Nat):Int) by omega]
   exact b
theorem sc_law_least:FnScope ["fars","some"] ["fars"] (aaj s_law_least):=by row_cond sc
theorem aju (T:Txt K mg):Can P w K mg base "_law_least" 1 ["fars"] (spP K (auy)):=by
 obtain ⟨f,fd,D⟩:=T.d_law_least
 refine D.can (D.fn.ok sc_law_least (fun vs H Q E h=>lenP h fun ss m q=>by obtain ⟨xs,rfl,b,g⟩:=q;rfl) (fun cdv A outer s H vs Q E C h=>?_))
 have nd:=sc_law_least.nd
 refine ⟨_,(aac (aar (i:=1) nd rfl (Or.inl rfl) (aah ag9 (by rfl) T.b_sorted acn (aaa (ady rfl (N:=["far"]) (src:=[none]) (by exact ab4 rfl rfl rfl rfl rfl rfl) (abw (pv 0)) (fun _ _ _ _=>(aap (i:=0) (show List.Nodup (["far"]:List Str) by decide +kernel) rfl (Or.inl rfl) (hf:=Or.inr rfl))) (fun _ _ _ _=>amn (aaw aky (pv 0) abn (aat _))) (fun _ _ _ _=>(pv 0))) aab)))
  (aaf (aas (aal aam (aau akj (pv 1) (aa9 (aaa abn aab))) aad (fun _ _=>rfl))))),?_⟩
 refine abm h fun ss m q B r=>?_
 refine exS1 ss q fun xs a=>?_
 have b:=a.1
 have g:=a.2
 clear a q
 show EvS B _ _ [some (.st (.list (xs.map oD))),none]
 repeat (first | (refine aja ?_) | row_cond st)
 refine ajc (xs:=xs) (f:=oD) oD (fun x=>x.isSome) rfl (by omega) (fun x z v u=>?_) ?_
 ·row_cond go
  refine ⟨by cases x <;> rfl,rfl,fun _=>?_⟩
  row_cond go
  exact rfl
 ·row_cond go
  refine ⟨(xs.filterMap id).map fun k:Nat=>(k:Int),by rw [aB6];exact congrArg (fun l=>[PyData.list l]) (afz xs),by rw [ay3];exact aB7 (List.length_filterMap_le _ _) (by omega),fun c d o=>acw acq ?_⟩
  have n:c.length<=20:=by rw [d.length_eq,ay3];exact aA9 (List.length_filterMap_le _ _) b
  have j:=ary d o
  have p:atI (c.map PyData.int ++ [PyData.none]) 0=some (oD (c.head?.map Int.toNat)):=by
   cases c with
   | nil=>rfl
   | cons y ys =>
    obtain ⟨k,_,e⟩:=az6.mp (d.mem_iff.mp az7)
    subst e
    show atI (PyData.int (k:Int) :: (ys.map PyData.int ++ [.none])) 0=some (PyData.int (((k:Int).toNat:Nat):Int))
    rw [show (((k:Int).toNat:Nat):Int)=(k:Int) by omega]
    exact acb (by omega) rfl
  row_cond go
  exact g _ j
theorem sc_law_third_right:FnScope ["web","a","b","c","far","over"] ["web","a","b","c"] (aaj s_law_third_right):=by row_cond sc
theorem afe (T:Txt K mg):Can P w K mg base "_law_third_right" 7 ["web","a","b","c"] (spP K (au1)):=by
 obtain ⟨f,fd,D⟩:=T.d_law_third_right
 refine D.can (D.fn.ok sc_law_third_right (fun vs H Q E h=>lenP h fun ss u q=>by obtain ⟨n,a,b,c,es,rfl,l,a0,C,b0,z,p,F,r⟩:=q;rfl) (fun cdv A outer s H vs Q E m h=>?_))
 have nd:=sc_law_third_right.nd
 refine ⟨_,(aac (aar (i:=4) nd rfl (Or.inl rfl) (aae (aa1 T) m (aaa (pv 0) (aaa (pv 1) (aaa (pv 3) aab)))))
  (aac (aar (i:=5) nd rfl (Or.inl rfl) (aae (acy T) m (aaa (aae (aa1 T) m (aaa (pv 0) (aaa (pv 1) (aaa (pv 2) aab)))) (aaa (aae (aa1 T) m (aaa (pv 0) (aaa (pv 2) (aaa (pv 3) aab)))) aab))))
  (aaf (aas (axc (abe ac8 (pv 5) abn (aat _)) (ad5 (adl (abe aky (pv 4) abn (aat _)) (ad5 (abe anp (pv 4) (pv 5) (aat _)))))))))),?_⟩
 refine abm h fun ss u q B G=>?_
 refine exS5 ss q fun n a b c es g=>?_
 have l:=g.1
 have a0:=g.2.1
 have C:=g.2.2.1
 have b0:=g.2.2.2.1
 have z:=g.2.2.2.2.1
 have p:=g.2.2.2.2.2.1
 have F:=g.2.2.2.2.2.2.1
 have r:=g.2.2.2.2.2.2.2
 clear g q
 show EvS B _ _ [some (.st (webD n es)),some (.st (.int a)),some (.st (.int b)),some (.st (.int c)),none,none]
 have hn:=l.lo
 have y:=l.hi
 have j:=l.inn
 have v:=l.len
 row_cond go
 refine ⟨n,a,c,es,rfl,by omega,j,by omega,a0,by omega,p,by omega,?_⟩
 row_cond go
 refine ⟨n,a,b,es,rfl,by omega,j,by omega,a0,by omega,b0,by omega,?_⟩
 row_cond go
 refine ⟨n,b,c,es,rfl,by omega,j,by omega,b0,by omega,p,by omega,?_⟩
 row_cond go
 refine ⟨_,_,rfl,?_⟩
 row_cond go
 have o:=ap3 es a b c
 cases eo:addO (Gr.farO (Tied es) a b) (Gr.farO (Tied es) b c) with
 | none =>
  rw [aC5 ag0]
  row_cond go
  exact r
 | some k =>
  obtain ⟨d,hd,x⟩:=o k eo
  rw [aC6 (ae9 k),hd,afy,afy]
  row_cond go
  rw [aC5 (show (!isNone (PyData.int (d:Int)))=true from rfl)]
  row_cond go
  show u (.st (.bool (decide _)))
  rw [aB5 (by omega)]
  exact r
theorem sc_law_tie_right:FnScope ["web","other","tie","a","b","ahead","one","two"] ["web","other","tie","a","b"] (aaj s_law_tie_right):=by row_cond sc
theorem agg (T:Txt K mg):Can P w K mg base "_law_tie_right" 7 ["web","other","tie","a","b"] (spP K (aw9)):=by
 obtain ⟨f,fd,D⟩:=T.d_law_tie_right
 refine D.can (D.fn.ok sc_law_tie_right (fun vs H Q E h=>lenP h fun ss z q=>by obtain ⟨n,a,b,s,t,es,qs,rfl,j,l,o,v,p,s1,r,y,a0,G,b0,F,x⟩:=q;rfl) (fun cdv A outer s H vs Q E d h=>?_))
 have nd:=sc_law_tie_right.nd
 refine ⟨_,(aac (aar (i:=5) nd rfl (Or.inl rfl) (aae (aa1 T) d (aaa (pv 0) (aaa (pv 3) (aaa (pv 4) aab)))))
  (aac (aar (i:=6) nd rfl (Or.inl rfl) (aae (acy T) d (aaa (aae (aa1 T) d (aaa (pv 0) (aaa (pv 3) (aaa (aal aam (pv 2) aad (fun _ _=>rfl)) aab)))) (aaa (aae (aa1 T) d (aaa (pv 0) (aaa (aal aam (pv 2) aad (fun _ _=>rfl)) (aaa (pv 4) aab)))) aab))))
  (aac (aar (i:=7) nd rfl (Or.inl rfl) (aae (acy T) d (aaa (aae (aa1 T) d (aaa (pv 0) (aaa (pv 3) (aaa (aal aam (pv 2) aad (fun _ _=>rfl)) aab)))) (aaa (aae (aa1 T) d (aaa (pv 0) (aaa (aal aam (pv 2) aad (fun _ _=>rfl)) (aaa (pv 4) aab)))) aab))))
  (aaf (aas (abe (akv d.units) (aae (aa1 T) d (aaa (pv 1) (aaa (pv 3) (aaa (pv 4) aab)))) (aae (aju T) d (aaa (aa9 (aaa (pv 5) (aaa (aae (acy T) d (aaa (pv 6) (aaa aad aab))) (aaa (aae (acy T) d (aaa (pv 7) (aaa aad aab))) aab)))) aab)) (aat _))))))),?_⟩
 refine abm h fun ss z q B I=>?_
 refine exS7 ss q fun n a b s t es qs c=>?_
 have j:=c.1
 have l:=c.2.1
 have o:=c.2.2.1
 have v:=c.2.2.2.1
 have p:=c.2.2.2.2.1
 have s1:=c.2.2.2.2.2.1
 have r:=c.2.2.2.2.2.2.1
 have y:=c.2.2.2.2.2.2.2.1
 have a0:=c.2.2.2.2.2.2.2.2.1
 have G:=c.2.2.2.2.2.2.2.2.2.1
 have b0:=c.2.2.2.2.2.2.2.2.2.2.1
 have F:=c.2.2.2.2.2.2.2.2.2.2.2.1
 have x:=c.2.2.2.2.2.2.2.2.2.2.2.2
 clear c q
 show EvS B _ _ [some (.st (webD n es)),some (.st (webD n qs)),some (.st (prD (s,t))),some (.st (.int a)),some (.st (.int b)),none,none,none]
 have hn:=j.lo
 have C:=j.hi
 have g:=j.inn
 have u:=j.len
 row_cond go
 refine ⟨n,a,b,es,rfl,by omega,g,by omega,a0,by omega,b0,by omega,?_⟩
 row_cond go
 refine ⟨n,a,s,es,rfl,by omega,g,by omega,a0,by omega,p,by omega,?_⟩
 row_cond go
 refine ⟨n,t,b,es,rfl,by omega,g,by omega,r,by omega,b0,by omega,?_⟩
 row_cond go
 refine ⟨_,_,rfl,?_⟩
 row_cond go
 refine ⟨n,a,t,es,rfl,by omega,g,by omega,a0,by omega,r,by omega,?_⟩
 row_cond go
 refine ⟨n,s,b,es,rfl,by omega,g,by omega,p,by omega,b0,by omega,?_⟩
 row_cond go
 refine ⟨_,_,rfl,?_⟩
 row_cond go
 refine ⟨n,a,b,qs,rfl,by omega,l,by omega,a0,by omega,b0,by omega,?_⟩
 row_cond go
 refine ⟨_,some 1,rfl,?_⟩
 row_cond go
 refine ⟨_,some 1,rfl,?_⟩
 row_cond go
 refine ⟨[_,_,_],rfl,by simp,fun m hm=>?_⟩
 obtain rfl:=hm.uniq (auw v a b)
 row_cond go
 refine aez (aa4 _) (aa4 _) (act _) ?_
 rw [aee (aa4 _)]
 row_cond go
 exact x
theorem sc_law_way_right:FnScope ["web","a","b","far","way","tied","k","one","other"] ["web","a","b"] (aaj s_law_way_right):=by row_cond sc
theorem agh (T:Txt K mg):Can P w K mg base "_law_way_right" 7 ["web","a","b"] (spP K (au0)):=by
 obtain ⟨f,fd,D⟩:=T.d_law_way_right
 refine D.can (D.fn.ok sc_law_way_right (fun vs H Q E h=>lenP h fun ss Q' q=>by obtain ⟨n,a,b,es,rfl,o,a0,a1,b0,b1,U⟩:=q;rfl) (fun cdv A outer s H vs Q E p h=>?_))
 have nd:=sc_law_way_right.nd
 refine ⟨_,(aac (aar (i:=3) nd rfl (Or.inl rfl) (aae (aa1 T) p (aaa (pv 0) (aaa (pv 1) (aaa (pv 2) aab)))))
  (aac (aar (i:=4) nd rfl (Or.inl rfl) (aae (afd T) p (aaa (pv 0) (aaa (pv 1) (aaa (pv 2) aab)))))
  (aac (aa5 (PW.pt (adv (aaw acj (abe ac8 (pv 4) abn (aat _)) (abe ac8 (pv 3) abn (aat _)) (aat _)) (ad4 (aaw (akw p.units) (aae (aa1 T) p (aaa (pv 0) (aaa (pv 2) (aaa (pv 1) aab)))) (pv 3) (aat _)))))
   (aaf (aas abh))
   aaz)
  (aac (aar (i:=5) nd rfl (Or.inl rfl) (abe (av1 p.units) (aby (aaa (aah (ab0 rfl) (by rfl) T.b_min acx (aaa (pv 1) (aaa (pv 2) aab))) (aaa (aah (abz rfl) (by rfl) T.b_max ada (aaa (pv 1) (aaa (pv 2) aab))) aab))) (aal aam (pv 0) aad (fun _ _=>rfl)) rfl))
  (aac (aa5 (PW.pt (adv (aaw acj (abe (akv p.units) (pv 3) aad (aat _)) (pv 5) (aat _)) (ad4 (aaw acj (abe (akv p.units) (pv 3) aad (aat _)) (abe ag2 (pv 1) (pv 2) (aat _)) (aat _)))))
   (aaf (aas abh))
   aaz)
  (aac (aa5 (aaw ac8 (pv 4) abn (aat _))
   (aaf (aas abh))
   aaz)
  (aac (aa5 (PW.pt (adv (aaw acj (aah abk (by rfl) T.b_len ace (aaa (pv 4) aab)) (aau aa7 (pv 3) aad) (aat _)) (adv (aaw acj (aal aam (pv 4) aad (fun _ _=>rfl)) (pv 1) (aat _)) (adv (aaw acj (aal aam (pv 4) (ag1 afi aad) (fun _ _=>rfl)) (pv 2) (aat _)) (ad4 (aaw acj (aah abk (by rfl) T.b_len ace (aaa (aae (afd T) p (aaa (pv 0) (aaa (pv 2) (aaa (pv 1) aab)))) aab)) (aah abk (by rfl) T.b_len ace (aaa (pv 4) aab)) (aat _)))))))
   (aaf (aas abh))
   aaz)
  (aac (abo aG4 rfl (abj rfl T.b_range (aaa (pv 3) aab)) (aap (i:=6) nd rfl (Or.inl rfl))
   (aac (acl (aah ag9 (by rfl) T.b_sorted acn (aaa (ake aml (pv 4) (ahy (pv 6)) (ahy (aau aa7 (pv 6) aad))) aab)) (apb rfl (aa8 (aap (i:=7) nd rfl (Or.inl rfl)) (aa8 (aap (i:=8) nd rfl (Or.inl rfl)) ac7))))
    (aaf (aa5 (aaw (aem p.units) (aby (aaa (pv 7) (aaa (pv 8) aab))) (aal aam (pv 0) aad (fun _ _=>rfl)) rfl)
     (aaf (aas abh))
     aaz))))
  (aaf (aas abh)))))))))),?_⟩
 refine abm h fun ss Q' q B hK=>?_
 refine exS4 ss q fun n a b es g=>?_
 have o:=g.1
 have a0:=g.2.1
 have a1:=g.2.2.1
 have b0:=g.2.2.2.1
 have b1:=g.2.2.2.2.1
 have U:=g.2.2.2.2.2
 clear g q
 show EvS B _ _ [some (.st (webD n es)),some (.st (.int a)),some (.st (.int b)),none,none,none,none,none,none]
 have hn:=o.lo
 have a4:=o.hi
 have l:=o.inn
 have a2:=o.len
 row_cond go
 refine ⟨n,a,b,es,rfl,by omega,l,by omega,a0,by omega,b0,by omega,?_⟩
 row_cond go
 refine ⟨n,a,b,es,rfl,by omega,l,by omega,a0,by omega,b0,by omega,fun d ws hd J=>acw acq ?_,fun C=>?_⟩
 ·have c:Gr.farO (Tied es) a b=some d:=by rw [alz];exact Gr.farO_some.mpr hd
  have j:Gr.farO (Tied es) b a=some d:=Gr.farO_some.mpr hd
  have O:PyData.eqv (oD (some d)) (.int 1)=decide ((if b < a then b else a,if b > a then b else a)∈es):=by
   rw [show PyData.int 1=PyData.int ((1:Nat):Int) from rfl,aht,decide_eq_decide,ail o.ps,← c]
   exact ⟨fun z=>(aik (fun e=>by rw [far_zero.mpr e] at z;cases z)).mp z,fun z=>(aik (aim o.ps z)).mpr z⟩
  have X:PyData.eqv (oD (some d)) (.int 0)=decide (a=b):=by
   rw [show PyData.int 0=PyData.int ((0:Nat):Int) from rfl,aht,decide_eq_decide,← c]
   exact far_zero
  have i0:isNone (PyData.list (ws.map PyData.int))=isNone (oD (some d)):=rfl
  have W:=J.len
  have I:(ws.map PyData.int).length=d+1:=by rw [ay3,W]
  have a3:d < 100:=by
   have:=hd.lt (n:=60) (fun u v h=>by have:=(h.in l).2;omega) (by omega)
   omega
  have at0:atI (ws.map PyData.int) 0=some (.int a):=acb (by omega) (by rw [ay5,show (0:Int).toNat=0 from rfl,J.fst];rfl)
  have r:ws[d]?=some b:=by
   obtain ⟨x,F⟩:∃ x,ws[d]?=some x:=⟨_,ay0 (by omega)⟩
   have:=J.far d x F
   rw [aF5] at this
   cases this.1
   exact F
  have a6:atI (ws.map PyData.int) (-1)=some (.int b):=by
   unfold atI ixN
   rw [aC6 (by omega),aC5 (by omega)]
   show (ws.map PyData.int)[(-1+((ws.map PyData.int).length:Int)).toNat]?=_
   rw [I,show (-1+((d+1:Nat):Int)).toNat=d by omega,ay5,r]
   rfl
  rw [c]
  row_cond go
  refine ⟨n,b,a,es,rfl,by omega,l,by omega,b0,by omega,a0,by omega,?_⟩
  rw [j]
  row_cond go
  refine af8 (aa4 _) (aa4 _) (act _) ?_
  rw [aee (aa4 _)]
  row_cond go
  refine ad0 (aep (_,_)) (adz es) (aA9 (aeq (_,_)) (by decide)) ?_
  rw [aC6 ay9,show PyData.tuple [PyData.int (if b < a then b else a),PyData.int (if b > a then b else a)]=prD (if b < a then b else a,if b > a then b else a) from rfl,agc]
  row_cond go
  refine aez (aa4 _) rfl (act _) ?_
  rw [O]
  row_cond go
  refine aez (aa4 _) rfl (act _) ?_
  rw [X]
  row_cond go
  rw [show isNone (PyData.list (ws.map PyData.int))=false from rfl,afy]
  row_cond go
  refine ⟨n,b,a,es,rfl,by omega,l,by omega,b0,by omega,a0,by omega,fun d2 zs Y hz=>ac0 ?_,fun C=>absurd hd (C d)⟩
  have a7:(zs.map PyData.int).length=d+1:=by
   rw [ay3,hz.len,(Gr.Dist.rev (fun _ _ t=>Tied.symm t) Y).uniq hd]
  row_cond go
  refine acr (fun i e=>∃ S N R,e=[some (.st (webD n es)),some (.st (.int a)),some (.st (.int b)),some (.st (.int (d:Int))),some (.st (.list (ws.map .int))),some (.st (.bool (decide ((if b < a then b else a,if b > a then b else a)∈es)))),S,N,R]) ⟨_,_,_,rfl⟩ ?_ ?_
  ·rintro i e hi m
   refine exE3 e m fun S N R=>?_
   clear m
   obtain ⟨x,F⟩:∃ x,ws[i]?=some x:=⟨_,ay0 (by omega)⟩
   obtain ⟨y,L⟩:∃ y,ws[i+1]?=some y:=⟨_,ay0 (by omega)⟩
   have Z:=J.tie i x y F L
   have G:cutD (ws.map PyData.int) (some (0+(i:Int))) (some (0+(i:Int)+2))=[x,y].map PyData.int:=by
    unfold cutD
    rw [show 0+(i:Int)+2=((i+2:Nat):Int) by omega,show 0+(i:Int)=((i:Nat):Int) by omega,HT.sIx_nat,HT.sIx_nat,I,show min i (d+1)=i by omega,show min (i+2) (d+1) - i=2 by omega,← List.map_drop,← List.map_take]
    congr 1
    have h1:i < ws.length:=(ay1.mp F).1
    have h2:i+1 < ws.length:=(ay1.mp L).1
    rw [List.drop_eq_getElem_cons h1,List.drop_eq_getElem_cons h2,(ay1.mp F).2,(ay1.mp L).2]
    rfl
   repeat (first | (refine aja ?_) | row_cond st)
   rw [G]
   refine ⟨[x,y],rfl,by simp,fun ms hp hs=>acw acq ?_⟩
   rw [aye hp hs]
   have M:(if x < y then x else y,if x < y then y else x)∈es:=by
    have:=(ail o.ps x y).mpr Z
    have a5:=aim o.ps Z
    by_cases hxy:x < y
    ·rw [aC6 (by omega),aC5 (by omega)] at this
     rw [aC5 hxy,aC5 hxy]
     exact this
    ·rw [aC5 (by omega),aC6 (by omega)] at this
     rw [aC6 hxy,aC6 hxy]
     exact this
   rw [show (if x < y then [x,y] else [y,x]).map PyData.int=[PyData.int (if x < y then x else y),PyData.int (if x < y then y else x)] by split <;> rfl]
   row_cond go
   refine ad0 (aep (_,_)) (adz es) (aA9 (aeq (_,_)) (by decide)) ?_
   rw [aC5 rfl,show PyData.tuple [PyData.int (if x < y then x else y),PyData.int (if x < y then y else x)]=prD (if x < y then x else y,if x < y then y else x) from rfl,agc,aB5 M]
   row_cond go
   exact ⟨_,_,_,rfl⟩
  ·rintro e m
   refine exE3 e m fun S N R=>?_
   clear m
   row_cond go
   exact U
 ·have c:Gr.farO (Tied es) a b=none:=Gr.farO_none.mpr C
  have j:Gr.farO (Tied es) b a=none:=by rw [alz];exact c
  have O:PyData.eqv (oD none) (.int 1)=decide ((if b < a then b else a,if b > a then b else a)∈es):=by
   rw [show PyData.int 1=PyData.int ((1:Nat):Int) from rfl,aht,decide_eq_decide,ail o.ps,← c]
   exact ⟨fun z=>(by rw [c] at z;cases z),fun z=>(aik (aim o.ps z)).mpr z⟩
  have X:PyData.eqv (oD none) (.int 0)=decide (a=b):=by
   rw [show PyData.int 0=PyData.int ((0:Nat):Int) from rfl,aht,decide_eq_decide,← c]
   exact far_zero
  have i0:isNone PyData.none=isNone (oD none):=rfl
  rw [c]
  row_cond go
  refine ⟨n,b,a,es,rfl,by omega,l,by omega,b0,by omega,a0,by omega,?_⟩
  rw [j]
  row_cond go
  refine af8 (aa4 _) (aa4 _) (act _) ?_
  rw [aee (aa4 _)]
  row_cond go
  refine ad0 (aep (_,_)) (adz es) (aA9 (aeq (_,_)) (by decide)) ?_
  rw [aC6 ay9,show PyData.tuple [PyData.int (if b < a then b else a),PyData.int (if b > a then b else a)]=prD (if b < a then b else a,if b > a then b else a) from rfl,agc]
  row_cond go
  refine aez (aa4 _) rfl (act _) ?_
  rw [O]
  row_cond go
  refine aez (aa4 _) rfl (act _) ?_
  rw [X]
  row_cond go
  rw [show isNone PyData.none=true from rfl]
  row_cond go
  exact U
theorem sc_law_right:FnScope ["deck","web","n","ties","row","turned","places","a","b","k","tie","other","one"] ["deck","web"] (aaj s_law_right):=by row_cond sc
theorem ajv (T:Txt K mg):Can P w K mg base "_law_right" 8 ["deck","web"] (spI K (arz)):=by
 obtain ⟨f,fd,D⟩:=T.d_law_right
 refine D.can (D.fn.ok sc_law_right (fun vs H Q E h=>lenI h fun A ss Q' q=>by obtain ⟨n,es,rfl,rfl,U,k⟩:=q;rfl) (fun cdv A outer s H vs Q E G h=>?_))
 have nd:=sc_law_right.nd
 refine ⟨_,(aac (acl (pv 1) (aet rfl (aa8 (aap (i:=2) nd rfl (Or.inr rfl)) (aa8 (aap (i:=3) nd rfl (Or.inl rfl)) ac7))))
  (aac (aar (i:=4) nd rfl (Or.inr rfl) (aae (adu T) G (aaa (pv 0) (aaa (pv 2) aab))))
  (aac (aar (i:=5) nd rfl (Or.inl rfl) (aby (aaa (pv 2) (aaa (aah ae4 (by rfl) T.b_sorted acn (aaa (ady rfl (N:=["a","b","row"]) (src:=[none,none,some 4]) (by exact ab4 rfl rfl rfl rfl rfl rfl) (abw (pv 3)) (fun _ _ _ _=>(show PG _ _ (gTup K 2 (af1 (aa6 0) (af1 (aa6 1) gNil))) from (aet rfl (aa8 (aap (i:=0) (show List.Nodup (["a","b","row"]:List Str) by decide +kernel) rfl (Or.inl rfl) (hf:=Or.inr rfl)) (aa8 (aap (i:=1) (show List.Nodup (["a","b","row"]:List Str) by decide +kernel) rfl (Or.inl rfl) (hf:=Or.inr rfl)) ac7))))) (fun _ _ _ _=>acu) (fun _ _ _ _=>(aby (aaa (aah (ab0 rfl) (by rfl) T.b_min acx (aaa (aal (show IxR _ (abv K) from aam) (pv 2) (pv 0) (fun _ _=>rfl)) (aaa (aal (show IxR _ (abv K) from aam) (pv 2) (pv 1) (fun _ _=>rfl)) aab))) (aaa (aah (abz rfl) (by rfl) T.b_max ada (aaa (aal (show IxR _ (abv K) from aam) (pv 2) (pv 0) (fun _ _=>rfl)) (aaa (aal (show IxR _ (abv K) from aam) (pv 2) (pv 1) (fun _ _=>rfl)) aab))) aab))))) aab)) aab))))
  (aac (akp (i:=6) nd rfl (Or.inl rfl) rfl (N:=["k","deck","n"]) (src:=[none,some 0,some 2]) (by exact ab4 rfl rfl rfl rfl rfl rfl) (abj rfl T.b_range (aaa aad aab)) (fun _ _ _ _=>(aap (i:=0) (show List.Nodup (["k","deck","n"]:List Str) by decide +kernel) rfl (Or.inl rfl) (hf:=Or.inr rfl))) (fun _ _ _ _=>acu) (fun _ _ _ _=>(aae (aak T) G (aaa (pv 1) (aaa (pv 2) aab)))))
  (aac (aa5 (PW.pt (adv (adk (adj (aae (aoh T) G (aaa (pv 5) aab)))) (ad4 (aaw acj (aae (adt T) G (aaa (pv 5) aab)) (aae (adt T) G (aaa (pv 1) aab)) (aat _)))))
   (aaf (aas abh))
   aaz)
  (aac (aa5 (aaw acj (aae (adt T) G (aaa (pv 1) aab)) (abe (aem G.units) abn (aae (adi T) G (aaa (pv 1) (aaa aad aab))) rfl) (aat _))
   (aaf (aas abh))
   aaz)
  (aac (abo aG4 rfl (abw (pv 6)) (aap (i:=7) nd rfl (Or.inr rfl))
   (aac (aa5 (aaw (akw G.units) (aae (adi T) G (aaa (pv 1) (aaa (pv 7) aab))) (ady rfl (N:=["b","web","a"]) (src:=[none,some 1,some 7]) (by exact ab4 rfl rfl rfl rfl rfl rfl) (abj rfl T.b_range (aaa (pv 2) aab)) (fun _ _ _ _=>(aap (i:=0) (show List.Nodup (["b","web","a"]:List Str) by decide +kernel) rfl (Or.inl rfl) (hf:=Or.inr rfl))) (fun _ _ _ _=>acu) (fun _ _ _ _=>(aae (aa1 T) G (aaa (pv 1) (aaa (pv 2) (aaa (pv 0) aab)))))) (aat _))
     (aaf (aas abh))
     aaz)
    (aaf (abo aG4 rfl (abw (pv 6)) (aap (i:=8) nd rfl (Or.inl rfl))
     (aac (aa5 (adk (adj (aae (agh T) G (aaa (pv 1) (aaa (pv 7) (aaa (pv 8) aab))))))
       (aaf (aas abh))
       aaz)
      (aaf (aa5 (aaw (akw G.units) (aae (aa1 T) G (aaa (pv 5) (aaa (aal aam (pv 4) (pv 7) (fun _ _=>rfl)) (aaa (aal aam (pv 4) (pv 8) (fun _ _=>rfl)) aab)))) (aae (aa1 T) G (aaa (pv 1) (aaa (pv 7) (aaa (pv 8) aab)))) (aat _))
       (aaf (aas abh))
       aaz)))))))
  (aac (abo aG4 rfl (abj rfl T.b_range (aaa aad aab)) (aap (i:=9) nd rfl (Or.inl rfl))
   (aaf (aa5 (adk (adj (aae (afe T) G (aaa (pv 1) (aaa (aal aam (pv 6) (pv 9) (fun _ _=>rfl)) (aaa (aal aam (pv 6) (aau aa7 (pv 9) aad) (fun _ _=>rfl)) (aaa (aal aam (pv 6) (aau aa7 (pv 9) aad) (fun _ _=>rfl)) aab)))))))
     (aaf (aas abh))
     aaz)))
  (aac (acl (ake aml (pv 6) asq (ahy aad)) (apb rfl (aa8 (aap (i:=7) nd rfl (Or.inr rfl)) (aa8 (aap (i:=8) nd rfl (Or.inl rfl)) ac7))))
  (aac (aar (i:=10) nd rfl (Or.inl rfl) (aby (aaa (aah (ab0 rfl) (by rfl) T.b_min acx (aaa (pv 7) (aaa (pv 8) aab))) (aaa (aah (abz rfl) (by rfl) T.b_max ada (aaa (pv 7) (aaa (pv 8) aab))) aab))))
  (aac (aa5 (PW.pt (aj8 (aaw acj (pv 7) (pv 8) (aat _)) (ahu (aaw (aem G.units) (pv 10) (pv 3) rfl))))
   (aac (aar (i:=11) nd rfl (Or.inl rfl) (aby (aaa (pv 2) (aaa (aah ae4 (by rfl) T.b_sorted acn (aaa (aau akj (pv 3) (aa9 (aaa (pv 10) aab))) aab)) aab))))
    (aaf (abo aG4 rfl (abw (pv 6)) (aap (i:=12) nd rfl (Or.inl rfl))
     (aaf (aa5 (adk (adj (aae (agg T) G (aaa (pv 1) (aaa (pv 11) (aaa (pv 10) (aaa (pv 12) (aaa (aal aam (pv 6) aad (fun _ _=>rfl)) aab))))))))
       (aaf (aas abh))
       aaz)))))
   aaz)
  (aaf (aas abh))))))))))))),?_⟩
 refine an7 h fun A0 ss Q' q B hK=>?_
 obtain ⟨n,es,rfl,rfl,U,k⟩:=q
 show EvS B _ _ [some (.io ODk),some (.st (webD n es)),none,none,none,none,none,none,none,none,none,none,none]
 have hn:=U.lo
 have b6:=U.hi
 have l:=U.inn
 have a5:=U.len
 row_cond go
 refine ⟨n,rfl,rfl,by omega,by omega,fun m S=>acw acq ?_⟩
 row_cond go
 refine afu (ps:=es.map (reP m)) ?_
 row_cond go
 refine aq1 (xs:=es) (fa:=fun p => .int p.1) (fb:=fun p => .int p.2) (fun p=>prD (reP m p)) (fun _=>true) rfl (by omega) ?_ ?_
 ·intro p hp B' hB
  have Y:=l p hp
  have r1:=adq (f:=PyData.int) (S.atI (a:=p.1) (by omega) (by omega))
  have r2:=adq (f:=PyData.int) (S.atI (a:=p.2) (by omega) (by omega))
  refine aex ⟨rfl,rfl,fun _=>?_⟩
  row_cond go
  exact ⟨axa m p,rfl⟩
 ·rw [ahh]
  row_cond go
  refine ⟨by rw [aB6];rfl,fun qs Y a8=>ac0 ?_⟩
  have Z:=U.ps.re S
  have hQ:PsOk n qs:=⟨Y.nodup_iff.mpr Z.nd,fun p hp=>Z.inn p (Y.mem_iff.mp hp)⟩
  have X:InN n qs:=fun p hp=>by have:=hQ.inn p hp;exact ⟨by omega,by omega,by omega,by omega⟩
  have c5:qs.length<=2000:=by rw [Y.length_eq,ay3];exact a5
  have a2:Rise qs:=auj Y Z.nd a8
  row_cond go
  refine ⟨fun j ys e=>∃ (o:Option PyData) (xs:List Int),e=[stO o,some (.io ODk),some (.st (.int n))]/\ys=xs.map .int/\xs.length=j/\∀ x∈xs,0<=x/\x < n,⟨none,[],rfl,rfl,rfl,fun x h=>absurd h List.not_mem_nil⟩,?_,?_,?_⟩
  ·rintro i ys e c
   refine exS2 e c fun o xs C=>?_
   have c4:=C.1
   have M:=C.2.1
   have F:=C.2.2
   clear C c
   exact ⟨⟨isIo_stO.symm,ac9⟩,⟨rfl,rfl⟩,⟨rfl,rfl⟩,True.intro⟩
  ·rintro i d ys e hd ⟨o,xs,rfl,rfl,M,F⟩ B' hB
   obtain ⟨hi,rfl⟩:=ae5 hd
   refine aa3 (aex ?_)
   rw [aC5 rfl]
   show Ev B' _ [some (.st (.int (0+(i:Int)))),some (.io ODk),some (.st (.int n))] _
   row_cond go
   refine ⟨n,rfl,rfl,by omega,by omega,fun r r0 r1=>?_⟩
   refine ⟨by rw [ay3];omega,some (.int (0+(i:Int))),xs ++ [r],rfl,by rw [aB8];rfl,by rw [az0,M];rfl,fun x hx=>?_⟩
   rcases ay7.mp hx with z | z
   ·exact F x z
   ·cases aA1.mp z
    exact ⟨r0,r1⟩
  ·rintro ys e c
   refine exS2 e c fun o xs C=>?_
   have a9:=C.1
   have M:=C.2.1
   have F:=C.2.2
   clear C c
   subst a9
   rw [aci,show (6:Int).toNat=6 from rfl] at M
   show EvG B (aa6 6) (.own (OL (xs.map .int))) [some (.io ODk),some (.st (webD n es)),some (.st (.int n)),some (.st (.list (es.map prD))),some (.st (.list (m.map .int))),some (.st (webD n qs)),none,none,none,none,none,none,none] _
   refine acw acq ?_
   have R:∀ j:Int,0<=j->j < 6->∃ x,atI (xs.map PyData.int) j=some (.int x)/\0<=x/\x < n:=fun j j0 j1=>by
    obtain ⟨x,hx⟩:∃ x,xs[j.toNat]?=some x:=⟨_,ay0 (by omega)⟩
    exact ⟨x,acb j0 (by rw [ay5,hx];rfl),F x (ay2 hx)⟩
   row_cond go
   refine ⟨n,qs,rfl,hn,b6,hQ,a2,by omega,?_⟩
   row_cond go
   refine ⟨n,qs,rfl,hn,by omega,X,by omega,fun b1 c0=>?_⟩
   row_cond go
   refine ⟨n,es,rfl,hn,by omega,l,by omega,fun b2 b9=>?_⟩
   obtain rfl:b1=b2:=by rw [aE8,c0,b9];exact ame hn S l Y
   row_cond go
   refine ⟨n,es,rfl,hn,by omega,l,by omega,fun b3 a6=>?_⟩
   row_cond go
   refine ⟨n,0,es,rfl,by omega,l,by omega,by omega,by omega,?_⟩
   row_cond go
   refine ad0 rfl adr (by simp [PyData.depth]) ?_
   rw [aC5 rfl]
   have b0:b3 = !((lab n.toNat (Gr.farO (Tied es) 0)).any fun z=>PyData.eqv z .none):=by
    rw [aE8,a6,Bool.not_eq_true',← Bool.not_eq_true,anc]
    constructor
    ·rintro h ⟨v,v0,v1,e⟩
     obtain ⟨d,hd⟩:=h v v0 (by omega)
     rw [Gr.farO_some.mpr hd] at e
     cases e
    ·intro h v v0 v1
     cases e:Gr.farO (Tied es) 0 v with
     | none=>exact absurd ⟨v,v0,by omega,e⟩ h
     | some d=>exact ⟨d,Gr.farO_some.mp e⟩
   rw [← b0]
   row_cond go
   refine ac6 (xs:=xs) (f:=PyData.int) (fun i e=>∃ v7 W O L I g,e=[some (.io ODk),some (.st (webD n es)),some (.st (.int n)),some (.st (.list (es.map prD))),some (.st (.list (m.map .int))),some (.st (webD n qs)),some (.st (.list (xs.map .int))),v7,W,O,L,I,g]) ⟨_,_,_,_,_,_,rfl⟩ ?_ ?_
   ·rintro i a e hi c
    refine exE6 e c fun v7 W O L I g=>?_
    clear c
    have ha:=F a (ay2 hi)
    row_cond go
    refine ⟨n,a,es,rfl,by omega,l,by omega,ha.1,by omega,?_⟩
    row_cond go
    unfold rngD
    refine agz (fun u:Nat=>oD (Gr.farO (Tied es) a (u:Int))) rfl (by simp;omega) (fun u hu B' hB=>?_) ?_
    ·have c3:=az8.mp hu
     row_cond go
     refine ⟨n,a,0+(u:Int),es,rfl,by omega,l,by omega,ha.1,by omega,by omega,by omega,?_⟩
     rw [Int.zero_add]
     row_cond go
     exact rfl
    ·row_cond go
     refine af8 (show aaq (.list (lab n.toNat (Gr.farO (Tied es) a)))=true from adr) (show aaq (.list (lab n.toNat (Gr.farO (Tied es) a)))=true from adr) (aw8 _ _) ?_
     rw [show (List.range n.toNat).map (fun u:Nat=>oD (Gr.farO (Tied es) a (u:Int)))=lab n.toNat (Gr.farO (Tied es) a) from rfl,aee (show aaq (.list (lab n.toNat (Gr.farO (Tied es) a)))=true from adr)]
     row_cond go
     refine ac6 (xs:=xs) (f:=PyData.int) (fun j e=>∃ W O L I g,e=[some (.io ODk),some (.st (webD n es)),some (.st (.int n)),some (.st (.list (es.map prD))),some (.st (.list (m.map .int))),some (.st (webD n qs)),some (.st (.list (xs.map .int))),some (.st (.int a)),W,O,L,I,g]) ⟨_,_,_,_,_,rfl⟩ ?_ ?_
     ·rintro j b e hj c
      refine exE5 e c fun W O L I g=>?_
      clear c
      have hb:=F b (ay2 hj)
      have r1:=adq (f:=PyData.int) (S.atI (a:=a) (by omega) (by omega))
      have r2:=adq (f:=PyData.int) (S.atI (a:=b) (by omega) (by omega))
      have q1:=S.at ha.1 ha.2
      have q2:=S.at hb.1 hb.2
      row_cond go
      refine ⟨n,a,b,es,rfl,U,ha.1,ha.2,hb.1,hb.2,?_⟩
      row_cond go
      refine ⟨n,aao m a,aao m b,qs,rfl,by omega,X,by omega,q1.2.1,by omega,q2.2.1,by omega,?_⟩
      row_cond go
      refine ⟨n,a,b,es,rfl,by omega,l,by omega,ha.1,by omega,hb.1,by omega,?_⟩
      rw [afx S l Y ha.1 ha.2 hb.1 hb.2]
      row_cond go
      refine af8 (aa4 _) (aa4 _) (act _) ?_
      rw [aee (aa4 _)]
      row_cond go
      exact ⟨_,_,_,_,_,rfl⟩
     ·rintro e c
      refine exE5 e c fun W O L I g=>?_
      clear c
      exact ⟨_,_,_,_,_,_,rfl⟩
   ·rintro e c
    refine exE6 e c fun v7 W O L I g=>?_
    clear c
    row_cond go
    refine acr (fun i e=>∃ O,e=[some (.io ODk),some (.st (webD n es)),some (.st (.int n)),some (.st (.list (es.map prD))),some (.st (.list (m.map .int))),some (.st (webD n qs)),some (.st (.list (xs.map .int))),v7,W,O,L,I,g]) ⟨_,rfl⟩ ?_ ?_
    ·rintro i e hi c
     refine exE1 e c fun O=>?_
     clear c
     obtain ⟨x1,e1,b5,b7⟩:=R (0+(i:Int)) (by omega) (by omega)
     obtain ⟨x2,e2,b8,c2⟩:=R (0+(i:Int)+1) (by omega) (by omega)
     obtain ⟨x3,e3,a3,a1⟩:=R (0+(i:Int)+2) (by omega) (by omega)
     row_cond go
     refine ⟨n,x1,x2,x3,es,rfl,U,b5,b7,b8,c2,a3,a1,?_⟩
     row_cond go
     exact ⟨_,rfl⟩
    ·rintro e c
     refine exE1 e c fun O=>?_
     clear c
     obtain ⟨a,b,xr,a0⟩:∃ a b xr,xs=a :: b :: xr:=by
      match xs,M with
      | a :: b :: xr,_=>exact ⟨a,b,xr,rfl⟩
     have ha:=F a (by rw [a0];simp)
     have hb:=F b (by rw [a0];simp)
     obtain ⟨x3,e3,a3,a1⟩:=R 3 (by omega) (by omega)
     have a4:cutD (xs.map PyData.int) none (some 2)=[.int a,.int b]:=by
      unfold cutD
      rw [show (some 2:Option Int)=some ((2:Nat):Int) from rfl,HT.sIx_nat,HT.sIx_none,ay3,M,a0]
      rfl
     repeat (first | (rw [a4]) | row_cond st)
     by_cases hab:a=b
     ·row_cond go
      exact k
     ·row_cond go
      refine ad0 (aep (_,_)) (adz es) (aA9 (aeq (_,_)) (by decide)) ?_
      rw [aC5 rfl,show PyData.tuple [PyData.int (if b < a then b else a),PyData.int (if b > a then b else a)]=prD (if b < a then b else a,if b > a then b else a) from rfl,agc]
      obtain ⟨s,hs⟩:∃ s,s=if b < a then b else a:=⟨_,rfl⟩
      obtain ⟨t,ht⟩:∃ t,t=if b > a then b else a:=⟨_,rfl⟩
      have J:0<=s/\s < n/\0<=t/\t < n:=by rw [hs,ht];split <;> split <;> omega
      rw [← hs,← ht]
      by_cases hm:(s,t)∈es
      ·rw [aB5 hm]
       row_cond go
       exact k
      ·rw [aB4 hm]
       repeat (first | (refine abl (afu (ps:=es ++ [(s,t)]) ?_)) | row_cond st)
       refine ⟨by rw [aB8];rfl,fun zs hz _=>ac0 ?_⟩
       have b4:InN n zs:=fun p hp=>by
        rcases ay7.mp (hz.mem_iff.mp hp) with y | y
        ·exact l p y
        ·cases aA1.mp y
         exact ⟨J.1,J.2.1,J.2.2.1,J.2.2.2⟩
       have c1:zs.length<=3000:=by rw [hz.length_eq,az0];simp;omega
       have a7:∀ p,p∈zs ↔ p∈es\/p=(s,t):=fun p=>by rw [hz.mem_iff,ay7,aA1]
       row_cond go
       refine ac6 (xs:=xs) (f:=PyData.int) (fun i e=>∃ g,e=[some (.io ODk),some (.st (webD n es)),some (.st (.int n)),some (.st (.list (es.map prD))),some (.st (.list (m.map .int))),some (.st (webD n qs)),some (.st (.list (xs.map .int))),some (.st (.int a)),some (.st (.int b)),O,some (.st (prD (s,t))),some (.st (webD n zs)),g]) ⟨_,rfl⟩ ?_ ?_
       ·rintro i u e hi c
        refine exE1 e c fun g=>?_
        clear c
        have hu:=F u (ay2 hi)
        row_cond go
        refine ⟨n,u,x3,s,t,es,zs,rfl,U,b4,c1,a7,J.1,J.2.1,J.2.2.1,J.2.2.2,hu.1,hu.2,a3,a1,?_⟩
        row_cond go
        exact ⟨_,rfl⟩
       ·rintro e c
        refine exE1 e c fun g=>?_
        clear c
        row_cond go
        exact k
theorem sc_law:FnScope ["script","deck","k"] ["script"] (aaj s_law):=by row_cond sc
theorem au2 (T:Txt K mg) {f:Addr} {fd:FuncData} (D:DefAt K mg "law" s_law ["script"] f fd):FnOk P w K mg base CX0 12 f fd ["script"] (spP K (asi)):=by
 refine D.fn.ok sc_law (fun vs H Q E h=>lenP h fun ss l q=>by obtain ⟨ns,rfl,c,j⟩:=q;rfl) (fun cdv A outer s H vs Q E g h=>?_)
 have nd:=sc_law.nd
 refine ⟨_,(aac (aar (i:=1) nd rfl (Or.inl rfl) (aae (alw T) g (aaa (pv 0) aab)))
  (aac (abo aG4 rfl (abj rfl T.b_range (aaa aad aab)) (aap (i:=2) nd rfl (Or.inl rfl))
   (aaf (aa5 (adk (adj (aae (ajv T) g (aaa (pv 1) (aaa (aae (amd T) g (aaa (pv 1) aab)) aab)))))
     (aaf (aas abh))
     aaz)))
  (aaf (aas abh)))),?_⟩
 refine abm h fun ss l q B u=>?_
 refine exS1 ss q fun ns b=>?_
 have c:=b.1
 have j:=b.2
 clear b q
 show EvS B _ _ [some (.scr ns),none,none]
 row_cond go
 refine ⟨ns,rfl,c,?_⟩
 row_cond go
 refine acr (fun i e=>∃ d,e=[some (.scr ns),some (.own ODk),d]) ⟨_,rfl⟩ ?_ ?_
 ·rintro i e hi a
  refine exE1 e a fun d=>?_
  clear a
  row_cond go
  refine ⟨rfl,rfl,fun n es o p m r=>?_⟩
  row_cond go
  refine ⟨n,es,rfl,rfl,⟨o,p,m,by omega⟩,?_⟩
  row_cond go
  exact ⟨_,rfl⟩
 ·rintro e a
  refine exE1 e a fun d=>?_
  clear a
  row_cond go
  exact j
theorem axb (T:Txt K mg) {f:Addr} {fd:FuncData} (D:DefAt K mg "law" s_law ["script"] f fd):FnOk P w K mg base CX0 12 f fd ["script"] (aog K):=(au2 T D).imp fun _ _ _ _ h=>arx h
end
theorem len0 {α:Type} {us:List α} (h:us.length=0):us=[]:=aE2 h
theorem len1 {α:Type} {us:List α} (h:us.length=1):∃ a0,us=[a0]:=by
 cases us with
 | nil=>cases h
 | cons a us=>exact ⟨a,by rw [len0 (Nat.succ.inj h)]⟩
theorem len2 {α:Type} {us:List α} (h:us.length=2):∃ a0 b,us=[a0,b]:=by
 cases us with
 | nil=>cases h
 | cons a us=>obtain ⟨b,e⟩:=len1 (Nat.succ.inj h);exact ⟨a,b,by rw [e]⟩
theorem len3 {α:Type} {us:List α} (h:us.length=3):∃ a0 c b,us=[a0,c,b]:=by
 cases us with
 | nil=>cases h
 | cons a us=>obtain ⟨c,b,e⟩:=len2 (Nat.succ.inj h);exact ⟨a,c,b,by rw [e]⟩
theorem len4 {α:Type} {us:List α} (h:us.length=4):∃ a0 d b c,us=[a0,d,b,c]:=by
 cases us with
 | nil=>cases h
 | cons a us=>obtain ⟨d,b,c,e⟩:=len3 (Nat.succ.inj h);exact ⟨a,d,b,c,by rw [e]⟩
theorem len5 {α:Type} {us:List α} (h:us.length=5):∃ a0 d b c f,us=[a0,d,b,c,f]:=by
 cases us with
 | nil=>cases h
 | cons a us=>obtain ⟨d,b,c,f,e⟩:=len4 (Nat.succ.inj h);exact ⟨a,d,b,c,f,by rw [e]⟩
def Bnd (x:Str) (st:Stmt) (ps:List Str):Prop:=∀ (kV doc pm:Value) (an:Option Addr) (cdv ct:Value) (us:List Value),us.length=ps.length->bindArgs (fnOf x x (abx st) (abt st) (aaj st) .none kV doc pm an cdv ct) ⟨us,[]⟩=pure (ps.zip us)
def FnIn (K:Frag) (x:Str) (st:Stmt):Prop:=∃ f oc od kV dc pm an cd ct sl,nsIn K mainGlobals x=some (some (.ref f))/\K.lookup f=some ⟨oc,od,.func (fnOf x x (abx st) (abt st) (aaj st) .none kV dc pm an cd ct),sl⟩/\codeIn K cd x=true/\keepIn K (.ref f)=true
theorem fn_in {K:Frag} {x:Str} {st:Stmt} {f:Addr} {od an:Option Addr} {sl:Array (Option Value)} {oc kV d pm b ct:Value} (a:nsIn K mainGlobals x=some (some (.ref f))) (l:K.lookup f=some ⟨oc,od,.func (fnOf x x (abx st) (abt st) (aaj st) .none kV d pm an b ct),sl⟩) (c:codeIn K b x=true) (k:keepIn K (.ref f)=true):FnIn K x st:=⟨f,oc,od,kV,d,pm,an,b,ct,sl,a,l,c,k⟩
theorem bnd1 {st:Stmt} {x:Str} {ps:List Str} (c:ps.length=1) (h:∀ (kV doc pm:Value) (an:Option Addr) (cdv ct:Value) (a:Value),bindArgs (fnOf x x (abx st) (abt st) (aaj st) .none kV doc pm an cdv ct) ⟨[a],[]⟩=pure (ps.zip [a])):Bnd x st ps:=by
 intro kV doc pm an cdv ct us b
 rw [c] at b
 obtain ⟨_,rfl⟩:=len1 b
 exact h _ _ _ _ _ _ _
theorem bnd2 {st:Stmt} {x:Str} {ps:List Str} (d:ps.length=2) (h:∀ (kV doc pm:Value) (an:Option Addr) (cdv ct:Value) (a c:Value),bindArgs (fnOf x x (abx st) (abt st) (aaj st) .none kV doc pm an cdv ct) ⟨[a,c],[]⟩=pure (ps.zip [a,c])):Bnd x st ps:=by
 intro kV doc pm an cdv ct us b
 rw [d] at b
 obtain ⟨_,_,rfl⟩:=len2 b
 exact h _ _ _ _ _ _ _ _
theorem bnd3 {st:Stmt} {x:Str} {ps:List Str} (f:ps.length=3) (h:∀ (kV doc pm:Value) (an:Option Addr) (cdv ct:Value) (a c d:Value),bindArgs (fnOf x x (abx st) (abt st) (aaj st) .none kV doc pm an cdv ct) ⟨[a,c,d],[]⟩=pure (ps.zip [a,c,d])):Bnd x st ps:=by
 intro kV doc pm an cdv ct us b
 rw [f] at b
 obtain ⟨_,_,_,rfl⟩:=len3 b
 exact h _ _ _ _ _ _ _ _ _
theorem bnd4 {st:Stmt} {x:Str} {ps:List Str} (g:ps.length=4) (h:∀ (kV doc pm:Value) (an:Option Addr) (cdv ct:Value) (b f c a:Value),bindArgs (fnOf x x (abx st) (abt st) (aaj st) .none kV doc pm an cdv ct) ⟨[b,f,c,a],[]⟩=pure (ps.zip [b,f,c,a])):Bnd x st ps:=by
 intro kV doc pm an cdv ct us d
 rw [g] at d
 obtain ⟨_,_,_,_,rfl⟩:=len4 d
 exact h _ _ _ _ _ _ _ _ _ _
theorem bnd5 {st:Stmt} {x:Str} {ps:List Str} (i:ps.length=5) (h:∀ (kV doc pm:Value) (an:Option Addr) (cdv ct:Value) (b f g a c:Value),bindArgs (fnOf x x (abx st) (abt st) (aaj st) .none kV doc pm an cdv ct) ⟨[b,f,g,a,c],[]⟩=pure (ps.zip [b,f,g,a,c])):Bnd x st ps:=by
 intro kV doc pm an cdv ct us d
 rw [i] at d
 obtain ⟨_,_,_,_,_,rfl⟩:=len5 d
 exact h _ _ _ _ _ _ _ _ _ _ _
theorem aa2 {K:Frag} {h:Heap} {mg:Str->Option Value} {x:Str} {st:Stmt} {ps:List Str} (X:K.In h) (G:h.Ns mainGlobals mg) (q:FnIn K x st)
  (hb:Bnd x st ps):∃ f fd,DefAt K mg x st ps f fd:=by
 obtain ⟨f,oc,od,kV,b,pm,an,d,ct,sl,a,l,c,k⟩:=q
 exact ⟨_,_,have F:=avk (st:=st) l c k;⟨F,mg_of X G a,F.binds hb⟩⟩
theorem txt_mk {K:Frag} {h:Heap} {mg:Str->Option Value} (X:K.In h) (G:h.Ns mainGlobals mg)
  {a:Tok} 
  (N:FnIn K "is_whole" s_is_whole)
  (O:FnIn K "is_between" s_is_between)
  (P:FnIn K "is_place" s_is_place)
  (S:FnIn K "is_tie" s_is_tie)
  (U:FnIn K "are_ties" s_are_ties)
  (T:FnIn K "is_rising" s_is_rising)
  (R:FnIn K "is_web" s_is_web)
  (Q:FnIn K "tied_places" s_tied_places)
  (L:FnIn K "far_from" s_far_from)
  (M:FnIn K "need_place" s_need_place)
  (y:FnIn K "all_far" s_all_far)
  (z:FnIn K "how_far" s_how_far)
  (B:FnIn K "is_joined" s_is_joined)
  (J:FnIn K "short_way" s_short_way)
  (A:FnIn K "_law_deck" s_law_deck)
  (F:FnIn K "_law_draw" s_law_draw)
  (H:FnIn K "_law_order" s_law_order)
  (C:FnIn K "_law_crowds" s_law_crowds)
  (w:FnIn K "_law_web" s_law_web)
  (I:FnIn K "_law_least" s_law_least)
  (x:FnIn K "_law_sum" s_law_sum)
  (s:FnIn K "_law_way_right" s_law_way_right)
  (v:FnIn K "_law_tie_right" s_law_tie_right)
  (E:FnIn K "_law_third_right" s_law_third_right)
  (u:FnIn K "_law_right" s_law_right)
  (D:FnIn K "law" s_law)
  (c:nsIn K mainGlobals "ValueError" = some none)
  (p:nsIn K mainGlobals "all" = some none)
  (i:nsIn K mainGlobals "range" = some none)
  (j:nsIn K mainGlobals "list" = some none)
  (f:nsIn K mainGlobals "sorted" = some none)
  (d:nsIn K mainGlobals "isinstance" = some none)
  (m:nsIn K mainGlobals "int" = some none)
  (o:nsIn K mainGlobals "len" = some none)
  (r:nsIn K mainGlobals "max" = some none)
  (n:nsIn K mainGlobals "sum" = some none)
  (q:nsIn K mainGlobals "min" = some none)
  (l:nsIn K mainGlobals "bool" = some none)
  (g:nsIn K mainGlobals "tuple" = some none)
  (b:nsIn K mainGlobals "MOST_PLACES" = some (some (.int 60 a)))
  : Txt K mg where
  b_ValueError:=mg_none_of X G c
  b_all:=mg_none_of X G p
  b_range:=mg_none_of X G i
  b_list:=mg_none_of X G j
  b_sorted:=mg_none_of X G f
  b_isinstance:=mg_none_of X G d
  b_int:=mg_none_of X G m
  b_len:=mg_none_of X G o
  b_max:=mg_none_of X G r
  b_sum:=mg_none_of X G n
  b_min:=mg_none_of X G q
  b_bool:=mg_none_of X G l
  b_tuple:=mg_none_of X G g
  v_MOST_PLACES:=⟨_,mg_of X G b⟩
  d_is_whole:=aa2 X G N (bnd1 rfl fun _ _ _ _ _ _ _=>rfl)
  d_is_between:=aa2 X G O (bnd3 rfl fun _ _ _ _ _ _ _ _ _=>rfl)
  d_is_place:=aa2 X G P (bnd2 rfl fun _ _ _ _ _ _ _ _=>rfl)
  d_is_tie:=aa2 X G S (bnd2 rfl fun _ _ _ _ _ _ _ _=>rfl)
  d_are_ties:=aa2 X G U (bnd2 rfl fun _ _ _ _ _ _ _ _=>rfl)
  d_is_rising:=aa2 X G T (bnd1 rfl fun _ _ _ _ _ _ _=>rfl)
  d_is_web:=aa2 X G R (bnd1 rfl fun _ _ _ _ _ _ _=>rfl)
  d_tied_places:=aa2 X G Q (bnd1 rfl fun _ _ _ _ _ _ _=>rfl)
  d_far_from:=aa2 X G L (bnd2 rfl fun _ _ _ _ _ _ _ _=>rfl)
  d_need_place:=aa2 X G M (bnd2 rfl fun _ _ _ _ _ _ _ _=>rfl)
  d_all_far:=aa2 X G y (bnd2 rfl fun _ _ _ _ _ _ _ _=>rfl)
  d_how_far:=aa2 X G z (bnd3 rfl fun _ _ _ _ _ _ _ _ _=>rfl)
  d_is_joined:=aa2 X G B (bnd1 rfl fun _ _ _ _ _ _ _=>rfl)
  d_short_way:=aa2 X G J (bnd3 rfl fun _ _ _ _ _ _ _ _ _=>rfl)
  d_law_deck:=aa2 X G A (bnd1 rfl fun _ _ _ _ _ _ _=>rfl)
  d_law_draw:=aa2 X G F (bnd2 rfl fun _ _ _ _ _ _ _ _=>rfl)
  d_law_order:=aa2 X G H (bnd2 rfl fun _ _ _ _ _ _ _ _=>rfl)
  d_law_crowds:=aa2 X G C (bnd1 rfl fun _ _ _ _ _ _ _=>rfl)
  d_law_web:=aa2 X G w (bnd1 rfl fun _ _ _ _ _ _ _=>rfl)
  d_law_least:=aa2 X G I (bnd1 rfl fun _ _ _ _ _ _ _=>rfl)
  d_law_sum:=aa2 X G x (bnd2 rfl fun _ _ _ _ _ _ _ _=>rfl)
  d_law_way_right:=aa2 X G s (bnd3 rfl fun _ _ _ _ _ _ _ _ _=>rfl)
  d_law_tie_right:=aa2 X G v (bnd5 rfl fun _ _ _ _ _ _ _ _ _ _ _=>rfl)
  d_law_third_right:=aa2 X G E (bnd4 rfl fun _ _ _ _ _ _ _ _ _ _=>rfl)
  d_law_right:=aa2 X G u (bnd2 rfl fun _ _ _ _ _ _ _ _=>rfl)
  d_law:=aa2 X G D (bnd1 rfl fun _ _ _ _ _ _ _=>rfl)
theorem walk {l:PySem.W.OpenLaw} {q:Program} {b:List Str} {p:(Str->Option Value)->Heap->Prop} {j:World->Heap->Prop} {d:DefRec} {K:Params->Frag} (hn:l.most=some 63) (g:d.params.defaults=[]) (i:d.name = "law")
  (o:∀ (w:World) (h:Heap),j w h->(K w.params).In h)
  (F:∀ (w:World) (mg:Str->Option Value) (h:Heap),(K w.params).In h->h.Ns mainGlobals mg->Txt (K w.params) mg) :
  PySem.W.WalkO q b p j l.row.toRowW d [] (fun f vs=>PySem.call f vs):=by
 refine L2.walk_of (n:=63) (k:=12) (x:="script") (CX:=fun _=>CX0) (sp:=fun w=>aog (K w.params)) hn (by decide) g ⟨rfl,by decide,by decide⟩ o (fun w mg fa h X G e=>?_) (fun _ _ a ns y _ r=>⟨a,ns,rfl,r,y,fun _=>rfl⟩) fun _ _ _ _ _ z=>z
 have T:=F w mg h X G
 rw [i] at e
 obtain ⟨A,c,D⟩:=T.d_law
 have v:=e.symm.trans D.mgx
 cases v
 refine ⟨c,fun s u=>?_,fun base _ _=>?_⟩
 ·obtain ⟨oc,od,kV,doc,pm,an,cdv,ct,osl,rfl,B,m⟩:=D.fn.ex
  exact .of_eq rfl
 ·exact axb T D
end G
end
theorem PySem.W.Fast.tw5842776393489016886 : True := trivial
theorem PySem.W.Fast.tw9930013318630830923 : True := trivial
theorem PySem.W.Fast.tw5437472748934202964 : True := trivial
theorem PySem.W.Fast.tw10748624525288956671 : True := trivial
theorem PySem.W.Fast.tw10889436014865495806 : True := trivial
theorem PySem.W.Fast.tw15418564108630799418 : True := trivial
theorem PySem.W.Fast.tw11310808721073234233 : True := trivial
theorem PySem.W.Fast.tw15527966926739162095 : True := trivial
theorem PySem.W.Fast.tw3029109341053723332 : True := trivial
theorem PySem.W.Fast.tw4322975891725026345 : True := trivial
theorem PySem.W.Fast.tw13055225848475877212 : True := trivial
theorem PySem.W.Fast.tw11714016966911413770 : True := trivial
theorem PySem.W.Fast.tw15540589740721407439 : True := trivial
theorem PySem.W.Fast.tw16622130112974012690 : True := trivial
theorem PySem.W.Fast.tw9008365255611049261 : True := trivial
theorem PySem.W.Fast.tw12925404840607661618 : True := trivial
theorem PySem.W.Fast.tw11707810395625401123 : True := trivial
theorem PySem.W.Fast.tw8837142563380311635 : True := trivial
theorem PySem.W.Fast.tw9044394112726565159 : True := trivial
theorem PySem.W.Fast.tw1464740359504273017 : True := trivial
theorem PySem.W.Fast.tw15320462466243215773 : True := trivial
theorem PySem.W.Fast.tw15766188971616592974 : True := trivial
theorem PySem.W.Fast.tw12954896374319459740 : True := trivial
theorem PySem.W.Fast.tw9146550233437880709 : True := trivial
theorem PySem.W.Fast.tw7648809779178702966 : True := trivial
theorem PySem.W.Fast.tw2360513844567546507 : True := trivial
theorem PySem.W.Fast.tw12813218006181434025 : True := trivial
theorem PySem.W.Fast.tw19979388009852611 : True := trivial
theorem PySem.W.Fast.tw14631698365108415361 : True := trivial
theorem PySem.W.Fast.tw16455512819548996266 : True := trivial
theorem PySem.W.Fast.tw17814362676069640938 : True := trivial
theorem PySem.W.Fast.tw13857607720945588936 : True := trivial
theorem PySem.W.Fast.tw7801093620411043019 : True := trivial
theorem PySem.W.Fast.tw8485542183979810939 : True := trivial
theorem PySem.W.Fast.tw5310109867821187005 : True := trivial
theorem PySem.W.Fast.tw16169534578580650870 : True := trivial
theorem PySem.W.Fast.tw18178746457313236003 : True := trivial
theorem PySem.W.Fast.tw1915717128729153252 : True := trivial
theorem PySem.W.Fast.tw11640782228253975849 : True := trivial
theorem PySem.W.Fast.tw17951022604813375211 : True := trivial
theorem PySem.W.Fast.tw14942147559016181092 : True := trivial
theorem PySem.W.Fast.tw7829155071380632801 : True := trivial
theorem PySem.W.Fast.tw13916899490663248044 : True := trivial
theorem PySem.W.Fast.tw3780468906527400309 : True := trivial
theorem PySem.W.Fast.tw14444216884715770214 : True := trivial
theorem PySem.W.Fast.tw9775530396528484640 : True := trivial
theorem PySem.W.Fast.tw15367448569030627951 : True := trivial
theorem PySem.W.Fast.tw16125142970733697738 : True := trivial
theorem PySem.W.Fast.tw7187250535505774679 : True := trivial
theorem PySem.W.Fast.tw2778577971462916568 : True := trivial
theorem PySem.W.Fast.tw9557734994950499457 : True := trivial
theorem PySem.W.Fast.tw12547604616788077541 : True := trivial
theorem PySem.W.Fast.tw3477308586010399040 : True := trivial
theorem PySem.W.Fast.tw11817078801384433401 : True := trivial
theorem PySem.W.Fast.tw2011541718348703830 : True := trivial
theorem PySem.W.Fast.tw18095540784730081026 : True := trivial
theorem PySem.W.Fast.tw2875643067886134585 : True := trivial
theorem PySem.W.Fast.tw1012385130498053931 : True := trivial
theorem PySem.W.Fast.tw4328795647578046006 : True := trivial
theorem PySem.W.Fast.tw10720471051645724159 : True := trivial
theorem PySem.W.Fast.tw13299182314417881821 : True := trivial
theorem PySem.W.Fast.tw758752673704385356 : True := trivial
theorem PySem.W.Fast.tw2229093736773572835 : True := trivial
theorem PySem.W.Fast.tw187978781142559687 : True := trivial
theorem PySem.W.Fast.tw1988453414345982084 : True := trivial
theorem PySem.W.Fast.tw8077140937540608420 : True := trivial
theorem PySem.W.Fast.tw2734986178956997018 : True := trivial
theorem PySem.W.Fast.tw17408180597639461238 : True := trivial
theorem PySem.W.Fast.tw16073565404277149322 : True := trivial
theorem PySem.W.Fast.tw70208637662915509 : True := trivial
theorem PySem.W.Fast.tw2732043486977404016 : True := trivial
theorem PySem.W.Fast.tw483786847396990890 : True := trivial
theorem PySem.W.Fast.tw4437044138502502734 : True := trivial
theorem PySem.W.Fast.tw10228909339075409835 : True := trivial
theorem PySem.W.Fast.tw11274255478417006580 : True := trivial
theorem PySem.W.Fast.tw7903230207867564987 : True := trivial
theorem PySem.W.Fast.tw10835706763368219746 : True := trivial
theorem PySem.W.Fast.tw2960268609302644363 : True := trivial
theorem PySem.W.Fast.tw9557579533247828721 : True := trivial
theorem PySem.W.Fast.tw3325294851248430632 : True := trivial
theorem PySem.W.Fast.tw17477039067457552005 : True := trivial
theorem PySem.W.Fast.tw9629979947392052954 : True := trivial
theorem PySem.W.Fast.tw1614175247571526664 : True := trivial
theorem PySem.W.Fast.tw15681492123234002058 : True := trivial
theorem PySem.W.Fast.tw13350914590813506675 : True := trivial
theorem PySem.W.Fast.tw16504312164575155753 : True := trivial
theorem PySem.W.Fast.tw11373287518500821394 : True := trivial
theorem PySem.W.Fast.tw6809557128663596836 : True := trivial
theorem PySem.W.Fast.tw15987029685400349288 : True := trivial
theorem PySem.W.Fast.tw18331299578699575879 : True := trivial
theorem PySem.W.Fast.tw511296117395515967 : True := trivial
theorem PySem.W.Fast.tw15188421490324810812 : True := trivial
theorem PySem.W.Fast.tw16231155862411989129 : True := trivial
theorem PySem.W.Fast.tw4097708115525473906 : True := trivial
theorem PySem.W.Fast.tw11302815262664316528 : True := trivial
theorem PySem.W.Fast.tw4825677946617140305 : True := trivial
theorem PySem.W.Fast.tw17258007048879675183 : True := trivial
theorem PySem.W.Fast.tw11899880417040243393 : True := trivial
theorem PySem.W.Fast.tw8326375218005918428 : True := trivial
theorem PySem.W.Fast.tw8164027528636936056 : True := trivial
theorem PySem.W.Fast.tw16772472982975115993 : True := trivial
theorem PySem.W.Fast.tw7126641005132625320 : True := trivial
theorem PySem.W.Fast.tw5895776880892000821 : True := trivial
theorem PySem.W.Fast.tw5640342054162940282 : True := trivial
theorem PySem.W.Fast.tw11891948725468367052 : True := trivial
theorem PySem.W.Fast.tw12082258043485723333 : True := trivial
theorem PySem.W.Fast.tw7975546395803095238 : True := trivial
theorem PySem.W.Fast.tw14001001970352536149 : True := trivial
theorem PySem.W.Fast.tw12270808655696081055 : True := trivial
theorem PySem.W.Fast.tw4181808513166960363 : True := trivial
theorem PySem.W.Fast.tw12588580310694853782 : True := trivial
theorem PySem.W.Fast.tw4581502595178097614 : True := trivial
open PySem PySem.W PyProof.Rows
set_option maxRecDepth 100000 in
set_option maxHeartbeats 0 in
theorem PySem.Challenge.cw_fewties_k06_whole_ways_and_numbers_holds : PySem.Challenge.rw_fewties_k06_whole_ways_and_numbers.Holds := by
 w_on;o_law;k_head;(case hw=>w_witness2)
 k_fill
 refine G.walk (l:=PySem.Challenge.rw_fewties_k06_whole_ways_and_numbers) rfl rfl rfl (fun w h Y=>PySem.W.kIn_of Y) ?F
 case F =>
  intro w mg h KX GG
  refine' G.txt_mk KX GG ..
  all_goals try (refine' G.fn_in ?a_ ?l_ ?c_ ?k_;(case a_=>k_is);(case l_=>k_is);(case c_=>k_is);(case k_=>k_is))
  all_goals try k_is
#print axioms PySem.Challenge.cw_fewties_k06_whole_ways_and_numbers_holds
