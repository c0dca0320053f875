import PyProof.Rows.All
import Wide.All
import OpenK.AllK
import Wide.FinOn
import PyProof.EqAt
import PyProof.EqKinds
import PyProof.TupleCall
import KE.KLam
import KE.KMinKey
import PyProof.NeData
import PyProof.P3In
import PyProof.WalkInts
import PyProof.Rows.SortWalk
import PyProof.SumWalkG
import PyProof.Rows.CallKwBuiltin
import KE.KDictList
import PyProof.WalksEnum
import PyProof.ZipIter
import PyProof.ConsumeWalk
import PyProof.ListRange
import PyProof.TupleOfSeq
import PyProof.Rows.RuleN_abs
import KE.KIntText
import PyProof.FString
import PyProof.StrWalks
import PyProof.StrLawsTight
import PyProof.StrLawsChain
import KE.KUnpackStar
import PyProof.ReprRoads
import KE.KSortKey
import KE.KDictOf
import PyProof.AttrMissHeap
import PySem.Challenge.RW_fewties_k46_webs_written
open PySem.W (Frag kitOne mg_of nsIn mg_none_of excIn fnOf mroIn keepIn codeIn)
set_option Elab.async false
set_option linter.all false
set_option compiler.extract_closed false
set_option maxRecDepth 100000
set_option maxHeartbeats 4000000
noncomputable section
abbrev av0:=@List.getElem?_eq_getElem
abbrev av1:=@List.getElem?_eq_some_iff
abbrev av2:=@List.mem_of_getElem?
abbrev av3:=@List.length_map
abbrev av4:=@Array.getElem?_eq_getElem
abbrev av5:=@List.getElem?_map
abbrev av6:=@Nat.le_refl
abbrev av7:=@List.mem_append
abbrev av8:=@Array.length_toList
abbrev av9:=@List.mem_cons
abbrev aw0:=@Bool.false_ne_true
abbrev aw1:=@List.length_append
abbrev aw2:=@List.size_toArray
abbrev aw3:=@List.mem_append_right
abbrev aw4:=@List.append_assoc
abbrev aw5:=@List.mem_cons_of_mem
abbrev aw6:=@Nat.ne_of_lt
abbrev aw7:=@List.mem_map
abbrev aw8:=@List.mem_cons_self
abbrev aw9:=@List.mem_range
abbrev ax0:=@List.mem_of_mem_take
abbrev ax1:=@List.take_append_drop
abbrev ax2:=@List.mem_singleton
abbrev ax3:=@List.getElem?_append_left
abbrev ax4:=@List.mem_of_mem_drop
abbrev ax5:=@Nat.lt_of_lt_of_le
abbrev ax6:=@Option.some.inj
abbrev ax7:=@List.mem_append_left
abbrev ax8:=@List.getElem?_append_right
abbrev ax9:=@List.pairwise_append
abbrev ay0:=@Nat.le_trans
abbrev ay1:=@List.map_cons
abbrev ay2:=@List.getElem?_set
abbrev ay3:=@List.getD_eq_getElem?_getD
abbrev ay4:=@Array.getElem?_toList
abbrev ay5:=@decide_eq_false
abbrev ay6:=@decide_eq_true
abbrev ay7:=@List.getElem?_range
abbrev ay8:=@List.map_map
abbrev ay9:=@List.map_append
abbrev az0:=@List.length_cons
abbrev az1:=@Int.emod_nonneg
abbrev az2:=@Int.emod_lt_of_pos
abbrev az3:=@List.append_nil
abbrev az4:=@List.take_of_length_le
abbrev az5:=@List.length_filter_le
abbrev az6:=@List.all_eq_true
abbrev az7:=@if_pos
abbrev az8:=@if_neg
abbrev az9:=@List.getElem?_eq_none_iff
abbrev aA0:=@List.length_pos_iff
abbrev aA1:=@Nat.zero_le
abbrev aA2:=@List.pairwise_map
abbrev aA3:=@List.ext_getElem?
abbrev aA4:=@beq_iff_eq
abbrev aA5:=@Nat.lt_irrefl
abbrev aA6:=@Nat.le_of_lt
abbrev aA7:=@Array.toList_append
abbrev aA8:=@List.pairwise_iff_getElem
abbrev aA9:=@List.take_length
abbrev aB0:=@List.lookup_cons
abbrev aB1:=@List.length_take
abbrev aB2:=@Bool.and_eq_true
abbrev aB3:=@List.eq_nil_of_length_eq_zero
abbrev aB4:=@List.take_add_one
abbrev aB5:=@List.getElem?_take_of_lt
abbrev aB6:=@Bool.eq_iff_iff
abbrev aB7:=@Array.size_push
abbrev aB8:=@List.Pairwise.imp_of_mem
abbrev aB9:=@Option.map_some
abbrev aC0:=@List.getElem?_drop
abbrev aC1:=@List.nodup_cons
abbrev aC2:=@List.length_nil
open PySem PySem.Spec in
abbrev aC3:=@wpAny_bind
open PySem PySem.Spec in
abbrev aC4:=@wpAny_pure
open PySem PySem.Spec in
abbrev aC5:=@Heap.get?_push_of_some
open PySem PySem.Spec in
abbrev aC6:=@Heap.lt_size
open PySem PySem.Spec in
abbrev aC7:=@Heap.get?_push_size
open PySem PySem.Spec in
abbrev aC8:=@wpAny_holding
open PySem PySem.Spec in
abbrev aC9:=@wpAny_mono
open PySem PySem.Spec in
abbrev aD0:=@wpAny_newObj_type
open PySem PySem.Spec in
abbrev aD1:=@Around.under_plainId
open PySem PySem.Spec in
abbrev aD2:=@wpAny_truthy_bool
open PySem PySem.Spec in
abbrev aD3:=@codeAny_builtin
namespace L2
open PySem PySem.Spec PyProof.Rows
abbrev Key:=Sum Int Str
def aet:Key->Value->Bool
 | .inl k,v=>Value.isInt k v
 | .inr x,v=>Value.isStrOf x v
def keyH (w:World):Key->Int
 | .inl k=>hashInt k
 | .inr x=>hashStr w x
theorem aa7:∀ {k:Key} {v:Value},aet k v=true->(∃ i t,k=Sum.inl i/\v=Value.int i t)\/(∃ x t,k=Sum.inr x/\v=Value.str x t)
 | .inl i,v,h=>by
  obtain ⟨t,e⟩:=Value.isInt_shape (k:=i) (v:=v) h
  exact .inl ⟨i,t,rfl,e⟩
 | .inr x,v,h=>by
  obtain ⟨t,e⟩:=Value.isStrOf_shape (x:=x) (v:=v) h
  exact .inr ⟨x,t,rfl,e⟩
theorem amp (i:Int) (t:Tok):aet (.inl i) (.int i t)=true:=by simp [aet,Value.isInt]
theorem amq (x:Str) (t:Tok):aet (.inr x) (.str x t)=true:=by simp [aet,Value.isStrOf]
theorem asz (a b:Int):decide ((Sum.inl a:Key)=Sum.inl b)=(a == b):=by
 by_cases e:a=b
 ·subst e;simp
 ·have h:¬ (Sum.inl a:Key)=Sum.inl b:=fun q=>e (Sum.inl.inj q)
  rw [ay5 h]
  exact (beq_eq_false_iff_ne.mpr e).symm
theorem as0 (a b:Str):decide ((Sum.inr a:Key)=Sum.inr b)=decide (a=b):=by
 by_cases e:a=b
 ·subst e;simp
 ·have h:¬ (Sum.inr a:Key)=Sum.inr b:=fun q=>e (Sum.inr.inj q)
  rw [ay5 h,ay5 e]
theorem as4 (a:Int) (b:Str):decide ((Sum.inl a:Key)=Sum.inr b)=false:=ay5 (fun q=>nomatch q)
theorem as6 (a:Str) (b:Int):decide ((Sum.inr a:Key)=Sum.inl b)=false:=ay5 (fun q=>nomatch q)
def aa4 (prog:Program) (w:World):PySem.KeyKind prog w Key where
 is:=aet
 hash:=keyH w
 inj:=fun v a b ha hb=>by
  rcases aa7 ha with ⟨i,t,rfl,rfl⟩ | ⟨x,t,rfl,rfl⟩
  ·rcases aa7 hb with ⟨j,u,rfl,e⟩ | ⟨y,u,rfl,e⟩
   ·injection e with e1 _;rw [e1]
   ·exact nomatch e
  ·rcases aa7 hb with ⟨j,u,rfl,e⟩ | ⟨y,u,rfl,e⟩
   ·exact nomatch e
   ·injection e with e1 _;rw [e1]
 byValue:=fun k v h=>by
  rcases aa7 h with ⟨i,t,rfl,rfl⟩ | ⟨x,t,rfl,rfl⟩ <;> rfl
 pyHash:=fun hv h=>by
  rcases aa7 hv with ⟨i,t,rfl,rfl⟩ | ⟨x,t,rfl,rfl⟩
  ·exact wpAny_pyHash_int h
  ·exact wpAny_pyHash_str h
 eqBool:=fun hu hv h=>by
  rcases aa7 hu with ⟨i,t,rfl,rfl⟩ | ⟨x,t,rfl,rfl⟩
  ·rcases aa7 hv with ⟨j,u,rfl,rfl⟩ | ⟨y,u,rfl,rfl⟩
   ·rw [asz] at h;exact wpAny_eqBool_int h
   ·rw [as4] at h;exact SeqAt.EqAt.int_str i t y u _ _ _ _ h
  ·rcases aa7 hv with ⟨j,u,rfl,rfl⟩ | ⟨y,u,rfl,rfl⟩
   ·rw [as6] at h;exact SeqAt.EqAt.str_int x t j u _ _ _ _ h
   ·rw [as0] at h;exact wpAny_eqBool_str h
 «strs»:=fun k x t v h=>by
  rcases aa7 h with ⟨i,u,rfl,e⟩ | ⟨y,u,rfl,e⟩
  ·exact nomatch e
  ·injection e with e1 _
   subst e1
   cases v <;> rfl
theorem aka (prog:Program) (w:World) (i:Int) (t:Tok):(aa4 prog w).is (.inl i) (.int i t)=true:=amp i t
theorem akb (prog:Program) (w:World) (x:Str) (t:Tok):(aa4 prog w).is (.inr x) (.str x t)=true:=amq x t
inductive V where
 | non | bl (b:Bool) | int (i:Int) | str (x:Str) | byt (b:Array UInt8) | flt (b:UInt64) | ref (a:Addr) | ty (n:String)
 deriving DecidableEq
def RelV:V->Value->Prop
 | .non,u=>u=Value.none
 | .bl b,u=>u=Value.bool b
 | .int i,u=>∃ t,u=Value.int i t
 | .str x,u=>∃ t,u=Value.str x t
 | .byt b,u=>∃ t,u=Value.bytes b t
 | .flt b,u=>∃ t,u=Value.float b t
 | .ref a,u=>u=Value.ref a
 | .ty n,u=>u=Value.type n
abbrev Vals:List V->List Value->Prop:=Paired RelV
theorem Vals.length {xs:List V} {us:List Value} (r:Vals xs us):xs.length=us.length:=Paired.length r
theorem Vals.get:∀ {xs:List V} {us:List Value} {i:Nat} {x:V},Vals xs us->xs[i]?=some x->∃ u,us[i]?=some u/\RelV x u
 | _,_,_,_,.nil,e=>by simp at e
 | _,_,0,_,.cons r _,e=>by simp at e;subst e;exact ⟨_,rfl,r⟩
 | _,_,i+1,x,.cons _ t,e=>by
  obtain ⟨u,a,b⟩:=Vals.get (i:=i) (x:=x) t (by simpa using e)
  exact ⟨u,by simpa using a,b⟩
theorem Vals.set {x:V} {u:Value} (r:RelV x u):∀ {xs:List V} {us:List Value} (i:Nat),Vals xs us->Vals (xs.set i x) (us.set i u)
 | _,_,_,.nil => .nil
 | _,_,0,.cons _ t => .cons r t
 | _,_,i+1,.cons q t => .cons q (Vals.set r i t)
theorem Vals.append:∀ {xs ys:List V} {us ws:List Value},Vals xs us->Vals ys ws->Vals (xs ++ ys) (us ++ ws)
 | _,_,_,_,.nil,s=>s
 | _,_,_,_,.cons r t,s => .cons r (Vals.append t s)
theorem Vals.take:∀ {xs:List V} {us:List Value} (n:Nat),Vals xs us->Vals (xs.take n) (us.take n)
 | _,_,0,_ => .nil
 | _,_,_+1,.nil => .nil
 | _,_,n+1,.cons r t => .cons r (Vals.take n t)
theorem Vals.drop:∀ {xs:List V} {us:List Value} (n:Nat),Vals xs us->Vals (xs.drop n) (us.drop n)
 | _,_,0,r=>r
 | _,_,_+1,.nil => .nil
 | _,_,n+1,.cons _ t=>Vals.drop n t
def RelO:Option V->Option Value->Prop
 | some v,some u=>RelV v u
 | none,none=>True
 | _,_=>False
def KV {κ:Type}:List (κ × V)->List (κ × Value)->Prop:=Paired fun (p : κ × V) (q : κ × Value)=>p.1=q.1/\RelV p.2 q.2
def kV:Key->V
 | .inl i => .int i
 | .inr x => .str x
inductive HO where
 /-- a list -/
 | lst (xs:List V)
 /-- a tuple (never changes) -/
 | tup (xs:List V)
 /-- a dict whose keys are ints and texts; one whose keys are tuples of ints and texts (the empty one is both) -/
 | dK (kvs:List (Key × V)) | dT (kvs:List (List Key × V))
 /-- a set of ints: its members, its size -/
 | set (S:Int->Bool) (n:Nat)
 /-- an instance of the class at C, its dict at dx, its attributes -/
 | ins (C dx:Addr) (fs:List (Str × V))
 /-- the dict of the instance at x -/
 | own (x:Addr)
 /-- the dict of an exception -/
 | xd (fs:List (Str × V))
 /-- a bound method, f of x -/
 | met (f x:Addr)
 /-- a range object lo, lo + 1, .. below hi -/
 | rng (lo hi:Int)
 /-- a thing that is known to the object (the script; a dict while a loop walks it): read, never written while it is so -/
 | frz (o:Obj) (u:HO)
 /-- a code object's table -/
 | tbl (ps:Array Value)
 /-- any other thing, by what is true of its one object (a def of one's own: SetO a S n:=HO.ext fun h => ..) -/
 | ext (φ:Heap->Prop)
abbrev Hp:=Addr->Option HO
def upd (H:Hp) (a:Addr) (o:HO):Hp:=fun b=>if b=a then some o else H b
theorem aag {H:Hp} {a:Addr} {o:HO}:upd H a o a=some o:=by unfold upd;rw [az7 rfl]
theorem aac {H:Hp} {a b:Addr} {o:HO} (h:b ≠ a):upd H a o b=H b:=by unfold upd;rw [az8 h]
theorem ap9 {H:Hp} {a b:Addr} {o u:HO} (h:H a=some o) (h':H b=some u) (d:o ≠ u):a ≠ b:=by
 intro e;subst e;rw [h] at h';exact d (ax6 h')
theorem aah {H:Hp} {a b:Addr} {o:HO} (h:H a=some o) (h':H b=none):a ≠ b:=by
 intro e;subst e;rw [h] at h';cases h'
section
variable (P:Program) (w:World)
def ObjOk (H:Hp) (h:Heap) (a:Addr):HO->Prop
 | .lst xs=>xs.length<=sizeLine/\∃ (its:List Value) (n:Nat),Vals xs its/\h.get? a=some { cls:=.type "list",data:=.seq its.toArray n }
 | .tup xs=>xs.length<=sizeLine/\∃ its:List Value,Vals xs its/\IsTup h a its.toArray
 | .dK kvs=>kvs.length<=sizeLine/\(a == sysModules)=false/\∃ vs,KV kvs vs/\h.DictOf (aa4 P w) a vs
 | .dT kvs=>kvs.length<=sizeLine/\(a == sysModules)=false/\∃ xs:List (List Key × Addr × Value),
   Paired (fun (p:List Key × V) (q:List Key × Addr × Value)=>p.1=q.1/\H q.2.1=some (.tup (p.1.map kV))/\RelV p.2 q.2.2) kvs xs /\
   ∃ o es ep,h.get? a=some o/\o.ExactDict/\o.data=.dict es ep/\es.toList=xs.map (entryOfKey (tupleKind (aa4 P w)))/\(xs.map (·.1)).Nodup
 | .set S n=>h.SetOf (intKind P w) a S n
 | .ins C dx fs=>H dx=some (.own a)/\fs.length<=1000/\dx ≠ a/\h.get? a=some (PySem.W.instObj C dx) /\
   ∃ mA,h.Ns1 dx mA/\(∀ f,RelO (fs.lookup f) (mA f))/\PySem.Within mA (fs.map (·.1))
 | .own _=>∃ o,h.get? a=some o
 | .xd fs=>∃ mA,h.Ns1 a mA/\∀ f,RelO (fs.lookup f) (mA f)
 | .rng lo hi=>∃ t u v,h.get? a=some { cls:=.type "range",data:=.fields #[.int lo t,.int hi u,.int 1 v] }
 | .frz o u=>h.get? a=some o/\ObjOk H h a u
 | .tbl gs=>∃ ps:Array Value,h.get? a=some { cls:=.none,data:=.fields ps }/\TriplesOk ps.toList/\∀ (pos:Pos) (cv:Value),codeAmong pos ps.toList=some cv->∃ c oc vs q t t',cv=.ref c/\H c=some (.own a)/\h.get? c=some oc/\oc.data=.fields vs/\vs[1]?=some (.str q t)/\gs[0]?=some (.str q t')
 | .met f x=>h.get? a=some (PySem.W.methodObj (.ref f) (.ref x))
 | .ext φ => φ h/\(∃ o,h.get? a=some o)/\∀ h1 h2:Heap,φ h1->(∀ o,h1.get? a=some o->h2.get? a=some o)->φ h2
def HOk (H:Hp) (h:Heap):Prop:=∀ a o,H a=some o->ObjOk P w H h a o
end
section
variable {P:Program} {w:World} {H H':Hp} {h h':Heap} {a:Addr} {o:HO}
theorem ObjOk.lt (x:ObjOk P w H h a o):a < h.objs.size:=by
 cases o with
 | lst xs=>obtain ⟨_,_,_,_,e⟩:=x;exact aC6 e
 | tup xs=>obtain ⟨_,_,_,p⟩:=x;exact p.lt
 | dK kvs=>obtain ⟨_,_,_,_,o,_,_,e,_⟩:=x;exact aC6 e
 | dT kvs=>obtain ⟨_,_,_,_,o,_,_,e,_⟩:=x;exact aC6 e
 | set S n=>obtain ⟨o,_,_,_,e,_⟩:=x;exact aC6 e
 | ins C dx fs=>obtain ⟨_,_,_,e,_⟩:=x;exact aC6 e
 | own y=>obtain ⟨_,e⟩:=x;exact aC6 e
 | xd fs=>obtain ⟨_,⟨_,_,_,e,_⟩,_⟩:=x;exact aC6 e
 | rng lo hi=>obtain ⟨_,_,_,e⟩:=x;exact aC6 e
 | frz ob u=>obtain ⟨e,_⟩:=x;exact aC6 e
 | tbl ps=>obtain ⟨_,e,_⟩:=x;exact aC6 e
 | met f y=>exact aC6 (show h.get? a=some _ from x)
 | ext φ=>obtain ⟨_,⟨_,e⟩,_⟩:=x;exact aC6 e
theorem Paired.mapP {α β:Type} {F G : α->β->Prop}:∀ {c:List α} {d:List β},Paired F c d->(∀ a b,F a b->G a b)->Paired G c d
 | _,_,.nil,_ => .nil
 | _,_,.cons r t,f => .cons (f _ _ r) (Paired.mapP t f)
theorem ObjOk.stay (x:ObjOk P w H h a o) (k:∀ b u,(b=a\/H b=some (.own a))->h.get? b=some u->h'.get? b=some u)
  (s:∀ b,H b=some (.own a)->H' b=some (.own a)) (D:∀ b xs,H b=some (.tup xs)->H' b=some (.tup xs)):ObjOk P w H' h' a o:=by
 induction o with
 | lst xs=>obtain ⟨z,its,n,r,e⟩:=x;exact ⟨z,its,n,r,k _ _ (.inl rfl) e⟩
 | tup xs=>obtain ⟨z,its,r,g,e,c⟩:=x;exact ⟨z,its,r,g,k _ _ (.inl rfl) e,c⟩
 | dK kvs=>obtain ⟨z,y,vs,r,g,es,i,e,c⟩:=x;exact ⟨z,y,vs,r,g,es,i,k _ _ (.inl rfl) e,c⟩
 | dT kvs =>
  obtain ⟨z,y,xs,r,g,es,i,e,c⟩:=x
  exact ⟨z,y,xs,Paired.mapP r fun p q z=>⟨z.1,D _ _ z.2.1,z.2.2⟩,g,es,i,k _ _ (.inl rfl) e,c⟩
 | set S n=>obtain ⟨g,es,i,t,e,c⟩:=x;exact ⟨g,es,i,t,k _ _ (.inl rfl) e,c⟩
 | ins C dx fs =>
  obtain ⟨d,z,ne,e,mA,⟨od,es,i,j,c⟩,r⟩:=x
  exact ⟨s _ d,z,ne,k _ _ (.inl rfl) e,mA,⟨od,es,i,k _ _ (.inr d) j,c⟩,r⟩
 | own y=>obtain ⟨g,e⟩:=x;exact ⟨g,k _ _ (.inl rfl) e⟩
 | xd fs=>obtain ⟨mA,⟨od,es,i,e,c⟩,r⟩:=x;exact ⟨mA,⟨od,es,i,k _ _ (.inl rfl) e,c⟩,r⟩
 | rng lo hi=>obtain ⟨t,u,v,e⟩:=x;exact ⟨t,u,v,k _ _ (.inl rfl) e⟩
 | frz g u ih=>obtain ⟨e,q⟩:=x;exact ⟨k _ _ (.inl rfl) e,ih q⟩
 | tbl ps =>
  obtain ⟨m,e,T,f⟩:=x
  exact ⟨m,k a _ (.inl rfl) e,T,fun l E z=>let ⟨c,oc,vs,q,t,t',B,j,A,r⟩:=f l E z;⟨c,oc,vs,q,t,t',B,s c j,k c oc (.inr j) A,r⟩⟩
 | met f y =>
  have e:h.get? a=some (PySem.W.methodObj (.ref f) (.ref y)):=x
  show h'.get? a=some (PySem.W.methodObj (.ref f) (.ref y))
  exact k a _ (.inl rfl) e
 | ext φ=>obtain ⟨p,⟨o,e⟩,st⟩:=x;exact ⟨st _ _ p fun o q=>k _ _ (.inl rfl) q,⟨o,k _ _ (.inl rfl) e⟩,st⟩
theorem HOk.lt (x:HOk P w H h) (e:H a=some o):a < h.objs.size:=(x a o e).lt
theorem HOk.fresh (x:HOk P w H h) (e:h.objs.size<=a):H a=none:=by
 cases q:H a with
 | none=>rfl
 | some u=>exact absurd (ax5 (x.lt q) e) (aA5 _)
theorem HOk.kept (x:HOk P w H h) (k:∀ b u,h.get? b=some u->h'.get? b=some u):HOk P w H h':=fun a o e =>
 (x a o e).stay (fun b u _ q=>k b u q) (fun _ q=>q) fun _ _ q=>q
theorem HOk.laid (x:HOk P w H h) (k:∀ b u,h.get? b=some u->h'.get? b=some u) (d:h.objs.size<=a) (new:ObjOk P w (upd H a o) h' a o):HOk P w (upd H a o) h':=fun b u e=>by
 have hn:=x.fresh d
 by_cases hb:b=a
 ·subst hb;rw [aag] at e;cases e;exact new
 ·rw [aac hb] at e
  exact (x b u e).stay (fun c v _ q=>k c v q) (fun c q=>by rw [aac (aah q hn)];exact q) fun c xs q=>by rw [aac (aah q hn)];exact q
end
def Rd (H:Hp) (a:Addr) (u:HO):Prop:=H a=some u\/∃ o,H a=some (.frz o u)
theorem Rd.of {H:Hp} {a:Addr} {u:HO} (h:H a=some u):Rd H a u:=.inl h
theorem Rd.ok {P:Program} {w:World} {H:Hp} {h:Heap} {a:Addr} {u:HO} (r:Rd H a u) (x:HOk P w H h):ObjOk P w H h a u:=by
 rcases r with r | ⟨o,r⟩
 ·exact x a u r
 ·obtain ⟨_,q⟩:=x a _ r
  exact q
def Mut:Option HO->Prop
 | some (.lst _)=>True
 | some (.dK _)=>True
 | some (.dT _)=>True
 | some (.set _ _)=>True
 | some (.ins _ _ _)=>True
 | some (.ext _)=>True
 | _=>False
section
variable {P:Program} {w:World} {H:Hp} {h h':Heap} {x e:Addr} {o':HO}
theorem HOk.write (ok:HOk P w H h) (f:Mut (H x)) (j:e=x\/H e=some (.own x)) (k:∀ b u,b ≠ e->h.get? b=some u->h'.get? b=some u) (i:∃ u,h'.get? e=some u)
  (new:ObjOk P w (upd H x o') h' x o'):HOk P w (upd H x o') h':=fun b u q=>by
 have a:∀ c y,H c=some (.own y)->c ≠ x:=fun c y r z=>by subst z;rw [r] at f;exact f
 have d:∀ c xs,H c=some (.tup xs)->c ≠ x:=fun c xs r z=>by subst z;rw [r] at f;exact f
 by_cases hb:b=x
 ·subst hb;rw [aag] at q;cases q;exact new
 ·rw [aac hb] at q
  by_cases hbe:b=e
  ·have l:H b=some (.own x):=by
    rcases j with z | z
    ·exact absurd (hbe.trans z) hb
    ·rw [hbe];exact z
   rw [q] at l;cases l
   obtain ⟨v,m⟩:=i
   exact ⟨v,by rw [hbe];exact m⟩
  ·refine (ok b u q).stay (fun c v g r=>k c v ?_ r) (fun c r=>by rw [aac (a c b r)];exact r) fun c xs r=>by rw [aac (d c xs r)];exact r
   rcases g with rfl | g
   ·exact hbe
   ·rintro rfl
    rcases j with z | z
    ·exact a c b g z
    ·rw [g] at z;cases z;exact hb rfl
end
structure Un (fs ex:List Addr) (H H':Hp) (h h':Heap):Prop where
 keep:∀ b o,h.get? b=some o->H b=none->b ∉ fs->b ∉ ex->h'.get? b=some o
 slot:∀ b o,h.get? b=some o->H b=none->b∈fs->b ∉ ex->∃ sl,h'.get? b=some { o with slots:=sl }
 free:∀ b o,h.get? b=some o->H b=none->b ∉ ex->H' b=none
 there:∀ b o,h.get? b=some o->b ∉ ex->∃ o',h'.get? b=some o'
 tups:∀ b xs,H b=some (.tup xs)->H' b=some (.tup xs)
 frzs:∀ b o u,H b=some (.frz o u)->H' b=some (.frz o u)
 tbls:∀ b ps,H b=some (.tbl ps)->∃ more,H' b=some (.tbl (ps ++ more))
section
variable {fs fs' ex ex':List Addr} {H H1 H2:Hp} {h h1 h2 h':Heap} {a x e:Addr} {o:HO}
theorem Un.any (u:Un fs ex H H1 h h1) {b:Addr} {a:Obj} (q:h.get? b=some a) (n:H b=none) (c:b ∉ ex):∃ sl,h1.get? b=some { a with slots:=sl }:=by
 by_cases hb:b∈fs
 ·exact u.slot b a q n hb c
 ·exact ⟨a.slots,u.keep b a q n hb c⟩
theorem Un.trans (a:Un fs ex H H1 h h1) (b:Un fs ex H1 H2 h1 h2):Un fs ex H H2 h h2 where
 keep:=fun c d q n i f=>b.keep c d (a.keep c d q n i f) (a.free c d q n f) i f
 slot:=fun c d q n i f=>by
  obtain ⟨sl,g⟩:=a.slot c d q n i f
  obtain ⟨j,l⟩:=b.slot c _ g (a.free c d q n f) i f
  exact ⟨j,l⟩
 free:=fun c d q n f=>by
  obtain ⟨o',g⟩:=a.there c d q f
  exact b.free c o' g (a.free c d q n f) f
 there:=fun c d q f=>by
  obtain ⟨o',g⟩:=a.there c d q f
  exact b.there c o' g f
 tups:=fun c xs q=>b.tups c xs (a.tups c xs q)
 frzs:=fun c d xs q=>b.frzs c d xs (a.frzs c d xs q)
 tbls:=fun c ps q=>by
  obtain ⟨m,g⟩:=a.tbls c ps q
  obtain ⟨o,l⟩:=b.tbls c _ g
  exact ⟨m ++ o,by rw [l,Array.append_assoc]⟩
theorem Un.kept (k:∀ b u,h.get? b=some u->h'.get? b=some u):Un fs ex H H h h' :=
 ⟨fun b a q _ _ _=>k b a q,fun b a q _ _ _=>⟨a.slots,k b a q⟩,fun _ _ _ n _=>n,fun b a q _=>⟨a,k b a q⟩,fun _ _ q=>q,fun _ _ _ q=>q,fun _ ps q=>⟨#[],by rw [q];simp⟩⟩
theorem Un.refl:Un fs ex H H h h:=Un.kept fun _ _ q=>q
theorem Un.laid (k:∀ b u,h.get? b=some u->h'.get? b=some u) (c:h.objs.size<=a) (hn:H a=none):Un fs ex H (upd H a o) h h' where
 keep:=fun b u q _ _ _=>k b u q
 slot:=fun b u q _ _ _=>⟨u.slots,k b u q⟩
 free:=fun b u q n _=>by rw [aac (aw6 (ax5 (aC6 q) c))];exact n
 there:=fun b u q _=>⟨u,k b u q⟩
 tups:=fun b xs q=>by rw [aac (aah q hn)];exact q
 frzs:=fun b u xs q=>by rw [aac (aah q hn)];exact q
 tbls:=fun b ps q=>⟨#[],by rw [aac (aah q hn),q];simp⟩
theorem Un.write (a:Mut (H x)) (g:e=x\/H e=some (.own x)) (k:∀ b u,b ≠ e->h.get? b=some u->h'.get? b=some u) (c:∃ u,h'.get? e=some u):Un fs ex H (upd H x o) h h':=by
 have d:∀ b,H b=none->b ≠ x:=fun b n z=>by subst z;rw [n] at a;exact a
 have hb:∀ b,H b=none->b ≠ e:=fun b n z=>by
  subst z
  rcases g with r | r
  ·exact d b n r
  ·rw [n] at r;cases r
 have hm:∀ b u,H b=some u->¬ Mut (some u)->b ≠ x:=fun b u q f z=>by subst z;rw [q] at a;exact f a
 refine ⟨fun b u q n _ _=>k b u (hb b n) q,fun b u q n _ _=>⟨u.slots,k b u (hb b n) q⟩,fun b u q n _=>by rw [aac (d b n)];exact n,fun b u q _=>?_,
  fun b xs q=>by rw [aac (hm b _ q fun z=>z)];exact q,fun b u xs q=>by rw [aac (hm b _ q fun z=>z)];exact q,fun b ps q=>⟨#[],by rw [aac (hm b _ q fun z=>z),q];simp⟩⟩
 by_cases hbe:b=e
 ·subst hbe;exact c
 ·exact ⟨u,k b u hbe q⟩
theorem Un.mono (u:Un fs ex H H1 h h1) (f:∀ b∈fs,b∈fs') (d:∀ b∈ex,b∈ex'):Un fs' ex' H H1 h h1 :=
 ⟨fun b c q n hb a=>u.keep b c q n (fun z=>hb (f b z)) fun z=>a (d b z),fun _ _ q n _ a=>u.any q n fun z=>a (d _ z),fun b c q n a=>u.free b c q n fun z=>a (d b z),fun b c q a=>u.there b c q fun z=>a (d b z),u.tups,u.frzs,u.tbls⟩
end
def trk (h:Heap) (H:Hp):List Addr:=(List.range h.objs.size).filter fun a=>(H a).isSome
def hidT (h:Heap) (H:Hp):Heap:=PySem.W.hideAll h (trk h H)
theorem amr (h:Heap) (H:Hp):(hidT h H).objs.size=h.objs.size:=PySem.W.hideAll_size _ _
theorem aog {h:Heap} {H:Hp} {b:Addr} {o:Obj} (e:h.get? b=some o) (n:H b=none):(hidT h H).get? b=some o :=
 PySem.W.hideAll_get _ e fun hm=>by
  have q:(H b).isSome=true:=(List.mem_filter.mp hm).2
  rw [n] at q;simp at q
theorem aqw {h:Heap} {H:Hp} {b:Addr} {o:Obj} (e:(hidT h H).get? b=some o):h.get? b=some o/\H b=none:=by
 have a:h.get? b=some o:=PySem.W.of_hideAll (trk h H) e
 refine ⟨a,?_⟩
 cases q:H b with
 | none=>rfl
 | some x =>
  have hm:b∈trk h H:=List.mem_filter.mpr ⟨aw9.mpr (aC6 a),by simp [q]⟩
  have z:(hidT h H).get? b=none:=PySem.W.hideAll_none (trk h H) hm
  rw [z] at e;cases e
def aeu (g h:Heap) (L:Addr):List (Addr × Obj):=(List.range h.objs.size).filterMap fun a=>if a=L\/(g.get? a).isSome=true then none else (h.get? a).map fun o=>(a,o)
theorem akc {g h:Heap} {L a:Addr} {o:Obj} (c:a ≠ L) (d:g.get? a=none) (b:h.get? a=some o):(a,o)∈aeu g h L :=
 List.mem_filterMap.mpr ⟨a,aw9.mpr (aC6 b),by simp [c,d,b]⟩
theorem agc {g h:Heap} {L:Addr} {p:Addr × Obj} (a:p∈aeu g h L):p.1 ≠ L/\g.get? p.1=none/\h.get? p.1=some p.2:=by
 obtain ⟨b,_,e⟩:=List.mem_filterMap.mp a
 split at e
 ·cases e
 ·rename_i hn
  cases q:h.get? b with
  | none=>rw [q] at e;simp at e
  | some u =>
   rw [q] at e
   simp only [aB9,Option.some.injEq] at e
   subst e
   refine ⟨fun z=>hn (.inl z),?_,q⟩
   show g.get? b=none
   cases r:g.get? b with
   | none=>rfl
   | some v=>exact (hn (.inr (by simp [r]))).elim
def rest (g h:Heap) (L d:Addr):List (Addr × Obj):=(aeu g h L).filter fun p=>decide (p.1 ≠ d)
theorem aoh {g h:Heap} {L:Addr}:News g L h (aeu g h L):=fun p d=>let ⟨a,b,c⟩:=agc d;⟨c,a,b⟩
def lamN:Str:="best_few"
def lamQ:Str:="best_few.<locals>.<lambda>"
def aqa (mg:Str->Option Value) (h:Heap):Prop:=∃ bm ob,mg "__builtins__" = some (.ref bm)/\bm ≠ builtinsNs/\h.get? bm=some ob/\ob.cls=.type "module"/\ob.dict=some builtinsNs/\ob.data=.plain
def TabsOk (K:Frag) (H:Hp):Prop:=∀ c P,PySem.W.tabIn K lamN=some (c,P)->∃ more,H P=some (.tbl (#[.str lamQ 0] ++ more))
structure Mod (K:Frag) (mg:Str->Option Value) (base:Heap):Prop where
 kin:K.In base
 glob:base.Ns mainGlobals mg
 blt:∃ mb,base.Ns builtinsNs mb/\∀ x:Str,x ≠ "__name__"->mb x=bootBuiltins x
 nolimit:base.NoLimit
 bmain:aqa mg base
/-- the context: a def's body (or a comprehension's block) running. base: fixed through the whole law; s₀, H₀: the entry; outer: the frames whose slots others may change (a def's callers); stack: all frames that run;
  ex: iterators that were made ahead of the entry and are walked here (a comprehension's);fn: the names whose cells were made at the entry (a def: all;a comprehension's block: its own);calm: not within an except suite;pn: pins that every state bears;xe: what is wanted of an exception that leaves the code -/
structure Cx where
 prog:Program
 w:World
 K:Frag
 mg:Str->Option Value
 base:Heap
 A:Around
 N:List Str
 s₀:Shared
 H₀:Hp
 env:Env
 outer:List Env
 stack:List Env
 ex:List Addr
 fn:Str->Bool
 calm:Bool
 pn:List (Addr × Obj)
 xe:Value->Shared->Prop
def frs (l:List Env):List Addr:=l.filterMap (·.frame)
abbrev Cx.fs (X:Cx):List Addr:=frs X.outer
def Vis (sc:Scope) (x:Str):Prop:=sc.names.lookup x=some .local\/sc.names.lookup x=some .cell\/sc.names.lookup x=some .free
def Loc (sc:Scope) (x:Str):Prop:=sc.names.lookup x=some .local\/sc.names.lookup x=some .cell
def Look (env:Env) (h:Heap) (m:Str->Option Value) (x:Str) (u:Value):Prop :=
 (env.kindOf x=some .local/\m x=some u)\/((env.kindOf x=some .cell\/env.kindOf x=some .free)/\∃ c,env.cells.lookup x=some c/\h.IsCell c (some u))
structure Cx.Ok (X:Cx):Prop where
 mod:Mod X.K X.mg X.base
 kind:X.env.scope.kind=.function
 glob:X.env.globals=mainGlobals
 blt:X.env.builtins=builtinsNs
 above:X.s₀.heap.objs.size<=X.env.locals
 inj:∀ x y c,X.env.cells.lookup x=some c->X.env.cells.lookup y=some c->x=y
 has:∀ x,(X.env.kindOf x=some .cell\/X.env.kindOf x=some .free)->∃ c,X.env.cells.lookup x=some c
 cab:∀ x c,X.fn x=true->X.env.cells.lookup x=some c->X.s₀.heap.objs.size<=c
 hd:X.calm=true->X.A.handled=none
 frames:X.A.frames=some X.stack
 stk:X.stack=X.outer\/(X.stack=X.env :: X.outer/\X.env.frame=some X.env.locals)
 exf:∀ b∈X.ex,b ≠ X.env.locals/\∀ x c,X.env.cells.lookup x=some c->c ≠ b
 bs:∀ b o,X.base.get? b=some o->X.s₀.heap.get? b=some o/\X.H₀ b=none
 bsz:X.base.objs.size<=X.s₀.heap.objs.size
 noex:∀ b o,X.base.get? b=some o->b ∉ X.ex
 exfs:∀ b∈X.ex,b ∉ X.fs
 funs:X.s₀.heap.FunFrames X.base X.outer
 frf:∀ b∈X.fs,X.H₀ b=none
 tab:TabsOk X.K X.H₀
structure Inv (X:Cx) (pins:List (Addr × Obj)) (σ:List (Option V)) (H:Hp) (s:Shared):Prop where
 ok:X.Ok
 os:s.os=X.s₀.os
 bare:AllBare s.gens
 base:Un X.fs X.ex X.H₀ H X.s₀.heap s.heap
 loc:∃ m,s.heap.Ns X.env.locals m/\∀ (i:Nat) (x:Str) (v:V),X.N[i]?=some x->σ[i]?=some (some v)->Vis X.env.scope x->∃ u,RelV v u/\Look X.env s.heap m x u
 cell:∀ x c,X.env.cells.lookup x=some c->∃ v,s.heap.IsCell c v
 free:H X.env.locals=none
 freeC:∀ x c,X.env.cells.lookup x=some c->H c=none
 pin:∀ p∈X.pn ++ pins,s.heap.get? p.1=some p.2/\H p.1=none/\p.1 ≠ X.env.locals/\p.1 ∉ X.fs/\∀ v,p.2.data ≠ .cell v
 hok:HOk X.prog X.w H s.heap
 len : σ.length=X.N.length
section
variable {X:Cx} {pins:List (Addr × Obj)} {σ:List (Option V)} {H H':Hp} {s:Shared} {h':Heap}
theorem Cx.Ok.nofr (ok:X.Ok) {b:Addr} {o:Obj} (e:X.base.get? b=some o):b ∉ X.fs:=fun hb=>by
 have:=(ok.funs.mem hb).1
 rw [e] at this;cases this
theorem Inv.bs (I:Inv X pins σ H s):∀ b o,X.base.get? b=some o->s.heap.get? b=some o/\H b=none:=fun b o e =>
 ⟨I.base.keep b o (I.ok.bs b o e).1 (I.ok.bs b o e).2 (I.ok.nofr e) (I.ok.noex b o e),I.base.free b o (I.ok.bs b o e).1 (I.ok.bs b o e).2 (I.ok.noex b o e)⟩
theorem Inv.bk (I:Inv X pins σ H s):∀ b o,X.base.get? b=some o->s.heap.get? b=some o:=fun b o e=>(I.bs b o e).1
theorem Inv.mod (I:Inv X pins σ H s):Mod X.K X.mg X.base:=I.ok.mod
theorem Inv.kIn (I:Inv X pins σ H s):X.K.In s.heap:=I.ok.mod.kin.keeps I.bk
theorem Inv.fr (I:Inv X pins σ H s):∃ m,Fr X.base X.env.locals s.heap m :=
 let ⟨m,hn,_⟩:=I.loc
 ⟨m,hn,I.bk,ay0 I.ok.bsz I.ok.above⟩
theorem Inv.lt (I:Inv X pins σ H s):X.env.locals < s.heap.objs.size:=let ⟨_,hn,_⟩:=I.loc;hn.lt
theorem Inv.sz (I:Inv X pins σ H s):X.s₀.heap.objs.size<=s.heap.objs.size:=ay0 I.ok.above (aA6 I.lt)
theorem Inv.nofs (I:Inv X pins σ H s) {a:Addr} (h:s.heap.objs.size<=a):a ∉ X.fs:=fun hb=>by
 obtain ⟨_,o,b,_⟩:=I.ok.funs.mem hb
 exact absurd (ax5 (aC6 b) (ay0 I.sz h)) (aA5 _)
theorem Inv.cne (I:Inv X pins σ H s):∀ x c,X.env.cells.lookup x=some c->c ≠ X.env.locals:=fun x c e z=>by
 obtain ⟨v,o,d,hd⟩:=I.cell x c e
 obtain ⟨m,⟨o',es,f,b,a,_⟩,_⟩:=I.loc
 rw [z,b] at d;cases d;rw [a] at hd;cases hd
theorem Inv.funs (I:Inv X pins σ H s):s.heap.FunFrames X.base X.outer:=by
 have all:∀ (l:List Env),(∀ b∈frs l,b∈X.fs)->X.s₀.heap.FunFrames X.base l->s.heap.FunFrames X.base l:=by
  intro l
  induction l with
  | nil=>intro _ _;trivial
  | cons env r ih =>
   intro c f
   obtain ⟨d,⟨L,o,hf,hn,g,hd⟩,h⟩:=f
   have a:L∈X.fs:=c L (by unfold frs;rw [List.filterMap_cons,hf];exact aw8)
   obtain ⟨sl,e⟩:=I.base.slot L o g (I.ok.frf L a) a fun z=>I.ok.exfs L z a
   exact ⟨d,⟨L,_,hf,hn,e,hd⟩,ih (fun b hb=>c b (by unfold frs;rw [List.filterMap_cons,hf];exact aw5 _ hb)) h⟩
 exact all X.outer (fun _ hb=>hb) I.ok.funs
theorem TabsOk.un {K:Frag} {fs ex:List Addr} {H H':Hp} {h h':Heap} (t:TabsOk K H) (u:Un fs ex H H' h h'):TabsOk K H':=fun c P e =>
 let ⟨m,q⟩:=t c P e
 let ⟨b,a⟩:=u.tbls P _ q
 ⟨m ++ b,by rw [a,Array.append_assoc]⟩
theorem Inv.tab (I:Inv X pins σ H s):TabsOk X.K H:=I.ok.tab.un I.base
theorem Inv.stack (I:Inv X pins σ H s):s.heap.FunFrames X.base X.stack:=by
 rcases I.ok.stk with e | ⟨e,hf⟩
 ·rw [e];exact I.funs
 ·rw [e]
  obtain ⟨m,hn,_⟩:=I.loc
  refine .cons (by rw [I.ok.kind];decide) hf hn ?_ I.funs
  exact Heap.get?_none_of_le (ay0 I.ok.bsz I.ok.above)
theorem Inv.stkSub (I:Inv X pins σ H s):∀ b∈frs X.stack,b∈X.env.locals :: X.fs:=fun b hb=>by
 rcases I.ok.stk with e | ⟨e,hf⟩
 ·rw [e] at hb;exact aw5 _ hb
 ·rw [e] at hb
  unfold frs at hb
  rw [List.filterMap_cons,hf] at hb
  exact hb
theorem Inv.stkFree (I:Inv X pins σ H s):∀ b∈frs X.stack,H b=none:=fun b hb=>by
 rcases av9.mp (I.stkSub b hb) with e | hb
 ·rw [e];exact I.free
 ·obtain ⟨_,o,a,_⟩:=I.ok.funs.mem hb
  exact I.base.free b o a (I.ok.frf b hb) fun z=>I.ok.exfs b z hb
theorem Inv.step {g':Array GenState} {t':Nat} {d':Drawn} {ch:List Addr} (I:Inv X pins σ H s)
  (f:∀ b∈ch,(b∈X.ex\/X.s₀.heap.objs.size<=b)/\b ≠ X.env.locals/\(∀ x c,X.env.cells.lookup x=some c->c ≠ b)/\∀ p∈X.pn ++ pins,p.1 ≠ b)
  (keep:∀ b o,b ≠ X.env.locals->b ∉ X.fs->b ∉ ch->s.heap.get? b=some o->H b=none->h'.get? b=some o)
  (slot:∀ b o,b ≠ X.env.locals->b∈X.fs->b ∉ ch->s.heap.get? b=some o->H b=none->∃ sl,h'.get? b=some { o with slots:=sl }) (free:∀ b o,b ∉ ch->s.heap.get? b=some o->H b=none->H' b=none)
  (there:∀ b o,b ∉ ch->s.heap.get? b=some o->∃ o',h'.get? b=some o')
  (tups:∀ b xs,H b=some (.tup xs)->H' b=some (.tup xs)) (frzs:∀ b o u,H b=some (.frz o u)->H' b=some (.frz o u)) (tbls:∀ b ps,H b=some (.tbl ps)->∃ more,H' b=some (.tbl (ps ++ more)))
  (ns:∀ m,s.heap.Ns X.env.locals m->h'.Ns X.env.locals m) (hok:HOk X.prog X.w H' h') (K:AllBare g') :
  Inv X pins σ H' { s with heap:=h',gens:=g',drawn:=d',toks:=t' }:=by
 have B:∀ b o,X.s₀.heap.get? b=some o->b ≠ X.env.locals:=fun b o e=>aw6 (ax5 (aC6 e) I.ok.above)
 have y:∀ b o,X.s₀.heap.get? b=some o->b ∉ X.ex->b ∉ ch:=fun b o e a hb=>by
  rcases (f b hb).1 with z | z
  ·exact a z
  ·exact absurd (ax5 (aC6 e) z) (aA5 _)
 have h:∀ x c,X.env.cells.lookup x=some c->∀ v,s.heap.IsCell c v->h'.IsCell c v:=fun x c e v L=>by
  obtain ⟨o,A,hd⟩:=L
  have g:c ∉ ch:=fun z=>(f c z).2.2.1 x c e rfl
  by_cases hc:c∈X.fs
  ·obtain ⟨sl,q⟩:=slot c o (I.cne x c e) hc g A (I.freeC x c e)
   exact ⟨_,q,hd⟩
  ·exact ⟨o,keep c o (I.cne x c e) hc g A (I.freeC x c e),hd⟩
 refine ⟨I.ok,I.os,K,⟨fun b o e n hb a=>?_,fun b o e n hb a=>?_,fun b o e n a=>?_,fun b o e a=>?_,fun b xs e=>tups b xs (I.base.tups b xs e),fun b o xs e=>frzs b o xs (I.base.frzs b o xs e),fun b ps e=>?_⟩,?_,fun x c e=>?_,?_,fun x c e=>?_,fun p F=>?_,hok,I.len⟩
 ·exact keep b o (B b o e) hb (y b o e a) (I.base.keep b o e n hb a) (I.base.free b o e n a)
 ·obtain ⟨sl,j⟩:=I.base.slot b o e n hb a
  obtain ⟨D,C⟩:=slot b _ (B b o e) hb (y b o e a) j (I.base.free b o e n a)
  exact ⟨D,C⟩
 ·obtain ⟨o',j⟩:=I.base.there b o e a
  exact free b o' (y b o e a) j (I.base.free b o e n a)
 ·obtain ⟨o',j⟩:=I.base.there b o e a
  exact there b o' (y b o e a) j
 ·obtain ⟨G,j⟩:=I.base.tbls b ps e
  obtain ⟨N,C⟩:=tbls b _ j
  exact ⟨G ++ N,by rw [C,Array.append_assoc]⟩
 ·obtain ⟨m,hn,M⟩:=I.loc
  refine ⟨m,ns m hn,fun i x v j C J=>?_⟩
  obtain ⟨u,r,l⟩:=M i x v j C J
  refine ⟨u,r,?_⟩
  rcases l with l | ⟨k,c,e,z⟩
  ·exact .inl l
  ·exact .inr ⟨k,c,e,h x c e _ z⟩
 ·obtain ⟨v,z⟩:=I.cell x c e
  exact ⟨v,h x c e v z⟩
 ·obtain ⟨m,⟨o,_,_,A,_⟩,_⟩:=I.loc
  exact free _ o (fun z=>(f _ z).2.1 rfl) A I.free
 ·obtain ⟨v,o,A,hd⟩:=I.cell x c e
  exact free c o (fun z=>(f c z).2.2.1 x c e rfl) A (I.freeC x c e)
 ·obtain ⟨e,n,ne,E,d⟩:=I.pin p F
  have g:p.1 ∉ ch:=fun z=>(f p.1 z).2.2.2 p F rfl
  exact ⟨keep p.1 p.2 ne E g e n,free p.1 p.2 g e n,ne,E,d⟩
theorem Inv.un {t':Nat} (I:Inv X pins σ H s) (u:Un X.fs [] H H' s.heap h') (hok:HOk X.prog X.w H' h'):Inv X pins σ H' { s with heap:=h',toks:=t' }:=by
 obtain ⟨m,⟨o,es,i,f,r⟩,_⟩:=id I.loc
 obtain ⟨sl,h⟩:=u.any f I.free (by simp)
 exact I.step (g':=s.gens) (d':=s.drawn) (ch:=[]) (fun _ z=>nomatch z) (fun b o _ hb _ e n=>u.keep b o e n hb (by simp)) (fun b o _ hb _ e n=>u.slot b o e n hb (by simp)) (fun b o _ e n=>u.free b o e n (by simp)) (fun b o _ e=>u.there b o e (by simp)) u.tups u.frzs u.tbls (fun j hm=>by
  obtain ⟨o',d,c,a,g⟩:=hm
  rw [f] at a;cases a
  exact ⟨_,d,c,h,g⟩) hok I.bare
theorem Inv.call {g':Array GenState} {t':Nat} {d':Drawn} {ch:List Addr} (I:Inv X pins σ H s) (u:Un (frs X.stack) ch H H' s.heap h') (hok:HOk X.prog X.w H' h') (l:AllBare g')
  (d:∀ b∈ch,(b∈X.ex\/X.s₀.heap.objs.size<=b)/\b ≠ X.env.locals/\(∀ x c,X.env.cells.lookup x=some c->c ≠ b)/\∀ p∈X.pn ++ pins,p.1 ≠ b) :
  Inv X pins σ H' { s with heap:=h',gens:=g',drawn:=d',toks:=t' }:=by
 obtain ⟨m,⟨o,es,v,j,r⟩,_⟩:=id I.loc
 obtain ⟨sl,i⟩:=u.any j I.free fun z=>(d _ z).2.1 rfl
 exact I.step (ch:=ch) d (fun b o i hb a e n=>u.keep b o e n (fun z=>(av9.mp (I.stkSub b z)).elim i hb) a) (fun b o _ _ a e n=>u.any e n a) (fun b o a e n=>u.free b o e n a) (fun b o a e=>u.there b o e a) u.tups u.frzs u.tbls (fun y hm=>by
  obtain ⟨o',h,g,f,q⟩:=hm
  rw [j] at f;cases f
  exact ⟨_,h,g,i,q⟩) hok l
theorem Inv.turned {t':Nat} {it:Addr} (I:Inv X pins σ H s) (k:∀ b o,b ≠ it->s.heap.get? b=some o->h'.get? b=some o) (hn:H it=none) (f:it ≠ X.env.locals)
  (g:it∈X.ex\/X.s₀.heap.objs.size<=it) (i:∀ x c,X.env.cells.lookup x=some c->c ≠ it) (h:∀ p∈X.pn ++ pins,p.1 ≠ it):Inv X pins σ H { s with heap:=h',toks:=t' }:=by
 have d:∀ b u,H b=some u->b ≠ it:=fun b u e z=>by rw [z,hn] at e;cases e
 refine I.step (g':=s.gens) (d':=s.drawn) (ch:=[it]) (fun b hb=>?_) (fun b o _ _ a e _=>k b o (fun z=>a (by simp [z])) e) (fun b o _ _ a e _=>⟨o.slots,k b o (fun z=>a (by simp [z])) e⟩) (fun _ _ _ _ n=>n)
  (fun b o a e=>⟨o,k b o (fun z=>a (by simp [z])) e⟩) (fun _ _ e=>e) (fun _ _ _ e=>e) (fun b ps e=>⟨#[],by rw [e];simp⟩) (fun m hm=>?_) (fun b u e=>?_) I.bare
 ·have e:b=it:=by simpa using hb
  subst e
  exact ⟨g,f,i,h⟩
 ·obtain ⟨o,es,j,l,r⟩:=hm
  exact ⟨o,es,j,k _ o (Ne.symm f) l,r⟩
 ·refine (I.hok b u e).stay (fun c v a q=>k c v ?_ q) (fun _ q=>q) fun _ _ q=>q
  rcases a with z | z
  ·rw [z];exact d b u e
  ·exact d c _ z
theorem Inv.tok (I:Inv X pins σ H s) (t:Nat):Inv X pins σ H { s with toks:=t }:=I.un (h':=s.heap) (t':=t) Un.refl I.hok
theorem Inv.kept {t':Nat} (I:Inv X pins σ H s) (k:∀ b u,s.heap.get? b=some u->h'.get? b=some u):Inv X pins σ H { s with heap:=h',toks:=t' }:=I.un (Un.kept k) (I.hok.kept k)
theorem Inv.laid {a:Addr} {o:HO} {t':Nat} (I:Inv X pins σ H s) (k:∀ b u,s.heap.get? b=some u->h'.get? b=some u) (c:s.heap.objs.size<=a) (new:ObjOk X.prog X.w (upd H a o) h' a o) :
  Inv X pins σ (upd H a o) { s with heap:=h',toks:=t' }:=I.un (Un.laid k c (I.hok.fresh c)) (I.hok.laid k c new)
theorem Inv.write {x e:Addr} {o:HO} {t':Nat} (I:Inv X pins σ H s) (c:Mut (H x)) (d:e=x\/H e=some (.own x)) (k:∀ b u,b ≠ e->s.heap.get? b=some u->h'.get? b=some u) (a:∃ u,h'.get? e=some u)
  (new:ObjOk X.prog X.w (upd H x o) h' x o):Inv X pins σ (upd H x o) { s with heap:=h',toks:=t' }:=I.un (Un.write c d k a) (I.hok.write c d k a new)
theorem Inv.pins_of {a:List (Addr × Obj)} (I:Inv X pins σ H s) (h:∀ p∈a,s.heap.get? p.1=some p.2/\H p.1=none/\p.1 ≠ X.env.locals/\p.1 ∉ X.fs/\∀ v,p.2.data ≠ .cell v):Inv X a σ H s :=
 ⟨I.ok,I.os,I.bare,I.base,I.loc,I.cell,I.free,I.freeC,fun p b=>(av7.mp b).elim (fun z=>I.pin p (ax7 _ z)) (h p),I.hok,I.len⟩
theorem nodup_ix {N:List Str} (c:N.Nodup) {i j:Nat} {x:Str} (a:N[i]?=some x) (b:N[j]?=some x):i=j:=by
 obtain ⟨g,d⟩:=av1.mp a
 obtain ⟨h,f⟩:=av1.mp b
 exact (List.getElem_inj c).mp (d.trans f.symm)
theorem ams {M:Model} {A:Around} {E:Value->Shared->Prop} {i:Nat} {x:Str} {v:V} {u:Value} {Q:Unit->Shared->Prop} (I:Inv X pins σ H s) (hN:X.N.Nodup) (hi:X.N[i]?=some x) (C:Loc X.env.scope x) (r:RelV v u)
  (h:∀ Z,Inv X pins (σ.set i (some v)) H Z->(∃ a,Heap.SameBut a s.heap Z.heap/\(a=X.env.locals\/X.env.cells.lookup x=some a))->Q () Z) (hf:X.fn x=true\/X.env.scope.names.lookup x=some .local:=by first | exact .inl rfl | exact .inr rfl | assumption):wpAny M A (storeName X.env x u) Q E s:=by
 obtain ⟨m,hn,hl⟩:=id I.loc
 have P:(X.env.scope.kind == .class || (X.env.scope.kind == .module && X.env.locals != X.env.globals))=false:=by rw [I.ok.kind];rfl
 have G:i < σ.length:=by rw [I.len];exact (av1.mp hi).1
 have cne:=I.cne
 have g:∀ {a:Addr} {h':Heap},(∃ o,s.heap.get? a=some o/\H a=none)->Heap.SameBut a s.heap h'->HOk X.prog X.w H h':=fun {a h'} ha f b ob e=>by
  obtain ⟨_,_,D⟩:=ha
  refine (I.hok b ob e).stay (fun c S B q=>(f.2 c ?_).trans q) (fun _ q=>q) fun _ _ q=>q
  rintro rfl
  rcases B with rfl | B
  ·rw [D] at e;cases e
  ·rw [D] at B;cases B
 rcases C with J | J
 ·refine wpAny_storeName_local J hn (fun h' a0 f=>?_) P
  obtain ⟨oL,_,_,a1,_⟩:=id hn
  refine h _ ⟨I.ok,I.os,I.bare,⟨fun b o e n hb C=>?_,fun b o e n hb C=>?_,I.base.free,fun b o e C=>?_,I.base.tups,I.base.frzs,I.base.tbls⟩,⟨_,a0,fun j y U l F e3=>?_⟩,fun y c e=>?_,I.free,I.freeC,fun p Y=>?_,g ⟨oL,a1,I.free⟩ f,by simpa using I.len⟩ ⟨_,f,.inl rfl⟩
  ·exact (f.2 b (aw6 (ax5 (aC6 e) I.ok.above))).trans (I.base.keep b o e n hb C)
  ·obtain ⟨sl,l⟩:=I.base.slot b o e n hb C
   exact ⟨sl,(f.2 b (aw6 (ax5 (aC6 e) I.ok.above))).trans l⟩
  ·obtain ⟨o',l⟩:=I.base.there b o e C
   exact ⟨o',(f.2 b (aw6 (ax5 (aC6 e) I.ok.above))).trans l⟩
  ·by_cases hj:j=i
   ·subst hj
    rw [hi] at l;cases l
    rw [List.getElem?_set_self G] at F
    cases F
    exact ⟨u,r,.inl ⟨J,by simp⟩⟩
   ·rw [List.getElem?_set_ne (Ne.symm hj)] at F
    obtain ⟨W,r',q⟩:=hl j y U l F e3
    refine ⟨W,r',?_⟩
    rcases q with ⟨k,e⟩ | ⟨k,c,e,z⟩
    ·refine .inl ⟨k,?_⟩
     have:y ≠ x:=fun e=>hj (nodup_ix hN l (e ▸ hi))
     simp [this,e]
    ·exact .inr ⟨k,c,e,z.sameBut f (cne y c e)⟩
  ·obtain ⟨S,z⟩:=I.cell y c e
   exact ⟨S,z.sameBut f (cne y c e)⟩
  ·obtain ⟨e,n,ne,nf,d⟩:=I.pin p Y
   exact ⟨(f.2 p.1 ne).trans e,n,ne,nf,d⟩
 ·have K:X.fn x=true:=by
   rcases hf with z | z
   ·exact z
   ·rw [z] at J;cases J
  obtain ⟨c,B⟩:=I.ok.has x (.inl J)
  obtain ⟨S,z⟩:=I.cell x c B
  refine wpAny_storeName_cell I.ok.kind J B z (fun h' L f=>?_)
  obtain ⟨oc,O,R⟩:=id z
  refine h { s with heap:=h' } ⟨I.ok,I.os,I.bare,⟨fun b o e n hb C=>?_,fun b o e n hb C=>?_,I.base.free,fun b o e C=>?_,I.base.tups,I.base.frzs,I.base.tbls⟩,⟨m,hn.sameBut f (Ne.symm (cne x c B)),fun j y U l F e3=>?_⟩,fun y T e=>?_,I.free,I.freeC,fun p Y=>?_,g ⟨oc,O,I.freeC x c B⟩ f,by simpa using I.len⟩ ⟨c,f,.inr B⟩
  ·exact (f.2 b (aw6 (ax5 (aC6 e) (I.ok.cab x c K B)))).trans (I.base.keep b o e n hb C)
  ·obtain ⟨sl,l⟩:=I.base.slot b o e n hb C
   exact ⟨sl,(f.2 b (aw6 (ax5 (aC6 e) (I.ok.cab x c K B)))).trans l⟩
  ·obtain ⟨o',l⟩:=I.base.there b o e C
   exact ⟨o',(f.2 b (aw6 (ax5 (aC6 e) (I.ok.cab x c K B)))).trans l⟩
  ·by_cases hj:j=i
   ·subst hj
    rw [hi] at l;cases l
    rw [List.getElem?_set_self G] at F
    cases F
    exact ⟨u,r,.inr ⟨.inl J,c,B,L⟩⟩
   ·rw [List.getElem?_set_ne (Ne.symm hj)] at F
    obtain ⟨W,r',q⟩:=hl j y U l F e3
    refine ⟨W,r',?_⟩
    rcases q with q | ⟨k,T,e,z'⟩
    ·exact .inl q
    ·refine .inr ⟨k,T,e,z'.sameBut f ?_⟩
     rintro rfl
     exact hj (nodup_ix hN l (I.ok.inj _ _ _ e B ▸ hi))
  ·by_cases hcc:T=c
   ·subst hcc;exact ⟨_,L⟩
   ·obtain ⟨w2,z2⟩:=I.cell y T e
    exact ⟨w2,z2.sameBut f hcc⟩
  ·obtain ⟨e,n,ne,nf,d⟩:=I.pin p Y
   refine ⟨(f.2 p.1 ?_).trans e,n,ne,nf,d⟩
   intro q
   rw [q,O] at e
   have q':oc=p.2:=ax6 e
   exact d S (by rw [← q'];exact R)
theorem ail {M:Model} {A:Around} {E:Value->Shared->Prop} {i:Nat} {x:Str} {v:V} {u:Value} {Q:Unit->Shared->Prop} (I:Inv X pins σ H s) (c:X.N.Nodup) (hi:X.N[i]?=some x) (d:Loc X.env.scope x) (r:RelV v u)
  (h:∀ a,Inv X pins (σ.set i (some v)) H a->Q () a) (hf:X.fn x=true\/X.env.scope.names.lookup x=some .local:=by first | exact .inl rfl | exact .inr rfl | assumption):wpAny M A (storeName X.env x u) Q E s :=
 ams I c hi d r (fun a b _=>h a b) hf
theorem Inv.call' {a:Shared} {ch:List Addr} (I:Inv X pins σ H s) (g:a.os=s.os) (u:Un (frs X.stack) ch H H' s.heap a.heap) (hok:HOk X.prog X.w H' a.heap) (f:AllBare a.gens)
  (d:∀ b∈ch,(b∈X.ex\/X.s₀.heap.objs.size<=b)/\b ≠ X.env.locals/\(∀ x c,X.env.cells.lookup x=some c->c ≠ b)/\∀ p∈X.pn ++ pins,p.1 ≠ b):Inv X pins σ H' a:=by
 obtain ⟨h',g',d',t',o'⟩:=a
 have e:o'=s.os:=g
 subst e
 exact I.call (g':=g') (t':=t') (d':=d') u hok f d
end
abbrev XK:=Value->Option Addr->Hp->Prop
abbrev St:=List (Option V)
abbrev VK:=V->Hp->Prop
abbrev TE:=St->Hp->VK->Prop
abbrev TT:=St->Hp->(Bool->Hp->Prop)->Prop
abbrev TA:=St->Hp->(List V->Hp->Prop)->Prop
structure Ends where
 nx:St->Hp->Prop
 rt:VK
 bk:St->Hp->Prop:=fun _ _=>False
 ct:St->Hp->Prop:=fun _ _=>False
abbrev TS:=Ends->St->Hp->Prop
def EP (X:Cx) (pins:List (Addr × Obj)) (σ:St) (Q:VK) (u:Value) (s':Shared):Prop:=∃ v H',Inv X pins σ H' s'/\RelV v u/\Q v H'
def TP (X:Cx) (pins:List (Addr × Obj)) (σ:St) (Q:Bool->Hp->Prop) (b:Bool) (s':Shared):Prop:=∃ H',Inv X pins σ H' s'/\Q b H'
def AP (X:Cx) (pins:List (Addr × Obj)) (σ:St) (Q:List V->Hp->Prop) (us:List Value) (s':Shared):Prop:=∃ vs H',Inv X pins σ H' s'/\Vals vs us/\Q vs H'
def SP (X:Cx) (pins:List (Addr × Obj)) (D:Ends) (f:Flow) (s':Shared):Prop :=
 match f with
 | .next=>∃ σ' H',Inv X pins σ' H' s'/\D.nx σ' H'
 | .brk=>∃ σ' H',Inv X pins σ' H' s'/\D.bk σ' H'
 | .cont=>∃ σ' H',Inv X pins σ' H' s'/\D.ct σ' H'
 | .ret u=>∃ v σ' H',Inv X pins σ' H' s'/\RelV v u/\D.rt v H'
def PE (X:Cx) (e:Expr) (t:TE):Prop :=
 ∀ (pins:List (Addr × Obj)) (s:Shared) (σ:St) (H:Hp) (Q:VK),Inv X pins σ H s->t σ H Q->wpAny (model X.prog X.w) X.A (eval e X.env) (EP X pins σ Q) X.xe s
def PT (X:Cx) (e:Expr) (t:TT):Prop :=
 ∀ (pins:List (Addr × Obj)) (s:Shared) (σ:St) (H:Hp) (Q:Bool->Hp->Prop),Inv X pins σ H s->t σ H Q->wpAny (model X.prog X.w) X.A (isTrue e X.env (eval e X.env)) (TP X pins σ Q) X.xe s
def PW (X:Cx) (e:Expr) (t:TT):Prop :=
 ∀ (whole:Sem Value) (pins:List (Addr × Obj)) (s:Shared) (σ:St) (H:Hp) (Q:Bool->Hp->Prop),Inv X pins σ H s->t σ H Q->wpAny (model X.prog X.w) X.A (isTrue e X.env whole) (TP X pins σ Q) X.xe s
theorem PW.pt {X:Cx} {e:Expr} {t:TT} (h:PW X e t):PT X e t:=h _
def PA (X:Cx) (es:List Expr) (t:TA):Prop :=
 ∀ (pos:Pos) (pins:List (Addr × Obj)) (s:Shared) (σ:St) (H:Hp) (Q:List V->Hp->Prop),Inv X pins σ H s->t σ H Q->wpAny (model X.prog X.w) X.A (spliced (backTo pos (starEach es X.env))) (AP X pins σ Q) X.xe s
def PS (X:Cx) (st:Stmt) (t:TS):Prop :=
 ∀ (pins:List (Addr × Obj)) (s:Shared) (σ:St) (H:Hp) (D:Ends),Inv X pins σ H s->t D σ H->wpAny (model X.prog X.w) X.A (exec st X.env) (SP X pins D) X.xe s
def PSs (X:Cx) (st:List Stmt) (t:TS):Prop :=
 ∀ (pins:List (Addr × Obj)) (s:Shared) (σ:St) (H:Hp) (D:Ends),Inv X pins σ H s->t D σ H->wpAny (model X.prog X.w) X.A (execs st X.env) (SP X pins D) X.xe s
theorem thn {α:Type} {t:Sem α} {Q b : α->Shared->Prop} {M:Model} {A:Around} {E:Value->Shared->Prop} {s:Shared} (h:wpAny M A t Q E s) (c:∀ a s,Q a s->b a s):wpAny M A t b E s:=aC9 h c fun _ _ x=>x
section
variable {X:Cx}
def tVar (i:Nat):TE:=fun σ H Q=>∃ v,σ[i]?=some (some v)/\Q v H
def tC (v:V):TE:=fun _ H Q=>Q v H
theorem as7 {i:Nat} {x:Str} {f:Pos} (o:X.N[i]?=some x) (j:Vis X.env.scope x) (hd:(x == ("__debug__" : Str))=false:=by decide) (d:(x == ("__classdict__" : Str))=false:=by decide):PE X (.Name x f) (tVar i):=by
 intro pins s σ H Q I h
 obtain ⟨v,e,h⟩:=h
 obtain ⟨m,hn,n⟩:=I.loc
 obtain ⟨u,r,l⟩:=n i x v o e j
 have fin:EP X pins σ Q u s:=⟨v,H,I,r,h⟩
 rcases l with ⟨b,hm⟩ | ⟨b,c,g,a⟩
 ·exact wpAny_Name (wpAny_loadName_local I.ok.kind b hn hm fin) hd
 ·rcases b with b | b
  ·exact wpAny_Name (wpAny_loadName_cell I.ok.kind b g a fin) hd
  ·exact wpAny_Name (wpAny_loadName_free I.ok.kind b g a fin d) hd
theorem aad {i j pos}:PE X (.Constant (.int i) j pos) (tC (.int i)):=fun _ _ _ H _ I h=>wpAny_Constant_int ⟨.int i,H,I.tok _,⟨_,rfl⟩,h⟩
theorem ab7 {b j pos}:PE X (.Constant (.bool b) j pos) (tC (.bl b)):=fun _ _ _ H _ I h=>Constant_bool ⟨.bl b,H,I,rfl,h⟩
theorem amt {j pos}:PE X (.Constant .none j pos) (tC .non):=fun _ _ _ H _ I h=>Constant_none ⟨.non,H,I,rfl,h⟩
theorem adk {x j pos}:PE X (.Constant (.str x) j pos) (tC (.str x)):=fun _ _ _ H _ I h=>Calls.Constant_str ⟨.str x,H,I.tok _,⟨_,rfl⟩,h⟩
def Gl (X:Cx) (x:Str):Prop:=X.env.kindOf x=some .globalImplicit
theorem agd {E:Value->Shared->Prop} {pins:List (Addr × Obj)} {s:Shared} {σ:St} {H:Hp} {x:Str} {u:Value} {a:Pos} {Q:Value->Shared->Prop} (I:Inv X pins σ H s) (b:Gl X x) (hm:X.mg x=some u) (h:Q u s)
  (hd:(x == ("__debug__" : Str))=false:=by decide):wpAny (model X.prog X.w) X.A (eval (.Name x a) X.env) Q E s :=
 Calls.Name_function_global I.ok.kind b (Calls.loadGlobal_global (by rw [I.ok.glob];exact I.mod.glob.keeps I.bk) hm h) hd
theorem acx {E:Value->Shared->Prop} {pins:List (Addr × Obj)} {s:Shared} {σ:St} {H:Hp} {x:Str} {u:Value} {a:Pos} {Q:Value->Shared->Prop} (I:Inv X pins σ H s) (d:Gl X x) (hm:X.mg x=none) (f:bootBuiltins x=some u) (h:Q u s)
  (hn:x ≠ "__name__":=by decide) (hd:(x == ("__debug__" : Str))=false:=by decide):wpAny (model X.prog X.w) X.A (eval (.Name x a) X.env) Q E s:=by
 obtain ⟨mb,b,c⟩:=I.mod.blt
 exact Calls.Name_function_global I.ok.kind d (Calls.loadGlobal_builtin (by rw [I.ok.glob];exact I.mod.glob.keeps I.bk) hm (by rw [I.ok.blt];exact b.keeps I.bk) ((c x hn).trans f) h) hd
theorem akq {x:Str} {v:V} {u:Value} {a:Pos} (b:Gl X x) (hm:X.mg x=some u) (r:RelV v u) (hd:(x == ("__debug__" : Str))=false:=by decide):PE X (.Name x a) (tC v) :=
 fun _ _ _ H _ I h=>agd I b hm ⟨v,H,I,r,h⟩ hd
theorem ab3 {x:Str} {v:V} {u:Value} {a:Pos} (b:Gl X x) (hm:X.mg x=none) (c:bootBuiltins x=some u) (r:RelV v u) (hn:x ≠ "__name__":=by decide) (hd:(x == ("__debug__" : Str))=false:=by decide):PE X (.Name x a) (tC v) :=
 fun _ _ _ H _ I h=>acx I b hm c ⟨v,H,I,r,h⟩ hn hd
variable {a b:Expr} {ta tb:TE} {pos:Pos}
def tB (t:TE):TT:=fun σ H Q=>t σ H fun x H1=>∃ c,x=.bl c/\Q c H1
theorem ach {e:Expr} {t:TE} (h:PE X e t) (a:∀ whole,isTrue e X.env whole=(do let v ← whole;standAt e.pos;holding [v] (truthy v)):=by intro _;rfl):PT X e (tB t):=by
 intro pins s σ H Q I g
 refine isTrue_plain (thn (h pins s σ H _ I g) fun v s1 ⟨x,i,c,b,f⟩=>?_) (a _)
 obtain ⟨d,rfl,q⟩:=f
 cases b
 exact aD2 ⟨i,c,q⟩
variable {tA tB':TT} {rest:List Expr}
def tAnd (t u:TT):TT:=fun σ H Q=>t σ H fun c H1=>if c=true then u σ H1 Q else Q false H1
def tOr (t u:TT):TT:=fun σ H Q=>t σ H fun c H1=>if c=true then Q true H1 else u σ H1 Q
def tNot (t:TT):TT:=fun σ H Q=>t σ H fun c H1=>Q (!c) H1
theorem akr (ha:PT X a tA):PW X (.BoolOp .And [a] pos) tA:=by
 intro b pins s σ H Q I h
 refine isTrue_and (thn (ha pins s σ H Q I h) fun c s1 e=>?_)
 cases c with
 | true=>exact isTrue_and_nil e
 | false=>exact e
theorem acy (ha:PT X a tA):PW X (.BoolOp .Or [a] pos) tA:=by
 intro b pins s σ H Q I h
 refine isTrue_or (thn (ha pins s σ H Q I h) fun c s1 e=>?_)
 cases c with
 | false=>exact isTrue_or_nil e
 | true=>exact e
theorem amu (ha:PT X a tA) (hb:PW X (.BoolOp .And (b :: rest) pos) tB'):PW X (.BoolOp .And (a :: b :: rest) pos) (tAnd tA tB'):=by
 intro i pins s σ H Q I h
 refine isTrue_and (thn (ha pins s σ H _ I h) fun c s1 ⟨d,f,g⟩=>?_)
 cases c with
 | true=>exact hb i pins s1 σ d Q f g
 | false=>exact ⟨d,f,g⟩
theorem ada (ha:PT X a tA) (hb:PW X (.BoolOp .Or (b :: rest) pos) tB'):PW X (.BoolOp .Or (a :: b :: rest) pos) (tOr tA tB'):=by
 intro i pins s σ H Q I h
 refine isTrue_or (thn (ha pins s σ H _ I h) fun c s1 ⟨d,f,g⟩=>?_)
 cases c with
 | true=>exact ⟨d,f,g⟩
 | false=>exact hb i pins s1 σ d Q f g
theorem aci (ha:PT X a tA):PT X (.UnaryOp .Not a pos) (tNot tA):=by
 intro pins s σ H Q I h
 exact isTrue_not (ha pins s σ H (fun c b=>Q (!c) b) I h)
def aln (ta tb:TE):TE:=fun σ H Q=>ta σ H fun x H1=>∃ c,x=.bl c/\if c=true then tb σ H1 Q else Q (.bl false) H1
def alo (ta:TE):TE:=fun σ H Q=>ta σ H fun x H1=>∃ c,x=.bl c/\Q (.bl (!c)) H1
theorem ad9 {op} {t:TE} (h:PE X a t):PE X (.BoolOp op [a] pos) t:=fun pins s σ H Q I b=>BoolOp_one (h pins s σ H Q I b)
theorem acz (ha:PE X a ta) (hb:PE X (.BoolOp .And (b :: rest) pos) tb):PE X (.BoolOp .And (a :: b :: rest) pos) (aln ta tb):=by
 intro pins s σ H Q I h
 refine BoolOp_and (thn (ha pins s σ H _ I h) fun v s1 ⟨x,f,g,i,d⟩=>?_)
 obtain ⟨c,rfl,d⟩:=d
 cases i
 refine aD2 ?_
 cases c with
 | true=>exact hb pins s1 σ f Q g d
 | false=>exact ⟨.bl false,f,g,rfl,d⟩
theorem as8 (ha:PE X a ta):PE X (.UnaryOp .Not a pos) (alo ta):=by
 intro pins s σ H Q I h
 refine UnaryOp_ (thn (ha pins s σ H _ I h) fun v s1 ⟨x,d,f,g,b⟩=>?_)
 obtain ⟨c,rfl,b⟩:=b
 cases g
 exact not_of (aD2 ⟨.bl (!c),d,f,rfl,b⟩)
end
def SqL (K:Frag) (H:Hp) (a:Addr) (xs:List V):Prop :=
 Rd H a (.lst xs) ∨
  ∃ (o:Obj) (its:Array Value) (n:Nat),K.lookup a=some o/\o.cls=.type "list"/\o.dict=none/\o.data=.seq its n/\its.size<=sizeLine/\Vals xs its.toList
def SqT (K:Frag) (H:Hp) (a:Addr) (xs:List V):Prop :=
 Rd H a (.tup xs) ∨
  ∃ (o:Obj) (its:Array Value) (n:Nat),K.lookup a=some o/\o.cls=.type "tuple"/\o.data=.seq its n/\its.size<=sizeLine/\Vals xs its.toList
def absV:Value->Option V
 | .none=>some .non
 | .bool b=>some (.bl b)
 | .int i _=>some (.int i)
 | .str x _=>some (.str x)
 | .bytes b _=>some (.byt b)
 | .float b _=>some (.flt b)
 | .ref a=>some (.ref a)
 | .type n=>some (.ty n)
 | _=>none
theorem RelV.abs {x:V} {u:Value} (r:RelV x u):absV u=some x:=by
 cases x with
 | non=>cases r;rfl
 | bl _=>cases r;rfl
 | int _=>obtain ⟨t,rfl⟩:=r;rfl
 | str _=>obtain ⟨t,rfl⟩:=r;rfl
 | byt _=>obtain ⟨t,rfl⟩:=r;rfl
 | flt _=>obtain ⟨t,rfl⟩:=r;rfl
 | ref _=>cases r;rfl
 | ty _=>cases r;rfl
theorem RelV.inj {x y:V} {u:Value} (r:RelV x u) (q:RelV y u):x=y:=ax6 (r.abs.symm.trans q.abs)
theorem Vals.inj:∀ {xs ys:List V} {us:List Value},Vals xs us->Vals ys us->xs=ys
 | _,_,_,.nil,.nil=>rfl
 | _,_,_,.cons r t,.cons r' t'=>by rw [r.inj r',Vals.inj t t']
section
variable {X:Cx} {pins:List (Addr × Obj)} {σ:St} {H:Hp} {s:Shared} {a:Addr} {xs ys:List V}
theorem SqL.of {K:Frag} (h:H a=some (.lst xs)):SqL K H a xs:=.inl (.inl h)
theorem SqT.of {K:Frag} (h:H a=some (.tup xs)):SqT K H a xs:=.inl (.inl h)
theorem Inv.list (I:Inv X pins σ H s) (h:SqL X.K H a xs):∃ its:List Value,Vals xs its/\PlainL s.heap a its.toArray/\xs.length<=sizeLine:=by
 rcases h with h | ⟨o,its,n,d,c,hd,b,f,r⟩
 ·obtain ⟨z,its,n,r,e⟩:=h.ok I.hok
  exact ⟨its,r,⟨_,n,e,rfl,rfl,rfl⟩,z⟩
 ·refine ⟨its.toList,r,⟨o,n,I.kIn a o d,c,hd,by simpa using b⟩,?_⟩
  have e:=r.length
  simp only [av8] at e
  omega
theorem Inv.tuple (I:Inv X pins σ H s) (h:SqT X.K H a xs):∃ its:List Value,Vals xs its/\IsTup s.heap a its.toArray/\xs.length<=sizeLine:=by
 rcases h with h | ⟨o,its,n,d,c,b,f,r⟩
 ·obtain ⟨z,its,r,p⟩:=h.ok I.hok
  exact ⟨its,r,p,z⟩
 ·refine ⟨its.toList,r,⟨o,I.kIn a o d,c,n,by simpa using b⟩,?_⟩
  have e:=r.length
  simp only [av8] at e
  omega
theorem Inv.list_inj (I:Inv X pins σ H s) (h:SqL X.K H a xs) (h':SqL X.K H a ys):xs=ys:=by
 obtain ⟨its,r,⟨o,n,e,_,_,d⟩,_⟩:=I.list h
 obtain ⟨its',c,⟨o',g,b,_,_,d'⟩,_⟩:=I.list h'
 rw [e] at b;cases b
 rw [d] at d'
 injection d' with f _
 have:its=its':=by simpa using congrArg Array.toList f
 subst this
 exact r.inj c
end
abbrev Cx.wish (X:Cx) (E:Value->Shared->Prop):Cx:={ X with xe:=E }
abbrev Cx.nox (X:Cx):Cx:=X.wish fun _ _=>False
theorem Cx.Ok.wish {X:Cx} (ok:X.Ok) (E:Value->Shared->Prop):(X.wish E).Ok :=
 ⟨ok.mod,ok.kind,ok.glob,ok.blt,ok.above,ok.inj,ok.has,ok.cab,ok.hd,ok.frames,ok.stk,ok.exf,ok.bs,ok.bsz,ok.noex,ok.exfs,ok.funs,ok.frf,ok.tab⟩
theorem Cx.Ok.unwish {X:Cx} {E:Value->Shared->Prop} (ok:(X.wish E).Ok):X.Ok :=
 ⟨ok.mod,ok.kind,ok.glob,ok.blt,ok.above,ok.inj,ok.has,ok.cab,ok.hd,ok.frames,ok.stk,ok.exf,ok.bs,ok.bsz,ok.noex,ok.exfs,ok.funs,ok.frf,ok.tab⟩
section
variable {X:Cx} {pins:List (Addr × Obj)} {σ:St} {H:Hp} {s:Shared} {E:Value->Shared->Prop}
theorem Inv.wish (I:Inv X pins σ H s) (E:Value->Shared->Prop):Inv (X.wish E) pins σ H s:=⟨I.ok.wish E,I.os,I.bare,I.base,I.loc,I.cell,I.free,I.freeC,I.pin,I.hok,I.len⟩
theorem Inv.unwish (I:Inv (X.wish E) pins σ H s):Inv X pins σ H s:=⟨I.ok.unwish,I.os,I.bare,I.base,I.loc,I.cell,I.free,I.freeC,I.pin,I.hok,I.len⟩
theorem SP.unwish {D:Ends} {f:Flow} {b:Shared} (h:SP (X.wish E) pins D f b):SP X pins D f b:=by
 cases f with
 | next=>obtain ⟨a,H',I,q⟩:=h;exact ⟨a,H',I.unwish,q⟩
 | brk=>obtain ⟨a,H',I,q⟩:=h;exact ⟨a,H',I.unwish,q⟩
 | cont=>obtain ⟨a,H',I,q⟩:=h;exact ⟨a,H',I.unwish,q⟩
 | ret u=>obtain ⟨v,a,H',I,r,q⟩:=h;exact ⟨v,a,H',I.unwish,r,q⟩
theorem PSs.nox {st:List Stmt} {t:TS} (h:PSs X.nox st t):PSs X st t:=fun pins s σ H D I a =>
 aC9 (h pins s σ H D (I.wish _) a) (fun _ _ q=>q.unwish) fun _ _ z=>False.elim z
end
section
variable {X:Cx} {st:Stmt} {rest:List Stmt} {t u:TS} {e:Expr} {te:TE} {pos:Pos}
def aqb:TS:=fun D σ H=>D.nx σ H
def tSeq (t u:TS):TS:=fun D σ H=>t { D with nx:=u D } σ H
theorem aa0:PSs X [] aqb:=fun _ _ σ H _ I h=>wpAny_execs_nil ⟨σ,H,I,h⟩
theorem aae (b:PS X st t) (d:PSs X rest u):PSs X (st :: rest) (tSeq t u):=by
 intro pins s σ H D I h
 refine wpAny_execs_cons (thn (b pins s σ H { D with nx:=u D } I h) fun f s1 q=>?_)
 cases f with
 | next =>
  obtain ⟨a,H',c,q⟩:=q
  exact d pins s1 a H' D c q
 | ret v=>exact q
 | brk=>exact q
 | cont=>exact q
theorem aak (a:PS X st t):PSs X [st] t:=by
 intro pins s σ H D I h
 refine wpAny_execs_cons (thn (a pins s σ H D I h) fun f s1 q=>?_)
 cases f with
 | next=>exact wpAny_execs_nil q
 | ret v=>exact q
 | brk=>exact q
 | cont=>exact q
theorem Inv.quiet {pins:List (Addr × Obj)} {σ:St} {H:Hp} {s:Shared} (I:Inv X pins σ H s):interactive X.env=false:=by simp [interactive,I.ok.kind]
def aqc (te:TE):TS:=fun D σ H=>te σ H fun _ H1=>D.nx σ H1
theorem aks (c:PE X e te) (b:swapsWith e none pos.line X.env=pure false:=by rfl):PS X (.Expr e pos) (aqc te):=by
 intro pins s σ H D I h
 exact wpAny_Expr_any (thn (c pins s σ H _ I h) fun v s1 ⟨x,a,d,g,f⟩=>⟨σ,a,d,f⟩) I.quiet b
def tRet (te:TE):TS:=fun D σ H=>te σ H D.rt
theorem aas (b:PE X e te):PS X (.Return (some e) pos) (tRet te):=by
 intro pins s σ H D I h
 exact wpAny_Return_some (thn (b pins s σ H _ I h) fun v s1 ⟨x,a,c,d,f⟩=>⟨x,σ,a,c,d,f⟩)
def tIfS (c:TT) (t u:TS):TS:=fun D σ H=>c σ H fun b H1=>if b=true then t D σ H1 else u D σ H1
theorem abf {c:Expr} {a b:List Stmt} {j:TT} (l:PT X c j) (ha:PSs X a t) (hb:PSs X b u):PS X (.If c a b pos) (tIfS j t u):=by
 intro pins s σ H D I h
 refine wpAny_If (thn (l pins s σ H _ I h) fun d s1 ⟨i,f,g⟩=>?_)
 cases d with
 | true=>exact ha pins s1 σ i D f g
 | false=>exact hb pins s1 σ i D f g
def as9:TS:=fun _ _ _=>False
theorem aim:PS X st as9:=fun _ _ _ _ _ _ h=>h.elim
end
abbrev TG:=V->St->Hp->(St->Hp->Prop)->Prop
abbrev TGs:=List V->St->Hp->(St->Hp->Prop)->Prop
def PG (X:Cx) (target:Expr) (t:TG):Prop :=
 ∀ (pins:List (Addr × Obj)) (s:Shared) (σ:St) (H:Hp) (v:V) (u:Value) (Q:St->Hp->Prop),Inv X pins σ H s->RelV v u->t v σ H Q ->
  wpAny (model X.prog X.w) X.A (assign target X.env u) (fun _ s'=>∃ σ' H',Inv X pins σ' H' s'/\Q σ' H') X.xe s
def PGs (X:Cx) (ts:List Expr) (t:TGs):Prop :=
 ∀ (pins:List (Addr × Obj)) (s:Shared) (σ:St) (H:Hp) (vs:List V) (us:List Value) (Q:St->Hp->Prop),Inv X pins σ H s->Vals vs us->t vs σ H Q ->
  wpAny (model X.prog X.w) X.A (assignInOrder ((assignEach ts X.env).map (·.2)) us) (fun _ s'=>∃ σ' H',Inv X pins σ' H' s'/\Q σ' H') X.xe s
section
variable {X:Cx} {pos:Pos}
def aax (i:Nat):TG:=fun v σ H Q=>Q (σ.set i (some v)) H
theorem aar {i:Nat} {x:Str} (b:X.N.Nodup) (hi:X.N[i]?=some x) (c:Loc X.env.scope x) (hf:X.fn x=true\/X.env.scope.names.lookup x=some .local:=by first | exact .inl rfl | exact .inr rfl | assumption):PG X (.Name x pos) (aax i):=by
 intro pins s σ H v u Q I r h
 exact wpAny_assign_Name (ail I b hi c r (fun d a=>⟨_,H,a,h⟩) hf)
def gNil:TGs:=fun vs σ H Q=>vs=[]/\Q σ H
def adb (t:TG) (u:TGs):TGs:=fun vs σ H Q=>∃ v r,vs=v :: r/\t v σ H fun σ' H'=>u r σ' H' Q
theorem acv:PGs X [] gNil:=by
 intro pins s σ H vs us Q I r h
 obtain ⟨e,h⟩:=h
 subst e
 cases r
 exact assignInOrder_nil ⟨σ,H,I,h⟩
theorem abb {e:Expr} {es:List Expr} {t:TG} {u:TGs} (b:PG X e t) (c:PGs X es u)
  (j:(assignEach (e :: es) X.env).map (·.2)=assign e X.env :: (assignEach es X.env).map (·.2):=by rfl):PGs X (e :: es) (adb t u):=by
 intro pins s σ H vs us Q I r h
 obtain ⟨v,l,d,h⟩:=h
 subst d
 cases r with
 | cons r rr =>
  rw [j]
  refine assignInOrder_cons (thn (b pins s σ H _ _ _ I r h) fun _ s1 ⟨a,i,f,g⟩=>?_)
  exact c pins s1 a i _ _ Q f rr g
def gTup (K:Frag) (n:Nat) (t:TGs):TG:=fun v σ H Q=>∃ a xs,v=.ref a/\SqT K H a xs/\xs.length=n/\t xs σ H Q
theorem adl {es:List Expr} {k:Nat} {t:TGs} {n:Nat} (p:X.calm=true) (h:PGs X es t)
  (hn:(assignEach es X.env).length=n:=by rfl) (c:(assignEach es X.env).findIdx? (·.1)=none:=by rfl):PG X (.Tuple es k pos) (gTup X.K n t):=by
 intro pins s σ H v u Q I r d
 obtain ⟨a,xs,i,q,m,d⟩:=d
 subst i
 cases r
 obtain ⟨its,f,l,w⟩:=I.tuple q
 refine assign_Tuple_tuple (I.ok.hd p) l (by simp [hn,← m,f.length]) c fun h' g=>?_
 have j:Inv X pins σ H { s with heap:=h' }:=I.kept (t':=s.toks) fun b o e=>g b o (aw6 (aC6 e)) e
 exact h pins _ σ H xs _ Q j (by simpa using f) d
def tAsg (te:TE) (g:TG):TS:=fun D σ H=>te σ H fun x H1=>g x σ H1 D.nx
theorem aea {tg e:Expr} {te:TE} {g:TG} (b:PE X e te) (d:PG X tg g) (m:swapsWithSole [tg] e pos.line X.env=pure false:=by rfl) (j:swappedStores [tg] e X.env=pure none:=by rfl)
  (a:(assignEach [tg] X.env).map (·.2)=[assign tg X.env]:=by rfl):PS X (.Assign [tg] e pos) (tAsg te g):=by
 intro pins s σ H D I h
 refine wpAny_Assign_stores (thn (b pins s σ H _ I h) fun v s1 ⟨x,l,f,c,i⟩=>?_) m j
 rw [a]
 exact thn (d pins s1 σ l x v _ f c i) fun _ s2 q=>q
theorem aa1 {i:Nat} {x:Str} {e:Expr} {te:TE} {a:Pos} (l:X.N.Nodup) (hi:X.N[i]?=some x) (f:Loc X.env.scope x) (c:PE X e te) (n:swapsWith e (some (.Name x a)) pos.line X.env=pure false:=by rfl) (hf:X.fn x=true\/X.env.scope.names.lookup x=some .local:=by first | exact .inl rfl | exact .inr rfl | assumption) :
  PS X (.Assign [.Name x a] e pos) (tAsg te (aax i)):=by
 intro pins s σ H D I h
 refine wpAny_Assign_Name (thn (c pins s σ H _ I h) fun v s1 ⟨y,m,g,d,j⟩=>?_) n
 exact ail g l hi f d (fun s2 b=>⟨_,m,b,j⟩) hf
end
section
variable {X:Cx} {pos:Pos}
end
structure It where
 go:Nat->Hp->Prop
 yld:Nat->Hp->V->Hp->Prop
 stop:Nat->Hp->Prop
def FpOk (X:Cx) (pins:List (Addr × Obj)) (H:Hp) (b:Addr):Prop :=
 H b=none/\b ≠ X.env.locals/\b ∉ X.fs/\(b∈X.ex\/X.s₀.heap.objs.size<=b)/\(∀ x c,X.env.cells.lookup x=some c->c ≠ b)/\∀ p∈X.pn ++ pins,p.1 ≠ b
theorem Inv.fpOk {X:Cx} {pins:List (Addr × Obj)} {σ:St} {H H':Hp} {s:Shared} {b:Addr} (I:Inv X pins σ H s) (hb:s.heap.objs.size<=b) (hn:H' b=none):FpOk X pins H' b:=by
 refine ⟨hn,Nat.ne_of_gt (ax5 I.lt hb),I.nofs hb,.inr (ay0 I.sz hb),fun x c e z=>?_,fun p a z=>?_⟩
 ·obtain ⟨v,q⟩:=I.cell x c e
  exact absurd (ax5 q.lt (by rw [z];exact hb)) (aA5 _)
 ·exact absurd (ax5 (aC6 (I.pin p a).1) (by rw [z];exact hb)) (aA5 _)
structure Turn (P:Program) (w:World) (K:Frag) (tg:Expr) (J:It) (fp:List Addr) (it:Addr) (tn:Nat->Heap->Prop):Prop where
 mem:it∈fp
 obj:∀ i h,tn i h->∀ b∈fp,∃ o,h.get? b=some o/\∀ v,o.data ≠ .cell v
 keep:∀ i h h',tn i h->(∀ b∈fp,∀ o,h.get? b=some o->h'.get? b=some o)->tn i h'
 item:∀ (X:Cx),X.prog=P->X.w=w->X.K=K->X.calm=true->∀ (i:Nat) (pins:List (Addr × Obj)) (s:Shared) (σ:St) (H:Hp) (E:Value->Shared->Prop),Inv X pins σ H s->(∀ b∈fp,FpOk X pins H b)->tn i s.heap->J.go i H ->
  wpAny (model P w) X.A (pyNext (.ref it)) (fun r s1=>∃ u,r=some u /\
   wpAny (model P w) X.A (letOwnedTupleGo tg (.ref it) u) (fun _ s2=>∃ x H',Inv X pins σ H' s2/\RelV x u/\J.yld i H x H'/\tn (i+1) s2.heap/\∀ b∈fp,H' b=none) E s1) E s
 done:∀ (X:Cx),X.prog=P->X.w=w->X.K=K->X.calm=true->∀ (i:Nat) (pins:List (Addr × Obj)) (s:Shared) (σ:St) (H:Hp) (E:Value->Shared->Prop),Inv X pins σ H s->(∀ b∈fp,FpOk X pins H b)->tn i s.heap->J.stop i H ->
  wpAny (model P w) X.A (pyNext (.ref it)) (fun r s1=>r=none/\Inv X pins σ H s1) E s
 self:∀ (A:Around) (i:Nat) (s:Shared) (Q:Value->Shared->Prop) (E:Value->Shared->Prop),tn i s.heap->Q (.ref it) s->wpAny (model P w) A (pyIter (.ref it)) Q E s
abbrev TI:=St->Hp->(It->Hp->Prop)->Prop
def PIE (X:Cx) (pins:List (Addr × Obj)) (σ:St) (tg:Expr) (R:It->Hp->Prop) (itv:Value) (s2:Shared):Prop :=
 ∃ (it:Addr) (fp:List Addr) (tn:Nat->Heap->Prop) (J:It) (H':Hp),itv=.ref it/\Inv X pins σ H' s2/\Turn X.prog X.w X.K tg J fp it tn/\tn 0 s2.heap/\(∀ b∈fp,FpOk X pins H' b)/\R J H'
def PI (X:Cx) (tg iter:Expr) (wi:TI):Prop :=
 ∀ (pins:List (Addr × Obj)) (s:Shared) (σ:St) (H:Hp) (R:It->Hp->Prop),Inv X pins σ H s->wi σ H R ->
  wpAny (model X.prog X.w) X.A (eval iter X.env) (fun v s1=>wpAny (model X.prog X.w) X.A (pyIter v) (PIE X pins σ tg R) X.xe s1) X.xe s
theorem ah8 {M:Model} {A:Around} {E:Value->Shared->Prop} {s:Shared} {tg:Expr} {it:Addr} {u:Value} {o:Obj} {n:String} {vs:Array Value} {Q:Unit->Shared->Prop} (c:s.heap.get? it=some o) (b:o.cls=.type n) (hd:o.data=.fields vs)
  (hn:["enumerate","zip","dict_itemiterator","dict_reverseitemiterator","odict_iterator","itertools.zip_longest","itertools.pairwise"].contains n=false) (a:Q () s):wpAny M A (letOwnedTupleGo tg (.ref it) u) Q E s:=by
 unfold letOwnedTupleGo
 cases tg <;> first
  | exact aC4 a
  | (cases u <;> first
    | exact aC4 a
    | (refine aC3 (wpAny_load c ?_)
       rw [b,hd]
       show wpAny M A (if (["enumerate","zip","dict_itemiterator","dict_reverseitemiterator","odict_iterator","itertools.zip_longest","itertools.pairwise"].contains n && vs[0]? == some (rawInt _))=true then _ else _) Q E s
       rw [az8 (by intro h;rw [hn,Bool.false_and] at h;cases h)]
       exact aC4 a))
def Itl (K:Frag) (a:Addr):It :=
 ⟨fun i H=>∃ xs x,SqL K H a xs/\xs[i]?=some x,fun i H x H'=>H'=H/\∀ xs,SqL K H a xs->xs[i]?=some x,fun i H=>∃ xs,SqL K H a xs/\xs.length<=i⟩
def Itr (lo:Int) (n:Nat):It:=⟨fun i _=>i < n,fun i H x H'=>H'=H/\x=.int (lo+i),fun i _=>n<=i⟩
theorem amv {P:Program} {w:World} {K:Frag} {tg:Expr} (a it:Addr):Turn P w K tg (Itl K a) [it] it (fun i h=>h.IsListIter it a i) where
 mem:=by simp
 obj:=fun i h st b hb=>by
  have e:b=it:=by simpa using hb
  subst e
  obtain ⟨o,e,c,d⟩:=st
  exact ⟨o,e,fun v z=>by rw [d] at z;cases z⟩
 keep:=fun i h h' st k=>st.at fun o e=>k it (by simp) o e
 item:=by
  intro X y r n D i pins s σ H E I hf st m
  subst y r n
  obtain ⟨xs,x,f,j⟩:=m
  obtain ⟨its,q,p,G⟩:=I.list f
  obtain ⟨u,O,M⟩:=q.get j
  obtain ⟨A,C,N,B,g,l⟩:=hf it (by simp)
  refine wpAny_pyNext_list_item st p.isList (x:=u) (by simpa using O) fun h' st' sb=>?_
  have J:Inv X pins σ H { s with heap:=h' }:=I.turned (t':=s.toks) (fun b o hb e=>(sb.2 b hb).trans e) A C B g l
  obtain ⟨o,e,c,d⟩:=id st'
  exact ⟨u,rfl,ah8 (s:={ s with heap:=h' }) e c d (by decide) ⟨x,H,J,M,⟨rfl,fun ys L=>by rw [I.list_inj L f];exact j⟩,st',fun b hb=>(hf b hb).1⟩⟩
 done:=by
  intro X y r n D i pins s σ H E I hf st m
  subst y r n
  obtain ⟨xs,f,j⟩:=m
  obtain ⟨its,q,p,G⟩:=I.list f
  obtain ⟨A,C,N,B,g,l⟩:=hf it (by simp)
  have Q:=q.length
  exact wpAny_pyNext_list_end (I.ok.hd D) st p.isList (by simp;omega) fun h' F=>⟨rfl,I.turned (t':=s.toks) (fun b o hb e=>F b o hb e) A C B g l⟩
 self:=fun _ _ _ _ _ st h=>wpAny_pyIter_listiter st h
theorem alp {P:Program} {w:World} {K:Frag} {tg:Expr} (it:Addr) (lo:Int) (n:Nat):Turn P w K tg (Itr lo n) [it] it (fun i h=>IsRangeIter h it (lo+(i:Nat) * 1) ((n:Int) - (i:Nat)) 1) where
 mem:=by simp
 obj:=fun i h st b hb=>by
  have e:b=it:=by simpa using hb
  subst e
  exact ⟨_,st,fun v z=>by
   have C:Data.fields _=Data.cell v:=z
   cases C⟩
 keep:=fun i h h' st k=>k it (by simp) _ st
 item:=by
  intro X l j f g i pins s σ H E I hf st d
  subst l j f
  obtain ⟨m,q,B,p,a,c⟩:=hf it (by simp)
  have W:=Walks.range (prog:=X.prog) (w:=X.w) (I.ok.hd g) it lo 1 n
  refine W.item i s _ _ d st fun v h' r A st' x=>?_
  obtain ⟨t,rfl⟩:=A
  have y:Inv X pins σ H { s with heap:=h',toks:=r }:=I.turned (fun b o hb e=>x b o (by simpa using hb) e) m q p a c
  refine ⟨_,rfl,ah8 (s:={ s with heap:=h',toks:=r }) (n:="range_iterator") st' rfl rfl (by decide) ⟨.int (lo+i),H,y,⟨t,?_⟩,⟨rfl,rfl⟩,st',fun b hb=>(hf b hb).1⟩⟩
  rw [Int.mul_one]
 done:=by
  intro X l j f g i pins s σ H E I hf st d
  subst l j f
  obtain ⟨m,q,B,p,a,c⟩:=hf it (by simp)
  exact wpAny_pyNext_range_end (I.ok.hd g) st (by have:n<=i:=d;omega) fun h' u=>⟨rfl,I.turned (t':=s.toks) (fun b o hb e=>u b o hb e) m q p a c⟩
 self:=fun _ _ _ _ _ st h=>wpAny_pyIter_rangeiter st h
section
variable {X:Cx} {tg:Expr}
def alq (K:Frag) (tl:TE):TI:=fun σ H R=>tl σ H fun x H1=>∃ a,x=.ref a/\(∃ xs,SqL K H1 a xs)/\R (Itl K a) H1
theorem acw {l:Expr} {tl:TE} (g:PE X l tl):PI X tg l (alq X.K tl):=by
 intro pins s σ H R I h
 refine thn (g pins s σ H _ I h) fun v s1 ⟨x,i,c,d,f⟩=>?_
 obtain ⟨a,e,⟨xs,j⟩,q⟩:=f
 subst e
 cases d
 obtain ⟨its,n,p,m⟩:=c.list j
 refine wpAny_pyIter_list p.isList ?_
 refine ⟨s1.heap.objs.size,[s1.heap.objs.size],_,_,i,rfl,c.kept (t':=s1.toks) fun b o e=>aC5 _ e,amv a _,⟨_,aC7 _ rfl,rfl,rfl⟩,fun b hb=>?_,q⟩
 have e:b=s1.heap.objs.size:=by simpa using hb
 subst e
 exact c.fpOk (av6 _) (c.hok.fresh (av6 _))
theorem ain {pins:List (Addr × Obj)} {σ:St} {H:Hp} {s:Shared} {R:It->Hp->Prop} {E:Value->Shared->Prop} {lo hi:Int} {t u v:Tok} {c:Nat} (I:Inv X pins σ H s) (d : -(2 ^ 62)<=lo) (g:lo < 2 ^ 62) (f : -(2 ^ 62)<=hi) (i:hi < 2 ^ 62)
  (q:R (Itr lo (hi - lo).toNat) H):wpAny (model X.prog X.w) X.A (pyIter (.ref s.heap.objs.size)) (PIE X pins σ tg R) E { s with heap:=s.heap.push { cls:=.type "range",data:=.fields #[.int lo t,.int hi u,.int 1 v] },toks:=c }:=by
 refine wpAny_pyIter_range (IsRange.new ..) (small_one d g f i) ?_
 have a:Inv X pins σ H { s with heap:=s.heap.push { cls:=.type "range",data:=.fields #[.int lo t,.int hi u,.int 1 v] },toks:=c }:=I.kept fun b o e=>aC5 _ e
 refine ⟨(s.heap.push { cls:=.type "range",data:=.fields #[.int lo t,.int hi u,.int 1 v] }).objs.size,[(s.heap.push { cls:=.type "range",data:=.fields #[.int lo t,.int hi u,.int 1 v] }).objs.size],_,_,H,rfl,
  a.kept (t':=c) fun b o e=>aC5 _ e,alp _ lo (hi - lo).toNat,?_,fun b hb=>?_,q⟩
 ·have h:lo+((0:Nat):Int) * 1=lo:=by simp
  have j:(((hi - lo).toNat:Nat):Int) - ((0:Nat):Int)=Builtin.Range.rangeSize lo hi 1:=by rw [rangeSize_one];split <;> omega
  show IsRangeIter _ _ (lo+((0:Nat):Int) * 1) ((((hi - lo).toNat:Nat):Int) - ((0:Nat):Int)) 1
  rw [h,j]
  exact aC7 _ rfl
 ·have e:b=(s.heap.push { cls:=.type "range",data:=.fields #[.int lo t,.int hi u,.int 1 v] }).objs.size:=by simpa using hb
  subst e
  exact a.fpOk (av6 _) (a.hok.fresh (av6 _))
def aqd (ta:TA):TI:=fun σ H R=>ta σ H fun vs H1=>∃ j:Int,vs=[.int j]/\-(2 ^ 62)<=j/\j < 2 ^ 62/\R (Itr 0 j.toNat) H1
def aqe (ta:TA):TI:=fun σ H R=>ta σ H fun vs H1=>∃ i j:Int,vs=[.int i,.int j]/\(-(2 ^ 62)<=i/\i < 2 ^ 62/\-(2 ^ 62)<=j/\j < 2 ^ 62)/\R (Itr i (j - i).toNat) H1
theorem adc {a:Expr} {d:TA} {p b:Pos} (g:Gl X "range") (hm:X.mg "range" = none) (ha:PA X [a] d) (m:starEach [a] X.env=[(false,eval a X.env)]:=by rfl):PI X tg (.Call (.Name "range" p) [a] [] b) (aqd d):=by
 intro pins s σ H R I h
 refine Call_ (acx I g hm boot_range (PyProof.Rows.callWith_type1 (thn (ha b pins s σ H _ I h) fun us s1 ⟨vs,n,l,f,c⟩=>?_) m rfl))
 obtain ⟨j,e,c,i,q⟩:=c
 subst e
 cases f with
 | cons r rr =>
  cases rr
  obtain ⟨t,rfl⟩:=r
  exact call_range_1 (ain l (by omega) (by omega) c i (by simpa using q))
theorem ag4 {a b:Expr} {g:TA} {p d:Pos} (m:Gl X "range") (hm:X.mg "range" = none) (ha:PA X [a,b] g) (w:starEach [a,b] X.env=[(false,eval a X.env),(false,eval b X.env)]:=by rfl) (c:starEach [b] X.env=[(false,eval b X.env)]:=by rfl) :
  PI X tg (.Call (.Name "range" p) [a,b] [] d) (aqe g):=by
 intro pins s σ H R I h
 refine Call_ (acx I m hm boot_range (PyProof.Rows.callWith_type1 (thn (ha d pins s σ H _ I h) fun us s1 ⟨vs,x,u,l,f⟩=>?_) (by rw [w,c]) (by rw [c];rfl)))
 obtain ⟨i,j,e,⟨f,n,o,v⟩,q⟩:=f
 subst e
 cases l with
 | cons r rr =>
  cases rr with
  | cons r' rr =>
   cases rr
   obtain ⟨t,rfl⟩:=r
   obtain ⟨t',rfl⟩:=r'
   exact call_range_2 (ain u f n o v q)
def tFor (wi:TI) (g:TG) (tb:TS):TS:=fun D σ H=>wi σ H fun J H1=>∃ W:Nat->Nat->St->Hp->Prop,(∃ m,W 0 m σ H1)/\∀ i m σ H,W i m σ H ->
 (J.stop i H/\D.nx σ H)\/(J.go i H/\∃ N:St->Hp->Prop,(∀ σ' H',N σ' H'->∃ m',m' < m/\W (i+1) m' σ' H')/\∀ x H',J.yld i H x H'->g x σ H' fun σ2 H2=>tb { D with nx:=N,ct:=N,bk:=D.nx } σ2 H2)
def aeb (fp:List Addr) (h:Heap):List (Addr × Obj):=fp.filterMap fun b=>(h.get? b).map fun o=>(b,o)
theorem acq {fp:List Addr} {h:Heap} {b:Addr} {o:Obj} (hb:b∈fp) (e:h.get? b=some o):(b,o)∈aeb fp h:=List.mem_filterMap.mpr ⟨b,hb,by rw [e];rfl⟩
theorem amw {fp:List Addr} {h:Heap} {p:Addr × Obj} (a:p∈aeb fp h):p.1∈fp/\h.get? p.1=some p.2:=by
 obtain ⟨b,hb,e⟩:=List.mem_filterMap.mp a
 cases q:h.get? b with
 | none=>rw [q] at e;cases e
 | some o =>
  rw [q] at e
  have c:(b,o)=p:=ax6 e
  subst c
  exact ⟨hb,q⟩
theorem Inv.pinned {pins:List (Addr × Obj)} {σ:St} {H:Hp} {s:Shared} {fp:List Addr} (I:Inv X pins σ H s) (hf:∀ b∈fp,FpOk X pins H b) (c:∀ b∈fp,∃ o,s.heap.get? b=some o/\∀ v,o.data ≠ .cell v):Inv X (pins ++ aeb fp s.heap) σ H s :=
 I.pins_of fun p h=>(av7.mp h).elim (fun z=>I.pin p (aw3 _ z)) fun z=>by
  obtain ⟨hb,e⟩:=amw z
  obtain ⟨f,g,i,_⟩:=hf p.1 hb
  obtain ⟨o,a,d⟩:=c p.1 hb
  rw [e] at a;cases a
  exact ⟨e,f,g,i,d⟩
theorem Inv.unpinned {pins b:List (Addr × Obj)} {σ:St} {H:Hp} {s:Shared} (I:Inv X (pins ++ b) σ H s):Inv X pins σ H s:=I.pins_of fun p a=>I.pin p (aw3 _ (ax7 _ a))
theorem afm {q:Expr} {body:List Stmt} {wi:TI} {g:TG} {Z:TS} {O:Pos} (G:PassesOwn (model X.prog X.w) X.A X.env X.xe) (hc:X.calm=true) (hi:PI X tg q wi) (hg:PG X tg g) (hb:PSs X body Z)
  (hs:∀ x,foldedSetIterable q X.env x=pure x:=by intro _;rfl):PS X (.For tg q body [] O) (tFor wi g Z):=by
 intro pins s σ H D I h
 refine wpAny_For (thn (hi pins s σ H _ I h) fun v s1 h1=>thn h1 fun a0 s2 h2=>?_) hs
 obtain ⟨it,fp,tn,J,H2,e,I2,T,Q,f2,W,⟨m0,w0⟩,L⟩:=h2
 subst e
 -- what stays true of the iterator's objects through the loop
 have l:∀ {H':Hp},(∀ b∈fp,H' b=none)->∀ b∈fp,FpOk X pins H' b:=fun hn b hb=>⟨hn b hb,(f2 b hb).2⟩
 refine codeAny_forLoop_any (fun n Y=>∃ i y H',Inv X pins y H' Y/\tn i Y.heap/\(∀ b∈fp,H' b=none)/\W i n y H') ?_ m0 ⟨0,σ,H2,I2,Q,fun b hb=>(f2 b hb).1,w0⟩
 rintro n s3 ⟨i,j,H3,I3,F,K,w3⟩
 rcases L i n j H3 w3 with ⟨stop,qn⟩ | ⟨go,N,hN,step⟩
 ·refine wpAny_passesOwn G (thn (T.done X rfl rfl rfl hc i pins s3 j H3 X.xe I3 (l K) F stop) fun r s4 ⟨P,I4⟩=>?_)
  subst P
  exact wpAny_execs_nil ⟨j,H3,I4,qn⟩
 ·refine wpAny_passesOwn G (thn (T.item X rfl rfl rfl hc i pins s3 j H3 X.xe I3 (l K) F go) fun r s4 ⟨u,P,h4⟩=>?_)
  subst P
  refine wpAny_passesOwn G (thn h4 fun _ s5 ⟨x,H5,I5,r5,y5,C,R⟩=>?_)
  have U:=I5.pinned (l R) (T.obj _ _ C)
  refine wpAny_passesOwn G (thn (hg _ s5 j H5 x u _ U r5 (step x H5 y5)) fun _ s6 ⟨S,H6,I6,q6⟩=>?_)
  refine wpAny_passesOwn G (thn (hb _ s6 S H6 _ I6 q6) fun f M B=>?_)
  have p:∀ {a:St} {c:Hp},Inv X (pins ++ aeb fp s5.heap) a c M->N a c->∃ m,m < n/\∃ i y H',Inv X pins y H' M/\tn i M.heap/\(∀ b∈fp,H' b=none)/\W i m y H':=fun {a c} z E=>by
   obtain ⟨m',hm,w7⟩:=hN a c E
   refine ⟨m',hm,i+1,a,c,z.unpinned,T.keep _ _ _ C fun b hb o e=>(z.pin (b,o) (aw3 _ (aw3 _ (acq hb e)))).1,fun b hb=>?_,w7⟩
   obtain ⟨o,e,d⟩:=T.obj _ _ C b hb
   exact (z.pin (b,o) (aw3 _ (aw3 _ (acq hb e)))).2.1
  cases f with
  | next=>obtain ⟨a,c,z,E⟩:=B;exact p z E
  | cont=>obtain ⟨a,c,z,E⟩:=B;exact p z E
  | brk=>obtain ⟨a,c,z,B⟩:=B;exact ⟨a,c,z.unpinned,B⟩
  | ret v=>obtain ⟨x7,a,c,z,r7,B⟩:=B;exact ⟨x7,a,c,z.unpinned,r7,B⟩
end
abbrev R2:=V->V->Hp->VK->Prop
def OpR (X:Cx) (f:Value->Value->Sem Value) (r:R2):Prop :=
 ∀ (pins:List (Addr × Obj)) (s:Shared) (σ:St) (H:Hp) (x y:V) (v u:Value) (Q:VK),Inv X pins σ H s->RelV x v->RelV y u->r x y H Q ->
  wpAny (model X.prog X.w) X.A (f v u) (EP X pins σ Q) X.xe s
def aa2 (X:Cx) (f:Value) (r:List V->Hp->VK->Prop):Prop :=
 ∀ (pins:List (Addr × Obj)) (s:Shared) (σ:St) (H:Hp) (xs:List V) (us:List Value) (Q:VK),Inv X pins σ H s->Vals xs us->r xs H Q ->
  wpAny (model X.prog X.w) X.A (call f us) (EP X pins σ Q) X.xe s
def tOp (r:R2) (ta tb:TE):TE:=fun σ H Q=>ta σ H fun x H1=>tb σ H1 fun y H2=>r x y H2 Q
def rI (C:Int->Int->Prop) (g:Int->Int->V):R2:=fun x y H Q=>∃ i j,x=.int i/\y=.int j/\C i j/\Q (g i j) H
def rI0 (g:Int->Int->V):R2:=fun x y H Q=>∃ i j,x=.int i/\y=.int j/\Q (g i j) H
section
variable {X:Cx} {a b c:Expr} {ta tb tc:TE} {pos:Pos}
theorem binT (ha:PE X a ta) (hb:PE X b tb) {pins:List (Addr × Obj)} {s:Shared} {σ:St} {H:Hp} {R:V->V->Hp->Prop} (I:Inv X pins σ H s)
  (h:ta σ H fun x g=>tb σ g fun y H2=>R x y H2) {Q:Value->Shared->Prop} {f:Value->Value->Sem Value}
  (hf:∀ v u s2 x y H2,Inv X pins σ H2 s2->RelV x v->RelV y u->R x y H2->wpAny (model X.prog X.w) X.A (f v u) Q X.xe s2) :
  wpAny (model X.prog X.w) X.A (eval a X.env) (fun v d=>wpAny (model X.prog X.w) X.A (eval b X.env) (fun u c=>wpAny (model X.prog X.w) X.A (f v u) Q X.xe c) X.xe d) X.xe s:=by
 refine thn (ha pins s σ H _ I h) fun v s1 ⟨x,g,m,j,n⟩=>?_
 refine thn (hb pins s1 σ g _ m n) fun u s2 ⟨y,H2,i,o,l⟩=>?_
 exact hf v u s2 x y H2 i j o l
theorem aaj {op:Operator} {r:R2} (f:OpR X (binaryOp op) r) (ha:PE X a ta) (hb:PE X b tb):PE X (.BinOp a op b pos) (tOp r ta tb):=by
 intro pins s σ H Q I h
 exact wpAny_BinOp (binT ha hb I h fun v u s2 x y H2 d g c q=>f pins s2 σ H2 x y v u Q d g c q)
theorem opI {f:Value->Value->Sem Value} {C:Int->Int->Prop} {g:Int->Int->Int}
  (a:∀ (i j:Int) (t u:Tok) (s:Shared) (Q:Value->Shared->Prop) (E:Value->Shared->Prop),C i j->Q (.int (g i j) s.toks) { s with toks:=s.toks+1 }->wpAny (model X.prog X.w) X.A (f (.int i t) (.int j u)) Q E s) :
  OpR X f (rI C fun i j => .int (g i j)):=by
 intro pins s σ H x y v u Q I c b h
 obtain ⟨i,j,rfl,rfl,d,q⟩:=h
 obtain ⟨t,rfl⟩:=c
 obtain ⟨t',rfl⟩:=b
 exact a i j t t' s _ _ d ⟨.int (g i j),H,I.tok _,⟨_,rfl⟩,q⟩
theorem opI0 {f:Value->Value->Sem Value} {g:Int->Int->Int}
  (a:∀ (i j:Int) (t u:Tok) (s:Shared) (Q:Value->Shared->Prop) (E:Value->Shared->Prop),Q (.int (g i j) s.toks) { s with toks:=s.toks+1 }->wpAny (model X.prog X.w) X.A (f (.int i t) (.int j u)) Q E s) :
  OpR X f (rI0 fun i j => .int (g i j)):=by
 intro pins s σ H x y v u Q I c b h
 obtain ⟨i,j,rfl,rfl,q⟩:=h
 obtain ⟨t,rfl⟩:=c
 obtain ⟨t',rfl⟩:=b
 exact a i j t t' s _ _ ⟨.int (g i j),H,I.tok _,⟨_,rfl⟩,q⟩
theorem opB0 {f:Value->Value->Sem Value} {g:Int->Int->Bool}
  (a:∀ (i j:Int) (t u:Tok) (s:Shared) (Q:Value->Shared->Prop) (E:Value->Shared->Prop),Q (.bool (g i j)) s->wpAny (model X.prog X.w) X.A (f (.int i t) (.int j u)) Q E s) :
  OpR X f (rI0 fun i j => .bl (g i j)):=by
 intro pins s σ H x y v u Q I c b h
 obtain ⟨i,j,rfl,rfl,q⟩:=h
 obtain ⟨t,rfl⟩:=c
 obtain ⟨t',rfl⟩:=b
 exact a i j t t' s _ _ ⟨.bl (g i j),H,I,rfl,q⟩
def CDiv (i j:Int):Prop:=0 < j/\j < 1073741824
def CMul (i j:Int):Prop:=(-(2 ^ 64) < i/\i < 2 ^ 64)\/(-(2 ^ 64) < j/\j < 2 ^ 64)
theorem CMul.ok {i j:Int} (h:CMul i j):IntMulOk i j:=by
 rcases h with ⟨a,b⟩ | ⟨a,b⟩
 ·exact .of_left (intBits_le_64 a b)
 ·exact .of_right (intBits_le_64 a b)
theorem abm:OpR X (binaryOp .Add) (rI0 fun i j => .int (i+j)):=opI0 fun _ _ _ _ _ _ _ q=>add_int q
theorem afn:OpR X (binaryOp .Sub) (rI0 fun i j => .int (i - j)):=opI0 fun _ _ _ _ _ _ _ q=>sub_int q
theorem ab0:OpR X (binaryOp .Mult) (rI CMul fun i j => .int (i * j)):=opI fun _ _ _ _ _ _ _ a q=>mul_int q a.ok
theorem ab4:OpR X (binaryOp .FloorDiv) (rI CDiv fun i j => .int (i / j)):=opI fun i j _ _ _ _ _ a q=>by
 have b:(0:Int) < j:=a.1
 have c:j < 1073741824:=a.2
 exact floordiv_int (by omega) (by rw [Int.fdiv_eq_ediv_of_nonneg i (by omega)];exact q) (.inl (PyProof.noPylong_small (by omega)))
theorem abn:OpR X (binaryOp .Mod) (rI (fun _ j=>0 < j) fun i j => .int (i % j)):=opI fun i j _ _ _ _ _ a q=>by
 have b:(0:Int) < j:=a
 exact mod_int' (by omega) (by rw [Int.fmod_eq_emod_of_nonneg i (by omega)];exact q)
end
def scal:V->V->Bool
 | .non,.non=>true | .non,.int _=>true | .int _,.non=>true | .non,.bl _=>true | .bl _,.non=>true | .non,.str _=>true | .str _,.non=>true
 | .int _,.int _=>true | .bl _,.bl _=>true | .str _,.str _=>true | .byt _,.byt _=>true
 | .int _,.str _=>true | .str _,.int _=>true | .bl _,.str _=>true | .str _,.bl _=>true
 | _,_=>false
def rEq:R2:=fun x y H Q=>scal x y=true/\Q (.bl (decide (x=y))) H
def rNe:R2:=fun x y H Q=>scal x y=true/\Q (.bl (!decide (x=y))) H
theorem aev {i j:Int}:decide (V.int i=V.int j)=(i == j):=by
 rw [aB6]
 simp
theorem amx {i j:Bool}:decide (V.bl i=V.bl j)=(i == j):=by
 rw [aB6]
 simp
theorem akt {i j:Str}:decide (V.str i=V.str j)=(i == j):=by
 rw [aB6]
 simp
theorem aku {i j:Array UInt8}:decide (V.byt i=V.byt j)=(i.toList == j.toList):=by
 rw [aB6]
 cases i
 cases j
 simp
section
variable {X:Cx} {a b c:Expr} {ta tb tc:TE} {pos:Pos}
theorem aaq {pins:List (Addr × Obj)} {σ:St} {H:Hp} {s:Shared} {Q:VK} {k a:Bool} (I:Inv X pins σ H s) (q:Q (.bl k) H) (e:k=a):EP X pins σ Q (.bool a) s:=by
 subst e
 exact ⟨.bl k,H,I,rfl,q⟩
theorem afo:OpR X (compareOp .Eq) rEq:=by
 intro pins s σ H x y v u Q I c a h
 obtain ⟨b,q⟩:=h
 cases x with
 | non =>
  cases c
  cases y with
  | non=>cases a;exact PySem.EqNone.eq_none_none (aaq I q (by simp))
  | bl j=>cases a;exact PySem.EqNone.eq_none_bool (aaq I q (by simp))
  | int j=>obtain ⟨t',rfl⟩:=a;exact PySem.EqNone.eq_none_int (aaq I q (by simp))
  | str j=>obtain ⟨t',rfl⟩:=a;exact PySem.EqNone.eq_none_str (aaq I q (by simp))
  | _=>exact absurd (show false=true from b) aw0
 | bl i =>
  cases c
  cases y with
  | non=>cases a;exact PySem.EqNone.eq_bool_none (aaq I q (by simp))
  | bl j=>cases a;exact eq_bool (aaq I q amx)
  | str j=>obtain ⟨t',rfl⟩:=a;exact PySem.EqMixed.eq_bool_str (aaq I q (by simp))
  | _=>exact absurd (show false=true from b) aw0
 | int i =>
  obtain ⟨t,rfl⟩:=c
  cases y with
  | non=>cases a;exact PySem.EqNone.eq_int_none (aaq I q (by simp))
  | int j=>obtain ⟨t',rfl⟩:=a;exact eq_int (aaq I q aev)
  | str j=>obtain ⟨t',rfl⟩:=a;exact PySem.EqMixed.eq_int_str (aaq I q (by simp))
  | _=>exact absurd (show false=true from b) aw0
 | str i =>
  obtain ⟨t,rfl⟩:=c
  cases y with
  | non=>cases a;exact PySem.EqNone.eq_str_none (aaq I q (by simp))
  | bl j=>cases a;exact PySem.EqMixed.eq_str_bool (aaq I q (by simp))
  | int j=>obtain ⟨t',rfl⟩:=a;exact PySem.EqMixed.eq_str_int (aaq I q (by simp))
  | str j=>obtain ⟨t',rfl⟩:=a;exact eq_str (aaq I q akt)
  | _=>exact absurd (show false=true from b) aw0
 | byt i =>
  obtain ⟨t,rfl⟩:=c
  cases y with
  | byt j=>obtain ⟨t',rfl⟩:=a;exact PySem.W.eq_bytes (aaq I q aku)
  | _=>exact absurd (show false=true from b) aw0
 | _=>cases y <;> exact absurd (show false=true from b) aw0
theorem afp:OpR X (compareOp .NotEq) rNe:=by
 intro pins s σ H x y v u Q I c a h
 obtain ⟨b,q⟩:=h
 cases x with
 | non =>
  cases c
  cases y with
  | non=>cases a;exact PySem.EqNone.ne_none_none (aaq I q (by simp))
  | bl j=>cases a;exact PySem.EqNone.ne_none_bool (aaq I q (by simp))
  | int j=>obtain ⟨t',rfl⟩:=a;exact PySem.EqNone.ne_none_int (aaq I q (by simp))
  | str j=>obtain ⟨t',rfl⟩:=a;exact PySem.EqNone.ne_none_str (aaq I q (by simp))
  | _=>exact absurd (show false=true from b) aw0
 | bl i =>
  cases c
  cases y with
  | non=>cases a;exact PySem.EqNone.ne_bool_none (aaq I q (by simp))
  | bl j=>cases a;exact ne_bool (aaq I q (congrArg not amx))
  | str j=>obtain ⟨t',rfl⟩:=a;exact PySem.EqMixed.ne_bool_str (aaq I q (by simp))
  | _=>exact absurd (show false=true from b) aw0
 | int i =>
  obtain ⟨t,rfl⟩:=c
  cases y with
  | non=>cases a;exact PySem.EqNone.ne_int_none (aaq I q (by simp))
  | int j=>obtain ⟨t',rfl⟩:=a;exact ne_int (aaq I q (congrArg not aev))
  | str j=>obtain ⟨t',rfl⟩:=a;exact PySem.EqMixed.ne_int_str (aaq I q (by simp))
  | _=>exact absurd (show false=true from b) aw0
 | str i =>
  obtain ⟨t,rfl⟩:=c
  cases y with
  | non=>cases a;exact PySem.EqNone.ne_str_none (aaq I q (by simp))
  | bl j=>cases a;exact PySem.EqMixed.ne_str_bool (aaq I q (by simp))
  | int j=>obtain ⟨t',rfl⟩:=a;exact PySem.EqMixed.ne_str_int (aaq I q (by simp))
  | str j=>obtain ⟨t',rfl⟩:=a;exact ne_str (aaq I q (congrArg not akt))
  | _=>exact absurd (show false=true from b) aw0
 | byt i =>
  obtain ⟨t,rfl⟩:=c
  cases y with
  | byt j=>obtain ⟨t',rfl⟩:=a;exact PySem.W.ne_bytes (aaq I q (congrArg not aku))
  | _=>exact absurd (show false=true from b) aw0
 | _=>cases y <;> exact absurd (show false=true from b) aw0
theorem aqf:OpR X (compareOp .Lt) (rI0 fun i j => .bl (decide (i < j))):=opB0 fun _ _ _ _ _ _ _ q=>lt_int q
theorem aqg:OpR X (compareOp .LtE) (rI0 fun i j => .bl (decide (i<=j))):=opB0 fun _ _ _ _ _ _ _ q=>le_int q
theorem afq:OpR X (compareOp .Gt) (rI0 fun i j => .bl (decide (j < i))):=opB0 fun _ _ _ _ _ _ _ q=>gt_int q
theorem amy:OpR X (compareOp .In) (fun x y H Q=>∃ i j,x=.str i/\y=.str j/\Q (.bl (!(Builtin.Str.occurrences j i 0 j.length 1).isEmpty)) H):=by
 intro pins s σ H x y v u Q I b a h
 obtain ⟨i,j,rfl,rfl,q⟩:=h
 obtain ⟨t,rfl⟩:=b
 obtain ⟨t',rfl⟩:=a
 exact in_str (aaq I q rfl)
theorem aaw (b:Expr) {op:CmpOp} (h:op ≠ .In:=by decide) (a:op ≠ .NotIn:=by decide):behindInMarks op b=false:=by
 have d:(op == CmpOp.In)=false:=by cases op <;> first | rfl | exact absurd rfl h
 have c:(op == CmpOp.NotIn)=false:=by cases op <;> first | rfl | exact absurd rfl a
 cases b <;> simp [behindInMarks,d,c]
theorem aew {op:CmpOp} {r:R2} (f:OpR X (compareOp op) r) (ha:PE X a ta) (hb:PE X b tb) (hm:behindInMarks op b=false):PE X (.Compare a [op] [b] pos) (tOp r ta tb):=by
 intro pins s σ H Q I h
 exact wpAny_Compare1 (binT ha hb I h fun v u s2 x y H2 d g c q=>f pins s2 σ H2 x y v u Q d g c q) hm
def aqh (t:TE):TT:=fun σ H Q=>t σ H fun x H'=>∃ k,x=.bl k/\Q k H'
theorem aat {op:CmpOp} {r:R2} (o:OpR X (compareOp op) r) (ha:PE X a ta) (hb:PE X b tb) (hm:behindInMarks op b=false):PT X (.Compare a [op] [b] pos) (aqh (tOp r ta tb)):=by
 intro pins s σ H Q I h
 refine wpAny_isTrue_Compare1 (thn (ha pins s σ H _ I h) fun v s1 ⟨x,q,l,g,n⟩=>thn (hb pins s1 σ q _ l n) fun u s2 ⟨y,H2,d,m,i⟩ =>
  thn (o pins s2 σ H2 x y v u _ d g m i) fun c w ⟨z,H3,p,f,k,e,j⟩=>?_) hm
 subst e
 cases f
 exact aD2 ⟨H3,p,j⟩
def aio (r r':R2) (ta tb tc:TE):TE:=fun σ H Q=>ta σ H fun x H1=>tb σ H1 fun y H2=>r x y H2 fun z H3=>∃ k,z=.bl k /\
 (if k=true then tc σ H3 fun w' H4=>r' y w' H4 Q else Q (.bl false) H3)
theorem aoi {op f:CmpOp} {r m:R2} (G:OpR X (compareOp op) r) (g:OpR X (compareOp f) m) (ha:PE X a ta) (hb:PE X b tb) (J:PE X c tc)
  (hm:lastMarks [op,f] [b,c]=false:=by with_unfolding_all rfl):PE X (.Compare a [op,f] [b,c] pos) (aio r m ta tb tc):=by
 intro pins s σ H Q I h
 refine Compare_chain (thn (ha pins s σ H _ I h) fun v s1 ⟨x,K,D,q,E⟩=>chain_link (thn (hb pins s1 σ K _ D E) fun u s2 ⟨y,H2,n,j,w⟩ =>
  thn (G pins s2 σ H2 x y v u _ n q j w) fun d o ⟨z,H3,l,p,k,e,i⟩=>?_)) hm
 subst e
 cases p
 refine aD2 ?_
 cases k with
 | false=>exact ite_ff ⟨.bl false,H3,l,rfl,i⟩
 | true=>exact ite_tt (chain_last (thn (J pins o σ H3 _ l i) fun C L ⟨M,B,A,N,F⟩=>g pins L σ B y M u C Q A j N F))
theorem aec:(sizeLine:Nat) < 2 ^ 63:=by rw [sizeLine_eq];decide
theorem alr:OpR X (binaryOp .Add) (fun x y H Q=>∃ i j,x=.str i/\y=.str j/\i.length+j.length<=sizeLine/\Q (.str (i ++ j)) H):=by
 intro pins s σ H x y v u Q I c a h
 obtain ⟨i,j,rfl,rfl,b,q⟩:=h
 obtain ⟨t,rfl⟩:=c
 obtain ⟨t',rfl⟩:=a
 exact add_str (fun t' d=>⟨.str (i ++ j),H,I.tok _,⟨_,rfl⟩,q⟩) b
theorem aby {x:V} {us:List Value} (r:Vals [x] us):∃ u,us=[u]/\RelV x u:=by
 cases r with
 | cons r1 r2=>cases r2;exact ⟨_,rfl,r1⟩
theorem als {x y:V} {us:List Value} (r:Vals [x,y] us):∃ u a,us=[u,a]/\RelV x u/\RelV y a:=by
 cases r with
 | cons r1 r2 =>
  cases r2 with
  | cons r3 r4=>cases r4;exact ⟨_,_,rfl,r1,r3⟩
theorem amz (a:X.calm=true):aa2 X (.builtin "max") (fun xs H Q=>∃ i j,xs=[.int i,.int j]/\Q (.int (if j > i then j else i)) H):=by
 intro pins s σ H xs us Q I r h
 obtain ⟨i,j,rfl,q⟩:=h
 obtain ⟨u,b,rfl,⟨t,rfl⟩,⟨t',rfl⟩⟩:=als r
 refine max_two_ints (I.ok.hd a) fun h' c k=>⟨_,H,I.kept k,?_,q⟩
 by_cases hj:j > i
 ·rw [az7 hj,az7 hj];exact ⟨_,rfl⟩
 ·rw [az8 hj,az8 hj];exact ⟨_,rfl⟩
theorem am0 (a:X.calm=true):aa2 X (.builtin "min") (fun xs H Q=>∃ i j,xs=[.int i,.int j]/\Q (.int (if j < i then j else i)) H):=by
 intro pins s σ H xs us Q I r h
 obtain ⟨i,j,rfl,q⟩:=h
 obtain ⟨u,b,rfl,⟨t,rfl⟩,⟨t',rfl⟩⟩:=als r
 refine min_two_ints (I.ok.hd a) fun h' c k=>⟨_,H,I.kept k,?_,q⟩
 by_cases hj:j < i
 ·rw [az7 hj,az7 hj];exact ⟨_,rfl⟩
 ·rw [az8 hj,az8 hj];exact ⟨_,rfl⟩
theorem am1:aa2 X (.type "int") (fun xs H Q=>(∃ i,xs=[.int i]/\Q (.int i) H)\/∃ k,xs=[.bl k]/\Q (.int (if k then 1 else 0)) H):=by
 intro pins s σ H xs us Q I r h
 rcases h with ⟨i,rfl,q⟩ | ⟨k,rfl,q⟩
 ·obtain ⟨u,rfl,t,rfl⟩:=aby r
  exact call_int_int ⟨.int i,H,I,⟨_,rfl⟩,q⟩
 ·obtain ⟨u,rfl,a⟩:=aby r
  cases a
  exact call_int_bool ⟨.int (if k then 1 else 0),H,I.tok _,⟨_,rfl⟩,q⟩
theorem aip:aa2 X (.type "str") (fun xs H Q=>∃ i,xs=[.int i]/\i.natAbs.log2 < 1920/\Q (.str (toString i)) H):=by
 intro pins s σ H xs us Q I r h
 obtain ⟨i,rfl,a,q⟩:=h
 obtain ⟨u,rfl,t,rfl⟩:=aby r
 exact PySem.P.str_of_int a ⟨.str _,H,I.tok _,⟨_,rfl⟩,q⟩
end
structure ObjM (h:Heap) (x dx C:Addr) (mA:Str->Option Value):Prop where
 obj:h.get? x=some (PySem.W.instObj C dx)
 ns:h.Ns1 dx mA
 ne:dx ≠ x
theorem am2 {h:Heap} {dx:Addr} {mA:Str->Option Value} (n:h.Ns1 dx mA):∃ od,h.get? dx=some od/\∀ name,PySem.W.lookIn name od=some (mA name):=by
 obtain ⟨o,es,i,f,hd,c,_,hm⟩:=n
 refine ⟨o,f,fun name=>?_⟩
 have e:=hm name
 unfold nsFind findBy at e
 rw [← Array.find?_toList] at e
 unfold PySem.W.lookIn
 rw [hd]
 dsimp only
 split
 ·rename_i y q
  rw [q] at e
  exact congrArg some e
 ·rename_i q
  rw [q] at e
  have a:es.toList.any (·.refKey)=false:=by
   rw [List.any_eq_false]
   intro y g
   obtain ⟨z,t,b⟩:=c y (Array.mem_toList_iff.mp g)
   simp [DictEntry.refKey,b]
  have d:¬ es.toList.any (·.refKey)=true:=by rw [a];exact aw0
  rw [az8 d]
  exact congrArg some e
theorem ObjM.look {h:Heap} {x dx C:Addr} {mA:Str->Option Value} (I:ObjM h x dx C mA):∃ od,PySem.W.InstAt h x (PySem.W.instObj C dx) C (some od)/\∀ name,PySem.W.lookIn name od=some (mA name) :=
 let ⟨od,b,a⟩:=am2 I.ns
 ⟨od,⟨I.obj,rfl,rfl,b⟩,a⟩
section
variable {prog:Program} {w:World} {A:Around} {E:Value->Shared->Prop} {s:Shared} {K:Frag} {x dx C f:Addr} {mA:Str->Option Value} {name:Str} {v:Value}
end
def putF (f:Str) (v:V):List (Str × V)->List (Str × V)
 | []=>[(f,v)]
 | (g,x) :: r=>if g=f then (g,v) :: r else (g,x) :: putF f v r
section
variable {P:Program} {w:World} {H H':Hp} {h h':Heap} {a C dx:Addr} {fs fs':List (Str × V)}
theorem aqx (hok:HOk P w H h) (e:H a=some (.ins C dx fs)):∃ mA,ObjM h a dx C mA/\(∀ f,RelO (fs.lookup f) (mA f))/\PySem.Within mA (fs.map (·.1))/\fs.length<=1000/\H dx=some (.own a):=by
 obtain ⟨d,z,ne,b,mA,n,r,q⟩:=(show ObjOk P w H h a (.ins C dx fs) from hok a _ e)
 exact ⟨mA,⟨b,n,ne⟩,r,q,z,d⟩
end
structure Cls (K:Frag) (C:Addr):Prop where
 pg:PySem.W.plainGet K C Str.empty=true
 hd:PySem.W.hasDictIn K C=true
 po:PySem.W.plainOver K C=true
 sa:PySem.W.findIn K (.ref C) "__setattr__" = some (some (.builtin "object.__setattr__"))
theorem Cls.get {K:Frag} {C:Addr} (c:Cls K C) (f:Str):PySem.W.plainGet K C f=true:=c.pg
section
variable {X:Cx} {pins:List (Addr × Obj)} {σ:St} {H:Hp} {s:Shared} {a C dx:Addr} {fs:List (Str × V)} {f:Str} {v:V} {A:Around} {E:Value->Shared->Prop}
end
section
variable {X:Cx} {o e value:Expr} {f:Str} {pos pos' tpos:Pos} {ta tv:TE}
end
section
variable {X:Cx} {pins:List (Addr × Obj)} {σ:St} {H:Hp} {s:Shared} {A:Around} {E:Value->Shared->Prop} {Q:Value->Shared->Prop} {c:Value} {b:Bool}
inductive TyOf (K:Frag) (H:Hp):V->Value->Prop where
 | non:TyOf K H .non (.type "NoneType")
 | bl (x:Bool):TyOf K H (.bl x) (.type "bool")
 | int (i:Int):TyOf K H (.int i) (.type "int")
 | str (x:Str):TyOf K H (.str x) (.type "str")
 | flt (x:UInt64):TyOf K H (.flt x) (.type "float")
 | lst {a:Addr} {xs:List V} (e:H a=some (.lst xs)):TyOf K H (.ref a) (.type "list")
 | frz {a:Addr} {o:Obj} {xs:List V} (e:H a=some (.frz o (.lst xs))):TyOf K H (.ref a) (.type "list")
 | tup {a:Addr} {xs:List V} (e:H a=some (.tup xs)):TyOf K H (.ref a) (.type "tuple")
 | dK {a:Addr} {kvs:List (Key × V)} (e:H a=some (.dK kvs)):TyOf K H (.ref a) (.type "dict")
 | dT {a:Addr} {kvs:List (List Key × V)} (e:H a=some (.dT kvs)):TyOf K H (.ref a) (.type "dict")
 | ins {a C dx:Addr} {fs:List (Str × V)} (e:H a=some (.ins C dx fs)) (cl:Cls K C) (ha:PySem.W.findIn K (.ref C) "__class__" = some (some (.builtin "object.__class__")))
   (hn:PySem.W.specialIn K (.builtin "object.__class__") "__get__" = some (some (.builtin "getset_descriptor.__get__"))) (htk:PySem.W.takesIn K (.builtin "object.__class__")=some true)
   (hm:mroIn K C (.type "object")=some true):TyOf K H (.ref a) (.ref C)
theorem am3 {x:V} {u t:Value} (I:Inv X pins σ H s) (d:RelV x u) (ty:TyOf X.K H x t) (e:kitOne X.K t c=some b) (h:∀ l,Q (.bool b) { s with toks:=l }) :
  wpAny (model X.prog X.w) A (call (.builtin "isinstance") [u,c]) Q E s:=by
 cases ty with
 | non=>cases (show u=Value.none from d);exact PySem.W.kia_one PySem.W.kitx_none I.kIn True.intro e (fun z=>nomatch z) h
 | bl y=>cases (show u=Value.bool y from d);exact PySem.W.kia_one PySem.W.kitx_bool I.kIn True.intro e (fun z=>nomatch z) h
 | int i=>obtain ⟨t,q⟩:=(show ∃ t,u=Value.int i t from d);cases q;exact PySem.W.kia_one PySem.W.kitx_int I.kIn True.intro e (fun z=>nomatch z) h
 | str y=>obtain ⟨t,q⟩:=(show ∃ t,u=Value.str y t from d);cases q;exact PySem.W.kia_one PySem.W.kitx_str I.kIn True.intro e (fun z=>nomatch z) h
 | flt y=>obtain ⟨t,q⟩:=(show ∃ t,u=Value.float y t from d);cases q;exact PySem.W.kia_one PySem.W.kitx_float I.kIn True.intro e (fun z=>nomatch z) h
 | @lst a xs ea =>
  cases (show u=Value.ref a from d)
  obtain ⟨_,_,n,_,f⟩:=(show ObjOk X.prog X.w H s.heap a (.lst xs) from I.hok a _ ea)
  exact PySem.W.kia_one PySem.W.kitx_list I.kIn ⟨_,f,rfl⟩ e (fun z=>nomatch z) h
 | @frz a ob xs ea =>
  cases (show u=Value.ref a from d)
  obtain ⟨_,_,_,n,_,f⟩:=(show ObjOk X.prog X.w H s.heap a (.frz ob (.lst xs)) from I.hok a _ ea)
  exact PySem.W.kia_one PySem.W.kitx_list I.kIn ⟨_,f,rfl⟩ e (fun z=>nomatch z) h
 | @tup a xs ea =>
  cases (show u=Value.ref a from d)
  obtain ⟨_,_,_,p⟩:=(show ObjOk X.prog X.w H s.heap a (.tup xs) from I.hok a _ ea)
  obtain ⟨o,f,g,_⟩:=p
  exact PySem.W.kia_one PySem.W.kitx_tuple I.kIn ⟨o,f,g⟩ e (fun z=>nomatch z) h
 | @dK a kvs ea =>
  cases (show u=Value.ref a from d)
  obtain ⟨_,_,vs,_,p⟩:=(show ObjOk X.prog X.w H s.heap a (.dK kvs) from I.hok a _ ea)
  obtain ⟨o,es,j,f,g,_⟩:=p
  exact PySem.W.kia_one PySem.W.kitx_dict I.kIn ⟨o,f,g.1⟩ e (fun z=>nomatch z) h
 | @dT a kvs ea =>
  cases (show u=Value.ref a from d)
  obtain ⟨_,_,xs,_,o,es,j,f,g,_⟩:=(show ObjOk X.prog X.w H s.heap a (.dT kvs) from I.hok a _ ea)
  exact PySem.W.kia_one PySem.W.kitx_dict I.kIn ⟨o,f,g.1⟩ e (fun z=>nomatch z) h
 | @ins a C dx fs ea cl ha hn htk hm =>
  cases (show u=Value.ref a from d)
  obtain ⟨mA,O,_⟩:=aqx I.hok ea
  obtain ⟨od,J,_⟩:=O.look
  exact PySem.W.kia_one (PySem.W.kitx_own (cl.get _) cl.hd ha hn htk hm) I.kIn J e (fun z=>nomatch z) h
end
structure Room (k:Nat) (A:Around):Prop where
 hd:A.handled=none
 dp:A.depth+3 * k+5 < recursionLimit
 un:A.units+16 * k+200 < cLine
 gd:A.guards=some []
theorem Room.mono {j k:Nat} {A:Around} (r:Room k A) (h:j<=k):Room j A:=⟨r.hd,by have:=r.dp;omega,by have:=r.un;omega,r.gd⟩
theorem Room.deeper {k:Nat} {A:Around} (r:Room (k+1) A) (env:Env):Room k (A.deeper env) :=
 ⟨r.hd,by have:=r.dp;show A.depth+1+3 * k+5 < _;omega,by have:=r.un;show A.units+3+16 * k+200 < _;omega,r.gd⟩
theorem Room.in1 {k:Nat} {A:Around} (r:Room (k+1) A):Room k A.in1 :=
 ⟨r.hd,by have:=r.dp;show A.depth+3 * k+5 < _;omega,by have:=r.un;show A.units+1+16 * k+200 < _;omega,r.gd⟩
theorem Room.depth {k:Nat} {A:Around} (r:Room k A):A.depth < recursionLimit:=by have:=r.dp;omega
theorem Room.units {k:Nat} {A:Around} (r:Room k A):A.units+64 < cLine:=by have:=r.un;omega
theorem Room.units0 {k:Nat} {A:Around} (r:Room k A):A.units < cLine:=by have:=r.un;omega
def tNil:TA:=fun _ H Q=>Q [] H
def aav (ta:TE) (tr:TA):TA:=fun σ H Q=>ta σ H fun x H1=>tr σ H1 fun xs H2=>Q (x :: xs) H2
section
variable {X:Cx} {e:Expr} {es:List Expr} {te:TE} {t:TA} {pos:Pos}
theorem aab:PA X [] tNil:=fun _ _ _ _ H Q I h=>Calls.spliced_nil ⟨[],H,I,.nil,h⟩
theorem aaa (ha:PE X e te) (l:PA X es t) (j:starEach (e :: es) X.env=(false,eval e X.env) :: starEach es X.env:=by rfl):PA X (e :: es) (aav te t):=by
 intro a pins s σ H Q I h
 rw [j]
 show wpAny _ _ (spliced ((false,eval e X.env) :: backTo a (starEach es X.env))) _ _ s
 refine Calls.spliced_cons (thn (ha pins s σ H _ I h) fun u s1 ⟨x,i,f,c,g⟩=>?_)
 exact thn (l a pins s1 σ i _ f g) fun us s2 ⟨xs,H2,b,m,d⟩=>⟨x :: xs,H2,b,.cons c m,d⟩
def tTup (t:TA):TE:=fun σ H Q=>t σ H fun xs H1=>xs.length<=sizeLine/\∀ p,H1 p=none->Q (.ref p) (upd H1 p (.tup xs))
def tLst (t:TA):TE:=fun σ H Q=>t σ H fun xs H1=>xs.length<=sizeLine/\∀ p,H1 p=none->Q (.ref p) (upd H1 p (.lst xs))
theorem abv {x1} (h:PA X es t):PE X (.Tuple es x1 pos) (tTup t):=by
 intro pins s σ H Q I d
 refine wpAny_Tuple_spliced (thn (h pos pins s σ H _ I d) fun us s1 ⟨xs,c,a,r,z,q⟩=>⟨by rw [← r.length];exact z,?_⟩)
 have hf:c s1.heap.objs.size=none:=a.hok.fresh (av6 _)
 refine ⟨.ref s1.heap.objs.size,upd c s1.heap.objs.size (.tup xs),a.laid (t':=s1.toks) (fun b u e=>aC5 _ e) (av6 _) ?_,rfl,q _ hf⟩
 exact ⟨z,us,r,⟨_,aC7 _ rfl,rfl,_,rfl⟩⟩
theorem afr (h:PA X es t):PE X (.List es pos) (tLst t):=by
 intro pins s σ H Q I d
 refine wpAny_List_spliced (thn (h pos pins s σ H _ I d) fun us s1 ⟨xs,c,a,r,z,q⟩=>⟨by rw [← r.length];exact z,?_⟩)
 have hf:c s1.heap.objs.size=none:=a.hok.fresh (av6 _)
 refine ⟨.ref s1.heap.objs.size,upd c s1.heap.objs.size (.lst xs),a.laid (t':=s1.toks) (fun b u e=>aC5 _ e) (av6 _) ?_,rfl,q _ hf⟩
 exact ⟨z,us,0,r,aC7 _ rfl⟩
end
abbrev Sp:=List V->Hp->VK->XK->Prop
abbrev CXT:=List Env->Hp->Shared->XK->Value->Shared->Prop
structure Env0 (P:Program) (w:World) (K:Frag) (mg:Str->Option Value) (base:Heap) (A:Around) (outer:List Env) (s:Shared) (H:Hp):Prop where
 frames:A.frames=some outer
 mod:Mod K mg base
 bs:∀ b o,base.get? b=some o->s.heap.get? b=some o/\H b=none
 bsz:base.objs.size<=s.heap.objs.size
 funs:s.heap.FunFrames base outer
 frf:∀ b∈frs outer,H b=none
 tab:TabsOk K H
 hok:HOk P w H s.heap
 bare:AllBare s.gens
def CE (outer:List Env) (P:Program) (w:World) (H:Hp) (s:Shared) (Q:VK) (u:Value) (s':Shared):Prop :=
 ∃ v H',s'.os=s.os/\AllBare s'.gens/\Un (frs outer) [] H H' s.heap s'.heap/\HOk P w H' s'.heap/\RelV v u/\Q v H'
def CR (CX:CXT) (outer:List Env) (P:Program) (w:World) (H:Hp) (s:Shared) (Q:VK) (E:XK) (r:Result) (s':Shared):Prop :=
 match r with
 | .ok (.ret u)=>CE outer P w H s Q u s'
 | .ok _=>False
 | .error e=>CX outer H s E e s'
structure FnOk (P:Program) (w:World) (K:Frag) (mg:Str->Option Value) (base:Heap) (CX:CXT) (k:Nat) (f:Addr) (fd:FuncData) (ps:List Str) (sp:Sp):Prop where
 len:∀ vs H Q E,sp vs H Q E->vs.length=ps.length
 run:∀ (A:Around) (outer:List Env) (s:Shared) (H:Hp) (args:Args) (us:List Value) (vs:List V) (Q:VK) (E:XK),Room k A->Env0 P w K mg base A outer s H->BindsTo s fd args (ps.zip us)->Vals vs us->sp vs H Q E ->
  codeAny (model P w) A (.call (.ref f) args) (CR CX outer P w H s Q E) s
theorem FnOk.mono {P:Program} {w:World} {K:Frag} {mg:Str->Option Value} {base:Heap} {CX:CXT} {j k:Nat} {f:Addr} {fd:FuncData} {ps:List Str} {sp:Sp} (F:FnOk P w K mg base CX j f fd ps sp) (h:j<=k) :
  FnOk P w K mg base CX k f fd ps sp:=⟨F.len,fun A outer s H args us vs Q E a=>F.run A outer s H args us vs Q E (a.mono h)⟩
theorem FnOk.imp {P:Program} {w:World} {K:Frag} {mg:Str->Option Value} {base:Heap} {CX:CXT} {k:Nat} {f:Addr} {fd:FuncData} {ps:List Str} {sp a:Sp} (F:FnOk P w K mg base CX k f fd ps sp)
  (h:∀ vs H Q E,a vs H Q E->sp vs H Q E):FnOk P w K mg base CX k f fd ps a :=
 ⟨fun vs H Q E q=>F.len vs H Q E (h _ _ _ _ q),fun A outer s H args us vs Q E g b hb c d=>F.run A outer s H args us vs Q E g b hb c (h _ _ _ _ d)⟩
theorem Env0.in1 {P:Program} {w:World} {K:Frag} {mg:Str->Option Value} {base:Heap} {A:Around} {outer:List Env} {s:Shared} {H:Hp} (e:Env0 P w K mg base A outer s H) :
  Env0 P w K mg base A.in1 outer s H:=⟨e.frames,e.mod,e.bs,e.bsz,e.funs,e.frf,e.tab,e.hok,e.bare⟩
section
variable {X:Cx} {pins:List (Addr × Obj)} {σ:St} {H:Hp} {s s':Shared}
theorem Inv.env0 (I:Inv X pins σ H s):Env0 X.prog X.w X.K X.mg X.base X.A X.stack s H :=
 ⟨I.ok.frames,I.ok.mod,I.bs,ay0 I.ok.bsz I.sz,I.stack,I.stkFree,I.tab,I.hok,I.bare⟩
theorem Inv.after {Q:VK} {u:Value} (I:Inv X pins σ H s) (h:CE X.stack X.prog X.w H s Q u s'):EP X pins σ Q u s':=by
 obtain ⟨v,H',os,bare,un,hok,r,q⟩:=h
 obtain ⟨hh,g,d,t,os'⟩:=s'
 obtain rfl:os'=s.os:=os
 exact ⟨v,H',I.call (h':=hh) (g':=g) (d':=d) (t':=t) (ch:=[]) un hok bare (fun b z=>absurd z (by simp)),r,q⟩
end
def acb (sp:Sp) (dvs:List V) (E:XK) (t:TA):TE:=fun σ H Q=>t σ H fun vs H1=>sp (vs ++ dvs) H1 Q E
def Binds (K:Frag) (fd:FuncData) (ps:List Str) (ds:List Value):Prop :=
 ∀ (s:Shared) (us:List Value),K.In s.heap->(us ++ ds).length=ps.length->BindsTo s fd ⟨us,[]⟩ (ps.zip (us ++ ds))
theorem Binds.all {K:Frag} {fd:FuncData} {ps:List Str} (h:∀ us:List Value,us.length=ps.length->bindArgs fd ⟨us,[]⟩=pure (ps.zip us)):Binds K fd ps []:=fun s us _ a=>by
 rw [az3] at a ⊢
 exact .of_eq (h us a)
def aiq (CX:CXT) (X:Cx) (E:XK):Prop:=∀ (pins:List (Addr × Obj)) (σ:St) (H:Hp) (s:Shared) (e:Value) (s':Shared),Inv X pins σ H s->CX X.stack H s E e s'->X.xe e s'
section
variable {X:Cx} {CX:CXT} {k:Nat} {f C:Addr} {fd:FuncData} {ps:List Str} {sp:Sp} {dvs:List V} {ds:List Value} {E:XK} {x m:Str} {p pos apos:Pos} {e o:Expr} {es:List Expr} {ta:TE} {t:TA}
theorem ata {pins:List (Addr × Obj)} {σ:St} {H:Hp} {s:Shared} {Q:VK} {us:List Value} {vs:List V} (F:FnOk X.prog X.w X.K X.mg X.base CX k f fd ps sp) (i:Room k X.A) (hb:Binds X.K fd ps ds) (hd:Vals dvs ds) (d:aiq CX X E)
  (I:Inv X pins σ H s) (r:Vals vs us) (h:sp (vs ++ dvs) H Q E):wpAny (model X.prog X.w) X.A (call (.ref f) us) (EP X pins σ Q) X.xe s:=by
 have b:Vals (vs ++ dvs) (us ++ ds):=r.append hd
 have g:(us ++ ds).length=ps.length:=by rw [← b.length];exact F.len _ _ _ _ h
 refine wpAny_call (codeAny_mono (F.run X.A X.stack s H ⟨us,[]⟩ (us ++ ds) (vs ++ dvs) Q E i I.env0 (hb s us I.kIn g) b h) fun r c a=>?_)
 cases r with
 | error e=>exact d pins σ H s e c I a
 | ok fl =>
  cases fl with
  | ret u=>exact I.after a
  | next=>exact False.elim a
  | brk=>exact False.elim a
  | cont=>exact False.elim a
theorem aqy (F:FnOk X.prog X.w X.K X.mg X.base CX k f fd ps sp) (l:Room k X.A) (i:Gl X x) (hm:X.mg x=some (.ref f)) (j:keepIn X.K (.ref f)=true) (hb:Binds X.K fd ps ds) (hd:Vals dvs ds) (g:aiq CX X E)
  (ha:PA X (e :: es) t) (b:(x == ("__debug__" : Str))=false:=by decide) (d:starEach (e :: es) X.env=(false,eval e X.env) :: starEach es X.env:=by rfl) (a:(backTo pos (starEach es X.env)).any (·.1)=false:=by rfl) :
  PE X (.Call (.Name x p) (e :: es) [] pos) (acb sp dvs E t):=by
 intro pins s σ H Q I h
 refine wpAny_Call_Name_kw (agd I i hm ?_ b)
 refine PySem.W.callWith_K (h₀:=X.base) I.ok.mod.kin j (thn (ha pos pins s σ H _ I h) fun us s1 ⟨vs,m,c,r,q⟩=>⟨c.kIn,?_⟩) d a
 exact ata F l hb hd g c r q
end
section
variable {X:Cx} {CX:CXT} {k:Nat} {f C:Addr} {fd:FuncData} {ps ks:List Str} {sp:Sp} {E:XK} {x m:Str} {p pos apos kpos:Pos} {e o:Expr} {es:List Expr} {kws:List Keyword} {te ta:TE} {t tk:TA} {nm:Option Str}
variable {g:List Value->List Value->List Value} {gV:List V->List V->List V}
end
structure FnScope (N P:List Str) (sc:Scope):Prop where
 kind:sc.kind=.function
 co:sc.isCoroutine=false
 gen:sc.isGenerator=false
 nd:N.Nodup
 pre:N.take P.length=P
 par:∀ x∈P,sc.names.lookup x=some .local\/sc.names.lookup x=some .cell
 nofree:∀ y∈sc.names,y.2 ≠ .free
theorem ag5 {kindOf:Str->Option NameKind} {x:Str}:∀ {binds:List (Str × Value)} {m:Str->Option Value},(∀ v,(x,v) ∉ binds)->bindL kindOf binds m x=m x
 | [],_,_=>rfl
 | (n,v) :: r,m,h=>by
  unfold bindL
  rw [ag5 fun w a=>h w (aw5 _ a)]
  split
  ·have:x ≠ n:=by rintro rfl;exact h v aw8
   simp [this]
  ·rfl
theorem ag6 {kindOf:Str->Option NameKind} {x:Str}:∀ {binds:List (Str × Value)} {m:Str->Option Value},(∀ v,(x,v) ∉ binds)->bindC kindOf binds m x=m x
 | [],_,_=>rfl
 | (n,v) :: r,m,h=>by
  unfold bindC
  rw [ag6 fun w a=>h w (aw5 _ a)]
  split
  ·rfl
  ·have:x ≠ n:=by rintro rfl;exact h v aw8
   simp [this]
theorem ag7 {kindOf:Str->Option NameKind} {x:Str} {v:Value}:∀ {P:List Str} {vs:List Value} {i:Nat} {m:Str->Option Value},P.Nodup->P[i]?=some x->vs[i]?=some v->kindOf x=some .local ->
  bindL kindOf (P.zip vs) m x=some v
 | [],_,_,_,_,h,_,_=>by simp at h
 | _ :: _,[],_,_,_,_,h,_=>by simp at h
 | p :: P,w :: vs,0,m,nd,h1,h2,hk=>by
  simp at h1 h2;subst h1;subst h2
  show bindL kindOf ((p,w) :: P.zip vs) m p=_
  unfold bindL
  rw [ag5 fun v a=>(aC1.mp nd).1 (List.of_mem_zip a).1,az7 hk]
  simp
 | p :: P,w :: vs,i+1,m,nd,h1,h2,hk=>by
  show bindL kindOf ((p,w) :: P.zip vs) m x=_
  unfold bindL
  exact ag7 (i:=i) (aC1.mp nd).2 (by simpa using h1) (by simpa using h2) hk
theorem ag8 {kindOf:Str->Option NameKind} {x:Str} {v:Value}:∀ {P:List Str} {vs:List Value} {i:Nat} {m:Str->Option Value},P.Nodup->P[i]?=some x->vs[i]?=some v->kindOf x ≠ some .local ->
  bindC kindOf (P.zip vs) m x=some v
 | [],_,_,_,_,h,_,_=>by simp at h
 | _ :: _,[],_,_,_,_,h,_=>by simp at h
 | p :: P,w :: vs,0,m,nd,h1,h2,hk=>by
  simp at h1 h2;subst h1;subst h2
  show bindC kindOf ((p,w) :: P.zip vs) m p=_
  unfold bindC
  rw [ag6 fun v a=>(aC1.mp nd).1 (List.of_mem_zip a).1,az8 hk]
  simp
 | p :: P,w :: vs,i+1,m,nd,h1,h2,hk=>by
  show bindC kindOf ((p,w) :: P.zip vs) m x=_
  unfold bindC
  exact ag8 (i:=i) (aC1.mp nd).2 (by simpa using h1) (by simpa using h2) hk
def start (N:List Str) (vs:List V):St:=vs.map some ++ List.replicate (N.length - vs.length) none
def cxOf (CX:CXT) (P:Program) (w:World) (K:Frag) (mg:Str->Option Value) (base:Heap) (N:List Str) (qual:Str) (scope:Scope) (f:Addr) (cd:Value) (A:Around) (outer:List Env) (s:Shared) (H:Hp) (E:XK):Cx where
 prog:=P
 w:=w
 K:=K
 mg:=mg
 base:=base
 A:=A.deeper (envOfC qual scope s.heap.objs.size f cd)
 N:=N
 s₀:=s
 H₀:=H
 env:=envOfC qual scope s.heap.objs.size f cd
 outer:=outer
 stack:=envOfC qual scope s.heap.objs.size f cd :: outer
 ex:=[]
 calm:=true
 fn:=fun _=>true
 pn:=[]
 xe:=fun e s'=>wpAny (model P w) (A.deeper (envOfC qual scope s.heap.objs.size f cd)) (leaving (envOfC qual scope s.heap.objs.size f cd) e) (fun _ s''=>CX outer H s E e s'') (fun e' s''=>CX outer H s E e' s'') s'
theorem air {sc:Scope} {n:Nat} {x:Str} (h:sc.names.lookup x=some .cell):∃ c,(cellsFrom n sc.names []).lookup x=some c:=by
 have q:=PySem.W.cellsFrom_some sc.names n [] (.inl h)
 exact Option.isSome_iff_exists.mp q
theorem am4 {CX:CXT} {P:Program} {w:World} {K:Frag} {mg:Str->Option Value} {base:Heap} {N ps:List Str} {qual:Str} {scope:Scope} {f:Addr} {C:Value} {A:Around} {outer:List Env} {s s1:Shared} {H:Hp} {E:XK} {us:List Value} {vs:List V}
  (S:FnScope N ps scope) (hd:A.handled=none) (g:Env0 P w K mg base A outer s H) (M:vs.length=ps.length) (r:Vals vs us)
  (x:InCallC s s.heap.objs.size (bindL (envOfC qual scope s.heap.objs.size f C).kindOf (ps.zip us) fun _=>none) (cellsFrom (s.heap.objs.size+1) scope.names []) (bindC (envOfC qual scope s.heap.objs.size f C).kindOf (ps.zip us) fun _=>none) s1) :
  Inv (cxOf CX P w K mg base N qual scope f C A outer s H E) [] (start N vs) H s1:=by
 have G:ps.length<=N.length:=by have:=congrArg List.length S.pre;rw [aB1] at this;omega
 obtain ⟨B,L,rfl,D⟩:=x.done
 have j:∀ b:Addr,b ∉ (cxOf CX P w K mg base N qual scope f C A outer s H E).ex:=fun b z=>absurd (show b∈([]:List Addr) from z) (by simp)
 refine ⟨⟨g.mod,S.kind,rfl,rfl,av6 _,fun y z c B d=>?_,fun y l=>?_,fun y c _ h=>?_,fun _=>hd,Around.frames_deeper g.frames,.inr ⟨rfl,rfl⟩,fun b z=>absurd z (j b),g.bs,g.bsz,fun b _ _=>j b,fun b z=>absurd z (j b),g.funs,g.frf,g.tab⟩,
  rfl,g.bare,Un.kept D,⟨_,x.toInCall.ns,fun i y v B d J=>?_⟩,fun y c h=>⟨_,x.cell y c h⟩,g.hok.fresh (av6 _),fun y c h=>?_,fun p o=>absurd (show p∈([]:List (Addr × Obj)) from o) (by simp),g.hok.kept D,?_⟩
 ·exact name_of_addr x.apart (PySem.mem_of_lookup B) (PySem.mem_of_lookup d)
 ·have l:scope.names.lookup y=some .cell\/scope.names.lookup y=some .free:=l
  rcases l with l | l
  ·exact air l
  ·exact absurd rfl (S.nofree _ (PySem.mem_of_lookup l))
 ·exact aA6 (x.above y c (PySem.mem_of_lookup h))
 ·have hi:i < vs.length:=by
   unfold start at d
   by_cases hi:i < vs.length
   ·exact hi
   ·rw [ax8 (by simpa using hi)] at d
    rw [List.getElem?_replicate] at d
    split at d <;> cases d
  have ha:vs[i]?=some v:=by
   unfold start at d
   rw [ax3 (by simpa using hi),av5] at d
   cases e:vs[i]? with
   | none=>rw [e] at d;cases d
   | some a=>rw [e] at d;cases d;rfl
  obtain ⟨u,F,I⟩:=r.get ha
  have o:ps[i]?=some y:=by
   rw [← S.pre,aB5 (by omega)];exact B
  have m:ps.Nodup:=by rw [← S.pre];exact S.nd.sublist (List.take_sublist _ _)
  refine ⟨u,I,?_⟩
  rcases S.par y (av2 o) with k | k
  ·exact .inl ⟨k,ag7 m o F k⟩
  ·obtain ⟨c,e⟩:=air (n:=s.heap.objs.size+1) k
   refine .inr ⟨.inl k,c,e,?_⟩
   have q:=x.cell y c e
   rw [ag8 m o F (by show scope.names.lookup y ≠ _;rw [k];decide)] at q
   exact q
 ·exact g.hok.fresh (aA6 (x.above y c (PySem.mem_of_lookup h)))
 ·unfold start
  show _=N.length
  rw [aw1,av3,List.length_replicate]
  omega
theorem auw {CX:CXT} {P:Program} {w:World} {K:Frag} {mg:Str->Option Value} {base:Heap} {k:Nat} {f:Addr} {name qual:Str} {a:Arguments} {body:List Stmt} {scope:Scope} {D kV doc pm cdv ct oc:Value} {an od:Option Addr}
  {osl:Array (Option Value)} {N ps:List Str} {sp:Sp} (F:K.lookup f=some ⟨oc,od,.func (fnOf name qual a body scope D kV doc pm an cdv ct),osl⟩) (p:codeIn K cdv qual=true) (S:FnScope N ps scope)
  (len:∀ vs H Q E,sp vs H Q E->vs.length=ps.length)
  (d:∀ (A:Around) (outer:List Env) (s:Shared) (H:Hp) (vs:List V) (Q:VK) (E:XK),Room k (A.deeper (envOfC qual scope s.heap.objs.size f cdv))->sp vs H Q E ->
   ∃ t,PSs (cxOf CX P w K mg base N qual scope f cdv A outer s H E) body t/\t { nx:=fun _ H'=>Q .non H',rt:=Q } (start N vs) H) :
  FnOk P w K mg base CX (k+1) f (fnOf name qual a body scope D kV doc pm an cdv ct) ps sp:=by
 refine ⟨len,fun A outer s H args us vs Q E B i hb r j=>?_⟩
 have M:=len _ _ _ _ j
 have C:K.In s.heap:=i.mod.kin.keeps fun b o e=>(i.bs b o e).1
 have m:s.heap.NoLimit:=i.mod.nolimit.keeps fun b o e=>(i.bs b o e).1
 have g:∀ y∈ps.zip us,scope.names.lookup y.1=some .local\/(scope.names.lookup y.1=some .cell/\((cellsFrom (s.heap.objs.size+1) scope.names []).lookup y.1).isSome=true):=fun ⟨n,v⟩ O=>by
  rcases S.par n (List.of_mem_zip O).1 with q | q
  ·exact .inl q
  ·exact .inr ⟨q,PySem.W.cellsFrom_some _ _ _ (.inl q)⟩
 refine codeAny_call_function B.depth (C _ _ F) rfl S.co S.gen rfl (PySem.W.codeRec_of C p) (hb _ _ _ _ ?_)
 refine wpAny_newFunctionEnv_cells S.kind g fun env G s1 x=>?_
 subst G
 refine ⟨m.keeps x.toInCall.keep,codeAny_func ?_⟩
 obtain ⟨t,L,T⟩:=d A outer s H vs Q E (B.deeper _) j
 have I:Inv (cxOf CX P w K mg base N qual scope f cdv A outer s H E) [] (start N vs) H s1:=am4 S B.hd i M r x
 refine aC9 (L [] s1 (start N vs) H _ I T) (fun R l h=>?_) fun e l h=>h
 have fin:∀ {c:St} {H':Hp} {v:V} {u:Value},Inv (cxOf CX P w K mg base N qual scope f cdv A outer s H E) [] c H' l->RelV v u->Q v H'->CE outer P w H s Q u l :=
  fun {c H' v u} J z q=>⟨v,H',J.os,J.bare,J.base,J.hok,z,q⟩
 cases R with
 | ret u =>
  obtain ⟨v,c,H',J,z,q⟩:=h
  exact fin J z q
 | next =>
  obtain ⟨c,H',J,q⟩:=h
  exact fin (v:=V.non) (u:=Value.none) J rfl q
 | brk =>
  obtain ⟨_,_,_,q⟩:=h
  exact False.elim q
 | cont =>
  obtain ⟨_,_,_,q⟩:=h
  exact False.elim q
section
variable {X:Cx} {x:Str} {p pos:Pos} {e:Expr} {es:List Expr} {t:TA} {id T:String} {r:List V->Hp->VK->Prop}
def tCB (r:List V->Hp->VK->Prop) (t:TA):TE:=fun σ H Q=>t σ H fun vs H1=>r vs H1 Q
theorem aao (l:aa2 X (.builtin id) r) (f:Gl X x) (hm:X.mg x=none) (j:bootBuiltins x=some (.builtin id)) (ha:PA X (e :: es) t) (hn:x ≠ "__name__":=by decide) (b:(x == ("__debug__" : Str))=false:=by decide)
  (c:starEach (e :: es) X.env=(false,eval e X.env) :: starEach es X.env:=by rfl) (a:(backTo pos (starEach es X.env)).any (·.1)=false:=by rfl):PE X (.Call (.Name x p) (e :: es) [] pos) (tCB r t):=by
 intro pins s σ H Q I h
 refine wpAny_Call_Name_kw (acx I f hm j ?_ hn b)
 exact PyProof.Rows.callWith_builtin1 (thn (ha pos pins s σ H _ I h) fun us s1 ⟨vs,m,g,d,i⟩=>l pins s1 σ m vs us Q g d i) c a
theorem abg (l:aa2 X (.type T) r) (f:Gl X x) (hm:X.mg x=none) (j:bootBuiltins x=some (.type T)) (ha:PA X (e :: es) t) (hn:x ≠ "__name__":=by decide) (b:(x == ("__debug__" : Str))=false:=by decide)
  (c:starEach (e :: es) X.env=(false,eval e X.env) :: starEach es X.env:=by rfl) (a:(backTo pos (starEach es X.env)).any (·.1)=false:=by rfl):PE X (.Call (.Name x p) (e :: es) [] pos) (tCB r t):=by
 intro pins s σ H Q I h
 refine wpAny_Call_Name_kw (acx I f hm j ?_ hn b)
 exact PyProof.Rows.callWith_type1 (thn (ha pos pins s σ H _ I h) fun us s1 ⟨vs,m,g,d,i⟩=>l pins s1 σ m vs us Q g d i) c a
end
end L2
namespace HT
open PySem PyProof.Rows
def lexLt:List Int->List Int->Bool
 | [],[]=>false
 | [],_ :: _=>true
 | _ :: _,[]=>false
 | x :: xs,y :: ys=>if x=y then lexLt xs ys else decide (x < y)
theorem acr (x y:Int) (xs ys:List Int):lexLt (x :: xs) (y :: ys)=if x=y then lexLt xs ys else decide (x < y):=rfl
theorem ahp:lexLt [] []=false:=rfl
theorem age (y:Int) (ys:List Int):lexLt [] (y :: ys)=true:=rfl
theorem agf (x:Int) (xs:List Int):lexLt (x :: xs) []=false:=rfl
theorem aoj (A:Around) (s:Shared) (a:Int) (t:Tok) (c:Int) (u:Tok):∃ e,SeqAt.EqAt A s (.int a t) (.int c u) e/\(e=true ↔ a=c) :=
 ⟨(a == c),SeqAt.EqAt.int_int a t c u,by simp⟩
theorem aok (A:Around) (s:Shared) (a:Int) (t:Tok) (c:Int) (u:Tok) (prog:Program) (w:World) (E:Value->Shared->Prop) (Q:Value->Shared->Prop) (h:Q (.bool (decide (a < c))) s) :
  wpAny (model prog w) A (richCompare .Lt (.int a t) (.int c u)) Q E s :=
 (PyProof.Rows.lt_int h:wpAny (model prog w) A (compareOp .Lt (.int a t) (.int c u)) Q E s)
section
open PySem.SeqAt
open PySem.AutoSeq1 (wpAny_loadPart')
open PySem.MeetsSeq PySem.MeetsSeq2 PySem.MeetsSeq3
theorem ahq (l b:Addr) (items f:Array Value) (n P:Nat) (S K:Option Addr) (sl I:Array (Option Value)) (ns E:List Int) (hi:IntsAre items.toList ns) (L:IntsAre f.toList E) :
  Meets (Builtin.«tuple.__lt__» ⟨[.ref l,.ref b],[]⟩)
   (fun _ R s=>s.heap.get? l=some { cls:=.type "tuple",dict:=S,data:=.seq items n,slots:=sl }/\s.heap.get? b=some { cls:=.type "tuple",dict:=K,data:=.seq f P,slots:=I } /\
    R (.ok (.ret (.bool (lexLt ns E)))) s) :=
 .of_wp fun prog w A R s h=>by
  obtain ⟨F,g,d,D,os⟩:=s;obtain ⟨Q,hb,h⟩:=h
  have Z:=AutoSeq1.sub_tuple_tuple
  have U:items.size=ns.length:=by rw [← hi.length];simp
  have X:f.size=E.length:=by rw [← L.length];simp
  wp_walk using wpAny_loadPart' Q,wpAny_loadPart' hb,wpAny_forIn_list _ (fun rest b H=>b.1=none/\H=⟨F,g,d,D,os⟩/\∃ (vs ws:List Value) (j m:List Int),rest=vs.zip ws /\
   IntsAre vs j/\IntsAre ws m/\j.length+f.size=m.length+items.size/\R (.ok (.ret (.bool (lexLt j m)))) ⟨F,g,d,D,os⟩) _
  case turn =>
   rintro ⟨y,x⟩ rest b H ⟨B,rfl,vs,ws,j,m,p,z,o,i,v⟩
   cases z with
   | nil=>rw [List.zip_nil_left] at p;cases p
   | cons a t hvi' =>
    cases o with
    | nil=>rw [List.zip_nil_right] at p;cases p
    | cons c u hwi' =>
     rw [List.zip_cons_cons] at p
     injection p with J C
     injection J with T O
     subst T O
     rw [acr] at v
     simp only [az0] at i
     obtain ⟨e,N,r⟩:=aoj A.in1 ⟨F,g,d,D,os⟩ a t c u
     refine aC3 (N prog w _ _ ?_)
     cases e with
     | true =>
      rw [az7 (r.mp rfl)] at v
      wp_walk
      exact ⟨rfl,rfl,_,_,_,_,C,hvi',hwi',by omega,v⟩
     | false =>
      rw [az8 (fun q=>absurd (r.mpr q) aw0)] at v
      have G:=aok A.in1 ⟨F,g,d,D,os⟩ a t c u prog w
      wp_walk using G
      exact ⟨_,rfl,by simpa using v⟩
  case fin =>
   rintro ⟨Y,W⟩ H ⟨B,rfl,vs,ws,j,m,p,z,o,i,v⟩
   simp only at B
   subst B
   have M:lexLt j m=decide (items.size < f.size):=by
    cases z with
    | nil =>
     cases o with
     | nil =>
      simp only [aC2] at i
      rw [ahp]
      exact (ay5 (by omega)).symm
     | cons c u hw =>
      simp only [aC2,az0] at i
      rw [age]
      exact (ay6 (by omega)).symm
    | cons a t M =>
     cases o with
     | nil =>
      simp only [aC2,az0] at i
      rw [agf]
      exact (ay5 (by omega)).symm
     | cons c u hw =>
      rw [List.zip_cons_cons] at p
      cases p
   rw [M] at v
   wp_walk
   exact ⟨_,rfl,by simpa [Builtin.Tuple.tupleCompareSizes] using v⟩
  case h =>
   exact ⟨rfl,rfl,items.toList,f.toList,ns,E,rfl,hi,L,by omega,h⟩
end
section
variable {prog:Program} {w:World} {A:Around} {E:Value->Shared->Prop} {s:Shared}
theorem lt_tupInts {l b:Addr} {items a:Array Value} {ns d:List Int} {Q:Value->Shared->Prop} (v:IsTup s.heap l items) (hb:IsTup s.heap b a) (hi:IntsAre items.toList ns) (u:IntsAre a.toList d)
  (z:A.units < cLine) (h:Q (.bool (lexLt ns d)) s):wpAny (model prog w) A (compareOp .Lt (.ref l) (.ref b)) Q E s:=by
 obtain ⟨⟨cls,y,data,sl⟩,p,q,n,hd⟩:=id v
 obtain ⟨⟨o,j,i,m⟩,f,c,r,g⟩:=id hb
 simp only at q hd c g
 subst q hd c g
 exact richCompare_meets_room (op:=.Lt) ⟨_,p,rfl⟩ ⟨_,f,rfl⟩ PySem.F.slot_tuple_lt PySem.F.entry_tuple_lt (PySem.F.args_tuple_lt_2 _ _) (ahq l b items a n r y j sl m ns d hi u)
  ⟨p,f,show Value.bool (lexLt ns d) ≠ Value.notImplemented/\Q (.bool (lexLt ns d)) s from ⟨(fun x=>nomatch x),h⟩⟩ z
end
end HT
namespace L2
open PySem PySem.Spec PyProof.Rows
abbrev TO:=St->Hp->(Option Int->Hp->Prop)->Prop
theorem adu {ns:List Int}:∀ {us:List Value},Vals (ns.map V.int) us->IntsAre us ns:=by
 induction ns with
 | nil=>intro us r;rw [List.map_nil] at r;cases r;exact .nil
 | cons n ns ih =>
  intro us r
  rw [ay1] at r
  cases r with
  | cons r1 r2 =>
   obtain ⟨t,e⟩:=r1
   subst e
   exact .cons n t (ih r2)
section
variable {X:Cx} {e:Expr} {te:TE} {lo hi:Option Expr} {tl th:TO} {pos p2:Pos}
def SlR (X:Cx) (r:V->Option Int->Option Int->Hp->VK->Prop):Prop :=
 ∀ (pins:List (Addr × Obj)) (s:Shared) (σ:St) (H:Hp) (x:V) (v vl vu:Value) (lo hi:Option Int) (sl:Addr) (Q:VK),Inv X pins σ H s->RelV x v->s.heap.IsSliceOf sl vl vu .none->IsPart vl lo->IsPart vu hi->r x lo hi H Q ->
  ∃ T id,typeLookup (.type T) "__getitem__" = pure (some (.builtin id))/\s.TypeIs v T/\wpAny (model X.prog X.w) X.A (getItem v (.ref sl)) (EP X pins σ Q) X.xe s
def rLtT (K:Frag):R2:=fun x y H Q=>∃ a b ns ms,x=.ref a/\y=.ref b/\SqT K H a (ns.map V.int)/\SqT K H b (ms.map V.int)/\Q (.bl (HT.lexLt ns ms)) H
theorem atb (n:X.A.units < cLine):OpR X (compareOp .Lt) (rLtT X.K):=by
 intro pins s σ H x y v u Q I l f h
 obtain ⟨a,b,ns,d,rfl,rfl,ha,hb,q⟩:=h
 cases l
 cases f
 obtain ⟨its,i,m,_⟩:=I.tuple ha
 obtain ⟨c,o,p2,_⟩:=I.tuple hb
 have g:IntsAre its.toArray.toList ns:=adu i
 have j:IntsAre c.toArray.toList d:=adu o
 exact HT.lt_tupInts m p2 g j n ⟨.bl (HT.lexLt ns d),H,I,rfl,q⟩
end
def ixN (n:Nat) (i:Int):Option Nat:=if 0<=i then (if i < n then some i.toNat else none) else if -(n:Int)<=i then some (i+n).toNat else none
def atI {α:Type} (xs:List α) (i:Int):Option α:=(ixN xs.length i).bind fun j=>xs[j]?
theorem aqz {n:Nat} {i:Int} {j:Nat} (h:ixN n i=some j):seqIndex? i n=some j/\j < n/\-(n:Int)<=i/\i < n:=by
 unfold ixN at h
 by_cases h0:0<=i
 ·rw [az7 h0] at h
  by_cases h1:i < n
  ·rw [az7 h1] at h
   have e:i.toNat=j:=ax6 h
   exact ⟨by rw [seqIndex_of h0 h1,e],by omega,by omega,h1⟩
  ·rw [az8 h1] at h;cases h
 ·rw [az8 h0] at h
  by_cases h1 : -(n:Int)<=i
  ·rw [az7 h1] at h
   have e:(i+n).toNat=j:=ax6 h
   exact ⟨by rw [seqIndex_neg (by omega) h1,e],by omega,h1,by omega⟩
  ·rw [az8 h1] at h;cases h
theorem agg {α:Type} {xs:List α} {i:Int} {v : α} (h:atI xs i=some v):∃ j,seqIndex? i xs.length=some j/\xs[j]?=some v/\j < xs.length/\-(xs.length:Int)<=i/\i < xs.length:=by
 unfold atI at h
 cases e:ixN xs.length i with
 | none=>rw [e] at h;cases h
 | some j =>
  rw [e] at h
  obtain ⟨a,c,b,d⟩:=aqz e
  exact ⟨j,a,h,c,b,d⟩
theorem agh {α:Type} {xs:List α} {j:Nat} {v : α} (h:xs[j]?=some v):atI xs (j:Int)=some v:=by
 have a:j < xs.length:=(av1.mp h).1
 have e:ixN xs.length (j:Int)=some j:=by
  unfold ixN
  rw [az7 (by omega),az7 (by omega)];simp
 unfold atI;rw [e];exact h
def aq0 (b:Expr):Prop:=∀ o i,subscripted b false o i=operate [o,i] (getItem o i)
def IxR (X:Cx) (r:R2):Prop :=
 ∀ (value slice:Expr) (pins:List (Addr × Obj)) (s:Shared) (σ:St) (H:Hp) (x y:V) (v u:Value) (Q:VK),Inv X pins σ H s->RelV x v->RelV y u->r x y H Q ->
  subscripted slice false v u=operate [v,u] (getItem v u)->wpAny (model X.prog X.w) X.A (subscriptTail value slice v u) (EP X pins σ Q) X.xe s
def MtR (X:Cx) (id:String) (r:V->List V->Hp->VK->Prop):Prop :=
 ∀ (pins:List (Addr × Obj)) (s:Shared) (σ:St) (H:Hp) (x:V) (xs:List V) (v:Value) (us:List Value) (Q:VK),Inv X pins σ H s->RelV x v->Vals xs us->r x xs H Q ->
  wpAny (model X.prog X.w) X.A (call (.builtin id) (v :: us)) (EP X pins σ Q) X.xe s
section
variable {X:Cx} {a b:Expr} {ta tb:TE} {pos:Pos}
theorem IxR.or {r g:R2} (h:IxR X r) (h':IxR X g):IxR X (fun x y H Q=>r x y H Q\/g x y H Q):=by
 intro a b pins s σ H x y v u Q I d c q f
 rcases q with q | q
 ·exact h a b pins s σ H x y v u Q I d c q f
 ·exact h' a b pins s σ H x y v u Q I d c q f
theorem abr {r:R2} (i:IxR X r) (ha:PE X a ta) (hb:PE X b tb) (g:aq0 b):PE X (.Subscript a b pos) (tOp r ta tb):=by
 intro pins s σ H Q I h
 exact Subscript_ (binT ha hb I h fun v u s2 x y H2 d f c q=>i a b pins s2 σ H2 x y v u Q d f c q (g _ _))
def rIxL (K:Frag):R2:=fun x y H Q=>∃ p xs i v,x=.ref p/\y=.int i/\SqL K H p xs/\atI xs i=some v/\Q v H
def rIxT (K:Frag):R2:=fun x y H Q=>∃ p xs i v,x=.ref p/\y=.int i/\SqT K H p xs/\atI xs i=some v/\Q v H
def rIxS:R2:=fun x y H Q=>∃ z i c,x=.str z/\y=.int i/\z.length<=sizeLine/\atI z.cps.toList i=some c/\Q (.str ⟨#[c]⟩) H
theorem ix_list:IxR X (rIxL X.K):=by
 intro d f pins s σ H x y v u Q I E n h m
 obtain ⟨p,xs,i,z,rfl,rfl,G,B,q⟩:=h
 cases E
 obtain ⟨t,rfl⟩:=n
 obtain ⟨its,r,g,L⟩:=I.list G
 obtain ⟨j,a,A,J,F,D⟩:=agg B
 obtain ⟨w,l,c⟩:=r.get A
 have C:=r.length
 have hn:=aec
 have fin:EP X pins σ Q w s:=⟨z,H,I,c,q⟩
 by_cases h0:0<=i
 ·have b:i.toNat=j:=by
   rw [seqIndex_of h0 D] at a
   exact ax6 a
  exact item_listR g.isList h0 (by omega) (by rw [b];simpa using l) fin m
 ·have b:(i+(its.toArray.size:Int)).toNat=j:=by
   rw [seqIndex_neg (by omega) F] at a
   rw [aw2,← C]
   exact ax6 a
  exact subscriptTail_builtinR (x:=w) g.isList.typeIs slot_list_getitem.lookup
   (wpAny_getItem_list_neg (Q:=fun r o=>r=w/\EP X pins σ Q r o) g.isList (by omega) (by rw [aw2] <;> omega) (by omega) (by rw [b];simpa using l) ⟨rfl,fin⟩) m
theorem atc:IxR X (rIxT X.K):=by
 intro b c pins s σ H x y v u Q I A f h D
 obtain ⟨p,xs,i,z,rfl,rfl,C,n,q⟩:=h
 cases A
 obtain ⟨t,rfl⟩:=f
 obtain ⟨its,r,d,F⟩:=I.tuple C
 obtain ⟨j,g,m,E,J,G⟩:=agg n
 obtain ⟨w,B,a⟩:=r.get m
 have o:=r.length
 have hn:=aec
 have fin:EP X pins σ Q w s:=⟨z,H,I,a,q⟩
 exact subscriptTail_builtinR (x:=w) d.typeIs slot_tuple_getitem.lookup
  (getItem_tuple (j:=j) (Q:=fun r l=>r=w/\EP X pins σ Q r l) d (by omega) (by omega) (by rw [aw2,← o];exact g) (by simpa using B) ⟨rfl,fin⟩) D
theorem atd:IxR X rIxS:=by
 intro a b pins s σ H x y v u Q I p f h w
 obtain ⟨z,i,c,rfl,rfl,C,l,q⟩:=h
 obtain ⟨t,rfl⟩:=p
 obtain ⟨t',rfl⟩:=f
 obtain ⟨j,d,g,B,r,o⟩:=agg l
 have n:z.cps.toList.length=z.length:=by simp [Str.length]
 rw [n] at d r o
 have hn:=aec
 exact tail_any (typeIs_str s z t) slot_str_getitem.lookup (getItem_str (c:=c) (by
  have m:decide (i < -(2 ^ 63:Int))=false:=ay5 (by omega)
  have A:decide (i ≥ 2 ^ 63)=false:=ay5 (by omega)
  rw [m,A,Bool.or_false]) (by rw [d];simpa using g) ⟨.str ⟨#[c]⟩,H,I.tok _,⟨_,rfl⟩,q⟩) w
theorem Inv.lst {pins:List (Addr × Obj)} {σ:St} {H:Hp} {s:Shared} {p:Addr} {xs:List V} (I:Inv X pins σ H s) (h:H p=some (.lst xs)) :
  ∃ (its:List Value) (n:Nat),Vals xs its/\s.heap.get? p=some { cls:=.type "list",data:=.seq its.toArray n }/\xs.length<=sizeLine:=by
 obtain ⟨z,its,n,r,e⟩:=I.hok p _ h
 exact ⟨its,n,r,e,z⟩
theorem ais:aa2 X (.builtin "len") (fun xs H Q=>∃ p ys,xs=[.ref p]/\(SqL X.K H p ys\/SqT X.K H p ys)/\Q (.int ys.length) H):=by
 intro pins s σ H xs us Q I r h
 obtain ⟨p,ys,rfl,b,q⟩:=h
 obtain ⟨u,rfl,g⟩:=aby r
 cases g
 have hn:=aec
 rcases b with b | b
 ·obtain ⟨its,c,d,f⟩:=I.list b
  have a:=c.length
  exact Calls.call_len_list d.isList (by simp only [aw2] <;> omega) ⟨.int ys.length,H,I.tok _,⟨s.toks+1,by rw [aw2,a]⟩,q⟩
 ·obtain ⟨its,c,d,f⟩:=I.tuple b
  have a:=c.length
  exact len_tuple d (by simp only [aw2] <;> omega) ⟨.int ys.length,H,I.tok _,⟨s.toks+1,by rw [aw2,a]⟩,q⟩
theorem ait:aa2 X (.builtin "len") (fun xs H Q=>∃ z,xs=[.str z]/\z.length<=sizeLine/\Q (.int z.length) H):=by
 intro pins s σ H xs us Q I r h
 obtain ⟨z,rfl,a,q⟩:=h
 obtain ⟨u,rfl,t,rfl⟩:=aby r
 have hn:=aec
 exact len_str (by omega) ⟨.int z.length,H,I.tok _,⟨_,rfl⟩,q⟩
theorem aiu:aa2 X (.type "list") (fun xs H Q=>∃ p ys,xs=[.ref p]/\(SqL X.K H p ys\/SqT X.K H p ys)/\∀ l,H l=none->Q (.ref l) (upd H l (.lst ys))):=by
 intro pins s σ H xs us Q I r h
 obtain ⟨p,ys,rfl,g,q⟩:=h
 obtain ⟨u,rfl,v⟩:=aby r
 cases v
 have fin:∀ (its:List Value),Vals ys its->ys.length<=sizeLine->∀ (h':Heap) (a:Nat),(∀ b o',s.heap.get? b=some o'->h'.get? b=some o') ->
   h'.get? s.heap.objs.size=some { cls:=.type "list",dict:=none,data:=.seq its.toArray a,slots:=#[] }->EP X pins σ Q (.ref s.heap.objs.size) { s with heap:=h' }:=fun its c f h' a kp e =>
  ⟨.ref s.heap.objs.size,_,I.laid (t':=s.toks) kp (av6 _) (show ObjOk X.prog X.w _ h' _ (.lst ys) from ⟨f,its,a,c,e⟩),rfl,q _ (I.hok.fresh (av6 _))⟩
 rcases g with g | g
 ·obtain ⟨its,c,j,f⟩:=I.list g
  have d:=c.length
  obtain ⟨o,i,m,n,hd⟩:=j.isList
  exact call_list_seq p (.inl rfl) i m hd (fun h' a kp e=>fin its c f h' a kp e) (by simp only [aw2] <;> omega)
 ·obtain ⟨its,c,j,f⟩:=I.tuple g
  have d:=c.length
  obtain ⟨o,i,m,n,hd⟩:=j
  exact call_list_seq p (.inr rfl) i m hd (fun h' a kp e=>fin its c f h' a kp e) (by simp only [aw2] <;> omega)
theorem ahr:aa2 X (.type "tuple") (fun xs H Q=>∃ p ys,xs=[.ref p]/\((SqL X.K H p ys/\∀ l,H l=none->Q (.ref l) (upd H l (.tup ys)))\/(SqT X.K H p ys/\Q (.ref p) H))):=by
 intro pins s σ H xs us Q I r h
 obtain ⟨p,ys,rfl,h⟩:=h
 obtain ⟨u,rfl,m⟩:=aby r
 cases m
 rcases h with ⟨d,q⟩ | ⟨d,q⟩
 ·obtain ⟨its,a,c,g⟩:=I.list d
  have f:=a.length
  refine call_tuple_list c.isList (fun h' kp=>?_) (by simp only [aw2] <;> omega)
  have i:Inv X pins σ H { s with heap:=h' }:=I.kept (t':=s.toks) kp
  have j:Inv X pins σ (upd H h'.objs.size (.tup ys)) { s with heap:=h'.push { cls:=.type "tuple",data:=.seq its.toArray } } :=
   i.laid (t':=s.toks) (fun b o e=>aC5 _ e) (av6 _) (show ObjOk X.prog X.w _ _ _ (.tup ys) from ⟨g,its,a,IsTup.new _ _⟩)
  exact ⟨.ref h'.objs.size,_,j,rfl,q _ (i.hok.fresh (av6 _))⟩
 ·obtain ⟨its,a,c,g⟩:=I.tuple d
  exact call_tuple_same c ⟨.ref p,H,I,rfl,q⟩
def tyV (K:Frag) (T:String) (x:V) (H:Hp):Prop:=match x with
 | .str _=>T = "str"
 | .int _=>T = "int"
 | .ref p=>(T = "list"/\∃ xs,SqL K H p xs)\/(T = "tuple"/\∃ o,K.lookup p=some o/\o.cls=.type "tuple"/\o.dict=none) ∨
   (T = "dict"/\((∃ kvs,H p=some (.dK kvs))\/∃ kvs,H p=some (.dT kvs)))\/(T = "set"/\∃ S n,H p=some (.set S n))
 | _=>False
theorem ate {pins:List (Addr × Obj)} {σ:St} {H:Hp} {s:Shared} {T:String} {x:V} {v:Value} (I:Inv X pins σ H s) (r:RelV x v) (ty:tyV X.K T x H) :
  s.TypeIs v T/\∀ a,v=.ref a->∃ f,s.heap.get? a=some f/\f.dict=none:=by
 cases x with
 | str z =>
  obtain ⟨t,rfl⟩:=r
  cases (show T = "str" from ty)
  exact ⟨typeIs_str s z t,fun _ e=>nomatch e⟩
 | int i =>
  obtain ⟨t,rfl⟩:=r
  cases (show T = "int" from ty)
  exact ⟨typeIs_int s i t,fun _ e=>nomatch e⟩
 | ref p =>
  cases r
  rcases ty with ⟨rfl,xs,j⟩ | ⟨rfl,o,b,h,hd⟩ | ⟨rfl,b⟩ | ⟨rfl,S,n,b⟩
  ·obtain ⟨its,_,g,_⟩:=I.list j
   refine ⟨g.isList.typeIs,fun a e=>?_⟩
   cases e
   obtain ⟨o,n,e,c,hd,_⟩:=g
   exact ⟨o,e,hd⟩
  ·refine ⟨⟨o,I.kIn p o b,h⟩,fun a e=>?_⟩
   cases e
   exact ⟨o,I.kIn _ o b,hd⟩
  ·have z:∃ o,s.heap.get? p=some o/\o.ExactDict:=by
    rcases b with ⟨kvs,b⟩ | ⟨kvs,b⟩
    ·obtain ⟨_,_,_,_,o,_,_,e,ex,_⟩:=I.hok p _ b
     exact ⟨o,e,ex⟩
    ·obtain ⟨_,_,_,_,o,_,_,e,ex,_⟩:=I.hok p _ b
     exact ⟨o,e,ex⟩
   obtain ⟨o,e,ex⟩:=z
   refine ⟨⟨o,e,ex.1⟩,fun a d=>?_⟩
   cases d
   exact ⟨o,e,ex.2.1⟩
  ·obtain ⟨o,_,_,_,e,ex,_⟩:=I.hok p _ b
   refine ⟨⟨o,e,ex.1⟩,fun a d=>?_⟩
   cases d
   exact ⟨o,e,ex.2.1⟩
 | _=>exact False.elim ty
def tBM (K:Frag) (T:String) (r:V->List V->Hp->VK->Prop) (to:TE) (t:TA):TE:=fun σ H Q=>to σ H fun x H1=>tyV K T x H1/\t σ H1 fun xs H2=>r x xs H2 Q
variable {o e:Expr} {es:List Expr} {to:TE} {t:TA} {name:Str} {apos cpos:Pos} {T id:String} {r:V->List V->Hp->VK->Prop}
theorem aex (p:PlainAttrs T) (slot:Slot T name id) (g:typeOf (.builtin id)=pure (.type "method_descriptor")) (hm:MtR X id r) (y:PE X o to) (ha:PA X (e :: es) t)
  (d:attributeBase o name X.env (eval o X.env)=eval o X.env:=by rfl)
  (f:((backTo cpos (starEach (e :: es) X.env)).all (fun x => !x.1) && (backToKw cpos (keywordEach [] X.env)).all (fun x=>x.1.isSome)
   && decide ((e :: es).length+([]:List Keyword).length+(if ([]:List Keyword).isEmpty then 0 else 1) < 30))=true:=by rfl)
  (c:(apos.endLine == cpos.line)=true:=by rfl) (A:starEach (e :: es) X.env=(false,eval e X.env) :: starEach es X.env:=by rfl) (b:(backTo cpos (starEach es X.env)).any (·.1)=false:=by rfl) :
  PE X (.Call (.Attribute o name apos) (e :: es) [] cpos) (tBM X.K T r to t):=by
 intro pins s σ H Q I h
 refine wpAny_Call_method_late d f c rfl (thn (y pins s σ H _ I h) fun v s1 ⟨x,z,j,i,ty,w⟩=>?_)
 obtain ⟨n,q⟩:=ate j i ty
 refine ⟨T,id,p,slot,g,n,q,?_⟩
 have l:=ha cpos pins s1 σ z _ j w
 rw [A] at l ⊢
 refine Calls.callWith_builtin (by show (false || (backTo cpos (starEach es X.env)).any (·.1))=false;rw [b] <;> rfl) (Calls.evalArgs_plain ?_)
 exact thn l fun us s2 ⟨vs,H2,m,B,u⟩=>hm pins s2 σ H2 x vs v us Q m i B u
/- xs.append(e), list.index on a module's tuple .. are MtR facts of 06m -/
end
def MtM (X:Cx) (id:String) (r:V->List V->Hp->VK->Prop):Prop :=
 ∀ (pins:List (Addr × Obj)) (s:Shared) (σ:St) (H:Hp) (x:V) (xs:List V) (v:Value) (us:List Value) (Q:VK),Inv X pins σ H s->RelV x v->Vals xs us->r x xs H Q ->
  wpAny (model X.prog X.w) X.A (call (.builtin id) (v :: us)) (EP X pins σ Q) X.xe s
theorem Vals.one:∀ {x:V} {us:List Value},Vals [x] us->∃ u,us=[u]/\RelV x u
 | _,_,.cons r .nil=>⟨_,rfl,r⟩
theorem Vals.eraseIdx:∀ {xs:List V} {us:List Value} (i:Nat),Vals xs us->Vals (xs.eraseIdx i) (us.eraseIdx i)
 | _,_,_,.nil => .nil
 | _,_,0,.cons _ t=>t
 | _,_,i+1,.cons r t => .cons r (Vals.eraseIdx i t)
section
variable {X:Cx} {pins:List (Addr × Obj)} {σ:St} {H:Hp} {s:Shared} {l b:Addr} {xs ys zs:List V}
theorem Inv.lset {its its':List Value} {n:Nat} {f:Array Value->Array Value} {t':Nat} (I:Inv X pins σ H s) (a:H l=some (.lst xs))
  (e:s.heap.get? l=some { cls:=.type "list",data:=.seq its.toArray n }) (hf:f its.toArray=its'.toArray) (d:Vals ys its') (b:ys.length<=sizeLine) :
  Inv X pins σ (upd H l (.lst ys)) { s with heap:=s.heap.update l (Obj.mapSeq f),toks:=t' }:=by
 have q:=PySem.IsL.update e f
 rw [hf] at q
 refine I.write (x:=l) (e:=l) (by rw [a];exact trivial) (.inl rfl) (fun g u hb c=>(Heap.get?_update_other s.heap (Obj.mapSeq f) (Ne.symm hb)).trans c) ⟨_,q⟩ ?_
 exact ⟨b,its',_,d,q⟩
theorem Inv.lnew {its:List Value} {t':Nat} (I:Inv X pins σ H s) (b:Vals ys its) (a:ys.length<=sizeLine) :
  Inv X pins σ (upd H s.heap.objs.size (.lst ys)) { s with heap:=s.heap.push { cls:=.type "list",data:=.seq its.toArray },toks:=t' } :=
 I.laid (fun _ _ q=>aC5 _ q) (av6 _) ⟨a,its,0,b,aC7 _ rfl⟩
theorem Inv.fresh (I:Inv X pins σ H s):H s.heap.objs.size=none:=I.hok.fresh (av6 _)
theorem Inv.lstM (I:Inv X pins σ H s) (a:H l=some (.lst xs)):xs.length<=sizeLine/\∃ (its:List Value) (n:Nat),Vals xs its/\xs.length=its.length/\s.heap.get? l=some { cls:=.type "list",data:=.seq its.toArray n }:=by
 obtain ⟨z,its,n,r,e⟩:=I.hok l _ a
 exact ⟨z,its,n,r,r.length,e⟩
theorem aol {n:Nat} (h:n<=sizeLine):Builtin.List.listTooLong n=false:=by
 unfold Builtin.List.listTooLong
 exact ay5 (by omega)
end
section
variable {X:Cx}
def agi:V->List V->Hp->VK->Prop:=fun x vs H Q=>∃ l xs y,x=.ref l/\vs=[y]/\H l=some (.lst xs)/\xs.length < sizeLine/\Q .non (upd H l (.lst (xs ++ [y])))
theorem ag9:MtM X "list.append" agi:=by
 intro pins s σ H x vs v us Q I c b h
 obtain ⟨l,xs,y,rfl,rfl,a,f,q⟩:=h
 cases c
 obtain ⟨u,rfl,d⟩:=b.one
 obtain ⟨z,its,n,r,g,e⟩:=I.lstM a
 refine call_meets F.slot_list_append ⟨_,e,rfl⟩ F.entry_list_append (F.args_list_append_2 _ _) (PySem.list_append l its.toArray n u (by rw [aw2];omega)) ⟨e,?_⟩
 refine ⟨.non,_,I.lset (its':=its ++ [u]) a e (by simp) (r.append (.cons d .nil)) ?_,rfl,q⟩
 rw [aw1,List.length_singleton]
 omega
def agj:V->List V->Hp->VK->Prop:=fun x vs H Q=>∃ l b xs zs,x=.ref l/\vs=[.ref b]/\H l=some (.lst xs)/\H b=some (.lst zs)/\xs.length+zs.length<=sizeLine/\Q .non (upd H l (.lst (xs ++ zs)))
theorem am5:MtM X "list.extend" agj:=by
 intro pins s σ H x vs v us Q I i g h
 obtain ⟨l,b,xs,y,rfl,rfl,d,p,A,q⟩:=h
 cases i
 obtain ⟨u,rfl,j⟩:=g.one
 cases j
 obtain ⟨z,its,n,r,B,e⟩:=I.lstM d
 obtain ⟨C,a,f,w,m,o⟩:=I.lstM p
 have hsz:its.toArray.size+a.toArray.size<=sizeLine:=by rw [aw2,aw2];omega
 have c:¬ (!its.toArray.isEmpty && Builtin.List.listTooLong (its.toArray.size+a.toArray.size))=true:=by
  rw [aol hsz,Bool.and_false]
  exact aw0
 refine call_meets F.slot_list_extend ⟨_,e,rfl⟩ F.entry_list_extend (F.args_list_extend_2 _ _)
  (AutoSeq1.list_extend_list_list_0 l its.toArray n b a.toArray f c (by rw [aw2];omega) (by omega)) ⟨e,o,?_⟩
 refine ⟨.non,_,I.lset (its':=its ++ a) d e (by simp) (r.append w) ?_,rfl,q⟩
 rw [aw1]
 omega
def rCat:R2:=fun x y H Q=>∃ l b xs zs,x=.ref l/\y=.ref b/\H l=some (.lst xs)/\H b=some (.lst zs)/\xs.length+zs.length<=sizeLine/\∀ p,H p=none->Q (.ref p) (upd H p (.lst (xs ++ zs)))
theorem am6:OpR X (binaryOp .Add) rCat:=by
 intro pins s σ H x y v u Q I g c h
 obtain ⟨l,b,xs,p,rfl,rfl,d,m,A,q⟩:=h
 cases g
 cases c
 obtain ⟨z,its,n,r,B,e⟩:=I.lstM d
 obtain ⟨C,a,w,o,i,j⟩:=I.lstM m
 refine PySem.P.add_list e j ?_ (by rw [aw2,aw2];omega)
 have f:its.toArray ++ a.toArray=(its ++ a).toArray:=by simp
 rw [f]
 exact ⟨.ref _,_,I.lnew (t':=s.toks) (r.append o) (by rw [aw1];omega),rfl,q _ I.fresh⟩
end
section
variable {prog:Program} {w:World} {A:Around} {E:Value->Shared->Prop} {s:Shared}
end
section
variable {X:Cx}
end
section
variable {κ:Type} [DecidableEq κ]
def valV (kvs:List (κ × V)) (k : κ):Option V:=(kvs.find? fun kv=>decide (kv.1=k)).map (·.2)
def putK (kvs:List (κ × V)) (k : κ) (v:V):List (κ × V) :=
 if (kvs.any fun kv=>decide (kv.1=k))=true then kvs.map (fun kv=>if kv.1=k then (kv.1,v) else kv) else kvs ++ [(k,v)]
def aqi (kvs:List (κ × V)) (k : κ):List (κ × V):=kvs.filter fun kv=>decide (kv.1 ≠ k)
theorem afc {p : κ × V} {r:List (κ × V)} {k : κ} (e:p.1=k):valV (p :: r) k=some p.2:=by simp [valV,List.find?_cons,e]
theorem afd {p : κ × V} {r:List (κ × V)} {k : κ} (e:¬ p.1=k):valV (p :: r) k=valV r k:=by simp [valV,List.find?_cons,e]
theorem aiv (k : κ):∀ kvs:List (κ × V),(kvs.any fun a=>decide (a.1=k))=(valV kvs k).isSome
 | []=>rfl
 | p :: r=>by
  rw [List.any_cons]
  by_cases e:p.1=k
  ·simp only [afc e,ay6 e,Bool.true_or,Option.isSome_some]
  ·rw [afd e,ay5 e,Bool.false_or];exact aiv k r
theorem afa (kvs:List (κ × V)) (k : κ) (v:V):(putK kvs k v).length<=kvs.length+1:=by
 unfold putK
 split
 ·rw [av3];omega
 ·rw [aw1,az0,aC2];omega
theorem RelO.isSome_eq {o:Option V} {u:Option Value} (r:RelO o u):o.isSome=u.isSome:=by
 cases o with
 | none=>cases u with
  | none=>rfl
  | some _=>exact (show False from r).elim
 | some _=>cases u with
  | none=>exact (show False from r).elim
  | some _=>rfl
theorem RelO.getD {o:Option V} {u:Option Value} {d:V} {d':Value} (r:RelO o u) (a:RelV d d'):RelV (o.getD d) (u.getD d'):=by
 cases o with
 | none=>cases u with
  | none=>exact a
  | some _=>exact (show False from r).elim
 | some _=>cases u with
  | none=>exact (show False from r).elim
  | some _=>exact r
theorem KV.val {kvs:List (κ × V)} {vs:List (κ × Value)} (r:KV kvs vs) (k : κ):RelO (valV kvs k) (valueAt vs k):=by
 unfold KV at r
 induction r with
 | nil=>exact True.intro
 | @cons p q ps qs h t ih =>
  obtain ⟨c,d⟩:=h
  by_cases e:p.1=k
  ·have a:q.1=k:=c.symm.trans e
   have b:valueAt (q :: qs) k=some q.2:=by simp [valueAt,List.find?_cons,a]
   rw [afc e,b];exact d
  ·have a:¬ q.1=k:=fun z=>e (c.trans z)
   have b:valueAt (q :: qs) k=valueAt qs k:=by simp [valueAt,List.find?_cons,a]
   rw [afd e,b];exact ih
theorem KV.any {kvs:List (κ × V)} {vs:List (κ × Value)} (r:KV kvs vs) (k : κ):(kvs.any fun a=>decide (a.1=k))=vs.any fun a=>decide (a.1=k):=by
 unfold KV at r
 induction r with
 | nil=>rfl
 | cons h t ih=>rw [List.any_cons,List.any_cons,ih,h.1]
theorem KV.repl {kvs:List (κ × V)} {vs:List (κ × Value)} (r:KV kvs vs) (k : κ) {y:V} {u:Value} (c:RelV y u) :
  KV (kvs.map fun a=>if a.1=k then (a.1,y) else a) (vs.map fun a=>if a.1=k then (a.1,u) else a):=by
 unfold KV at r ⊢
 induction r with
 | nil=>exact .nil
 | @cons p q ps qs h t ih =>
  rw [ay1,ay1]
  refine .cons ?_ ih
  obtain ⟨b,d⟩:=h
  by_cases e:p.1=k
  ·rw [az7 e,az7 (b.symm.trans e)];exact ⟨b,c⟩
  ·rw [az8 e,az8 (fun z=>e (b.trans z))];exact ⟨b,d⟩
theorem KV.put {kvs:List (κ × V)} {vs:List (κ × Value)} (r:KV kvs vs) (k : κ) {y:V} {u:Value} (a:RelV y u):KV (putK kvs k y) (stored vs k u):=by
 unfold putK stored
 rw [r.any k]
 by_cases e:(vs.any fun b=>decide (b.1=k))=true
 ·rw [az7 e,az7 e];exact r.repl k a
 ·rw [az8 e,az8 e];exact Paired.snoc r ⟨rfl,a⟩
theorem KV.drop {kvs:List (κ × V)} {vs:List (κ × Value)} (r:KV kvs vs) (k : κ):KV (aqi kvs k) (without vs k):=by
 unfold KV at r ⊢
 unfold aqi without
 induction r with
 | nil=>exact .nil
 | @cons p q ps qs h t ih =>
  obtain ⟨c,d⟩:=h
  rw [List.filter_cons,List.filter_cons]
  by_cases e:p.1=k
  ·have a:¬ decide (p.1 ≠ k)=true:=by simp [e]
   have b:¬ decide (q.1 ≠ k)=true:=by simp [c.symm.trans e]
   rw [az8 a,az8 b];exact ih
  ·have f:¬ q.1=k:=fun z=>e (c.trans z)
   have a:decide (p.1 ≠ k)=true:=by simp [e]
   have b:decide (q.1 ≠ k)=true:=by simp [f]
   rw [az7 a,az7 b];exact .cons ⟨c,d⟩ ih
theorem KV.length {kvs:List (κ × V)} {vs:List (κ × Value)} (r:KV kvs vs):kvs.length=vs.length:=Paired.length r
end
theorem alt {P:Program} {w:World} {k:Key} {u:Value} (r:RelV (kV k) u):(aa4 P w).is k u=true:=by
 cases k with
 | inl i=>obtain ⟨t,e⟩:=(show ∃ t,u=Value.int i t from r);subst e;exact aka P w i t
 | inr x=>obtain ⟨t,e⟩:=(show ∃ t,u=Value.str x t from r);subst e;exact akb P w x t
theorem aha {P:Program} {w:World}:∀ {a:List Key} {us:List Value},Vals (a.map kV) us->ItemsAre (aa4 P w) a us
 | [],_,r=>by rw [List.map_nil] at r;cases r;exact .nil
 | k :: a,_,r=>by
  rw [ay1] at r
  cases r with
  | cons h t=>exact .cons (alt h) (aha t)
abbrev KT (H:Hp):List (List Key × V)->List (List Key × Addr × Value)->Prop:=Paired fun p q=>p.1=q.1/\H q.2.1=some (.tup (p.1.map kV))/\RelV p.2 q.2.2
theorem KT.val {H:Hp} {kvs:List (List Key × V)} {xs:List (List Key × Addr × Value)} (r:KT H kvs xs) (k:List Key):RelO (valV kvs k) ((atKey xs k).map (·.2)):=by
 induction r with
 | nil=>exact True.intro
 | @cons p q ps qs h t ih =>
  obtain ⟨c,_,d⟩:=h
  by_cases e:p.1=k
  ·have a:q.1=k:=c.symm.trans e
   have b:atKey (q :: qs) k=some q.2:=by simp [atKey,List.find?_cons,a]
   rw [afc e,b];exact d
  ·have a:¬ q.1=k:=fun z=>e (c.trans z)
   have b:atKey (q :: qs) k=atKey qs k:=by simp [atKey,List.find?_cons,a]
   rw [afd e,b];exact ih
theorem KT.repl {H:Hp} {kvs:List (List Key × V)} {xs:List (List Key × Addr × Value)} (r:KT H kvs xs) (k:List Key) {y:V} {u:Value} (d:RelV y u) :
  KT H (kvs.map fun b=>if b.1=k then (b.1,y) else b) (xs.map (putAt k u)):=by
 induction r with
 | nil=>exact .nil
 | @cons p q ps qs h t ih =>
  rw [ay1,ay1]
  refine .cons ?_ ih
  obtain ⟨a,c,f⟩:=h
  unfold putAt
  by_cases e:p.1=k
  ·rw [az7 e,az7 (a.symm.trans e)];exact ⟨a,c,d⟩
  ·rw [az8 e,az8 (fun z=>e (a.trans z))];exact ⟨a,c,f⟩
theorem KT.put {H:Hp} {kvs:List (List Key × V)} {xs:List (List Key × Addr × Value)} (r:KT H kvs xs) (k:List Key) {b:Addr} {y:V} {u:Value} (hb:H b=some (.tup (k.map kV))) (a:RelV y u) :
  KT H (putK kvs k y) (storedH xs k b u):=by
 have e:(kvs.any fun c=>decide (c.1=k))=(atKey xs k).isSome:=by
  rw [aiv,(r.val k).isSome_eq,Option.isSome_map]
 unfold putK storedH
 rw [e]
 by_cases q:(atKey xs k).isSome=true
 ·rw [az7 q,az7 q];exact r.repl k a
 ·rw [az8 q,az8 q];exact Paired.snoc r ⟨rfl,hb,a⟩
theorem KT.keeps {H H':Hp} {kvs:List (List Key × V)} {xs:List (List Key × Addr × Value)} (r:KT H kvs xs) (a:∀ b ys,H b=some (.tup ys)->H' b=some (.tup ys)):KT H' kvs xs :=
 Paired.mapP r fun _ _ z=>⟨z.1,a _ _ z.2.1,z.2.2⟩
section
variable {P:Program} {w:World} {H:Hp} {h:Heap} {a:Addr}
theorem aqj {u:HO} (ok:HOk P w H h) (e:Rd H a u):ObjOk P w H h a u:=e.ok ok
theorem alu {kvs:List (Key × V)} (ok:HOk P w H h) (e:Rd H a (.dK kvs)):kvs.length<=sizeLine/\(a == sysModules)=false/\∃ vs,KV kvs vs/\h.DictOf (aa4 P w) a vs :=
 show ObjOk P w H h a (.dK kvs) from aqj ok e
theorem aux {kvs:List (Key × V)} (ok:HOk P w H h) (e:H a=some (.dK kvs)):kvs.length<=sizeLine/\(a == sysModules)=false/\∃ vs,KV kvs vs/\h.DictOf (aa4 P w) a vs:=alu ok (.inl e)
theorem afs {b:List Key} (ok:HOk P w H h) (e:H a=some (.tup (b.map kV))):(tupleKind (aa4 P w)).is h b a:=by
 obtain ⟨_,its,r,o,c,f,n,d⟩:=(show ObjOk P w H h a (.tup (b.map kV)) from ok a _ e)
 exact ⟨o,its.toArray,n,c,f,d,by simpa using aha r⟩
theorem alv {kvs:List (List Key × V)} (ok:HOk P w H h) (e:Rd H a (.dT kvs)):kvs.length<=sizeLine/\(a == sysModules)=false /\
  ∃ xs,KT H kvs xs/\h.DictOfH (tupleKind (aa4 P w)) a xs:=by
 obtain ⟨z,y,xs,r,o,es,g,c,f,d,j,i⟩:=(show ObjOk P w H h a (.dT kvs) from aqj ok e)
 refine ⟨z,y,xs,r,o,es,g,c,f,d,j,fun x b=>?_,i⟩
 have all:∀ {l:List (List Key × V)} {m:List (List Key × Addr × Value)},KT H l m->∀ x∈m,(tupleKind (aa4 P w)).is h x.1 x.2.1:=by
  intro l m q
  induction q with
  | nil=>intro x b;exact nomatch b
  | @cons p q ps qs hq t ih =>
   intro x b
   rcases av9.mp b with e | b
   ·subst e
    exact afs ok (by rw [← hq.1];exact hq.2.1)
   ·exact ih x b
 exact all r x b
theorem auy {kvs:List (List Key × V)} (ok:HOk P w H h) (e:H a=some (.dT kvs)):kvs.length<=sizeLine/\(a == sysModules)=false /\
  ∃ xs,KT H kvs xs/\h.DictOfH (tupleKind (aa4 P w)) a xs:=alv ok (.inl e)
end
def DGet (H:Hp) (a:Addr) (y:V) (r:Option V):Prop :=
 (∃ kvs k,Rd H a (.dK kvs)/\y=kV k/\r=valV kvs k)\/∃ kvs k b,Rd H a (.dT kvs)/\y=.ref b/\H b=some (.tup (k.map kV))/\r=valV kvs k
def DPut (H:Hp) (a:Addr) (y v:V) (H':Hp):Prop :=
 (∃ kvs k,H a=some (.dK kvs)/\y=kV k/\kvs.length < sizeLine/\H'=upd H a (.dK (putK kvs k v))) ∨
 ∃ kvs k b,H a=some (.dT kvs)/\y=.ref b/\H b=some (.tup (k.map kV))/\kvs.length < sizeLine/\H'=upd H a (.dT (putK kvs k v))
theorem DGet.k {H:Hp} {a:Addr} {kvs:List (Key × V)} {k:Key} (e:H a=some (.dK kvs)):DGet H a (kV k) (valV kvs k):=.inl ⟨kvs,k,.inl e,rfl,rfl⟩
theorem DGet.t {H:Hp} {a b:Addr} {kvs:List (List Key × V)} {k:List Key} (e:H a=some (.dT kvs)) (c:H b=some (.tup (k.map kV))):DGet H a (.ref b) (valV kvs k):=.inr ⟨kvs,k,b,.inl e,rfl,c,rfl⟩
theorem DPut.k {H:Hp} {a:Addr} {kvs:List (Key × V)} {k:Key} {v:V} (e:H a=some (.dK kvs)) (b:kvs.length < sizeLine):DPut H a (kV k) v (upd H a (.dK (putK kvs k v))):=.inl ⟨kvs,k,e,rfl,b,rfl⟩
theorem DPut.t {H:Hp} {a b:Addr} {kvs:List (List Key × V)} {k:List Key} {v:V} (e:H a=some (.dT kvs)) (c:H b=some (.tup (k.map kV))) (d:kvs.length < sizeLine) :
  DPut H a (.ref b) v (upd H a (.dT (putK kvs k v))):=.inr ⟨kvs,k,b,e,rfl,c,d,rfl⟩
section
variable {X:Cx} {pins:List (Addr × Obj)} {σ:St} {H:Hp} {s:Shared} {a:Addr} {y v:V} {u r:Value} {o:Option V} {A:Around} {E:Value->Shared->Prop}
theorem Inv.big (I:Inv X pins σ H s):sysModules < s.heap.objs.size:=by
 have h:mainGlobals < s.heap.objs.size:=(I.mod.glob.keeps I.bk).lt
 exact Nat.lt_trans (by decide) h
theorem akv {h':Heap} {t':Nat} {c:HO} (I:Inv X pins σ H s) (f:Mut (H a)) (d:Heap.SameBut a s.heap h') (g:∃ q,h'.get? a=some q) (new:ObjOk X.prog X.w (upd H a c) h' a c) :
  Inv X pins σ (upd H a c) { s with heap:=h',toks:=t' } :=
 I.write (x:=a) (e:=a) f (.inl rfl) (fun b q hb z=>(d.2 b hb).trans z) g new
theorem atf {P:Program} {w:World} {H':Hp} {h':Heap} {kvs:List (Key × V)} {vs:List (Key × Value)} (z:kvs.length<=sizeLine) (hd:(a == sysModules)=false) (b:KV kvs vs) (c:h'.DictOf (aa4 P w) a vs) :
  ObjOk P w H' h' a (.dK kvs):=⟨z,hd,vs,b,c⟩
theorem am7 {H':Hp} {Q:Unit->Shared->Prop} (P:A.units+1 < cLine) (I:Inv X pins σ H s) (g:DPut H a y v H') (B:RelV y u) (G:RelV v r) (h:∀ D,Inv X pins σ H' D->Q () D) :
  wpAny (model X.prog X.w) A (setItem (.ref a) u r) Q E s:=by
 rcases g with ⟨kvs,k,e,j,l,p⟩ | ⟨kvs,k,b,e,j,C,l,p⟩
 ·subst j p
  obtain ⟨z,hd,vs,d,o⟩:=aux I.hok e
  have m:vs.length<=sizeLine:=by rw [← d.length];exact z
  have n:(putK kvs k v).length<=sizeLine:=by have:=afa kvs k v;omega
  refine wpAny_setItem_pairs (hsz:=m) (alt B) o fun h' f x=>h _ ?_
  have L:∃ q,h'.get? a=some q:=let ⟨q,_,_,i,_⟩:=f;⟨q,i⟩
  exact akv I (by rw [e];exact True.intro) x L (atf n hd (d.put k G) f)
 ·subst j p
  cases (show u=Value.ref b from B)
  obtain ⟨z,hd,xs,d,o⟩:=auy I.hok e
  have m:xs.length<=sizeLine:=by rw [← Paired.length d];exact z
  have n:(putK kvs k v).length<=sizeLine:=by have:=afa kvs k v;omega
  refine wpAny_setItem_heap (hsz:=m) (tupleKind_room_in1 P) (afs I.hok C) o fun h' f x=>h _ ?_
  obtain ⟨q,es,M,i,K,J,O,_,N⟩:=f
  refine akv I (by rw [e];exact True.intro) x ⟨q,i⟩ ⟨n,hd,_,(d.put k C G).keeps fun c ys F=>?_,q,es,M,i,K,J,O,N⟩
  rw [aac (ap9 F e (fun z=>nomatch z))]
  exact F
end
section
variable {X:Cx} {pins:List (Addr × Obj)} {σ:St} {H:Hp} {s:Shared} {a:Addr} {kvs:List (Key × V)} {k:Key} {u:Value} {A:Around} {E:Value->Shared->Prop}
end
def aft (td ty tv:TE):TS:=fun D σ H=>tv σ H fun v H1=>td σ H1 fun x H2=>ty σ H2 fun y H3=>∃ a H4,x=.ref a/\DPut H3 a y v H4/\D.nx σ H4
section
variable {X:Cx} {o i e value:Expr} {pos pos' tpos:Pos} {td ty tv:TE}
theorem aey (F:X.A.units+1 < cLine) (w:PE X o td) (hi:PE X i ty) (p:PE X value tv) (E:swapsWith value (some (.Subscript o i pos')) pos.line X.env=pure false) :
  PS X (.Assign [.Subscript o i pos'] value pos) (aft td ty tv):=by
 intro pins s σ H D I h
 refine wpAny_Assign_Subscript (thn (p pins s σ H _ I h) fun r s1 ⟨v,C,m,q,n⟩=>thn (w pins s1 σ C _ m n) fun u s2 ⟨x,H2,c,z,d⟩=>thn (hi pins s2 σ H2 _ c d) fun J G ⟨y,H3,B,b,a,l,ex,g,f⟩=>?_) E
 subst ex
 obtain rfl:u=Value.ref a:=z
 exact am7 F B g b q fun K j=>⟨σ,l,j,f⟩
end
theorem aom {P:Program} {w:World} {H:Hp} (h:Heap) (hb:sysModules < h.objs.size):ObjOk P w H (h.push { cls:=.type "dict",data:=.dict #[] }) h.objs.size (.dK []) :=
 ⟨aA1 _,beq_eq_false_iff_ne.mpr (Ne.symm (aw6 hb)),[],.nil,Heap.DictOf.new h⟩
theorem aon {P:Program} {w:World} {H:Hp} (h:Heap) (hb:sysModules < h.objs.size):ObjOk P w H (h.push { cls:=.type "dict",data:=.dict #[] }) h.objs.size (.dT []) :=
 ⟨aA1 _,beq_eq_false_iff_ne.mpr (Ne.symm (aw6 hb)),[],.nil,_,#[],0,aC7 _ rfl,⟨rfl,rfl,rfl⟩,rfl,rfl,List.nodup_nil⟩
def am8:TE:=fun _ H Q=>∀ p,H p=none->Q (.ref p) (upd H p (.dK []))
def am9:TE:=fun _ H Q=>∀ p,H p=none->Q (.ref p) (upd H p (.dT []))
section
variable {X:Cx} {pos:Pos}
theorem aoo:PE X (.Dict [] [] pos) am8:=fun pins s σ H Q I h =>
 wpAny_Dict_empty ⟨.ref s.heap.objs.size,_,I.laid (a:=s.heap.objs.size) (o:=.dK []) (t':=s.toks) (fun _ _ q=>aC5 _ q) (av6 _) (aom s.heap I.big),rfl,h _ (I.hok.fresh (av6 _))⟩
theorem aop:PE X (.Dict [] [] pos) am9:=fun pins s σ H Q I h =>
 wpAny_Dict_empty ⟨.ref s.heap.objs.size,_,I.laid (a:=s.heap.objs.size) (o:=.dT []) (t':=s.toks) (fun _ _ q=>aC5 _ q) (av6 _) (aon s.heap I.big),rfl,h _ (I.hok.fresh (av6 _))⟩
end
structure M2 (X:Cx) (o:Expr) (m:Str) (apos:Pos) (e f:Expr) (cpos:Pos):Prop where
 base:attributeBase o m X.env (eval o X.env)=eval o X.env
 few:((backTo cpos (starEach [e,f] X.env)).all (fun x => !x.1) && (backToKw cpos (keywordEach [] X.env)).all (fun x=>x.1.isSome)
  && decide (([e,f]:List Expr).length+([]:List Keyword).length+(if ([]:List Keyword).isEmpty then 0 else 1) < 30))=true
 line:(apos.endLine == cpos.line)=true
 trees:backTo cpos (starEach [e,f] X.env)=[(false,eval e X.env),(false,eval f X.env)]
def IsD (H:Hp) (a:Addr):Prop:=(∃ kvs,Rd H a (.dK kvs))\/∃ kvs,Rd H a (.dT kvs)
theorem atg {X:Cx} {pins:List (Addr × Obj)} {σ:St} {H:Hp} {s:Shared} {a:Addr} (I:Inv X pins σ H s) (d:IsD H a) :
  s.TypeIs (.ref a) "dict"/\(∀ b,Value.ref a=.ref b->∃ c,s.heap.get? b=some c/\c.dict=none)/\(a == sysModules)=false:=by
 rcases d with ⟨kvs,e⟩ | ⟨kvs,e⟩
 ·obtain ⟨_,hd,vs,_,f⟩:=alu I.hok e
  refine ⟨f.typeIs,fun b q=>?_,hd⟩
  cases q
  obtain ⟨c,_,_,g,h,_⟩:=f
  exact ⟨c,g,h.2.1⟩
 ·obtain ⟨_,hd,xs,_,f⟩:=alv I.hok e
  refine ⟨f.typeIs,fun b q=>?_,hd⟩
  cases q
  obtain ⟨c,_,_,g,h,_⟩:=f
  exact ⟨c,g,h.2.1⟩
section
variable {X:Cx} {pins:List (Addr × Obj)} {σ:St} {H:Hp} {s:Shared} {a:Addr} {y d:V} {u r:Value} {o:Option V} {A:Around} {E:Value->Shared->Prop}
theorem ath {Q:Value->Shared->Prop} (v:A.units+1 < cLine) (I:Inv X pins σ H s) (g:DGet H a y o) (j:RelV y u) (n:RelV d r) (h:∀ p m,Inv X pins σ H m->RelV (o.getD d) p->Q p m) :
  wpAny (model X.prog X.w) A (call (.builtin "dict.get") [.ref a,u,r]) Q E s:=by
 rcases g with ⟨kvs,k,e,i,l⟩ | ⟨kvs,k,b,e,i,q,l⟩
 ·subst i
  obtain ⟨z,hd,vs,c,f⟩:=alu I.hok e
  refine call_meetsIn PySem.F.slot_dict_get f.typeIs PySem.F.entry_dict_get (PySem.F.args_dict_get_3 _ _ _) (meets_dict_get_default (aa4 X.prog X.w) a (alt j) hd r) ⟨_,f.mapOf,h _ _ (I.tok _) ?_⟩
  rw [l]
  exact (c.val k).getD n
 ·subst i
  cases (show u=Value.ref b from j)
  obtain ⟨z,hd,xs,c,f⟩:=alv I.hok e
  refine call_meetsIn PySem.F.slot_dict_get f.typeIs PySem.F.entry_dict_get (PySem.F.args_dict_get_3 _ _ _) (meetsH_dict_get_default (tupleKind (aa4 X.prog X.w)) a b hd r) ⟨tupleKind_room_in1 v,k,xs,afs I.hok q,f,h _ _ (I.tok _) ?_⟩
  rw [l]
  exact (c.val k).getD n
end
def aiw (td ty tx:TE):TE:=fun σ H Q=>td σ H fun x H1=>∃ a,x=.ref a/\IsD H1 a/\ty σ H1 fun y H2=>tx σ H2 fun z H3=>∃ o,DGet H3 a y o/\Q (o.getD z) H3
section
variable {X:Cx} {o e f:Expr} {apos cpos:Pos} {td ty tx:TE}
theorem aoq (J:X.A.units+1 < cLine) (B:PE X o td) (l:PE X e ty) (hf:PE X f tx) (m:M2 X o "get" apos e f cpos):PE X (.Call (.Attribute o "get" apos) [e,f] [] cpos) (aiw td ty tx):=by
 intro pins s σ H Q I h
 refine wpAny_Call_method m.base m.few m.line PySem.F.plainAttrs_dict PySem.F.slot_dict_get PySem.F.type_dict_get (thn (B pins s σ H _ I h) fun u s1 ⟨x,G,c,C,a,ex,d,v⟩=>?_)
 subst ex
 obtain rfl:u=Value.ref a:=C
 obtain ⟨E,n,_⟩:=atg c d
 refine ⟨E,n,?_⟩
 rw [m.trees]
 refine Calls.callWith_builtin rfl (Calls.evalArgs_plain (Calls.spliced_cons (thn (l pins s1 σ G _ c v) fun M s2 ⟨y,H2,j,i,p⟩ =>
  Calls.spliced_cons (thn (hf pins s2 σ H2 _ j p) fun P L ⟨z,H3,D,w,K,g,q⟩=>Calls.spliced_nil ?_))))
 exact ath J D g i w fun N O r b=>⟨_,H3,r,b,q⟩
end
section
variable {X:Cx} {pins:List (Addr × Obj)} {σ:St} {H:Hp} {s:Shared} {a:Addr} {kvs:List (Key × V)} {A:Around} {E:Value->Shared->Prop}
end
section
variable {X:Cx} {pins:List (Addr × Obj)} {σ:St} {H:Hp} {s:Shared} {a:Addr} {y:V} {u:Value} {A:Around} {E:Value->Shared->Prop}
end
end L2
namespace Att
open PySem PySem.W PySem.Calls PyProof.Rows
theorem afu {P:Params} {h:Heap}:∀ (ns:List Int) (vs:List Value),WellAll P h vs (ns.map WData.int)->IntsAre vs ns:=by
 intro ns
 induction ns with
 | nil =>
  intro vs w
  rw [List.map_nil] at w
  cases w
  exact .nil
 | cons n ns ih =>
  intro vs w
  rw [ay1] at w
  cases w with
  | cons a b =>
   cases a
   exact .cons _ _ (ih _ b)
theorem ana {l:OpenLaw} {n:Nat} (hn:l.most=some n) {P:Params} {h:Heap} {args:List WData} {c:List Value}
  (b:l.row.toRowW.claim.pre args=true) (m:WellAll P h c args) :
  ∃ a vs ns,c=[Value.ref a]/\args=[WData.list (ns.map WData.int)]/\h.get? a=some { cls:=.type "list",data:=.seq vs.toArray }/\IntsAre vs ns/\ns.length<=n:=by
 have j:WShape.hasAll [] args [.list .int]=true:=(pre_splitW b).1
 have o:l.pre.holds [] { args:=args }=true:=(pre_splitW b).2
 obtain ⟨d,r,rfl,p,u⟩:=hasAllW_cons j
 obtain rfl:=hasAllW_nil u
 obtain ⟨xs,rfl,s⟩:=hasW_list p
 obtain ⟨ns,rfl⟩:=items_int s
 have f:ns.length<=n:=by
  unfold OpenLaw.pre at o
  have i:(WTm.not (.lt (.lit (.int (n:Int))) (.len (.arg 0)))).holds [] { args:=[.list (ns.map .int)] }=true:=by
   have i:=(holds_andW o).1
   rw [hn] at i
   exact i
  have g:=condW_of i (w_not (w_lt w_lit (w_len_list (w_arg rfl))))
  rw [av3] at g
  refine Nat.le_of_not_lt fun q=>?_
  have v:(n:Int) < ((ns.length:Nat):Int):=by omega
  first
   | (rw [ay6 v] at g;exact absurd g (by decide))
   | (simp at g;omega)
 cases m with
 | cons w1 w2 =>
  cases w2
  cases w1 with
  | list ho hall=>exact ⟨_,_,ns,rfl,rfl,ho,afu ns _ hall,f⟩
theorem anb (l:OpenLaw) (args:List WData):l.row.toRowW.claim.post args (.bool true) args=true :=
 postW_of (r:=l.row.toRowW) (X:=(true == true))
  (show WShape.has [] (.bool true) .bool=true by first | rfl | decide | simp [WShape.has,WShape.arms,WShape.armsAll])
  (show (WTm.eq .res (.lit (.bool true))).value [] { args:=args,res:=some (.bool true),after:=args }=some (.bool (true == true)) from w_eq_bool (w_res rfl) w_lit) rfl
theorem attach_call {l:OpenLaw} {n:Nat} {q:Program} {c:List Str} {A:(Str->Option Value)->Heap->Prop} {C:World->Heap->Prop} {d:DefRec}
  (hn:l.most=some n) (s:d.params.defaults=[])
  (call:∀ (w:World) (s₀ b:Shared) (mg mb:Str->Option Value) (fa:Addr) (o:Obj) (pm p doc:Value) (a:Addr) (vs:List Value) (ns:List Int),
   Ground q c [] A w s₀ mg mb b.heap->C w b.heap ->
   b.heap.get? fa=some o->o.data=.func (docDef d.name d.params d.body d.scope pm p doc)->b.heap.CodeRec p d.name->mg d.name=some (.ref fa) ->
   b.heap.get? a=some { cls:=.type "list",data:=.seq vs.toArray }->IntsAre vs ns->ns.length<=n->b.gens = #[] ->
   codeAny (model l.prog w) callerA (.call (.ref fa) ⟨[.ref a],[]⟩) (fun r m=>r=.ok (.ret (.bool true))/\OldK b.heap m.heap/\m.os=b.os/\AllBare m.gens) b) :
  WalkO q c A C l.row.toRowW d [] (fun f vs=>PySem.call f vs):=by
 intro w s₀ b mg mb G Y fa o pm p doc L kV J hd v y u I args B as j z F x H
 obtain rfl:L=.none:=Dflts.none y s
 obtain rfl:kV=.none:=Dflts.noKw y
 obtain ⟨a,vs,ns,rfl,rfl,i,g,h⟩:=ana hn j x
 refine enter_call (codeAny_mono (call w s₀ b mg mb fa o pm p doc a vs ns G Y J (fd_plain hd) v u i g h I) fun r m M=>?_)
 obtain ⟨rfl,E,D,K⟩:=M
 exact ⟨.inl ⟨.bool true,.bool true,[],rfl,fun _=>rfl,.bool true,anb l _,fun _=>⟨List.Pairwise.nil,fun _ hm=>(nomatch hm)⟩⟩,E,D,K⟩
section
variable {prog:Program} {w:World} {A:Around} {E:Value->Shared->Prop} {s:Shared} {K:Frag}
end
end Att
namespace L2
open PySem PySem.Spec PyProof.Rows
theorem aed:∀ {vs:List Value} {ns:List Int},IntsAre vs ns->Vals (ns.map V.int) vs
 | _,_,.nil => .nil
 | _,_,.cons n t h => .cons ⟨t,rfl⟩ (aed h)
def Only (H:Hp):Prop:=∀ b,H b=none\/(∃ o xs,H b=some (.frz o (.lst xs)))\/∃ gs,H b=some (.tbl gs)
def adm (K:Frag) (h:Heap):Prop:=∀ c P,PySem.W.tabIn K lamN=some (c,P)->PySem.W.CodeHd h c P/\h.get? P=some (PySem.W.tabObj #[])/\K.lookup P=none
theorem aq1 {P:Program} {w:World} {K:Frag} {h:Heap} {H:Hp} {a:Addr} {xs:List V} {l:Obj} (p:adm K h) (ha:h.get? a=some l) (v:l.cls ≠ .none) (j:∀ b,H b=none\/∃ o xs,H b=some (.frz o (.lst xs))) (n:SqL K H a xs) (hok:HOk P w H h) (f:∀ b,H b ≠ none->b=a) (m:H a ≠ none->K.lookup a=none) :
  ∃ H':Hp,Only H'/\SqL K H' a xs/\HOk P w H' h/\(∀ b,H' b ≠ none->(b=a/\K.lookup a=none)\/∃ c,PySem.W.tabIn K lamN=some (c,b))/\TabsOk K H':=by
 cases q:PySem.W.tabIn K lamN with
 | none =>
  refine ⟨H,fun b=>(j b).elim .inl fun z => .inr (.inl z),n,hok,fun b z => .inl ⟨f b z,m ?_⟩,fun c P e=>by rw [q] at e;cases e⟩
  have:=f b z;subst this;exact z
 | some cP =>
  obtain ⟨c,T⟩:=cP
  obtain ⟨_,g,x⟩:=p c T q
  have i:T ≠ a:=fun z=>by subst z;rw [ha] at g;cases g;exact v rfl
  have hn:H T=none:=by
   cases e:H T with
   | none=>rfl
   | some u=>exact absurd (f T (by rw [e];simp)) i
  refine ⟨upd H T (.tbl #[.str lamQ 0]),fun b=>?_,?_,fun b u z=>?_,fun b z=>?_,fun y A e=>?_⟩
  ·by_cases hb:b=T
   ·subst hb;exact .inr (.inr ⟨_,aag⟩)
   ·rw [aac hb];exact (j b).elim .inl fun z => .inr (.inl z)
  ·rcases n with (r | ⟨o,r⟩) | r
   ·exact .inl (.inl (by rw [aac (Ne.symm i)];exact r))
   ·exact .inl (.inr ⟨o,by rw [aac (Ne.symm i)];exact r⟩)
   ·exact .inr r
  ·by_cases hb:b=T
   ·subst hb
    rw [aag] at z;cases z
    exact ⟨#[],g,trivial,fun s B e=>by simp [codeAmong] at e⟩
   ·rw [aac hb] at z
    exact (hok b u z).stay (fun _ _ _ r=>r) (fun d r=>by rw [aac (aah r hn)];exact r) fun d ys r=>by rw [aac (aah r hn)];exact r
  ·by_cases hb:b=T
   ·subst hb;exact .inr ⟨c,rfl⟩
   ·rw [aac hb] at z
    have:=f b z;subst this;exact .inl ⟨rfl,m z⟩
  ·rw [q] at e;cases e
   exact ⟨#[],by rw [aag];rfl⟩
theorem aor {P:Program} {w:World} {K:Frag} {mg mb:Str->Option Value} {CX:CXT} {k:Nat} {fa a:Addr} {fd:FuncData} {x:Str} {sp:Sp} {f:Shared} {vs:List Value} {ns:List Int}
  (KX:K.In f.heap) (G:f.heap.Ns mainGlobals mg) (hb:f.heap.Ns builtinsNs mb) (U:∀ x:Str,x ≠ "__name__"->mb x=bootBuiltins x) (L:f.heap.NoLimit) (hg:f.gens = #[])
  (ha:f.heap.get? a=some { cls:=.type "list",data:=.seq vs.toArray }) (hi:IntsAre vs ns) (hl:ns.length<=sizeLine) (hr:Room k callerA) (i:adm K f.heap) (a0:aqa mg f.heap)
  (F:∀ base:Heap,K.In base->base.Ns mainGlobals mg->FnOk P w K mg base CX k fa fd [x] sp) (B:∀ (s:Shared) (u:Value),BindsTo s fd ⟨[u],[]⟩ [(x,u)])
  (X:∀ H:Hp,Only H->SqL K H a (ns.map V.int)->sp [.ref a] H (fun v _=>v=.bl true) fun _ _ _=>False)
  (T:∀ H e l,CX [] H f (fun _ _ _=>False) e l->False) :
  codeAny (model P w) callerA (.call (.ref fa) ⟨[.ref a],[]⟩) (fun r l=>r=.ok (.ret (.bool true))/\OldK f.heap l.heap/\l.os=f.os/\AllBare l.gens) f:=by
 have rv:=aed hi
 have E:=hi.length
 -- from an abstract heap in which nothing but the script may be tracked
 have y:∀ H:Hp,(∀ b,H b=none\/∃ o xs,H b=some (.frz o (.lst xs)))->SqL K H a (ns.map V.int)->HOk P w H f.heap->(∀ b,H b ≠ none->b=a)->(H a ≠ none->K.lookup a=none) ->
   codeAny (model P w) callerA (.call (.ref fa) ⟨[.ref a],[]⟩) (fun r l=>r=.ok (.ret (.bool true))/\OldK f.heap l.heap/\l.os=f.os/\AllBare l.gens) f:=by
  intro H S W hok C hK
  obtain ⟨H,S,W,hok,C,hT⟩:=aq1 i ha (by intro z;cases z) S W hok C hK
  have g:∀ {b:Addr} {o:Obj},f.heap.get? b=some o->H b=none->(hidT f.heap H).get? b=some o:=fun e n=>aog e n
  have Z:∀ {b:Addr} {o:Obj} {es:Array DictEntry} {D:Nat},f.heap.get? b=some o->o.data=.dict es D->H b=none:=fun {b o es D} e d=>by
   cases q:H b with
   | none=>rfl
   | some u =>
    rcases C b (by rw [q];simp) with ⟨j,_⟩ | ⟨c,j⟩
    ·subst j
     rw [ha] at e;cases e
     have d':Data.seq vs.toArray _=Data.dict es D:=d
     cases d'
    ·have J:=(i c b j).2.1
     rw [J] at e;cases e;cases d
  have p:∀ {b:Addr} {m:Str->Option Value},f.heap.Ns b m->(hidT f.heap H).Ns b m:=fun {b m} ⟨o,es,D,e,d,r⟩=>⟨o,es,D,g e (Z e d),d,r⟩
  have O:K.In (hidT f.heap H):=fun b o e=>g (KX b o e) (by
   cases q:H b with
   | none=>rfl
   | some u =>
    rcases C b (by rw [q];simp) with ⟨j,N⟩ | ⟨c,j⟩
    ·subst j
     rw [N] at e;cases e
    ·rw [(i c b j).2.2] at e;cases e)
  have hM:Mod K mg (hidT f.heap H):=⟨O,p G,⟨mb,p hb,U⟩,let ⟨mc,h1,h2⟩:=L;⟨mc,p h1,h2⟩,by
   obtain ⟨R,Y,b1,b2,I,b4,b5⟩:=a0
   refine ⟨R,Y,b1,b2,g I ?_,b4,b5⟩
   cases q:H R with
   | none=>rfl
   | some u =>
    rcases C R (by rw [q];simp) with ⟨j,_⟩ | ⟨c,j⟩
    ·subst j
     rw [ha] at I;cases I
     have b6:Value.type "list" = Value.type "module":=b4
     injection b6 with z
     exact absurd z (by decide)
    ·rw [(i c R j).2.1] at I;cases I;cases b4⟩
  have e0:Env0 P w K mg (hidT f.heap H) callerA [] f H:=⟨rfl,hM,fun b o e=>aqw e,Nat.le_of_eq (amr _ _),trivial,fun b hb=>absurd (show b∈([]:List Addr) from hb) (by simp),hT,hok,.of_eq hg⟩
  refine codeAny_mono ((F _ O (p G)).run callerA [] f H ⟨[.ref a],[]⟩ [.ref a] [.ref a] _ _ hr e0 (B f (.ref a)) (.cons rfl .nil) (X H S W)) fun r l h=>?_
  cases r with
  | error e=>exact (T H e l h).elim
  | ok fl =>
   cases fl with
   | next=>exact False.elim h
   | brk=>exact False.elim h
   | cont=>exact False.elim h
   | ret u =>
    obtain ⟨v,H',os,bare,un,A,r',q⟩:=h
    have q':v=.bl true:=q
    subst q'
    obtain rfl:u=Value.bool true:=r'
    refine ⟨rfl,⟨fun b o e=>?_,fun b o e=>un.there b o e (by simp)⟩,os,bare⟩
    cases q:H b with
    | none=>exact .inl (un.keep b o e q (by intro z;exact absurd (show b∈([]:List Addr) from z) (by simp)) (by simp))
    | some u =>
     rcases S b with z | ⟨Y,xs,z⟩ | ⟨gs,z⟩
     ·rw [q] at z;cases z
     ·refine .inl ?_
      have z2:=un.frzs b Y _ z
      obtain ⟨e1,_⟩:=hok b _ z
      obtain ⟨J,_⟩:=A b _ z2
      rw [e] at e1;cases e1
      exact J
     ·obtain ⟨m,z2⟩:=un.tbls b gs z
      obtain ⟨ps,J,_⟩:=A b _ z2
      rcases C b (by rw [q];simp) with ⟨j,_⟩ | ⟨c,j⟩
      ·subst j
       obtain ⟨a1,M,_⟩:=hok b _ z
       rw [ha] at M;cases M
      ·have M:=(i c b j).2.1
       rw [M] at e;cases e
       refine .inr (.inl ⟨((i c b j).1.tab M).isCodeTable,rfl,#[],ps,rfl,?_⟩)
       rw [J];simp
 cases N:K.lookup a with
 | some o =>
  -- the script is one of the module's own objects
  have e:=KX a o N
  rw [ha] at e
  cases e
  refine y (fun _=>none) (fun _ => .inl rfl) (.inr ⟨_,vs.toArray,_,N,rfl,rfl,rfl,by rw [aw2,E];exact hl,by simpa using rv⟩) (fun b u z=>by have Q:(none:Option HO)=some u:=z;cases Q) (fun b z=>absurd rfl z) fun z=>absurd rfl z
 | none =>
  refine y (fun b=>if b=a then some (.frz { cls:=.type "list",data:=.seq vs.toArray } (.lst (ns.map V.int))) else none) (fun b=>?_) (.inl (.inr ⟨{ cls:=.type "list",data:=.seq vs.toArray },az7 rfl⟩)) (fun b u z=>?_) (fun b z=>?_) fun _=>N
  ·by_cases hb:b=a
   ·exact .inr ⟨_,_,az7 hb⟩
   ·exact .inl (az8 hb)
  ·by_cases hb:b=a
   ·have Q:=(az7 hb).symm.trans z
    cases Q
    subst hb
    exact ⟨ha,by rw [av3];exact hl,vs,_,rv,ha⟩
   ·have Q:=(az8 hb).symm.trans z
    cases Q
  ·by_cases hb:b=a
   ·exact hb
   ·exact absurd (az8 hb) z
abbrev KOf {K:Frag} {h:Heap} (_:K.In h):Frag:=K
theorem walk_of {l:PySem.W.OpenLaw} {n k:Nat} {q:Program} {i:List Str} {Q:(Str->Option Value)->Heap->Prop} {C:World->Heap->Prop} {d:DefRec} {K:Params->Frag} {CX:World->CXT} {sp:World->Sp} {x:Str}
  (hn:l.most=some n) (D:n<=sizeLine) (y:d.params.defaults=[]) (S:Room k callerA)
  (M:∀ (w:World) (h:Heap),C w h->(K w.params).In h)
  (I:∀ (w:World) (lo:List Str) (mg mb:Str->Option Value) (r:ExcName->Option Value) (h:Heap),PyProof.Rows.Top q lo r mg mb h->C w h->adm (K w.params) h)
  (F:∀ (w:World) (mg:Str->Option Value) (fa:Addr) (h:Heap),(K w.params).In h->h.Ns mainGlobals mg->mg d.name=some (.ref fa) ->
   ∃ fd:FuncData,(∀ (s:Shared) (u:Value),BindsTo s fd ⟨[u],[]⟩ [(x,u)]) /\
    ∀ base:Heap,(K w.params).In base->base.Ns mainGlobals mg->FnOk l.prog w (K w.params) mg base (CX w) k fa fd [x] (sp w))
  (E:∀ (w:World) (H:Hp) (a:Addr) (ns:List Int),ns.length<=n->Only H->SqL (K w.params) H a (ns.map V.int)->sp w [.ref a] H (fun v _=>v=.bl true) fun _ _ _=>False)
  (B:∀ (w:World) (H:Hp) (s:Shared) (e:Value) (A:Shared),CX w [] H s (fun _ _ _=>False) e A->False) :
  PySem.W.WalkO q i Q C l.row.toRowW d [] (fun f vs=>PySem.call f vs):=by
 refine Att.attach_call hn y fun w s₀ p mg mb fa o pm X doc a vs ns G Y U hd P z m j c N=>?_
 have J:=M w _ Y
 obtain ⟨fd,hb,O⟩:=F w mg fa _ J G.T.g z
 exact aor J G.T.g G.T.b G.T.builtins G.T.nolimit N m j (ay0 c D) S (I w _ _ _ _ _ G.T Y) G.T.bmain O hb (fun H L R=>E w H a ns c L R) fun H e A=>B w H p e A
end L2
/- THE LAST THEOREM (shape; LID, My.* are yours):
  My.Adr: a structure of the addresses that your layer names (classes,functions);My.Txt K t: a structure (Prop) of the equations over K;
  My.txt_mk:{K} {implicit addresses ..} (e1:nsIn K mainGlobals "law" = some (some (.ref f))) (e2:K.lookup f=some ⟨oc,od,.func (fnOf "law" "law" params body scope dV kV doc pm an cdv ct),sl⟩) (e3:codeIn K cdv "law" = true) .. : ∃ t,My.Txt K t
set_option maxRecDepth 100000 in
set_option maxHeartbeats 0 in
theorem PySem.Challenge.cw_LID_holds : PySem.Challenge.rw_LID.Holds := by
 w_on;o_law;k_head;(case hw=>w_witness2)
 k_fill
 refine L2.walk_of (l:=PySem.Challenge.rw_LID) (n:=63) (k:=40) (x:="script") (CX:=fun w => ..) (sp:=fun _=>My.sp_law) rfl (by decide) rfl ⟨rfl,by decide,by decide⟩ (fun w h Y=>PySem.W.kIn_of Y) ?F ?S ?C
 case F =>
  intro w mg fa h KX G hmg
  have T:∃ t,My.Txt (L2.KOf KX) t:=by
   dsimp only [L2.KOf]                          -- K must stand as «<heap const> w.params» for k_is
   refine' My.txt_mk ?e1 ?e2 ?e3 ..
   (case e1=>PySem.W.k_is)                    -- in the order: a name -> its address -> its object -> its parts
   (case e2=>PySem.W.k_is)
   ..
  obtain ⟨t,T⟩:=T
  have e0:=hmg.symm.trans (mg_of KX G T.law)
  cases e0                                       -- fa is the law's own address
  exact ⟨_,fun s u => .of_eq rfl,fun base kb nb=>My.law_fn T kb nb⟩     -- if «.of_eq rfl» comes too early: refine' ⟨_,?b,fun base kb nb=>My.law_fn T kb nb⟩;exact fun s u => .of_eq rfl
 case S=>exact fun w H a ns hl hO hS => ..
 case C=>exact ..
(the tactic k_is has no namespace: write k_is) -/
namespace L2
open PySem PySem.Spec PyProof.Rows
def abo (s:Stmt):Arguments:=match s with
 | .FunctionDef _ a _ _ _ _ _ _ _ _=>a
 | _=>{ posonlyargs:=[],args:=[],vararg:=none,kwonlyargs:=[],kw_defaults:=[],kwarg:=none,defaults:=[] }
def abd (s:Stmt):List Stmt:=match s with
 | .FunctionDef _ _ b _ _ _ _ _ _ _=>b
 | _=>[]
def aai (s:Stmt):Scope:=match s with
 | .FunctionDef _ _ _ _ _ _ sc _ _ _=>sc
 | _=>{ kind:=.function,names:=[],isGenerator:=false,isCoroutine:=false }
abbrev CX0:CXT:=fun _ _ _ _ _ _=>False
abbrev E0:XK:=fun _ _ _=>False
theorem auz {X:Cx}:aiq CX0 X E0:=fun _ _ _ _ _ _ _ h=>h.elim
structure Fun (K:Frag) (x qual:Str) (st:Stmt) (f:Addr) (fd:FuncData):Prop where
 ex:∃ (oc:Value) (od:Option Addr) (kV doc pm:Value) (an:Option Addr) (cdv ct:Value) (osl:Array (Option Value)),
  fd=fnOf x qual (abo st) (abd st) (aai st) .none kV doc pm an cdv ct/\K.lookup f=some ⟨oc,od,.func fd,osl⟩/\codeIn K cdv qual=true
 kp:keepIn K (.ref f)=true
section
variable {P:Program} {w:World} {K:Frag} {mg:Str->Option Value} {base:Heap}
theorem Fun.ok {x qual:Str} {st:Stmt} {f:Addr} {fd:FuncData} {N ps:List Str} {k:Nat} {sp:Sp} (F:Fun K x qual st f fd) (S:FnScope N ps (aai st)) (len:∀ vs H Q E,sp vs H Q E->vs.length=ps.length)
  (a:∀ (cdv:Value) (A:Around) (outer:List Env) (s:Shared) (H:Hp) (vs:List V) (Q:VK) (E:XK),Room k (A.deeper (envOfC qual (aai st) s.heap.objs.size f cdv))->sp vs H Q E ->
   ∃ t,PSs (cxOf CX0 P w K mg base N qual (aai st) f cdv A outer s H E).nox (abd st) t/\t { nx:=fun _ H'=>Q .non H',rt:=Q } (start N vs) H):FnOk P w K mg base CX0 (k+1) f fd ps sp:=by
 obtain ⟨oc,od,kV,doc,pm,an,cdv,ct,osl,rfl,d,b⟩:=F.ex
 refine auw d b S len fun A outer s H vs Q E g c=>?_
 obtain ⟨t,h,q⟩:=a cdv A outer s H vs Q E g c
 exact ⟨t,h.nox,q⟩
theorem Fun.binds {x qual:Str} {st:Stmt} {f:Addr} {fd:FuncData} {ps:List Str} (F:Fun K x qual st f fd)
  (h:∀ (kV doc pm:Value) (an:Option Addr) (cdv ct:Value) (us:List Value),us.length=ps.length->bindArgs (fnOf x qual (abo st) (abd st) (aai st) .none kV doc pm an cdv ct) ⟨us,[]⟩=pure (ps.zip us)):Binds K fd ps []:=by
 obtain ⟨oc,od,kV,doc,pm,an,cdv,ct,osl,rfl,b,a⟩:=F.ex
 exact .all (h kV doc pm an cdv ct)
theorem ati {x qual:Str} {st:Stmt} {f:Addr} {oc:Value} {od an:Option Addr} {osl:Array (Option Value)} {kV doc pm cdv ct:Value} (l:K.lookup f=some ⟨oc,od,.func (fnOf x qual (abo st) (abd st) (aai st) .none kV doc pm an cdv ct),osl⟩)
  (c:codeIn K cdv qual=true) (k:keepIn K (.ref f)=true):Fun K x qual st f (fnOf x qual (abo st) (abd st) (aai st) .none kV doc pm an cdv ct):=⟨⟨oc,od,kV,doc,pm,an,cdv,ct,osl,rfl,l,c⟩,k⟩
end
theorem afv {A:Around} {k:Nat} (a:Room k A):A.units+1 < cLine:=Nat.lt_of_le_of_lt (Nat.add_le_add_left (by decide:1<=64) _) a.units
theorem aee {n:Nat} (h:n<=1000):n < sizeLine:=Nat.lt_of_le_of_lt h (by decide)
section
variable {X:Cx}
theorem pv (i:Nat) {x:Str} {a:Pos} (c:X.N[i]?=some x:=by rfl) (d:Vis X.env.scope x:=by first | exact Or.inl rfl | exact Or.inr (Or.inl rfl) | exact Or.inr (Or.inr rfl)) (hd:(x == ("__debug__" : Str))=false:=by decide)
  (b:(x == ("__classdict__" : Str))=false:=by decide):PE X (.Name x a) (tVar i):=as7 c d hd b
end
theorem iteF {A B:Prop} (h:B):if false=true then A else B:=by
 rw [az8 aw0]
 exact h
theorem iteT {A B:Prop} (h:A):if true=true then A else B:=by
 rw [az7 rfl]
 exact h
def Same (H H':Hp):Prop:=∀ b o,H b=some o->H' b=some o
theorem Same.refl (H:Hp):Same H H:=fun _ _ h=>h
theorem Same.trans {H d H2:Hp} (a:Same H d) (b:Same d H2):Same H H2:=fun c o h=>b c o (a c o h)
theorem Same.free {H H':Hp} (e:Same H H') {l:Addr} (h:H' l=Option.none):H l=Option.none:=by
 cases q:H l with
 | none=>rfl
 | some o =>
  rw [e l o q] at h
  cases h
theorem Same.seq {K:Frag} {H H':Hp} {a:Addr} {xs:List V} (e:Same H H') (h:SqL K H a xs):SqL K H' a xs:=by
 rcases h with (h | ⟨o,h⟩) | h
 ·exact .inl (.inl (e _ _ h))
 ·exact .inl (.inr ⟨o,e _ _ h⟩)
 ·exact .inr h
section
variable {X:Cx}
end
section
variable {κ:Type} [DecidableEq κ]
end
def clos (env:Env):List (Str × NameKind)->List (Str × Addr)->List (Str × Addr)
 | [],cs=>cs
 | (n,k) :: r,cs=>if k == NameKind.free then (match env.cells.lookup n with | some a=>clos env r ((n,a) :: cs) | none=>clos env r cs) else clos env r cs
theorem afw {env:Env} {sc:Scope} (h:∀ n,(n,NameKind.free)∈sc.names->∃ a,env.cells.lookup n=some a):closureFor sc env=pure (clos env sc.names []):=by
 have all:∀ (l:List (Str × NameKind)) (cs:List (Str × Addr)),(∀ n,(n,NameKind.free)∈l->∃ a,env.cells.lookup n=some a) ->
   (forIn l cs fun (x:Str × NameKind) (cs:List (Str × Addr))=>match x with | (name,kind)=>if kind == NameKind.free then (do let a ← cellOf env name;pure (ForInStep.yield ((name,a) :: cs))) else pure (ForInStep.yield cs))=(pure (clos env l cs):Sem _):=by
  intro l
  induction l with
  | nil=>intro cs _;rfl
  | cons p r ih =>
   intro cs c
   obtain ⟨n,k⟩:=p
   rw [List.forIn_cons]
   unfold clos
   dsimp only
   cases hk:(k == NameKind.free) with
   | false =>
    simp only [Bool.false_eq_true,if_false,pure_bind]
    exact ih cs fun m hm=>c m (aw5 _ hm)
   | true =>
    have f:k=NameKind.free:=by simpa using hk
    subst f
    obtain ⟨a,ha⟩:=c n aw8
    have d:cellOf env n=pure a:=by unfold cellOf;rw [ha]
    simp only [if_true,d,pure_bind,ha]
    exact ih _ fun m hm=>c m (aw5 _ hm)
 have e:=all sc.names [] h
 unfold closureFor
 refine Eq.trans (b:=(pure (clos env sc.names []):Sem _) >>= fun cs=>pure cs) ?_ (pure_bind _ _)
 exact congrArg (fun z:Sem (List (Str × Addr))=>z >>= fun cs=>pure cs) e
theorem ade {env:Env} {x:Str} {c:Addr}:∀ {l:List (Str × NameKind)} {cs:List (Str × Addr)},(clos env l cs).lookup x=some c->env.cells.lookup x=some c\/cs.lookup x=some c
 | [],cs,h => .inr h
 | (n,k) :: r,cs,h=>by
  unfold clos at h
  by_cases hk:(k == NameKind.free)=true
  ·rw [az7 hk] at h
   cases ha:env.cells.lookup n with
   | none=>rw [ha] at h;exact ade h
   | some a =>
    rw [ha] at h
    rcases ade h with e | e
    ·exact .inl e
    ·rw [aB0] at e
     cases hx:(x == n) with
     | true =>
      rw [hx] at e
      have:x=n:=by simpa using hx
      subst this
      cases e
      exact .inl ha
     | false=>rw [hx] at e;exact .inr e
  ·rw [az8 hk] at h
   exact ade h
theorem adf {env:Env} {x:Str}:∀ {l:List (Str × NameKind)} {cs:List (Str × Addr)},(∃ c,cs.lookup x=some c)->∃ c,(clos env l cs).lookup x=some c
 | [],cs,h=>h
 | (n,k) :: r,cs,h=>by
  unfold clos
  by_cases hk:(k == NameKind.free)=true
  ·rw [az7 hk]
   cases ha:env.cells.lookup n with
   | none=>exact adf h
   | some a =>
    refine adf ?_
    rw [aB0]
    cases hx:(x == n) with
    | true=>exact ⟨_,rfl⟩
    | false=>exact h
  ·rw [az8 hk]
   exact adf h
theorem ac0 {env:Env} {x:Str} (h:∃ a,env.cells.lookup x=some a):∀ {l:List (Str × NameKind)} {cs:List (Str × Addr)},(x,NameKind.free)∈l->∃ c,(clos env l cs).lookup x=some c
 | [],_,hm=>absurd hm (by simp)
 | (n,k) :: r,cs,hm=>by
  rcases av9.mp hm with e | hm
  ·cases e
   obtain ⟨a,ha⟩:=h
   unfold clos
   rw [az7 (by rfl),ha]
   refine adf ⟨a,?_⟩
   rw [aB0]
   simp
  ·unfold clos
   by_cases hk:(k == NameKind.free)=true
   ·rw [az7 hk]
    cases ha:env.cells.lookup n with
    | none=>exact ac0 h hm
    | some a=>exact ac0 h hm
   ·rw [az8 hk]
    exact ac0 h hm
theorem aef {env:Env} {x:Str}:∀ {names:List (Str × NameKind)},(∀ y∈names,y.2 ≠ .cell) ->
  ((names.map fun (n,k)=>if (k == NameKind.free && env.scope.kind == .function && env.kindOf n == some .cell) then (n,NameKind.cell) else (n,k)).lookup x=some .cell ∨
   (names.map fun (n,k)=>if (k == NameKind.free && env.scope.kind == .function && env.kindOf n == some .cell) then (n,NameKind.cell) else (n,k)).lookup x=some .free)->names.lookup x=some .free
 | [],_,h=>by rcases h with h | h <;> simp at h
 | (n,k) :: r,hc,h=>by
  have a:=@aef env x r fun y b=>hc y (aw5 _ b)
  rw [aB0]
  simp only [ay1] at h
  by_cases hq:(k == NameKind.free && env.scope.kind == .function && env.kindOf n == some .cell)=true
  ·rw [az7 hq] at h
   have c:k=NameKind.free:=by
    have:=hq;simp only [aB2] at this;simpa using this.1.1
   subst c
   cases hx:(x == n) with
   | true=>rfl
   | false=>simp only [aB0,hx] at h;exact a h
  ·rw [az8 hq] at h
   cases hx:(x == n) with
   | true =>
    simp only [aB0,hx] at h
    rcases h with h | h
    ·cases h;exact absurd rfl (hc (n,NameKind.cell) aw8)
    ·exact h
   | false=>simp only [aB0,hx] at h;exact a h
theorem adg {env:Env} {x:Str}:∀ {names:List (Str × NameKind)},names.lookup x=some .free ->
  ((names.map fun (n,k)=>if (k == NameKind.free && env.scope.kind == .function && env.kindOf n == some .cell) then (n,NameKind.cell) else (n,k)).lookup x=some .cell ∨
   (names.map fun (n,k)=>if (k == NameKind.free && env.scope.kind == .function && env.kindOf n == some .cell) then (n,NameKind.cell) else (n,k)).lookup x=some .free)
 | [],h=>by simp at h
 | (n,k) :: r,h=>by
  have a:=@adg env x r
  rw [aB0] at h
  simp only [ay1]
  by_cases hq:(k == NameKind.free && env.scope.kind == .function && env.kindOf n == some .cell)=true
  ·rw [az7 hq]
   cases hx:(x == n) with
   | true=>left;simp [aB0,hx]
   | false=>rw [hx] at h;simp only [aB0,hx];exact a h
  ·rw [az8 hq]
   cases hx:(x == n) with
   | true=>rw [hx] at h;right;simp only [aB0,hx];exact h
   | false=>rw [hx] at h;simp only [aB0,hx];exact a h
def Cx.comp (X:Cx) (N:List Str) (sc:Scope) (C:Addr) (s0:Shared) (H0:Hp) (ex:List Addr):Cx where
 prog:=X.prog
 w:=X.w
 K:=X.K
 mg:=X.mg
 base:=X.base
 A:=X.A
 N:=N
 s₀:=s0
 H₀:=H0
 env:=compEnvC sc (clos X.env sc.names []) C X.env
 outer:=X.stack
 stack:=X.stack
 ex:=ex
 fn:=fun _=>false
 calm:=X.calm
 pn:=[]
 xe:=fun _ _=>False
def pick (src:List (Option Nat)) (σ:St):St:=src.map fun o=>match o with | some j=>(σ[j]?).getD none | none=>none
structure LcOk (X:Cx) (N:List Str) (sc:Scope) (src:List (Option Nat)):Prop where
 kind:sc.kind=.function
 nocell:∀ y∈sc.names,y.2 ≠ .cell
 own:∀ y∈sc.names,y.2=.local->sc.names.lookup y.1=some .local
 outs:∀ y∈sc.names,y.2=.free->X.env.kindOf y.1=some .cell\/X.env.kindOf y.1=some .free
 len:src.length=N.length
 from':∀ (i j:Nat),src[i]?=some (some j)->∃ x,N[i]?=some x/\X.N[j]?=some x/\sc.names.lookup x=some .free
theorem LcOk.clo {X:Cx} {N:List Str} {sc:Scope} {src:List (Option Nat)} (L:LcOk X N sc src) (ok:X.Ok):closureFor sc X.env=pure (clos X.env sc.names []) :=
 afw fun n hn=>ok.has n (L.outs (n,.free) hn rfl)
theorem aos {X:Cx} {pins:List (Addr × Obj)} {σ:St} {H:Hp} {s:Shared} {N:List Str} {sc:Scope} {src:List (Option Nat)} {fp:List Addr} {h:Heap} {t':Nat}
  (L:LcOk X N sc src) (I:Inv X pins σ H s) (hf:∀ b∈fp,FpOk X pins H b) (g:∀ b∈fp,b < s.heap.objs.size)
  (hn:h.Ns s.heap.objs.size fun _=>none) (f:∀ b o,s.heap.get? b=some o->h.get? b=some o) :
  Inv (X.comp N sc s.heap.objs.size s H fp) [] (pick src σ) H { s with heap:=h,toks:=t' }:=by
 have look:∀ {x c},(clos X.env sc.names []).lookup x=some c->X.env.cells.lookup x=some c:=fun {x c} e=>by
  rcases ade e with z | z
  ·exact z
  ·simp at z
 refine ⟨⟨I.ok.mod,L.kind,I.ok.glob,I.ok.blt,av6 _,fun x y c A a=>?_,fun x G=>?_,fun x c z _=>?_,I.ok.hd,I.ok.frames,.inl rfl,fun b hb=>⟨?_,fun x c e=>?_⟩,I.bs,ay0 I.ok.bsz I.sz,fun b o e hb=>?_,fun b hb z=>?_,I.stack,I.stkFree,I.tab⟩,
  rfl,I.bare,Un.kept f,⟨_,hn,fun i x v A a Q=>?_⟩,fun x c e=>?_,I.hok.fresh (av6 _),fun x c e=>I.freeC x c (look e),fun p O=>?_,I.hok.kept f,?_⟩
 ·exact I.ok.inj x y c (look A) (look a)
 ·have q:=aef (env:=X.env) (x:=x) L.nocell G
  exact ac0 (I.ok.has x (L.outs (x,.free) (PySem.mem_of_lookup q) rfl)) (PySem.mem_of_lookup q)
 ·exact Bool.noConfusion z
 ·exact aw6 (g b hb)
 ·exact (hf b hb).2.2.2.2.1 x c (look e)
 ·rcases (hf b hb).2.2.2.1 with z | z
  ·exact I.ok.noex b o e z
  ·exact absurd (ax5 (aC6 e) (ay0 I.ok.bsz z)) (aA5 _)
 ·rcases av9.mp (I.stkSub b z) with q | q
  ·exact (hf b hb).2.1 q
  ·exact (hf b hb).2.2.1 q
 ·unfold pick at a
  rw [av5] at a
  cases q:src[i]? with
  | none=>rw [q] at a;cases a
  | some o =>
   rw [q] at a
   cases o with
   | none=>cases a
   | some j =>
    obtain ⟨y,C,J,n⟩:=L.from' i j q
    have w:N[i]?=some x:=A
    rw [w] at C
    cases C
    have M : σ[j]?=some (some v):=by
     cases q2 : σ[j]? with
     | none=>simp [q2] at a
     | some z=>simp [q2] at a;rw [a]
    have g:=L.outs (x,.free) (PySem.mem_of_lookup n) rfl
    have B:Vis X.env.scope x:=by
     rcases g with z | z
     ·exact .inr (.inl z)
     ·exact .inr (.inr z)
    obtain ⟨m,_,K⟩:=I.loc
    obtain ⟨u,r,l⟩:=K j x v J M B
    refine ⟨u,r,.inr ⟨?_,?_⟩⟩
    ·exact adg (env:=X.env) n
    ·rcases l with ⟨z,_⟩ | ⟨_,c,F,oc,d,hd⟩
     ·rcases g with D | D <;> (rw [D] at z;cases z)
     ·obtain ⟨P,E⟩:=ac0 (env:=X.env) ⟨c,F⟩ (PySem.mem_of_lookup n) (cs:=[])
      have:=look E
      rw [F] at this;cases this
      exact ⟨c,E,oc,f c oc d,hd⟩
 ·obtain ⟨v,oc,d,hd⟩:=I.cell x c (look e)
  exact ⟨v,oc,f c oc d,hd⟩
 ·exact absurd (show p∈([]:List (Addr × Obj)) from O) (by simp)
 ·show (pick src σ).length=N.length
  unfold pick
  rw [av3]
  exact L.len
def PIf (X:Cx) (ifs:List Expr) (t:TT):Prop :=
 ∀ (pins:List (Addr × Obj)) (s:Shared) (σ:St) (H:Hp) (Q:Bool->Hp->Prop),Inv X pins σ H s->t σ H Q ->
  wpAny (model X.prog X.w) X.A (forIn ifs true fun c r=>if r=true then do let ok ← isTrue c X.env (eval c X.env);pure (ForInStep.yield ok) else pure (ForInStep.yield r)) (TP X pins σ Q) X.xe s
def tYes:TT:=fun _ H Q=>Q true H
theorem ab6 {X:Cx}:PIf X [] tYes:=fun _ _ _ H _ I h=>wpAny_tests_nil ⟨H,I,h⟩
theorem akw {X:Cx} {c:Expr} {t:TT} (h:PT X c t):PIf X [c] t:=fun pins s σ H Q I q=>wpAny_tests_one (h pins s σ H Q I q)
abbrev LW:=Nat->Nat->List V->St->Hp->Prop
def aix (J:It) (g:TG) (tif:TT) (te:TE) (acc:Addr) (Qd:List V->Hp->Prop) (W:LW):Prop:=∀ (i m:Nat) (ys:List V) (σ:St) (H:Hp),W i m ys σ H->H acc=some (.lst ys)/\((J.stop i H/\Qd ys H)\/(J.go i H /\
 ∃ Nx:List V->St->Hp->Prop,(∀ ys' σ' H',Nx ys' σ' H'->∃ m',m' < m/\W (i+1) m' ys' σ' H')/\∀ x H2,J.yld i H x H2 ->
 g x σ H2 fun σ3 H3=>tif σ3 H3 fun b H4=>if b=true then te σ3 H4 fun y H5=>H5 acc=some (.lst ys)/\ys.length < sizeLine/\Nx (ys ++ [y]) σ3 (upd H5 acc (.lst (ys ++ [y]))) else Nx ys σ3 H4))
theorem anc {X:Cx} {tg v B:Expr} {C:List Expr} {sc:Scope} {M:Pos} {J:It} {fp:List Addr} {it:Addr} {tn:Nat->Heap->Prop} {g:TG} {L:TT} {te:TE} {a:Addr} {Qd:List V->Hp->Prop} {W:LW} {R:Result->Shared->Prop}
  (T:Turn X.prog X.w X.K tg J fp it tn) (hc:X.calm=true) (p:∀ e s,¬ X.xe e s) (hg:PG X tg g) (a0:PIf X C L) (he:PE X B te)
  (Q:aix J g L te a Qd W) (hR:∀ ys σ H s,Inv X [] σ H s->Qd ys H->R (.ok .next) s)
  {i m:Nat} {ys:List V} {σ:St} {H:Hp} {s:Shared} (I:Inv X [] σ H s) (st:tn i s.heap) (hf:∀ b∈fp,FpOk X [] H b) (w:W i m ys σ H) :
  codeAny (model X.prog X.w) X.A (.compLoop (.ListComp B [⟨tg,v,C,0⟩] sc M) 0 (.ref it) (.ref a) X.env) R s:=by
 have f:∀ {H':Hp},(∀ b∈fp,H' b=none)->∀ b∈fp,FpOk X [] H' b:=fun hn b hb=>⟨hn b hb,(hf b hb).2⟩
 refine codeAny_loop rfl (fun n j=>∃ i ys h H',Inv X [] h H' j/\tn i j.heap/\(∀ b∈fp,H' b=none)/\W i n ys h H') ?_ m ⟨i,ys,σ,H,I,st,fun b hb=>(hf b hb).1,w⟩
 rintro n s1 ⟨i,ys,c,Y,I1,P,N,w1⟩
 show wpAny _ X.A ((compTurn (.ListComp B [⟨tg,v,C,0⟩] sc M) 0 (.ref it) (.ref a) X.env).onRaise (fun x=>do noteFrame x X.env;theTreesLotGoes x)) _ _ s1
 refine wpAny_noted ?_
 rw [compTurn_list]
 refine aC3 (wpAny_standAt (aC3 ?_))
 obtain ⟨a3,⟨stop,qd⟩ | ⟨go,Nx,O,step⟩⟩:=Q i n ys c Y w1
 ·refine thn (T.done X rfl rfl rfl hc i [] s1 c Y _ I1 (f N) P stop) fun r s2 ⟨hr,I2⟩=>?_
  subst hr
  exact aC4 (hR ys c Y s2 I2 qd)
 ·refine thn (T.item X rfl rfl rfl hc i [] s1 c Y _ I1 (f N) P go) fun r s2 ⟨u,hr,h2⟩=>?_
  subst hr
  refine aC3 (thn h2 fun _ s3 ⟨x,H3,I3,r3,y3,E,a2⟩=>?_)
  have a1:=I3.pinned (f a2) (T.obj _ _ E)
  refine aC3 (aC9 (hg _ s3 c H3 x u _ a1 r3 (step x H3 y3)) (fun _ s4 ⟨D,H4,I4,q4⟩=>?_) fun e j z=>(p e j z).elim)
  have q:∀ {l:St} {G:Hp} {F:Shared} {zs:List V},Inv X ([] ++ aeb fp s3.heap) l G F->(∃ Z,Z < n/\W (i+1) Z zs l G)->∃ m,m < n/\∃ i ys h H',Inv X [] h H' F/\tn i F.heap/\(∀ b∈fp,H' b=none)/\W i m ys h H':=fun {l G F zs} S w7=>by
   obtain ⟨Z,hm,w7⟩:=w7
   refine ⟨Z,hm,i+1,zs,l,G,S.unpinned,T.keep _ _ _ E fun b hb o e=>(S.pin (b,o) (aw3 _ (aw3 _ (acq hb e)))).1,fun b hb=>?_,w7⟩
   obtain ⟨o,e,d⟩:=T.obj _ _ E b hb
   exact (S.pin (b,o) (aw3 _ (aw3 _ (acq hb e)))).2.1
  refine aC3 (aC9 (a0 _ s4 D H4 _ I4 q4) (fun b s5 ⟨H5,I5,U⟩=>?_) fun e j z=>(p e j z).elim)
  cases b with
  | false =>
   rw [az8 aw0] at U
   exact aC4 ⟨rfl,q I5 (O _ _ _ U)⟩
  | true =>
   rw [az7 rfl] at U
   refine aC3 (aC3 (aC9 (he _ s5 D H5 _ I5 U) (fun yv s6 ⟨y,H6,I6,r6,a6,l6,w6⟩=>?_) fun e j z=>(p e j z).elim))
   have ap:=ag9 (X:=X) _ s6 D H6 (.ref a) [y] (.ref a) [yv] (fun _ H'=>H'=upd H6 a (.lst (ys ++ [y]))) I6 rfl (.cons r6 .nil) ⟨a,ys,y,rfl,rfl,a6,l6,rfl⟩
   refine aC3 (aC9 ap (fun _ F ⟨v7,G,S,_,e7⟩=>?_) fun e j z=>(p e j z).elim)
   subst e7
   exact aC4 (aC4 ⟨rfl,q S (O _ _ _ w6)⟩)
def tLC (src:List (Option Nat)) (wi:TI) (g:TG) (tif:TT) (te:TE):TE:=fun σ H Q=>wi σ H fun J H1=>∀ acc,H1 acc=none->∃ W:LW,(∃ m,W 0 m [] (pick src σ) (upd H1 acc (.lst [])))/\aix J g tif te acc (fun _ H'=>Q (.ref acc) H') W
section
variable {X:Cx} {N:List Str} {tg iter elt:Expr} {ifs:List Expr} {sc:Scope} {src:List (Option Nat)} {wi:TI} {g:TG} {tif:TT} {te:TE} {pos:Pos}
theorem aq2 (hc:X.calm=true) (L:LcOk X N sc src) (hg:∀ C E G ex,PG (X.comp N sc C E G ex) tg g) (I:∀ C E G ex,PIf (X.comp N sc C E G ex) ifs tif) (Y:∀ C E G ex,PE (X.comp N sc C E G ex) elt te)
  {pins:List (Addr × Obj)} {d:Shared} {σ:St} {H3:Hp} {Q:VK} (l:Inv X pins σ H3 d) {it a:Addr} {fp:List Addr} {J:It} {tn:Nat->Heap->Prop} (T:Turn X.prog X.w X.K tg J fp it tn) (q:tn 0 d.heap) (j:∀ b∈fp,FpOk X pins H3 b)
  {W:LW} {m0:Nat} (w0:W 0 m0 [] (pick src σ) H3) (D:aix J g tif te a (fun _ H'=>Q (.ref a) H') W) (use:Option (Value->Sem Unit)) (P:Value->Shared->Prop)
  (Z:∀ C H' f m,Inv X pins σ H' f->Q (.ref a) H'->f.heap.Ns C m->H' C=none->C ≠ X.env.locals->(C∈X.ex\/X.s₀.heap.objs.size<=C)->(∀ x c,X.env.cells.lookup x=some c->c ≠ C)->(∀ p∈X.pn ++ pins,p.1 ≠ C) ->
   compPost (model X.prog X.w) X.A X.xe use P (.ref a) C (.ok .next) f) :
  wpAny (model X.prog X.w) X.A (newFunctionEnv sc X.env.globals (clos X.env sc.names []) [] X.env.qual none .none (some X.env)) (fun h s =>
    codeAny (model X.prog X.w) X.A (.compStart (.ListComp elt [⟨tg,iter,ifs,0⟩] sc pos) 0 (.ref it) (.ref a) { h with scope:=relabel sc X.env }) (compPost (model X.prog X.w) X.A X.xe use P (.ref a) h.locals) s) X.xe d:=by
 refine wpAny_newFunctionEnv L.nocell (by intro y hy;simp at hy) (fun M r B=>?_) L.kind
 have S:∀ b∈fp,b < d.heap.objs.size:=fun b hb=>by
  obtain ⟨o,R,_⟩:=T.obj _ _ q b hb
  exact aC6 R
 have n:∀ b o,d.heap.get? b=some o->M.get? b=some o:=fun b o e=>B.extBut b o (aw6 (aC6 e)) (aC5 _ e)
 have H:=aos (t':=d.toks+([]:List (Str × Value)).length) L l j S (by simpa using r) n
 have u:tn 0 M:=T.keep _ _ _ q fun b _ o e=>n b o e
 have f4:∀ b∈fp,FpOk (X.comp N sc d.heap.objs.size d H3 fp) [] H3 b:=fun b hb =>
  ⟨(j b hb).1,(H.ok.exf b hb).1,H.ok.exfs b hb,.inl hb,(H.ok.exf b hb).2,fun p O=>absurd (show p∈([]:List (Addr × Obj)) from O) (by simp)⟩
 have fin:∀ (ys:List V) F H' f,Inv (X.comp N sc d.heap.objs.size d H3 fp) [] F H' f->Q (.ref a) H'->compPost (model X.prog X.w) X.A X.xe use P (.ref a) d.heap.objs.size (.ok .next) f:=fun ys F H' f i q'=>by
  have U:Inv X pins σ H' f:=l.call' (ch:=fp) i.os i.base i.hok i.bare fun b hb=>⟨(j b hb).2.2.2.1,(j b hb).2.1,(j b hb).2.2.2.2.1,(j b hb).2.2.2.2.2⟩
  obtain ⟨m,hn,_⟩:=i.loc
  refine Z _ H' f m U q' hn i.free (Nat.ne_of_gt l.lt) (.inr l.sz) (fun x c e z=>?_) fun p O z=>?_
  ·obtain ⟨v,o,R,_⟩:=l.cell x c e
   exact absurd (aC6 R) (by rw [z];exact aA5 _)
  ·exact absurd (aC6 (l.pin p O).1) (by rw [z];exact aA5 _)
 have loop:codeAny (model X.prog X.w) X.A (.compLoop (.ListComp elt [⟨tg,iter,ifs,0⟩] sc pos) 0 (.ref it) (.ref a) (X.comp N sc d.heap.objs.size d H3 fp).env)
   (compPost (model X.prog X.w) X.A X.xe use P (.ref a) d.heap.objs.size) { d with heap:=M,toks:=d.toks+([]:List (Str × Value)).length } :=
  anc (X:=X.comp N sc d.heap.objs.size d H3 fp) T hc (fun _ _ z=>z) (hg _ _ _ _) (I _ _ _ _) (Y _ _ _ _) D fin H u f4 w0
 exact codeAny_compStart_list loop (T.self _ 0 _ _ _ u loop)
theorem aot (U:X.calm=true) (L:LcOk X N sc src) (hi:PI X tg iter wi) (K:∀ C i j ex,PG (X.comp N sc C i j ex) tg g) (q:∀ C i j ex,PIf (X.comp N sc C i j ex) ifs tif) (E:∀ C i j ex,PE (X.comp N sc C i j ex) elt te)
  {pins:List (Addr × Obj)} {s:Shared} {σ:St} {H:Hp} {Q:VK} (I:Inv X pins σ H s) (h:tLC src wi g tif te σ H Q) (use:Option (Value->Sem Unit)) (P:Value->Shared->Prop)
  (R:∀ l C H' n m,Inv X pins σ H' n->Q (.ref l) H'->n.heap.Ns C m->H' C=none->C ≠ X.env.locals->(C∈X.ex\/X.s₀.heap.objs.size<=C)->(∀ x c,X.env.cells.lookup x=some c->c ≠ C)->(∀ p∈X.pn ++ pins,p.1 ≠ C) ->
   compPost (model X.prog X.w) X.A X.xe use P (.ref l) C (.ok .next) n)
  (S:∀ x,foldedSetIterable iter X.env x=pure x) :
  wpAny (model X.prog X.w) X.A (comprehension (.ListComp elt [⟨tg,iter,ifs,0⟩] sc pos) sc X.env (firstIterPos [⟨tg,iter,ifs,0⟩] pos) (newList []) false (eval iter X.env) use) P X.xe s:=by
 refine wpAny_comprehension_free rfl S (L.clo I.ok) L.kind L.own (thn (hi pins s σ H _ I h) fun v s1 B=>thn B fun G s2 D=>?_)
 obtain ⟨it,fp,tn,J,H2,e,y,T,d,z,M⟩:=D
 subst e
 have a:H2 s2.heap.objs.size=none:=y.hok.fresh (av6 _)
 obtain ⟨W,⟨Y,F⟩,f⟩:=M s2.heap.objs.size a
 have r:∀ b∈fp,b < s2.heap.objs.size:=fun b hb=>by
  obtain ⟨o,O,_⟩:=T.obj _ _ d b hb
  exact aC6 O
 refine aD0 ?_
 refine aq2 U L K q E (H3:=upd H2 s2.heap.objs.size (.lst [])) ?_ T ?_ ?_ F f use P (R _)
 ·exact y.laid (t':=s2.toks) (fun b u e=>aC5 _ e) (av6 _) ⟨aA1 _,[],0,.nil,aC7 _ rfl⟩
 ·exact T.keep _ _ _ d fun b _ o e=>aC5 _ e
 ·exact fun b hb=>⟨by rw [aac (aw6 (r b hb))];exact (z b hb).1,(z b hb).2⟩
theorem acd (u:X.calm=true) (L:LcOk X N sc src) (hi:PI X tg iter wi) (p:∀ C a c ex,PG (X.comp N sc C a c ex) tg g) (d:∀ C a c ex,PIf (X.comp N sc C a c ex) ifs tif) (l:∀ C a c ex,PE (X.comp N sc C a c ex) elt te)
  (v:∀ x,foldedSetIterable iter X.env x=pure x:=by intro _;rfl):PE X (.ListComp elt [⟨tg,iter,ifs,0⟩] sc pos) (tLC src wi g tif te):=by
 intro pins s σ H Q I h
 rw [eval_ListComp]
 refine aot u L hi p d l I h none _ (fun i C H' j m J q hn r y n f w=>?_) v
 refine ⟨m,hn,fun h' sb=>⟨.ref i,H',?_,rfl,q⟩⟩
 exact J.turned (t':=j.toks) (fun b o hb e=>sb.extBut b o hb e) r y n f w
end
section
variable {X:Cx} {N:List Str} {tg iter elt:Expr} {ifs:List Expr} {sc:Scope} {src:List (Option Nat)} {wi:TI} {g:TG} {tif:TT} {te:TE} {pos spos px:Pos}
end
section
variable {g:TG} {tif:TT} {te:TE} {acc:Addr} {Qd:List V->Hp->Prop} {σ0:St} {H0:Hp}
end
section
variable {X:Cx} {N:List Str} {t1 i1 t2 i2 elt:Expr} {f1 f2:List Expr} {sc:Scope} {src:List (Option Nat)} {wi wi2:TI} {g g2:TG} {tif tif2:TT} {te:TE} {pos:Pos}
end
def rLen (K:Frag):List V->Hp->VK->Prop:=fun xs H Q=>∃ p ys,xs=[.ref p]/\(SqL K H p ys\/SqT K H p ys)/\Q (.int ys.length) H
theorem acj {X:Cx}:aa2 X (.builtin "len") (rLen X.K):=ais
def ah9:List V->Hp->VK->Prop:=fun xs H Q=>∃ i j,xs=[.int i,.int j]/\Q (.int (if j > i then j else i)) H
def aia:List V->Hp->VK->Prop:=fun xs H Q=>∃ i j,xs=[.int i,.int j]/\Q (.int (if j < i then j else i)) H
theorem adv {X:Cx} (a:X.calm=true):aa2 X (.builtin "max") ah9:=amz a
theorem adw {X:Cx} (a:X.calm=true):aa2 X (.builtin "min") aia:=am0 a
def aib:List V->Hp->VK->Prop:=fun xs H Q=>(∃ i,xs=[.int i]/\Q (.int i) H)\/∃ k,xs=[.bl k]/\Q (.int (if k then 1 else 0)) H
theorem alw {X:Cx}:aa2 X (.type "int") aib:=am1
section
variable {σ:St} {H:Hp} {D:Ends} {K:Frag}
theorem akx {i:Nat} {v:V} {Q:St->Hp->Prop} (h:Q (σ.set i (some v)) H):aax i v σ H Q:=h
theorem ane {i j:Int} {Q:VK} (h:Q (.bl (decide (i=j))) H):rEq (.int i) (.int j) H Q:=by
 have e:decide (V.int i=V.int j)=decide (i=j):=by rw [aev];exact Bool.beq_eq_decide_eq i j
 exact ⟨rfl,by rw [e];exact h⟩
theorem atj {i j:Int} {Q:VK} (h:Q (.bl (!decide (i=j))) H):rNe (.int i) (.int j) H Q:=by
 have e:decide (V.int i=V.int j)=decide (i=j):=by rw [aev];exact Bool.beq_eq_decide_eq i j
 exact ⟨rfl,by rw [e];exact h⟩
theorem atk {a:Addr} {xs:List V} {i:Int} {v:V} {Q:VK} (ha:H a=some (.lst xs)) (b:atI xs i=some v) (h:Q v H):rIxL K (.ref a) (.int i) H Q:=⟨a,xs,i,v,rfl,rfl,SqL.of ha,b,h⟩
theorem atl {a:Addr} {xs:List V} {i:Int} {v:V} {Q:VK} (ha:H a=some (.tup xs)) (b:atI xs i=some v) (h:Q v H):rIxT K (.ref a) (.int i) H Q:=⟨a,xs,i,v,rfl,rfl,SqT.of ha,b,h⟩
theorem ahb {a:Addr} {xs:List V} {y:V} {Q:VK} (ha:H a=some (.lst xs)) (b:xs.length < sizeLine) (h:Q .non (upd H a (.lst (xs ++ [y])))):agi (.ref a) [y] H Q:=⟨a,xs,y,rfl,rfl,ha,b,h⟩
theorem anf {a b:Addr} {xs c:List V} {Q:VK} (ha:H a=some (.lst xs)) (hb:H b=some (.lst c)) (d:xs.length+c.length<=sizeLine) (h:Q .non (upd H a (.lst (xs ++ c)))):agj (.ref a) [.ref b] H Q:=⟨a,b,xs,c,rfl,rfl,ha,hb,d,h⟩
theorem atm {a b:Addr} {xs c:List V} {Q:VK} (ha:H a=some (.lst xs)) (hb:H b=some (.lst c)) (d:xs.length+c.length<=sizeLine) (h:∀ p,H p=none->Q (.ref p) (upd H p (.lst (xs ++ c)))):rCat (.ref a) (.ref b) H Q:=⟨a,b,xs,c,rfl,rfl,ha,hb,d,h⟩
theorem aky {a:Addr} {xs:List V} {Q:VK} (ha:H a=some (.lst xs)) (h:Q (.int xs.length) H):rLen K [.ref a] H Q:=⟨a,xs,rfl,.inl (SqL.of ha),h⟩
theorem aq3 {a:Addr} {xs:List V} {Q:VK} (ha:H a=some (.tup xs)) (h:Q (.int xs.length) H):rLen K [.ref a] H Q:=⟨a,xs,rfl,.inr (SqT.of ha),h⟩
theorem akz {i j:Int} {Q:VK} (h:Q (.int (if j > i then j else i)) H):ah9 [.int i,.int j] H Q:=⟨i,j,rfl,h⟩
theorem ak0 {i j:Int} {Q:VK} (h:Q (.int (if j < i then j else i)) H):aia [.int i,.int j] H Q:=⟨i,j,rfl,h⟩
theorem ak1 {k:Bool} {Q:VK} (h:Q (.int (if k then 1 else 0)) H):aib [.bl k] H Q:=.inr ⟨k,rfl,h⟩
theorem agk {c:Prop} [Decidable c] {A B:Prop} (a:c) (h:A):if decide c=true then A else B:=by rw [ay6 a];exact iteT h
theorem aez {c:Prop} [Decidable c] {A B:Prop} (a:¬ c) (h:B):if decide c=true then A else B:=by rw [ay5 a];exact iteF h
theorem ab8 {c:Prop} [Decidable c] {A B:Prop} (a:c->A) (b:¬ c->B):if decide c=true then A else B:=by
 by_cases hc:c
 ·exact agk hc (a hc)
 ·exact aez hc (b hc)
theorem ak2 {c:Prop} [Decidable c] {A B:Prop} (a:¬ c->A) (b:c->B):if (!decide c)=true then A else B:=by
 by_cases hc:c
 ·rw [ay6 hc];exact iteF (b hc)
 ·rw [ay5 hc];exact iteT (a hc)
theorem at1 {x y:V} {xs:List V}:atI (x :: y :: xs) 1=some y:=agh (j:=1) rfl
end
structure CallOk (P:Program) (w:World) (K:Frag) (mg:Str->Option Value) (base:Heap) (x:Str) (k:Nat) (ps:List Str) (sp:Sp) (f:Addr) (fd:FuncData):Prop where
 ok:FnOk P w K mg base CX0 k f fd ps sp
 mgx:mg x=some (.ref f)
 kp:keepIn K (.ref f)=true
 bd:Binds K fd ps []
def Can (P:Program) (w:World) (K:Frag) (mg:Str->Option Value) (base:Heap) (x:Str) (k:Nat) (ps:List Str) (sp:Sp):Prop:=∃ f fd,CallOk P w K mg base x k ps sp f fd
structure DefAt (K:Frag) (mg:Str->Option Value) (x:Str) (st:Stmt) (ps:List Str) (f:Addr) (fd:FuncData):Prop where
 fn:Fun K x x st f fd
 mgx:mg x=some (.ref f)
 bd:Binds K fd ps []
theorem DefAt.can {P:Program} {w:World} {K:Frag} {mg:Str->Option Value} {base:Heap} {x:Str} {st:Stmt} {k:Nat} {ps:List Str} {sp:Sp} {f:Addr} {fd:FuncData} (D:DefAt K mg x st ps f fd) (ok:FnOk P w K mg base CX0 k f fd ps sp):Can P w K mg base x k ps sp :=
 ⟨f,fd,ok,D.mgx,D.fn.kp,D.bd⟩
section
variable {X:Cx} {k j:Nat} {ps:List Str} {sp:Sp} {x:Str} {p pos:Pos} {e:Expr} {es:List Expr} {t:TA}
theorem aan (F:Can X.prog X.w X.K X.mg X.base x k ps sp) (h:Room j X.A) (ha:PA X (e :: es) t) (c:k<=j:=by decide) (d:Gl X x:=by rfl) (b:(x == ("__debug__" : Str))=false:=by decide)
  (g:starEach (e :: es) X.env=(false,eval e X.env) :: starEach es X.env:=by rfl) (a:(backTo pos (starEach es X.env)).any (·.1)=false:=by rfl) :
  PE X (.Call (.Name x p) (e :: es) [] pos) (acb sp [] E0 t):=by
 obtain ⟨f,fd,C⟩:=F
 exact aqy C.ok (h.mono c) d C.mgx C.kp C.bd .nil auz ha b g a
end
theorem abw {X:Cx} {N:List Str} {sc:Scope} {src:List (Option Nat)} (b:sc.kind=.function) (f:sc.names.all (fun y=>y.2 != .cell)=true) (c:sc.names.all (fun y=>y.2 != .local || sc.names.lookup y.1 == some .local)=true)
  (g:sc.names.all (fun y=>y.2 != .free || X.env.kindOf y.1 == some .cell || X.env.kindOf y.1 == some .free)=true) (d:src.length=N.length)
  (h:(List.range src.length).all (fun i=>match src[i]? with | some (some j)=>(match N[i]?,X.N[j]? with | some x,some y=>x == y && sc.names.lookup x == some .free | _,_=>false) | _=>true)=true):LcOk X N sc src:=by
 refine ⟨b,fun y a e=>?_,fun y a e=>?_,fun y a e=>?_,d,fun i j e=>?_⟩
 ·have:=az6.mp f y a
  rw [e] at this
  exact absurd this (by decide)
 ·have:=az6.mp c y a
  rw [e] at this
  simpa using this
 ·have:=az6.mp g y a
  rw [e] at this
  simpa using this
 ·have hi:i < src.length:=(av1.mp e).1
  have:=az6.mp h i (aw9.mpr hi)
  rw [e] at this
  dsimp only at this
  cases h7:N[i]? with
  | none=>rw [h7] at this;cases this
  | some x =>
   cases h8:X.N[j]? with
   | none=>rw [h7,h8] at this;cases this
   | some y =>
    rw [h7,h8] at this
    simp only [aB2] at this
    have l:x=y:=by simpa using this.1
    subst l
    exact ⟨x,rfl,rfl,by simpa using this.2⟩
section
variable {σ:St} {H:Hp} {D:Ends} {K:Frag}
theorem atn {a:Addr} {xs:List V} {i:Int} {v:V} {Q:VK} (ha:SqL K H a xs) (b:atI xs i=some v) (h:Q v H):rIxL K (.ref a) (.int i) H Q:=⟨a,xs,i,v,rfl,rfl,ha,b,h⟩
theorem aq4 {a:Addr} {xs:List V} {Q:VK} (ha:SqL K H a xs) (h:Q (.int xs.length) H):rLen K [.ref a] H Q:=⟨a,xs,rfl,.inl ha,h⟩
end
end L2
namespace L2
open PySem
theorem ac1:bootBuiltins "len" = some (.builtin "len"):=by decide +kernel
theorem aiy:bootBuiltins "max" = some (.builtin "max"):=by decide +kernel
theorem aiz:bootBuiltins "min" = some (.builtin "min"):=by decide +kernel
theorem ang:bootBuiltins "sorted" = some (.builtin "sorted"):=by decide +kernel
theorem aay:bootBuiltins "isinstance" = some (.builtin "isinstance"):=by decide +kernel
theorem ai0:bootBuiltins "all" = some (.builtin "all"):=by decide +kernel
theorem ai1:bootBuiltins "int" = some (.type "int"):=by decide +kernel
theorem agl:bootBuiltins "list" = some (.type "list"):=by decide +kernel
theorem aq5:bootBuiltins "dict" = some (.type "dict"):=by decide +kernel
theorem ac5:bootBuiltins "tuple" = some (.type "tuple"):=by decide +kernel
theorem aq6:bootBuiltins "bool" = some (.type "bool"):=by decide +kernel
theorem aeg:bootBuiltins "str" = some (.type "str"):=by decide +kernel
end L2
namespace TS
open PySem PyProof.Rows
def agm:Bool->Keyed->Array Keyed->Nat->Nat->Nat->StateT SortSt Sem (Option Nat):=sortPriv% PySem.Builtin.gallop
def aou:Array Keyed->Array Keyed->StateT SortSt Sem (Array Keyed):=sortPriv% PySem.Builtin.mergeLo
def aov:Array Keyed->Array Keyed->StateT SortSt Sem (Array Keyed):=sortPriv% PySem.Builtin.mergeHi
def ai2:Nat->StateT SortSt Sem Bool:=sortPriv% PySem.Builtin.mergeAt
def aq7:Nat->Nat->StateT SortSt Sem (Option Nat):=sortPriv% PySem.Builtin.countRun
def aow:Nat->Nat->Nat->StateT SortSt Sem Bool:=sortPriv% PySem.Builtin.binarySort
def au0:StateT SortSt Sem Unit:=sortPriv% PySem.Builtin.sortRuns
structure Cmp (M:Model) (A:Around) (E:Value->Shared->Prop) (s:Shared) (κ:SortKind) (S:Keyed->Prop) (R:Keyed->Keyed->Bool):Prop where
 ask:∀ x y,S x->S y->∀ (Q:Option Bool->SortSt->Prop) (st:SortSt),kindOf st = κ->Q (some (R x y)) st->wpS M A E s (lt' x y) Q st
 asy:∀ x y,S x->S y->R x y=true->R y x=false
 tr:∀ x y z,S x->S y->S z->R y x=false->R z y=false->R z x=false
section
variable {M:Model} {A:Around} {E:Value->Shared->Prop} {s:Shared} {κ:SortKind} {S:Keyed->Prop} {R:Keyed->Keyed->Bool}
theorem aap {arr:Array Keyed} {i:Nat} {x:Keyed} {Q:Keyed->SortSt->Prop} {st:SortSt} (a:arr[i]?=some x) (h:Q x st):wpS M A E s (elem' arr i) Q st:=by
 rw [elem'_eq,a]
 exact wpS_pure h
theorem aca {x:String} {Q:Unit->SortSt->Prop} {st:SortSt} (h:Q () st):wpS M A E s (liftM (PySem.rule x):StateT SortSt Sem Unit) Q st :=
 wpS_lift (wpAny_rule ⟨rfl,h⟩)
def bey (left:Bool) (key:Keyed) (arr:Array Keyed) (base i:Nat):StateT SortSt Sem (Option Bool):=do
 let x ← elem' arr (base+i)
 if left=true then lt' x key else do
  let r ← lt' key x
  pure (Option.map (fun b => !b) r)
theorem ahc {left:Bool} {p:Keyed} {arr:Array Keyed} {base n a:Nat} {B:Nat->Bool}
  (hb:∀ i,i < n->∀ (Q:Option Bool->SortSt->Prop) (st:SortSt),kindOf st = κ->Q (some (B i)) st->wpS M A E s (bey left p arr base i) Q st)
  (mono:∀ i j,i < j->j < n->B j=true->B i=true) (hh:a < n) {Q:Option Nat->SortSt->Prop} {st:SortSt} (x:kindOf st = κ)
  (h:∀ k,k<=n->(∀ i,i < k->B i=true)->(∀ i,k<=i->i < n->B i=false)->Q (some k) st):wpS M A E s (agm left p arr base n a) Q st:=by
 have c:∀ i j,i < j->j < n->B i=false->B j=false:=fun i j y J hi=>by
  cases e:B j with
  | false=>rfl
  | true=>rw [mono i j y J e] at hi;cases hi
 -- the last loop
 have last:∀ (lo hi:Nat) (F:Option (Option Nat) × Nat × Nat->StateT SortSt Sem (Option Nat)),lo<=hi->hi<=n->(∀ i,i < lo->B i=true)->(∀ i,hi<=i->i < n->B i=false) ->
   (∀ lo hi,F (none,lo,hi)=pure (some hi)) ->
   wpS M A E s (forIn [:n] ((none,lo,hi):Option (Option Nat) × Nat × Nat) (fun (_:Nat) z=>if z.2.1 ≥ z.2.2 then pure (ForInStep.done (none,z.2.1,z.2.2)) else bey left p arr base (z.2.1+(z.2.2 - z.2.1) / 2) >>= fun r=>match r with
    | some more=>if more=true then pure (ForInStep.yield (none,z.2.1+(z.2.2 - z.2.1) / 2+1,z.2.2)) else pure (ForInStep.yield (none,z.2.1,z.2.1+(z.2.2 - z.2.1) / 2))
    | _=>pure (ForInStep.done (some none,z.2.1,z.2.2))) >>= F) Q st:=by
  intro lo hi F G I H L C
  refine wpS_bind (wpS_forRange (fun t z st'=>st'=st/\z.1=none/\z.2.1<=z.2.2/\z.2.2<=n/\z.2.2 - z.2.1+t<=n/\(∀ i,i < z.2.1->B i=true)/\(∀ i,z.2.2<=i->i < n->B i=false)) ?_ ?_ ⟨rfl,rfl,G,I,by dsimp only;omega,H,L⟩)
  ·rintro t ⟨o,l,u⟩ st' _ D ⟨rfl,e,q,d,b,g,w⟩
   dsimp only at e q d b g w ⊢
   subst e
   by_cases hlu:l ≥ u
   ·rw [az7 hlu]
    have:l=u:=by omega
    subst this
    exact wpS_pure (by dsimp only;rw [C];exact wpS_pure (h l d g w))
   ·rw [az8 hlu]
    have hm:l+(u - l) / 2 < u:=by omega
    refine wpS_bind (hb _ (by omega) _ _ x ?_)
    dsimp only
    cases e:B (l+(u - l) / 2) with
    | true =>
     rw [az7 rfl]
     refine wpS_pure ⟨rfl,rfl,by dsimp only;omega,d,by dsimp only;omega,fun i hi=>?_,w⟩
     dsimp only at hi
     by_cases hi2:i=l+(u - l) / 2
     ·rw [hi2];exact e
     ·exact mono i _ (by omega) (by omega) e
    | false =>
     rw [az8 (by simp)]
     refine wpS_pure ⟨rfl,rfl,by dsimp only;omega,by dsimp only;omega,by dsimp only;omega,g,fun i hi hn=>?_⟩
     dsimp only at hi
     by_cases hi2:i=l+(u - l) / 2
     ·rw [hi2];exact e
     ·exact c _ i (by omega) hn e
  ·rintro ⟨o,l,u⟩ st' ⟨rfl,e,q,d,b,g,w⟩
   dsimp only at e q d b g w ⊢
   subst e
   have : l = u := by have:n ≤ max 0 n := by omega
                      omega
   subst this
   rw [C]
   exact wpS_pure (h l d g w)
 refine wpS_bind (f:=fun K=>_) (m:=bey left p arr base a) (hb a hh _ st x ?_)
 dsimp only
 cases e0:B a with
 | true =>
  rw [az7 rfl]
  refine wpS_bind ?_
  refine wpS_forRange (fun t (z:Option (Option Nat) × Nat × Nat) st'=>st'=st/\z.1=none/\z.2.1 < z.2.2/\a+z.2.1 < n/\B (a+z.2.1)=true/\t+1<=z.2.2) ?_ ?_ ⟨rfl,rfl,by decide,by dsimp only;omega,e0,Nat.le_refl _⟩
  ·rintro t ⟨o,l,u⟩ st' _ D ⟨rfl,e,q,d,b,g⟩
   dsimp only at e q d b g ⊢
   subst e
   by_cases hu:u ≥ n - a
   ·rw [az7 hu]
    refine wpS_pure ?_
    dsimp only
    refine last _ _ _ (by omega) (by omega) (fun i hi=>?_) (fun i hi hn=>by omega) (fun _ _=>rfl)
    by_cases hi2:i=a+l
    ·rw [hi2];exact b
    ·exact mono i _ (by omega) d b
   ·rw [az8 hu]
    refine wpS_bind (m:=bey left p arr base (a+u)) (hb _ (by omega) _ _ x ?_)
    dsimp only
    cases e1:B (a+u) with
    | true =>
     rw [az8 (by decide)]
     exact wpS_pure ⟨rfl,rfl,by dsimp only;omega,by dsimp only;omega,e1,by dsimp only;omega⟩
    | false =>
     rw [az7 (by decide)]
     refine wpS_pure ?_
     dsimp only
     refine last _ _ _ (by omega) (by omega) (fun i hi=>?_) (fun i hi hn=>?_) (fun _ _=>rfl)
     ·by_cases hi2:i=a+l
      ·rw [hi2];exact b
      ·exact mono i _ (by omega) d b
     ·by_cases hi2:i=a+u
      ·rw [hi2];exact e1
      ·exact c _ i (by omega) hn e1
  ·rintro ⟨o,l,u⟩ st' ⟨rfl,e,q,d,b,g⟩
   dsimp only at e q d b g ⊢
   subst e
   dsimp only
   refine last _ _ _ (by omega) (by omega) (fun i hi=>?_) (fun i hi hn=>by omega) (fun _ _=>rfl)
   by_cases hi2:i=a+l
   ·rw [hi2];exact b
   ·exact mono i _ (by omega) d b
 | false =>
  rw [az8 (by decide)]
  refine wpS_bind ?_
  refine wpS_forRange (fun t (z:Option (Option Nat) × Nat × Nat) st'=>st'=st/\z.1=none/\z.2.1 < z.2.2/\z.2.1<=a/\B (a - z.2.1)=false/\t+1<=z.2.2) ?_ ?_ ⟨rfl,rfl,by decide,aA1 _,e0,av6 _⟩
  ·rintro t ⟨o,l,u⟩ st' _ D ⟨rfl,e,q,d,b,g⟩
   dsimp only at e q d b g ⊢
   subst e
   have v:∀ i,a - l<=i->i < n->B i=false:=fun i hi hn=>by
    by_cases hi2:i=a - l
    ·rw [hi2];exact b
    ·exact c _ i (by omega) hn b
   by_cases hu:u ≥ a+1
   ·rw [az7 hu]
    refine wpS_pure ?_
    dsimp only
    exact last _ _ _ (by omega) (by omega) (fun i hi=>by omega) v (fun _ _=>rfl)
   ·rw [az8 hu]
    refine wpS_bind (m:=bey left p arr base (a - u)) (hb _ (by omega) _ _ x ?_)
    dsimp only
    cases e1:B (a - u) with
    | true =>
     rw [az7 rfl]
     refine wpS_pure ?_
     dsimp only
     refine last _ _ _ (by omega) (by omega) (fun i hi=>?_) v (fun _ _=>rfl)
     by_cases hi2:i=a - u
     ·rw [hi2];exact e1
     ·exact mono i _ (by omega) (by omega) e1
    | false =>
     rw [az8 (by decide)]
     exact wpS_pure ⟨rfl,rfl,by dsimp only;omega,by dsimp only;omega,e1,by dsimp only;omega⟩
  ·rintro ⟨o,l,u⟩ st' ⟨rfl,e,q,d,b,g⟩
   dsimp only at e q d b g ⊢
   subst e
   dsimp only
   refine last _ _ _ (by omega) (by omega) (fun i hi=>by omega) (fun i hi hn=>?_) (fun _ _=>rfl)
   by_cases hi2:i=a - l
   ·rw [hi2];exact b
   ·exact c _ i (by omega) hn b
end
def Srt (R:Keyed->Keyed->Bool) (l:List Keyed):Prop:=l.Pairwise fun x y=>R y x=false
structure Mid (R:Keyed->Keyed->Bool) (L out a b:List Keyed):Prop where
 perm:(out ++ a ++ b).Perm L
 so:Srt R out
 le:∀ x∈out,∀ y∈a ++ b,R y x=false
 sa:Srt R a
 sb:Srt R b
section
variable {R:Keyed->Keyed->Bool} {L out a b p:List Keyed}
theorem Mid.takeA (m:Mid R L out (p ++ a) b) (h:∀ x∈p,∀ y∈b,R y x=false):Mid R L (out ++ p) a b:=by
 have sp:=ax9.mp m.sa
 refine ⟨by have:=m.perm;rw [← aw4] at this;exact this,ax9.mpr ⟨m.so,sp.1,fun x d y c=>m.le x d y (ax7 _ (ax7 _ c))⟩,fun x d y c=>?_,sp.2.1,m.sb⟩
 rcases av7.mp d with d | d
 ·refine m.le x d y ?_
  rcases av7.mp c with c | c
  ·exact ax7 _ (aw3 _ c)
  ·exact aw3 _ c
 ·rcases av7.mp c with c | c
  ·exact sp.2.2 x d y c
  ·exact h x d y c
theorem Mid.takeB (m:Mid R L out a (p ++ b)) (h:∀ x∈p,∀ y∈a,R y x=false):Mid R L (out ++ p) a b:=by
 have sp:=ax9.mp m.sb
 refine ⟨List.Perm.trans ?_ m.perm,ax9.mpr ⟨m.so,sp.1,fun x d y c=>m.le x d y (aw3 _ (ax7 _ c))⟩,fun x d y c=>?_,m.sa,sp.2.1⟩
 ·rw [← aw4 (out ++ a) p b]
  refine List.Perm.append_right b ?_
  rw [aw4,aw4]
  exact List.Perm.append_left out List.perm_append_comm
 ·rcases av7.mp d with d | d
  ·refine m.le x d y ?_
   rcases av7.mp c with c | c
   ·exact ax7 _ c
   ·exact aw3 _ (aw3 _ c)
  ·rcases av7.mp c with c | c
   ·exact h x d y c
   ·exact sp.2.2 x d y c
theorem Mid.done (m:Mid R L out a b) (h:a=[]\/b=[]):(out ++ a ++ b).Perm L/\Srt R (out ++ a ++ b):=by
 refine ⟨m.perm,?_⟩
 rw [aw4]
 refine ax9.mpr ⟨m.so,?_,m.le⟩
 rcases h with h | h
 ·subst h;exact m.sb
 ·subst h;rw [az3];exact m.sa
theorem Mid.last (m:Mid R L out a b) (h:∀ y∈b,∀ x∈a,R x y=false):(out ++ b ++ a).Perm L/\Srt R (out ++ b ++ a):=by
 refine ⟨List.Perm.trans ?_ m.perm,?_⟩
 ·rw [aw4,aw4]
  exact List.Perm.append_left out List.perm_append_comm
 ·rw [aw4]
  refine ax9.mpr ⟨m.so,ax9.mpr ⟨m.sb,m.sa,h⟩,fun x d y c=>m.le x d y ?_⟩
  rcases av7.mp c with c | c
  ·exact aw3 _ c
  ·exact ax7 _ c
end
structure Eqv (st st':SortSt):Prop where
 k:kindOf st'=kindOf st
 a:arrOf st'=arrOf st
 p:pendingOf st'=pendingOf st
 f:failedOf st'=failedOf st
theorem Eqv.refl (st:SortSt):Eqv st st:=⟨rfl,rfl,rfl,rfl⟩
theorem Eqv.trans {a b c:SortSt} (h:Eqv a b) (g:Eqv b c):Eqv a c:=⟨g.k.trans h.k,g.a.trans h.a,g.p.trans h.p,g.f.trans h.f⟩
theorem ae0 (a:Array Keyed) (i:Nat):(a.extract i a.size).toList=a.toList.drop i:=by
 rw [Array.toList_extract];simp only [List.extract_eq_take_drop];exact az4 (by simp)
theorem agn (a:Array Keyed) (i k:Nat):(a.extract i (i+k)).toList=(a.toList.drop i).take k:=by
 rw [Array.toList_extract];simp [List.extract]
theorem aa6 {a:Array Keyed} {i:Nat} (h:i < a.size):a.toList.drop i=a[i] :: a.toList.drop (i+1):=by
 rw [List.drop_eq_getElem_cons (by simpa using h)];simp
section
variable {M:Model} {A:Around} {E:Value->Shared->Prop} {s:Shared} {κ:SortKind} {S:Keyed->Prop} {R:Keyed->Keyed->Bool}
theorem Cmp.irr {x:Keyed} (C:Cmp M A E s κ S R) (a:S x):R x x=false:=by
 cases e:R x x with
 | false=>rfl
 | true=>have:=C.asy x x a a e;rw [e] at this;cases this
theorem aeh (C:Cmp M A E s κ S R) {b:Keyed} {arr:Array Keyed} {base n g:Nat} (l:S b) (P:∀ x∈arr.toList,S x) (hn:base+n<=arr.size) (U:Srt R ((arr.toList.drop base).take n)) (hh:g < n)
  {Q:Option Nat->SortSt->Prop} {st:SortSt} (T:kindOf st = κ)
  (h:∀ k,k<=n->(∀ x∈(arr.toList.drop base).take k,R b x=false)->(∀ x∈((arr.toList.drop base).take n).drop k,R b x=true)->Q (some k) st) :
  wpS M A E s (agm false b arr base n g) Q st:=by
 have a:∀ i,i < n->∃ x,arr[base+i]?=some x/\S x/\((arr.toList.drop base).take n)[i]?=some x:=fun i hi=>by
  have p:base+i < arr.size:=by omega
  refine ⟨arr[base+i],av4 p,P _ (by simp),?_⟩
  rw [aB5 hi,aC0]
  simp [p]
 have m:∀ i j x y,i < j->j < n->arr[base+i]?=some x->arr[base+j]?=some y->R y x=false:=fun i j x y o r ex O=>by
  obtain ⟨Y,d,_,c⟩:=a i (by omega)
  obtain ⟨Z,F,_,u⟩:=a j r
  rw [ex] at d;cases d
  rw [O] at F;cases F
  obtain ⟨L,c⟩:=av1.mp c
  obtain ⟨H,u⟩:=av1.mp u
  have:=aA8.mp U i j L H o
  rw [c,u] at this
  exact this
 refine ahc (κ:=κ) (B:=fun i=>match arr[base+i]? with | some x => !(R b x) | none=>false) (fun i hi X st' w G=>?_) (fun i j o r q=>?_) hh T fun k z I J=>h k z (fun x v=>?_) fun x v=>?_
 ·obtain ⟨x,d,D,_⟩:=a i hi
  unfold bey
  refine wpS_bind (aap d ?_)
  rw [az8 (by decide)]
  refine wpS_bind (C.ask _ _ l D _ _ w ?_)
  refine wpS_pure ?_
  simp only [d] at G
  exact G
 ·obtain ⟨x,d,D,_⟩:=a i (by omega)
  obtain ⟨y,c,K,_⟩:=a j r
  simp only [d,c] at q ⊢
  have N:=m i j x y o r d c
  have W:R b y=false:=by simpa using q
  have:=C.tr x y b D K l N W
  simp [this]
 ·obtain ⟨i,hi,e⟩:=List.getElem_of_mem v
  have f:i < k:=by rw [aB1] at hi;omega
  obtain ⟨y,d,_,c⟩:=a i (by omega)
  have hb:=I i f
  simp only [d] at hb
  have ex:x=y:=by
   have:((arr.toList.drop base).take k)[i]?=some x:=by rw [av0 hi,e]
   rw [aB5 f] at this
   rw [aB5 (by omega)] at c
   rw [this] at c;exact ax6 c
  subst ex
  simpa using hb
 ·obtain ⟨i,hi,e⟩:=List.getElem_of_mem v
  have f:k+i < n:=by rw [List.length_drop,aB1] at hi;omega
  obtain ⟨y,d,_,c⟩:=a (k+i) f
  have hb:=J (k+i) (by omega) f
  simp only [d] at hb
  have ex:x=y:=by
   have:(((arr.toList.drop base).take n).drop k)[i]?=some x:=by rw [av0 hi,e]
   rw [aC0] at this
   rw [this] at c;exact ax6 c
  subst ex
  simpa using hb
theorem afe (C:Cmp M A E s κ S R) {b:Keyed} {arr:Array Keyed} {base n g:Nat} (l:S b) (P:∀ x∈arr.toList,S x) (hn:base+n<=arr.size) (U:Srt R ((arr.toList.drop base).take n)) (hh:g < n)
  {Q:Option Nat->SortSt->Prop} {st:SortSt} (T:kindOf st = κ)
  (h:∀ k,k<=n->(∀ x∈(arr.toList.drop base).take k,R x b=true)->(∀ x∈((arr.toList.drop base).take n).drop k,R x b=false)->Q (some k) st) :
  wpS M A E s (agm true b arr base n g) Q st:=by
 have a:∀ i,i < n->∃ x,arr[base+i]?=some x/\S x/\((arr.toList.drop base).take n)[i]?=some x:=fun i hi=>by
  have q:base+i < arr.size:=by omega
  refine ⟨arr[base+i],av4 q,P _ (by simp),?_⟩
  rw [aB5 hi,aC0]
  simp [q]
 have m:∀ i j x y,i < j->j < n->arr[base+i]?=some x->arr[base+j]?=some y->R y x=false:=fun i j x y p r ex O=>by
  obtain ⟨X,d,_,c⟩:=a i (by omega)
  obtain ⟨Y,F,_,u⟩:=a j r
  rw [ex] at d;cases d
  rw [O] at F;cases F
  obtain ⟨L,c⟩:=av1.mp c
  obtain ⟨H,u⟩:=av1.mp u
  have:=aA8.mp U i j L H p
  rw [c,u] at this
  exact this
 refine ahc (κ:=κ) (B:=fun i=>match arr[base+i]? with | some x=>R x b | none=>false) (fun i hi W st' w G=>?_) (fun i j p r o=>?_) hh T fun k z I J=>h k z (fun x v=>?_) fun x v=>?_
 ·obtain ⟨x,d,D,_⟩:=a i hi
  unfold bey
  refine wpS_bind (aap d ?_)
  rw [az7 rfl]
  simp only [d] at G
  exact C.ask _ _ D l _ _ w G
 ·obtain ⟨x,d,D,_⟩:=a i (by omega)
  obtain ⟨y,c,K,_⟩:=a j r
  simp only [d,c] at o ⊢
  have N:=m i j x y p r d c
  cases e:R x b with
  | true=>rfl
  | false =>
   have:=C.tr b x y l D K e N
   rw [this] at o;cases o
 ·obtain ⟨i,hi,e⟩:=List.getElem_of_mem v
  have f:i < k:=by rw [aB1] at hi;omega
  obtain ⟨y,d,_,c⟩:=a i (by omega)
  have hb:=I i f
  simp only [d] at hb
  have ex:x=y:=by
   have:((arr.toList.drop base).take k)[i]?=some x:=by rw [av0 hi,e]
   rw [aB5 f] at this
   rw [aB5 (by omega)] at c
   rw [this] at c;exact ax6 c
  subst ex
  exact hb
 ·obtain ⟨i,hi,e⟩:=List.getElem_of_mem v
  have f:k+i < n:=by rw [List.length_drop,aB1] at hi;omega
  obtain ⟨y,d,_,c⟩:=a (k+i) f
  have hb:=J (k+i) (by omega) f
  simp only [d] at hb
  have ex:x=y:=by
   have:(((arr.toList.drop base).take n).drop k)[i]?=some x:=by rw [av0 hi,e]
   rw [aC0] at this
   rw [this] at c;exact ax6 c
  subst ex
  exact hb
end
section
variable {M:Model} {A:Around} {E:Value->Shared->Prop} {s:Shared} {κ:SortKind} {S:Keyed->Prop} {R:Keyed->Keyed->Bool}
structure Two (S:Keyed->Prop) (R:Keyed->Keyed->Bool) (a b:Array Keyed):Prop where
 ha:∀ x∈a.toList,S x
 hb:∀ x∈b.toList,S x
 sa:Srt R a.toList
 sb:Srt R b.toList
 a0:0 < a.size
 b0:0 < b.size
 first:∀ x∈a.toList,∀ y,b[0]?=some y->R x y=false
 last:∀ y∈b.toList,∀ x,a[a.size - 1]?=some x->R x y=false
def Fin2 (R:Keyed->Keyed->Bool) (a b m:Array Keyed):Prop:=m.toList.Perm (a.toList ++ b.toList)/\Srt R m.toList
structure Lo (S:Keyed->Prop) (R:Keyed->Keyed->Bool) (a b out:Array Keyed) (ia ib:Nat):Prop where
 mid:Mid R (a.toList ++ b.toList) out.toList (a.toList.drop ia) (b.toList.drop ib)
 ia:ia<=a.size
 ib:ib<=b.size
theorem Lo.len {a b out:Array Keyed} {ia ib:Nat} (l:Lo S R a b out ia ib):out.size+(a.size - ia)+(b.size - ib)=a.size+b.size:=by
 have:=l.mid.perm.length_eq
 simp at this
 omega
theorem Lo.doneA {a b out:Array Keyed} {ia ib:Nat} (l:Lo S R a b out ia ib) (h:ib=b.size\/ia=a.size):Fin2 R a b (out ++ a.extract ia ++ b.extract ib):=by
 have:=l.mid.done (by
  rcases h with h | h
  ·right;rw [h];simp
  ·left;rw [h];simp)
 unfold Fin2
 rw [aA7,aA7,ae0,ae0]
 exact this
theorem anh {a:Array Keyed} {i:Nat} (h:i+1=a.size):a.toList.drop i=[a[a.size - 1]'(by omega)]:=by
 have hi:i < a.size:=by omega
 rw [aa6 hi]
 have:i=a.size - 1:=by omega
 subst this
 have e:a.toList.drop (a.size - 1+1)=[]:=by
  apply List.drop_eq_nil_of_le
  simp;omega
 rw [e]
theorem Lo.lastA {a b out:Array Keyed} {ia ib:Nat} (T:Two S R a b) (l:Lo S R a b out ia ib) (h:ia+1=a.size):Fin2 R a b (out ++ b.extract ib ++ a.extract ia):=by
 have:=l.mid.last (by
  intro y d x c
  rw [anh h] at c
  have ex:x=a[a.size - 1]'(by omega):=by simpa using c
  refine T.last y (ax4 d) x ?_
  rw [ex]
  exact av4 _)
 unfold Fin2
 rw [aA7,aA7,ae0,ae0]
 exact this
theorem ac6 {x:Keyed} {l:List Keyed} (C:Cmp M A E s κ S R) (h:Srt R (x :: l)) (b:S x):∀ y∈x :: l,R y x=false:=by
 intro y a
 rcases av9.mp a with e | a
 ·rw [e];exact C.irr b
 ·exact (List.pairwise_cons.mp h).1 y a
theorem Lo.pushB {a b out:Array Keyed} {ia ib:Nat} (C:Cmp M A E s κ S R) (T:Two S R a b) (l:Lo S R a b out ia ib) (hb:ib < b.size) (h:∀ x∈a.toList.drop ia,R x b[ib]=false):Lo S R a b (out.push b[ib]) ia (ib+1):=by
 refine ⟨?_,l.ia,hb⟩
 have m:=l.mid
 rw [aa6 hb] at m
 rw [Array.toList_push]
 exact m.takeB (p:=[b[ib]]) (fun x c y d=>by
  have:x=b[ib]:=by simpa using c
  rw [this];exact h y d)
theorem Lo.pushA {a b out:Array Keyed} {ia ib:Nat} (l:Lo S R a b out ia ib) (ha:ia < a.size) (h:∀ y∈b.toList.drop ib,R y a[ia]=false):Lo S R a b (out.push a[ia]) (ia+1) ib:=by
 refine ⟨?_,ha,l.ib⟩
 have m:=l.mid
 rw [aa6 ha] at m
 rw [Array.toList_push]
 exact m.takeA (p:=[a[ia]]) (fun x c y d=>by
  have:x=a[ia]:=by simpa using c
  rw [this];exact h y d)
theorem Lo.runA {a b out:Array Keyed} {ia ib k:Nat} (l:Lo S R a b out ia ib) (d:ia+k<=a.size) (h:∀ x∈(a.toList.drop ia).take k,∀ y∈b.toList.drop ib,R y x=false):Lo S R a b (out ++ a.extract ia (ia+k)) (ia+k) ib:=by
 refine ⟨?_,d,l.ib⟩
 have m:=l.mid
 rw [← ax1 k (a.toList.drop ia)] at m
 rw [aA7,agn]
 have c:=m.takeA h
 rw [List.drop_drop] at c
 exact c
theorem Lo.runB {a b out:Array Keyed} {ia ib k:Nat} (l:Lo S R a b out ia ib) (d:ib+k<=b.size) (h:∀ x∈(b.toList.drop ib).take k,∀ y∈a.toList.drop ia,R y x=false):Lo S R a b (out ++ b.extract ib (ib+k)) ia (ib+k):=by
 refine ⟨?_,l.ia,d⟩
 have m:=l.mid
 rw [← ax1 k (b.toList.drop ib)] at m
 rw [aA7,agn]
 have c:=m.takeB h
 rw [List.drop_drop] at c
 exact c
theorem ab1 {l:List Keyed} {i:Nat} (h:Srt R l):Srt R (l.drop i):=List.Pairwise.sublist (List.drop_sublist i l) h
theorem jpn {α β:Type} {prog : β->StateT SortSt Sem α} {P : β->Prop} {Q : α->SortSt->Prop} {st:SortSt} {G:Prop} (use:(∀ m,P m->wpS M A E s (prog m) Q st)->G) (a:∀ m,P m->wpS M A E s (prog m) Q st):G:=use a
theorem jpn2 {α:Type} {prog:Array Keyed->Nat->StateT SortSt Sem α} {P:Array Keyed->Nat->Prop} {Q : α->SortSt->Prop} {st:SortSt} {G:Prop} (use:(∀ o i,P o i->wpS M A E s (prog o i) Q st)->G) (a:∀ o i,P o i->wpS M A E s (prog o i) Q st):G:=use a
section
variable {ρ β γ δ ε ζ η:Type}
@[elab_as_elim] theorem un5 {J : β->γ->δ->ε->Prop} {G:Option ρ × β × γ × δ × ε->Prop} (z:Option ρ × β × γ × δ × ε) (h:z.1=none/\J z.2.1 z.2.2.1 z.2.2.2.1 z.2.2.2.2) (k:∀ x y u v,J x y u v->G (none,x,y,u,v)):G z:=by
 have e:z=(none,z.2.1,z.2.2.1,z.2.2.2.1,z.2.2.2.2):=by rw [← h.1]
 rw [e];exact k _ _ _ _ h.2
@[elab_as_elim] theorem un6 {J : β->γ->δ->ε->ζ->Prop} {G:Option ρ × β × γ × δ × ε × ζ->Prop} (z:Option ρ × β × γ × δ × ε × ζ) (h:z.1=none/\J z.2.1 z.2.2.1 z.2.2.2.1 z.2.2.2.2.1 z.2.2.2.2.2) (k:∀ x y u v a,J x y u v a->G (none,x,y,u,v,a)):G z:=by
 have e:z=(none,z.2.1,z.2.2.1,z.2.2.2.1,z.2.2.2.2.1,z.2.2.2.2.2):=by rw [← h.1]
 rw [e];exact k _ _ _ _ _ h.2
@[elab_as_elim] theorem un7 {J : β->γ->δ->ε->ζ->η->Prop} {G:Option ρ × β × γ × δ × ε × ζ × η->Prop} (z:Option ρ × β × γ × δ × ε × ζ × η) (h:z.1=none/\J z.2.1 z.2.2.1 z.2.2.2.1 z.2.2.2.2.1 z.2.2.2.2.2.1 z.2.2.2.2.2.2) (k:∀ x y u v a b,J x y u v a b->G (none,x,y,u,v,a,b)):G z:=by
 have e:z=(none,z.2.1,z.2.2.1,z.2.2.2.1,z.2.2.2.2.1,z.2.2.2.2.2.1,z.2.2.2.2.2.2):=by rw [← h.1]
 rw [e];exact k _ _ _ _ _ _ h.2
@[elab_as_elim] theorem unR {κ:Type} {F : ρ->Prop} {J : κ->Prop} {G:Option ρ × κ->Prop} (z:Option ρ × κ) (h:(∃ r,z.1=some r/\F r)\/(z.1=none/\J z.2)) (a:∀ r x,F r->G (some r,x)) (c:z.1=none/\J z.2->G z):G z:=by
 rcases h with ⟨r,e,b⟩ | h
 ·have e:z=(some r,z.2):=by rw [← e]
  rw [e];exact a _ _ b
 ·exact c h
end
theorem aaf {c:Prop} [Decidable c] {α:Type} {a b:StateT SortSt Sem α} {Q : α->SortSt->Prop} {st:SortSt} (d:c->wpS M A E s a Q st) (f:¬ c->wpS M A E s b Q st):wpS M A E s (if c then a else b) Q st:=by
 by_cases h:c
 ·rw [az7 h];exact d h
 ·rw [az8 h];exact f h
theorem alx (C:Cmp M A E s κ S R) {a b:Array Keyed} (T:Two S R a b) {Q:Array Keyed->SortSt->Prop} {st:SortSt} (hk:kindOf st = κ)
  (h:∀ m st',Eqv st st'->Fin2 R a b m->Q m st'):wpS M A E s (aou a b) Q st:=by
 have L:∀ i (h:i < a.size),S a[i]:=fun i h=>T.ha _ (by simp)
 have O:∀ i (h:i < b.size),S b[i]:=fun i h=>T.hb _ (by simp)
 have b0:=T.b0
 have a0:=T.a0
 refine wpS_bind (aca ?_)
 refine wpS_bind (aap (x:=b[0]'b0) (av4 b0) ?_)
 have l1:Lo S R a b #[b[0]'b0] 0 1:=by
  have l0:Lo S R a b #[] 0 0:=⟨⟨by simp,List.Pairwise.nil,fun x w=>by simp at w,T.sa,T.sb⟩,aA1 _,aA1 _⟩
  exact l0.pushB C T b0 fun x w=>T.first x (by simpa using w) _ (av4 b0)
 refine aaf (fun e1=>wpS_pure (h _ _ (Eqv.refl _) (l1.doneA (.inl (aA4.mp e1))))) (fun e1=>?_)
 refine aaf (fun e2=>wpS_pure (h _ _ (Eqv.refl _) (l1.lastA T (aA4.mp e2)))) (fun e2=>?_)
 replace e1:1 ≠ b.size:=fun q=>e1 (aA4.mpr q)
 replace e2:0+1 ≠ a.size:=fun q=>e2 (aA4.mpr q)
 refine wpS_bind (wpS_get ?_)
 refine wpS_bind (wpS_mono (Q:=fun (z:Option (Array Keyed) × Array Keyed × Nat × Nat × Nat) st'=>Eqv st st'/\∃ r,z.1=some r/\Fin2 R a b r) ?_ ?_)
 ·refine wpS_forRange (fun t (z:Option (Array Keyed) × Array Keyed × Nat × Nat × Nat) st'=>Eqv st st'/\z.1=none/\Lo S R a b z.2.1 z.2.2.1 z.2.2.2.1/\z.2.2.1+1 < a.size/\z.2.2.2.1 < b.size/\t+1<=z.2.1.size) ?_ ?_ ⟨Eqv.refl _,rfl,l1,by dsimp only;omega,by dsimp only;omega,by simp⟩
  ·intro t z a9 _ ht n
   have q1:=n.1
   refine un5 (J:=fun out ia ib _=>Lo S R a b out ia ib/\ia+1 < a.size/\ib < b.size/\t+1<=out.size) z n.2 fun out ia ib mg v=>?_
   dsimp only
   refine wpS_bind (wpS_mono (Q:=fun (z:Option (Array Keyed) × Array Keyed × Nat × Nat × Nat × Nat) st'=>Eqv st st'/\((∃ r,z.1=some r/\Fin2 R a b r)\/(z.1=none/\Lo S R a b z.2.1 z.2.2.1 z.2.2.2.1/\z.2.2.1+1 < a.size/\z.2.2.2.1 < b.size/\t+2<=z.2.1.size))) ?_ ?_)
   ·refine wpS_forRange (fun i (z:Option (Array Keyed) × Array Keyed × Nat × Nat × Nat × Nat) st'=>Eqv st st'/\z.1=none/\Lo S R a b z.2.1 z.2.2.1 z.2.2.2.1/\z.2.2.1+1 < a.size/\z.2.2.2.1 < b.size/\t+1+min i 1<=z.2.1.size) ?_ ?_ ⟨q1,rfl,v.1,v.2.1,v.2.2.1,v.2.2.2⟩
    ·intro i z o _ hi n
     have q:=n.1
     refine un6 (J:=fun out ia ib _ _=>Lo S R a b out ia ib/\ia+1 < a.size/\ib < b.size/\t+1+min i 1<=out.size) z n.2 fun out ia ib ac bc v=>?_
     have l:=v.1
     have I:=v.2.1
     have d:=v.2.2.1
     have hsz:=v.2.2.2
     have g:ia < a.size:=Nat.lt_of_succ_lt I
     refine wpS_bind (aap (x:=b[ib]) (av4 d) ?_)
     refine wpS_bind (aap (x:=a[ia]) (av4 g) ?_)
     refine wpS_bind (C.ask _ _ (O ib d) (L ia g) _ _ (q.k.trans hk) ?_)
     dsimp only
     refine aaf (fun er=>?_) (fun er=>?_)
     ·refine wpS_bind (aap (x:=b[ib]) (av4 d) ?_)
      have D:Lo S R a b (out.push b[ib]) ia (ib+1):=l.pushB C T d fun x w=>by
       rw [aa6 g] at w
       have hd:Srt R (a[ia] :: a.toList.drop (ia+1)):=by rw [← aa6 g];exact ab1 T.sa
       have sx:S x:=T.ha x (ax4 (i:=ia) (by rw [aa6 g];exact w))
       exact C.tr _ _ _ (O ib d) (L ia g) sx (C.asy _ _ (O ib d) (L ia g) er) (ac6 C hd (L ia g) x w)
      refine aaf (fun F=>wpS_pure ⟨q,.inl ⟨_,rfl,D.doneA (.inl (aA4.mp F))⟩⟩) (fun F=>?_)
      have hf:ib+1 < b.size/\t+2<=(out.push b[ib]).size:=by
       have a1:ib+1 ≠ b.size:=fun q=>F (aA4.mpr q)
       rw [aB7];omega
      refine aaf (fun _=>wpS_pure ⟨q,.inr ⟨rfl,D,I,hf⟩⟩) (fun _=>wpS_pure ⟨q,rfl,D,I,hf.1,ay0 (by omega) hf.2⟩)
     ·refine wpS_bind (aap (x:=a[ia]) (av4 g) ?_)
      have D:Lo S R a b (out.push a[ia]) (ia+1) ib:=l.pushA g fun y H=>by
       rw [aa6 d] at H
       have hd:Srt R (b[ib] :: b.toList.drop (ib+1)):=by rw [← aa6 d];exact ab1 T.sb
       have Y:S y:=T.hb y (ax4 (i:=ib) (by rw [aa6 d];exact H))
       exact C.tr _ _ _ (L ia g) (O ib d) Y (eq_false_of_ne_true er) (ac6 C hd (O ib d) y H)
      refine aaf (fun F=>wpS_pure ⟨q,.inl ⟨_,rfl,D.lastA T (aA4.mp F)⟩⟩) (fun F=>?_)
      have hf:ia+1+1 < a.size/\ib < b.size/\t+2<=(out.push a[ia]).size:=by
       have a1:ia+1+1 ≠ a.size:=fun q=>F (aA4.mpr q)
       rw [aB7];omega
      refine aaf (fun _=>wpS_pure ⟨q,.inr ⟨rfl,D,hf⟩⟩) (fun _=>wpS_pure ⟨q,rfl,D,hf.1,d,ay0 (by omega) hf.2.2⟩)
    ·exact fun z o n=>⟨n.1,.inr ⟨n.2.1,n.2.2.1,n.2.2.2.1,n.2.2.2.2.1,ay0 (by omega) n.2.2.2.2.2⟩⟩
   ·intro z o n
    have X:=n.1
    refine unR (J:=fun y:Array Keyed × Nat × Nat × Nat × Nat=>Lo S R a b y.1 y.2.1 y.2.2.1/\y.2.1+1 < a.size/\y.2.2.1 < b.size/\t+2<=y.1.size) z n.2 (fun r x hr=>wpS_pure ⟨X,r,rfl,hr⟩) fun hN=>?_
    refine un6 (J:=fun out ia ib _ _=>Lo S R a b out ia ib/\ia+1 < a.size/\ib < b.size/\t+2<=out.size) z hN fun out ia ib ac bc v=>?_
    dsimp only
    refine wpS_bind (aca ?_)
    refine wpS_bind (wpS_mono (Q:=fun (z:Option (Array Keyed) × Array Keyed × Nat × Nat × Nat × Nat × Nat) st'=>Eqv st st'/\((∃ r,z.1=some r/\Fin2 R a b r)\/(z.1=none/\Lo S R a b z.2.1 z.2.2.1 z.2.2.2.1/\z.2.2.1+1 < a.size/\z.2.2.2.1 < b.size/\t+2<=z.2.1.size))) ?_ ?_)
    ·refine wpS_forRange (fun i (z:Option (Array Keyed) × Array Keyed × Nat × Nat × Nat × Nat × Nat) st'=>Eqv st st'/\z.1=none/\Lo S R a b z.2.1 z.2.2.1 z.2.2.2.1/\z.2.2.1+1 < a.size/\z.2.2.2.1 < b.size/\t+2<=z.2.1.size) ?_ (fun z o n=>⟨n.1,.inr n.2⟩) ⟨X,rfl,v⟩
     intro i z o _ hi n
     have q:=n.1
     refine un7 (J:=fun out ia ib _ _ _=>Lo S R a b out ia ib/\ia+1 < a.size/\ib < b.size/\t+2<=out.size) z n.2 fun out ia ib mg ac bc v=>?_
     have l:=v.1
     have I:=v.2.1
     have d:=v.2.2.1
     have hsz:=v.2.2.2
     dsimp only
     refine' jpn (M:=M) (A:=A) (E:=E) (s:=s) (st:=o) (β:=Nat) (P:=fun _=>True) (prog:=?prog) (fun U=>?use) (fun a7 _=>?pf)
     case use =>
      refine aaf (fun hm=>?_) (fun hm=>?_)
      ·generalize mg - 1=m
       exact U m trivial
      ·exact U mg trivial
     refine wpS_bind (wpS_mono (Q:=fun _ N=>Eqv o N) (wpS_modify ⟨rfl,rfl,rfl,rfl⟩) fun _ N K=>?_)
     replace K:=q.trans K
     refine wpS_bind (aap (x:=b[ib]) (av4 d) ?_)
     refine wpS_bind (aeh C (O ib d) T.ha (by omega) (by rw [az4 (by simp)];exact ab1 T.sa) (by omega) (K.k.trans hk) fun k a5 h1 h2=>?_)
     rw [az4 (by simp),List.drop_drop] at h2
     dsimp only
     refine' jpn2 (M:=M) (A:=A) (E:=E) (s:=s) (st:=N) (P:=fun j c=>Lo S R a b j c ib/\c+1 < a.size/\(∀ x∈a.toList.drop c,R x b[ib]=false)/\t+2<=j.size) (prog:=?prog2) (fun U=>?use2) (fun j c h5=>?pf2)
     case use2 =>
      have u:∀ x∈a.toList.drop (ia+k),R x b[ib]=false:=fun x w=>C.asy _ _ (O ib d) (T.ha x (ax4 w)) (h2 x w)
      refine aaf (fun k0=>?_) (fun k0=>?_)
      ·have D:Lo S R a b (out ++ a.extract ia (ia+k)) (ia+k) ib:=l.runA (by omega) fun x w y H=>by
        rw [aa6 d] at H
        have hd:Srt R (b[ib] :: b.toList.drop (ib+1)):=by rw [← aa6 d];exact ab1 T.sb
        have Y:S y:=T.hb y (ax4 (i:=ib) (by rw [aa6 d];exact H))
        exact C.tr _ _ _ (T.ha x (ax4 (ax0 w))) (O ib d) Y (h1 x w) (ac6 C hd (O ib d) y H)
       refine aaf (fun F=>wpS_pure ⟨K,.inl ⟨_,rfl,D.lastA T (aA4.mp F)⟩⟩) (fun F=>?_)
       refine aaf (fun e4=>wpS_pure ⟨K,.inl ⟨_,rfl,D.doneA (.inr (aA4.mp e4))⟩⟩) (fun e4=>?_)
       have W:Lo S R a b (out ++ a.extract ia (ia+k)) (ia+k) ib/\ia+k+1 < a.size/\(∀ x∈a.toList.drop (ia+k),R x b[ib]=false)/\t+2<=(out ++ a.extract ia (ia+k)).size:=by
        have a1:ia+k+1 ≠ a.size:=fun q=>F (aA4.mpr q)
        have b1:ia+k ≠ a.size:=fun q=>e4 (aA4.mpr q)
        exact ⟨D,by omega,u,by rw [Array.size_append];omega⟩
       revert W
       clear F e4 D u
       generalize out ++ a.extract ia (ia+k)=j
       generalize ia+k=c
       intro W
       exact U j c W
      ·have:k=0:=by omega
       rw [this] at u
       exact U out ia ⟨l,I,u,hsz⟩
     have l3:=h5.1
     have Z:=h5.2.1
     have a2:=h5.2.2.1
     have a3:=h5.2.2.2
     have f:c < a.size:=Nat.lt_of_succ_lt Z
     refine wpS_bind (aap (x:=b[ib]) (av4 d) ?_)
     have l4:=l3.pushB C T d a2
     refine aaf (fun e5=>wpS_pure ⟨K,.inl ⟨_,rfl,l4.doneA (.inl (aA4.mp e5))⟩⟩) (fun e5=>?_)
     replace e5:ib+1 ≠ b.size:=fun q=>e5 (aA4.mpr q)
     refine wpS_bind (aap (x:=a[c]) (av4 f) ?_)
     refine wpS_bind (afe C (L c f) T.hb (by omega) (by rw [az4 (by simp)];exact ab1 T.sb) (by omega) (K.k.trans hk) fun G a8 h3 h4=>?_)
     rw [az4 (by simp),List.drop_drop] at h4
     dsimp only
     refine' jpn2 (M:=M) (A:=A) (E:=E) (s:=s) (st:=N) (P:=fun p B=>Lo S R a b p c B/\B < b.size/\(∀ y∈b.toList.drop B,R y a[c]=false)/\t+2<=p.size) (prog:=?prog3) (fun U=>?use3) (fun p B h6=>?pf3)
     case use3 =>
      refine aaf (fun k0=>?_) (fun k0=>?_)
      ·have hd:Srt R (a[c] :: a.toList.drop (c+1)):=by rw [← aa6 f];exact ab1 T.sa
       have l5:Lo S R a b (j.push b[ib] ++ b.extract (ib+1) (ib+1+G)) c (ib+1+G):=l4.runB (by omega) fun x w y H=>by
        rw [aa6 f] at H
        have Y:S y:=T.ha y (ax4 (i:=c) (by rw [aa6 f];exact H))
        have sx:S x:=T.hb x (ax4 (ax0 w))
        exact C.tr _ _ _ sx (L c f) Y (C.asy _ _ sx (L c f) (h3 x w)) (ac6 C hd (L c f) y H)
       refine aaf (fun e6=>wpS_pure ⟨K,.inl ⟨_,rfl,l5.doneA (.inl (aA4.mp e6))⟩⟩) (fun e6=>?_)
       have W:Lo S R a b (j.push b[ib] ++ b.extract (ib+1) (ib+1+G)) c (ib+1+G)/\ib+1+G < b.size/\(∀ y∈b.toList.drop (ib+1+G),R y a[c]=false)/\t+2<=(j.push b[ib] ++ b.extract (ib+1) (ib+1+G)).size:=by
        have a6:ib+1+G ≠ b.size:=fun q=>e6 (aA4.mpr q)
        exact ⟨l5,by omega,h4,by rw [Array.size_append,aB7];omega⟩
       revert W
       clear e6 l5 hd
       generalize j.push b[ib] ++ b.extract (ib+1) (ib+1+G)=p
       generalize ib+1+G=B
       intro W
       exact U p B W
      ·have:G=0:=by omega
       rw [this] at h4
       exact U (j.push b[ib]) (ib+1) ⟨l4,by omega,h4,by rw [aB7];omega⟩
     refine wpS_bind (aap (x:=a[c]) (av4 f) ?_)
     have l7:=h6.1.pushA f h6.2.2.1
     refine aaf (fun e7=>wpS_pure ⟨K,.inl ⟨_,rfl,l7.lastA T (aA4.mp e7)⟩⟩) (fun e7=>?_)
     have hf:c+1+1 < a.size/\B < b.size/\t+2<=(p.push a[c]).size:=by
      have a4:c+1+1 ≠ a.size:=fun q=>e7 (aA4.mpr q)
      have h7:=h6.2.2.2
      exact ⟨by omega,h6.2.1,by rw [aB7];omega⟩
     exact aaf (fun _=>wpS_pure ⟨K,.inr ⟨rfl,l7,hf⟩⟩) (fun _=>wpS_pure ⟨K,rfl,l7,hf⟩)
    ·intro z o n
     have X:=n.1
     refine unR (J:=fun y:Array Keyed × Nat × Nat × Nat × Nat × Nat=>Lo S R a b y.1 y.2.1 y.2.2.1/\y.2.1+1 < a.size/\y.2.2.1 < b.size/\t+2<=y.1.size) z n.2 (fun r x hr=>wpS_pure ⟨X,r,rfl,hr⟩) fun hN=>?_
     refine un7 (J:=fun out ia ib _ _ _=>Lo S R a b out ia ib/\ia+1 < a.size/\ib < b.size/\t+2<=out.size) z hN fun out ia ib mg ac bc v=>?_
     dsimp only
     refine wpS_bind (wpS_modify ?_)
     exact wpS_pure ⟨X.trans ⟨rfl,rfl,rfl,rfl⟩,rfl,v⟩
  ·intro z o n
   exfalso
   have h1:=n.2.2.1.len
   have h2:=n.2.2.2
   have:a.size+b.size<=max 0 (a.size+b.size):=by omega
   omega
 ·intro z o n
  have X:=n.1
  exact unR (J:=fun _=>False) z (.inl n.2) (fun r x hr=>wpS_pure (h r o X hr)) fun hN=>hN.2.elim
end
structure MidH (R:Keyed->Keyed->Bool) (L a b tl:List Keyed):Prop where
 perm:(a ++ b ++ tl).Perm L
 so:Srt R tl
 le:∀ x∈a ++ b,∀ y∈tl,R y x=false
 sa:Srt R a
 sb:Srt R b
section
variable {R:Keyed->Keyed->Bool} {L tl a b p:List Keyed}
theorem MidH.takeA (m:MidH R L (a ++ p) b tl) (h:∀ x∈b,∀ y∈p,R y x=false):MidH R L a b (p ++ tl):=by
 have sp:=ax9.mp m.sa
 refine ⟨List.Perm.trans ?_ m.perm,ax9.mpr ⟨sp.2.1,m.so,fun x c y d=>m.le x (ax7 _ (aw3 _ c)) y d⟩,fun x c y d=>?_,sp.1,m.sb⟩
 ·rw [← aw4,aw4 a p b,aw4 a b p]
  exact List.Perm.append_right tl (List.Perm.append_left a List.perm_append_comm)
 ·rcases av7.mp d with d | d
  ·rcases av7.mp c with c | c
   ·exact sp.2.2 x c y d
   ·exact h x c y d
  ·refine m.le x ?_ y d
   rcases av7.mp c with c | c
   ·exact ax7 _ (ax7 _ c)
   ·exact aw3 _ c
theorem MidH.takeB (m:MidH R L a (b ++ p) tl) (h:∀ x∈a,∀ y∈p,R y x=false):MidH R L a b (p ++ tl):=by
 have sp:=ax9.mp m.sb
 refine ⟨by have:=m.perm;simp only [aw4] at this ⊢;exact this,ax9.mpr ⟨sp.2.1,m.so,fun x c y d=>m.le x (aw3 _ (aw3 _ c)) y d⟩,fun x c y d=>?_,m.sa,sp.1⟩
 rcases av7.mp d with d | d
 ·rcases av7.mp c with c | c
  ·exact h x c y d
  ·exact sp.2.2 x c y d
 ·refine m.le x ?_ y d
  rcases av7.mp c with c | c
  ·exact ax7 _ c
  ·exact aw3 _ (ax7 _ c)
theorem MidH.done (m:MidH R L a b tl) (h:a=[]\/b=[]):(a ++ b ++ tl).Perm L/\Srt R (a ++ b ++ tl):=by
 refine ⟨m.perm,ax9.mpr ⟨?_,m.so,m.le⟩⟩
 rcases h with h | h
 ·subst h;exact m.sb
 ·subst h;rw [az3];exact m.sa
theorem MidH.first (m:MidH R L a b tl) (h:∀ y∈b,∀ x∈a,R x y=false):(b ++ a ++ tl).Perm L/\Srt R (b ++ a ++ tl):=by
 refine ⟨List.Perm.trans (List.Perm.append_right tl List.perm_append_comm) m.perm,ax9.mpr ⟨ax9.mpr ⟨m.sb,m.sa,h⟩,m.so,fun x c y d=>m.le x ?_ y d⟩⟩
 rcases av7.mp c with c | c
 ·exact aw3 _ c
 ·exact ax7 _ c
end
theorem abp {a:Array Keyed} {i:Nat} (c:0 < i) (h:i<=a.size):a.toList.take i=a.toList.take (i - 1) ++ [a[i - 1]'(by omega)]:=by
 obtain ⟨j,rfl⟩:∃ j,i=j+1:=⟨i - 1,by omega⟩
 rw [List.take_succ]
 have b:j < a.size:=by omega
 simp [b]
theorem aic (a:Array Keyed) (k:Nat):(a.extract 0 k).toList=a.toList.take k:=by
 rw [Array.toList_extract];simp [List.extract]
theorem ai3 (a:Array Keyed) (k n:Nat):(a.extract k n).toList=(a.toList.take n).drop k:=by
 rw [Array.toList_extract];simp [List.extract,List.drop_take]
section
variable {M:Model} {A:Around} {E:Value->Shared->Prop} {s:Shared} {κ:SortKind} {S:Keyed->Prop} {R:Keyed->Keyed->Bool}
structure Hi (S:Keyed->Prop) (R:Keyed->Keyed->Bool) (a b out:Array Keyed) (na nb:Nat):Prop where
 mid:MidH R (a.toList ++ b.toList) (a.toList.take na) (b.toList.take nb) out.toList.reverse
 na:na<=a.size
 nb:nb<=b.size
theorem Hi.len {a b out:Array Keyed} {na nb:Nat} (l:Hi S R a b out na nb):out.size+na+nb=a.size+b.size:=by
 have:=l.mid.perm.length_eq
 have c:=l.na
 have d:=l.nb
 simp at this
 omega
theorem Hi.doneA {a b out:Array Keyed} {na nb:Nat} (l:Hi S R a b out na nb) (h:na=0\/nb=0):Fin2 R a b (a.extract 0 na ++ b.extract 0 nb ++ out.reverse):=by
 have:=l.mid.done (by
  rcases h with h | h
  ·left;rw [h];simp
  ·right;rw [h];simp)
 unfold Fin2
 rw [aA7,aA7,aic,aic,Array.toList_reverse]
 exact this
theorem Hi.firstB {a b out:Array Keyed} {na nb:Nat} (T:Two S R a b) (l:Hi S R a b out na nb) (h:nb=1):Fin2 R a b (b.extract 0 nb ++ a.extract 0 na ++ out.reverse):=by
 subst h
 have:=l.mid.first (by
  intro y c x f
  rw [abp (by decide) l.nb] at c
  have d:y=b[0]'T.b0:=by simpa using c
  exact T.first x (ax0 f) y (by rw [d];exact av4 _))
 unfold Fin2
 rw [aA7,aA7,aic,aic,Array.toList_reverse]
 exact this
theorem abi {l:List Keyed} {i:Nat} (h:Srt R l):Srt R (l.take i):=List.Pairwise.sublist (List.take_sublist i l) h
theorem ack {x:Keyed} {l:List Keyed} (C:Cmp M A E s κ S R) (h:Srt R (l ++ [x])) (b:S x):∀ y∈l ++ [x],R x y=false:=by
 intro y a
 rcases av7.mp a with a | a
 ·exact (ax9.mp h).2.2 y a x (by simp)
 ·have:y=x:=by simpa using a
  rw [this];exact C.irr b
theorem Hi.pushA {a b out:Array Keyed} {na nb:Nat} (l:Hi S R a b out na nb) (c:0 < na) (h:∀ x∈b.toList.take nb,R (a[na - 1]'(by have:=l.na;omega)) x=false):Hi S R a b (out.push (a[na - 1]'(by have:=l.na;omega))) (na - 1) nb:=by
 refine ⟨?_,by have:=l.na;omega,l.nb⟩
 have m:=l.mid
 rw [abp c l.na] at m
 rw [Array.toList_push,List.reverse_append]
 exact m.takeA (p:=[_]) (fun x d y f=>by
  rw [ax2.mp f];exact h x d)
theorem Hi.pushB {a b out:Array Keyed} {na nb:Nat} (l:Hi S R a b out na nb) (c:0 < nb) (h:∀ x∈a.toList.take na,R (b[nb - 1]'(by have:=l.nb;omega)) x=false):Hi S R a b (out.push (b[nb - 1]'(by have:=l.nb;omega))) na (nb - 1):=by
 refine ⟨?_,l.na,by have:=l.nb;omega⟩
 have m:=l.mid
 rw [abp c l.nb] at m
 rw [Array.toList_push,List.reverse_append]
 exact m.takeB (p:=[_]) (fun x d y f=>by
  rw [ax2.mp f];exact h x d)
theorem Hi.runA {a b out:Array Keyed} {na nb k:Nat} (l:Hi S R a b out na nb) (d:k<=na) (h:∀ x∈b.toList.take nb,∀ y∈(a.toList.take na).drop k,R y x=false):Hi S R a b (out ++ (a.extract k na).reverse) k nb:=by
 refine ⟨?_,by have:=l.na;omega,l.nb⟩
 have m:=l.mid
 rw [← ax1 k (a.toList.take na)] at m
 rw [aA7,Array.toList_reverse,ai3,List.reverse_append,List.reverse_reverse]
 have c:=m.takeA h
 rw [List.take_take,Nat.min_eq_left d] at c
 exact c
theorem Hi.runB {a b out:Array Keyed} {na nb k:Nat} (l:Hi S R a b out na nb) (d:k<=nb) (h:∀ x∈a.toList.take na,∀ y∈(b.toList.take nb).drop k,R y x=false):Hi S R a b (out ++ (b.extract k nb).reverse) na k:=by
 refine ⟨?_,l.na,by have:=l.nb;omega⟩
 have m:=l.mid
 rw [← ax1 k (b.toList.take nb)] at m
 rw [aA7,Array.toList_reverse,ai3,List.reverse_append,List.reverse_reverse]
 have c:=m.takeB h
 rw [List.take_take,Nat.min_eq_left d] at c
 exact c
theorem aly (C:Cmp M A E s κ S R) {a b:Array Keyed} (T:Two S R a b) {Q:Array Keyed->SortSt->Prop} {st:SortSt} (hk:kindOf st = κ)
  (h:∀ m st',Eqv st st'->Fin2 R a b m->Q m st'):wpS M A E s (aov a b) Q st:=by
 have K:∀ i (h:i < a.size),S a[i]:=fun i h=>T.ha _ (by simp)
 have N:∀ i (h:i < b.size),S b[i]:=fun i h=>T.hb _ (by simp)
 have b0:=T.b0
 have a0:=T.a0
 have la:a.size - 1 < a.size:=by omega
 refine wpS_bind (aca ?_)
 refine wpS_bind (aap (x:=a[a.size - 1]'la) (av4 la) ?_)
 have l1:Hi S R a b #[a[a.size - 1]'la] (a.size - 1) b.size:=by
  have l0:Hi S R a b #[] a.size b.size:=⟨⟨by simp [az4],List.Pairwise.nil,fun x j y hy=>by simp at hy,abi T.sa,abi T.sb⟩,av6 _,av6 _⟩
  exact l0.pushA a0 fun x j=>T.last x (ax0 j) _ (av4 la)
 refine aaf (fun e1=>wpS_pure (h _ _ (Eqv.refl _) (l1.doneA (.inl (aA4.mp e1))))) (fun e1=>?_)
 refine aaf (fun e2=>wpS_pure (h _ _ (Eqv.refl _) (l1.firstB T (aA4.mp e2)))) (fun e2=>?_)
 replace e1:a.size - 1 ≠ 0:=fun q=>e1 (aA4.mpr q)
 replace e2:b.size ≠ 1:=fun q=>e2 (aA4.mpr q)
 refine wpS_bind (wpS_get ?_)
 have a9:∀ {na nb:Nat} (D:0 < na) (I:na<=a.size) (Y:0 < nb) (U:nb<=b.size),R (b[nb - 1]'(by omega)) (a[na - 1]'(by omega))=true->∀ x∈b.toList.take nb,R (a[na - 1]'(by omega)) x=false:=fun {na nb} D I Y U er x j=>by
  have sx:S x:=T.hb x (ax0 j)
  have hs:Srt R (b.toList.take (nb - 1) ++ [b[nb - 1]'(by omega)]):=by rw [← abp Y U];exact abi T.sb
  rw [abp Y U] at j
  exact C.tr _ _ _ sx (N _ _) (K _ _) (ack C hs (N _ _) x j) (C.asy _ _ (N _ _) (K _ _) er)
 have a7:∀ {na nb:Nat} (D:0 < na) (I:na<=a.size) (Y:0 < nb) (U:nb<=b.size),R (b[nb - 1]'(by omega)) (a[na - 1]'(by omega))=false->∀ x∈a.toList.take na,R (b[nb - 1]'(by omega)) x=false:=fun {na nb} D I Y U er x j=>by
  have sx:S x:=T.ha x (ax0 j)
  have hs:Srt R (a.toList.take (na - 1) ++ [a[na - 1]'(by omega)]):=by rw [← abp D I];exact abi T.sa
  rw [abp D I] at j
  exact C.tr _ _ _ sx (K _ _) (N _ _) (ack C hs (K _ _) x j) er
 refine wpS_bind (wpS_mono (Q:=fun (z:Option (Array Keyed) × Nat × Nat × Array Keyed × Nat) st'=>Eqv st st'/\∃ r,z.1=some r/\Fin2 R a b r) ?_ ?_)
 ·refine wpS_forRange (fun t (z:Option (Array Keyed) × Nat × Nat × Array Keyed × Nat) st'=>Eqv st st'/\z.1=none/\Hi S R a b z.2.2.2.1 z.2.1 z.2.2.1/\0 < z.2.1/\1 < z.2.2.1/\t+1<=z.2.2.2.1.size) ?_ ?_ ⟨Eqv.refl _,rfl,l1,by dsimp only;omega,by dsimp only;omega,by simp⟩
  ·intro t z b6 _ ht f
   have q1:=f.1
   refine un5 (J:=fun na nb out _=>Hi S R a b out na nb/\0 < na/\1 < nb/\t+1<=out.size) z f.2 fun na nb out mg o=>?_
   dsimp only
   refine wpS_bind (wpS_mono (Q:=fun (z:Option (Array Keyed) × Nat × Nat × Array Keyed × Nat × Nat) st'=>Eqv st st'/\((∃ r,z.1=some r/\Fin2 R a b r)\/(z.1=none/\Hi S R a b z.2.2.2.1 z.2.1 z.2.2.1/\0 < z.2.1/\1 < z.2.2.1/\t+2<=z.2.2.2.1.size))) ?_ ?_)
   ·refine wpS_forRange (fun i (z:Option (Array Keyed) × Nat × Nat × Array Keyed × Nat × Nat) st'=>Eqv st st'/\z.1=none/\Hi S R a b z.2.2.2.1 z.2.1 z.2.2.1/\0 < z.2.1/\1 < z.2.2.1/\t+1+min i 1<=z.2.2.2.1.size) ?_ ?_ ⟨q1,rfl,o.1,o.2.1,o.2.2.1,o.2.2.2⟩
    ·intro i z g _ hi f
     have q:=f.1
     refine un6 (J:=fun na nb out _ _=>Hi S R a b out na nb/\0 < na/\1 < nb/\t+1+min i 1<=out.size) z f.2 fun na nb out ac bc o=>?_
     have l:=o.1
     have p:=o.2.1
     have a2:=o.2.2.1
     have hsz:=o.2.2.2
     have ia:na - 1 < a.size:=by have:=l.na;omega
     have ib:nb - 1 < b.size:=by have:=l.nb;omega
     refine wpS_bind (aap (x:=b[nb - 1]) (av4 ib) ?_)
     refine wpS_bind (aap (x:=a[na - 1]) (av4 ia) ?_)
     refine wpS_bind (C.ask _ _ (N _ ib) (K _ ia) _ _ (q.k.trans hk) ?_)
     dsimp only
     refine aaf (fun er=>?_) (fun er=>?_)
     ·refine wpS_bind (aap (x:=a[na - 1]) (av4 ia) ?_)
      have B:=l.pushA p (a9 p l.na (by omega) l.nb er)
      refine aaf (fun w=>wpS_pure ⟨q,.inl ⟨_,rfl,B.doneA (.inl (aA4.mp w))⟩⟩) (fun w=>?_)
      have hf:0 < na - 1/\1 < nb/\t+2<=(out.push a[na - 1]).size:=by
       have a1:na - 1 ≠ 0:=fun q=>w (aA4.mpr q)
       rw [aB7];omega
      exact aaf (fun _=>wpS_pure ⟨q,.inr ⟨rfl,B,hf⟩⟩) (fun _=>wpS_pure ⟨q,rfl,B,hf.1,a2,ay0 (by omega) hf.2.2⟩)
     ·refine wpS_bind (aap (x:=b[nb - 1]) (av4 ib) ?_)
      have B:=l.pushB (by omega) (a7 p l.na (by omega) l.nb (eq_false_of_ne_true er))
      refine aaf (fun w=>wpS_pure ⟨q,.inl ⟨_,rfl,B.firstB T (aA4.mp w)⟩⟩) (fun w=>?_)
      have hf:1 < nb - 1/\t+2<=(out.push b[nb - 1]).size:=by
       have a1:nb - 1 ≠ 1:=fun q=>w (aA4.mpr q)
       rw [aB7];omega
      exact aaf (fun _=>wpS_pure ⟨q,.inr ⟨rfl,B,p,hf⟩⟩) (fun _=>wpS_pure ⟨q,rfl,B,p,hf.1,ay0 (by omega) hf.2⟩)
    ·exact fun z g f=>⟨f.1,.inr ⟨f.2.1,f.2.2.1,f.2.2.2.1,f.2.2.2.2.1,ay0 (by omega) f.2.2.2.2.2⟩⟩
   ·intro z g f
    have q2:=f.1
    refine unR (J:=fun y:Nat × Nat × Array Keyed × Nat × Nat=>Hi S R a b y.2.2.1 y.1 y.2.1/\0 < y.1/\1 < y.2.1/\t+2<=y.2.2.1.size) z f.2 (fun r x hr=>wpS_pure ⟨q2,r,rfl,hr⟩) fun hN=>?_
    refine un6 (J:=fun na nb out _ _=>Hi S R a b out na nb/\0 < na/\1 < nb/\t+2<=out.size) z hN fun na nb out ac bc o=>?_
    dsimp only
    refine wpS_bind (aca ?_)
    refine wpS_bind (wpS_mono (Q:=fun (z:Option (Array Keyed) × Nat × Nat × Array Keyed × Nat × Nat × Nat) st'=>Eqv st st'/\((∃ r,z.1=some r/\Fin2 R a b r)\/(z.1=none/\Hi S R a b z.2.2.2.1 z.2.1 z.2.2.1/\0 < z.2.1/\1 < z.2.2.1/\t+2<=z.2.2.2.1.size))) ?_ ?_)
    ·refine wpS_forRange (fun i (z:Option (Array Keyed) × Nat × Nat × Array Keyed × Nat × Nat × Nat) st'=>Eqv st st'/\z.1=none/\Hi S R a b z.2.2.2.1 z.2.1 z.2.2.1/\0 < z.2.1/\1 < z.2.2.1/\t+2<=z.2.2.2.1.size) ?_ (fun z g f=>⟨f.1,.inr f.2⟩) ⟨q2,rfl,o⟩
     intro i z g _ hi f
     have q:=f.1
     refine un7 (J:=fun na nb out _ _ _=>Hi S R a b out na nb/\0 < na/\1 < nb/\t+2<=out.size) z f.2 fun na nb out mg ac bc o=>?_
     have l:=o.1
     have p:=o.2.1
     have a2:=o.2.2.1
     have hsz:=o.2.2.2
     have b2:=l.na
     have X:=l.nb
     have ib:nb - 1 < b.size:=by omega
     dsimp only
     refine' jpn (M:=M) (A:=A) (E:=E) (s:=s) (st:=g) (β:=Nat) (P:=fun _=>True) (prog:=?prog) (fun O=>?use) (fun b5 _=>?pf)
     case use =>
      refine aaf (fun hm=>?_) (fun hm=>?_)
      ·generalize mg - 1=m
       exact O m trivial
      ·exact O mg trivial
     refine wpS_bind (wpS_mono (Q:=fun _ L=>Eqv g L) (wpS_modify ⟨rfl,rfl,rfl,rfl⟩) fun _ L H=>?_)
     replace H:=q.trans H
     refine wpS_bind (aap (x:=b[nb - 1]) (av4 ib) ?_)
     refine wpS_bind (aeh C (N _ ib) T.ha (by omega) (by rw [List.drop_zero];exact abi T.sa) (by omega) (H.k.trans hk) fun k a6 D I=>?_)
     rw [List.drop_zero] at D I
     dsimp only
     generalize hac:na - k=ac2
     refine' jpn2 (M:=M) (A:=A) (E:=E) (s:=s) (st:=L) (P:=fun d c=>Hi S R a b d c nb/\0 < c/\(∀ x∈a.toList.take c,R b[nb - 1] x=false)/\t+2<=d.size) (prog:=?prog2) (fun O=>?use2) (fun d c h5=>?pf2)
     case use2 =>
      refine aaf (fun k0=>?_) (fun k0=>?_)
      ·have a4:Srt R (b.toList.take (nb - 1) ++ [b[nb - 1]]):=by rw [← abp (by omega) X];exact abi T.sb
       have B:Hi S R a b (out ++ (a.extract k na).reverse) k nb:=l.runA a6 fun x j y hy=>by
        have sx:S x:=T.hb x (ax0 j)
        have sy:S y:=T.ha y (ax0 (ax4 hy))
        rw [abp (by omega) X] at j
        exact C.tr _ _ _ sx (N _ ib) sy (ack C a4 (N _ ib) x j) (C.asy _ _ (N _ ib) sy (I y hy))
       refine aaf (fun w=>wpS_pure ⟨H,.inl ⟨_,rfl,B.doneA (.inl (aA4.mp w))⟩⟩) (fun w=>?_)
       have hP:Hi S R a b (out ++ (a.extract k na).reverse) k nb/\0 < k/\(∀ x∈a.toList.take k,R b[nb - 1] x=false)/\t+2<=(out ++ (a.extract k na).reverse).size:=by
        have a1:k ≠ 0:=fun q=>w (aA4.mpr q)
        exact ⟨B,by omega,D,by rw [Array.size_append];omega⟩
       revert hP
       clear w B
       generalize out ++ (a.extract k na).reverse=d
       generalize k=c
       intro hP
       exact O d c hP
      ·have:k=na:=by omega
       rw [this] at D
       exact O out na ⟨l,p,D,hsz⟩
     have l3:=h5.1
     have F:=h5.2.1
     have b1:=h5.2.2.1
     have b3:=h5.2.2.2
     have G:=l3.na
     have ia:c - 1 < a.size:=by omega
     refine wpS_bind (aap (x:=b[nb - 1]) (av4 ib) ?_)
     have l4:=l3.pushB (by omega) b1
     refine aaf (fun e5=>wpS_pure ⟨H,.inl ⟨_,rfl,l4.firstB T (aA4.mp e5)⟩⟩) (fun e5=>?_)
     replace e5:nb - 1 ≠ 1:=fun q=>e5 (aA4.mpr q)
     refine wpS_bind (aap (x:=a[c - 1]) (av4 ia) ?_)
     refine wpS_bind (afe C (K _ ia) T.hb (by omega) (by rw [List.drop_zero];exact abi T.sb) (by omega) (H.k.trans hk) fun v a8 Y U=>?_)
     rw [List.drop_zero] at Y U
     dsimp only
     generalize hbc:nb - 1 - v=bc2
     refine' jpn2 (M:=M) (A:=A) (E:=E) (s:=s) (st:=L) (P:=fun n u=>Hi S R a b n c u/\1 < u/\(∀ x∈b.toList.take u,R a[c - 1] x=false)/\t+2<=n.size) (prog:=?prog3) (fun O=>?use3) (fun n u h6=>?pf3)
     case use3 =>
      have Z:∀ x∈b.toList.take v,R a[c - 1] x=false:=fun x j=>C.asy _ _ (T.hb x (ax0 j)) (K _ ia) (Y x j)
      refine aaf (fun k0=>?_) (fun k0=>?_)
      ·have a3:Srt R (a.toList.take (c - 1) ++ [a[c - 1]]):=by rw [← abp F G];exact abi T.sa
       have l5:Hi S R a b (d.push b[nb - 1] ++ (b.extract v (nb - 1)).reverse) c v:=l4.runB a8 fun x j y hy=>by
        have sx:S x:=T.ha x (ax0 j)
        have sy:S y:=T.hb y (ax0 (ax4 hy))
        rw [abp F G] at j
        exact C.tr _ _ _ sx (K _ ia) sy (ack C a3 (K _ ia) x j) (U y hy)
       refine aaf (fun e6=>wpS_pure ⟨H,.inl ⟨_,rfl,l5.firstB T (aA4.mp e6)⟩⟩) (fun e6=>?_)
       refine aaf (fun W=>wpS_pure ⟨H,.inl ⟨_,rfl,l5.doneA (.inr (aA4.mp W))⟩⟩) (fun W=>?_)
       have hP:Hi S R a b (d.push b[nb - 1] ++ (b.extract v (nb - 1)).reverse) c v/\1 < v/\(∀ x∈b.toList.take v,R a[c - 1] x=false)/\t+2<=(d.push b[nb - 1] ++ (b.extract v (nb - 1)).reverse).size:=by
        have b4:v ≠ 1:=fun q=>e6 (aA4.mpr q)
        have a5:v ≠ 0:=fun q=>W (aA4.mpr q)
        exact ⟨l5,by omega,Z,by rw [Array.size_append,aB7];omega⟩
       revert hP
       clear e6 W l5
       generalize d.push b[nb - 1] ++ (b.extract v (nb - 1)).reverse=n
       generalize v=u
       intro hP
       exact O n u hP
      ·have:v=nb - 1:=by omega
       rw [this] at Z
       exact O (d.push b[nb - 1]) (nb - 1) ⟨l4,by omega,Z,by rw [aB7];omega⟩
     refine wpS_bind (aap (x:=a[c - 1]) (av4 ia) ?_)
     have l7:=h6.1.pushA F h6.2.2.1
     refine aaf (fun W=>wpS_pure ⟨H,.inl ⟨_,rfl,l7.doneA (.inl (aA4.mp W))⟩⟩) (fun W=>?_)
     have hf:0 < c - 1/\1 < u/\t+2<=(n.push a[c - 1]).size:=by
      have a5:c - 1 ≠ 0:=fun q=>W (aA4.mpr q)
      have h7:=h6.2.2.2
      exact ⟨by omega,h6.2.1,by rw [aB7];omega⟩
     exact aaf (fun _=>wpS_pure ⟨H,.inr ⟨rfl,l7,hf⟩⟩) (fun _=>wpS_pure ⟨H,rfl,l7,hf⟩)
    ·intro z g f
     have q2:=f.1
     refine unR (J:=fun y:Nat × Nat × Array Keyed × Nat × Nat × Nat=>Hi S R a b y.2.2.1 y.1 y.2.1/\0 < y.1/\1 < y.2.1/\t+2<=y.2.2.1.size) z f.2 (fun r x hr=>wpS_pure ⟨q2,r,rfl,hr⟩) fun hN=>?_
     refine un7 (J:=fun na nb out _ _ _=>Hi S R a b out na nb/\0 < na/\1 < nb/\t+2<=out.size) z hN fun na nb out mg ac bc o=>?_
     dsimp only
     refine wpS_bind (wpS_modify ?_)
     exact wpS_pure ⟨q2.trans ⟨rfl,rfl,rfl,rfl⟩,rfl,o⟩
  ·intro z g f
   exfalso
   have D:=f.2.2.1.len
   have I:=f.2.2.2
   have:a.size+b.size<=max 0 (a.size+b.size):=by omega
   omega
 ·intro z g f
  have q2:=f.1
  exact unR (J:=fun _=>False) z (.inl f.2) (fun r x hr=>wpS_pure (h r g q2 hr)) fun hN=>hN.2.elim
end
theorem ahd (base:Nat):∀ (b v u w:List Keyed) (j:Nat) (xs:Array Keyed),xs.toList=u ++ v ++ w->v.length=b.length->u.length=base+j ->
  ((b.zipIdx j).foldl (fun a x=>match x with | (p,j)=>a.setIfInBounds (base+j) p) xs).toList=u ++ b ++ w
 | [],v,u,w,j,xs,h1,h2,h3=>by
  have:v=[]:=aB3 h2
  subst this
  exact h1
 | m :: b,v,u,w,j,xs,h1,h2,h3=>by
  cases v with
  | nil=>cases h2
  | cons y v =>
   rw [List.zipIdx_cons,List.foldl_cons]
   have c:=ahd base b v (u ++ [m]) w (j+1) (xs.setIfInBounds (base+j) m) (by
    rw [Array.toList_setIfInBounds,h1,← h3]
    simp [List.set_append]) (by simpa using h2) (by simp [h3];omega)
   rw [c]
   simp
section
variable {M:Model} {A:Around} {E:Value->Shared->Prop} {s:Shared} {κ:SortKind} {S:Keyed->Prop} {R:Keyed->Keyed->Bool}
theorem aq8 {σ:Type} {st st' : σ} {Q:PUnit->σ->Prop} (h:Q ⟨⟩ st'):wpS M A E s (set st':StateT σ Sem PUnit) Q st:=by
 unfold wpS
 rw [StateT.run_set]
 exact aC4 ⟨rfl,h⟩
theorem alz (C:Cmp M A E s κ S R) {st:SortSt} {i pw pw2:Nat} {pre a b g:List Keyed} (G:(arrOf st).toList=pre ++ a ++ b ++ g) (hS:∀ x∈(arrOf st).toList,S x)
  (a9:(pendingOf st)[i]?=some (pre.length,a.length,pw)) (a7:(pendingOf st)[i+1]?=some (pre.length+a.length,b.length,pw2)) (na:a ≠ []) (nb:b ≠ []) (W:Srt R a) (O:Srt R b) (hk:kindOf st = κ) (hf:failedOf st=none)
  {Q:Bool->SortSt->Prop}
  (h:∀ st' m,kindOf st' = κ->failedOf st'=none->pendingOf st'=((pendingOf st).setIfInBounds i (pre.length,a.length+b.length,pw)).eraseIdxIfInBounds (i+1)->(arrOf st').toList=pre ++ m ++ g->m.Perm (a ++ b)->Srt R m->Q true st') :
  wpS M A E s (ai2 i) Q st:=by
 have la:0 < a.length:=aA0.mpr na
 have lb:0 < b.length:=aA0.mpr nb
 have K:∀ x∈a,S x:=fun x c=>hS x (by rw [G];simp [c])
 have N:∀ x∈b,S x:=fun x c=>hS x (by rw [G];simp [c])
 have lx:(arrOf st).size=pre.length+a.length+b.length+g.length:=by
  have:=congrArg List.length G
  simp at this
  omega
 have F:((arrOf st).toList.drop pre.length).take a.length=a:=by rw [G];simp [aw4]
 have D:((arrOf st).toList.drop (pre.length+a.length)).take b.length=b:=by
  rw [show pre.length+a.length=(pre ++ a).length by simp,G,aw4 (pre ++ a),List.drop_left,List.take_left]
 refine wpS_bind (wpS_get ?_)
 rw [a9,a7]
 refine wpS_bind (wpS_mono (Q:=fun _ o=>kindOf o = κ/\failedOf o=none/\arrOf o=arrOf st/\pendingOf o=((pendingOf st).setIfInBounds i (pre.length,a.length+b.length,pw)).eraseIdxIfInBounds (i+1)) (aq8 ⟨hk,hf,rfl,rfl⟩) fun _ o ⟨Z,f1,a1,p1⟩=>?_)
 obtain ⟨b0,bt,eb⟩:∃ b0 bt,b=b0 :: bt:=by cases b with | nil=>exact absurd rfl nb | cons x r=>exact ⟨x,r,rfl⟩
 have a4:(arrOf st)[pre.length+a.length]?=some b0:=by
  rw [← ay4,G,eb]
  simp [List.getElem?_append]
 have v:S b0:=N b0 (by rw [eb];simp)
 have B:∀ y∈b,R y b0=false:=fun y d=>by rw [eb] at d O;exact ac6 C O v y d
 -- nothing is laid together: the two stand in order already
 have w:(∀ x∈a,∀ y∈b,R y x=false)->∀ st',Eqv o st'->Q true st':=fun hc st' q=>by
  refine h st' (a ++ b) (q.k.trans Z) (q.f.trans f1) (q.p.trans p1) ?_ (List.Perm.refl _) (ax9.mpr ⟨W,O,hc⟩)
  rw [q.a,a1,G]
  simp [aw4]
 refine wpS_bind (aap a4 ?_)
 refine wpS_bind (aeh C v hS (by omega) (by rw [F];exact W) la Z fun k a8 h1 h2=>?_)
 rw [F] at h2
 have I:∀ x∈a.take k,R b0 x=false:=fun x c=>h1 x (by
  have:((arrOf st).toList.drop pre.length).take k=a.take k:=by rw [← F,List.take_take,Nat.min_eq_left a8]
  rw [this];exact c)
 dsimp only
 refine aaf (fun e=>?_) (fun e=>?_)
 ·have e':a.length - k=0:=by simpa using e
  refine wpS_pure (w (fun x c y d=>?_) o (Eqv.refl _))
  have:a.take k=a:=az4 (by omega)
  rw [this] at I
  exact C.tr x b0 y (K x c) v (N y d) (I x c) (B y d)
 ·have e':a.length - k ≠ 0:=by simpa using e
  -- the last of a
  have U:pre.length+k+(a.length - k) - 1=pre.length+(a.length - 1):=by omega
  have n:a.length - 1 < a.length:=by omega
  have b1:(arrOf st)[pre.length+k+(a.length - k) - 1]?=some (a[a.length - 1]'n):=by
   rw [← ay4,G,U]
   simp [List.getElem?_append,n,aw4]
  have Sl:S (a[a.length - 1]'n):=K _ (List.getElem_mem n)
  have u:a=a.take (a.length - 1) ++ [a[a.length - 1]'n]:=by
   have:=List.take_succ (l:=a) (i:=a.length - 1)
   rw [show a.length - 1+1=a.length by omega,aA9] at this
   simpa [n] using this
  have L:∀ x∈a,R (a[a.length - 1]'n) x=false:=fun x c=>by
   have hs:Srt R (a.take (a.length - 1) ++ [a[a.length - 1]'n]):=by rw [← u];exact W
   exact ack C hs Sl x (by rw [← u];exact c)
  refine wpS_bind (aap b1 ?_)
  refine wpS_bind (afe C Sl hS (by omega) (by rw [D];exact O) (by omega) Z fun j a6 h3 h4=>?_)
  rw [D] at h4
  have a2:((arrOf st).toList.drop (pre.length+a.length)).take j=b.take j:=by rw [← D,List.take_take,Nat.min_eq_left a6]
  rw [a2] at h3
  dsimp only
  refine aaf (fun e2=>?_) (fun e2=>?_)
  ·have a0:j=0:=by simpa using e2
   subst a0
   refine wpS_pure (w (fun x c y d=>?_) o (Eqv.refl _))
   exact C.tr x _ y (K x c) Sl (N y d) (L x c) (h4 y (by simpa using d))
  ·have a0:j ≠ 0:=by simpa using e2
   have ex:((arrOf st).extract (pre.length+k) (pre.length+a.length)).toList=a.drop k:=by
    rw [ai3,G]
    simp [aw4,List.take_append,List.drop_append]
   have P:((arrOf st).extract (pre.length+a.length) (pre.length+a.length+j)).toList=b.take j:=by
    rw [agn,a2]
   generalize hX:(arrOf st).extract (pre.length+k) (pre.length+a.length)=X at ex
   generalize hY:(arrOf st).extract (pre.length+a.length) (pre.length+a.length+j)=Y at P
   have sX:X.size=a.length - k:=by have:=congrArg List.length ex;simpa using this
   have sY:Y.size=j:=by have:=congrArg List.length P;simp at this;omega
   have T:Two S R X Y:=by
    refine ⟨fun x c=>K x (ax4 (by rw [← ex];exact c)),fun x c=>N x (ax0 (by rw [← P];exact c)),by rw [ex];exact ab1 W,by rw [P];exact abi O,by omega,by omega,fun x c y d=>?_,fun y d x c=>?_⟩
    ·rw [← ay4,P,eb] at d
     have:y=b0:=by
      obtain ⟨j',rfl⟩:∃ j',j=j'+1:=⟨j - 1,by omega⟩
      simpa using d.symm
     rw [this]
     rw [ex] at c
     exact C.asy _ _ v (K x (ax4 c)) (h2 x c)
    ·rw [← ay4,ex,sX] at c
     rw [aC0,show k+(a.length - k - 1)=a.length - 1 by omega,av0 n] at c
     cases c
     rw [P] at d
     exact C.asy _ _ (N y (ax0 d)) Sl (h3 y d)
   have fin:∀ (m:Array Keyed) (st':SortSt),Eqv o st'->Fin2 R X Y m->wpS M A E s (do
     modify fun (z:SortSt)=>setArr z (List.foldl (fun a x=>match x with | (p,j)=>a.setIfInBounds (pre.length+k+j) p) (arrOf z) m.toList.zipIdx)
     let z ← get
     pure (failedOf z).isNone) Q st':=by
    intro m st' q ⟨H,ms⟩
    rw [ex,P] at H
    refine wpS_bind (wpS_modify ?_)
    refine wpS_bind (wpS_get ?_)
    refine wpS_pure ?_
    show Q (failedOf st').isNone _
    rw [q.f,f1]
    have lm:m.toList.length=(a.drop k).length+(b.take j).length:=by rw [H.length_eq,aw1]
    have J:∀ z∈m.toList,z∈a.drop k\/z∈b.take j:=fun z hz=>av7.mp (H.mem_iff.mp hz)
    refine h _ (a.take k ++ m.toList ++ b.drop j) (q.k.trans Z) (q.f.trans f1) (q.p.trans p1) ?_ ?_ ?_
    ·show (List.foldl _ (arrOf st') m.toList.zipIdx).toList=_
     have base:(arrOf st').toList=(pre ++ a.take k) ++ (a.drop k ++ b.take j) ++ (b.drop j ++ g):=by
      rw [q.a,a1,G]
      have t1:=ax1 k a
      have t2:=ax1 j b
      calc pre ++ a ++ b ++ g=pre ++ (a.take k ++ a.drop k) ++ (b.take j ++ b.drop j) ++ g:=by rw [t1,t2]
       _=_:=by simp only [aw4]
     have:=ahd (pre.length+k) m.toList (a.drop k ++ b.take j) (pre ++ a.take k) (b.drop j ++ g) 0 (arrOf st') base (by rw [aw1,lm]) (by rw [aw1,aB1];omega)
     rw [this]
     simp only [aw4]
    ·have t1:=ax1 k a
     have t2:=ax1 j b
     calc (a.take k ++ m.toList ++ b.drop j).Perm (a.take k ++ (a.drop k ++ b.take j) ++ b.drop j):=List.Perm.append_right _ (List.Perm.append_left _ H)
      _ = a ++ b:=by
       simp only [aw4]
       rw [t2,← aw4,t1]
    ·have a3:Srt R (a.take k ++ a.drop k):=by rw [ax1];exact W
     have a5:Srt R (b.take j ++ b.drop j):=by rw [ax1];exact O
     have ca:=(ax9.mp a3).2.2
     have cb:=(ax9.mp a5).2.2
     refine ax9.mpr ⟨ax9.mpr ⟨abi W,ms,fun x c y d=>?_⟩,ab1 O,fun x c y d=>?_⟩
     ·rcases J y d with d | d
      ·exact ca x c y d
      ·exact C.tr x b0 y (K x (ax0 c)) v (N y (ax0 d)) (I x c) (B y (ax0 d))
     ·have Sy:=N y (ax4 d)
      rcases av7.mp c with c | c
      ·exact C.tr x b0 y (K x (ax0 c)) v Sy (I x c) (B y (ax4 d))
      ·rcases J x c with c | c
       ·exact C.tr x _ y (K x (ax4 c)) Sl Sy (L x (ax4 c)) (h4 y d)
       ·exact cb x c y d
   refine aaf (fun e3=>?_) (fun e3=>?_)
   ·exact wpS_bind (alx C T Z fun m st' q fm=>fin m st' q fm)
   ·exact wpS_bind (aly C T Z fun m st' q fm=>fin m st' q fm)
end
def e (xs:Array Keyed) (k:Nat):Keyed:=(xs[k]?).getD (.none,.none)
theorem afx {xs:Array Keyed} {k:Nat} (h:k < xs.size):xs[k]?=some (e xs k):=by
 unfold e;rw [av4 h];rfl
def Asc (R:Keyed->Keyed->Bool) (xs:Array Keyed) (l h:Nat):Prop:=∀ i j,l<=i->i<=j->j < h->R (e xs j) (e xs i)=false
def Des (R:Keyed->Keyed->Bool) (xs:Array Keyed) (l h:Nat):Prop:=∀ i j,l<=i->i<=j->j < h->R (e xs i) (e xs j)=false
structure Bs (κ:SortKind) (p0:Array (Nat × Nat × Nat)) (a0:Array Keyed) (lo:Nat) (st:SortSt):Prop where
 k:kindOf st = κ
 f:failedOf st=none
 p:pendingOf st=p0
 perm:(arrOf st).toList.Perm a0.toList
 pre:∀ k,k < lo->(arrOf st)[k]?=a0[k]?
theorem aox {xs:Array Keyed} {src d:Nat} (a:src < xs.size) (hd:d<=src) (k:Nat):e (bubble xs src d) k=if k=src - d then e xs src else if src - d < k/\k<=src then e xs (k - 1) else e xs k:=by
 unfold e
 rw [getElem?_bubble a d hd]
 repeat' split
 all_goals rfl
theorem ab5 {xs:Array Keyed} {i j:Nat} (a:j<=xs.size) (k:Nat):e (mirror xs i j ((j - i) / 2)) k=if i<=k/\k < j then e xs (i+j - 1 - k) else e xs k:=by
 unfold e
 rw [getElem?_mirror_all a]
 split <;> rfl
section
variable {M:Model} {A:Around} {E:Value->Shared->Prop} {s:Shared} {κ:SortKind} {S:Keyed->Prop} {R:Keyed->Keyed->Bool} {p0:Array (Nat × Nat × Nat)} {a0:Array Keyed} {lo:Nat}
theorem Bs.size {st:SortSt} (B:Bs κ p0 a0 lo st):(arrOf st).size=a0.size:=by
 have:=B.perm.length_eq
 simpa using this
theorem Bs.sat {st:SortSt} (B:Bs κ p0 a0 lo st) (a:∀ x∈a0.toList,S x) {k:Nat} (b:k < a0.size):S (e (arrOf st) k):=by
 have h:=afx (xs:=arrOf st) (k:=k) (by rw [B.size];exact b)
 refine a _ (B.perm.mem_iff.mp ?_)
 rw [← ay4] at h
 exact av2 h
theorem aei (C:Cmp M A E s κ S R) (b:∀ x∈a0.toList,S x) {st:SortSt} (B:Bs κ p0 a0 lo st) {i j:Nat} (hi:i < a0.size) (a:j < a0.size) {Q:Option Bool->SortSt->Prop} (h:Q (some (R (e (arrOf st) i) (e (arrOf st) j))) st) :
  wpS M A E s (ltAt' i j) Q st:=by
 rw [ltAt'_eq]
 refine wpS_bind (wpS_get ?_)
 refine wpS_bind (aap (afx (by rw [B.size];exact hi)) ?_)
 refine wpS_bind (aap (afx (by rw [B.size];exact a)) ?_)
 exact C.ask _ _ (B.sat b hi) (B.sat b a) _ _ B.k h
theorem aoy (C:Cmp M A E s κ S R) {xs:Array Keyed} {l h:Nat} (b:∀ k,k<=h->S (e xs k)) (f:l < h) (a:Asc R xs l h) (n:R (e xs h) (e xs (h - 1))=false):Asc R xs l (h+1):=by
 intro i j c d g
 by_cases hj:j=h
 ·subst hj
  by_cases hi:i=j
  ·subst hi;exact C.irr (b _ (av6 _))
  ·exact C.tr _ (e xs (j - 1)) _ (b _ (by omega)) (b _ (by omega)) (b _ (by omega)) (a i (j - 1) c (by omega) (by omega)) n
 ·exact a i j c d (by omega)
theorem adx (C:Cmp M A E s κ S R) {xs:Array Keyed} {l h:Nat} (b:∀ k,k<=h->S (e xs k)) (f:l < h) (a:Des R xs l h) (n:R (e xs (h - 1)) (e xs h)=false):Des R xs l (h+1):=by
 intro i j c d g
 by_cases hj:j=h
 ·subst hj
  by_cases hi:i=j
  ·subst hi;exact C.irr (b _ (av6 _))
  ·exact C.tr _ (e xs (j - 1)) _ (b _ (by omega)) (b _ (by omega)) (b _ (by omega)) n (a i (j - 1) c (by omega) (by omega))
 ·exact a i j c d (by omega)
theorem Bs.set {st:SortSt} (B:Bs κ p0 a0 lo st) {xs:Array Keyed} (c:xs.Perm (arrOf st)) (b:∀ k,k < lo->xs[k]?=(arrOf st)[k]?):Bs κ p0 a0 lo (setArr st xs) :=
 ⟨B.k,B.f,B.p,c.toList.trans B.perm,fun k a=>(b k a).trans (B.pre k a)⟩
theorem al0 (C:Cmp M A E s κ S R) (D:∀ x∈a0.toList,S x) {st:SortSt} (B:Bs κ p0 a0 lo st) {n ok:Nat} (hn:lo+n<=a0.size) (hok:ok<=n) (P:1<=n) (O:Asc R (arrOf st) lo (lo+ok)) {Q:Bool->SortSt->Prop}
  (h:∀ st',Bs κ p0 a0 lo st'->Asc R (arrOf st') lo (lo+n)->Q true st'):wpS M A E s (aow lo n ok) Q st:=by
 refine wpS_bind (wpS_mono (Q:=fun (z:Option Bool × Unit) st'=>z.1=none/\Bs κ p0 a0 lo st'/\Asc R (arrOf st') lo (lo+n)) ?_ ?_)
 ·refine wpS_forRange (fun k (z:Option Bool × Unit) st'=>z.1=none/\Bs κ p0 a0 lo st'/\Asc R (arrOf st') lo (lo+k)) ?_ ?_ ⟨rfl,B,fun i j m g v=>?_⟩
  ·rintro k ⟨o,_⟩ b N J ⟨rfl,q,as⟩
   have d:∀ j,j < lo+n->S (e (arrOf b) j):=fun j w=>q.sat D (by omega)
   refine wpS_bind (wpS_mono (Q:=fun (z:Option Bool × Nat × Nat) st'=>st'=b/\z.1=none/\z.2.1<=k/\(∀ i,i < z.2.1->R (e (arrOf b) (lo+k)) (e (arrOf b) (lo+i))=false)/\(∀ i,z.2.1<=i->i < k->R (e (arrOf b) (lo+k)) (e (arrOf b) (lo+i))=true)) ?_ ?_)
   ·refine wpS_forRange (fun t (z:Option Bool × Nat × Nat) st'=>st'=b/\z.1=none/\z.2.1<=z.2.2/\z.2.2<=k/\z.2.2 - z.2.1+t<=k/\(∀ i,i < z.2.1->R (e (arrOf b) (lo+k)) (e (arrOf b) (lo+i))=false)/\(∀ i,z.2.2<=i->i < k->R (e (arrOf b) (lo+k)) (e (arrOf b) (lo+i))=true)) ?_ ?_
     ⟨rfl,rfl,Nat.zero_le _,Nat.le_refl _,by dsimp only;omega,fun i hi=>absurd hi (Nat.not_lt_zero _),fun i m g=>by dsimp only at m;omega⟩
    ·rintro t ⟨o,l,r⟩ a _ T ⟨rfl,c,m,g,v,p,f⟩
     dsimp only at c m g v p f ⊢
     subst c
     refine aaf (fun F=>?_) (fun F=>?_)
     ·have:l=r:=by omega
      subst this
      exact wpS_pure ⟨rfl,rfl,g,p,f⟩
     ·have hm:(l+r) / 2 < r:=by omega
      have G:l<=(l+r) / 2:=by omega
      refine wpS_bind (aei C D q (by omega) (by omega) ?_)
      dsimp only
      cases er:R (e (arrOf a) (lo+k)) (e (arrOf a) (lo+(l+r) / 2)) with
      | true =>
       rw [az7 rfl]
       refine wpS_pure ⟨rfl,rfl,G,by dsimp only;omega,by dsimp only;omega,p,fun i u y=>?_⟩
       dsimp only at u
       cases e2:R (e (arrOf a) (lo+k)) (e (arrOf a) (lo+i)) with
       | true=>rfl
       | false =>
        have:=C.tr _ _ _ (d _ (by omega)) (d _ (by omega)) (d _ (by omega)) (as (lo+(l+r) / 2) (lo+i) (by omega) (by omega) (by omega)) e2
        rw [this] at er;cases er
      | false =>
       rw [az8 (by decide)]
       refine wpS_pure ⟨rfl,rfl,by dsimp only;omega,g,by dsimp only;omega,fun i u=>?_,f⟩
       dsimp only at u
       exact C.tr _ _ _ (d _ (by omega)) (d _ (by omega)) (d _ (by omega)) (as (lo+i) (lo+(l+r) / 2) (by omega) (by omega) (by omega)) er
    ·rintro ⟨o,l,r⟩ a ⟨rfl,c,m,g,v,p,f⟩
     dsimp only at c m g v p f ⊢
     have : l = r := by have:k ≤ max 0 k := by omega
                        omega
     subst this
     exact ⟨rfl,c,g,p,f⟩
   ·rintro ⟨o,l,r⟩ a ⟨rfl,c,m,p,f⟩
    dsimp only at c m p f ⊢
    subst c
    dsimp only
    have hsz:lo+k < (arrOf a).size:=by rw [q.size];omega
    have hd:(lo+k) - (lo+l)=k - l:=by omega
    refine wpS_bind (wpS_modify ?_)
    have H:∀ j,e (bubble (arrOf a) (lo+k) (lo+k - (lo+l))) j=if j=lo+l then e (arrOf a) (lo+k) else if lo+l < j/\j<=lo+k then e (arrOf a) (j - 1) else e (arrOf a) j:=fun j=>by
     rw [aox hsz (by omega),show lo+k - (lo+k - (lo+l))=lo+l by omega]
    refine wpS_pure ⟨rfl,q.set (bubble_perm _ _ _) (fun j w=>?_),fun i j u y L=>?_⟩
    ·show (bubble (arrOf a) (lo+k) (lo+k - (lo+l)))[j]?=_
     rw [getElem?_bubble hsz _ (by omega),az8 (by omega),az8 (by omega)]
    ·show R (e (bubble (arrOf a) (lo+k) (lo+k - (lo+l))) j) (e (bubble (arrOf a) (lo+k) (lo+k - (lo+l))) i)=false
     rw [H,H]
     have K:∀ j,j < lo+n->S (e (arrOf a) j):=d
     by_cases j1:j=lo+l
     ·rw [az7 j1]
      by_cases i4:i=lo+l
      ·rw [az7 i4];exact C.irr (d _ (by omega))
      ·rw [az8 i4,az8 (by omega)]
       have:=p (i - lo) (by omega)
       rw [show lo+(i - lo)=i by omega] at this
       exact this
     ·rw [az8 j1]
      by_cases j2:lo+l < j/\j<=lo+k
      ·rw [az7 j2]
       have I:=f (j - 1 - lo) (by omega) (by omega)
       rw [show lo+(j - 1 - lo)=j - 1 by omega] at I
       by_cases i4:i=lo+l
       ·rw [az7 i4];exact C.asy _ _ (d _ (by omega)) (d _ (by omega)) I
       ·rw [az8 i4]
        by_cases i5:lo+l < i/\i<=lo+k
        ·rw [az7 i5];exact as (i - 1) (j - 1) (by omega) (by omega) (by omega)
        ·rw [az8 i5];exact as i (j - 1) (by omega) (by omega) (by omega)
      ·rw [az8 j2,az8 (by omega),az8 (by omega)]
       exact as i j (by omega) (by omega) (by omega)
  ·rintro ⟨o,_⟩ b ⟨c,q,as⟩
   exact ⟨c,q,fun i j u y L=>as i j u y (by omega)⟩
  ·by_cases w:j < lo+ok
   ·exact O i j m g w
   ·have:i=j:=by omega
    subst this
    exact C.irr (B.sat D (by omega))
 ·rintro ⟨o,_⟩ b ⟨c,q,as⟩
  dsimp only at c ⊢
  subst c
  exact wpS_pure (h b q as)
end
def Eqb (R:Keyed->Keyed->Bool) (xs:Array Keyed) (l h:Nat):Prop:=∀ i j,l<=i->i < h->l<=j->j < h->R (e xs i) (e xs j)=false
section
variable {M:Model} {A:Around} {E:Value->Shared->Prop} {s:Shared} {κ:SortKind} {S:Keyed->Prop} {R:Keyed->Keyed->Bool} {p0:Array (Nat × Nat × Nat)} {a0:Array Keyed} {lo:Nat}
theorem ak3 {α:Type} {prog:StateT SortSt Sem α} {P:SortSt->Prop} {Q : α->SortSt->Prop} {G:Prop} (use:(∀ st,P st->wpS M A E s prog Q st)->G) (a:∀ st,P st->wpS M A E s prog Q st):G:=use a
theorem ai4 (C:Cmp M A E s κ S R) (f:∀ x∈a0.toList,S x) {st:SortSt} (B:Bs κ p0 a0 lo st) {a nrem:Nat} (j:1<=a) (g:a<=nrem) (hn:lo+nrem<=a0.size) (as:Asc R (arrOf st) lo (lo+a)) {Q:Option (Option Nat) × Nat->SortSt->Prop}
  (h:∀ n,a<=n->n<=nrem->Asc R (arrOf st) lo (lo+n)->(n < nrem->R (e (arrOf st) (lo+n)) (e (arrOf st) (lo+n - 1))=true)->Q (none,n) st) :
  wpS M A E s (forIn [a:nrem] ((none,a):Option (Option Nat) × Nat) (fun (_:Nat) z=>ltAt' (lo+z.2) (lo+z.2 - 1) >>= fun x=>match x with
   | some smaller=>if smaller=true then pure (ForInStep.done (none,z.2)) else pure (ForInStep.yield (none,z.2+1))
   | _=>pure (ForInStep.done (some none,z.2)))) Q st:=by
 refine wpS_forRange (fun t (z:Option (Option Nat) × Nat) st'=>st'=st/\z=(none,t)/\Asc R (arrOf st) lo (lo+t)) ?_ ?_ ⟨rfl,rfl,as⟩
 ·rintro t ⟨o,n⟩ c i l ⟨rfl,d,b⟩
  cases d
  dsimp only
  refine wpS_bind (aei C f B (by omega) (by omega) ?_)
  dsimp only
  cases er:R (e (arrOf c) (lo+t)) (e (arrOf c) (lo+t - 1)) with
  | true =>
   rw [az7 rfl]
   exact wpS_pure (h t i (by omega) b fun _=>er)
  | false =>
   rw [az8 (by decide)]
   exact wpS_pure ⟨rfl,rfl,aoy C (h:=lo+t) (fun k m=>B.sat f (by omega)) (by omega) b er⟩
 ·rintro ⟨o,n⟩ c ⟨rfl,d,b⟩
  cases d
  rw [show max a nrem=nrem by omega] at b ⊢
  exact h nrem g (av6 _) b fun z=>absurd z (aA5 _)
theorem aoz (C:Cmp M A E s κ S R) {st:SortSt} (B:Bs κ p0 a0 lo st) {n:Nat} (hn:lo+n<=a0.size) (b:Des R (arrOf st) lo (lo+n)) :
  Bs κ p0 a0 lo (setArr st (mirror (arrOf st) lo (lo+n) ((lo+n - lo) / 2)))/\Asc R (mirror (arrOf st) lo (lo+n) ((lo+n - lo) / 2)) lo (lo+n):=by
 have a:lo+n<=(arrOf st).size:=by rw [B.size];exact hn
 refine ⟨B.set (mirror_perm _ _ _ _) (fun k g=>by rw [getElem?_mirror_all a,az8 (by omega)]),fun i j c f d=>?_⟩
 rw [ab5 a,ab5 a,az7 (by omega),az7 (by omega)]
 exact b _ _ (by omega) (by omega) (by omega)
theorem ago (C:Cmp M A E s κ S R) (c:∀ x∈a0.toList,S x) {st:SortSt} (B:Bs κ p0 a0 lo st) {l h m:Nat} (p:lo<=l) (hh:h<=a0.size) (hm:h<=m) (f:m<=a0.size) (a:Des R (arrOf st) lo m) (eq:Eqb R (arrOf st) l h) :
  Bs κ p0 a0 lo (setArr st (mirror (arrOf st) l h ((h - l) / 2)))/\Des R (mirror (arrOf st) l h ((h - l) / 2)) lo m:=by
 have b:h<=(arrOf st).size:=by rw [B.size];exact hh
 refine ⟨B.set (mirror_perm _ _ _ _) (fun k d=>by rw [getElem?_mirror_all b,az8 (by omega)]),fun i j g o n=>?_⟩
 rw [ab5 b,ab5 b]
 have q:∀ k,k < m->S (e (arrOf st) k):=fun k d=>B.sat c (by omega)
 by_cases c1:l<=i/\i < h
 ·rw [az7 c1]
  by_cases c2:l<=j/\j < h
  ·rw [az7 c2]
   exact eq _ _ (by omega) (by omega) (by omega) (by omega)
  ·rw [az8 c2]
   exact a _ _ (by omega) (by omega) (by omega)
 ·rw [az8 c1]
  by_cases c2:l<=j/\j < h
  ·rw [az7 c2]
   exact a _ _ (by omega) (by omega) (by omega)
  ·rw [az8 c2]
   exact a _ _ (by omega) (by omega) (by omega)
theorem ani (C:Cmp M A E s κ S R) (p:∀ x∈a0.toList,S x) {st:SortSt} (B:Bs κ p0 a0 lo st) {nrem:Nat} (h1:1<=nrem) (hn:lo+nrem<=a0.size) {Q:Option Nat->SortSt->Prop}
  (h:∀ st' n,Bs κ p0 a0 lo st'->1<=n->n<=nrem->Asc R (arrOf st') lo (lo+n)->Q (some n) st'):wpS M A E s (aq7 lo nrem) Q st:=by
 refine wpS_bind (ai4 C p B (av6 1) h1 hn (fun i j r u i3=>?_) fun n n1 n2 as br=>?_)
 ·have:i=j:=by omega
  subst this
  exact C.irr (B.sat p (by omega))
 dsimp only
 refine aaf (fun en=>wpS_pure (h st n B n1 n2 as)) (fun en=>?_)
 have a5:n ≠ nrem:=by simpa using en
 have X:n < nrem:=by omega
 have H:=br X
 refine ak3 (M:=M) (A:=A) (E:=E) (s:=s) (α:=Option Nat) (Q:=Q) (P:=fun v=>Bs κ p0 a0 lo v/\Des R (arrOf v) lo (lo+n)/\R (e (arrOf v) (lo+n)) (e (arrOf v) (lo+n - 1))=true) (prog:=?prog) (fun L=>?use) (fun v ⟨O,W,Y⟩=>?pf)
 case use =>
  refine aaf (fun g1=>?_) (fun g1=>?_)
  ·refine wpS_bind (aei C p B (by omega) (by omega) ?_)
   dsimp only
   cases er:R (e (arrOf st) lo) (e (arrOf st) (lo+n - 1)) with
   | true=>rw [az7 rfl];exact wpS_pure (h st n B n1 n2 as)
   | false =>
    rw [az8 (by decide)]
    -- all of them are equal
    have c:∀ k,k < lo+n->S (e (arrOf st) k):=fun k K=>B.sat p (by omega)
    have all:Eqb R (arrOf st) lo (lo+n):=fun i j r u D y=>by
     -- j<=last<=first<=i
     have a1:=as j (lo+n - 1) D (by omega) (by omega)
     have a2:=as lo i (av6 _) r u
     exact C.tr _ _ _ (c j y) (c lo (by omega)) (c i u) (C.tr _ _ _ (c j y) (c (lo+n - 1) (by omega)) (c lo (by omega)) a1 er) a2
    have W:Des R (arrOf st) lo (lo+n):=fun i j r u i3=>all i j r (by omega) (by omega) i3
    have U:lo+n<=(arrOf st).size:=by rw [B.size];omega
    obtain ⟨q,a⟩:=ago C p B (av6 lo) (show lo+n<=a0.size by omega) (av6 _) (by omega) W all
    refine wpS_bind (wpS_modify ?_)
    refine L _ ⟨q,a,?_⟩
    show R (e (mirror (arrOf st) lo (lo+n) ((lo+n - lo) / 2)) (lo+n)) (e (mirror (arrOf st) lo (lo+n) ((lo+n - lo) / 2)) (lo+n - 1))=true
    rw [ab5 U,ab5 U,az8 (by omega),az7 (by omega)]
    rw [show lo+(lo+n) - 1 - (lo+n - 1)=lo by omega]
    cases e2:R (e (arrOf st) (lo+n)) (e (arrOf st) lo) with
    | true=>rfl
    | false =>
     have:=C.tr _ _ _ (c (lo+n - 1) (by omega)) (c lo (by omega)) (B.sat p (show lo+n < a0.size by omega)) er e2
     rw [this] at H;cases H
  ·have:n=1:=by omega
   subst this
   refine L st ⟨B,fun i j r u i3=>?_,H⟩
   have:i=j:=by omega
   subst this
   exact C.irr (B.sat p (by omega))
 case pf =>
  -- the falling part
  refine wpS_bind (aca ?_)
  refine wpS_bind (wpS_mono (Q:=fun (z:Option (Option Nat) × Nat × Nat) st'=>z.1=none/\Bs κ p0 a0 lo st'/\z.2.1<=nrem/\z.2.2+1<=z.2.1/\Des R (arrOf st') lo (lo+z.2.1)/\Eqb R (arrOf st') (lo+z.2.1 - (z.2.2+1)) (lo+z.2.1)) ?_ ?_)
  ·refine wpS_forRange (fun t (z:Option (Option Nat) × Nat × Nat) st'=>z.1=none/\z.2.1=t/\Bs κ p0 a0 lo st'/\z.2.2+1<=z.2.1/\Des R (arrOf st') lo (lo+z.2.1)/\Eqb R (arrOf st') (lo+z.2.1 - (z.2.2+1)) (lo+z.2.1)) ?_ ?_ ⟨rfl,rfl,O,by dsimp only;omega,?_,fun i j r u D y=>?_⟩
   ·rintro t ⟨o,m,b⟩ f t1 t2 ⟨F,T,q,I,a,d⟩
    dsimp only at F T I a d ⊢
    subst F T
    have c:∀ k,k < a0.size->S (e (arrOf f) k):=fun k K=>q.sat p K
    refine wpS_bind (aei C p q (by omega) (by omega) ?_)
    dsimp only
    cases er:R (e (arrOf f) (lo+m)) (e (arrOf f) (lo+m - 1)) with
    | true =>
     rw [az7 rfl]
     refine aaf (fun g=>?_) (fun g=>?_)
     ·have U:lo+m<=(arrOf f).size:=by rw [q.size];omega
      obtain ⟨J,w⟩:=ago C p q (l:=lo+m - (b+1)) (h:=lo+m) (by omega) (by omega) (av6 _) (by omega) a d
      have N:∀ k,e (mirror (arrOf f) (lo+m - (b+1)) (lo+m) ((lo+m - (lo+m - (b+1))) / 2)) k=if lo+m - (b+1)<=k/\k < lo+m then e (arrOf f) (lo+m - (b+1)+(lo+m) - 1 - k) else e (arrOf f) k:=fun k=>ab5 U k
      refine wpS_bind (wpS_modify ?_)
      refine wpS_pure ⟨rfl,rfl,J,by dsimp only;omega,?_,fun i j r u D y=>?_⟩
      ·show Des R (mirror (arrOf f) (lo+m - (b+1)) (lo+m) ((lo+m - (lo+m - (b+1))) / 2)) lo (lo+(m+1))
       refine adx C (h:=lo+m) (fun k K=>J.sat p (by omega)) (by omega) w ?_
       rw [N,N,az7 (by omega),az8 (by omega)]
       rw [show lo+m - (b+1)+(lo+m) - 1 - (lo+m - 1)=lo+m - (b+1) by omega]
       exact C.tr _ _ _ (c _ (by omega)) (c (lo+m - 1) (by omega)) (c _ (by omega)) (C.asy _ _ (c _ (by omega)) (c _ (by omega)) er) (a _ _ (by omega) (by omega) (by omega))
      ·dsimp only at r u D y
       have:i=j:=by omega
       subst this
       exact C.irr (J.sat p (by omega))
     ·have:b=0:=by omega
      subst this
      refine wpS_pure ⟨rfl,rfl,q,by dsimp only;omega,adx C (h:=lo+m) (fun k K=>c k (by omega)) (by omega) a (C.asy _ _ (c _ (by omega)) (c _ (by omega)) er),fun i j r u D y=>?_⟩
      dsimp only at r u D y
      have:i=j:=by omega
      subst this
      exact C.irr (c _ (by omega))
    | false =>
     rw [az8 (by decide)]
     refine wpS_bind (aei C p q (by omega) (by omega) ?_)
     dsimp only
     cases er2:R (e (arrOf f) (lo+m - 1)) (e (arrOf f) (lo+m)) with
     | true =>
      rw [az7 rfl]
      exact wpS_pure ⟨rfl,q,by dsimp only;omega,I,a,d⟩
     | false =>
      rw [az8 (by decide)]
      refine wpS_pure ⟨rfl,rfl,q,by dsimp only;omega,adx C (h:=lo+m) (fun k K=>c k (by omega)) (by omega) a er2,fun i j r u D y=>?_⟩
      dsimp only at r u D y
      by_cases ci:i=lo+m
      ·by_cases cj:j=lo+m
       ·rw [ci,cj];exact C.irr (c _ (by omega))
       ·rw [ci]
        exact C.tr _ _ _ (c j (by omega)) (c (lo+m - 1) (by omega)) (c _ (by omega)) (d (lo+m - 1) j (by omega) (by omega) (by omega) (by omega)) er
      ·by_cases cj:j=lo+m
       ·rw [cj]
        exact C.tr _ _ _ (c _ (by omega)) (c (lo+m - 1) (by omega)) (c i (by omega)) er2 (d i (lo+m - 1) (by omega) (by omega) (by omega) (by omega))
       ·exact d i j (by omega) (by omega) (by omega) (by omega)
   ·rintro ⟨o,m,b⟩ f ⟨F,T,q,I,a,d⟩
    dsimp only at F T I a d ⊢
    exact ⟨F,q,by omega,I,a,d⟩
   ·exact adx C (h:=lo+n) (fun k K=>O.sat p (by omega)) (by omega) W (C.asy _ _ (O.sat p (by omega)) (O.sat p (by omega)) Y)
   ·dsimp only at r u D y
    have:i=j:=by omega
    subst this
    exact C.irr (O.sat p (by omega))
  ·rintro ⟨o,m,b⟩ f ⟨F,q,hm,I,a,d⟩
   dsimp only at F hm I a d ⊢
   subst F
   dsimp only
   refine ak3 (M:=M) (A:=A) (E:=E) (s:=s) (α:=Option Nat) (Q:=Q) (P:=fun G=>Bs κ p0 a0 lo G/\Des R (arrOf G) lo (lo+m)) (prog:=?prog2) (fun L=>?use2) (fun G ⟨J,w⟩=>?pf2)
   case use2 =>
    refine aaf (fun g=>?_) (fun g=>?_)
    ·obtain ⟨J,w⟩:=ago C p q (l:=lo+m - (b+1)) (h:=lo+m) (by omega) (by omega) (av6 _) (by omega) a d
     refine wpS_bind (wpS_modify ?_)
     exact L _ ⟨J,w⟩
    ·exact L _ ⟨q,a⟩
   case pf2 =>
    obtain ⟨B5,a3⟩:=aoz C J (n:=m) (by omega) w
    refine wpS_bind (wpS_modify ?_)
    refine wpS_bind (ai4 C p B5 (by omega) hm hn a3 fun n' a6 a4 Z _=>?_)
    exact wpS_pure (h _ n' B5 (by omega) a4 Z)
end
def flat (rs:List (List Keyed × Nat)):List Keyed:=(rs.map (·.1)).flatten
def pend:Nat->List (List Keyed × Nat)->List (Nat × Nat × Nat)
 | _,[]=>[]
 | k,(r,pw) :: t=>(k,r.length,pw) :: pend (k+r.length) t
theorem aff:flat []=[]:=rfl
theorem abc (r:List Keyed × Nat) (t:List (List Keyed × Nat)):flat (r :: t)=r.1 ++ flat t:=rfl
theorem aa8 (p q:List (List Keyed × Nat)):flat (p ++ q)=flat p ++ flat q:=by simp [flat]
theorem abj:∀ (k:Nat) (p q:List (List Keyed × Nat)),pend k (p ++ q)=pend k p ++ pend (k+(flat p).length) q
 | k,[],q=>by simp [pend,aff]
 | k,(r,pw) :: t,q=>by
  simp only [List.cons_append,pend,abc,aw1,List.cons.injEq,true_and]
  rw [abj (k+r.length) t q,Nat.add_assoc]
theorem ace:∀ (k:Nat) (p:List (List Keyed × Nat)),(pend k p).length=p.length
 | _,[]=>rfl
 | k,(r,pw) :: t=>by simp [pend,ace _ t]
section
variable {M:Model} {A:Around} {E:Value->Shared->Prop} {s:Shared} {κ:SortKind} {S:Keyed->Prop} {R:Keyed->Keyed->Bool} {a0:Array Keyed}
structure Rn (κ:SortKind) (R:Keyed->Keyed->Bool) (a0:Array Keyed) (rs:List (List Keyed × Nat)) (rest:List Keyed) (st:SortSt):Prop where
 k:kindOf st = κ
 f:failedOf st=none
 arr:(arrOf st).toList=flat rs ++ rest
 pn:(pendingOf st).toList=pend 0 rs
 ok:∀ r∈rs,r.1 ≠ []/\Srt R r.1
 perm:(arrOf st).toList.Perm a0.toList
theorem aq9 {α:Type} (a b:List α) (x c y : α):((a ++ x :: y :: b).set a.length c).eraseIdx (a.length+1)=a ++ c :: b:=by
 rw [List.set_append_right _ _ (av6 _),Nat.sub_self,List.set_cons_zero,List.eraseIdx_append_of_length_le (by omega)]
 rw [show a.length+1 - a.length=1 by omega]
 rfl
theorem afy (C:Cmp M A E s κ S R) (B:∀ x∈a0.toList,S x) {st:SortSt} {rs:List (List Keyed × Nat)} {rest:List Keyed} (N:Rn κ R a0 rs rest st) {i:Nat} (hi:i+1 < rs.length) {Q:Bool->SortSt->Prop}
  (h:∀ st' n,Rn κ R a0 n rest st'->n.length+1=rs.length->(flat n).length=(flat rs).length->Q true st'):wpS M A E s (ai2 i) Q st:=by
 obtain ⟨p,a,pw,b,pw2,q,e,F⟩:∃ p a pw b pw2 q,rs=p ++ (a,pw) :: (b,pw2) :: q/\p.length=i:=by
  have y:rs=rs.take i ++ rs.drop i:=(ax1 i rs).symm
  have hd:rs.drop i=rs[i] :: rs[i+1] :: rs.drop (i+2):=by
   rw [List.drop_eq_getElem_cons (by omega),List.drop_eq_getElem_cons hi]
  exact ⟨rs.take i,rs[i].1,rs[i].2,rs[i+1].1,rs[i+1].2,rs.drop (i+2),by rw [← hd];exact y,by simp;omega⟩
 subst F
 have d:=N.ok (a,pw) (by rw [e];simp)
 have j:=N.ok (b,pw2) (by rw [e];simp)
 have l:(pendingOf st).toList=pend 0 p ++ ((flat p).length,a.length,pw) :: ((flat p).length+a.length,b.length,pw2) :: pend ((flat p).length+a.length+b.length) q:=by
  rw [N.pn,e,abj];simp [pend]
 have c:(pend 0 p).length=p.length:=ace 0 p
 have g:(arrOf st).toList=flat p ++ a ++ b ++ (flat q ++ rest):=by
  rw [N.arr,e,aa8,abc,abc];simp [aw4]
 refine alz C (i:=p.length) (pw:=pw) (pw2:=pw2) g (fun x w=>B x (N.perm.mem_iff.mp w)) ?_ ?_ d.1 j.1 d.2 j.2 N.k N.f fun st' m H I v u pm D=>?_
 ·rw [← ay4,l,ax8 (by omega),c,Nat.sub_self];rfl
 ·rw [← ay4,l,ax8 (by omega),c,show p.length+1 - p.length=1 by omega];rfl
 ·refine h st' (p ++ (m,pw) :: q) ⟨H,I,?_,?_,fun r o=>?_,?_⟩ (by rw [e];simp;omega) ?_
  ·rw [u,aa8,abc];simp [aw4]
  ·rw [v,Array.toList_eraseIdxIfInBounds,Array.toList_setIfInBounds,l,← c,aq9,abj]
   simp [pend,pm.length_eq,Nat.add_assoc]
  ·rcases av7.mp o with o | o
   ·exact N.ok r (by rw [e];simp [o])
   ·rcases av9.mp o with rfl | o
    ·refine ⟨?_,D⟩
     intro z
     have:=pm.length_eq
     have G:m=[]:=z
     rw [G] at this
     have:=aA0.mpr d.1
     simp at *
     omega
    ·exact N.ok r (by rw [e];simp [o])
  ·rw [u]
   refine List.Perm.trans ?_ N.perm
   rw [g]
   have:(flat p ++ a ++ b ++ (flat q ++ rest))=flat p ++ (a ++ b) ++ (flat q ++ rest):=by simp [aw4]
   rw [this]
   exact (pm.append_left (flat p)).append_right _
  ·rw [e,aa8,aa8,abc,abc,abc]
   simp [pm.length_eq]
   omega
theorem Rn.run {rs:List (List Keyed × Nat)} {rest:List Keyed} {st st':SortSt} {n:Nat} (N:Rn κ R a0 rs rest st) (B:Bs κ (pendingOf st) (arrOf st) (flat rs).length st') (u:1<=n) (hn:(flat rs).length+n<=(arrOf st).size) (as:Asc R (arrOf st') (flat rs).length ((flat rs).length+n)) :
  ∃ r a,r.length=n/\r ≠ []/\Srt R r/\Rn κ R a0 rs (r ++ a) st':=by
 have hsz:=B.size
 have b:(arrOf st').toList.take (flat rs).length=flat rs:=by
  have o:(arrOf st').toList.take (flat rs).length=(arrOf st).toList.take (flat rs).length:=by
   apply aA3
   intro k
   rw [List.getElem?_take,List.getElem?_take]
   split
   ·rename_i d
    have:=B.pre k d
    simpa using this
   ·rfl
  rw [o,N.arr,List.take_left]
 refine ⟨((arrOf st').toList.drop (flat rs).length).take n,((arrOf st').toList.drop (flat rs).length).drop n,?_,?_,?_,B.k,B.f,?_,?_,N.ok,B.perm.trans N.perm⟩
 ·simp;omega
 ·intro z
  have:=congrArg List.length z
  simp at this
  omega
 ·unfold Srt
  rw [aA8]
  intro i j hi g s
  have c:j < n:=by simp at g;omega
  have get:∀ k,k < n->∀ (d:k < (((arrOf st').toList.drop (flat rs).length).take n).length),(((arrOf st').toList.drop (flat rs).length).take n)[k]=e (arrOf st') ((flat rs).length+k):=by
   intro k d m
   rw [List.getElem_take,List.getElem_drop]
   have l:=afx (xs:=arrOf st') (k:=(flat rs).length+k) (by omega)
   have q:(flat rs).length+k < (arrOf st').toList.length:=by simp;omega
   have h:(arrOf st').toList[(flat rs).length+k]?=some (e (arrOf st') ((flat rs).length+k)):=by simpa using l
   rw [av0 q] at h
   exact ax6 h
  rw [get i (by omega) hi,get j c g]
  exact as _ _ (by omega) (by omega) (by omega)
 ·rw [ax1]
  conv=>lhs;rw [← ax1 (flat rs).length (arrOf st').toList,b]
 ·rw [B.p];exact N.pn
theorem Rn.bs {rs:List (List Keyed × Nat)} {rest:List Keyed} {st:SortSt} (N:Rn κ R a0 rs rest st):Bs κ (pendingOf st) (arrOf st) (flat rs).length st:=⟨N.k,N.f,rfl,List.Perm.refl _,fun _ _=>rfl⟩
theorem Rn.size {rs:List (List Keyed × Nat)} {rest:List Keyed} {st:SortSt} (N:Rn κ R a0 rs rest st):(arrOf st).size=a0.size:=by
 have:=N.perm.length_eq;simpa using this
theorem Rn.len {rs:List (List Keyed × Nat)} {rest:List Keyed} {st:SortSt} (N:Rn κ R a0 rs rest st):(flat rs).length+rest.length=a0.size:=by
 have:=congrArg List.length N.arr
 have a:=N.size
 simp at this
 omega
theorem ao0 {rs:List (List Keyed × Nat)} (h:∀ r∈rs,r.1 ≠ []):rs.length<=(flat rs).length:=by
 induction rs with
 | nil=>simp [flat]
 | cons r t ih =>
  rw [abc,aw1,az0]
  have:=ih fun q a=>h q (aw5 _ a)
  have:=aA0.mpr (h r aw8)
  omega
theorem ai5 {α:Type} (f : α->α):∀ (l:List α) (x : α),(l ++ [x]).modify l.length f=l ++ [f x]
 | [],x=>rfl
 | y :: l,x=>by
  show (y :: (l ++ [x])).modify (l.length+1) f=_
  rw [List.modify_succ_cons,ai5 f l x];rfl
theorem akd {α:Type} (arr:Array α) (f : α->α) {l:List α} {x : α} (h:arr.toList=l ++ [x]):(arr.modify (arr.size - 1) f).toList=l ++ [f x]:=by
 have a:arr.size=l.length+1:=by have:=congrArg List.length h;simpa using this
 rw [Array.toList_modify,h,a,show l.length+1 - 1=l.length by omega]
 exact ai5 f l x
theorem ara {α:Type} (arr:Array α) {l:List α} {x : α} (h:arr.toList=l ++ [x]):arr.back?=some x:=by
 have a:arr.size=l.length+1:=by have:=congrArg List.length h;simpa using this
 rw [Array.back?_eq_getElem?,← ay4,h,a]
 simp
theorem ak4:∀ (rs:List (List Keyed × Nat)),rs ≠ []->∃ p x,rs=p ++ [x]
 | rs,h=>⟨rs.dropLast,rs.getLast h,(List.dropLast_concat_getLast h).symm⟩
theorem Rn.push {rs:List (List Keyed × Nat)} {r rest:List Keyed} {st st':SortSt} (N:Rn κ R a0 rs (r ++ rest) st) (d:r ≠ []) (c:Srt R r) (k:kindOf st'=kindOf st) (f:failedOf st'=failedOf st) (a:arrOf st'=arrOf st)
  (p:pendingOf st'=(pendingOf st).push ((flat rs).length,r.length,0)):Rn κ R a0 (rs ++ [(r,0)]) rest st':=by
 refine ⟨k.trans N.k,f.trans N.f,?_,?_,fun q b=>?_,by rw [a];exact N.perm⟩
 ·rw [a,N.arr,aa8];simp [flat,aw4]
 ·rw [p,Array.toList_push,N.pn,abj];simp [pend]
 ·rcases av7.mp b with b | b
  ·exact N.ok q b
  ·have:q=(r,0):=by simpa using b
   subst this;exact ⟨d,c⟩
theorem Rn.pow {rs:List (List Keyed × Nat)} {rest:List Keyed} {st st':SortSt} {pw:Nat} (N:Rn κ R a0 rs rest st) (i:rs ≠ []) (k:kindOf st'=kindOf st) (f:failedOf st'=failedOf st) (a:arrOf st'=arrOf st)
  (p:pendingOf st'=(pendingOf st).modify ((pendingOf st).size - 1) fun x=>(x.1,x.2.1,pw)):∃ g,Rn κ R a0 g rest st'/\(flat g).length=(flat rs).length:=by
 obtain ⟨q,⟨b,d⟩,e⟩:=ak4 rs i
 subst e
 have h:(pendingOf st).toList=pend 0 q ++ [((flat q).length,b.length,d)]:=by rw [N.pn,abj];simp [pend]
 refine ⟨q ++ [(b,pw)],⟨k.trans N.k,f.trans N.f,?_,?_,fun x c=>?_,by rw [a];exact N.perm⟩,by simp [aa8,abc,aff]⟩
 ·rw [a,N.arr];simp [aa8,abc,aff]
 ·rw [p,akd _ _ h,abj];simp [pend]
 ·rcases av7.mp c with c | c
  ·exact N.ok x (by simp [c])
  ·have:x=(b,pw):=by simpa using c
   subst this
   exact N.ok (b,d) (by simp)
theorem ato {c:Prop} [Decidable c] {x y z:Nat} (a:x+1 < z) (b:y+1 < z):(if c then x else y)+1 < z:=by
 split
 ·exact a
 ·exact b
theorem Rn.powK {rs:List (List Keyed × Nat)} {rest:List Keyed} {st st':SortSt} {pw:Nat} {G:SortSt->Prop} (N:Rn κ R a0 rs rest st) (d:rs ≠ []) (h:∀ b,Rn κ R a0 b rest st'->(flat b).length=(flat rs).length->G st') (k:kindOf st'=kindOf st) (f:failedOf st'=failedOf st) (a:arrOf st'=arrOf st)
  (p:pendingOf st'=(pendingOf st).modify ((pendingOf st).size - 1) fun x=>(x.1,x.2.1,pw)):G st':=by
 obtain ⟨b,c,g⟩:=N.pow d k f a p
 exact h b c g
theorem arb (C:Cmp M A E s κ S R) (X:∀ x∈a0.toList,S x) {st:SortSt} (h0:arrOf st=a0) (hk:kindOf st = κ) (hf:failedOf st=none) (hp:pendingOf st = #[]) {Q:Unit->SortSt->Prop}
  (h:∀ st',failedOf st'=none->(arrOf st').toList.Perm a0.toList->Srt R (arrOf st').toList->Q () st'):wpS M A E s au0 Q st:=by
 have o:(arrOf st).size=a0.size:=by rw [h0]
 refine wpS_bind (wpS_get ?_)
 dsimp only
 refine wpS_bind (wpS_mono (Q:=fun (c:Option Unit × Nat) v=>c.1=none/\∃ rs,Rn κ R a0 rs [] v) ?_ ?_)
 ·refine wpS_forRange (fun i (c:Option Unit × Nat) v=>c.1=none/\∃ rs rest,Rn κ R a0 rs rest v/\c.2=(flat rs).length/\i<=c.2) ?_ ?_ ⟨rfl,[],a0.toList,⟨hk,hf,by rw [h0];rfl,by rw [hp];rfl,fun r H=>(by cases H),by rw [h0]⟩,rfl,av6 _⟩
  ·rintro i ⟨c1,lo⟩ v _ hi ⟨F,rs,rest,N,Y,D⟩
   dsimp only at F Y D ⊢
   subst F Y
   have L:=N.len
   have b2:i < a0.size:=by rw [← o];exact hi
   refine aaf (fun a3=>?_) (fun a1=>?_)
   ·have b0:a0.size<=(flat rs).length:=by rw [← o];exact a3
    refine wpS_pure ⟨rfl,rs,?_⟩
    have:rest=[]:=aB3 (by omega)
    subst this
    exact N
   ·have a8:(flat rs).length < a0.size:=by
     have:¬ (flat rs).length ≥ (arrOf st).size:=a1
     omega
    refine wpS_bind (ani C (fun x hx=>X x (N.perm.mem_iff.mp hx)) N.bs (nrem:=(arrOf st).size - (flat rs).length) (by omega) (by rw [N.size];omega) fun b1 n B2 n1 n2 P=>?_)
    dsimp only
    have y:=N.size
    refine aaf (fun m=>?g1) (fun m=>?g2)
    case' g1 =>
     refine wpS_bind (aca ?_)
     generalize hmr:min (_:Nat) _=nn
     refine wpS_bind (al0 C (fun x hx=>X x (N.perm.mem_iff.mp hx)) B2 (n:=nn) (ok:=n) ?_ ?_ ?_ P fun b4 B3 a4=>?_)
     ·have:nn<=(arrOf st).size - (flat rs).length:=by rw [← hmr];exact Nat.min_le_left _ _
      rw [y];omega
     ·rw [← hmr];exact Nat.le_min.mpr ⟨n2,aA6 m⟩
     ·have:n<=nn:=by rw [← hmr];exact Nat.le_min.mpr ⟨n2,aA6 m⟩
      omega
     rw [az8 (by decide)]
     have O:1<=nn:=by
      have:n<=nn:=by rw [← hmr];exact Nat.le_min.mpr ⟨n2,aA6 m⟩
      omega
     have a9:nn<=(arrOf st).size - (flat rs).length:=by rw [← hmr];exact Nat.min_le_left _ _
     obtain ⟨r,g,H,w,J,W⟩:=N.run B3 O (by rw [y];omega) a4
     clear hmr
     subst H
    case' g2 =>
     obtain ⟨r,g,H,w,J,W⟩:=N.run B2 n1 (by rw [y];omega) P
     clear m
     subst H
    all_goals
     refine wpS_bind (wpS_get ?_)
     rcases Classical.em (rs=[]) with hz | hz
     ·have B:=W.pn
      rw [hz] at B
      have hb:=Array.back?_eq_none_iff.mpr (Array.toList_eq_nil_iff.mp B)
      rw [hb]
      dsimp only
      refine wpS_bind (wpS_modify (wpS_pure ⟨rfl,rs ++ [(r,0)],g,W.push w J rfl rfl rfl rfl,?_,?_⟩))
      ·rw [aa8,aw1];simp [flat]
      ·have:=aA0.mpr w
       show i+1<=(flat rs).length+r.length
       omega
     ·obtain ⟨q,⟨b,U⟩,eq⟩:=ak4 rs hz
      have B:=W.pn
      rw [eq,abj,show pend (0+(flat q).length) [(b,U)]=[((flat q).length,b.length,U)] by simp [pend]] at B
      have hb:=ara _ B
      rw [hb]
      dsimp only
      refine wpS_bind (wpS_mono (Q:=fun (c:Option Unit × Unit) d=>c.1=none/\∃ a,Rn κ R a0 a (r ++ g) d/\a ≠ []/\(flat a).length=(flat rs).length) ?_ ?_)
      ·refine wpS_forRange (fun _ (c:Option Unit × Unit) d=>c.1=none/\∃ a,Rn κ R a0 a (r ++ g) d/\a ≠ []/\(flat a).length=(flat rs).length) ?_ (fun c d h4=>h4) ⟨rfl,rs,W,hz,rfl⟩
       rintro i4 ⟨c4,Z⟩ d _ _ ⟨u,a,l,z4,p⟩
       dsimp only at u
       subst u
       refine wpS_bind (wpS_get ?_)
       have T:(pendingOf d).size=a.length:=by
        have:=congrArg List.length l.pn
        rw [ace] at this
        simpa using this
       by_cases K:(pendingOf d).size > 1
       ·rw [az7 K]
        obtain ⟨x4,a6⟩:∃ x4,(pendingOf d)[(pendingOf d).size - 2]?=some x4:=⟨_,av4 (by omega)⟩
        obtain ⟨y1,y2,y3⟩:=x4
        rw [a6]
        dsimp only
        refine aaf (fun _=>wpS_pure ⟨rfl,a,l,z4,p⟩) (fun _=>?_)
        rw [T]
        refine wpS_bind (afy C X l (i:=a.length - 2) (by omega) fun a5 I N5 l5 f5=>?_)
        rw [az8 (by decide)]
        refine wpS_pure ⟨rfl,I,N5,?_,by omega⟩
        rintro rfl
        simp at l5
        omega
       ·rw [az8 K]
        exact wpS_pure ⟨rfl,a,l,z4,p⟩
      ·rintro ⟨c4,Z⟩ d ⟨u,a,l,z4,p⟩
       dsimp only at u ⊢
       subst u
       dsimp only
       refine wpS_bind (wpS_modify ?_)
       refine l.powK (G:=fun z=>wpS M A E s _ _ z) z4 (fun a2 N6 l6=>?_) rfl rfl rfl rfl
       refine wpS_bind (wpS_modify (wpS_pure ⟨rfl,a2 ++ [(r,0)],g,N6.push w J rfl rfl rfl ?_,?_,?_⟩))
       ·rw [l6,p]
       ·rw [aa8,aw1,l6,p];simp [flat]
       ·have:=aA0.mpr w
        show i+1<=(flat rs).length+r.length
        omega
  ·rintro ⟨c1,lo⟩ v ⟨F,rs,rest,N,Y,D⟩
   dsimp only at F Y D ⊢
   refine ⟨F,rs,?_⟩
   have L:=N.len
   have a7:(arrOf st).size<=lo:=ay0 (Nat.le_max_right 0 _) D
   have:rest=[]:=aB3 (by rw [o] at a7;omega)
   subst this
   exact N
 ·rintro ⟨c1,lo⟩ v ⟨F,rs,N⟩
  dsimp only at F ⊢
  subst F
  dsimp only
  refine wpS_bind (wpS_mono (Q:=fun (c:Option Unit × Unit) d=>c.1=none/\∃ a,Rn κ R a0 a [] d/\a.length<=1) ?_ ?_)
  ·refine wpS_forRange (fun j (c:Option Unit × Unit) d=>c.1=none/\∃ a,Rn κ R a0 a [] d/\(a.length<=1\/a.length+j<=a0.size)) ?_ ?_ ⟨rfl,rs,N,.inr ?_⟩
   ·rintro j ⟨c4,Z⟩ d _ _ ⟨u,a,l,p⟩
    dsimp only at u
    subst u
    refine wpS_bind (wpS_get ?_)
    have T:(pendingOf d).size=a.length:=by
     have:=congrArg List.length l.pn
     rw [ace] at this
     simpa using this
    refine aaf (fun K=>wpS_pure ⟨rfl,a,l,?_⟩) (fun K=>?_)
    ·have:(pendingOf d).size<=1:=K
     omega
    ·have b3:¬ (pendingOf d).size<=1:=K
     refine wpS_bind (afy C X l (i:=_) ?_ fun a5 I N5 l5 f5=>?_)
     ·refine ato ?_ ?_
      ·show (pendingOf d).size - 2 - 1+1 < a.length
       omega
      ·show (pendingOf d).size - 2+1 < a.length
       omega
     rw [az8 (by decide)]
     exact wpS_pure ⟨rfl,I,N5,by omega⟩
   ·rintro ⟨c4,Z⟩ d ⟨u,a,l,p⟩
    refine ⟨u,a,l,?_⟩
    rcases p with p | p
    ·exact p
    ·have:(arrOf st).size<=max 0 (arrOf st).size:=Nat.le_max_right _ _
     have h3:a.length+max 0 (arrOf st).size<=a0.size:=p
     omega
   ·have:=ao0 fun r H=>(N.ok r H).1
    have:=N.len
    omega
  ·rintro ⟨c4,Z⟩ d ⟨u,a,l,p⟩
   dsimp only at u ⊢
   subst u
   dsimp only
   refine wpS_pure (h d l.f l.perm ?_)
   rw [l.arr]
   match a,p with
   | [],_=>exact List.Pairwise.nil
   | [x],_=>simpa [flat] using (l.ok x (by simp)).2
end
end TS
namespace L2
open PySem PySem.Spec PyProof.Rows
mutual
inductive Rep (H:Hp):V->PyData->Prop
 | non:Rep H .non .none
 | bl (b:Bool):Rep H (.bl b) (.bool b)
 | int (i:Int):Rep H (.int i) (.int i)
 | str (x:Str):Rep H (.str x) (.str x)
 | lst {a:Addr} {xs:List V} {ds:List PyData}:H a=some (.lst xs)->Reps H xs ds->Rep H (.ref a) (.list ds)
 | tup {a:Addr} {xs:List V} {ds:List PyData}:H a=some (.tup xs)->Reps H xs ds->Rep H (.ref a) (.tuple ds)
inductive Reps (H:Hp):List V->List PyData->Prop
 | nil:Reps H [] []
 | cons {v:V} {vs:List V} {d:PyData} {ds:List PyData}:Rep H v d->Reps H vs ds->Reps H (v :: vs) (d :: ds)
end
mutual
theorem Rep.same {H H':Hp} (s:Same H H'):∀ {v:V} {d:PyData},Rep H v d->Rep H' v d
 | _,_,.non => .non
 | _,_,.bl b => .bl b
 | _,_,.int i => .int i
 | _,_,.str x => .str x
 | _,_,.lst h r => .lst (s _ _ h) (Reps.same s r)
 | _,_,.tup h r => .tup (s _ _ h) (Reps.same s r)
theorem Reps.same {H H':Hp} (s:Same H H'):∀ {vs:List V} {ds:List PyData},Reps H vs ds->Reps H' vs ds
 | _,_,.nil => .nil
 | _,_,.cons r t => .cons (Rep.same s r) (Reps.same s t)
end
theorem Reps.length {H:Hp}:∀ {vs:List V} {ds:List PyData},Reps H vs ds->vs.length=ds.length
 | _,_,.nil=>rfl
 | _,_,.cons _ t=>by simp [Reps.length t]
theorem Reps.get {H:Hp}:∀ {vs:List V} {ds:List PyData} {i:Nat} {d:PyData},Reps H vs ds->ds[i]?=some d->∃ v,vs[i]?=some v/\Rep H v d
 | _,_,_,_,.nil,e=>by simp at e
 | _,_,0,_,.cons r _,e=>by simp at e;subst e;exact ⟨_,rfl,r⟩
 | _,_,i+1,d,.cons _ t,e=>by
  obtain ⟨u,a,b⟩:=Reps.get (i:=i) (d:=d) t (by simpa using e)
  exact ⟨u,by simpa using a,b⟩
theorem Reps.append {H:Hp}:∀ {vs ws:List V} {ds es:List PyData},Reps H vs ds->Reps H ws es->Reps H (vs ++ ws) (ds ++ es)
 | _,_,_,_,.nil,s=>s
 | _,_,_,_,.cons r t,s => .cons r (Reps.append t s)
section
variable {X:Cx} {pins:List (Addr × Obj)} {σ:St} {H:Hp} {s:Shared}
mutual
theorem Rep.reads (I:Inv X pins σ H s):∀ {v:V} {d:PyData} {u:Value},Rep H v d->RelV v u->∃ as,Reads s.heap u d as
 | _,_,_,.non,r=>by cases r;exact ⟨_,.none⟩
 | _,_,_,.bl b,r=>by cases r;exact ⟨_,.bool b⟩
 | _,_,_,.int i,r=>by obtain ⟨t,rfl⟩:=r;exact ⟨_,.int i t⟩
 | _,_,_,.str x,r=>by obtain ⟨t,rfl⟩:=r;exact ⟨_,.str x t⟩
 | _,_,_,.lst (a:=a) (xs:=xs) h q,r=>by
  cases r
  obtain ⟨_,its,n,f,e⟩:=(show ObjOk X.prog X.w H s.heap a (.lst xs) from I.hok a _ h)
  obtain ⟨as,g⟩:=Reps.reads I q f
  exact ⟨_,.list e rfl rfl (by simpa using g)⟩
 | _,_,_,.tup (a:=a) (xs:=xs) h q,r=>by
  cases r
  obtain ⟨_,its,f,o,e,c,n,j⟩:=(show ObjOk X.prog X.w H s.heap a (.tup xs) from I.hok a _ h)
  obtain ⟨as,g⟩:=Reps.reads I q f
  exact ⟨_,.tuple e c j (by simpa using g)⟩
theorem Reps.reads (I:Inv X pins σ H s):∀ {vs:List V} {ds:List PyData} {us:List Value},Reps H vs ds->Vals vs us->∃ as,ReadsAll s.heap us ds as
 | _,_,_,.nil,.nil=>⟨_,.nil⟩
 | _,_,_,.cons r t,.cons q qs=>by
  obtain ⟨as,a⟩:=Rep.reads I r q
  obtain ⟨bs,rb⟩:=Reps.reads I t qs
  exact ⟨_,.cons a rb⟩
end
end
mutual
def aam:PyData->Bool
 | .none | .int _=>true
 | .list xs | .tuple xs=>plainDs xs
 | _=>false
def plainDs:List PyData->Bool
 | []=>true
 | x :: xs=>aam x && plainDs xs
end
mutual
theorem acl:∀ (d:PyData),aam d=true->d.canLay0=true
 | .none,_=>by simp [PyData.canLay0]
 | .int _,_=>by simp [PyData.canLay0]
 | .list xs,h=>by simp only [PyData.canLay0];exact plain_lays xs (by simpa [aam] using h)
 | .tuple xs,h=>by simp only [PyData.canLay0];exact plain_lays xs (by simpa [aam] using h)
 | .bool _,h=>by simp [aam] at h
 | .str _,h=>by simp [aam] at h
 | .dict _,h=>by simp [aam] at h
theorem plain_lays:∀ (ds:List PyData),plainDs ds=true->PyData.canLayAll0 ds=true
 | [],_=>by simp [PyData.canLayAll0]
 | x :: xs,h=>by
  have h':aam x=true/\plainDs xs=true:=by simpa [plainDs] using h
  simp only [PyData.canLayAll0,acl x h'.1,plain_lays xs h'.2,Bool.and_self]
end
mutual
theorem ahe:∀ (d e:PyData),aam d=true->aam e=true->(PyData.eqv d e=true ↔ d=e)
 | .none,e,_,h=>by cases e <;> simp_all [aam,PyData.eqv]
 | .int i,e,_,h=>by cases e <;> simp_all [aam,PyData.eqv]
 | .list xs,e,g,h=>by
  cases e with
  | list ys=>simp only [PyData.eqv,PyData.list.injEq];exact eqvAll_plain xs ys (by simpa [aam] using g) (by simpa [aam] using h)
  | _=>simp_all [aam,PyData.eqv]
 | .tuple xs,e,g,h=>by
  cases e with
  | tuple ys=>simp only [PyData.eqv,PyData.tuple.injEq];exact eqvAll_plain xs ys (by simpa [aam] using g) (by simpa [aam] using h)
  | _=>simp_all [aam,PyData.eqv]
 | .bool _,_,h,_=>by simp [aam] at h
 | .str _,_,h,_=>by simp [aam] at h
 | .dict _,_,h,_=>by simp [aam] at h
theorem eqvAll_plain:∀ (ds es:List PyData),plainDs ds=true->plainDs es=true->(PyData.eqvAll ds es=true ↔ ds=es)
 | [],[],_,_=>by simp [PyData.eqvAll]
 | [],_ :: _,_,_=>by simp [PyData.eqvAll]
 | _ :: _,[],_,_=>by simp [PyData.eqvAll]
 | x :: xs,y :: ys,g,h=>by
  have g':aam x=true/\plainDs xs=true:=by simpa [plainDs] using g
  have h':aam y=true/\plainDs ys=true:=by simpa [plainDs] using h
  simp only [PyData.eqvAll,aB2,List.cons.injEq,ahe x y g'.1 h'.1,eqvAll_plain xs ys g'.2 h'.2]
end
theorem ake (ds:List PyData):plainDs ds=true ↔ ∀ d∈ds,aam d=true:=by
 induction ds with
 | nil=>simp [plainDs]
 | cons d ds ih=>simp [plainDs,ih]
def rNeD:R2:=fun x y H Q=>∃ d e,Rep H x d/\Rep H y e/\aam d=true/\aam e=true/\d.depth<=60/\Q (.bl (!PyData.eqv d e)) H
section
variable {X:Cx}
theorem aej (j:X.A.units+64 < cLine):OpR X (compareOp .NotEq) rNeD:=by
 intro pins s σ H x y v u Q I g a h
 obtain ⟨d,e,b,re,hd,c,i,q⟩:=h
 obtain ⟨as,f⟩:=b.reads I g
 obtain ⟨bs,rb⟩:=re.reads I a
 refine SeqAt.compareNe_reads f rb (acl _ hd) (acl _ c) ?_ ⟨.bl _,H,I,rfl,q⟩
 have:=Nat.min_le_left d.depth e.depth
 omega
def rInD (neg:Bool):R2:=fun x y H Q=>∃ d es,Rep H x d/\(Rep H y (.list es)\/Rep H y (.tuple es))/\aam d=true/\plainDs es=true/\d.depth<=60/\Q (.bl (if neg then !es.any (fun z=>PyData.eqv z d) else es.any (fun z=>PyData.eqv z d))) H
theorem anj (j:X.A.units+64 < cLine):OpR X (compareOp .NotIn) (rInD true):=by
 intro pins s σ H x y v u Q I g a h
 obtain ⟨d,es,f,re,hd,b,i,q⟩:=h
 obtain ⟨as,c⟩:=f.reads I g
 have hm:=Nat.min_le_right (PyData.depthAll es) d.depth
 rcases re with re | re
 ·obtain ⟨bs,rb⟩:=re.reads I a
  exact SeqAt.notIn_list_reads rb c (plain_lays _ b) (acl _ hd) (by omega) ⟨.bl _,H,I,rfl,q⟩
 ·obtain ⟨bs,rb⟩:=re.reads I a
  exact SeqAt.notIn_tuple_reads rb c (plain_lays _ b) (acl _ hd) (by omega) ⟨.bl _,H,I,rfl,q⟩
def rIsi (K:Frag):List V->Hp->VK->Prop:=fun xs H Q=>∃ (x:V) (T:String) (t:Value) (b:Bool),xs=[x,.ty T]/\TyOf K H x t/\kitOne K t (.type T)=some b/\Q (.bl b) H
theorem abt:aa2 X (.builtin "isinstance") (rIsi X.K):=by
 intro pins s σ H xs us Q I r h
 obtain ⟨x,T,t,b,rfl,ty,e,q⟩:=h
 obtain ⟨u,c,rfl,d,a⟩:=als r
 cases a
 exact am3 I d ty e fun f=>⟨.bl b,H,I.tok _,rfl,q⟩
end
end L2
namespace HT
open PySem PyProof.Rows
section
open PySem.SeqAt
open PySem.AutoSeq1 (wpAny_loadPart')
open PySem.MeetsSeq PySem.MeetsSeq2 PySem.MeetsSeq3
end
section
variable {prog:Program} {w:World} {A:Around} {E:Value->Shared->Prop} {s:Shared}
end
end HT
namespace L2
open PySem PySem.Spec PyProof.Rows
section
variable {X:Cx}
end
end L2
namespace HT
open PySem PyProof.Rows
def val (ns:List Int) (i:Nat):Int:=(ns[i]?).getD 0
section
variable {prog:Program} {w:World} {A:Around} {E:Value->Shared->Prop} {s:Shared}
end
end HT
namespace L2
open PySem PySem.Spec PyProof.Rows
section
variable {X:Cx}
end
section
variable {X:Cx} {a:Expr} {ta:TE}
def abl (K:Frag):R2:=fun x y H Q=>rIxL K x y H Q\/rIxT K x y H Q
theorem abz:IxR X (abl X.K):=ix_list.or atc
end
section
variable {σ:St} {H:Hp} {D:Ends} {K:Frag}
theorem ai6 {a:Addr} {xs:List V} {i:Int} {v:V} {Q:VK} (ha:H a=some (.lst xs)) (b:atI xs i=some v) (h:Q v H):abl K (.ref a) (.int i) H Q:=.inl (atk ha b h)
theorem ady {a:Addr} {xs:List V} {i:Int} {v:V} {Q:VK} (ha:H a=some (.tup xs)) (b:atI xs i=some v) (h:Q v H):abl K (.ref a) (.int i) H Q:=.inr (atl ha b h)
theorem ao1 {a:Addr} {xs:List V} {i:Int} {v:V} {Q:VK} (ha:SqL K H a xs) (b:atI xs i=some v) (h:Q v H):abl K (.ref a) (.int i) H Q:=.inl (atn ha b h)
theorem acm {A B:Prop} (h:A):if true=true then A else B:=by rw [az7 rfl];exact h
theorem ac7 {A B:Prop} (h:B):if false=true then A else B:=by rw [az8 aw0];exact h
theorem agp {A B:Prop} (h:B):if (!true)=true then A else B:=by rw [az8 (by decide)];exact h
theorem agq {A B:Prop} (h:A):if (!false)=true then A else B:=by rw [az7 (by decide)];exact h
theorem ao2 {c:Prop} [Decidable c] {A B:Prop} (a:c) (h:B):if (!decide c)=true then A else B:=by rw [ay6 a];exact agp h
theorem ao3 {c:Prop} [Decidable c] {A B:Prop} (a:¬ c) (h:A):if (!decide c)=true then A else B:=by rw [ay5 a];exact agq h
theorem afg {K:Frag}:kitOne K (.type "NoneType") (.type "int")=some false:=by first | rfl | decide
theorem ae7 {K:Frag}:kitOne K (.type "NoneType") (.type "bool")=some false:=by first | rfl | decide
theorem aek {K:Frag}:kitOne K (.type "NoneType") (.type "tuple")=some false:=by first | rfl | decide
theorem ae8 {K:Frag}:kitOne K (.type "NoneType") (.type "list")=some false:=by first | rfl | decide
theorem afh {K:Frag}:kitOne K (.type "NoneType") (.type "str")=some false:=by first | rfl | decide
theorem ae9 {K:Frag}:kitOne K (.type "NoneType") (.type "dict")=some false:=by first | rfl | decide
theorem ai7 {K:Frag}:kitOne K (.type "bool") (.type "int")=some true:=by first | rfl | decide
theorem ahs {K:Frag}:kitOne K (.type "bool") (.type "bool")=some true:=by first | rfl | decide
theorem agr {K:Frag}:kitOne K (.type "bool") (.type "tuple")=some false:=by first | rfl | decide
theorem aht {K:Frag}:kitOne K (.type "bool") (.type "list")=some false:=by first | rfl | decide
theorem ai8 {K:Frag}:kitOne K (.type "bool") (.type "str")=some false:=by first | rfl | decide
theorem ahu {K:Frag}:kitOne K (.type "bool") (.type "dict")=some false:=by first | rfl | decide
theorem akf {K:Frag}:kitOne K (.type "int") (.type "int")=some true:=by first | rfl | decide
theorem ai9 {K:Frag}:kitOne K (.type "int") (.type "bool")=some false:=by first | rfl | decide
theorem ahv {K:Frag}:kitOne K (.type "int") (.type "tuple")=some false:=by first | rfl | decide
theorem aja {K:Frag}:kitOne K (.type "int") (.type "list")=some false:=by first | rfl | decide
theorem akg {K:Frag}:kitOne K (.type "int") (.type "str")=some false:=by first | rfl | decide
theorem ajb {K:Frag}:kitOne K (.type "int") (.type "dict")=some false:=by first | rfl | decide
theorem akh {K:Frag}:kitOne K (.type "str") (.type "int")=some false:=by first | rfl | decide
theorem ajc {K:Frag}:kitOne K (.type "str") (.type "bool")=some false:=by first | rfl | decide
theorem ahw {K:Frag}:kitOne K (.type "str") (.type "tuple")=some false:=by first | rfl | decide
theorem ajd {K:Frag}:kitOne K (.type "str") (.type "list")=some false:=by first | rfl | decide
theorem aki {K:Frag}:kitOne K (.type "str") (.type "str")=some true:=by first | rfl | decide
theorem aje {K:Frag}:kitOne K (.type "str") (.type "dict")=some false:=by first | rfl | decide
theorem ajf {K:Frag}:kitOne K (.type "list") (.type "int")=some false:=by first | rfl | decide
theorem ahx {K:Frag}:kitOne K (.type "list") (.type "bool")=some false:=by first | rfl | decide
theorem ags {K:Frag}:kitOne K (.type "list") (.type "tuple")=some false:=by first | rfl | decide
theorem ahy {K:Frag}:kitOne K (.type "list") (.type "list")=some true:=by first | rfl | decide
theorem ajg {K:Frag}:kitOne K (.type "list") (.type "str")=some false:=by first | rfl | decide
theorem ahz {K:Frag}:kitOne K (.type "list") (.type "dict")=some false:=by first | rfl | decide
theorem ah0 {K:Frag}:kitOne K (.type "tuple") (.type "int")=some false:=by first | rfl | decide
theorem agt {K:Frag}:kitOne K (.type "tuple") (.type "bool")=some false:=by first | rfl | decide
theorem afz {K:Frag}:kitOne K (.type "tuple") (.type "tuple")=some true:=by first | rfl | decide
theorem agu {K:Frag}:kitOne K (.type "tuple") (.type "list")=some false:=by first | rfl | decide
theorem ah1 {K:Frag}:kitOne K (.type "tuple") (.type "str")=some false:=by first | rfl | decide
theorem agv {K:Frag}:kitOne K (.type "tuple") (.type "dict")=some false:=by first | rfl | decide
theorem ajh {K:Frag}:kitOne K (.type "dict") (.type "int")=some false:=by first | rfl | decide
theorem ah2 {K:Frag}:kitOne K (.type "dict") (.type "bool")=some false:=by first | rfl | decide
theorem agw {K:Frag}:kitOne K (.type "dict") (.type "tuple")=some false:=by first | rfl | decide
theorem ah3 {K:Frag}:kitOne K (.type "dict") (.type "list")=some false:=by first | rfl | decide
theorem aji {K:Frag}:kitOne K (.type "dict") (.type "str")=some false:=by first | rfl | decide
theorem ah4 {K:Frag}:kitOne K (.type "dict") (.type "dict")=some true:=by first | rfl | decide
end
end L2
namespace L2
open PySem
section
variable {σ:St} {H:Hp} {K:Frag}
theorem abu {p:Addr} {o:HO} (a:H p=none):Same H (upd H p o):=fun b u e=>by rw [aac (aah e a)];exact e
theorem Same.new {H H':Hp} {q:Addr} {o:HO} (s:Same H H') (h:H' q=none):Same H (upd H' q o):=fun b u e=>by
 have:=s b u e
 rw [aac (aah this h)];exact this
theorem Same.set {H H':Hp} {q:Addr} {o:HO} (s:Same H H') (h:H q=none):Same H (upd H' q o):=fun b u e=>by
 have:=s b u e
 rw [aac (aah e h)];exact this
theorem Same.at {H H':Hp} {b:Addr} {o:HO} (s:Same H H') (h:H b=some o):H' b=some o:=s b o h
end
section
variable {σ:St} {H:Hp} {K:Frag}
end
end L2
namespace Gr
inductive Walk (T:Int->Int->Prop) (u:Int):Nat->Int->Prop
 | refl:Walk T u 0 u
 | step {k:Nat} {v w:Int}:Walk T u k v->T v w->Walk T u (k+1) w
def Dist (T:Int->Int->Prop) (u v:Int) (d:Nat):Prop:=Walk T u d v/\∀ k,Walk T u k v->d<=k
theorem Dist.uniq {T:Int->Int->Prop} {u v:Int} {d e:Nat} (h:Dist T u v d) (g:Dist T u v e):d=e:=Nat.le_antisymm (h.2 _ g.1) (g.2 _ h.1)
theorem Dist.self (T:Int->Int->Prop) (u:Int):Dist T u u 0:=⟨.refl,fun _ _=>aA1 _⟩
theorem Dist.of_walk {T:Int->Int->Prop} {u v:Int} {k:Nat} (h:Walk T u k v):∃ d,d<=k/\Dist T u v d:=by
 induction k using Nat.strongRecOn with
 | ind k ih =>
  by_cases hx:∃ j,j < k/\Walk T u j v
  ·obtain ⟨j,a,w⟩:=hx
   obtain ⟨d,hd,e⟩:=ih j a w
   exact ⟨d,by omega,e⟩
  ·refine ⟨k,av6 _,h,fun j w=>?_⟩
   by_cases a:j < k
   ·exact absurd ⟨j,a,w⟩ hx
   ·omega
theorem Dist.pred {T:Int->Int->Prop} {u w:Int} {d:Nat} (h:Dist T u w (d+1)):∃ v,T v w/\Dist T u v d:=by
 obtain ⟨a,hm⟩:=h
 cases a with
 | step hv ht =>
  rename_i v
  refine ⟨v,ht,hv,fun k b=>?_⟩
  have:=hm (k+1) (.step b ht)
  omega
theorem Dist.next {T:Int->Int->Prop} {u v w:Int} {d:Nat} (h:Dist T u v d) (t:T v w):∃ e,e<=d+1/\Dist T u w e:=Dist.of_walk (.step h.1 t)
structure Bfs (T:Int->Int->Prop) (a:Int) (line:List Int) (ds:List Nat) (at_:Nat):Prop where
 len:ds.length=line.length
 fst:line[0]?=some a
 nd:line.Nodup
 le:at_<=line.length
 dist:∀ (i:Nat) v d,line[i]?=some v->ds[i]?=some d->Dist T a v d
 mono:∀ (i j:Nat) d e,i<=j->ds[i]?=some d->ds[j]?=some e->d<=e
 near:∀ (i j:Nat) d e,at_<=i->ds[i]?=some d->ds[j]?=some e->e<=d+1
 done:∀ (i:Nat) v w,i < at_->line[i]?=some v->T v w->w∈line
theorem Bfs.start (T:Int->Int->Prop) (a:Int):Bfs T a [a] [0] 0:=by
 refine ⟨rfl,rfl,by simp,aA1 _,fun i v d c b=>?_,fun i j d e h c b=>?_,fun i j d e h c b=>?_,fun i v w h=>absurd h (by omega)⟩
 ·match i,c,b with
  | 0,c,b=>simp at c b;subst c b;exact Dist.self T a
  | i+1,c,_=>simp at c
 ·match j,b with
  | 0,b =>
   have:i=0:=by omega
   subst this
   rw [c] at b;cases b;exact av6 _
  | j+1,b=>simp at b
 ·match i,j,c,b with
  | 0,0,c,b=>rw [c] at b;cases b;omega
  | i+1,_,c,_=>simp at c
  | 0,j+1,_,b=>simp at b
theorem Bfs.all {T:Int->Int->Prop} {a:Int} {line:List Int} {ds:List Nat} {at_:Nat} {d:Nat} (b:Bfs T a line ds at_) (hd:ds[at_]?=some d) :
  ∀ k w,k<=d->Dist T a w k->w∈line:=by
 intro k
 induction k with
 | zero =>
  intro w _ h
  have:w=a:=by
   cases h.1;rfl
  subst this
  exact av2 b.fst
 | succ k ih =>
  intro w o h
  obtain ⟨v,l,f⟩:=h.pred
  have m:=ih v (by omega) f
  obtain ⟨i,hi,e⟩:=List.mem_iff_getElem.mp m
  have g:line[i]?=some v:=by rw [av0 hi,e]
  have c:i < ds.length:=by rw [b.len];exact hi
  have j:ds[i]?=some ds[i]:=av0 c
  have n:=(b.dist i v _ g j).uniq f
  by_cases hlt:i < at_
  ·exact b.done i v w hlt g l
  ·have:=b.mono at_ i d _ (by omega) hd j
   omega
theorem Bfs.add {T:Int->Int->Prop} {a:Int} {line:List Int} {ds:List Nat} {at_:Nat} {p w:Int} {d:Nat} (b:Bfs T a line ds at_) (r:line[at_]?=some p) (hd:ds[at_]?=some d) (t:T p w) (q:w ∉ line) :
  Bfs T a (line ++ [w]) (ds ++ [d+1]) at_:=by
 have s:at_ < line.length:=(av1.mp r).1
 have C:Dist T a w (d+1):=by
  obtain ⟨e,D,h⟩:=(b.dist _ _ _ r hd).next t
  by_cases f:e<=d
  ·exact absurd (b.all hd e w f h) q
  ·have:e=d+1:=by omega
   rw [← this];exact h
 have g:∀ (j:Nat) e,(ds ++ [d+1])[j]?=some e->(ds[j]?=some e)\/(j=ds.length/\e=d+1):=by
  intro j e h
  rw [List.getElem?_append] at h
  split at h
  ·exact .inl h
  ·rename_i hj
   right
   have:j - ds.length=0:=by
    match hz:j - ds.length,h with
    | 0,_=>rfl
    | k+1,h=>simp at h
   rw [this] at h
   simp at h
   exact ⟨by omega,h.symm⟩
 refine ⟨by simp [b.len],?_,?_,by simp;omega,fun i v e c f=>?_,fun i j x y h c f=>?_,fun i j x y h c f=>?_,fun i v u h c z=>?_⟩
 ·rw [ax3 (by omega)];exact b.fst
 ·rw [List.nodup_append]
  exact ⟨b.nd,by simp,fun x A y o=>by simp at o;subst o;intro e;subst e;exact q A⟩
 ·rcases g _ _ f with f | ⟨n,l⟩
  ·have hi:i < ds.length:=(av1.mp f).1
   rw [ax3 (by rw [← b.len];exact hi)] at c
   exact b.dist i v e c f
  ·subst l
   rw [ax8 (by rw [← b.len];omega)] at c
   have:i - line.length=0:=by rw [← b.len];omega
   rw [this] at c
   simp at c;subst c
   exact C
 ·rcases g _ _ c with c | ⟨n,l⟩
  ·rcases g _ _ f with f | ⟨m,l⟩
   ·exact b.mono i j x y h c f
   ·subst l
    by_cases hia:at_<=i
    ·exact b.near at_ i d x (av6 _) hd c
    ·have:=b.mono i at_ x d (by omega) c hd;omega
  ·rcases g _ _ f with f | ⟨m,B⟩
   ·have:=(av1.mp f).1;omega
   ·omega
 ·rcases g _ _ c with c | ⟨n,l⟩
  ·rcases g _ _ f with f | ⟨m,l⟩
   ·exact b.near i j x y h c f
   ·subst l
    have:=b.mono at_ i d x h hd c;omega
  ·subst l
   rcases g _ _ f with f | ⟨m,l⟩
   ·have:=b.near at_ j d y (av6 _) hd f;omega
   ·omega
 ·rw [ax3 (by omega)] at c
  exact ax7 _ (b.done i v u h c z)
theorem Bfs.next {T:Int->Int->Prop} {a:Int} {line:List Int} {ds:List Nat} {at_:Nat} {p:Int} (b:Bfs T a line ds at_) (g:line[at_]?=some p) (h:∀ w,T p w->w∈line):Bfs T a line ds (at_+1):=by
 have f:at_ < line.length:=(av1.mp g).1
 refine ⟨b.len,b.fst,b.nd,f,b.dist,b.mono,fun i j d e hi=>b.near i j d e (by omega),fun i v w hi c t=>?_⟩
 by_cases e:i=at_
 ·subst e
  rw [g] at c;cases c
  exact h w t
 ·exact b.done i v w (by omega) c t
theorem Bfs.fin {T:Int->Int->Prop} {a:Int} {line:List Int} {ds:List Nat} (b:Bfs T a line ds line.length):∀ k w,Walk T a k w->w∈line:=by
 intro k w h
 induction h with
 | refl=>exact av2 b.fst
 | step _ t ih =>
  obtain ⟨i,hi,e⟩:=List.mem_iff_getElem.mp ih
  exact b.done i _ _ hi (by rw [av0 hi,e]) t
end Gr
namespace L2
open PySem PySem.Spec PyProof.Rows
section
variable {σ:St} {H:Hp} {D:Ends} {K:Frag}
end
theorem few_places:∀ (n:Nat) (l:List Int),l.Nodup->(∀ v∈l,0<=v/\v < (n:Int))->l.length<=n
 | 0,l,_,h=>by
  cases l with
  | nil=>simp
  | cons v r=>have:=h v (by simp);omega
 | n+1,l,hn,h=>by
  have c:=few_places n (l.erase (n:Int)) (hn.erase _) fun v a=>by
   have hm:=List.mem_of_mem_erase a
   have hb:=h v hm
   have b:v ≠ (n:Int):=by
    rintro rfl
    exact absurd a (List.Nodup.not_mem_erase hn)
   omega
  have d:l.length<=(l.erase (n:Int)).length+1:=by
   rw [List.length_erase]
   split <;> omega
  omega
end L2
namespace L2
open PySem
end L2
namespace HT
open PySem PyProof.Rows
section
variable {prog:Program} {w:World} {A:Around} {E:Value->Shared->Prop} {s:Shared}
end
end HT
namespace L2
open PySem PySem.Spec PyProof.Rows
section
variable {X:Cx}
end
section
variable {X:Cx} {pins:List (Addr × Obj)} {σ:St} {H:Hp} {s:Shared} {A:Around} {E:Value->Shared->Prop} {Q:Value->Shared->Prop} {b:Bool}
end
section
variable {X:Cx}
end
end L2
namespace HT
open PySem PyProof.Rows L2
def LtAt (A:Around) (s:Shared) (y x:Value) (b:Bool):Prop :=
 ∀ (prog:Program) (w:World) (E:Value->Shared->Prop) (Q:Value->Shared->Prop),Q (.bool b) s->wpAny (model prog w) A (richCompare .Lt y x) Q E s
section
open PySem.SeqAt
open PySem.AutoSeq1 (wpAny_loadPart')
open PySem.MeetsSeq PySem.MeetsSeq2 PySem.MeetsSeq3
inductive Its (A:Around) (s:Shared):List Value->List Value->Bool->Prop
 | nn:Its A s [] [] false
 | nc {x:Value} {ys:List Value}:Its A s [] (x :: ys) true
 | cn {x:Value} {xs:List Value}:Its A s (x :: xs) [] false
 | eq {x y:Value} {xs ys:List Value} {b:Bool}:EqAt A s x y true->Its A s xs ys b->Its A s (x :: xs) (y :: ys) b
 | ne {x y:Value} {xs ys:List Value} {b:Bool}:EqAt A s x y false->LtAt A s x y b->Its A s (x :: xs) (y :: ys) b
theorem ajj (l b:Addr) (items a:Array Value) (n E:Nat) (H z:Option Addr) (sl B:Array (Option Value)) (r:Bool) :
  Meets (Builtin.«tuple.__lt__» ⟨[.ref l,.ref b],[]⟩)
   (fun A R s=>s.heap.get? l=some { cls:=.type "tuple",dict:=H,data:=.seq items n,slots:=sl }/\s.heap.get? b=some { cls:=.type "tuple",dict:=z,data:=.seq a E,slots:=B } /\
    Its A.in1 s items.toList a.toList r/\R (.ok (.ret (.bool r))) s) :=
 .of_wp fun prog w A R s h=>by
  obtain ⟨D,g,d,C,os⟩:=s;obtain ⟨G,hb,hi,h⟩:=h
  have K:=AutoSeq1.sub_tuple_tuple
  wp_walk using wpAny_loadPart' G,wpAny_loadPart' hb,wpAny_forIn_list _ (fun rest b p=>b.1=none/\p=⟨D,g,d,C,os⟩/\∃ (vs ws:List Value),rest=vs.zip ws /\
   vs.length+a.size=ws.length+items.size/\Its A.in1 ⟨D,g,d,C,os⟩ vs ws r) _
  case turn =>
   rintro ⟨y,x⟩ rest b p ⟨j,rfl,vs,ws,i,c,v⟩
   cases v with
   | nn=>cases i
   | nc=>cases i
   | cn=>cases i
   | eq he hI' =>
    rw [List.zip_cons_cons] at i
    injection i with m f
    injection m with u q
    subst u q
    simp only [az0] at c
    refine aC3 (he prog w _ _ ?_)
    wp_walk
    exact ⟨rfl,rfl,_,_,f,by omega,hI'⟩
   | ne he hlt =>
    rw [List.zip_cons_cons] at i
    injection i with m f
    injection m with u q
    subst u q
    refine aC3 (he prog w _ _ ?_)
    have o:=hlt prog w
    wp_walk using o
    exact ⟨_,rfl,by simpa using h⟩
  case fin =>
   rintro ⟨J,I⟩ p ⟨j,rfl,vs,ws,i,c,v⟩
   simp only at j
   subst j
   have F:r=decide (items.size < a.size):=by
    cases v with
    | nn =>
     simp only [aC2] at c
     exact (ay5 (by omega)).symm
    | nc =>
     simp only [aC2,az0] at c
     exact (ay6 (by omega)).symm
    | cn =>
     simp only [aC2,az0] at c
     exact (ay5 (by omega)).symm
    | eq=>cases i
    | ne=>cases i
   rw [F] at h
   wp_walk
   exact ⟨_,rfl,by simpa [Builtin.Tuple.tupleCompareSizes] using h⟩
  case h =>
   exact ⟨rfl,rfl,items.toList,a.toList,rfl,by simp;omega,hi⟩
end
section
variable {A:Around} {s:Shared}
theorem LtAt.tup {l b:Addr} {o f:Obj} {items a:Array Value} {n j:Nat} {r:Bool} (p:s.heap.get? l=some o) (u:o.cls=.type "tuple") (hd:o.data=.seq items n) (hb:s.heap.get? b=some f) (c:f.cls=.type "tuple") (d:f.data=.seq a j)
  (y:A.units < cLine) (hi:Its A.in1 s items.toList a.toList r):LtAt A s (.ref l) (.ref b) r:=by
 intro prog w E Q q
 obtain ⟨cls,v,data,sl⟩:=o
 obtain ⟨m,h,g,i⟩:=f
 simp only at u hd c d
 subst u hd c d
 exact richCompare_meets_room (op:=.Lt) ⟨_,p,rfl⟩ ⟨_,hb,rfl⟩ PySem.F.slot_tuple_lt PySem.F.entry_tuple_lt (PySem.F.args_tuple_lt_2 _ _) (ajj l b items a n j v h sl i r)
  ⟨p,hb,hi,show Value.bool r ≠ Value.notImplemented/\Q (.bool r) s from ⟨(fun x=>nomatch x),q⟩⟩ y
end
end HT
namespace L2
open PySem PySem.Spec PyProof.Rows
section
variable {X:Cx}
end
end L2
namespace L2
open PySem
end L2
namespace TS
open PySem PyProof.Rows HT
theorem ak5:∀ x y:List Int,HT.lexLt x y=true->HT.lexLt y x=false
 | [],[],h=>by simp [HT.lexLt] at h
 | [],_ :: _,_=>rfl
 | _ :: _,[],h=>by simp [HT.lexLt] at h
 | a :: x,b :: y,h=>by
  rw [acr] at h ⊢
  by_cases e:a=b
  ·subst e
   rw [az7 rfl] at h ⊢
   exact ak5 x y h
  ·rw [az8 e] at h
   rw [az8 (fun z=>e z.symm)]
   have:=of_decide_eq_true h
   exact ay5 (by omega)
theorem ank:∀ x y z:List Int,HT.lexLt y x=false->HT.lexLt z y=false->HT.lexLt z x=false
 | _,[],[],h,_=>h
 | [],[],_ :: _,_,_=>rfl
 | _ :: _,[],_ :: _,h,_=>by simp [HT.lexLt] at h
 | _,_ :: _,[],_,h=>by simp [HT.lexLt] at h
 | [],_ :: _,_ :: _,_,_=>rfl
 | a :: x,b :: y,c :: z,h,g=>by
  rw [acr] at h g ⊢
  by_cases e:b=a
  ·subst e
   rw [az7 rfl] at h
   by_cases e2:c=b
   ·subst e2
    rw [az7 rfl] at g ⊢
    exact ank x y z h g
   ·rw [az8 e2] at g ⊢
    exact g
  ·rw [az8 e] at h
   have h':=of_decide_eq_false h
   by_cases e2:c=b
   ·subst e2
    rw [az8 e]
    exact h
   ·rw [az8 e2] at g
    have g':=of_decide_eq_false g
    rw [az8 (by omega)]
    exact ay5 (by omega)
def TI (h:Heap) (a:Addr) (ns:List Int):Prop:=∃ o xs n,h.get? a=some o/\o.cls=.type "tuple"/\o.data=.seq xs n/\IntsAre xs.toList ns
def kfV (kf:Addr->List Int):Value->List Int
 | .ref a=>kf a
 | _=>[]
section
variable {prog:Program} {w:World} {A:Around} {E:Value->Shared->Prop} {s:Shared}
theorem afb {fin:Bool} {Q:Bool->Shared->Prop}:∀ {xs ys:List Value} {ns c:List Int} (i:Nat),IntsAre xs ns->IntsAre ys c->(ns.length < c.length->fin=true)->(c.length<=ns.length->fin=false)->Q (HT.lexLt ns c) s ->
  PySem.W.KatLex prog w A true fin Q (xs.zip ys) i s
 | _,_,_,_,i,.nil,.nil,_,h2,q=>by
  rw [h2 (av6 _)];exact q
 | _,_,_,_,i,.nil,.cons b u r,h1,_,q=>by
  rw [h1 (by simp)];exact q
 | _,_,_,_,i,.cons a t r,.nil,_,h2,q=>by
  rw [List.zip_nil_right,h2 (by simp)];exact q
 | _,_,_,_,i,.cons a t r,.cons b u r2,h1,h2,q=>by
  rw [List.zip_cons_cons]
  refine PySem.W.kat_cons (SeqAt.EqAt.int_int a t b u prog w _ _ ?_)
  rw [acr] at q
  by_cases e:a=b
  ·subst e
   rw [az7 rfl] at q
   rw [show (a == a)=true by simp]
   exact PySem.W.kat_yes (afb (i+1) r r2 (fun z=>h1 (by simpa using z)) (fun z=>h2 (by simpa using z)) q)
  ·rw [az8 e] at q
   rw [show (a == b)=false by simpa using e]
   refine PySem.W.kat_no ?_
   by_cases hi:i=0
   ·subst hi
    exact oneLt_int q
   ·rw [show (true && i == 0)=false by simpa using hi]
    exact PySem.W.kat_one _ _ (PyProof.Rows.lt_int q)
def tS (h:Heap) (kf:Addr->List Int) (x:Keyed):Prop:=x.1=x.2/\∃ a,x.1=.ref a/\TI h a (kf a)
def tR (kf:Addr->List Int) (x y:Keyed):Bool:=HT.lexLt (kfV kf x.1) (kfV kf y.1)
theorem cmp_tups (j:Addr->List Int):Cmp (model prog w) A E s (tuples' true) (tS s.heap j) (tR j):=by
 refine ⟨fun x y l v Q st u q=>?_,fun x y _ _=>ak5 _ _,fun x y z _ _ _=>ank _ _ _⟩
 obtain ⟨G,H⟩:=x
 obtain ⟨D,F⟩:=y
 obtain ⟨_,a,i,o,xs,n,r,J,m,d⟩:=l
 obtain ⟨_,b,h,o',ys,I,B,C,p,g⟩:=v
 dsimp only at i h
 subst i h
 rw [lt'_eq]
 refine wpS_bind (wpS_get ?_)
 rw [u]
 refine wpS_bind (wpS_lift (wpAny_attempt (PySem.W.kat_lt r m B p (afb 0 d g (fun z=>?_) (fun z=>?_) ⟨rfl,?_⟩))))
 ·have c:=d.length;have f:=g.length
  simp at c f
  exact ay6 (by omega)
 ·have c:=d.length;have f:=g.length
  simp at c f
  exact ay5 (by omega)
 ·exact wpS_pure q
theorem al1 {vs:List Value} {ps:List Keyed} (h:ps.Perm (vs.zip vs)):(∀ p∈ps,p.1=p.2/\p.1∈vs)/\(ps.map (·.2)).Perm vs:=by
 refine ⟨fun p b=>mem_zip_self (h.mem_iff.mp b),?_⟩
 have a:=h.map (fun p=>p.2)
 have e:(vs.zip vs).map (fun p=>p.2)=vs:=List.map_snd_zip (av6 _)
 rwa [e] at a
theorem ah5 {a:Addr} {vs:List Value} {n:Nat} {P:PySem.Fin->Shared->Prop} (j:s.heap.get? a=some (seqObj "list" vs.toArray n)) (c:vs.length<=sizeLine)
  (l:2<=vs.length->∀ h',(∀ b o,b ≠ a->s.heap.get? b=some o->h'.get? b=some o)->∃ κ S R,(∀ (Q:SortKind->Shared->Prop),Q κ { s with heap:=h' }->wpAny (model prog w) A (keyKind' vs.toArray) Q E { s with heap:=h' })/\Cmp (model prog w) A E { s with heap:=h' } κ S R/\(∀ v∈vs,S (v,v)) /\
   ∀ out:List Value,out.Perm vs->out.Pairwise (fun x y=>R (y,y) (x,x)=false)->P (.done (.ret .none)) { s with heap:=sortedHeap s.heap a vs out.toArray })
  (B:vs.length < 2->P (.done (.ret .none)) { s with heap:=sortedHeap s.heap a vs vs.toArray }) :
  wpAny (model prog w) A (Builtin.«list.sort» ⟨[.ref a],[]⟩) P E s:=by
 rw [list_sort_plain]
 have ha:a < s.heap.objs.size:=aC6 j
 refine aC3 (listItems_at j rfl ?_)
 refine aC3 (listUpdate_at j rfl ?_ (by rw [aw2];exact c) (aA1 _))
 obtain ⟨p,f⟩:∃ p,(s.heap.update a (Obj.mapSeq fun _ => #[])).get? a=some (seqObj "list" #[] p):=⟨_,get?_update_seq j (fun _ => #[])⟩
 refine aC3 (seqEpoch_at f rfl ?_)
 refine aC3 (wpAny_newTuple ?_ (by show vs.length<=_;exact c))
 refine aC3 (wpAny_newList ?_ (aA1 _))
 refine aC8 ?_
 have d:(((s.heap.update a (Obj.mapSeq fun _ => #[])).push (seqObj "tuple" vs.toArray 0)).push (seqObj "list" #[] 0)).get? a=some (seqObj "list" #[] p):=by
  rw [Heap.get?_push_ne _ _ _ (by rw [size_push',Heap.size_update];exact aw6 (Nat.lt_succ_of_lt ha)),Heap.get?_push_ne _ _ _ (by rw [Heap.size_update];exact aw6 ha)]
  exact f
 show wpAny (model prog w) A _ P E { s with heap:=((s.heap.update a (Obj.mapSeq fun _ => #[])).push (seqObj "tuple" vs.toArray 0)).push (seqObj "list" #[] 0) }
 dsimp only
 have hsz:vs.toArray.size=vs.length:=by simp
 have kp:∀ b o,b ≠ a->s.heap.get? b=some o->(((s.heap.update a (Obj.mapSeq fun _ => #[])).push (seqObj "tuple" vs.toArray 0)).push (seqObj "list" #[] 0)).get? b=some o:=fun b o hb e=>by
  refine aC5 _ (aC5 _ ?_)
  rw [Heap.get?_update_ne _ _ _ _ hb];exact e
 by_cases h2:vs.toArray.size < 2
 ·rw [az7 h2,az7 h2]
  refine aC3 (aC4 ?_)
  rw [StateT.run_pure]
  refine aC3 (aC4 ?_)
  dsimp only
  have r:(arrOf (SortSt.mk' general' (vs.toArray.zip vs.toArray) #[] 7 none)).map (·.2)=vs.toArray:=by
   show (vs.toArray.zip vs.toArray).map (·.2)=vs.toArray
   apply Array.toList_inj.mp
   rw [Array.toList_map,Array.toList_zip]
   exact List.map_snd_zip (av6 _)
  rw [r]
  refine aC3 (seqEpoch_at d rfl ?_)
  refine aC3 (listUpdate_at d rfl ?_ (aA1 _) (by rw [aw2];exact Nat.le_succ_of_le c))
  simp only [bne_self_eq_false,Bool.false_eq_true,if_false]
  exact aC4 (B (by omega))
 ·rw [az8 h2,az8 h2]
  obtain ⟨κ,S,R,G,C,F,g⟩:=l (by omega) _ kp
  refine aC3 (G _ ?_)
  refine aC3 (aC9 (arb C (a0:=vs.toArray.zip vs.toArray) (st:=SortSt.mk' κ (vs.toArray.zip vs.toArray) #[] 7 none) (Q:=fun _ st'=>failedOf st'=none/\(arrOf st').toList.Perm (vs.zip vs)/\Srt R (arrOf st').toList) (fun x m=>?_) rfl rfl rfl rfl fun st' N D u=>⟨N,by simpa using D,u⟩) ?_ fun _ _ e=>e)
  ·have:x∈vs.zip vs:=by simpa using m
   obtain ⟨i,h⟩:=mem_zip_self this
   obtain ⟨H,I⟩:=x
   dsimp only at i h
   subst i
   exact F _ h
  rintro ⟨⟨⟩,st'⟩ u ⟨rfl,hf,L,K⟩
  dsimp only
  obtain ⟨i,h⟩:=al1 L
  have r:(arrOf st').map (·.2)=(((arrOf st').toList.map (·.2)).toArray):=by
   apply Array.toList_inj.mp
   simp
  rw [r]
  have q:((arrOf st').toList.map (·.2)).length=vs.length:=h.length_eq
  refine aC3 (seqEpoch_at d rfl ?_)
  refine aC3 (listUpdate_at d rfl ?_ (aA1 _) (by rw [aw2,q];exact Nat.le_succ_of_le c))
  rw [hf]
  simp only [bne_self_eq_false,Bool.false_eq_true,if_false]
  refine aC4 (g _ h ?_)
  rw [aA2]
  refine aB8 ?_ K
  intro x y m J M
  have ex:=(i x m).1
  have z:=(i y J).1
  obtain ⟨H,I⟩:=x
  obtain ⟨O,T⟩:=y
  dsimp only at ex z
  subst ex z
  exact M
end
end TS
namespace L2
open PySem PySem.Spec PyProof.Rows
def toI:V->Int
 | .int i=>i
 | _=>0
def kH (H:Hp):V->List Int
 | .ref t=>match H t with
  | some (.tup xs)=>xs.map toI
  | _=>[]
 | _=>[]
theorem arc (ns:List Int):(ns.map V.int).map toI=ns:=by
 rw [ay8]
 have:(toI ∘ V.int)=id:=by funext i;rfl
 rw [this,List.map_id]
theorem al2 {H:Hp} {t:Addr} {ns:List Int} (h:H t=some (.tup (ns.map V.int))):kH H (.ref t)=ns:=by
 simp only [kH,h];exact arc ns
def TupI (H:Hp) (v:V):Prop:=∃ t ns,v=.ref t/\H t=some (.tup (ns.map V.int))/\ns ≠ []
def adz:Value->V
 | .ref a => .ref a
 | _ => .non
theorem ahf:∀ {us:List Value},(∀ u∈us,∃ a,u=.ref a)->Vals (us.map adz) us
 | [],_ => .nil
 | u :: us,h=>by
  obtain ⟨a,e⟩:=h u aw8
  subst e
  exact .cons rfl (ahf fun v b=>h v (aw5 _ b))
theorem ahg {H:Hp}:∀ {vs:List V} {us:List Value},Vals vs us->(∀ v∈vs,TupI H v)->(∀ u∈us,∃ a,u=.ref a)/\us.map adz=vs
 | _,_,.nil,_=>⟨fun u f=>(by cases f),rfl⟩
 | v :: vs,u :: us,.cons r t,h=>by
  obtain ⟨a,ns,rfl,_,_⟩:=h v aw8
  cases r
  obtain ⟨c,d⟩:=ahg t fun v g=>h v (aw5 _ g)
  refine ⟨fun x b=>?_,by rw [ay1,d];rfl⟩
  rcases av9.mp b with rfl | b
  ·exact ⟨_,rfl⟩
  ·exact c x b
section
variable {X:Cx}
theorem ajk {H:Hp} {pins:List (Addr × Obj)} {σ:St} {s:Shared} (I:Inv X pins σ H s) {h':Heap} (kp:∀ b o,s.heap.get? b=some o->h'.get? b=some o):∀ {vs:List V} {us:List Value},Vals vs us->(∀ v∈vs,TupI H v) ->
  (∃ fs,PySem.W.KatTups h' us fs/\fs.length=us.length/\∀ f∈fs,∃ i t,f=.int i t)/\∀ u∈us,∃ a,u=.ref a/\TS.TI h' a (kH H (.ref a))
 | _,_,.nil,_=>⟨⟨[],trivial,rfl,fun f hf=>by cases hf⟩,fun u G=>by cases G⟩
 | v :: vs,u :: us,.cons r t,h=>by
  obtain ⟨a,ns,rfl,e,l⟩:=h v aw8
  cases r
  obtain ⟨⟨fs,A,z,D⟩,B⟩:=ajk I kp t fun v C=>h v (aw5 _ C)
  obtain ⟨_,its,E,o,p,q,n,m⟩:=(show ObjOk X.prog X.w H s.heap a (.tup (ns.map V.int)) from I.hok a _ e)
  have hi:IntsAre its ns:=by simpa using (adu E:IntsAre its.toArray.toList ns)
  have y:TS.TI h' a (kH H (.ref a)):=⟨o,its.toArray,n,kp _ _ p,q,m,by rw [al2 e];simpa using hi⟩
  obtain ⟨f,hf,i,j,F⟩:∃ f,its.toArray[0]?=some f/\∃ i t,f=.int i t:=by
   cases hi with
   | nil=>exact absurd rfl l
   | cons i j _=>exact ⟨_,by simp,i,j,rfl⟩
  refine ⟨⟨f :: fs,PySem.W.KatTups.cons (kp _ _ p) q m hf A,by simp [z],fun g d=>?_⟩,fun x c=>?_⟩
  ·rcases av9.mp d with rfl | d
   ·exact ⟨i,j,F⟩
   ·exact D g d
  ·rcases av9.mp c with rfl | c
   ·exact ⟨a,rfl,y⟩
   ·exact B x c
theorem ao4 {α:Type} {R : α->α->Prop}:∀ {l:List α},l.length < 2->l.Pairwise R
 | [],_=>List.Pairwise.nil
 | [_],_=>List.pairwise_singleton _ _
 | _ :: _ :: _,h=>absurd h (by simp)
end
end L2
namespace HT
open PySem PySem.Spec PyProof.Rows L2
section
variable {prog:Program} {w:World} {A:Around} {kw:List (Str × Value)} {R:Result->Shared->Prop} {I S:Addr} {fp wr:List Addr} {n:Nat} {P:Nat->Value->Prop} {St:Nat->Heap->Prop} {Hd:Heap->Prop}
end
section
variable {prog:Program} {w:World} {A:Around} {E:Value->Shared->Prop} {s:Shared}
end
end HT
namespace L2
open PySem PySem.Spec PyProof.Rows
section
variable {X:Cx} {x:Str} {p pos kpos:Pos} {e en:Expr} {t:TA}
end
end L2
namespace HT
open PySem PySem.Spec PyProof.Rows
section
variable {prog:Program} {w:World} {A:Around} {E:Value->Shared->Prop} {s:Shared}
end
end HT
namespace L2
open PySem PySem.Spec PyProof.Rows
section
variable {X:Cx}
end
end L2
namespace VL
open PySem PySem.Spec L2
def kD:Key->PyData
 | .inl i => .int i
 | .inr x => .str x
mutual
inductive Rp (G:Hp):V->PyData->Prop
 | non:Rp G .non .none
 | bl (b:Bool):Rp G (.bl b) (.bool b)
 | int (i:Int):Rp G (.int i) (.int i)
 | str (x:Str):Rp G (.str x) (.str x)
 | lst {a:Addr} {xs:List V} {ds:List PyData}:G a=some (.lst xs)->Rps G xs ds->Rp G (.ref a) (.list ds)
 | tup {a:Addr} {xs:List V} {ds:List PyData}:G a=some (.tup xs)->Rps G xs ds->Rp G (.ref a) (.tuple ds)
 | dk {a:Addr} {kvs:List (Key × V)} {es:List (Key × PyData)} {ds:List (PyData × PyData)}:G a=some (.dK kvs)->RpK G kvs es->ds=es.map (fun p=>(kD p.1,p.2))->Rp G (.ref a) (.dict ds)
 | dt {a:Addr} {kvs:List (List Key × V)} {es:List (List Key × PyData)} {ds:List (PyData × PyData)}:G a=some (.dT kvs)->RpT G kvs es->ds=es.map (fun p=>(.tuple (p.1.map kD),p.2))->Rp G (.ref a) (.dict ds)
inductive Rps (G:Hp):List V->List PyData->Prop
 | nil:Rps G [] []
 | cons {v:V} {vs:List V} {d:PyData} {ds:List PyData}:Rp G v d->Rps G vs ds->Rps G (v :: vs) (d :: ds)
inductive RpK (G:Hp):List (Key × V)->List (Key × PyData)->Prop
 | nil:RpK G [] []
 | cons {k:Key} {v:V} {d:PyData} {r:List (Key × V)} {s:List (Key × PyData)}:Rp G v d->RpK G r s->RpK G ((k,v) :: r) ((k,d) :: s)
inductive RpT (G:Hp):List (List Key × V)->List (List Key × PyData)->Prop
 | nil:RpT G [] []
 | cons {k:List Key} {v:V} {d:PyData} {r:List (List Key × V)} {s:List (List Key × PyData)}:Rp G v d->RpT G r s->RpT G ((k,v) :: r) ((k,d) :: s)
end
mutual
theorem Rp.same {G G':Hp} (s:Same G G'):∀ {v:V} {d:PyData},Rp G v d->Rp G' v d
 | _,_,.non => .non
 | _,_,.bl b => .bl b
 | _,_,.int i => .int i
 | _,_,.str x => .str x
 | _,_,.lst h r => .lst (s _ _ h) (Rps.same s r)
 | _,_,.tup h r => .tup (s _ _ h) (Rps.same s r)
 | _,_,.dk h r e => .dk (s _ _ h) (RpK.same s r) e
 | _,_,.dt h r e => .dt (s _ _ h) (RpT.same s r) e
theorem Rps.same {G G':Hp} (s:Same G G'):∀ {vs:List V} {ds:List PyData},Rps G vs ds->Rps G' vs ds
 | _,_,.nil => .nil
 | _,_,.cons r t => .cons (Rp.same s r) (Rps.same s t)
theorem RpK.same {G G':Hp} (s:Same G G'):∀ {vs:List (Key × V)} {ds:List (Key × PyData)},RpK G vs ds->RpK G' vs ds
 | _,_,.nil => .nil
 | _,_,.cons r t => .cons (Rp.same s r) (RpK.same s t)
theorem RpT.same {G G':Hp} (s:Same G G'):∀ {vs:List (List Key × V)} {ds:List (List Key × PyData)},RpT G vs ds->RpT G' vs ds
 | _,_,.nil => .nil
 | _,_,.cons r t => .cons (Rp.same s r) (RpT.same s t)
end
theorem Rps.length {G:Hp}:∀ {vs:List V} {ds:List PyData},Rps G vs ds->vs.length=ds.length
 | _,_,.nil=>rfl
 | _,_,.cons _ t=>by simp [Rps.length t]
theorem Rps.get {G:Hp}:∀ {vs:List V} {ds:List PyData} {i:Nat} {d:PyData},Rps G vs ds->ds[i]?=some d->∃ v,vs[i]?=some v/\Rp G v d
 | _,_,_,_,.nil,e=>by simp at e
 | _,_,0,_,.cons r _,e=>by simp at e;subst e;exact ⟨_,rfl,r⟩
 | _,_,i+1,d,.cons _ t,e=>by
  obtain ⟨u,a,b⟩:=Rps.get (i:=i) (d:=d) t (by simpa using e)
  exact ⟨u,by simpa using a,b⟩
theorem Rps.getV {G:Hp}:∀ {vs:List V} {ds:List PyData} {i:Nat} {v:V},Rps G vs ds->vs[i]?=some v->∃ d,ds[i]?=some d/\Rp G v d
 | _,_,_,_,.nil,e=>by simp at e
 | _,_,0,_,.cons r _,e=>by simp at e;subst e;exact ⟨_,rfl,r⟩
 | _,_,i+1,d,.cons _ t,e=>by
  obtain ⟨u,a,b⟩:=Rps.getV (i:=i) (v:=d) t (by simpa using e)
  exact ⟨u,by simpa using a,b⟩
theorem Rps.append {G:Hp}:∀ {vs ws:List V} {ds es:List PyData},Rps G vs ds->Rps G ws es->Rps G (vs ++ ws) (ds ++ es)
 | _,_,_,_,.nil,s=>s
 | _,_,_,_,.cons r t,s => .cons r (Rps.append t s)
theorem Rps.set {G:Hp} {v:V} {d:PyData} (h:Rp G v d):∀ {vs:List V} {ds:List PyData} (i:Nat),Rps G vs ds->Rps G (vs.set i v) (ds.set i d)
 | _,_,_,.nil => .nil
 | _,_,0,.cons _ t => .cons h t
 | _,_,i+1,.cons r t => .cons r (Rps.set h i t)
theorem Rps.erase {G:Hp}:∀ {vs:List V} {ds:List PyData} (i:Nat),Rps G vs ds->Rps G (vs.eraseIdx i) (ds.eraseIdx i)
 | _,_,_,.nil => .nil
 | _,_,0,.cons _ t=>t
 | _,_,i+1,.cons r t => .cons r (Rps.erase i t)
theorem Rps.take {G:Hp}:∀ {vs:List V} {ds:List PyData} (i:Nat),Rps G vs ds->Rps G (vs.take i) (ds.take i)
 | _,_,0,_ => .nil
 | _,_,_+1,.nil => .nil
 | _,_,i+1,.cons r t => .cons r (Rps.take i t)
theorem Rps.drop {G:Hp}:∀ {vs:List V} {ds:List PyData} (i:Nat),Rps G vs ds->Rps G (vs.drop i) (ds.drop i)
 | _,_,0,r=>r
 | _,_,_+1,.nil => .nil
 | _,_,i+1,.cons _ t=>Rps.drop i t
theorem Rps.ints {G:Hp}:∀ (ns:List Int),Rps G (ns.map V.int) (ns.map PyData.int)
 | [] => .nil
 | n :: ns => .cons (.int n) (Rps.ints ns)
theorem Rps.ints_inv {G:Hp}:∀ {ns:List Int} {vs:List V},Rps G vs (ns.map PyData.int)->vs=ns.map V.int
 | [],_,.nil=>rfl
 | n :: ns,_,.cons r t=>by
  cases r
  rw [Rps.ints_inv t];rfl
mutual
theorem Rp.rep {G:Hp}:∀ {v:V} {d:PyData},Rp G v d->aam d=true->Rep G v d
 | _,_,.non,_ => .non
 | _,_,.bl b,_ => .bl b
 | _,_,.int i,_ => .int i
 | _,_,.str x,_ => .str x
 | _,_,.lst h r,p => .lst h (Rps.reps r (by simpa [aam] using p))
 | _,_,.tup h r,p => .tup h (Rps.reps r (by simpa [aam] using p))
 | _,_,.dk h r e,p=>by simp [aam] at p
 | _,_,.dt h r e,p=>by simp [aam] at p
theorem Rps.reps {G:Hp}:∀ {vs:List V} {ds:List PyData},Rps G vs ds->plainDs ds=true->Reps G vs ds
 | _,_,.nil,_ => .nil
 | _,_,.cons r t,p=>by
  simp only [plainDs,aB2] at p
  exact .cons (Rp.rep r p.1) (Rps.reps t p.2)
end
structure Own where
 P:Hp->Hp->V->(Addr->Prop)->Prop
 mono:∀ {G H G' H':Hp} {v:V} {F:Addr->Prop},P G H v F->Same G G'->(∀ a o,F a->H a=some o->H' a=some o)->P G' H' v F
 dom:∀ {G H:Hp} {v:V} {F:Addr->Prop},P G H v F->∀ a,F a->∃ o,H a=some o
inductive Sl where
 | st (d:PyData) | own (A:Own) | io (A:Own) | scr (ns:List Int)
abbrev En:=List (Option Sl)
structure Bs where
 K:Frag
 G:Hp
 H:Hp
 R:Hp
 S:St
 F:Nat->Addr->Prop
def SlOk (B:Bs) (G H:Hp) (i:Nat) (v:V) (F:Addr->Prop):Sl->Prop
 | .st d=>Rp G v d/\∀ a,¬ F a
 | .own A=>A.P G H v F/\∀ a,F a->B.H a=none
 | .io A=>A.P G H v F/\(∀ a,F a->B.F i a\/B.H a=none)/\B.S[i]?=some (some v)
 | .scr ns=>(∃ a,v=.ref a/\SqL B.K G a (ns.map V.int))/\∀ a,¬ F a
def FT (G H:Hp):Prop:=∀ (a:Addr) (ks:List Key),H a=some (.tup (ks.map kV))->G a=some (.tup (ks.map kV))
structure VI (B:Bs) (G H:Hp) (σ:St) (env:En) (F:Nat->Addr->Prop):Prop where
 gh:Same G H
 g0:Same B.G G
 gn:∀ a o,G a=some o->B.G a=some o\/B.H a=none
 rs:Same B.R H
 rb:Same B.R B.H
 bh:∀ a o,B.H a=some o->∃ o',H a=some o'
 fg:∀ i a,F i a->G a=none
 fr:∀ i a,F i a->B.R a=none
 fd:∀ i j a,F i a->F j a->i=j
 fo:∀ i a,F i a->∃ o,H a=some o
 sl:∀ i s,env[i]?=some (some s)->∃ v,σ[i]?=some (some v)/\SlOk B G H i v (F i) s
 ln : σ.length=env.length
 ft:FT G H
def RsOk (G H:Hp) (v:V) (F:Addr->Prop):Sl->Prop
 | .st d=>Rp G v d/\∀ a,¬ F a
 | .own A=>A.P G H v F
 | _=>False
structure RsX (B:Bs) (G H:Hp) (v:V) (Fv:Addr->Prop) (s:Sl) (F:Nat->Addr->Prop):Prop where
 ok:RsOk G H v Fv s
 fb:∀ a,Fv a->B.H a=none
 fg:∀ a,Fv a->G a=none
 fo:∀ a,Fv a->∃ o,H a=some o
 fd:∀ j a,Fv a->¬ F j a
structure Out (G H:Hp) (v:V) (G' H':Hp) (s:Sl) (Fv:Addr->Prop):Prop where
 gg:Same G G'
 gh:Same G' H'
 hh:Same H H'
 gn:∀ a o,G' a=some o->G a=some o\/H a=none
 fn:∀ a,Fv a->H a=none
 fg:∀ a,Fv a->G' a=none
 fo:∀ a,Fv a->∃ o,H' a=some o
 ok:RsOk G' H' v Fv s
 ft:FT G H->FT G' H'
theorem al3 {α:Type} {o:Option α} (h:o ≠ none):∃ x,o=some x:=by
 cases o with
 | none=>exact absurd rfl h
 | some x=>exact ⟨x,rfl⟩
theorem SlOk.mono {B:Bs} {G H G' H':Hp} {i:Nat} {v:V} {F:Addr->Prop} {s:Sl} (h:SlOk B G H i v F s) (g:Same G G') (hh:∀ a o,F a->H a=some o->H' a=some o):SlOk B G' H' i v F s:=by
 cases s with
 | st d=>exact ⟨h.1.same g,h.2⟩
 | own A=>exact ⟨A.mono h.1 g hh,h.2⟩
 | io A=>exact ⟨A.mono h.1 g hh,h.2⟩
 | scr ns =>
  obtain ⟨⟨a,e,q⟩,n⟩:=h
  exact ⟨⟨a,e,g.seq q⟩,n⟩
section
variable {B:Bs} {G H G' H':Hp} {σ:St} {env:En} {F:Nat->Addr->Prop} {v:V} {s:Sl} {Fv:Addr->Prop}
theorem VI.no_r (I:VI B G H σ env F) {a:Addr} (h:H a=none):B.R a=none:=by
 cases e:B.R a with
 | none=>rfl
 | some o=>rw [I.rs a o e] at h;cases h
theorem VI.no_b (I:VI B G H σ env F) {a:Addr} (h:H a=none):B.H a=none:=by
 cases e:B.H a with
 | none=>rfl
 | some o=>obtain ⟨o',b⟩:=I.bh a o e;rw [b] at h;cases h
theorem VI.no_g (I:VI B G H σ env F) {a:Addr} (h:H a=none):G a=none:=by
 cases e:G a with
 | none=>rfl
 | some o=>rw [I.gh a o e] at h;cases h
theorem VI.no_f (I:VI B G H σ env F) {a:Addr} (h:H a=none) (i:Nat):¬ F i a:=fun z=>by
 obtain ⟨o,e⟩:=I.fo i a z;rw [e] at h;cases h
theorem VI.grow (I:VI B G H σ env F) (gg:Same G G') (gh:Same G' H') (hh:Same H H') (gn:∀ a o,G' a=some o->G a=some o\/H a=none) (ft:FT G' H'):VI B G' H' σ env F where
 gh:=gh
 g0:=I.g0.trans gg
 gn:=fun a o e=>by
  rcases gn a o e with e | e
  ·exact I.gn a o e
  ·exact .inr (I.no_b e)
 rs:=I.rs.trans hh
 rb:=I.rb
 bh:=fun a o e=>by obtain ⟨o',d⟩:=I.bh a o e;exact ⟨o',hh _ _ d⟩
 fg:=fun i a z=>by
  cases e:G' a with
  | none=>rfl
  | some o =>
   rcases gn a o e with e | e
   ·rw [I.fg i a z] at e;cases e
   ·exact absurd z (I.no_f e i)
 fr:=I.fr
 fd:=I.fd
 fo:=fun i a z=>by obtain ⟨o,e⟩:=I.fo i a z;exact ⟨o,hh _ _ e⟩
 sl:=fun i s e=>by
  obtain ⟨v,b,c⟩:=I.sl i s e
  exact ⟨v,b,c.mono gg fun a o _ q=>hh _ _ q⟩
 ln:=I.ln
 ft:=ft
theorem VI.out (I:VI B G H σ env F) (o:Out G H v G' H' s Fv):VI B G' H' σ env F/\RsX B G' H' v Fv s F :=
 ⟨I.grow o.gg o.gh o.hh o.gn (o.ft I.ft),o.ok,fun a z=>I.no_b (o.fn a z),o.fg,o.fo,fun j a z y=>I.no_f (o.fn a z) j y⟩
theorem VI.b_r (I:VI B G H σ env F) {a:Addr} (h:B.H a=none):B.R a=none:=by
 cases e:B.R a with
 | none=>rfl
 | some o=>rw [I.rb a o e] at h;cases h
def putF (F:Nat->Addr->Prop) (i:Nat) (Fv:Addr->Prop):Nat->Addr->Prop:=fun j a=>if j=i then Fv a else F j a
theorem putF_same {i:Nat} {a:Addr}:putF F i Fv i a ↔ Fv a:=by unfold putF;rw [az7 rfl]
theorem adn {i:Nat}:putF F i Fv i=Fv:=by funext a;unfold putF;rw [az7 rfl]
theorem aau {i j:Nat} (h:j ≠ i):putF F i Fv j=F j:=by funext a;unfold putF;rw [az8 h]
theorem VI.slot (I:VI B G H σ env F) (i:Nat) (o:Option V) (os:Option Sl) (fg:∀ a,Fv a->G a=none) (fr:∀ a,Fv a->B.R a=none) (fo:∀ a,Fv a->∃ o,H a=some o) (fd:∀ j a,j ≠ i->Fv a->¬ F j a)
  (ok:∀ s,os=some s->∃ v,o=some v/\SlOk B G H i v Fv s):VI B G H (σ.set i o) (env.set i os) (putF F i Fv) where
 gh:=I.gh
 g0:=I.g0
 gn:=I.gn
 rs:=I.rs
 rb:=I.rb
 bh:=I.bh
 fg:=fun j a z=>by
  by_cases h:j=i
  ·subst h;exact fg a (putF_same.mp z)
  ·rw [aau h] at z;exact I.fg j a z
 fr:=fun j a z=>by
  by_cases h:j=i
  ·subst h;exact fr a (putF_same.mp z)
  ·rw [aau h] at z;exact I.fr j a z
 fd:=fun j k a y z=>by
  by_cases h:j=i
  ·by_cases g:k=i
   ·rw [h,g]
   ·subst h;rw [aau g] at z;exact absurd z (fd k a g (putF_same.mp y))
  ·by_cases g:k=i
   ·subst g;rw [aau h] at y;exact absurd y (fd j a h (putF_same.mp z))
   ·rw [aau h] at y;rw [aau g] at z;exact I.fd j k a y z
 fo:=fun j a z=>by
  by_cases h:j=i
  ·subst h;exact fo a (putF_same.mp z)
  ·rw [aau h] at z;exact I.fo j a z
 sl:=fun j t e=>by
  by_cases h:j=i
  ·subst h
   rw [ay2,az7 rfl] at e
   by_cases hl:j < env.length
   ·rw [az7 hl] at e
    obtain ⟨v,b,q⟩:=ok t (ax6 e)
    refine ⟨v,by rw [ay2,az7 rfl,az7 (by rw [I.ln];exact hl),b],?_⟩
    rw [adn];exact q
   ·rw [az8 hl] at e;cases e
  ·rw [ay2,az8 (fun z=>h z.symm)] at e
   obtain ⟨v,b,q⟩:=I.sl j t e
   refine ⟨v,by rw [ay2,az8 (fun z=>h z.symm)];exact b,?_⟩
   rw [aau h];exact q
 ln:=by simp [I.ln]
 ft:=I.ft
theorem VI.store (I:VI B G H σ env F) (r:RsX B G H v Fv s F) (i:Nat):VI B G H (σ.set i (some v)) (env.set i (some s)) (putF F i Fv):=by
 refine I.slot i (some v) (some s) r.fg (fun a z=>I.b_r (r.fb a z)) r.fo (fun j a _ z=>r.fd j a z) fun t e=>?_
 cases e
 refine ⟨v,rfl,?_⟩
 have:=r.ok
 cases s with
 | st d=>exact this
 | own A=>exact ⟨this,r.fb⟩
 | io A=>exact this.elim
 | scr ns=>exact this.elim
theorem VI.drop (I:VI B G H σ env F) (i:Nat):VI B G H σ (env.set i none) (putF F i fun _=>False):=by
 have:=I.slot (Fv:=fun _=>False) i ((σ[i]?).getD none) none (fun a z=>z.elim) (fun a z=>z.elim) (fun a z=>z.elim) (fun j a _ z=>z.elim) (fun s e=>by cases e)
 rwa [show σ.set i ((σ[i]?).getD none) = σ from ?_] at this
 apply aA3
 intro j
 rw [ay2]
 by_cases h:i=j
 ·subst h
  rw [az7 rfl]
  by_cases hl:i < σ.length
  ·rw [az7 hl,av0 hl];rfl
  ·rw [az8 hl,az9.mpr (by omega)]
 ·rw [az8 h]
theorem VI.change {A:Own} (I:VI B G H σ env F) (i:Nat) {H2:Hp} {F2:Addr->Prop} {os os':Sl} (e:env[i]?=some (some os)) (g : σ[i]?=some (some v))
  (keep:∀ a o,¬ F i a->H a=some o->H2 a=some o) (l:∀ a o,H a=some o->∃ o',H2 a=some o') (c:∀ a,F2 a->(F i a\/H a=none)/\∃ o,H2 a=some o) (p:A.P G H2 v F2) (M:FT G H2)
  (O:(os'=.own A/\∃ d,os=.own d)\/(os'=.io A/\∃ d,os=.io d)):VI B G H2 σ (env.set i (some os')) (putF F i F2):=by
 obtain ⟨R,f,q⟩:=I.sl i os e
 rw [g] at f;cases f
 have m:∀ j a,j ≠ i->F j a->¬ F i a:=fun j a b y z=>b (I.fd j i a y z)
 have E:∀ a,F2 a->G a=none:=fun a z=>by
  rcases (c a z).1 with y | y
  ·exact I.fg i a y
  ·exact I.no_g y
 have J:VI B G H2 σ (env.set i none) (putF F i fun _=>False):=by
  have D:=I.drop i
  refine ⟨fun a o x=>keep a o (fun z=>by rw [I.fg i a z] at x;cases x) (I.gh a o x),D.g0,D.gn,fun a o x=>keep a o (fun z=>by rw [I.fr i a z] at x;cases x) (I.rs a o x),D.rb,fun a o x=>?_,D.fg,D.fr,D.fd,fun j a z=>?_,fun j s x=>?_,D.ln,M⟩
  ·obtain ⟨o',L⟩:=I.bh a o x
   exact l a o' L
  ·obtain ⟨o,x⟩:=D.fo j a z
   exact l a o x
  ·obtain ⟨u,r,w⟩:=D.sl j s x
   refine ⟨u,r,w.mono (Same.refl G) fun a o z y=>?_⟩
   by_cases b:j=i
   ·subst b;exact (putF_same.mp z).elim
   ·rw [aau b] at z
    exact keep a o (m j a b z) y
 have n:=J.slot (Fv:=F2) i (some v) (some os') E (fun a z=>by
   rcases (c a z).1 with y | y
   ·exact I.fr i a y
   ·exact I.no_r y) (fun a z=>(c a z).2) (fun j a b z y=>by
   rw [aau b] at y
   rcases (c a z).1 with x | x
   ·exact m j a b y x
   ·exact I.no_f x j y) fun t N=>by
   cases N
   refine ⟨v,rfl,?_⟩
   rcases O with ⟨rfl,d,rfl⟩ | ⟨rfl,d,rfl⟩
   ·refine ⟨p,fun a z=>?_⟩
    rcases (c a z).1 with y | y
    ·exact q.2 a y
    ·exact I.no_b y
   ·refine ⟨p,fun a z=>?_,q.2.2⟩
    rcases (c a z).1 with y | y
    ·exact q.2.1 a y
    ·exact .inr (I.no_b y)
 have K : σ.set i (some v) = σ:=by
  apply aA3
  intro j
  rw [ay2]
  by_cases h:i=j
  ·subst h
   rw [az7 rfl,g,az7 (av1.mp g).1]
  ·rw [az8 h]
 have Q:(env.set i none).set i (some os')=env.set i (some os'):=by simp
 have C:putF (putF F i fun _=>False) i F2=putF F i F2:=by
  funext j a
  by_cases h:j=i
  ·subst h;rw [adn,adn]
  ·rw [aau h,aau h,aau h]
 rw [K,Q,C] at n
 exact n
end
open Classical in
def jn (G H:Hp) (F:Addr->Prop):Hp:=fun a=>if F a then H a else G a
theorem af0 {G H:Hp} {F:Addr->Prop} {a:Addr} (h:F a):jn G H F a=H a:=az7 h
theorem aid {G H:Hp} {F:Addr->Prop} {a:Addr} (h:¬ F a):jn G H F a=G a:=az8 h
theorem aba {G H:Hp} {F:Addr->Prop} (h:∀ a,F a->G a=none):Same G (jn G H F):=fun a o e=>by
 rw [aid (fun z=>by rw [h a z] at e;cases e)];exact e
theorem aie {G H:Hp} {F:Addr->Prop} (h:Same G H):Same (jn G H F) H:=fun a o e=>by
 by_cases z:F a
 ·rw [af0 z] at e;exact e
 ·rw [aid z] at e;exact h a o e
def Frz (A:Own) (d:PyData):Prop:=∀ (G H:Hp) (v:V) (F:Addr->Prop),A.P G H v F->(∀ a,F a->G a=none)->Same G H->Rp (jn G H F) v d
def FQ:Sl->(PyData->Prop)->Prop
 | .st d,R=>R d
 | .own A,R=>∃ d,Frz A d/\R d
 | _,_=>False
def OL (ds:List PyData):Own where
 P:=fun G H v F=>∃ a vs,v=.ref a/\H a=some (.lst vs)/\Rps G vs ds/\∀ b,F b ↔ b=a
 mono:=fun ⟨a,vs,e,h,r,f⟩ g hh=>⟨a,vs,e,hh a _ ((f a).mpr rfl) h,r.same g,f⟩
 dom:=fun ⟨a,vs,e,h,r,f⟩ b z=>by rw [(f b).mp z];exact ⟨_,h⟩
def OD (es:List (Key × PyData)):Own where
 P:=fun G H v F=>∃ a kvs,v=.ref a/\H a=some (.dK kvs)/\RpK G kvs es/\∀ b,F b ↔ b=a
 mono:=fun ⟨a,vs,e,h,r,f⟩ g hh=>⟨a,vs,e,hh a _ ((f a).mpr rfl) h,r.same g,f⟩
 dom:=fun ⟨a,vs,e,h,r,f⟩ b z=>by rw [(f b).mp z];exact ⟨_,h⟩
def OT (es:List (List Key × PyData)):Own where
 P:=fun G H v F=>∃ a kvs,v=.ref a/\H a=some (.dT kvs)/\RpT G kvs es/\∀ b,F b ↔ b=a
 mono:=fun ⟨a,vs,e,h,r,f⟩ g hh=>⟨a,vs,e,hh a _ ((f a).mpr rfl) h,r.same g,f⟩
 dom:=fun ⟨a,vs,e,h,r,f⟩ b z=>by rw [(f b).mp z];exact ⟨_,h⟩
theorem ael {ds:List PyData}:Frz (OL ds) (.list ds):=fun G H v F ⟨a,vs,e,h,r,f⟩ n g=>by
 subst e
 exact .lst (by rw [af0 ((f a).mpr rfl)];exact h) (r.same (aba n))
theorem au1 {d:PyData} {R:PyData->Prop} (h:R d):FQ (.st d) R:=h
theorem adh {ds:List PyData} {R:PyData->Prop} (h:R (.list ds)):FQ (.own (OL ds)) R:=⟨_,ael,h⟩
section
variable {B:Bs} {G H G' H':Hp} {σ:St} {env:En} {F:Nat->Addr->Prop} {v:V} {s:Sl} {Fv:Addr->Prop}
theorem VI.freeze (I:VI B G H σ env F) (fb:∀ a,Fv a->B.H a=none) (fd:∀ j a,Fv a->¬ F j a) (fg:∀ a,Fv a->G a=none):VI B (jn G H Fv) H σ env F where
 gh:=aie I.gh
 g0:=I.g0.trans (aba fg)
 gn:=fun a o e=>by
  by_cases z:Fv a
  ·exact .inr (fb a z)
  ·rw [aid z] at e;exact I.gn a o e
 rs:=I.rs
 rb:=I.rb
 bh:=I.bh
 fg:=fun i a z=>by
  rw [aid (fun y=>fd i a y z)];exact I.fg i a z
 fr:=I.fr
 fd:=I.fd
 fo:=I.fo
 sl:=fun i s e=>by
  obtain ⟨v,d,c⟩:=I.sl i s e
  exact ⟨v,d,c.mono (aba fg) fun a o _ q=>q⟩
 ln:=I.ln
 ft:=fun a b e=>aba fg _ _ (I.ft a b e)
theorem VI.frz {A:Own} {d:PyData} {i:Nat} (I:VI B G H σ env F) (e:env[i]?=some (some (.own A))) (f:Frz A d) :
  ∃ v,σ[i]?=some (some v)/\Rp (jn G H (F i)) v d/\Same G (jn G H (F i))/\VI B (jn G H (F i)) H σ (env.set i (some (.st d))) (putF F i fun _=>False):=by
 obtain ⟨v,b,q⟩:=I.sl i _ e
 have c:=f G H v (F i) q.1 (I.fg i) I.gh
 refine ⟨v,b,c,aba (I.fg i),?_⟩
 have D:=(I.drop i).freeze (Fv:=F i) q.2 (fun j a z y=>by
  by_cases h:j=i
  ·subst h;exact (putF_same.mp y).elim
  ·rw [aau h] at y;exact h (I.fd j i a y z)) (I.fg i)
 have J:=D.slot (Fv:=fun _=>False) i (some v) (some (.st d)) (fun a z=>z.elim) (fun a z=>z.elim) (fun a z=>z.elim) (fun j a _ z=>z.elim) (fun t m=>by cases m;exact ⟨v,rfl,c,fun a z=>z⟩)
 have l : σ.set i (some v) = σ:=by
  apply aA3
  intro j
  rw [ay2]
  by_cases h:i=j
  ·subst h
   rw [az7 rfl,b,az7 (av1.mp b).1]
  ·rw [az8 h]
 have g:putF (putF F i fun _=>False) i (fun _=>False)=putF F i fun _=>False:=by
  funext j a
  by_cases h:j=i
  ·subst h;rw [adn,adn]
  ·rw [aau h,aau h]
 rw [l,g,List.set_set] at J
 exact J
theorem Out.refl {d:PyData} (g:Same G H) (r:Rp G v d):Out G H v G H (.st d) (fun _=>False):=⟨Same.refl _,g,Same.refl _,fun a o e => .inl e,fun a z=>z.elim,fun a z=>z.elim,fun a z=>z.elim,⟨r,fun a z=>z⟩,fun t=>t⟩
theorem ard {p:Addr} {o:HO} (g:Same G H) (h:H p=none):Same (upd G p o) (upd H p o):=fun a u e=>by
 by_cases z:a=p
 ·subst z;rw [aag] at e ⊢;exact e
 ·rw [aac z] at e ⊢;exact g a u e
theorem ad0 {p:Addr} (g:Same G H) (h:H p=none):G p=none:=by
 cases e:G p with
 | none=>rfl
 | some o=>rw [g p o e] at h;cases h
theorem Out.newT {p:Addr} {xs:List V} {ds:List PyData} (g:Same G H) (h:H p=none) (r:Rps G xs ds):Out G H (.ref p) (upd G p (.tup xs)) (upd H p (.tup xs)) (.st (.tuple ds)) (fun _=>False) where
 gg:=abu (ad0 g h)
 gh:=ard g h
 hh:=abu h
 gn:=fun a o e=>by
  by_cases z:a=p
  ·subst z;exact .inr h
  ·rw [aac z] at e;exact .inl e
 fn:=fun a z=>z.elim
 fg:=fun a z=>z.elim
 fo:=fun a z=>z.elim
 ok:=⟨.tup aag (r.same (abu (ad0 g h))),fun a z=>z⟩
 ft:=fun t a b e=>by
  by_cases z:a=p
  ·subst z;rw [aag] at e ⊢;exact e
  ·rw [aac z] at e ⊢;exact t a b e
theorem Out.newO {p:Addr} {o:HO} {A:Own} (g:Same G H) (h:H p=none) (c:∀ xs,o ≠ .tup xs) (r:A.P G (upd H p o) (.ref p) (· = p)):Out G H (.ref p) G (upd H p o) (.own A) (· = p) where
 gg:=Same.refl _
 gh:=g.trans (abu h)
 hh:=abu h
 gn:=fun a o e => .inl e
 fn:=fun a z=>by rw [z];exact h
 fg:=fun a z=>by rw [z];exact ad0 g h
 fo:=fun a z=>by rw [z];exact ⟨_,aag⟩
 ok:=r
 ft:=fun t a b e=>by
  by_cases z:a=p
  ·subst z;rw [aag] at e;exact absurd (ax6 e) (c _)
  ·rw [aac z] at e;exact t a b e
theorem Out.newL {p:Addr} {xs:List V} {ds:List PyData} (g:Same G H) (h:H p=none) (r:Rps G xs ds):Out G H (.ref p) G (upd H p (.lst xs)) (.own (OL ds)) (· = p) :=
 .newO g h (fun _ z=>nomatch z) ⟨p,xs,rfl,aag,r,fun b=>Iff.rfl⟩
theorem Out.newD {p:Addr} {xs:List (Key × V)} {ds:List (Key × PyData)} (g:Same G H) (h:H p=none) (r:RpK G xs ds):Out G H (.ref p) G (upd H p (.dK xs)) (.own (OD ds)) (· = p) :=
 .newO g h (fun _ z=>nomatch z) ⟨p,xs,rfl,aag,r,fun b=>Iff.rfl⟩
theorem Out.newDT {p:Addr} {xs:List (List Key × V)} {ds:List (List Key × PyData)} (g:Same G H) (h:H p=none) (r:RpT G xs ds):Out G H (.ref p) G (upd H p (.dT xs)) (.own (OT ds)) (· = p) :=
 .newO g h (fun _ z=>nomatch z) ⟨p,xs,rfl,aag,r,fun b=>Iff.rfl⟩
end
def EvO (B:Bs) (te:TE) (env:En) (Q':Sl->En->Prop):Prop:=∀ (σ:St) (G H:Hp) (F:Nat->Addr->Prop) (Q:VK),VI B G H σ env F ->
 (∀ v G' H' F' Fv s env',VI B G' H' σ env' F'->Same G G'->RsX B G' H' v Fv s F'->Q' s env'->Q v H')->te σ H Q
def Ev (B:Bs) (te:TE) (env:En) (Q':PyData->En->Prop):Prop:=∀ (σ:St) (G H:Hp) (F:Nat->Addr->Prop) (Q:VK),VI B G H σ env F ->
 (∀ v G' H' F' d env',VI B G' H' σ env' F'->Same G G'->Rp G' v d->Q' d env'->Q v H')->te σ H Q
def EvT (B:Bs) (tt:TT) (env:En) (Q':Bool->En->Prop):Prop:=∀ (σ:St) (G H:Hp) (F:Nat->Addr->Prop) (Q:Bool->Hp->Prop),VI B G H σ env F ->
 (∀ b G' H' F' env',VI B G' H' σ env' F'->Same G G'->Q' b env'->Q b H')->tt σ H Q
def EvA (B:Bs) (ta:TA) (env:En) (Q':List PyData->En->Prop):Prop:=∀ (σ:St) (G H:Hp) (F:Nat->Addr->Prop) (Q:List V->Hp->Prop),VI B G H σ env F ->
 (∀ vs G' H' F' ds env',VI B G' H' σ env' F'->Same G G'->Rps G' vs ds->Q' ds env'->Q vs H')->ta σ H Q
structure ItOk (G:Hp) (J:It) (ds:List PyData):Prop where
 go:∀ i G' H',Same G G'->Same G' H'->i < ds.length->J.go i H'
 stop:∀ i G' H',Same G G'->Same G' H'->i=ds.length->J.stop i H'
 yld:∀ i G' H' x H'' d,Same G G'->Same G' H'->FT G' H'->ds[i]?=some d->J.yld i H' x H''->∃ G'',Out G' H' x G'' H'' (.st d) (fun _=>False)
def EvI (B:Bs) (ti:TI) (env:En) (Q':List PyData->En->Prop):Prop:=∀ (σ:St) (G H:Hp) (F:Nat->Addr->Prop) (R:It->Hp->Prop),VI B G H σ env F ->
 (∀ J G' H' F' ds env',VI B G' H' σ env' F'->Same G G'->ItOk G' J ds->Q' ds env'->R J H')->ti σ H R
def EvG (B:Bs) (g:TG) (s:Sl) (env:En) (Q':En->Prop):Prop:=∀ (σ:St) (G H:Hp) (F:Nat->Addr->Prop) (v:V) (Fv:Addr->Prop) (Q:St->Hp->Prop),VI B G H σ env F->RsX B G H v Fv s F ->
 (∀ σ' G' H' F' env',VI B G' H' σ' env' F'->Same G G'->Q' env'->Q σ' H')->g v σ H Q
def EvGs (B:Bs) (g:TGs) (ds:List PyData) (env:En) (Q':En->Prop):Prop:=∀ (σ:St) (G H:Hp) (F:Nat->Addr->Prop) (vs:List V) (Q:St->Hp->Prop),VI B G H σ env F->Rps G vs ds ->
 (∀ σ' G' H' F' env',VI B G' H' σ' env' F'->Same G G'->Q' env'->Q σ' H')->g vs σ H Q
structure VEnds where
 nx:En->Prop
 rt:Sl->En->Prop
 bk:En->Prop:=fun _=>False
 ct:En->Prop:=fun _=>False
structure RelE (B:Bs) (G:Hp) (D:Ends) (D':VEnds):Prop where
 nx:∀ σ G' H F env,VI B G' H σ env F->Same G G'->D'.nx env->D.nx σ H
 rt:∀ σ G' H F env v Fv s,VI B G' H σ env F->Same G G'->RsX B G' H v Fv s F->D'.rt s env->D.rt v H
 bk:∀ σ G' H F env,VI B G' H σ env F->Same G G'->D'.bk env->D.bk σ H
 ct:∀ σ G' H F env,VI B G' H σ env F->Same G G'->D'.ct env->D.ct σ H
def EvS (B:Bs) (ts:TS) (D':VEnds) (env:En):Prop:=∀ (σ:St) (G H:Hp) (F:Nat->Addr->Prop) (D:Ends),VI B G H σ env F->RelE B G D D'->ts D σ H
theorem RelE.later {B:Bs} {G G':Hp} {D:Ends} {D':VEnds} (r:RelE B G D D') (g:Same G G'):RelE B G' D D' :=
 ⟨fun σ a H F env I q=>r.nx σ a H F env I (g.trans q),fun σ a H F env v Fv s I q=>r.rt σ a H F env v Fv s I (g.trans q),fun σ a H F env I q=>r.bk σ a H F env I (g.trans q),fun σ a H F env I q=>r.ct σ a H F env I (g.trans q)⟩
section
variable {B:Bs} {env:En} {Q':PyData->En->Prop} {QO:Sl->En->Prop} {QT:Bool->En->Prop} {QA:List PyData->En->Prop} {te ta tb:TE}
theorem ado {G H:Hp} {v:V} {d:PyData} {F:Nat->Addr->Prop} (r:Rp G v d):RsX B G H v (fun _=>False) (.st d) F:=⟨⟨r,fun a z=>z⟩,fun a z=>z.elim,fun a z=>z.elim,fun a z=>z.elim,fun j a z=>z.elim⟩
theorem aa9 (h:Ev B te env fun d e=>QO (.st d) e):EvO B te env QO:=fun σ G H F Q I k =>
 h σ G H F Q I fun v G' H' c d a b g r q=>k v G' H' c _ (.st d) a b g (ado r) q
theorem ab2 (h:EvO B te env fun s e=>FQ s fun d=>Q' d e):Ev B te env Q':=fun σ G H F Q I k =>
 h σ G H F Q I fun v G' H' c Fv s a b g r q=>by
  cases s with
  | st d=>exact k v G' H' c d a b g r.ok.1 q
  | own A =>
   obtain ⟨d,f,q⟩:=q
   exact k v _ H' c d a (b.freeze r.fb r.fd r.fg) (g.trans (aba r.fg)) (f G' H' v Fv r.ok r.fg b.gh) q
  | io A=>exact q.elim
  | scr ns=>exact q.elim
theorem atp {i:Nat} {d:PyData} (e:env[i]?=some (some (.st d))) (q:Q' d env):Ev B (tVar i) env Q':=fun σ G H F Q I k=>by
 obtain ⟨v,a,r⟩:=I.sl i _ e
 exact ⟨v,a,k v G H F d env I (Same.refl _) r.1 q⟩
theorem ao5 {i:Nat} {A:Own} (e:env[i]?=some (some (.own A))) (q:QO (.own A) (env.set i none)):EvO B (tVar i) env QO:=fun σ G H F Q I k=>by
 obtain ⟨v,b,r⟩:=I.sl i _ e
 refine ⟨v,b,k v G H _ (F i) (.own A) _ (I.drop i) (Same.refl _) ⟨r.1,r.2,I.fg i,I.fo i,fun j a z y=>?_⟩ q⟩
 by_cases h:j=i
 ·subst h;exact putF_same.mp y
 ·rw [aau h] at y;exact h (I.fd j i a y z)
theorem atq {i:Int} (q:Q' (.int i) env):Ev B (tC (.int i)) env Q':=fun σ G H F Q I k=>k _ G H F _ env I (Same.refl _) (.int i) q
theorem au2 {b:Bool} (q:Q' (.bool b) env):Ev B (tC (.bl b)) env Q':=fun σ G H F Q I k=>k _ G H F _ env I (Same.refl _) (.bl b) q
theorem atr {x:Str} (q:Q' (.str x) env):Ev B (tC (.str x)) env Q':=fun σ G H F Q I k=>k _ G H F _ env I (Same.refl _) (.str x) q
def Op2 (r:R2) (x y:PyData) (R:Sl->Prop):Prop:=∀ (G H:Hp) (vx vy:V) (Q:VK),Same G H->Rp G vx x->Rp G vy y->(∀ v G' H' s Fv,Out G H v G' H' s Fv->R s->Q v H')->r vx vy H Q
def OpA (r:List V->Hp->VK->Prop) (ds:List PyData) (R:Sl->Prop):Prop:=∀ (G H:Hp) (vs:List V) (Q:VK),Same G H->Rps G vs ds->(∀ v G' H' s Fv,Out G H v G' H' s Fv->R s->Q v H')->r vs H Q
theorem anl {r:R2} (h:Ev B ta env fun x d=>Ev B tb d fun y b=>Op2 r x y fun s=>QO s b):EvO B (tOp r ta tb) env QO:=fun σ G H F Q I k =>
 h σ G H F _ I fun m i w g x d q z l u=>u σ i w g _ q fun f j H2 F2 y b a c C n =>
  n j H2 m f Q a.gh (l.same c) C fun v A H3 s Fv o p=>k v A H3 F2 Fv s b (a.out o).1 (z.trans (c.trans o.gg)) (a.out o).2 p
theorem au3 {r:R2} (h:Ev B ta env fun x b=>Ev B tb b fun y a=>Op2 r x y fun s=>FQ s fun d=>Q' d a):Ev B (tOp r ta tb) env Q':=ab2 (anl h)
theorem arf (q:QA [] env):EvA B tNil env QA:=fun σ G H F Q I k=>k [] G H F [] env I (Same.refl _) .nil q
theorem ao6 {tr:TA} (h:Ev B ta env fun x c=>EvA B tr c fun xs a=>QA (x :: xs) a):EvA B (aav ta tr) env QA:=fun σ G H F Q I k =>
 h σ G H F _ I fun r g o f x c m p j n=>n σ g o f _ m fun vs i H2 F2 ds a d b q l=>k _ i H2 F2 _ a d (p.trans b) (.cons (j.same b) q) l
theorem ajl {r:List V->Hp->VK->Prop} {t:TA} (h:EvA B t env fun ds a=>OpA r ds fun s=>QO s a):EvO B (tCB r t) env QO:=fun σ G H F Q I k =>
 h σ G H F _ I fun vs d j c ds a b l f i=>i d j vs Q b.gh f fun v m H3 s Fv o g=>k v m H3 c Fv s a (b.out o).1 (l.trans o.gg) (b.out o).2 g
theorem al4 {r:List V->Hp->VK->Prop} {t:TA} (h:EvA B t env fun ds a=>OpA r ds fun s=>FQ s fun d=>Q' d a):Ev B (tCB r t) env Q':=ab2 (ajl h)
theorem ak6 {t:TA} (h:EvA B t env fun ds a=>ds.length<=1000/\QO (.st (.tuple ds)) a):EvO B (tTup t) env QO:=fun σ G H F Q I k =>
 h σ G H F _ I fun vs j l f ds a b g c d=>⟨by rw [c.length];exact aA6 (aee d.1),fun p i=>by
  have o:=Out.newT b.gh i c
  exact k _ _ _ f _ _ a (b.out o).1 (g.trans o.gg) (b.out o).2 d.2⟩
theorem ats {t:TA} (h:EvA B t env fun ds a=>ds.length<=1000/\Q' (.tuple ds) a):Ev B (tTup t) env Q':=ab2 (ak6 h)
theorem ak7 {t:TA} (h:EvA B t env fun ds a=>ds.length<=1000/\QO (.own (OL ds)) a):EvO B (tLst t) env QO:=fun σ G H F Q I k =>
 h σ G H F _ I fun vs j l f ds a b g c d=>⟨by rw [c.length];exact aA6 (aee d.1),fun p i=>by
  have o:=Out.newL b.gh i c
  exact k _ _ _ f _ _ a (b.out o).1 (g.trans o.gg) (b.out o).2 d.2⟩
theorem att {t:TA} (h:EvA B t env fun ds a=>ds.length<=1000/\Q' (.list ds) a):Ev B (tLst t) env Q':=ab2 (ak7 fun σ G H F Q I k=>h σ G H F Q I fun vs G' H' c ds a b g r q=>k vs G' H' c ds a b g r ⟨q.1,adh q.2⟩)
theorem ajm (h:Ev B te env fun x a=>∃ b,x=.bool b/\QT b a):EvT B (aqh te) env QT:=fun σ G H F Q I k =>
 h σ G H F _ I fun v d j c x a i l f g=>by
  obtain ⟨b,e,q⟩:=g
  subst e
  cases f
  exact ⟨b,rfl,k b d j c a i l q⟩
theorem au4 (h:Ev B te env fun x a=>∃ b,x=.bool b/\QT b a):EvT B (tB te) env QT:=ajm h
theorem x_bl {b:Bool} {R:Bool->Prop} (h:R b):∃ c,PyData.bool b=.bool c/\R c:=⟨b,rfl,h⟩
theorem arh {t u:TT} (h:EvT B t env fun c a=>if c=true then EvT B u a QT else QT false a):EvT B (tAnd t u) env QT:=fun σ G H F Q I k =>
 h σ G H F _ I fun b f i d a g j q=>by
  cases b with
  | true=>rw [az7 rfl] at q ⊢;exact q σ f i d Q g fun c m H2 F2 p l n o=>k c m H2 F2 p l (j.trans n) o
  | false=>rw [az8 aw0] at q ⊢;exact k false f i d a g j q
theorem atu {t u:TT} (h:EvT B t env fun c a=>if c=true then QT true a else EvT B u a QT):EvT B (tOr t u) env QT:=fun σ G H F Q I k =>
 h σ G H F _ I fun b f i d a g j q=>by
  cases b with
  | false=>rw [az8 aw0] at q ⊢;exact q σ f i d Q g fun c m H2 F2 p l n o=>k c m H2 F2 p l (j.trans n) o
  | true=>rw [az7 rfl] at q ⊢;exact k true f i d a g j q
theorem ari {t:TT} (h:EvT B t env fun c a=>QT (!c) a):EvT B (tNot t) env QT:=fun σ G H F Q I k =>
 h σ G H F _ I fun b f g d a j i q=>k (!b) f g d a j i q
theorem adp (q:QT true env):EvT B tYes env QT:=fun σ G H F Q I k=>k true G H F env I (Same.refl _) q
theorem arj (h:Ev B ta env fun x a=>∃ b,x=.bool b/\if b=true then Ev B tb a Q' else Q' (.bool false) a):Ev B (aln ta tb) env Q':=fun σ G H F Q I k =>
 h σ G H F _ I fun v f i c x a g j n r=>by
  obtain ⟨b,e,q⟩:=r
  subst e
  cases n
  refine ⟨b,rfl,?_⟩
  cases b with
  | true=>rw [az7 rfl] at q ⊢;exact q σ f i c Q g fun v m H2 F2 d s l o u p=>k v m H2 F2 d s l (j.trans o) u p
  | false=>rw [az8 aw0] at q ⊢;exact k _ f i c _ a g j (.bl false) q
theorem ark (h:Ev B ta env fun x a=>∃ b,x=.bool b/\Q' (.bool (!b)) a):Ev B (alo ta) env Q':=fun σ G H F Q I k =>
 h σ G H F _ I fun v d j c x a i l f g=>by
  obtain ⟨b,e,q⟩:=g
  subst e
  cases f
  exact ⟨b,rfl,k _ d j c _ a i l (.bl _) q⟩
theorem ao7 {r R:R2} {P:TE} (h:Ev B ta env fun x K=>Ev B tb K fun y g=>Op2 r x y fun s=>∃ b,s=.st (.bool b)/\if b=true then Ev B P g fun z e3=>Op2 R y z fun W=>FQ W fun d=>Q' d e3 else Q' (.bool false) g):Ev B (aio r R ta tb P) env Q':=fun σ G H F Q I k =>
 h σ G H F _ I fun v1 X H1 U x K I1 O Z q1=>q1 σ X H1 U _ I1 fun u Y H2 F2 y g w i T q2 =>
  q2 Y H2 v1 u _ w.gh (Z.same i) T fun v S H3 s Fv o z_=>by
   obtain ⟨b,es,c⟩:=z_
   have N:=(w.out o).1
   have l:=o.ok
   subst es
   obtain ⟨l,_⟩:=l
   cases l
   refine ⟨b,rfl,?_⟩
   cases b with
   | false=>rw [az8 aw0] at c ⊢;exact k _ S H3 F2 _ g N (O.trans (i.trans o.gg)) (.bl _) c
   | true =>
    rw [az7 rfl] at c ⊢
    refine c σ S H3 F2 _ N fun v3 G4 H4 D z C E L r4 q4=>q4 G4 H4 u v3 Q E.gh (T.same (o.gg.trans L)) r4 fun p M j s5 m n a=>?_
    have J:=E.out n
    have gg:=O.trans (i.trans (o.gg.trans (L.trans n.gg)))
    cases s5 with
    | st d=>exact k p M j D d C J.1 gg n.ok.1 a
    | own A =>
     obtain ⟨d,f,q⟩:=a
     exact k p _ j D d C (J.1.freeze J.2.fb J.2.fd J.2.fg) (gg.trans (aba J.2.fg)) (f M j p m J.2.ok J.2.fg J.1.gh) q
    | io A=>exact a.elim
    | scr ns=>exact a.elim
end
section
variable {B:Bs} {env:En} {D':VEnds} {t u tb:TS} {te:TE} {g:TG} {c:TT} {QE:En->Prop}
theorem arl (h:EvS B t { D' with nx:=fun e=>EvS B u D' e } env):EvS B (tSeq t u) D' env:=fun σ G H F D I r =>
 h σ G H F { D with nx:=u D } I ⟨fun σ G' H F env a g q=>q σ G' H F D a (r.later g),r.rt,r.bk,r.ct⟩
theorem ajn (h:D'.nx env):EvS B aqb D' env:=fun σ G H F D I r=>r.nx σ G H F env I (Same.refl _) h
theorem arm (h:EvO B te env fun s e=>EvG B g s e D'.nx):EvS B (tAsg te g) D' env:=fun σ G H F D I r =>
 h σ G H F _ I fun v d o c Fv s u l p n m=>m σ d o c v Fv D.nx l n fun a f H2 F2 q b i j=>r.nx a f H2 F2 q b (p.trans i) j
theorem aaz {i:Nat} {s:Sl} (h:QE (env.set i (some s))):EvG B (aax i) s env QE:=fun σ G H F v Fv Q I x k=>k _ G H _ _ (I.store x i) (Same.refl _) h
theorem ajo (h:QE env):EvGs B gNil [] env QE:=fun σ G H F vs Q I x k=>by cases x;exact ⟨rfl,k σ G H F env I (Same.refl _) h⟩
theorem aem {c:TGs} {d:PyData} {ds:List PyData} (h:EvG B g (.st d) env fun e=>EvGs B c ds e QE):EvGs B (adb g c) (d :: ds) env QE:=fun σ G H F vs Q I x k=>by
 cases x with
 | cons r rs =>
  refine ⟨_,_,rfl,h σ G H F _ _ _ I (ado r) fun a l s j v p f q=>q a l s j _ Q p (rs.same f) fun b m H2 F2 u i n o=>k b m H2 F2 u i (f.trans n) o⟩
theorem ak8 {K:Frag} {n:Nat} {a:TGs} {ds:List PyData} (b:ds.length=n) (h:EvGs B a ds env QE):EvG B (gTup K n a) (.st (.tuple ds)) env QE:=fun σ G H F v Fv Q I x k=>by
 obtain ⟨r,_⟩:=x.ok
 cases r with
 | tup ha rs=>exact ⟨_,_,rfl,SqT.of (I.gh _ _ ha),by rw [rs.length,b],h σ G H F _ Q I rs k⟩
theorem agx (h:EvO B te env fun s e=>D'.rt s e):EvS B (tRet te) D' env:=fun σ G H F D I r =>
 h σ G H F _ I fun v b i a Fv s c d j g f=>r.rt σ b i a c v Fv s d j g f
theorem ao8 (h:EvO B te env fun _ e=>D'.nx e):EvS B (aqc te) D' env:=fun σ G H F D I r =>
 h σ G H F _ I fun v b g a Fv s c d i j f=>r.nx σ b g a c d i f
theorem atv (h:EvT B c env fun b e=>if b=true then EvS B t D' e else EvS B u D' e):EvS B (tIfS c t u) D' env:=fun σ G H F D I r =>
 h σ G H F _ I fun b d f a j i g q=>by
  cases b with
  | true=>rw [az7 rfl] at q ⊢;exact q σ d f a D i (r.later g)
  | false=>rw [az8 aw0] at q ⊢;exact q σ d f a D i (r.later g)
def ForV (B:Bs) (g:TG) (tb:TS) (D':VEnds) (ds:List PyData) (e1:En):Prop:=∃ J:Nat->En->Prop,J 0 e1/\(∀ i d e,ds[i]?=some d->J i e->EvG B g (.st d) e fun e2=>EvS B tb { D' with nx:=J (i+1),ct:=J (i+1),bk:=D'.nx } e2)/\∀ e,J ds.length e->D'.nx e
theorem arn {M:TI} (h:EvI B M env fun ds A=>ForV B g tb D' ds A):EvS B (tFor M g tb) D' env:=fun σ G H F D I r =>
 h σ G H F _ I fun J z H1 P ds A X C it U=>by
  obtain ⟨N,R,S,jd⟩:=U
  refine ⟨fun i m σ H=>m=ds.length - i/\i<=ds.length/\∃ b F2 p,VI B b H σ p F2/\Same z b/\N i p,⟨ds.length,by simp,aA1 _,z,P,A,X,Same.refl _,R⟩,?_⟩
  rintro i m σ H ⟨rfl,hi,b,F2,p,n,q,K⟩
  by_cases hlt:i < ds.length
  ·refine .inr ⟨it.go i b H q n.gh hlt,fun σ H=>∃ u Y L,VI B u H σ L Y/\Same z u/\N (i+1) L,fun a0 H' h'=>⟨ds.length - (i+1),by omega,rfl,hlt,h'⟩,fun x H' y=>?_⟩
   obtain ⟨u,o⟩:=it.yld i b H x H' _ q n.gh n.ft (av0 hlt) y
   have O:=n.out o
   refine S i _ p (av0 hlt) K σ u H' F2 x _ _ O.1 O.2 fun w G4 W Q e4 T g4 Z=>?_
   have gg:=q.trans (o.gg.trans g4)
   refine Z w G4 W Q _ T ⟨fun a j s c l f d v=>⟨j,c,l,f,gg.trans d,v⟩,fun a j s c l v5 E s5 f d=>r.rt a j s c l v5 E s5 f (C.trans (gg.trans d)),fun a j s c l f d=>r.nx a j s c l f (C.trans (gg.trans d)),fun a j s c l f d v=>⟨j,c,l,f,gg.trans d,v⟩⟩
  ·have e:i=ds.length:=by omega
   subst e
   exact .inl ⟨it.stop _ b H q n.gh rfl,r.nx σ b H F2 p n (C.trans q) (jd p K)⟩
variable {QI:List PyData->En->Prop}
theorem ao9 {K:Frag} (h:Ev B te env fun d e=>∃ ds,d=.list ds/\QI ds e):EvI B (alq K te) env QI:=fun σ G H F R I k =>
 h σ G H F _ I fun v f r c d m b s j l=>by
  obtain ⟨ds,q,o⟩:=l
  subst q
  cases j with
  | @lst a vs ds ha rs =>
   refine ⟨a,rfl,⟨vs,SqL.of (b.gh _ _ ha)⟩,k _ f r c ds m b s ⟨fun i G' H' g h hi=>?_,fun i G' H' g h hi=>?_,fun i G' H' x H'' d g h ft hd y=>?_⟩ o⟩
   ·have:i < vs.length:=by rw [rs.length];exact hi
    exact ⟨vs,vs[i],SqL.of (h _ _ (g _ _ ha)),av0 this⟩
   ·exact ⟨vs,SqL.of (h _ _ (g _ _ ha)),by rw [rs.length];exact Nat.le_of_eq hi.symm⟩
   ·obtain ⟨e,y⟩:=y
    subst e
    obtain ⟨v,n,p⟩:=rs.get hd
    have:=y vs (SqL.of (h _ _ (g _ _ ha)))
    rw [n] at this
    cases this
    exact ⟨G',Out.refl h (p.same g)⟩
theorem atw {ds:List PyData} {R:List PyData->Prop} (h:R ds):∃ xs,PyData.list ds=.list xs/\R xs:=⟨ds,rfl,h⟩
def rngD (lo:Int) (n:Nat):List PyData:=(List.range n).map fun (i:Nat) => .int (lo+(i:Int))
theorem acf {lo:Int} {n:Nat}:(rngD lo n).length=n:=by simp [rngD]
theorem afi {lo:Int} {n i:Nat} {d:PyData} (h:(rngD lo n)[i]?=some d):i < n/\d=.int (lo+(i:Int)):=by
 unfold rngD at h
 rw [av5] at h
 have hi:i < n:=by
  have:=(av1 (l:=(List.range n).map fun (i:Nat)=>PyData.int (lo+(i:Int)))).mp (by rw [av5];exact h)
  obtain ⟨q,_⟩:=this
  simpa using q
 rw [av0 (by simpa using hi)] at h
 simp at h
 exact ⟨hi,h.symm⟩
theorem anm {G:Hp} {lo:Int} {n:Nat}:ItOk G (Itr lo n) (rngD lo n):=by
 refine ⟨fun i G' H' g h hi=>?_,fun i G' H' g h hi=>?_,fun i G' H' x H'' d g h ft hd y=>?_⟩
 ·rw [acf] at hi;exact hi
 ·rw [acf] at hi;exact Nat.le_of_eq hi.symm
 ·obtain ⟨e,y⟩:=y
  subst e y
  rw [(afi hd).2]
  exact ⟨G',Out.refl h (.int _)⟩
def aif (ds:List PyData) (R:List PyData->Prop):Prop:=∃ j:Int,ds=[.int j]/\-(2 ^ 62)<=j/\j < 2 ^ 62/\R (rngD 0 j.toNat)
def aig (ds:List PyData) (R:List PyData->Prop):Prop:=∃ i j:Int,ds=[.int i,.int j]/\(-(2 ^ 62)<=i/\i < 2 ^ 62/\-(2 ^ 62)<=j/\j < 2 ^ 62)/\R (rngD i (j - i).toNat)
theorem apa {a:TA} (h:EvA B a env fun ds e=>aif ds fun xs=>QI xs e):EvI B (aqd a) env QI:=fun σ G H F R I k =>
 h σ G H F _ I fun vs c o b ds i l p d g=>by
  obtain ⟨j,n,q,f,m⟩:=g
  subst n
  obtain rfl:vs=[V.int j]:=Rps.ints_inv (ns:=[j]) d
  exact ⟨j,rfl,q,f,k _ c o b _ i l p anm m⟩
theorem apb {a:TA} (h:EvA B a env fun ds e=>aig ds fun xs=>QI xs e):EvI B (aqe a) env QI:=fun σ G H F R I k =>
 h σ G H F _ I fun vs c o b ds g l p d f=>by
  obtain ⟨i,j,n,q,m⟩:=f
  subst n
  obtain rfl:vs=[V.int i,V.int j]:=Rps.ints_inv (ns:=[i,j]) d
  exact ⟨i,j,rfl,q,k _ c o b _ g l p anm m⟩
theorem atx {j:Int} {R:List PyData->Prop} (a : -4611686018427387904<=j) (b:j < 4611686018427387904) (h:R (rngD 0 j.toNat)):aif [.int j] R:=⟨j,rfl,by omega,by omega,h⟩
theorem aty {a b:Int} {R:List PyData->Prop} (c : -4611686018427387904<=a/\a < 4611686018427387904/\-4611686018427387904<=b/\b < 4611686018427387904) (h:R (rngD a (b - a).toNat)):aig [.int a,.int b] R:=⟨a,b,rfl,by omega,h⟩
theorem ad1 {lo:Int} {n:Nat} (J:Nat->En->Prop) (a:J 0 env) (c:∀ i e,i < n->J i e->EvG B g (.st (.int (lo+(i:Int)))) e fun b=>EvS B tb { D' with nx:=J (i+1),ct:=J (i+1),bk:=D'.nx } b) (hd:∀ e,J n e->D'.nx e):ForV B g tb D' (rngD lo n) env :=
 ⟨J,a,fun i d e h j=>by obtain ⟨hi,rfl⟩:=afi h;exact c i e hi j,fun e j=>hd e (by rw [acf] at j;exact j)⟩
end
theorem apc {B:Bs} {a b:TS} {D':VEnds} {env:En} (h:∀ c:TS,c=b->EvS B a { D' with nx:=fun e=>EvS B c D' e } env):EvS B (tSeq a b) D' env:=arl (h b rfl)
theorem aro {B:Bs} {c b:TS} {D':VEnds} {env:En} (e:c=b) (h:EvS B b D' env):EvS B c D' env:=by rw [e];exact h
@[elab_as_elim] theorem exS1 {c:Type} {σ:Type} {f : c->σ} {p : c->Prop} {a : σ->Prop} (s : σ) (h:∃ b,s=f b/\p b) (k:∀ b,p b->a (f b)):a s:=by
 obtain ⟨b,e,h⟩:=h
 rw [e];exact k _ h
@[elab_as_elim] theorem exS2 {g:Type} {d:Type} {σ:Type} {f : g->d->σ} {p : g->d->Prop} {a : σ->Prop} (s : σ) (h:∃ b c,s=f b c/\p b c) (k:∀ b c,p b c->a (f b c)):a s:=by
 obtain ⟨b,c,e,h⟩:=h
 rw [e];exact k _ _ h
@[elab_as_elim] theorem exS3 {j:Type} {g:Type} {i:Type} {σ:Type} {f : j->g->i->σ} {p : j->g->i->Prop} {a : σ->Prop} (s : σ) (h:∃ b c d,s=f b c d/\p b c d) (k:∀ b c d,p b c d->a (f b c d)):a s:=by
 obtain ⟨b,c,d,e,h⟩:=h
 rw [e];exact k _ _ _ h
@[elab_as_elim] theorem exS4 {l:Type} {j:Type} {m:Type} {i:Type} {σ:Type} {f : l->j->m->i->σ} {p : l->j->m->i->Prop} {a : σ->Prop} (s : σ) (h:∃ b c g d,s=f b c g d/\p b c g d) (k:∀ b c g d,p b c g d->a (f b c g d)):a s:=by
 obtain ⟨b,c,g,d,e,h⟩:=h
 rw [e];exact k _ _ _ _ h
@[elab_as_elim] theorem exS7 {n:Type} {q:Type} {r:Type} {m:Type} {o:Type} {v:Type} {u:Type} {σ:Type} {f : n->q->r->m->o->v->u->σ} {p : n->q->r->m->o->v->u->Prop} {a : σ->Prop} (s : σ) (h:∃ g i j b c l d,s=f g i j b c l d/\p g i j b c l d) (k:∀ g i j b c l d,p g i j b c l d->a (f g i j b c l d)):a s:=by
 obtain ⟨g,i,j,b,c,l,d,e,h⟩:=h
 rw [e];exact k _ _ _ _ _ _ _ h
theorem big {n:Nat} (h:n<=1000000):n < sizeLine:=Nat.lt_of_le_of_lt h (by decide)
section
variable {B B1:Bs} {G H G' H':Hp} {σ σI:St} {env envI:En} {F F':Nat->Addr->Prop} {v:V} {s:Sl} {Fv:Addr->Prop} {inv:Nat->Option Nat}
open Classical in
def acs (H:Hp) (F:Nat->Addr->Prop) (inv:Nat->Option Nat):Hp:=fun a=>if ∃ i j,inv i=some j/\F i a then none else H a
theorem al5 {i j:Nat} {a:Addr} (h:inv i=some j) (f:F i a):acs H F inv a=none:=az7 ⟨i,j,h,f⟩
theorem ajp {a:Addr} (h:∀ i j,inv i=some j->¬ F i a):acs H F inv a=H a:=az8 fun ⟨i,j,x,y⟩=>h i j x y
theorem af1:Same (acs H F inv) H:=fun a o e=>by
 unfold acs at e
 split at e
 ·cases e
 ·exact e
theorem VI.enter (I:VI B G H σ env F) (inj:∀ i b j,inv i=some j->inv b=some j->i=b) (ln : σI.length=envI.length)
  (sl:∀ j s,envI[j]?=some (some s)->∃ v,σI[j]?=some (some v)/\((∃ d,s=.st d/\Rp G v d/\∀ i,inv i ≠ some j)\/(∃ ns a,s=.scr ns/\v=.ref a/\SqL B.K G a (ns.map V.int)/\∀ i,inv i ≠ some j) ∨
   ∃ i A,inv i=some j/\s=.io A/\σ[i]?=some (some v)/\(env[i]?=some (some (.own A))\/env[i]?=some (some (.io A))))) :
  VI ⟨B.K,G,H,acs H F inv,σI,fun j a=>∃ i,inv i=some j/\F i a⟩ G H σI envI (fun j a=>∃ i,inv i=some j/\F i a) where
 gh:=I.gh
 g0:=Same.refl _
 gn:=fun a o e => .inl e
 rs:=af1
 rb:=af1
 bh:=fun a o e=>⟨o,e⟩
 fg:=fun j a ⟨i,_,z⟩=>I.fg i a z
 fr:=fun j a ⟨i,h,z⟩=>al5 h z
 fd:=fun j k a ⟨i,h,z⟩ ⟨b,h',w⟩=>by
  have:=I.fd i b a z w
  subst this
  rw [h] at h';cases h';rfl
 fo:=fun j a ⟨i,h,z⟩=>I.fo i a z
 sl:=fun j s e=>by
  obtain ⟨v,l,q⟩:=sl j s e
  refine ⟨v,l,?_⟩
  rcases q with ⟨d,rfl,r,n⟩ | ⟨ns,a,rfl,rfl,q,n⟩ | ⟨i,A,hi,rfl,m,c⟩
  ·exact ⟨r,fun a ⟨i,h,_⟩=>n i h⟩
  ·exact ⟨⟨a,rfl,q⟩,fun a ⟨i,h,_⟩=>n i h⟩
  ·refine ⟨?_,fun a z => .inl z,l⟩
   have u:(fun a=>∃ b,inv b=some j/\F b a)=F i:=by
    funext a
    exact propext ⟨fun ⟨b,h,z⟩=>by rw [inj i b j hi h];exact z,fun z=>⟨i,hi,z⟩⟩
   show A.P G H v (fun a=>∃ b,inv b=some j/\F b a)
   rw [u]
   rcases c with c | c
   ·obtain ⟨p,f,g⟩:=I.sl i _ c
    rw [m] at f;cases f;exact g.1
   ·obtain ⟨p,f,g⟩:=I.sl i _ c
    rw [m] at f;cases f;exact g.1
 ln:=ln
 ft:=I.ft
theorem VI.leave (I:VI B G H σ env F) (inj:∀ i r j,inv i=some j->inv r=some j->i=r) (u:B1.G=G) (p:B1.H=H) (M:∀ a o,H a=some o->(∀ i j,inv i=some j->¬ F i a)->B1.R a=some o)
  (N:∀ i j,inv i=some j->∀ a,B1.F j a->F i a) (L:∀ i j,inv i=some j->B1.S[j]? = σ[i]?) (J:VI B1 G' H' σI envI F') (io:∀ i j,inv i=some j->∃ A',envI[j]?=some (some (.io A'))) {env2:En} (E:env2.length=env.length)
  (D:∀ i s,env2[i]?=some (some s)->(inv i=none/\env[i]?=some (some s))\/∃ j A A',inv i=some j/\envI[j]?=some (some (.io A'))/\((env[i]?=some (some (.own A))/\s=.own A')\/(env[i]?=some (some (.io A))/\s=.io A'))) :
  VI B G' H' σ env2 (fun i a=>match inv i with | some j=>F' j a | none=>F i a):=by
 have c:∀ a o,G' a=some o->G a=some o\/H a=none:=fun a o e=>by
  have:=J.gn a o e
  rw [u,p] at this;exact this
 have f:∀ i j a,inv i=some j->F' j a->F i a\/H a=none:=fun i j a hi z=>by
  obtain ⟨A',e⟩:=io i j hi
  obtain ⟨v,_,q⟩:=J.sl j _ e
  rcases q.2.1 a z with y | y
  ·exact .inl (N i j hi a y)
  ·rw [p] at y;exact .inr y
 have kp:∀ a o,H a=some o->(∀ i j,inv i=some j->¬ F i a)->H' a=some o:=fun a o e n=>J.rs a o (M a o e n)
 refine ⟨J.gh,I.g0.trans (u ▸ J.g0),fun a o e=>?_,fun a o e=>?_,I.rb,fun a o e=>?_,fun i a z=>?_,fun i a z=>?_,fun i k a y z=>?_,fun i a z=>?_,fun i t e=>?_,by rw [E];exact I.ln,J.ft⟩
 ·rcases c a o e with e | e
  ·exact I.gn a o e
  ·exact .inr (I.no_b e)
 ·refine kp a o (I.rs a o e) fun i j _ z=>?_
  rw [I.fr i a z] at e;cases e
 ·obtain ⟨K,d⟩:=I.bh a o e
  exact J.bh a K (by rw [p];exact d)
 ·cases hi:inv i with
  | some j=>rw [hi] at z;exact J.fg j a z
  | none =>
   rw [hi] at z
   cases e:G' a with
   | none=>rfl
   | some o =>
    rcases c a o e with e | e
    ·rw [I.fg i a z] at e;cases e
    ·exact absurd z (I.no_f e i)
 ·cases hi:inv i with
  | some j =>
   rw [hi] at z
   rcases f i j a hi z with y | y
   ·exact I.fr i a y
   ·exact I.no_r y
  | none=>rw [hi] at z;exact I.fr i a z
 ·cases hi:inv i with
  | some j =>
   rw [hi] at y
   cases hk:inv k with
   | some l =>
    rw [hk] at z
    have:=J.fd j l a y z
    subst this
    exact inj i k j hi hk
   | none =>
    rw [hk] at z
    rcases f i j a hi y with x | x
    ·exact I.fd i k a x z
    ·exact absurd z (I.no_f x k)
  | none =>
   rw [hi] at y
   cases hk:inv k with
   | some l =>
    rw [hk] at z
    rcases f k l a hk z with x | x
    ·exact I.fd i k a y x
    ·exact absurd y (I.no_f x i)
   | none=>rw [hk] at z;exact I.fd i k a y z
 ·cases hi:inv i with
  | some j=>rw [hi] at z;exact J.fo j a z
  | none =>
   rw [hi] at z
   obtain ⟨o,e⟩:=I.fo i a z
   exact J.bh a o (by rw [p];exact e)
 ·rcases D i t e with ⟨hi,d⟩ | ⟨j,A,A',hi,d,h⟩
  ·obtain ⟨v,C,q⟩:=I.sl i t d
   refine ⟨v,C,?_⟩
   simp only [hi]
   refine q.mono (u ▸ J.g0) fun a o z y=>kp a o y fun r Q g P=>?_
   have:=I.fd i r a z P
   subst this
   rw [hi] at g;cases g
  ·obtain ⟨v,C,q⟩:=J.sl j _ d
   have w : σ[i]?=some (some v):=by rw [← L i j hi];exact q.2.2
   refine ⟨v,w,?_⟩
   simp only [hi]
   rcases h with ⟨h,rfl⟩ | ⟨h,rfl⟩
   ·obtain ⟨O,_,m⟩:=I.sl i _ h
    refine ⟨q.1,fun a z=>?_⟩
    rcases f i j a hi z with y | y
    ·exact m.2 a y
    ·exact I.no_b y
   ·obtain ⟨O,b,m⟩:=I.sl i _ h
    rw [w] at b;cases b
    refine ⟨q.1,fun a z=>?_,m.2.2⟩
    rcases f i j a hi z with y | y
    ·exact m.2.1 a y
    ·exact .inr (I.no_b y)
end
abbrev VP:=List Sl->(Sl->Prop)->Prop
def noF:Nat->Addr->Prop:=fun _ _=>False
def bsP (K:Frag) (G H:Hp) (vs:List V):Bs:=⟨K,G,H,H,vs.map some,noF⟩
def aqk (K:Frag) (G:Hp):V->Sl->Prop
 | v,.st d=>Rp G v d
 | v,.scr ns=>∃ a,v=.ref a/\SqL K G a (ns.map V.int)
 | _,_=>False
inductive ArgsOk (K:Frag) (G:Hp):List V->List Sl->Prop
 | nil:ArgsOk K G [] []
 | cons {v:V} {s:Sl} {vs:List V} {ss:List Sl}:aqk K G v s->ArgsOk K G vs ss->ArgsOk K G (v :: vs) (s :: ss)
theorem ArgsOk.length {K:Frag} {G:Hp}:∀ {vs:List V} {ss:List Sl},ArgsOk K G vs ss->vs.length=ss.length
 | _,_,.nil=>rfl
 | _,_,.cons _ t=>by simp [ArgsOk.length t]
theorem ArgsOk.get {K:Frag} {G:Hp}:∀ {vs:List V} {ss:List Sl} {i:Nat} {s:Sl},ArgsOk K G vs ss->ss[i]?=some s->∃ v,vs[i]?=some v/\aqk K G v s
 | _,_,_,_,.nil,e=>by simp at e
 | _,_,0,_,.cons r _,e=>by simp at e;subst e;exact ⟨_,rfl,r⟩
 | _,_,i+1,s,.cons _ t,e=>by
  obtain ⟨u,a,b⟩:=ArgsOk.get (i:=i) (s:=s) t (by simpa using e)
  exact ⟨u,by simpa using a,b⟩
theorem ArgsOk.of {K:Frag} {G:Hp}:∀ {vs:List V} {ds:List PyData},Rps G vs ds->ArgsOk K G vs (ds.map Sl.st)
 | _,_,.nil => .nil
 | _,_,.cons r t => .cons r (ArgsOk.of t)
theorem arp {α:Type} {xs:List α} {n i:Nat} {s : α} (e:(xs.map some ++ List.replicate n none)[i]?=some (some s)):xs[i]?=some s:=by
 by_cases h:i < xs.length
 ·rw [ax3 (by simpa using h),av5] at e
  rw [av0 h] at e ⊢
  simpa using e
 ·rw [ax8 (by simpa using h),List.getElem?_replicate] at e
  split at e <;> cases e
theorem arq {α:Type} {xs:List α} {n i:Nat} {s : α} (e:xs[i]?=some s):(xs.map some ++ List.replicate n none)[i]?=some (some s):=by
 have h:i < xs.length:=(av1.mp e).1
 rw [ax3 (by simpa using h),av5,e];rfl
def spP (K:Frag) (f:VP):Sp:=fun vs H Q _=>∃ G ss Q',Same G H/\FT G H/\ArgsOk K G vs ss/\f ss Q'/\∀ s,Q' s->∀ v G' H' Fv,Out G H v G' H' s Fv->Q v H'
theorem abh {K:Frag} {f:VP} {l:TS} {N:List Str} {vs:List V} {H:Hp} {Q:VK} {E:XK} (h:spP K f vs H Q E)
  (hb:∀ ss b,f ss b->∀ B,B.K=K->EvS B l { nx:=fun _=>b (.st .none),rt:=fun s _=>b s } (ss.map some ++ List.replicate (N.length - ss.length) none)):l { nx:=fun _ H'=>Q .non H',rt:=Q } (L2.start N vs) H:=by
 obtain ⟨G,ss,b,gh,ft,m,hf,c⟩:=h
 have fin:∀ {σ G' H' F env v Fv s},VI (bsP K G H vs) G' H' σ env F->RsX (bsP K G H vs) G' H' v Fv s F->Out G H v G' H' s Fv:=fun I r =>
  ⟨I.g0,I.gh,I.rs,I.gn,r.fb,r.fg,r.fo,r.ok,fun _=>I.ft⟩
 refine hb ss _ hf (bsP K G H vs) rfl (L2.start N vs) G H noF _ ?_ ⟨fun σ G' H' F env I g q=>c _ q _ _ _ _ (fin I (ado .non)),fun σ G' H' F env v Fv s I g r q=>c _ q v G' H' Fv (fin I r),fun _ _ _ _ _ _ _ q=>q,fun _ _ _ _ _ _ _ q=>q⟩
 refine ⟨gh,Same.refl _,fun a o e => .inl e,Same.refl _,Same.refl _,fun a o e=>⟨o,e⟩,fun i a z=>z.elim,fun i a z=>z.elim,fun i j a z=>z.elim,fun i a z=>z.elim,fun i s e=>?_,?_,ft⟩
 ·obtain ⟨v,n,q⟩:=m.get (arp e)
  refine ⟨v,by unfold L2.start;exact arq n,?_⟩
  cases s with
  | st d=>exact ⟨q,fun a z=>z⟩
  | scr ns=>exact ⟨q,fun a z=>z⟩
  | own A=>exact q.elim
  | io A=>exact q.elim
 ·unfold L2.start;simp [m.length]
section
variable {B:Bs} {env:En} {Q':PyData->En->Prop} {QO:Sl->En->Prop} {K:Frag} {E:XK}
theorem ahh {f:VP} {t:TA} (h:EvA B t env fun ds b=>f (ds.map Sl.st) fun s=>QO s b):EvO B (acb (spP K f) [] E t) env QO:=fun σ G H F Q I k=>by
 unfold acb
 simp only [az3]
 exact h σ G H F _ I fun vs d l c ds b a j g i=>⟨d,_,_,a.gh,a.ft,ArgsOk.of g,i,fun s q v G' H' Fv o=>k v G' H' c Fv s b (a.out o).1 (j.trans o.gg) (a.out o).2 q⟩
theorem apd {f:VP} {t:TA} (h:EvA B t env fun ds a=>f (ds.map Sl.st) fun s=>FQ s fun d=>Q' d a):Ev B (acb (spP K f) [] E t) env Q':=ab2 (ahh h)
theorem ahi {f:VP} {t:TA} {i:Nat} {ns:List Int} (e:env[i]?=some (some (.scr ns))) (m:B.K=K) (h:EvA B t env fun ds c=>f (.scr ns :: ds.map Sl.st) fun s=>QO s c):EvO B (acb (spP K f) [] E (aav (tVar i) t)) env QO:=fun σ G H F Q I k=>by
 subst m
 unfold acb
 simp only [az3]
 obtain ⟨w,r,⟨a,u,n⟩,_⟩:=I.sl i _ e
 refine ⟨w,r,h σ G H F _ I fun vs j x g ds c b d l p=>⟨j,_,_,b.gh,b.ft,.cons (s:=.scr ns) ⟨a,u,d.seq n⟩ (ArgsOk.of l),p,fun s q v G' H' Fv o=>k v G' H' g Fv s c (b.out o).1 (d.trans o.gg) (b.out o).2 q⟩⟩
theorem ape {f:VP} {t:TA} {i:Nat} {ns:List Int} (e:env[i]?=some (some (.scr ns))) (b:B.K=K) (h:EvA B t env fun ds a=>f (.scr ns :: ds.map Sl.st) fun s=>FQ s fun d=>Q' d a):Ev B (acb (spP K f) [] E (aav (tVar i) t)) env Q':=ab2 (ahi e b h)
def reS:Sl->Own->Sl
 | .io _,A => .io A
 | _,A => .own A
end
def af2:Option Sl->Option Sl
 | some (.own A)=>some (.io A)
 | s=>s
def aal (src:List (Option Nat)) (env:En):En:=src.map fun o=>match o with | some j=>af2 ((env[j]?).getD none) | none=>none
def isIo:Option Sl->Bool
 | some (.io _)=>true
 | _=>false
def idxE (i:Nat):List (Option Nat)->Nat->Option Nat
 | [],_=>none
 | o :: r,k=>if o=some i then some k else idxE i r (k+1)
def ae1 (src:List (Option Nat)) (e:En) (i:Nat) (s:Option Sl):Option Sl :=
 match s with
 | some (.own A)=>(match idxE i src 0 with | some j=>(match e[j]? with | some (some (.io A'))=>some (.own A') | _=>none) | none=>some (.own A))
 | some (.io A)=>(match idxE i src 0 with | some j=>(match e[j]? with | some (some (.io A'))=>some (.io A') | _=>none) | none=>some (.io A))
 | s=>s
def adq (src:List (Option Nat)) (e:En):Nat->En->En
 | _,[]=>[]
 | k,s :: r=>ae1 src e k s :: adq src e (k+1) r
def af3 (src:List (Option Nat)) (e1 e:En):En:=adq src e 0 e1
theorem ad2 (src:List (Option Nat)) (e:En):∀ (k:Nat) (l:En) (i:Nat),(adq src e k l)[i]?=(l[i]?).map (ae1 src e (k+i))
 | _,[],i=>by simp [adq]
 | k,s :: r,0=>by simp [adq]
 | k,s :: r,i+1=>by
  have:=ad2 src e (k+1) r i
  simp only [adq,List.getElem?_cons_succ,this]
  rw [show k+1+i=k+(i+1) by omega]
theorem adi {i:Nat}:∀ {src:List (Option Nat)} {k j:Nat},idxE i src k=some j->k<=j/\src[j - k]?=some (some i)
 | [],_,_,h=>by cases h
 | o :: r,k,j,h=>by
  unfold idxE at h
  by_cases e:o=some i
  ·rw [az7 e] at h;cases h
   exact ⟨av6 _,by simp [e]⟩
  ·rw [az8 e] at h
   obtain ⟨b,a⟩:=adi h
   refine ⟨by omega,?_⟩
   rw [show j - k=(j - (k+1))+1 by omega]
   simpa using a
theorem ahj {i:Nat}:∀ {src:List (Option Nat)} {k:Nat},idxE i src k=none->∀ j:Nat,src[j]? ≠ some (some i)
 | [],_,_,j=>by simp
 | o :: r,k,h,j=>by
  unfold idxE at h
  by_cases e:o=some i
  ·rw [az7 e] at h;cases h
  ·rw [az8 e] at h
   cases j with
   | zero=>simpa using e
   | succ j=>simpa using ahj h j
theorem ajq:∀ (src:List (Option Nat)),(src.filterMap id).Nodup->∀ j a i:Nat,src[j]?=some (some i)->src[a]?=some (some i)->j=a
 | [],_,j,_,_,h,_=>by simp at h
 | none :: r,h,j,a,i,h1,h2=>by
  cases j with
  | zero=>simp at h1
  | succ j =>
   cases a with
   | zero=>simp at h2
   | succ a=>rw [ajq r (by simpa using h) j a i (by simpa using h1) (by simpa using h2)]
 | some x :: r,h,j,a,i,h1,h2=>by
  have h':=aC1.mp (show (x :: r.filterMap id).Nodup by simpa using h)
  have c:∀ k,r[k]?=some (some x)->False:=fun k d=>h'.1 (List.mem_filterMap.mpr ⟨some x,av2 d,rfl⟩)
  cases j with
  | zero =>
   have b:x=i:=by simpa using h1
   subst b
   cases a with
   | zero=>rfl
   | succ a=>exact (c a (by simpa using h2)).elim
  | succ j =>
   cases a with
   | zero =>
    have b:x=i:=by simpa using h2
    subst b
    exact (c j (by simpa using h1)).elim
   | succ a=>rw [ajq r h'.2 j a i (by simpa using h1) (by simpa using h2)]
def ae2:Option Sl->Bool
 | some (.own _)=>true
 | _=>false
def ioLe:En->En->Prop
 | a :: r,b :: s=>(isIo a=isIo b/\ae2 b=false)/\ioLe r s
 | [],[]=>True
 | _,_=>False
theorem ajr {x:Option Sl} (h:isIo x=true):∃ A,x=some (.io A):=by
 cases x with
 | none=>simp [isIo] at h
 | some y =>
  cases y with
  | io A=>exact ⟨A,rfl⟩
  | _=>simp [isIo] at h
theorem ioLe.get:∀ {a b:En} {j:Nat} {x:Option Sl},ioLe a b->a[j]?=some x->isIo x=true->∃ A,b[j]?=some (some (.io A))
 | [],_,_,_,_,e,_=>by simp at e
 | x :: r,[],_,_,h,_,_=>h.elim
 | x :: r,y :: s,0,z,h,e,p=>by
  simp at e;subst e
  have:=h.1.1
  rw [p] at this
  obtain ⟨A,q⟩:=ajr this.symm
  exact ⟨A,by simp [q]⟩
 | x :: r,y :: s,j+1,z,h,e,p=>by
  obtain ⟨A,q⟩:=ioLe.get (j:=j) h.2 (by simpa using e) p
  exact ⟨A,by simpa using q⟩
theorem ioLe.got:∀ {a b:En} {j:Nat} {x:Option Sl},ioLe a b->b[j]?=some x->(isIo x=true->∃ A,a[j]?=some (some (.io A)))/\ae2 x=false
 | [],[],_,_,_,e=>by simp at e
 | [],_ :: _,_,_,h,e=>h.elim
 | x :: r,[],_,_,h,_=>h.elim
 | x :: r,y :: s,0,z,h,e=>by
  simp at e;subst e
  refine ⟨fun p=>?_,h.1.2⟩
  have:=h.1.1
  rw [p] at this
  obtain ⟨A,q⟩:=ajr this
  exact ⟨A,by simp [q]⟩
 | x :: r,y :: s,j+1,z,h,e=>by
  obtain ⟨p,q⟩:=ioLe.got (j:=j) (x:=z) h.2 (by simpa using e)
  exact ⟨fun t=>by obtain ⟨A,u⟩:=p t;exact ⟨A,by simpa using u⟩,q⟩
section
variable {B:Bs} {G H:Hp} {σ:St} {env:En} {F:Nat->Addr->Prop}
theorem VI.aside (I:VI B G H σ env F) {p:Addr} {o:HO} (b:∀ xs,o ≠ .tup xs) (c:G p=none) (hf:∀ j,¬ F j p) (hb:B.H p=none):VI B G (upd H p o) σ env F where
 gh:=fun a u e=>by rw [aac (aah e c)];exact I.gh a u e
 g0:=I.g0
 gn:=I.gn
 rs:=fun a u e=>by rw [aac (aah e (I.b_r hb))];exact I.rs a u e
 rb:=I.rb
 bh:=fun a u e=>by rw [aac (aah e hb)];exact I.bh a u e
 fg:=I.fg
 fr:=I.fr
 fd:=I.fd
 fo:=fun j a z=>by rw [aac (fun e:a=p=>hf j (e ▸ z))];exact I.fo j a z
 sl:=fun i s e=>by
  obtain ⟨v,d,q⟩:=I.sl i s e
  exact ⟨v,d,q.mono (Same.refl _) fun a u z y=>by rw [aac (fun e:a=p=>hf i (e ▸ z))];exact y⟩
 ln:=I.ln
 ft:=fun a f e=>by
  by_cases z:a=p
  ·subst z;rw [aag] at e;exact absurd (ax6 e) (b _)
  ·rw [aac z] at e;exact I.ft a f e
def LcV (K:Frag) (src:List (Option Nat)) (g:TG) (tif:TT) (te:TE) (ds:List PyData) (e1:En) (R:List PyData->En->Prop):Prop:=∃ J:Nat->List PyData->En->Prop,J 0 [] (aal src e1)/\(∀ i ys e,J i ys e->ioLe (aal src e1) e) /\
 (∀ i d ys e,ds[i]?=some d->J i ys e->∀ B':Bs,B'.K=K->EvG B' g (.st d) e fun e2=>EvT B' tif e2 fun b e3=>if b=true then Ev B' te e3 fun y e4=>ys.length<=999999/\J (i+1) (ys ++ [y]) e4 else J (i+1) ys e3)/\∀ ys e,J ds.length ys e->R ys (af3 src e1 e)
theorem ahk {src:List (Option Nat)} {j:Nat} {s:Sl} (h:(aal src env)[j]?=some (some s)):∃ i t,src[j]?=some (some i)/\env[i]?=some (some t)/\af2 (some t)=some s:=by
 unfold aal at h
 rw [av5] at h
 cases e:src[j]? with
 | none=>rw [e] at h;cases h
 | some o =>
  rw [e] at h
  cases o with
  | none=>cases h
  | some i =>
   simp only [aB9,Option.some.injEq] at h
   cases e2:env[i]? with
   | none=>rw [e2] at h;cases h
   | some o2 =>
    rw [e2] at h
    cases o2 with
    | none=>cases h
    | some t=>exact ⟨i,t,rfl,e2,h⟩
theorem apf {src:List (Option Nat)} {i j:Nat} {v:V} (h:src[j]?=some (some i)) (a : σ[i]?=some (some v)):(pick src σ)[j]?=some (some v):=by
 unfold pick
 rw [av5,h]
 simp [a]
theorem ann {src:List (Option Nat)} {wi:TI} {g:TG} {b1:TT} {te:TE} {QO:Sl->En->Prop} (nd:(src.filterMap id).Nodup) (h:EvI B wi env fun ds X=>LcV B.K src g b1 te ds X fun ys U=>QO (.own (OL ys)) U):EvO B (tLC src wi g b1 te) env QO:=fun σ G H F Q I k=>by
 refine h σ G H F _ I fun J G1 H1 F1 ds X I1 g1 it ⟨Jv,j0,a7,js,jd⟩ p R=>?_
 let M:Nat->Bool:=fun i=>match X[i]? with | some (some (.own _))=>true | some (some (.io _))=>true | _=>false
 let inv:Nat->Option Nat:=fun i=>if M i=true then idxE i src 0 else none
 have E:∀ i j,inv i=some j->src[j]?=some (some i)/\M i=true:=fun i j hi=>by
  by_cases hm:M i=true
  ·have f:idxE i src 0=some j:=by simpa [inv,hm] using hi
   have:=(adi f).2
   exact ⟨by simpa using this,hm⟩
  ·simp [inv,hm] at hi
 have a3:∀ i j,src[j]?=some (some i)->M i=true->inv i=some j:=fun i j Y hm=>by
  have e0:inv i=idxE i src 0:=by simp [inv,hm]
  cases e:idxE i src 0 with
  | none=>exact absurd Y (ahj e j)
  | some j' =>
   have:=(adi e).2
   rw [e0,e,ajq src nd j j' i Y (by simpa using this)]
 have inj:∀ i c j,inv i=some j->inv c=some j->i=c:=fun i c j Z C=>by
  have a:=(E i j Z).1
  rw [(E c j C).1] at a
  simpa using a.symm
 have b2:∀ i,M i=true->∃ A,X[i]?=some (some (.own A))\/X[i]?=some (some (.io A)):=fun i hm=>by
  cases e:X[i]? with
  | none=>simp [M,e] at hm
  | some o =>
   cases o with
   | none=>simp [M,e] at hm
   | some s =>
    cases s with
    | own A=>exact ⟨A,.inl rfl⟩
    | io A=>exact ⟨A,.inr rfl⟩
    | st d=>simp [M,e] at hm
    | scr ns=>simp [M,e] at hm
 have b5:∀ i ys e,Jv i ys e->∀ c j,inv c=some j->∃ A,e[j]?=some (some (.io A)):=fun i ys e hj c j hi=>by
  obtain ⟨Y,hm⟩:=E c j hi
  obtain ⟨A,P⟩:=b2 c hm
  refine (a7 i ys e hj).get (x:=some (.io A)) ?_ rfl
  unfold aal
  rw [av5,Y]
  rcases P with P | P <;> simp [P,af2]
 -- between two turns
 let Wv:Nat->List V->St->Hp->Prop:=fun i ys σI H=>∃ G2 F2 e env2 yd,VI B G2 H σ env2 F2/\Same G1 G2/\H p=some (.lst ys)/\Rps G2 ys yd/\G2 p=none/\(∀ j,¬ F2 j p)/\Jv i yd e/\σI.length=e.length/\env2.length=X.length /\
  (∀ j s,e[j]?=some (some s)->∃ v,σI[j]?=some (some v)/\((∃ d,s=.st d/\Rp G2 v d/\∀ i,inv i ≠ some j)\/(∃ ns a,s=.scr ns/\v=.ref a/\SqL B.K G2 a (ns.map V.int)/\∀ i,inv i ≠ some j) ∨
   ∃ i A,inv i=some j/\s=.io A/\σ[i]?=some (some v)/\(env2[i]?=some (some (.own A))\/env2[i]?=some (some (.io A))))) /\
  (∀ i,inv i=none->env2[i]?=X[i]?)/\(∀ i j,inv i=some j->∃ A0 A,e[j]?=some (some (.io A))/\((X[i]?=some (some (.own A0))/\env2[i]?=some (some (.own A)))\/(X[i]?=some (some (.io A0))/\env2[i]?=some (some (.io A)))))
 have hb:B.H p=none:=I1.no_b R
 refine ⟨fun i m ys σI H=>m=ds.length - i/\i<=ds.length/\Wv i ys σI H,⟨ds.length,by simp,aA1 _,?_⟩,?_⟩
 ·refine ⟨G1,F1,aal src X,X,[],I1.aside (fun _ z=>nomatch z) (I1.no_g R) (I1.no_f R) hb,Same.refl _,aag,.nil,I1.no_g R,I1.no_f R,j0,by simp [pick,aal],rfl,fun j s e=>?_,fun _ _=>rfl,fun i j hi=>?_⟩
  ·obtain ⟨i,t,Y,ht,hp⟩:=ahk e
   obtain ⟨v,hv,q⟩:=I1.sl i t ht
   refine ⟨v,apf Y hv,?_⟩
   cases t with
   | st d =>
    cases hp
    refine .inl ⟨d,rfl,q.1,fun c f=>?_⟩
    have a:=(E c j f).1
    rw [Y] at a
    have:i=c:=by simpa using a
    subst this
    have:=(E i j f).2
    simp [M,ht] at this
   | scr ns =>
    cases hp
    obtain ⟨⟨a,ea,sq⟩,_⟩:=q
    refine .inr (.inl ⟨ns,a,rfl,ea,sq,fun c f=>?_⟩)
    have a:=(E c j f).1
    rw [Y] at a
    have:i=c:=by simpa using a
    subst this
    have:=(E i j f).2
    simp [M,ht] at this
   | own A=>cases hp;exact .inr (.inr ⟨i,A,a3 i j Y (by simp [M,ht]),rfl,hv,.inl ht⟩)
   | io A=>cases hp;exact .inr (.inr ⟨i,A,a3 i j Y (by simp [M,ht]),rfl,hv,.inr ht⟩)
  ·obtain ⟨Y,hm⟩:=E i j hi
   obtain ⟨A,P⟩:=b2 i hm
   refine ⟨A,A,?_,?_⟩
   ·unfold aal
    rw [av5,Y]
    rcases P with P | P <;> simp [P,af2]
   ·rcases P with P | P
    ·exact .inl ⟨P,P⟩
    ·exact .inr ⟨P,P⟩
 ·rintro i m ys σI H2 ⟨rfl,hi,G2,F2,e,env2,yd,I2,g2,a0,ry,ga,fa,jv,ln,c2,sl,un,mv⟩
  refine ⟨a0,?_⟩
  by_cases hlt:i < ds.length
  ·refine .inr ⟨it.go i G2 H2 g2 I2.gh hlt,Wv (i+1),fun a2 c3 H' hw=>⟨ds.length - (i+1),by omega,rfl,hlt,hw⟩,fun x H3 y=>?_⟩
   obtain ⟨G3,o⟩:=it.yld i G2 H2 x H3 _ g2 I2.gh I2.ft (av0 hlt) y
   obtain ⟨I3,X3⟩:=I2.out o
   have a8:=o.hh _ _ a0
   have a9:=fa
   have c0:G3 p=none:=by
    cases e':G3 p with
    | none=>rfl
    | some u =>
     rcases o.gn p u e' with q | q
     ·rw [ga] at q;cases q
     ·rw [a0] at q;cases q
   have b7:∀ j s,e[j]?=some (some s)->∃ v,σI[j]?=some (some v)/\((∃ d,s=.st d/\Rp G3 v d/\∀ i,inv i ≠ some j)\/(∃ ns a,s=.scr ns/\v=.ref a/\SqL B.K G3 a (ns.map V.int)/\∀ i,inv i ≠ some j) ∨
     ∃ i A,inv i=some j/\s=.io A/\σ[i]?=some (some v)/\(env2[i]?=some (some (.own A))\/env2[i]?=some (some (.io A)))):=fun j s es=>by
    obtain ⟨v,hv,q⟩:=sl j s es
    refine ⟨v,hv,?_⟩
    rcases q with ⟨d,b0,r,n⟩ | ⟨ns,a,b0,b6,r,n⟩ | q
    ·exact .inl ⟨d,b0,r.same o.gg,n⟩
    ·exact .inr (.inl ⟨ns,a,b0,b6,o.gg.seq r,n⟩)
    ·exact .inr (.inr q)
   have E3:=I3.enter (inv:=inv) (σI:=σI) (envI:=e) inj ln b7
   -- back from the turn
   have fin:∀ (T:St) (G4 H4:Hp) (F4:Nat->Addr->Prop) (e4:En) (a5:List PyData) (a2:List V) (o4:HO),VI ⟨B.K,G3,H3,acs H3 F2 inv,σI,fun j a=>∃ i,inv i=some j/\F2 i a⟩ G4 H4 T e4 F4->Jv (i+1) a5 e4->Rps G4 a2 a5 ->
     Wv (i+1) a2 T (upd H4 p (.lst a2))/\H4 p=some (.lst ys):=by
    intro T G4 H4 F4 e4 a5 a2 o4 I4 j4 r4
    have a1:=b5 (i+1) a5 e4 j4
    have c1:H4 p=some (.lst ys):=I4.rs p _ (by show acs H3 F2 inv p=_;rw [ajp (fun c _ _=>a9 c)];exact a8)
    have b4:G4 p=none:=by
     cases e':G4 p with
     | none=>rfl
     | some u =>
      rcases I4.gn p u e' with q | q
      ·change G3 p=_ at q;rw [c0] at q;cases q
      ·change H3 p=_ at q;rw [a8] at q;cases q
    -- the slots of the outer frame
    let D:En:=(List.range env2.length).map fun c=>match inv c with
     | some j=>(match env2[c]?,e4[j]? with | some (some (.own _)),some (some (.io A))=>some (.own A) | some (some (.io _)),some (some (.io A))=>some (.io A) | _,_=>none)
     | none=>(env2[c]?).getD none
    have N:∀ c,c < env2.length->D[c]?=some (match inv c with
     | some j=>(match env2[c]?,e4[j]? with | some (some (.own _)),some (some (.io A))=>some (.own A) | some (some (.io _)),some (some (.io A))=>some (.io A) | _,_=>none)
     | none=>(env2[c]?).getD none):=fun c hl=>by
     simp only [D,av5]
     rw [av0 (by simpa using hl)]
     simp
    have L:=I3.leave (inv:=inv) (env2:=D) inj rfl rfl (fun a u q n=>by show acs H3 F2 inv a=_;rw [ajp n];exact q) (fun c j f a z=>by obtain ⟨W,Z,C⟩:=z;rw [inj c W j f Z];exact C)
     (fun c j f=>by
      obtain ⟨A0,A,Z,C⟩:=mv c j f
      obtain ⟨v,hv,q⟩:=sl j _ Z
      rcases q with ⟨d,q,_⟩ | ⟨ns,a,q,_⟩ | ⟨W,b8,q1,q2,q3,_⟩
      ·cases q
      ·cases q
      ·rw [inj c W j f q1]
       show σI[j]?=_
       rw [hv,q3]) I4 a1 (by simp [D]) (fun c s es=>by
      have hl:c < env2.length:=by
       have:=(av1.mp es).1
       simpa [D] using this
      rw [N c hl] at es
      cases f:inv c with
      | none =>
       refine .inl ⟨rfl,?_⟩
       rw [f] at es
       simp only [Option.some.injEq] at es
       cases q:env2[c]? with
       | none=>rw [q] at es;cases es
       | some u=>rw [q] at es;simp at es;rw [es]
      | some j =>
       rw [f] at es
       obtain ⟨A',S⟩:=a1 c j f
       obtain ⟨A0,A,Z,C⟩:=mv c j f
       simp only [S] at es
       rcases C with ⟨_,C⟩ | ⟨_,C⟩
       ·rw [C] at es
        simp only [Option.some.injEq] at es
        exact .inr ⟨j,A,A',rfl,S,.inl ⟨C,es.symm⟩⟩
       ·rw [C] at es
        simp only [Option.some.injEq] at es
        exact .inr ⟨j,A,A',rfl,S,.inr ⟨C,es.symm⟩⟩)
    have b3:∀ j,¬ (match inv j with | some j=>F4 j p | none=>F2 j p):=fun j z=>by
     cases hj:inv j with
     | none=>rw [hj] at z;exact a9 j z
     | some l =>
      rw [hj] at z
      obtain ⟨A',S⟩:=a1 j l hj
      obtain ⟨v,_,q⟩:=I4.sl l _ S
      rcases q.2.1 p z with ⟨W,_,q⟩ | q
      ·exact a9 W q
      ·change H3 p=_ at q;rw [a8] at q;cases q
    refine ⟨⟨G4,_,e4,D,a5,L.aside (fun _ z=>nomatch z) b4 b3 hb,g2.trans (o.gg.trans I4.g0),aag,r4,b4,b3,j4,I4.ln,by simp [D,c2],fun j s es=>?_,fun c f=>?_,fun c j f=>?_⟩,c1⟩
    ·obtain ⟨v,hv,q⟩:=I4.sl j s es
     refine ⟨v,hv,?_⟩
     have a4:(∀ A,s ≠ .io A)->∀ c,inv c ≠ some j:=fun hn c f=>by
      obtain ⟨A,P⟩:=a1 c j f
      rw [es] at P
      exact hn A (by simpa using P)
     cases s with
     | st d=>exact .inl ⟨d,rfl,q.1,a4 (by intro A z;cases z)⟩
     | scr ns =>
      obtain ⟨⟨a,ea,sq⟩,_⟩:=q
      exact .inr (.inl ⟨ns,a,rfl,ea,sq,a4 (by intro A z;cases z)⟩)
     | own A =>
      have:=((a7 _ _ _ j4).got es).2
      simp [ae2] at this
     | io A =>
      obtain ⟨A0,h0⟩:=((a7 _ _ _ j4).got es).1 rfl
      obtain ⟨c,t,Y,ht,hp⟩:=ahk h0
      have hm:M c=true:=by
       cases t with
       | own A=>simp [M,ht]
       | io A=>simp [M,ht]
       | st d=>cases hp
       | scr ns=>cases hp
      have f:=a3 c j Y hm
      obtain ⟨B0,A1,Z,C⟩:=mv c j f
      have hl:c < env2.length:=by
       rcases C with ⟨_,C⟩ | ⟨_,C⟩ <;> exact (av1.mp C).1
      refine .inr (.inr ⟨c,A,f,rfl,?_,?_⟩)
      ·have hS : σI[j]?=some (some v):=q.2.2
       obtain ⟨v',b9,q'⟩:=sl j _ Z
       rcases q' with ⟨d,q',_⟩ | ⟨ns,a,q',_⟩ | ⟨W,b8,q1,q2,q3,_⟩
       ·cases q'
       ·cases q'
       ·rw [inj c W j f q1,q3,← b9,hS]
      ·rw [N c hl,f]
       simp only [es]
       rcases C with ⟨_,C⟩ | ⟨_,C⟩
       ·rw [C];exact .inl rfl
       ·rw [C];exact .inr rfl
    ·by_cases hl:c < env2.length
     ·rw [N c hl,f]
      simp only
      rw [← un c f]
      rw [av0 hl];rfl
     ·rw [az9.mpr (by simp [D];omega),← un c f,az9.mpr (by omega)]
    ·obtain ⟨A',S⟩:=a1 c j f
     obtain ⟨A0,A,Z,C⟩:=mv c j f
     have hl:c < env2.length:=by
      rcases C with ⟨_,C⟩ | ⟨_,C⟩ <;> exact (av1.mp C).1
     refine ⟨A0,A',S,?_⟩
     rw [N c hl,f]
     simp only [S]
     rcases C with ⟨h3,C⟩ | ⟨h3,C⟩
     ·rw [C];exact .inl ⟨h3,rfl⟩
     ·rw [C];exact .inr ⟨h3,rfl⟩
   have hd:ds[i]?=some ds[i]:=av0 hlt
   refine js i _ yd e hd jv ⟨B.K,G3,H3,acs H3 F2 inv,σI,fun j a=>∃ i,inv i=some j/\F2 i a⟩ rfl σI G3 H3 _ x _ _ E3 (ado o.ok.1) fun T G4 H4 F4 e4 I4 g4 q4=>?_
   refine q4 T G4 H4 F4 _ I4 fun b G5 H5 F5 e5 I5 g5 q5=>?_
   cases b with
   | false =>
    rw [az8 aw0] at q5 ⊢
    obtain ⟨w,ac⟩:=fin T G5 H5 F5 e5 yd ys (.lst ys) I5 q5 (ry.same (o.gg.trans (g4.trans g5)))
    have:upd H5 p (.lst ys)=H5:=by
     funext b
     unfold upd
     split
     ·rename_i hb';rw [hb'];exact ac.symm
     ·rfl
    rw [this] at w
    exact w
   | true =>
    rw [az7 rfl] at q5 ⊢
    refine q5 T G5 H5 F5 _ I5 fun y G6 H6 F6 d6 e6 I6 g6 r6 q6=>?_
    obtain ⟨w,ac⟩:=fin T G6 H6 F6 e6 (yd ++ [d6]) (ys ++ [y]) (.lst ys) I6 q6.2 ((ry.same (o.gg.trans (g4.trans (g5.trans g6)))).append (.cons r6 .nil))
    exact ⟨ac,by rw [ry.length];exact big (by have:=q6.1;omega),w⟩
  ·have ei:i=ds.length:=by omega
   subst ei
   refine .inl ⟨it.stop _ G2 H2 g2 I2.gh rfl,?_⟩
   have q:=jd yd e jv
   have eb:af3 src X e=env2:=by
    apply aA3
    intro c
    unfold af3
    rw [ad2,Nat.zero_add]
    have O:M c=false->env2[c]?=X[c]?:=fun hm=>un c (by simp [inv,hm])
    cases U:X[c]? with
    | none =>
     rw [O (by simp [M,U]),U];rfl
    | some o =>
     cases o with
     | none=>rw [O (by simp [M,U]),U];rfl
     | some t =>
      have a6:∀ A,(t=.own A\/t=.io A)->M c=true:=fun A h=>by rcases h with rfl | rfl <;> simp [M,U]
      cases t with
      | st d=>rw [O (by simp [M,U]),U];rfl
      | scr ns=>rw [O (by simp [M,U]),U];rfl
      | own A =>
       have hm:=a6 A (.inl rfl)
       simp only [aB9,ae1]
       cases e3:idxE c src 0 with
       | none =>
        have:inv c=none:=by simp [inv,e3]
        rw [un c this,U]
       | some j =>
        have f:inv c=some j:=by simp [inv,hm,e3]
        obtain ⟨A0,A1,Z,C⟩:=mv c j f
        simp only [Z]
        rcases C with ⟨h3,C⟩ | ⟨h3,C⟩
        ·rw [C]
        ·rw [U] at h3;cases h3
      | io A =>
       have hm:=a6 A (.inr rfl)
       simp only [aB9,ae1]
       cases e3:idxE c src 0 with
       | none =>
        have:inv c=none:=by simp [inv,e3]
        rw [un c this,U]
       | some j =>
        have f:inv c=some j:=by simp [inv,hm,e3]
        obtain ⟨A0,A1,Z,C⟩:=mv c j f
        simp only [Z]
        rcases C with ⟨h3,C⟩ | ⟨h3,C⟩
        ·rw [U] at h3;cases h3
        ·rw [C]
   rw [eb] at q
   refine k (.ref p) G2 H2 F2 (· = p) (.own (OL yd)) env2 I2 (g1.trans g2) ⟨⟨p,ys,rfl,a0,ry,fun b=>Iff.rfl⟩,fun a z=>by rw [z];exact hb,fun a z=>by rw [z];exact ga,fun a z=>by rw [z];exact ⟨_,a0⟩,fun j a z=>by rw [z];exact fa j⟩ q
end
def noIo (e:En):Bool:=e.all fun s => !isIo s
theorem apg {e:En} {j:Nat} {x:Option Sl} (h:noIo e=true) (a:e[j]?=some x):isIo x=false:=by
 have:=az6.mp h x (av2 a)
 simpa using this
theorem ae3 {src:List (Option Nat)} {b e:En} (h:noIo (aal src b)=true):af3 src b e=b:=by
 apply aA3
 intro i
 unfold af3
 rw [ad2,Nat.zero_add]
 cases e2:b[i]? with
 | none=>rfl
 | some o =>
  have a:∀ A,(o=some (.own A)\/o=some (.io A))->idxE i src 0=none:=fun A c=>by
   cases e3:idxE i src 0 with
   | none=>rfl
   | some j =>
    have f:=(adi e3).2
    have:(aal src b)[j]?=some (some (.io A)):=by
     unfold aal
     rw [av5,show src[j]?=some (some i) by simpa using f]
     rcases c with rfl | rfl <;> simp [e2,af2]
    have:=apg h this
    simp [isIo] at this
  cases o with
  | none=>rfl
  | some t =>
   cases t with
   | st d=>rfl
   | scr ns=>rfl
   | own A=>simp only [aB9,ae1,a A (.inl rfl)]
   | io A=>simp only [aB9,ae1,a A (.inr rfl)]
def stO:Option PyData->Option Sl:=Option.map Sl.st
theorem isIo_stO {o:Option PyData}:isIo (stO o)=false:=by cases o <;> rfl
theorem acn {o:Option PyData}:ae2 (stO o)=false:=by cases o <;> rfl
theorem acg {src:List (Option Nat)} {a:En}:∀ x∈aal src a,ae2 x=false:=by
 intro x b
 unfold aal at b
 obtain ⟨o,_,rfl⟩:=aw7.mp b
 cases o with
 | none=>rfl
 | some j =>
  dsimp only
  cases (a[j]?).getD none with
  | none=>rfl
  | some t=>cases t <;> rfl
theorem aco:∀ {e:En},(∀ x∈e,ae2 x=false)->ioLe e e
 | [],_=>True.intro
 | x :: r,h=>⟨⟨rfl,h x aw8⟩,aco fun y a=>h y (aw5 _ a)⟩
section
variable {B:Bs} {env:En} {g:TG} {tif:TT} {te:TE} {K:Frag} {src:List (Option Nat)} {ds:List PyData} {e1:En} {R:List PyData->En->Prop}
theorem aph (f:PyData->PyData) (p:PyData->Bool) (n:noIo (aal src e1)=true) (D:ds.length<=999999)
  (h:∀ d∈ds,∀ a:Bs,a.K=K->EvT a tif (some (.st d) :: aal src e1) fun b j=>b=p d/\j=some (.st d) :: aal src e1/\(b=true->Ev a te (some (.st d) :: aal src e1) fun y g=>y=f d/\g=some (.st d) :: aal src e1))
  (w:R ((ds.filter p).map f) e1):LcV K (none :: src) (aax 0) tif te ds e1 R:=by
 have c:noIo (aal (none :: src) e1)=true:=by
  show ((none :: aal src e1).all fun s => !isIo s)=true
  rw [List.all_cons]
  exact (aB2 _ _).mpr ⟨rfl,n⟩
 refine ⟨fun i ys e=>ys=((ds.take i).filter p).map f/\∃ o,e=stO o :: aal src e1,⟨by simp,none,rfl⟩,?_,?_,?_⟩
 ·rintro i ys e ⟨_,o,rfl⟩
  exact ⟨⟨isIo_stO.symm,acn⟩,aco acg⟩
 ·rintro i d ys e hd ⟨rfl,o,rfl⟩ a A
  have hi:i < ds.length:=(av1.mp hd).1
  have r:ds.take (i+1)=ds.take i ++ [d]:=by rw [aB4,hd];rfl
  refine aaz ?_
  show EvT a tif (some (.st d) :: aal src e1) _
  intro σ G H F Q I k
  refine h d (av2 hd) a A σ G H F Q I fun b G' H' q j m g' ⟨hb,u,B⟩=>k b G' H' q j m g' ?_
  subst u
  by_cases hp:b=true
  ·rw [az7 hp]
   intro σ G H F Q I k
   refine B hp σ G H F Q I fun v G' H' q d' g m g' z ⟨x,l⟩=>k v G' H' q d' g m g' z ?_
   subst x l
   refine ⟨?_,?_,some d,rfl⟩
   ·have:=az5 p (ds.take i)
    simp only [av3]
    have C:(ds.take i).length<=i:=by simp;omega
    omega
   ·rw [r,List.filter_append,ay9]
    have:p d=true:=by rw [← hb];exact hp
    simp [this]
  ·rw [az8 hp]
   refine ⟨?_,some d,rfl⟩
   rw [r,List.filter_append,ay9]
   have:p d=false:=by rw [← hb];simpa using hp
   simp [this]
 ·rintro ys e ⟨rfl,o,rfl⟩
  rw [ae3 c,aA9]
  exact w
theorem ad3 {α:Type} (xs:List α):xs.filter (fun _=>true)=xs:=by simp
theorem ak9 (f:PyData->PyData) (b:noIo (aal src e1)=true) (c:ds.length<=999999)
  (h:∀ d∈ds,∀ a:Bs,a.K=K->Ev a te (some (.st d) :: aal src e1) fun y g=>y=f d/\g=some (.st d) :: aal src e1)
  (i:R (ds.map f) e1):LcV K (none :: src) (aax 0) tYes te ds e1 R :=
 aph f (fun _=>true) b c (fun d hd a j=>adp ⟨rfl,rfl,fun _=>h d hd a j⟩) (by rw [ad3];exact i)
theorem ajs {A:Frag} {α:Type} {xs:List α} {fa fb : α->PyData} (f : α->PyData) (p : α->Bool) (n:noIo (aal src e1)=true) (J:xs.length<=999999)
  (h:∀ x∈xs,∀ a:Bs,a.K=K->EvT a tif (some (.st (fa x)) :: some (.st (fb x)) :: aal src e1) fun b j=>b=p x/\j=some (.st (fa x)) :: some (.st (fb x)) :: aal src e1/\(b=true->Ev a te (some (.st (fa x)) :: some (.st (fb x)) :: aal src e1) fun y g=>y=f x/\g=some (.st (fa x)) :: some (.st (fb x)) :: aal src e1))
  (z:R ((xs.filter p).map f) e1):LcV K (none :: none :: src) (gTup A 2 (adb (aax 0) (adb (aax 1) gNil))) tif te (xs.map fun x => .tuple [fa x,fb x]) e1 R:=by
 have c:noIo (aal (none :: none :: src) e1)=true:=by
  show ((none :: none :: aal src e1).all fun s => !isIo s)=true
  rw [List.all_cons,List.all_cons]
  exact (aB2 _ _).mpr ⟨rfl,(aB2 _ _).mpr ⟨rfl,n⟩⟩
 refine ⟨fun i ys e=>ys=((xs.take i).filter p).map f/\∃ o o',e=stO o :: stO o' :: aal src e1,⟨by simp,none,none,rfl⟩,?_,?_,?_⟩
 ·rintro i ys e ⟨_,o,o',rfl⟩
  exact ⟨⟨isIo_stO.symm,acn⟩,⟨isIo_stO.symm,acn⟩,aco acg⟩
 ·rintro i d ys e hd ⟨rfl,o,o',rfl⟩ a w
  rw [av5] at hd
  cases hx:xs[i]? with
  | none=>rw [hx] at hd;cases hd
  | some x =>
   rw [hx] at hd
   cases hd
   have hi:i < xs.length:=(av1.mp hx).1
   have r:xs.take (i+1)=xs.take i ++ [x]:=by rw [aB4,hx];rfl
   refine ak8 rfl (aem (aaz (aem (aaz (ajo ?_)))))
   show EvT a tif (some (.st (fa x)) :: some (.st (fb x)) :: aal src e1) _
   intro σ G H F Q I k
   refine h x (av2 hx) a w σ G H F Q I fun b G' H' q j m g' ⟨hb,u,D⟩=>k b G' H' q j m g' ?_
   subst u
   by_cases hp:b=true
   ·rw [az7 hp]
    intro σ G H F Q I k
    refine D hp σ G H F Q I fun v G' H' q d' g m g' C ⟨B,l⟩=>k v G' H' q d' g m g' C ?_
    subst B l
    refine ⟨?_,?_,some _,some _,rfl⟩
    ·have:=az5 p (xs.take i)
     simp only [av3]
     have E:(xs.take i).length<=i:=by simp;omega
     omega
    ·rw [r,List.filter_append,ay9]
     have:p x=true:=by rw [← hb];exact hp
     simp [this]
   ·rw [az8 hp]
    refine ⟨?_,some _,some _,rfl⟩
    rw [r,List.filter_append,ay9]
    have:p x=false:=by rw [← hb];simpa using hp
    simp [this]
 ·rintro ys e ⟨rfl,o,o',rfl⟩
  rw [ae3 c]
  simpa using z
end
section
variable {R:Sl->Prop}
theorem ars {g:Int->Int->Int} {i j:Int} (h:R (.st (.int (g i j)))):Op2 (rI0 fun i j => .int (g i j)) (.int i) (.int j) R:=fun G H c d Q gh b a k=>by
 cases b;cases a
 exact ⟨i,j,rfl,rfl,k _ _ _ _ _ (Out.refl gh (.int _)) h⟩
theorem art {g:Int->Int->Bool} {i j:Int} (h:R (.st (.bool (g i j)))):Op2 (rI0 fun i j => .bl (g i j)) (.int i) (.int j) R:=fun G H c d Q gh b a k=>by
 cases b;cases a
 exact ⟨i,j,rfl,rfl,k _ _ _ _ _ (Out.refl gh (.bl _)) h⟩
theorem atz {C:Int->Int->Prop} {g:Int->Int->Int} {i j:Int} (c:C i j) (h:R (.st (.int (g i j)))):Op2 (rI C fun i j => .int (g i j)) (.int i) (.int j) R:=fun G H d f Q gh b a k=>by
 cases b;cases a
 exact ⟨i,j,rfl,rfl,c,k _ _ _ _ _ (Out.refl gh (.int _)) h⟩
theorem aru {i j:Int} (h:R (.st (.bool (decide (i=j))))):Op2 rEq (.int i) (.int j) R:=fun G H c d Q gh b a k=>by
 cases b;cases a
 exact ane (k _ _ _ _ _ (Out.refl gh (.bl _)) h)
theorem arv {i j:Int} (h:R (.st (.bool (!decide (i=j))))):Op2 rNe (.int i) (.int j) R:=fun G H c d Q gh b a k=>by
 cases b;cases a
 exact atj (k _ _ _ _ _ (Out.refl gh (.bl _)) h)
theorem ajt (i j:Str):decide (V.str i=V.str j)=decide (i=j):=by
 by_cases h:i=j
 ·subst h;simp
 ·simp [h]
theorem arw {i j:Str} (h:R (.st (.bool (decide (i=j))))):Op2 rEq (.str i) (.str j) R:=fun G H c d Q gh b a k=>by
 cases b;cases a
 refine ⟨rfl,?_⟩
 rw [ajt]
 exact k _ _ _ _ _ (Out.refl gh (.bl _)) h
theorem arx {i j:Str} (h:R (.st (.bool (!decide (i=j))))):Op2 rNe (.str i) (.str j) R:=fun G H c d Q gh b a k=>by
 cases b;cases a
 refine ⟨rfl,?_⟩
 rw [ajt]
 exact k _ _ _ _ _ (Out.refl gh (.bl _)) h
theorem adr {x y:PyData} (a:aam x=true) (b:aam y=true) (hd:x.depth<=60) (h:R (.st (.bool (!PyData.eqv x y)))):Op2 rNeD x y R:=fun G H f g Q gh d c k =>
 ⟨x,y,(d.rep a).same gh,(c.rep b).same gh,a,b,hd,k _ _ _ _ _ (Out.refl gh (.bl _)) h⟩
theorem api {a:Bool} {x:PyData} {es:List PyData} (b:aam x=true) (c:plainDs es=true) (hd:x.depth<=60) (h:R (.st (.bool (if a then !es.any (fun z=>PyData.eqv z x) else es.any (fun z=>PyData.eqv z x))))):Op2 (rInD a) x (.tuple es) R:=fun G H g i Q gh f d k =>
 ⟨x,es,(f.rep b).same gh,.inr ((d.rep (by simpa [aam] using c)).same gh),b,c,hd,k _ _ _ _ _ (Out.refl gh (.bl _)) h⟩
theorem Rps.at {G:Hp} {vs:List V} {ds:List PyData} {i:Int} {d:PyData} (r:Rps G vs ds) (h:atI ds i=some d):∃ v,atI vs i=some v/\Rp G v d:=by
 unfold atI at h ⊢
 rw [r.length]
 cases e:ixN ds.length i with
 | none=>rw [e] at h;cases h
 | some j =>
  rw [e] at h
  exact r.get h
theorem ary {K:Frag} {ds:List PyData} {i:Int} {d:PyData} (hd:atI ds i=some d) (h:R (.st d)):Op2 (abl K) (.list ds) (.int i) R:=fun G H g j Q gh c a k=>by
 cases a
 cases c with
 | lst ha rs =>
  obtain ⟨v,f,b⟩:=rs.at hd
  exact ai6 (gh _ _ ha) f (k _ _ _ _ _ (Out.refl gh b) h)
theorem arz {K:Frag} {ds:List PyData} {i:Int} {d:PyData} (hd:atI ds i=some d) (h:R (.st d)):Op2 (abl K) (.tuple ds) (.int i) R:=fun G H g j Q gh c a k=>by
 cases a
 cases c with
 | tup ha rs =>
  obtain ⟨v,f,b⟩:=rs.at hd
  exact ady (gh _ _ ha) f (k _ _ _ _ _ (Out.refl gh b) h)
def isNone:PyData->Bool
 | .none=>true
 | _=>false
theorem agy {xs ys:List PyData} (b:xs.length+ys.length<=1000000) (h:R (.own (OL (xs ++ ys)))):Op2 rCat (.list xs) (.list ys) R:=fun G H f g Q gh c a k=>by
 cases c with
 | lst ha ra =>
  cases a with
  | lst hb rb =>
   refine atm (gh _ _ ha) (gh _ _ hb) ?_ fun p d=>k _ _ _ _ _ (Out.newL gh d (ra.append rb)) h
   rw [ra.length,rb.length];exact aA6 (big b)
theorem apj {K:Frag} {xs:List PyData} (h:R (.st (.int xs.length))):OpA (rLen K) [.list xs] R:=fun G H vs Q gh rs k=>by
 cases rs with
 | cons r t =>
  cases t
  cases r with
  | lst ha ra =>
   refine aky (gh _ _ ha) ?_
   rw [ra.length]
   exact k _ _ _ _ _ (Out.refl gh (.int _)) h
theorem apk {K:Frag} {xs:List PyData} (h:R (.st (.int xs.length))):OpA (rLen K) [.tuple xs] R:=fun G H vs Q gh rs k=>by
 cases rs with
 | cons r t =>
  cases t
  cases r with
  | tup ha ra =>
   refine aq3 (gh _ _ ha) ?_
   rw [ra.length]
   exact k _ _ _ _ _ (Out.refl gh (.int _)) h
theorem apl {i j:Int} (h:R (.st (.int (if j > i then j else i)))):OpA ah9 [.int i,.int j] R:=fun G H vs Q gh rs k=>by
 obtain rfl:vs=[V.int i,V.int j]:=Rps.ints_inv (ns:=[i,j]) rs
 exact akz (k _ _ _ _ _ (Out.refl gh (.int _)) h)
theorem apm {i j:Int} (h:R (.st (.int (if j < i then j else i)))):OpA aia [.int i,.int j] R:=fun G H vs Q gh rs k=>by
 obtain rfl:vs=[V.int i,V.int j]:=Rps.ints_inv (ns:=[i,j]) rs
 exact ak0 (k _ _ _ _ _ (Out.refl gh (.int _)) h)
theorem apn {b:Bool} (h:R (.st (.int (if b then 1 else 0)))):OpA aib [.bool b] R:=fun G H vs Q gh rs k=>by
 cases rs with
 | cons r t =>
  cases t;cases r
  exact ak1 (k _ _ _ _ _ (Out.refl gh (.int _)) h)
end
section
variable {B:Bs} {env:En} {QO:Sl->En->Prop} {Q':PyData->En->Prop} {te tl th:TE} {K:Frag}
theorem au5 {i:Int} {R:Int->Prop} (h:R i):∃ j,PyData.int i=.int j/\R j:=⟨i,rfl,h⟩
end
def ae4:PyData->Bool
 | .none | .bool _ | .int _ | .str _=>true
 | _=>false
theorem ala {G G':Hp} {v:V} {d:PyData} (r:Rp G v d) (h:ae4 d=true):Rp G' v d:=by
 cases r with
 | non=>exact .non
 | bl b=>exact .bl b
 | int i=>exact .int i
 | str x=>exact .str x
 | _=>simp [ae4] at h
def Has (env:En) (i:Nat) (A:Own):Prop:=env[i]?=some (some (.own A))\/env[i]?=some (some (.io A))
section
variable {B:Bs} {env:En} {QO:Sl->En->Prop} {Q':PyData->En->Prop} {QT:Bool->En->Prop} {QE:En->Prop} {te ta tb tk:TE} {K:Frag} {i:Nat}
theorem VI.has {G H:Hp} {σ:St} {F:Nat->Addr->Prop} {A:Own} (I:VI B G H σ env F) (h:Has env i A):∃ v,σ[i]?=some (some v)/\A.P G H v (F i):=by
 rcases h with h | h
 ·obtain ⟨v,a,q⟩:=I.sl i _ h;exact ⟨v,a,q.1⟩
 ·obtain ⟨v,a,q⟩:=I.sl i _ h;exact ⟨v,a,q.1⟩
theorem VI.moment {G c d H H3:Hp} {σ:St} {F:Nat->Addr->Prop} {v:V} {s:Sl} {Fv:Addr->Prop} (I:VI B G H σ env F) (i:Same G c) (o:Out c H v d H3 s Fv):∃ f,Same G f/\VI B f H3 σ env F:=by
 refine ⟨fun a=>if H a=none then d a else G a,fun a u e=>?_,I.grow (fun a u e=>?_) (fun a u e=>?_) o.hh (fun a u e=>?_) fun a b e=>?_⟩
 ·show (if H a=none then d a else G a)=some u;rw [az8 (by rw [I.gh a u e];simp)];exact e
 ·rw [az8 (by rw [I.gh a u e];simp)];exact e
 ·by_cases h:H a=none
  ·rw [az7 h] at e;exact o.gh a u e
  ·rw [az8 h] at e;exact o.hh _ _ (I.gh a u e)
 ·by_cases h:H a=none
  ·exact .inr h
  ·rw [az8 h] at e;exact .inl e
 ·have j:FT c H:=fun a b e=>i _ _ (I.ft a b e)
  by_cases h:H a=none
  ·rw [az7 h];exact o.ft j a b e
  ·rw [az8 h]
   obtain ⟨u,g⟩:=al3 h
   have:=o.hh _ _ g
   rw [e] at this
   exact I.ft a b (by rw [g,← this])
theorem at3 {r:R2} {g:Own} (x:Has env i g) (h:Ev B tb env fun y c=>∃ A dx,Has c i A/\Frz A dx/\Op2 r dx y fun s=>∃ d,s=.st d/\ae4 d=true/\Q' d c):Ev B (tOp r (tVar i) tb) env Q':=fun σ G H F Q I k=>by
 obtain ⟨v,f,_⟩:=I.has x
 refine ⟨v,f,h σ G H F _ I fun u l H2 F2 y c a m C ⟨A,dx,D,j,n⟩=>?_⟩
 obtain ⟨L,b,z⟩:=a.has D
 rw [f] at b;cases b
 refine n (jn l H2 (F2 i)) H2 v u Q (aie a.gh) (j _ _ _ _ z (a.fg i) a.gh) (C.same (aba (a.fg i))) fun w M H3 s Fv o ⟨d,es,J,p⟩=>?_
 subst es
 obtain ⟨K,E,q⟩:=a.moment (aba (a.fg i)) o
 exact k w K H3 F2 d c q (m.trans E) (ala o.ok.1 J) p
theorem x_sc {d:PyData} {R:PyData->Prop} (a:ae4 d=true) (h:R d):∃ d',Sl.st d=.st d'/\ae4 d'=true/\R d':=⟨d,rfl,a,h⟩
theorem ar0 {ns:List Int} (e:env[i]?=some (some (.scr ns))) (c:B.K=K) (q:Q' (.int ns.length) env):Ev B (tCB (rLen K) (aav (tVar i) tNil)) env Q':=fun σ G H F Q I k=>by
 subst c
 obtain ⟨g,f,⟨a,b,d⟩,_⟩:=I.sl i _ e
 subst b
 refine ⟨_,f,aq4 (I.gh.seq d) ?_⟩
 rw [av3]
 exact k _ G H F _ env I (Same.refl _) (.int _) q
theorem at4 {ns:List Int} (e:env[i]?=some (some (.scr ns))) (m:B.K=K) (h:Ev B tb env fun y c=>∃ j n,y=.int j/\atI ns j=some n/\Q' (.int n) c):Ev B (tOp (abl K) (tVar i) tb) env Q':=fun σ G H F Q I k=>by
 subst m
 obtain ⟨x,p,⟨a,r,s⟩,_⟩:=I.sl i _ e
 subst r
 refine ⟨_,p,h σ G H F _ I fun u g H2 F2 y c d f w ⟨j,n,o,b,q⟩=>?_⟩
 subst o
 cases w
 refine ao1 (d.gh.seq (f.seq s)) (v:=.int n) ?_ (k _ g H2 F2 _ c d f (.int _) q)
 unfold atI at b ⊢
 rw [av3]
 cases e:ixN ns.length j with
 | none=>rw [e] at b;cases b
 | some l=>rw [e] at b;simp at b ⊢;exact b
theorem VI.upd1 {G H:Hp} {σ:St} {F:Nat->Addr->Prop} {s:Sl} {A A':Own} {a:Addr} {o:HO} (I:VI B G H σ env F) (e:env[i]?=some (some s)) (h:s=.own A\/s=.io A) (f : σ[i]?=some (some (.ref a))) (hf:∀ b,F i b ↔ b=a) (j:A'.P G (upd H a o) (.ref a) (· = a)) (d:∀ xs,o ≠ .tup xs:=by intro _ z;cases z) :
  VI B G (upd H a o) σ (env.set i (some (reS s A'))) (putF F i (· = a)):=by
 refine I.change (A:=A') i e f (fun b u hb c=>by rw [aac (fun z=>hb ((hf b).mpr z))];exact c) (fun b u c=>?_) (fun b z=>⟨.inl ((hf b).mpr z),by rw [z];exact ⟨_,aag⟩⟩) j (fun b g e=>?_) ?_
 ·by_cases z:b=a
  ·rw [z];exact ⟨_,aag⟩
  ·rw [aac z];exact ⟨u,c⟩
 ·by_cases z:b=a
  ·subst z;rw [aag] at e;exact absurd (ax6 e) (d _)
  ·rw [aac z] at e;exact I.ft b g e
 ·rcases h with rfl | rfl
  ·exact .inl ⟨rfl,A,rfl⟩
  ·exact .inr ⟨rfl,A,rfl⟩
theorem al6 {m:List PyData} (w:Has env i (OL m)) (h:Ev B te env fun y n=>∃ ds ys,y=.list ys/\n[i]?=some (some (.own (OL ds)))/\ds.length+ys.length<=1000000/\Q' .none (n.set i (some (.own (OL (ds ++ ys)))))):Ev B (tBM K "list" agj (tVar i) (aav te tNil)) env Q':=fun σ G H F Q I k=>by
 obtain ⟨v,j,a,vs,A,ha,rs,_⟩:=I.has w
 subst A
 refine ⟨_,j,.inl ⟨rfl,_,SqL.of ha⟩,h σ G H F _ I fun u p H2 F2 y n f r x ⟨ds,ys,s,es,z,q⟩=>?_⟩
 subst s
 cases x with
 | lst hb rb =>
  obtain ⟨D,c,C,o,l,g,d,hf⟩:=f.has (.inl es)
  rw [j] at c;cases c;cases l
  refine anf g (f.gh _ _ hb) (by rw [d.length,rb.length];exact aA6 (big z)) ?_
  exact k _ p _ _ _ _ (f.upd1 (A':=OL (ds ++ ys)) es (.inl rfl) j hf ⟨a,_,rfl,aag,d.append rb,fun b=>Iff.rfl⟩) r .non q
theorem ar1 {t:TS} {D':VEnds} {A:Own} {d:PyData} (i:Nat) (e:env[i]?=some (some (.own A))) (f:Frz A d) (h:EvS B t D' (env.set i (some (.st d)))):EvS B t D' env:=fun σ G H F D I r=>by
 obtain ⟨v,a,b,g,J⟩:=I.frz e f
 exact h σ _ H _ D J (r.later g)
end
def tyD:PyData->String
 | .none => "NoneType" | .bool _ => "bool" | .int _ => "int" | .str _ => "str" | .list _ => "list" | .tuple _ => "tuple" | .dict _ => "dict"
def abx (T:String):Prop:=T = "int"\/T = "bool"\/T = "tuple"\/T = "list"\/T = "str"\/T = "dict"
def isiD (T:String) (d:PyData):Bool:=tyD d == T || (T == "int" && tyD d == "bool")
theorem al7 {K:Frag} {H:Hp} {v:V} {d:PyData} (r:Rp H v d):TyOf K H v (.type (tyD d)):=by
 cases r with
 | non=>exact .non
 | bl b=>exact .bl b
 | int i=>exact .int i
 | str x=>exact .str x
 | lst h _=>exact .lst h
 | tup h _=>exact .tup h
 | dk h _ _=>exact .dK h
 | dt h _ _=>exact .dT h
theorem aih {K:Frag} {T:String} (h:abx T) (d:PyData):kitOne K (.type (tyD d)) (.type T)=some (isiD T d):=by
 rcases h with rfl | rfl | rfl | rfl | rfl | rfl
 ·cases d with
  | none=>exact afg
  | bool _=>exact ai7
  | int _=>exact akf
  | str _=>exact akh
  | list _=>exact ajf
  | tuple _=>exact ah0
  | dict _=>exact ajh
 ·cases d with
  | none=>exact ae7
  | bool _=>exact ahs
  | int _=>exact ai9
  | str _=>exact ajc
  | list _=>exact ahx
  | tuple _=>exact agt
  | dict _=>exact ah2
 ·cases d with
  | none=>exact aek
  | bool _=>exact agr
  | int _=>exact ahv
  | str _=>exact ahw
  | list _=>exact ags
  | tuple _=>exact afz
  | dict _=>exact agw
 ·cases d with
  | none=>exact ae8
  | bool _=>exact aht
  | int _=>exact aja
  | str _=>exact ajd
  | list _=>exact ahy
  | tuple _=>exact agu
  | dict _=>exact ah3
 ·cases d with
  | none=>exact afh
  | bool _=>exact ai8
  | int _=>exact akg
  | str _=>exact aki
  | list _=>exact ajg
  | tuple _=>exact ah1
  | dict _=>exact aji
 ·cases d with
  | none=>exact ae9
  | bool _=>exact ahu
  | int _=>exact ajb
  | str _=>exact aje
  | list _=>exact ahz
  | tuple _=>exact agv
  | dict _=>exact ah4
section
variable {B:Bs} {env:En} {QO:Sl->En->Prop} {Q':PyData->En->Prop} {QT:Bool->En->Prop} {QE:En->Prop} {te ta tb tk:TE} {K:Frag} {i:Nat}
theorem at5 {T:String} (f:abx T) (h:Ev B te env fun d e=>Q' (.bool (isiD T d)) e):Ev B (tCB (rIsi K) (aav te (aav (tC (.ty T)) tNil))) env Q':=fun σ G H F Q I k =>
 h σ G H F _ I fun v c l b d i a m g j=>⟨v,T,_,_,rfl,al7 (g.same a.gh),aih f d,k _ c l b _ i a m (.bl _) j⟩
theorem ar2 {T:String} {A:Own} {d:PyData} (a:Has env i A) (b:Frz A d) (f:abx T) (q:Q' (.bool (isiD T d)) env):Ev B (tCB (rIsi K) (aav (tVar i) (aav (tC (.ty T)) tNil))) env Q':=fun σ G H F Q I k=>by
 obtain ⟨v,g,c⟩:=I.has a
 refine ⟨v,g,v,T,_,_,rfl,al7 ((b _ _ _ _ c (I.fg i) I.gh).same (aie I.gh)),aih f d,k _ G H F _ env I (Same.refl _) (.bl _) q⟩
theorem at6:abx "int":=.inl rfl
theorem ar3:abx "bool":=.inr (.inl rfl)
theorem apo:abx "tuple":=.inr (.inr (.inl rfl))
theorem ar4:abx "list":=.inr (.inr (.inr (.inl rfl)))
theorem at7:abx "str":=.inr (.inr (.inr (.inr (.inl rfl))))
theorem app {A:Own} {D':VEnds} (e:env[i]?=some (some (.own A))) (q:D'.rt (.own A) (env.set i none)):EvS B (tRet (tVar i)) D' env:=agx (ao5 e q)
theorem au6 {n m:Nat} {P:Prop} (h:n<=m) (q:P):n<=m/\P:=⟨h,q⟩
theorem au7 {ns:List Int} {n k:Int} {R:Int->Prop} (h:atI ns k=some n) (q:R n):∃ j n,PyData.int k=.int j/\atI ns j=some n/\R n:=⟨k,n,rfl,h,q⟩
theorem au8 {A:Own} {dx:PyData} {a:En} {P:PyData->Prop} (b:Has a i A) (c:Frz A dx) (q:P dx):∃ A dx,Has a i A/\Frz A dx/\P dx:=⟨A,dx,b,c,q⟩
theorem x_st {b:Bool} {R:Bool->Prop} (h:R b):∃ c,Sl.st (.bool b)=.st (.bool c)/\R c:=⟨b,rfl,h⟩
theorem lenP {f:VP} {n:Nat} {vs:List V} {H:Hp} {Q:VK} {E:XK} (h:spP K f vs H Q E) (hf:∀ ss a,f ss a->ss.length=n):vs.length=n:=by
 obtain ⟨G,ss,a,_,_,b,q,_⟩:=h
 rw [b.length];exact hf ss a q
theorem au9 {P Q:Prop} (h:P) (q:Q):P/\Q:=⟨h,q⟩
theorem ava {src:List (Option Nat)} {j:TI} {g:TG} {f:TT} (nd:(src.filterMap id).Nodup) (h:EvI B j env fun ds i=>LcV B.K src g f te ds i fun ys o=>Q' (.list ys) o):Ev B (tLC src j g f te) env Q':=ab2 (ann nd fun σ G H F R I k=>h σ G H F R I fun J G' H' m ds i l g' it ⟨n,a,b,c,d⟩=>k J G' H' m ds i l g' it ⟨n,a,b,c,fun ys e q=>adh (d ys e q)⟩)
end
end VL
namespace VL
open PySem L2
section
variable {B:Bs} {QE:En->Prop} {Q':PyData->En->Prop} {s:Sl} {r:En} {A:Own} {d:PyData} {x0 x1 x2 x3 x4 x5 x6 x7 x8 x9 x10 x11 x12 x13 x14 x15 x16 x17 x18 x19 x20 x21 x22 x23 x24 x25:Option Sl}
theorem at8 (h:QE (x0 :: some s :: r)):EvG B (aax 1) s (x0 :: x1 :: r) QE:=aaz h
theorem at9 (h:QE (x0 :: x1 :: some s :: r)):EvG B (aax 2) s (x0 :: x1 :: x2 :: r) QE:=aaz h
theorem aua (h:QE (x0 :: x1 :: x2 :: some s :: r)):EvG B (aax 3) s (x0 :: x1 :: x2 :: x3 :: r) QE:=aaz h
theorem aub (h:QE (x0 :: x1 :: x2 :: x3 :: some s :: r)):EvG B (aax 4) s (x0 :: x1 :: x2 :: x3 :: x4 :: r) QE:=aaz h
theorem auc (h:QE (x0 :: x1 :: x2 :: x3 :: x4 :: some s :: r)):EvG B (aax 5) s (x0 :: x1 :: x2 :: x3 :: x4 :: x5 :: r) QE:=aaz h
theorem aud (h:QE (x0 :: x1 :: x2 :: x3 :: x4 :: x5 :: some s :: r)):EvG B (aax 6) s (x0 :: x1 :: x2 :: x3 :: x4 :: x5 :: x6 :: r) QE:=aaz h
theorem aue (h:QE (x0 :: x1 :: x2 :: x3 :: x4 :: x5 :: x6 :: some s :: r)):EvG B (aax 7) s (x0 :: x1 :: x2 :: x3 :: x4 :: x5 :: x6 :: x7 :: r) QE:=aaz h
theorem auf (h:QE (x0 :: x1 :: x2 :: x3 :: x4 :: x5 :: x6 :: x7 :: some s :: r)):EvG B (aax 8) s (x0 :: x1 :: x2 :: x3 :: x4 :: x5 :: x6 :: x7 :: x8 :: r) QE:=aaz h
theorem aug (h:QE (x0 :: x1 :: x2 :: x3 :: x4 :: x5 :: x6 :: x7 :: x8 :: some s :: r)):EvG B (aax 9) s (x0 :: x1 :: x2 :: x3 :: x4 :: x5 :: x6 :: x7 :: x8 :: x9 :: r) QE:=aaz h
end
end VL
namespace Gr
structure Ring (T:Int->Int->Prop) (a:Int) (k:Nat) (far:Int->Option Nat) (edge:List Int):Prop where
 lab:∀ v d,far v=some d ↔ (Dist T a v d/\d<=k)
 edg:∀ v,v∈edge ↔ Dist T a v k
structure Mid (T:Int->Int->Prop) (k:Nat) (far0:Int->Option Nat) (edge:List Int) (done:Int->Prop) (far:Int->Option Nat) (beyond:List Int):Prop where
 old:∀ v d,far0 v=some d->far v=some d
 new:∀ v,v∈beyond ↔ (far0 v=none/\far v ≠ none)
 val:∀ v d,far0 v=none->far v=some d->d=k+1/\∃ u,u∈edge/\T u v
 dn:∀ u w,done u->T u w->far w ≠ none
def aii (far:Int->Option Nat) (w:Int) (d:Nat):Int->Option Nat:=fun v=>if v=w then some d else far v
theorem act {far:Int->Option Nat} {w:Int} {d:Nat}:aii far w d w=some d:=az7 rfl
theorem ac8 {far:Int->Option Nat} {w v:Int} {d:Nat} (h:v ≠ w):aii far w d v=far v:=az8 h
variable {T:Int->Int->Prop} {a:Int} {k:Nat} {far0 far:Int->Option Nat} {edge beyond:List Int} {done:Int->Prop}
theorem Ring.start:Ring T a 0 (aii (fun _=>none) a 0) [a]:=by
 refine ⟨fun v d=>?_,fun v=>?_⟩
 ·by_cases h:v=a
  ·subst h
   rw [act]
   constructor
   ·intro e;cases e;exact ⟨Dist.self T v,av6 _⟩
   ·rintro ⟨h,_⟩;rw [h.uniq (Dist.self T v)]
  ·rw [ac8 h]
   constructor
   ·intro e;cases e
   ·rintro ⟨b,c⟩
    have:d=0:=by omega
    subst this
    cases b.1
    exact absurd rfl h
 ·simp only [ax2]
  constructor
  ·rintro rfl;exact Dist.self T v
  ·intro h;cases h.1;rfl
theorem Mid.start:Mid T k far0 edge (fun _=>False) far0 [] :=
 ⟨fun v d h=>h,fun v=>⟨fun h=>by simp at h,fun h=>absurd h.1 h.2⟩,fun v d h g=>(by rw [h] at g;cases g),fun u w h=>h.elim⟩
theorem Mid.add (m:Mid T k far0 edge done far beyond) {u w:Int} (i:u∈edge) (t:T u w) (b:far w=none):Mid T k far0 edge done (aii far w (k+1)) (beyond ++ [w]):=by
 have a:far0 w=none:=by
  cases e:far0 w with
  | none=>rfl
  | some d=>rw [m.old w d e] at b;cases b
 refine ⟨fun v d h=>?_,fun v=>?_,fun v d h g=>?_,fun x y f c=>?_⟩
 ·rw [ac8 (by rintro rfl;rw [a] at h;cases h)];exact m.old v d h
 ·by_cases hv:v=w
  ·subst hv
   simp [act,a]
  ·rw [ac8 hv]
   simp only [av7,ax2,hv,or_false]
   exact m.new v
 ·by_cases hv:v=w
  ·subst hv
   rw [act] at g
   cases g
   exact ⟨rfl,u,i,t⟩
  ·rw [ac8 hv] at g
   exact m.val v d h g
 ·by_cases hv:y=w
  ·subst hv;rw [act];simp
  ·rw [ac8 hv];exact m.dn x y f c
theorem Ring.next (r:Ring T a k far0 edge) (m:Mid T k far0 edge done far beyond) (hd:∀ u∈edge,done u):Ring T a (k+1) far beyond:=by
 have g:∀ v,far0 v=none->far v ≠ none->Dist T a v (k+1):=fun v f b=>by
  cases e:far v with
  | none=>exact absurd e b
  | some d =>
   obtain ⟨rfl,u,l,t⟩:=m.val v d f e
   obtain ⟨j,p,h⟩:=((r.edg u).mp l).next t
   by_cases i:j<=k
   ·rw [(r.lab v j).mpr ⟨h,i⟩] at f;cases f
   ·have:j=k+1:=by omega
    rw [← this];exact h
 have c:∀ v,Dist T a v (k+1)->far0 v=none/\far v ≠ none:=fun v h=>by
  refine ⟨?_,?_⟩
  ·cases e:far0 v with
   | none=>rfl
   | some d =>
    obtain ⟨b,n⟩:=(r.lab v d).mp e
    have:=b.uniq h
    omega
  ·obtain ⟨u,t,l⟩:=h.pred
   exact m.dn u v (hd u ((r.edg u).mpr l)) t
 refine ⟨fun v d=>?_,fun v=>⟨fun h=>?_,fun h=>(m.new v).mpr (c v h)⟩⟩
 ·constructor
  ·intro e
   cases e0:far0 v with
   | some d0 =>
    rw [m.old v d0 e0] at e
    cases e
    obtain ⟨b,n⟩:=(r.lab v d).mp e0
    exact ⟨b,by omega⟩
   | none =>
    have i:=(m.val v d e0 e).1
    subst i
    exact ⟨g v e0 (by rw [e];simp),av6 _⟩
  ·rintro ⟨h,i⟩
   by_cases hd':d<=k
   ·exact m.old v d ((r.lab v d).mpr ⟨h,hd'⟩)
   ·have o:d=k+1:=by omega
    subst o
    obtain ⟨f,b⟩:=c v h
    cases e:far v with
    | none=>exact absurd e b
    | some d=>rw [(m.val v d f e).1]
 ·obtain ⟨f,b⟩:=(m.new v).mp h
  exact g v f b
theorem Dist.down {v:Int}:∀ {d:Nat},Dist T a v d->∀ j,j<=d->∃ u,Dist T a u j
 | 0,h,j,hj=>⟨v,by rw [show j=0 by omega];exact h⟩
 | d+1,h,j,hj=>by
  by_cases e:j=d+1
  ·rw [e];exact ⟨v,h⟩
  ·obtain ⟨u,_,b⟩:=h.pred
   exact Dist.down b j (by omega)
def farO (T:Int->Int->Prop) (a v:Int):Option Nat:=open Classical in if h:∃ d,Dist T a v d then some (Classical.choose h) else none
theorem farO_some {v:Int} {d:Nat}:farO T a v=some d ↔ Dist T a v d:=by
 unfold farO
 constructor
 ·intro h
  split at h
  ·rename_i b
   cases h
   exact Classical.choose_spec b
  ·cases h
 ·intro h
  have b:∃ d,Dist T a v d:=⟨d,h⟩
  rw [dif_pos b,(Classical.choose_spec b).uniq h]
theorem farO_none {v:Int}:farO T a v=none ↔ ∀ d,¬ Dist T a v d:=by
 constructor
 ·intro h d hd
  rw [farO_some.mpr hd] at h;cases h
 ·intro h
  cases e:farO T a v with
  | none=>rfl
  | some d=>exact absurd (farO_some.mp e) (h d)
theorem ar5 {v:Int} {o:Option Nat} (h:∀ d,o=some d ↔ Dist T a v d):o=farO T a v:=by
 cases o with
 | some d=>exact (farO_some.mpr ((h d).mp rfl)).symm
 | none=>exact (farO_none.mpr fun d hd=>by cases (h d).mpr hd).symm
theorem Ring.fin (r:Ring T a k far0 []) (v:Int):far0 v=farO T a v:=by
 refine ar5 fun d=>?_
 rw [r.lab]
 refine ⟨fun h=>h.1,fun h=>⟨h,?_⟩⟩
 apply Classical.byContradiction
 intro c
 obtain ⟨u,b⟩:=h.down k (by omega)
 have:=(r.edg u).mpr b
 simp at this
theorem Dist.lt {n:Nat} (o:∀ u v,T u v->0<=v/\v < (n:Int)) (ha:0<=a/\a < (n:Int)) {v:Int} {d:Nat} (h:Dist T a v d):d < n:=by
 -- the places of a shortest way are unlike
 have i:∀ d v,Dist T a v d->∃ l:List Int,l.length=d+1/\l.Nodup/\∀ x∈l,(0<=x/\x < (n:Int))/\∃ j,j<=d/\Dist T a x j:=by
  intro d
  induction d with
  | zero =>
   intro v h
   have:v=a:=by cases h.1;rfl
   subst this
   exact ⟨[v],rfl,by simp,fun x b=>by simp at b;subst b;exact ⟨ha,0,av6 _,h⟩⟩
  | succ d ih =>
   intro v h
   obtain ⟨u,t,w⟩:=h.pred
   obtain ⟨l,g,f,c⟩:=ih u w
   refine ⟨v :: l,by simp [g],aC1.mpr ⟨fun hm=>?_,f⟩,fun x b=>?_⟩
   ·obtain ⟨_,j,p,hd⟩:=c v hm
    have:=hd.uniq h
    omega
   ·rcases av9.mp b with rfl | b
    ·exact ⟨o _ _ t,d+1,av6 _,h⟩
    ·obtain ⟨q,j,p,hd⟩:=c x b
     exact ⟨q,j,by omega,hd⟩
 obtain ⟨l,g,f,c⟩:=i d v h
 have few:∀ (n:Nat) (l:List Int),l.Nodup->(∀ v∈l,0<=v/\v < (n:Int))->l.length<=n:=by
  intro n
  induction n with
  | zero =>
   intro l _ h
   cases l with
   | nil=>simp
   | cons v r=>have:=h v (by simp);omega
  | succ n ih =>
   intro l hn h
   have g:=ih (l.erase (n:Int)) (hn.erase _) fun v m=>by
    have hm:=List.mem_of_mem_erase m
    have hb:=h v hm
    have s:v ≠ (n:Int):=by
     rintro rfl
     exact absurd m (List.Nodup.not_mem_erase hn)
    omega
   have f:l.length<=(l.erase (n:Int)).length+1:=by
    rw [List.length_erase]
    split <;> omega
   omega
 have:=few n l f fun x b=>(c x b).1
 omega
end Gr
namespace VL
open PySem PySem.Spec L2
theorem nodup_ix {α:Type} {xs:List α} (h:xs.Nodup) {i j:Nat} (hi:i < xs.length) (a:j < xs.length) (e:xs[i]=xs[j]):i=j:=by
 have p:=aA8.mp h
 rcases Nat.lt_trichotomy i j with q | q | q
 ·exact absurd e (p i j hi a q)
 ·exact q
 ·exact absurd e.symm (p j i a hi q)
section
variable {B:Bs} {env:En} {QO:Sl->En->Prop} {Q':PyData->En->Prop} {D':VEnds} {K:Frag} {i:Nat}
end
@[reducible] def prD (p:Int × Int):PyData:=.tuple [.int p.1,.int p.2]
@[reducible] def webD (n:Int) (es:List (Int × Int)):PyData:=.tuple [.int n,.list (es.map prD)]
def Tied (es:List (Int × Int)) (u v:Int):Prop:=(u,v)∈es\/(v,u)∈es
theorem Tied.symm {es:List (Int × Int)} {u v:Int} (h:Tied es u v):Tied es v u:=h.elim .inr .inl
theorem Tied.snoc {es:List (Int × Int)} {i:Nat} {a b:Int} (h:es[i]?=some (a,b)) (u v:Int):Tied (es.take (i+1)) u v ↔ (Tied (es.take i) u v\/(u=a/\v=b))\/(u=b/\v=a):=by
 have e:es.take (i+1)=es.take i ++ [(a,b)]:=by rw [aB4,h];rfl
 unfold Tied
 rw [e]
 simp only [av7,ax2,Prod.mk.injEq]
 constructor
 ·rintro ((h | ⟨rfl,rfl⟩) | (h | ⟨rfl,rfl⟩))
  ·exact .inl (.inl (.inl h))
  ·exact .inl (.inr ⟨rfl,rfl⟩)
  ·exact .inl (.inl (.inr h))
  ·exact .inr ⟨rfl,rfl⟩
 ·rintro (((h | h) | ⟨rfl,rfl⟩) | ⟨rfl,rfl⟩)
  ·exact .inl (.inl h)
  ·exact .inr (.inl h)
  ·exact .inl (.inr ⟨rfl,rfl⟩)
  ·exact .inr (.inr ⟨rfl,rfl⟩)
def TiedL (n:Int) (T:Int->Int->Prop) (tl:List (List Int)):Prop:=(tl.length:Int)=n/\∀ (i:Nat) ws,tl[i]?=some ws->∀ w,w∈ws ↔ T i w
def oD:Option Nat->PyData
 | none => .none
 | some d => .int d
def lab (n:Nat) (far:Int->Option Nat):List PyData:=(List.range n).map fun (i:Nat)=>oD (far (i:Int))
theorem af4 {α:Type} {f : α->PyData} {xs:List α} {i:Int} {x : α} (h:atI xs i=some x):atI (xs.map f) i=some (f x):=by
 unfold atI at h ⊢
 rw [av3]
 cases e:ixN xs.length i with
 | none=>rw [e] at h;cases h
 | some j=>rw [e] at h;simp at h ⊢;exact ⟨_,h,rfl⟩
theorem af5 {α:Type} {xs:List α} {i:Int} {x : α} (a:0<=i) (h:xs[i.toNat]?=some x):atI xs i=some x:=by
 have:=agh (xs:=xs) (j:=i.toNat) h
 rwa [show ((i.toNat:Nat):Int)=i by omega] at this
theorem TiedL.get {n:Int} {T:Int->Int->Prop} {tl:List (List Int)} (h:TiedL n T tl) {v:Int} (c:0<=v) (b:v < n):∃ ws,tl[v.toNat]?=some ws/\∀ w,w∈ws ↔ T v w:=by
 have a:v.toNat < tl.length:=by have:=h.1;omega
 refine ⟨tl[v.toNat],av0 a,fun w=>?_⟩
 rw [h.2 _ _ (av0 a) w,show ((v.toNat:Nat):Int)=v by omega]
theorem TiedL.put {n:Int} {T:Int->Int->Prop} {tl:List (List Int)} (h:TiedL n T tl) {v q:Int} {ws:List Int} (g:0<=v) (f:v < n) (c:tl[v.toNat]?=some ws):TiedL n (fun a b=>T a b\/(a=v/\b=q)) (tl.set v.toNat (ws ++ [q])):=by
 refine ⟨by rw [List.length_set];exact h.1,fun i us hi w=>?_⟩
 rw [ay2] at hi
 by_cases e:v.toNat=i
 ·rw [az7 e] at hi
  have j:v.toNat < tl.length:=(av1.mp c).1
  rw [az7 (by omega)] at hi
  cases hi
  have d:(i:Int)=v:=by omega
  rw [av7,ax2,h.2 i ws (by rw [← e];exact c) w,d]
  simp
 ·rw [az8 e] at hi
  rw [h.2 i us hi w]
  exact ⟨.inl,fun z=>z.elim id fun z=>by omega⟩
end VL
namespace VL
open PySem L2
end VL
namespace DI
open PySem PySem.W
def Raw (h:Heap) (d:Addr) (es:Array DictEntry) (ep:Nat):Prop:=∃ o,h.get? d=some o/\o.ExactDict/\o.data=.dict es ep
theorem Raw.keep {h h':Heap} {d:Addr} {es:Array DictEntry} {a:Nat} (r:Raw h d es a) (k:∀ o,h.get? d=some o->h'.get? d=some o):Raw h' d es a:=let ⟨o,e,x⟩:=r;⟨o,k o e,x⟩
theorem Raw.ty {s:Shared} {d:Addr} {es:Array DictEntry} {a:Nat} (r:Raw s.heap d es a):s.TypeIs (.ref d) "dict":=let ⟨o,e,x,_⟩:=r;⟨o,e,x.1⟩
section
variable {prog:Program} {w:World} {A:Around} {E:Value->Shared->Prop} {s:Shared} {d it:Addr} {es:Array DictEntry} {ep i:Nat}
theorem raw_iter {Q:Value->Shared->Prop} (hd:(d == sysModules)=false) (r:Raw s.heap d es ep)
  (c:Q (.ref s.heap.objs.size) { s with heap:=s.heap.push { cls:=.type "dict_keyiterator",data:=.fields #[.ref d,.int 0 0,.int es.size 0,.int ep 0] } }):wpAny (model prog w) A (pyIter (.ref d)) Q E s:=by
 obtain ⟨o,b,f,a⟩:=id r
 refine wpAny_pyIter_slot r.ty PySem.F.slot_dict_iter (wpAny_call_entry PySem.F.slot_dict_iter r.ty PySem.F.entry_dict_iter ?body (PySem.F.args_dict_iter_1 _))
 case body =>
  unfold Builtin.«dict.__iter__»
  refine aC3 ?slot
  case slot =>
   unfold Builtin.Dict.dictSlotNone
   refine aC3 (wpAny_notOrdered_dict r.ty ?pl)
   case pl =>
    show wpAny _ _ (pure (Value.ref d)) _ _ s
    refine aC4 ?rest
    case rest =>
     show wpAny _ _ (Builtin.Dict.showsAll d >>= _) _ _ s
     unfold Builtin.Dict.showsAll
     rw [az8 (by rw [hd];exact aw0)]
     refine aC3 (aC4 (aC3 (wpAny_dictEntries b a (aC3 (wpAny_dictEpoch b a (aC3 (aD0 (aC4 ⟨_,rfl,"dict_keyiterator",_,⟨_,aC7 _ rfl,rfl⟩,PySem.F.slot_dict_keyiterator_next.lookup,?fin⟩))))))))
     case fin=>simpa [rawInt] using c
theorem raw_item {Q:Option Value->Shared->Prop} (a:s.heap.IsKeyIter it d i es.size ep) (r:Raw s.heap d es ep) (hi:i < es.size)
  (u:∀ h',h'.IsKeyIter it d (i+1) es.size ep->Heap.SameBut it s.heap h'->Q (some es[i].key) { s with heap:=h' }):wpAny (model prog w) A (pyNext (.ref it)) Q E s:=by
 obtain ⟨o,q,x,hd⟩:=id a
 obtain ⟨od,p,v,n⟩:=r
 unfold pyNext
 refine aC3 (wpAny_attempt (wpAny_callSpecial?_slot (name:=Str.ofString "__next__") a.typeIs PySem.F.slot_dict_keyiterator_next (wpAny_call_entry PySem.F.slot_dict_keyiterator_next a.typeIs PySem.F.entry_dict_keyiterator_next ?b (PySem.F.args_dict_keyiterator_next_1 _))))
 case b =>
  refine aC3 (aC4 (aC3 (aC3 ?c)))
  case c =>
   first | refine aC3 (wpAny_typeNameOfWhole_keyiter a.typeIs (aC4 (aC3 (wpAny_fieldsOf q hd ?e)))) | refine aC3 (wpAny_typeNameOf_keyiter a.typeIs (aC4 (aC3 (wpAny_fieldsOf q hd ?e))))
   case e =>
    simp only [show Builtin.Dict_items.ownsTuple "dict_keyiterator" = false by decide,Bool.false_eq_true,if_false]
    show wpAny _ _ (if (Value.ref d == Value.none)=true then _ else _) _ _ s;rw [az8 (show ¬ ((Value.ref d == Value.none)=true) from aw0)]
    refine aC3 (aC4 (aC3 (wpAny_dictEntries p n ?f)))
    case f =>
     rw [az8 (by simp)];refine aC3 (aC4 (aC3 (wpAny_dictEpoch p n ?g)))
     case g =>
      rw [az8 (by simp)];refine aC4 ?h
      case h =>
       simp only [show ¬ ((i:Int) < 0) by omega,if_false,Int.toNat_natCast,av4 hi];refine aC3 ?j
       case j =>
        first | refine aC3 (wpAny_typeNameOfWhole_keyiter a.typeIs (aC4 (aC3 (wpAny_isOneOf_keyiter a.typeIs ?k)))) | refine aC3 (wpAny_typeNameOf_keyiter a.typeIs (aC4 (aC3 (wpAny_isOneOf_keyiter a.typeIs ?k))))
        case k =>
         show wpAny _ _ (setField (.ref it) 1 (rawInt ((i:Int)+1)) >>= _) _ _ s;refine aC3 (wpAny_setField q hd (by simp) ?l)
         case l =>
          have nx:(s.heap.update it (Obj.mapFields (·.setIfInBounds 1 (rawInt ((i:Int)+1))))).IsKeyIter it d (i+1) es.size ep:=⟨_,Heap.get?_update_self _ q (Obj.isFreed_of_fields (Obj.data_mapFields hd _)),(Obj.cls_mapFields ..).trans x,by rw [Obj.data_mapFields hd];simp [rawInt]⟩
          refine aC3 (aC8 (aC3 (wpAny_isOneOf_keyiter (s:={ s with heap:=s.heap.update it (Obj.mapFields (·.setIfInBounds 1 (rawInt ((i:Int)+1)))) }) nx.typeIs ?m)))
          case m=>show wpAny _ _ (pure es[i].key) _ _ _;exact aC4 (aC4 ⟨_,rfl,aC4 (u _ nx (Heap.SameBut.update ..))⟩)
theorem raw_end {Q:Option Value->Shared->Prop} (hh:A.handled=none) (i:s.heap.IsKeyIter it d es.size es.size ep) (r:Raw s.heap d es ep) (v:∀ h',Heap.ExtBut it s.heap h'->Q none { s with heap:=h' }):wpAny (model prog w) A (pyNext (.ref it)) Q E s:=by
 obtain ⟨o,u,y,hd⟩:=id i
 obtain ⟨od,p,x,n⟩:=r
 unfold pyNext
 refine aC3 (wpAny_attempt (wpAny_callSpecial?_slot (name:=Str.ofString "__next__") i.typeIs PySem.F.slot_dict_keyiterator_next (wpAny_call_entry PySem.F.slot_dict_keyiterator_next i.typeIs PySem.F.entry_dict_keyiterator_next ?b (PySem.F.args_dict_keyiterator_next_1 _))))
 case b =>
  refine aC3 (aC4 (aC3 (aC3 ?c)))
  case c =>
   first | refine aC3 (wpAny_typeNameOfWhole_keyiter i.typeIs (aC4 (aC3 (wpAny_fieldsOf u hd ?e)))) | refine aC3 (wpAny_typeNameOf_keyiter i.typeIs (aC4 (aC3 (wpAny_fieldsOf u hd ?e))))
   case e =>
    simp only [show Builtin.Dict_items.ownsTuple "dict_keyiterator" = false by decide,Bool.false_eq_true,if_false]
    show wpAny _ _ (if (Value.ref d == Value.none)=true then _ else _) _ _ s;rw [az8 (show ¬ ((Value.ref d == Value.none)=true) from aw0)]
    refine aC3 (aC4 (aC3 (wpAny_dictEntries p n ?f)))
    case f =>
     rw [az8 (by simp)];refine aC3 (aC4 (aC3 (wpAny_dictEpoch p n ?g)))
     case g =>
      rw [az8 (by simp)];refine aC4 ?h
      case h =>
       simp only [show ¬ ((es.size:Int) < 0) by omega,if_false,Int.toNat_natCast,Array.getElem?_eq_none (av6 es.size)];refine aC3 ?j
       case j =>
        first | refine aC3 (wpAny_typeNameOfWhole_keyiter i.typeIs (aC4 ?k)) | refine aC3 (wpAny_typeNameOf_keyiter i.typeIs (aC4 ?k))
        case k =>
         show wpAny _ _ (setField (.ref it) 0 .none >>= _) _ _ s;refine aC3 (wpAny_setField u hd (by simp) ?l)
         case l =>
          show wpAny _ _ (newExc (.type "StopIteration") [] >>= _) _ _ _;refine aC3 ?m
          case m =>
           simp only [newExc,newTuple];refine aC3 (aD0 ?zz2 (by size_fits))
           case zz2 =>
            refine aC3 (m:=firstArgMember _ _) (wpAny_of_eq (a:=Value.none) (by first | rfl | (simp only [firstArgMember];rfl)) (aD0 ?zz1 (by size_fits)))
            case zz1 =>
             simp only [raiseNew];refine aC3 (wpAny_handled ?q)
             case q =>
              rw [show A.in1.handled=none from hh];refine aC3 (aC4 (wpAny_throw ?u1))
              case u1=>refine aC3 (wpAny_isInstance (T:="StopIteration") (b:=true) ⟨_,aC7 _ rfl,rfl⟩ isSubtype_stop ?u2);exact aC4 (v _ (((Heap.SameBut.update ..).extBut.push _).push _))
end
theorem walks {prog:Program} {w:World} {A:Around} (hh:A.handled=none) (I d:Addr) (c:d ≠ I) (es:Array DictEntry) (f:Nat) :
  Walks prog w A I [I,d] [I] es.size (fun i v=>(es[i]?).map (·.key)=some v) (fun i h=>h.IsKeyIter I d i es.size f/\Raw h d es f) where
 sub:=fun b hb=>by simp at hb;simp [hb]
 frame:=fun _ _ _ st g=>⟨st.1.at fun o e=>g I (by simp) o e,st.2.keep fun o e=>g d (by simp) o e⟩
 item:=fun i s Q E hi st a=>raw_item st.1 st.2 hi fun h' nx sb=>a _ h' s.toks (by rw [av4 hi];rfl) ⟨nx,st.2.keep fun o e=>sb.extBut d o c e⟩ fun b o hb e=>sb.extBut b o (fun z=>hb (by simp [z])) e
 done:=fun s Q E st a=>raw_end hh st.1 st.2 fun h' j=>a h' s.toks fun b o hb e=>j b o (fun z=>hb (by simp [z])) e
 self:=fun _ _ _ _ st a=>wpAny_pyIter_keyiter st.1 a
end DI
namespace DI
open PySem PySem.W PyProof.Rows
section
variable {prog:Program} {w:World} {A:Around} {E:Value->Shared->Prop} {s:Shared}
theorem src (d:Addr) (es:Array DictEntry) (a:Nat) (hd:(d == sysModules)=false):KdlSrc prog w "dict" d d es.size (fun i v=>(es[i]?).map (·.key)=some v) (fun h=>Raw h d es a) where
 type:=fun s r=>r.ty
 there:=fun h r=>let ⟨o,e,_⟩:=r;⟨aC6 e,aC6 e⟩
 keep:=fun h h' r k=>r.keep fun o e=>k d (.inl rfl) o e
 notList:=by decide
 notTuple:=by decide
 hint:=fun A E s Q r q=>kdl_hint_dict r.ty q
 iter:=fun A s hh r=>⟨{ cls:=.type "dict_keyiterator",data:=.fields #[.ref d,.int 0 0,.int es.size 0,.int a 0] },fun i h=>h.IsKeyIter s.heap.objs.size d i es.size a/\Raw h d es a,fun E Q q=>raw_iter hd r q,
  walks hh s.heap.objs.size d (by obtain ⟨o,e,_⟩:=r;exact aw6 (aC6 e)) es a,⟨_,aC7 _ rfl,rfl,rfl⟩,r.keep fun o e=>aC5 _ e⟩
theorem collect_src {T:String} {r d:Addr} {n:Nat} {P:Nat->Value->Prop} {j:Heap->Prop} {Q:List Value->Shared->Prop} (K:KdlSrc prog w T r d n P j) (hh:A.handled=none) (hok:j s.heap) (hn:n<=sizeLine)
  (q:∀ h' i (f:Array Value),(∀ b o,s.heap.get? b=some o->h'.get? b=some o)->s.heap.objs.size<=h'.objs.size->ItemsOf P f n->Q f.toList { s with heap:=h',toks:=i }):wpAny (model prog w) A (collect (.ref r)) Q E s:=by
 unfold collect
 refine aC3 (wpAny_runValue (aD3 PySem.F.entry_proto_collect ?a1))
 case a1 =>
  rw [aD1 PySem.F.plain_proto_collect _];show wpAny _ A.in1 (newList [] >>= fun l=>again (.builtin "list.__iadd__" ⟨[l,.ref r],[]⟩)) _ _ s
  refine aC3 (aD0 (aC4 ⟨plainId_quiet PySem.F.plain_list_iadd _,aD3 PySem.F.entry_list_iadd ?a2⟩))
  case a2 =>
   rw [aD1 PySem.F.plain_list_iadd _];show wpAny _ A.in1 (Builtin.List.listExtendWith (.ref s.heap.objs.size) (.ref r) (.ref s.heap.objs.size)) _ _ _
   have u:(s.heap.push { cls:=.type "list",data:=.seq ([]:List Value).toArray }).get? s.heap.objs.size=some { cls:=.type "list",data:=.seq #[] 0 }:=aC7 _ rfl
   obtain ⟨x,p⟩:=K.there _ hok
   refine kdl_extend (R:=wants (fun v m=>wpAny (model prog w) A (match v with | .ref a=>(do match (← load a).data with | .seq xs _=>pure xs.toList | _=>unsupported "internal:collect") | _=>unsupported "internal:collect") Q E m) E) (s:={ s with heap:=s.heap.push { cls:=.type "list",data:=.seq ([]:List Value).toArray } }) K hh (K.keep _ _ hok fun b _ o e=>aC5 _ e) s.heap.objs.size (Nat.ne_of_gt x) (Nat.ne_of_gt p) _ 0 u (fun h' i f c k h g=>?a3) hn
   case a3 =>
    show wpAny (model prog w) A _ Q E _
    refine aC3 (wpAny_load h ?a4)
    case a4=>exact aC4 (q h' i f (fun b o e=>k b o (aw6 (aC6 e)) (aC5 _ e)) (aA6 (aC6 h)) g)
end
end DI
namespace TS
open PySem PySem.W PyProof.Rows
section
variable {prog:Program} {w:World} {A:Around} {E:Value->Shared->Prop} {s:Shared}
theorem sorted_gen {l:Addr} {Ok:List Value->Prop} {Q:Value->Shared->Prop}
  (j:∀ (D:List Value->Shared->Prop),(∀ vs h d,(∀ b o,s.heap.get? b=some o->h.get? b=some o)->s.heap.objs.size<=h.objs.size->Ok vs->D vs { s with heap:=h,toks:=d })->wpAny (model prog w) A.in1 (collect (.ref l)) D E s)
  (c:∀ vs,Ok vs->vs.length<=sizeLine)
  (u:∀ vs,Ok vs->2<=vs.length->∀ h' d,(∀ b o,s.heap.get? b=some o->h'.get? b=some o)->∃ κ S R,(∀ (Q:SortKind->Shared->Prop),Q κ { s with heap:=h',toks:=d }->wpAny (model prog w) A.in1.in1 (keyKind' vs.toArray) Q E { s with heap:=h',toks:=d }) /\
   Cmp (model prog w) A.in1.in1 E { s with heap:=h',toks:=d } κ S R/\(∀ v∈vs,S (v,v))/\∀ out:List Value,out.Perm vs->out.Pairwise (fun x y=>R (y,y) (x,x)=false) ->
    ∀ a h' d e,(∀ b o,s.heap.get? b=some o->h'.get? b=some o)->s.heap.objs.size<=a->h'.get? a=some (seqObj "list" out.toArray e)->Q (.ref a) { s with heap:=h',toks:=d })
  (h:∀ vs,Ok vs->vs.length < 2->∀ a h' d e,(∀ b o,s.heap.get? b=some o->h'.get? b=some o)->s.heap.objs.size<=a->h'.get? a=some (seqObj "list" vs.toArray e)->Q (.ref a) { s with heap:=h',toks:=d }) :
  wpAny (model prog w) A (call (.builtin "sorted") [.ref l]) Q E s:=by
 refine Calls.call_function_entry kind_sorted plain_sorted entry_sorted (args_sorted1 _) ?_
 unfold Builtin.«sorted»
 refine aC3 (m:=checkCount "sorted" 1 1 _) (aC4 (aC3 (j _ fun vs g d kp hsz B=>?_)))
 have c:=c vs B
 refine aC3 (wpAny_newList ?_ c)
 have f:(g.push (seqObj "list" vs.toArray 0)).get? g.objs.size=some (seqObj "list" vs.toArray 0):=aC7 _ rfl
 have keep:∀ b o,s.heap.get? b=some o->(g.push (seqObj "list" vs.toArray 0)).get? b=some o:=fun b o q=>aC5 _ (kp b o q)
 refine aC3 (aC8 (wpAny_call_entry slot_list_sort ⟨_,f,rfl⟩ entry_list_sort ?body (args_list_sort _)))
 case body =>
  have fin:∀ out:List Value,∃ e,(sortedHeap (g.push (seqObj "list" vs.toArray 0)) g.objs.size vs out.toArray).get? g.objs.size=some (seqObj "list" out.toArray e):=fun out=>sortedHeap_at (n:=0) f
  have old:∀ (out:List Value) b o,s.heap.get? b=some o->(sortedHeap (g.push (seqObj "list" vs.toArray 0)) g.objs.size vs out.toArray).get? b=some o:=fun out b o e=>by
   have lt:=aC6 (kp b o e)
   rw [sortedHeap_old (aw6 lt) (by rw [size_push'];exact Nat.lt_succ_of_lt lt)];exact keep b o e
  refine ah5 (s:={ s with heap:=g.push (seqObj "list" vs.toArray 0),toks:=d }) f c (fun p h' J=>?_) fun r=>?_
  ·obtain ⟨κ,S,R,H,C,G,i⟩:=u vs B p h' d fun b o e=>J b o (aw6 (aC6 (kp b o e))) (keep b o e)
   refine ⟨κ,S,R,H,C,G,fun out I F=>⟨_,rfl,aC4 ⟨_,rfl,?_⟩⟩⟩
   obtain ⟨e,z⟩:=fin out
   exact i out I F _ _ _ e (old out) hsz z
  ·obtain ⟨e,z⟩:=fin vs
   exact ⟨_,rfl,aC4 ⟨_,rfl,h vs B r _ _ _ e (old vs) hsz z⟩⟩
end
end TS
namespace L2
open PySem PySem.Spec PyProof.Rows
section
variable {X:Cx} {pins:List (Addr × Obj)} {σ:St} {H:Hp} {s:Shared} {h':Heap}
end
section
variable {X:Cx} {elts:List Expr} {k:Nat} {tpos:Pos}
end
section
variable {X:Cx} {elts:List Expr} {k:Nat} {tpos:Pos}
end
theorem alb:∀ {xs:List V} {us:List Value},xs.length=us.length->(∀ (i:Nat) v u,xs[i]?=some v->us[i]?=some u->RelV v u)->Vals xs us
 | [],[],_,_ => .nil
 | [],_ :: _,h,_=>by simp at h
 | _ :: _,[],h,_=>by simp at h
 | x :: xs,u :: us,h,k => .cons (k 0 x u rfl rfl) (alb (by simpa using h) fun i v w a b=>k (i+1) v w (by simpa using a) (by simpa using b))
theorem akj (prog:Program) (w:World) (A:Around) {bs:List Bool} {us:List Value} (r:Vals (bs.map V.bl) us):TruthOf prog w A (fun i v=>us.toArray[i]?=some v) (fun i=>bs.getD i false):=by
 intro i v s Q E c h
 have a:us[i]?=some v:=by simpa using c
 have hi:i < us.length:=(av1.mp a).1
 have hb:i < bs.length:=by have:=r.length;simp at this;omega
 obtain ⟨u,b,d⟩:=r.get (i:=i) (x:=.bl bs[i]) (by simp [hb])
 rw [a] at b;cases b
 cases (show v=Value.bool bs[i] from d)
 have e:bs.getD i false=bs[i]:=by simp [List.getD,hb]
 have h':Q (bs.getD i false) s:=h
 rw [e] at h'
 exact aD2 h'
section
variable {X:Cx}
theorem ano (bs:List Bool):((List.range bs.length).all fun i=>bs.getD i false)=bs.all id:=by
 rw [aB6,az6,az6]
 constructor
 ·intro h b hb
  obtain ⟨i,hi,e⟩:=List.mem_iff_getElem.mp hb
  have:=h i (aw9.mpr hi)
  simp [List.getD,hi,e] at this
  exact this
 ·intro h i hi
  have a:=aw9.mp hi
  have:=h bs[i] (List.getElem_mem a)
  simp [List.getD,a];exact this
def rAll (K:Frag):List V->Hp->VK->Prop:=fun xs H Q=>∃ (a:Addr) (bs:List Bool),xs=[.ref a]/\SqL K H a (bs.map V.bl)/\Q (.bl (bs.all id)) H
theorem aen (j:X.calm=true):aa2 X (.builtin "all") (rAll X.K):=by
 intro pins s σ H xs us Q I r h
 obtain ⟨a,bs,rfl,ha,q⟩:=h
 obtain ⟨u,rfl,i⟩:=aby r
 cases i
 obtain ⟨its,d,c,_⟩:=I.list ha
 have g:a < s.heap.objs.size:=by obtain ⟨o,n,e,_⟩:=c;exact aC6 e
 have f:its.toArray.size=bs.length:=by have:=d.length;simp at this;simp [this]
 refine call_all_walk (wpAny_pyIter_list c.isList ⟨_,[s.heap.objs.size,a],_,_,_,_,_,rfl,Walks.list (A:=X.A.in1) (I.ok.hd j) _ a (aw6 g) its.toArray,⟨⟨_,aC7 _ rfl,rfl,rfl⟩,c.isList.push _⟩,akj _ _ _ d,fun l m kp=>?_⟩)
 rw [f,ano]
 refine ⟨.bl _,H,I.kept fun b o e=>kp b o (fun z=>?_) (aC5 _ e),rfl,q⟩
 exact absurd (aC6 e) (by rw [ax2.mp z];exact aA5 _)
def aju (K:Frag):List V->Hp->VK->Prop:=fun xs H Q=>∃ p ys,xs=[.ref p]/\(SqL K H p ys\/SqT K H p ys)/\∀ l,H l=none->Q (.ref l) (upd H l (.lst ys))
theorem al8:aa2 X (.type "list") (aju X.K):=aiu
end
section
variable {X:Cx} {pins:List (Addr × Obj)} {σ:St} {H:Hp} {s:Shared}
theorem Inv.toFrz {a:Addr} {o:Obj} {u:HO} (I:Inv X pins σ H s) (e:H a=some u) (l:s.heap.get? a=some o) (g:∀ xs,u ≠ .tup xs) (j:∀ o v,u ≠ .frz o v) (nb:∀ ps,u ≠ .tbl ps) (h:∀ x,u ≠ .own x):Inv X pins σ (upd H a (.frz o u)) s:=by
 have ne:∀ b v,H b=some v->v ≠ u->b ≠ a:=fun b v f i z=>by subst z;rw [e] at f;exact i (ax6 f).symm
 have J:=I.un (t':=s.toks) (H':=upd H a (.frz o u)) (h':=s.heap) ⟨fun b o q _ _ _=>q,fun b o q _ _ _=>⟨o.slots,q⟩,fun b o q n _=>by rw [aac (aah e n).symm];exact n,fun b o q _=>⟨o,q⟩,fun b xs q=>by rw [aac (ne b _ q (fun z=>g xs z.symm))];exact q,
  fun b w v q=>by rw [aac (ne b _ q (fun z=>j w v z.symm))];exact q,fun b ps q=>⟨#[],by rw [aac (ne b _ q (fun z=>nb ps z.symm)),q];simp⟩⟩ fun b v q=>?_
 ·exact J
 ·have st:∀ c v,ObjOk X.prog X.w H s.heap c v->ObjOk X.prog X.w (upd H a (.frz o u)) s.heap c v:=fun c v x=>x.stay (fun _ _ _ q=>q) (fun d q=>by rw [aac (ne d _ q (fun z=>h c z.symm))];exact q) fun d xs q=>by rw [aac (ne d _ q (fun z=>g xs z.symm))];exact q
  by_cases hb:b=a
  ·subst hb;rw [aag] at q;cases q
   exact ⟨l,st _ _ (I.hok b u e)⟩
  ·rw [aac hb] at q
   exact st _ _ (I.hok b v q)
end
def Itd (a:Addr) (kvs:List (List Key × V)) (o:Obj):It :=
 ⟨fun i H=>i < kvs.length/\H a=some (.frz o (.dT kvs)),fun i H x H'=>H'=H/\∃ b k,x=.ref b/\H b=some (.tup (k.map kV))/\(kvs[i]?).map (·.1)=some k,fun i H=>kvs.length=i/\H a=some (.frz o (.dT kvs))⟩
theorem KT.get {H:Hp}:∀ {kvs:List (List Key × V)} {xs:List (List Key × Addr × Value)} {i:Nat} {p:List Key × V},KT H kvs xs->kvs[i]?=some p->∃ q,xs[i]?=some q/\p.1=q.1/\H q.2.1=some (.tup (p.1.map kV))
 | _,_,_,_,.nil,e=>by simp at e
 | _,_,0,_,.cons r _,e=>by simp at e;subst e;exact ⟨_,rfl,r.1,r.2.1⟩
 | _,_,i+1,p,.cons _ t,e=>by
  obtain ⟨q,a,b⟩:=KT.get (i:=i) (p:=p) t (by simpa using e)
  exact ⟨q,by simpa using a,b⟩
theorem ar6 {P:Program} {w:World} {K:Frag} {tg:Expr} (a it:Addr) {kvs:List (List Key × V)} {o:Obj} {es:Array DictEntry} {O:Nat} (N:o.ExactDict) (hd:o.data=.dict es O) (hz:es.size=kvs.length) (hn:a ≠ it) :
  Turn P w K tg (Itd a kvs o) [it] it (fun i h=>h.IsKeyIter it a i es.size O) where
 mem:=by simp
 obj:=fun i h st b hb=>by
  have e:b=it:=by simpa using hb
  subst e
  obtain ⟨u,e,c,d⟩:=st
  exact ⟨u,e,fun v z=>by rw [d] at z;cases z⟩
 keep:=fun i h h' st q=>st.at fun u e=>q it (by simp) u e
 item:=by
  intro X r F m R i pins s σ H E I hf st D
  subst r F m
  obtain ⟨hi,n⟩:=D
  have g:i < es.size:=by omega
  obtain ⟨j,z,y,xs,l,o',a0,Z,L,h2,M,U,h5⟩:=(show ObjOk X.prog X.w H s.heap a (.frz o (.dT kvs)) from I.hok a _ n)
  rw [j] at L;cases L
  rw [hd] at M;cases M
  obtain ⟨p,Q⟩:∃ p,kvs[i]?=some p:=⟨_,av0 hi⟩
  obtain ⟨q,hq,S,J⟩:=KT.get l Q
  have f:es[i].key=.ref q.2.1:=by
   have:es.toList[i]?=some es[i]:=by simp [g]
   rw [U,av5,hq] at this
   simp at this
   rw [← this];rfl
  obtain ⟨x,G,W,A,B,C⟩:=hf it (by simp)
  refine DI.raw_item st ⟨o,j,N,hd⟩ g fun h' nx sb=>?_
  rw [f]
  have T:Inv X pins σ H { s with heap:=h' }:=I.turned (t':=s.toks) (fun b u hb e=>(sb.2 b hb).trans e) x G A B C
  obtain ⟨u,e,c,d⟩:=id nx
  exact ⟨_,rfl,ah8 (s:={ s with heap:=h' }) e c d (by decide) ⟨.ref q.2.1,H,T,rfl,⟨rfl,q.2.1,p.1,rfl,J,by rw [Q];rfl⟩,nx,fun b hb=>(hf b hb).1⟩⟩
 done:=by
  intro X r F m R i pins s σ H E I hf st D
  subst r F m
  obtain ⟨hi,n⟩:=D
  obtain ⟨j,_⟩:=(show ObjOk X.prog X.w H s.heap a (.frz o (.dT kvs)) from I.hok a _ n)
  obtain ⟨x,G,W,A,B,C⟩:=hf it (by simp)
  have e:i=es.size:=by omega
  subst e
  exact DI.raw_end (I.ok.hd R) st ⟨o,j,N,hd⟩ fun h' Y=>⟨rfl,I.turned (t':=s.toks) (fun b u hb e=>Y b u hb e) x G A B C⟩
 self:=fun _ _ _ _ _ st h=>wpAny_pyIter_keyiter st h
section
variable {X:Cx} {tg:Expr}
def iDT (te:TE):TI:=fun σ H R=>te σ H fun x H1=>∃ a kvs,x=.ref a/\H1 a=some (.dT kvs)/\∀ o,R (Itd a kvs o) (upd H1 a (.frz o (.dT kvs)))
theorem avb {l:Expr} {te:TE} (A:PE X l te):PI X tg l (iDT te):=by
 intro pins s σ H R I h
 refine thn (A pins s σ H _ I h) fun v s1 ⟨x,C,j,n,a,kvs,ex,m,q⟩=>?_
 subst ex
 cases n
 obtain ⟨z,y,xs,f,o,es,D,c,i,g,B,E⟩:=(show ObjOk X.prog X.w C s1.heap a (.dT kvs) from j.hok a _ m)
 have r:es.size=kvs.length:=by
  have p:es.toList.length=xs.length:=by rw [B];simp
  have F:=Paired.length f
  simp at p;omega
 have J:=j.toFrz (u:=.dT kvs) m c (fun _ z=>nomatch z) (fun _ _ z=>nomatch z) (fun _ z=>nomatch z) fun _ z=>nomatch z
 have d:a < s1.heap.objs.size:=aC6 c
 refine DI.raw_iter y ⟨o,c,i,g⟩ ⟨s1.heap.objs.size,[s1.heap.objs.size],_,_,_,rfl,J.kept (t':=s1.toks) fun b u e=>aC5 _ e,ar6 a _ i g r (aw6 d),⟨_,aC7 _ rfl,rfl,rfl⟩,fun b hb=>?_,q o⟩
 have e:b=s1.heap.objs.size:=by simpa using hb
 subst e
 exact J.fpOk (av6 _) (J.hok.fresh (av6 _))
def ae5:List V->Hp->VK->Prop:=fun xs H Q=>∃ (a:Addr) (kvs:List (List Key × V)) (kss:List (List Int)),xs=[.ref a]/\H a=some (.dT kvs)/\kvs.map (·.1)=kss.map (fun ns=>ns.map Sum.inl)/\(∀ ns∈kss,ns ≠ []) /\
 ∀ (vs:List V) (p:Addr),(∀ v∈vs,TupI H v)->(vs.map (kH H)).Perm kss->vs.Pairwise (fun x y=>HT.lexLt (kH H y) (kH H x)=false)->H p=none->Q (.ref p) (upd H p (.lst vs))
theorem alc {H:Hp}:∀ {kvs:List (List Key × V)} {xs:List (List Key × Addr × Value)} {a:List (List Int)},KT H kvs xs->kvs.map (·.1)=a.map (fun ns=>ns.map Sum.inl)->(∀ ns∈a,ns ≠ []) ->
  (∀ v∈xs.map (fun q=>V.ref q.2.1),TupI H v)/\(xs.map (fun q=>V.ref q.2.1)).map (kH H)=a
 | _,_,[],.nil,_,_=>⟨fun v b=>by simp at b,rfl⟩
 | _,_,_ :: _,.nil,h,_=>by simp at h
 | _,_,[],.cons _ _,h,_=>by simp at h
 | p :: kvs,q :: xs,ns :: a,.cons r t,h,hn=>by
  simp only [ay1,List.cons.injEq] at h
  obtain ⟨d,f⟩:=alc t h.2 fun c hm=>hn c (aw5 _ hm)
  have e:H q.2.1=some (.tup (ns.map V.int)):=by
   rw [r.2.1,h.1,ay8];rfl
  refine ⟨fun v b=>?_,?_⟩
  ·rcases av9.mp b with rfl | b
   ·exact ⟨_,ns,rfl,e,hn ns aw8⟩
   ·exact d v b
  ·rw [ay1,ay1,al2 e,f]
theorem akk (hc:X.calm=true):aa2 X (.builtin "sorted") ae5:=by
 intro pins s σ H xs us Q I r h
 obtain ⟨a,kvs,a1,rfl,hH,hk,K,q⟩:=h
 obtain ⟨u,rfl,ru⟩:=aby r
 cases ru
 obtain ⟨z,y,ys,n,o,es,R,h1,m,h3,M,h5⟩:=(show ObjOk X.prog X.w H s.heap a (.dT kvs) from I.hok a _ hH)
 obtain ⟨L,Y⟩:=alc n hk K
 have hz:es.size=ys.length:=by
  have e1:es.toList.length=ys.length:=by rw [M];simp
  simpa using e1
 have f:ys.length<=sizeLine:=by have:=Paired.length n;omega
 let c:List Value:=ys.map fun q => .ref q.2.1
 have O:Vals (ys.map fun q=>V.ref q.2.1) c:=alb (by simp [c]) fun i v u d A=>by
  rw [av5] at d A
  cases e:ys[i]? with
  | none=>rw [e] at d;cases d
  | some q=>rw [e] at d A;cases d;cases A;rfl
 obtain ⟨J,N⟩:=ahg O L
 have fin:∀ out:List Value,out.Perm c->(out.map adz).Pairwise (fun x y=>HT.lexLt (kH H y) (kH H x)=false)->∀ p m g e,(∀ b o,s.heap.get? b=some o->m.get? b=some o)->s.heap.objs.size<=p->m.get? p=some (seqObj "list" out.toArray e)->EP X pins σ Q (.ref p) { s with heap:=m,toks:=g }:=by
  intro out j E p m g e kp hsz he
  have d:Vals (out.map adz) out:=ahf fun u A=>J u (j.mem_iff.mp A)
  refine ⟨.ref p,_,I.laid (t':=g) (o:=.lst (out.map adz)) kp hsz ?_,rfl,q _ _ (fun v G=>?_) ?_ E (I.hok.fresh hsz)⟩
  ·refine ⟨by rw [av3,j.length_eq];simp [c];exact f,out,e,d,by rw [he]⟩
  ·have:=(j.map adz).mem_iff.mp G
   rw [N] at this;exact L v this
  ·have:=(j.map adz).map (kH H)
   rw [N,Y] at this;exact this
 refine TS.sorted_gen (Ok:=fun vs=>vs=c) (fun Qc F=>DI.collect_src (DI.src a es R y) (I.ok.hd hc) ⟨o,h1,m,h3⟩ (by omega) fun h' g l kp hsz items=>F _ h' g kp hsz ?_) (fun vs e=>by subst e;simp [c];exact f) (fun vs e a0 h' g kp=>?_) fun vs e C=>?_
 ·obtain ⟨i1,Z⟩:=items
  apply aA3
  intro i
  simp only [c,av5]
  by_cases hi:i < ys.length
  ·have ha:l[i]?=some l[i]:=av4 (by omega)
   have:(es[i]?).map (·.key)=some l[i]:=Z i _ ha
   have P:es[i]?=some es[i]:=av4 (by omega)
   rw [P] at this
   have D:es.toList[i]?=some es[i]:=by rw [ay4];exact P
   rw [M,av5,av0 hi] at D
   rw [av0 hi]
   simp at this D
   rw [ay4,ha,← this,← D];rfl
  ·rw [az9.mpr (by simp;omega),az9.mpr (by omega)];rfl
 ·subst e
  obtain ⟨⟨fs,k1,k2,k3⟩,k4⟩:=ajk I kp O L
  have B:(Value.type "int" != Value.type "tuple")=true:=by rfl
  refine ⟨tuples' true,TS.tS h' (fun a=>kH H (.ref a)),TS.tR (fun a=>kH H (.ref a)),fun Q' F=>?_,TS.cmp_tups (s:={ s with heap:=h',toks:=g }) (fun a=>kH H (.ref a)),fun v d=>?_,fun out j E=>fin out j ?_⟩
  ·refine PySem.W.kat_kind (T:=.type "int") (s:={ s with heap:=h',toks:=g }) k1 (by omega) (fun v d=>?_) (by rfl) ?_
   ·obtain ⟨i,t,rfl⟩:=k3 v d
    exact .now
   ·rw [B];exact F
  ·obtain ⟨a,e,S⟩:=k4 v d
   exact ⟨rfl,a,e,S⟩
  ·rw [aA2]
   refine aB8 ?_ E
   intro x y hx hy U
   obtain ⟨ax,rfl⟩:=J x (j.mem_iff.mp hx)
   obtain ⟨ay,rfl⟩:=J y (j.mem_iff.mp hy)
   exact U
 ·subst e
  exact fin c (List.Perm.refl _) (ao4 (by rw [av3];exact C))
end
end L2
namespace VL
open PySem PySem.Spec L2
section
variable {B:Bs} {env:En} {QI:List PyData->En->Prop} {QO:Sl->En->Prop} {Q':PyData->En->Prop} {K:Frag} {i:Nat} {ta:TA}
theorem RpT.len {G:Hp}:∀ {kvs:List (List Key × V)} {es:List (List Key × PyData)},RpT G kvs es->kvs.length=es.length/\kvs.map (·.1)=es.map (·.1)
 | _,_,.nil=>⟨rfl,rfl⟩
 | _,_,.cons _ t=>by
  obtain ⟨a,b⟩:=RpT.len t
  exact ⟨by simp [a],by simp [b]⟩
theorem afj {G:Hp}:∀ (a:List Key),Rps G (a.map kV) (a.map kD)
 | [] => .nil
 | .inl i :: r => .cons (.int i) (afj r)
 | .inr x :: r => .cons (.str x) (afj r)
@[reducible] def tkD (ks:List Key):PyData:=.tuple (ks.map kD)
theorem auh {es:List (List Key × PyData)} (e:env[i]?=some (some (.own (OT es)))) (q:QI (es.map fun p=>tkD p.1) (env.set i none)):EvI B (iDT (tVar i)) env QI:=fun σ G H F R I k=>by
 obtain ⟨v,w,⟨a,kvs,rfl,ha,rt,hf⟩,hb⟩:=I.sl i _ e
 refine ⟨_,w,a,kvs,rfl,ha,fun o=>?_⟩
 have c:F i a:=(hf a).mpr rfl
 have D:=(I.drop i).aside (p:=a) (o:=.frz o (.dT kvs)) (fun _ z=>nomatch z) (I.fg i a c) (fun j z=>by
  by_cases h:j=i
  ·subst h;exact putF_same.mp z
  ·rw [aau h] at z;exact h (I.fd j i a z c)) (hb a c)
 have J:=D.freeze (Fv:=(· = a)) (fun b z=>by rw [z];exact hb a c) (fun j b z y=>by
  rw [z] at y
  by_cases h:j=i
  ·subst h;exact putF_same.mp y
  ·rw [aau h] at y;exact h (I.fd j i a y c)) (fun b z=>by rw [z];exact I.fg i a c)
 have r:jn G (upd H a (.frz o (.dT kvs))) (· = a) a=some (.frz o (.dT kvs)):=(af0 (F:=(· = a)) rfl).trans aag
 obtain ⟨A,s⟩:=RpT.len rt
 refine k _ _ _ _ _ _ J (aba fun b z=>by rw [z];exact I.fg i a c) ⟨fun n G' H' g h hn=>⟨by simp at hn;omega,h _ _ (g _ _ r)⟩,fun n G' H' g h hn=>⟨by simp at hn;omega,h _ _ (g _ _ r)⟩,fun n G' H' x H'' d g h ft hd y=>?_⟩ q
 obtain ⟨rfl,b,f,rfl,m,u⟩:=y
 have:d=tkD f:=by
  rw [av5] at hd
  cases e2:es[n]? with
  | none=>rw [e2] at hd;cases hd
  | some p =>
   rw [e2] at hd;cases hd
   have l:(kvs.map (·.1))[n]?=some f:=by rw [av5];exact u
   rw [s,av5,e2] at l
   simp at l
   show tkD p.1=tkD f;rw [l]
 subst this
 exact ⟨G',Out.refl h (.tup (ft b f m) (afj f))⟩
@[reducible] def tiD (ns:List Int):PyData:=.tuple (ns.map .int)
def lexS (pss:List (List Int)):Prop:=pss.Pairwise fun x y=>HT.lexLt y x=false
theorem ajv {G H:Hp} (ft:FT G H):∀ {vs:List V},(∀ v∈vs,TupI H v)->Rps G vs ((vs.map (kH H)).map tiD)
 | [],_ => .nil
 | v :: vs,h=>by
  obtain ⟨t,ns,rfl,e,_⟩:=h v aw8
  rw [ay1,ay1,al2 e]
  have:(ns.map V.int)=(ns.map (fun i=>(Sum.inl i:Key))).map kV:=by rw [ay8];rfl
  refine .cons (.tup ?_ (Rps.ints ns)) (ajv ft fun u a=>h u (aw5 _ a))
  rw [this];exact ft t _ (by rw [← this];exact e)
theorem al9 {es:List (List Key × PyData)} {b:List (List Int)} (j:Has env i (OT es)) (g:es.map (·.1)=b.map (fun ns=>ns.map Sum.inl)) (hn:∀ ns∈b,ns ≠ []) (q:∀ c:List (List Int),c.Perm b->lexS c->QO (.own (OL (c.map tiD))) env):EvO B (tCB ae5 (aav (tVar i) tNil)) env QO:=fun σ G H F Q I k=>by
 obtain ⟨v,h,a,kvs,rfl,ha,rt,hf⟩:=I.has j
 obtain ⟨r,f⟩:=RpT.len rt
 refine ⟨_,h,a,kvs,b,rfl,ha,by rw [f,g],hn,fun ws p l n m d=>?_⟩
 have o:=Out.newL I.gh d (ajv I.ft l)
 refine k _ _ _ F _ _ env (I.out o).1 o.gg (I.out o).2 (q _ n ?_)
 unfold lexS;rw [aA2];exact m
end
section
variable {B:Bs} {env:En} {QO:Sl->En->Prop} {Q':PyData->En->Prop} {K:Frag} {i:Nat} {ta:TA} {R:Sl->Prop}
theorem Rps.bools_inv {G:Hp}:∀ {bs:List Bool} {vs:List V},Rps G vs (bs.map PyData.bool)->vs=bs.map V.bl
 | [],_,.nil=>rfl
 | b :: bs,_,.cons r t=>by
  cases r
  rw [Rps.bools_inv t];rfl
theorem agz {bs:List Bool} (h:R (.st (.bool (bs.all id)))):OpA (rAll K) [.list (bs.map .bool)] R:=fun G H vs Q gh rs k=>by
 cases rs with
 | cons r t =>
  cases t
  cases r with
  | lst ha ra =>
   have:=Rps.bools_inv ra
   subst this
   exact ⟨_,bs,rfl,SqL.of (gh _ _ ha),k _ _ _ _ _ (Out.refl gh (.bl _)) h⟩
theorem apq {ds:List PyData} (h:R (.own (OL ds))):OpA (aju K) [.list ds] R:=fun G H vs Q gh rs k=>by
 cases rs with
 | cons r t =>
  cases t
  cases r with
  | lst ha ra=>exact ⟨_,_,rfl,.inl (SqL.of (gh _ _ ha)),fun p a=>k _ _ _ _ _ (Out.newL gh a ra) h⟩
end
section
variable {κ:Type} [DecidableEq κ] {α:Type}
def valD (es:List (κ × α)) (k : κ):Option α:=(es.find? fun e=>decide (e.1=k)).map (·.2)
def putD (es:List (κ × α)) (k : κ) (d : α):List (κ × α):=if (es.any fun e=>decide (e.1=k))=true then es.map (fun e=>if e.1=k then (e.1,d) else e) else es ++ [(k,d)]
end
theorem RpK.val {G:Hp} {k:Key}:∀ {kvs:List (Key × V)} {es:List (Key × PyData)},RpK G kvs es->(valD es k=none->valV kvs k=none)/\∀ d,valD es k=some d->∃ v,valV kvs k=some v/\Rp G v d
 | _,_,.nil=>⟨fun _=>rfl,fun d h=>by cases h⟩
 | _,_,.cons (k:=k') r t=>by
  obtain ⟨b,c⟩:=RpK.val (k:=k) t
  by_cases e:k'=k
  ·refine ⟨fun h=>by simp [valD,e] at h,fun d h=>?_⟩
   simp [valD,e] at h
   subst h
   exact ⟨_,by simp [valV,e],r⟩
  ·refine ⟨fun h=>?_,fun d h=>?_⟩
   ·simp [valV,e];simp [valD,e] at h
    have:=b (by simp [valD];exact h)
    simpa [valV] using this
   ·obtain ⟨v,a,f⟩:=c d (by simpa [valD,e] using h)
    exact ⟨v,by simpa [valV,e] using a,f⟩
theorem RpK.any {G:Hp} {k:Key}:∀ {kvs:List (Key × V)} {es:List (Key × PyData)},RpK G kvs es->(kvs.any fun e=>decide (e.1=k))=es.any fun e=>decide (e.1=k)
 | _,_,.nil=>rfl
 | _,_,.cons r t=>by simp [RpK.any t]
theorem RpK.map {G:Hp} {k:Key} {v:V} {d:PyData} (h:Rp G v d):∀ {kvs:List (Key × V)} {es:List (Key × PyData)},RpK G kvs es->RpK G (kvs.map fun e=>if e.1=k then (e.1,v) else e) (es.map fun e=>if e.1=k then (e.1,d) else e)
 | _,_,.nil => .nil
 | _,_,.cons (k:=k') r t=>by
  by_cases e:k'=k
  ·simp only [ay1,e,if_true];exact .cons h (RpK.map h t)
  ·simp only [ay1,e,if_false];exact .cons r (RpK.map h t)
theorem RpK.append {G:Hp}:∀ {a b:List (Key × V)} {c d:List (Key × PyData)},RpK G a c->RpK G b d->RpK G (a ++ b) (c ++ d)
 | _,_,_,_,.nil,s=>s
 | _,_,_,_,.cons r t,s => .cons r (RpK.append t s)
theorem RpK.put {G:Hp} {k:Key} {v:V} {d:PyData} (h:Rp G v d) {kvs:List (Key × V)} {es:List (Key × PyData)} (r:RpK G kvs es):RpK G (putK kvs k v) (putD es k d):=by
 unfold putK putD
 rw [r.any]
 split
 ·exact r.map h
 ·exact r.append (.cons h .nil)
theorem RpT.any {G:Hp} {k:List Key}:∀ {kvs:List (List Key × V)} {es:List (List Key × PyData)},RpT G kvs es->(kvs.any fun e=>decide (e.1=k))=es.any fun e=>decide (e.1=k)
 | _,_,.nil=>rfl
 | _,_,.cons r t=>by simp [RpT.any t]
theorem RpT.map {G:Hp} {k:List Key} {v:V} {d:PyData} (h:Rp G v d):∀ {kvs:List (List Key × V)} {es:List (List Key × PyData)},RpT G kvs es->RpT G (kvs.map fun e=>if e.1=k then (e.1,v) else e) (es.map fun e=>if e.1=k then (e.1,d) else e)
 | _,_,.nil => .nil
 | _,_,.cons (k:=k') r t=>by
  by_cases e:k'=k
  ·simp only [ay1,e,if_true];exact .cons h (RpT.map h t)
  ·simp only [ay1,e,if_false];exact .cons r (RpT.map h t)
theorem RpT.append {G:Hp}:∀ {a b:List (List Key × V)} {c d:List (List Key × PyData)},RpT G a c->RpT G b d->RpT G (a ++ b) (c ++ d)
 | _,_,_,_,.nil,s=>s
 | _,_,_,_,.cons r t,s => .cons r (RpT.append t s)
theorem RpT.put {G:Hp} {k:List Key} {v:V} {d:PyData} (h:Rp G v d) {kvs:List (List Key × V)} {es:List (List Key × PyData)} (r:RpT G kvs es):RpT G (putK kvs k v) (putD es k d):=by
 unfold putK putD
 rw [r.any]
 split
 ·exact r.map h
 ·exact r.append (.cons h .nil)
theorem RpK.length {G:Hp}:∀ {kvs:List (Key × V)} {es:List (Key × PyData)},RpK G kvs es->kvs.length=es.length
 | _,_,.nil=>rfl
 | _,_,.cons _ t=>by simp [RpK.length t]
theorem aql {G:Hp} {v:V} {k:Key} (r:Rp G v (kD k)):v=kV k:=by
 cases k with
 | inl i=>cases r;rfl
 | inr x=>cases r;rfl
theorem anp {G:Hp}:∀ {a:List Key} {vs:List V},Rps G vs (a.map kD)->vs=a.map kV
 | [],_,.nil=>rfl
 | k :: a,_,.cons r t=>by rw [aql r,anp t];rfl
section
variable {B:Bs} {env:En} {QO:Sl->En->Prop} {Q':PyData->En->Prop} {D':VEnds} {i:Nat} {te ty tv td:TE}
theorem anq (q:QO (.own (OD [])) env):EvO B am8 env QO:=fun σ G H F Q I k p a=>by
 have o:=Out.newD (ds:=[]) I.gh a .nil
 exact k _ _ _ F _ _ env (I.out o).1 o.gg (I.out o).2 q
theorem anr (q:QO (.own (OT [])) env):EvO B am9 env QO:=fun σ G H F Q I k p a=>by
 have o:=Out.newDT (ds:=[]) I.gh a .nil
 exact k _ _ _ F _ _ env (I.out o).1 o.gg (I.out o).2 q
theorem ans {n:List (List Key × PyData)} (h:Ev B tv env fun d o=>Has o i (OT n)/\Ev B ty o fun y s=>∃ es j,s[i]?=some (some (.own (OT es)))/\y=tkD j/\es.length<=999999/\D'.nx (s.set i (some (.own (OT (putD es j d)))))):EvS B (aft (tVar i) ty tv) D' env:=fun σ G H F D I r =>
 h σ G H F _ I fun v A O z d o w P E M=>by
  obtain ⟨L,N⟩:=M
  obtain ⟨W,p,a,kvs,rfl,ha,rt,_⟩:=w.has L
  refine ⟨_,p,N σ A O z _ w fun R C H2 F2 y s l u Q ⟨es,j,f,K,S,J⟩=>?_⟩
  subst K
  obtain ⟨U,c,⟨T,x,q,m,g,hf⟩,hb⟩:=l.sl i _ f
  rw [p] at c;cases c;cases q
  cases Q with
  | tup hk rs =>
   have:=anp rs
   subst this
   refine ⟨a,_,rfl,DPut.t m (l.gh _ _ hk) (by rw [(RpT.len g).1];exact big (by omega)),?_⟩
   exact r.nx σ C _ _ _ (l.upd1 (A':=OT (putD es j d)) f (.inl rfl) p hf ⟨a,_,rfl,aag,g.put (E.same u),fun b=>Iff.rfl⟩) (P.trans u) J
theorem ant {l:List (Key × PyData)} (h:Ev B tv env fun d m=>Has m i (OD l)/\Ev B ty m fun y p=>∃ es k,p[i]?=some (some (.own (OD es)))/\y=kD k/\es.length<=999999/\D'.nx (p.set i (some (.own (OD (putD es k d)))))):EvS B (aft (tVar i) ty tv) D' env:=fun σ G H F D I r =>
 h σ G H F _ I fun v z O x d m u P C L=>by
  obtain ⟨K,N⟩:=L
  obtain ⟨W,n,a,kvs,rfl,ha,rt,_⟩:=u.has K
  refine ⟨_,n,N σ z O x _ u fun R A H2 F2 y p q s M ⟨es,Q,f,J,S,E⟩=>?_⟩
  subst J
  obtain ⟨U,c,⟨T,w,o,j,g,hf⟩,hb⟩:=q.sl i _ f
  rw [n] at c;cases c;cases o
  have:=aql M
  subst this
  refine ⟨a,_,rfl,DPut.k j (by rw [g.length];exact big (by omega)),?_⟩
  exact r.nx σ A _ _ _ (q.upd1 (A':=OD (putD es Q d)) f (.inl rfl) n hf ⟨a,_,rfl,aag,g.put (C.same s),fun b=>Iff.rfl⟩) (P.trans s) E
end
section
variable {B:Bs} {env:En} {QO:Sl->En->Prop} {Q':PyData->En->Prop} {QE:En->Prop} {D':VEnds} {K:Frag} {i:Nat} {ta:TA}
theorem x_dT {es:List (List Key × PyData)} {a b:Int} {d:En} {R:List (List Key × PyData)->List Key->Prop} (e:d[i]?=some (some (.own (OT es)))) (f:es.length<=999999) (q:R es [.inl a,.inl b]):∃ es c,d[i]?=some (some (.own (OT es)))/\PyData.tuple [.int a,.int b]=tkD c/\es.length<=999999/\R es c:=⟨es,_,e,rfl,f,q⟩
end
def ltP (p q:Int × Int):Prop:=p.1 < q.1\/(p.1=q.1/\p.2 < q.2)
@[reducible] def p2 (p:Int × Int):List Int:=[p.1,p.2]
theorem lex2 (p q:Int × Int):HT.lexLt (p2 p) (p2 q)=true ↔ ltP p q:=by
 obtain ⟨a,b⟩:=p
 obtain ⟨c,d⟩:=q
 simp [p2,HT.lexLt,ltP]
 split <;> omega
theorem ama {a:List (List Int)} {ps:List (Int × Int)} (h:a.Perm (ps.map p2)):∃ b:List (Int × Int),a=b.map p2/\b.Perm ps:=by
 refine ⟨a.map fun l=>(l.getD 0 0,l.getD 1 0),?_,?_⟩
 ·rw [ay8]
  symm
  conv=>rhs;rw [← List.map_id a]
  apply List.map_congr_left
  intro l c
  obtain ⟨p,_,rfl⟩:=aw7.mp (h.mem_iff.mp c)
  rfl
 ·have:=h.map fun l=>(l.getD 0 0,l.getD 1 0)
  rw [ay8] at this
  have e:((fun l:List Int=>(l.getD 0 0,l.getD 1 0)) ∘ p2)=id:=by funext p;rfl
  rw [e,List.map_id] at this
  exact this
def Rise (es:List (Int × Int)):Prop:=es.Pairwise ltP
theorem ae6 (p:Int × Int):¬ ltP p p:=by unfold ltP;omega
theorem ar7 (p q:Int × Int):ltP p q\/p=q\/ltP q p:=by
 obtain ⟨a,b⟩:=p
 obtain ⟨c,d⟩:=q
 unfold ltP
 simp only [Prod.mk.injEq]
 omega
theorem anu {p q r:Int × Int} (h:ltP p q) (g:ltP q r):ltP p r:=by unfold ltP at *;omega
theorem ar8 {a ps:List (Int × Int)} (f:a.Perm ps) (hn:ps.Nodup) (c:lexS (a.map p2)):Rise a:=by
 have b:a.Nodup:=f.nodup_iff.mpr hn
 unfold lexS at c
 rw [aA2] at c
 unfold Rise
 refine (List.Pairwise.and c b).imp fun {p q} h=>?_
 have d:¬ ltP q p:=fun z=>by rw [(lex2 q p).mpr z] at h;exact absurd h.1 (by simp)
 rcases ar7 p q with z | z | z
 ·exact z
 ·exact absurd z h.2
 ·exact absurd z d
theorem Rise.nodup {es:List (Int × Int)} (h:Rise es):es.Nodup:=h.imp fun {p q} z (e:p=q)=>ae6 q (by rw [e] at z;exact z)
theorem Rise.eq:∀ {as bs:List (Int × Int)},Rise as->Rise bs->(∀ p,p∈as ↔ p∈bs)->as=bs
 | [],[],_,_,_=>rfl
 | [],b :: _,_,_,h=>by have:=(h b).mpr aw8;simp at this
 | a :: _,[],_,_,h=>by have:=(h a).mp aw8;simp at this
 | a :: as,b :: bs,ha,hb,h=>by
  obtain ⟨c,g⟩:=List.pairwise_cons.mp ha
  obtain ⟨d,f⟩:=List.pairwise_cons.mp hb
  have e:a=b:=by
   rcases av9.mp ((h a).mp aw8) with e | e
   ·exact e
   ·rcases av9.mp ((h b).mpr aw8) with j | j
    ·exact j.symm
    ·exact absurd (anu (c b j) (d a e)) (ae6 a)
  subst e
  have:=Rise.eq g f fun p=>by
   have i:=h p
   simp only [av9] at i
   constructor
   ·intro m
    rcases i.mp (.inr m) with e | e
    ·subst e;exact absurd (c p m) (ae6 p)
    ·exact e
   ·intro m
    rcases i.mpr (.inr m) with e | e
    ·subst e;exact absurd (d p m) (ae6 p)
    ·exact e
  rw [this]
structure WebOk (n:Int) (es:List (Int × Int)):Prop where
 lo:1<=n
 hi:n<=60
 inn:∀ p∈es,0<=p.1/\p.1 < p.2/\p.2 < n
 rise:Rise es
theorem ahl {n:Nat} {es:List (Int × Int)} (hn:es.Nodup) (hi:∀ p∈es,0<=p.1/\p.1 < (n:Int)/\0<=p.2/\p.2 < (n:Int)):es.length<=n * n:=by
 have g:(es.map fun (p:Int × Int)=>p.1 * (n:Int)+p.2).Nodup:=by
  unfold List.Nodup
  rw [aA2]
  refine aB8 ?_ hn
  intro p q d j c e
  have a:=hi p d
  have b:=hi q j
  apply c
  have f:p.1=q.1:=by
   rcases Int.lt_trichotomy p.1 q.1 with z | z | z
   ·have:(p.1+1) * n<=q.1 * n:=Int.mul_le_mul_of_nonneg_right (by omega) (by omega)
    rw [Int.add_mul] at this;omega
   ·exact z
   ·have:(q.1+1) * n<=p.1 * n:=Int.mul_le_mul_of_nonneg_right (by omega) (by omega)
    rw [Int.add_mul] at this;omega
  rw [f] at e
  exact Prod.ext f (by omega)
 have:=L2.few_places (n * n) _ g fun v i=>by
  obtain ⟨p,d,rfl⟩:=aw7.mp i
  have a:=hi p d
  have l:0<=p.1 * (n:Int):=Int.mul_nonneg a.1 (by omega)
  have h:(p.1+1) * (n:Int)<=n * n:=Int.mul_le_mul_of_nonneg_right (by omega) (by omega)
  rw [Int.add_mul] at h
  push_cast
  omega
 simpa using this
theorem WebOk.len {n:Int} {es:List (Int × Int)} (h:WebOk n es):es.length<=3600:=by
 have:=ahl (n:=n.toNat) h.rise.nodup fun p b=>by have:=h.inn p b;have:=h.lo;omega
 have a:n.toNat<=60:=by have:=h.hi;omega
 exact ay0 this (Nat.mul_le_mul a a)
def kE (ps:List (Int × Int)):List (List Key × PyData):=ps.map fun p=>([Sum.inl p.1,Sum.inl p.2],.bool true)
def addP (ps:List (Int × Int)) (p:Int × Int):List (Int × Int):=if p∈ps then ps else ps ++ [p]
theorem aeo {ps:List (Int × Int)}:(kE ps).length=ps.length:=by simp [kE]
theorem aep (ps:List (Int × Int)) (a b:Int):putD (kE ps) [Sum.inl a,Sum.inl b] (.bool true)=kE (addP ps (a,b)):=by
 have c:((kE ps).any fun e=>decide (e.1=[Sum.inl a,Sum.inl b]))=decide ((a,b)∈ps):=by
  rw [aB6,List.any_eq_true,decide_eq_true_iff]
  constructor
  ·rintro ⟨e,f,h⟩
   obtain ⟨p,d,rfl⟩:=aw7.mp f
   simp at h
   obtain ⟨g,p2⟩:=p
   simp at h
   rw [← h.1,← h.2];exact d
  ·intro h
   exact ⟨_,aw7.mpr ⟨(a,b),h,rfl⟩,by simp⟩
 unfold putD
 rw [c]
 unfold addP
 by_cases h:(a,b)∈ps
 ·rw [az7 (by simpa using h),az7 h]
  unfold kE
  rw [ay8]
  apply List.map_congr_left
  intro p _
  simp only [Function.comp]
  split <;> rfl
 ·rw [az8 (by simpa using h),az8 h]
  simp [kE]
theorem addP_mem {ps:List (Int × Int)} {p q:Int × Int}:q∈addP ps p ↔ q∈ps\/q=p:=by
 unfold addP
 split
 ·rename_i h
  exact ⟨.inl,fun z=>z.elim id fun e=>e ▸ h⟩
 ·simp
theorem af6 {ps:List (Int × Int)} {p:Int × Int} (h:ps.Nodup):(addP ps p).Nodup:=by
 unfold addP
 split
 ·exact h
 ·rename_i hn
  rw [List.nodup_append]
  exact ⟨h,by simp,fun x b y a=>by simp at a;subst a;rintro rfl;exact hn b⟩
theorem ar9 (ps:List (Int × Int)):(kE ps).map (·.1)=(ps.map p2).map (fun ns=>ns.map Sum.inl):=by
 unfold kE;rw [ay8,ay8];rfl
theorem aui (ps:List (Int × Int)):(ps.map p2).map tiD=ps.map prD:=by rw [ay8];rfl
theorem avc {ps:List (Int × Int)}:∀ ns∈ps.map p2,ns ≠ []:=fun ns h=>by
 obtain ⟨p,_,rfl⟩:=aw7.mp h
 simp
section
variable {B:Bs} {env:En} {QO:Sl->En->Prop} {K:Frag} {i:Nat} {ta:TA}
theorem amb {ps:List (Int × Int)} (b:Has env i (OT (kE ps))) (q:∀ a:List (Int × Int),a.Perm ps->lexS (a.map p2)->QO (.own (OL (a.map prD))) env):EvO B (tCB ae5 (aav (tVar i) tNil)) env QO :=
 al9 b (ar9 ps) avc fun f d c=>by
  obtain ⟨a,rfl,g⟩:=ama d
  rw [aui];exact q a g c
end
def OW (d:PyData) (ds:List PyData):Own where
 P:=fun G H v F=>∃ t l u vs,v=.ref t/\H t=some (.tup [u,.ref l])/\Rp G u d/\H l=some (.lst vs)/\Rps G vs ds/\∀ b,F b ↔ b=t\/b=l
 mono:=fun ⟨t,l,u,vs,e,h1,r1,h2,r2,f⟩ g hh=>⟨t,l,u,vs,e,hh t _ ((f t).mpr (.inl rfl)) h1,r1.same g,hh l _ ((f l).mpr (.inr rfl)) h2,r2.same g,f⟩
 dom:=fun ⟨t,l,u,vs,e,h1,r1,h2,r2,f⟩ b z=>by
  rcases (f b).mp z with rfl | rfl
  ·exact ⟨_,h1⟩
  ·exact ⟨_,h2⟩
theorem ajw {d:PyData} {ds:List PyData}:Frz (OW d ds) (.tuple [d,.list ds]):=fun G H v F ⟨t,l,u,vs,e,a,c,b,h,f⟩ n g=>by
 subst e
 exact .tup (by rw [af0 ((f t).mpr (.inl rfl))];exact a) (.cons (c.same (aba n)) (.cons (.lst (by rw [af0 ((f l).mpr (.inr rfl))];exact b) (h.same (aba n))) .nil))
theorem aqm {d:PyData} {ds:List PyData} {R:PyData->Prop} (h:R (.tuple [d,.list ds])):FQ (.own (OW d ds)) R:=⟨_,ajw,h⟩
section
variable {B:Bs} {env:En} {QO:Sl->En->Prop} {Q':PyData->En->Prop} {K:Frag} {i j:Nat} {ta te:TE}
theorem ajx {u:V} {l:Addr} {a:List Key}:HO.tup [u,.ref l] ≠ .tup (a.map kV):=by
 intro z
 injection z with z
 match a,z with
 | [],z=>cases z
 | [_],z=>cases z
 | [_,k],z =>
  simp at z
  cases k <;> simp [kV] at z
 | _ :: _ :: _ :: _,z=>simp at z
theorem apr {s:List PyData} (O:env[j]?=some (some (.own (OL s)))) (h:Ev B ta env fun d g=>∃ ds,g[j]?=some (some (.own (OL ds)))/\QO (.own (OW d ds)) (g.set j none)):EvO B (tTup (aav ta (aav (tVar j) tNil))) env QO:=fun σ G H F Q I k =>
 h σ G H F _ I fun v u L i d g c M A C=>by
  obtain ⟨ds,E,q⟩:=C
  obtain ⟨w,K,⟨l,vs,rfl,r,rs,hf⟩,hb⟩:=c.sl j _ E
  refine ⟨_,K,⟨by show (2:Nat)<=sizeLine;decide,fun p f=>?_⟩⟩
  have n:i j l:=(hf l).mpr rfl
  have x:p ≠ l:=(aah r f).symm
  have D:=c.drop j
  have y:∀ m a,(a=p\/a=l)->¬ putF i j (fun _=>False) m a:=fun m a ha z=>by
   by_cases hm:m=j
   ·subst hm;exact putF_same.mp z
   ·rw [aau hm] at z
    rcases ha with rfl | rfl
    ·exact c.no_f f m z
    ·exact hm (c.fd m j a z n)
  have J:VI B u (upd L p (.tup [v,.ref l])) σ (g.set j none) (putF i j fun _=>False):=D.grow (Same.refl _) (c.gh.trans (abu f)) (abu f) (fun a o e => .inl e) fun a N e=>by
   by_cases z:a=p
   ·subst z;rw [aag] at e;exact absurd (ax6 e) ajx
   ·rw [aac z] at e;exact c.ft a N e
  refine k _ u _ _ (fun a=>a=p\/a=l) (.own (OW d ds)) _ J M ⟨⟨p,l,v,vs,rfl,aag,A,by rw [aac x.symm];exact r,rs,fun b=>Iff.rfl⟩,fun a z=>?_,fun a z=>?_,fun a z=>?_,fun m a z=>y m a z⟩ q
  ·rcases z with rfl | rfl
   ·exact c.no_b f
   ·exact hb a n
  ·rcases z with rfl | rfl
   ·exact c.no_g f
   ·exact c.fg j a n
  ·rcases z with rfl | rfl
   ·exact ⟨_,aag⟩
   ·exact ⟨_,by rw [aac x.symm];exact r⟩
theorem x_ow {ds:List PyData} {a:En} {R:List PyData->Prop} (e:a[j]?=some (some (.own (OL ds)))) (q:R ds):∃ ds,a[j]?=some (some (.own (OL ds)))/\R ds:=⟨ds,e,q⟩
theorem asa {T:String} {d:PyData} {ds:List PyData} (h:Has env i (OW d ds)) (c:abx T) (q:Q' (.bool (isiD T (.list ds))) env):Ev B (tCB (rIsi K) (aav (tOp (abl K) (tVar i) (tC (.int 1))) (aav (tC (.ty T)) tNil))) env Q':=fun σ G H F Q I k=>by
 obtain ⟨v,g,t,l,u,vs,rfl,a,j,b,m,f⟩:=I.has h
 exact ⟨_,g,ady a at1 ⟨_,T,_,_,rfl,.lst b,aih c (.list ds),k _ G H F _ env I (Same.refl _) (.bl _) q⟩⟩
theorem akl {d:PyData} {ds:List PyData} {a b:Int} (C:env[i]?=some (some (.own (OW d ds)))) (R:ds.length<=999999) (q:Q' .none (env.set i (some (.own (OW d (ds ++ [.tuple [.int a,.int b]])))))):Ev B (tBM K "list" agi (tOp (abl K) (tVar i) (tC (.int 1))) (aav (tTup (aav (tC (.int a)) (aav (tC (.int b)) tNil))) tNil)) env Q':=fun σ G H F Q I k=>by
 obtain ⟨v,D,⟨t,l,u,vs,rfl,g,L,h,E,f⟩,hb⟩:=I.sl i _ C
 refine ⟨_,D,ady g at1 ⟨.inl ⟨rfl,_,SqL.of h⟩,?_⟩⟩
 refine ⟨by show (2:Nat)<=sizeLine;decide,fun p r=>?_⟩
 have o:=Out.newT (ds:=[.int a,.int b]) I.gh r (.cons (.int a) (.cons (.int b) .nil))
 have j:=(I.out o).1
 have tl:t ≠ l:=ap9 g h (by intro z;cases z)
 have P:l ≠ p:=aah h r
 have M:t ≠ p:=aah g r
 have x:upd H p (.tup [.int a,.int b]) l=some (.lst vs):=by rw [aac P];exact h
 have s:upd H p (.tup [.int a,.int b]) t=some (.tup [u,.ref l]):=by rw [aac M];exact g
 refine ahb x (by rw [E.length];exact big (by omega)) ?_
 have J:=j.change (A:=OW d (ds ++ [.tuple [.int a,.int b]])) (H2:=upd (upd H p (.tup [.int a,.int b])) l (.lst (vs ++ [.ref p]))) (F2:=F i) (os':=.own (OW d (ds ++ [.tuple [.int a,.int b]]))) i C D (fun c w N m=>by rw [aac (fun z:c=l=>N ((f c).mpr (.inr z)))];exact m)
  (fun c w m=>by
   by_cases z:c=l
   ·rw [z];exact ⟨_,aag⟩
   ·rw [aac z];exact ⟨w,m⟩)
  (fun c z=>⟨.inl z,by
   by_cases y:c=l
   ·rw [y];exact ⟨_,aag⟩
   ·rw [aac y];exact j.fo i c z⟩) ?_ (fun c O e=>by
   by_cases z:c=l
   ·subst z;rw [aag] at e;cases e
   ·rw [aac z] at e;exact j.ft c O e) (.inl ⟨rfl,_,rfl⟩)
 ·exact k _ _ _ _ _ _ J o.gg .non q
 ·have n:Rp (upd G p (.tup [.int a,.int b])) (.ref p) (.tuple [.int a,.int b]):=o.ok.1
  exact ⟨t,l,u,_,rfl,by rw [aac tl];exact s,L.same o.gg,aag,(E.same o.gg).append (.cons n .nil),f⟩
end
section
variable {B:Bs} {env:En} {Q':PyData->En->Prop} {D':VEnds} {i:Nat} {ty tv:TE}
theorem amc {a:List (List Key × PyData)} (g:env[i]?=some (some (.own (OT a)))) (h:Ev B tv env fun d f=>Has f i (OT a)/\Ev B ty f fun y c=>∃ es b,c[i]?=some (some (.own (OT es)))/\y=tkD b/\es.length<=999999/\D'.nx (c.set i (some (.own (OT (putD es b d)))))):EvS B (aft (tVar i) ty tv) D' env:=ans h
theorem amd {a:List (Key × PyData)} (f:env[i]?=some (some (.own (OD a)))) (h:Ev B tv env fun d c=>Has c i (OD a)/\Ev B ty c fun y b=>∃ es k,b[i]?=some (some (.own (OD es)))/\y=kD k/\es.length<=999999/\D'.nx (b.set i (some (.own (OD (putD es k d)))))):EvS B (aft (tVar i) ty tv) D' env:=ant h
end
section
variable {R:Sl->Prop} {K:Frag}
theorem asb {p q:Int × Int} (h:R (.st (.bool (HT.lexLt (p2 p) (p2 q))))):Op2 (rLtT K) (prD p) (prD q) R:=fun G H f g Q gh b a k=>by
 cases b with
 | tup ha ra =>
  cases a with
  | tup hb rb =>
   have d:=Rps.ints_inv (ns:=p2 p) ra
   have c:=Rps.ints_inv (ns:=p2 q) rb
   subst d c
   exact ⟨_,_,p2 p,p2 q,rfl,rfl,SqT.of (gh _ _ ha),SqT.of (gh _ _ hb),k _ _ _ _ _ (Out.refl gh (.bl _)) h⟩
end
theorem ame (ps:List (Int × Int)):plainDs (ps.map prD)=true:=by
 rw [ake]
 intro d hd
 obtain ⟨p,_,rfl⟩:=aw7.mp hd
 rfl
theorem akm {ds:List PyData} {m:Nat} (h:∀ d∈ds,d.depth<=m):PyData.depthAll ds<=m:=by
 induction ds with
 | nil=>simp [PyData.depthAll]
 | cons d ds ih =>
  simp only [PyData.depthAll]
  exact Nat.max_le.mpr ⟨h d aw8,ih fun e a=>h e (aw5 _ a)⟩
theorem anv (p:Int × Int):(prD p).depth<=1:=by simp [prD,PyData.depth,PyData.depthAll]
theorem ac9 {d:PyData} (h:aam d=true):PyData.eqv d d=true:=(ahe d d h h).mpr rfl
end VL
namespace VL
theorem ajy {α:Type} (R : α->α->Prop) (tr:∀ {a b c},R a b->R b c->R a c) {xs:List α}:xs.Pairwise R ↔ ∀ i (h:i+1 < xs.length),R (xs[i]'(by omega)) xs[i+1]:=by
 constructor
 ·intro h i hi
  exact aA8.mp h i (i+1) (by omega) hi (by omega)
 ·intro h
  rw [aA8]
  intro i j hi d f
  induction j with
  | zero=>omega
  | succ j ih =>
   by_cases e:i=j
   ·subst e;exact h i d
   ·exact tr (ih (by omega) (by omega)) (h j d)
end VL
namespace VL
open PySem PySem.Spec L2
section
variable {B:Bs} {env:En} {Q':PyData->En->Prop} {K:Frag} {E:XK} {i:Nat}
theorem aps {f:VP} {t:TA} {p:Own} (z:Has env i p) (h:EvA B t env fun ds g=>∃ A d,Has g i A/\Frz A d/\f (.st d :: ds.map Sl.st) fun s=>∃ d',s=.st d'/\ae4 d'=true/\Q' d' g):Ev B (acb (spP K f) [] E (aav (tVar i) t)) env Q':=fun σ G H F Q I k=>by
 unfold acb
 simp only [az3]
 obtain ⟨v,m,_⟩:=I.has z
 refine ⟨v,m,h σ G H F _ I fun vs w n l ds g b M x ⟨A,d,J,r,D⟩=>?_⟩
 obtain ⟨R,c,C⟩:=b.has J
 rw [m] at c;cases c
 have j:=aba (H:=n) (b.fg i)
 refine ⟨jn w n (l i),_,_,aie b.gh,fun a N e=>j _ _ (b.ft a N e),.cons (s:=.st d) (r _ _ _ _ C (b.fg i) b.gh) (ArgsOk.of (x.same j)),D,fun s q u G' H' Fv o=>?_⟩
 obtain ⟨d',rfl,O,q⟩:=q
 obtain ⟨P,L,y⟩:=b.moment j o
 exact k u P H' l d' g y (M.trans L) (ala o.ok.1 O) q
end
end VL
namespace VL
open PySem L2
theorem avd {B:Bs} {t:TS} {D':VEnds} {e:En} (h:EvS B t D' e):EvS B t D' e:=h
theorem ave {B:Bs} {g:TG} {s:Sl} {e:En} {Q:En->Prop} (h:EvG B g s e Q):EvG B g s e Q:=h
theorem auj {B:Bs} {g:TGs} {s:List PyData} {e:En} {Q:En->Prop} (h:EvGs B g s e Q):EvGs B g s e Q:=h
theorem g_Ev {B:Bs} {t:TE} {e:En} {Q:PyData->En->Prop} (h:Ev B t e Q):Ev B t e Q:=h
theorem avf {B:Bs} {t:TE} {e:En} {Q:Sl->En->Prop} (h:EvO B t e Q):EvO B t e Q:=h
theorem avg {B:Bs} {t:TT} {e:En} {Q:Bool->En->Prop} (h:EvT B t e Q):EvT B t e Q:=h
theorem avh {B:Bs} {t:TA} {e:En} {Q:List PyData->En->Prop} (h:EvA B t e Q):EvA B t e Q:=h
theorem avi {B:Bs} {t:TI} {e:En} {Q:List PyData->En->Prop} (h:EvI B t e Q):EvI B t e Q:=h
theorem avj {r:R2} {x y:PyData} {R:Sl->Prop} (h:Op2 r x y R):Op2 r x y R:=h
theorem avk {r:List V->Hp->VK->Prop} {x:List PyData} {R:Sl->Prop} (h:OpA r x R):OpA r x R:=h
theorem g_FQ {s:Sl} {R:PyData->Prop} (h:FQ s R):FQ s R:=h
theorem asc {ds:List PyData} {R:List PyData->Prop} (h:aif ds R):aif ds R:=h
theorem asd {ds:List PyData} {R:List PyData->Prop} (h:aig ds R):aig ds R:=h
structure PsOk (n:Int) (ps:List (Int × Int)):Prop where
 nd:ps.Nodup
 inn:∀ p∈ps,0<=p.1/\p.1 < p.2/\p.2 < n
theorem PsOk.nil (n:Int):PsOk n []:=⟨List.nodup_nil,fun p a=>by simp at a⟩
theorem PsOk.add {n a b:Int} {ps:List (Int × Int)} (h:PsOk n ps) (g:0<=a) (c:a < b) (d:b < n):PsOk n (addP ps (a,b)) :=
 ⟨af6 h.nd,fun p f=>by
  rcases addP_mem.mp f with q | q
  ·exact h.inn p q
  ·subst q;exact ⟨g,c,d⟩⟩
theorem PsOk.len {n:Int} {ps:List (Int × Int)} (h:PsOk n ps) (hn:n<=100):ps.length<=10000:=by
 by_cases h0:0<=n
 ·have:=ahl (n:=n.toNat) h.nd fun p b=>by have:=h.inn p b;omega
  have a:n.toNat<=100:=by omega
  exact ay0 this (Nat.mul_le_mul a a)
 ·cases ps with
  | nil=>simp
  | cons p r=>have:=h.inn p aw8;omega
def Tr (n:Int) (ps:List (Int × Int)):Prop:=∀ k,1<=k->k < n->∃ h,0<=h/\h < k/\(h,k)∈ps
theorem Tr.add {n:Int} {ps:List (Int × Int)} {p:Int × Int} (h:Tr n ps):Tr n (addP ps p):=fun k d f=>by
 obtain ⟨x,a,b,c⟩:=h k d f
 exact ⟨x,a,b,addP_mem.mpr (.inl c)⟩
def Conn (n:Int) (T:Int->Int->Prop):Prop:=∀ u v,0<=u->u < n->0<=v->v < n->∃ k,Gr.Walk T u k v
theorem Conn.mono {n:Int} {T a:Int->Int->Prop} (h:Conn n T) (g:∀ u v,T u v->a u v):Conn n a:=fun u v i f d c=>by
 obtain ⟨k,w⟩:=h u v i f d c
 exact ⟨k,w.rec .refl fun _ t b => .step b (g _ _ t)⟩
def Order (n:Int) (row:List Int):Prop:=row.Perm ((List.range n.toNat).map fun (i:Nat)=>(i:Int))
theorem Order.len {n:Int} {a:List Int} (h:Order n a):a.length=n.toNat:=by have:=h.length_eq;simpa using this
theorem Order.nodup {n:Int} {c:List Int} (h:Order n c):c.Nodup:=by
 refine h.nodup_iff.mpr ?_
 unfold List.Nodup
 rw [aA2]
 exact List.nodup_range.imp fun {a b} d e=>d (by omega)
theorem Order.mem {n:Int} {a:List Int} (h:Order n a) {v:Int}:v∈a ↔ 0<=v/\v < n:=by
 rw [h.mem_iff,aw7]
 constructor
 ·rintro ⟨i,hi,rfl⟩
  have:=aw9.mp hi
  omega
 ·rintro ⟨c,b⟩
  exact ⟨v.toNat,aw9.mpr (by omega),by omega⟩
theorem Order.get {n:Int} {b:List Int} (h:Order n b) {a:Int} (d:0<=a) (f:a < n):∃ x,b[a.toNat]?=some x/\atI b a=some x/\0<=x/\x < n:=by
 have c:a.toNat < b.length:=by rw [h.len];omega
 have e:b[a.toNat]?=some b[a.toNat]:=av0 c
 have:=h.mem.mp (av2 e)
 exact ⟨_,e,af5 d e,this.1,this.2⟩
theorem Order.inj {n:Int} {c:List Int} (h:Order n c) {a b x:Int} (a0:0<=a) (b0:0<=b) (ha:c[a.toNat]?=some x) (hb:c[b.toNat]?=some x):a=b:=by
 obtain ⟨i,g⟩:=av1.mp ha
 obtain ⟨d,f⟩:=av1.mp hb
 have:=nodup_ix h.nodup i d (g.trans f.symm)
 omega
def aa3 (row:List Int) (a:Int):Int:=row.getD a.toNat 0
def reP (row:List Int) (p:Int × Int):Int × Int:=if aa3 row p.1 < aa3 row p.2 then (aa3 row p.1,aa3 row p.2) else (aa3 row p.2,aa3 row p.1)
theorem Order.at {n:Int} {b:List Int} (h:Order n b) {a:Int} (g:0<=a) (d:a < n):b[a.toNat]?=some (aa3 b a)/\0<=aa3 b a/\aa3 b a < n:=by
 obtain ⟨x,e,_,c,f⟩:=h.get g d
 have:aa3 b a=x:=by unfold aa3;rw [ay3,e];rfl
 rw [this];exact ⟨e,c,f⟩
theorem Order.atI {n:Int} {b:List Int} (h:Order n b) {a:Int} (c:0<=a) (d:a < n):L2.atI b a=some (aa3 b a):=af5 c (h.at c d).1
theorem Order.ne {n:Int} {c:List Int} (h:Order n c) {a b:Int} (a0:0<=a) (j:a < n) (b0:0<=b) (g:b < n) (d:a ≠ b):aa3 c a ≠ aa3 c b:=fun e=>by
 have f:=(h.at a0 j).1
 have i:=(h.at b0 g).1
 rw [e] at f
 exact d (h.inj a0 b0 f i)
theorem PsOk.re {n:Int} {ps:List (Int × Int)} {c:List Int} (h:PsOk n ps) (o:Order n c):PsOk n (ps.map (reP c)):=by
 have inn:∀ p∈ps,0<=(reP c p).1/\(reP c p).1 < (reP c p).2/\(reP c p).2 < n:=fun p d=>by
  obtain ⟨p0,x,p2⟩:=h.inn p d
  have a:=o.at p0 (by omega)
  have b:=o.at (a:=p.2) (by omega) p2
  have ne:=o.ne p0 (by omega) (by omega) p2 (by omega)
  unfold reP
  split <;> dsimp only <;> omega
 refine ⟨?_,fun q i=>by obtain ⟨p,d,rfl⟩:=aw7.mp i;exact inn p d⟩
 unfold List.Nodup
 rw [aA2]
 refine aB8 ?_ h.nd
 intro p q d i f e
 apply f
 obtain ⟨p0,x,p2⟩:=h.inn p d
 obtain ⟨r,y,m⟩:=h.inn q i
 have inj:∀ a b,0<=a->a < n->0<=b->b < n->aa3 c a=aa3 c b->a=b:=fun a b a0 v b0 w e=>by
  apply Classical.byContradiction
  intro g
  exact o.ne a0 v b0 w g e
 have u:=inj p.1 q.1 p0 (by omega) r (by omega)
 have s:=inj p.2 q.2 (by omega) p2 (by omega) m
 have l:=inj p.1 q.2 p0 (by omega) (by omega) m
 have j:=inj p.2 q.1 (by omega) p2 r (by omega)
 unfold reP at e
 split at e <;> split at e <;> simp only [Prod.mk.injEq] at e
 ·exact Prod.ext (u e.1) (s e.2)
 ·have:=l e.1;have:=j e.2;omega
 ·have:=j e.1;have:=l e.2;omega
 ·exact Prod.ext (u e.2) (s e.1)
theorem Tied.perm {a ps:List (Int × Int)} (h:a.Perm ps) {u v:Int}:Tied a u v ↔ Tied ps u v:=by unfold Tied;rw [h.mem_iff,h.mem_iff]
theorem apt {n:Int} {ps a:List (Int × Int)} (f:1<=n) (c:n<=60) (h:PsOk n ps) (b:a.Perm ps) (d:lexS (a.map p2)):WebOk n a:=⟨f,c,fun p hm=>h.inn p (b.mem_iff.mp hm),ar8 b h.nd d⟩
theorem WebOk.ps {n:Int} {es:List (Int × Int)} (h:WebOk n es):PsOk n es:=⟨h.rise.nodup,h.inn⟩
section
variable {B:Bs} {env:En} {g:TG} {tif:TT} {te:TE} {K:Frag} {src:List (Option Nat)} {ds:List PyData} {e1:En} {R:List PyData->En->Prop}
end
theorem ag0 {B:Bs} {g:TG} {A:Own} {d:PyData} {env:En} {b:En->Prop} (f:Frz A d) (h:EvG B g (.st d) env b):EvG B g (.own A) env b:=fun σ G H F v Fv Q I x k =>
 h σ _ H F v _ Q (I.freeze x.fb x.fd x.fg) (ado (f G H v Fv x.ok x.fg I.gh)) fun a G' H' i j c g' q=>k a G' H' i j c ((aba x.fg).trans g') q
theorem cutR {R X:Prop} (h:R->X) (r:R):X:=h r
end VL
namespace VL
open PySem PySem.Spec L2
def Sls (K:Frag) (G:Hp) (σ:St) (e:En):Prop:=∀ (j:Nat) (s:Sl),e[j]?=some (some s)->∃ v,σ[j]?=some (some v)/\((∃ d,s=.st d/\Rp G v d)\/∃ (ns:List Int) (a:Addr),s=.scr ns/\v=.ref a/\SqL K G a (ns.map V.int))
theorem Sls.same {K:Frag} {G G':Hp} {σ:St} {e:En} (h:Sls K G σ e) (g:Same G G'):Sls K G' σ e:=fun j s es=>by
 obtain ⟨v,c,q⟩:=h j s es
 refine ⟨v,c,?_⟩
 rcases q with ⟨d,b,r⟩ | ⟨ns,a,b,f,r⟩
 ·exact .inl ⟨d,b,r.same g⟩
 ·exact .inr ⟨ns,a,b,f,g.seq r⟩
section
variable {B:Bs} {env:En}
end
section
variable {B:Bs} {env:En} {Q':PyData->En->Prop} {QO:Sl->En->Prop} {c:TT} {ta tb:TE}
end
end VL
namespace VL
open PySem PySem.Spec L2 PyProof.Rows
end VL
namespace VL
open PySem PySem.Spec L2
section
variable {B:Bs} {env:En} {QO:Sl->En->Prop} {i:Nat}
end
section
variable {X:Cx}
end
section
variable {R:Sl->Prop}
end
end VL
namespace L2
open PySem PySem.Spec PyProof.Rows
section
variable {X:Cx}
variable {e est:Expr} {te:TE} {ts:TO} {pos p2:Pos}
end
end L2
namespace VL
open PySem PySem.Spec L2
section
variable {B:Bs} {env:En} {QO:Sl->En->Prop} {Q':PyData->En->Prop} {te tl:TE} {ts:TO} {K:Frag} {i:Nat}
end
theorem aqn {α:Type} [DecidableEq α]:∀ {as bs:List α},as.Nodup->(∀ a∈as,a∈bs)->as.length<=bs.length
 | [],_,_,_=>aA1 _
 | a :: as,bs,hn,hs=>by
  have ha:a∈bs:=hs a (aw8 ..)
  have b:=aC1.mp hn
  have h:=aqn (bs:=bs.erase a) b.2 fun x c=>(List.mem_erase_of_ne (show x ≠ a from fun e=>b.1 (by rw [← e];exact c))).mpr (hs x (aw5 _ c))
  rw [List.length_erase_of_mem ha] at h
  have:0 < bs.length:=List.length_pos_of_mem ha
  simp only [az0]
  omega
structure But (n:Int) (es rem:List (Int × Int)):Prop where
 rise:Rise es
 inn:∀ p∈es,0<=p.1/\p.1 < p.2/\p.2 < n
 all:∀ p:Int × Int,0<=p.1->p.1 < p.2->p.2 < n->p∈es\/p∈rem
theorem But.len {n:Int} {es rem:List (Int × Int)} (h:But n es rem) (hn:8<=n) (b:rem.length<=5):2<=es.length:=by
 have:=aqn (as:=[((0:Int),(1:Int)),(0,2),(0,3),(0,4),(0,5),(0,6),(0,7)]) (bs:=es ++ rem) (by decide) (fun p a=>by
  have:0<=p.1/\p.1 < p.2/\p.2 < 8:=by
   simp only [av9,List.not_mem_nil,or_false] at a
   rcases a with rfl | rfl | rfl | rfl | rfl | rfl | rfl <;> decide
  exact av7.mpr (h.all p this.1 this.2.1 (by omega)))
 simp at this
 omega
end VL
namespace HT
open PySem PySem.Spec PyProof.Rows PySem.Builtin PySem.Builtin.Str
section
variable {prog:Program} {w:World} {A:Around} {E:Value->Shared->Prop} {s:Shared} {x:Str} {t:Tok} {Q:Value->Shared->Prop}
theorem split_push {y:Str} {u:Tok} (a:(y.length == 0)=false) (hsz:x.length+2<=sizeLine)
  (h:∀ l k,l.map (·.1)=Txt.split x y->Q (.ref s.heap.objs.size) { s with heap:=s.heap.push { cls:=.type "list",data:=.seq (strValues l).toArray },toks:=k }) :
  wpAny (model prog w) A (call (.builtin "str.split") [.str x t,.str y u]) Q E s:=by
 have hn:(partsBetween x (occurrences x y 0 x.length (x.length+1)) y.length).length<=sizeLine:=by
  have b:=StrLaws.occ_length_le x y 0 x.length (x.length+1)
  rw [length_partsBetween];omega
 cases h1:(decide (x.length < y.length) || decide (strKind x < strKind y))
 ·cases hf:(occurrences x y 0 x.length (x.length+1)).isEmpty
  ·refine call_meets F.slot_str_split (typeIs_str _ _ _) F.entry_str_split (F.args_str_split_2 _ _) (meets_str_split_sep x y t u h1 a hf (by omega) hn) ?_
   show wants Q E _ { s with toks:=_,heap:=s.heap.push { cls:=.type "list",data:=.seq (strsFrom s.toks (partsBetween x (occurrences x y 0 x.length (x.length+1)) y.length)).toArray } }
   rw [strsFrom_eq]
   exact h (numbered s.toks _) _ ((numbered_texts _ _).trans ((az8 (ne_true_of_eq_false h1)).trans (az8 (ne_true_of_eq_false hf))).symm)
  ·exact call_meets F.slot_str_split (typeIs_str _ _ _) F.entry_str_split (F.args_str_split_2 _ _) (meets_str_split_not_found x y t u h1 a hf)
    (h [(x,t)] s.toks ((az8 (ne_true_of_eq_false h1)).trans (az7 hf)).symm)
 ·exact call_meets F.slot_str_split (typeIs_str _ _ _) F.entry_str_split (F.args_str_split_2 _ _) (meets_str_split_cannot_occur x y t u h1)
   (h [(x,t)] s.toks (az7 h1).symm)
end
end HT
namespace L2
open PySem PySem.Spec PyProof.Rows
theorem ahm:∀ {l:List (Str × Tok)},Vals ((l.map (·.1)).map V.str) (strValues l)
 | [] => .nil
 | p :: r => .cons ⟨p.2,rfl⟩ (ahm (l:=r))
theorem ald:∀ {ys:List Str} {us:List Value},Vals (ys.map V.str) us->StrsAre us ys
 | [],[],_ => .nil
 | [],_ :: _,r=>by cases r
 | _ :: _,[],r=>by cases r
 | y :: ys,u :: us,r=>by
  cases r with
  | cons r1 r2 =>
   obtain ⟨t,rfl⟩:=r1
   exact .cons y t (ald r2)
section
variable {X:Cx}
def anw:V->List V->Hp->VK->Prop:=fun x vs H Q=>∃ z y:Str,x=.str z/\vs=[.str y]/\(y.length == 0)=false/\z.length+2<=sizeLine/\(Txt.split z y).length<=sizeLine/\∀ p,H p=none->Q (.ref p) (upd H p (.lst ((Txt.split z y).map V.str)))
theorem ajz:MtR X "str.split" anw:=by
 intro pins s σ H x xs v us Q I r rs h
 obtain ⟨z,y,rfl,rfl,d,a,c,q⟩:=h
 obtain ⟨t,rfl⟩:=r
 obtain ⟨u,rfl,f⟩:=aby rs
 obtain ⟨g,rfl⟩:=f
 refine HT.split_push d a fun l k e=>?_
 refine ⟨.ref s.heap.objs.size,_,I.laid (t':=k) (o:=.lst ((Txt.split z y).map V.str)) (fun b u e=>aC5 _ e) (av6 _) ⟨by rw [av3];exact c,strValues l,0,?_,aC7 _ rfl⟩,rfl,q _ (I.hok.fresh (av6 _))⟩
 rw [← e]
 exact ahm
def aqo (K:Frag):V->List V->Hp->VK->Prop:=fun x vs H Q=>∃ (z:Str) (a:Addr) (ys:List Str),x=.str z/\vs=[.ref a]/\SqL K H a (ys.map V.str)/\(ys.map (·.length)).sum+ys.length * z.length<=16777216/\Q (.str (Txt.join z ys)) H
theorem ale:MtR X "str.join" (aqo X.K):=by
 intro pins s σ H x xs v us Q I r rs h
 obtain ⟨z,a,ys,rfl,rfl,ha,b,q⟩:=h
 obtain ⟨t,rfl⟩:=r
 obtain ⟨u,rfl,d⟩:=aby rs
 cases d
 obtain ⟨its,c,f,_⟩:=I.list ha
 exact join_list f.isList (ald (by simpa using c)) b fun t' k=>⟨.str _,H,I.tok k,⟨t',rfl⟩,q⟩
def aqp:List V->Hp->VK->Prop:=fun xs H Q=>∃ i,xs=[.int i]/\i.natAbs.log2 < 1920/\Q (.str (toString i)) H
theorem adj:aa2 X (.type "str") aqp:=aip
end
def Its (x:Str):It:=⟨fun i _=>i < x.cps.size,fun i H v H'=>H'=H/\∃ c,x.cps[i]?=some c/\v=.str ⟨#[c]⟩,fun i _=>i=x.cps.size⟩
theorem apu {P:Program} {w:World} {K:Frag} {tg:Expr} (it:Addr) (x:Str) (t:Tok) {T:String} (f:T = "str_ascii_iterator"\/T = "str_iterator"):Turn P w K tg (Its x) [it] it (fun i h=>h.IsStrIter it T x t i) where
 mem:=by simp
 obj:=fun i h st b hb=>by
  have e:b=it:=by simpa using hb
  subst e
  obtain ⟨o,e,c,d⟩:=st
  exact ⟨o,e,fun v z=>by rw [d] at z;cases z⟩
 keep:=fun i h h' st k=>let ⟨o,e,r⟩:=st;⟨o,k it (by simp) o e,r⟩
 item:=by
  intro X C B p a i pins s σ H E I hf st n
  subst C B p
  obtain ⟨D,G,M,F,l,m⟩:=hf it (by simp)
  have W:Walks X.prog X.w X.A it [it] [it] x.cps.size (SignAt x) (fun i h=>h.IsStrIter it T x t i):=by
   rcases f with rfl | rfl
   ·exact Walks.strAscii (I.ok.hd a) it x t
   ·exact Walks.strWide (I.ok.hd a) it x t
  refine W.item i s _ _ n st fun v h' q L st' j=>?_
  obtain ⟨c,u,y,rfl⟩:=L
  have J:Inv X pins σ H { s with heap:=h',toks:=q }:=I.turned (fun b o hb e=>j b o (by simpa using hb) e) D G F l m
  obtain ⟨o,e,cl,d⟩:=id st'
  exact ⟨_,rfl,ah8 (s:={ s with heap:=h',toks:=q }) e cl d (by rcases f with rfl | rfl <;> decide) ⟨.str ⟨#[c]⟩,H,J,⟨u,rfl⟩,⟨rfl,c,y,rfl⟩,st',fun b hb=>(hf b hb).1⟩⟩
 done:=by
  intro X C B p a i pins s σ H E I hf st n
  subst C B p
  obtain ⟨D,G,M,F,l,m⟩:=hf it (by simp)
  have W:Walks X.prog X.w X.A it [it] [it] x.cps.size (SignAt x) (fun i h=>h.IsStrIter it T x t i):=by
   rcases f with rfl | rfl
   ·exact Walks.strAscii (I.ok.hd a) it x t
   ·exact Walks.strWide (I.ok.hd a) it x t
  have g:i=x.cps.size:=n
  subst g
  exact W.done s _ _ st fun h' q j=>⟨rfl,I.turned (fun b o hb e=>j b o (by simpa using hb) e) D G F l m⟩
 self:=fun A i s Q E st h=>by
  rcases f with rfl | rfl
  ·exact wpAny_pyIter_striter_ascii st h
  ·exact wpAny_pyIter_striter_wide st h
section
variable {X:Cx} {tg:Expr}
def iStr (tl:TE):TI:=fun σ H R=>tl σ H fun x H1=>∃ z,x=.str z/\R (Its z) H1
theorem auk {l:Expr} {tl:TE} (f:PE X l tl):PI X tg l (iStr tl):=by
 intro pins s σ H R I h
 refine thn (f pins s σ H _ I h) fun v s1 ⟨x,g,a,c,d⟩=>?_
 obtain ⟨z,e,q⟩:=d
 subst e
 obtain ⟨t,rfl⟩:=c
 refine wpAny_pyIter_strU ?_
 refine ⟨s1.heap.objs.size,[s1.heap.objs.size],_,_,g,rfl,a.kept (t':=s1.toks) fun b o e=>aC5 _ e,apu (T:=strIterType z) _ z t (by unfold strIterType;split <;> simp),⟨_,aC7 _ rfl,rfl,rfl⟩,fun b hb=>?_,q⟩
 have e:b=s1.heap.objs.size:=by simpa using hb
 subst e
 exact a.fpOk (av6 _) (a.hok.fresh (av6 _))
def tF2 (m:Str) (ta tb:TE):TE:=fun σ H Q=>ta σ H fun x H1=>∃ i,x=.int i/\(0<=i/\i < 1000000)/\tb σ H1 fun y H2=>∃ k,y=.int k/\(0<=k/\k < 1000000)/\Q (.str (Str.ofString (toString i) ++ m ++ Str.ofString (toString k))) H2
theorem apv {n:Nat} (h:n < 1000000):n.log2 < 1920:=by
 by_cases h0:n=0
 ·subst h0;decide
 ·have:=(Nat.log2_lt h0 (k:=20)).mpr (by omega)
  omega
theorem alf {i:Int} (h:0<=i/\i < 1000000):(Str.ofString (toString i)).length<=10:=PySem.W.KT.len_num h.1 (by omega)
theorem ag1 {i:Int} (h:0<=i/\i < 1000000):i.natAbs.log2 < 1920:=apv (by omega)
variable {a b:Expr} {ta tb:TE} {m:Str} {j:Nat} {p1 p2 p3 pos:Pos}
theorem apw (hm:m.length<=1000) (ha:PE X a ta) (hb:PE X b tb):PE X (.JoinedStr [.FormattedValue a (-1) none p1,.Constant (.str m) j p2,.FormattedValue b (-1) none p3] pos) (tF2 m ta tb):=by
 intro pins s σ H Q I h
 refine JoinedStr_many ?_
 refine joinParts_cons (FormattedValue_plain (thn (ha pins s σ H _ I h) fun v s1 ⟨x,p,l,f,i,o,hi,n⟩=>?_))
 subst o
 obtain ⟨t,rfl⟩:=f
 have A:=alf hi
 have sz:(20000:Nat)<=sizeLine:=by decide
 refine wpAny_formatField_int (ag1 hi) ⟨by rw [Str.empty_append];omega,?_⟩
 rw [Str.empty_append]
 refine joinParts_cons (Calls.Constant_str ⟨by rw [strLen_append];omega,?_⟩)
 show wpAny _ _ (joinParts _ [eval (.FormattedValue b (-1) none p3) X.env]) _ _ _
 refine joinParts_cons (FormattedValue_plain (thn (hb pins _ σ p _ (l.tok _) n) fun w s2 ⟨y,H2,d,r,k,q,c,g⟩=>?_))
 subst q
 obtain ⟨z,rfl⟩:=r
 have u:=alf c
 refine wpAny_formatField_int (ag1 c) ⟨by rw [strLen_append,strLen_append];omega,?_⟩
 exact joinParts_nil ⟨.str _,H2,d.tok _,⟨_,rfl⟩,g⟩ (by rw [strLen_append,strLen_append];omega)
def aqq:R2:=fun x y H Q=>∃ i j,x=.str i/\y=.str j/\i.length+j.length<=sizeLine/\Q (.str (i ++ j)) H
theorem alg:OpR X (binaryOp .Add) aqq:=alr
def rInS:R2:=fun x y H Q=>∃ i j,x=.str i/\y=.str j/\Q (.bl (!(Builtin.Str.occurrences j i 0 j.length 1).isEmpty)) H
theorem aul:OpR X (compareOp .In) rInS:=amy
def aqr:List V->Hp->VK->Prop:=fun xs H Q=>∃ z,xs=[.str z]/\z.length<=sizeLine/\Q (.int z.length) H
theorem ahn:aa2 X (.builtin "len") aqr:=ait
def aqs:List V->Hp->VK->Prop:=fun xs H Q=>∃ (z:Str) (n:Int),xs=[.str z]/\PySem.intText? z=some n/\z.length<=640/\Q (.int n) H
theorem anx:aa2 X (.type "int") aqs:=by
 intro pins s σ H xs us Q I r h
 obtain ⟨z,n,rfl,hn,a,q⟩:=h
 obtain ⟨u,rfl,b⟩:=aby r
 obtain ⟨t,rfl⟩:=b
 exact PySem.W.KIN.call_text hn a ⟨.int n,H,I.tok _,⟨_,rfl⟩,q⟩
end
end L2
namespace VL
open PySem PySem.Spec L2
section
variable {B:Bs} {env:En} {te ta tb:TE} {K:Frag} {QI:List PyData->En->Prop} {Q':PyData->En->Prop} {QO:Sl->En->Prop} {R:Sl->Prop}
def sgnD (x:Str):List PyData:=x.cps.toList.map fun c => .str ⟨#[c]⟩
theorem ase (h:Ev B te env fun d e=>∃ z,d=.str z/\QI (sgnD z) e):EvI B (iStr te) env QI:=fun σ G H F R I k =>
 h σ G H F _ I fun v b p a d l m q f j=>by
  obtain ⟨z,o,n⟩:=j
  subst o
  cases f
  refine ⟨z,rfl,k _ b p a (sgnD z) l m q ⟨fun i G' H' g h hi=>?_,fun i G' H' g h hi=>?_,fun i G' H' x H'' d g h ft hd y=>?_⟩ n⟩
  ·have:i < (sgnD z).length:=hi
   show i < z.cps.size
   simpa [sgnD] using this
  ·have:i=(sgnD z).length:=hi
   show i=z.cps.size
   simpa [sgnD] using this
  ·obtain ⟨e,c,r,ex⟩:=y
   subst e ex
   have:d=.str ⟨#[c]⟩:=by
    unfold sgnD at hd
    rw [av5,ay4,r] at hd
    cases hd;rfl
   subst this
   exact ⟨G',Out.refl h (.str _)⟩
theorem apx {m:Str} (h:Ev B ta env fun x b=>∃ i,x=.int i/\(0<=i/\i < 1000000)/\Ev B tb b fun y a=>∃ k,y=.int k/\(0<=k/\k < 1000000)/\Q' (.str (Str.ofString (toString i) ++ m ++ Str.ofString (toString k))) a):Ev B (tF2 m ta tb) env Q':=fun σ G H F Q I k =>
 h σ G H F _ I fun D f w d x b r z l q=>by
  obtain ⟨i,u,hi,s⟩:=q
  subst u
  cases l
  refine ⟨i,rfl,hi,s σ f w d _ r fun C g H2 F2 y a c o A ⟨j,v,n,p⟩=>?_⟩
  subst v
  cases A
  exact ⟨j,rfl,n,k _ g H2 F2 _ a c (z.trans o) (.str _) p⟩
theorem ad4 {i:Int} (hi:0<=i/\i < 1000000) (h:R (.st (.str (Str.ofString (toString i))))):OpA aqp [.int i] R:=fun G H vs Q gh rs k=>by
 cases rs with
 | cons r t=>cases t;cases r;exact ⟨i,rfl,ag1 hi,k _ _ _ _ _ (Out.refl gh (.str _)) h⟩
theorem apy {z:Str} {n:Int} (hn:PySem.intText? z=some n) (a:z.length<=640) (h:R (.st (.int n))):OpA aqs [.str z] R:=fun G H vs Q gh rs k=>by
 cases rs with
 | cons r t=>cases t;cases r;exact ⟨z,n,rfl,hn,a,k _ _ _ _ _ (Out.refl gh (.int _)) h⟩
theorem aj0 {z:Str} (a:z.length<=1000000) (h:R (.st (.int z.length))):OpA aqr [.str z] R:=fun G H vs Q gh rs k=>by
 cases rs with
 | cons r t=>cases t;cases r;exact ⟨z,rfl,ay0 a (by decide),k _ _ _ _ _ (Out.refl gh (.int _)) h⟩
theorem aj1 {x y:Str} (b:x.length+y.length<=1000000) (h:R (.st (.str (x ++ y)))):Op2 aqq (.str x) (.str y) R:=fun G H d f Q gh c a k=>by
 cases c;cases a
 exact ⟨x,y,rfl,rfl,ay0 b (by decide),k _ _ _ _ _ (Out.refl gh (.str _)) h⟩
theorem asf {x y:Str} (h:R (.st (.bool (!(Builtin.Str.occurrences y x 0 y.length 1).isEmpty)))):Op2 rInS (.str x) (.str y) R:=fun G H c d Q gh b a k=>by
 cases b;cases a
 exact ⟨x,y,rfl,rfl,k _ _ _ _ _ (Out.refl gh (.bl _)) h⟩
theorem apz {x:Str} {i:Int} {c:Nat} (b:x.length<=1000000) (f:atI x.cps.toList i=some c) (h:R (.st (.str ⟨#[c]⟩))):Op2 rIxS (.str x) (.int i) R:=fun G H g j Q gh d a k=>by
 cases d;cases a
 exact ⟨x,i,c,rfl,rfl,ay0 b (by decide),f,k _ _ _ _ _ (Out.refl gh (.str _)) h⟩
theorem Rps.strs {G:Hp}:∀ (ys:List Str),Rps G (ys.map V.str) (ys.map PyData.str)
 | [] => .nil
 | y :: ys => .cons (.str y) (Rps.strs ys)
theorem Rps.strs_inv {G:Hp}:∀ {ys:List Str} {vs:List V},Rps G vs (ys.map PyData.str)->vs=ys.map V.str
 | [],_,.nil=>rfl
 | y :: ys,_,.cons r t=>by
  cases r
  rw [Rps.strs_inv t];rfl
theorem aho (h:Ev B ta env fun d c=>∃ z,d=.str z/\EvA B (aav tb tNil) c fun ds b=>∃ y,ds=[.str y]/\(y.length == 0)=false/\z.length<=1000000/\(Txt.split z y).length<=1000000/\QO (.own (OL ((Txt.split z y).map .str))) b):EvO B (tBM K "str" anw ta (aav tb tNil)) env QO:=fun σ G H F Q I k =>
 h σ G H F _ I fun M g C f x c s D i n=>by
  obtain ⟨z,w,u⟩:=n
  subst w
  cases i
  refine ⟨rfl,u σ g C f _ s fun vs L H2 F2 ds b a j J ⟨y,m,A,q,v,l⟩=>?_⟩
  subst m
  cases J with
  | cons r t =>
   cases t
   cases r
   refine ⟨z,y,rfl,rfl,A,ay0 (Nat.add_le_add_right q 2) (by decide),ay0 v (by decide),fun p E=>?_⟩
   have o:=Out.newL (xs:=(Txt.split z y).map V.str) (ds:=(Txt.split z y).map .str) a.gh E (Rps.strs _)
   exact k _ _ _ F2 _ _ b (a.out o).1 (D.trans (j.trans o.gg)) (a.out o).2 l
theorem alh (h:Ev B ta env fun d c=>∃ z,d=.str z/\EvA B (aav tb tNil) c fun ds a=>∃ ys:List Str,ds=[.list (ys.map .str)]/\(ys.map (·.length)).sum+ys.length * z.length<=16777216/\Q' (.str (Txt.join z ys)) a):Ev B (tBM K "str" (aqo K) ta (aav tb tNil)) env Q':=fun σ G H F Q I k =>
 h σ G H F _ I fun A g v f x c p w j o=>by
  obtain ⟨z,s,q⟩:=o
  subst s
  cases j
  refine ⟨rfl,q σ g v f _ p fun vs i H2 F2 ds a b l y ⟨ys,n,u,m⟩=>?_⟩
  subst n
  cases y with
  | cons r t =>
   cases t
   cases r with
   | lst ha ra =>
    have:=Rps.strs_inv ra
    subst this
    exact ⟨z,_,ys,rfl,rfl,SqL.of (b.gh _ _ ha),u,k _ i H2 F2 _ a b (w.trans l) (.str _) m⟩
end
end VL
namespace Tx
open PySem PySem.StrLaws
def gl (c:Nat):List (List Nat)->List Nat
 | []=>[]
 | [w]=>w
 | w :: v :: r=>w ++ c :: gl c (v :: r)
theorem ag2 (c:Nat):∀ (ws:List Str),(Str.join ⟨#[c]⟩ ws).cps.toList=gl c (ws.map (·.cps.toList))
 | []=>rfl
 | [w]=>rfl
 | w :: v :: r=>by
  show (w ++ ⟨#[c]⟩ ++ Str.join ⟨#[c]⟩ (v :: r)).cps.toList=_
  rw [Str.cps_append,Str.cps_append,aA7,aA7,ag2 c (v :: r)]
  simp [gl]
theorem ali {c:Nat}:∀ {a b x y:List Nat},c ∉ a->c ∉ b->a ++ c :: x=b ++ c :: y->a=b/\x=y
 | [],[],_,_,_,_,e=>⟨rfl,by simpa using e⟩
 | [],d :: b,_,_,_,hb,e=>by
  simp at e
  exact absurd (by rw [e.1];simp) hb
 | d :: a,[],_,_,ha,_,e=>by
  simp at e
  exact absurd (by rw [← e.1];simp) ha
 | d :: a,f :: b,x,y,ha,hb,e=>by
  simp at e
  obtain ⟨g,i⟩:=ali (a:=a) (b:=b) (fun h=>ha (aw5 _ h)) (fun h=>hb (aw5 _ h)) e.2
  exact ⟨by rw [e.1,g],i⟩
theorem anz {c:Nat}:∀ {ws vs:List (List Nat)},ws ≠ []->vs ≠ []->(∀ w∈ws,c ∉ w)->(∀ v∈vs,c ∉ v)->gl c ws=gl c vs->ws=vs
 | [],_,h,_,_,_,_=>absurd rfl h
 | _ :: _,[],_,h,_,_,_=>absurd rfl h
 | [w],[v],_,_,_,_,e=>by rw [show w=v from e]
 | [w],v :: u :: r,_,_,hw,_,e=>by
  have e:w=v ++ c :: gl c (u :: r):=e
  exact absurd (by rw [e];simp) (hw w (by simp))
 | w :: u :: r,[v],_,_,_,hv,e=>by
  have e:w ++ c :: gl c (u :: r)=v:=e
  exact absurd (by rw [← e];simp) (hv v (by simp))
 | w :: u :: r,v :: z :: s,_,_,hw,hv,e=>by
  have e:w ++ c :: gl c (u :: r)=v ++ c :: gl c (z :: s):=e
  obtain ⟨b,d⟩:=ali (hw w (by simp)) (hv v (by simp)) e
  rw [b,anz (by simp) (by simp) (fun x a=>hw x (aw5 _ a)) (fun x a=>hv x (aw5 _ a)) d]
theorem ap0 (x y:Str):Txt.split x y ≠ []:=by
 unfold Txt.split
 split
 ·simp
 ·split
  ·simp
  ·rw [partsBetween_eq]
   obtain ⟨p,r,e⟩:=partsFrom_ne x y.length 0 _
   rw [e];simp
theorem alj:∀ {ws vs:List Str},ws.map (·.cps.toList)=vs.map (·.cps.toList)->ws=vs
 | [],[],_=>rfl
 | [],_ :: _,e=>by simp at e
 | _ :: _,[],e=>by simp at e
 | w :: ws,v :: vs,e=>by
  simp only [ay1,List.cons.injEq] at e
  have:w=v:=by
   cases w;cases v
   congr 1
   exact Array.toList_inj.mp e.1
  rw [this,alj e.2]
theorem af7 {c:Nat} {ws:List Str} (h:ws ≠ []) (hf:∀ w∈ws,c ∉ w.cps.toList):Txt.split (Txt.join ⟨#[c]⟩ ws) ⟨#[c]⟩=ws:=by
 have g:Txt.join ⟨#[c]⟩ ws=Str.join ⟨#[c]⟩ ws:=glued_eq_join _ _
 rw [g]
 have f:=join_split (Str.join ⟨#[c]⟩ ws) ⟨#[c]⟩
 have d:=congrArg (fun s:Str=>s.cps.toList) f
 simp only [ag2] at d
 refine alj (anz (c:=c) ?_ ?_ ?_ ?_ ?_)
 ·simp [ap0]
 ·simpa using h
 ·intro w b
  obtain ⟨p,a,rfl⟩:=aw7.mp b
  exact split_free _ c p a
 ·intro w b
  obtain ⟨p,a,rfl⟩:=aw7.mp b
  exact hf p a
 ·rw [← d]
def nS (i:Int):Str:=Str.ofString (toString i)
def figs:Str:="0123456789"
def okN (i:Nat):Bool:=((nS i).length == 1 || (nS i).length == 2) && ((nS i).cps.toList.all fun c => !(Builtin.Str.occurrences figs ⟨#[c]⟩ 0 figs.length 1).isEmpty && c != 45 && c != 32) && ((nS i).length != 2 || (nS i).cps.toList.head? != some 48)
theorem asg:(List.range 100).all okN=true:=by decide +kernel
theorem aum {i:Int} (a:0<=i) (b:i < 100):okN i.toNat=true:=az6.mp asg _ (aw9.mpr (by omega))
end Tx
namespace HT
open PySem PySem.Spec PySem.Calls PyProof.Rows PySem.W
section
variable {prog:Program} {w:World} {A:Around} {E:Value->Shared->Prop} {s:Shared}
theorem unpack_star {l:Addr} {items:Array Value} {i:Nat} {Q:List Value->Shared->Prop} (v:s.heap.IsList l items) (hh:A.handled=none) (hi:i<=items.size) (F:items.size<=sizeLine)
  (h:∀ h' z,Heap.ExtBut s.heap.objs.size s.heap h'->Q (items.toList.take i ++ [.ref h'.objs.size]) { s with heap:=h'.push { cls:=.type "list",data:=.seq (items.toList.drop i).toArray },toks:=z }):wpAny (model prog w) A (unpackItems (.ref l) (i+1) (some i)) Q E s:=by
 have q:l ≠ s.heap.objs.size:=by obtain ⟨o,H,_⟩:=v;exact aw6 (aC6 H)
 unfold unpackItems
 refine aC3 ?_
 unfold notIterableAtAll
 refine aC3 (wpAny_specialOf v.typeIs slot_list_iter.lookup ?_)
 refine aC4 ?_
 simp only [Bool.false_eq_true,if_false]
 refine aC3 (aC8 (wpAny_pyIter_list v ?_))
 refine aC3 (aC8 (kun_draw q i 0 _ _ ⟨_,aC7 _ rfl,rfl,rfl⟩ (v.push _) (by omega) fun n a c=>?_))
 have g:n.IsList l items:=(v.push _).extBut c.extBut q
 rw [Nat.zero_add] at a
 have f:=a
 obtain ⟨J,B,_⟩:=f
 have m:=g
 obtain ⟨I,C,_⟩:=m
 rw [List.drop_zero]
 have x:(items.toList.take i).length=i:=by rw [aB1,av8];omega
 rw [az8 (show ¬ ((items.toList.take i).length < i) by rw [x];omega)]
 refine aC3 (aC8 (kun_collect (s:={ s with heap:=n }) (T:="list_iterator") (.inr (.inr (.inl rfl))) (Walks.list (A:=A.in1) hh s.heap.objs.size l q items) (fun j u st=>st.1.typeIs) (k:=i) (by omega) ⟨a,g⟩ (aC6 B) (aC6 C) (fun p z G=>?_) F))
 have y:(items.toList.drop i).length=items.size - i:=by rw [List.length_drop,av8]
 have r:(items.toList.drop i).length - (i+1 - 1 - i)=(items.toList.drop i).length:=by omega
 show wpAny _ _ (if (items.toList.drop i).length < i+1 - 1 - i then _ else _) _ _ _
 rw [az8 (by omega)]
 show wpAny _ _ (newList ((items.toList.drop i).take ((items.toList.drop i).length - (i+1 - 1 - i))) >>= fun d=>pure (items.toList.take i ++ [d] ++ (items.toList.drop i).drop ((items.toList.drop i).length - (i+1 - 1 - i)))) _ _ _
 rw [r,aA9,List.drop_length]
 have D:Heap.ExtBut s.heap.objs.size s.heap p:=fun b o hb e=>G b o hb (c.extBut b o hb (aC5 _ e))
 refine aC3 (wpAny_newList ?_ (by rw [y];omega))
 refine aC4 ?_
 rw [az3]
 exact h p z D
end
end HT
namespace L2
open PySem PySem.Spec PyProof.Rows
section
variable {X:Cx}
def aqt (K:Frag) (g1 g2:TG):TG:=fun v σ H Q=>∃ a x xs,v=.ref a/\SqL K H a (x :: xs)/\∀ p,H p=none->g1 x σ (upd H p (.lst xs)) fun σ1 H1=>g2 (.ref p) σ1 H1 Q
theorem ash {c d:Expr} {k:Nat} {q n:TG} {j sp:Pos} (M:X.calm=true) (y:PG X c q) (z:PG X d n)
  (hn:(assignEach [c,.Starred d sp] X.env).length=1+1:=by rfl) (g:(assignEach [c,.Starred d sp] X.env).findIdx? (·.1)=some 1:=by rfl) (hm:(assignEach [c,.Starred d sp] X.env).map (·.2)=[assign c X.env,assign d X.env]:=by rfl) :
  PG X (.Tuple [c,.Starred d sp] k j) (aqt X.K q n):=by
 intro pins s σ H v u Q I r l
 obtain ⟨a,x,xs,G,P,l⟩:=l
 subst G
 cases r
 obtain ⟨its,L,J,E⟩:=I.list P
 cases L with
 | @cons _ v0 _ vr r0 rr =>
  rw [assign_Tuple]
  refine aC3 (wpAny_standAt ?_)
  unfold unpack
  rw [hn,g,hm]
  have B:=rr.length
  have f:(v0 :: vr).length<=sizeLine:=by simp at E ⊢;omega
  refine aC3 (aC8 (HT.unpack_star J.isList (I.ok.hd M) (by simp) (by simpa using f) fun h' i A=>?_))
  have p:Inv X pins σ H { s with heap:=h',toks:=i }:=I.kept (t':=i) fun b o e=>A b o (aw6 (aC6 e)) e
  have hf:H h'.objs.size=none:=p.hok.fresh (av6 _)
  have w:=p.laid (t':=i) (o:=.lst xs) (h':=h'.push { cls:=.type "list",data:=.seq vr.toArray }) (fun b u e=>aC5 _ e) (av6 h'.objs.size) ⟨by simp at f;omega,vr,0,rr,aC7 _ rfl⟩
  show wpAny _ _ (assignInOrder [assign c X.env,assign d X.env] [v0,.ref h'.objs.size]) _ _ _
  refine assignInOrder_cons (thn (y pins _ σ _ _ _ _ w r0 (l _ hf)) fun _ s1 ⟨h,O,N,F⟩=>?_)
  refine assignInOrder_cons (thn (z pins s1 h O _ _ _ N (show RelV (.ref h'.objs.size) (.ref h'.objs.size) from rfl) F) fun _ s2 ⟨m,H2,D,C⟩=>?_)
  exact assignInOrder_nil ⟨m,H2,D,C⟩
end
end L2
namespace VL
open PySem PySem.Spec L2
section
variable {B:Bs} {env:En} {K:Frag} {QE:En->Prop}
theorem ap1 {i:Nat} {c:TG} {d:PyData} {ds:List PyData} (h:EvG B c (.own (OL ds)) (env.set i (some (.st d))) QE):EvG B (aqt K (aax i) c) (.st (.list (d :: ds))) env QE:=fun σ G H F v Fv Q I x k=>by
 obtain ⟨r,_⟩:=x.ok
 cases r with
 | lst ha rs =>
  cases rs with
  | cons r0 rr =>
   refine ⟨_,_,_,rfl,SqL.of (I.gh _ _ ha),fun p l=>?_⟩
   have o:=Out.newL I.gh l rr
   have f:=(I.out o).1
   have b:=(I.out o).2
   have g:=f.store (ado r0) i
   refine h _ _ _ _ _ _ _ g ⟨b.ok,b.fb,b.fg,b.fo,fun j a z y=>?_⟩ k
   by_cases hj:j=i
   ·subst hj;exact (putF_same.mp y).elim
   ·rw [aau hj] at y;exact b.fd j a z y
end
end VL
namespace L2
open PySem PySem.Spec PyProof.Rows
section
variable {X:Cx}
end
end L2
namespace VL
open PySem PySem.Spec L2
end VL
namespace L2
open PySem PySem.Spec PyProof.Rows
section
variable {X:Cx}
end
end L2
namespace VL
open PySem PySem.Spec L2
end VL
namespace L2
open PySem PySem.Spec PyProof.Rows
def aqu (K:Frag):List V->Hp->VK->Prop:=fun xs H Q=>∃ p ys,xs=[.ref p]/\SqL K H p ys/\∀ l,H l=none->Q (.ref l) (upd H l (.tup ys))
theorem an0 {X:Cx}:aa2 X (.type "tuple") (aqu X.K):=by
 intro pins s σ H xs us Q I r h
 obtain ⟨p,ys,e,a,q⟩:=h
 exact ahr pins s σ H xs us Q I r ⟨p,ys,e,.inl ⟨a,q⟩⟩
end L2
namespace VL
open PySem PySem.Spec L2
theorem ap2 {K:Frag} {ds:List PyData} {R:Sl->Prop} (h:R (.st (.tuple ds))):OpA (aqu K) [.list ds] R:=fun G H vs Q gh rs k=>by
 cases rs with
 | cons r t =>
  cases t
  cases r with
  | lst ha ra =>
   refine ⟨_,_,rfl,SqL.of (gh _ _ ha),fun p a=>?_⟩
   exact k _ _ _ _ _ (Out.newT gh a ra) h
structure Sm (b k:Nat) (d:PyData):Prop where
 lay:d.canLay0=true
 sh:d.showable=true/\d.shown.length<=b
 dp:d.depth<=k
theorem Sm.mono {b k c j:Nat} {d:PyData} (h:Sm b k d) (hb:b<=c) (a:k<=j):Sm c j d:=⟨h.lay,⟨h.sh.1,ay0 h.sh.2 hb⟩,ay0 h.dp a⟩
end VL
namespace PopT
open PySem PyProof.Rows
section
variable {prog:Program} {w:World} {K:Type} [DecidableEq K] {knd:HeapKind prog w K} {A:Around} {E:Value->Shared->Prop} {s:Shared}
end
end PopT
namespace L2
open PySem PySem.Spec PySem.W PyProof.Rows
theorem KT.at {H:Hp} {kvs:List (List Key × V)} {xs:List (List Key × Addr × Value)} (r:KT H kvs xs):∀ {j:Nat} {k:List Key} {v:V},kvs[j]?=some (k,v)->∃ p:Addr × Value,xs[j]?=some (k,p)/\RelV v p.2:=by
 induction r with
 | nil=>intro j k v e;simp at e
 | @cons p q ps qs hq t ih =>
  intro j k v e
  cases j with
  | zero =>
   have e:p=(k,v):=by simpa using e
   subst e
   exact ⟨q.2,by rw [List.getElem?_cons_zero,show k=q.1 from hq.1],hq.2.2⟩
  | succ j=>exact ih (by simpa using e)
theorem KT.erase {H:Hp} {kvs:List (List Key × V)} {xs:List (List Key × Addr × Value)} (r:KT H kvs xs):∀ (j:Nat),KT H (kvs.eraseIdx j) (xs.eraseIdx j):=by
 induction r with
 | nil=>intro j;exact .nil
 | @cons p q ps qs hq t ih =>
  intro j
  cases j with
  | zero=>exact t
  | succ j=>exact .cons hq (ih j)
section
variable {X:Cx} {pins:List (Addr × Obj)} {σ:St} {H:Hp} {s:Shared} {a b:Addr} {A:Around} {E:Value->Shared->Prop}
end
section
variable {X:Cx} {o e f:Expr} {apos cpos:Pos} {td ty tx:TE}
end
end L2
namespace DNe
open PySem PyProof.Rows
end DNe
namespace L2
open PySem PySem.Spec PySem.W PyProof.Rows
end L2
namespace DNe
open PySem PyProof.Rows
section
variable {prog:Program} {w:World} {A:Around} {E:Value->Shared->Prop} {s:Shared}
end
end DNe
namespace L2
open PySem PySem.Spec PySem.W PyProof.Rows
end L2
namespace VL
open PySem PySem.Spec L2
section
variable {B:Bs} {env:En} {Q':PyData->En->Prop} {QO:Sl->En->Prop} {i:Nat} {ty:TE}
theorem RpT.at {G:Hp}:∀ {kvs:List (List Key × V)} {es:List (List Key × PyData)},RpT G kvs es->∀ {j:Nat} {a:List Key} {d:PyData},es[j]?=some (a,d)->∃ v,kvs[j]?=some (a,v)/\Rp G v d
 | _,_,.nil,j,a,d,e=>by simp at e
 | _,_,.cons (k:=k) (v:=v) (d:=d0) h t,0,a,d,e=>by
  have e:(k,d0)=(a,d):=by simpa using e
  cases e
  exact ⟨v,rfl,h⟩
 | _,_,.cons h t,j+1,a,d,e=>by
  obtain ⟨v,b,r⟩:=RpT.at t (j:=j) (by simpa using e)
  exact ⟨v,by simpa using b,r⟩
theorem RpT.erase {G:Hp}:∀ {kvs:List (List Key × V)} {es:List (List Key × PyData)},RpT G kvs es->∀ (j:Nat),RpT G (kvs.eraseIdx j) (es.eraseIdx j)
 | _,_,.nil,_ => .nil
 | _,_,.cons _ t,0=>t
 | _,_,.cons h t,j+1 => .cons h (RpT.erase t j)
end
section
variable {B:Bs} {env:En} {QO:Sl->En->Prop} {Q':PyData->En->Prop} {K:Frag} {i:Nat}
end
theorem an1 {α:Type} {K:Frag} {src:List (Option Nat)} {a:En} {te:TE} {c:TT} {R:List PyData->En->Prop} {xs:List α} {f : α->PyData} (g : α->PyData) (p : α->Bool) (u:noIo (aal src a)=true) (M:xs.length<=999999)
  (h:∀ x∈xs,∀ j:Bs,j.K=K->EvT j c (some (.st (f x)) :: aal src a) fun b n=>b=p x/\n=some (.st (f x)) :: aal src a/\(b=true->Ev j te (some (.st (f x)) :: aal src a) fun y m=>y=g x/\m=some (.st (f x)) :: aal src a))
  (C:R ((xs.filter p).map g) a):LcV K (none :: src) (aax 0) c te (xs.map f) a R:=by
 have l:noIo (aal (none :: src) a)=true:=by
  show ((none :: aal src a).all fun s => !isIo s)=true
  rw [List.all_cons]
  exact (aB2 _ _).mpr ⟨rfl,u⟩
 refine ⟨fun i ys e=>ys=((xs.take i).filter p).map g/\∃ o,e=stO o :: aal src a,⟨by simp,none,rfl⟩,?_,?_,?_⟩
 ·rintro i ys e ⟨_,o,rfl⟩
  exact ⟨⟨isIo_stO.symm,acn⟩,aco acg⟩
 ·rintro i d ys e hd ⟨rfl,o,rfl⟩ j B
  rw [av5] at hd
  cases hx:xs[i]? with
  | none=>rw [hx] at hd;cases hd
  | some x =>
  rw [hx] at hd
  cases hd
  have hi:i < xs.length:=(av1.mp hx).1
  have z:xs.take (i+1)=xs.take i ++ [x]:=by rw [aB4,hx];rfl
  refine aaz ?_
  show EvT j c (some (.st (f x)) :: aal src a) _
  intro σ G H F Q I k
  refine h x (av2 hx) j B σ G H F Q I fun b G' H' w n r g' ⟨hb,A,J⟩=>k b G' H' w n r g' ?_
  subst A
  by_cases hp:b=true
  ·rw [az7 hp]
   intro σ G H F Q I k
   refine J hp σ G H F Q I fun v G' H' w d' m r g' E ⟨D,q⟩=>k v G' H' w d' m r g' E ?_
   subst D q
   refine ⟨?_,?_,some _,rfl⟩
   ·have:=az5 p (xs.take i)
    simp only [av3]
    have L:(xs.take i).length<=i:=by simp;omega
    omega
   ·rw [z,List.filter_append,ay9]
    have:p x=true:=by rw [← hb];exact hp
    simp [this]
  ·rw [az8 hp]
   refine ⟨?_,some _,rfl⟩
   rw [z,List.filter_append,ay9]
   have:p x=false:=by rw [← hb];simpa using hp
   simp [this]
 ·rintro ys e ⟨rfl,o,rfl⟩
  rw [ae3 l,av3,aA9]
  exact C
section
variable {B:Bs} {env:En} {QO:Sl->En->Prop} {Q':PyData->En->Prop} {K:Frag} {i:Nat}
theorem ap3 {y u:TE} (h:Ev B y env fun d r=>EvO B u r fun s i=>∃ ds,s=.own (OL ds)/\QO (.own (OW d ds)) i):EvO B (tTup (aav y (aav u tNil))) env QO:=fun σ G H F Q I k =>
 h σ G H F _ I fun v E N C d r M O K D=>D σ E N C _ M fun w j H2 F2 Fv s i c n x L=>by
  obtain ⟨ds,es,q⟩:=L
  subst es
  obtain ⟨l,vs,rfl,g,rs,hf⟩:=x.ok
  refine ⟨show (2:Nat)<=sizeLine by rw [sizeLine_eq];decide,fun p f=>?_⟩
  have A:p ≠ l:=(aah g f).symm
  have J:VI B j (upd H2 p (.tup [v,.ref l])) σ i F2:=c.grow (Same.refl _) (c.gh.trans (abu f)) (abu f) (fun a o e => .inl e) fun a P e=>by
   by_cases z:a=p
   ·subst z;rw [aag] at e;exact absurd (ax6 e) ajx
   ·rw [aac z] at e;exact c.ft a P e
  refine k _ j _ _ (fun a=>a=p\/a=l) (.own (OW d ds)) _ J (O.trans n) ⟨⟨p,l,v,vs,rfl,aag,K.same n,by rw [aac A.symm];exact g,rs,fun b=>Iff.rfl⟩,fun a z=>?_,fun a z=>?_,fun a z=>?_,fun m a z=>?_⟩ q
  ·rcases z with rfl | rfl
   ·exact c.no_b f
   ·exact x.fb a ((hf a).mpr rfl)
  ·rcases z with rfl | rfl
   ·exact c.no_g f
   ·exact x.fg a ((hf a).mpr rfl)
  ·rcases z with rfl | rfl
   ·exact ⟨_,aag⟩
   ·exact ⟨_,by rw [aac A.symm];exact g⟩
  ·rcases z with rfl | rfl
   ·exact c.no_f f m
   ·exact x.fd m a ((hf a).mpr rfl)
end
section
variable {B:Bs} {env:En} {QO:Sl->En->Prop} {Q':PyData->En->Prop} {K:Frag} {E:XK} {i:Nat}
end
section
variable {B:Bs} {env:En} {QO:Sl->En->Prop} {Q':PyData->En->Prop} {K:Frag} {i j:Nat} {ta te:TE}
end
end VL
namespace L2
open PySem PySem.Spec PyProof.Rows
section
variable {prog:Program} {w:World} {A:Around} {E:Value->Shared->Prop} {s:Shared}
theorem akn {Q:List Value->Shared->Prop} {r:Addr} {a b c:Int} {t u v:Tok} {n:Nat} (hh:A.handled=none) (H:IsRange s.heap r a b c t u v) (z:Builtin.Range.small a b c=true)
  (hn:Builtin.Range.rangeSize a b c=n) (x:n<=2 ^ 24)
  (C:∀ h' j g,(∀ d o,s.heap.get? d=some o->h'.get? d=some o)->s.heap.objs.size < h'.objs.size->ItemsOf (fun i v=>∃ t,v=.int (a+i * c) t) g n->Q g.toList { s with heap:=h',toks:=j }):wpAny (model prog w) A (collect (.ref r)) Q E s:=by
 unfold collect
 refine aC3 (wpAny_runValue (aD3 F.entry_proto_collect ?_))
 rw [aD1 F.plain_proto_collect _]
 refine aC3 (m:=newList []) (aD0 (aC4 ⟨plainId_quiet F.plain_list_iadd _,aD3 F.entry_list_iadd ?_⟩))
 rw [aD1 F.plain_list_iadd _]
 refine aC9 (wpAny_extend_range (A:=A) (R:=fun f y=>∃ h' j g l,f=.ok (.ret (.ref s.heap.objs.size))/\y={ s with heap:=h',toks:=j }/\(∀ d o,s.heap.get? d=some o->h'.get? d=some o)/\h'.get? s.heap.objs.size=some { cls:=.type "list",dict:=none,data:=.seq g l,slots:=#[] }/\ItemsOf (fun i v=>∃ t,v=.int (a+i * c) t) g n)
  (s:={ s with heap:=s.heap.push { cls:=.type "list",data:=.seq (List.toArray ([]:List Value)) } }) hh (aC5 _ H) z hn x s.heap.objs.size _ 0 (aC7 _ rfl)
  fun h' j g l kp p hi=>⟨h',j,g,l,rfl,rfl,fun d o e=>kp d o (aw6 (aC6 e)) (aC5 _ e),p,hi⟩) (fun fin y h=>?_) (fun e y h=>?_)
 ·have q:∀ h' j g l,(∀ d o,s.heap.get? d=some o->h'.get? d=some o)->h'.get? s.heap.objs.size=some { cls:=.type "list",dict:=none,data:=.seq g l,slots:=#[] }->ItemsOf (fun i v=>∃ t,v=.int (a+i * c) t) g n ->
    wpAny (model prog w) A (do match (← load s.heap.objs.size).data with | Data.seq xs _=>pure xs.toList | _=>unsupported "internal:collect") Q E { s with heap:=h',toks:=j }:=fun h' j g l kp p hi =>
   aC3 (wpAny_load p (aC4 (C h' j g kp (aC6 p) hi)))
  cases fin with
  | done f =>
   obtain ⟨h',j,g,l,e,rfl,kp,p,hi⟩:=h
   cases e
   exact q h' j g l kp p hi
  | again c0 =>
   refine ⟨h.1,codeAny_mono h.2 fun r D B=>?_⟩
   obtain ⟨h',j,g,l,rfl,rfl,kp,p,hi⟩:=B
   exact q h' j g l kp p hi
 ·obtain ⟨_,_,_,_,G,_⟩:=h
  cases G
theorem ap4 {a:Array Value} {n:Nat} (h:ItemsOf (fun i v=>∃ t,v=.int (0+i * 1) t) a n):IntsAre a.toList ((List.range n).map fun (i:Nat)=>(i:Int)):=by
 obtain ⟨g,d⟩:=h
 have e:(List.range n).map (fun (i:Nat)=>(i:Int))=a.toList.map numOf:=by
  apply aA3
  intro i
  rw [av5,av5]
  by_cases hi:i < n
  ·have b:i < a.size:=by omega
   obtain ⟨t',c⟩:=d i a[i] (av4 b)
   rw [ay7 hi,ay4,av4 b,c]
   show some (i:Int)=some (0+(i:Int) * 1)
   simp
  ·rw [List.getElem?_eq_none (by simpa using hi),List.getElem?_eq_none (by simp;omega)]
   rfl
 rw [e]
 refine intsAre_map _ fun x f=>?_
 obtain ⟨i,hi,ex⟩:=List.getElem_of_mem f
 have b:i < a.size:=by simpa using hi
 obtain ⟨t',c⟩:=d i a[i] (av4 b)
 exact ⟨_,t',by rw [← ex];simpa using c⟩
variable {h₀:Heap} {L r fa:Addr} {m:Str->Option Value} {news:List (Addr × Obj)} {Q:Value->Shared->Prop} {j:Int} {t u v:Tok}
theorem amf (g:Int->Int) (F:Fr h₀ L s.heap m) (N:News h₀ L s.heap news) (hh:A.handled=none) (hr:IsRange s.heap r 0 j 1 t u v) (j0:0<=j) (j1:j < 64)
  (y:∀ (n:Int) (t:Tok) (h:Heap) (f:Nat) (own:List (Addr × Obj)),0<=n->n < j->Fr h₀ L h m->News h₀ L h (news ++ own) ->
   wpAny (model prog w) A.in1.in1 (call (.ref fa) [.int n t]) (KskEnd h₀ L m (news ++ own) (g n) { s with heap:=h,toks:=f }) (fun _ _=>False) { s with heap:=h,toks:=f })
  (h:∀ D h' f l z c,Fr h₀ L h' m->News h₀ L h' ((D,seqObj "list" (List.toArray l) c) :: news)->s.heap.objs.size<=D->IntsAre l z->z.Perm ((List.range j.toNat).map fun (i:Nat)=>(i:Int))->Q (.ref D) { s with heap:=h',toks:=f }) :
  wpAny (model prog w) A (call (.builtin "sorted") [.ref r] [(Str.ofString "key",.ref fa)]) Q E s:=by
 have hn:Builtin.Range.rangeSize 0 j 1=((j.toNat:Nat):Int):=by rw [rangeSize_one];split <;> omega
 refine call_function_entry_kw kind_sorted plain_sorted entry_sorted (ksk_s1 _ _) ?_
 unfold Builtin.«sorted»
 refine aC3 (m:=checkCount "sorted" 1 1 _) (aC4 (aC3 (akn (A:=A.in1) hh hr (small_one (by omega) (by omega) (by omega) (by omega)) hn (by omega) fun R M a kp hsz hi=>?_)))
 have C:=ap4 hi
 have b:a.toList.length=j.toNat:=by have:=C.length;simpa using this
 refine aC3 (wpAny_newList ?_ (by rw [sizeLine_eq];omega))
 have X:L < s.heap.objs.size:=F.ns.lt
 have keep:∀ d o,s.heap.get? d=some o->(R.push (seqObj "list" a.toList.toArray 0)).get? d=some o:=fun d o e=>aC5 _ (kp d o e)
 refine aC3 (aC8 (wpAny_call_entry_kw slot_list_sort ⟨seqObj "list" a.toList.toArray 0,aC7 _ rfl,rfl⟩ entry_list_sort ?_ (ksk_l1 _ _)))
 rw [ksk_t1]
 refine ksk_sort (kz:=(List.range j.toNat).map fun (i:Nat)=>g (i:Int)) (vs:=a.toList) (s:={ s with heap:=R.push (seqObj "list" a.toList.toArray 0),toks:=M }) (F.kept keep) (N.grown keep) (aC7 _ rfl) (Nat.ne_of_gt (Nat.lt_trans X hsz)) (Heap.get?_none_of_le (ay0 F.above (aA6 (Nat.lt_trans X hsz))))
  (fun p P=>aw6 (Nat.lt_trans (aC6 (N p P).1) hsz)) (by rw [b];simp) (by omega) (fun i w' k J U h' f own K G=>?_) fun h' f out c K G ko=>⟨_,rfl,aC4 ⟨_,rfl,?_⟩⟩
 ·have q:i < j.toNat:=by have:=(av1.mp J).1;omega
  rw [av5,ay7 q] at U
  cases U
  obtain ⟨t',B⟩:=C.get i (i:Int) (by rw [av5,ay7 q];rfl)
  rw [B] at J
  cases J
  exact y (i:Int) t' h' f own (by omega) (by omega) K G
 ·obtain ⟨ps,P,W,_⟩:=ko
  have T:(ps.map Prod.snd).Perm a.toList:=by
   have Y:=P.map Prod.snd
   rwa [List.map_snd_zip (by rw [b];simp)] at Y
  have Z:∀ x∈out.toList,∃ n t,x=Value.int n t:=fun x S=>by
   rw [W] at S
   obtain ⟨i,O,e⟩:=List.getElem_of_mem (T.mem_iff.mp S)
   have H:i < j.toNat:=by omega
   obtain ⟨t',B⟩:=C.get i (i:Int) (by rw [av5,ay7 H];rfl)
   rw [av0 O] at B
   exact ⟨_,t',e.symm.trans (ax6 B)⟩
  have I:IntsAre out.toList (out.toList.map numOf):=intsAre_map _ Z
  refine h _ h' f out.toList (out.toList.map numOf) c K (by simpa using G) (aA6 hsz) I ?_
  have e2:=C.nums
  rw [← e2,W]
  exact T.map numOf
def aij (P:Program) (w:World) (K:Frag) (fa:Addr) (g:Int->Int):Prop:=∀ (A:Around) (s:Shared) (n:Int) (t:Tok),A.depth < recursionLimit->K.In s.heap->s.heap.NoLimit->0<=n->n < 64 ->
 wpAny (model P w) A (call (.ref fa) [.int n t]) (fun v s'=>∃ h' tk t',s'={ s with heap:=h',toks:=tk }/\v=.int (g n) t'/\∀ b o,s.heap.get? b=some o->h'.get? b=some o) (fun _ _=>False) s
theorem aun {P:Program} {w:World} {K:Frag} {f:Addr} {fd:FuncData} {name x:Str} {st:Stmt} {c d:Int} {z B:Nat} {J p2 D E C G:Pos} (F:Fun K name name st f fd)
  (hb:abd st=[.Return (some (.BinOp (.BinOp (.Name x J) .Mult (.Constant (.int c) z p2) D) .Mod (.Constant (.int d) B E) C)) G]) (S:FnScope [x] [x] (aai st)) (q:(aai st).names.lookup x=some .local) (h:∀ y∈(aai st).names,y.2 ≠ .cell)
  (i:∀ (kV doc pm:Value) (an:Option Addr) (cdv ct u:Value),bindArgs (fnOf name name (abo st) (abd st) (aai st) .none kV doc pm an cdv ct) ⟨[u],[]⟩=pure [(x,u)])
  (N:0<=c/\c < 1000) (Q:0 < d) (j:(x == ("__debug__" : Str))=false):aij P w K f fun n=>n * c % d:=by
 intro A s n t L r H M O
 obtain ⟨oc,od,kV,doc,pm,an,cdv,ct,osl,rfl,v,l⟩:=F.ex
 refine wpAny_call (codeAny_call_function L (r _ _ v) rfl S.co S.gen rfl (PySem.W.codeRec_of r l) ?_)
 rw [i]
 refine aC4 (wpAny_newFunctionEnv h (fun y I=>by rw [ax2.mp I];exact q) (fun g m p=>?_) S.kind)
 have a:∀ b o,s.heap.get? b=some o->g.get? b=some o:=fun b o e=>p.extBut b o (aw6 (aC6 e)) (aC5 _ e)
 refine ⟨H.keeps a,codeAny_func ?_⟩
 rw [hb]
 refine wpAny_execs_cons (wpAny_Return_some (wpAny_BinOp (wpAny_BinOp (wpAny_Name (wpAny_loadName_local S.kind q m (by simp;rfl) (wpAny_Constant_int ?_)) j))))
 refine mul_int (wpAny_Constant_int ?_) (CMul.ok (.inl ⟨by omega,by omega⟩))
 refine mod_int' (by omega) ?_
 rw [Int.fmod_eq_emod_of_nonneg (n * c) (by omega)]
 exact ⟨g,_,_,rfl,rfl,a⟩
end
section
variable {X:Cx} {ta:TA} {a:Expr} {p1 p2 pk pos pos2 kpos:Pos} {f:Str} {fa:Addr} {g:Int->Int} {k:Nat}
def an2 (ta:TA):TE:=fun σ H Q=>ta σ H fun vs H1=>∃ j:Int,vs=[.int j]/\0<=j/\j < 64/\∀ l ns,H1 l=none->List.Perm ns ((List.range j.toNat).map fun (i:Nat)=>(i:Int))->Q (.ref l) (upd H1 l (.lst (ns.map V.int)))
theorem ap5 {pins:List (Addr × Obj)} {σ:St} {H:Hp} {s:Shared} {Q:VK} {r:Addr} {j:Int} {t u v:Tok} (I:Inv X pins σ H s) (hr:Room (k+2) X.A) (hc:X.calm=true) (R:aij X.prog X.w X.K fa g) (hR:IsRange s.heap r 0 j 1 t u v) (Z:0<=j) (W:j < 64)
  (q:∀ l ns,H l=none->List.Perm ns ((List.range j.toNat).map fun (i:Nat)=>(i:Int))->Q (.ref l) (upd H l (.lst (ns.map V.int)))) :
  wpAny (model X.prog X.w) X.A (call (.builtin "sorted") [.ref r] [(Str.ofString "key",.ref fa)]) (EP X pins σ Q) X.xe s:=by
 obtain ⟨m,F⟩:=I.fr
 have N:=aoh (g:=X.base) (h:=s.heap) (L:=X.env.locals)
 refine amf g F N (I.ok.hd hc) hR Z W (fun n t h T own n0 n1 a B=>?_) fun D h' T J f c a B S hI C=>?_
 ·refine aC9 (R X.A.in1.in1 { s with heap:=h,toks:=T } n t hr.in1.in1.depth (I.ok.mod.kin.keeps a.keep) (I.ok.mod.nolimit.keeps a.keep) n0 (by omega)) (fun x s2 ⟨U,M,Y,e1,E,O⟩=>?_) fun _ _ z=>z
  exact ⟨U,M,Y,e1,E,⟨a.ns.keeps O,fun b o e=>O b o (a.keep b o e),a.above⟩,fun p C=>⟨O _ _ (B p C).1,(B p C).2⟩⟩
 ·have hn:H D=none:=I.hok.fresh S
  have G:=(B _ (List.Mem.head _)).1
  have keep:∀ b o,b ≠ X.env.locals->s.heap.get? b=some o->h'.get? b=some o:=fun b o nb e=>by
   cases z:X.base.get? b with
   | some y =>
    have E:=I.bk b y z
    rw [e] at E;cases E
    exact a.keep b _ z
   | none=>exact (B (b,o) (List.Mem.tail _ (akc nb z e))).1
  have P:∀ b o,s.heap.get? b=some o->b ≠ D:=fun b o e=>aw6 (ax5 (aC6 e) S)
  refine ⟨.ref D,upd H D (.lst (f.map V.int)),?_,rfl,q D f hn C⟩
  refine I.step (g':=s.gens) (d':=s.drawn) (ch:=[]) (fun _ z=>nomatch z) (fun b o nb _ _ e _=>keep b o nb e) (fun b o nb _ _ e _=>⟨o.slots,keep b o nb e⟩) (fun b o _ e z=>by rw [aac (P b o e)];exact z) (fun b o _ e=>?_) (fun b xs e=>by rw [aac (aah e hn)];exact e) (fun b o y e=>by rw [aac (aah e hn)];exact e) (fun b gs e=>⟨#[],by rw [aac (aah e hn),e];simp⟩) (fun m' hm=>?_) (fun b y e=>?_) I.bare
  ·by_cases z:b=X.env.locals
   ·obtain ⟨o',_,_,e',_⟩:=a.ns
    exact ⟨o',by rw [z];exact e'⟩
   ·exact ⟨o,keep b o z e⟩
  ·rw [hm.eq_nsMap,← F.ns.eq_nsMap];exact a.ns
  ·by_cases z:b=D
   ·subst z
    rw [aag] at e;cases e
    have hl:(f.map V.int).length<=sizeLine:=by
     rw [av3,C.length_eq,av3,List.length_range]
     have:(64:Nat)<=sizeLine:=by decide
     omega
    exact ⟨hl,J,c,aed hI,G⟩
   ·rw [aac z] at e
    have nb:∀ d y,H d=some y->d ≠ X.env.locals:=fun d y q z=>by rw [z,I.free] at q;cases q
    refine (I.hok b y e).stay (fun d v hd r=>keep d v ?_ r) (fun d q=>by rw [aac (aah q hn)];exact q) fun d xs q=>by rw [aac (aah q hn)];exact q
    rcases hd with rfl | hd
    ·exact nb _ _ e
    ·exact nb _ _ hd
theorem ap6 (N:Room (k+2) X.A) (G:X.calm=true) (C:Gl X "sorted") (hm:X.mg "sorted" = none) (l:Gl X "range") (n:X.mg "range" = none) (i:Gl X f) (m:X.mg f=some (.ref fa)) (p:aij X.prog X.w X.K fa g) (ha:PA X [a] ta)
  (d:(f == ("__debug__" : Str))=false:=by decide) (F:bootBuiltins "sorted" = some (.builtin "sorted"):=by decide +kernel) (M:starEach [a] X.env=[(false,eval a X.env)]:=by rfl)
  (x:backTo pos (starEach [.Call (.Name "range" p2) [a] [] pos2] X.env)=(false,eval (.Call (.Name "range" p2) [a] [] pos2) X.env) :: backTo pos (starEach [] X.env):=by rfl)
  (c:(backTo pos (starEach [.Call (.Name "range" p2) [a] [] pos2] X.env)).any (·.1)=false:=by rfl) :
  PE X (.Call (.Name "sorted" p1) [.Call (.Name "range" p2) [a] [] pos2] [⟨some "key",.Name f pk,kpos⟩] pos) (an2 ta):=by
 intro pins s σ H Q I h
 refine wpAny_Call_Name_kw (acx I C hm F ?_ (by decide) (by decide))
 refine PyProof.Rows.callWith_kw ?_ x c
 rw [x]
 refine Calls.spliced_cons (Call_ (acx I l n boot_range (PyProof.Rows.callWith_type1 (thn (ha pos2 pins s σ H _ I h) fun us s1 ⟨vs,L,D,z,j,J,B,y,q⟩=>?_) M rfl)))
 subst J
 obtain ⟨u,rfl,t,rfl⟩:=aby z
 refine call_range_1 (Calls.spliced_nil ?_)
 have E:IsRange (s1.heap.push { cls:=.type "range",data:=.fields #[.int 0 s1.toks,.int j t,.int 1 (s1.toks+1)] }) s1.heap.objs.size 0 j 1 s1.toks t (s1.toks+1):=aC7 _ rfl
 have r:Inv X pins σ L { s1 with heap:=s1.heap.push { cls:=.type "range",data:=.fields #[.int 0 s1.toks,.int j t,.int 1 (s1.toks+1)] },toks:=s1.toks+1+1 }:=D.kept fun b o e=>aC5 _ e
 show wpAny _ _ (evalAll [(do let v ← eval (.Name f pk) X.env;standAt pos;pure v)]) _ _ _
 refine wpAny_evalAll_cons (aC3 (agd r i m (aC3 (wpAny_standAt (aC4 (aC4 ?_)))) d))
 exact ap5 r N G p E B y q
end
end L2
namespace VL
open PySem PySem.Spec L2
theorem an3 {B:Bs} {env:En} {c:TA} {b:Sl->En->Prop} (h:EvA B c env fun ds e=>∃ j:Int,ds=[.int j]/\0<=j/\j < 64/\∀ ns:List Int,ns.Perm ((List.range j.toNat).map fun (i:Nat)=>(i:Int))->b (.own (OL (ns.map .int))) e):EvO B (an2 c) env b:=fun σ G H F Q I k =>
 h σ G H F _ I fun vs x y d ds p a v g n=>by
  obtain ⟨j,u,m,f,q⟩:=n
  subst u
  cases g with
  | cons r t =>
   cases t
   cases r
   refine ⟨j,rfl,m,f,fun l ns s w=>?_⟩
   have o:=Out.newL (xs:=ns.map V.int) (ds:=ns.map .int) a.gh s (Rps.ints ns)
   exact k _ _ _ d _ _ p (a.out o).1 (v.trans o.gg) (a.out o).2 (q ns w)
end VL
namespace DictL
open PySem PyProof.Rows
theorem af8:entryFor table "dict.update.loop" = some Builtin.«dict.update.loop»:=entryFor_of_tree (by kernel_rfl)
theorem acu:plainId "dict.update.loop" = true:=by decide +kernel
section
variable {prog:Program} {w:World} {A:Around} {R:Result->Shared->Prop} {I:Addr} {fp wr:List Addr} {n:Nat} {P:Nat->Value->Prop} {St:Nat->Heap->Prop} {K:Type} [DecidableEq K] {knd:KeyKind prog w K}
theorem asi {M:Model} {E:Value->Shared->Prop} {s:Shared} {t:Addr} {k v:Value} {Q:List Value->Shared->Prop} {c:Value->Sem (List Value)} (b:s.heap.IsTuple t #[k,v]) (h:Q [k,v] s):wpAny M A ((Builtin.Dict.pairItems (.ref t)).tryCatch c) Q E s:=by
 obtain ⟨⟨cls,j,data,sl⟩,i,a,m,hd⟩:=b
 simp only at a hd
 subst a hd
 refine wpAny_tryCatch ?_
 unfold Builtin.Dict.pairItems
 obtain ⟨l,g,d,f,os⟩:=s
 wp_walk
 exact h
end
section
variable {prog:Program} {w:World} {A:Around} {E:Value->Shared->Prop} {s:Shared}
theorem auo:typeLookup (.type "list") (Str.ofString "keys")=pure none:=by rw [typeLookup_type,builtinLookup_eq_fast];kernel_rfl
theorem asj {a:Addr} {xs:Array Value} {k:Nat} {Q:Option Value->Shared->Prop} (j:s.heap.get? a=some { cls:=.type "list",data:=.seq xs k }) (m:A.handled=none)
  (h:∀ h' l,(∀ b o,s.heap.get? b=some o->h'.get? b=some o)->Q none { s with heap:=h',toks:=l }):wpAny (model prog w) A (getAttr? (.ref a) (Str.ofString "keys")) Q E s:=by
 obtain ⟨n,g,d,l,os⟩:=s
 have i:∀ c,(⟨n,g,d,c,os⟩:Shared).TypeIs (.ref a) "list":=fun _=>⟨_,j,rfl⟩
 have x:=sub_AttributeError
 have u:=PySem.F.slot_list_getattribute.lookup
 have q:=PySem.F.slot_list_getattribute.bind (.ref a)
 have r:=am_list_getattr_none
 unfold getAttr? getAttrBy? getAttrBy
 repeat (any_goals (first | assumption | exact i _ | ((with_reducible show wpAny _ _ (call (Value.builtin "list.__getattribute__") _ _) _ _ _);refine call_meets PySem.F.slot_list_getattribute (i _) am_entry_list_getattribute (PySem.F.args_list_getattribute_2 _ _) (meets_getattribute_miss_list a xs k #[] (Str.ofString "keys") _ auo (by decide +kernel) (by size_fits)) ⟨j,m,fun h' c e f=>?_⟩) | wp_step))
 obtain ⟨t',v,p⟩:=f.there
 show wpAny _ _ (getattributeRaised _ _ _ _ _ _ _) _ _ _
 unfold getattributeRaised
 repeat (any_goals (first | assumption | wp_step))
 exact h _ _ f.keeps
end
section
variable {prog:Program} {w:World} {A:Around} {E:Value->Shared->Prop} {s:Shared} {K:Type} [DecidableEq K] {knd:KeyKind prog w K}
end
end DictL
namespace L2
open PySem PySem.W PyProof.Rows
section
variable {K:Type} [DecidableEq K]
end
section
variable {X:Cx}
end
end L2
namespace VL
open PySem PySem.Spec L2
section
variable {B:Bs} {env:En} {QO:Sl->En->Prop} {Q':PyData->En->Prop} {D':VEnds} {K:Frag} {i:Nat}
end
end VL
namespace DictL
open PySem PyProof.Rows
section
variable {prog:Program} {w:World} {A:Around} {R:Result->Shared->Prop} {I:Addr} {fp wr:List Addr} {n:Nat} {P:Nat->Value->Prop} {St:Nat->Heap->Prop} {K:Type} [DecidableEq K] {knd:HeapKind prog w K}
theorem amg (W:Walks prog w A.in1 I fp wr n P St) (S:Addr) (G:S ∉ fp) (hu:knd.room A.in1) (Q:Heap) (q:Nat->K) (B:Nat->Addr) (val:Nat->Value) (tup:Nat->Addr) (g:Nat->List (K × Addr × Value)) (hk:∀ i,g (i+1)=storedH (g i) (q i) (B i) (val i)) (hz:∀ i,i<=n->(g i).length<=sizeLine)
  (hP:∀ i v,P i v->v=.ref (tup i)) (F:∀ i x,x∈g i->∃ j,j < i/\x.1=q j/\x.2.1=B j) (p:∀ i,i < n->tup i ≠ S/\tup i ∉ wr) (l:∀ h',(∀ b o,b ≠ S->b ∉ wr->Q.get? b=some o->h'.get? b=some o)->∀ i,i < n->knd.is h' (q i) (B i)) :
  ∀ (k i:Nat) (s:Shared),n - i=k->i<=n->St i s.heap->(∀ b o,b ≠ S->b ∉ wr->Q.get? b=some o->s.heap.get? b=some o)->(∀ j,i<=j->j < n->s.heap.IsTuple (tup j) #[.ref (B j),val j])->s.heap.DictOfH knd S (g i)->
   (∀ h' H,h'.DictOfH knd S (g n)->(∀ b o,b ≠ S->b ∉ wr->s.heap.get? b=some o->h'.get? b=some o)->R (.ok (.ret .none)) { s with heap:=h',toks:=H }) ->
   codeAny (model prog w) A (.builtin "dict.update.loop" ⟨[.ref S,.ref I,rawInt i,.none],[]⟩) R s:=by
 have T:S ∉ wr:=fun h=>G (W.sub _ h)
 have y:∀ (h h':Heap) (i:Nat),i<=n->(∀ b o,b ≠ S->b ∉ wr->Q.get? b=some o->h'.get? b=some o)->h.DictOfH knd S (g i)->(∀ b o,b ∉ wr->h.get? b=some o->h'.get? b=some o)->h'.DictOfH knd S (g i):=fun h h' i hi c u hm=>by
  obtain ⟨o,es,ep,E,g1,g2,g3,_,g5⟩:=u
  refine ⟨o,es,ep,hm S o T E,g1,g2,g3,fun x hx=>?_,g5⟩
  obtain ⟨j,hj,e1,e2⟩:=F i x hx
  rw [e1,e2]
  exact l h' c j (by omega)
 intro k
 induction k with
 | zero =>
  intro i s Y hi m c N u U
  have L:i=n:=by omega
  subst L
  refine aD3 af8 ?_
  rw [aD1 acu _]
  show wpAny _ A.in1 (pyNext (.ref I) >>= _) _ _ s
  refine aC3 (W.done s _ _ m fun h' H hm=>?_)
  dsimp only
  unfold Builtin.Dict.addKeywords
  refine aC3 (aC3 (aC4 (aC4 ?_)))
  refine aC4 ?_
  exact U h' H (y _ _ _ (av6 _) (fun b o d a e=>hm b o a (c b o d a e)) u hm) fun b o _ hb e=>hm b o hb e
 | succ k ih =>
  intro i s Y hi m c N u U
  have f:i < n:=by omega
  refine aD3 af8 ?_
  rw [aD1 acu _]
  show wpAny _ A.in1 (pyNext (.ref I) >>= _) _ _ s
  refine aC3 (W.item i s _ _ f m fun v h' H a1 C hm=>?_)
  have ev:=hP i v a1
  subst ev
  dsimp only
  have X:h'.IsTuple (tup i) #[.ref (B i),val i]:=by
   obtain ⟨o,E,r⟩:=N i (av6 _) f
   exact ⟨o,hm _ o (p i f).2 E,r⟩
  have J:h'.DictOfH knd S (g i):=y _ _ _ hi (fun b o d a e=>hm b o a (c b o d a e)) u hm
  refine aC3 (aC8 ?_)
  refine aC3 (asi X ?_)
  dsimp only
  refine aC8 (wpAny_dictSet_heap hu (l h' (fun b o d a e=>hm b o a (c b o d a e)) i f) J (fun h2 O D=>?_) (hz i hi))
  have keep:∀ b o,b ≠ S->b ∉ wr->s.heap.get? b=some o->h2.get? b=some o:=fun b o d a e=>by rw [D.2 b d];exact hm b o a e
  refine aC4 ⟨plainId_quiet acu _,ih (i+1) _ (by omega) f ?_ ?_ ?_ (by rw [hk];exact O) ?_⟩
  ·exact W.frame _ _ _ C fun b hb o e=>by rw [D.2 b (fun z:b=S=>G (by rw [← z];exact hb))];exact e
  ·exact fun b o d a e=>keep b o d a (c b o d a e)
  ·intro j j1 M
   obtain ⟨o,E,r⟩:=N j (by omega) M
   exact ⟨o,keep _ o (p j M).1 (p j M).2 E,r⟩
  ·intro h3 a2 a0 Z
   exact U h3 a2 a0 fun b o d a e=>Z b o d a (keep b o d a e)
theorem call_dict_listH {E:Value->Shared->Prop} {s:Shared} {l:Addr} {items:Array Value} {nl:Nat} {Q:Value->Shared->Prop} (hu:knd.room A.in1.in1) (a:Nat->K) (y:Nat->Addr) (val:Nat->Value) (tup:Nat->Addr) (n:Nat->List (K × Addr × Value)) (W:n 0=[]) (Y:∀ i,n (i+1)=storedH (n i) (a i) (y i) (val i)) (X:∀ i,i<=items.size->(n i).length<=sizeLine) (D:∀ i x,x∈n i->∃ j,j < i/\x.1=a j/\x.2.1=y j)
  (hh:A.handled=none) (I:s.heap.get? l=some { cls:=.type "list",data:=.seq items nl }) (Z:∀ i v,items[i]?=some v->v=Value.ref (tup i)) (P:∀ j,j < items.size->s.heap.IsTuple (tup j) #[.ref (y j),val j]) (G:∀ h',(∀ b o,s.heap.get? b=some o->h'.get? b=some o)->∀ i,i < items.size->knd.is h' (a i) (y i))
  (h:∀ (h':Heap) (M:Nat),h'.DictOfH knd s.heap.objs.size (n items.size)->(∀ b o,s.heap.get? b=some o->h'.get? b=some o)->Q (.ref s.heap.objs.size) { s with heap:=h',toks:=M }) :
  wpAny (model prog w) A (call (.type "dict") [.ref l]) Q E s:=by
 refine callType_codes (Q₁:=fun obj c=>obj=.ref s.heap.objs.size/\c={ s with heap:=s.heap.push { cls:=.type "dict",data:=.dict #[] } }) F.kt_called_dict (F.kt_typeCall_dict_1 _) F.entry_dict_init (kt_code_dict_new (.ref l) ⟨rfl,rfl⟩) fun obj c C=>?_
 obtain ⟨rfl,rfl⟩:=C
 have R:(s.heap.push { cls:=.type "dict",data:=.dict #[] }).get? s.heap.objs.size=some { cls:=.type "dict",data:=.dict #[] }:=aC7 _ rfl
 refine ⟨⟨_,R,rfl⟩,F.args_dict_init_2 _ _,?_⟩
 have f:(s.heap.push { cls:=.type "dict",data:=.dict #[] }).get? l=some { cls:=.type "list",data:=.seq items nl }:=aC5 _ I
 have a0:(Value.type "list" == Value.type "dict")=false:=by decide
 unfold Builtin.«dict.__init__» Builtin.Dict.updateCommon Builtin.Dict.updateFrom
 obtain ⟨m,g,d,M,os⟩:=s
 dsimp only at *
 generalize hPI:pyIter=PI
 generalize hGA:getAttr?=GA
 wp_walk
 subst hGA hPI
 refine asj (s:={ heap:=m.push { cls:=.type "dict",data:=.dict #[] },gens:=g,drawn:=d,toks:=M,os:=os }) f hh fun p N u=>?_
 rw [az7 (show (none:Option Value).isNone=true from rfl)]
 refine aC3 (wpAny_rule ?_)
 have q:p.IsList l items:=⟨_,u _ _ f,rfl,nl,rfl⟩
 have B:l < m.objs.size:=aC6 I
 have H:=u _ _ R
 have hsz:m.objs.size < p.objs.size:=aC6 H
 refine aC3 (wpAny_pyIter_list (s:={ heap:=p,gens:=g,drawn:=d,toks:=N,os:=os }) q ?_)
 refine aC4 ⟨plainId_quiet acu _,?_⟩
 have z:l ≠ p.objs.size:=aw6 (Nat.lt_trans B hsz)
 have O:m.objs.size ∉ [p.objs.size,l]:=by
  simp only [av9,List.not_mem_nil,or_false,not_or]
  exact ⟨aw6 hsz,Nat.ne_of_gt B⟩
 have tl:∀ j,j < items.size->tup j < m.objs.size:=fun j J=>let ⟨_,e,_⟩:=P j J;aC6 e
 refine amg (A:=A.in1) (knd:=knd) (Walks.list (A:=A.in1.in1) hh p.objs.size l z items) m.objs.size O hu m a y val tup n Y X Z D (fun i hi=>⟨aw6 (tl i hi),by simp only [ax2];exact aw6 (Nat.lt_trans (tl i hi) hsz)⟩)
  (fun h' T=>G h' fun b o e=>T b o (aw6 (aC6 e)) (by simp only [ax2];exact aw6 (Nat.lt_trans (aC6 e) hsz)) e) (items.size - 0) 0 _ (by omega) (aA1 _)
  ⟨⟨_,aC7 _ rfl,rfl,rfl⟩,q.push _⟩ (fun b o _ _ e=>aC5 _ (u _ _ (aC5 _ e))) (fun j _ J=>?_) ?_ fun h' L S kp=>?_
 ·obtain ⟨o,e,r⟩:=P j J
  exact ⟨o,aC5 _ (u _ _ (aC5 _ e)),r⟩
 ·rw [W]
  exact ⟨_,#[],0,aC5 _ H,⟨rfl,rfl,rfl⟩,rfl,rfl,fun x U=>by simp at U,List.nodup_nil⟩
 ·refine ⟨rfl,h h' L S fun b o e=>kp b o (aw6 (aC6 e)) (by simp only [ax2];exact aw6 (Nat.lt_trans (aC6 e) hsz)) (aC5 _ (u _ _ (aC5 _ e)))⟩
end
end DictL
namespace L2
open PySem PySem.W PyProof.Rows
def acp (kvs:List (List Key × Addr × V)):List (List Key × V):=kvs.foldl (fun acc kv=>putK acc kv.1 kv.2.2) []
def aj2:List V->Hp->VK->Prop:=fun xs H Q=>∃ (a:Addr) (ts:List Addr) (kvs:List (List Key × Addr × V)),xs=[.ref a]/\H a=some (.lst (ts.map V.ref))/\ts.length=kvs.length/\kvs.length < 40000 /\
 (∀ (i:Nat) t kv,ts[i]?=some t->kvs[i]?=some kv->H t=some (.tup [.ref kv.2.1,kv.2.2])/\H kv.2.1=some (.tup (kv.1.map kV)))/\∀ p,H p=none->Q (.ref p) (upd H p (.dT (acp kvs)))
section
variable {K:Type} [DecidableEq K]
def kfH (key:Nat->K) (ka:Nat->Addr) (val:Nat->Value):Nat->List (K × Addr × Value)
 | 0=>[]
 | i+1=>storedH (kfH key ka val i) (key i) (ka i) (val i)
theorem amh (xs:List (K × Addr × Value)) (k:K) (a:Addr) (v:Value):(storedH xs k a v).length<=xs.length+1:=by
 unfold storedH
 split
 ·rw [av3];omega
 ·simp
theorem ag3 (a:Nat->K) (b:Nat->Addr) (val:Nat->Value):∀ i,(kfH a b val i).length<=i
 | 0=>av6 _
 | i+1=>ay0 (amh _ _ _ _) (Nat.succ_le_succ (ag3 a b val i))
theorem alk (a:Nat->K) (b:Nat->Addr) (val:Nat->Value):∀ i x,x∈kfH a b val i->∃ j,j < i/\x.1=a j/\x.2.1=b j
 | 0,x,h=>by cases h
 | i+1,x,h=>by
  have c:=alk a b val i
  change x∈storedH (kfH a b val i) (a i) (b i) (val i) at h
  unfold storedH at h
  split at h
  ·obtain ⟨y,l,rfl⟩:=aw7.mp h
   obtain ⟨j,g,f,d⟩:=c y l
   refine ⟨j,by omega,?_⟩
   unfold putAt
   split
   ·exact ⟨f,d⟩
   ·exact ⟨f,d⟩
  ·rcases av7.mp h with h | h
   ·obtain ⟨j,g,e⟩:=c x h
    exact ⟨j,by omega,e⟩
   ·have:x=(a i,b i,val i):=by simpa using h
    subst this
    exact ⟨i,by omega,rfl,rfl⟩
end
theorem ako {kvs:List (List Key × Addr × V)} {a:List Key × Addr × V}:acp (kvs ++ [a])=putK (acp kvs) a.1 a.2.2:=by unfold acp;rw [List.foldl_append];rfl
section
variable {X:Cx}
theorem ami (hc:X.calm=true) (D:X.A.units+64 < cLine):aa2 X (.type "dict") aj2:=by
 intro pins s σ H xs us Q I r h
 obtain ⟨a,c,kvs,rfl,ha,K,h4,B,q⟩:=h
 obtain ⟨u,rfl,C⟩:=aby r
 cases C
 obtain ⟨hz,its,nl,N,e⟩:=(show ObjOk X.prog X.w H s.heap a (.lst (c.map V.ref)) from I.hok a _ ha)
 have d:its.length=c.length:=by have:=N.length;rw [av3] at this;omega
 have y:∀ {i},i < c.length->c[i]?=some (c.getD i 0):=fun {i} hi=>by rw [ay3,av0 hi];rfl
 have x:∀ {i},i < c.length->kvs[i]?=some (kvs.getD i ([],0,.non)):=fun {i} hi=>by rw [ay3,av0 (show i < kvs.length by omega)];rfl
 obtain ⟨g,l⟩:∃ g:Nat->List Key × Addr × V,g=fun i=>kvs.getD i ([],0,.non):=⟨_,rfl⟩
 have G:∀ i:Nat,∃ p:Value,i < c.length->s.heap.IsTuple (c.getD i 0) #[.ref (g i).2.1,p]/\RelV (g i).2.2 p:=fun i=>by
  by_cases hi:i < c.length
  ·obtain ⟨O,M⟩:=B i _ _ (y hi) (x hi)
   obtain ⟨_,U,n,p2⟩:=(show ObjOk X.prog X.w H s.heap _ (.tup _) from I.hok _ _ O)
   cases n with
   | cons r1 n =>
    cases n with
    | cons n r3 =>
     cases r3
     cases r1
     exact ⟨_,fun _=>⟨by rw [l];exact p2,by rw [l];exact n⟩⟩
  ·exact ⟨.none,fun h=>absurd h hi⟩
 obtain ⟨f,hf⟩:=Classical.skolem.mp G
 have F:∀ i,i<=c.length->KT H (acp (kvs.take i)) (kfH (fun i=>(g i).1) (fun i=>(g i).2.1) f i):=fun i=>by
  induction i with
  | zero=>intro _;exact .nil
  | succ i ih =>
   intro hi
   have Y:kvs.take (i+1)=kvs.take i ++ [g i]:=by rw [aB4,x (by omega),l];rfl
   rw [Y,ako]
   refine (ih (by omega)).put _ ?_ (hf i (by omega)).2
   rw [l]
   exact (B i _ _ (y (by omega)) (x (by omega))).2
 refine DictL.call_dict_listH (knd:=tupleKind (aa4 X.prog X.w)) (items:=its.toArray) (nl:=nl) (tupleKind_room_in1 (by show X.A.units+1+1 < cLine;omega)) (fun i=>(g i).1) (fun i=>(g i).2.1) f (fun i=>c.getD i 0) (kfH (fun i=>(g i).1) (fun i=>(g i).2.1) f) rfl (fun i=>rfl) (fun i hi=>ay0 (ag3 _ _ _ i) (ay0 hi (by rw [sizeLine_eq];simp;omega))) (alk _ _ _)
  (I.ok.hd hc) e (fun i v z=>?_) (fun j R=>(hf j (by simpa [d] using R)).1) (fun h' kp i hi=>?_) fun h' tk J kp=>?_
 ·have z:its[i]?=some v:=by simpa using z
  have hi:=(av1.mp z).1
  have e1:(c.map V.ref)[i]?=some (.ref (c.getD i 0)):=by rw [av5,y (by omega)];rfl
  obtain ⟨u,D,C⟩:=N.get e1
  rw [z] at D
  cases D
  exact C
 ·have hi:i < c.length:=by simpa [d] using hi
  have M:=(B i _ _ (y hi) (x hi)).2
  rw [l]
  exact afs (I.hok.kept kp) M
 ·have hsz:its.toArray.size=c.length:=by simp [d]
  rw [hsz] at J
  have E:=F c.length (av6 _)
  rw [K,aA9,← K] at E
  have m:=I.hok.fresh (a:=s.heap.objs.size) (av6 _)
  refine ⟨.ref s.heap.objs.size,_,I.laid (t':=tk) (o:=.dT (acp kvs)) kp (av6 _) ?_,rfl,q _ m⟩
  obtain ⟨P,es,W,ho,Z,T,b3,_,S⟩:=J
  refine ⟨?_,beq_eq_false_iff_ne.mpr (Ne.symm (aw6 I.big)),_,E.keeps fun b ys L=>?_,P,es,W,ho,Z,T,b3,S⟩
  ·have:=E.length
   rw [this,sizeLine_eq]
   exact ay0 (ag3 _ _ _ _) (by omega)
  ·rw [aac (aah L m)]
   exact L
end
end L2
namespace VL
open PySem PySem.Spec L2
theorem alm {G:Hp} {as:List Addr}:∀ {es:List (Int × Int)} {kvs:List (List Key × V)} {ps:List (Int × Int)},RpT G kvs (kE ps)->∀ (as:List Addr),as.length=es.length ->
  RpT G ((es.zip as).foldl (fun b x=>putK b [Sum.inl x.1.1,Sum.inl x.1.2] (.bl true)) kvs) (kE (es.foldl addP ps))
 | [],_,_,h,as,_=>by simpa using h
 | e :: es,kvs,ps,h,[],hl=>by simp at hl
 | e :: es,kvs,ps,h,a :: as,hl=>by
  rw [List.zip_cons_cons,List.foldl_cons,List.foldl_cons]
  refine alm (as:=as) ?_ as (by simpa using hl)
  obtain ⟨x,y⟩:=e
  rw [← aep]
  exact h.put (.bl true)
section
variable {B:Bs} {env:En} {QO:Sl->En->Prop}
end
def ptD (p:Int × Int):PyData:=.tuple [prD p,.bool true]
theorem aj3 {G:Hp}:∀ {vs:List V} {ps:List (Int × Int)},Rps G vs (ps.map ptD)->∃ a as:List Addr,vs=a.map V.ref/\a.length=ps.length/\as.length=ps.length /\
  ∀ (i:Nat) t b p,a[i]?=some t->as[i]?=some b->ps[i]?=some p->G t=some (.tup [.ref b,.bl true])/\G b=some (.tup [.int p.1,.int p.2])
 | [],[],_=>⟨[],[],rfl,rfl,rfl,fun i t b p h=>by simp at h⟩
 | [],_ :: _,h=>by cases h
 | _ :: _,[],h=>by cases h
 | v :: vs,p :: ps,h=>by
  cases h with
  | cons r rest =>
   obtain ⟨a,as,e,g,m,l⟩:=aj3 rest
   have r:Rp G v (.tuple [.tuple [.int p.1,.int p.2],.bool true]):=r
   cases r with
   | @tup t xs ds ht rs =>
   cases rs with
   | cons r1 rs =>
   cases rs with
   | cons r2 rs =>
   cases rs
   cases r2
   cases r1 with
   | @tup b ys ds hb rb =>
   cases rb with
   | cons q1 rb =>
   cases rb with
   | cons q2 rb =>
   cases rb
   cases q1
   cases q2
   refine ⟨t :: a,b :: as,by rw [e];rfl,by simp [g],by simp [m],fun i t' n j d f c=>?_⟩
   cases i with
   | zero =>
    simp at d f c
    subst d f c
    exact ⟨ht,hb⟩
   | succ i=>exact l i t' n j (by simpa using d) (by simpa using f) (by simpa using c)
theorem an4 {ps:List (Int × Int)} {R:Sl->Prop} (y:ps.length<=30000) (h:R (.own (OT (kE (ps.foldl addP []))))):OpA aj2 [.list (ps.map ptD)] R:=fun G H vs Q gh rs k=>by
 cases rs with
 | cons r t =>
  cases t
  cases r with
  | @lst a xs ds ha ra =>
   obtain ⟨n,as,e,v,m,l⟩:=aj3 ra
   subst e
   have o:((ps.zip as).map fun x=>(([Sum.inl x.1.1,Sum.inl x.1.2]:List Key),x.2,V.bl true)).length=ps.length:=by rw [av3,List.length_zip];omega
   have c:acp ((ps.zip as).map fun x=>(([Sum.inl x.1.1,Sum.inl x.1.2]:List Key),x.2,V.bl true))=(ps.zip as).foldl (fun d x=>putK d [Sum.inl x.1.1,Sum.inl x.1.2] (.bl true)) []:=by
    unfold acp
    rw [List.foldl_map]
   refine ⟨a,n,(ps.zip as).map fun x=>([Sum.inl x.1.1,Sum.inl x.1.2],x.2,V.bl true),rfl,gh _ _ ha,by omega,by omega,fun i t w j b=>?_,fun p u=>?_⟩
   ·have hi:=(av1.mp j).1
    have f:ps[i]?=some ps[i]:=av0 (by omega)
    have g:as[i]?=some as[i]:=av0 (by omega)
    rw [av5,(List.getElem?_zip_eq_some (z:=(ps[i],as[i]))).mpr ⟨f,g⟩] at b
    cases b
    obtain ⟨s,q⟩:=l i t _ _ j g f
    exact ⟨gh _ _ s,gh _ _ q⟩
   ·rw [c]
    exact k _ _ _ _ _ (Out.newDT gh u (alm (as:=as) (ps:=[]) .nil as m)) h
section
variable {B:Bs} {env:En} {QO:Sl->En->Prop} {i:Nat}
end
section
variable {B:Bs} {env:En} {Q':PyData->En->Prop} {i j l:Nat}
end
section
variable {B:Bs} {env:En} {QO:Sl->En->Prop} {Q':PyData->En->Prop} {K K1 K2:Frag} {i j l:Nat}
theorem an5 {d:PyData} {ds:List PyData} {T:String} (C:abx T) (J:env[i]?=some (some (.own (OW d ds)))) (R:∀ x∈ds,isiD T x=true) {src:List (Option Nat)} (q:QO (.own (OL [])) env) :
  EvO B (tLC (none :: src) (alq K (tOp (abl K2) (tVar i) (tC (.int 1)))) (aax 0) (tNot (tB (tCB (rIsi K1) (aav (tVar 0) (aav (tC (V.ty T)) tNil))))) (tVar 0)) env QO:=fun σ G H F Q I k=>by
 obtain ⟨v,M,⟨t,l,u,vs,rfl,A,U,r,S,f⟩,hb⟩:=I.sl i _ J
 refine ⟨_,M,ady A at1 ⟨l,rfl,⟨_,SqL.of r⟩,fun c b=>?_⟩⟩
 have w:l ≠ c:=aah r b
 have g:upd H c (.lst []) l=some (.lst vs):=by rw [aac w];exact r
 refine ⟨fun n m ys σI H'=>m=vs.length - n/\n<=vs.length/\0 < σI.length/\ys=[]/\H'=upd H c (.lst []),⟨vs.length,by simp,aA1 _,by simp [pick],rfl,rfl⟩,?_⟩
 rintro n m ys σI H2 ⟨rfl,hn,j,rfl,rfl⟩
 refine ⟨aag,?_⟩
 by_cases hlt:n < vs.length
 ·refine .inr ⟨⟨vs,_,SqL.of g,av0 hlt⟩,fun p h H'=>0 < h.length/\p=[]/\H'=upd H c (.lst []),fun p h H' ⟨E,O,L⟩=>⟨vs.length - (n+1),by omega,rfl,hlt,E,O,L⟩,fun x H3 y=>?_⟩
  obtain ⟨e,y⟩:=y
  subst e
  have D:=y _ (SqL.of g)
  obtain ⟨dx,z,P⟩:=S.getV D
  have s:Rp (upd H c (.lst [])) x dx:=P.same fun a u e=>by rw [aac (aah (I.gh a u e) b)];exact I.gh a u e
  have N:(σI.set 0 (some x))[0]?=some (some x):=by rw [ay2,az7 rfl,az7 j]
  refine akx ?_
  refine ⟨_,N,x,T,_,_,rfl,al7 s,aih C dx,_,rfl,?_⟩
  rw [R dx (av2 z)]
  exact ⟨by rw [List.length_set];exact j,rfl,rfl⟩
 ·have e:n=vs.length:=by omega
  subst e
  refine .inl ⟨⟨_,SqL.of g,av6 _⟩,?_⟩
  have o:=Out.newL I.gh b (Rps.nil (G:=G))
  exact k _ _ _ F _ _ env (I.out o).1 o.gg (I.out o).2 q
theorem an6 {es:List (Key × PyData)} {k:Key} {d:PyData} (hi:env[i]?=some (some (.own (OD es)))) (p:env[l]?=some (some (.st (kD k)))) (m:env[j]?=some (some (.st d))) (q:Q' ((valD es k).getD d) env):Ev B (aiw (tVar i) (tVar l) (tVar j)) env Q':=fun σ G H F Q I c=>by
 obtain ⟨v,r,⟨a,kvs,rfl,ha,n,fa⟩,_⟩:=I.sl i _ hi
 obtain ⟨w,u,b,_⟩:=I.sl l _ p
 have A:w=kV k:=by cases k <;> (cases b;rfl)
 subst A
 obtain ⟨z,o,s,_⟩:=I.sl j _ m
 refine ⟨_,r,a,rfl,.inl ⟨kvs,.inl ha⟩,_,u,_,o,valV kvs k,DGet.k (k:=k) ha,?_⟩
 obtain ⟨g,h⟩:=RpK.val (k:=k) n
 cases e:valD es k with
 | none =>
  rw [g e]
  rw [e] at q
  exact c _ G H F _ env I (Same.refl _) s q
 | some x =>
  obtain ⟨y,C,f⟩:=h x e
  rw [C]
  rw [e] at q
  exact c _ G H F _ env I (Same.refl _) f q
end
end VL
namespace L2
open PySem PySem.Spec PyProof.Rows PySem.W
def LamH (P:Addr) (H H':Hp):Prop:=H'=H\/∃ c,H c=none/\H'=upd H c (.own P)
theorem LamH.same {P:Addr} {H H':Hp} (l:LamH P H H') {a:Addr} {o:HO} (e:H a=some o):H' a=some o:=by
 rcases l with rfl | ⟨c,n,rfl⟩
 ·exact e
 ·rw [aac (aah e n)];exact e
section
variable {X:Cx} {pins:List (Addr × Obj)} {σ:St} {H:Hp} {s:Shared} {c P:Addr}
variable {p pos kpos lpos p1 p2 p3:Pos} {e:Expr} {t:TA} {params:Arguments} {scope:Scope} {x:Str} {j:Nat} {k:Nat}
end
def LamAt (K:Frag) (mg:Str->Option Value):Prop:=∃ f c P,mg lamN=some (.ref f)/\tabIn K lamN=some (c,P)/\codeHdIn K c P=true/\∀ oc od fd sl,K.lookup f=some ⟨oc,od,.func fd,sl⟩->fd.code=.ref c
theorem LamAt.at {K:Frag} {mg:Str->Option Value} (L:LamAt K mg) {f:Addr} {fd:FuncData} (hm:mg lamN=some (.ref f)) (a:∃ oc od sl,K.lookup f=some ⟨oc,od,.func fd,sl⟩):∃ c P,tabIn K lamN=some (c,P)/\codeHdIn K c P=true/\fd.code=.ref c:=by
 obtain ⟨i,c,P,b,g,d,h⟩:=L
 rw [hm] at b;cases b
 obtain ⟨oc,od,sl,a⟩:=a
 exact ⟨c,P,g,d,h _ _ _ _ a⟩
theorem tabs0_none {K:Frag} {h:Heap} (e:tabIn K lamN=none):adm K h:=fun c P q=>by rw [e] at q;cases q
end L2
namespace L2
open PySem PySem.W
theorem tab_no {K:Frag} (a:nsIn K mainGlobals lamN=some none):tabIn K lamN=none:=by
 unfold tabIn
 rw [a]
end L2
namespace G
open PySem L2 VL
def top (i:Nat):Stmt:=PySem.Challenge.pw_fewties_k46_webs_written.main.body.getD i (.Pass ⟨0,0,0,0⟩)
abbrev s_is_whole:Stmt:=top 5
abbrev s_is_between:Stmt:=top 6
abbrev s_is_place:Stmt:=top 7
abbrev s_is_tie:Stmt:=top 8
abbrev s_are_ties:Stmt:=top 9
abbrev s_is_rising:Stmt:=top 10
abbrev s_is_web:Stmt:=top 11
abbrev s_show_tie:Stmt:=top 14
abbrev s_show_web:Stmt:=top 15
abbrev s_number_of:Stmt:=top 16
abbrev s_tie_of:Stmt:=top 17
abbrev s_read_web:Stmt:=top 18
abbrev s_law_cell:Stmt:=top 20
abbrev s_law_mixed:Stmt:=top 21
abbrev s_law_web:Stmt:=top 22
abbrev s_law_key:Stmt:=top 23
abbrev s_law_crowd:Stmt:=top 24
abbrev s_law:Stmt:=top 25
structure Txt (K:Frag) (mg:Str->Option Value):Prop where
 b_ValueError:mg "ValueError" = none
 b_all:mg "all" = none
 b_int:mg "int" = none
 b_tuple:mg "tuple" = none
 b_range:mg "range" = none
 b_isinstance:mg "isinstance" = none
 b_list:mg "list" = none
 b_str:mg "str" = none
 b_len:mg "len" = none
 b_sorted:mg "sorted" = none
 b_dict:mg "dict" = none
 b_max:mg "max" = none
 b_bool:mg "bool" = none
 b_min:mg "min" = none
 v_MOST_PLACES:∃ t,mg "MOST_PLACES" = some (.int 60 t)
 v_FIGURES:∃ t,mg "FIGURES" = some (.str "0123456789" t)
 d_is_whole:∃ f fd,DefAt K mg "is_whole" s_is_whole ["thing"] f fd
 d_is_between:∃ f fd,DefAt K mg "is_between" s_is_between ["least","most","thing"] f fd
 d_is_place:∃ f fd,DefAt K mg "is_place" s_is_place ["n","thing"] f fd
 d_is_tie:∃ f fd,DefAt K mg "is_tie" s_is_tie ["n","thing"] f fd
 d_are_ties:∃ f fd,DefAt K mg "are_ties" s_are_ties ["n","thing"] f fd
 d_is_rising:∃ f fd,DefAt K mg "is_rising" s_is_rising ["things"] f fd
 d_is_web:∃ f fd,DefAt K mg "is_web" s_is_web ["thing"] f fd
 d_show_tie:∃ f fd,DefAt K mg "show_tie" s_show_tie ["tie"] f fd
 d_show_web:∃ f fd,DefAt K mg "show_web" s_show_web ["web"] f fd
 d_number_of:∃ f fd,DefAt K mg "number_of" s_number_of ["word"] f fd
 d_tie_of:∃ f fd,DefAt K mg "tie_of" s_tie_of ["word"] f fd
 d_read_web:∃ f fd,DefAt K mg "read_web" s_read_web ["text"] f fd
 d_law_cell:∃ f fd,DefAt K mg "_law_cell" s_law_cell ["script","k"] f fd
 d_law_mixed:∃ f fd,DefAt K mg "_law_mixed" s_law_mixed ["cell","k"] f fd
 d_law_web:∃ f fd,DefAt K mg "_law_web" s_law_web ["cell","most"] f fd
 d_law_key:∃ f fd,DefAt K mg "_law_key" s_law_key ["k"] f fd
 d_law_crowd:∃ f fd,DefAt K mg "_law_crowd" s_law_crowd ["cell","n"] f fd
 d_law:∃ f fd,DefAt K mg "law" s_law ["script"] f fd
local macro_rules | `(tactic| row_cond sc) => `(tactic| exact ⟨rfl,rfl,rfl,by decide +kernel,rfl,by decide +kernel,by decide +kernel⟩)
local macro_rules | `(tactic| row_cond gn) => `(tactic| first | (with_reducible first | refine evg_n0 ?_ | refine at8 ?_ | refine at9 ?_ | refine aua ?_ | refine aub ?_ | refine auc ?_ | refine aud ?_ | refine aue ?_ | refine auf ?_ | refine aug ?_ | refine evg_n10 ?_ | refine evg_n11 ?_ | refine evg_n12 ?_ | refine evg_n13 ?_ | refine evg_n14 ?_ | refine evg_n15 ?_ | refine evg_n16 ?_ | refine evg_n17 ?_ | refine evg_n18 ?_ | refine evg_n19 ?_ | refine evg_n20 ?_ | refine evg_n21 ?_ | refine evg_n22 ?_ | refine evg_n23 ?_ | refine evg_n24 ?_ | refine evg_n25 ?_) | ((with_reducible refine aaz ?_); dsimp only [List.set_cons_zero, List.set_cons_succ]))
local macro_rules | `(tactic| row_cond dc) => `(tactic| first | assumption | omega | (with_reducible rfl))
local macro_rules | `(tactic| row_cond ar) => `(tactic| first | assumption | (refine ⟨?_, ?_, ?_⟩ <;> decide) | (constructor <;> first | assumption | omega) | (show (0 : Int) < _; first | assumption | omega) | (left; constructor <;> first | assumption | omega) | (right; constructor <;> first | assumption | omega))
local macro_rules | `(tactic| row_cond hs) => `(tactic| first | exact Or.inl rfl | exact Or.inr rfl)
local macro_rules | `(tactic| row_cond fz) => `(tactic| first | exact ael | exact frz_OD | exact frz_OT | exact ajw | exact frz_OLL | assumption)
local macro_rules | `(tactic| row_cond le) => `(tactic| first | exact Nat.le_of_ble_eq_true rfl | assumption | omega | (simp only [List.length_append, List.length_map, List.length_cons, List.length_nil, List.length_set, List.length_replicate]; omega))
local macro_rules | `(tactic| row_cond ia) => `(tactic| first | assumption | exact at0 | exact at1 | exact at2 | exact rfl)
local macro_rules | `(tactic| row_cond ty) => `(tactic| first | exact at6 | exact ar3 | exact apo | exact ar4 | exact at7 | exact ty_dict)
local macro_rules | `(tactic| row_cond sEvS) => `(tactic| first | (with_reducible refine apc (fun c_ hc_ => ?_)) | (with_reducible first | refine arm ?_ | refine atv ?_ | refine ao8 ?_) | ((with_reducible refine' app ?h0 ?_); (case h0 => exact rfl)) | (with_reducible first | refine agx ?_ | refine arn ?_ | refine ajn ?_) | ((with_reducible refine' amc ?h0 ?_); (case h0 => exact rfl)) | ((with_reducible refine' amd ?h0 ?_); (case h0 => exact rfl)) | ((with_reducible refine' aro ?h0 ?_); (case h0 => assumption)))
local macro_rules | `(tactic| row_cond sEvG) => `(tactic| first | row_cond gn | ((with_reducible refine' ak8 ?h0 ?_); (case h0 => exact rfl)) | (with_reducible refine evg_st ?_))
local macro_rules | `(tactic| row_cond sEvGs) => `(tactic| first | (with_reducible first | refine aem ?_ | refine ajo ?_))
local macro_rules | `(tactic| row_cond sEv) => `(tactic| first | ((with_reducible refine' atp ?h0 ?_); (case h0 => exact rfl)) | (with_reducible refine atq ?_) | ((with_reducible refine' at4 ?h0 ?h1 ?_); (case h0 => exact rfl); (case h1 => assumption)) | ((with_reducible refine' at3 ?h0 ?_); (case h0 => row_cond hs)) | (with_reducible refine au3 ?_) | ((with_reducible refine' ar0 ?h0 ?h1 ?_); (case h0 => exact rfl); (case h1 => assumption)) | ((with_reducible refine' ar2 ?h0 ?h1 ?h2 ?_); (case h0 => row_cond hs); (case h1 => row_cond fz); (case h2 => row_cond ty)) | ((with_reducible refine' asa ?h0 ?h1 ?_); (case h0 => row_cond hs); (case h1 => row_cond ty)) | ((with_reducible refine' at5 ?h0 ?_); (case h0 => row_cond ty)) | ((with_reducible refine' ape ?h0 ?h1 ?_); (case h0 => exact rfl); (case h1 => assumption)) | (with_reducible refine apd ?_) | (with_reducible first | refine ats ?_ | refine att ?_ | refine au2 ?_ | refine atr ?_ | refine arj ?_ | refine ark ?_ | refine ao7 ?_ | refine ab2 (te:=tCB ae5 _) ?_ | refine al4 ?_) | ((with_reducible refine' akl ?h0 ?h1 ?_); (case h0 => exact rfl); (case h1 => row_cond le); dsimp only [List.set_cons_zero, List.set_cons_succ]) | ((with_reducible refine' al6 ?h0 ?_); (case h0 => row_cond hs)) | (with_reducible refine ev_listR ?_) | ((with_reducible refine' ava ?h0 ?_); (case h0 => decide)))
local macro_rules | `(tactic| row_cond sEvO) => `(tactic| first | (with_reducible first | refine anl (r:=rCat) ?_ | refine aa9 (te:=tOp _ _ _) ?_ | refine aa9 (te:=tVar _) ?_ | refine aa9 (te:=tC _) ?_ | refine ak7 ?_) | ((with_reducible refine' apr ?h0 ?_); (case h0 => exact rfl)) | (with_reducible refine ak6 ?_) | ((with_reducible refine' ahi ?h0 ?h1 ?_); (case h0 => exact rfl); (case h1 => assumption)) | (with_reducible first | refine ahh ?_) | ((with_reducible refine' ann ?h0 ?_); (case h0 => decide)) | (with_reducible first | refine anq ?_ | refine anr ?_ | refine ajl (r:=aju _) ?_ | refine aa9 (te:=aln _ _) ?_ | refine aa9 (te:=alo _) ?_ | refine aa9 (te:=aio _ _ _ _ _) ?_ | refine aa9 (te:=aiw _ _ _) ?_ | refine aa9 (te:=tCB (rLen _) _) ?_ | refine aa9 (te:=tCB (rIsi _) _) ?_ | refine aa9 (te:=tCB ah9 _) ?_ | refine aa9 (te:=tCB aia _) ?_ | refine aa9 (te:=tCB aib _) ?_ | refine aa9 (te:=tCB (rAll _) _) ?_ | refine aa9 (te:=tBM _ _ _ _ _) ?_))
local macro_rules | `(tactic| row_cond sEvT) => `(tactic| first | (with_reducible first | refine ajm ?_ | refine au4 ?_ | refine arh ?_ | refine atu ?_ | refine ari ?_ | refine adp ?_) | (with_reducible refine evt_tru ?_))
local macro_rules | `(tactic| row_cond sEvA) => `(tactic| first | (with_reducible first | refine ao6 ?_ | refine arf ?_))
local macro_rules | `(tactic| row_cond sEvI) => `(tactic| first | (with_reducible first | refine apa ?_ | refine apb ?_ | refine evi_down ?_ | refine ao9 ?_) | ((with_reducible refine' auh ?h0 ?_); (case h0 => exact rfl); dsimp only [List.set_cons_zero, List.set_cons_succ]) | (with_reducible refine evi_tup ?_))
local macro_rules | `(tactic| row_cond sOp2) => `(tactic| first | (with_reducible first | refine ars ?_ | refine art ?_) | ((with_reducible refine' atz ?h0 ?_); (case h0 => row_cond ar)) | (with_reducible first | refine aru ?_ | refine arv ?_) | ((with_reducible refine' ary ?h0 ?_); (case h0 => row_cond ia)) | ((with_reducible refine' arz ?h0 ?_); (case h0 => row_cond ia)) | (with_reducible first | refine arw ?_ | refine arx ?_) | ((with_reducible refine' agy ?h0 ?_); (case h0 => row_cond le)))
local macro_rules | `(tactic| row_cond sOp1) => `(tactic| first | (with_reducible refine op1_Ui ?_))
local macro_rules | `(tactic| row_cond sOpA) => `(tactic| first | (with_reducible first | refine apj ?_ | refine apk ?_ | refine apl ?_ | refine apm ?_ | refine apn ?_ | refine apq ?_))
local macro_rules | `(tactic| row_cond sFQ) => `(tactic| first | (with_reducible first | refine au1 ?_ | refine adh ?_ | refine aqm ?_))
local macro_rules | `(tactic| row_cond sRngA1) => `(tactic| first | ((with_reducible refine' atx ?h0 ?h1 ?_); (case h0 => omega); (case h1 => omega)))
local macro_rules | `(tactic| row_cond sRngA2) => `(tactic| first | ((with_reducible refine' aty ?h0 ?_); (case h0 => omega)))
local macro_rules | `(tactic| row_cond sRest) => `(tactic| first | (with_reducible first | refine x_bl ?_ | refine x_st ?_ | refine atw ?_ | refine au5 ?_) | ((with_reducible refine' au7 ?h0 ?_); (case h0 => row_cond ia)) | ((with_reducible refine' au8 ?h0 ?h1 ?_); (case h0 => row_cond hs); (case h1 => row_cond fz)) | ((with_reducible refine' x_sc ?h0 ?_); (case h0 => exact rfl)) | ((with_reducible refine' au6 ?h0 ?_); (case h0 => row_cond le)) | (with_reducible first | refine acm ?_ | refine ac7 ?_ | refine agp ?_ | refine agq ?_) | ((with_reducible refine' agk ?h0 ?_); (case h0 => row_cond dc)) | ((with_reducible refine' aez ?h0 ?_); (case h0 => row_cond dc)) | ((with_reducible refine' ao2 ?h0 ?_); (case h0 => row_cond dc)) | ((with_reducible refine' ao3 ?h0 ?_); (case h0 => row_cond dc)) | ((with_reducible refine' au9 ?h0 ?_); (case h0 => first | exact rfl | row_cond hs)) | ((with_reducible refine' x_dT ?h0 ?h1 ?_); (case h0 => exact rfl); (case h1 => row_cond le); dsimp only [List.set_cons_zero, List.set_cons_succ]) | ((with_reducible refine' x_ow ?h0 ?_); (case h0 => exact rfl); dsimp only [List.set_cons_zero, List.set_cons_succ]))
local macro_rules | `(tactic| row_cond st) => `(tactic| first | ((with_reducible refine avd ?_); row_cond sEvS) | ((with_reducible refine ave ?_); row_cond sEvG) | ((with_reducible refine auj ?_); row_cond sEvGs) | ((with_reducible refine g_Ev ?_); row_cond sEv) | ((with_reducible refine avf ?_); row_cond sEvO) | ((with_reducible refine avg ?_); row_cond sEvT) | ((with_reducible refine avh ?_); row_cond sEvA) | ((with_reducible refine avi ?_); row_cond sEvI) | ((with_reducible refine g_EvOp ?_); row_cond sEvOp) | ((with_reducible refine avj ?_); row_cond sOp2) | ((with_reducible refine g_Op1 ?_); row_cond sOp1) | ((with_reducible refine avk ?_); row_cond sOpA) | ((with_reducible refine g_FQ ?_); row_cond sFQ) | ((with_reducible refine asc ?_); row_cond sRngA1) | ((with_reducible refine asd ?_); row_cond sRngA2) | row_cond sRest)
local macro_rules | `(tactic| row_cond go) => `(tactic| repeat row_cond st)
local macro_rules | `(tactic| row_cond hnx) => `(tactic| first | assumption | (apply Ne.symm; assumption) | exact aah (by assumption) (by assumption) | exact (aah (by assumption) (by assumption)).symm)
local macro_rules | `(tactic| row_cond hhp) => `(tactic| first | assumption | exact aag | (rw [aac (by row_cond hnx)]; row_cond hhp) | ((refine' Same.at ?ss ?hh); (case ss => assumption); (case hh => row_cond hhp)))
local macro_rules | `(tactic| row_cond hix) => `(tactic| first | assumption | exact at0 | exact at1 | exact at2)
local macro_rules | `(tactic| row_cond hst) => `(tactic| first | (with_reducible first | refine go_seq ?_ | refine go_asg ?_ | refine akx ?_ | refine go_op ?_ | refine go_c ?_ | refine go_I0 ?_ | refine go_U ?_ | refine ane ?_ | refine go_test ?_ | refine go_bl ?_ | refine go_ifS ?_ | refine go_and ?_ | refine go_ret ?_ | refine go_drop ?_ | refine go_next ?_ | refine go_cb ?_ | refine go_cons ?_ | refine go_nil ?_ | refine go_call ?_ | refine akz ?_ | refine ak0 ?_ | refine ak1 ?_ | refine go_gsub ?_ | refine go_lstW ?_ | refine go_bmL ?_ | refine go_for ?_ | refine go_lc ?_ | refine go_irng1 ?_ | refine go_yes ?_ | refine acm ?_ | refine ac7 ?_) | ((with_reducible refine' go_var ?hv ?_); (case hv => exact rfl)) | ((with_reducible refine' ai6 ?ha ?hv ?_); (case ha => row_cond hhp); (case hv => row_cond hix)) | ((with_reducible refine go_I ?hc ?_); (case hc => row_cond ar)) | ((with_reducible refine' aky ?ha ?_); (case ha => row_cond hhp)) | ((with_reducible refine' go_setL ?ha ?hj ?_); (case ha => row_cond hhp); (case hj => first | exact ixN0 | exact ixN1 | exact ixN2)) | ((with_reducible refine' go_tyL ?ha ?_); (case ha => row_cond hhp)) | ((with_reducible refine' ahb ?ha ?hl ?_); (case ha => row_cond hhp); (case hl => exact aee (by simp; omega))) | ((with_reducible refine' agk ?hc ?_); (case hc => row_cond dc)) | ((with_reducible refine' aez ?hc ?_); (case hc => row_cond dc)) | dsimp only [List.set_cons_zero, List.set_cons_succ])
local macro_rules | `(tactic| row_cond hgo) => `(tactic| repeat row_cond hst)
def isInt:PyData->Bool
 | .int _=>true
 | _=>false
def btwD (a b:Int):PyData->Bool
 | .int i=>decide (a<=i/\i<=b)
 | _=>false
def asl:VP:=fun ss Q=>∃ d,ss=[.st d]/\Q (.st (.bool (isInt d)))
def an7:VP:=fun ss Q=>∃ (a b:Int) (d:PyData),ss=[.st (.int a),.st (.int b),.st d]/\Q (.st (.bool (btwD a b d)))
def asm:VP:=fun ss Q=>∃ (n:Int) (d:PyData),ss=[.st (.int n),.st d]/\Q (.st (.bool (btwD 0 (n - 1) d)))
section
variable {P:Program} {w:World} {K:Frag} {mg:Str->Option Value} {base:Heap}
theorem sc_is_whole:FnScope ["thing"] ["thing"] (aai s_is_whole):=by row_cond sc
theorem aj4 (T:Txt K mg):Can P w K mg base "is_whole" 1 ["thing"] (spP K (asl)):=by
 obtain ⟨f,fd,D⟩:=T.d_is_whole
 refine D.can (D.fn.ok sc_is_whole (fun vs H Q E h=>lenP h fun ss c q=>by obtain ⟨d,rfl,k⟩:=q;rfl) (fun cdv A outer s H vs Q E j h=>?_))
 have nd:=sc_is_whole.nd
 refine ⟨_,(aak (aas (acz (aao abt (by rfl) T.b_isinstance aay (aaa (pv 0) (aaa (ab3 (v:=.ty "int") rfl T.b_int ai1 rfl) aab))) (ad9 (as8 (aao abt (by rfl) T.b_isinstance aay (aaa (pv 0) (aaa (ab3 (v:=.ty "bool") rfl T.b_bool aq6 rfl) aab)))))))),?_⟩
 refine abh h fun ss c q B g=>?_
 refine exS1 ss q fun d a=>?_
 have k:=a
 clear a q
 show EvS B _ _ [some (.st d)]
 row_cond go
 cases d with
 | int i => refine acm ?_; row_cond go; exact k
 | bool b => refine acm ?_; row_cond go; exact k
 | _=>refine ac7 ?_;exact k
theorem sc_is_between:FnScope ["least","most","thing"] ["least","most","thing"] (aai s_is_between):=by row_cond sc
theorem ads (T:Txt K mg):Can P w K mg base "is_between" 2 ["least","most","thing"] (spP K (an7)):=by
 obtain ⟨f,fd,D⟩:=T.d_is_between
 refine D.can (D.fn.ok sc_is_between (fun vs H Q E h=>lenP h fun ss j q=>by obtain ⟨a,b,d,rfl,k⟩:=q;rfl) (fun cdv A outer s H vs Q E l h=>?_))
 have nd:=sc_is_between.nd
 refine ⟨_,(aak (aas (acz (aan (aj4 T) l (aaa (pv 2) aab)) (ad9 (aoi aqg aqg (pv 0) (pv 2) (pv 1)))))),?_⟩
 refine abh h fun ss j q B m=>?_
 refine exS3 ss q fun a b d c=>?_
 have k:=c
 clear c q
 show EvS B _ _ [some (.st (.int a)),some (.st (.int b)),some (.st d)]
 row_cond go
 refine ⟨d,rfl,?_⟩
 row_cond go
 cases d with
 | int i =>
  refine acm ?_
  row_cond go
  refine ab8 (fun g=>?_) (fun g=>?_)
  ·row_cond go
   have e:decide (i<=b)=btwD a b (.int i):=by
    show _=decide (a<=i/\i<=b)
    rw [aB6];simp [g]
   rw [e];exact k
  ·have e:false=btwD a b (.int i):=by
    show _=decide (a<=i/\i<=b)
    exact (ay5 (fun z=>g z.1)).symm
   rw [e];exact k
 | _=>exact ac7 k
theorem sc_is_place:FnScope ["n","thing"] ["n","thing"] (aai s_is_place):=by row_cond sc
theorem aeq (T:Txt K mg):Can P w K mg base "is_place" 3 ["n","thing"] (spP K (asm)):=by
 obtain ⟨f,fd,D⟩:=T.d_is_place
 refine D.can (D.fn.ok sc_is_place (fun vs H Q E h=>lenP h fun ss b q=>by obtain ⟨n,d,rfl,k⟩:=q;rfl) (fun cdv A outer s H vs Q E c h=>?_))
 have nd:=sc_is_place.nd
 refine ⟨_,(aak (aas (aan (ads T) c (aaa aad (aaa (aaj afn (pv 0) aad) (aaa (pv 1) aab)))))),?_⟩
 refine abh h fun ss b q B g=>?_
 refine exS2 ss q fun n d a=>?_
 have k:=a
 clear a q
 show EvS B _ _ [some (.st (.int n)),some (.st d)]
 row_cond go
 exact ⟨_,_,_,rfl,k⟩
end
def abq (n:Int):PyData->Bool
 | .tuple [.int a,.int b]=>decide (0<=a/\a<=n - 1) && decide (0<=b/\b<=n - 1) && decide (a < b)
 | _=>false
def ad5 (n:Int):PyData->Bool
 | .list ds=>ds.all (abq n)
 | _=>false
def avl:VP:=fun ss Q=>∃ (n:Int) (d:PyData),ss=[.st (.int n),.st d]/\Q (.st (.bool (abq n d)))
def aup:VP:=fun ss Q=>∃ (n:Int) (d:PyData),ss=[.st (.int n),.st d]/\(∀ ds,d=.list ds->ds.length<=100000)/\Q (.st (.bool (ad5 n d)))
def ap7:VP:=fun ss Q=>∃ (ps:List (Int × Int)),ss=[.st (.list (ps.map prD))]/\ps.length<=100000/\∀ b:Bool,(b=true ↔ Rise ps)->Q (.st (.bool b))
section
variable {P:Program} {w:World} {K:Frag} {mg:Str->Option Value} {base:Heap}
theorem sc_is_tie:FnScope ["n","thing","a","b"] ["n","thing"] (aai s_is_tie):=by row_cond sc
theorem amj (T:Txt K mg):Can P w K mg base "is_tie" 4 ["n","thing"] (spP K (avl)):=by
 obtain ⟨f,fd,D⟩:=T.d_is_tie
 refine D.can (D.fn.ok sc_is_tie (fun vs H Q E h=>lenP h fun ss m q=>by obtain ⟨n,d,rfl,k⟩:=q;rfl) (fun cdv A outer s H vs Q E l h=>?_))
 have nd:=sc_is_tie.nd
 refine ⟨_,(aae (abf (PW.pt (ada (aci (ach (aao abt (by rfl) T.b_isinstance aay (aaa (pv 1) (aaa (ab3 (v:=.ty "tuple") rfl T.b_tuple ac5 rfl) aab))))) (acy (aat afp (aao acj (by rfl) T.b_len ac1 (aaa (pv 1) aab)) aad (aaw _)))))
   (aak (aas ab7))
   aa0)
  (aae (aea (pv 1) (adl rfl (abb (aar (i:=2) nd rfl (Or.inl rfl)) (abb (aar (i:=3) nd rfl (Or.inl rfl)) acv))))
  (aak (aas (acz (aan (aeq T) l (aaa (pv 0) (aaa (pv 2) aab))) (acz (aan (aeq T) l (aaa (pv 0) (aaa (pv 3) aab))) (ad9 (aew aqf (pv 2) (pv 3) (aaw _))))))))),?_⟩
 refine abh h fun ss m q B o=>?_
 refine exS2 ss q fun n d g=>?_
 have k:=g
 clear g q
 show EvS B _ _ [some (.st (.int n)),some (.st d),none,none]
 row_cond go
 cases d with
 | tuple xs =>
  refine agp ?_
  row_cond go
  rcases (show xs.length=2\/xs.length ≠ 2 by omega) with j | j
  ·match xs,j with
   | [x,y],_ =>
    row_cond go
    refine ⟨n,x,rfl,?_⟩
    row_cond go
    have c:abq n (.tuple [x,y])=(btwD 0 (n - 1) x && (btwD 0 (n - 1) y && match x,y with | .int a,.int b=>decide (a < b) | _,_=>false)):=by
     cases x <;> cases y <;> simp [abq,btwD,Bool.and_assoc]
    cases hx:btwD 0 (n - 1) x with
    | false =>
     rw [hx,Bool.false_and] at c
     refine ac7 ?_
     rw [← c];exact k
    | true =>
     refine acm ?_
     row_cond go
     refine ⟨n,y,rfl,?_⟩
     row_cond go
     cases hy:btwD 0 (n - 1) y with
     | false =>
      rw [hx,hy] at c
      refine ac7 ?_
      rw [show false=abq n (.tuple [x,y]) by rw [c];rfl];exact k
     | true =>
      refine acm ?_
      cases x with
      | int a =>
       cases y with
       | int b =>
        row_cond go
        rw [hx,hy] at c
        rw [show decide (a < b)=abq n (.tuple [.int a,.int b]) by rw [c];rfl];exact k
       | _=>simp [btwD] at hy
      | _=>simp [btwD] at hx
  ·row_cond go
   have:abq n (.tuple xs)=false:=by
    match xs,j with
    | [],_=>rfl
    | [x],_=>cases x <;> rfl
    | [_,_],h=>exact absurd rfl h
    | x :: y :: _ :: _,_=>cases x <;> cases y <;> rfl
   rw [← this];exact k
 | _ =>
  refine agq ?_
  row_cond go
  exact k
theorem sc_are_ties:FnScope ["n","thing"] ["n","thing"] (aai s_are_ties):=by row_cond sc
theorem aj5 (T:Txt K mg):Can P w K mg base "are_ties" 5 ["n","thing"] (spP K (aup)):=by
 obtain ⟨f,fd,D⟩:=T.d_are_ties
 refine D.can (D.fn.ok sc_are_ties (fun vs H Q E h=>lenP h fun ss c q=>by obtain ⟨n,d,rfl,b,k⟩:=q;rfl) (fun cdv A outer s H vs Q E g h=>?_))
 have nd:=sc_are_ties.nd
 refine ⟨_,(aak (aas (acz (aao abt (by rfl) T.b_isinstance aay (aaa (pv 1) (aaa (ab3 (v:=.ty "list") rfl T.b_list agl rfl) aab))) (ad9 (aao (aen rfl) (by rfl) T.b_all ai0 (aaa (acd rfl (N:=["tie","n"]) (src:=[none,some 0]) (by exact abw rfl rfl rfl rfl rfl rfl) (acw (pv 1)) (fun _ _ _ _=>(aar (i:=0) (show List.Nodup (["tie","n"]:List Str) by decide +kernel) rfl (Or.inl rfl) (hf:=Or.inr rfl))) (fun _ _ _ _=>ab6) (fun _ _ _ _=>(aan (amj T) g (aaa (pv 1) (aaa (pv 0) aab))))) aab)))))),?_⟩
 refine abh h fun ss c q B l=>?_
 refine exS2 ss q fun n d a=>?_
 have b:=a.1
 have k:=a.2
 clear a q
 show EvS B _ _ [some (.st (.int n)),some (.st d)]
 row_cond go
 cases d with
 | list ds =>
  have b:=b ds rfl
  refine acm ?_
  row_cond go
  refine ak9 (fun t => .bool (abq n t)) rfl (by omega) (fun t _ j m=>?_) ?_
  ·row_cond go
   exact ⟨n,t,rfl,rfl,rfl⟩
  ·row_cond go
   rw [show (ds.map fun t=>PyData.bool (abq n t))=(ds.map (abq n)).map .bool by rw [ay8];rfl]
   refine agz ?_
   row_cond go
   rw [show (ds.map (abq n)).all id=ad5 n (.list ds) by simp [ad5,List.all_map]]
   exact k
 | _ =>
  refine ac7 ?_
  exact k
theorem sc_is_rising:FnScope ["things"] ["things"] (aai s_is_rising):=by row_cond sc
theorem ah6 (T:Txt K mg):Can P w K mg base "is_rising" 1 ["things"] (spP K (ap7)):=by
 obtain ⟨f,fd,D⟩:=T.d_is_rising
 refine D.can (D.fn.ok sc_is_rising (fun vs H Q E h=>lenP h fun ss l q=>by obtain ⟨ps,rfl,m,k⟩:=q;rfl) (fun cdv A outer s H vs Q E n h=>?_))
 have nd:=sc_is_rising.nd
 refine ⟨_,(aak (aas (aao (aen rfl) (by rfl) T.b_all ai0 (aaa (acd rfl (N:=["at","things"]) (src:=[none,some 0]) (by exact abw rfl rfl rfl rfl rfl rfl) (adc rfl T.b_range (aaa (aaj afn (aao acj (by rfl) T.b_len ac1 (aaa (pv 0) aab)) aad) aab)) (fun _ _ _ _=>(aar (i:=0) (show List.Nodup (["at","things"]:List Str) by decide +kernel) rfl (Or.inl rfl) (hf:=Or.inr rfl))) (fun _ _ _ _=>ab6) (fun _ _ _ _=>(aew (show OpR _ (compareOp .Lt) (rLtT K) from atb n.units0) (abr (show IxR _ (abl K) from abz) (pv 1) (pv 0) (fun _ _=>rfl)) (abr (show IxR _ (abl K) from abz) (pv 1) (aaj abm (pv 0) aad) (fun _ _=>rfl)) (aaw _)))) aab)))),?_⟩
 refine abh h fun ss l q B r=>?_
 refine exS1 ss q fun ps a=>?_
 have m:=a.1
 have k:=a.2
 clear a q
 show EvS B _ _ [some (.st (.list (ps.map prD)))]
 row_cond go
 rw [av3]
 row_cond go
 refine ak9 (fun d=>match d with | .int i => .bool (match ps[i.toNat]?,ps[i.toNat+1]? with | some p,some q=>HT.lexLt (p2 p) (p2 q) | _,_=>false) | _ => .none) rfl (by rw [acf];omega) (fun d hd o x=>?_) ?_
 ·obtain ⟨i,hi⟩:=List.mem_iff_getElem?.mp hd
  obtain ⟨hi,rfl⟩:=afi hi
  have c:i < ps.length:=by omega
  have j:i+1 < ps.length:=by omega
  have u:atI (ps.map prD) (0+(i:Int))=some (prD ps[i]):=af4 (f:=prD) (af5 (by omega) (by rw [show (0+(i:Int)).toNat=i by omega];exact av0 c))
  have v:atI (ps.map prD) (0+(i:Int)+1)=some (prD ps[i+1]):=af4 (f:=prD) (af5 (by omega) (by rw [show (0+(i:Int)+1).toNat=i+1 by omega];exact av0 j))
  row_cond go
  refine asb ?_
  row_cond go
  refine ⟨?_,rfl⟩
  simp [c,j]
 ·row_cond go
  have e:(rngD 0 ((ps.length:Int) - 1).toNat).map (fun d=>match d with | .int i=>PyData.bool (match ps[i.toNat]?,ps[i.toNat+1]? with | some p,some q=>HT.lexLt (p2 p) (p2 q) | _,_=>false) | _ => .none)=((List.range (ps.length - 1)).map fun i=>match ps[i]?,ps[i+1]? with | some p,some q=>HT.lexLt (p2 p) (p2 q) | _,_=>false).map .bool:=by
   unfold rngD
   rw [ay8,ay8,show ((ps.length:Int) - 1).toNat=ps.length - 1 by omega]
   apply List.map_congr_left
   intro i _
   simp
  rw [e]
  refine agz ?_
  row_cond go
  refine k _ ?_
  rw [List.all_map,az6]
  unfold Rise
  rw [ajy ltP (fun h g=>anu h g)]
  constructor
  ·intro h i hi
   have:=h i (aw9.mpr (by omega))
   simp [show i < ps.length by omega,hi] at this
   exact (lex2 _ _).mp this
  ·intro h i hi
   have b:i+1 < ps.length:=by have:=aw9.mp hi;omega
   have:=(lex2 _ _).mpr (h i b)
   simp [show i < ps.length by omega,b,this]
end
def asn:VP:=fun ss Q=>∃ (n:Int) (es:List (Int × Int)),ss=[.st (webD n es)]/\1<=n/\n<=60/\PsOk n es/\Rise es/\es.length<=10000/\Q (.st (.bool true))
section
variable {P:Program} {w:World} {K:Frag} {mg:Str->Option Value} {base:Heap}
theorem sc_is_web:FnScope ["thing","n","ties"] ["thing"] (aai s_is_web):=by row_cond sc
theorem amk (T:Txt K mg):Can P w K mg base "is_web" 6 ["thing"] (spP K (asn)):=by
 obtain ⟨f,fd,D⟩:=T.d_is_web
 obtain ⟨d,a⟩:=T.v_MOST_PLACES
 refine D.can (D.fn.ok sc_is_web (fun vs H Q E h=>lenP h fun ss r q=>by obtain ⟨n,es,rfl,u,z,m,l,y,j⟩:=q;rfl) (fun cdv A outer s H vs Q E g h=>?_))
 have nd:=sc_is_web.nd
 refine ⟨_,(aae (abf (PW.pt (ada (aci (ach (aao abt (by rfl) T.b_isinstance aay (aaa (pv 0) (aaa (ab3 (v:=.ty "tuple") rfl T.b_tuple ac5 rfl) aab))))) (acy (aat afp (aao acj (by rfl) T.b_len ac1 (aaa (pv 0) aab)) aad (aaw _)))))
   (aak (aas ab7))
   aa0)
  (aae (aea (pv 0) (adl rfl (abb (aar (i:=1) nd rfl (Or.inl rfl)) (abb (aar (i:=2) nd rfl (Or.inl rfl)) acv))))
  (aak (aas (acz (aan (ads T) g (aaa aad (aaa (akq (v:=.int 60) rfl a ⟨_,rfl⟩) (aaa (pv 1) aab)))) (acz (aan (aj5 T) g (aaa (pv 1) (aaa (pv 2) aab))) (ad9 (aan (ah6 T) g (aaa (pv 2) aab))))))))),?_⟩
 refine abh h fun ss r q B F=>?_
 refine exS2 ss q fun n es c=>?_
 have u:=c.1
 have z:=c.2.1
 have m:=c.2.2.1
 have l:=c.2.2.2.1
 have y:=c.2.2.2.2.1
 have j:=c.2.2.2.2.2
 clear c q
 show EvS B _ _ [some (.st (webD n es)),none,none]
 have o:isiD "tuple" (webD n es)=true:=rfl
 have x:ad5 n (.list (es.map prD))=true:=by
  show ((es.map prD).all (abq n))=true
  rw [List.all_map,az6]
  intro p C
  have:=m.inn p C
  simp [abq,prD];omega
 row_cond go
 rw [o]
 row_cond go
 refine ajn ?_
 row_cond go
 refine ⟨1,60,_,rfl,?_⟩
 rw [show btwD 1 60 (.int n)=true by simp [btwD];omega]
 row_cond go
 refine ⟨n,_,rfl,fun ds e=>by cases e;rw [av3];omega,?_⟩
 rw [x]
 row_cond go
 refine ⟨es,rfl,by omega,fun b hb=>?_⟩
 obtain rfl:=hb.mpr l
 row_cond go
 exact j
end
theorem ad6 {α:Type} {K:Frag} {src:List (Option Nat)} {a:En} {te:TE} {R:List PyData->En->Prop} {xs:List α} {f : α->PyData} (g : α->PyData) (j:noIo (aal src a)=true) (A:xs.length<=999999)
  (h:∀ x∈xs,∀ c:Bs,c.K=K->Ev c te (some (.st (f x)) :: aal src a) fun y l=>y=g x/\l=some (.st (f x)) :: aal src a)
  (z:R (xs.map g) a):LcV K (none :: src) (aax 0) tYes te (xs.map f) a R:=by
 have b:noIo (aal (none :: src) a)=true:=by
  show ((none :: aal src a).all fun s => !isIo s)=true
  rw [List.all_cons]
  exact (aB2 _ _).mpr ⟨rfl,j⟩
 refine ⟨fun i ys e=>ys=(xs.take i).map g/\∃ o,e=stO o :: aal src a,⟨by simp,none,rfl⟩,?_,?_,?_⟩
 ·rintro i ys e ⟨_,o,rfl⟩
  exact ⟨⟨isIo_stO.symm,acn⟩,aco acg⟩
 ·rintro i d ys e hd ⟨rfl,o,rfl⟩ c q
  rw [av5] at hd
  cases hx:xs[i]? with
  | none=>rw [hx] at hd;cases hd
  | some x =>
   rw [hx] at hd
   cases hd
   have hi:i < xs.length:=(av1.mp hx).1
   have r:xs.take (i+1)=xs.take i ++ [x]:=by rw [aB4,hx];rfl
   refine aaz (adp ?_)
   rw [az7 rfl]
   intro σ G H F Q I k
   refine h x (av2 hx) c q σ G H F Q I fun v G' H' n d' l u g' w ⟨p,m⟩=>k v G' H' n d' l u g' w ?_
   subst p m
   refine ⟨by simp;omega,by rw [r];simp,some _,rfl⟩
 ·rintro ys e ⟨rfl,o,rfl⟩
  rw [ae3 b]
  simpa using z
open Tx
def tS (p:Int × Int):Str:=nS p.1 ++ "-" ++ nS p.2
def wS (n:Int) (es:List (Int × Int)):Str:=Txt.join " " (nS n :: es.map tS)
def an8:VP:=fun ss Q=>∃ p:Int × Int,ss=[.st (prD p)]/\0<=p.1/\p.1 < 100/\0<=p.2/\p.2 < 100/\Q (.st (.str (tS p)))
def an9:VP:=fun ss Q=>∃ (n:Int) (es:List (Int × Int)),ss=[.st (webD n es)]/\0<=n/\n < 100/\es.length<=10000/\(∀ p∈es,0<=p.1/\p.1 < 100/\0<=p.2/\p.2 < 100)/\Q (.st (.str (wS n es)))
def aso:VP:=fun ss Q=>∃ i:Int,ss=[.st (.str (nS i))]/\0<=i/\i < 100/\Q (.st (.int i))
def asp:VP:=fun ss Q=>∃ p:Int × Int,ss=[.st (.str (tS p))]/\0<=p.1/\p.1 < 100/\0<=p.2/\p.2 < 100/\Q (.st (prD p))
def aoa:VP:=fun ss Q=>∃ (n:Int) (es:List (Int × Int)),ss=[.st (.str (wS n es))]/\1<=n/\n<=60/\PsOk n es/\Rise es/\es.length<=10000/\Q (.own (OW (.int n) (es.map prD)))
theorem abk {i:Int} (d:0<=i) (a:i < 100):((nS i).length=1\/(nS i).length=2)/\(∀ c∈(nS i).cps.toList,(!(Builtin.Str.occurrences figs ⟨#[c]⟩ 0 figs.length 1).isEmpty)=true/\c ≠ 45/\c ≠ 32)/\((nS i).length=2->(nS i).cps.toList.head? ≠ some 48):=by
 have h:=aum d a
 unfold okN at h
 rw [show ((i.toNat:Nat):Int)=i by omega] at h
 simp only [aB2,Bool.or_eq_true,aA4,bne_iff_ne,az6] at h
 refine ⟨h.1.1,fun c f=>?_,fun b=>?_⟩
 ·have:=h.1.2 c f
  exact ⟨this.1.1,this.1.2,this.2⟩
 ·rcases h.2 with z | z
  ·exact absurd b z
  ·exact z
theorem af9 {c:Nat}:∀ {ws:List Str},(∀ s∈ws,s.length<=c)->(ws.map (·.length)).sum<=ws.length * c
 | [],_=>by simp
 | w :: ws,h=>by
  have b:=h w (by simp)
  have d:=af9 (ws:=ws) fun s a=>h s (aw5 _ a)
  rw [ay1,List.sum_cons,az0,Nat.add_mul]
  omega
theorem aga {p:Int × Int} (h:0<=p.1/\p.1 < 100/\0<=p.2/\p.2 < 100):(tS p).length<=5:=by
 have a:=(abk h.1 h.2.1).1
 have b:=(abk h.2.2.1 h.2.2.2).1
 unfold tS
 rw [strLen_append,strLen_append]
 have:(("-" : Str)).length=1:=rfl
 omega
theorem asq (p:Int × Int):tS p=Txt.join "-" [nS p.1,nS p.2]:=rfl
theorem adt {i:Int} (a:0<=i) (b:i < 100):45 ∉ (nS i).cps.toList/\32 ∉ (nS i).cps.toList :=
 ⟨fun h=>((abk a b).2.1 45 h).2.1 rfl,fun h=>((abk a b).2.1 32 h).2.2 rfl⟩
theorem afk {p:Int × Int} (h:0<=p.1/\p.1 < 100/\0<=p.2/\p.2 < 100):Txt.split (tS p) "-" = [nS p.1,nS p.2]:=by
 rw [asq]
 refine af7 (c:=45) (by simp) fun w a=>?_
 rcases av9.mp a with rfl | a
 ·exact (adt h.1 h.2.1).1
 ·rw [ax2.mp a]
  exact (adt h.2.2.1 h.2.2.2).1
theorem asr {p:Int × Int} (h:0<=p.1/\p.1 < 100/\0<=p.2/\p.2 < 100):32 ∉ (tS p).cps.toList:=by
 unfold tS
 rw [Str.cps_append,Str.cps_append,aA7,aA7,av7,av7]
 rintro ((z | z) | z)
 ·exact (adt h.1 h.2.1).2 z
 ·exact absurd z (by decide)
 ·exact (adt h.2.2.1 h.2.2.2).2 z
theorem afl {n:Int} {es:List (Int × Int)} (f:0<=n) (b:n < 100) (h:∀ p∈es,0<=p.1/\p.1 < 100/\0<=p.2/\p.2 < 100):Txt.split (wS n es) " " = nS n :: es.map tS:=by
 refine af7 (c:=32) (by simp) fun w a=>?_
 rcases av9.mp a with rfl | a
 ·exact (adt f b).2
 ·obtain ⟨p,d,rfl⟩:=aw7.mp a
  exact asr (h p d)
theorem aob (c:Nat):∀ (ws:List (List Nat)),(gl c ws).length<=(ws.map List.length).sum+ws.length
 | []=>by simp [gl]
 | [w]=>by simp [gl]
 | w :: v :: r=>by
  have:=aob c (v :: r)
  show (w ++ c :: gl c (v :: r)).length<=_
  rw [aw1,az0,ay1,List.sum_cons,az0]
  omega
theorem auq {n:Int} {es:List (Int × Int)} (g:0<=n) (i:n < 100) (o:es.length<=10000) (h:∀ p∈es,0<=p.1/\p.1 < 100/\0<=p.2/\p.2 < 100):(wS n es).length<=1000000:=by
 have f:wS n es=Str.join ⟨#[32]⟩ (nS n :: es.map tS):=StrLaws.glued_eq_join _ _
 have l:=congrArg (fun s:Str=>s.cps.toList.length) f
 have m:(wS n es).length=(gl 32 ((nS n :: es.map tS).map (·.cps.toList))).length:=by rw [← ag2];exact l
 have a:=aob 32 ((nS n :: es.map tS).map (·.cps.toList))
 have b:∀ s∈nS n :: es.map tS,Str.length s<=5:=fun s b=>by
  rcases av9.mp b with e | h'
  ·have:=(abk g i).1
   rw [e];omega
  ·obtain ⟨p,j,rfl⟩:=aw7.mp h'
   exact aga (h p j)
 have d:=af9 b
 rw [ay8,av3] at a
 have c:((nS n :: es.map tS).map (List.length ∘ fun s:Str=>s.cps.toList))=(nS n :: es.map tS).map (·.length):=rfl
 rw [c] at a
 rw [az0,av3] at a d
 omega
section
variable {P:Program} {w:World} {K:Frag} {mg:Str->Option Value} {base:Heap}
theorem sc_show_tie:FnScope ["tie","a","b"] ["tie"] (aai s_show_tie):=by row_cond sc
theorem aj6 (T:Txt K mg):Can P w K mg base "show_tie" 1 ["tie"] (spP K (an8)):=by
 obtain ⟨f,fd,D⟩:=T.d_show_tie
 refine D.can (D.fn.ok sc_show_tie (fun vs H Q E h=>lenP h fun ss b q=>by obtain ⟨p,rfl,a0,c,b0,d,k⟩:=q;rfl) (fun cdv A outer s H vs Q E j h=>?_))
 have nd:=sc_show_tie.nd
 refine ⟨_,(aae (aea (pv 0) (adl rfl (abb (aar (i:=1) nd rfl (Or.inl rfl)) (abb (aar (i:=2) nd rfl (Or.inl rfl)) acv))))
  (aak (aas (apw (by decide) (pv 1) (pv 2))))),?_⟩
 refine abh h fun ss b q B g=>?_
 refine exS1 ss q fun p a=>?_
 have a0:=a.1
 have c:=a.2.1
 have b0:=a.2.2.1
 have d:=a.2.2.2.1
 have k:=a.2.2.2.2
 clear a q
 show EvS B _ _ [some (.st (prD p)),none,none]
 row_cond go
 refine aa9 (apx ?_)
 row_cond go
 refine ⟨⟨a0,by omega⟩,?_⟩
 row_cond go
 exact ⟨⟨b0,by omega⟩,k⟩
theorem sc_show_web:FnScope ["web","n","ties"] ["web"] (aai s_show_web):=by row_cond sc
theorem aj7 (T:Txt K mg):Can P w K mg base "show_web" 2 ["web"] (spP K (an9)):=by
 obtain ⟨f,fd,D⟩:=T.d_show_web
 refine D.can (D.fn.ok sc_show_web (fun vs H Q E h=>lenP h fun ss m q=>by obtain ⟨n,es,rfl,d,l,o,b,k⟩:=q;rfl) (fun cdv A outer s H vs Q E r h=>?_))
 have nd:=sc_show_web.nd
 refine ⟨_,(aae (aea (pv 0) (adl rfl (abb (aar (i:=1) nd rfl (Or.inl rfl)) (abb (aar (i:=2) nd rfl (Or.inl rfl)) acv))))
  (aak (aas (aex PySem.F.plainAttrs_str PySem.F.slot_str_join PySem.F.type_str_join ale adk (aaa (aaj am6 (afr (aaa (abg adj (by rfl) T.b_str aeg (aaa (pv 1) aab)) aab)) (acd rfl (N:=["tie"]) (src:=[none]) (by exact abw rfl rfl rfl rfl rfl rfl) (acw (pv 2)) (fun _ _ _ _=>(aar (i:=0) (show List.Nodup (["tie"]:List Str) by decide +kernel) rfl (Or.inl rfl) (hf:=Or.inr rfl))) (fun _ _ _ _=>ab6) (fun _ _ _ _=>(aan (aj6 T) r (aaa (pv 0) aab))))) aab))))),?_⟩
 refine abh h fun ss m q B v=>?_
 refine exS2 ss q fun n es a=>?_
 have d:=a.1
 have l:=a.2.1
 have o:=a.2.2.1
 have b:=a.2.2.2.1
 have k:=a.2.2.2.2
 clear a q
 show EvS B _ _ [some (.st (webD n es)),none,none]
 row_cond go
 refine alh ?_
 row_cond go
 refine ⟨_,rfl,?_⟩
 row_cond go
 refine ad4 ⟨d,by omega⟩ ?_
 row_cond go
 refine ad6 (f:=prD) (fun p => .str (tS p)) rfl (by omega) (fun p j u x=>?_) ?_
 ·have c:=b p j
  row_cond go
  refine ⟨p,rfl,c.1,c.2.1,c.2.2.1,c.2.2.2,?_⟩
  row_cond go
  exact rfl
 ·refine agy (by rw [av3];simp;omega) (adh ?_)
  row_cond go
  refine ⟨nS n :: es.map tS,by rw [ay1,ay8];rfl,?_,k⟩
  have g:=af9 (fun s g=>?_:∀ s∈nS n :: es.map tS,Str.length s<=5)
  ·have:(("" ++ " " : Str)).length=1:=rfl
   rw [show ((" " : Str)).length=1 from rfl,az0,av3]
   rw [az0,av3] at g
   omega
  ·rcases av9.mp g with e | h
   ·have:=(abk d l).1
    rw [e];omega
   ·obtain ⟨p,j,rfl⟩:=aw7.mp h
    exact aga (b p j)
theorem sc_number_of:FnScope ["word"] ["word"] (aai s_number_of):=by row_cond sc
theorem ad8 (T:Txt K mg):Can P w K mg base "number_of" 1 ["word"] (spP K (aso)):=by
 obtain ⟨f,fd,D⟩:=T.d_number_of
 obtain ⟨l,a⟩:=T.v_FIGURES
 refine D.can (D.fn.ok sc_number_of (fun vs H Q E h=>lenP h fun ss y q=>by obtain ⟨i,rfl,o,p,k⟩:=q;rfl) (fun cdv A outer s H vs Q E F h=>?_))
 have nd:=sc_number_of.nd
 refine ⟨_,(aae (abf (PW.pt (ada (aat (anj F.units) (aao ahn (by rfl) T.b_len ac1 (aaa (pv 0) aab)) (abv (aaa aad (aaa aad aab))) rfl) (acy (aci (ach (aao (aen rfl) (by rfl) T.b_all ai0 (aaa (acd rfl (N:=["sign"]) (src:=[none]) (by exact abw rfl rfl rfl rfl rfl rfl) (auk (pv 0)) (fun _ _ _ _=>(aar (i:=0) (show List.Nodup (["sign"]:List Str) by decide +kernel) rfl (Or.inl rfl) (hf:=Or.inr rfl))) (fun _ _ _ _=>ab6) (fun _ _ _ _=>(aew aul (pv 0) (akq (v:=.str "0123456789") rfl a ⟨_,rfl⟩) rfl))) aab)))))))
   (aak (aas amt))
   aa0)
  (aae (abf (PW.pt (amu (aat afo (aao ahn (by rfl) T.b_len ac1 (aaa (pv 0) aab)) aad (aaw _)) (akr (aat afo (abr atd (pv 0) aad (fun _ _=>rfl)) adk (aaw _)))))
   (aak (aas amt))
   aa0)
  (aak (aas (abg anx (by rfl) T.b_int ai1 (aaa (pv 0) aab)))))),?_⟩
 refine abh h fun ss y q B J=>?_
 refine exS1 ss q fun i b=>?_
 have o:=b.1
 have p:=b.2.1
 have k:=b.2.2
 clear b q
 show EvS B _ _ [some (.st (.str (nS i)))]
 row_cond go
 have hf:=abk o p
 refine aj0 (by omega) ?_
 row_cond go
 refine api rfl rfl (by simp [PyData.depth]) ?_
 rw [show (if true=true then !([PyData.int 1,.int 2].any fun z=>PyData.eqv z (.int ((nS i).length:Int))) else ([PyData.int 1,.int 2].any fun z=>PyData.eqv z (.int ((nS i).length:Int))))=false by
  rcases hf.1 with e | e <;> rw [e] <;> rfl]
 row_cond go
 refine ase ?_
 row_cond go
 refine ⟨_,rfl,?_⟩
 unfold sgnD
 refine ad6 (f:=fun c=>PyData.str ⟨#[c]⟩) (fun _ => .bool true) rfl (by show (nS i).cps.toList.length<=_;have:(nS i).cps.toList.length=(nS i).length:=rfl;omega) (fun c m G I=>?_) ?_
 ·row_cond go
  refine asf ?_
  rw [show ("0123456789" : Str)=figs from rfl,(hf.2.1 c m).1]
  row_cond go
  exact rfl
 ·row_cond go
  rw [show ((nS i).cps.toList.map fun _=>PyData.bool true)=((nS i).cps.toList.map fun _=>true).map .bool by rw [ay8];rfl]
  refine agz ?_
  rw [show ((nS i).cps.toList.map fun _=>true).all id=true by simp]
  row_cond go
  refine aj0 (by omega) ?_
  row_cond go
  refine' cutR (R:=EvS B ?c1 ?d1 [some (.st (.str (nS i)))]) (fun R=>?K1) ?K2
  case K1 =>
   refine ab8 (fun u=>?_) (fun u=>?_)
   ·have n:(nS i).length=2:=by omega
    obtain ⟨c,m⟩:∃ c,(nS i).cps.toList.head?=some c:=by
     cases e:(nS i).cps.toList with
     | nil =>
      have:(nS i).cps.toList.length=(nS i).length:=rfl
      rw [e] at this
      simp at this
      omega
     | cons c r=>exact ⟨c,rfl⟩
    have g:=hf.2.2 n
    rw [m] at g
    have ha:atI (nS i).cps.toList 0=some c:=by
     cases e:(nS i).cps.toList with
     | nil=>rw [e] at m;cases m
     | cons d r=>rw [e] at m;cases m;exact agh (j:=0) rfl
    row_cond go
    refine apz (by omega) ha ?_
    row_cond go
    refine aez (fun e=>g ?_) ?_
    ·have C:=congrArg (fun s:Str=>s.cps.toList) e
     have x:[c]=[48]:=C
     rw [List.cons.inj x |>.1]
    ·repeat (first | exact R | row_cond st)
   ·repeat (first | exact R | row_cond st)
  case K2 =>
   row_cond go
   refine aa9 (al4 ?_)
   row_cond go
   refine apy (PySem.W.KIN.num_reads o (by omega)) (by show (nS i).length<=_;omega) ?_
   row_cond go
   exact k
theorem sc_tie_of:FnScope ["word"] ["word"] (aai s_tie_of):=by row_cond sc
theorem aml (T:Txt K mg):Can P w K mg base "tie_of" 2 ["word"] (spP K (asp)):=by
 obtain ⟨f,fd,D⟩:=T.d_tie_of
 refine D.can (D.fn.ok sc_tie_of (fun vs H Q E h=>lenP h fun ss g q=>by obtain ⟨p,rfl,a0,c,b0,d,k⟩:=q;rfl) (fun cdv A outer s H vs Q E l h=>?_))
 have nd:=sc_tie_of.nd
 refine ⟨_,(aak (aas (abg an0 (by rfl) T.b_tuple ac5 (aaa (acd rfl (N:=["part"]) (src:=[none]) (by exact abw rfl rfl rfl rfl rfl rfl) (acw (aex PySem.F.plainAttrs_str PySem.F.slot_str_split PySem.F.type_str_split ajz (pv 0) (aaa adk aab))) (fun _ _ _ _=>(aar (i:=0) (show List.Nodup (["part"]:List Str) by decide +kernel) rfl (Or.inl rfl) (hf:=Or.inr rfl))) (fun _ _ _ _=>ab6) (fun _ _ _ _=>(aan (ad8 T) l (aaa (pv 0) aab)))) aab)))),?_⟩
 refine abh h fun ss g q B n=>?_
 refine exS1 ss q fun p a=>?_
 have a0:=a.1
 have c:=a.2.1
 have b0:=a.2.2.1
 have d:=a.2.2.2.1
 have k:=a.2.2.2.2
 clear a q
 show EvS B _ _ [some (.st (.str (tS p)))]
 have hb:=afk (p:=p) ⟨a0,c,b0,d⟩
 have j:=aga (p:=p) ⟨a0,c,b0,d⟩
 refine agx ?_
 refine aa9 (al4 ?_)
 repeat (first | (refine ab2 (aho ?_)) | row_cond st)
 refine ⟨_,rfl,?_⟩
 row_cond go
 refine ⟨_,rfl,rfl,by omega,by rw [hb];exact Nat.le_of_ble_eq_true rfl,adh ?_⟩
 rw [hb]
 row_cond go
 show LcV _ _ _ _ _ ([p.1,p.2].map fun i=>PyData.str (nS i)) _ _
 refine ad6 (xs:=[p.1,p.2]) (f:=fun i=>PyData.str (nS i)) (fun i => .int i) rfl (by simp) (fun i hi m o=>?_) ?_
 ·have b:0<=i/\i < 100:=by
   rcases av9.mp hi with rfl | hi
   ·exact ⟨a0,c⟩
   ·rw [ax2.mp hi];exact ⟨b0,d⟩
  row_cond go
  refine ⟨i,rfl,b.1,b.2,?_⟩
  row_cond go
  exact rfl
 ·row_cond go
  refine ap2 ?_
  row_cond go
  exact k
theorem sc_read_web:FnScope ["text","first","others","web"] ["text"] (aai s_read_web):=by row_cond sc
theorem aer (T:Txt K mg):Can P w K mg base "read_web" 7 ["text"] (spP K (aoa)):=by
 obtain ⟨f,fd,D⟩:=T.d_read_web
 refine D.can (D.fn.ok sc_read_web (fun vs H Q E h=>lenP h fun ss x q=>by obtain ⟨n,es,rfl,m,r,g,o,d,k⟩:=q;rfl) (fun cdv A outer s H vs Q E l h=>?_))
 have nd:=sc_read_web.nd
 refine ⟨_,(aae (abf (aci (ach (aao abt (by rfl) T.b_isinstance aay (aaa (pv 0) (aaa (ab3 (v:=.ty "str") rfl T.b_str aeg rfl) aab)))))
   (aak aim)
   aa0)
  (aae (aea (aex PySem.F.plainAttrs_str PySem.F.slot_str_split PySem.F.type_str_split ajz (pv 0) (aaa adk aab)) (ash rfl (aar (i:=1) nd rfl (Or.inl rfl)) (aar (i:=2) nd rfl (Or.inl rfl))))
  (aae (aa1 (i:=3) nd rfl (Or.inl rfl) (abv (aaa (aan (ad8 T) l (aaa (pv 1) aab)) (aaa (acd rfl (N:=["word"]) (src:=[none]) (by exact abw rfl rfl rfl rfl rfl rfl) (acw (pv 2)) (fun _ _ _ _=>(aar (i:=0) (show List.Nodup (["word"]:List Str) by decide +kernel) rfl (Or.inl rfl) (hf:=Or.inr rfl))) (fun _ _ _ _=>ab6) (fun _ _ _ _=>(aan (aml T) l (aaa (pv 0) aab)))) aab))))
  (aae (abf (aci (ach (aan (amk T) l (aaa (pv 3) aab))))
   (aak aim)
   aa0)
  (aak (aas (pv 3))))))),?_⟩
 refine abh h fun ss x q B y=>?_
 refine exS2 ss q fun n es a=>?_
 have m:=a.1
 have r:=a.2.1
 have g:=a.2.2.1
 have o:=a.2.2.2.1
 have d:=a.2.2.2.2.1
 have k:=a.2.2.2.2.2
 clear a q
 show EvS B _ _ [some (.st (.str (wS n es))),none,none,none]
 have b:∀ p∈es,0<=p.1/\p.1 < 100/\0<=p.2/\p.2 < 100:=fun p j=>by have:=g.inn p j;omega
 have hb:=afl (n:=n) (by omega) (by omega) b
 row_cond go
 rw [show isiD "str" (.str (wS n es))=true from rfl]
 repeat (first | (refine aho ?_) | row_cond st)
 refine ⟨_,rfl,?_⟩
 row_cond go
 refine ⟨_,rfl,rfl,auq (by omega) (by omega) d b,by rw [hb];simp;omega,?_⟩
 rw [hb]
 refine ag0 ael ?_
 rw [ay1]
 refine ap1 (ag0 ael ?_)
 repeat (first | (refine ap3 ?_) | row_cond st)
 refine ⟨n,rfl,by omega,by omega,?_⟩
 row_cond go
 rw [ay8]
 refine ad6 (f:=PyData.str ∘ tS) prD rfl (by omega) (fun p j u z=>?_) ?_
 ·have c:=b p j
  show Ev u _ (some (.st (.str (tS p))) :: _) _
  row_cond go
  refine ⟨p,rfl,c.1,c.2.1,c.2.2.1,c.2.2.2,?_⟩
  row_cond go
  exact rfl
 ·refine ⟨_,rfl,?_⟩
  repeat (first | (refine aps (i:=3) (.inl rfl) ?_) | row_cond st)
  refine ⟨n,es,rfl,m,r,g,o,d,?_⟩
  row_cond go
  exact k
end
theorem addAll_mem {p:Int × Int}:∀ {es ps:List (Int × Int)},p∈es.foldl addP ps ↔ p∈ps\/p∈es
 | [],ps=>by simp
 | e :: es,ps=>by
  rw [List.foldl_cons,addAll_mem,addP_mem,av9,or_assoc]
theorem aes:∀ {es ps:List (Int × Int)},ps.Nodup->(es.foldl addP ps).Nodup
 | [],_,h=>h
 | e :: es,ps,h=>by
  rw [List.foldl_cons]
  exact aes (af6 h)
def aur:VP:=fun ss Q=>∃ (ns:List Int) (k:Int),ss=[.scr ns,.st (.int k)]/\0<=k/\k < 1048576/\∀ c,Q (.st (.int c))
def mixI (c k:Int):Int:=(c * 48271+7919 * k * k+104729 * k+11) % 2147483647 * ((c * 48271+7919 * k * k+104729 * k+11) % 2147483647) % 2147483629 * 16811+c % 5
def ass:VP:=fun ss Q=>∃ c k:Int,ss=[.st (.int c),.st (.int k)]/\0<=k/\k < 1048576/\∀ r,0<=r->r < 100000000000000->r=mixI c k->Q (.st (.int r))
def ad7 (c n a:Int):List (Int × Int):=((List.range (n - (a+1)).toNat).filter fun (i:Nat)=>decide (mixI c (a * n+(a+1+(i:Int))) / 3 % 5 > 0)).map fun (i:Nat)=>(a,a+1+(i:Int))
theorem aj8 {c n a:Int} {p:Int × Int} (h:p∈ad7 c n a):p.1=a/\a < p.2/\p.2 < n:=by
 obtain ⟨i,hi,rfl⟩:=aw7.mp h
 have:=aw9.mp (List.mem_filter.mp hi).1
 refine ⟨rfl,?_,?_⟩ <;> simp only <;> omega
theorem amm (c n a:Int):Rise (ad7 c n a):=by
 unfold ad7 Rise
 rw [aA2]
 exact (List.pairwise_lt_range.filter _).imp fun {i j} h => .inr ⟨rfl,by simp only;omega⟩
theorem aoc {es fs:List (Int × Int)} {a:Int} (h:Rise es) (ha:∀ p∈es,p.1 < a) (hf:Rise fs) (hb:∀ p∈fs,p.1=a):Rise (es ++ fs):=ax9.mpr ⟨h,hf,fun p c q b=>by have:=ha p c;have:=hb q b;unfold ltP;omega⟩
theorem aod (c n a:Int):(ad7 c n a).length<=(n - (a+1)).toNat:=by
 unfold ad7
 rw [av3]
 exact ay0 (az5 _ _) (by simp)
def ast:VP:=fun ss Q=>∃ c most:Int,ss=[.st (.int c),.st (.int most)]/\1<=most/\most<=60/\∀ n es,WebOk n es->n<=most->Q (.st (webD n es))
def asu:VP:=fun ss Q=>∃ c n:Int,ss=[.st (.int c),.st (.int n)]/\1<=n/\n<=60/\∀ es,WebOk n es->Q (.own (OW (.int n) (es.map prD)))
theorem aus (a:List Int) (p:Int × Int):PyData.tuple [.int (if aa3 a p.2 < aa3 a p.1 then aa3 a p.2 else aa3 a p.1),.int (if aa3 a p.2 > aa3 a p.1 then aa3 a p.2 else aa3 a p.1)]=prD (reP a p):=by
 unfold reP prD
 split <;> split <;> first | rfl | omega | (simp only [PyData.tuple.injEq,List.cons.injEq,PyData.int.injEq,and_true];omega)
section
variable {P:Program} {w:World} {K:Frag} {mg:Str->Option Value} {base:Heap}
theorem amn:FnScope ["k"] ["k"] (aai s_law_key):=by row_cond sc
theorem avm (T:Txt K mg):∃ fa,mg "_law_key" = some (.ref fa)/\aij P w K fa fun n=>n * 37 % 61:=by
 obtain ⟨f,fd,D⟩:=T.d_law_key
 exact ⟨f,D.mgx,aun D.fn rfl amn rfl (by decide +kernel) (fun _ _ _ _ _ _ _=>rfl) (by decide) (by decide) (by decide)⟩
theorem sc_law_cell:FnScope ["script","k"] ["script","k"] (aai s_law_cell):=by row_cond sc
theorem ab9 (T:Txt K mg):Can P w K mg base "_law_cell" 1 ["script","k"] (spP K (aur)):=by
 obtain ⟨f,fd,D⟩:=T.d_law_cell
 refine D.can (D.fn.ok sc_law_cell (fun vs H Q E h=>lenP h fun ss i q=>by obtain ⟨ns,k,rfl,d,g,b⟩:=q;rfl) (fun cdv A outer s H vs Q E n h=>?_))
 have nd:=sc_law_cell.nd
 refine ⟨_,(aae (abf (aat aqf (pv 1) (aao acj (by rfl) T.b_len ac1 (aaa (pv 0) aab)) (aaw _))
   (aak (aas (abr abz (pv 0) (pv 1) (fun _ _=>rfl))))
   aa0)
  (aak (aas (aaj abm (aaj abm (aaj ab0 (aaj ab0 aad (pv 1)) (pv 1)) (aaj ab0 aad (pv 1))) aad)))),?_⟩
 refine abh h fun ss i q B m=>?_
 refine exS2 ss q fun ns k a=>?_
 have d:=a.1
 have g:=a.2.1
 have b:=a.2.2
 clear a q
 show EvS B _ _ [some (.scr ns),some (.st (.int k))]
 row_cond go
 refine ab8 (fun j=>?_) (fun j=>?_)
 ·have c:k.toNat < ns.length:=by omega
  have l:atI ns k=some ns[k.toNat]:=af5 d (av0 c)
  row_cond go
  exact b _
 ·row_cond go
  exact b _
theorem sc_law_mixed:FnScope ["cell","k","number"] ["cell","k"] (aai s_law_mixed):=by row_cond sc
theorem abe (T:Txt K mg):Can P w K mg base "_law_mixed" 1 ["cell","k"] (spP K (ass)):=by
 obtain ⟨f,fd,D⟩:=T.d_law_mixed
 refine D.can (D.fn.ok sc_law_mixed (fun vs H Q E h=>lenP h fun ss g q=>by obtain ⟨c,k,rfl,j,b,d⟩:=q;rfl) (fun cdv A outer s H vs Q E n h=>?_))
 have nd:=sc_law_mixed.nd
 refine ⟨_,(aae (aa1 (i:=2) nd rfl (Or.inl rfl) (aaj abn (aaj abm (aaj abm (aaj abm (aaj ab0 (pv 0) aad) (aaj ab0 (aaj ab0 aad (pv 1)) (pv 1))) (aaj ab0 aad (pv 1))) aad) aad))
  (aae (aa1 (i:=2) nd rfl (Or.inl rfl) (aaj abn (aaj ab0 (pv 2) (pv 2)) aad))
  (aak (aas (aaj abm (aaj ab0 (pv 2) aad) (aaj abn (pv 0) aad)))))),?_⟩
 refine abh h fun ss g q B m=>?_
 refine exS2 ss q fun c k a=>?_
 have j:=a.1
 have b:=a.2.1
 have d:=a.2.2
 clear a q
 show EvS B _ _ [some (.st (.int c)),some (.st (.int k)),none]
 row_cond go
 have b:=az1 ((c * 48271+7919 * k * k+104729 * k+11) % 2147483647 * ((c * 48271+7919 * k * k+104729 * k+11) % 2147483647)) (show (2147483629:Int) ≠ 0 by decide)
 have l:=az2 ((c * 48271+7919 * k * k+104729 * k+11) % 2147483647 * ((c * 48271+7919 * k * k+104729 * k+11) % 2147483647)) (show (0:Int) < 2147483629 by decide)
 refine d _ ?_ ?_ rfl <;> omega
theorem sc_law_web:FnScope ["cell","most","n","kind","ties","k","other","a","b","names"] ["cell","most"] (aai s_law_web):=by row_cond sc
theorem akp (T:Txt K mg):Can P w K mg base "_law_web" 3 ["cell","most"] (spP K (ast)):=by
 obtain ⟨f,fd,D⟩:=T.d_law_web
 obtain ⟨a2,X,M⟩:=avm (P:=P) (w:=w) T
 refine D.can (D.fn.ok sc_law_web (fun vs H Q E h=>lenP h fun ss G q=>by obtain ⟨c,most,rfl,m0,m1,kk⟩:=q;rfl) (fun cdv A outer s H vs Q E m h=>?_))
 have nd:=sc_law_web.nd
 refine ⟨_,(aae (aa1 (i:=2) nd rfl (Or.inl rfl) (aaj abm aad (aaj abn (pv 0) (pv 1))))
  (aae (aa1 (i:=3) nd rfl (Or.inl rfl) (aaj abn (aaj ab4 (pv 0) (pv 1)) aad))
  (aae (aa1 (i:=4) nd rfl (Or.inl rfl) aop)
  (aae (afm PassesOwn.never rfl (ag4 rfl T.b_range (aaa aad (aaa (pv 2) aab))) (aar (i:=5) nd rfl (Or.inl rfl))
   (aae (aa1 (i:=6) nd rfl (Or.inl rfl) (aaj afn (pv 5) aad))
    (aae (abf (aat afq (pv 3) aad (aaw _))
     (aak (aa1 (i:=6) nd rfl (Or.inl rfl) (aaj abn (aaj ab4 (aan (abe T) m (aaa (pv 0) (aaa (pv 5) aab))) aad) (pv 5))))
     aa0)
    (aak (abf (PW.pt (ada (aat afp (pv 3) aad (aaw _)) (acy (aat afq (aaj abn (aaj ab4 (aan (abe T) m (aaa (pv 0) (aaa (pv 5) aab))) aad) aad) aad (aaw _)))))
     (aak (aey (afv m) (pv 4) (abv (aaa (pv 6) (aaa (pv 5) aab))) ab7 rfl))
     aa0)))))
  (aae (abf (PW.pt (amu (aat afo (pv 3) aad (aaw _)) (akr (aat afq (pv 2) aad (aaw _)))))
   (aak (aey (afv m) (pv 4) (abv (aaa aad (aaa (aaj afn (pv 2) aad) aab))) ab7 rfl))
   aa0)
  (aae (afm PassesOwn.never rfl (adc rfl T.b_range (aaa (aaj ab0 (aaj abn (aaj ab4 (pv 0) aad) aad) (abg alw (by rfl) T.b_int ai1 (aaa (aew afq (pv 3) aad (aaw _)) aab))) aab)) (aar (i:=5) nd rfl (Or.inl rfl))
   (aae (aa1 (i:=7) nd rfl (Or.inl rfl) (aaj abn (aaj ab4 (aan (abe T) m (aaa (pv 0) (aaa (aaj abm aad (pv 5)) aab))) aad) (pv 2)))
    (aae (aa1 (i:=8) nd rfl (Or.inl rfl) (aaj abn (aaj ab4 (aan (abe T) m (aaa (pv 0) (aaa (aaj abm aad (pv 5)) aab))) aad) (pv 2)))
    (aak (abf (aat afp (pv 7) (pv 8) (aaw _))
     (aak (aey (afv m) (pv 4) (abv (aaa (aao (adw rfl) (by rfl) T.b_min aiz (aaa (pv 7) (aaa (pv 8) aab))) (aaa (aao (adv rfl) (by rfl) T.b_max aiy (aaa (pv 7) (aaa (pv 8) aab))) aab))) ab7 rfl))
     aa0)))))
  (aae (abf (aat afo (pv 3) aad (aaw _))
   (aae (aa1 (i:=9) nd rfl (Or.inr rfl) (ap6 m rfl (by rfl) T.b_sorted (by rfl) T.b_range (by rfl) X M (aaa (pv 2) aab)))
    (aak (aa1 (i:=4) nd rfl (Or.inl rfl) (abg (ami rfl m.units) (by rfl) T.b_dict aq5 (aaa (acd rfl (N:=["a","b","names"]) (src:=[none,none,some 9]) (by exact abw rfl rfl rfl rfl rfl rfl) (avb (pv 4)) (fun _ _ _ _=>(show PG _ _ (gTup K 2 (adb (aax 0) (adb (aax 1) gNil))) from (adl rfl (abb (aar (i:=0) (show List.Nodup (["a","b","names"]:List Str) by decide +kernel) rfl (Or.inl rfl) (hf:=Or.inr rfl)) (abb (aar (i:=1) (show List.Nodup (["a","b","names"]:List Str) by decide +kernel) rfl (Or.inl rfl) (hf:=Or.inr rfl)) acv))))) (fun _ _ _ _=>ab6) (fun _ _ _ _=>(abv (aaa (abv (aaa (aao (adw rfl) (by rfl) T.b_min aiz (aaa (abr (show IxR _ (abl K) from abz) (pv 2) (pv 0) (fun _ _=>rfl)) (aaa (abr (show IxR _ (abl K) from abz) (pv 2) (pv 1) (fun _ _=>rfl)) aab))) (aaa (aao (adv rfl) (by rfl) T.b_max aiy (aaa (abr (show IxR _ (abl K) from abz) (pv 2) (pv 0) (fun _ _=>rfl)) (aaa (abr (show IxR _ (abl K) from abz) (pv 2) (pv 1) (fun _ _=>rfl)) aab))) aab))) (aaa ab7 aab))))) aab)))))
   aa0)
  (aak (aas (abv (aaa (pv 2) (aaa (aao (akk rfl) (by rfl) T.b_sorted ang (aaa (pv 4) aab)) aab)))))))))))),?_⟩
 refine abh h fun ss G q B hK=>?_
 refine exS2 ss q fun c most d=>?_
 have m0:=d.1
 have m1:=d.2.1
 have kk:=d.2.2
 clear d q
 show EvS B _ _ [some (.st (.int c)),some (.st (.int most)),none,none,none,none,none,none,none,none]
 row_cond go
 have C:1<=1+c % most:=by have:=az1 c (show most ≠ 0 by omega);omega
 have z:1+c % most<=most:=by have:=az2 c (show 0 < most by omega);omega
 generalize 1+c % most=n at C z
 generalize c / most % 6=kind
 row_cond go
 refine ad1 (fun i e=>∃ l v ps,e=[some (.st (.int c)),some (.st (.int most)),some (.st (.int n)),some (.st (.int kind)),some (.own (OT (kE ps))),l,v,none,none,none]/\PsOk n ps) ⟨_,_,[],rfl,PsOk.nil n⟩ ?_ ?_
 ·rintro i e hi g
  refine exS3 e g fun l v ps d=>?_
  have j:=d
  clear d g
  have a3:(i:Int) < n - 1:=by omega
  have hL:(kE ps).length<=999999:=by rw [aeo];exact ay0 (j.len (by omega)) (by decide)
  row_cond go
  rename_i c_ hc_
  refine' cutR (R:=∀ o:Int,0<=o->o < 1+(i:Int)->EvS B c_ _ [some (.st (.int c)),some (.st (.int most)),some (.st (.int n)),some (.st (.int kind)),some (.own (OT (kE ps))),some (.st (.int (1+(i:Int)))),some (.st (.int o)),none,none,none]) (fun R=>?K1) ?K2
  case K1 =>
   refine ab8 (fun L=>?_) (fun L=>?_)
   ·row_cond go
    refine ⟨c,1+(i:Int),rfl,by omega,by omega,fun r Z W _=>?_⟩
    have q0:=az1 (r / 3) (show 1+(i:Int) ≠ 0 by omega)
    have q1:=az2 (r / 3) (show 0 < 1+(i:Int) by omega)
    repeat (first | exact R _ q0 q1 | row_cond st)
   ·repeat (first | exact R _ (by omega) (by omega) | row_cond st)
  case K2 =>
   intro o Y o1
   row_cond go
   refine ak2 (fun h=>?_) (fun h=>?_)
   ·row_cond go
    rw [aep]
    exact ⟨_,_,_,rfl,j.add Y o1 (by omega)⟩
   ·row_cond go
    refine ⟨c,1+(i:Int),rfl,by omega,by omega,fun r Z W _=>?_⟩
    row_cond go
    refine ab8 (fun h=>?_) (fun h=>?_)
    ·row_cond go
     rw [aep]
     exact ⟨_,_,_,rfl,j.add Y o1 (by omega)⟩
    ·row_cond go
     exact ⟨_,_,_,rfl,j⟩
 ·rintro e g
  refine exS3 e g fun l v ps d=>?_
  have j:=d
  clear d g
  row_cond go
  rename_i c_ hc_
  refine' cutR (R:=∀ y,PsOk n y->EvS B c_ { nx:=fun x=>G (.st .none),rt:=fun s x=>G s } [some (.st (.int c)),some (.st (.int most)),some (.st (.int n)),some (.st (.int kind)),some (.own (OT (kE y))),l,v,none,none,none]) (fun R=>?K1) ?K2
  case K1 =>
   have hL:(kE ps).length<=999999:=by rw [aeo];exact ay0 (j.len (by omega)) (by decide)
   refine ab8 (fun L=>?_) (fun L=>?_)
   ·row_cond go
    refine ab8 (fun h2=>?_) (fun h2=>?_)
    ·repeat (first | (rw [aep];exact R _ (j.add (by omega) (by omega) (by omega))) | row_cond st)
    ·repeat (first | exact R _ j | row_cond st)
   ·repeat (first | exact R _ j | row_cond st)
  case K2 =>
   clear j ps
   intro ps j
   row_cond go
   obtain ⟨u,I,t0,t1⟩:∃ u:Int,(c / 7 % 4 * if decide (2 < kind)=true then 1 else 0)=u/\0<=u/\u<=3:=⟨_,rfl,by split <;> omega,by split <;> omega⟩
   rw [I]
   row_cond go
   refine ad1 (fun i e=>∃ l S O ps,e=[some (.st (.int c)),some (.st (.int most)),some (.st (.int n)),some (.st (.int kind)),some (.own (OT (kE ps))),l,v,S,O,none]/\PsOk n ps) ⟨_,_,_,ps,rfl,j⟩ ?_ ?_
   ·rintro i e hi g
    refine exS4 e g fun l S O ps d=>?_
    have j:=d
    clear d g
    have hL:(kE ps).length<=999999:=by rw [aeo];exact ay0 (j.len (by omega)) (by decide)
    row_cond go
    refine ⟨c,100+(0+(i:Int)),rfl,by omega,by omega,fun r Z W _=>?_⟩
    have a0:=az1 (r / 3) (show n ≠ 0 by omega)
    have a1:=az2 (r / 3) (show 0 < n by omega)
    row_cond go
    refine ⟨c,200+(0+(i:Int)),rfl,by omega,by omega,fun U a4 a5 _=>?_⟩
    have b0:=az1 (U / 3) (show n ≠ 0 by omega)
    have b1:=az2 (U / 3) (show 0 < n by omega)
    row_cond go
    generalize r / 3 % n=a at *
    generalize U / 3 % n=b at *
    refine ak2 (fun h=>?_) (fun h=>?_)
    ·row_cond go
     rw [aep]
     refine ⟨_,_,_,_,rfl,j.add ?_ ?_ ?_⟩ <;> (by_cases hb:b < a) <;> simp [hb] <;> omega
    ·row_cond go
     exact ⟨_,_,_,_,rfl,j⟩
   ·clear j ps l
    rintro e g
    refine exS4 e g fun l S O ps d=>?_
    have j:=d
    clear d g
    row_cond go
    rename_i c_ hc_
    refine' cutR (R:=∀ y v9,PsOk n y->EvS B c_ { nx:=fun x=>G (.st .none),rt:=fun s x=>G s } [some (.st (.int c)),some (.st (.int most)),some (.st (.int n)),some (.st (.int kind)),some (.own (OT (kE y))),l,v,S,O,v9]) (fun R=>?K1) ?K2
    case K1 =>
     refine ab8 (fun L=>?_) (fun L=>?_)
     ·repeat (first | (refine an3 ?_) | row_cond st)
      refine ⟨n,rfl,by omega,by omega,fun names F=>ag0 ael ?_⟩
      have F:Order n names:=F
      repeat (first | (refine ajl (r:=aj2) ?_) | row_cond st)
      rw [show ((kE ps).map fun p=>tkD p.1)=ps.map fun p=>PyData.tuple [.int p.1,.int p.2] by unfold kE;rw [ay8];rfl]
      refine ajs (xs:=ps) (fa:=fun p => .int p.1) (fb:=fun p => .int p.2) (fun p=>ptD (reP names p)) (fun _=>true) rfl (ay0 (j.len (by omega)) (by decide)) ?_ ?_
      ·intro p J B' hB
       have hq:=j.inn p J
       have W:=af4 (f:=PyData.int) (F.atI (a:=p.1) (by omega) (by omega))
       have r2:=af4 (f:=PyData.int) (F.atI (a:=p.2) (by omega) (by omega))
       refine adp ⟨rfl,rfl,fun _=>?_⟩
       row_cond go
       exact ⟨by rw [aus];rfl,rfl⟩
      ·rw [ad3]
       rw [show (ps.map fun p=>ptD (reP names p))=(ps.map (reP names)).map ptD by rw [ay8];rfl]
       have hW:PsOk n ((ps.map (reP names)).foldl addP []):=⟨aes List.nodup_nil,fun p J=>(j.re F).inn p ((addAll_mem.mp J).resolve_left (by simp))⟩
       repeat (first | exact R _ _ hW | (refine an4 (by rw [av3];exact ay0 (j.len (by omega)) (by decide)) ?_) | row_cond st)
     ·repeat (first | exact R _ _ j | row_cond st)
    case K2 =>
     intro y v9 hQ
     iterate 6 row_cond st
     refine ab2 (amb (.inl rfl) fun es J hs=>adh ?_)
     row_cond go
     exact kk n es (apt C (by omega) hQ J hs) z
theorem sc_law_crowd:FnScope ["cell","n","ties","a"] ["cell","n"] (aai s_law_crowd):=by row_cond sc
theorem ah7 (T:Txt K mg):Can P w K mg base "_law_crowd" 2 ["cell","n"] (spP K (asu)):=by
 obtain ⟨f,fd,D⟩:=T.d_law_crowd
 refine D.can (D.fn.ok sc_law_crowd (fun vs H Q E h=>lenP h fun ss C q=>by obtain ⟨c,n,rfl,x,y,u⟩:=q;rfl) (fun cdv A outer s H vs Q E I h=>?_))
 have nd:=sc_law_crowd.nd
 refine ⟨_,(aae (aa1 (i:=2) nd rfl (Or.inl rfl) (afr aab))
  (aae (afm PassesOwn.never rfl (adc rfl T.b_range (aaa (pv 1) aab)) (aar (i:=3) nd rfl (Or.inr rfl))
   (aak (aks (aex PySem.F.plainAttrs_list PySem.F.slot_list_extend PySem.F.type_list_extend am5 (pv 2) (aaa (acd rfl (N:=["b","a","cell","n"]) (src:=[none,some 3,some 0,some 1]) (by exact abw rfl rfl rfl rfl rfl rfl) (ag4 rfl T.b_range (aaa (aaj abm (pv 3) aad) (aaa (pv 1) aab))) (fun _ _ _ _=>(aar (i:=0) (show List.Nodup (["b","a","cell","n"]:List Str) by decide +kernel) rfl (Or.inl rfl) (hf:=Or.inr rfl))) (fun _ _ _ _=>akw (aat afq (aaj abn (aaj ab4 (aan (abe T) I (aaa (pv 2) (aaa (aaj abm (aaj ab0 (pv 1) (pv 3)) (pv 0)) aab))) aad) aad) aad (aaw _))) (fun _ _ _ _=>(abv (aaa (pv 1) (aaa (pv 0) aab))))) aab)))))
  (aak (aas (abv (aaa (pv 1) (aaa (pv 2) aab))))))),?_⟩
 refine abh h fun ss C q B R=>?_
 refine exS2 ss q fun c n b=>?_
 have x:=b.1
 have y:=b.2.1
 have u:=b.2.2
 clear b q
 show EvS B _ _ [some (.st (.int c)),some (.st (.int n)),none,none]
 row_cond go
 refine ad1 (fun i e=>∃ o es,e=[some (.st (.int c)),some (.st (.int n)),some (.own (OL (es.map prD))),o]/\Rise es/\(∀ p∈es,0<=p.1/\p.1 < p.2/\p.2 < n/\p.1 < (i:Int))/\es.length<=i * 60) ⟨_,[],rfl,List.Pairwise.nil,by simp,by simp⟩ ?_ ?_
 ·rintro i e hi d
  refine exS2 e d fun o es b=>?_
  have m:=b.1
  have l:=b.2.1
  have G:=b.2.2
  clear b d
  row_cond go
  unfold rngD
  refine an1 (fun j:Nat=>prD (0+(i:Int),0+(i:Int)+1+(j:Int))) (fun j:Nat=>decide (mixI c ((0+(i:Int)) * n+(0+(i:Int)+1+(j:Int))) / 3 % 5 > 0)) rfl (by simp;omega) (fun j v L U=>?_) ?_
  ·have v:=aw9.mp v
   have O:0<=(0+(i:Int)) * n:=Int.mul_nonneg (by omega) (by omega)
   have J:(0+(i:Int)) * n<=60 * 60:=Int.mul_le_mul (by omega) (by omega) (by omega) (by omega)
   row_cond go
   refine ⟨_,_,rfl,by omega,by omega,fun r S M z=>?_⟩
   subst z
   row_cond go
   intro _
   row_cond go
   rfl
  ·rw [show (((List.range (n - (0+(i:Int)+1)).toNat).filter fun j:Nat=>decide (mixI c ((0+(i:Int)) * n+(0+(i:Int)+1+(j:Int))) / 3 % 5 > 0)).map fun j:Nat=>prD (0+(i:Int),0+(i:Int)+1+(j:Int)))=(ad7 c n (0+(i:Int))).map prD by unfold ad7;rw [ay8];rfl]
   have W:=aod c n (0+(i:Int))
   refine ⟨_,_,rfl,rfl,by rw [av3,av3];omega,?_⟩
   dsimp only [List.set_cons_zero,List.set_cons_succ]
   rw [← ay9]
   refine ⟨_,_,rfl,aoc m (a:=0+(i:Int)) (fun p g=>by have:=l p g;omega) (amm c n _) (fun p g=>(aj8 g).1),fun p g=>?_,by rw [aw1];omega⟩
   rcases av7.mp g with g | g
   ·have:=l p g
    omega
   ·have:=aj8 g
    omega
 ·rintro e d
  refine exS2 e d fun o es b=>?_
  have m:=b.1
  have l:=b.2.1
  have G:=b.2.2
  clear b d
  row_cond go
  exact u es ⟨x,y,fun p g=>by have:=l p g;omega,m⟩
end
def amo (K:Frag):Sp:=fun vs H Q _=>∃ (a:Addr) (ns:List Int),vs=[.ref a]/\SqL K H a (ns.map V.int)/\ns.length<=63/\∀ H',Q (.bl true) H'
def aqv:VP:=fun ss Q=>∃ ns:List Int,ss=[.scr ns]/\ns.length<=63/\Q (.st (.bool true))
theorem ap8 {K:Frag} {vs:List V} {H:Hp} {Q:VK} {E:XK} (h:amo K vs H Q E):spP K aqv vs H Q E:=by
 obtain ⟨a,ns,rfl,b,c,k⟩:=h
 refine ⟨H,[.scr ns],fun s=>s=.st (.bool true),Same.refl _,fun a d h=>h,.cons ⟨a,rfl,b⟩ .nil,⟨ns,rfl,c,rfl⟩,fun s e v G' H' Fv o=>?_⟩
 subst e
 have r:=o.ok.1
 cases r
 exact k _
open Tx
theorem webP (n:Int) (es:List (Int × Int)):aam (webD n es)=true:=by
 have:=ame es
 simp only [webD,aam,plainDs,this,Bool.and_self]
theorem aik (n:Int) (es:List (Int × Int)):(webD n es).depth<=60:=by
 have h:PyData.depthAll (es.map prD)<=1:=akm fun d hd=>by
  obtain ⟨p,_,rfl⟩:=aw7.mp hd
  exact anv p
 simp only [webD,PyData.depth,PyData.depthAll]
 omega
def deS (s:Str):Nat:=s.cps.toList.foldl (fun a c=>10 * a+(c - 48)) 0
theorem asv:(List.range 100).all (fun (i:Nat)=>deS (nS i) == i)=true:=by decide +kernel
theorem aoe {i:Int} (b:0<=i) (c:i < 100):deS (nS i)=i.toNat:=by
 have a:=az6.mp asv i.toNat (aw9.mpr (by omega))
 rw [show ((i.toNat:Nat):Int)=i by omega] at a
 exact eq_of_beq a
theorem aj9 {i j:Int} (d:0<=i) (c:i < 100) (b:0<=j) (f:j < 100) (h:nS i=nS j):i=j:=by
 have a:=aoe d c
 rw [h,aoe b f] at a
 omega
theorem aut {p q:Int × Int} (a:0<=p.1/\p.1 < 100/\0<=p.2/\p.2 < 100) (b:0<=q.1/\q.1 < 100/\0<=q.2/\q.2 < 100) (h:tS p=tS q):p=q:=by
 have z:=afk a
 rw [h,afk b] at z
 injection z with d c
 injection c with c _
 exact Prod.ext (aj9 a.1 a.2.1 b.1 b.2.1 d.symm) (aj9 a.2.2.1 a.2.2.2 b.2.2.1 b.2.2.2 c.symm)
theorem aof:∀ {es fs:List (Int × Int)},(∀ p∈es,0<=p.1/\p.1 < 100/\0<=p.2/\p.2 < 100)->(∀ p∈fs,0<=p.1/\p.1 < 100/\0<=p.2/\p.2 < 100)->es.map tS=fs.map tS->es=fs
 | [],[],_,_,_=>rfl
 | [],_ :: _,_,_,h=>by simp at h
 | _ :: _,[],_,_,h=>by simp at h
 | p :: es,q :: fs,he,hf,h=>by
  rw [ay1,ay1] at h
  injection h with b c
  rw [aut (he p (by simp)) (hf q (by simp)) b,aof (fun x a=>he x (aw5 _ a)) (fun x a=>hf x (aw5 _ a)) c]
theorem agb {n:Int} {es:List (Int × Int)} (h:WebOk n es):∀ p∈es,0<=p.1/\p.1 < 100/\0<=p.2/\p.2 < 100:=fun p a=>by
 have:=h.inn p a
 have:=h.hi
 omega
theorem auu {n m:Int} {es fs:List (Int × Int)} (hn:WebOk n es) (hm:WebOk m fs) (h:wS n es=wS m fs):n=m/\es=fs:=by
 have a0:=hn.lo
 have d:=hn.hi
 have b0:=hm.lo
 have c:=hm.hi
 have z:=afl (n:=n) (es:=es) (by omega) (by omega) (agb hn)
 rw [h,afl (n:=m) (es:=fs) (by omega) (by omega) (agb hm)] at z
 injection z with a b
 exact ⟨aj9 (by omega) (by omega) (by omega) (by omega) a.symm,aof (agb hn) (agb hm) b.symm⟩
def BOk (bs:List (Key × PyData)):Prop:=∀ e∈bs,∃ n es,e.1=.inr (wS n es)/\e.2=webD n es/\WebOk n es
theorem BOk.nil:BOk []:=fun e h=>by simp at h
theorem BOk.get {bs:List (Key × PyData)} {n:Int} {es:List (Int × Int)} (h:BOk bs) (i:WebOk n es):(valD bs (.inr (wS n es))).getD (webD n es)=webD n es:=by
 cases e:valD bs (.inr (wS n es)) with
 | none=>rfl
 | some d =>
  unfold valD at e
  obtain ⟨x,b,rfl⟩:=Option.map_eq_some_iff.mp e
  obtain ⟨m,fs,g,f,c⟩:=h x (List.mem_of_find?_eq_some b)
  have a:=List.find?_some b
  rw [decide_eq_true_eq,g] at a
  injection a with a
  obtain ⟨rfl,rfl⟩:=auu c i a
  exact f
theorem BOk.put {bs:List (Key × PyData)} {n:Int} {es:List (Int × Int)} (h:BOk bs) (b:WebOk n es):BOk (putD bs (.inr (wS n es)) (webD n es)):=fun x a=>by
 unfold putD at a
 split at a
 ·obtain ⟨y,c,rfl⟩:=aw7.mp a
  by_cases e:y.1=.inr (wS n es)
  ·rw [az7 e]
   exact ⟨n,es,e,rfl,b⟩
  ·rw [az8 e]
   exact h y c
 ·rcases av7.mp a with a | a
  ·exact h x a
  ·rw [ax2.mp a]
   exact ⟨n,es,rfl,rfl,b⟩
theorem asw {bs:List (Key × PyData)} {k:Key} {d:PyData}:(putD bs k d).length<=bs.length+1:=by
 unfold putD
 split
 ·rw [av3];omega
 ·rw [aw1];simp
section
variable {P:Program} {w:World} {K:Frag} {mg:Str->Option Value} {base:Heap}
theorem sc_law:FnScope ["script","before","k","web","many","handed","text","found"] ["script"] (aai s_law):=by row_cond sc
theorem asx (T:Txt K mg) {f:Addr} {fd:FuncData} (D:DefAt K mg "law" s_law ["script"] f fd):FnOk P w K mg base CX0 8 f fd ["script"] (spP K (aqv)):=by
 refine D.fn.ok sc_law (fun vs H Q E h=>lenP h fun ss Q' q=>by obtain ⟨ns,rfl,M,Y⟩:=q;rfl) (fun cdv A outer s H vs Q E b h=>?_)
 have nd:=sc_law.nd
 refine ⟨_,(aae (aa1 (i:=1) nd rfl (Or.inl rfl) aoo)
  (aae (afm PassesOwn.never rfl (adc rfl T.b_range (aaa (aao (adv rfl) (by rfl) T.b_max aiy (aaa aad (aaa (aao (adw rfl) (by rfl) T.b_min aiz (aaa (aao acj (by rfl) T.b_len ac1 (aaa (pv 0) aab)) (aaa aad aab))) aab))) aab)) (aar (i:=2) nd rfl (Or.inl rfl))
   (aae (aa1 (i:=3) nd rfl (Or.inl rfl) (aan (akp T) b (aaa (aan (ab9 T) b (aaa (pv 0) (aaa (pv 2) aab))) (aaa aad aab))))
    (aae (abf (aat afo (aaj abn (aaj ab4 (aan (ab9 T) b (aaa (pv 0) (aaa (pv 2) aab))) aad) aad) aad (aaw _))
     (aae (aa1 (i:=4) nd rfl (Or.inl rfl) (aaj abm aad (aaj abn (aaj ab4 (aan (ab9 T) b (aaa (pv 0) (aaa (pv 2) aab))) aad) aad)))
      (aak (aa1 (i:=3) nd rfl (Or.inl rfl) (aan (ah7 T) b (aaa (aan (abe T) b (aaa (aan (ab9 T) b (aaa (pv 0) (aaa (pv 2) aab))) (aaa (pv 2) aab))) (aaa (pv 4) aab))))))
     aa0)
    (aae (aa1 (i:=5) nd rfl (Or.inl rfl) (abv (aaa (abr abz (pv 3) aad (fun _ _=>rfl)) (aaa (abg al8 (by rfl) T.b_list agl (aaa (abr abz (pv 3) aad (fun _ _=>rfl)) aab)) aab))))
    (aae (aa1 (i:=6) nd rfl (Or.inl rfl) (aex PySem.F.plainAttrs_str PySem.F.slot_str_join PySem.F.type_str_join ale adk (aaa (aaj am6 (afr (aaa (abg adj (by rfl) T.b_str aeg (aaa (abr abz (pv 3) aad (fun _ _=>rfl)) aab)) aab)) (acd rfl (N:=["a","b"]) (src:=[none,none]) (by exact abw rfl rfl rfl rfl rfl rfl) (acw (abr abz (pv 3) aad (fun _ _=>rfl))) (fun _ _ _ _=>(show PG _ _ (gTup K 2 (adb (aax 0) (adb (aax 1) gNil))) from (adl rfl (abb (aar (i:=0) (show List.Nodup (["a","b"]:List Str) by decide +kernel) rfl (Or.inl rfl) (hf:=Or.inr rfl)) (abb (aar (i:=1) (show List.Nodup (["a","b"]:List Str) by decide +kernel) rfl (Or.inl rfl) (hf:=Or.inr rfl)) acv))))) (fun _ _ _ _=>ab6) (fun _ _ _ _=>(aaj alg (aaj alg (abg adj (by rfl) T.b_str aeg (aaa (pv 0) aab)) adk) (abg adj (by rfl) T.b_str aeg (aaa (pv 1) aab)))))) aab)))
    (aae (abf (PW.pt (ada (aat afp (aan (aj7 T) b (aaa (pv 5) aab)) (pv 6) (aaw _)) (acy (aat (aej b.units) (pv 5) (pv 3) (aaw _)))))
     (aak (aas ab7))
     aa0)
    (aae (aa1 (i:=7) nd rfl (Or.inl rfl) (aan (aer T) b (aaa (pv 6) aab)))
    (aae (abf (PW.pt (ada (aat (aej b.units) (pv 7) (pv 3) (aaw _)) (ada (aci (ach (aao abt (by rfl) T.b_isinstance aay (aaa (pv 7) (aaa (ab3 (v:=.ty "tuple") rfl T.b_tuple ac5 rfl) aab))))) (acy (aci (ach (aao abt (by rfl) T.b_isinstance aay (aaa (abr abz (pv 7) aad (fun _ _=>rfl)) (aaa (ab3 (v:=.ty "list") rfl T.b_list agl rfl) aab)))))))))
     (aak (aas ab7))
     aa0)
    (aae (abf (PW.pt (ada (aat (aej b.units) (acd rfl (N:=["tie"]) (src:=[none]) (by exact abw rfl rfl rfl rfl rfl rfl) (acw (abr abz (pv 7) aad (fun _ _=>rfl))) (fun _ _ _ _=>(aar (i:=0) (show List.Nodup (["tie"]:List Str) by decide +kernel) rfl (Or.inl rfl) (hf:=Or.inr rfl))) (fun _ _ _ _=>akw (aci (ach (aao (show aa2 _ (.builtin "isinstance") (rIsi K) from abt) (by rfl) T.b_isinstance aay (aaa (pv 0) (aaa (ab3 (v:=.ty "tuple") rfl T.b_tuple ac5 rfl) aab)))))) (fun _ _ _ _=>(pv 0))) (afr aab) (aaw _)) (acy (aat (aej b.units) (aoq (afv b) (pv 1) (pv 6) (pv 3) ⟨rfl,rfl,rfl,rfl⟩) (pv 3) (aaw _)))))
     (aak (aas ab7))
     aa0)
    (aae (aey (afv b) (pv 1) (pv 6) (pv 3) rfl)
    (aae (aks (aex PySem.F.plainAttrs_list PySem.F.slot_list_append PySem.F.type_list_append ag9 (abr abz (pv 7) aad (fun _ _=>rfl)) (aaa (abv (aaa aad (aaa aad aab))) aab)))
    (aak (abf (aat (aej b.units) (aan (aer T) b (aaa (pv 6) aab)) (pv 3) (aaw _))
     (aak (aas ab7))
     aa0)))))))))))))
  (aak (aas ab7)))),?_⟩
 refine abh h fun ss Q' q B hK=>?_
 refine exS1 ss q fun ns a=>?_
 have M:=a.1
 have Y:=a.2
 clear a q
 show EvS B _ _ [some (.scr ns),none,none,none,none,none,none,none]
 row_cond go
 refine ad1 (fun i e=>∃ L S o J I G bs,e=[some (.scr ns),some (.own (OD bs)),L,S,o,J,I,G]/\bs.length<=i/\BOk bs) ⟨_,_,_,_,_,_,[],rfl,av6 _,BOk.nil⟩ ?_ ?_
 ·rintro i e hi m
  refine exS7 e m fun L S o J I G bs a=>?_
  have a1:=a.1
  have X:=a.2
  clear a m
  have a0:i < 64:=by
   revert hi
   split <;> (try split) <;> omega
  row_cond go
  refine ⟨ns,0+(i:Int),rfl,by omega,by omega,fun c=>?_⟩
  row_cond go
  refine ⟨c,60,rfl,by decide,by decide,fun n es g z=>?_⟩
  row_cond go
  rename_i c_ hc_
  refine' cutR (R:=∀ o n es,WebOk n es->EvS B c_ _ [some (.scr ns),some (.own (OD bs)),some (.st (.int (0+(i:Int)))),some (.st (webD n es)),o,J,I,G]) (fun R=>?K1) ?K2
  case K1 =>
   refine ⟨ns,0+(i:Int),rfl,by omega,by omega,fun c1=>?_⟩
   row_cond go
   refine ab8 (fun hk=>?_) (fun hk=>?_)
   ·row_cond go
    refine ⟨ns,0+(i:Int),rfl,by omega,by omega,fun c2=>?_⟩
    row_cond go
    refine ⟨ns,0+(i:Int),rfl,by omega,by omega,fun c3=>?_⟩
    row_cond go
    refine ⟨c3,0+(i:Int),rfl,by omega,by omega,fun r r0 r1 _=>?_⟩
    row_cond go
    refine ⟨r,_,rfl,by omega,by omega,fun U O=>?_⟩
    iterate 1 row_cond st
    dsimp only
    refine ar1 3 rfl ajw ?_
    exact R _ _ U O
   ·repeat (first | exact R _ _ _ g | row_cond st)
  case K2 =>
   clear g z n es o
   intro o n es g
   have Z:=g.lo
   have n1:=g.hi
   have hl:=g.len
   have u:∀ p∈es,0<=p.1/\p.1 < 100/\0<=p.2/\p.2 < 100:=fun p C=>by have:=g.inn p C;omega
   row_cond go
   refine alh ?_
   row_cond go
   refine ⟨_,rfl,?_⟩
   row_cond go
   refine ad4 ⟨by omega,by omega⟩ ?_
   row_cond go
   refine ajs (xs:=es) (fa:=fun p => .int p.1) (fb:=fun p => .int p.2) (fun p => .str (tS p)) (fun _=>true) rfl (by omega) ?_ ?_
   ·intro p C B' X
    have y:=u p C
    refine adp ⟨rfl,rfl,fun _=>?_⟩
    row_cond go
    refine ad4 ⟨y.1,by omega⟩ ?_
    row_cond go
    have e1:=(abk y.1 y.2.1).1
    have e2:=(abk y.2.2.1 y.2.2.2).1
    refine aj1 ?_ ?_
    ·show (nS p.1).length+1<=1000000
     omega
    row_cond go
    refine ad4 ⟨y.2.2.1,by omega⟩ ?_
    row_cond go
    refine aj1 ?_ ?_
    ·show (nS p.1 ++ Str.ofString "-").length+(nS p.2).length<=1000000
     rw [strLen_append,show ((Str.ofString "-" : Str)).length=1 from rfl]
     omega
    row_cond go
    rfl
   ·rw [ad3]
    refine agy (by rw [av3];simp;omega) (adh ?_)
    row_cond go
    refine ⟨nS n :: es.map tS,by rw [ay1,ay8];rfl,?_,?_⟩
    ·have W:=af9 (fun s W=>?_:∀ s∈nS n :: es.map tS,Str.length s<=5)
     ·rw [show ((" " : Str)).length=1 from rfl,az0,av3]
      rw [az0,av3] at W
      omega
     ·rcases av9.mp W with e | h
      ·have:=(abk (i:=n) (by omega) (by omega)).1
       rw [e];omega
      ·obtain ⟨p,C,rfl⟩:=aw7.mp h
       exact aga (u p C)
    ·show EvG B _ (.st (.str (wS n es))) _ _
     row_cond go
     refine ⟨n,es,rfl,by omega,by omega,by omega,u,?_⟩
     row_cond go
     refine adr (webP n es) (webP n es) (aik n es) ?_
     rw [ac9 (webP n es)]
     refine ⟨_,rfl,?_⟩
     row_cond go
     refine ⟨n,es,rfl,Z,n1,g.ps,g.rise,by omega,?_⟩
     row_cond go
     refine adr (webP n es) (webP n es) (aik n es) ?_
     rw [ac9 (webP n es)]
     refine ⟨_,rfl,rfl,_,rfl,?_⟩
     row_cond go
     rw [show isiD "tuple" (PyData.tuple [PyData.int n,PyData.list (es.map prD)])=true from rfl]
     row_cond go
     try rw [show isiD "list" (PyData.list (es.map prD))=true from rfl]
     repeat (first | (refine ab2 (an5 (i:=7) (d:=.int n) (ds:=es.map prD) (.inr (.inr (.inl rfl))) rfl (fun x hx=>by obtain ⟨p,_,rfl⟩:=aw7.mp hx;rfl) (adh ?_))) | row_cond st)
     refine adr rfl rfl (by decide) ?_
     rw [ac9 (d:=.list []) rfl]
     refine ⟨_,rfl,?_⟩
     repeat (first | (refine an6 (i:=1) (l:=6) (j:=3) (k:=.inr (wS n es)) rfl rfl rfl ?_) | row_cond st)
     rw [X.get g]
     refine adr (webP n es) (webP n es) (aik n es) ?_
     rw [ac9 (webP n es)]
     refine ⟨_,rfl,?_⟩
     row_cond go
     refine ⟨bs,.inr (wS n es),rfl,rfl,by omega,?_⟩
     dsimp only [List.set_cons_zero,List.set_cons_succ]
     have hL:(es.map prD).length<=999999:=by rw [av3];omega
     row_cond go
     refine ⟨n,es,rfl,Z,n1,g.ps,g.rise,by omega,aqm ?_⟩
     row_cond go
     refine adr (webP n es) (webP n es) (aik n es) ?_
     rw [ac9 (webP n es)]
     refine ⟨_,rfl,?_⟩
     row_cond go
     exact ⟨_,_,_,_,_,_,_,rfl,ay0 asw (by omega),X.put g⟩
 ·rintro e m
  refine exS7 e m fun L S o J I G bs a=>?_
  clear a m
  row_cond go
  exact Y
theorem auv (T:Txt K mg) {f:Addr} {fd:FuncData} (D:DefAt K mg "law" s_law ["script"] f fd):FnOk P w K mg base CX0 8 f fd ["script"] (amo K):=(asx T D).imp fun _ _ _ _ h=>ap8 h
end
theorem len0 {α:Type} {us:List α} (h:us.length=0):us=[]:=aB3 h
theorem len1 {α:Type} {us:List α} (h:us.length=1):∃ a0,us=[a0]:=by
 cases us with
 | nil=>cases h
 | cons a us=>exact ⟨a,by rw [len0 (Nat.succ.inj h)]⟩
theorem len2 {α:Type} {us:List α} (h:us.length=2):∃ a0 b,us=[a0,b]:=by
 cases us with
 | nil=>cases h
 | cons a us=>obtain ⟨b,e⟩:=len1 (Nat.succ.inj h);exact ⟨a,b,by rw [e]⟩
theorem len3 {α:Type} {us:List α} (h:us.length=3):∃ a0 c b,us=[a0,c,b]:=by
 cases us with
 | nil=>cases h
 | cons a us=>obtain ⟨c,b,e⟩:=len2 (Nat.succ.inj h);exact ⟨a,c,b,by rw [e]⟩
def Bnd (x:Str) (st:Stmt) (ps:List Str):Prop:=∀ (kV doc pm:Value) (an:Option Addr) (cdv ct:Value) (us:List Value),us.length=ps.length->bindArgs (fnOf x x (abo st) (abd st) (aai st) .none kV doc pm an cdv ct) ⟨us,[]⟩=pure (ps.zip us)
def FnIn (K:Frag) (x:Str) (st:Stmt):Prop:=∃ f oc od kV dc pm an cd ct sl,nsIn K mainGlobals x=some (some (.ref f))/\K.lookup f=some ⟨oc,od,.func (fnOf x x (abo st) (abd st) (aai st) .none kV dc pm an cd ct),sl⟩/\codeIn K cd x=true/\keepIn K (.ref f)=true
theorem fn_in {K:Frag} {x:Str} {st:Stmt} {f:Addr} {od an:Option Addr} {sl:Array (Option Value)} {oc kV d pm b ct:Value} (a:nsIn K mainGlobals x=some (some (.ref f))) (l:K.lookup f=some ⟨oc,od,.func (fnOf x x (abo st) (abd st) (aai st) .none kV d pm an b ct),sl⟩) (c:codeIn K b x=true) (k:keepIn K (.ref f)=true):FnIn K x st:=⟨f,oc,od,kV,d,pm,an,b,ct,sl,a,l,c,k⟩
theorem bnd1 {st:Stmt} {x:Str} {ps:List Str} (c:ps.length=1) (h:∀ (kV doc pm:Value) (an:Option Addr) (cdv ct:Value) (b:Value),bindArgs (fnOf x x (abo st) (abd st) (aai st) .none kV doc pm an cdv ct) ⟨[b],[]⟩=pure (ps.zip [b])):Bnd x st ps:=by
 intro kV doc pm an cdv ct us a
 rw [c] at a
 obtain ⟨_,rfl⟩:=len1 a
 exact h _ _ _ _ _ _ _
theorem bnd2 {st:Stmt} {x:Str} {ps:List Str} (d:ps.length=2) (h:∀ (kV doc pm:Value) (an:Option Addr) (cdv ct:Value) (c b:Value),bindArgs (fnOf x x (abo st) (abd st) (aai st) .none kV doc pm an cdv ct) ⟨[c,b],[]⟩=pure (ps.zip [c,b])):Bnd x st ps:=by
 intro kV doc pm an cdv ct us a
 rw [d] at a
 obtain ⟨_,_,rfl⟩:=len2 a
 exact h _ _ _ _ _ _ _ _
theorem bnd3 {st:Stmt} {x:Str} {ps:List Str} (f:ps.length=3) (h:∀ (kV doc pm:Value) (an:Option Addr) (cdv ct:Value) (d c b:Value),bindArgs (fnOf x x (abo st) (abd st) (aai st) .none kV doc pm an cdv ct) ⟨[d,c,b],[]⟩=pure (ps.zip [d,c,b])):Bnd x st ps:=by
 intro kV doc pm an cdv ct us a
 rw [f] at a
 obtain ⟨_,_,_,rfl⟩:=len3 a
 exact h _ _ _ _ _ _ _ _ _
theorem aa5 {K:Frag} {h:Heap} {mg:Str->Option Value} {x:Str} {st:Stmt} {ps:List Str} (X:K.In h) (G:h.Ns mainGlobals mg) (q:FnIn K x st)
  (hb:Bnd x st ps):∃ f fd,DefAt K mg x st ps f fd:=by
 obtain ⟨f,oc,od,kV,b,pm,an,d,ct,sl,a,l,c,k⟩:=q
 exact ⟨_,_,have F:=ati (st:=st) l c k;⟨F,mg_of X G a,F.binds hb⟩⟩
theorem txt_mk {K:Frag} {h:Heap} {mg:Str->Option Value} (X:K.In h) (G:h.Ns mainGlobals mg)
  {a:Tok} {f:Tok} 
  (I:FnIn K "is_whole" s_is_whole)
  (E:FnIn K "is_between" s_is_between)
  (H:FnIn K "is_place" s_is_place)
  (F:FnIn K "is_tie" s_is_tie)
  (N:FnIn K "are_ties" s_are_ties)
  (M:FnIn K "is_rising" s_is_rising)
  (O:FnIn K "is_web" s_is_web)
  (L:FnIn K "show_tie" s_show_tie)
  (J:FnIn K "show_web" s_show_web)
  (P:FnIn K "number_of" s_number_of)
  (D:FnIn K "tie_of" s_tie_of)
  (z:FnIn K "read_web" s_read_web)
  (x:FnIn K "_law_cell" s_law_cell)
  (B:FnIn K "_law_mixed" s_law_mixed)
  (A:FnIn K "_law_web" s_law_web)
  (y:FnIn K "_law_key" s_law_key)
  (C:FnIn K "_law_crowd" s_law_crowd)
  (w:FnIn K "law" s_law)
  (c:nsIn K mainGlobals "ValueError" = some none)
  (v:nsIn K mainGlobals "all" = some none)
  (u:nsIn K mainGlobals "int" = some none)
  (j:nsIn K mainGlobals "tuple" = some none)
  (l:nsIn K mainGlobals "range" = some none)
  (d:nsIn K mainGlobals "isinstance" = some none)
  (m:nsIn K mainGlobals "list" = some none)
  (s:nsIn K mainGlobals "str" = some none)
  (p:nsIn K mainGlobals "len" = some none)
  (i:nsIn K mainGlobals "sorted" = some none)
  (n:nsIn K mainGlobals "dict" = some none)
  (r:nsIn K mainGlobals "max" = some none)
  (o:nsIn K mainGlobals "bool" = some none)
  (q:nsIn K mainGlobals "min" = some none)
  (b:nsIn K mainGlobals "MOST_PLACES" = some (some (.int 60 a)))
  (g:nsIn K mainGlobals "FIGURES" = some (some (.str "0123456789" f)))
  : Txt K mg where
  b_ValueError:=mg_none_of X G c
  b_all:=mg_none_of X G v
  b_int:=mg_none_of X G u
  b_tuple:=mg_none_of X G j
  b_range:=mg_none_of X G l
  b_isinstance:=mg_none_of X G d
  b_list:=mg_none_of X G m
  b_str:=mg_none_of X G s
  b_len:=mg_none_of X G p
  b_sorted:=mg_none_of X G i
  b_dict:=mg_none_of X G n
  b_max:=mg_none_of X G r
  b_bool:=mg_none_of X G o
  b_min:=mg_none_of X G q
  v_MOST_PLACES:=⟨_,mg_of X G b⟩
  v_FIGURES:=⟨_,mg_of X G g⟩
  d_is_whole:=aa5 X G I (bnd1 rfl fun _ _ _ _ _ _ _=>rfl)
  d_is_between:=aa5 X G E (bnd3 rfl fun _ _ _ _ _ _ _ _ _=>rfl)
  d_is_place:=aa5 X G H (bnd2 rfl fun _ _ _ _ _ _ _ _=>rfl)
  d_is_tie:=aa5 X G F (bnd2 rfl fun _ _ _ _ _ _ _ _=>rfl)
  d_are_ties:=aa5 X G N (bnd2 rfl fun _ _ _ _ _ _ _ _=>rfl)
  d_is_rising:=aa5 X G M (bnd1 rfl fun _ _ _ _ _ _ _=>rfl)
  d_is_web:=aa5 X G O (bnd1 rfl fun _ _ _ _ _ _ _=>rfl)
  d_show_tie:=aa5 X G L (bnd1 rfl fun _ _ _ _ _ _ _=>rfl)
  d_show_web:=aa5 X G J (bnd1 rfl fun _ _ _ _ _ _ _=>rfl)
  d_number_of:=aa5 X G P (bnd1 rfl fun _ _ _ _ _ _ _=>rfl)
  d_tie_of:=aa5 X G D (bnd1 rfl fun _ _ _ _ _ _ _=>rfl)
  d_read_web:=aa5 X G z (bnd1 rfl fun _ _ _ _ _ _ _=>rfl)
  d_law_cell:=aa5 X G x (bnd2 rfl fun _ _ _ _ _ _ _ _=>rfl)
  d_law_mixed:=aa5 X G B (bnd2 rfl fun _ _ _ _ _ _ _ _=>rfl)
  d_law_web:=aa5 X G A (bnd2 rfl fun _ _ _ _ _ _ _ _=>rfl)
  d_law_key:=aa5 X G y (bnd1 rfl fun _ _ _ _ _ _ _=>rfl)
  d_law_crowd:=aa5 X G C (bnd2 rfl fun _ _ _ _ _ _ _ _=>rfl)
  d_law:=aa5 X G w (bnd1 rfl fun _ _ _ _ _ _ _=>rfl)
theorem walk {l:PySem.W.OpenLaw} {q:Program} {b:List Str} {v:(Str->Option Value)->Heap->Prop} {m:World->Heap->Prop} {d:DefRec} {K:Params->Frag} (hn:l.most=some 63) (g:d.params.defaults=[]) (o:d.name = "law")
  (p:∀ (w:World) (h:Heap),m w h->(K w.params).In h)
  (j:∀ (w:World) (lo:List Str) (mg mb:Str->Option Value) (c:ExcName->Option Value) (h:Heap),PyProof.Rows.Top q lo c mg mb h->m w h->adm (K w.params) h)
  (F:∀ (w:World) (mg:Str->Option Value) (h:Heap),(K w.params).In h->h.Ns mainGlobals mg->Txt (K w.params) mg) :
  PySem.W.WalkO q b v m l.row.toRowW d [] (fun f vs=>PySem.call f vs):=by
 refine L2.walk_of (n:=63) (k:=8) (x:="script") (CX:=fun _=>CX0) (sp:=fun w=>amo (K w.params)) hn (by decide) g ⟨rfl,by decide,by decide,rfl⟩ p j (fun w mg fa h X G e=>?_) (fun _ _ a ns B _ A=>⟨a,ns,rfl,A,B,fun _=>rfl⟩) fun _ _ _ _ _ z=>z
 have T:=F w mg h X G
 rw [o] at e
 obtain ⟨E,i,D⟩:=T.d_law
 have y:=e.symm.trans D.mgx
 cases y
 refine ⟨i,fun s u=>?_,fun base _ _=>?_⟩
 ·obtain ⟨oc,od,kV,doc,pm,an,cdv,ct,osl,rfl,C,r⟩:=D.fn.ex
  exact .of_eq rfl
 ·exact auv T D
end G
end
theorem PySem.W.Fast.tw7244942234828546684 : True := trivial
theorem PySem.W.Fast.tw10420308901804898652 : True := trivial
theorem PySem.W.Fast.tw11216360605564923297 : True := trivial
theorem PySem.W.Fast.tw7441736603107061558 : True := trivial
theorem PySem.W.Fast.tw1491189288330415802 : True := trivial
theorem PySem.W.Fast.tw14814053355629662013 : True := trivial
theorem PySem.W.Fast.tw15870877091391445462 : True := trivial
theorem PySem.W.Fast.tw14283204912800857642 : True := trivial
theorem PySem.W.Fast.tw3960658688792889575 : True := trivial
theorem PySem.W.Fast.tw12528616241635576541 : True := trivial
theorem PySem.W.Fast.tw10649846476041078890 : True := trivial
theorem PySem.W.Fast.tw17117236026834287622 : True := trivial
theorem PySem.W.Fast.tw3077045919606921784 : True := trivial
theorem PySem.W.Fast.tw17909615554189689137 : True := trivial
theorem PySem.W.Fast.tw2441180190658285352 : True := trivial
theorem PySem.W.Fast.tw2913404362441601275 : True := trivial
theorem PySem.W.Fast.tw4038328594041281637 : True := trivial
theorem PySem.W.Fast.tw16309435076420180553 : True := trivial
theorem PySem.W.Fast.tw1190115049339996600 : True := trivial
theorem PySem.W.Fast.tw4053104205795039613 : True := trivial
theorem PySem.W.Fast.tw3219994535123548821 : True := trivial
theorem PySem.W.Fast.tw17955359342136267448 : True := trivial
theorem PySem.W.Fast.tw5070673267342422074 : True := trivial
theorem PySem.W.Fast.tw16759589547589713813 : True := trivial
theorem PySem.W.Fast.tw8647746336549909788 : True := trivial
theorem PySem.W.Fast.tw8351343938589535295 : True := trivial
theorem PySem.W.Fast.tw13715214107765101949 : True := trivial
theorem PySem.W.Fast.tw8774999199863827051 : True := trivial
theorem PySem.W.Fast.tw14179713637649868997 : True := trivial
theorem PySem.W.Fast.tw10861511757278583157 : True := trivial
theorem PySem.W.Fast.tw16130659369129734667 : True := trivial
theorem PySem.W.Fast.tw4507007217200572545 : True := trivial
theorem PySem.W.Fast.tw13336815307679740588 : True := trivial
theorem PySem.W.Fast.tw12658471478124295379 : True := trivial
theorem PySem.W.Fast.tw16778402173806720941 : True := trivial
theorem PySem.W.Fast.tw15380167494297485866 : True := trivial
theorem PySem.W.Fast.tw17373871827119544208 : True := trivial
theorem PySem.W.Fast.tw6910132693552260296 : True := trivial
theorem PySem.W.Fast.tw4889653430817607587 : True := trivial
theorem PySem.W.Fast.tw3759977796701408859 : True := trivial
theorem PySem.W.Fast.tw10290567373422950987 : True := trivial
theorem PySem.W.Fast.tw6191744048769843478 : True := trivial
theorem PySem.W.Fast.tw10529640572333739039 : True := trivial
theorem PySem.W.Fast.tw1336390535816772610 : True := trivial
theorem PySem.W.Fast.tw2825990731950038333 : True := trivial
theorem PySem.W.Fast.tw15946046922495928537 : True := trivial
theorem PySem.W.Fast.tw13809406381424202536 : True := trivial
theorem PySem.W.Fast.tw1132060828490017797 : True := trivial
theorem PySem.W.Fast.tw16474868687202705022 : True := trivial
theorem PySem.W.Fast.tw18195527893693145413 : True := trivial
theorem PySem.W.Fast.tw15018076172002407421 : True := trivial
theorem PySem.W.Fast.tw8574234269004473196 : True := trivial
theorem PySem.W.Fast.tw2404228582778113856 : True := trivial
theorem PySem.W.Fast.tw10915788283313579869 : True := trivial
theorem PySem.W.Fast.tw2582951885178966730 : True := trivial
theorem PySem.W.Fast.tw4286727283197309079 : True := trivial
theorem PySem.W.Fast.tw13070684923360681791 : True := trivial
theorem PySem.W.Fast.tw14412029854723267097 : True := trivial
theorem PySem.W.Fast.tw6828294134320485433 : True := trivial
theorem PySem.W.Fast.tw5816783173224985440 : True := trivial
theorem PySem.W.Fast.tw6325624818896035104 : True := trivial
theorem PySem.W.Fast.tw2435713479108060861 : True := trivial
theorem PySem.W.Fast.tw2759136841385663172 : True := trivial
theorem PySem.W.Fast.tw10111781915378997107 : True := trivial
theorem PySem.W.Fast.tw11841337028269683863 : True := trivial
theorem PySem.W.Fast.tw1626615515847102126 : True := trivial
theorem PySem.W.Fast.tw18415563437540402418 : True := trivial
theorem PySem.W.Fast.tw14896876340588351592 : True := trivial
theorem PySem.W.Fast.tw17912783360366035248 : True := trivial
theorem PySem.W.Fast.tw18118313348775511272 : True := trivial
theorem PySem.W.Fast.tw17842338150129391644 : True := trivial
theorem PySem.W.Fast.tw11557292633322995847 : True := trivial
theorem PySem.W.Fast.tw3804590829183539398 : True := trivial
theorem PySem.W.Fast.tw6528618477076928697 : True := trivial
theorem PySem.W.Fast.tw1558094036108950723 : True := trivial
theorem PySem.W.Fast.tw2250174828788762698 : True := trivial
theorem PySem.W.Fast.tw11084257104457792644 : True := trivial
theorem PySem.W.Fast.tw1622114772088281734 : True := trivial
open PySem PySem.W PyProof.Rows
set_option maxRecDepth 100000 in
set_option maxHeartbeats 0 in
theorem PySem.Challenge.cw_fewties_k46_webs_written_holds : PySem.Challenge.rw_fewties_k46_webs_written.Holds := by
 w_on;o_law;k_head;(case hw=>w_witness2)
 k_fill
 refine G.walk (l:=PySem.Challenge.rw_fewties_k46_webs_written) rfl rfl rfl (fun w h Y=>PySem.W.kIn_of Y) ?TB ?F
 case TB =>
  intro w lo mg mb mean h T Y
  refine' L2.tabs0_none (L2.tab_no ?ht_)
  case ht_=>k_is
 case F =>
  intro w mg h KX GG
  refine' G.txt_mk KX GG ..
  all_goals try (refine' G.fn_in ?a_ ?l_ ?c_ ?k_;(case a_=>k_is);(case l_=>k_is);(case c_=>k_is);(case k_=>k_is))
  all_goals try k_is
#print axioms PySem.Challenge.cw_fewties_k46_webs_written_holds
