import PyProof.Rows.All
import Wide.All
import OpenK.AllK
import Wide.FinOn
import PyProof.EqAt
import PyProof.EqKinds
import PyProof.TupleCall
import PyProof.NeData
import PyProof.P3In
import PyProof.WalkInts
import PyProof.Rows.SortWalk
import PyProof.SumWalkG
import PyProof.Rows.CallKwBuiltin
import KE.KDictList
import PyProof.WalksEnum
import PyProof.ZipIter
import PyProof.ConsumeWalk
import PyProof.ListRange
import PyProof.TupleOfSeq
import PyProof.Rows.RuleN_abs
import KE.KDictOf
import PyProof.AttrMissHeap
import PyProof.Rows.SetFrom
import KE.KDictLaws
import PyProof.ExcBaseAll.ValueError
import PyProof.ExcAttrAll.ValueError
import PySem.Challenge.RW_fewties_k32_no_lines_and_no_ties
set_option Elab.async false
set_option linter.all false
set_option compiler.extract_closed false
set_option maxRecDepth 100000
set_option maxHeartbeats 4000000
local macro_rules | `(tactic| row_cond lo) => `(tactic| first | lia | omega)
namespace L2
open PySem PySem.Spec PyProof.Rows
noncomputable abbrev Key:=Sum Int Str
noncomputable def keyIs : Key->Value->Bool
 | .inl k, v => Value.isInt k v
 | .inr x, v => Value.isStrOf x v
noncomputable def keyH (w : World) : Key->Int
 | .inl k => hashInt k
 | .inr x => hashStr w x
theorem keyIs_shape : ∀ {k : Key} {v : Value}, keyIs k v = true->(∃ i t, k = Sum.inl i/\v = Value.int i t)\/(∃ x t, k = Sum.inr x/\v = Value.str x t)
 | .inl i, v, h => by
  obtain ⟨t, e⟩:=Value.isInt_shape (k:=i) (v:=v) h
  exact .inl ⟨i, t, rfl, e⟩
 | .inr x, v, h => by
  obtain ⟨t, e⟩:=Value.isStrOf_shape (x:=x) (v:=v) h
  exact .inr ⟨x, t, rfl, e⟩
theorem key_ll (a b : Int) : decide ((Sum.inl a : Key) = Sum.inl b) = (a == b):=by
 by_cases e : a = b
 ·subst e; simp
 ·have h : ¬ (Sum.inl a : Key) = Sum.inl b:=fun q => e (Sum.inl.inj q)
  rw [decide_eq_false h]
  exact (beq_eq_false_iff_ne.mpr e).symm
theorem key_rr (a b : Str) : decide ((Sum.inr a : Key) = Sum.inr b) = decide (a = b):=by
 by_cases e : a = b
 ·subst e; simp
 ·have h : ¬ (Sum.inr a : Key) = Sum.inr b:=fun q => e (Sum.inr.inj q)
  rw [decide_eq_false h, decide_eq_false e]
theorem key_lr (a : Int) (b : Str) : decide ((Sum.inl a : Key) = Sum.inr b) = false:=decide_eq_false (fun q => nomatch q)
theorem key_rl (a : Str) (b : Int) : decide ((Sum.inr a : Key) = Sum.inl b) = false:=decide_eq_false (fun q => nomatch q)
noncomputable def mixKind (prog : Program) (w : World) : PySem.KeyKind prog w Key where
 is:=keyIs
 hash:=keyH w
 inj:=fun v a b ha hb => by
  rcases keyIs_shape ha with ⟨i, t, rfl, rfl⟩ | ⟨x, t, rfl, rfl⟩
  ·rcases keyIs_shape hb with ⟨j, u, rfl, e⟩ | ⟨y, u, rfl, e⟩
   ·injection e with e1 _; rw [e1]
   ·exact nomatch e
  ·rcases keyIs_shape hb with ⟨j, u, rfl, e⟩ | ⟨y, u, rfl, e⟩
   ·exact nomatch e
   ·injection e with e1 _; rw [e1]
 byValue:=fun k v h => by
  rcases keyIs_shape h with ⟨i, t, rfl, rfl⟩ | ⟨x, t, rfl, rfl⟩ <;> rfl
 pyHash:=fun hv h => by
  rcases keyIs_shape hv with ⟨i, t, rfl, rfl⟩ | ⟨x, t, rfl, rfl⟩
  ·exact wpAny_pyHash_int h
  ·exact wpAny_pyHash_str h
 eqBool:=fun hu hv h => by
  rcases keyIs_shape hu with ⟨i, t, rfl, rfl⟩ | ⟨x, t, rfl, rfl⟩
  ·rcases keyIs_shape hv with ⟨j, u, rfl, rfl⟩ | ⟨y, u, rfl, rfl⟩
   ·rw [key_ll] at h; exact wpAny_eqBool_int h
   ·rw [key_lr] at h; exact SeqAt.EqAt.int_str i t y u _ _ _ _ h
  ·rcases keyIs_shape hv with ⟨j, u, rfl, rfl⟩ | ⟨y, u, rfl, rfl⟩
   ·rw [key_rl] at h; exact SeqAt.EqAt.str_int x t j u _ _ _ _ h
   ·rw [key_rr] at h; exact wpAny_eqBool_str h
 «strs»:=fun k x t v h => by
  rcases keyIs_shape h with ⟨i, u, rfl, e⟩ | ⟨y, u, rfl, e⟩
  ·exact nomatch e
  ·injection e with e1 _
   subst e1
   cases v <;> rfl
end L2
namespace L2
open PySem PySem.Spec PyProof.Rows
inductive V where
 | non | bl (b : Bool) | int (i : Int) | str (x : Str) | byt (b : Array UInt8) | flt (b : UInt64) | ref (a : Addr) | ty (n : String)
 deriving DecidableEq
noncomputable def RelV : V->Value->Prop
 | .non, u => u = Value.none
 | .bl b, u => u = Value.bool b
 | .int i, u => ∃ t, u = Value.int i t
 | .str x, u => ∃ t, u = Value.str x t
 | .byt b, u => ∃ t, u = Value.bytes b t
 | .flt b, u => ∃ t, u = Value.float b t
 | .ref a, u => u = Value.ref a
 | .ty n, u => u = Value.type n
abbrev Vals : List V->List Value->Prop:=Paired RelV
theorem Vals.length {xs : List V} {us : List Value} (r : Vals xs us) : xs.length = us.length:=Paired.length r
theorem Vals.get : ∀ {xs : List V} {us : List Value} {i : Nat} {x : V}, Vals xs us->xs[i]? = some x->∃ u, us[i]? = some u/\RelV x u
 | _, _, _, _, .nil, e => by simp at e
 | _, _, 0, _, .cons r _, e => by simp at e; subst e; exact ⟨_, rfl, r⟩
 | _, _, i + 1, x, .cons _ t, e => by
  obtain ⟨u, h1, h2⟩:=Vals.get (i:=i) (x:=x) t (by simpa using e)
  exact ⟨u, by simpa using h1, h2⟩
theorem Vals.set {x : V} {u : Value} (r : RelV x u) : ∀ {xs : List V} {us : List Value} (i : Nat), Vals xs us->Vals (xs.set i x) (us.set i u)
 | _, _, _, .nil => .nil
 | _, _, 0, .cons _ t => .cons r t
 | _, _, i + 1, .cons q t => .cons q (Vals.set r i t)
theorem Vals.append : ∀ {xs ys : List V} {us ws : List Value}, Vals xs us->Vals ys ws->Vals (xs ++ ys) (us ++ ws)
 | _, _, _, _, .nil, s => s
 | _, _, _, _, .cons r t, s => .cons r (Vals.append t s)
theorem Vals.take : ∀ {xs : List V} {us : List Value} (n : Nat), Vals xs us->Vals (xs.take n) (us.take n)
 | _, _, 0, _ => .nil
 | _, _, _ + 1, .nil => .nil
 | _, _, n + 1, .cons r t => .cons r (Vals.take n t)
theorem Vals.drop : ∀ {xs : List V} {us : List Value} (n : Nat), Vals xs us->Vals (xs.drop n) (us.drop n)
 | _, _, 0, r => r
 | _, _, _ + 1, .nil => .nil
 | _, _, n + 1, .cons _ t => Vals.drop n t
noncomputable def RelO : Option V->Option Value->Prop
 | some v, some u => RelV v u
 | none, none => True
 | _, _ => False
def KV {κ : Type} : List (κ × V)->List (κ × Value)->Prop:=Paired fun (p : κ × V) (q : κ × Value) => p.1 = q.1/\RelV p.2 q.2
noncomputable def kV : Key->V
 | .inl i => .int i
 | .inr x => .str x
inductive HO where
 /-- a list -/
 | lst (xs : List V)
 /-- a tuple (never changes) -/
 | tup (xs : List V)
 /-- a dict whose keys are ints and texts; one whose keys are tuples of ints and texts (the empty one is both) -/
 | dK (kvs : List (Key × V)) | dT (kvs : List (List Key × V))
 /-- a set of ints: its members, its size -/
 | set (S : Int->Bool) (n : Nat)
 /-- an instance of the class at C, its dict at dx, its attributes -/
 | ins (C dx : Addr) (fs : List (Str × V))
 /-- the dict of the instance at x -/
 | own (x : Addr)
 /-- the dict of an exception -/
 | xd (fs : List (Str × V))
 /-- a bound method, f of x -/
 | met (f x : Addr)
 /-- a range object lo, lo + 1, .. below hi -/
 | rng (lo hi : Int)
 /-- a thing that is known to the object (the script; a dict while a loop walks it): read, never written while it is so -/
 | frz (o : Obj) (u : HO)
 /-- a code object's table -/
 | tbl (ps : Array Value)
 /-- any other thing, by what is true of its one object (a def of one's own: SetO a S n:=HO.ext fun h => ..) -/
 | ext (φ : Heap->Prop)
noncomputable abbrev Hp:=Addr->Option HO
noncomputable def upd (H : Hp) (a : Addr) (o : HO) : Hp:=fun b => if b = a then some o else H b
theorem upd_same {H : Hp} {a : Addr} {o : HO} : upd H a o a = some o:=by unfold upd; rw [if_pos rfl]
theorem upd_ne {H : Hp} {a b : Addr} {o : HO} (h : b ≠ a) : upd H a o b = H b:=by unfold upd; rw [if_neg h]
theorem ne_of_none {H : Hp} {a b : Addr} {o : HO} (h : H a = some o) (h' : H b = none) : a ≠ b:=by
 intro e; subst e; rw [h] at h'; cases h'
section
variable (P : Program) (w : World)
noncomputable def ObjOk (H : Hp) (h : Heap) (a : Addr) : HO->Prop
 | .lst xs => xs.length<=sizeLine/\∃ (its : List Value) (n : Nat), Vals xs its/\h.get? a = some { cls:=.type "list", data:=.seq its.toArray n }
 | .tup xs => xs.length<=sizeLine/\∃ its : List Value, Vals xs its/\IsTup h a its.toArray
 | .dK kvs => kvs.length<=sizeLine/\(a == sysModules) = false/\∃ vs, KV kvs vs/\h.DictOf (mixKind P w) a vs
 | .dT kvs => kvs.length<=sizeLine/\(a == sysModules) = false/\∃ xs : List (List Key × Addr × Value),
   Paired (fun (p : List Key × V) (q : List Key × Addr × Value) => p.1 = q.1/\H q.2.1 = some (.tup (p.1.map kV))/\RelV p.2 q.2.2) kvs xs /\
   ∃ o es ep, h.get? a = some o/\o.ExactDict/\o.data = .dict es ep/\es.toList = xs.map (entryOfKey (tupleKind (mixKind P w)))/\(xs.map (·.1)).Nodup
 | .set S n => h.SetOf (intKind P w) a S n
 | .ins C dx fs => H dx = some (.own a)/\fs.length<=1000/\dx ≠ a/\h.get? a = some (PySem.W.instObj C dx) /\
   ∃ mA, h.Ns1 dx mA/\(∀ f, RelO (fs.lookup f) (mA f))/\PySem.Within mA (fs.map (·.1))
 | .own _ => ∃ o, h.get? a = some o
 | .xd fs => ∃ mA, h.Ns1 a mA/\∀ f, RelO (fs.lookup f) (mA f)
 | .rng lo hi => ∃ t u v, h.get? a = some { cls:=.type "range", data:=.fields #[.int lo t, .int hi u, .int 1 v] }
 | .frz o u => h.get? a = some o/\ObjOk H h a u
 | .tbl ps => h.get? a = some { cls:=.none, data:=.fields ps }
 | .met f x => h.get? a = some (PySem.W.methodObj (.ref f) (.ref x))
 | .ext φ => φ h/\(∃ o, h.get? a = some o)/\∀ h1 h2 : Heap, φ h1->(∀ o, h1.get? a = some o->h2.get? a = some o)->φ h2
def HOk (H : Hp) (h : Heap) : Prop:=∀ a o, H a = some o->ObjOk P w H h a o
end
section
variable {P : Program} {w : World} {H H' : Hp} {h h' : Heap} {a : Addr} {o : HO}
theorem ObjOk.lt (x : ObjOk P w H h a o) : a < h.objs.size:=by
 cases o with
 | lst xs => obtain ⟨_, _, _, _, e⟩:=x; exact Heap.lt_size e
 | tup xs => obtain ⟨_, _, _, p⟩:=x; exact p.lt
 | dK kvs => obtain ⟨_, _, _, _, o, _, _, e, _⟩:=x; exact Heap.lt_size e
 | dT kvs => obtain ⟨_, _, _, _, o, _, _, e, _⟩:=x; exact Heap.lt_size e
 | set S n => obtain ⟨o, _, _, _, e, _⟩:=x; exact Heap.lt_size e
 | ins C dx fs => obtain ⟨_, _, _, e, _⟩:=x; exact Heap.lt_size e
 | own y => obtain ⟨_, e⟩:=x; exact Heap.lt_size e
 | xd fs => obtain ⟨_, ⟨_, _, _, e, _⟩, _⟩:=x; exact Heap.lt_size e
 | rng lo hi => obtain ⟨_, _, _, e⟩:=x; exact Heap.lt_size e
 | frz ob u => obtain ⟨e, _⟩:=x; exact Heap.lt_size e
 | tbl ps => exact Heap.lt_size (show h.get? a = some _ from x)
 | met f y => exact Heap.lt_size (show h.get? a = some _ from x)
 | ext φ => obtain ⟨_, ⟨_, e⟩, _⟩:=x; exact Heap.lt_size e
theorem Paired.mapP {α β : Type} {F G : α->β->Prop} : ∀ {l₁ : List α} {l₂ : List β}, Paired F l₁ l₂->(∀ a b, F a b->G a b)->Paired G l₁ l₂
 | _, _, .nil, _ => .nil
 | _, _, .cons r t, f => .cons (f _ _ r) (Paired.mapP t f)
theorem ObjOk.stay (x : ObjOk P w H h a o) (k : ∀ b u, (b = a\/H b = some (.own a))->h.get? b = some u->h'.get? b = some u)
  (ho : ∀ b, H b = some (.own a)->H' b = some (.own a)) (ht : ∀ b xs, H b = some (.tup xs)->H' b = some (.tup xs)) : ObjOk P w H' h' a o:=by
 induction o with
 | lst xs => obtain ⟨z, its, n, r, e⟩:=x; exact ⟨z, its, n, r, k _ _ (.inl rfl) e⟩
 | tup xs => obtain ⟨z, its, r, ob, e, c⟩:=x; exact ⟨z, its, r, ob, k _ _ (.inl rfl) e, c⟩
 | dK kvs => obtain ⟨z, y, vs, r, ob, es, ep, e, c⟩:=x; exact ⟨z, y, vs, r, ob, es, ep, k _ _ (.inl rfl) e, c⟩
 | dT kvs =>
  obtain ⟨z, y, xs, r, ob, es, ep, e, c⟩:=x
  exact ⟨z, y, xs, Paired.mapP r fun p q z => ⟨z.1, ht _ _ z.2.1, z.2.2⟩, ob, es, ep, k _ _ (.inl rfl) e, c⟩
 | set S n => obtain ⟨ob, es, ep, t, e, c⟩:=x; exact ⟨ob, es, ep, t, k _ _ (.inl rfl) e, c⟩
 | ins C dx fs =>
  obtain ⟨d, z, ne, e, mA, ⟨od, es, ep, e2, c⟩, r⟩:=x
  exact ⟨ho _ d, z, ne, k _ _ (.inl rfl) e, mA, ⟨od, es, ep, k _ _ (.inr d) e2, c⟩, r⟩
 | own y => obtain ⟨ob, e⟩:=x; exact ⟨ob, k _ _ (.inl rfl) e⟩
 | xd fs => obtain ⟨mA, ⟨od, es, ep, e, c⟩, r⟩:=x; exact ⟨mA, ⟨od, es, ep, k _ _ (.inl rfl) e, c⟩, r⟩
 | rng lo hi => obtain ⟨t, u, v, e⟩:=x; exact ⟨t, u, v, k _ _ (.inl rfl) e⟩
 | frz ob u ih => obtain ⟨e, q⟩:=x; exact ⟨k _ _ (.inl rfl) e, ih q⟩
 | tbl ps =>
  have e : h.get? a = some { cls:=.none, data:=.fields ps }:=x
  show h'.get? a = some { cls:=.none, data:=.fields ps }
  exact k a _ (.inl rfl) e
 | met f y =>
  have e : h.get? a = some (PySem.W.methodObj (.ref f) (.ref y)):=x
  show h'.get? a = some (PySem.W.methodObj (.ref f) (.ref y))
  exact k a _ (.inl rfl) e
 | ext φ => obtain ⟨p, ⟨o, e⟩, st⟩:=x; exact ⟨st _ _ p fun o q => k _ _ (.inl rfl) q, ⟨o, k _ _ (.inl rfl) e⟩, st⟩
theorem HOk.lt (x : HOk P w H h) (e : H a = some o) : a < h.objs.size:=(x a o e).lt
theorem HOk.fresh (x : HOk P w H h) (e : h.objs.size<=a) : H a = none:=by
 cases q : H a with
 | none => rfl
 | some u => exact absurd (Nat.lt_of_lt_of_le (x.lt q) e) (Nat.lt_irrefl _)
theorem HOk.kept (x : HOk P w H h) (k : ∀ b u, h.get? b = some u->h'.get? b = some u) : HOk P w H h':=fun a o e =>
 (x a o e).stay (fun b u _ q => k b u q) (fun _ q => q) fun _ _ q => q
theorem HOk.laid (x : HOk P w H h) (k : ∀ b u, h.get? b = some u->h'.get? b = some u) (hp : h.objs.size<=a) (new : ObjOk P w (upd H a o) h' a o) : HOk P w (upd H a o) h':=fun b u e => by
 have hn:=x.fresh hp
 by_cases hb : b = a
 ·subst hb; rw [upd_same] at e; cases e; exact new
 ·rw [upd_ne hb] at e
  exact (x b u e).stay (fun c v _ q => k c v q) (fun c q => by rw [upd_ne (ne_of_none q hn)]; exact q) fun c xs q => by rw [upd_ne (ne_of_none q hn)]; exact q
end
def Rd (H : Hp) (a : Addr) (u : HO) : Prop:=H a = some u\/∃ o, H a = some (.frz o u)
theorem Rd.of {H : Hp} {a : Addr} {u : HO} (h : H a = some u) : Rd H a u:=.inl h
theorem Rd.ok {P : Program} {w : World} {H : Hp} {h : Heap} {a : Addr} {u : HO} (r : Rd H a u) (x : HOk P w H h) : ObjOk P w H h a u:=by
 rcases r with r | ⟨o, r⟩
 ·exact x a u r
 ·obtain ⟨_, q⟩:=x a _ r
  exact q
noncomputable def Mut : Option HO->Prop
 | some (.lst _) => True
 | some (.dK _) => True
 | some (.dT _) => True
 | some (.set _ _) => True
 | some (.ins _ _ _) => True
 | some (.ext _) => True
 | _ => False
section
variable {P : Program} {w : World} {H : Hp} {h h' : Heap} {x e : Addr} {o' : HO}
theorem HOk.write (ok : HOk P w H h) (mu : Mut (H x)) (he : e = x\/H e = some (.own x)) (k : ∀ b u, b ≠ e->h.get? b = some u->h'.get? b = some u) (heo : ∃ u, h'.get? e = some u)
  (new : ObjOk P w (upd H x o') h' x o') : HOk P w (upd H x o') h':=fun b u q => by
 have nown : ∀ c y, H c = some (.own y)->c ≠ x:=fun c y r z => by subst z; rw [r] at mu; exact mu
 have ntup : ∀ c xs, H c = some (.tup xs)->c ≠ x:=fun c xs r z => by subst z; rw [r] at mu; exact mu
 by_cases hb : b = x
 ·subst hb; rw [upd_same] at q; cases q; exact new
 ·rw [upd_ne hb] at q
  by_cases hbe : b = e
  ·have q' : H b = some (.own x):=by
    rcases he with z | z
    ·exact absurd (hbe.trans z) hb
    ·rw [hbe]; exact z
   rw [q] at q'; cases q'
   obtain ⟨v, hv⟩:=heo
   exact ⟨v, by rw [hbe]; exact hv⟩
  ·refine (ok b u q).stay (fun c v hc r => k c v ?_ r) (fun c r => by rw [upd_ne (nown c b r)]; exact r) fun c xs r => by rw [upd_ne (ntup c xs r)]; exact r
   rcases hc with rfl | hc
   ·exact hbe
   ·rintro rfl
    rcases he with z | z
    ·exact nown c b hc z
    ·rw [hc] at z; cases z; exact hb rfl
end
structure Un (fs ex : List Addr) (H H' : Hp) (h h' : Heap) : Prop where
 keep : ∀ b o, h.get? b = some o->H b = none->b ∉ fs->b ∉ ex->h'.get? b = some o
 slot : ∀ b o, h.get? b = some o->H b = none->b ∈ fs->b ∉ ex->∃ sl, h'.get? b = some { o with slots:=sl }
 free : ∀ b o, h.get? b = some o->H b = none->b ∉ ex->H' b = none
 there : ∀ b o, h.get? b = some o->b ∉ ex->∃ o', h'.get? b = some o'
 tups : ∀ b xs, H b = some (.tup xs)->H' b = some (.tup xs)
 frzs : ∀ b o u, H b = some (.frz o u)->H' b = some (.frz o u)
 tbls : ∀ b ps, H b = some (.tbl ps)->∃ more, H' b = some (.tbl (ps ++ more))
section
variable {fs fs' ex ex' : List Addr} {H H1 H2 : Hp} {h h1 h2 h' : Heap} {a x e : Addr} {o : HO}
theorem Un.any (u : Un fs ex H H1 h h1) {b : Addr} {ob : Obj} (q : h.get? b = some ob) (n : H b = none) (hx : b ∉ ex) : ∃ sl, h1.get? b = some { ob with slots:=sl }:=by
 by_cases hb : b ∈ fs
 ·exact u.slot b ob q n hb hx
 ·exact ⟨ob.slots, u.keep b ob q n hb hx⟩
theorem Un.trans (a : Un fs ex H H1 h h1) (b : Un fs ex H1 H2 h1 h2) : Un fs ex H H2 h h2 where
 keep:=fun c ob q n hc hx => b.keep c ob (a.keep c ob q n hc hx) (a.free c ob q n hx) hc hx
 slot:=fun c ob q n hc hx => by
  obtain ⟨sl, e1⟩:=a.slot c ob q n hc hx
  obtain ⟨sl', e2⟩:=b.slot c _ e1 (a.free c ob q n hx) hc hx
  exact ⟨sl', e2⟩
 free:=fun c ob q n hx => by
  obtain ⟨o', e1⟩:=a.there c ob q hx
  exact b.free c o' e1 (a.free c ob q n hx) hx
 there:=fun c ob q hx => by
  obtain ⟨o', e1⟩:=a.there c ob q hx
  exact b.there c o' e1 hx
 tups:=fun c xs q => b.tups c xs (a.tups c xs q)
 frzs:=fun c ob xs q => b.frzs c ob xs (a.frzs c ob xs q)
 tbls:=fun c ps q => by
  obtain ⟨m1, e1⟩:=a.tbls c ps q
  obtain ⟨m2, e2⟩:=b.tbls c _ e1
  exact ⟨m1 ++ m2, by rw [e2, Array.append_assoc]⟩
theorem Un.kept (k : ∀ b u, h.get? b = some u->h'.get? b = some u) : Un fs ex H H h h' :=
 ⟨fun b ob q _ _ _ => k b ob q, fun b ob q _ _ _ => ⟨ob.slots, k b ob q⟩, fun _ _ _ n _ => n, fun b ob q _ => ⟨ob, k b ob q⟩, fun _ _ q => q, fun _ _ _ q => q, fun _ ps q => ⟨#[], by rw [q]; simp⟩⟩
theorem Un.refl : Un fs ex H H h h:=Un.kept fun _ _ q => q
theorem Un.laid (k : ∀ b u, h.get? b = some u->h'.get? b = some u) (hp : h.objs.size<=a) (hn : H a = none) : Un fs ex H (upd H a o) h h' where
 keep:=fun b u q _ _ _ => k b u q
 slot:=fun b u q _ _ _ => ⟨u.slots, k b u q⟩
 free:=fun b u q n _ => by rw [upd_ne (Nat.ne_of_lt (Nat.lt_of_lt_of_le (Heap.lt_size q) hp))]; exact n
 there:=fun b u q _ => ⟨u, k b u q⟩
 tups:=fun b xs q => by rw [upd_ne (ne_of_none q hn)]; exact q
 frzs:=fun b u xs q => by rw [upd_ne (ne_of_none q hn)]; exact q
 tbls:=fun b ps q => ⟨#[], by rw [upd_ne (ne_of_none q hn), q]; simp⟩
theorem Un.write (mu : Mut (H x)) (he : e = x\/H e = some (.own x)) (k : ∀ b u, b ≠ e->h.get? b = some u->h'.get? b = some u) (heo : ∃ u, h'.get? e = some u) : Un fs ex H (upd H x o) h h':=by
 have hx : ∀ b, H b = none->b ≠ x:=fun b n z => by subst z; rw [n] at mu; exact mu
 have hb : ∀ b, H b = none->b ≠ e:=fun b n z => by
  subst z
  rcases he with r | r
  ·exact hx b n r
  ·rw [n] at r; cases r
 have hm : ∀ b u, H b = some u->¬ Mut (some u)->b ≠ x:=fun b u q nm z => by subst z; rw [q] at mu; exact nm mu
 refine ⟨fun b u q n _ _ => k b u (hb b n) q, fun b u q n _ _ => ⟨u.slots, k b u (hb b n) q⟩, fun b u q n _ => by rw [upd_ne (hx b n)]; exact n, fun b u q _ => ?_,
  fun b xs q => by rw [upd_ne (hm b _ q fun z => z)]; exact q, fun b u xs q => by rw [upd_ne (hm b _ q fun z => z)]; exact q, fun b ps q => ⟨#[], by rw [upd_ne (hm b _ q fun z => z), q]; simp⟩⟩
 by_cases hbe : b = e
 ·subst hbe; exact heo
 ·exact ⟨u, k b u hbe q⟩
theorem Un.mono (u : Un fs ex H H1 h h1) (hs : ∀ b ∈ fs, b ∈ fs') (hx : ∀ b ∈ ex, b ∈ ex') : Un fs' ex' H H1 h h1 :=
 ⟨fun b ob q n hb he => u.keep b ob q n (fun z => hb (hs b z)) fun z => he (hx b z), fun _ _ q n _ he => u.any q n fun z => he (hx _ z), fun b ob q n he => u.free b ob q n fun z => he (hx b z), fun b ob q he => u.there b ob q fun z => he (hx b z), u.tups, u.frzs, u.tbls⟩
end
noncomputable def trk (h : Heap) (H : Hp) : List Addr:=(List.range h.objs.size).filter fun a => (H a).isSome
noncomputable def hidT (h : Heap) (H : Hp) : Heap:=PySem.W.hideAll h (trk h H)
theorem hidT_size (h : Heap) (H : Hp) : (hidT h H).objs.size = h.objs.size:=PySem.W.hideAll_size _ _
theorem hidT_get {h : Heap} {H : Hp} {b : Addr} {o : Obj} (e : h.get? b = some o) (n : H b = none) : (hidT h H).get? b = some o :=
 PySem.W.hideAll_get _ e fun hm => by
  have q : (H b).isSome = true:=(List.mem_filter.mp hm).2
  rw [n] at q; simp at q
theorem of_hidT {h : Heap} {H : Hp} {b : Addr} {o : Obj} (e : (hidT h H).get? b = some o) : h.get? b = some o/\H b = none:=by
 have e' : h.get? b = some o:=PySem.W.of_hideAll (trk h H) e
 refine ⟨e', ?_⟩
 cases q : H b with
 | none => rfl
 | some x =>
  have hm : b ∈ trk h H:=List.mem_filter.mpr ⟨List.mem_range.mpr (Heap.lt_size e'), by simp [q]⟩
  have z : (hidT h H).get? b = none:=PySem.W.hideAll_none (trk h H) hm
  rw [z] at e; cases e
noncomputable def allNews (g h : Heap) (L : Addr) : List (Addr × Obj):=(List.range h.objs.size).filterMap fun a => if a = L\/(g.get? a).isSome = true then none else (h.get? a).map fun o => (a, o)
noncomputable def rest (g h : Heap) (L d : Addr) : List (Addr × Obj):=(allNews g h L).filter fun p => decide (p.1 ≠ d)
end L2
namespace L2
open PySem PySem.Spec PyProof.Rows
structure Mod (K : PySem.W.Frag) (mg : Str->Option Value) (base : Heap) : Prop where
 kin : K.In base
 glob : base.Ns mainGlobals mg
 blt : ∃ mb, base.Ns builtinsNs mb/\∀ x : Str, x ≠ "__name__"->mb x = bootBuiltins x
 nolimit : base.NoLimit
/-- the context: a def's body (or a comprehension's block) running. base: fixed through the whole law; s₀, H₀: the entry; outer: the frames whose slots others may change (a def's callers); stack: all frames that run;
  ex: iterators that were made ahead of the entry and are walked here (a comprehension's); fn: the names whose cells were made at the entry (a def: all; a comprehension's block: its own); calm: not within an except suite; pn: pins that every state bears; xe: what is wanted of an exception that leaves the code -/
structure Cx where
 prog : Program
 w : World
 K : PySem.W.Frag
 mg : Str->Option Value
 base : Heap
 A : Around
 N : List Str
 s₀ : Shared
 H₀ : Hp
 env : Env
 outer : List Env
 stack : List Env
 ex : List Addr
 fn : Str->Bool
 calm : Bool
 pn : List (Addr × Obj)
 xe : Value->Shared->Prop
noncomputable def frs (l : List Env) : List Addr:=l.filterMap (·.frame)
noncomputable abbrev Cx.fs (X : Cx) : List Addr:=frs X.outer
def Vis (sc : Scope) (x : Str) : Prop:=sc.names.lookup x = some .local\/sc.names.lookup x = some .cell\/sc.names.lookup x = some .free
def Loc (sc : Scope) (x : Str) : Prop:=sc.names.lookup x = some .local\/sc.names.lookup x = some .cell
def Look (env : Env) (h : Heap) (m : Str->Option Value) (x : Str) (u : Value) : Prop :=
 (env.kindOf x = some .local/\m x = some u)\/((env.kindOf x = some .cell\/env.kindOf x = some .free)/\∃ c, env.cells.lookup x = some c/\h.IsCell c (some u))
structure Cx.Ok (X : Cx) : Prop where
 mod : Mod X.K X.mg X.base
 kind : X.env.scope.kind = .function
 glob : X.env.globals = mainGlobals
 blt : X.env.builtins = builtinsNs
 above : X.s₀.heap.objs.size<=X.env.locals
 inj : ∀ x y c, X.env.cells.lookup x = some c->X.env.cells.lookup y = some c->x = y
 has : ∀ x, (X.env.kindOf x = some .cell\/X.env.kindOf x = some .free)->∃ c, X.env.cells.lookup x = some c
 cab : ∀ x c, X.fn x = true->X.env.cells.lookup x = some c->X.s₀.heap.objs.size<=c
 hd : X.calm = true->X.A.handled = none
 frames : X.A.frames = some X.stack
 stk : X.stack = X.outer\/(X.stack = X.env :: X.outer/\X.env.frame = some X.env.locals)
 exf : ∀ b ∈ X.ex, b ≠ X.env.locals/\∀ x c, X.env.cells.lookup x = some c->c ≠ b
 bs : ∀ b o, X.base.get? b = some o->X.s₀.heap.get? b = some o/\X.H₀ b = none
 bsz : X.base.objs.size<=X.s₀.heap.objs.size
 noex : ∀ b o, X.base.get? b = some o->b ∉ X.ex
 exfs : ∀ b ∈ X.ex, b ∉ X.fs
 funs : X.s₀.heap.FunFrames X.base X.outer
 frf : ∀ b ∈ X.fs, X.H₀ b = none
structure Inv (X : Cx) (pins : List (Addr × Obj)) (σ : List (Option V)) (H : Hp) (s : Shared) : Prop where
 ok : X.Ok
 os : s.os = X.s₀.os
 bare : AllBare s.gens
 base : Un X.fs X.ex X.H₀ H X.s₀.heap s.heap
 loc : ∃ m, s.heap.Ns X.env.locals m/\∀ (i : Nat) (x : Str) (v : V), X.N[i]? = some x->σ[i]? = some (some v)->Vis X.env.scope x->∃ u, RelV v u/\Look X.env s.heap m x u
 cell : ∀ x c, X.env.cells.lookup x = some c->∃ v, s.heap.IsCell c v
 free : H X.env.locals = none
 freeC : ∀ x c, X.env.cells.lookup x = some c->H c = none
 pin : ∀ p ∈ X.pn ++ pins, s.heap.get? p.1 = some p.2/\H p.1 = none/\p.1 ≠ X.env.locals/\p.1 ∉ X.fs/\∀ v, p.2.data ≠ .cell v
 hok : HOk X.prog X.w H s.heap
 len : σ.length = X.N.length
section
variable {X : Cx} {pins : List (Addr × Obj)} {σ : List (Option V)} {H H' : Hp} {s : Shared} {h' : Heap}
theorem Cx.Ok.nofr (ok : X.Ok) {b : Addr} {o : Obj} (e : X.base.get? b = some o) : b ∉ X.fs:=fun hb => by
 have:=(ok.funs.mem hb).1
 rw [e] at this; cases this
theorem Inv.bs (I : Inv X pins σ H s) : ∀ b o, X.base.get? b = some o->s.heap.get? b = some o/\H b = none:=fun b o e =>
 ⟨I.base.keep b o (I.ok.bs b o e).1 (I.ok.bs b o e).2 (I.ok.nofr e) (I.ok.noex b o e), I.base.free b o (I.ok.bs b o e).1 (I.ok.bs b o e).2 (I.ok.noex b o e)⟩
theorem Inv.bk (I : Inv X pins σ H s) : ∀ b o, X.base.get? b = some o->s.heap.get? b = some o:=fun b o e => (I.bs b o e).1
theorem Inv.mod (I : Inv X pins σ H s) : Mod X.K X.mg X.base:=I.ok.mod
theorem Inv.kIn (I : Inv X pins σ H s) : X.K.In s.heap:=I.ok.mod.kin.keeps I.bk
theorem Inv.nolimit (I : Inv X pins σ H s) : s.heap.NoLimit:=I.ok.mod.nolimit.keeps I.bk
theorem Inv.fr (I : Inv X pins σ H s) : ∃ m, Fr X.base X.env.locals s.heap m :=
 let ⟨m, hn, _⟩:=I.loc
 ⟨m, hn, I.bk, Nat.le_trans I.ok.bsz I.ok.above⟩
theorem Inv.lt (I : Inv X pins σ H s) : X.env.locals < s.heap.objs.size:=let ⟨_, hn, _⟩:=I.loc; hn.lt
theorem Inv.sz (I : Inv X pins σ H s) : X.s₀.heap.objs.size<=s.heap.objs.size:=Nat.le_trans I.ok.above (Nat.le_of_lt I.lt)
theorem Inv.nofs (I : Inv X pins σ H s) {a : Addr} (h : s.heap.objs.size<=a) : a ∉ X.fs:=fun hb => by
 obtain ⟨_, o, ho, _⟩:=I.ok.funs.mem hb
 exact absurd (Nat.lt_of_lt_of_le (Heap.lt_size ho) (Nat.le_trans I.sz h)) (Nat.lt_irrefl _)
theorem Inv.cne (I : Inv X pins σ H s) : ∀ x c, X.env.cells.lookup x = some c->c ≠ X.env.locals:=fun x c e z => by
 obtain ⟨v, o, ho, hd⟩:=I.cell x c e
 obtain ⟨m, ⟨o', es, ep, ho', hd', _⟩, _⟩:=I.loc
 rw [z, ho'] at ho; cases ho; rw [hd'] at hd; cases hd
theorem Inv.funs (I : Inv X pins σ H s) : s.heap.FunFrames X.base X.outer:=by
 have all : ∀ (l : List Env), (∀ b ∈ frs l, b ∈ X.fs)->X.s₀.heap.FunFrames X.base l->s.heap.FunFrames X.base l:=by
  intro l
  induction l with
  | nil => intro _ _; trivial
  | cons env r ih =>
   intro hs hl
   obtain ⟨hk, ⟨L, o, hf, hn, ho, hd⟩, hr⟩:=hl
   have hL : L ∈ X.fs:=hs L (by unfold frs; rw [List.filterMap_cons, hf]; exact List.mem_cons_self)
   obtain ⟨sl, e⟩:=I.base.slot L o ho (I.ok.frf L hL) hL fun z => I.ok.exfs L z hL
   exact ⟨hk, ⟨L, _, hf, hn, e, hd⟩, ih (fun b hb => hs b (by unfold frs; rw [List.filterMap_cons, hf]; exact List.mem_cons_of_mem _ hb)) hr⟩
 exact all X.outer (fun _ hb => hb) I.ok.funs
theorem Inv.stack (I : Inv X pins σ H s) : s.heap.FunFrames X.base X.stack:=by
 rcases I.ok.stk with e | ⟨e, hf⟩
 ·rw [e]; exact I.funs
 ·rw [e]
  obtain ⟨m, hn, _⟩:=I.loc
  refine .cons (by rw [I.ok.kind]; decide) hf hn ?_ I.funs
  exact Heap.get?_none_of_le (Nat.le_trans I.ok.bsz I.ok.above)
theorem Inv.stkSub (I : Inv X pins σ H s) : ∀ b ∈ frs X.stack, b ∈ X.env.locals :: X.fs:=fun b hb => by
 rcases I.ok.stk with e | ⟨e, hf⟩
 ·rw [e] at hb; exact List.mem_cons_of_mem _ hb
 ·rw [e] at hb
  unfold frs at hb
  rw [List.filterMap_cons, hf] at hb
  exact hb
theorem Inv.stkFree (I : Inv X pins σ H s) : ∀ b ∈ frs X.stack, H b = none:=fun b hb => by
 rcases List.mem_cons.mp (I.stkSub b hb) with e | hb
 ·rw [e]; exact I.free
 ·obtain ⟨_, o, ho, _⟩:=I.ok.funs.mem hb
  exact I.base.free b o ho (I.ok.frf b hb) fun z => I.ok.exfs b z hb
theorem Inv.step {g' : Array GenState} {t' : Nat} {d' : Drawn} {ch : List Addr} (I : Inv X pins σ H s)
  (hch : ∀ b ∈ ch, (b ∈ X.ex\/X.s₀.heap.objs.size<=b)/\b ≠ X.env.locals/\(∀ x c, X.env.cells.lookup x = some c->c ≠ b)/\∀ p ∈ X.pn ++ pins, p.1 ≠ b)
  (keep : ∀ b o, b ≠ X.env.locals->b ∉ X.fs->b ∉ ch->s.heap.get? b = some o->H b = none->h'.get? b = some o)
  (slot : ∀ b o, b ≠ X.env.locals->b ∈ X.fs->b ∉ ch->s.heap.get? b = some o->H b = none->∃ sl, h'.get? b = some { o with slots:=sl }) (free : ∀ b o, b ∉ ch->s.heap.get? b = some o->H b = none->H' b = none)
  (there : ∀ b o, b ∉ ch->s.heap.get? b = some o->∃ o', h'.get? b = some o')
  (tups : ∀ b xs, H b = some (.tup xs)->H' b = some (.tup xs)) (frzs : ∀ b o u, H b = some (.frz o u)->H' b = some (.frz o u)) (tbls : ∀ b ps, H b = some (.tbl ps)->∃ more, H' b = some (.tbl (ps ++ more)))
  (ns : ∀ m, s.heap.Ns X.env.locals m->h'.Ns X.env.locals m) (hok : HOk X.prog X.w H' h') (hg : AllBare g') :
  Inv X pins σ H' { s with heap:=h', gens:=g', drawn:=d', toks:=t' }:=by
 have neL : ∀ b o, X.s₀.heap.get? b = some o->b ≠ X.env.locals:=fun b o e => Nat.ne_of_lt (Nat.lt_of_lt_of_le (Heap.lt_size e) I.ok.above)
 have neC : ∀ b o, X.s₀.heap.get? b = some o->b ∉ X.ex->b ∉ ch:=fun b o e hx hb => by
  rcases (hch b hb).1 with z | z
  ·exact hx z
  ·exact absurd (Nat.lt_of_lt_of_le (Heap.lt_size e) z) (Nat.lt_irrefl _)
 have cellK : ∀ x c, X.env.cells.lookup x = some c->∀ v, s.heap.IsCell c v->h'.IsCell c v:=fun x c e v z_ => by
  obtain ⟨o, ho, hd⟩:=z_
  have nch : c ∉ ch:=fun z => (hch c z).2.2.1 x c e rfl
  by_cases hc : c ∈ X.fs
  ·obtain ⟨sl, q⟩:=slot c o (I.cne x c e) hc nch ho (I.freeC x c e)
   exact ⟨_, q, hd⟩
  ·exact ⟨o, keep c o (I.cne x c e) hc nch ho (I.freeC x c e), hd⟩
 refine ⟨I.ok, I.os, hg, ⟨fun b o e n hb hx => ?_, fun b o e n hb hx => ?_, fun b o e n hx => ?_, fun b o e hx => ?_, fun b xs e => tups b xs (I.base.tups b xs e), fun b o xs e => frzs b o xs (I.base.frzs b o xs e), fun b ps e => ?_⟩, ?_, fun x c e => ?_, ?_, fun x c e => ?_, fun p hp => ?_, hok, I.len⟩
 ·exact keep b o (neL b o e) hb (neC b o e hx) (I.base.keep b o e n hb hx) (I.base.free b o e n hx)
 ·obtain ⟨sl, e1⟩:=I.base.slot b o e n hb hx
  obtain ⟨sl', e2⟩:=slot b _ (neL b o e) hb (neC b o e hx) e1 (I.base.free b o e n hx)
  exact ⟨sl', e2⟩
 ·obtain ⟨o', e1⟩:=I.base.there b o e hx
  exact free b o' (neC b o e hx) e1 (I.base.free b o e n hx)
 ·obtain ⟨o', e1⟩:=I.base.there b o e hx
  exact there b o' (neC b o e hx) e1
 ·obtain ⟨m1, e1⟩:=I.base.tbls b ps e
  obtain ⟨m2, e2⟩:=tbls b _ e1
  exact ⟨m1 ++ m2, by rw [e2, Array.append_assoc]⟩
 ·obtain ⟨m, hn, hl⟩:=I.loc
  refine ⟨m, ns m hn, fun i x v e1 e2 e3 => ?_⟩
  obtain ⟨u, r, l⟩:=hl i x v e1 e2 e3
  refine ⟨u, r, ?_⟩
  rcases l with l | ⟨k, c, e, z⟩
  ·exact .inl l
  ·exact .inr ⟨k, c, e, cellK x c e _ z⟩
 ·obtain ⟨v, z⟩:=I.cell x c e
  exact ⟨v, cellK x c e v z⟩
 ·obtain ⟨m, ⟨o, _, _, ho, _⟩, _⟩:=I.loc
  exact free _ o (fun z => (hch _ z).2.1 rfl) ho I.free
 ·obtain ⟨v, o, ho, hd⟩:=I.cell x c e
  exact free c o (fun z => (hch c z).2.2.1 x c e rfl) ho (I.freeC x c e)
 ·obtain ⟨e, n, ne, nf, d⟩:=I.pin p hp
  have nch : p.1 ∉ ch:=fun z => (hch p.1 z).2.2.2 p hp rfl
  exact ⟨keep p.1 p.2 ne nf nch e n, free p.1 p.2 nch e n, ne, nf, d⟩
theorem Inv.un {t' : Nat} (I : Inv X pins σ H s) (u : Un X.fs [] H H' s.heap h') (hok : HOk X.prog X.w H' h') : Inv X pins σ H' { s with heap:=h', toks:=t' }:=by
 obtain ⟨m, ⟨o, es, ep, ho, r⟩, _⟩:=id I.loc
 obtain ⟨sl, hL⟩:=u.any ho I.free (by simp)
 exact I.step (g':=s.gens) (d':=s.drawn) (ch:=[]) (fun _ z => nomatch z) (fun b o _ hb _ e n => u.keep b o e n hb (by simp)) (fun b o _ hb _ e n => u.slot b o e n hb (by simp)) (fun b o _ e n => u.free b o e n (by simp)) (fun b o _ e => u.there b o e (by simp)) u.tups u.frzs u.tbls (fun m' hm => by
  obtain ⟨o', es', ep', ho', r'⟩:=hm
  rw [ho] at ho'; cases ho'
  exact ⟨_, es', ep', hL, r'⟩) hok I.bare
theorem Inv.call {g' : Array GenState} {t' : Nat} {d' : Drawn} {ch : List Addr} (I : Inv X pins σ H s) (u : Un (frs X.stack) ch H H' s.heap h') (hok : HOk X.prog X.w H' h') (hg : AllBare g')
  (hch : ∀ b ∈ ch, (b ∈ X.ex\/X.s₀.heap.objs.size<=b)/\b ≠ X.env.locals/\(∀ x c, X.env.cells.lookup x = some c->c ≠ b)/\∀ p ∈ X.pn ++ pins, p.1 ≠ b) :
  Inv X pins σ H' { s with heap:=h', gens:=g', drawn:=d', toks:=t' }:=by
 obtain ⟨m, ⟨o, es, ep, ho, r⟩, _⟩:=id I.loc
 obtain ⟨sl, hL⟩:=u.any ho I.free fun z => (hch _ z).2.1 rfl
 exact I.step (ch:=ch) hch (fun b o hL hb hc e n => u.keep b o e n (fun z => (List.mem_cons.mp (I.stkSub b z)).elim hL hb) hc) (fun b o _ _ hc e n => u.any e n hc) (fun b o hc e n => u.free b o e n hc) (fun b o hc e => u.there b o e hc) u.tups u.frzs u.tbls (fun m' hm => by
  obtain ⟨o', es', ep', ho', r'⟩:=hm
  rw [ho] at ho'; cases ho'
  exact ⟨_, es', ep', hL, r'⟩) hok hg
theorem Inv.turned {t' : Nat} {it : Addr} (I : Inv X pins σ H s) (k : ∀ b o, b ≠ it->s.heap.get? b = some o->h'.get? b = some o) (hn : H it = none) (hL : it ≠ X.env.locals)
  (h1 : it ∈ X.ex\/X.s₀.heap.objs.size<=it) (h2 : ∀ x c, X.env.cells.lookup x = some c->c ≠ it) (h3 : ∀ p ∈ X.pn ++ pins, p.1 ≠ it) : Inv X pins σ H { s with heap:=h', toks:=t' }:=by
 have nit : ∀ b u, H b = some u->b ≠ it:=fun b u e z => by rw [z, hn] at e; cases e
 refine I.step (g':=s.gens) (d':=s.drawn) (ch:=[it]) (fun b hb => ?_) (fun b o _ _ hc e _ => k b o (fun z => hc (by simp [z])) e) (fun b o _ _ hc e _ => ⟨o.slots, k b o (fun z => hc (by simp [z])) e⟩) (fun _ _ _ _ n => n)
  (fun b o hc e => ⟨o, k b o (fun z => hc (by simp [z])) e⟩) (fun _ _ e => e) (fun _ _ _ e => e) (fun b ps e => ⟨#[], by rw [e]; simp⟩) (fun m hm => ?_) (fun b u e => ?_) I.bare
 ·have e : b = it:=by simpa using hb
  subst e
  exact ⟨h1, hL, h2, h3⟩
 ·obtain ⟨o, es, ep, ho, r⟩:=hm
  exact ⟨o, es, ep, k _ o (Ne.symm hL) ho, r⟩
 ·refine (I.hok b u e).stay (fun c v hc q => k c v ?_ q) (fun _ q => q) fun _ _ q => q
  rcases hc with z | z
  ·rw [z]; exact nit b u e
  ·exact nit c _ z
theorem Inv.tok (I : Inv X pins σ H s) (t : Nat) : Inv X pins σ H { s with toks:=t }:=I.un (h':=s.heap) (t':=t) Un.refl I.hok
theorem Inv.kept {t' : Nat} (I : Inv X pins σ H s) (k : ∀ b u, s.heap.get? b = some u->h'.get? b = some u) : Inv X pins σ H { s with heap:=h', toks:=t' }:=I.un (Un.kept k) (I.hok.kept k)
theorem Inv.laid {a : Addr} {o : HO} {t' : Nat} (I : Inv X pins σ H s) (k : ∀ b u, s.heap.get? b = some u->h'.get? b = some u) (hp : s.heap.objs.size<=a) (new : ObjOk X.prog X.w (upd H a o) h' a o) :
  Inv X pins σ (upd H a o) { s with heap:=h', toks:=t' }:=I.un (Un.laid k hp (I.hok.fresh hp)) (I.hok.laid k hp new)
theorem Inv.write {x e : Addr} {o : HO} {t' : Nat} (I : Inv X pins σ H s) (mu : Mut (H x)) (he : e = x\/H e = some (.own x)) (k : ∀ b u, b ≠ e->s.heap.get? b = some u->h'.get? b = some u) (heo : ∃ u, h'.get? e = some u)
  (new : ObjOk X.prog X.w (upd H x o) h' x o) : Inv X pins σ (upd H x o) { s with heap:=h', toks:=t' }:=I.un (Un.write mu he k heo) (I.hok.write mu he k heo new)
theorem Inv.pins_of {pins' : List (Addr × Obj)} (I : Inv X pins σ H s) (h : ∀ p ∈ pins', s.heap.get? p.1 = some p.2/\H p.1 = none/\p.1 ≠ X.env.locals/\p.1 ∉ X.fs/\∀ v, p.2.data ≠ .cell v) : Inv X pins' σ H s :=
 ⟨I.ok, I.os, I.bare, I.base, I.loc, I.cell, I.free, I.freeC, fun p hp => (List.mem_append.mp hp).elim (fun z => I.pin p (List.mem_append_left _ z)) (h p), I.hok, I.len⟩
theorem nodup_ix {N : List Str} (hN : N.Nodup) {i j : Nat} {x : Str} (a : N[i]? = some x) (b : N[j]? = some x) : i = j:=by
 obtain ⟨h1, e1⟩:=List.getElem?_eq_some_iff.mp a
 obtain ⟨h2, e2⟩:=List.getElem?_eq_some_iff.mp b
 exact (List.getElem_inj hN).mp (e1.trans e2.symm)
theorem store_ok2 {M : Model} {A : Around} {E : Value->Shared->Prop} {i : Nat} {x : Str} {v : V} {u : Value} {Q : Unit->Shared->Prop} (I : Inv X pins σ H s) (hN : X.N.Nodup) (hi : X.N[i]? = some x) (hx : Loc X.env.scope x) (r : RelV v u)
  (h : ∀ s', Inv X pins (σ.set i (some v)) H s'->(∃ a, Heap.SameBut a s.heap s'.heap/\(a = X.env.locals\/X.env.cells.lookup x = some a))->Q () s') (hf : X.fn x = true\/X.env.scope.names.lookup x = some .local:=by first | exact .inl rfl | exact .inr rfl | assumption) : wpAny M A (storeName X.env x u) Q E s:=by
 obtain ⟨m, hn, hl⟩:=id I.loc
 have hcls : (X.env.scope.kind == .class || (X.env.scope.kind == .module && X.env.locals != X.env.globals)) = false:=by rw [I.ok.kind]; rfl
 have hiσ : i < σ.length:=by rw [I.len]; exact (List.getElem?_eq_some_iff.mp hi).1
 have cne:=I.cne
 have tracked : ∀ {a : Addr} {h' : Heap}, (∃ o, s.heap.get? a = some o/\H a = none)->Heap.SameBut a s.heap h'->HOk X.prog X.w H h':=fun {a h'} ha hs b ob e => by
  obtain ⟨_, _, hfree⟩:=ha
  refine (I.hok b ob e).stay (fun c w' hc q => (hs.2 c ?_).trans q) (fun _ q => q) fun _ _ q => q
  rintro rfl
  rcases hc with rfl | hc
  ·rw [hfree] at e; cases e
  ·rw [hfree] at hc; cases hc
 rcases hx with hk | hk
 ·refine wpAny_storeName_local hk hn (fun h' hn' hs => ?_) hcls
  obtain ⟨oL, _, _, hoL, _⟩:=id hn
  refine h _ ⟨I.ok, I.os, I.bare, ⟨fun b o e n hb hx => ?_, fun b o e n hb hx => ?_, I.base.free, fun b o e hx => ?_, I.base.tups, I.base.frzs, I.base.tbls⟩, ⟨_, hn', fun j y v' e1 e2 e3 => ?_⟩, fun y c e => ?_, I.free, I.freeC, fun p hp => ?_, tracked ⟨oL, hoL, I.free⟩ hs, by simpa using I.len⟩ ⟨_, hs, .inl rfl⟩
  ·exact (hs.2 b (Nat.ne_of_lt (Nat.lt_of_lt_of_le (Heap.lt_size e) I.ok.above))).trans (I.base.keep b o e n hb hx)
  ·obtain ⟨sl, e1⟩:=I.base.slot b o e n hb hx
   exact ⟨sl, (hs.2 b (Nat.ne_of_lt (Nat.lt_of_lt_of_le (Heap.lt_size e) I.ok.above))).trans e1⟩
  ·obtain ⟨o', e1⟩:=I.base.there b o e hx
   exact ⟨o', (hs.2 b (Nat.ne_of_lt (Nat.lt_of_lt_of_le (Heap.lt_size e) I.ok.above))).trans e1⟩
  ·by_cases hj : j = i
   ·subst hj
    rw [hi] at e1; cases e1
    rw [List.getElem?_set_self hiσ] at e2
    cases e2
    exact ⟨u, r, .inl ⟨hk, by simp⟩⟩
   ·rw [List.getElem?_set_ne (Ne.symm hj)] at e2
    obtain ⟨u', r', q⟩:=hl j y v' e1 e2 e3
    refine ⟨u', r', ?_⟩
    rcases q with ⟨k, e⟩ | ⟨k, c, e, z⟩
    ·refine .inl ⟨k, ?_⟩
     have : y ≠ x:=fun e => hj (nodup_ix hN e1 (e ▸ hi))
     simp [this, e]
    ·exact .inr ⟨k, c, e, z.sameBut hs (cne y c e)⟩
  ·obtain ⟨w', z⟩:=I.cell y c e
   exact ⟨w', z.sameBut hs (cne y c e)⟩
  ·obtain ⟨e, n, ne, nf, d⟩:=I.pin p hp
   exact ⟨(hs.2 p.1 ne).trans e, n, ne, nf, d⟩
 ·have hfn : X.fn x = true:=by
   rcases hf with z | z
   ·exact z
   ·rw [z] at hk; cases hk
  obtain ⟨c, hc⟩:=I.ok.has x (.inl hk)
  obtain ⟨w', z⟩:=I.cell x c hc
  refine wpAny_storeName_cell I.ok.kind hk hc z (fun h' hc' hs => ?_)
  obtain ⟨oc, hoc, hocd⟩:=id z
  refine h { s with heap:=h' } ⟨I.ok, I.os, I.bare, ⟨fun b o e n hb hx => ?_, fun b o e n hb hx => ?_, I.base.free, fun b o e hx => ?_, I.base.tups, I.base.frzs, I.base.tbls⟩, ⟨m, hn.sameBut hs (Ne.symm (cne x c hc)), fun j y v' e1 e2 e3 => ?_⟩, fun y c' e => ?_, I.free, I.freeC, fun p hp => ?_, tracked ⟨oc, hoc, I.freeC x c hc⟩ hs, by simpa using I.len⟩ ⟨c, hs, .inr hc⟩
  ·exact (hs.2 b (Nat.ne_of_lt (Nat.lt_of_lt_of_le (Heap.lt_size e) (I.ok.cab x c hfn hc)))).trans (I.base.keep b o e n hb hx)
  ·obtain ⟨sl, e1⟩:=I.base.slot b o e n hb hx
   exact ⟨sl, (hs.2 b (Nat.ne_of_lt (Nat.lt_of_lt_of_le (Heap.lt_size e) (I.ok.cab x c hfn hc)))).trans e1⟩
  ·obtain ⟨o', e1⟩:=I.base.there b o e hx
   exact ⟨o', (hs.2 b (Nat.ne_of_lt (Nat.lt_of_lt_of_le (Heap.lt_size e) (I.ok.cab x c hfn hc)))).trans e1⟩
  ·by_cases hj : j = i
   ·subst hj
    rw [hi] at e1; cases e1
    rw [List.getElem?_set_self hiσ] at e2
    cases e2
    exact ⟨u, r, .inr ⟨.inl hk, c, hc, hc'⟩⟩
   ·rw [List.getElem?_set_ne (Ne.symm hj)] at e2
    obtain ⟨u', r', q⟩:=hl j y v' e1 e2 e3
    refine ⟨u', r', ?_⟩
    rcases q with q | ⟨k, c', e, z'⟩
    ·exact .inl q
    ·refine .inr ⟨k, c', e, z'.sameBut hs ?_⟩
     rintro rfl
     exact hj (nodup_ix hN e1 (I.ok.inj _ _ _ e hc ▸ hi))
  ·by_cases hcc : c' = c
   ·subst hcc; exact ⟨_, hc'⟩
   ·obtain ⟨w2, z2⟩:=I.cell y c' e
    exact ⟨w2, z2.sameBut hs hcc⟩
  ·obtain ⟨e, n, ne, nf, d⟩:=I.pin p hp
   refine ⟨(hs.2 p.1 ?_).trans e, n, ne, nf, d⟩
   intro q
   rw [q, hoc] at e
   have q' : oc = p.2:=Option.some.inj e
   exact d w' (by rw [← q']; exact hocd)
theorem store_ok {M : Model} {A : Around} {E : Value->Shared->Prop} {i : Nat} {x : Str} {v : V} {u : Value} {Q : Unit->Shared->Prop} (I : Inv X pins σ H s) (hN : X.N.Nodup) (hi : X.N[i]? = some x) (hx : Loc X.env.scope x) (r : RelV v u)
  (h : ∀ s', Inv X pins (σ.set i (some v)) H s'->Q () s') (hf : X.fn x = true\/X.env.scope.names.lookup x = some .local:=by first | exact .inl rfl | exact .inr rfl | assumption) : wpAny M A (storeName X.env x u) Q E s :=
 store_ok2 I hN hi hx r (fun s' I' _ => h s' I') hf
theorem Inv.call' {s' : Shared} {ch : List Addr} (I : Inv X pins σ H s) (ho : s'.os = s.os) (u : Un (frs X.stack) ch H H' s.heap s'.heap) (hok : HOk X.prog X.w H' s'.heap) (hg : AllBare s'.gens)
  (hch : ∀ b ∈ ch, (b ∈ X.ex\/X.s₀.heap.objs.size<=b)/\b ≠ X.env.locals/\(∀ x c, X.env.cells.lookup x = some c->c ≠ b)/\∀ p ∈ X.pn ++ pins, p.1 ≠ b) : Inv X pins σ H' s':=by
 obtain ⟨h', g', d', t', o'⟩:=s'
 have e : o' = s.os:=ho
 subst e
 exact I.call (g':=g') (t':=t') (d':=d') u hok hg hch
end
noncomputable abbrev XK:=Value->Option Addr->Hp->Prop
noncomputable abbrev St:=List (Option V)
noncomputable abbrev VK:=V->Hp->Prop
noncomputable abbrev TE:=St->Hp->VK->Prop
noncomputable abbrev TT:=St->Hp->(Bool->Hp->Prop)->Prop
noncomputable abbrev TA:=St->Hp->(List V->Hp->Prop)->Prop
structure Ends where
 nx : St->Hp->Prop
 rt : VK
 bk : St->Hp->Prop:=fun _ _ => False
 ct : St->Hp->Prop:=fun _ _ => False
noncomputable abbrev TS:=Ends->St->Hp->Prop
def EP (X : Cx) (pins : List (Addr × Obj)) (σ : St) (Q : VK) (u : Value) (s' : Shared) : Prop:=∃ v H', Inv X pins σ H' s'/\RelV v u/\Q v H'
def TP (X : Cx) (pins : List (Addr × Obj)) (σ : St) (Q : Bool->Hp->Prop) (b : Bool) (s' : Shared) : Prop:=∃ H', Inv X pins σ H' s'/\Q b H'
def AP (X : Cx) (pins : List (Addr × Obj)) (σ : St) (Q : List V->Hp->Prop) (us : List Value) (s' : Shared) : Prop:=∃ vs H', Inv X pins σ H' s'/\Vals vs us/\Q vs H'
def SP (X : Cx) (pins : List (Addr × Obj)) (D : Ends) (f : Flow) (s' : Shared) : Prop :=
 match f with
 | .next => ∃ σ' H', Inv X pins σ' H' s'/\D.nx σ' H'
 | .brk => ∃ σ' H', Inv X pins σ' H' s'/\D.bk σ' H'
 | .cont => ∃ σ' H', Inv X pins σ' H' s'/\D.ct σ' H'
 | .ret u => ∃ v σ' H', Inv X pins σ' H' s'/\RelV v u/\D.rt v H'
def PE (X : Cx) (e : Expr) (t : TE) : Prop :=
 ∀ (pins : List (Addr × Obj)) (s : Shared) (σ : St) (H : Hp) (Q : VK), Inv X pins σ H s->t σ H Q->wpAny (model X.prog X.w) X.A (eval e X.env) (EP X pins σ Q) X.xe s
def PT (X : Cx) (e : Expr) (t : TT) : Prop :=
 ∀ (pins : List (Addr × Obj)) (s : Shared) (σ : St) (H : Hp) (Q : Bool->Hp->Prop), Inv X pins σ H s->t σ H Q->wpAny (model X.prog X.w) X.A (isTrue e X.env (eval e X.env)) (TP X pins σ Q) X.xe s
def PW (X : Cx) (e : Expr) (t : TT) : Prop :=
 ∀ (whole : Sem Value) (pins : List (Addr × Obj)) (s : Shared) (σ : St) (H : Hp) (Q : Bool->Hp->Prop), Inv X pins σ H s->t σ H Q->wpAny (model X.prog X.w) X.A (isTrue e X.env whole) (TP X pins σ Q) X.xe s
theorem PW.pt {X : Cx} {e : Expr} {t : TT} (h : PW X e t) : PT X e t:=h _
def PA (X : Cx) (es : List Expr) (t : TA) : Prop :=
 ∀ (pos : Pos) (pins : List (Addr × Obj)) (s : Shared) (σ : St) (H : Hp) (Q : List V->Hp->Prop), Inv X pins σ H s->t σ H Q->wpAny (model X.prog X.w) X.A (spliced (backTo pos (starEach es X.env))) (AP X pins σ Q) X.xe s
def PS (X : Cx) (st : Stmt) (t : TS) : Prop :=
 ∀ (pins : List (Addr × Obj)) (s : Shared) (σ : St) (H : Hp) (D : Ends), Inv X pins σ H s->t D σ H->wpAny (model X.prog X.w) X.A (exec st X.env) (SP X pins D) X.xe s
def PSs (X : Cx) (st : List Stmt) (t : TS) : Prop :=
 ∀ (pins : List (Addr × Obj)) (s : Shared) (σ : St) (H : Hp) (D : Ends), Inv X pins σ H s->t D σ H->wpAny (model X.prog X.w) X.A (execs st X.env) (SP X pins D) X.xe s
theorem thn {α : Type} {t : Sem α} {Q Q' : α->Shared->Prop} {M : Model} {A : Around} {E : Value->Shared->Prop} {s : Shared} (h : wpAny M A t Q E s) (hQ : ∀ a s, Q a s->Q' a s) : wpAny M A t Q' E s:=wpAny_mono h hQ fun _ _ x => x
end L2
namespace L2
open PySem PySem.Spec PyProof.Rows
section
variable {X : Cx}
def tVar (i : Nat) : TE:=fun σ H Q => ∃ v, σ[i]? = some (some v)/\Q v H
def tC (v : V) : TE:=fun _ H Q => Q v H
theorem pe_var {i : Nat} {x : Str} {pos : Pos} (hN : X.N[i]? = some x) (hv : Vis X.env.scope x) (hd : (x == ("__debug__" : Str)) = false:=by decide) (hcd : (x == ("__classdict__" : Str)) = false:=by decide) : PE X (.Name x pos) (tVar i):=by
 intro pins s σ H Q I h
 obtain ⟨v, e, h⟩:=h
 obtain ⟨m, hn, hl⟩:=I.loc
 obtain ⟨u, r, l⟩:=hl i x v hN e hv
 have fin : EP X pins σ Q u s:=⟨v, H, I, r, h⟩
 rcases l with ⟨hk, hm⟩ | ⟨hk, c, hc, hcell⟩
 ·exact wpAny_Name (wpAny_loadName_local I.ok.kind hk hn hm fin) hd
 ·rcases hk with hk | hk
  ·exact wpAny_Name (wpAny_loadName_cell I.ok.kind hk hc hcell fin) hd
  ·exact wpAny_Name (wpAny_loadName_free I.ok.kind hk hc hcell fin hcd) hd
theorem pe_int {i j pos} : PE X (.Constant (.int i) j pos) (tC (.int i)):=fun _ _ _ H _ I h => wpAny_Constant_int ⟨.int i, H, I.tok _, ⟨_, rfl⟩, h⟩
theorem pe_bl {b j pos} : PE X (.Constant (.bool b) j pos) (tC (.bl b)):=fun _ _ _ H _ I h => Constant_bool ⟨.bl b, H, I, rfl, h⟩
theorem pe_non {j pos} : PE X (.Constant .none j pos) (tC .non):=fun _ _ _ H _ I h => Constant_none ⟨.non, H, I, rfl, h⟩
theorem pe_str {x j pos} : PE X (.Constant (.str x) j pos) (tC (.str x)):=fun _ _ _ H _ I h => Calls.Constant_str ⟨.str x, H, I.tok _, ⟨_, rfl⟩, h⟩
def Gl (X : Cx) (x : Str) : Prop:=X.env.kindOf x = some .globalImplicit
theorem ld_glob {E : Value->Shared->Prop} {pins : List (Addr × Obj)} {s : Shared} {σ : St} {H : Hp} {x : Str} {u : Value} {pos : Pos} {Q : Value->Shared->Prop} (I : Inv X pins σ H s) (hg : Gl X x) (hm : X.mg x = some u) (h : Q u s)
  (hd : (x == ("__debug__" : Str)) = false:=by decide) : wpAny (model X.prog X.w) X.A (eval (.Name x pos) X.env) Q E s :=
 Calls.Name_function_global I.ok.kind hg (Calls.loadGlobal_global (by rw [I.ok.glob]; exact I.mod.glob.keeps I.bk) hm h) hd
theorem ld_blt {E : Value->Shared->Prop} {pins : List (Addr × Obj)} {s : Shared} {σ : St} {H : Hp} {x : Str} {u : Value} {pos : Pos} {Q : Value->Shared->Prop} (I : Inv X pins σ H s) (hg : Gl X x) (hm : X.mg x = none) (hv : bootBuiltins x = some u) (h : Q u s)
  (hn : x ≠ "__name__":=by decide) (hd : (x == ("__debug__" : Str)) = false:=by decide) : wpAny (model X.prog X.w) X.A (eval (.Name x pos) X.env) Q E s:=by
 obtain ⟨mb, h1, h2⟩:=I.mod.blt
 exact Calls.Name_function_global I.ok.kind hg (Calls.loadGlobal_builtin (by rw [I.ok.glob]; exact I.mod.glob.keeps I.bk) hm (by rw [I.ok.blt]; exact h1.keeps I.bk) ((h2 x hn).trans hv) h) hd
theorem pe_glob {x : Str} {v : V} {u : Value} {pos : Pos} (hg : Gl X x) (hm : X.mg x = some u) (r : RelV v u) (hd : (x == ("__debug__" : Str)) = false:=by decide) : PE X (.Name x pos) (tC v) :=
 fun _ _ _ H _ I h => ld_glob I hg hm ⟨v, H, I, r, h⟩ hd
theorem pe_bltn {x : Str} {v : V} {u : Value} {pos : Pos} (hg : Gl X x) (hm : X.mg x = none) (hv : bootBuiltins x = some u) (r : RelV v u) (hn : x ≠ "__name__":=by decide) (hd : (x == ("__debug__" : Str)) = false:=by decide) : PE X (.Name x pos) (tC v) :=
 fun _ _ _ H _ I h => ld_blt I hg hm hv ⟨v, H, I, r, h⟩ hn hd
variable {a b : Expr} {ta tb : TE} {pos : Pos}
def tB (t : TE) : TT:=fun σ H Q => t σ H fun x H1 => ∃ c, x = .bl c/\Q c H1
theorem pt_val {e : Expr} {t : TE} (h : PE X e t) (he : ∀ whole, isTrue e X.env whole = (do let v ← whole; standAt e.pos; holding [v] (truthy v)):=by intro _; rfl) : PT X e (tB t):=by
 intro pins s σ H Q I hw
 refine isTrue_plain (thn (h pins s σ H _ I hw) fun v s1 ⟨x, H1, I1, r1, q1⟩ => ?_) (he _)
 obtain ⟨d, rfl, q⟩:=q1
 cases r1
 exact wpAny_truthy_bool ⟨H1, I1, q⟩
variable {tA tB' : TT} {rest : List Expr}
def tAnd (t u : TT) : TT:=fun σ H Q => t σ H fun c H1 => if c = true then u σ H1 Q else Q false H1
def tOr (t u : TT) : TT:=fun σ H Q => t σ H fun c H1 => if c = true then Q true H1 else u σ H1 Q
def tNot (t : TT) : TT:=fun σ H Q => t σ H fun c H1 => Q (!c) H1
theorem pw_and1 (ha : PT X a tA) : PW X (.BoolOp .And [a] pos) tA:=by
 intro wh pins s σ H Q I h
 refine isTrue_and (thn (ha pins s σ H Q I h) fun c s1 e => ?_)
 cases c with
 | true => exact isTrue_and_nil e
 | false => exact e
theorem pw_or1 (ha : PT X a tA) : PW X (.BoolOp .Or [a] pos) tA:=by
 intro wh pins s σ H Q I h
 refine isTrue_or (thn (ha pins s σ H Q I h) fun c s1 e => ?_)
 cases c with
 | false => exact isTrue_or_nil e
 | true => exact e
theorem pw_and (ha : PT X a tA) (hb : PW X (.BoolOp .And (b :: rest) pos) tB') : PW X (.BoolOp .And (a :: b :: rest) pos) (tAnd tA tB'):=by
 intro wh pins s σ H Q I h
 refine isTrue_and (thn (ha pins s σ H _ I h) fun c s1 ⟨H1, I1, q1⟩ => ?_)
 cases c with
 | true => exact hb wh pins s1 σ H1 Q I1 q1
 | false => exact ⟨H1, I1, q1⟩
theorem pw_or (ha : PT X a tA) (hb : PW X (.BoolOp .Or (b :: rest) pos) tB') : PW X (.BoolOp .Or (a :: b :: rest) pos) (tOr tA tB'):=by
 intro wh pins s σ H Q I h
 refine isTrue_or (thn (ha pins s σ H _ I h) fun c s1 ⟨H1, I1, q1⟩ => ?_)
 cases c with
 | true => exact ⟨H1, I1, q1⟩
 | false => exact hb wh pins s1 σ H1 Q I1 q1
theorem pt_not (ha : PT X a tA) : PT X (.UnaryOp .Not a pos) (tNot tA):=by
 intro pins s σ H Q I h
 exact isTrue_not (ha pins s σ H (fun c H1 => Q (!c) H1) I h)
def tAndV (ta tb : TE) : TE:=fun σ H Q => ta σ H fun x H1 => ∃ c, x = .bl c/\if c = true then tb σ H1 Q else Q (.bl false) H1
def tNotV (ta : TE) : TE:=fun σ H Q => ta σ H fun x H1 => ∃ c, x = .bl c/\Q (.bl (!c)) H1
theorem pe_one {op} {t : TE} (h : PE X a t) : PE X (.BoolOp op [a] pos) t:=fun pins s σ H Q I hw => BoolOp_one (h pins s σ H Q I hw)
theorem pe_and (ha : PE X a ta) (hb : PE X (.BoolOp .And (b :: rest) pos) tb) : PE X (.BoolOp .And (a :: b :: rest) pos) (tAndV ta tb):=by
 intro pins s σ H Q I h
 refine BoolOp_and (thn (ha pins s σ H _ I h) fun v s1 ⟨x, H1, I1, r1, q1⟩ => ?_)
 obtain ⟨c, rfl, q1⟩:=q1
 cases r1
 refine wpAny_truthy_bool ?_
 cases c with
 | true => exact hb pins s1 σ H1 Q I1 q1
 | false => exact ⟨.bl false, H1, I1, rfl, q1⟩
theorem pe_not (ha : PE X a ta) : PE X (.UnaryOp .Not a pos) (tNotV ta):=by
 intro pins s σ H Q I h
 refine UnaryOp_ (thn (ha pins s σ H _ I h) fun v s1 ⟨x, H1, I1, r1, q1⟩ => ?_)
 obtain ⟨c, rfl, q1⟩:=q1
 cases r1
 exact not_of (wpAny_truthy_bool ⟨.bl (!c), H1, I1, rfl, q1⟩)
end
end L2
namespace L2
open PySem PySem.Spec PyProof.Rows
def SqL (K : PySem.W.Frag) (H : Hp) (a : Addr) (xs : List V) : Prop :=
 Rd H a (.lst xs) ∨
  ∃ (o : Obj) (its : Array Value) (n : Nat), K.lookup a = some o/\o.cls = .type "list"/\o.dict = none/\o.data = .seq its n/\its.size<=sizeLine/\Vals xs its.toList
def SqT (K : PySem.W.Frag) (H : Hp) (a : Addr) (xs : List V) : Prop :=
 Rd H a (.tup xs) ∨
  ∃ (o : Obj) (its : Array Value) (n : Nat), K.lookup a = some o/\o.cls = .type "tuple"/\o.data = .seq its n/\its.size<=sizeLine/\Vals xs its.toList
noncomputable def absV : Value->Option V
 | .none => some .non
 | .bool b => some (.bl b)
 | .int i _ => some (.int i)
 | .str x _ => some (.str x)
 | .bytes b _ => some (.byt b)
 | .float b _ => some (.flt b)
 | .ref a => some (.ref a)
 | .type n => some (.ty n)
 | _ => none
theorem RelV.abs {x : V} {u : Value} (r : RelV x u) : absV u = some x:=by
 cases x with
 | non => cases r; rfl
 | bl _ => cases r; rfl
 | int _ => obtain ⟨t, rfl⟩:=r; rfl
 | str _ => obtain ⟨t, rfl⟩:=r; rfl
 | byt _ => obtain ⟨t, rfl⟩:=r; rfl
 | flt _ => obtain ⟨t, rfl⟩:=r; rfl
 | ref _ => cases r; rfl
 | ty _ => cases r; rfl
theorem RelV.inj {x y : V} {u : Value} (r : RelV x u) (q : RelV y u) : x = y:=Option.some.inj (r.abs.symm.trans q.abs)
theorem Vals.inj : ∀ {xs ys : List V} {us : List Value}, Vals xs us->Vals ys us->xs = ys
 | _, _, _, .nil, .nil => rfl
 | _, _, _, .cons r t, .cons r' t' => by rw [r.inj r', Vals.inj t t']
section
variable {X : Cx} {pins : List (Addr × Obj)} {σ : St} {H : Hp} {s : Shared} {a : Addr} {xs ys : List V}
theorem SqL.of {K : PySem.W.Frag} (h : H a = some (.lst xs)) : SqL K H a xs:=.inl (.inl h)
theorem SqT.of {K : PySem.W.Frag} (h : H a = some (.tup xs)) : SqT K H a xs:=.inl (.inl h)
theorem Inv.list (I : Inv X pins σ H s) (h : SqL X.K H a xs) : ∃ its : List Value, Vals xs its/\PlainL s.heap a its.toArray/\xs.length<=sizeLine:=by
 rcases h with h | ⟨o, its, n, hk, hc, hd, hs, hz, r⟩
 ·obtain ⟨z, its, n, r, e⟩:=h.ok I.hok
  exact ⟨its, r, ⟨_, n, e, rfl, rfl, rfl⟩, z⟩
 ·refine ⟨its.toList, r, ⟨o, n, I.kIn a o hk, hc, hd, by simpa using hs⟩, ?_⟩
  have e:=r.length
  simp only [Array.length_toList] at e
  row_cond lo
theorem Inv.tuple (I : Inv X pins σ H s) (h : SqT X.K H a xs) : ∃ its : List Value, Vals xs its/\IsTup s.heap a its.toArray/\xs.length<=sizeLine:=by
 rcases h with h | ⟨o, its, n, hk, hc, hs, hz, r⟩
 ·obtain ⟨z, its, r, p⟩:=h.ok I.hok
  exact ⟨its, r, p, z⟩
 ·refine ⟨its.toList, r, ⟨o, I.kIn a o hk, hc, n, by simpa using hs⟩, ?_⟩
  have e:=r.length
  simp only [Array.length_toList] at e
  row_cond lo
theorem Inv.list_inj (I : Inv X pins σ H s) (h : SqL X.K H a xs) (h' : SqL X.K H a ys) : xs = ys:=by
 obtain ⟨its, r, ⟨o, n, e, _, _, d⟩, _⟩:=I.list h
 obtain ⟨its', r', ⟨o', n', e', _, _, d'⟩, _⟩:=I.list h'
 rw [e] at e'; cases e'
 rw [d] at d'
 injection d' with d1 _
 have : its = its':=by simpa using congrArg Array.toList d1
 subst this
 exact r.inj r'
end
noncomputable abbrev Cx.wish (X : Cx) (E : Value->Shared->Prop) : Cx:={ X with xe:=E }
noncomputable abbrev Cx.nox (X : Cx) : Cx:=X.wish fun _ _ => False
theorem Cx.Ok.wish {X : Cx} (ok : X.Ok) (E : Value->Shared->Prop) : (X.wish E).Ok :=
 ⟨ok.mod, ok.kind, ok.glob, ok.blt, ok.above, ok.inj, ok.has, ok.cab, ok.hd, ok.frames, ok.stk, ok.exf, ok.bs, ok.bsz, ok.noex, ok.exfs, ok.funs, ok.frf⟩
theorem Cx.Ok.unwish {X : Cx} {E : Value->Shared->Prop} (ok : (X.wish E).Ok) : X.Ok :=
 ⟨ok.mod, ok.kind, ok.glob, ok.blt, ok.above, ok.inj, ok.has, ok.cab, ok.hd, ok.frames, ok.stk, ok.exf, ok.bs, ok.bsz, ok.noex, ok.exfs, ok.funs, ok.frf⟩
section
variable {X : Cx} {pins : List (Addr × Obj)} {σ : St} {H : Hp} {s : Shared} {E : Value->Shared->Prop}
theorem Inv.wish (I : Inv X pins σ H s) (E : Value->Shared->Prop) : Inv (X.wish E) pins σ H s:=⟨I.ok.wish E, I.os, I.bare, I.base, I.loc, I.cell, I.free, I.freeC, I.pin, I.hok, I.len⟩
theorem Inv.unwish (I : Inv (X.wish E) pins σ H s) : Inv X pins σ H s:=⟨I.ok.unwish, I.os, I.bare, I.base, I.loc, I.cell, I.free, I.freeC, I.pin, I.hok, I.len⟩
theorem SP.unwish {D : Ends} {f : Flow} {s' : Shared} (h : SP (X.wish E) pins D f s') : SP X pins D f s':=by
 cases f with
 | next => obtain ⟨σ', H', I, q⟩:=h; exact ⟨σ', H', I.unwish, q⟩
 | brk => obtain ⟨σ', H', I, q⟩:=h; exact ⟨σ', H', I.unwish, q⟩
 | cont => obtain ⟨σ', H', I, q⟩:=h; exact ⟨σ', H', I.unwish, q⟩
 | ret u => obtain ⟨v, σ', H', I, r, q⟩:=h; exact ⟨v, σ', H', I.unwish, r, q⟩
theorem PE.nox {e : Expr} {t : TE} (h : PE X.nox e t) : PE X e t:=fun pins s σ H Q I hw =>
 wpAny_mono (h pins s σ H Q (I.wish _) hw) (fun _ _ ⟨v, H', I', r, q⟩ => ⟨v, H', I'.unwish, r, q⟩) fun _ _ z => False.elim z
theorem PT.nox {e : Expr} {t : TT} (h : PT X.nox e t) : PT X e t:=fun pins s σ H Q I hw =>
 wpAny_mono (h pins s σ H Q (I.wish _) hw) (fun _ _ ⟨H', I', q⟩ => ⟨H', I'.unwish, q⟩) fun _ _ z => False.elim z
theorem PSs.nox {st : List Stmt} {t : TS} (h : PSs X.nox st t) : PSs X st t:=fun pins s σ H D I hw =>
 wpAny_mono (h pins s σ H D (I.wish _) hw) (fun _ _ q => q.unwish) fun _ _ z => False.elim z
end
section
variable {X : Cx} {st : Stmt} {rest : List Stmt} {t u : TS} {e : Expr} {te : TE} {pos : Pos}
def tNext : TS:=fun D σ H => D.nx σ H
def tSeq (t u : TS) : TS:=fun D σ H => t { D with nx:=u D } σ H
theorem pss_nil : PSs X [] tNext:=fun _ _ σ H _ I h => wpAny_execs_nil ⟨σ, H, I, h⟩
theorem pss_cons (h1 : PS X st t) (h2 : PSs X rest u) : PSs X (st :: rest) (tSeq t u):=by
 intro pins s σ H D I h
 refine wpAny_execs_cons (thn (h1 pins s σ H { D with nx:=u D } I h) fun f s1 q => ?_)
 cases f with
 | next =>
  obtain ⟨σ', H', I', q⟩:=q
  exact h2 pins s1 σ' H' D I' q
 | ret v => exact q
 | brk => exact q
 | cont => exact q
theorem pss_one (h1 : PS X st t) : PSs X [st] t:=by
 intro pins s σ H D I h
 refine wpAny_execs_cons (thn (h1 pins s σ H D I h) fun f s1 q => ?_)
 cases f with
 | next => exact wpAny_execs_nil q
 | ret v => exact q
 | brk => exact q
 | cont => exact q
theorem Inv.quiet {pins : List (Addr × Obj)} {σ : St} {H : Hp} {s : Shared} (I : Inv X pins σ H s) : interactive X.env = false:=by simp [interactive, I.ok.kind]
def tDrop (te : TE) : TS:=fun D σ H => te σ H fun _ H1 => D.nx σ H1
theorem ps_expr (he : PE X e te) (hs : swapsWith e none pos.line X.env = pure false:=by rfl) : PS X (.Expr e pos) (tDrop te):=by
 intro pins s σ H D I h
 exact wpAny_Expr_any (thn (he pins s σ H _ I h) fun v s1 ⟨x, H1, I1, r1, q1⟩ => ⟨σ, H1, I1, q1⟩) I.quiet hs
def tRet (te : TE) : TS:=fun D σ H => te σ H D.rt
theorem ps_ret (he : PE X e te) : PS X (.Return (some e) pos) (tRet te):=by
 intro pins s σ H D I h
 exact wpAny_Return_some (thn (he pins s σ H _ I h) fun v s1 ⟨x, H1, I1, r1, q1⟩ => ⟨x, σ, H1, I1, r1, q1⟩)
def tIfS (c : TT) (t u : TS) : TS:=fun D σ H => c σ H fun b H1 => if b = true then t D σ H1 else u D σ H1
theorem ps_if {c : Expr} {a b : List Stmt} {tc : TT} (hc : PT X c tc) (ha : PSs X a t) (hb : PSs X b u) : PS X (.If c a b pos) (tIfS tc t u):=by
 intro pins s σ H D I h
 refine wpAny_If (thn (hc pins s σ H _ I h) fun d s1 ⟨H1, I1, q1⟩ => ?_)
 cases d with
 | true => exact ha pins s1 σ H1 D I1 q1
 | false => exact hb pins s1 σ H1 D I1 q1
end
noncomputable abbrev TG:=V->St->Hp->(St->Hp->Prop)->Prop
noncomputable abbrev TGs:=List V->St->Hp->(St->Hp->Prop)->Prop
def PG (X : Cx) (target : Expr) (t : TG) : Prop :=
 ∀ (pins : List (Addr × Obj)) (s : Shared) (σ : St) (H : Hp) (v : V) (u : Value) (Q : St->Hp->Prop), Inv X pins σ H s->RelV v u->t v σ H Q ->
  wpAny (model X.prog X.w) X.A (assign target X.env u) (fun _ s' => ∃ σ' H', Inv X pins σ' H' s'/\Q σ' H') X.xe s
def PGs (X : Cx) (ts : List Expr) (t : TGs) : Prop :=
 ∀ (pins : List (Addr × Obj)) (s : Shared) (σ : St) (H : Hp) (vs : List V) (us : List Value) (Q : St->Hp->Prop), Inv X pins σ H s->Vals vs us->t vs σ H Q ->
  wpAny (model X.prog X.w) X.A (assignInOrder ((assignEach ts X.env).map (·.2)) us) (fun _ s' => ∃ σ' H', Inv X pins σ' H' s'/\Q σ' H') X.xe s
noncomputable abbrev TSet:=V->V->V->Hp->(Hp->Prop)->Prop
def PSet (X : Cx) (t : TSet) : Prop :=
 ∀ (pins : List (Addr × Obj)) (s : Shared) (σ : St) (H : Hp) (o i v : V) (ov iv u : Value) (Q : Hp->Prop), Inv X pins σ H s->RelV o ov->RelV i iv->RelV v u->t o i v H Q ->
  wpAny (model X.prog X.w) X.A (setItem ov iv u) (fun _ s' => ∃ H', Inv X pins σ H' s'/\Q H') X.xe s
section
variable {X : Cx} {pos : Pos}
def gName (i : Nat) : TG:=fun v σ H Q => Q (σ.set i (some v)) H
theorem pg_name {i : Nat} {x : Str} (hN : X.N.Nodup) (hi : X.N[i]? = some x) (hx : Loc X.env.scope x) (hf : X.fn x = true\/X.env.scope.names.lookup x = some .local:=by first | exact .inl rfl | exact .inr rfl | assumption) : PG X (.Name x pos) (gName i):=by
 intro pins s σ H v u Q I r h
 exact wpAny_assign_Name (store_ok I hN hi hx r (fun s' I' => ⟨_, H, I', h⟩) hf)
def gNil : TGs:=fun vs σ H Q => vs = []/\Q σ H
def gCons (t : TG) (u : TGs) : TGs:=fun vs σ H Q => ∃ v r, vs = v :: r/\t v σ H fun σ' H' => u r σ' H' Q
theorem pgs_nil : PGs X [] gNil:=by
 intro pins s σ H vs us Q I r h
 obtain ⟨e, h⟩:=h
 subst e
 cases r
 exact assignInOrder_nil ⟨σ, H, I, h⟩
theorem pgs_cons {e : Expr} {es : List Expr} {t : TG} {u : TGs} (h1 : PG X e t) (h2 : PGs X es u)
  (hs : (assignEach (e :: es) X.env).map (·.2) = assign e X.env :: (assignEach es X.env).map (·.2):=by rfl) : PGs X (e :: es) (gCons t u):=by
 intro pins s σ H vs us Q I r h
 obtain ⟨v, vr, e1, h⟩:=h
 subst e1
 cases r with
 | cons r rr =>
  rw [hs]
  refine assignInOrder_cons (thn (h1 pins s σ H _ _ _ I r h) fun _ s1 ⟨σ1, H1, I1, q1⟩ => ?_)
  exact h2 pins s1 σ1 H1 _ _ Q I1 rr q1
def gTup (K : PySem.W.Frag) (n : Nat) (t : TGs) : TG:=fun v σ H Q => ∃ a xs, v = .ref a/\SqT K H a xs/\xs.length = n/\t xs σ H Q
theorem pg_tup {es : List Expr} {k : Nat} {t : TGs} {n : Nat} (hc : X.calm = true) (h : PGs X es t)
  (hn : (assignEach es X.env).length = n:=by rfl) (hst : (assignEach es X.env).findIdx? (·.1) = none:=by rfl) : PG X (.Tuple es k pos) (gTup X.K n t):=by
 intro pins s σ H v u Q I r hw
 obtain ⟨a, xs, e1, hq, hl, hw⟩:=hw
 subst e1
 cases r
 obtain ⟨its, rv, ht, hz⟩:=I.tuple hq
 refine assign_Tuple_tuple (I.ok.hd hc) ht (by simp [hn, ← hl, rv.length]) hst fun h' hx => ?_
 have I1 : Inv X pins σ H { s with heap:=h' }:=I.kept (t':=s.toks) fun b o e => hx b o (Nat.ne_of_lt (Heap.lt_size e)) e
 exact h pins _ σ H xs _ Q I1 (by simpa using rv) hw
def gSub (to ti : TE) (t : TSet) : TG:=fun v σ H Q => to σ H fun o H1 => ti σ H1 fun i H2 => t o i v H2 fun H3 => Q σ H3
theorem pg_sub {o i : Expr} {to ti : TE} {t : TSet} (ho : PE X o to) (hi : PE X i ti) (hs : PSet X t)
  (ha : ∀ v, assign (.Subscript o i pos) X.env v = (do
   let ov ← holding [v] (eval o X.env)
   let iv ← holding [v, ov] (eval i X.env)
   standAt pos
   holding [v, ov, iv] (setItem ov iv v)
   release [v, ov, iv] []):=by intro _; rfl) : PG X (.Subscript o i pos) (gSub to ti t):=by
 intro pins s σ H v u Q I r h
 rw [ha]
 refine wpAny_bind (wpAny_holding (thn (ho pins s σ H _ I h) fun ov s1 ⟨x, H1, I1, r1, q1⟩ => ?_))
 refine wpAny_bind (wpAny_holding (thn (hi pins s1 σ H1 _ I1 q1) fun iv s2 ⟨y, H2, I2, r2, q2⟩ => ?_))
 refine wpAny_bind (wpAny_standAt (wpAny_bind (wpAny_holding (thn (hs pins s2 σ H2 x y v ov iv u _ I2 r1 r2 r q2) fun _ s3 ⟨H3, I3, q3⟩ => ?_))))
 exact wpAny_release ⟨σ, H3, I3, q3⟩
def tAsg (te : TE) (g : TG) : TS:=fun D σ H => te σ H fun x H1 => g x σ H1 D.nx
theorem ps_asg {tg e : Expr} {te : TE} {g : TG} (he : PE X e te) (hg : PG X tg g) (hs : swapsWithSole [tg] e pos.line X.env = pure false:=by rfl) (hw : swappedStores [tg] e X.env = pure none:=by rfl)
  (h1 : (assignEach [tg] X.env).map (·.2) = [assign tg X.env]:=by rfl) : PS X (.Assign [tg] e pos) (tAsg te g):=by
 intro pins s σ H D I h
 refine wpAny_Assign_stores (thn (he pins s σ H _ I h) fun v s1 ⟨x, H1, I1, r1, q1⟩ => ?_) hs hw
 rw [h1]
 exact thn (hg pins s1 σ H1 x v _ I1 r1 q1) fun _ s2 q => q
theorem ps_set {i : Nat} {x : Str} {e : Expr} {te : TE} {pos' : Pos} (hN : X.N.Nodup) (hi : X.N[i]? = some x) (hx : Loc X.env.scope x) (he : PE X e te) (hs : swapsWith e (some (.Name x pos')) pos.line X.env = pure false:=by rfl) (hf : X.fn x = true\/X.env.scope.names.lookup x = some .local:=by first | exact .inl rfl | exact .inr rfl | assumption) :
  PS X (.Assign [.Name x pos'] e pos) (tAsg te (gName i)):=by
 intro pins s σ H D I h
 refine wpAny_Assign_Name (thn (he pins s σ H _ I h) fun v s1 ⟨y, H1, I1, r1, q1⟩ => ?_) hs
 exact store_ok I1 hN hi hx r1 (fun s2 I2 => ⟨_, H1, I2, q1⟩) hf
end
section
variable {X : Cx} {pos : Pos}
end
structure It where
 go : Nat->Hp->Prop
 yld : Nat->Hp->V->Hp->Prop
 stop : Nat->Hp->Prop
def FpOk (X : Cx) (pins : List (Addr × Obj)) (H : Hp) (b : Addr) : Prop :=
 H b = none/\b ≠ X.env.locals/\b ∉ X.fs/\(b ∈ X.ex\/X.s₀.heap.objs.size<=b)/\(∀ x c, X.env.cells.lookup x = some c->c ≠ b)/\∀ p ∈ X.pn ++ pins, p.1 ≠ b
theorem Inv.fpOk {X : Cx} {pins : List (Addr × Obj)} {σ : St} {H H' : Hp} {s : Shared} {b : Addr} (I : Inv X pins σ H s) (hb : s.heap.objs.size<=b) (hn : H' b = none) : FpOk X pins H' b:=by
 refine ⟨hn, Nat.ne_of_gt (Nat.lt_of_lt_of_le I.lt hb), I.nofs hb, .inr (Nat.le_trans I.sz hb), fun x c e z => ?_, fun p hp z => ?_⟩
 ·obtain ⟨v, q⟩:=I.cell x c e
  exact absurd (Nat.lt_of_lt_of_le q.lt (by rw [z]; exact hb)) (Nat.lt_irrefl _)
 ·exact absurd (Nat.lt_of_lt_of_le (Heap.lt_size (I.pin p hp).1) (by rw [z]; exact hb)) (Nat.lt_irrefl _)
structure Turn (P : Program) (w : World) (K : PySem.W.Frag) (tg : Expr) (J : It) (fp : List Addr) (it : Addr) (tn : Nat->Heap->Prop) : Prop where
 mem : it ∈ fp
 obj : ∀ i h, tn i h->∀ b ∈ fp, ∃ o, h.get? b = some o/\∀ v, o.data ≠ .cell v
 keep : ∀ i h h', tn i h->(∀ b ∈ fp, ∀ o, h.get? b = some o->h'.get? b = some o)->tn i h'
 item : ∀ (X : Cx), X.prog = P->X.w = w->X.K = K->X.calm = true->∀ (i : Nat) (pins : List (Addr × Obj)) (s : Shared) (σ : St) (H : Hp) (E : Value->Shared->Prop), Inv X pins σ H s->(∀ b ∈ fp, FpOk X pins H b)->tn i s.heap->J.go i H ->
  wpAny (model P w) X.A (pyNext (.ref it)) (fun r s1 => ∃ u, r = some u /\
   wpAny (model P w) X.A (letOwnedTupleGo tg (.ref it) u) (fun _ s2 => ∃ x H', Inv X pins σ H' s2/\RelV x u/\J.yld i H x H'/\tn (i + 1) s2.heap/\∀ b ∈ fp, H' b = none) E s1) E s
 done : ∀ (X : Cx), X.prog = P->X.w = w->X.K = K->X.calm = true->∀ (i : Nat) (pins : List (Addr × Obj)) (s : Shared) (σ : St) (H : Hp) (E : Value->Shared->Prop), Inv X pins σ H s->(∀ b ∈ fp, FpOk X pins H b)->tn i s.heap->J.stop i H ->
  wpAny (model P w) X.A (pyNext (.ref it)) (fun r s1 => r = none/\Inv X pins σ H s1) E s
 self : ∀ (A : Around) (i : Nat) (s : Shared) (Q : Value->Shared->Prop) (E : Value->Shared->Prop), tn i s.heap->Q (.ref it) s->wpAny (model P w) A (pyIter (.ref it)) Q E s
noncomputable abbrev TI:=St->Hp->(It->Hp->Prop)->Prop
def PIE (X : Cx) (pins : List (Addr × Obj)) (σ : St) (tg : Expr) (R : It->Hp->Prop) (itv : Value) (s2 : Shared) : Prop :=
 ∃ (it : Addr) (fp : List Addr) (tn : Nat->Heap->Prop) (J : It) (H' : Hp), itv = .ref it/\Inv X pins σ H' s2/\Turn X.prog X.w X.K tg J fp it tn/\tn 0 s2.heap/\(∀ b ∈ fp, FpOk X pins H' b)/\R J H'
def PI (X : Cx) (tg iter : Expr) (wi : TI) : Prop :=
 ∀ (pins : List (Addr × Obj)) (s : Shared) (σ : St) (H : Hp) (R : It->Hp->Prop), Inv X pins σ H s->wi σ H R ->
  wpAny (model X.prog X.w) X.A (eval iter X.env) (fun v s1 => wpAny (model X.prog X.w) X.A (pyIter v) (PIE X pins σ tg R) X.xe s1) X.xe s
theorem go_of {M : Model} {A : Around} {E : Value->Shared->Prop} {s : Shared} {tg : Expr} {it : Addr} {u : Value} {o : Obj} {n : String} {vs : Array Value} {Q : Unit->Shared->Prop} (ho : s.heap.get? it = some o) (hc : o.cls = .type n) (hd : o.data = .fields vs)
  (hn : ["enumerate", "zip", "dict_itemiterator", "dict_reverseitemiterator", "odict_iterator", "itertools.zip_longest", "itertools.pairwise"].contains n = false) (hQ : Q () s) : wpAny M A (letOwnedTupleGo tg (.ref it) u) Q E s:=by
 unfold letOwnedTupleGo
 cases tg <;> first
  | exact wpAny_pure hQ
  | (cases u <;> first
    | exact wpAny_pure hQ
    | (refine wpAny_bind (wpAny_load ho ?_)
       rw [hc, hd]
       show wpAny M A (if (["enumerate", "zip", "dict_itemiterator", "dict_reverseitemiterator", "odict_iterator", "itertools.zip_longest", "itertools.pairwise"].contains n && vs[0]? == some (rawInt _)) = true then _ else _) Q E s
       rw [if_neg (by intro h; rw [hn, Bool.false_and] at h; cases h)]
       exact wpAny_pure hQ))
noncomputable def Itl (K : PySem.W.Frag) (a : Addr) : It :=
 ⟨fun i H => ∃ xs x, SqL K H a xs/\xs[i]? = some x, fun i H x H' => H' = H/\∀ xs, SqL K H a xs->xs[i]? = some x, fun i H => ∃ xs, SqL K H a xs/\xs.length<=i⟩
noncomputable def Itr (lo : Int) (n : Nat) : It:=⟨fun i _ => i < n, fun i H x H' => H' = H/\x = .int (lo + i), fun i _ => n<=i⟩
theorem turn_list {P : Program} {w : World} {K : PySem.W.Frag} {tg : Expr} (a it : Addr) : Turn P w K tg (Itl K a) [it] it (fun i h => h.IsListIter it a i) where
 mem:=by simp
 obj:=fun i h st b hb => by
  have e : b = it:=by simpa using hb
  subst e
  obtain ⟨o, e, c, d⟩:=st
  exact ⟨o, e, fun v z => by rw [d] at z; cases z⟩
 keep:=fun i h h' st k => st.at fun o e => k it (by simp) o e
 item:=by
  intro X hP hw hK hc i pins s σ H E I hf st hg
  subst hP hw hK
  obtain ⟨xs, x, hq, hx⟩:=hg
  obtain ⟨its, rv, p, hz⟩:=I.list hq
  obtain ⟨u, hu, ru⟩:=rv.get hx
  obtain ⟨f0, f1, f2, f3, f4, f5⟩:=hf it (by simp)
  refine wpAny_pyNext_list_item st p.isList (x:=u) (by simpa using hu) fun h' st' sb => ?_
  have I1 : Inv X pins σ H { s with heap:=h' }:=I.turned (t':=s.toks) (fun b o hb e => (sb.2 b hb).trans e) f0 f1 f3 f4 f5
  obtain ⟨o, e, c, d⟩:=id st'
  exact ⟨u, rfl, go_of (s:={ s with heap:=h' }) e c d (by decide) ⟨x, H, I1, ru, ⟨rfl, fun ys hy => by rw [I.list_inj hy hq]; exact hx⟩, st', fun b hb => (hf b hb).1⟩⟩
 done:=by
  intro X hP hw hK hc i pins s σ H E I hf st hg
  subst hP hw hK
  obtain ⟨xs, hq, hx⟩:=hg
  obtain ⟨its, rv, p, hz⟩:=I.list hq
  obtain ⟨f0, f1, f2, f3, f4, f5⟩:=hf it (by simp)
  have hl:=rv.length
  exact wpAny_pyNext_list_end (I.ok.hd hc) st p.isList (by simp; row_cond lo) fun h' eb => ⟨rfl, I.turned (t':=s.toks) (fun b o hb e => eb b o hb e) f0 f1 f3 f4 f5⟩
 self:=fun _ _ _ _ _ st h => wpAny_pyIter_listiter st h
theorem turn_range {P : Program} {w : World} {K : PySem.W.Frag} {tg : Expr} (it : Addr) (lo : Int) (n : Nat) : Turn P w K tg (Itr lo n) [it] it (fun i h => IsRangeIter h it (lo + (i : Nat) * 1) ((n : Int) - (i : Nat)) 1) where
 mem:=by simp
 obj:=fun i h st b hb => by
  have e : b = it:=by simpa using hb
  subst e
  exact ⟨_, st, fun v z => by
   have z' : Data.fields _ = Data.cell v:=z
   cases z'⟩
 keep:=fun i h h' st k => k it (by simp) _ st
 item:=by
  intro X hP hw hK hc i pins s σ H E I hf st hg
  subst hP hw hK
  obtain ⟨f0, f1, f2, f3, f4, f5⟩:=hf it (by simp)
  have W:=Walks.range (prog:=X.prog) (w:=X.w) (I.ok.hd hc) it lo 1 n
  refine W.item i s _ _ hg st fun v h' tk hv st' kk => ?_
  obtain ⟨t, rfl⟩:=hv
  have I1 : Inv X pins σ H { s with heap:=h', toks:=tk }:=I.turned (fun b o hb e => kk b o (by simpa using hb) e) f0 f1 f3 f4 f5
  refine ⟨_, rfl, go_of (s:={ s with heap:=h', toks:=tk }) (n:="range_iterator") st' rfl rfl (by decide) ⟨.int (lo + i), H, I1, ⟨t, ?_⟩, ⟨rfl, rfl⟩, st', fun b hb => (hf b hb).1⟩⟩
  rw [Int.mul_one]
 done:=by
  intro X hP hw hK hc i pins s σ H E I hf st hg
  subst hP hw hK
  obtain ⟨f0, f1, f2, f3, f4, f5⟩:=hf it (by simp)
  exact wpAny_pyNext_range_end (I.ok.hd hc) st (by have : n<=i:=hg; row_cond lo) fun h' eb => ⟨rfl, I.turned (t':=s.toks) (fun b o hb e => eb b o hb e) f0 f1 f3 f4 f5⟩
 self:=fun _ _ _ _ _ st h => wpAny_pyIter_rangeiter st h
end L2
namespace L2
open PySem PySem.Spec PyProof.Rows
section
variable {X : Cx} {tg : Expr}
def iList (K : PySem.W.Frag) (tl : TE) : TI:=fun σ H R => tl σ H fun x H1 => ∃ a, x = .ref a/\(∃ xs, SqL K H1 a xs)/\R (Itl K a) H1
theorem pi_list {l : Expr} {tl : TE} (hl : PE X l tl) : PI X tg l (iList X.K tl):=by
 intro pins s σ H R I h
 refine thn (hl pins s σ H _ I h) fun v s1 ⟨x, H1, I1, r1, q1⟩ => ?_
 obtain ⟨a, e, ⟨xs, hq⟩, q⟩:=q1
 subst e
 cases r1
 obtain ⟨its, rv, p, hz⟩:=I1.list hq
 refine wpAny_pyIter_list p.isList ?_
 refine ⟨s1.heap.objs.size, [s1.heap.objs.size], _, _, H1, rfl, I1.kept (t':=s1.toks) fun b o e => Heap.get?_push_of_some _ e, turn_list a _, ⟨_, Heap.get?_push_size _ rfl, rfl, rfl⟩, fun b hb => ?_, q⟩
 have e : b = s1.heap.objs.size:=by simpa using hb
 subst e
 exact I1.fpOk (Nat.le_refl _) (I1.hok.fresh (Nat.le_refl _))
theorem range_it {pins : List (Addr × Obj)} {σ : St} {H : Hp} {s : Shared} {R : It->Hp->Prop} {E : Value->Shared->Prop} {lo hi : Int} {t u v : Tok} {tk : Nat} (I : Inv X pins σ H s) (h1 : -(2 ^ 62)<=lo) (h2 : lo < 2 ^ 62) (h3 : -(2 ^ 62)<=hi) (h4 : hi < 2 ^ 62)
  (q : R (Itr lo (hi - lo).toNat) H) : wpAny (model X.prog X.w) X.A (pyIter (.ref s.heap.objs.size)) (PIE X pins σ tg R) E { s with heap:=s.heap.push { cls:=.type "range", data:=.fields #[.int lo t, .int hi u, .int 1 v] }, toks:=tk }:=by
 refine wpAny_pyIter_range (IsRange.new ..) (small_one h1 h2 h3 h4) ?_
 have I1 : Inv X pins σ H { s with heap:=s.heap.push { cls:=.type "range", data:=.fields #[.int lo t, .int hi u, .int 1 v] }, toks:=tk }:=I.kept fun b o e => Heap.get?_push_of_some _ e
 refine ⟨(s.heap.push { cls:=.type "range", data:=.fields #[.int lo t, .int hi u, .int 1 v] }).objs.size, [(s.heap.push { cls:=.type "range", data:=.fields #[.int lo t, .int hi u, .int 1 v] }).objs.size], _, _, H, rfl,
  I1.kept (t':=tk) fun b o e => Heap.get?_push_of_some _ e, turn_range _ lo (hi - lo).toNat, ?_, fun b hb => ?_, q⟩
 ·have e1 : lo + ((0 : Nat) : Int) * 1 = lo:=by simp
  have e2 : (((hi - lo).toNat : Nat) : Int) - ((0 : Nat) : Int) = Builtin.Range.rangeSize lo hi 1:=by rw [rangeSize_one]; split <;> row_cond lo
  show IsRangeIter _ _ (lo + ((0 : Nat) : Int) * 1) ((((hi - lo).toNat : Nat) : Int) - ((0 : Nat) : Int)) 1
  rw [e1, e2]
  exact Heap.get?_push_size _ rfl
 ·have e : b = (s.heap.push { cls:=.type "range", data:=.fields #[.int lo t, .int hi u, .int 1 v] }).objs.size:=by simpa using hb
  subst e
  exact I1.fpOk (Nat.le_refl _) (I1.hok.fresh (Nat.le_refl _))
def iRng1 (ta : TA) : TI:=fun σ H R => ta σ H fun vs H1 => ∃ j : Int, vs = [.int j]/\-(2 ^ 62)<=j/\j < 2 ^ 62/\R (Itr 0 j.toNat) H1
theorem pi_range1 {a : Expr} {ta : TA} {p pos : Pos} (hg : Gl X "range") (hm : X.mg "range" = none) (ha : PA X [a] ta) (hs : starEach [a] X.env = [(false, eval a X.env)]:=by rfl) : PI X tg (.Call (.Name "range" p) [a] [] pos) (iRng1 ta):=by
 intro pins s σ H R I h
 refine Call_ (ld_blt I hg hm boot_range (PyProof.Rows.callWith_type1 (thn (ha pos pins s σ H _ I h) fun us s1 ⟨vs, H1, I1, r1, q1⟩ => ?_) hs rfl))
 obtain ⟨j, e, q1, q2, q⟩:=q1
 subst e
 cases r1 with
 | cons r rr =>
  cases rr
  obtain ⟨t, rfl⟩:=r
  exact call_range_1 (range_it I1 (by row_cond lo) (by row_cond lo) q1 q2 (by simpa using q))
def tFor (wi : TI) (g : TG) (tb : TS) : TS:=fun D σ H => wi σ H fun J H1 => ∃ W : Nat->Nat->St->Hp->Prop, (∃ m, W 0 m σ H1)/\∀ i m σ H, W i m σ H ->
 (J.stop i H/\D.nx σ H)\/(J.go i H/\∃ N : St->Hp->Prop, (∀ σ' H', N σ' H'->∃ m', m' < m/\W (i + 1) m' σ' H')/\∀ x H', J.yld i H x H'->g x σ H' fun σ2 H2 => tb { D with nx:=N, ct:=N, bk:=D.nx } σ2 H2)
noncomputable def pinsAt (fp : List Addr) (h : Heap) : List (Addr × Obj):=fp.filterMap fun b => (h.get? b).map fun o => (b, o)
theorem mem_pinsAt {fp : List Addr} {h : Heap} {b : Addr} {o : Obj} (hb : b ∈ fp) (e : h.get? b = some o) : (b, o) ∈ pinsAt fp h:=List.mem_filterMap.mpr ⟨b, hb, by rw [e]; rfl⟩
theorem of_pinsAt {fp : List Addr} {h : Heap} {p : Addr × Obj} (hp : p ∈ pinsAt fp h) : p.1 ∈ fp/\h.get? p.1 = some p.2:=by
 obtain ⟨b, hb, e⟩:=List.mem_filterMap.mp hp
 cases q : h.get? b with
 | none => rw [q] at e; cases e
 | some o =>
  rw [q] at e
  have e' : (b, o) = p:=Option.some.inj e
  subst e'
  exact ⟨hb, q⟩
theorem Inv.pinned {pins : List (Addr × Obj)} {σ : St} {H : Hp} {s : Shared} {fp : List Addr} (I : Inv X pins σ H s) (hf : ∀ b ∈ fp, FpOk X pins H b) (ho : ∀ b ∈ fp, ∃ o, s.heap.get? b = some o/\∀ v, o.data ≠ .cell v) : Inv X (pins ++ pinsAt fp s.heap) σ H s :=
 I.pins_of fun p hp => (List.mem_append.mp hp).elim (fun z => I.pin p (List.mem_append_right _ z)) fun z => by
  obtain ⟨hb, e⟩:=of_pinsAt z
  obtain ⟨f0, f1, f2, _⟩:=hf p.1 hb
  obtain ⟨o, e', d⟩:=ho p.1 hb
  rw [e] at e'; cases e'
  exact ⟨e, f0, f1, f2, d⟩
theorem Inv.unpinned {pins pl : List (Addr × Obj)} {σ : St} {H : Hp} {s : Shared} (I : Inv X (pins ++ pl) σ H s) : Inv X pins σ H s:=I.pins_of fun p hp => I.pin p (List.mem_append_right _ (List.mem_append_left _ hp))
theorem ps_for {iter : Expr} {body : List Stmt} {wi : TI} {g : TG} {tb : TS} {pos : Pos} (hp : PassesOwn (model X.prog X.w) X.A X.env X.xe) (hc : X.calm = true) (hi : PI X tg iter wi) (hg : PG X tg g) (hb : PSs X body tb)
  (hs : ∀ x, foldedSetIterable iter X.env x = pure x:=by intro _; rfl) : PS X (.For tg iter body [] pos) (tFor wi g tb):=by
 intro pins s σ H D I h
 refine wpAny_For (thn (hi pins s σ H _ I h) fun v s1 h1 => thn h1 fun itv s2 h2 => ?_) hs
 obtain ⟨it, fp, tn, J, H2, e, I2, T, st2, f2, W, ⟨m0, w0⟩, turn⟩:=h2
 subst e
 -- what stays true of the iterator's objects through the loop
 have stat : ∀ {H' : Hp}, (∀ b ∈ fp, H' b = none)->∀ b ∈ fp, FpOk X pins H' b:=fun hn b hb => ⟨hn b hb, (f2 b hb).2⟩
 refine codeAny_forLoop_any (fun n s' => ∃ i σ' H', Inv X pins σ' H' s'/\tn i s'.heap/\(∀ b ∈ fp, H' b = none)/\W i n σ' H') ?_ m0 ⟨0, σ, H2, I2, st2, fun b hb => (f2 b hb).1, w0⟩
 rintro n s3 ⟨i, σ3, H3, I3, st3, fr3, w3⟩
 rcases turn i n σ3 H3 w3 with ⟨stop, qn⟩ | ⟨go, N, hN, step⟩
 ·refine wpAny_passesOwn hp (thn (T.done X rfl rfl rfl hc i pins s3 σ3 H3 X.xe I3 (stat fr3) st3 stop) fun r s4 ⟨hr, I4⟩ => ?_)
  subst hr
  exact wpAny_execs_nil ⟨σ3, H3, I4, qn⟩
 ·refine wpAny_passesOwn hp (thn (T.item X rfl rfl rfl hc i pins s3 σ3 H3 X.xe I3 (stat fr3) st3 go) fun r s4 ⟨u, hr, h4⟩ => ?_)
  subst hr
  refine wpAny_passesOwn hp (thn h4 fun _ s5 ⟨x, H5, I5, r5, y5, st5, fr5⟩ => ?_)
  have I5':=I5.pinned (stat fr5) (T.obj _ _ st5)
  refine wpAny_passesOwn hp (thn (hg _ s5 σ3 H5 x u _ I5' r5 (step x H5 y5)) fun _ s6 ⟨σ6, H6, I6, q6⟩ => ?_)
  refine wpAny_passesOwn hp (thn (hb _ s6 σ6 H6 _ I6 q6) fun f s7 q7 => ?_)
  have again : ∀ {σ7 : St} {H7 : Hp}, Inv X (pins ++ pinsAt fp s5.heap) σ7 H7 s7->N σ7 H7->∃ m, m < n/\∃ i σ' H', Inv X pins σ' H' s7/\tn i s7.heap/\(∀ b ∈ fp, H' b = none)/\W i m σ' H':=fun {σ7 H7} I7 n7 => by
   obtain ⟨m', hm, w7⟩:=hN σ7 H7 n7
   refine ⟨m', hm, i + 1, σ7, H7, I7.unpinned, T.keep _ _ _ st5 fun b hb o e => (I7.pin (b, o) (List.mem_append_right _ (List.mem_append_right _ (mem_pinsAt hb e)))).1, fun b hb => ?_, w7⟩
   obtain ⟨o, e, d⟩:=T.obj _ _ st5 b hb
   exact (I7.pin (b, o) (List.mem_append_right _ (List.mem_append_right _ (mem_pinsAt hb e)))).2.1
  cases f with
  | next => obtain ⟨σ7, H7, I7, n7⟩:=q7; exact again I7 n7
  | cont => obtain ⟨σ7, H7, I7, n7⟩:=q7; exact again I7 n7
  | brk => obtain ⟨σ7, H7, I7, q7⟩:=q7; exact ⟨σ7, H7, I7.unpinned, q7⟩
  | ret v => obtain ⟨x7, σ7, H7, I7, r7, q7⟩:=q7; exact ⟨x7, σ7, H7, I7.unpinned, r7, q7⟩
end
end L2
namespace L2
open PySem PySem.Spec PyProof.Rows
noncomputable abbrev R2:=V->V->Hp->VK->Prop
def OpR (X : Cx) (f : Value->Value->Sem Value) (r : R2) : Prop :=
 ∀ (pins : List (Addr × Obj)) (s : Shared) (σ : St) (H : Hp) (x y : V) (v u : Value) (Q : VK), Inv X pins σ H s->RelV x v->RelV y u->r x y H Q ->
  wpAny (model X.prog X.w) X.A (f v u) (EP X pins σ Q) X.xe s
def UnR (X : Cx) (f : Value->Sem Value) (r : V->Hp->VK->Prop) : Prop :=
 ∀ (pins : List (Addr × Obj)) (s : Shared) (σ : St) (H : Hp) (x : V) (v : Value) (Q : VK), Inv X pins σ H s->RelV x v->r x H Q ->
  wpAny (model X.prog X.w) X.A (f v) (EP X pins σ Q) X.xe s
def CallR (X : Cx) (f : Value) (r : List V->Hp->VK->Prop) : Prop :=
 ∀ (pins : List (Addr × Obj)) (s : Shared) (σ : St) (H : Hp) (xs : List V) (us : List Value) (Q : VK), Inv X pins σ H s->Vals xs us->r xs H Q ->
  wpAny (model X.prog X.w) X.A (call f us) (EP X pins σ Q) X.xe s
def TruR (X : Cx) (r : V->Hp->(Bool->Hp->Prop)->Prop) : Prop :=
 ∀ (pins : List (Addr × Obj)) (s : Shared) (σ : St) (H : Hp) (x : V) (v : Value) (Q : Bool->Hp->Prop), Inv X pins σ H s->RelV x v->r x H Q ->
  wpAny (model X.prog X.w) X.A (truthy v) (TP X pins σ Q) X.xe s
def tOp (r : R2) (ta tb : TE) : TE:=fun σ H Q => ta σ H fun x H1 => tb σ H1 fun y H2 => r x y H2 Q
def tUn (r : V->Hp->VK->Prop) (ta : TE) : TE:=fun σ H Q => ta σ H fun x H1 => r x H1 Q
def rI (C : Int->Int->Prop) (g : Int->Int->V) : R2:=fun x y H Q => ∃ i j, x = .int i/\y = .int j/\C i j/\Q (g i j) H
def rI0 (g : Int->Int->V) : R2:=fun x y H Q => ∃ i j, x = .int i/\y = .int j/\Q (g i j) H
def rU (g : Int->V) : V->Hp->VK->Prop:=fun x H Q => ∃ i, x = .int i/\Q (g i) H
section
variable {X : Cx} {a b c : Expr} {ta tb tc : TE} {pos : Pos}
theorem binT (ha : PE X a ta) (hb : PE X b tb) {pins : List (Addr × Obj)} {s : Shared} {σ : St} {H : Hp} {R : V->V->Hp->Prop} (I : Inv X pins σ H s)
  (h : ta σ H fun x H1 => tb σ H1 fun y H2 => R x y H2) {Q : Value->Shared->Prop} {f : Value->Value->Sem Value}
  (hf : ∀ v u s2 x y H2, Inv X pins σ H2 s2->RelV x v->RelV y u->R x y H2->wpAny (model X.prog X.w) X.A (f v u) Q X.xe s2) :
  wpAny (model X.prog X.w) X.A (eval a X.env) (fun v s₁ => wpAny (model X.prog X.w) X.A (eval b X.env) (fun u s₂ => wpAny (model X.prog X.w) X.A (f v u) Q X.xe s₂) X.xe s₁) X.xe s:=by
 refine thn (ha pins s σ H _ I h) fun v s1 ⟨x, H1, I1, r1, q1⟩ => ?_
 refine thn (hb pins s1 σ H1 _ I1 q1) fun u s2 ⟨y, H2, I2, r2, q2⟩ => ?_
 exact hf v u s2 x y H2 I2 r1 r2 q2
theorem pe_op {op : Operator} {r : R2} (ho : OpR X (binaryOp op) r) (ha : PE X a ta) (hb : PE X b tb) : PE X (.BinOp a op b pos) (tOp r ta tb):=by
 intro pins s σ H Q I h
 exact wpAny_BinOp (binT ha hb I h fun v u s2 x y H2 I2 rx ry q => ho pins s2 σ H2 x y v u Q I2 rx ry q)
theorem pe_un {op : UnaryOp} {r : V->Hp->VK->Prop} (ho : UnR X (unaryOp op) r) (ha : PE X a ta) : PE X (.UnaryOp op a pos) (tUn r ta):=by
 intro pins s σ H Q I h
 exact UnaryOp_ (thn (ha pins s σ H _ I h) fun v s1 ⟨x, H1, I1, r1, q1⟩ => ho pins s1 σ H1 x v Q I1 r1 q1)
theorem opI {f : Value->Value->Sem Value} {C : Int->Int->Prop} {g : Int->Int->Int}
  (rule : ∀ (i j : Int) (t u : Tok) (s : Shared) (Q : Value->Shared->Prop) (E : Value->Shared->Prop), C i j->Q (.int (g i j) s.toks) { s with toks:=s.toks + 1 }->wpAny (model X.prog X.w) X.A (f (.int i t) (.int j u)) Q E s) :
  OpR X f (rI C fun i j => .int (g i j)):=by
 intro pins s σ H x y v u Q I rx ry h
 obtain ⟨i, j, rfl, rfl, hc, q⟩:=h
 obtain ⟨t, rfl⟩:=rx
 obtain ⟨t', rfl⟩:=ry
 exact rule i j t t' s _ _ hc ⟨.int (g i j), H, I.tok _, ⟨_, rfl⟩, q⟩
theorem opI0 {f : Value->Value->Sem Value} {g : Int->Int->Int}
  (rule : ∀ (i j : Int) (t u : Tok) (s : Shared) (Q : Value->Shared->Prop) (E : Value->Shared->Prop), Q (.int (g i j) s.toks) { s with toks:=s.toks + 1 }->wpAny (model X.prog X.w) X.A (f (.int i t) (.int j u)) Q E s) :
  OpR X f (rI0 fun i j => .int (g i j)):=by
 intro pins s σ H x y v u Q I rx ry h
 obtain ⟨i, j, rfl, rfl, q⟩:=h
 obtain ⟨t, rfl⟩:=rx
 obtain ⟨t', rfl⟩:=ry
 exact rule i j t t' s _ _ ⟨.int (g i j), H, I.tok _, ⟨_, rfl⟩, q⟩
theorem opB0 {f : Value->Value->Sem Value} {g : Int->Int->Bool}
  (rule : ∀ (i j : Int) (t u : Tok) (s : Shared) (Q : Value->Shared->Prop) (E : Value->Shared->Prop), Q (.bool (g i j)) s->wpAny (model X.prog X.w) X.A (f (.int i t) (.int j u)) Q E s) :
  OpR X f (rI0 fun i j => .bl (g i j)):=by
 intro pins s σ H x y v u Q I rx ry h
 obtain ⟨i, j, rfl, rfl, q⟩:=h
 obtain ⟨t, rfl⟩:=rx
 obtain ⟨t', rfl⟩:=ry
 exact rule i j t t' s _ _ ⟨.bl (g i j), H, I, rfl, q⟩
def CDiv (i j : Int) : Prop:=0 < j/\j < 1073741824
def CPow (i j : Int) : Prop:=0<=j/\j<=1000000/\i.natAbs < 2 ^ 64
def CMul (i j : Int) : Prop:=(-(2 ^ 64) < i/\i < 2 ^ 64)\/(-(2 ^ 64) < j/\j < 2 ^ 64)
theorem CMul.ok {i j : Int} (h : CMul i j) : IntMulOk i j:=by
 rcases h with ⟨h1, h2⟩ | ⟨h1, h2⟩
 ·exact .of_left (intBits_le_64 h1 h2)
 ·exact .of_right (intBits_le_64 h1 h2)
theorem op_add : OpR X (binaryOp .Add) (rI0 fun i j => .int (i + j)):=opI0 fun _ _ _ _ _ _ _ q => add_int q
theorem op_sub : OpR X (binaryOp .Sub) (rI0 fun i j => .int (i - j)):=opI0 fun _ _ _ _ _ _ _ q => sub_int q
theorem op_mul : OpR X (binaryOp .Mult) (rI CMul fun i j => .int (i * j)):=opI fun _ _ _ _ _ _ _ hc q => mul_int q hc.ok
theorem op_fdiv : OpR X (binaryOp .FloorDiv) (rI CDiv fun i j => .int (i / j)):=opI fun i j _ _ _ _ _ hc q => by
 have h1 : (0 : Int) < j:=hc.1
 have h2 : j < 1073741824:=hc.2
 exact floordiv_int (by row_cond lo) (by rw [Int.fdiv_eq_ediv_of_nonneg i (by row_cond lo)]; exact q) (.inl (PyProof.noPylong_small (by row_cond lo)))
theorem op_mod : OpR X (binaryOp .Mod) (rI (fun _ j => 0 < j) fun i j => .int (i % j)):=opI fun i j _ _ _ _ _ hc q => by
 have h1 : (0 : Int) < j:=hc
 exact mod_int' (by row_cond lo) (by rw [Int.fmod_eq_emod_of_nonneg i (by row_cond lo)]; exact q)
theorem op_pow : OpR X (binaryOp .Pow) (rI CPow fun i j => .int (i ^ j.toNat)):=opI fun _ _ _ _ _ _ _ hc q => pow_int_small hc.1 hc.2.1 hc.2.2 q
theorem unI {f : Value->Sem Value} {g : Int->Int}
  (rule : ∀ (i : Int) (t : Tok) (s : Shared) (Q : Value->Shared->Prop) (E : Value->Shared->Prop), Q (.int (g i) s.toks) { s with toks:=s.toks + 1 }->wpAny (model X.prog X.w) X.A (f (.int i t)) Q E s) :
  UnR X f (rU fun i => .int (g i)):=by
 intro pins s σ H x v Q I rx h
 obtain ⟨i, rfl, q⟩:=h
 obtain ⟨t, rfl⟩:=rx
 exact rule i t s _ _ ⟨.int (g i), H, I.tok _, ⟨_, rfl⟩, q⟩
theorem un_neg : UnR X (unaryOp .USub) (rU fun i => .int (-i)):=unI fun _ _ _ _ _ q => neg_int q
end
noncomputable def scal : V->V->Bool
 | .non, .non => true | .non, .int _ => true | .int _, .non => true | .non, .bl _ => true | .bl _, .non => true | .non, .str _ => true | .str _, .non => true
 | .int _, .int _ => true | .bl _, .bl _ => true | .str _, .str _ => true | .byt _, .byt _ => true
 | .int _, .str _ => true | .str _, .int _ => true | .bl _, .str _ => true | .str _, .bl _ => true
 | _, _ => false
def rEq : R2:=fun x y H Q => scal x y = true/\Q (.bl (decide (x = y))) H
def rNe : R2:=fun x y H Q => scal x y = true/\Q (.bl (!decide (x = y))) H
theorem dec_int {i j : Int} : decide (V.int i = V.int j) = (i == j):=by
 rw [Bool.eq_iff_iff]
 simp
theorem dec_bl {i j : Bool} : decide (V.bl i = V.bl j) = (i == j):=by
 rw [Bool.eq_iff_iff]
 simp
theorem dec_str {i j : Str} : decide (V.str i = V.str j) = (i == j):=by
 rw [Bool.eq_iff_iff]
 simp
theorem dec_byt {i j : Array UInt8} : decide (V.byt i = V.byt j) = (i.toList == j.toList):=by
 rw [Bool.eq_iff_iff]
 cases i
 cases j
 simp
section
variable {X : Cx} {a b c : Expr} {ta tb tc : TE} {pos : Pos}
theorem fin_bl {pins : List (Addr × Obj)} {σ : St} {H : Hp} {s : Shared} {Q : VK} {k k' : Bool} (I : Inv X pins σ H s) (q : Q (.bl k) H) (e : k = k') : EP X pins σ Q (.bool k') s:=by
 subst e
 exact ⟨.bl k, H, I, rfl, q⟩
theorem op_eq : OpR X (compareOp .Eq) rEq:=by
 intro pins s σ H x y v u Q I rx ry h
 obtain ⟨hs, q⟩:=h
 cases x with
 | non =>
  cases rx
  cases y with
  | non => cases ry; exact PySem.EqNone.eq_none_none (fin_bl I q (by simp))
  | bl j => cases ry; exact PySem.EqNone.eq_none_bool (fin_bl I q (by simp))
  | int j => obtain ⟨t', rfl⟩:=ry; exact PySem.EqNone.eq_none_int (fin_bl I q (by simp))
  | str j => obtain ⟨t', rfl⟩:=ry; exact PySem.EqNone.eq_none_str (fin_bl I q (by simp))
  | _ => exact absurd (show false = true from hs) Bool.false_ne_true
 | bl i =>
  cases rx
  cases y with
  | non => cases ry; exact PySem.EqNone.eq_bool_none (fin_bl I q (by simp))
  | bl j => cases ry; exact eq_bool (fin_bl I q dec_bl)
  | str j => obtain ⟨t', rfl⟩:=ry; exact PySem.EqMixed.eq_bool_str (fin_bl I q (by simp))
  | _ => exact absurd (show false = true from hs) Bool.false_ne_true
 | int i =>
  obtain ⟨t, rfl⟩:=rx
  cases y with
  | non => cases ry; exact PySem.EqNone.eq_int_none (fin_bl I q (by simp))
  | int j => obtain ⟨t', rfl⟩:=ry; exact eq_int (fin_bl I q dec_int)
  | str j => obtain ⟨t', rfl⟩:=ry; exact PySem.EqMixed.eq_int_str (fin_bl I q (by simp))
  | _ => exact absurd (show false = true from hs) Bool.false_ne_true
 | str i =>
  obtain ⟨t, rfl⟩:=rx
  cases y with
  | non => cases ry; exact PySem.EqNone.eq_str_none (fin_bl I q (by simp))
  | bl j => cases ry; exact PySem.EqMixed.eq_str_bool (fin_bl I q (by simp))
  | int j => obtain ⟨t', rfl⟩:=ry; exact PySem.EqMixed.eq_str_int (fin_bl I q (by simp))
  | str j => obtain ⟨t', rfl⟩:=ry; exact eq_str (fin_bl I q dec_str)
  | _ => exact absurd (show false = true from hs) Bool.false_ne_true
 | byt i =>
  obtain ⟨t, rfl⟩:=rx
  cases y with
  | byt j => obtain ⟨t', rfl⟩:=ry; exact PySem.W.eq_bytes (fin_bl I q dec_byt)
  | _ => exact absurd (show false = true from hs) Bool.false_ne_true
 | _ => cases y <;> exact absurd (show false = true from hs) Bool.false_ne_true
theorem op_ne : OpR X (compareOp .NotEq) rNe:=by
 intro pins s σ H x y v u Q I rx ry h
 obtain ⟨hs, q⟩:=h
 cases x with
 | non =>
  cases rx
  cases y with
  | non => cases ry; exact PySem.EqNone.ne_none_none (fin_bl I q (by simp))
  | bl j => cases ry; exact PySem.EqNone.ne_none_bool (fin_bl I q (by simp))
  | int j => obtain ⟨t', rfl⟩:=ry; exact PySem.EqNone.ne_none_int (fin_bl I q (by simp))
  | str j => obtain ⟨t', rfl⟩:=ry; exact PySem.EqNone.ne_none_str (fin_bl I q (by simp))
  | _ => exact absurd (show false = true from hs) Bool.false_ne_true
 | bl i =>
  cases rx
  cases y with
  | non => cases ry; exact PySem.EqNone.ne_bool_none (fin_bl I q (by simp))
  | bl j => cases ry; exact ne_bool (fin_bl I q (congrArg not dec_bl))
  | str j => obtain ⟨t', rfl⟩:=ry; exact PySem.EqMixed.ne_bool_str (fin_bl I q (by simp))
  | _ => exact absurd (show false = true from hs) Bool.false_ne_true
 | int i =>
  obtain ⟨t, rfl⟩:=rx
  cases y with
  | non => cases ry; exact PySem.EqNone.ne_int_none (fin_bl I q (by simp))
  | int j => obtain ⟨t', rfl⟩:=ry; exact ne_int (fin_bl I q (congrArg not dec_int))
  | str j => obtain ⟨t', rfl⟩:=ry; exact PySem.EqMixed.ne_int_str (fin_bl I q (by simp))
  | _ => exact absurd (show false = true from hs) Bool.false_ne_true
 | str i =>
  obtain ⟨t, rfl⟩:=rx
  cases y with
  | non => cases ry; exact PySem.EqNone.ne_str_none (fin_bl I q (by simp))
  | bl j => cases ry; exact PySem.EqMixed.ne_str_bool (fin_bl I q (by simp))
  | int j => obtain ⟨t', rfl⟩:=ry; exact PySem.EqMixed.ne_str_int (fin_bl I q (by simp))
  | str j => obtain ⟨t', rfl⟩:=ry; exact ne_str (fin_bl I q (congrArg not dec_str))
  | _ => exact absurd (show false = true from hs) Bool.false_ne_true
 | byt i =>
  obtain ⟨t, rfl⟩:=rx
  cases y with
  | byt j => obtain ⟨t', rfl⟩:=ry; exact PySem.W.ne_bytes (fin_bl I q (congrArg not dec_byt))
  | _ => exact absurd (show false = true from hs) Bool.false_ne_true
 | _ => cases y <;> exact absurd (show false = true from hs) Bool.false_ne_true
theorem op_lt : OpR X (compareOp .Lt) (rI0 fun i j => .bl (decide (i < j))):=opB0 fun _ _ _ _ _ _ _ q => lt_int q
theorem op_le : OpR X (compareOp .LtE) (rI0 fun i j => .bl (decide (i<=j))):=opB0 fun _ _ _ _ _ _ _ q => le_int q
theorem op_gt : OpR X (compareOp .Gt) (rI0 fun i j => .bl (decide (j < i))):=opB0 fun _ _ _ _ _ _ _ q => gt_int q
theorem op_ge : OpR X (compareOp .GtE) (rI0 fun i j => .bl (decide (j<=i))):=opB0 fun _ _ _ _ _ _ _ q => ge_int q
theorem op_isN : OpR X (compareOp .Is) (fun x y H Q => y = .non/\Q (.bl (decide (x = .non))) H):=by
 intro pins s σ H x y v u Q I rx ry h
 obtain ⟨rfl, q⟩:=h
 cases ry
 refine is_none_gen (fin_bl I q ?_)
 cases x <;> first
  | (cases rx; rfl)
  | (obtain ⟨t, rfl⟩:=rx; rfl)
theorem op_notN : OpR X (compareOp .IsNot) (fun x y H Q => y = .non/\Q (.bl (!decide (x = .non))) H):=by
 intro pins s σ H x y v u Q I rx ry h
 obtain ⟨rfl, q⟩:=h
 cases ry
 refine isnot_none_gen (fin_bl I q ?_)
 cases x <;> first
  | (cases rx; rfl)
  | (obtain ⟨t, rfl⟩:=rx; rfl)
theorem OpR.or {f : Value->Value->Sem Value} {r r' : R2} (h : OpR X f r) (h' : OpR X f r') : OpR X f (fun x y H Q => r x y H Q\/r' x y H Q):=by
 intro pins s σ H x y v u Q I rx ry q
 rcases q with q | q
 ·exact h pins s σ H x y v u Q I rx ry q
 ·exact h' pins s σ H x y v u Q I rx ry q
theorem nomark (b : Expr) {op : CmpOp} (h : op ≠ .In:=by decide) (h2 : op ≠ .NotIn:=by decide) : behindInMarks op b = false:=by
 have e1 : (op == CmpOp.In) = false:=by cases op <;> first | rfl | exact absurd rfl h
 have e2 : (op == CmpOp.NotIn) = false:=by cases op <;> first | rfl | exact absurd rfl h2
 cases b <;> simp [behindInMarks, e1, e2]
theorem pe_cmpR {op : CmpOp} {r : R2} (ho : OpR X (compareOp op) r) (ha : PE X a ta) (hb : PE X b tb) (hm : behindInMarks op b = false) : PE X (.Compare a [op] [b] pos) (tOp r ta tb):=by
 intro pins s σ H Q I h
 exact wpAny_Compare1 (binT ha hb I h fun v u s2 x y H2 I2 rx ry q => ho pins s2 σ H2 x y v u Q I2 rx ry q) hm
def tTest (t : TE) : TT:=fun σ H Q => t σ H fun x H' => ∃ k, x = .bl k/\Q k H'
theorem pt_cmpR {op : CmpOp} {r : R2} (ho : OpR X (compareOp op) r) (ha : PE X a ta) (hb : PE X b tb) (hm : behindInMarks op b = false) : PT X (.Compare a [op] [b] pos) (tTest (tOp r ta tb)):=by
 intro pins s σ H Q I h
 refine wpAny_isTrue_Compare1 (thn (ha pins s σ H _ I h) fun v s1 ⟨x, H1, I1, r1, q1⟩ => thn (hb pins s1 σ H1 _ I1 q1) fun u s2 ⟨y, H2, I2, r2, q2⟩ =>
  thn (ho pins s2 σ H2 x y v u _ I2 r1 r2 q2) fun c s3 ⟨z, H3, I3, r3, k, e, q3⟩ => ?_) hm
 subst e
 cases r3
 exact wpAny_truthy_bool ⟨H3, I3, q3⟩
def tChain (r r' : R2) (ta tb tc : TE) : TE:=fun σ H Q => ta σ H fun x H1 => tb σ H1 fun y H2 => r x y H2 fun z H3 => ∃ k, z = .bl k /\
 (if k = true then tc σ H3 fun w' H4 => r' y w' H4 Q else Q (.bl false) H3)
theorem pe_chain {op op' : CmpOp} {r r' : R2} (ho : OpR X (compareOp op) r) (ho' : OpR X (compareOp op') r') (ha : PE X a ta) (hb : PE X b tb) (hc : PE X c tc)
  (hm : lastMarks [op, op'] [b, c] = false:=by with_unfolding_all rfl) : PE X (.Compare a [op, op'] [b, c] pos) (tChain r r' ta tb tc):=by
 intro pins s σ H Q I h
 refine Compare_chain (thn (ha pins s σ H _ I h) fun v s1 ⟨x, H1, I1, r1, q1⟩ => chain_link (thn (hb pins s1 σ H1 _ I1 q1) fun u s2 ⟨y, H2, I2, r2, q2⟩ =>
  thn (ho pins s2 σ H2 x y v u _ I2 r1 r2 q2) fun d s3 ⟨z, H3, I3, r3, k, e, q3⟩ => ?_)) hm
 subst e
 cases r3
 refine wpAny_truthy_bool ?_
 cases k with
 | false => exact ite_ff ⟨.bl false, H3, I3, rfl, q3⟩
 | true => exact ite_tt (chain_last (thn (hc pins s3 σ H3 _ I3 q3) fun w' s4 ⟨z', H4, I4, r4, q4⟩ => ho' pins s4 σ H4 y z' u w' Q I4 r2 r4 q4))
theorem pt_chain {op op' : CmpOp} {r r' : R2} (ho : OpR X (compareOp op) r) (ho' : OpR X (compareOp op') r') (ha : PE X a ta) (hb : PE X b tb) (hc : PE X c tc)
  (hm : lastMarks [op, op'] [b, c] = false:=by with_unfolding_all rfl) : PT X (.Compare a [op, op'] [b, c] pos) (tTest (tChain r r' ta tb tc)):=by
 intro pins s σ H Q I h
 refine isTrue_chain (thn (ha pins s σ H _ I h) fun v s1 ⟨x, H1, I1, r1, q1⟩ => test_link (thn (hb pins s1 σ H1 _ I1 q1) fun u s2 ⟨y, H2, I2, r2, q2⟩ =>
  thn (ho pins s2 σ H2 x y v u _ I2 r1 r2 q2) fun d s3 ⟨z, H3, I3, r3, k, e, q3⟩ => ?_)) hm
 subst e
 cases r3
 refine wpAny_truthy_bool ?_
 cases k with
 | false =>
  obtain ⟨k', e', q'⟩:=q3
  cases e'
  exact ite_ff ⟨H3, I3, q'⟩
 | true =>
  refine ite_tt (test_last (thn (hc pins s3 σ H3 _ I3 q3) fun w' s4 ⟨z', H4, I4, r4, q4⟩ => thn (ho' pins s4 σ H4 y z' u w' _ I4 r2 r4 q4) fun d' s5 ⟨z2, H5, I5, r5, k2, e2, q5⟩ => ?_))
  subst e2
  cases r5
  exact wpAny_truthy_bool ⟨H5, I5, q5⟩
def TruV (K : PySem.W.Frag) (x : V) (H : Hp) (k : Bool) : Prop :=
 match x with
 | .non => k = false
 | .bl b => k = b
 | .int i => k = (i != 0)
 | .str y => y.length<=sizeLine/\k = ((y.length : Int) != 0)
 | .byt y => y.size<=sizeLine/\k = ((y.size : Int) != 0)
 | .ref p => (∃ xs, SqL K H p xs/\k = !xs.isEmpty)\/(∃ xs, SqT K H p xs/\k = !xs.isEmpty)\/∃ kvs, H p = some (.dK kvs)/\k = !kvs.isEmpty
 | _ => False
theorem isEmpty_kv {κ : Type} {kvs : List (κ × V)} {vs : List (κ × Value)} (r : KV kvs vs) : (!vs.isEmpty) = !kvs.isEmpty:=by
 cases r <;> rfl
theorem isEmpty_of {xs : List V} {its : List Value} (r : Vals xs its) : (!its.toArray.isEmpty) = !xs.isEmpty:=by
 cases r <;> simp
theorem line63 : (sizeLine : Nat) < 2 ^ 63:=by rw [sizeLine_eq]; decide
theorem tru_ok : TruR X (fun x H Q => ∃ k, TruV X.K x H k/\Q k H):=by
 intro pins s σ H x v Q I rx h
 obtain ⟨k, e, q⟩:=h
 have hl:=line63
 have hs : sizeLine = 16777216:=sizeLine_eq
 cases x with
 | non =>
  cases rx
  have e' : k = false:=e
  subst e'
  exact truthy_none ⟨H, I, q⟩
 | bl b =>
  cases rx
  have e' : k = b:=e
  subst e'
  exact wpAny_truthy_bool ⟨H, I, q⟩
 | int i =>
  obtain ⟨t, rfl⟩:=rx
  have e' : k = (i != 0):=e
  subst e'
  exact PySem.P.truthy_int ⟨H, I, q⟩
 | str y =>
  obtain ⟨t, rfl⟩:=rx
  obtain ⟨hy, e'⟩ : y.length<=sizeLine/\k = ((y.length : Int) != 0):=e
  subst e'
  exact PySem.P.truthy_str (by row_cond lo) ⟨H, I.tok _, q⟩
 | byt y =>
  obtain ⟨t, rfl⟩:=rx
  obtain ⟨hy, e'⟩ : y.size<=sizeLine/\k = ((y.size : Int) != 0):=e
  subst e'
  exact PySem.W.truthy_bytes (by row_cond lo) ⟨H, I.tok _, q⟩
 | ref p =>
  cases rx
  have e' : (∃ xs, SqL X.K H p xs/\k = !xs.isEmpty)\/(∃ xs, SqT X.K H p xs/\k = !xs.isEmpty)\/∃ kvs, H p = some (.dK kvs)/\k = !kvs.isEmpty:=e
  rcases e' with ⟨xs, hx, e'⟩ | ⟨xs, hx, e'⟩ | ⟨kvs, hx, e'⟩
  ·subst e'
   obtain ⟨its, r, pl, hz⟩:=I.list hx
   have hlen:=r.length
   exact wpAny_truthy_list pl.isList (by simp only [List.size_toArray]; row_cond lo) ⟨H, I.tok _, by rw [isEmpty_of r]; exact q⟩
  ·subst e'
   obtain ⟨its, r, pl, hz⟩:=I.tuple hx
   have hlen:=r.length
   exact truthy_tuple pl (by simp only [List.size_toArray]; row_cond lo) ⟨H, I.tok _, by rw [isEmpty_of r]; exact q⟩
  ·subst e'
   obtain ⟨hz, hS, vs, r, m⟩ : kvs.length<=sizeLine/\(p == sysModules) = false/\∃ vs, KV kvs vs/\s.heap.DictOf (mixKind X.prog X.w) p vs:=I.hok p _ hx
   have hlen : kvs.length = vs.length:=Paired.length r
   exact wpAny_truthy_dict hS m (by row_cond lo) ⟨H, I.tok _, by rw [isEmpty_kv r]; exact q⟩
 | _ => exact (show False from e).elim
theorem pt_truth (ha : PE X a ta) (he : ∀ whole, isTrue a X.env whole = (do let v ← whole; standAt a.pos; holding [v] (truthy v))) :
  PT X a (fun σ H Q => ta σ H fun x H' => ∃ k, TruV X.K x H' k/\Q k H'):=by
 intro pins s σ H Q I h
 exact isTrue_plain (thn (ha pins s σ H _ I h) fun v s1 ⟨x, H1, I1, r1, q1⟩ => tru_ok pins s1 σ H1 x v Q I1 r1 q1) (he _)
theorem vals1 {x : V} {us : List Value} (r : Vals [x] us) : ∃ u, us = [u]/\RelV x u:=by
 cases r with
 | cons r1 r2 => cases r2; exact ⟨_, rfl, r1⟩
theorem vals2 {x y : V} {us : List Value} (r : Vals [x, y] us) : ∃ u w', us = [u, w']/\RelV x u/\RelV y w':=by
 cases r with
 | cons r1 r2 =>
  cases r2 with
  | cons r3 r4 => cases r4; exact ⟨_, _, rfl, r1, r3⟩
theorem call_max2 (hc : X.calm = true) : CallR X (.builtin "max") (fun xs H Q => ∃ i j, xs = [.int i, .int j]/\Q (.int (if j > i then j else i)) H):=by
 intro pins s σ H xs us Q I r h
 obtain ⟨i, j, rfl, q⟩:=h
 obtain ⟨u, w', rfl, ⟨t, rfl⟩, ⟨t', rfl⟩⟩:=vals2 r
 refine max_two_ints (I.ok.hd hc) fun h' tk k => ⟨_, H, I.kept k, ?_, q⟩
 by_cases hj : j > i
 ·rw [if_pos hj, if_pos hj]; exact ⟨_, rfl⟩
 ·rw [if_neg hj, if_neg hj]; exact ⟨_, rfl⟩
theorem call_min2 (hc : X.calm = true) : CallR X (.builtin "min") (fun xs H Q => ∃ i j, xs = [.int i, .int j]/\Q (.int (if j < i then j else i)) H):=by
 intro pins s σ H xs us Q I r h
 obtain ⟨i, j, rfl, q⟩:=h
 obtain ⟨u, w', rfl, ⟨t, rfl⟩, ⟨t', rfl⟩⟩:=vals2 r
 refine min_two_ints (I.ok.hd hc) fun h' tk k => ⟨_, H, I.kept k, ?_, q⟩
 by_cases hj : j < i
 ·rw [if_pos hj, if_pos hj]; exact ⟨_, rfl⟩
 ·rw [if_neg hj, if_neg hj]; exact ⟨_, rfl⟩
end
end L2
namespace L2
open PySem PySem.Spec PyProof.Rows
structure ObjM (h : Heap) (x dx C : Addr) (mA : Str->Option Value) : Prop where
 obj : h.get? x = some (PySem.W.instObj C dx)
 ns : h.Ns1 dx mA
 ne : dx ≠ x
theorem lookIn_ns {h : Heap} {dx : Addr} {mA : Str->Option Value} (n : h.Ns1 dx mA) : ∃ od, h.get? dx = some od/\∀ name, PySem.W.lookIn name od = some (mA name):=by
 obtain ⟨o, es, ep, ho, hd, hk, _, hm⟩:=n
 refine ⟨o, ho, fun name => ?_⟩
 have e:=hm name
 unfold nsFind findBy at e
 rw [← Array.find?_toList] at e
 unfold PySem.W.lookIn
 rw [hd]
 dsimp only
 split
 ·rename_i y q
  rw [q] at e
  exact congrArg some e
 ·rename_i q
  rw [q] at e
  have a : es.toList.any (·.refKey) = false:=by
   rw [List.any_eq_false]
   intro y hy
   obtain ⟨z, t, hkey⟩:=hk y (Array.mem_toList_iff.mp hy)
   simp [DictEntry.refKey, hkey]
  have a' : ¬ es.toList.any (·.refKey) = true:=by rw [a]; exact Bool.false_ne_true
  rw [if_neg a']
  exact congrArg some e
theorem ObjM.look {h : Heap} {x dx C : Addr} {mA : Str->Option Value} (I : ObjM h x dx C mA) : ∃ od, PySem.W.InstAt h x (PySem.W.instObj C dx) C (some od)/\∀ name, PySem.W.lookIn name od = some (mA name) :=
 let ⟨od, ho, hl⟩:=lookIn_ns I.ns
 ⟨od, ⟨I.obj, rfl, rfl, ho⟩, hl⟩
section
variable {prog : Program} {w : World} {A : Around} {E : Value->Shared->Prop} {s : Shared} {K : PySem.W.Frag} {x dx C f : Addr} {mA : Str->Option Value} {name : Str} {v : Value}
end
noncomputable def putF (f : Str) (v : V) : List (Str × V)->List (Str × V)
 | [] => [(f, v)]
 | (g, x) :: r => if g = f then (g, v) :: r else (g, x) :: putF f v r
section
variable {P : Program} {w : World} {H H' : Hp} {h h' : Heap} {a C dx : Addr} {fs fs' : List (Str × V)}
theorem ins_get (hok : HOk P w H h) (e : H a = some (.ins C dx fs)) : ∃ mA, ObjM h a dx C mA/\(∀ f, RelO (fs.lookup f) (mA f))/\PySem.Within mA (fs.map (·.1))/\fs.length<=1000/\H dx = some (.own a):=by
 obtain ⟨d, z, ne, ob, mA, n, r, q⟩:=(show ObjOk P w H h a (.ins C dx fs) from hok a _ e)
 exact ⟨mA, ⟨ob, n, ne⟩, r, q, z, d⟩
end
structure Cls (K : PySem.W.Frag) (C : Addr) : Prop where
 pg : PySem.W.plainGet K C Str.empty = true
 hd : PySem.W.hasDictIn K C = true
 po : PySem.W.plainOver K C = true
 sa : PySem.W.findIn K (.ref C) "__setattr__" = some (some (.builtin "object.__setattr__"))
theorem Cls.get {K : PySem.W.Frag} {C : Addr} (c : Cls K C) (f : Str) : PySem.W.plainGet K C f = true:=c.pg
section
variable {X : Cx} {pins : List (Addr × Obj)} {σ : St} {H : Hp} {s : Shared} {a C dx : Addr} {fs : List (Str × V)} {f : Str} {v : V} {A : Around} {E : Value->Shared->Prop}
end
section
variable {X : Cx} {o e value : Expr} {f : Str} {pos pos' tpos : Pos} {ta tv : TE}
end
section
variable {X : Cx} {pins : List (Addr × Obj)} {σ : St} {H : Hp} {s : Shared} {A : Around} {E : Value->Shared->Prop} {Q : Value->Shared->Prop} {c : Value} {b : Bool}
inductive TyOf (K : PySem.W.Frag) (H : Hp) : V->Value->Prop where
 | non : TyOf K H .non (.type "NoneType")
 | bl (x : Bool) : TyOf K H (.bl x) (.type "bool")
 | int (i : Int) : TyOf K H (.int i) (.type "int")
 | str (x : Str) : TyOf K H (.str x) (.type "str")
 | flt (x : UInt64) : TyOf K H (.flt x) (.type "float")
 | lst {a : Addr} {xs : List V} (e : H a = some (.lst xs)) : TyOf K H (.ref a) (.type "list")
 | frz {a : Addr} {o : Obj} {xs : List V} (e : H a = some (.frz o (.lst xs))) : TyOf K H (.ref a) (.type "list")
 | tup {a : Addr} {xs : List V} (e : H a = some (.tup xs)) : TyOf K H (.ref a) (.type "tuple")
 | dK {a : Addr} {kvs : List (Key × V)} (e : H a = some (.dK kvs)) : TyOf K H (.ref a) (.type "dict")
 | dT {a : Addr} {kvs : List (List Key × V)} (e : H a = some (.dT kvs)) : TyOf K H (.ref a) (.type "dict")
 | ins {a C dx : Addr} {fs : List (Str × V)} (e : H a = some (.ins C dx fs)) (cl : Cls K C) (ha : PySem.W.findIn K (.ref C) "__class__" = some (some (.builtin "object.__class__")))
   (hn : PySem.W.specialIn K (.builtin "object.__class__") "__get__" = some (some (.builtin "getset_descriptor.__get__"))) (htk : PySem.W.takesIn K (.builtin "object.__class__") = some true)
   (hm : PySem.W.mroIn K C (.type "object") = some true) : TyOf K H (.ref a) (.ref C)
theorem isinst_ok {x : V} {u t : Value} (I : Inv X pins σ H s) (rx : RelV x u) (ty : TyOf X.K H x t) (e : PySem.W.kitOne X.K t c = some b) (h : ∀ tk, Q (.bool b) { s with toks:=tk }) :
  wpAny (model X.prog X.w) A (call (.builtin "isinstance") [u, c]) Q E s:=by
 cases ty with
 | non => cases (show u = Value.none from rx); exact PySem.W.kia_one PySem.W.kitx_none I.kIn True.intro e (fun z => nomatch z) h
 | bl y => cases (show u = Value.bool y from rx); exact PySem.W.kia_one PySem.W.kitx_bool I.kIn True.intro e (fun z => nomatch z) h
 | int i => obtain ⟨t, q⟩:=(show ∃ t, u = Value.int i t from rx); cases q; exact PySem.W.kia_one PySem.W.kitx_int I.kIn True.intro e (fun z => nomatch z) h
 | str y => obtain ⟨t, q⟩:=(show ∃ t, u = Value.str y t from rx); cases q; exact PySem.W.kia_one PySem.W.kitx_str I.kIn True.intro e (fun z => nomatch z) h
 | flt y => obtain ⟨t, q⟩:=(show ∃ t, u = Value.float y t from rx); cases q; exact PySem.W.kia_one PySem.W.kitx_float I.kIn True.intro e (fun z => nomatch z) h
 | @lst a xs ea =>
  cases (show u = Value.ref a from rx)
  obtain ⟨_, _, n, _, h1⟩:=(show ObjOk X.prog X.w H s.heap a (.lst xs) from I.hok a _ ea)
  exact PySem.W.kia_one PySem.W.kitx_list I.kIn ⟨_, h1, rfl⟩ e (fun z => nomatch z) h
 | @frz a ob xs ea =>
  cases (show u = Value.ref a from rx)
  obtain ⟨_, _, _, n, _, h1⟩:=(show ObjOk X.prog X.w H s.heap a (.frz ob (.lst xs)) from I.hok a _ ea)
  exact PySem.W.kia_one PySem.W.kitx_list I.kIn ⟨_, h1, rfl⟩ e (fun z => nomatch z) h
 | @tup a xs ea =>
  cases (show u = Value.ref a from rx)
  obtain ⟨_, _, _, p⟩:=(show ObjOk X.prog X.w H s.heap a (.tup xs) from I.hok a _ ea)
  obtain ⟨o, h1, h2, _⟩:=p
  exact PySem.W.kia_one PySem.W.kitx_tuple I.kIn ⟨o, h1, h2⟩ e (fun z => nomatch z) h
 | @dK a kvs ea =>
  cases (show u = Value.ref a from rx)
  obtain ⟨_, _, vs, _, p⟩:=(show ObjOk X.prog X.w H s.heap a (.dK kvs) from I.hok a _ ea)
  obtain ⟨o, es, ep, h1, h2, _⟩:=p
  exact PySem.W.kia_one PySem.W.kitx_dict I.kIn ⟨o, h1, h2.1⟩ e (fun z => nomatch z) h
 | @dT a kvs ea =>
  cases (show u = Value.ref a from rx)
  obtain ⟨_, _, xs, _, o, es, ep, h1, h2, _⟩:=(show ObjOk X.prog X.w H s.heap a (.dT kvs) from I.hok a _ ea)
  exact PySem.W.kia_one PySem.W.kitx_dict I.kIn ⟨o, h1, h2.1⟩ e (fun z => nomatch z) h
 | @ins a C dx fs ea cl ha hn htk hm =>
  cases (show u = Value.ref a from rx)
  obtain ⟨mA, O, _⟩:=ins_get I.hok ea
  obtain ⟨od, J, _⟩:=O.look
  exact PySem.W.kia_one (PySem.W.kitx_own (cl.get _) cl.hd ha hn htk hm) I.kIn J e (fun z => nomatch z) h
end
end L2
namespace L2
open PySem PySem.Spec PyProof.Rows
structure Room (k : Nat) (A : Around) : Prop where
 hd : A.handled = none
 dp : A.depth + 3 * k + 5 < recursionLimit
 un : A.units + 16 * k + 200 < cLine
theorem Room.mono {j k : Nat} {A : Around} (r : Room k A) (h : j<=k) : Room j A:=⟨r.hd, by have:=r.dp; row_cond lo, by have:=r.un; row_cond lo⟩
theorem Room.deeper {k : Nat} {A : Around} (r : Room (k + 1) A) (env : Env) : Room k (A.deeper env) :=
 ⟨r.hd, by have:=r.dp; show A.depth + 1 + 3 * k + 5 < _; row_cond lo, by have:=r.un; show A.units + 3 + 16 * k + 200 < _; row_cond lo⟩
theorem Room.in1 {k : Nat} {A : Around} (r : Room (k + 1) A) : Room k A.in1 :=
 ⟨r.hd, by have:=r.dp; show A.depth + 3 * k + 5 < _; row_cond lo, by have:=r.un; show A.units + 1 + 16 * k + 200 < _; row_cond lo⟩
theorem Room.depth {k : Nat} {A : Around} (r : Room k A) : A.depth < recursionLimit:=by have:=r.dp; row_cond lo
theorem Room.units {k : Nat} {A : Around} (r : Room k A) : A.units + 64 < cLine:=by have:=r.un; row_cond lo
def tNil : TA:=fun _ H Q => Q [] H
def tCons (ta : TE) (tr : TA) : TA:=fun σ H Q => ta σ H fun x H1 => tr σ H1 fun xs H2 => Q (x :: xs) H2
section
variable {X : Cx} {e : Expr} {es : List Expr} {te : TE} {t : TA} {pos : Pos}
theorem pa_nil : PA X [] tNil:=fun _ _ _ _ H Q I h => Calls.spliced_nil ⟨[], H, I, .nil, h⟩
theorem pa_cons (ha : PE X e te) (hr : PA X es t) (hs : starEach (e :: es) X.env = (false, eval e X.env) :: starEach es X.env:=by rfl) : PA X (e :: es) (tCons te t):=by
 intro pos pins s σ H Q I h
 rw [hs]
 show wpAny _ _ (spliced ((false, eval e X.env) :: backTo pos (starEach es X.env))) _ _ s
 refine Calls.spliced_cons (thn (ha pins s σ H _ I h) fun u s1 ⟨x, H1, I1, r1, q1⟩ => ?_)
 exact thn (hr pos pins s1 σ H1 _ I1 q1) fun us s2 ⟨xs, H2, I2, r2, q2⟩ => ⟨x :: xs, H2, I2, .cons r1 r2, q2⟩
def tTup (t : TA) : TE:=fun σ H Q => t σ H fun xs H1 => xs.length<=sizeLine/\∀ p, H1 p = none->Q (.ref p) (upd H1 p (.tup xs))
def tLst (t : TA) : TE:=fun σ H Q => t σ H fun xs H1 => xs.length<=sizeLine/\∀ p, H1 p = none->Q (.ref p) (upd H1 p (.lst xs))
theorem pe_tup {x1} (h : PA X es t) : PE X (.Tuple es x1 pos) (tTup t):=by
 intro pins s σ H Q I hq
 refine wpAny_Tuple_spliced (thn (h pos pins s σ H _ I hq) fun us s1 ⟨xs, H1, I1, r, z, q⟩ => ⟨by rw [← r.length]; exact z, ?_⟩)
 have hf : H1 s1.heap.objs.size = none:=I1.hok.fresh (Nat.le_refl _)
 refine ⟨.ref s1.heap.objs.size, upd H1 s1.heap.objs.size (.tup xs), I1.laid (t':=s1.toks) (fun b u e => Heap.get?_push_of_some _ e) (Nat.le_refl _) ?_, rfl, q _ hf⟩
 exact ⟨z, us, r, ⟨_, Heap.get?_push_size _ rfl, rfl, _, rfl⟩⟩
theorem pe_lst (h : PA X es t) : PE X (.List es pos) (tLst t):=by
 intro pins s σ H Q I hq
 refine wpAny_List_spliced (thn (h pos pins s σ H _ I hq) fun us s1 ⟨xs, H1, I1, r, z, q⟩ => ⟨by rw [← r.length]; exact z, ?_⟩)
 have hf : H1 s1.heap.objs.size = none:=I1.hok.fresh (Nat.le_refl _)
 refine ⟨.ref s1.heap.objs.size, upd H1 s1.heap.objs.size (.lst xs), I1.laid (t':=s1.toks) (fun b u e => Heap.get?_push_of_some _ e) (Nat.le_refl _) ?_, rfl, q _ hf⟩
 exact ⟨z, us, 0, r, Heap.get?_push_size _ rfl⟩
end
noncomputable abbrev Sp:=List V->Hp->VK->XK->Prop
noncomputable abbrev CXT:=List Env->Hp->Shared->XK->Value->Shared->Prop
structure Env0 (P : Program) (w : World) (K : PySem.W.Frag) (mg : Str->Option Value) (base : Heap) (A : Around) (outer : List Env) (s : Shared) (H : Hp) : Prop where
 frames : A.frames = some outer
 mod : Mod K mg base
 bs : ∀ b o, base.get? b = some o->s.heap.get? b = some o/\H b = none
 bsz : base.objs.size<=s.heap.objs.size
 funs : s.heap.FunFrames base outer
 frf : ∀ b ∈ frs outer, H b = none
 hok : HOk P w H s.heap
 bare : AllBare s.gens
def CE (outer : List Env) (P : Program) (w : World) (H : Hp) (s : Shared) (Q : VK) (u : Value) (s' : Shared) : Prop :=
 ∃ v H', s'.os = s.os/\AllBare s'.gens/\Un (frs outer) [] H H' s.heap s'.heap/\HOk P w H' s'.heap/\RelV v u/\Q v H'
def CR (CX : CXT) (outer : List Env) (P : Program) (w : World) (H : Hp) (s : Shared) (Q : VK) (E : XK) (r : Result) (s' : Shared) : Prop :=
 match r with
 | .ok (.ret u) => CE outer P w H s Q u s'
 | .ok _ => False
 | .error e => CX outer H s E e s'
structure FnOk (P : Program) (w : World) (K : PySem.W.Frag) (mg : Str->Option Value) (base : Heap) (CX : CXT) (k : Nat) (f : Addr) (fd : FuncData) (ps : List Str) (sp : Sp) : Prop where
 len : ∀ vs H Q E, sp vs H Q E->vs.length = ps.length
 run : ∀ (A : Around) (outer : List Env) (s : Shared) (H : Hp) (args : Args) (us : List Value) (vs : List V) (Q : VK) (E : XK), Room k A->Env0 P w K mg base A outer s H->BindsTo s fd args (ps.zip us)->Vals vs us->sp vs H Q E ->
  codeAny (model P w) A (.call (.ref f) args) (CR CX outer P w H s Q E) s
theorem FnOk.mono {P : Program} {w : World} {K : PySem.W.Frag} {mg : Str->Option Value} {base : Heap} {CX : CXT} {j k : Nat} {f : Addr} {fd : FuncData} {ps : List Str} {sp : Sp} (F : FnOk P w K mg base CX j f fd ps sp) (h : j<=k) :
  FnOk P w K mg base CX k f fd ps sp:=⟨F.len, fun A outer s H args us vs Q E hr => F.run A outer s H args us vs Q E (hr.mono h)⟩
theorem FnOk.imp {P : Program} {w : World} {K : PySem.W.Frag} {mg : Str->Option Value} {base : Heap} {CX : CXT} {k : Nat} {f : Addr} {fd : FuncData} {ps : List Str} {sp sp' : Sp} (F : FnOk P w K mg base CX k f fd ps sp)
  (h : ∀ vs H Q E, sp' vs H Q E->sp vs H Q E) : FnOk P w K mg base CX k f fd ps sp' :=
 ⟨fun vs H Q E q => F.len vs H Q E (h _ _ _ _ q), fun A outer s H args us vs Q E hr he hb hv hs => F.run A outer s H args us vs Q E hr he hb hv (h _ _ _ _ hs)⟩
theorem Env0.in1 {P : Program} {w : World} {K : PySem.W.Frag} {mg : Str->Option Value} {base : Heap} {A : Around} {outer : List Env} {s : Shared} {H : Hp} (e : Env0 P w K mg base A outer s H) :
  Env0 P w K mg base A.in1 outer s H:=⟨e.frames, e.mod, e.bs, e.bsz, e.funs, e.frf, e.hok, e.bare⟩
section
variable {X : Cx} {pins : List (Addr × Obj)} {σ : St} {H : Hp} {s s' : Shared}
theorem Inv.env0 (I : Inv X pins σ H s) : Env0 X.prog X.w X.K X.mg X.base X.A X.stack s H :=
 ⟨I.ok.frames, I.ok.mod, I.bs, Nat.le_trans I.ok.bsz I.sz, I.stack, I.stkFree, I.hok, I.bare⟩
theorem Inv.after {Q : VK} {u : Value} (I : Inv X pins σ H s) (h : CE X.stack X.prog X.w H s Q u s') : EP X pins σ Q u s':=by
 obtain ⟨v, H', os, bare, un, hok, r, q⟩:=h
 obtain ⟨hh, g, d, t, os'⟩:=s'
 obtain rfl : os' = s.os:=os
 exact ⟨v, H', I.call (h':=hh) (g':=g) (d':=d) (t':=t) (ch:=[]) un hok bare (fun b z => absurd z (by simp)), r, q⟩
end
def tCall (sp : Sp) (dvs : List V) (E : XK) (t : TA) : TE:=fun σ H Q => t σ H fun vs H1 => sp (vs ++ dvs) H1 Q E
def Binds (K : PySem.W.Frag) (fd : FuncData) (ps : List Str) (ds : List Value) : Prop :=
 ∀ (s : Shared) (us : List Value), K.In s.heap->(us ++ ds).length = ps.length->BindsTo s fd ⟨us, []⟩ (ps.zip (us ++ ds))
theorem Binds.all {K : PySem.W.Frag} {fd : FuncData} {ps : List Str} (h : ∀ us : List Value, us.length = ps.length->bindArgs fd ⟨us, []⟩ = pure (ps.zip us)) : Binds K fd ps []:=fun s us _ hl => by
 rw [List.append_nil] at hl ⊢
 exact .of_eq (h us hl)
def Passes (CX : CXT) (X : Cx) (E : XK) : Prop:=∀ (pins : List (Addr × Obj)) (σ : St) (H : Hp) (s : Shared) (e : Value) (s' : Shared), Inv X pins σ H s->CX X.stack H s E e s'->X.xe e s'
section
variable {X : Cx} {CX : CXT} {k : Nat} {f C : Addr} {fd : FuncData} {ps : List Str} {sp : Sp} {dvs : List V} {ds : List Value} {E : XK} {x m : Str} {p pos apos : Pos} {e o : Expr} {es : List Expr} {ta : TE} {t : TA}
theorem run_fn {pins : List (Addr × Obj)} {σ : St} {H : Hp} {s : Shared} {Q : VK} {us : List Value} {vs : List V} (F : FnOk X.prog X.w X.K X.mg X.base CX k f fd ps sp) (hr : Room k X.A) (hb : Binds X.K fd ps ds) (hd : Vals dvs ds) (hx : Passes CX X E)
  (I : Inv X pins σ H s) (r : Vals vs us) (h : sp (vs ++ dvs) H Q E) : wpAny (model X.prog X.w) X.A (call (.ref f) us) (EP X pins σ Q) X.xe s:=by
 have r2 : Vals (vs ++ dvs) (us ++ ds):=r.append hd
 have hl : (us ++ ds).length = ps.length:=by rw [← r2.length]; exact F.len _ _ _ _ h
 refine wpAny_call (codeAny_mono (F.run X.A X.stack s H ⟨us, []⟩ (us ++ ds) (vs ++ dvs) Q E hr I.env0 (hb s us I.kIn hl) r2 h) fun r s' hq => ?_)
 cases r with
 | error e => exact hx pins σ H s e s' I hq
 | ok fl =>
  cases fl with
  | ret u => exact I.after hq
  | next => exact False.elim hq
  | brk => exact False.elim hq
  | cont => exact False.elim hq
theorem pe_call (F : FnOk X.prog X.w X.K X.mg X.base CX k f fd ps sp) (hr : Room k X.A) (hg : Gl X x) (hm : X.mg x = some (.ref f)) (hk : PySem.W.keepIn X.K (.ref f) = true) (hb : Binds X.K fd ps ds) (hd : Vals dvs ds) (hx : Passes CX X E)
  (ha : PA X (e :: es) t) (hdb : (x == ("__debug__" : Str)) = false:=by decide) (he : starEach (e :: es) X.env = (false, eval e X.env) :: starEach es X.env:=by rfl) (hpl : (backTo pos (starEach es X.env)).any (·.1) = false:=by rfl) :
  PE X (.Call (.Name x p) (e :: es) [] pos) (tCall sp dvs E t):=by
 intro pins s σ H Q I h
 refine wpAny_Call_Name_kw (ld_glob I hg hm ?_ hdb)
 refine PySem.W.callWith_K (h₀:=X.base) I.ok.mod.kin hk (thn (ha pos pins s σ H _ I h) fun us s1 ⟨vs, H1, I1, r, q⟩ => ⟨I1.kIn, ?_⟩) he hpl
 exact run_fn F hr hb hd hx I1 r q
end
section
variable {X : Cx} {CX : CXT} {k : Nat} {f C : Addr} {fd : FuncData} {ps ks : List Str} {sp : Sp} {E : XK} {x m : Str} {p pos apos kpos : Pos} {e o : Expr} {es : List Expr} {kws : List Keyword} {te ta : TE} {t tk : TA} {nm : Option Str}
variable {g : List Value->List Value->List Value} {gV : List V->List V->List V}
end
structure FnScope (N P : List Str) (sc : Scope) : Prop where
 kind : sc.kind = .function
 co : sc.isCoroutine = false
 gen : sc.isGenerator = false
 nd : N.Nodup
 pre : N.take P.length = P
 par : ∀ x ∈ P, sc.names.lookup x = some .local\/sc.names.lookup x = some .cell
 nofree : ∀ y ∈ sc.names, y.2 ≠ .free
theorem bindL_out {kindOf : Str->Option NameKind} {x : Str} : ∀ {binds : List (Str × Value)} {m : Str->Option Value}, (∀ v, (x, v) ∉ binds)->bindL kindOf binds m x = m x
 | [], _, _ => rfl
 | (n, v) :: r, m, h => by
  unfold bindL
  rw [bindL_out fun w hw => h w (List.mem_cons_of_mem _ hw)]
  split
  ·have : x ≠ n:=by rintro rfl; exact h v List.mem_cons_self
   simp [this]
  ·rfl
theorem bindC_out {kindOf : Str->Option NameKind} {x : Str} : ∀ {binds : List (Str × Value)} {m : Str->Option Value}, (∀ v, (x, v) ∉ binds)->bindC kindOf binds m x = m x
 | [], _, _ => rfl
 | (n, v) :: r, m, h => by
  unfold bindC
  rw [bindC_out fun w hw => h w (List.mem_cons_of_mem _ hw)]
  split
  ·rfl
  ·have : x ≠ n:=by rintro rfl; exact h v List.mem_cons_self
   simp [this]
theorem bindL_get {kindOf : Str->Option NameKind} {x : Str} {v : Value} : ∀ {P : List Str} {vs : List Value} {i : Nat} {m : Str->Option Value}, P.Nodup->P[i]? = some x->vs[i]? = some v->kindOf x = some .local ->
  bindL kindOf (P.zip vs) m x = some v
 | [], _, _, _, _, h, _, _ => by simp at h
 | _ :: _, [], _, _, _, _, h, _ => by simp at h
 | p :: P, w :: vs, 0, m, nd, h1, h2, hk => by
  simp at h1 h2; subst h1; subst h2
  show bindL kindOf ((p, w) :: P.zip vs) m p = _
  unfold bindL
  rw [bindL_out fun v hv => (List.nodup_cons.mp nd).1 (List.of_mem_zip hv).1, if_pos hk]
  simp
 | p :: P, w :: vs, i + 1, m, nd, h1, h2, hk => by
  show bindL kindOf ((p, w) :: P.zip vs) m x = _
  unfold bindL
  exact bindL_get (i:=i) (List.nodup_cons.mp nd).2 (by simpa using h1) (by simpa using h2) hk
theorem bindC_get {kindOf : Str->Option NameKind} {x : Str} {v : Value} : ∀ {P : List Str} {vs : List Value} {i : Nat} {m : Str->Option Value}, P.Nodup->P[i]? = some x->vs[i]? = some v->kindOf x ≠ some .local ->
  bindC kindOf (P.zip vs) m x = some v
 | [], _, _, _, _, h, _, _ => by simp at h
 | _ :: _, [], _, _, _, _, h, _ => by simp at h
 | p :: P, w :: vs, 0, m, nd, h1, h2, hk => by
  simp at h1 h2; subst h1; subst h2
  show bindC kindOf ((p, w) :: P.zip vs) m p = _
  unfold bindC
  rw [bindC_out fun v hv => (List.nodup_cons.mp nd).1 (List.of_mem_zip hv).1, if_neg hk]
  simp
 | p :: P, w :: vs, i + 1, m, nd, h1, h2, hk => by
  show bindC kindOf ((p, w) :: P.zip vs) m x = _
  unfold bindC
  exact bindC_get (i:=i) (List.nodup_cons.mp nd).2 (by simpa using h1) (by simpa using h2) hk
noncomputable def start (N : List Str) (vs : List V) : St:=vs.map some ++ List.replicate (N.length - vs.length) none
noncomputable def cxOf (CX : CXT) (P : Program) (w : World) (K : PySem.W.Frag) (mg : Str->Option Value) (base : Heap) (N : List Str) (qual : Str) (scope : Scope) (f : Addr) (cd : Value) (A : Around) (outer : List Env) (s : Shared) (H : Hp) (E : XK) : Cx where
 prog:=P
 w:=w
 K:=K
 mg:=mg
 base:=base
 A:=A.deeper (envOfC qual scope s.heap.objs.size f cd)
 N:=N
 s₀:=s
 H₀:=H
 env:=envOfC qual scope s.heap.objs.size f cd
 outer:=outer
 stack:=envOfC qual scope s.heap.objs.size f cd :: outer
 ex:=[]
 calm:=true
 fn:=fun _ => true
 pn:=[]
 xe:=fun e s' => wpAny (model P w) (A.deeper (envOfC qual scope s.heap.objs.size f cd)) (leaving (envOfC qual scope s.heap.objs.size f cd) e) (fun _ s'' => CX outer H s E e s'') (fun e' s'' => CX outer H s E e' s'') s'
theorem cell_has {sc : Scope} {n : Nat} {x : Str} (h : sc.names.lookup x = some .cell) : ∃ c, (cellsFrom n sc.names []).lookup x = some c:=by
 have q:=PySem.W.cellsFrom_some sc.names n [] (.inl h)
 exact Option.isSome_iff_exists.mp q
theorem inv_start {CX : CXT} {P : Program} {w : World} {K : PySem.W.Frag} {mg : Str->Option Value} {base : Heap} {N ps : List Str} {qual : Str} {scope : Scope} {f : Addr} {cd : Value} {A : Around} {outer : List Env} {s s1 : Shared} {H : Hp} {E : XK} {us : List Value} {vs : List V}
  (S : FnScope N ps scope) (hd : A.handled = none) (e0 : Env0 P w K mg base A outer s H) (hl : vs.length = ps.length) (r : Vals vs us)
  (x : InCallC s s.heap.objs.size (bindL (envOfC qual scope s.heap.objs.size f cd).kindOf (ps.zip us) fun _ => none) (cellsFrom (s.heap.objs.size + 1) scope.names []) (bindC (envOfC qual scope s.heap.objs.size f cd).kindOf (ps.zip us) fun _ => none) s1) :
  Inv (cxOf CX P w K mg base N qual scope f cd A outer s H E) [] (start N vs) H s1:=by
 have hpl : ps.length<=N.length:=by have:=congrArg List.length S.pre; rw [List.length_take] at this; row_cond lo
 obtain ⟨h1, tk, rfl, hk⟩:=x.done
 have noA : ∀ b : Addr, b ∉ (cxOf CX P w K mg base N qual scope f cd A outer s H E).ex:=fun b z => absurd (show b ∈ ([] : List Addr) from z) (by simp)
 refine ⟨⟨e0.mod, S.kind, rfl, rfl, Nat.le_refl _, fun y z c h1 h2 => ?_, fun y hy => ?_, fun y c _ h => ?_, fun _ => hd, Around.frames_deeper e0.frames, .inr ⟨rfl, rfl⟩, fun b z => absurd z (noA b), e0.bs, e0.bsz, fun b _ _ => noA b, fun b z => absurd z (noA b), e0.funs, e0.frf⟩,
  rfl, e0.bare, Un.kept hk, ⟨_, x.toInCall.ns, fun i y v h1 h2 h3 => ?_⟩, fun y c h => ⟨_, x.cell y c h⟩, e0.hok.fresh (Nat.le_refl _), fun y c h => ?_, fun p hp => absurd (show p ∈ ([] : List (Addr × Obj)) from hp) (by simp), e0.hok.kept hk, ?_⟩
 ·exact name_of_addr x.apart (PySem.mem_of_lookup h1) (PySem.mem_of_lookup h2)
 ·have hy : scope.names.lookup y = some .cell\/scope.names.lookup y = some .free:=hy
  rcases hy with hy | hy
  ·exact cell_has hy
  ·exact absurd rfl (S.nofree _ (PySem.mem_of_lookup hy))
 ·exact Nat.le_of_lt (x.above y c (PySem.mem_of_lookup h))
 ·have hi : i < vs.length:=by
   unfold start at h2
   by_cases hi : i < vs.length
   ·exact hi
   ·rw [List.getElem?_append_right (by simpa using hi)] at h2
    rw [List.getElem?_replicate] at h2
    split at h2 <;> cases h2
  have ha : vs[i]? = some v:=by
   unfold start at h2
   rw [List.getElem?_append_left (by simpa using hi), List.getElem?_map] at h2
   cases e : vs[i]? with
   | none => rw [e] at h2; cases h2
   | some a => rw [e] at h2; cases h2; rfl
  obtain ⟨u, hu, rv⟩:=r.get ha
  have hp : ps[i]? = some y:=by
   rw [← S.pre, List.getElem?_take_of_lt (by row_cond lo)]; exact h1
  have ndP : ps.Nodup:=by rw [← S.pre]; exact S.nd.sublist (List.take_sublist _ _)
  refine ⟨u, rv, ?_⟩
  rcases S.par y (List.mem_of_getElem? hp) with k | k
  ·exact .inl ⟨k, bindL_get ndP hp hu k⟩
  ·obtain ⟨c, e⟩:=cell_has (n:=s.heap.objs.size + 1) k
   refine .inr ⟨.inl k, c, e, ?_⟩
   have q:=x.cell y c e
   rw [bindC_get ndP hp hu (by show scope.names.lookup y ≠ _; rw [k]; decide)] at q
   exact q
 ·exact e0.hok.fresh (Nat.le_of_lt (x.above y c (PySem.mem_of_lookup h)))
 ·unfold start
  show _ = N.length
  rw [List.length_append, List.length_map, List.length_replicate]
  row_cond lo
theorem fn_of {CX : CXT} {P : Program} {w : World} {K : PySem.W.Frag} {mg : Str->Option Value} {base : Heap} {k : Nat} {f : Addr} {name qual : Str} {params : Arguments} {body : List Stmt} {scope : Scope} {dV kV doc pm cdv ct oc : Value} {an od : Option Addr}
  {osl : Array (Option Value)} {N ps : List Str} {sp : Sp} (lk : K.lookup f = some ⟨oc, od, .func (PySem.W.fnOf name qual params body scope dV kV doc pm an cdv ct), osl⟩) (hcd : PySem.W.codeIn K cdv qual = true) (S : FnScope N ps scope)
  (len : ∀ vs H Q E, sp vs H Q E->vs.length = ps.length)
  (hbody : ∀ (A : Around) (outer : List Env) (s : Shared) (H : Hp) (vs : List V) (Q : VK) (E : XK), Room k (A.deeper (envOfC qual scope s.heap.objs.size f cdv))->sp vs H Q E ->
   ∃ t, PSs (cxOf CX P w K mg base N qual scope f cdv A outer s H E) body t/\t { nx:=fun _ H' => Q .non H', rt:=Q } (start N vs) H) :
  FnOk P w K mg base CX (k + 1) f (PySem.W.fnOf name qual params body scope dV kV doc pm an cdv ct) ps sp:=by
 refine ⟨len, fun A outer s H args us vs Q E hr e0 hb r hsp => ?_⟩
 have hl:=len _ _ _ _ hsp
 have KX : K.In s.heap:=e0.mod.kin.keeps fun b o e => (e0.bs b o e).1
 have lim : s.heap.NoLimit:=e0.mod.nolimit.keeps fun b o e => (e0.bs b o e).1
 have hkind : ∀ y ∈ ps.zip us, scope.names.lookup y.1 = some .local\/(scope.names.lookup y.1 = some .cell/\((cellsFrom (s.heap.objs.size + 1) scope.names []).lookup y.1).isSome = true):=fun ⟨n, v⟩ hy => by
  rcases S.par n (List.of_mem_zip hy).1 with q | q
  ·exact .inl q
  ·exact .inr ⟨q, PySem.W.cellsFrom_some _ _ _ (.inl q)⟩
 refine codeAny_call_function hr.depth (KX _ _ lk) rfl S.co S.gen rfl (PySem.W.codeRec_of KX hcd) (hb _ _ _ _ ?_)
 refine wpAny_newFunctionEnv_cells S.kind hkind fun env he s1 x => ?_
 subst he
 refine ⟨lim.keeps x.toInCall.keep, codeAny_func ?_⟩
 obtain ⟨t, ht, hq⟩:=hbody A outer s H vs Q E (hr.deeper _) hsp
 have I : Inv (cxOf CX P w K mg base N qual scope f cdv A outer s H E) [] (start N vs) H s1:=inv_start S hr.hd e0 hl r x
 refine wpAny_mono (ht [] s1 (start N vs) H _ I hq) (fun fl s' hs => ?_) fun e s' hs => hs
 have fin : ∀ {σ' : St} {H' : Hp} {v : V} {u : Value}, Inv (cxOf CX P w K mg base N qual scope f cdv A outer s H E) [] σ' H' s'->RelV v u->Q v H'->CE outer P w H s Q u s' :=
  fun {σ' H' v u} J rv q => ⟨v, H', J.os, J.bare, J.base, J.hok, rv, q⟩
 cases fl with
 | ret u =>
  obtain ⟨v, σ', H', J, rv, q⟩:=hs
  exact fin J rv q
 | next =>
  obtain ⟨σ', H', J, q⟩:=hs
  exact fin (v:=V.non) (u:=Value.none) J rfl q
 | brk =>
  obtain ⟨_, _, _, q⟩:=hs
  exact False.elim q
 | cont =>
  obtain ⟨_, _, _, q⟩:=hs
  exact False.elim q
end L2
namespace L2
open PySem PySem.Spec PyProof.Rows
section
variable {X : Cx} {x : Str} {p pos : Pos} {e : Expr} {es : List Expr} {t : TA} {id T : String} {r : List V->Hp->VK->Prop}
def tCB (r : List V->Hp->VK->Prop) (t : TA) : TE:=fun σ H Q => t σ H fun vs H1 => r vs H1 Q
theorem pe_callB (hc : CallR X (.builtin id) r) (hg : Gl X x) (hm : X.mg x = none) (hv : bootBuiltins x = some (.builtin id)) (ha : PA X (e :: es) t) (hn : x ≠ "__name__":=by decide) (hdb : (x == ("__debug__" : Str)) = false:=by decide)
  (he : starEach (e :: es) X.env = (false, eval e X.env) :: starEach es X.env:=by rfl) (hpl : (backTo pos (starEach es X.env)).any (·.1) = false:=by rfl) : PE X (.Call (.Name x p) (e :: es) [] pos) (tCB r t):=by
 intro pins s σ H Q I h
 refine wpAny_Call_Name_kw (ld_blt I hg hm hv ?_ hn hdb)
 exact PyProof.Rows.callWith_builtin1 (thn (ha pos pins s σ H _ I h) fun us s1 ⟨vs, H1, I1, r1, q1⟩ => hc pins s1 σ H1 vs us Q I1 r1 q1) he hpl
end
end L2
namespace HT
open PySem PyProof.Rows
section
open PySem.SeqAt
open PySem.AutoSeq1 (wpAny_loadPart')
open PySem.MeetsSeq PySem.MeetsSeq2 PySem.MeetsSeq3
end
section
variable {prog : Program} {w : World} {A : Around} {E : Value->Shared->Prop} {s : Shared}
end
end HT
namespace L2
open PySem PySem.Spec PyProof.Rows
noncomputable abbrev TO:=St->Hp->(Option Int->Hp->Prop)->Prop
theorem intsAre_of {ns : List Int} : ∀ {us : List Value}, Vals (ns.map V.int) us->IntsAre us ns:=by
 induction ns with
 | nil => intro us r; rw [List.map_nil] at r; cases r; exact .nil
 | cons n ns ih =>
  intro us r
  rw [List.map_cons] at r
  cases r with
  | cons r1 r2 =>
   obtain ⟨t, e⟩:=r1
   subst e
   exact .cons n t (ih r2)
section
variable {X : Cx} {e : Expr} {te : TE} {lo hi : Option Expr} {tl th : TO} {pos p2 : Pos}
def SlR (X : Cx) (r : V->Option Int->Option Int->Hp->VK->Prop) : Prop :=
 ∀ (pins : List (Addr × Obj)) (s : Shared) (σ : St) (H : Hp) (x : V) (v vl vu : Value) (lo hi : Option Int) (sl : Addr) (Q : VK), Inv X pins σ H s->RelV x v->s.heap.IsSliceOf sl vl vu .none->IsPart vl lo->IsPart vu hi->r x lo hi H Q ->
  ∃ T id, typeLookup (.type T) "__getitem__" = pure (some (.builtin id))/\s.TypeIs v T/\wpAny (model X.prog X.w) X.A (getItem v (.ref sl)) (EP X pins σ Q) X.xe s
theorem SlR.or {r r' : V->Option Int->Option Int->Hp->VK->Prop} (h : SlR X r) (h' : SlR X r') : SlR X (fun x lo hi H Q => r x lo hi H Q\/r' x lo hi H Q):=by
 intro pins s σ H x v vl vu lo hi sl Q I rx hs pl pu q
 rcases q with q | q
 ·exact h pins s σ H x v vl vu lo hi sl Q I rx hs pl pu q
 ·exact h' pins s σ H x v vl vu lo hi sl Q I rx hs pl pu q
end
end L2
namespace L2
open PySem PySem.Spec PyProof.Rows
noncomputable def ixN (n : Nat) (i : Int) : Option Nat:=if 0<=i then (if i < n then some i.toNat else none) else if -(n : Int)<=i then some (i + n).toNat else none
noncomputable def atI {α : Type} (xs : List α) (i : Int) : Option α:=(ixN xs.length i).bind fun j => xs[j]?
theorem ixN_seq {n : Nat} {i : Int} {j : Nat} (h : ixN n i = some j) : seqIndex? i n = some j/\j < n/\-(n : Int)<=i/\i < n:=by
 unfold ixN at h
 by_cases h0 : 0<=i
 ·rw [if_pos h0] at h
  by_cases h1 : i < n
  ·rw [if_pos h1] at h
   have e : i.toNat = j:=Option.some.inj h
   exact ⟨by rw [seqIndex_of h0 h1, e], by row_cond lo, by row_cond lo, h1⟩
  ·rw [if_neg h1] at h; cases h
 ·rw [if_neg h0] at h
  by_cases h1 : -(n : Int)<=i
  ·rw [if_pos h1] at h
   have e : (i + n).toNat = j:=Option.some.inj h
   exact ⟨by rw [seqIndex_neg (by row_cond lo) h1, e], by row_cond lo, h1, by row_cond lo⟩
  ·rw [if_neg h1] at h; cases h
theorem atI_get {α : Type} {xs : List α} {i : Int} {v : α} (h : atI xs i = some v) : ∃ j, seqIndex? i xs.length = some j/\xs[j]? = some v/\j < xs.length/\-(xs.length : Int)<=i/\i < xs.length:=by
 unfold atI at h
 cases e : ixN xs.length i with
 | none => rw [e] at h; cases h
 | some j =>
  rw [e] at h
  obtain ⟨h1, h2, h3, h4⟩:=ixN_seq e
  exact ⟨j, h1, h, h2, h3, h4⟩
theorem atI_nat {α : Type} {xs : List α} {j : Nat} {v : α} (h : xs[j]? = some v) : atI xs (j : Int) = some v:=by
 have hj : j < xs.length:=(List.getElem?_eq_some_iff.mp h).1
 have e : ixN xs.length (j : Int) = some j:=by
  unfold ixN
  rw [if_pos (by row_cond lo), if_pos (by row_cond lo)]; simp
 unfold atI; rw [e]; exact h
def PlainIx (b : Expr) : Prop:=∀ o i, subscripted b false o i = operate [o, i] (getItem o i)
def IxR (X : Cx) (r : R2) : Prop :=
 ∀ (value slice : Expr) (pins : List (Addr × Obj)) (s : Shared) (σ : St) (H : Hp) (x y : V) (v u : Value) (Q : VK), Inv X pins σ H s->RelV x v->RelV y u->r x y H Q ->
  subscripted slice false v u = operate [v, u] (getItem v u)->wpAny (model X.prog X.w) X.A (subscriptTail value slice v u) (EP X pins σ Q) X.xe s
def MtR (X : Cx) (id : String) (r : V->List V->Hp->VK->Prop) : Prop :=
 ∀ (pins : List (Addr × Obj)) (s : Shared) (σ : St) (H : Hp) (x : V) (xs : List V) (v : Value) (us : List Value) (Q : VK), Inv X pins σ H s->RelV x v->Vals xs us->r x xs H Q ->
  wpAny (model X.prog X.w) X.A (call (.builtin id) (v :: us)) (EP X pins σ Q) X.xe s
section
variable {X : Cx} {a b : Expr} {ta tb : TE} {pos : Pos}
theorem IxR.or {r r' : R2} (h : IxR X r) (h' : IxR X r') : IxR X (fun x y H Q => r x y H Q\/r' x y H Q):=by
 intro value slice pins s σ H x y v u Q I rx ry q hs
 rcases q with q | q
 ·exact h value slice pins s σ H x y v u Q I rx ry q hs
 ·exact h' value slice pins s σ H x y v u Q I rx ry q hs
theorem MtR.or {id : String} {r r' : V->List V->Hp->VK->Prop} (h : MtR X id r) (h' : MtR X id r') : MtR X id (fun x xs H Q => r x xs H Q\/r' x xs H Q):=by
 intro pins s σ H x xs v us Q I rx rs q
 rcases q with q | q
 ·exact h pins s σ H x xs v us Q I rx rs q
 ·exact h' pins s σ H x xs v us Q I rx rs q
theorem pe_ix {r : R2} (hr : IxR X r) (ha : PE X a ta) (hb : PE X b tb) (hs : PlainIx b) : PE X (.Subscript a b pos) (tOp r ta tb):=by
 intro pins s σ H Q I h
 exact Subscript_ (binT ha hb I h fun v u s2 x y H2 I2 rx ry q => hr a b pins s2 σ H2 x y v u Q I2 rx ry q (hs _ _))
def rIxL (K : PySem.W.Frag) : R2:=fun x y H Q => ∃ p xs i v, x = .ref p/\y = .int i/\SqL K H p xs/\atI xs i = some v/\Q v H
def rIxT (K : PySem.W.Frag) : R2:=fun x y H Q => ∃ p xs i v, x = .ref p/\y = .int i/\SqT K H p xs/\atI xs i = some v/\Q v H
theorem ix_list : IxR X (rIxL X.K):=by
 intro value slice pins s σ H x y v u Q I rx ry h hs
 obtain ⟨p, xs, i, z, rfl, rfl, hq, he, q⟩:=h
 cases rx
 obtain ⟨t, rfl⟩:=ry
 obtain ⟨its, r, pl, hz⟩:=I.list hq
 obtain ⟨j, h1, h2, h3, h4, h5⟩:=atI_get he
 obtain ⟨w, ew, rw'⟩:=r.get h2
 have hl:=r.length
 have hn:=line63
 have fin : EP X pins σ Q w s:=⟨z, H, I, rw', q⟩
 by_cases h0 : 0<=i
 ·have hj : i.toNat = j:=by
   rw [seqIndex_of h0 h5] at h1
   exact Option.some.inj h1
  exact item_listR pl.isList h0 (by row_cond lo) (by rw [hj]; simpa using ew) fin hs
 ·have hj : (i + (its.toArray.size : Int)).toNat = j:=by
   rw [seqIndex_neg (by row_cond lo) h4] at h1
   rw [List.size_toArray, ← hl]
   exact Option.some.inj h1
  exact subscriptTail_builtinR (x:=w) pl.isList.typeIs slot_list_getitem.lookup
   (wpAny_getItem_list_neg (Q:=fun r s' => r = w/\EP X pins σ Q r s') pl.isList (by row_cond lo) (by rw [List.size_toArray] <;> row_cond lo) (by row_cond lo) (by rw [hj]; simpa using ew) ⟨rfl, fin⟩) hs
theorem ix_tup : IxR X (rIxT X.K):=by
 intro value slice pins s σ H x y v u Q I rx ry h hs
 obtain ⟨p, xs, i, z, rfl, rfl, hq, he, q⟩:=h
 cases rx
 obtain ⟨t, rfl⟩:=ry
 obtain ⟨its, r, pl, hz⟩:=I.tuple hq
 obtain ⟨j, h1, h2, h3, h4, h5⟩:=atI_get he
 obtain ⟨w, ew, rw'⟩:=r.get h2
 have hl:=r.length
 have hn:=line63
 have fin : EP X pins σ Q w s:=⟨z, H, I, rw', q⟩
 exact subscriptTail_builtinR (x:=w) pl.typeIs slot_tuple_getitem.lookup
  (getItem_tuple (j:=j) (Q:=fun r s' => r = w/\EP X pins σ Q r s') pl (by row_cond lo) (by row_cond lo) (by rw [List.size_toArray, ← hl]; exact h1) (by simpa using ew) ⟨rfl, fin⟩) hs
theorem mapSeq_set (its : List Value) (n j : Nat) (u : Value) : Obj.mapSeq (·.setIfInBounds j u) { cls:=.type "list", data:=.seq its.toArray n } = { cls:=.type "list", data:=.seq (its.set j u).toArray n }:=by
 simp [Obj.mapSeq]
theorem Inv.lst {pins : List (Addr × Obj)} {σ : St} {H : Hp} {s : Shared} {p : Addr} {xs : List V} (I : Inv X pins σ H s) (h : H p = some (.lst xs)) :
  ∃ (its : List Value) (n : Nat), Vals xs its/\s.heap.get? p = some { cls:=.type "list", data:=.seq its.toArray n }/\xs.length<=sizeLine:=by
 obtain ⟨z, its, n, r, e⟩:=I.hok p _ h
 exact ⟨its, n, r, e, z⟩
theorem Inv.lstUpd {pins : List (Addr × Obj)} {σ : St} {H : Hp} {s : Shared} {p : Addr} {xs ys : List V} {its its' : List Value} {n n' : Nat} {f : Obj->Obj} (I : Inv X pins σ H s) (h : H p = some (.lst xs))
  (ho : s.heap.get? p = some { cls:=.type "list", data:=.seq its.toArray n }) (hf : f { cls:=.type "list", data:=.seq its.toArray n } = { cls:=.type "list", data:=.seq its'.toArray n' }) (r : Vals ys its') (hz : ys.length<=sizeLine) (t : Nat) :
  Inv X pins σ (upd H p (.lst ys)) { s with heap:=s.heap.update p f, toks:=t }:=by
 have e : (s.heap.update p f).get? p = some { cls:=.type "list", data:=.seq its'.toArray n' }:=by
  rw [Heap.get?_update_self f ho (by rw [hf] <;> rfl), hf]
 refine I.write (x:=p) (e:=p) (by rw [h]; trivial) (.inl rfl) (fun b u hb q => (Heap.get?_update_other _ _ (Ne.symm hb)).trans q) ⟨_, e⟩ ?_
 exact ⟨hz, its', n', r, e⟩
def rSetL : V->V->V->Hp->(Hp->Prop)->Prop:=fun o i v H Q => ∃ p xs k j, o = .ref p/\i = .int k/\H p = some (.lst xs)/\ixN xs.length k = some j/\Q (upd H p (.lst (xs.set j v)))
theorem set_list : PSet X rSetL:=by
 intro pins s σ H o i v ov iv u Q I ro ri rv h
 obtain ⟨p, xs, k, j, rfl, rfl, hp, hj, q⟩:=h
 cases ro
 obtain ⟨t, rfl⟩:=ri
 obtain ⟨its, n, r, ho, hz⟩:=I.lst hp
 obtain ⟨h1, h2, h3, h4⟩:=ixN_seq hj
 have hl:=r.length
 have hn:=line63
 have I' : Inv X pins σ (upd H p (.lst (xs.set j v))) { s with heap:=s.heap.update p (Obj.mapSeq (·.setIfInBounds j u)) } :=
  I.lstUpd hp ho (mapSeq_set its n j u) (r.set rv j) (by rw [List.length_set]; exact hz) s.toks
 by_cases h0 : 0<=k
 ·have hk : k.toNat = j:=by
   rw [seqIndex_of h0 h4] at h1
   exact Option.some.inj h1
  exact PySem.W.ki_setAt ho h0 (by row_cond lo) (by rw [List.size_toArray, ← hl]; exact h4) (by rw [hk]; exact ⟨_, I', q⟩)
 ·have hk : (k + (its.toArray.size : Int)).toNat = j:=by
   rw [seqIndex_neg (by row_cond lo) h3] at h1
   rw [List.size_toArray, ← hl]
   exact Option.some.inj h1
  exact PySem.W.ki_setBack ho (by row_cond lo) (by rw [List.size_toArray, ← hl]; exact h3) (by row_cond lo) (by rw [hk]; exact ⟨_, I', q⟩)
theorem call_len_seq : CallR X (.builtin "len") (fun xs H Q => ∃ p ys, xs = [.ref p]/\(SqL X.K H p ys\/SqT X.K H p ys)/\Q (.int ys.length) H):=by
 intro pins s σ H xs us Q I r h
 obtain ⟨p, ys, rfl, hq, q⟩:=h
 obtain ⟨u, rfl, rx⟩:=vals1 r
 cases rx
 have hn:=line63
 rcases hq with hq | hq
 ·obtain ⟨its, r', pl, hz⟩:=I.list hq
  have hlen:=r'.length
  exact Calls.call_len_list pl.isList (by simp only [List.size_toArray] <;> row_cond lo) ⟨.int ys.length, H, I.tok _, ⟨s.toks + 1, by rw [List.size_toArray, hlen]⟩, q⟩
 ·obtain ⟨its, r', pl, hz⟩:=I.tuple hq
  have hlen:=r'.length
  exact len_tuple pl (by simp only [List.size_toArray] <;> row_cond lo) ⟨.int ys.length, H, I.tok _, ⟨s.toks + 1, by rw [List.size_toArray, hlen]⟩, q⟩
theorem CallR.or {f : Value} {r r' : List V->Hp->VK->Prop} (h : CallR X f r) (h' : CallR X f r') : CallR X f (fun xs H Q => r xs H Q\/r' xs H Q):=by
 intro pins s σ H xs us Q I rs q
 rcases q with q | q
 ·exact h pins s σ H xs us Q I rs q
 ·exact h' pins s σ H xs us Q I rs q
def tyV (K : PySem.W.Frag) (T : String) (x : V) (H : Hp) : Prop:=match x with
 | .str _ => T = "str"
 | .int _ => T = "int"
 | .ref p => (T = "list"/\∃ xs, SqL K H p xs)\/(T = "tuple"/\∃ o, K.lookup p = some o/\o.cls = .type "tuple"/\o.dict = none) ∨
   (T = "dict"/\((∃ kvs, H p = some (.dK kvs))\/∃ kvs, H p = some (.dT kvs)))\/(T = "set"/\∃ S n, H p = some (.set S n))
 | _ => False
theorem tyV_is {pins : List (Addr × Obj)} {σ : St} {H : Hp} {s : Shared} {T : String} {x : V} {v : Value} (I : Inv X pins σ H s) (r : RelV x v) (ty : tyV X.K T x H) :
  s.TypeIs v T/\∀ a, v = .ref a->∃ ob, s.heap.get? a = some ob/\ob.dict = none:=by
 cases x with
 | str z =>
  obtain ⟨t, rfl⟩:=r
  cases (show T = "str" from ty)
  exact ⟨typeIs_str s z t, fun _ e => nomatch e⟩
 | int i =>
  obtain ⟨t, rfl⟩:=r
  cases (show T = "int" from ty)
  exact ⟨typeIs_int s i t, fun _ e => nomatch e⟩
 | ref p =>
  cases r
  rcases ty with ⟨rfl, xs, hq⟩ | ⟨rfl, o, hk, hc, hd⟩ | ⟨rfl, hk⟩ | ⟨rfl, S, n, hk⟩
  ·obtain ⟨its, _, pl, _⟩:=I.list hq
   refine ⟨pl.isList.typeIs, fun a e => ?_⟩
   cases e
   obtain ⟨o, n, e, c, hd, _⟩:=pl
   exact ⟨o, e, hd⟩
  ·refine ⟨⟨o, I.kIn p o hk, hc⟩, fun a e => ?_⟩
   cases e
   exact ⟨o, I.kIn _ o hk, hd⟩
  ·have z : ∃ o, s.heap.get? p = some o/\o.ExactDict:=by
    rcases hk with ⟨kvs, hk⟩ | ⟨kvs, hk⟩
    ·obtain ⟨_, _, _, _, o, _, _, e, ex, _⟩:=I.hok p _ hk
     exact ⟨o, e, ex⟩
    ·obtain ⟨_, _, _, _, o, _, _, e, ex, _⟩:=I.hok p _ hk
     exact ⟨o, e, ex⟩
   obtain ⟨o, e, ex⟩:=z
   refine ⟨⟨o, e, ex.1⟩, fun a e2 => ?_⟩
   cases e2
   exact ⟨o, e, ex.2.1⟩
  ·obtain ⟨o, _, _, _, e, ex, _⟩:=I.hok p _ hk
   refine ⟨⟨o, e, ex.1⟩, fun a e2 => ?_⟩
   cases e2
   exact ⟨o, e, ex.2.1⟩
 | _ => exact False.elim ty
def tBM (K : PySem.W.Frag) (T : String) (r : V->List V->Hp->VK->Prop) (to : TE) (t : TA) : TE:=fun σ H Q => to σ H fun x H1 => tyV K T x H1/\t σ H1 fun xs H2 => r x xs H2 Q
variable {o e : Expr} {es : List Expr} {to : TE} {t : TA} {name : Str} {apos cpos : Pos} {T id : String} {r : V->List V->Hp->VK->Prop}
theorem pe_bm (pa : PlainAttrs T) (slot : Slot T name id) (hty : typeOf (.builtin id) = pure (.type "method_descriptor")) (hm : MtR X id r) (ho : PE X o to) (ha : PA X (e :: es) t)
  (hbase : attributeBase o name X.env (eval o X.env) = eval o X.env:=by rfl)
  (hfew : ((backTo cpos (starEach (e :: es) X.env)).all (fun x => !x.1) && (backToKw cpos (keywordEach [] X.env)).all (fun x => x.1.isSome)
   && decide ((e :: es).length + ([] : List Keyword).length + (if ([] : List Keyword).isEmpty then 0 else 1) < 30)) = true:=by rfl)
  (hline : (apos.endLine == cpos.line) = true:=by rfl) (hs : starEach (e :: es) X.env = (false, eval e X.env) :: starEach es X.env:=by rfl) (hplain : (backTo cpos (starEach es X.env)).any (·.1) = false:=by rfl) :
  PE X (.Call (.Attribute o name apos) (e :: es) [] cpos) (tBM X.K T r to t):=by
 intro pins s σ H Q I h
 refine wpAny_Call_method_late hbase hfew hline rfl (thn (ho pins s σ H _ I h) fun v s1 ⟨x, H1, I1, r1, ty, q1⟩ => ?_)
 obtain ⟨h1, h2⟩:=tyV_is I1 r1 ty
 refine ⟨T, id, pa, slot, hty, h1, h2, ?_⟩
 have hA:=ha cpos pins s1 σ H1 _ I1 q1
 rw [hs] at hA ⊢
 refine Calls.callWith_builtin (by show (false || (backTo cpos (starEach es X.env)).any (·.1)) = false; rw [hplain] <;> rfl) (Calls.evalArgs_plain ?_)
 exact thn hA fun us s2 ⟨vs, H2, I2, r2, q2⟩ => hm pins s2 σ H2 x vs v us Q I2 r1 r2 q2
/- xs.append(e), list.index on a module's tuple .. are MtR facts of 06m -/
end
end L2
namespace L2
open PySem PySem.Spec PyProof.Rows
def MtM (X : Cx) (id : String) (r : V->List V->Hp->VK->Prop) : Prop :=
 ∀ (pins : List (Addr × Obj)) (s : Shared) (σ : St) (H : Hp) (x : V) (xs : List V) (v : Value) (us : List Value) (Q : VK), Inv X pins σ H s->RelV x v->Vals xs us->r x xs H Q ->
  wpAny (model X.prog X.w) X.A (call (.builtin id) (v :: us)) (EP X pins σ Q) X.xe s
theorem Vals.one : ∀ {x : V} {us : List Value}, Vals [x] us->∃ u, us = [u]/\RelV x u
 | _, _, .cons r .nil => ⟨_, rfl, r⟩
theorem Vals.eraseIdx : ∀ {xs : List V} {us : List Value} (i : Nat), Vals xs us->Vals (xs.eraseIdx i) (us.eraseIdx i)
 | _, _, _, .nil => .nil
 | _, _, 0, .cons _ t => t
 | _, _, i + 1, .cons r t => .cons r (Vals.eraseIdx i t)
theorem Vals.reverse {xs : List V} {us : List Value} (h : Vals xs us) : Vals xs.reverse us.reverse:=by
 induction h with
 | nil => exact .nil
 | cons r t ih => rw [List.reverse_cons, List.reverse_cons]; exact Vals.append ih (.cons r .nil)
theorem Vals.rep {xs : List V} {us : List Value} (h : Vals xs us) : ∀ k : Nat, Vals (List.replicate k xs).flatten (List.replicate k us).flatten
 | 0 => .nil
 | k + 1 => by
  rw [List.replicate_succ, List.replicate_succ, List.flatten_cons, List.flatten_cons]
  exact Vals.append h (Vals.rep h k)
section
variable {X : Cx} {pins : List (Addr × Obj)} {σ : St} {H : Hp} {s : Shared} {l b : Addr} {xs ys zs : List V}
theorem Inv.lset {its its' : List Value} {n : Nat} {f : Array Value->Array Value} {t' : Nat} (I : Inv X pins σ H s) (hH : H l = some (.lst xs))
  (e : s.heap.get? l = some { cls:=.type "list", data:=.seq its.toArray n }) (hf : f its.toArray = its'.toArray) (hv : Vals ys its') (hz : ys.length<=sizeLine) :
  Inv X pins σ (upd H l (.lst ys)) { s with heap:=s.heap.update l (Obj.mapSeq f), toks:=t' }:=by
 have q:=PySem.IsL.update e f
 rw [hf] at q
 refine I.write (x:=l) (e:=l) (by rw [hH]; exact trivial) (.inl rfl) (fun b' u hb hu => (Heap.get?_update_other s.heap (Obj.mapSeq f) (Ne.symm hb)).trans hu) ⟨_, q⟩ ?_
 exact ⟨hz, its', _, hv, q⟩
theorem Inv.lnew {its : List Value} {t' : Nat} (I : Inv X pins σ H s) (hv : Vals ys its) (hz : ys.length<=sizeLine) :
  Inv X pins σ (upd H s.heap.objs.size (.lst ys)) { s with heap:=s.heap.push { cls:=.type "list", data:=.seq its.toArray }, toks:=t' } :=
 I.laid (fun _ _ q => Heap.get?_push_of_some _ q) (Nat.le_refl _) ⟨hz, its, 0, hv, Heap.get?_push_size _ rfl⟩
theorem Inv.fresh (I : Inv X pins σ H s) : H s.heap.objs.size = none:=I.hok.fresh (Nat.le_refl _)
theorem Inv.lstM (I : Inv X pins σ H s) (hH : H l = some (.lst xs)) : xs.length<=sizeLine/\∃ (its : List Value) (n : Nat), Vals xs its/\xs.length = its.length/\s.heap.get? l = some { cls:=.type "list", data:=.seq its.toArray n }:=by
 obtain ⟨z, its, n, r, e⟩:=I.hok l _ hH
 exact ⟨z, its, n, r, r.length, e⟩
end
section
variable {X : Cx}
def rAppend : V->List V->Hp->VK->Prop:=fun x vs H Q => ∃ l xs y, x = .ref l/\vs = [y]/\H l = some (.lst xs)/\xs.length < sizeLine/\Q .non (upd H l (.lst (xs ++ [y])))
theorem mt_append : MtM X "list.append" rAppend:=by
 intro pins s σ H x vs v us Q I rx rv h
 obtain ⟨l, xs, y, rfl, rfl, hH, hz, q⟩:=h
 cases rx
 obtain ⟨u, rfl, ru⟩:=rv.one
 obtain ⟨z, its, n, r, hl, e⟩:=I.lstM hH
 refine call_meets F.slot_list_append ⟨_, e, rfl⟩ F.entry_list_append (F.args_list_append_2 _ _) (PySem.list_append l its.toArray n u (by rw [List.size_toArray]; row_cond lo)) ⟨e, ?_⟩
 refine ⟨.non, _, I.lset (its':=its ++ [u]) hH e (by simp) (r.append (.cons ru .nil)) ?_, rfl, q⟩
 rw [List.length_append, List.length_singleton]
 row_cond lo
def rCat : R2:=fun x y H Q => ∃ l b xs zs, x = .ref l/\y = .ref b/\H l = some (.lst xs)/\H b = some (.lst zs)/\xs.length + zs.length<=sizeLine/\∀ p, H p = none->Q (.ref p) (upd H p (.lst (xs ++ zs)))
theorem op_cat : OpR X (binaryOp .Add) rCat:=by
 intro pins s σ H x y v u Q I rx ry h
 obtain ⟨l, b, xs, zs, rfl, rfl, hH, hB, hz, q⟩:=h
 cases rx
 cases ry
 obtain ⟨z, its, n, r, hl, e⟩:=I.lstM hH
 obtain ⟨z2, its2, n2, r2, hl2, e2⟩:=I.lstM hB
 refine PySem.P.add_list e e2 ?_ (by rw [List.size_toArray, List.size_toArray]; row_cond lo)
 have ea : its.toArray ++ its2.toArray = (its ++ its2).toArray:=by simp
 rw [ea]
 exact ⟨.ref _, _, I.lnew (t':=s.toks) (r.append r2) (by rw [List.length_append]; row_cond lo), rfl, q _ I.fresh⟩
end
section
variable {prog : Program} {w : World} {A : Around} {E : Value->Shared->Prop} {s : Shared}
end
section
variable {X : Cx}
end
end L2
namespace L2
open PySem PySem.Spec PyProof.Rows
section
variable {κ : Type} [DecidableEq κ]
noncomputable def valV (kvs : List (κ × V)) (k : κ) : Option V:=(kvs.find? fun kv => decide (kv.1 = k)).map (·.2)
noncomputable def putK (kvs : List (κ × V)) (k : κ) (v : V) : List (κ × V) :=
 if (kvs.any fun kv => decide (kv.1 = k)) = true then kvs.map (fun kv => if kv.1 = k then (kv.1, v) else kv) else kvs ++ [(k, v)]
noncomputable def dropK (kvs : List (κ × V)) (k : κ) : List (κ × V):=kvs.filter fun kv => decide (kv.1 ≠ k)
theorem valV_pos {p : κ × V} {r : List (κ × V)} {k : κ} (e : p.1 = k) : valV (p :: r) k = some p.2:=by simp [valV, List.find?_cons, e]
theorem valV_neg {p : κ × V} {r : List (κ × V)} {k : κ} (e : ¬ p.1 = k) : valV (p :: r) k = valV r k:=by simp [valV, List.find?_cons, e]
theorem RelO.getD {o : Option V} {u : Option Value} {d : V} {d' : Value} (r : RelO o u) (rd : RelV d d') : RelV (o.getD d) (u.getD d'):=by
 cases o with
 | none => cases u with
  | none => exact rd
  | some _ => exact (show False from r).elim
 | some _ => cases u with
  | none => exact (show False from r).elim
  | some _ => exact r
theorem KV.val {kvs : List (κ × V)} {vs : List (κ × Value)} (r : KV kvs vs) (k : κ) : RelO (valV kvs k) (valueAt vs k):=by
 unfold KV at r
 induction r with
 | nil => exact True.intro
 | @cons p q ps qs h t ih =>
  obtain ⟨h1, h2⟩:=h
  by_cases e : p.1 = k
  ·have e' : q.1 = k:=h1.symm.trans e
   have b : valueAt (q :: qs) k = some q.2:=by simp [valueAt, List.find?_cons, e']
   rw [valV_pos e, b]; exact h2
  ·have e' : ¬ q.1 = k:=fun z => e (h1.trans z)
   have b : valueAt (q :: qs) k = valueAt qs k:=by simp [valueAt, List.find?_cons, e']
   rw [valV_neg e, b]; exact ih
theorem KV.any {kvs : List (κ × V)} {vs : List (κ × Value)} (r : KV kvs vs) (k : κ) : (kvs.any fun kv => decide (kv.1 = k)) = vs.any fun kv => decide (kv.1 = k):=by
 unfold KV at r
 induction r with
 | nil => rfl
 | cons h t ih => rw [List.any_cons, List.any_cons, ih, h.1]
theorem KV.drop {kvs : List (κ × V)} {vs : List (κ × Value)} (r : KV kvs vs) (k : κ) : KV (dropK kvs k) (without vs k):=by
 unfold KV at r ⊢
 unfold dropK without
 induction r with
 | nil => exact .nil
 | @cons p q ps qs h t ih =>
  obtain ⟨h1, h2⟩:=h
  rw [List.filter_cons, List.filter_cons]
  by_cases e : p.1 = k
  ·have a : ¬ decide (p.1 ≠ k) = true:=by simp [e]
   have b : ¬ decide (q.1 ≠ k) = true:=by simp [h1.symm.trans e]
   rw [if_neg a, if_neg b]; exact ih
  ·have e' : ¬ q.1 = k:=fun z => e (h1.trans z)
   have a : decide (p.1 ≠ k) = true:=by simp [e]
   have b : decide (q.1 ≠ k) = true:=by simp [e']
   rw [if_pos a, if_pos b]; exact .cons ⟨h1, h2⟩ ih
theorem KV.length {kvs : List (κ × V)} {vs : List (κ × Value)} (r : KV kvs vs) : kvs.length = vs.length:=Paired.length r
end
abbrev KT (H : Hp) : List (List Key × V)->List (List Key × Addr × Value)->Prop:=Paired fun p q => p.1 = q.1/\H q.2.1 = some (.tup (p.1.map kV))/\RelV p.2 q.2.2
theorem KT.val {H : Hp} {kvs : List (List Key × V)} {xs : List (List Key × Addr × Value)} (r : KT H kvs xs) (k : List Key) : RelO (valV kvs k) ((atKey xs k).map (·.2)):=by
 induction r with
 | nil => exact True.intro
 | @cons p q ps qs h t ih =>
  obtain ⟨h1, _, h2⟩:=h
  by_cases e : p.1 = k
  ·have e' : q.1 = k:=h1.symm.trans e
   have b : atKey (q :: qs) k = some q.2:=by simp [atKey, List.find?_cons, e']
   rw [valV_pos e, b]; exact h2
  ·have e' : ¬ q.1 = k:=fun z => e (h1.trans z)
   have b : atKey (q :: qs) k = atKey qs k:=by simp [atKey, List.find?_cons, e']
   rw [valV_neg e, b]; exact ih
theorem KT.keeps {H H' : Hp} {kvs : List (List Key × V)} {xs : List (List Key × Addr × Value)} (r : KT H kvs xs) (ht : ∀ b ys, H b = some (.tup ys)->H' b = some (.tup ys)) : KT H' kvs xs :=
 Paired.mapP r fun _ _ z => ⟨z.1, ht _ _ z.2.1, z.2.2⟩
section
variable {P : Program} {w : World} {H : Hp} {h : Heap} {a : Addr}
end
def DGet (H : Hp) (a : Addr) (y : V) (r : Option V) : Prop :=
 (∃ kvs k, Rd H a (.dK kvs)/\y = kV k/\r = valV kvs k)\/∃ kvs k b, Rd H a (.dT kvs)/\y = .ref b/\H b = some (.tup (k.map kV))/\r = valV kvs k
def DPut (H : Hp) (a : Addr) (y v : V) (H' : Hp) : Prop :=
 (∃ kvs k, H a = some (.dK kvs)/\y = kV k/\kvs.length < sizeLine/\H' = upd H a (.dK (putK kvs k v))) ∨
 ∃ kvs k b, H a = some (.dT kvs)/\y = .ref b/\H b = some (.tup (k.map kV))/\kvs.length < sizeLine/\H' = upd H a (.dT (putK kvs k v))
theorem DGet.k {H : Hp} {a : Addr} {kvs : List (Key × V)} {k : Key} (e : H a = some (.dK kvs)) : DGet H a (kV k) (valV kvs k):=.inl ⟨kvs, k, .inl e, rfl, rfl⟩
theorem DPut.k {H : Hp} {a : Addr} {kvs : List (Key × V)} {k : Key} {v : V} (e : H a = some (.dK kvs)) (hl : kvs.length < sizeLine) : DPut H a (kV k) v (upd H a (.dK (putK kvs k v))):=.inl ⟨kvs, k, e, rfl, hl, rfl⟩
section
variable {X : Cx} {pins : List (Addr × Obj)} {σ : St} {H : Hp} {s : Shared} {a : Addr} {y v : V} {u r : Value} {o : Option V} {A : Around} {E : Value->Shared->Prop}
theorem Inv.big (I : Inv X pins σ H s) : sysModules < s.heap.objs.size:=by
 have h : mainGlobals < s.heap.objs.size:=(I.mod.glob.keeps I.bk).lt
 exact Nat.lt_trans (by decide) h
end
section
variable {X : Cx} {pins : List (Addr × Obj)} {σ : St} {H : Hp} {s : Shared} {a : Addr} {kvs : List (Key × V)} {k : Key} {u : Value} {A : Around} {E : Value->Shared->Prop}
end
section
variable {X : Cx} {o i e value : Expr} {pos pos' tpos : Pos} {td ty tv : TE}
end
theorem dk_empty {P : Program} {w : World} {H : Hp} (h : Heap) (hb : sysModules < h.objs.size) : ObjOk P w H (h.push { cls:=.type "dict", data:=.dict #[] }) h.objs.size (.dK []) :=
 ⟨Nat.zero_le _, beq_eq_false_iff_ne.mpr (Ne.symm (Nat.ne_of_lt hb)), [], .nil, Heap.DictOf.new h⟩
def tDNewK : TE:=fun _ H Q => ∀ p, H p = none->Q (.ref p) (upd H p (.dK []))
section
variable {X : Cx} {pos : Pos}
theorem pe_dnewK : PE X (.Dict [] [] pos) tDNewK:=fun pins s σ H Q I h =>
 wpAny_Dict_empty ⟨.ref s.heap.objs.size, _, I.laid (a:=s.heap.objs.size) (o:=.dK []) (t':=s.toks) (fun _ _ q => Heap.get?_push_of_some _ q) (Nat.le_refl _) (dk_empty s.heap I.big), rfl, h _ (I.hok.fresh (Nat.le_refl _))⟩
end
section
variable {X : Cx} {pins : List (Addr × Obj)} {σ : St} {H : Hp} {s : Shared} {a : Addr} {y d : V} {u r : Value} {o : Option V} {A : Around} {E : Value->Shared->Prop}
end
section
variable {X : Cx} {o e f : Expr} {apos cpos : Pos} {td ty tx : TE}
end
section
variable {X : Cx} {pins : List (Addr × Obj)} {σ : St} {H : Hp} {s : Shared} {a : Addr} {kvs : List (Key × V)} {A : Around} {E : Value->Shared->Prop}
end
section
variable {X : Cx} {pins : List (Addr × Obj)} {σ : St} {H : Hp} {s : Shared} {a : Addr} {y : V} {u : Value} {A : Around} {E : Value->Shared->Prop}
end
end L2
namespace Att
open PySem PySem.W PySem.Calls PyProof.Rows
theorem ints_of_wellAll {P : Params} {h : Heap} : ∀ (ns : List Int) (vs : List Value), WellAll P h vs (ns.map WData.int)->IntsAre vs ns:=by
 intro ns
 induction ns with
 | nil =>
  intro vs w
  rw [List.map_nil] at w
  cases w
  exact .nil
 | cons n ns ih =>
  intro vs w
  rw [List.map_cons] at w
  cases w with
  | cons a b =>
   cases a
   exact .cons _ _ (ih _ b)
theorem script_of {l : OpenLaw} {n : Nat} (hn : l.most = some n) {P : Params} {h : Heap} {args : List WData} {vals : List Value}
  (hpre : l.row.toRowW.claim.pre args = true) (hwl : WellAll P h vals args) :
  ∃ a vs ns, vals = [Value.ref a]/\args = [WData.list (ns.map WData.int)]/\h.get? a = some { cls:=.type "list", data:=.seq vs.toArray }/\IntsAre vs ns/\ns.length<=n:=by
 have hsh : WShape.hasAll [] args [.list .int] = true:=(pre_splitW hpre).1
 have hc : l.pre.holds [] { args:=args } = true:=(pre_splitW hpre).2
 obtain ⟨d, r, rfl, h1, h2⟩:=hasAllW_cons hsh
 obtain rfl:=hasAllW_nil h2
 obtain ⟨xs, rfl, h3⟩:=hasW_list h1
 obtain ⟨ns, rfl⟩:=items_int h3
 have hlen : ns.length<=n:=by
  unfold OpenLaw.pre at hc
  have h4 : (WTm.not (.lt (.lit (.int (n : Int))) (.len (.arg 0)))).holds [] { args:=[.list (ns.map .int)] } = true:=by
   have h4:=(holds_andW hc).1
   rw [hn] at h4
   exact h4
  have h5:=condW_of h4 (w_not (w_lt w_lit (w_len_list (w_arg rfl))))
  rw [List.length_map] at h5
  refine Nat.le_of_not_lt fun q => ?_
  have q' : (n : Int) < ((ns.length : Nat) : Int):=by row_cond lo
  first
   | (rw [decide_eq_true q'] at h5; exact absurd h5 (by decide))
   | (simp at h5; row_cond lo)
 cases hwl with
 | cons w1 w2 =>
  cases w2
  cases w1 with
  | list ho hall => exact ⟨_, _, ns, rfl, rfl, ho, ints_of_wellAll ns _ hall, hlen⟩
theorem post_true (l : OpenLaw) (args : List WData) : l.row.toRowW.claim.post args (.bool true) args = true :=
 postW_of (r:=l.row.toRowW) (X:=(true == true))
  (show WShape.has [] (.bool true) .bool = true by first | rfl | decide | simp [WShape.has, WShape.arms, WShape.armsAll])
  (show (WTm.eq .res (.lit (.bool true))).value [] { args:=args, res:=some (.bool true), after:=args } = some (.bool (true == true)) from w_eq_bool (w_res rfl) w_lit) rfl
theorem attach_call {l : OpenLaw} {n : Nat} {q : Program} {loose : List Str} {XP : (Str->Option Value)->Heap->Prop} {YP : World->Heap->Prop} {d : DefRec}
  (hn : l.most = some n) (hdf : d.params.defaults = [])
  (call : ∀ (w : World) (s₀ s₁ : Shared) (mg mb : Str->Option Value) (fa : Addr) (o : Obj) (pm cd doc : Value) (a : Addr) (vs : List Value) (ns : List Int),
   Ground q loose [] XP w s₀ mg mb s₁.heap->YP w s₁.heap ->
   s₁.heap.get? fa = some o->o.data = .func (docDef d.name d.params d.body d.scope pm cd doc)->s₁.heap.CodeRec cd d.name->mg d.name = some (.ref fa) ->
   s₁.heap.get? a = some { cls:=.type "list", data:=.seq vs.toArray }->IntsAre vs ns->ns.length<=n->s₁.gens = #[] ->
   codeAny (model l.prog w) callerA (.call (.ref fa) ⟨[.ref a], []⟩) (fun r s' => r = .ok (.ret (.bool true))/\OldK s₁.heap s'.heap/\s'.os = s₁.os/\AllBare s'.gens) s₁) :
  WalkO q loose XP YP l.row.toRowW d [] (fun f vs => PySem.call f vs):=by
 intro w s₀ s₁ mg mb G Y fa o pm cd doc dV kV ho hd hcd hD hmg hg args vals as hpre hlay hrd hwl hlo
 obtain rfl : dV = .none:=Dflts.none hD hdf
 obtain rfl : kV = .none:=Dflts.noKw hD
 obtain ⟨a, vs, ns, rfl, rfl, hobj, hints, hlen⟩:=script_of hn hpre hwl
 refine enter_call (codeAny_mono (call w s₀ s₁ mg mb fa o pm cd doc a vs ns G Y ho (fd_plain hd) hcd hmg hobj hints hlen hg) fun r s' hq => ?_)
 obtain ⟨rfl, h2, h3, h4⟩:=hq
 exact ⟨.inl ⟨.bool true, .bool true, [], rfl, fun _ => rfl, .bool true, post_true l _, fun _ => ⟨List.Pairwise.nil, fun _ hm => (nomatch hm)⟩⟩, h2, h3, h4⟩
section
variable {prog : Program} {w : World} {A : Around} {E : Value->Shared->Prop} {s : Shared} {K : Frag}
end
end Att
namespace L2
open PySem PySem.Spec PyProof.Rows
theorem vals_ints : ∀ {vs : List Value} {ns : List Int}, IntsAre vs ns->Vals (ns.map V.int) vs
 | _, _, .nil => .nil
 | _, _, .cons n t h => .cons ⟨t, rfl⟩ (vals_ints h)
def Only (H : Hp) : Prop:=∀ b, H b = none\/∃ o xs, H b = some (.frz o (.lst xs))
theorem law_call {P : Program} {w : World} {K : PySem.W.Frag} {mg mb : Str->Option Value} {CX : CXT} {k : Nat} {fa a : Addr} {fd : FuncData} {x : Str} {sp : Sp} {s₁ : Shared} {vs : List Value} {ns : List Int}
  (KX : K.In s₁.heap) (hns : s₁.heap.Ns mainGlobals mg) (hb : s₁.heap.Ns builtinsNs mb) (hbb : ∀ x : Str, x ≠ "__name__"->mb x = bootBuiltins x) (hlim : s₁.heap.NoLimit) (hg : s₁.gens = #[])
  (ha : s₁.heap.get? a = some { cls:=.type "list", data:=.seq vs.toArray }) (hi : IntsAre vs ns) (hl : ns.length<=sizeLine) (hr : Room k callerA)
  (F : ∀ base : Heap, K.In base->base.Ns mainGlobals mg->FnOk P w K mg base CX k fa fd [x] sp) (hbind : ∀ (s : Shared) (u : Value), BindsTo s fd ⟨[u], []⟩ [(x, u)])
  (hsp : ∀ H : Hp, Only H->SqL K H a (ns.map V.int)->sp [.ref a] H (fun v _ => v = .bl true) fun _ _ _ => False)
  (hCX : ∀ H e s', CX [] H s₁ (fun _ _ _ => False) e s'->False) :
  codeAny (model P w) callerA (.call (.ref fa) ⟨[.ref a], []⟩) (fun r s' => r = .ok (.ret (.bool true))/\OldK s₁.heap s'.heap/\s'.os = s₁.os/\AllBare s'.gens) s₁:=by
 have rv:=vals_ints hi
 have lenV:=hi.length
 -- from an abstract heap in which nothing but the script may be tracked
 have core : ∀ H : Hp, Only H->SqL K H a (ns.map V.int)->HOk P w H s₁.heap->(∀ b, H b ≠ none->b = a)->(H a ≠ none->K.lookup a = none) ->
   codeAny (model P w) callerA (.call (.ref fa) ⟨[.ref a], []⟩) (fun r s' => r = .ok (.ret (.bool true))/\OldK s₁.heap s'.heap/\s'.os = s₁.os/\AllBare s'.gens) s₁:=by
  intro H hO hS hok hA hK
  have base_of : ∀ {b : Addr} {o : Obj}, s₁.heap.get? b = some o->H b = none->(hidT s₁.heap H).get? b = some o:=fun e n => hidT_get e n
  have noA : ∀ {b : Addr} {o : Obj} {es : Array DictEntry} {ep : Nat}, s₁.heap.get? b = some o->o.data = .dict es ep->H b = none:=fun {b o es ep} e d => by
   cases q : H b with
   | none => rfl
   | some u =>
    have e' : b = a:=hA b (by rw [q]; simp)
    subst e'
    rw [ha] at e; cases e
    have d' : Data.seq vs.toArray _ = Data.dict es ep:=d
    cases d'
  have nsK : ∀ {b : Addr} {m : Str->Option Value}, s₁.heap.Ns b m->(hidT s₁.heap H).Ns b m:=fun {b m} ⟨o, es, ep, e, d, r⟩ => ⟨o, es, ep, base_of e (noA e d), d, r⟩
  have hKb : K.In (hidT s₁.heap H):=fun b o e => base_of (KX b o e) (by
   cases q : H b with
   | none => rfl
   | some u =>
    have e' : b = a:=hA b (by rw [q]; simp)
    subst e'
    rw [hK (by rw [q]; simp)] at e; cases e)
  have hM : Mod K mg (hidT s₁.heap H):=⟨hKb, nsK hns, ⟨mb, nsK hb, hbb⟩, let ⟨mc, h1, h2⟩:=hlim; ⟨mc, nsK h1, h2⟩⟩
  have e0 : Env0 P w K mg (hidT s₁.heap H) callerA [] s₁ H:=⟨rfl, hM, fun b o e => of_hidT e, Nat.le_of_eq (hidT_size _ _), trivial, fun b hb => absurd (show b ∈ ([] : List Addr) from hb) (by simp), hok, .of_eq hg⟩
  refine codeAny_mono ((F _ hKb (nsK hns)).run callerA [] s₁ H ⟨[.ref a], []⟩ [.ref a] [.ref a] _ _ hr e0 (hbind s₁ (.ref a)) (.cons rfl .nil) (hsp H hO hS)) fun r s' h => ?_
  cases r with
  | error e => exact (hCX H e s' h).elim
  | ok fl =>
   cases fl with
   | next => exact False.elim h
   | brk => exact False.elim h
   | cont => exact False.elim h
   | ret u =>
    obtain ⟨v, H', os, bare, un, hok', r', q⟩:=h
    have q' : v = .bl true:=q
    subst q'
    obtain rfl : u = Value.bool true:=r'
    refine ⟨rfl, OldK.of_keep fun b o e => ?_, os, bare⟩
    cases q : H b with
    | none => exact un.keep b o e q (by intro z; exact absurd (show b ∈ ([] : List Addr) from z) (by simp)) (by simp)
    | some u =>
     rcases hO b with z | ⟨ob, xs, z⟩
     ·rw [q] at z; cases z
     ·have z2:=un.frzs b ob _ z
      obtain ⟨e1, _⟩:=hok b _ z
      obtain ⟨e2, _⟩:=hok' b _ z2
      rw [e] at e1; cases e1
      exact e2
 cases hk : K.lookup a with
 | some o =>
  -- the script is one of the module's own objects
  have e:=KX a o hk
  rw [ha] at e
  cases e
  refine core (fun _ => none) (fun _ => .inl rfl) (.inr ⟨_, vs.toArray, _, hk, rfl, rfl, rfl, by rw [List.size_toArray, lenV]; exact hl, by simpa using rv⟩) (fun b u z => by have z' : (none : Option HO) = some u:=z; cases z') (fun b z => absurd rfl z) fun z => absurd rfl z
 | none =>
  refine core (fun b => if b = a then some (.frz { cls:=.type "list", data:=.seq vs.toArray } (.lst (ns.map V.int))) else none) (fun b => ?_) (.inl (.inr ⟨{ cls:=.type "list", data:=.seq vs.toArray }, if_pos rfl⟩)) (fun b u z => ?_) (fun b z => ?_) fun _ => hk
  ·by_cases hb : b = a
   ·exact .inr ⟨_, _, if_pos hb⟩
   ·exact .inl (if_neg hb)
  ·by_cases hb : b = a
   ·have z':=(if_pos hb).symm.trans z
    cases z'
    subst hb
    exact ⟨ha, by rw [List.length_map]; exact hl, vs, _, rv, ha⟩
   ·have z':=(if_neg hb).symm.trans z
    cases z'
  ·by_cases hb : b = a
   ·exact hb
   ·exact absurd (if_neg hb) z
end L2
namespace L2
open PySem PySem.Spec PyProof.Rows
noncomputable abbrev KOf {K : PySem.W.Frag} {h : Heap} (_ : K.In h) : PySem.W.Frag:=K
theorem walk_of {l : PySem.W.OpenLaw} {n k : Nat} {q : Program} {loose : List Str} {XP : (Str->Option Value)->Heap->Prop} {YP : World->Heap->Prop} {d : DefRec} {K : Params->PySem.W.Frag} {CX : World->CXT} {sp : World->Sp} {x : Str}
  (hn : l.most = some n) (hn2 : n<=sizeLine) (hdf : d.params.defaults = []) (hr : Room k callerA)
  (hY : ∀ (w : World) (h : Heap), YP w h->(K w.params).In h)
  (F : ∀ (w : World) (mg : Str->Option Value) (fa : Addr) (h : Heap), (K w.params).In h->h.Ns mainGlobals mg->mg d.name = some (.ref fa) ->
   ∃ fd : FuncData, (∀ (s : Shared) (u : Value), BindsTo s fd ⟨[u], []⟩ [(x, u)]) /\
    ∀ base : Heap, (K w.params).In base->base.Ns mainGlobals mg->FnOk l.prog w (K w.params) mg base (CX w) k fa fd [x] (sp w))
  (hsp : ∀ (w : World) (H : Hp) (a : Addr) (ns : List Int), ns.length<=n->Only H->SqL (K w.params) H a (ns.map V.int)->sp w [.ref a] H (fun v _ => v = .bl true) fun _ _ _ => False)
  (hCX : ∀ (w : World) (H : Hp) (s : Shared) (e : Value) (s' : Shared), CX w [] H s (fun _ _ _ => False) e s'->False) :
  PySem.W.WalkO q loose XP YP l.row.toRowW d [] (fun f vs => PySem.call f vs):=by
 refine Att.attach_call hn hdf fun w s₀ s₁ mg mb fa o pm cd doc a vs ns G Y ho hd hcd hmg hobj hints hlen hg => ?_
 have KX:=hY w _ Y
 obtain ⟨fd, hb, hF⟩:=F w mg fa _ KX G.T.g hmg
 exact law_call KX G.T.g G.T.b G.T.builtins G.T.nolimit hg hobj hints (Nat.le_trans hlen hn2) hr hF hb (fun H hO hS => hsp w H a ns hlen hO hS) fun H e s' => hCX w H s₁ e s'
end L2
/- THE LAST THEOREM (shape; LID, My.* are yours):
  My.Adr: a structure of the addresses that your layer names (classes, functions); My.Txt K t: a structure (Prop) of the equations over K;
  My.txt_mk : {K} {implicit addresses ..} (e1 : nsIn K mainGlobals "law" = some (some (.ref f))) (e2 : K.lookup f = some ⟨oc, od, .func (fnOf "law" "law" params body scope dV kV doc pm an cdv ct), sl⟩) (e3 : codeIn K cdv "law" = true) .. : ∃ t, My.Txt K t
set_option maxRecDepth 100000 in
set_option maxHeartbeats 0 in
theorem PySem.Challenge.cw_LID_holds : PySem.Challenge.rw_LID.Holds := by
 w_on; o_law; k_head; (case hw => w_witness2)
 k_fill
 refine L2.walk_of (l:=PySem.Challenge.rw_LID) (n:=63) (k:=40) (x:="script") (CX:=fun w => ..) (sp:=fun _ => My.sp_law) rfl (by decide) rfl ⟨rfl, by decide, by decide⟩ (fun w h Y => PySem.W.kIn_of Y) ?F ?S ?C
 case F =>
  intro w mg fa h KX G hmg
  have T : ∃ t, My.Txt (L2.KOf KX) t:=by
   dsimp only [L2.KOf]                          -- K must stand as «<heap const> w.params» for k_is
   refine' My.txt_mk ?e1 ?e2 ?e3 ..
   (case e1 => PySem.W.k_is)                    -- in the order: a name -> its address -> its object -> its parts
   (case e2 => PySem.W.k_is)
   ..
  obtain ⟨t, T⟩:=T
  have e0:=hmg.symm.trans (PySem.W.mg_of KX G T.law)
  cases e0                                       -- fa is the law's own address
  exact ⟨_, fun s u => .of_eq rfl, fun base kb nb => My.law_fn T kb nb⟩     -- if «.of_eq rfl» comes too early: refine' ⟨_, ?b, fun base kb nb => My.law_fn T kb nb⟩; exact fun s u => .of_eq rfl
 case S => exact fun w H a ns hl hO hS => ..
 case C => exact ..
(the tactic k_is has no namespace: write k_is) -/
namespace L2
open PySem PySem.Spec PyProof.Rows
noncomputable def defArgs (s : Stmt) : Arguments:=match s with
 | .FunctionDef _ a _ _ _ _ _ _ _ _ => a
 | _ => { posonlyargs:=[], args:=[], vararg:=none, kwonlyargs:=[], kw_defaults:=[], kwarg:=none, defaults:=[] }
noncomputable def defBody (s : Stmt) : List Stmt:=match s with
 | .FunctionDef _ _ b _ _ _ _ _ _ _ => b
 | _ => []
noncomputable def defScope (s : Stmt) : Scope:=match s with
 | .FunctionDef _ _ _ _ _ _ sc _ _ _ => sc
 | _ => { kind:=.function, names:=[], isGenerator:=false, isCoroutine:=false }
noncomputable abbrev CX0 : CXT:=fun _ _ _ _ _ _ => False
noncomputable abbrev E0 : XK:=fun _ _ _ => False
theorem pass0 {X : Cx} : Passes CX0 X E0:=fun _ _ _ _ _ _ _ h => h.elim
structure Fun (K : PySem.W.Frag) (x qual : Str) (st : Stmt) (f : Addr) (fd : FuncData) : Prop where
 ex : ∃ (oc : Value) (od : Option Addr) (kV doc pm : Value) (an : Option Addr) (cdv ct : Value) (osl : Array (Option Value)),
  fd = PySem.W.fnOf x qual (defArgs st) (defBody st) (defScope st) .none kV doc pm an cdv ct/\K.lookup f = some ⟨oc, od, .func fd, osl⟩/\PySem.W.codeIn K cdv qual = true
 kp : PySem.W.keepIn K (.ref f) = true
section
variable {P : Program} {w : World} {K : PySem.W.Frag} {mg : Str->Option Value} {base : Heap}
theorem Fun.ok {x qual : Str} {st : Stmt} {f : Addr} {fd : FuncData} {N ps : List Str} {k : Nat} {sp : Sp} (F : Fun K x qual st f fd) (S : FnScope N ps (defScope st)) (len : ∀ vs H Q E, sp vs H Q E->vs.length = ps.length)
  (hbody : ∀ (cdv : Value) (A : Around) (outer : List Env) (s : Shared) (H : Hp) (vs : List V) (Q : VK) (E : XK), Room k (A.deeper (envOfC qual (defScope st) s.heap.objs.size f cdv))->sp vs H Q E ->
   ∃ t, PSs (cxOf CX0 P w K mg base N qual (defScope st) f cdv A outer s H E).nox (defBody st) t/\t { nx:=fun _ H' => Q .non H', rt:=Q } (start N vs) H) : FnOk P w K mg base CX0 (k + 1) f fd ps sp:=by
 obtain ⟨oc, od, kV, doc, pm, an, cdv, ct, osl, rfl, lk, hcd⟩:=F.ex
 refine fn_of lk hcd S len fun A outer s H vs Q E hr hsp => ?_
 obtain ⟨t, h, q⟩:=hbody cdv A outer s H vs Q E hr hsp
 exact ⟨t, h.nox, q⟩
theorem Fun.binds {x qual : Str} {st : Stmt} {f : Addr} {fd : FuncData} {ps : List Str} (F : Fun K x qual st f fd)
  (h : ∀ (kV doc pm : Value) (an : Option Addr) (cdv ct : Value) (us : List Value), us.length = ps.length->bindArgs (PySem.W.fnOf x qual (defArgs st) (defBody st) (defScope st) .none kV doc pm an cdv ct) ⟨us, []⟩ = pure (ps.zip us)) : Binds K fd ps []:=by
 obtain ⟨oc, od, kV, doc, pm, an, cdv, ct, osl, rfl, lk, hcd⟩:=F.ex
 exact .all (h kV doc pm an cdv ct)
theorem fun_mk {x qual : Str} {st : Stmt} {f : Addr} {oc : Value} {od an : Option Addr} {osl : Array (Option Value)} {kV doc pm cdv ct : Value} (l : K.lookup f = some ⟨oc, od, .func (PySem.W.fnOf x qual (defArgs st) (defBody st) (defScope st) .none kV doc pm an cdv ct), osl⟩)
  (c : PySem.W.codeIn K cdv qual = true) (k : PySem.W.keepIn K (.ref f) = true) : Fun K x qual st f (PySem.W.fnOf x qual (defArgs st) (defBody st) (defScope st) .none kV doc pm an cdv ct):=⟨⟨oc, od, kV, doc, pm, an, cdv, ct, osl, rfl, l, c⟩, k⟩
end
theorem small1000 {n : Nat} (h : n<=1000) : n < sizeLine:=Nat.lt_of_le_of_lt h (by decide)
section
variable {X : Cx}
theorem pv (i : Nat) {x : Str} {pos : Pos} (hN : X.N[i]? = some x:=by rfl) (hv : Vis X.env.scope x:=by first | exact Or.inl rfl | exact Or.inr (Or.inl rfl) | exact Or.inr (Or.inr rfl)) (hd : (x == ("__debug__" : Str)) = false:=by decide)
  (hcd : (x == ("__classdict__" : Str)) = false:=by decide) : PE X (.Name x pos) (tVar i):=pe_var hN hv hd hcd
end
theorem iteF {A B : Prop} (h : B) : if false = true then A else B:=by
 rw [if_neg Bool.false_ne_true]
 exact h
theorem iteT {A B : Prop} (h : A) : if true = true then A else B:=by
 rw [if_pos rfl]
 exact h
def Same (H H' : Hp) : Prop:=∀ b o, H b = some o->H' b = some o
theorem Same.refl (H : Hp) : Same H H:=fun _ _ h => h
theorem Same.trans {H H1 H2 : Hp} (a : Same H H1) (b : Same H1 H2) : Same H H2:=fun c o h => b c o (a c o h)
theorem Same.free {H H' : Hp} (e : Same H H') {l : Addr} (h : H' l = Option.none) : H l = Option.none:=by
 cases q : H l with
 | none => rfl
 | some o =>
  rw [e l o q] at h
  cases h
theorem Same.seq {K : PySem.W.Frag} {H H' : Hp} {a : Addr} {xs : List V} (e : Same H H') (h : SqL K H a xs) : SqL K H' a xs:=by
 rcases h with (h | ⟨o, h⟩) | h
 ·exact .inl (.inl (e _ _ h))
 ·exact .inl (.inr ⟨o, e _ _ h⟩)
 ·exact .inr h
section
variable {X : Cx}
end
section
variable {κ : Type} [DecidableEq κ]
end
end L2
namespace L2
open PySem PySem.Spec PyProof.Rows
end L2
namespace L2
open PySem PySem.Spec PyProof.Rows
section
variable {X : Cx} {N : List Str} {tg iter elt : Expr} {ifs : List Expr} {sc : Scope} {src : List (Option Nat)} {wi : TI} {g : TG} {tif : TT} {te : TE} {pos : Pos}
end
end L2
namespace L2
open PySem PySem.Spec PyProof.Rows
section
variable {X : Cx} {N : List Str} {tg iter elt : Expr} {ifs : List Expr} {sc : Scope} {src : List (Option Nat)} {wi : TI} {g : TG} {tif : TT} {te : TE} {pos spos px : Pos}
end
section
variable {g : TG} {tif : TT} {te : TE} {acc : Addr} {Qd : List V->Hp->Prop} {σ0 : St} {H0 : Hp}
end
end L2
namespace L2
open PySem PySem.Spec PyProof.Rows
section
variable {X : Cx} {N : List Str} {t1 i1 t2 i2 elt : Expr} {f1 f2 : List Expr} {sc : Scope} {src : List (Option Nat)} {wi wi2 : TI} {g g2 : TG} {tif tif2 : TT} {te : TE} {pos : Pos}
end
end L2
namespace L2
open PySem PySem.Spec PyProof.Rows
def rLen (K : PySem.W.Frag) : List V->Hp->VK->Prop:=fun xs H Q => ∃ p ys, xs = [.ref p]/\(SqL K H p ys\/SqT K H p ys)/\Q (.int ys.length) H
theorem call_lenS {X : Cx} : CallR X (.builtin "len") (rLen X.K):=call_len_seq
def rMax2 : List V->Hp->VK->Prop:=fun xs H Q => ∃ i j, xs = [.int i, .int j]/\Q (.int (if j > i then j else i)) H
def rMin2 : List V->Hp->VK->Prop:=fun xs H Q => ∃ i j, xs = [.int i, .int j]/\Q (.int (if j < i then j else i)) H
theorem call_max2n {X : Cx} (hc : X.calm = true) : CallR X (.builtin "max") rMax2:=call_max2 hc
theorem call_min2n {X : Cx} (hc : X.calm = true) : CallR X (.builtin "min") rMin2:=call_min2 hc
section
variable {σ : St} {H : Hp} {D : Ends} {K : PySem.W.Frag}
theorem go_eqI {i j : Int} {Q : VK} (h : Q (.bl (decide (i = j))) H) : rEq (.int i) (.int j) H Q:=by
 have e : decide (V.int i = V.int j) = decide (i = j):=by rw [dec_int]; exact Bool.beq_eq_decide_eq i j
 exact ⟨rfl, by rw [e]; exact h⟩
theorem go_neI {i j : Int} {Q : VK} (h : Q (.bl (!decide (i = j))) H) : rNe (.int i) (.int j) H Q:=by
 have e : decide (V.int i = V.int j) = decide (i = j):=by rw [dec_int]; exact Bool.beq_eq_decide_eq i j
 exact ⟨rfl, by rw [e]; exact h⟩
theorem go_ixL {a : Addr} {xs : List V} {i : Int} {v : V} {Q : VK} (ha : H a = some (.lst xs)) (hv : atI xs i = some v) (h : Q v H) : rIxL K (.ref a) (.int i) H Q:=⟨a, xs, i, v, rfl, rfl, SqL.of ha, hv, h⟩
theorem go_ixT {a : Addr} {xs : List V} {i : Int} {v : V} {Q : VK} (ha : H a = some (.tup xs)) (hv : atI xs i = some v) (h : Q v H) : rIxT K (.ref a) (.int i) H Q:=⟨a, xs, i, v, rfl, rfl, SqT.of ha, hv, h⟩
theorem go_setL {a : Addr} {xs : List V} {k : Int} {j : Nat} {v : V} {Q : Hp->Prop} (ha : H a = some (.lst xs)) (hj : ixN xs.length k = some j) (h : Q (upd H a (.lst (xs.set j v)))) : rSetL (.ref a) (.int k) v H Q:=⟨a, xs, k, j, rfl, rfl, ha, hj, h⟩
theorem go_append {a : Addr} {xs : List V} {y : V} {Q : VK} (ha : H a = some (.lst xs)) (hl : xs.length < sizeLine) (h : Q .non (upd H a (.lst (xs ++ [y])))) : rAppend (.ref a) [y] H Q:=⟨a, xs, y, rfl, rfl, ha, hl, h⟩
theorem go_cat {a b : Addr} {xs zs : List V} {Q : VK} (ha : H a = some (.lst xs)) (hb : H b = some (.lst zs)) (hl : xs.length + zs.length<=sizeLine) (h : ∀ p, H p = none->Q (.ref p) (upd H p (.lst (xs ++ zs)))) : rCat (.ref a) (.ref b) H Q:=⟨a, b, xs, zs, rfl, rfl, ha, hb, hl, h⟩
theorem go_lenL {a : Addr} {xs : List V} {Q : VK} (ha : H a = some (.lst xs)) (h : Q (.int xs.length) H) : rLen K [.ref a] H Q:=⟨a, xs, rfl, .inl (SqL.of ha), h⟩
theorem go_lenT {a : Addr} {xs : List V} {Q : VK} (ha : H a = some (.tup xs)) (h : Q (.int xs.length) H) : rLen K [.ref a] H Q:=⟨a, xs, rfl, .inr (SqT.of ha), h⟩
theorem go_max2 {i j : Int} {Q : VK} (h : Q (.int (if j > i then j else i)) H) : rMax2 [.int i, .int j] H Q:=⟨i, j, rfl, h⟩
theorem go_min2 {i j : Int} {Q : VK} (h : Q (.int (if j < i then j else i)) H) : rMin2 [.int i, .int j] H Q:=⟨i, j, rfl, h⟩
theorem go_iteT {c : Prop} [Decidable c] {A B : Prop} (hc : c) (h : A) : if decide c = true then A else B:=by rw [decide_eq_true hc]; exact iteT h
theorem go_iteF {c : Prop} [Decidable c] {A B : Prop} (hc : ¬ c) (h : B) : if decide c = true then A else B:=by rw [decide_eq_false hc]; exact iteF h
theorem go_ite {c : Prop} [Decidable c] {A B : Prop} (h1 : c->A) (h2 : ¬ c->B) : if decide c = true then A else B:=by
 by_cases hc : c
 ·exact go_iteT hc (h1 hc)
 ·exact go_iteF hc (h2 hc)
theorem ixN0 {n : Nat} : ixN (n + 1) 0 = some 0:=by unfold ixN; rw [if_pos (by decide), if_pos (by row_cond lo)]; rfl
theorem ixN2 {n : Nat} : ixN (n + 3) 2 = some 2:=by unfold ixN; rw [if_pos (by decide), if_pos (by row_cond lo)]; rfl
end
end L2
namespace L2
open PySem PySem.Spec PyProof.Rows
structure CallOk (P : Program) (w : World) (K : PySem.W.Frag) (mg : Str->Option Value) (base : Heap) (x : Str) (k : Nat) (ps : List Str) (sp : Sp) (f : Addr) (fd : FuncData) : Prop where
 ok : FnOk P w K mg base CX0 k f fd ps sp
 mgx : mg x = some (.ref f)
 kp : PySem.W.keepIn K (.ref f) = true
 bd : Binds K fd ps []
def Can (P : Program) (w : World) (K : PySem.W.Frag) (mg : Str->Option Value) (base : Heap) (x : Str) (k : Nat) (ps : List Str) (sp : Sp) : Prop:=∃ f fd, CallOk P w K mg base x k ps sp f fd
structure DefAt (K : PySem.W.Frag) (mg : Str->Option Value) (x : Str) (st : Stmt) (ps : List Str) (f : Addr) (fd : FuncData) : Prop where
 fn : Fun K x x st f fd
 mgx : mg x = some (.ref f)
 bd : Binds K fd ps []
theorem DefAt.can {P : Program} {w : World} {K : PySem.W.Frag} {mg : Str->Option Value} {base : Heap} {x : Str} {st : Stmt} {k : Nat} {ps : List Str} {sp : Sp} {f : Addr} {fd : FuncData} (D : DefAt K mg x st ps f fd) (ok : FnOk P w K mg base CX0 k f fd ps sp) : Can P w K mg base x k ps sp :=
 ⟨f, fd, ok, D.mgx, D.fn.kp, D.bd⟩
section
variable {X : Cx} {k j : Nat} {ps : List Str} {sp : Sp} {x : Str} {p pos : Pos} {e : Expr} {es : List Expr} {t : TA}
theorem pe_callD (F : Can X.prog X.w X.K X.mg X.base x k ps sp) (hr : Room j X.A) (ha : PA X (e :: es) t) (hj : k<=j:=by decide) (hg : Gl X x:=by rfl) (hdb : (x == ("__debug__" : Str)) = false:=by decide)
  (he : starEach (e :: es) X.env = (false, eval e X.env) :: starEach es X.env:=by rfl) (hpl : (backTo pos (starEach es X.env)).any (·.1) = false:=by rfl) :
  PE X (.Call (.Name x p) (e :: es) [] pos) (tCall sp [] E0 t):=by
 obtain ⟨f, fd, C⟩:=F
 exact pe_call C.ok (hr.mono hj) hg C.mgx C.kp C.bd .nil pass0 ha hdb he hpl
end
end L2
namespace L2
open PySem PySem.Spec PyProof.Rows
section
variable {σ : St} {H : Hp} {D : Ends} {K : PySem.W.Frag}
theorem go_ixS {a : Addr} {xs : List V} {i : Int} {v : V} {Q : VK} (ha : SqL K H a xs) (hv : atI xs i = some v) (h : Q v H) : rIxL K (.ref a) (.int i) H Q:=⟨a, xs, i, v, rfl, rfl, ha, hv, h⟩
theorem go_lenS {a : Addr} {xs : List V} {Q : VK} (ha : SqL K H a xs) (h : Q (.int xs.length) H) : rLen K [.ref a] H Q:=⟨a, xs, rfl, .inl ha, h⟩
end
end L2
namespace L2
open PySem
theorem bt_len : bootBuiltins "len" = some (.builtin "len"):=by decide +kernel
theorem bt_max : bootBuiltins "max" = some (.builtin "max"):=by decide +kernel
theorem bt_min : bootBuiltins "min" = some (.builtin "min"):=by decide +kernel
theorem bt_sorted : bootBuiltins "sorted" = some (.builtin "sorted"):=by decide +kernel
theorem bt_isinstance : bootBuiltins "isinstance" = some (.builtin "isinstance"):=by decide +kernel
theorem bt_int : bootBuiltins "int" = some (.type "int"):=by decide +kernel
theorem bt_tuple : bootBuiltins "tuple" = some (.type "tuple"):=by decide +kernel
theorem bt_bool : bootBuiltins "bool" = some (.type "bool"):=by decide +kernel
theorem bt_ValueError : bootBuiltins "ValueError" = some (.type "ValueError"):=by decide +kernel
end L2
namespace TS
open PySem PyProof.Rows
section
variable {M : Model} {A : Around} {E : Value->Shared->Prop} {s : Shared} {κ : SortKind} {S : Keyed->Prop} {R : Keyed->Keyed->Bool}
end
end TS
namespace TS
open PySem PyProof.Rows
def Srt (R : Keyed->Keyed->Bool) (l : List Keyed) : Prop:=l.Pairwise fun x y => R y x = false
structure Mid (R : Keyed->Keyed->Bool) (L out a b : List Keyed) : Prop where
 perm : (out ++ a ++ b).Perm L
 so : Srt R out
 le : ∀ x ∈ out, ∀ y ∈ a ++ b, R y x = false
 sa : Srt R a
 sb : Srt R b
section
variable {R : Keyed->Keyed->Bool} {L out a b p : List Keyed}
theorem Mid.done (m : Mid R L out a b) (h : a = []\/b = []) : (out ++ a ++ b).Perm L/\Srt R (out ++ a ++ b):=by
 refine ⟨m.perm, ?_⟩
 rw [List.append_assoc]
 refine List.pairwise_append.mpr ⟨m.so, ?_, m.le⟩
 rcases h with h | h
 ·subst h; exact m.sb
 ·subst h; rw [List.append_nil]; exact m.sa
end
structure Eqv (st st' : SortSt) : Prop where
 k : kindOf st' = kindOf st
 a : arrOf st' = arrOf st
 p : pendingOf st' = pendingOf st
 f : failedOf st' = failedOf st
theorem Eqv.refl (st : SortSt) : Eqv st st:=⟨rfl, rfl, rfl, rfl⟩
theorem Eqv.trans {a b c : SortSt} (h : Eqv a b) (g : Eqv b c) : Eqv a c:=⟨g.k.trans h.k, g.a.trans h.a, g.p.trans h.p, g.f.trans h.f⟩
section
variable {M : Model} {A : Around} {E : Value->Shared->Prop} {s : Shared} {κ : SortKind} {S : Keyed->Prop} {R : Keyed->Keyed->Bool}
end
end TS
namespace TS
open PySem PyProof.Rows
section
variable {M : Model} {A : Around} {E : Value->Shared->Prop} {s : Shared} {κ : SortKind} {S : Keyed->Prop} {R : Keyed->Keyed->Bool}
structure Lo (S : Keyed->Prop) (R : Keyed->Keyed->Bool) (a b out : Array Keyed) (ia ib : Nat) : Prop where
 mid : Mid R (a.toList ++ b.toList) out.toList (a.toList.drop ia) (b.toList.drop ib)
 ia : ia<=a.size
 ib : ib<=b.size
theorem Lo.len {a b out : Array Keyed} {ia ib : Nat} (l : Lo S R a b out ia ib) : out.size + (a.size - ia) + (b.size - ib) = a.size + b.size:=by
 have:=l.mid.perm.length_eq
 simp at this
 row_cond lo
section
variable {ρ β γ δ ε ζ η : Type}
end
end
end TS
namespace TS
open PySem PyProof.Rows
structure MidH (R : Keyed->Keyed->Bool) (L a b tl : List Keyed) : Prop where
 perm : (a ++ b ++ tl).Perm L
 so : Srt R tl
 le : ∀ x ∈ a ++ b, ∀ y ∈ tl, R y x = false
 sa : Srt R a
 sb : Srt R b
section
variable {R : Keyed->Keyed->Bool} {L tl a b p : List Keyed}
theorem MidH.done (m : MidH R L a b tl) (h : a = []\/b = []) : (a ++ b ++ tl).Perm L/\Srt R (a ++ b ++ tl):=by
 refine ⟨m.perm, List.pairwise_append.mpr ⟨?_, m.so, m.le⟩⟩
 rcases h with h | h
 ·subst h; exact m.sb
 ·subst h; rw [List.append_nil]; exact m.sa
end
section
variable {M : Model} {A : Around} {E : Value->Shared->Prop} {s : Shared} {κ : SortKind} {S : Keyed->Prop} {R : Keyed->Keyed->Bool}
structure Hi (S : Keyed->Prop) (R : Keyed->Keyed->Bool) (a b out : Array Keyed) (na nb : Nat) : Prop where
 mid : MidH R (a.toList ++ b.toList) (a.toList.take na) (b.toList.take nb) out.toList.reverse
 na : na<=a.size
 nb : nb<=b.size
theorem Hi.len {a b out : Array Keyed} {na nb : Nat} (l : Hi S R a b out na nb) : out.size + na + nb = a.size + b.size:=by
 have:=l.mid.perm.length_eq
 have h1:=l.na
 have h2:=l.nb
 simp at this
 row_cond lo
end
end TS
namespace TS
open PySem PyProof.Rows
section
variable {M : Model} {A : Around} {E : Value->Shared->Prop} {s : Shared} {κ : SortKind} {S : Keyed->Prop} {R : Keyed->Keyed->Bool}
end
end TS
namespace TS
open PySem PyProof.Rows
noncomputable def e (xs : Array Keyed) (k : Nat) : Keyed:=(xs[k]?).getD (.none, .none)
theorem e_some {xs : Array Keyed} {k : Nat} (h : k < xs.size) : xs[k]? = some (e xs k):=by
 unfold e; rw [Array.getElem?_eq_getElem h]; rfl
def Asc (R : Keyed->Keyed->Bool) (xs : Array Keyed) (l h : Nat) : Prop:=∀ i j, l<=i->i<=j->j < h->R (e xs j) (e xs i) = false
structure Bs (κ : SortKind) (p0 : Array (Nat × Nat × Nat)) (a0 : Array Keyed) (lo : Nat) (st : SortSt) : Prop where
 k : kindOf st = κ
 f : failedOf st = none
 p : pendingOf st = p0
 perm : (arrOf st).toList.Perm a0.toList
 pre : ∀ k, k < lo->(arrOf st)[k]? = a0[k]?
section
variable {M : Model} {A : Around} {E : Value->Shared->Prop} {s : Shared} {κ : SortKind} {S : Keyed->Prop} {R : Keyed->Keyed->Bool} {p0 : Array (Nat × Nat × Nat)} {a0 : Array Keyed} {lo : Nat}
theorem Bs.size {st : SortSt} (B : Bs κ p0 a0 lo st) : (arrOf st).size = a0.size:=by
 have:=B.perm.length_eq
 simpa using this
theorem Bs.set {st : SortSt} (B : Bs κ p0 a0 lo st) {xs : Array Keyed} (hp : xs.Perm (arrOf st)) (hl : ∀ k, k < lo->xs[k]? = (arrOf st)[k]?) : Bs κ p0 a0 lo (setArr st xs) :=
 ⟨B.k, B.f, B.p, hp.toList.trans B.perm, fun k hk => (hl k hk).trans (B.pre k hk)⟩
end
end TS
namespace TS
open PySem PyProof.Rows
section
variable {M : Model} {A : Around} {E : Value->Shared->Prop} {s : Shared} {κ : SortKind} {S : Keyed->Prop} {R : Keyed->Keyed->Bool} {p0 : Array (Nat × Nat × Nat)} {a0 : Array Keyed} {lo : Nat}
end
end TS
namespace TS
open PySem PyProof.Rows
noncomputable def flat (rs : List (List Keyed × Nat)) : List Keyed:=(rs.map (·.1)).flatten
noncomputable def pend : Nat->List (List Keyed × Nat)->List (Nat × Nat × Nat)
 | _, [] => []
 | k, (r, pw) :: t => (k, r.length, pw) :: pend (k + r.length) t
theorem flat_nil : flat [] = []:=rfl
theorem flat_cons (r : List Keyed × Nat) (t : List (List Keyed × Nat)) : flat (r :: t) = r.1 ++ flat t:=rfl
theorem flat_append (p q : List (List Keyed × Nat)) : flat (p ++ q) = flat p ++ flat q:=by simp [flat]
theorem pend_append : ∀ (k : Nat) (p q : List (List Keyed × Nat)), pend k (p ++ q) = pend k p ++ pend (k + (flat p).length) q
 | k, [], q => by simp [pend, flat_nil]
 | k, (r, pw) :: t, q => by
  simp only [List.cons_append, pend, flat_cons, List.length_append, List.cons.injEq, true_and]
  rw [pend_append (k + r.length) t q, Nat.add_assoc]
section
variable {M : Model} {A : Around} {E : Value->Shared->Prop} {s : Shared} {κ : SortKind} {S : Keyed->Prop} {R : Keyed->Keyed->Bool} {a0 : Array Keyed}
structure Rn (κ : SortKind) (R : Keyed->Keyed->Bool) (a0 : Array Keyed) (rs : List (List Keyed × Nat)) (rest : List Keyed) (st : SortSt) : Prop where
 k : kindOf st = κ
 f : failedOf st = none
 arr : (arrOf st).toList = flat rs ++ rest
 pn : (pendingOf st).toList = pend 0 rs
 ok : ∀ r ∈ rs, r.1 ≠ []/\Srt R r.1
 perm : (arrOf st).toList.Perm a0.toList
theorem Rn.run {rs : List (List Keyed × Nat)} {rest : List Keyed} {st st' : SortSt} {n : Nat} (N : Rn κ R a0 rs rest st) (B : Bs κ (pendingOf st) (arrOf st) (flat rs).length st') (h1 : 1<=n) (hn : (flat rs).length + n<=(arrOf st).size) (as : Asc R (arrOf st') (flat rs).length ((flat rs).length + n)) :
  ∃ r rest', r.length = n/\r ≠ []/\Srt R r/\Rn κ R a0 rs (r ++ rest') st':=by
 have hsz:=B.size
 have hfl : (arrOf st').toList.take (flat rs).length = flat rs:=by
  have e1 : (arrOf st').toList.take (flat rs).length = (arrOf st).toList.take (flat rs).length:=by
   apply List.ext_getElem?
   intro k
   rw [List.getElem?_take, List.getElem?_take]
   split
   ·rename_i hk
    have:=B.pre k hk
    simpa using this
   ·rfl
  rw [e1, N.arr, List.take_left]
 refine ⟨((arrOf st').toList.drop (flat rs).length).take n, ((arrOf st').toList.drop (flat rs).length).drop n, ?_, ?_, ?_, B.k, B.f, ?_, ?_, N.ok, B.perm.trans N.perm⟩
 ·simp; row_cond lo
 ·intro z
  have:=congrArg List.length z
  simp at this
  row_cond lo
 ·unfold Srt
  rw [List.pairwise_iff_getElem]
  intro i j hi hj hij
  have hj' : j < n:=by simp at hj; row_cond lo
  have get : ∀ k, k < n->∀ (hk : k < (((arrOf st').toList.drop (flat rs).length).take n).length), (((arrOf st').toList.drop (flat rs).length).take n)[k] = e (arrOf st') ((flat rs).length + k):=by
   intro k hk hk2
   rw [List.getElem_take, List.getElem_drop]
   have h3:=e_some (xs:=arrOf st') (k:=(flat rs).length + k) (by row_cond lo)
   have h4 : (flat rs).length + k < (arrOf st').toList.length:=by simp; row_cond lo
   have h5 : (arrOf st').toList[(flat rs).length + k]? = some (e (arrOf st') ((flat rs).length + k)):=by simpa using h3
   rw [List.getElem?_eq_getElem h4] at h5
   exact Option.some.inj h5
  rw [get i (by row_cond lo) hi, get j hj' hj]
  exact as _ _ (by row_cond lo) (by row_cond lo) (by row_cond lo)
 ·rw [List.take_append_drop]
  conv => lhs; rw [← List.take_append_drop (flat rs).length (arrOf st').toList, hfl]
 ·rw [B.p]; exact N.pn
theorem Rn.bs {rs : List (List Keyed × Nat)} {rest : List Keyed} {st : SortSt} (N : Rn κ R a0 rs rest st) : Bs κ (pendingOf st) (arrOf st) (flat rs).length st:=⟨N.k, N.f, rfl, List.Perm.refl _, fun _ _ => rfl⟩
theorem Rn.size {rs : List (List Keyed × Nat)} {rest : List Keyed} {st : SortSt} (N : Rn κ R a0 rs rest st) : (arrOf st).size = a0.size:=by
 have:=N.perm.length_eq; simpa using this
theorem Rn.len {rs : List (List Keyed × Nat)} {rest : List Keyed} {st : SortSt} (N : Rn κ R a0 rs rest st) : (flat rs).length + rest.length = a0.size:=by
 have:=congrArg List.length N.arr
 have h2:=N.size
 simp at this
 row_cond lo
theorem Rn.push {rs : List (List Keyed × Nat)} {r rest : List Keyed} {st st' : SortSt} (N : Rn κ R a0 rs (r ++ rest) st) (h0 : r ≠ []) (hs : Srt R r) (k : kindOf st' = kindOf st) (f : failedOf st' = failedOf st) (a : arrOf st' = arrOf st)
  (p : pendingOf st' = (pendingOf st).push ((flat rs).length, r.length, 0)) : Rn κ R a0 (rs ++ [(r, 0)]) rest st':=by
 refine ⟨k.trans N.k, f.trans N.f, ?_, ?_, fun q hq => ?_, by rw [a]; exact N.perm⟩
 ·rw [a, N.arr, flat_append]; simp [flat, List.append_assoc]
 ·rw [p, Array.toList_push, N.pn, pend_append]; simp [pend]
 ·rcases List.mem_append.mp hq with hq | hq
  ·exact N.ok q hq
  ·have : q = (r, 0):=by simpa using hq
   subst this; exact ⟨h0, hs⟩
end
end TS
namespace L2
open PySem PySem.Spec PyProof.Rows
mutual
inductive Rep (H : Hp) : V->PyData->Prop
 | non : Rep H .non .none
 | bl (b : Bool) : Rep H (.bl b) (.bool b)
 | int (i : Int) : Rep H (.int i) (.int i)
 | str (x : Str) : Rep H (.str x) (.str x)
 | lst {a : Addr} {xs : List V} {ds : List PyData} : H a = some (.lst xs)->Reps H xs ds->Rep H (.ref a) (.list ds)
 | tup {a : Addr} {xs : List V} {ds : List PyData} : H a = some (.tup xs)->Reps H xs ds->Rep H (.ref a) (.tuple ds)
inductive Reps (H : Hp) : List V->List PyData->Prop
 | nil : Reps H [] []
 | cons {v : V} {vs : List V} {d : PyData} {ds : List PyData} : Rep H v d->Reps H vs ds->Reps H (v :: vs) (d :: ds)
end
mutual
theorem Rep.same {H H' : Hp} (s : Same H H') : ∀ {v : V} {d : PyData}, Rep H v d->Rep H' v d
 | _, _, .non => .non
 | _, _, .bl b => .bl b
 | _, _, .int i => .int i
 | _, _, .str x => .str x
 | _, _, .lst h r => .lst (s _ _ h) (Reps.same s r)
 | _, _, .tup h r => .tup (s _ _ h) (Reps.same s r)
theorem Reps.same {H H' : Hp} (s : Same H H') : ∀ {vs : List V} {ds : List PyData}, Reps H vs ds->Reps H' vs ds
 | _, _, .nil => .nil
 | _, _, .cons r t => .cons (Rep.same s r) (Reps.same s t)
end
theorem Reps.length {H : Hp} : ∀ {vs : List V} {ds : List PyData}, Reps H vs ds->vs.length = ds.length
 | _, _, .nil => rfl
 | _, _, .cons _ t => by simp [Reps.length t]
theorem Reps.get {H : Hp} : ∀ {vs : List V} {ds : List PyData} {i : Nat} {d : PyData}, Reps H vs ds->ds[i]? = some d->∃ v, vs[i]? = some v/\Rep H v d
 | _, _, _, _, .nil, e => by simp at e
 | _, _, 0, _, .cons r _, e => by simp at e; subst e; exact ⟨_, rfl, r⟩
 | _, _, i + 1, d, .cons _ t, e => by
  obtain ⟨u, h1, h2⟩:=Reps.get (i:=i) (d:=d) t (by simpa using e)
  exact ⟨u, by simpa using h1, h2⟩
theorem Reps.append {H : Hp} : ∀ {vs ws : List V} {ds es : List PyData}, Reps H vs ds->Reps H ws es->Reps H (vs ++ ws) (ds ++ es)
 | _, _, _, _, .nil, s => s
 | _, _, _, _, .cons r t, s => .cons r (Reps.append t s)
theorem Reps.ints {H : Hp} : ∀ (ns : List Int), Reps H (ns.map V.int) (ns.map PyData.int)
 | [] => .nil
 | n :: ns => .cons (.int n) (Reps.ints ns)
section
variable {X : Cx} {pins : List (Addr × Obj)} {σ : St} {H : Hp} {s : Shared}
mutual
theorem Rep.reads (I : Inv X pins σ H s) : ∀ {v : V} {d : PyData} {u : Value}, Rep H v d->RelV v u->∃ as, Reads s.heap u d as
 | _, _, _, .non, r => by cases r; exact ⟨_, .none⟩
 | _, _, _, .bl b, r => by cases r; exact ⟨_, .bool b⟩
 | _, _, _, .int i, r => by obtain ⟨t, rfl⟩:=r; exact ⟨_, .int i t⟩
 | _, _, _, .str x, r => by obtain ⟨t, rfl⟩:=r; exact ⟨_, .str x t⟩
 | _, _, _, .lst (a:=a) (xs:=xs) h q, r => by
  cases r
  obtain ⟨_, its, n, rv, e⟩:=(show ObjOk X.prog X.w H s.heap a (.lst xs) from I.hok a _ h)
  obtain ⟨as, ra⟩:=Reps.reads I q rv
  exact ⟨_, .list e rfl rfl (by simpa using ra)⟩
 | _, _, _, .tup (a:=a) (xs:=xs) h q, r => by
  cases r
  obtain ⟨_, its, rv, o, e, c, n, dd⟩:=(show ObjOk X.prog X.w H s.heap a (.tup xs) from I.hok a _ h)
  obtain ⟨as, ra⟩:=Reps.reads I q rv
  exact ⟨_, .tuple e c dd (by simpa using ra)⟩
theorem Reps.reads (I : Inv X pins σ H s) : ∀ {vs : List V} {ds : List PyData} {us : List Value}, Reps H vs ds->Vals vs us->∃ as, ReadsAll s.heap us ds as
 | _, _, _, .nil, .nil => ⟨_, .nil⟩
 | _, _, _, .cons r t, .cons q qs => by
  obtain ⟨as, ra⟩:=Rep.reads I r q
  obtain ⟨bs, rb⟩:=Reps.reads I t qs
  exact ⟨_, .cons ra rb⟩
end
end
mutual
noncomputable def plainD : PyData->Bool
 | .none | .int _ => true
 | .list xs | .tuple xs => plainDs xs
 | _ => false
noncomputable def plainDs : List PyData->Bool
 | [] => true
 | x :: xs => plainD x && plainDs xs
end
mutual
theorem plain_lay : ∀ (d : PyData), plainD d = true->d.canLay0 = true
 | .none, _ => by simp [PyData.canLay0]
 | .int _, _ => by simp [PyData.canLay0]
 | .list xs, h => by simp only [PyData.canLay0]; exact plain_lays xs (by simpa [plainD] using h)
 | .tuple xs, h => by simp only [PyData.canLay0]; exact plain_lays xs (by simpa [plainD] using h)
 | .bool _, h => by simp [plainD] at h
 | .str _, h => by simp [plainD] at h
 | .dict _, h => by simp [plainD] at h
theorem plain_lays : ∀ (ds : List PyData), plainDs ds = true->PyData.canLayAll0 ds = true
 | [], _ => by simp [PyData.canLayAll0]
 | x :: xs, h => by
  have h' : plainD x = true/\plainDs xs = true:=by simpa [plainDs] using h
  simp only [PyData.canLayAll0, plain_lay x h'.1, plain_lays xs h'.2, Bool.and_self]
end
mutual
theorem eqv_plain : ∀ (d e : PyData), plainD d = true->plainD e = true->(PyData.eqv d e = true ↔ d = e)
 | .none, e, _, h => by cases e <;> simp_all [plainD, PyData.eqv]
 | .int i, e, _, h => by cases e <;> simp_all [plainD, PyData.eqv]
 | .list xs, e, g, h => by
  cases e with
  | list ys => simp only [PyData.eqv, PyData.list.injEq]; exact eqvAll_plain xs ys (by simpa [plainD] using g) (by simpa [plainD] using h)
  | _ => simp_all [plainD, PyData.eqv]
 | .tuple xs, e, g, h => by
  cases e with
  | tuple ys => simp only [PyData.eqv, PyData.tuple.injEq]; exact eqvAll_plain xs ys (by simpa [plainD] using g) (by simpa [plainD] using h)
  | _ => simp_all [plainD, PyData.eqv]
 | .bool _, _, h, _ => by simp [plainD] at h
 | .str _, _, h, _ => by simp [plainD] at h
 | .dict _, _, h, _ => by simp [plainD] at h
theorem eqvAll_plain : ∀ (ds es : List PyData), plainDs ds = true->plainDs es = true->(PyData.eqvAll ds es = true ↔ ds = es)
 | [], [], _, _ => by simp [PyData.eqvAll]
 | [], _ :: _, _, _ => by simp [PyData.eqvAll]
 | _ :: _, [], _, _ => by simp [PyData.eqvAll]
 | x :: xs, y :: ys, g, h => by
  have g' : plainD x = true/\plainDs xs = true:=by simpa [plainDs] using g
  have h' : plainD y = true/\plainDs ys = true:=by simpa [plainDs] using h
  simp only [PyData.eqvAll, Bool.and_eq_true, List.cons.injEq, eqv_plain x y g'.1 h'.1, eqvAll_plain xs ys g'.2 h'.2]
end
def rEqD : R2:=fun x y H Q => ∃ d e, Rep H x d/\Rep H y e/\plainD d = true/\plainD e = true/\d.depth<=60/\Q (.bl (PyData.eqv d e)) H
section
variable {X : Cx}
theorem op_eqD (hu : X.A.units + 64 < cLine) : OpR X (compareOp .Eq) rEqD:=by
 intro pins s σ H x y v u Q I rx ry h
 obtain ⟨d, e, rd, re, hd, he, hz, q⟩:=h
 obtain ⟨as, ra⟩:=rd.reads I rx
 obtain ⟨bs, rb⟩:=re.reads I ry
 refine SeqAt.compareEq_reads ra rb (plain_lay _ hd) (plain_lay _ he) ?_ ⟨.bl _, H, I, rfl, q⟩
 have:=Nat.min_le_left d.depth e.depth
 row_cond lo
def rIsi (K : PySem.W.Frag) : List V->Hp->VK->Prop:=fun xs H Q => ∃ (x : V) (T : String) (t : Value) (b : Bool), xs = [x, .ty T]/\TyOf K H x t/\PySem.W.kitOne K t (.type T) = some b/\Q (.bl b) H
theorem call_isi : CallR X (.builtin "isinstance") (rIsi X.K):=by
 intro pins s σ H xs us Q I r h
 obtain ⟨x, T, t, b, rfl, ty, e, q⟩:=h
 obtain ⟨u, c, rfl, ru, rc⟩:=vals2 r
 cases rc
 exact isinst_ok I ru ty e fun tk => ⟨.bl b, H, I.tok _, rfl, q⟩
end
end L2
namespace HT
open PySem PyProof.Rows
section
open PySem.SeqAt
open PySem.AutoSeq1 (wpAny_loadPart')
open PySem.MeetsSeq PySem.MeetsSeq2 PySem.MeetsSeq3
end
section
variable {prog : Program} {w : World} {A : Around} {E : Value->Shared->Prop} {s : Shared}
theorem draw_list {it t : Addr} {items : Array Value} (hne : t ≠ it) : ∀ (n i : Nat) (s : Shared) (Q : List Value->Shared->Prop), s.heap.IsListIter it t i->s.heap.IsList t items->i + n<=items.size ->
  (∀ h', h'.IsListIter it t (i + n)->Heap.SameBut it s.heap h'->Q ((items.toList.drop i).take n) { s with heap:=h' })->wpAny (model prog w) A (draw (.ref it) n) Q E s
 | 0, i, s, Q, hit, _, _, hQ => by
  show wpAny _ _ (pure []) Q E s
  exact wpAny_pure (by simpa using hQ s.heap hit (Heap.SameBut.refl ..))
 | n + 1, i, s, Q, hit, ht, hle, hQ => by
  have hlt : i < items.size:=by row_cond lo
  show wpAny _ _ (pyNext (.ref it) >>= _) Q E s
  refine wpAny_bind (wpAny_pyNext_list_item hit ht (x:=items[i]) (by simp [hlt]) fun h₁ hit₁ hs₁ => ?_)
  refine wpAny_bind (wpAny_holding (draw_list hne n (i + 1) _ _ hit₁ (ht.extBut hs₁.extBut hne) (by row_cond lo) fun h₂ hit₂ hs₂ => wpAny_pure ?_))
  have hd : items.toList.drop i = items[i] :: items.toList.drop (i + 1):=by simp [List.drop_eq_getElem_cons, hlt]
  have:=hQ h₂ (by rw [show i + (n + 1) = i + 1 + n by row_cond lo]; exact hit₂) (hs₁.trans hs₂)
  rw [hd, List.take_succ_cons] at this
  exact this
theorem unpackItems_list {t : Addr} {items : Array Value} {Q : List Value->Shared->Prop} (hh : A.handled = none) (ht : s.heap.IsList t items)
  (hQ : ∀ h', Heap.ExtBut s.heap.objs.size s.heap h'->Q items.toList { s with heap:=h' }) : wpAny (model prog w) A (unpackItems (.ref t) items.size none) Q E s:=by
 have hlt : t ≠ s.heap.objs.size:=by obtain ⟨o, ho, _⟩:=ht; exact Nat.ne_of_lt (Heap.lt_size ho)
 unfold unpackItems
 refine wpAny_bind ?_
 ·unfold notIterableAtAll
  refine wpAny_bind (wpAny_specialOf ht.typeIs slot_list_iter.lookup ?_)
  refine wpAny_pure ?_
  simp only [Bool.false_eq_true, if_false]
  refine wpAny_bind (wpAny_holding (wpAny_pyIter_list ht ?_))
  refine wpAny_bind (wpAny_holding (draw_list hlt items.size 0 _ _ ⟨_, Heap.get?_push_size _ rfl, rfl, rfl⟩ (ht.push _) (by row_cond lo) fun h₁ hit₁ hs₁ => ?_))
  have hall : List.take items.size (List.drop 0 items.toList) = items.toList:=by
   rw [List.drop_zero]; exact List.take_of_length_le (by simp)
  rw [hall]
  rw [if_neg (by simp)]
  have ht₁ : h₁.IsList t items:=(ht.push _).extBut hs₁.extBut hlt
  refine wpAny_bind (wpAny_holding (wpAny_pyNext_list_end hh hit₁ ht₁ (by simp) fun h₂ he₂ => ?_))
  simp only [Option.isSome_none, Bool.false_eq_true, if_false]
  refine wpAny_pure (hQ h₂ fun b o hb e => he₂ b o hb (hs₁.extBut b o hb (Heap.get?_push_of_some _ e)))
theorem assign_Tuple_list {env : Env} {elts : List Expr} {x1} {pos : Pos} {t : Addr} {items : Array Value} {Q : Unit->Shared->Prop} (hh : A.handled = none) (ht : s.heap.IsList t items)
  (hn : (assignEach elts env).length = items.size) (hstar : (assignEach elts env).findIdx? (·.1) = none)
  (h : ∀ h', Heap.ExtBut s.heap.objs.size s.heap h'->wpAny (model prog w) A (assignInOrder ((assignEach elts env).map (·.2)) items.toList) Q E { s with heap:=h' }) :
  wpAny (model prog w) A (assign (.Tuple elts x1 pos) env (.ref t)) Q E s:=by
 rw [assign_Tuple]
 refine wpAny_bind (wpAny_standAt ?_)
 unfold unpack
 rw [hn, hstar]
 exact wpAny_bind (wpAny_holding (unpackItems_list hh ht h))
end
end HT
namespace L2
open PySem PySem.Spec PyProof.Rows
section
variable {X : Cx}
def gLst (K : PySem.W.Frag) (n : Nat) (t : TGs) : TG:=fun v σ H Q => ∃ a xs, v = .ref a/\SqL K H a xs/\xs.length = n/\t xs σ H Q
theorem pg_lst {es : List Expr} {k : Nat} {t : TGs} {n : Nat} {pos : Pos} (hc : X.calm = true) (h : PGs X es t)
  (hn : (assignEach es X.env).length = n:=by rfl) (hst : (assignEach es X.env).findIdx? (·.1) = none:=by rfl) : PG X (.Tuple es k pos) (gLst X.K n t):=by
 intro pins s σ H v u Q I r hw
 obtain ⟨a, xs, e1, hq, hl, hw⟩:=hw
 subst e1
 cases r
 obtain ⟨its, rv, ht, hz⟩:=I.list hq
 refine HT.assign_Tuple_list (I.ok.hd hc) ht.isList (by simp [hn, ← hl, rv.length]) hst fun h' hx => ?_
 have I1 : Inv X pins σ H { s with heap:=h' }:=I.kept (t':=s.toks) fun b o e => hx b o (Nat.ne_of_lt (Heap.lt_size e)) e
 exact h pins _ σ H xs _ Q I1 (by simpa using rv) hw
def rSortI (K : PySem.W.Frag) : List V->Hp->VK->Prop:=fun xs H Q => ∃ (a : Addr) (ns : List Int), xs = [.ref a]/\SqL K H a (ns.map V.int)/\ns.length < 64/\∀ (ns' : List Int) (p : Addr), ns'.Perm ns->ns'.Pairwise (·<=·)->H p = none->Q (.ref p) (upd H p (.lst (ns'.map V.int)))
theorem call_sortI : CallR X (.builtin "sorted") (rSortI X.K):=by
 intro pins s σ H xs us Q I r h
 obtain ⟨a, ns, rfl, ha, h64, q⟩:=h
 obtain ⟨u, rfl, ru⟩:=vals1 r
 cases ru
 obtain ⟨its, r1, p1, hz⟩:=I.list ha
 have i1 : IntsAre its.toArray.toList ns:=intsAre_of r1
 have i2 : IntsAre its ns:=by simpa using i1
 refine sorted_ints (vs:=its) p1.isList i2 (by rw [i2.length]; exact h64) fun out ns' b1 b2 b3 => ?_
 obtain ⟨e, he⟩:=sortedAll_at s.heap its out
 have hfree : H (s.heap.objs.size + 1) = none:=I.hok.fresh (Nat.le_succ _)
 refine ⟨.ref (s.heap.objs.size + 1), _, I.laid (t':=s.toks) (o:=.lst (ns'.map V.int)) (fun b ob q => sortedAll_old q) (Nat.le_succ _) ?_, rfl, q ns' _ b2 b3 hfree⟩
 refine ⟨?_, out.toList, e, vals_ints b1, by rw [he]⟩
 rw [List.length_map, b2.length_eq]
 exact Nat.le_of_lt (small1000 (by row_cond lo))
end
end L2
namespace HT
open PySem PyProof.Rows
theorem best_gt (val : Nat->Int) : ∀ k, argBest (fun i j => decide (val i > val j)) k<=k/\∀ i, i<=k->val i<=val (argBest (fun i j => decide (val i > val j)) k)
 | 0 => ⟨Nat.le_refl _, fun i hi => by have : i = 0 := by row_cond lo
                                       subst this; exact Int.le_refl _⟩
 | k + 1 => by
  obtain ⟨h1, h2⟩:=best_gt val k
  unfold argBest
  by_cases hc : val (k + 1) > val (argBest (fun i j => decide (val i > val j)) k)
  ·rw [if_pos (decide_eq_true hc)]
   refine ⟨Nat.le_refl _, fun i hi => ?_⟩
   by_cases e : i = k + 1
   ·subst e; exact Int.le_refl _
   ·have:=h2 i (by row_cond lo)
    exact Int.le_trans this (Int.le_of_lt hc)
  ·rw [if_neg (by simpa using hc)]
   refine ⟨by row_cond lo, fun i hi => ?_⟩
   by_cases e : i = k + 1
   ·subst e; row_cond lo
   ·exact h2 i (by row_cond lo)
theorem args_max3 (a b c : Value) : argsOk "max" ⟨[a, b, c], []⟩:=by unfold argsOk; kernel_rfl
noncomputable def val (ns : List Int) (i : Nat) : Int:=(ns[i]?).getD 0
theorem val_of {us : List Value} {ns : List Int} (hi : IntsAre us ns) (i : Nat) (v : Value) (h : us.toArray[i]? = some v) : ∃ t, v = .int (val ns i) t:=by
 induction hi generalizing i with
 | nil => simp at h
 | cons n t r ih =>
  cases i with
  | zero => simp at h; subst h; exact ⟨t, by simp [val]⟩
  | succ i =>
   obtain ⟨t', e⟩:=ih i (by simpa using h)
   exact ⟨t', by simpa [val] using e⟩
theorem val_mem {ns : List Int} {i : Nat} (h : i < ns.length) : val ns i ∈ ns:=by
 unfold val
 rw [List.getElem?_eq_getElem h]
 exact List.getElem_mem h
theorem val_at {ns : List Int} {x : Int} (h : x ∈ ns) : ∃ i, i < ns.length/\val ns i = x:=by
 obtain ⟨i, hi, e⟩:=List.mem_iff_getElem.mp h
 exact ⟨i, hi, by unfold val; rw [List.getElem?_eq_getElem hi]; exact e⟩
section
variable {prog : Program} {w : World} {A : Around} {E : Value->Shared->Prop} {s : Shared}
theorem max_tup {l : Addr} {us : List Value} {ns : List Int} {Q : Value->Shared->Prop} (hh : A.handled = none) (hl : s.heap.IsTuple l us.toArray) (hi : IntsAre us ns) (hne : ns ≠ [])
  (h : ∀ m t h' tk, m ∈ ns->(∀ x ∈ ns, x<=m)->(∀ b o, s.heap.get? b = some o->h'.get? b = some o)->Q (.int m t) { s with heap:=h', toks:=tk }) :
  wpAny (model prog w) A.in1 (pyIter (.ref l)) (fun it s₂ => ∃ I fp wr n P St bt, it = .ref I/\Walks prog w A.in1 I fp wr n P St/\St 0 s₂.heap/\(∀ b ∈ fp, b < s₂.heap.objs.size)/\0 < n/\CmpOf prog w A.in1 .Gt P bt /\
   ∀ v h' tk, P (argBest bt (n - 1)) v->(∀ b o, b ∉ wr->s₂.heap.get? b = some o->h'.get? b = some o)->Q v { s₂ with heap:=h', toks:=tk }) E s:=by
 have hlt : l < s.heap.objs.size:=by obtain ⟨_, e, _⟩:=hl; exact Heap.lt_size e
 have hz : us.length = ns.length:=hi.length
 have hp : 0 < ns.length:=List.length_pos_iff.mpr hne
 refine wpAny_pyIter_tuple hl ?_
 refine ⟨_, [s.heap.objs.size, l], [_], _, _, _, _, rfl, Walks.tuple (A:=A.in1) hh _ l (Nat.ne_of_lt hlt) us.toArray, ⟨⟨_, Heap.get?_push_size _ rfl, rfl, rfl⟩, hl.push _⟩, fun b hb => ?_, by simp; row_cond lo, CmpOf.ints_gt (val ns) (fun i v => val_of hi i v), fun v h' tk hP hk => ?_⟩
 ·show b < (s.heap.push _).objs.size
  rw [Heap.size_push]
  rcases List.mem_cons.mp hb with rfl | hb
  ·exact Nat.lt_succ_self _
  ·rcases List.mem_cons.mp hb with rfl | hb
   ·exact Nat.lt_succ_of_lt hlt
   ·cases hb
 ·obtain ⟨t, e⟩:=val_of hi _ _ hP
  obtain ⟨b1, b2⟩:=best_gt (val ns) (us.toArray.size - 1)
  have hs : us.toArray.size = ns.length:=by simp [hz]
  rw [hs] at b1 b2
  subst e
  refine h _ t h' tk (val_mem (by rw [hs]; row_cond lo)) (fun x hx => ?_) fun b o e => ?_
  ·obtain ⟨i, hi', e⟩:=val_at hx
   have:=b2 i (by row_cond lo)
   rw [e] at this
   rw [hs]
   exact this
  ·refine hk b o (fun hm => ?_) (Heap.get?_push_of_some _ e)
   rcases List.mem_cons.mp hm with e1 | hm
   ·exact absurd (e1 ▸ Heap.lt_size e) (Nat.lt_irrefl _)
   ·cases hm
theorem call_max_three {a b c : Value} {Q : Value->Shared->Prop}
  (h : wpAny (model prog w) A.in1 (pyIter (.ref s.heap.objs.size)) (fun it s₂ => ∃ I fp wr n P St bt, it = .ref I/\Walks prog w A.in1 I fp wr n P St/\St 0 s₂.heap/\(∀ b ∈ fp, b < s₂.heap.objs.size)/\0 < n/\CmpOf prog w A.in1 .Gt P bt /\
   ∀ v h' tk, P (argBest bt (n - 1)) v->(∀ b o, b ∉ wr->s₂.heap.get? b = some o->h'.get? b = some o)->Q v { s₂ with heap:=h', toks:=tk }) E
   { s with heap:=s.heap.push { cls:=.type "tuple", data:=.seq #[a, b, c] } }) :
  wpAny (model prog w) A (call (.builtin "max") [a, b, c]) Q E s:=by
 have hname : (toString "max" ++ toString ".loop" : String) = "max.loop":=by decide
 refine call_function_tree F.kind_max F.plain_max F.entry_max (args_max3 _ _ _) ?_
 show wpAny _ A.in1 (Builtin.Builtins.bindParams "max" ["key", "default"] 0 ⟨[], []⟩ >>= _) _ _ s
 refine wpAny_bind (wpAny_of_eq (show Builtin.Builtins.bindParams "max" ["key", "default"] 0 ⟨[], []⟩ = pure [none, none] from rfl) ?_)
 show wpAny _ A.in1 (newTuple [a, b, c] >>= _) _ _ s
 refine wpAny_bind (wpAny_newObj_type ?_)
 refine wpAny_bind (wpAny_mono h (fun it s₂ h₂ => ?_) fun _ _ e => e)
 obtain ⟨I, fp, wr, n, P, St, bt, rfl, W, hst, hfp, hn, hcmp, hQ⟩:=h₂
 refine wpAny_bind (wpAny_newObj_type ?_)
 have hSf : s₂.heap.objs.size ∉ fp:=fun hm => Nat.lt_irrefl _ (hfp _ hm)
 rw [hname]
 refine wpAny_pure ⟨plainId_quiet F.plain_max_loop _, codeAny_max_loop_first W bt hcmp s₂.heap.objs.size hSf hn (W.frame _ _ _ hst fun b _ o e => Heap.get?_push_of_some _ e) (Heap.get?_push_size _ rfl) fun v h' tk hP hk => ?_⟩
 exact hQ v h' tk hP fun b o hbw e => hk b o hbw (Nat.ne_of_lt (Heap.lt_size e)) (Heap.get?_push_of_some _ e)
end
end HT
namespace L2
open PySem PySem.Spec PyProof.Rows
section
variable {X : Cx}
def IsMax (ns : List Int) (m : Int) : Prop:=m ∈ ns/\∀ x ∈ ns, x<=m
def rMax3 : List V->Hp->VK->Prop:=fun xs H Q => ∃ i j k : Int, xs = [.int i, .int j, .int k]/\∀ m, IsMax [i, j, k] m->Q (.int m) H
theorem call_max3 (hc : X.calm = true) : CallR X (.builtin "max") rMax3:=by
 intro pins s σ H xs us Q I r h
 obtain ⟨i, j, k, rfl, q⟩:=h
 cases r with
 | cons r1 r =>
  obtain ⟨u, w', rfl, r2, r3⟩:=vals2 r
  obtain ⟨t1, rfl⟩:=r1
  obtain ⟨t2, rfl⟩:=r2
  obtain ⟨t3, rfl⟩:=r3
  refine HT.call_max_three (HT.max_tup (us:=[.int i t1, .int j t2, .int k t3]) (ns:=[i, j, k]) (I.ok.hd hc) ⟨_, Heap.get?_push_size _ rfl, rfl, 0, rfl⟩ (.cons _ _ (.cons _ _ (.cons _ _ .nil))) (by simp) fun m t h' tk m1 m2 kp => ?_)
  exact ⟨.int m, H, I.kept fun b o e => kp b o (Heap.get?_push_of_some _ e), ⟨_, rfl⟩, q m ⟨m1, m2⟩⟩
end
end L2
namespace L2
open PySem PySem.Spec PyProof.Rows
def tTru (K : PySem.W.Frag) (ta : TE) : TT:=fun σ H Q => ta σ H fun x H' => ∃ k, TruV K x H' k/\Q k H'
def rIsN : R2:=fun x y H Q => y = .non/\Q (.bl (decide (x = .non))) H
def rNotN : R2:=fun x y H Q => y = .non/\Q (.bl (!decide (x = .non))) H
section
variable {X : Cx} {a : Expr} {ta : TE}
theorem pt_tru (ha : PE X a ta) (he : ∀ whole, isTrue a X.env whole = (do let v ← whole; standAt a.pos; holding [v] (truthy v)):=by intro _; rfl) : PT X a (tTru X.K ta):=pt_truth ha he
def rIxLT (K : PySem.W.Frag) : R2:=fun x y H Q => rIxL K x y H Q\/rIxT K x y H Q
theorem ix_lt : IxR X (rIxLT X.K):=ix_list.or ix_tup
theorem pe_powc {i j n : Int} {x1 x2 : Nat} {p1 p2 pos : Pos} (h : i ^ j.toNat = n) (hc : CPow i j) : PE X (.BinOp (.Constant (.int i) x1 p1) .Pow (.Constant (.int j) x2 p2) pos) (tC (.int n)):=by
 intro pins s σ H Q I q
 subst h
 exact pe_op op_pow pe_int pe_int pins s σ H Q I ⟨i, j, rfl, rfl, hc, q⟩
theorem op_isNn : OpR X (compareOp .Is) rIsN:=op_isN
theorem op_notNn : OpR X (compareOp .IsNot) rNotN:=op_notN
end
section
variable {σ : St} {H : Hp} {D : Ends} {K : PySem.W.Frag}
theorem go_ixltL {a : Addr} {xs : List V} {i : Int} {v : V} {Q : VK} (ha : H a = some (.lst xs)) (hv : atI xs i = some v) (h : Q v H) : rIxLT K (.ref a) (.int i) H Q:=.inl (go_ixL ha hv h)
theorem go_ixltT {a : Addr} {xs : List V} {i : Int} {v : V} {Q : VK} (ha : H a = some (.tup xs)) (hv : atI xs i = some v) (h : Q v H) : rIxLT K (.ref a) (.int i) H Q:=.inr (go_ixT ha hv h)
theorem go_ixltS {a : Addr} {xs : List V} {i : Int} {v : V} {Q : VK} (ha : SqL K H a xs) (hv : atI xs i = some v) (h : Q v H) : rIxLT K (.ref a) (.int i) H Q:=.inl (go_ixS ha hv h)
theorem go_ifT {A B : Prop} (h : A) : if true = true then A else B:=by rw [if_pos rfl]; exact h
theorem go_ifF {A B : Prop} (h : B) : if false = true then A else B:=by rw [if_neg Bool.false_ne_true]; exact h
theorem go_ifNT {A B : Prop} (h : B) : if (!true) = true then A else B:=by rw [if_neg (by decide)]; exact h
theorem go_ifNF {A B : Prop} (h : A) : if (!false) = true then A else B:=by rw [if_pos (by decide)]; exact h
theorem go_iteNT {c : Prop} [Decidable c] {A B : Prop} (hc : c) (h : B) : if (!decide c) = true then A else B:=by rw [decide_eq_true hc]; exact go_ifNT h
theorem go_iteNF {c : Prop} [Decidable c] {A B : Prop} (hc : ¬ c) (h : A) : if (!decide c) = true then A else B:=by rw [decide_eq_false hc]; exact go_ifNF h
theorem go_max3 {i j k : Int} {Q : VK} (h : ∀ m, IsMax [i, j, k] m->Q (.int m) H) : rMax3 [.int i, .int j, .int k] H Q:=⟨i, j, k, rfl, h⟩
theorem kit_NoneType_int {K : PySem.W.Frag} : PySem.W.kitOne K (.type "NoneType") (.type "int") = some false:=by first | rfl | decide
theorem kit_NoneType_bool {K : PySem.W.Frag} : PySem.W.kitOne K (.type "NoneType") (.type "bool") = some false:=by first | rfl | decide
theorem kit_NoneType_tuple {K : PySem.W.Frag} : PySem.W.kitOne K (.type "NoneType") (.type "tuple") = some false:=by first | rfl | decide
theorem kit_NoneType_list {K : PySem.W.Frag} : PySem.W.kitOne K (.type "NoneType") (.type "list") = some false:=by first | rfl | decide
theorem kit_NoneType_str {K : PySem.W.Frag} : PySem.W.kitOne K (.type "NoneType") (.type "str") = some false:=by first | rfl | decide
theorem kit_NoneType_dict {K : PySem.W.Frag} : PySem.W.kitOne K (.type "NoneType") (.type "dict") = some false:=by first | rfl | decide
theorem kit_bool_int {K : PySem.W.Frag} : PySem.W.kitOne K (.type "bool") (.type "int") = some true:=by first | rfl | decide
theorem kit_bool_bool {K : PySem.W.Frag} : PySem.W.kitOne K (.type "bool") (.type "bool") = some true:=by first | rfl | decide
theorem kit_bool_tuple {K : PySem.W.Frag} : PySem.W.kitOne K (.type "bool") (.type "tuple") = some false:=by first | rfl | decide
theorem kit_bool_list {K : PySem.W.Frag} : PySem.W.kitOne K (.type "bool") (.type "list") = some false:=by first | rfl | decide
theorem kit_bool_str {K : PySem.W.Frag} : PySem.W.kitOne K (.type "bool") (.type "str") = some false:=by first | rfl | decide
theorem kit_bool_dict {K : PySem.W.Frag} : PySem.W.kitOne K (.type "bool") (.type "dict") = some false:=by first | rfl | decide
theorem kit_int_int {K : PySem.W.Frag} : PySem.W.kitOne K (.type "int") (.type "int") = some true:=by first | rfl | decide
theorem kit_int_bool {K : PySem.W.Frag} : PySem.W.kitOne K (.type "int") (.type "bool") = some false:=by first | rfl | decide
theorem kit_int_tuple {K : PySem.W.Frag} : PySem.W.kitOne K (.type "int") (.type "tuple") = some false:=by first | rfl | decide
theorem kit_int_list {K : PySem.W.Frag} : PySem.W.kitOne K (.type "int") (.type "list") = some false:=by first | rfl | decide
theorem kit_int_str {K : PySem.W.Frag} : PySem.W.kitOne K (.type "int") (.type "str") = some false:=by first | rfl | decide
theorem kit_int_dict {K : PySem.W.Frag} : PySem.W.kitOne K (.type "int") (.type "dict") = some false:=by first | rfl | decide
theorem kit_str_int {K : PySem.W.Frag} : PySem.W.kitOne K (.type "str") (.type "int") = some false:=by first | rfl | decide
theorem kit_str_bool {K : PySem.W.Frag} : PySem.W.kitOne K (.type "str") (.type "bool") = some false:=by first | rfl | decide
theorem kit_str_tuple {K : PySem.W.Frag} : PySem.W.kitOne K (.type "str") (.type "tuple") = some false:=by first | rfl | decide
theorem kit_str_list {K : PySem.W.Frag} : PySem.W.kitOne K (.type "str") (.type "list") = some false:=by first | rfl | decide
theorem kit_str_str {K : PySem.W.Frag} : PySem.W.kitOne K (.type "str") (.type "str") = some true:=by first | rfl | decide
theorem kit_str_dict {K : PySem.W.Frag} : PySem.W.kitOne K (.type "str") (.type "dict") = some false:=by first | rfl | decide
theorem kit_list_int {K : PySem.W.Frag} : PySem.W.kitOne K (.type "list") (.type "int") = some false:=by first | rfl | decide
theorem kit_list_bool {K : PySem.W.Frag} : PySem.W.kitOne K (.type "list") (.type "bool") = some false:=by first | rfl | decide
theorem kit_list_tuple {K : PySem.W.Frag} : PySem.W.kitOne K (.type "list") (.type "tuple") = some false:=by first | rfl | decide
theorem kit_list_list {K : PySem.W.Frag} : PySem.W.kitOne K (.type "list") (.type "list") = some true:=by first | rfl | decide
theorem kit_list_str {K : PySem.W.Frag} : PySem.W.kitOne K (.type "list") (.type "str") = some false:=by first | rfl | decide
theorem kit_list_dict {K : PySem.W.Frag} : PySem.W.kitOne K (.type "list") (.type "dict") = some false:=by first | rfl | decide
theorem kit_tuple_int {K : PySem.W.Frag} : PySem.W.kitOne K (.type "tuple") (.type "int") = some false:=by first | rfl | decide
theorem kit_tuple_bool {K : PySem.W.Frag} : PySem.W.kitOne K (.type "tuple") (.type "bool") = some false:=by first | rfl | decide
theorem kit_tuple_tuple {K : PySem.W.Frag} : PySem.W.kitOne K (.type "tuple") (.type "tuple") = some true:=by first | rfl | decide
theorem kit_tuple_list {K : PySem.W.Frag} : PySem.W.kitOne K (.type "tuple") (.type "list") = some false:=by first | rfl | decide
theorem kit_tuple_str {K : PySem.W.Frag} : PySem.W.kitOne K (.type "tuple") (.type "str") = some false:=by first | rfl | decide
theorem kit_tuple_dict {K : PySem.W.Frag} : PySem.W.kitOne K (.type "tuple") (.type "dict") = some false:=by first | rfl | decide
theorem kit_dict_int {K : PySem.W.Frag} : PySem.W.kitOne K (.type "dict") (.type "int") = some false:=by first | rfl | decide
theorem kit_dict_bool {K : PySem.W.Frag} : PySem.W.kitOne K (.type "dict") (.type "bool") = some false:=by first | rfl | decide
theorem kit_dict_tuple {K : PySem.W.Frag} : PySem.W.kitOne K (.type "dict") (.type "tuple") = some false:=by first | rfl | decide
theorem kit_dict_list {K : PySem.W.Frag} : PySem.W.kitOne K (.type "dict") (.type "list") = some false:=by first | rfl | decide
theorem kit_dict_str {K : PySem.W.Frag} : PySem.W.kitOne K (.type "dict") (.type "str") = some false:=by first | rfl | decide
theorem kit_dict_dict {K : PySem.W.Frag} : PySem.W.kitOne K (.type "dict") (.type "dict") = some true:=by first | rfl | decide
end
end L2
namespace L2
open PySem
section
variable {σ : St} {H : Hp} {K : PySem.W.Frag}
theorem same_upd {p : Addr} {o : HO} (hp : H p = none) : Same H (upd H p o):=fun b u e => by rw [upd_ne (ne_of_none e hp)]; exact e
theorem Same.new {H H' : Hp} {q : Addr} {o : HO} (s : Same H H') (h : H' q = none) : Same H (upd H' q o):=fun b u e => by
 have:=s b u e
 rw [upd_ne (ne_of_none this h)]; exact this
theorem Same.set {H H' : Hp} {q : Addr} {o : HO} (s : Same H H') (h : H q = none) : Same H (upd H' q o):=fun b u e => by
 have:=s b u e
 rw [upd_ne (ne_of_none e h)]; exact this
theorem Same.at {H H' : Hp} {b : Addr} {o : HO} (s : Same H H') (h : H b = some o) : H' b = some o:=s b o h
end
end L2
namespace L2
open PySem
section
variable {σ : St} {H : Hp} {K : PySem.W.Frag}
end
end L2
namespace Gr
inductive Walk (T : Int->Int->Prop) (u : Int) : Nat->Int->Prop
 | refl : Walk T u 0 u
 | step {k : Nat} {v w : Int} : Walk T u k v->T v w->Walk T u (k + 1) w
def Dist (T : Int->Int->Prop) (u v : Int) (d : Nat) : Prop:=Walk T u d v/\∀ k, Walk T u k v->d<=k
theorem Dist.uniq {T : Int->Int->Prop} {u v : Int} {d e : Nat} (h : Dist T u v d) (g : Dist T u v e) : d = e:=Nat.le_antisymm (h.2 _ g.1) (g.2 _ h.1)
theorem Dist.self (T : Int->Int->Prop) (u : Int) : Dist T u u 0:=⟨.refl, fun _ _ => Nat.zero_le _⟩
theorem Dist.of_walk {T : Int->Int->Prop} {u v : Int} {k : Nat} (h : Walk T u k v) : ∃ d, d<=k/\Dist T u v d:=by
 induction k using Nat.strongRecOn with
 | ind k ih =>
  by_cases hx : ∃ j, j < k/\Walk T u j v
  ·obtain ⟨j, hj, w⟩:=hx
   obtain ⟨d, hd, e⟩:=ih j hj w
   exact ⟨d, by row_cond lo, e⟩
  ·refine ⟨k, Nat.le_refl _, h, fun j w => ?_⟩
   by_cases hj : j < k
   ·exact absurd ⟨j, hj, w⟩ hx
   ·row_cond lo
theorem Dist.pred {T : Int->Int->Prop} {u w : Int} {d : Nat} (h : Dist T u w (d + 1)) : ∃ v, T v w/\Dist T u v d:=by
 obtain ⟨hw, hm⟩:=h
 cases hw with
 | step hv ht =>
  rename_i v
  refine ⟨v, ht, hv, fun k hk => ?_⟩
  have:=hm (k + 1) (.step hk ht)
  row_cond lo
theorem Dist.next {T : Int->Int->Prop} {u v w : Int} {d : Nat} (h : Dist T u v d) (t : T v w) : ∃ e, e<=d + 1/\Dist T u w e:=Dist.of_walk (.step h.1 t)
structure Bfs (T : Int->Int->Prop) (a : Int) (line : List Int) (ds : List Nat) (at_ : Nat) : Prop where
 len : ds.length = line.length
 fst : line[0]? = some a
 nd : line.Nodup
 le : at_<=line.length
 dist : ∀ (i : Nat) v d, line[i]? = some v->ds[i]? = some d->Dist T a v d
 mono : ∀ (i j : Nat) d e, i<=j->ds[i]? = some d->ds[j]? = some e->d<=e
 near : ∀ (i j : Nat) d e, at_<=i->ds[i]? = some d->ds[j]? = some e->e<=d + 1
 done : ∀ (i : Nat) v w, i < at_->line[i]? = some v->T v w->w ∈ line
theorem Bfs.start (T : Int->Int->Prop) (a : Int) : Bfs T a [a] [0] 0:=by
 refine ⟨rfl, rfl, by simp, Nat.zero_le _, fun i v d h1 h2 => ?_, fun i j d e h h1 h2 => ?_, fun i j d e h h1 h2 => ?_, fun i v w h => absurd h (by row_cond lo)⟩
 ·match i, h1, h2 with
  | 0, h1, h2 => simp at h1 h2; subst h1 h2; exact Dist.self T a
  | i + 1, h1, _ => simp at h1
 ·match j, h2 with
  | 0, h2 =>
   have : i = 0:=by row_cond lo
   subst this
   rw [h1] at h2; cases h2; exact Nat.le_refl _
  | j + 1, h2 => simp at h2
 ·match i, j, h1, h2 with
  | 0, 0, h1, h2 => rw [h1] at h2; cases h2; row_cond lo
  | i + 1, _, h1, _ => simp at h1
  | 0, j + 1, _, h2 => simp at h2
theorem Bfs.all {T : Int->Int->Prop} {a : Int} {line : List Int} {ds : List Nat} {at_ : Nat} {d : Nat} (b : Bfs T a line ds at_) (hd : ds[at_]? = some d) :
  ∀ k w, k<=d->Dist T a w k->w ∈ line:=by
 intro k
 induction k with
 | zero =>
  intro w _ h
  have : w = a:=by
   cases h.1; rfl
  subst this
  exact List.mem_of_getElem? b.fst
 | succ k ih =>
  intro w hk h
  obtain ⟨v, tv, dv⟩:=h.pred
  have hv:=ih v (by row_cond lo) dv
  obtain ⟨i, hi, e⟩:=List.mem_iff_getElem.mp hv
  have e1 : line[i]? = some v:=by rw [List.getElem?_eq_getElem hi, e]
  have hi2 : i < ds.length:=by rw [b.len]; exact hi
  have e2 : ds[i]? = some ds[i]:=List.getElem?_eq_getElem hi2
  have e3:=(b.dist i v _ e1 e2).uniq dv
  by_cases hlt : i < at_
  ·exact b.done i v w hlt e1 tv
  ·have:=b.mono at_ i d _ (by row_cond lo) hd e2
   row_cond lo
theorem Bfs.next {T : Int->Int->Prop} {a : Int} {line : List Int} {ds : List Nat} {at_ : Nat} {p : Int} (b : Bfs T a line ds at_) (hp : line[at_]? = some p) (h : ∀ w, T p w->w ∈ line) : Bfs T a line ds (at_ + 1):=by
 have hlt : at_ < line.length:=(List.getElem?_eq_some_iff.mp hp).1
 refine ⟨b.len, b.fst, b.nd, hlt, b.dist, b.mono, fun i j d e hi => b.near i j d e (by row_cond lo), fun i v w hi h1 t => ?_⟩
 by_cases e : i = at_
 ·subst e
  rw [hp] at h1; cases h1
  exact h w t
 ·exact b.done i v w (by row_cond lo) h1 t
end Gr
namespace L2
open PySem PySem.Spec PyProof.Rows
section
variable {σ : St} {H : Hp} {D : Ends} {K : PySem.W.Frag}
end
theorem few_places : ∀ (n : Nat) (l : List Int), l.Nodup->(∀ v ∈ l, 0<=v/\v < (n : Int))->l.length<=n
 | 0, l, _, h => by
  cases l with
  | nil => simp
  | cons v r => have:=h v (by simp); row_cond lo
 | n + 1, l, hn, h => by
  have h1:=few_places n (l.erase (n : Int)) (hn.erase _) fun v hv => by
   have hm:=List.mem_of_mem_erase hv
   have hb:=h v hm
   have hne : v ≠ (n : Int):=by
    rintro rfl
    exact absurd hv (List.Nodup.not_mem_erase hn)
   row_cond lo
  have h2 : l.length<=(l.erase (n : Int)).length + 1:=by
   rw [List.length_erase]
   split <;> row_cond lo
  row_cond lo
end L2
namespace L2
open PySem
end L2
namespace HT
open PySem PyProof.Rows
section
variable {prog : Program} {w : World} {A : Around} {E : Value->Shared->Prop} {s : Shared}
end
end HT
namespace L2
open PySem PySem.Spec PyProof.Rows
section
variable {X : Cx}
end
end L2
namespace L2
open PySem PySem.Spec PyProof.Rows
section
variable {X : Cx} {pins : List (Addr × Obj)} {σ : St} {H : Hp} {s : Shared} {A : Around} {E : Value->Shared->Prop} {Q : Value->Shared->Prop} {b : Bool}
end
section
variable {X : Cx}
end
end L2
namespace HT
open PySem PyProof.Rows L2
def LtAt (A : Around) (s : Shared) (y x : Value) (b : Bool) : Prop :=
 ∀ (prog : Program) (w : World) (E : Value->Shared->Prop) (Q : Value->Shared->Prop), Q (.bool b) s->wpAny (model prog w) A (richCompare .Lt y x) Q E s
section
open PySem.SeqAt
open PySem.AutoSeq1 (wpAny_loadPart')
open PySem.MeetsSeq PySem.MeetsSeq2 PySem.MeetsSeq3
inductive Its (A : Around) (s : Shared) : List Value->List Value->Bool->Prop
 | nn : Its A s [] [] false
 | nc {x : Value} {ys : List Value} : Its A s [] (x :: ys) true
 | cn {x : Value} {xs : List Value} : Its A s (x :: xs) [] false
 | eq {x y : Value} {xs ys : List Value} {b : Bool} : EqAt A s x y true->Its A s xs ys b->Its A s (x :: xs) (y :: ys) b
 | ne {x y : Value} {xs ys : List Value} {b : Bool} : EqAt A s x y false->LtAt A s x y b->Its A s (x :: xs) (y :: ys) b
theorem tuple_lt_its (l b : Addr) (items items2 : Array Value) (n n2 : Nat) (dd dd2 : Option Addr) (sl sl2 : Array (Option Value)) (r : Bool) :
  Meets (Builtin.«tuple.__lt__» ⟨[.ref l, .ref b], []⟩)
   (fun A R s => s.heap.get? l = some { cls:=.type "tuple", dict:=dd, data:=.seq items n, slots:=sl }/\s.heap.get? b = some { cls:=.type "tuple", dict:=dd2, data:=.seq items2 n2, slots:=sl2 } /\
    Its A.in1 s items.toList items2.toList r/\R (.ok (.ret (.bool r))) s) :=
 .of_wp fun prog w A R s h => by
  obtain ⟨hp, g, d, tk, os⟩:=s; obtain ⟨hl, hb, hi, h⟩:=h
  have f2:=AutoSeq1.sub_tuple_tuple
  wp_walk using wpAny_loadPart' hl, wpAny_loadPart' hb, wpAny_forIn_list _ (fun rest b s' => b.1 = none/\s' = ⟨hp, g, d, tk, os⟩/\∃ (vs ws : List Value), rest = vs.zip ws /\
   vs.length + items2.size = ws.length + items.size/\Its A.in1 ⟨hp, g, d, tk, os⟩ vs ws r) _
  case turn =>
   rintro ⟨y, x⟩ rest b s' ⟨hb', rfl, vs, ws, hz, hlen, hI⟩
   cases hI with
   | nn => cases hz
   | nc => cases hz
   | cn => cases hz
   | eq he hI' =>
    rw [List.zip_cons_cons] at hz
    injection hz with hyx hrest
    injection hyx with hy hx
    subst hy hx
    simp only [List.length_cons] at hlen
    refine wpAny_bind (he prog w _ _ ?_)
    wp_walk
    exact ⟨rfl, rfl, _, _, hrest, by row_cond lo, hI'⟩
   | ne he hlt =>
    rw [List.zip_cons_cons] at hz
    injection hz with hyx hrest
    injection hyx with hy hx
    subst hy hx
    refine wpAny_bind (he prog w _ _ ?_)
    have hri:=hlt prog w
    wp_walk using hri
    exact ⟨_, rfl, by simpa using h⟩
  case fin =>
   rintro ⟨b1, b2⟩ s' ⟨hb', rfl, vs, ws, hz, hlen, hI⟩
   simp only at hb'
   subst hb'
   have hv : r = decide (items.size < items2.size):=by
    cases hI with
    | nn =>
     simp only [List.length_nil] at hlen
     exact (decide_eq_false (by row_cond lo)).symm
    | nc =>
     simp only [List.length_nil, List.length_cons] at hlen
     exact (decide_eq_true (by row_cond lo)).symm
    | cn =>
     simp only [List.length_nil, List.length_cons] at hlen
     exact (decide_eq_false (by row_cond lo)).symm
    | eq => cases hz
    | ne => cases hz
   rw [hv] at h
   wp_walk
   exact ⟨_, rfl, by simpa [Builtin.Tuple.tupleCompareSizes] using h⟩
  case h =>
   exact ⟨rfl, rfl, items.toList, items2.toList, rfl, by simp; row_cond lo, hi⟩
end
section
variable {A : Around} {s : Shared}
theorem LtAt.tup {l b : Addr} {o o2 : Obj} {items items2 : Array Value} {n n2 : Nat} {r : Bool} (hl : s.heap.get? l = some o) (hc : o.cls = .type "tuple") (hd : o.data = .seq items n) (hb : s.heap.get? b = some o2) (hc2 : o2.cls = .type "tuple") (hd2 : o2.data = .seq items2 n2)
  (hu : A.units < cLine) (hi : Its A.in1 s items.toList items2.toList r) : LtAt A s (.ref l) (.ref b) r:=by
 intro prog w E Q q
 obtain ⟨cls, dd, data, sl⟩:=o
 obtain ⟨cls2, dd2, data2, sl2⟩:=o2
 simp only at hc hd hc2 hd2
 subst hc hd hc2 hd2
 exact richCompare_meets_room (op:=.Lt) ⟨_, hl, rfl⟩ ⟨_, hb, rfl⟩ PySem.F.slot_tuple_lt PySem.F.entry_tuple_lt (PySem.F.args_tuple_lt_2 _ _) (tuple_lt_its l b items items2 n n2 dd dd2 sl sl2 r)
  ⟨hl, hb, hi, show Value.bool r ≠ Value.notImplemented/\Q (.bool r) s from ⟨(fun x => nomatch x), q⟩⟩ hu
end
end HT
namespace L2
open PySem PySem.Spec PyProof.Rows
section
variable {X : Cx}
end
end L2
namespace L2
open PySem
end L2
namespace TS
open PySem PyProof.Rows HT
def TI (h : Heap) (a : Addr) (ns : List Int) : Prop:=∃ o xs n, h.get? a = some o/\o.cls = .type "tuple"/\o.data = .seq xs n/\IntsAre xs.toList ns
section
variable {prog : Program} {w : World} {A : Around} {E : Value->Shared->Prop} {s : Shared}
end
end TS
namespace L2
open PySem PySem.Spec PyProof.Rows
section
variable {X : Cx}
end
end L2
namespace HT
open PySem PySem.Spec PyProof.Rows L2
section
variable {prog : Program} {w : World} {A : Around} {kw : List (Str × Value)} {R : Result->Shared->Prop} {I S : Addr} {fp wr : List Addr} {n : Nat} {P : Nat->Value->Prop} {St : Nat->Heap->Prop} {Hd : Heap->Prop}
end
section
variable {prog : Program} {w : World} {A : Around} {E : Value->Shared->Prop} {s : Shared}
end
end HT
namespace L2
open PySem PySem.Spec PyProof.Rows
section
variable {X : Cx} {x : Str} {p pos kpos : Pos} {e en : Expr} {t : TA}
end
end L2
namespace HT
open PySem PySem.Spec PyProof.Rows
section
variable {prog : Program} {w : World} {A : Around} {E : Value->Shared->Prop} {s : Shared}
end
end HT
namespace L2
open PySem PySem.Spec PyProof.Rows
section
variable {X : Cx}
end
end L2
namespace VL
open PySem PySem.Spec L2
noncomputable def kD : Key->PyData
 | .inl i => .int i
 | .inr x => .str x
mutual
inductive Rp (G : Hp) : V->PyData->Prop
 | non : Rp G .non .none
 | bl (b : Bool) : Rp G (.bl b) (.bool b)
 | int (i : Int) : Rp G (.int i) (.int i)
 | str (x : Str) : Rp G (.str x) (.str x)
 | lst {a : Addr} {xs : List V} {ds : List PyData} : G a = some (.lst xs)->Rps G xs ds->Rp G (.ref a) (.list ds)
 | tup {a : Addr} {xs : List V} {ds : List PyData} : G a = some (.tup xs)->Rps G xs ds->Rp G (.ref a) (.tuple ds)
 | dk {a : Addr} {kvs : List (Key × V)} {es : List (Key × PyData)} {ds : List (PyData × PyData)} : G a = some (.dK kvs)->RpK G kvs es->ds = es.map (fun p => (kD p.1, p.2))->Rp G (.ref a) (.dict ds)
 | dt {a : Addr} {kvs : List (List Key × V)} {es : List (List Key × PyData)} {ds : List (PyData × PyData)} : G a = some (.dT kvs)->RpT G kvs es->ds = es.map (fun p => (.tuple (p.1.map kD), p.2))->Rp G (.ref a) (.dict ds)
inductive Rps (G : Hp) : List V->List PyData->Prop
 | nil : Rps G [] []
 | cons {v : V} {vs : List V} {d : PyData} {ds : List PyData} : Rp G v d->Rps G vs ds->Rps G (v :: vs) (d :: ds)
inductive RpK (G : Hp) : List (Key × V)->List (Key × PyData)->Prop
 | nil : RpK G [] []
 | cons {k : Key} {v : V} {d : PyData} {r : List (Key × V)} {s : List (Key × PyData)} : Rp G v d->RpK G r s->RpK G ((k, v) :: r) ((k, d) :: s)
inductive RpT (G : Hp) : List (List Key × V)->List (List Key × PyData)->Prop
 | nil : RpT G [] []
 | cons {k : List Key} {v : V} {d : PyData} {r : List (List Key × V)} {s : List (List Key × PyData)} : Rp G v d->RpT G r s->RpT G ((k, v) :: r) ((k, d) :: s)
end
mutual
theorem Rp.same {G G' : Hp} (s : Same G G') : ∀ {v : V} {d : PyData}, Rp G v d->Rp G' v d
 | _, _, .non => .non
 | _, _, .bl b => .bl b
 | _, _, .int i => .int i
 | _, _, .str x => .str x
 | _, _, .lst h r => .lst (s _ _ h) (Rps.same s r)
 | _, _, .tup h r => .tup (s _ _ h) (Rps.same s r)
 | _, _, .dk h r e => .dk (s _ _ h) (RpK.same s r) e
 | _, _, .dt h r e => .dt (s _ _ h) (RpT.same s r) e
theorem Rps.same {G G' : Hp} (s : Same G G') : ∀ {vs : List V} {ds : List PyData}, Rps G vs ds->Rps G' vs ds
 | _, _, .nil => .nil
 | _, _, .cons r t => .cons (Rp.same s r) (Rps.same s t)
theorem RpK.same {G G' : Hp} (s : Same G G') : ∀ {vs : List (Key × V)} {ds : List (Key × PyData)}, RpK G vs ds->RpK G' vs ds
 | _, _, .nil => .nil
 | _, _, .cons r t => .cons (Rp.same s r) (RpK.same s t)
theorem RpT.same {G G' : Hp} (s : Same G G') : ∀ {vs : List (List Key × V)} {ds : List (List Key × PyData)}, RpT G vs ds->RpT G' vs ds
 | _, _, .nil => .nil
 | _, _, .cons r t => .cons (Rp.same s r) (RpT.same s t)
end
theorem Rps.length {G : Hp} : ∀ {vs : List V} {ds : List PyData}, Rps G vs ds->vs.length = ds.length
 | _, _, .nil => rfl
 | _, _, .cons _ t => by simp [Rps.length t]
theorem Rps.get {G : Hp} : ∀ {vs : List V} {ds : List PyData} {i : Nat} {d : PyData}, Rps G vs ds->ds[i]? = some d->∃ v, vs[i]? = some v/\Rp G v d
 | _, _, _, _, .nil, e => by simp at e
 | _, _, 0, _, .cons r _, e => by simp at e; subst e; exact ⟨_, rfl, r⟩
 | _, _, i + 1, d, .cons _ t, e => by
  obtain ⟨u, h1, h2⟩:=Rps.get (i:=i) (d:=d) t (by simpa using e)
  exact ⟨u, by simpa using h1, h2⟩
theorem Rps.append {G : Hp} : ∀ {vs ws : List V} {ds es : List PyData}, Rps G vs ds->Rps G ws es->Rps G (vs ++ ws) (ds ++ es)
 | _, _, _, _, .nil, s => s
 | _, _, _, _, .cons r t, s => .cons r (Rps.append t s)
theorem Rps.set {G : Hp} {v : V} {d : PyData} (h : Rp G v d) : ∀ {vs : List V} {ds : List PyData} (i : Nat), Rps G vs ds->Rps G (vs.set i v) (ds.set i d)
 | _, _, _, .nil => .nil
 | _, _, 0, .cons _ t => .cons h t
 | _, _, i + 1, .cons r t => .cons r (Rps.set h i t)
theorem Rps.erase {G : Hp} : ∀ {vs : List V} {ds : List PyData} (i : Nat), Rps G vs ds->Rps G (vs.eraseIdx i) (ds.eraseIdx i)
 | _, _, _, .nil => .nil
 | _, _, 0, .cons _ t => t
 | _, _, i + 1, .cons r t => .cons r (Rps.erase i t)
theorem Rps.take {G : Hp} : ∀ {vs : List V} {ds : List PyData} (i : Nat), Rps G vs ds->Rps G (vs.take i) (ds.take i)
 | _, _, 0, _ => .nil
 | _, _, _ + 1, .nil => .nil
 | _, _, i + 1, .cons r t => .cons r (Rps.take i t)
theorem Rps.drop {G : Hp} : ∀ {vs : List V} {ds : List PyData} (i : Nat), Rps G vs ds->Rps G (vs.drop i) (ds.drop i)
 | _, _, 0, r => r
 | _, _, _ + 1, .nil => .nil
 | _, _, i + 1, .cons _ t => Rps.drop i t
theorem Rps.rep {G : Hp} {vs : List V} {ds : List PyData} (h : Rps G vs ds) : ∀ (k : Nat), Rps G (List.replicate k vs).flatten (List.replicate k ds).flatten
 | 0 => .nil
 | k + 1 => by
  rw [List.replicate_succ, List.replicate_succ, List.flatten_cons, List.flatten_cons]
  exact h.append (Rps.rep h k)
theorem Rps.ints {G : Hp} : ∀ (ns : List Int), Rps G (ns.map V.int) (ns.map PyData.int)
 | [] => .nil
 | n :: ns => .cons (.int n) (Rps.ints ns)
theorem Rps.ints_inv {G : Hp} : ∀ {ns : List Int} {vs : List V}, Rps G vs (ns.map PyData.int)->vs = ns.map V.int
 | [], _, .nil => rfl
 | n :: ns, _, .cons r t => by
  cases r
  rw [Rps.ints_inv t]; rfl
mutual
theorem Rp.rep {G : Hp} : ∀ {v : V} {d : PyData}, Rp G v d->plainD d = true->Rep G v d
 | _, _, .non, _ => .non
 | _, _, .bl b, _ => .bl b
 | _, _, .int i, _ => .int i
 | _, _, .str x, _ => .str x
 | _, _, .lst h r, p => .lst h (Rps.reps r (by simpa [plainD] using p))
 | _, _, .tup h r, p => .tup h (Rps.reps r (by simpa [plainD] using p))
 | _, _, .dk h r e, p => by simp [plainD] at p
 | _, _, .dt h r e, p => by simp [plainD] at p
theorem Rps.reps {G : Hp} : ∀ {vs : List V} {ds : List PyData}, Rps G vs ds->plainDs ds = true->Reps G vs ds
 | _, _, .nil, _ => .nil
 | _, _, .cons r t, p => by
  simp only [plainDs, Bool.and_eq_true] at p
  exact .cons (Rp.rep r p.1) (Rps.reps t p.2)
end
structure Own where
 P : Hp->Hp->V->(Addr->Prop)->Prop
 mono : ∀ {G H G' H' : Hp} {v : V} {F : Addr->Prop}, P G H v F->Same G G'->(∀ a o, F a->H a = some o->H' a = some o)->P G' H' v F
 dom : ∀ {G H : Hp} {v : V} {F : Addr->Prop}, P G H v F->∀ a, F a->∃ o, H a = some o
inductive Sl where
 | st (d : PyData) | own (A : Own) | io (A : Own) | scr (ns : List Int)
noncomputable abbrev En:=List (Option Sl)
structure Bs where
 K : PySem.W.Frag
 G : Hp
 H : Hp
 R : Hp
 S : St
 F : Nat->Addr->Prop
noncomputable def SlOk (B : Bs) (G H : Hp) (i : Nat) (v : V) (F : Addr->Prop) : Sl->Prop
 | .st d => Rp G v d/\∀ a, ¬ F a
 | .own A => A.P G H v F/\∀ a, F a->B.H a = none
 | .io A => A.P G H v F/\(∀ a, F a->B.F i a\/B.H a = none)/\B.S[i]? = some (some v)
 | .scr ns => (∃ a, v = .ref a/\SqL B.K G a (ns.map V.int))/\∀ a, ¬ F a
def FT (G H : Hp) : Prop:=∀ (a : Addr) (ks : List Key), H a = some (.tup (ks.map kV))->G a = some (.tup (ks.map kV))
structure VI (B : Bs) (G H : Hp) (σ : St) (env : En) (F : Nat->Addr->Prop) : Prop where
 gh : Same G H
 g0 : Same B.G G
 gn : ∀ a o, G a = some o->B.G a = some o\/B.H a = none
 rs : Same B.R H
 rb : Same B.R B.H
 bh : ∀ a o, B.H a = some o->∃ o', H a = some o'
 fg : ∀ i a, F i a->G a = none
 fr : ∀ i a, F i a->B.R a = none
 fd : ∀ i j a, F i a->F j a->i = j
 fo : ∀ i a, F i a->∃ o, H a = some o
 sl : ∀ i s, env[i]? = some (some s)->∃ v, σ[i]? = some (some v)/\SlOk B G H i v (F i) s
 ln : σ.length = env.length
 ft : FT G H
noncomputable def RsOk (G H : Hp) (v : V) (F : Addr->Prop) : Sl->Prop
 | .st d => Rp G v d/\∀ a, ¬ F a
 | .own A => A.P G H v F
 | _ => False
structure RsX (B : Bs) (G H : Hp) (v : V) (Fv : Addr->Prop) (s : Sl) (F : Nat->Addr->Prop) : Prop where
 ok : RsOk G H v Fv s
 fb : ∀ a, Fv a->B.H a = none
 fg : ∀ a, Fv a->G a = none
 fo : ∀ a, Fv a->∃ o, H a = some o
 fd : ∀ j a, Fv a->¬ F j a
structure Out (G H : Hp) (v : V) (G' H' : Hp) (s : Sl) (Fv : Addr->Prop) : Prop where
 gg : Same G G'
 gh : Same G' H'
 hh : Same H H'
 gn : ∀ a o, G' a = some o->G a = some o\/H a = none
 fn : ∀ a, Fv a->H a = none
 fg : ∀ a, Fv a->G' a = none
 fo : ∀ a, Fv a->∃ o, H' a = some o
 ok : RsOk G' H' v Fv s
 ft : FT G H->FT G' H'
theorem some_of_ne {α : Type} {o : Option α} (h : o ≠ none) : ∃ x, o = some x:=by
 cases o with
 | none => exact absurd rfl h
 | some x => exact ⟨x, rfl⟩
theorem SlOk.mono {B : Bs} {G H G' H' : Hp} {i : Nat} {v : V} {F : Addr->Prop} {s : Sl} (h : SlOk B G H i v F s) (g : Same G G') (hh : ∀ a o, F a->H a = some o->H' a = some o) : SlOk B G' H' i v F s:=by
 cases s with
 | st d => exact ⟨h.1.same g, h.2⟩
 | own A => exact ⟨A.mono h.1 g hh, h.2⟩
 | io A => exact ⟨A.mono h.1 g hh, h.2⟩
 | scr ns =>
  obtain ⟨⟨a, e, q⟩, n⟩:=h
  exact ⟨⟨a, e, g.seq q⟩, n⟩
section
variable {B : Bs} {G H G' H' : Hp} {σ : St} {env : En} {F : Nat->Addr->Prop} {v : V} {s : Sl} {Fv : Addr->Prop}
theorem VI.no_r (I : VI B G H σ env F) {a : Addr} (h : H a = none) : B.R a = none:=by
 cases e : B.R a with
 | none => rfl
 | some o => rw [I.rs a o e] at h; cases h
theorem VI.no_b (I : VI B G H σ env F) {a : Addr} (h : H a = none) : B.H a = none:=by
 cases e : B.H a with
 | none => rfl
 | some o => obtain ⟨o', e'⟩:=I.bh a o e; rw [e'] at h; cases h
theorem VI.no_g (I : VI B G H σ env F) {a : Addr} (h : H a = none) : G a = none:=by
 cases e : G a with
 | none => rfl
 | some o => rw [I.gh a o e] at h; cases h
theorem VI.no_f (I : VI B G H σ env F) {a : Addr} (h : H a = none) (i : Nat) : ¬ F i a:=fun z => by
 obtain ⟨o, e⟩:=I.fo i a z; rw [e] at h; cases h
theorem VI.grow (I : VI B G H σ env F) (gg : Same G G') (gh : Same G' H') (hh : Same H H') (gn : ∀ a o, G' a = some o->G a = some o\/H a = none) (ft : FT G' H') : VI B G' H' σ env F where
 gh:=gh
 g0:=I.g0.trans gg
 gn:=fun a o e => by
  rcases gn a o e with e | e
  ·exact I.gn a o e
  ·exact .inr (I.no_b e)
 rs:=I.rs.trans hh
 rb:=I.rb
 bh:=fun a o e => by obtain ⟨o', e'⟩:=I.bh a o e; exact ⟨o', hh _ _ e'⟩
 fg:=fun i a z => by
  cases e : G' a with
  | none => rfl
  | some o =>
   rcases gn a o e with e | e
   ·rw [I.fg i a z] at e; cases e
   ·exact absurd z (I.no_f e i)
 fr:=I.fr
 fd:=I.fd
 fo:=fun i a z => by obtain ⟨o, e⟩:=I.fo i a z; exact ⟨o, hh _ _ e⟩
 sl:=fun i s e => by
  obtain ⟨v, e1, e2⟩:=I.sl i s e
  exact ⟨v, e1, e2.mono gg fun a o _ q => hh _ _ q⟩
 ln:=I.ln
 ft:=ft
theorem VI.out (I : VI B G H σ env F) (o : Out G H v G' H' s Fv) : VI B G' H' σ env F/\RsX B G' H' v Fv s F :=
 ⟨I.grow o.gg o.gh o.hh o.gn (o.ft I.ft), o.ok, fun a z => I.no_b (o.fn a z), o.fg, o.fo, fun j a z y => I.no_f (o.fn a z) j y⟩
theorem VI.b_r (I : VI B G H σ env F) {a : Addr} (h : B.H a = none) : B.R a = none:=by
 cases e : B.R a with
 | none => rfl
 | some o => rw [I.rb a o e] at h; cases h
def putF (F : Nat->Addr->Prop) (i : Nat) (Fv : Addr->Prop) : Nat->Addr->Prop:=fun j a => if j = i then Fv a else F j a
theorem putF_same {i : Nat} {a : Addr} : putF F i Fv i a ↔ Fv a:=by unfold putF; rw [if_pos rfl]
theorem putF_eq {i : Nat} : putF F i Fv i = Fv:=by funext a; unfold putF; rw [if_pos rfl]
theorem putF_ne {i j : Nat} (h : j ≠ i) : putF F i Fv j = F j:=by funext a; unfold putF; rw [if_neg h]
theorem VI.slot (I : VI B G H σ env F) (i : Nat) (o : Option V) (os : Option Sl) (fg : ∀ a, Fv a->G a = none) (fr : ∀ a, Fv a->B.R a = none) (fo : ∀ a, Fv a->∃ o, H a = some o) (fd : ∀ j a, j ≠ i->Fv a->¬ F j a)
  (ok : ∀ s, os = some s->∃ v, o = some v/\SlOk B G H i v Fv s) : VI B G H (σ.set i o) (env.set i os) (putF F i Fv) where
 gh:=I.gh
 g0:=I.g0
 gn:=I.gn
 rs:=I.rs
 rb:=I.rb
 bh:=I.bh
 fg:=fun j a z => by
  by_cases h : j = i
  ·subst h; exact fg a (putF_same.mp z)
  ·rw [putF_ne h] at z; exact I.fg j a z
 fr:=fun j a z => by
  by_cases h : j = i
  ·subst h; exact fr a (putF_same.mp z)
  ·rw [putF_ne h] at z; exact I.fr j a z
 fd:=fun j k a y z => by
  by_cases h : j = i
  ·by_cases g : k = i
   ·rw [h, g]
   ·subst h; rw [putF_ne g] at z; exact absurd z (fd k a g (putF_same.mp y))
  ·by_cases g : k = i
   ·subst g; rw [putF_ne h] at y; exact absurd y (fd j a h (putF_same.mp z))
   ·rw [putF_ne h] at y; rw [putF_ne g] at z; exact I.fd j k a y z
 fo:=fun j a z => by
  by_cases h : j = i
  ·subst h; exact fo a (putF_same.mp z)
  ·rw [putF_ne h] at z; exact I.fo j a z
 sl:=fun j t e => by
  by_cases h : j = i
  ·subst h
   rw [List.getElem?_set, if_pos rfl] at e
   by_cases hl : j < env.length
   ·rw [if_pos hl] at e
    obtain ⟨v, hv, q⟩:=ok t (Option.some.inj e)
    refine ⟨v, by rw [List.getElem?_set, if_pos rfl, if_pos (by rw [I.ln]; exact hl), hv], ?_⟩
    rw [putF_eq]; exact q
   ·rw [if_neg hl] at e; cases e
  ·rw [List.getElem?_set, if_neg (fun z => h z.symm)] at e
   obtain ⟨v, hv, q⟩:=I.sl j t e
   refine ⟨v, by rw [List.getElem?_set, if_neg (fun z => h z.symm)]; exact hv, ?_⟩
   rw [putF_ne h]; exact q
 ln:=by simp [I.ln]
 ft:=I.ft
theorem VI.store (I : VI B G H σ env F) (r : RsX B G H v Fv s F) (i : Nat) : VI B G H (σ.set i (some v)) (env.set i (some s)) (putF F i Fv):=by
 refine I.slot i (some v) (some s) r.fg (fun a z => I.b_r (r.fb a z)) r.fo (fun j a _ z => r.fd j a z) fun t e => ?_
 cases e
 refine ⟨v, rfl, ?_⟩
 have:=r.ok
 cases s with
 | st d => exact this
 | own A => exact ⟨this, r.fb⟩
 | io A => exact this.elim
 | scr ns => exact this.elim
theorem VI.drop (I : VI B G H σ env F) (i : Nat) : VI B G H σ (env.set i none) (putF F i fun _ => False):=by
 have:=I.slot (Fv:=fun _ => False) i ((σ[i]?).getD none) none (fun a z => z.elim) (fun a z => z.elim) (fun a z => z.elim) (fun j a _ z => z.elim) (fun s e => by cases e)
 rwa [show σ.set i ((σ[i]?).getD none) = σ from ?_] at this
 apply List.ext_getElem?
 intro j
 rw [List.getElem?_set]
 by_cases h : i = j
 ·subst h
  rw [if_pos rfl]
  by_cases hl : i < σ.length
  ·rw [if_pos hl, List.getElem?_eq_getElem hl]; rfl
  ·rw [if_neg hl, List.getElem?_eq_none_iff.mpr (by row_cond lo)]
 ·rw [if_neg h]
theorem VI.change {A : Own} (I : VI B G H σ env F) (i : Nat) {H2 : Hp} {F2 : Addr->Prop} {os os' : Sl} (e : env[i]? = some (some os)) (hv : σ[i]? = some (some v))
  (keep : ∀ a o, ¬ F i a->H a = some o->H2 a = some o) (dm : ∀ a o, H a = some o->∃ o', H2 a = some o') (f2 : ∀ a, F2 a->(F i a\/H a = none)/\∃ o, H2 a = some o) (hp : A.P G H2 v F2) (ht : FT G H2)
  (hs : (os' = .own A/\∃ A0, os = .own A0)\/(os' = .io A/\∃ A0, os = .io A0)) : VI B G H2 σ (env.set i (some os')) (putF F i F2):=by
 obtain ⟨v', hv', q⟩:=I.sl i os e
 rw [hv] at hv'; cases hv'
 have nf : ∀ j a, j ≠ i->F j a->¬ F i a:=fun j a hj y z => hj (I.fd j i a y z)
 have g2 : ∀ a, F2 a->G a = none:=fun a z => by
  rcases (f2 a z).1 with y | y
  ·exact I.fg i a y
  ·exact I.no_g y
 have J : VI B G H2 σ (env.set i none) (putF F i fun _ => False):=by
  have D:=I.drop i
  refine ⟨fun a o x => keep a o (fun z => by rw [I.fg i a z] at x; cases x) (I.gh a o x), D.g0, D.gn, fun a o x => keep a o (fun z => by rw [I.fr i a z] at x; cases x) (I.rs a o x), D.rb, fun a o x => ?_, D.fg, D.fr, D.fd, fun j a z => ?_, fun j s x => ?_, D.ln, ht⟩
  ·obtain ⟨o', x'⟩:=I.bh a o x
   exact dm a o' x'
  ·obtain ⟨o, x⟩:=D.fo j a z
   exact dm a o x
  ·obtain ⟨u, h1, h2⟩:=D.sl j s x
   refine ⟨u, h1, h2.mono (Same.refl G) fun a o z y => ?_⟩
   by_cases hj : j = i
   ·subst hj; exact (putF_same.mp z).elim
   ·rw [putF_ne hj] at z
    exact keep a o (nf j a hj z) y
 have J2:=J.slot (Fv:=F2) i (some v) (some os') g2 (fun a z => by
   rcases (f2 a z).1 with y | y
   ·exact I.fr i a y
   ·exact I.no_r y) (fun a z => (f2 a z).2) (fun j a hj z y => by
   rw [putF_ne hj] at y
   rcases (f2 a z).1 with x | x
   ·exact nf j a hj y x
   ·exact I.no_f x j y) fun t et => by
   cases et
   refine ⟨v, rfl, ?_⟩
   rcases hs with ⟨rfl, A0, rfl⟩ | ⟨rfl, A0, rfl⟩
   ·refine ⟨hp, fun a z => ?_⟩
    rcases (f2 a z).1 with y | y
    ·exact q.2 a y
    ·exact I.no_b y
   ·refine ⟨hp, fun a z => ?_, q.2.2⟩
    rcases (f2 a z).1 with y | y
    ·exact q.2.1 a y
    ·exact .inr (I.no_b y)
 have e1 : σ.set i (some v) = σ:=by
  apply List.ext_getElem?
  intro j
  rw [List.getElem?_set]
  by_cases h : i = j
  ·subst h
   rw [if_pos rfl, hv, if_pos (List.getElem?_eq_some_iff.mp hv).1]
  ·rw [if_neg h]
 have e2 : (env.set i none).set i (some os') = env.set i (some os'):=by simp
 have e3 : putF (putF F i fun _ => False) i F2 = putF F i F2:=by
  funext j a
  by_cases h : j = i
  ·subst h; rw [putF_eq, putF_eq]
  ·rw [putF_ne h, putF_ne h, putF_ne h]
 rw [e1, e2, e3] at J2
 exact J2
end
end VL
namespace VL
open PySem PySem.Spec L2
open Classical in
noncomputable def jn (G H : Hp) (F : Addr->Prop) : Hp:=fun a => if F a then H a else G a
theorem jn_at {G H : Hp} {F : Addr->Prop} {a : Addr} (h : F a) : jn G H F a = H a:=if_pos h
theorem jn_ne {G H : Hp} {F : Addr->Prop} {a : Addr} (h : ¬ F a) : jn G H F a = G a:=if_neg h
theorem jn_same {G H : Hp} {F : Addr->Prop} (h : ∀ a, F a->G a = none) : Same G (jn G H F):=fun a o e => by
 rw [jn_ne (fun z => by rw [h a z] at e; cases e)]; exact e
theorem jn_gh {G H : Hp} {F : Addr->Prop} (h : Same G H) : Same (jn G H F) H:=fun a o e => by
 by_cases z : F a
 ·rw [jn_at z] at e; exact e
 ·rw [jn_ne z] at e; exact h a o e
def Frz (A : Own) (d : PyData) : Prop:=∀ (G H : Hp) (v : V) (F : Addr->Prop), A.P G H v F->(∀ a, F a->G a = none)->Same G H->Rp (jn G H F) v d
noncomputable def FQ : Sl->(PyData->Prop)->Prop
 | .st d, R => R d
 | .own A, R => ∃ d, Frz A d/\R d
 | _, _ => False
noncomputable def OL (ds : List PyData) : Own where
 P:=fun G H v F => ∃ a vs, v = .ref a/\H a = some (.lst vs)/\Rps G vs ds/\∀ b, F b ↔ b = a
 mono:=fun ⟨a, vs, e, h, r, f⟩ g hh => ⟨a, vs, e, hh a _ ((f a).mpr rfl) h, r.same g, f⟩
 dom:=fun ⟨a, vs, e, h, r, f⟩ b z => by rw [(f b).mp z]; exact ⟨_, h⟩
noncomputable def OD (es : List (Key × PyData)) : Own where
 P:=fun G H v F => ∃ a kvs, v = .ref a/\H a = some (.dK kvs)/\RpK G kvs es/\∀ b, F b ↔ b = a
 mono:=fun ⟨a, vs, e, h, r, f⟩ g hh => ⟨a, vs, e, hh a _ ((f a).mpr rfl) h, r.same g, f⟩
 dom:=fun ⟨a, vs, e, h, r, f⟩ b z => by rw [(f b).mp z]; exact ⟨_, h⟩
theorem frz_OL {ds : List PyData} : Frz (OL ds) (.list ds):=fun G H v F ⟨a, vs, e, h, r, f⟩ n g => by
 subst e
 exact .lst (by rw [jn_at ((f a).mpr rfl)]; exact h) (r.same (jn_same n))
theorem frz_OD {es : List (Key × PyData)} : Frz (OD es) (.dict (es.map fun p => (kD p.1, p.2))):=fun G H v F ⟨a, vs, e, h, r, f⟩ n g => by
 subst e
 exact .dk (by rw [jn_at ((f a).mpr rfl)]; exact h) (r.same (jn_same n)) rfl
theorem fq_st {d : PyData} {R : PyData->Prop} (h : R d) : FQ (.st d) R:=h
theorem fq_OL {ds : List PyData} {R : PyData->Prop} (h : R (.list ds)) : FQ (.own (OL ds)) R:=⟨_, frz_OL, h⟩
theorem fq_OD {es : List (Key × PyData)} {R : PyData->Prop} (h : R (.dict (es.map fun p => (kD p.1, p.2)))) : FQ (.own (OD es)) R:=⟨_, frz_OD, h⟩
section
variable {B : Bs} {G H G' H' : Hp} {σ : St} {env : En} {F : Nat->Addr->Prop} {v : V} {s : Sl} {Fv : Addr->Prop}
theorem VI.freeze (I : VI B G H σ env F) (fb : ∀ a, Fv a->B.H a = none) (fd : ∀ j a, Fv a->¬ F j a) (fg : ∀ a, Fv a->G a = none) : VI B (jn G H Fv) H σ env F where
 gh:=jn_gh I.gh
 g0:=I.g0.trans (jn_same fg)
 gn:=fun a o e => by
  by_cases z : Fv a
  ·exact .inr (fb a z)
  ·rw [jn_ne z] at e; exact I.gn a o e
 rs:=I.rs
 rb:=I.rb
 bh:=I.bh
 fg:=fun i a z => by
  rw [jn_ne (fun y => fd i a y z)]; exact I.fg i a z
 fr:=I.fr
 fd:=I.fd
 fo:=I.fo
 sl:=fun i s e => by
  obtain ⟨v, e1, e2⟩:=I.sl i s e
  exact ⟨v, e1, e2.mono (jn_same fg) fun a o _ q => q⟩
 ln:=I.ln
 ft:=fun a ks e => jn_same fg _ _ (I.ft a ks e)
theorem VI.frz {A : Own} {d : PyData} {i : Nat} (I : VI B G H σ env F) (e : env[i]? = some (some (.own A))) (f : Frz A d) :
  ∃ v, σ[i]? = some (some v)/\Rp (jn G H (F i)) v d/\Same G (jn G H (F i))/\VI B (jn G H (F i)) H σ (env.set i (some (.st d))) (putF F i fun _ => False):=by
 obtain ⟨v, hv, q⟩:=I.sl i _ e
 have hr:=f G H v (F i) q.1 (I.fg i) I.gh
 refine ⟨v, hv, hr, jn_same (I.fg i), ?_⟩
 have D:=(I.drop i).freeze (Fv:=F i) q.2 (fun j a z y => by
  by_cases h : j = i
  ·subst h; exact (putF_same.mp y).elim
  ·rw [putF_ne h] at y; exact h (I.fd j i a y z)) (I.fg i)
 have J:=D.slot (Fv:=fun _ => False) i (some v) (some (.st d)) (fun a z => z.elim) (fun a z => z.elim) (fun a z => z.elim) (fun j a _ z => z.elim) (fun t et => by cases et; exact ⟨v, rfl, hr, fun a z => z⟩)
 have e1 : σ.set i (some v) = σ:=by
  apply List.ext_getElem?
  intro j
  rw [List.getElem?_set]
  by_cases h : i = j
  ·subst h
   rw [if_pos rfl, hv, if_pos (List.getElem?_eq_some_iff.mp hv).1]
  ·rw [if_neg h]
 have e3 : putF (putF F i fun _ => False) i (fun _ => False) = putF F i fun _ => False:=by
  funext j a
  by_cases h : j = i
  ·subst h; rw [putF_eq, putF_eq]
  ·rw [putF_ne h, putF_ne h]
 rw [e1, e3, List.set_set] at J
 exact J
theorem Out.refl {d : PyData} (g : Same G H) (r : Rp G v d) : Out G H v G H (.st d) (fun _ => False):=⟨Same.refl _, g, Same.refl _, fun a o e => .inl e, fun a z => z.elim, fun a z => z.elim, fun a z => z.elim, ⟨r, fun a z => z⟩, fun t => t⟩
theorem up_same {p : Addr} {o : HO} (g : Same G H) (h : H p = none) : Same (upd G p o) (upd H p o):=fun a u e => by
 by_cases z : a = p
 ·subst z; rw [upd_same] at e ⊢; exact e
 ·rw [upd_ne z] at e ⊢; exact g a u e
theorem no_of_same {p : Addr} (g : Same G H) (h : H p = none) : G p = none:=by
 cases e : G p with
 | none => rfl
 | some o => rw [g p o e] at h; cases h
theorem Out.newT {p : Addr} {xs : List V} {ds : List PyData} (g : Same G H) (h : H p = none) (r : Rps G xs ds) : Out G H (.ref p) (upd G p (.tup xs)) (upd H p (.tup xs)) (.st (.tuple ds)) (fun _ => False) where
 gg:=same_upd (no_of_same g h)
 gh:=up_same g h
 hh:=same_upd h
 gn:=fun a o e => by
  by_cases z : a = p
  ·subst z; exact .inr h
  ·rw [upd_ne z] at e; exact .inl e
 fn:=fun a z => z.elim
 fg:=fun a z => z.elim
 fo:=fun a z => z.elim
 ok:=⟨.tup upd_same (r.same (same_upd (no_of_same g h))), fun a z => z⟩
 ft:=fun t a ks e => by
  by_cases z : a = p
  ·subst z; rw [upd_same] at e ⊢; exact e
  ·rw [upd_ne z] at e ⊢; exact t a ks e
theorem Out.newO {p : Addr} {o : HO} {A : Own} (g : Same G H) (h : H p = none) (nt : ∀ xs, o ≠ .tup xs) (r : A.P G (upd H p o) (.ref p) (· = p)) : Out G H (.ref p) G (upd H p o) (.own A) (· = p) where
 gg:=Same.refl _
 gh:=g.trans (same_upd h)
 hh:=same_upd h
 gn:=fun a o e => .inl e
 fn:=fun a z => by rw [z]; exact h
 fg:=fun a z => by rw [z]; exact no_of_same g h
 fo:=fun a z => by rw [z]; exact ⟨_, upd_same⟩
 ok:=r
 ft:=fun t a ks e => by
  by_cases z : a = p
  ·subst z; rw [upd_same] at e; exact absurd (Option.some.inj e) (nt _)
  ·rw [upd_ne z] at e; exact t a ks e
theorem Out.newL {p : Addr} {xs : List V} {ds : List PyData} (g : Same G H) (h : H p = none) (r : Rps G xs ds) : Out G H (.ref p) G (upd H p (.lst xs)) (.own (OL ds)) (· = p) :=
 .newO g h (fun _ z => nomatch z) ⟨p, xs, rfl, upd_same, r, fun b => Iff.rfl⟩
theorem Out.newD {p : Addr} {xs : List (Key × V)} {ds : List (Key × PyData)} (g : Same G H) (h : H p = none) (r : RpK G xs ds) : Out G H (.ref p) G (upd H p (.dK xs)) (.own (OD ds)) (· = p) :=
 .newO g h (fun _ z => nomatch z) ⟨p, xs, rfl, upd_same, r, fun b => Iff.rfl⟩
end
def EvO (B : Bs) (te : TE) (env : En) (Q' : Sl->En->Prop) : Prop:=∀ (σ : St) (G H : Hp) (F : Nat->Addr->Prop) (Q : VK), VI B G H σ env F ->
 (∀ v G' H' F' Fv s env', VI B G' H' σ env' F'->Same G G'->RsX B G' H' v Fv s F'->Q' s env'->Q v H')->te σ H Q
def Ev (B : Bs) (te : TE) (env : En) (Q' : PyData->En->Prop) : Prop:=∀ (σ : St) (G H : Hp) (F : Nat->Addr->Prop) (Q : VK), VI B G H σ env F ->
 (∀ v G' H' F' d env', VI B G' H' σ env' F'->Same G G'->Rp G' v d->Q' d env'->Q v H')->te σ H Q
def EvT (B : Bs) (tt : TT) (env : En) (Q' : Bool->En->Prop) : Prop:=∀ (σ : St) (G H : Hp) (F : Nat->Addr->Prop) (Q : Bool->Hp->Prop), VI B G H σ env F ->
 (∀ b G' H' F' env', VI B G' H' σ env' F'->Same G G'->Q' b env'->Q b H')->tt σ H Q
def EvA (B : Bs) (ta : TA) (env : En) (Q' : List PyData->En->Prop) : Prop:=∀ (σ : St) (G H : Hp) (F : Nat->Addr->Prop) (Q : List V->Hp->Prop), VI B G H σ env F ->
 (∀ vs G' H' F' ds env', VI B G' H' σ env' F'->Same G G'->Rps G' vs ds->Q' ds env'->Q vs H')->ta σ H Q
structure ItOk (G : Hp) (J : It) (ds : List PyData) : Prop where
 go : ∀ i G' H', Same G G'->Same G' H'->i < ds.length->J.go i H'
 stop : ∀ i G' H', Same G G'->Same G' H'->i = ds.length->J.stop i H'
 yld : ∀ i G' H' x H'' d, Same G G'->Same G' H'->FT G' H'->ds[i]? = some d->J.yld i H' x H''->∃ G'', Out G' H' x G'' H'' (.st d) (fun _ => False)
def EvI (B : Bs) (ti : TI) (env : En) (Q' : List PyData->En->Prop) : Prop:=∀ (σ : St) (G H : Hp) (F : Nat->Addr->Prop) (R : It->Hp->Prop), VI B G H σ env F ->
 (∀ J G' H' F' ds env', VI B G' H' σ env' F'->Same G G'->ItOk G' J ds->Q' ds env'->R J H')->ti σ H R
def EvG (B : Bs) (g : TG) (s : Sl) (env : En) (Q' : En->Prop) : Prop:=∀ (σ : St) (G H : Hp) (F : Nat->Addr->Prop) (v : V) (Fv : Addr->Prop) (Q : St->Hp->Prop), VI B G H σ env F->RsX B G H v Fv s F ->
 (∀ σ' G' H' F' env', VI B G' H' σ' env' F'->Same G G'->Q' env'->Q σ' H')->g v σ H Q
def EvGs (B : Bs) (g : TGs) (ds : List PyData) (env : En) (Q' : En->Prop) : Prop:=∀ (σ : St) (G H : Hp) (F : Nat->Addr->Prop) (vs : List V) (Q : St->Hp->Prop), VI B G H σ env F->Rps G vs ds ->
 (∀ σ' G' H' F' env', VI B G' H' σ' env' F'->Same G G'->Q' env'->Q σ' H')->g vs σ H Q
structure VEnds where
 nx : En->Prop
 rt : Sl->En->Prop
 bk : En->Prop:=fun _ => False
 ct : En->Prop:=fun _ => False
structure RelE (B : Bs) (G : Hp) (D : Ends) (D' : VEnds) : Prop where
 nx : ∀ σ G' H F env, VI B G' H σ env F->Same G G'->D'.nx env->D.nx σ H
 rt : ∀ σ G' H F env v Fv s, VI B G' H σ env F->Same G G'->RsX B G' H v Fv s F->D'.rt s env->D.rt v H
 bk : ∀ σ G' H F env, VI B G' H σ env F->Same G G'->D'.bk env->D.bk σ H
 ct : ∀ σ G' H F env, VI B G' H σ env F->Same G G'->D'.ct env->D.ct σ H
def EvS (B : Bs) (ts : TS) (D' : VEnds) (env : En) : Prop:=∀ (σ : St) (G H : Hp) (F : Nat->Addr->Prop) (D : Ends), VI B G H σ env F->RelE B G D D'->ts D σ H
theorem RelE.later {B : Bs} {G G' : Hp} {D : Ends} {D' : VEnds} (r : RelE B G D D') (g : Same G G') : RelE B G' D D' :=
 ⟨fun σ G2 H F env I q => r.nx σ G2 H F env I (g.trans q), fun σ G2 H F env v Fv s I q => r.rt σ G2 H F env v Fv s I (g.trans q), fun σ G2 H F env I q => r.bk σ G2 H F env I (g.trans q), fun σ G2 H F env I q => r.ct σ G2 H F env I (g.trans q)⟩
section
variable {B : Bs} {env : En} {Q' : PyData->En->Prop} {QO : Sl->En->Prop} {QT : Bool->En->Prop} {QA : List PyData->En->Prop} {te ta tb : TE}
theorem rsx_st {G H : Hp} {v : V} {d : PyData} {F : Nat->Addr->Prop} (r : Rp G v d) : RsX B G H v (fun _ => False) (.st d) F:=⟨⟨r, fun a z => z⟩, fun a z => z.elim, fun a z => z.elim, fun a z => z.elim, fun j a z => z.elim⟩
theorem evo_of (h : Ev B te env fun d e => QO (.st d) e) : EvO B te env QO:=fun σ G H F Q I k =>
 h σ G H F Q I fun v G' H' F' d env' I' g r q => k v G' H' F' _ (.st d) env' I' g (rsx_st r) q
theorem ev_ofO (h : EvO B te env fun s e => FQ s fun d => Q' d e) : Ev B te env Q':=fun σ G H F Q I k =>
 h σ G H F Q I fun v G' H' F' Fv s env' I' g r q => by
  cases s with
  | st d => exact k v G' H' F' d env' I' g r.ok.1 q
  | own A =>
   obtain ⟨d, f, q⟩:=q
   exact k v _ H' F' d env' (I'.freeze r.fb r.fd r.fg) (g.trans (jn_same r.fg)) (f G' H' v Fv r.ok r.fg I'.gh) q
  | io A => exact q.elim
  | scr ns => exact q.elim
theorem ev_var {i : Nat} {d : PyData} (e : env[i]? = some (some (.st d))) (q : Q' d env) : Ev B (tVar i) env Q':=fun σ G H F Q I k => by
 obtain ⟨v, hv, r⟩:=I.sl i _ e
 exact ⟨v, hv, k v G H F d env I (Same.refl _) r.1 q⟩
theorem ev_varF {i : Nat} {A : Own} {d : PyData} (e : env[i]? = some (some (.own A))) (f : Frz A d) (q : Q' d (env.set i (some (.st d)))) : Ev B (tVar i) env Q':=fun σ G H F Q I k => by
 obtain ⟨v, hv, r, g, J⟩:=I.frz e f
 exact ⟨v, hv, k v _ H _ d _ J g r q⟩
theorem evo_varM {i : Nat} {A : Own} (e : env[i]? = some (some (.own A))) (q : QO (.own A) (env.set i none)) : EvO B (tVar i) env QO:=fun σ G H F Q I k => by
 obtain ⟨v, hv, r⟩:=I.sl i _ e
 refine ⟨v, hv, k v G H _ (F i) (.own A) _ (I.drop i) (Same.refl _) ⟨r.1, r.2, I.fg i, I.fo i, fun j a z y => ?_⟩ q⟩
 by_cases h : j = i
 ·subst h; exact putF_same.mp y
 ·rw [putF_ne h] at y; exact h (I.fd j i a y z)
theorem ev_int {i : Int} (q : Q' (.int i) env) : Ev B (tC (.int i)) env Q':=fun σ G H F Q I k => k _ G H F _ env I (Same.refl _) (.int i) q
theorem ev_bl {b : Bool} (q : Q' (.bool b) env) : Ev B (tC (.bl b)) env Q':=fun σ G H F Q I k => k _ G H F _ env I (Same.refl _) (.bl b) q
theorem ev_non (q : Q' .none env) : Ev B (tC .non) env Q':=fun σ G H F Q I k => k _ G H F _ env I (Same.refl _) .non q
theorem ev_str {x : Str} (q : Q' (.str x) env) : Ev B (tC (.str x)) env Q':=fun σ G H F Q I k => k _ G H F _ env I (Same.refl _) (.str x) q
def Op2 (r : R2) (x y : PyData) (R : Sl->Prop) : Prop:=∀ (G H : Hp) (vx vy : V) (Q : VK), Same G H->Rp G vx x->Rp G vy y->(∀ v G' H' s Fv, Out G H v G' H' s Fv->R s->Q v H')->r vx vy H Q
def Op1 (r : V->Hp->VK->Prop) (x : PyData) (R : Sl->Prop) : Prop:=∀ (G H : Hp) (vx : V) (Q : VK), Same G H->Rp G vx x->(∀ v G' H' s Fv, Out G H v G' H' s Fv->R s->Q v H')->r vx H Q
def OpA (r : List V->Hp->VK->Prop) (ds : List PyData) (R : Sl->Prop) : Prop:=∀ (G H : Hp) (vs : List V) (Q : VK), Same G H->Rps G vs ds->(∀ v G' H' s Fv, Out G H v G' H' s Fv->R s->Q v H')->r vs H Q
theorem evo_op {r : R2} (h : Ev B ta env fun x e1 => Ev B tb e1 fun y e2 => Op2 r x y fun s => QO s e2) : EvO B (tOp r ta tb) env QO:=fun σ G H F Q I k =>
 h σ G H F _ I fun v1 G1 H1 F1 x e1 I1 g1 r1 q1 => q1 σ G1 H1 F1 _ I1 fun v2 G2 H2 F2 y e2 I2 g2 r2 q2 =>
  q2 G2 H2 v1 v2 Q I2.gh (r1.same g2) r2 fun v G3 H3 s Fv o q3 => k v G3 H3 F2 Fv s e2 (I2.out o).1 (g1.trans (g2.trans o.gg)) (I2.out o).2 q3
theorem ev_op {r : R2} (h : Ev B ta env fun x e1 => Ev B tb e1 fun y e2 => Op2 r x y fun s => FQ s fun d => Q' d e2) : Ev B (tOp r ta tb) env Q':=ev_ofO (evo_op h)
theorem evo_un {r : V->Hp->VK->Prop} (h : Ev B ta env fun x e1 => Op1 r x fun s => QO s e1) : EvO B (tUn r ta) env QO:=fun σ G H F Q I k =>
 h σ G H F _ I fun v1 G1 H1 F1 x e1 I1 g1 r1 q1 => q1 G1 H1 v1 Q I1.gh r1 fun v G3 H3 s Fv o q3 => k v G3 H3 F1 Fv s e1 (I1.out o).1 (g1.trans o.gg) (I1.out o).2 q3
theorem ev_un {r : V->Hp->VK->Prop} (h : Ev B ta env fun x e1 => Op1 r x fun s => FQ s fun d => Q' d e1) : Ev B (tUn r ta) env Q':=ev_ofO (evo_un h)
theorem eva_nil (q : QA [] env) : EvA B tNil env QA:=fun σ G H F Q I k => k [] G H F [] env I (Same.refl _) .nil q
theorem eva_cons {tr : TA} (h : Ev B ta env fun x e1 => EvA B tr e1 fun xs e2 => QA (x :: xs) e2) : EvA B (tCons ta tr) env QA:=fun σ G H F Q I k =>
 h σ G H F _ I fun v1 G1 H1 F1 x e1 I1 g1 r1 q1 => q1 σ G1 H1 F1 _ I1 fun vs G2 H2 F2 ds e2 I2 g2 r2 q2 => k _ G2 H2 F2 _ e2 I2 (g1.trans g2) (.cons (r1.same g2) r2) q2
theorem evo_cb {r : List V->Hp->VK->Prop} {t : TA} (h : EvA B t env fun ds e1 => OpA r ds fun s => QO s e1) : EvO B (tCB r t) env QO:=fun σ G H F Q I k =>
 h σ G H F _ I fun vs G1 H1 F1 ds e1 I1 g1 r1 q1 => q1 G1 H1 vs Q I1.gh r1 fun v G3 H3 s Fv o q3 => k v G3 H3 F1 Fv s e1 (I1.out o).1 (g1.trans o.gg) (I1.out o).2 q3
theorem ev_cb {r : List V->Hp->VK->Prop} {t : TA} (h : EvA B t env fun ds e1 => OpA r ds fun s => FQ s fun d => Q' d e1) : Ev B (tCB r t) env Q':=ev_ofO (evo_cb h)
theorem evo_tup {t : TA} (h : EvA B t env fun ds e1 => ds.length<=1000/\QO (.st (.tuple ds)) e1) : EvO B (tTup t) env QO:=fun σ G H F Q I k =>
 h σ G H F _ I fun vs G1 H1 F1 ds e1 I1 g1 r1 q1 => ⟨by rw [r1.length]; exact Nat.le_of_lt (small1000 q1.1), fun p hp => by
  have o:=Out.newT I1.gh hp r1
  exact k _ _ _ F1 _ _ e1 (I1.out o).1 (g1.trans o.gg) (I1.out o).2 q1.2⟩
theorem ev_tup {t : TA} (h : EvA B t env fun ds e1 => ds.length<=1000/\Q' (.tuple ds) e1) : Ev B (tTup t) env Q':=ev_ofO (evo_tup h)
theorem evo_lst {t : TA} (h : EvA B t env fun ds e1 => ds.length<=1000/\QO (.own (OL ds)) e1) : EvO B (tLst t) env QO:=fun σ G H F Q I k =>
 h σ G H F _ I fun vs G1 H1 F1 ds e1 I1 g1 r1 q1 => ⟨by rw [r1.length]; exact Nat.le_of_lt (small1000 q1.1), fun p hp => by
  have o:=Out.newL I1.gh hp r1
  exact k _ _ _ F1 _ _ e1 (I1.out o).1 (g1.trans o.gg) (I1.out o).2 q1.2⟩
theorem ev_lst {t : TA} (h : EvA B t env fun ds e1 => ds.length<=1000/\Q' (.list ds) e1) : Ev B (tLst t) env Q':=ev_ofO (evo_lst fun σ G H F Q I k => h σ G H F Q I fun vs G' H' F' ds e1 I' g r q => k vs G' H' F' ds e1 I' g r ⟨q.1, fq_OL q.2⟩)
theorem evt_test (h : Ev B te env fun x e1 => ∃ b, x = .bool b/\QT b e1) : EvT B (tTest te) env QT:=fun σ G H F Q I k =>
 h σ G H F _ I fun v G1 H1 F1 x e1 I1 g1 r1 z_ => by
  obtain ⟨b, e, q⟩:=z_
  subst e
  cases r1
  exact ⟨b, rfl, k b G1 H1 F1 e1 I1 g1 q⟩
theorem evt_B (h : Ev B te env fun x e1 => ∃ b, x = .bool b/\QT b e1) : EvT B (tB te) env QT:=evt_test h
theorem x_bl {b : Bool} {R : Bool->Prop} (h : R b) : ∃ c, PyData.bool b = .bool c/\R c:=⟨b, rfl, h⟩
theorem evt_and {t u : TT} (h : EvT B t env fun c e1 => if c = true then EvT B u e1 QT else QT false e1) : EvT B (tAnd t u) env QT:=fun σ G H F Q I k =>
 h σ G H F _ I fun b G1 H1 F1 e1 I1 g1 q => by
  cases b with
  | true => rw [if_pos rfl] at q ⊢; exact q σ G1 H1 F1 Q I1 fun c G2 H2 F2 e2 I2 g2 q2 => k c G2 H2 F2 e2 I2 (g1.trans g2) q2
  | false => rw [if_neg Bool.false_ne_true] at q ⊢; exact k false G1 H1 F1 e1 I1 g1 q
theorem evt_or {t u : TT} (h : EvT B t env fun c e1 => if c = true then QT true e1 else EvT B u e1 QT) : EvT B (tOr t u) env QT:=fun σ G H F Q I k =>
 h σ G H F _ I fun b G1 H1 F1 e1 I1 g1 q => by
  cases b with
  | false => rw [if_neg Bool.false_ne_true] at q ⊢; exact q σ G1 H1 F1 Q I1 fun c G2 H2 F2 e2 I2 g2 q2 => k c G2 H2 F2 e2 I2 (g1.trans g2) q2
  | true => rw [if_pos rfl] at q ⊢; exact k true G1 H1 F1 e1 I1 g1 q
theorem evt_not {t : TT} (h : EvT B t env fun c e1 => QT (!c) e1) : EvT B (tNot t) env QT:=fun σ G H F Q I k =>
 h σ G H F _ I fun b G1 H1 F1 e1 I1 g1 q => k (!b) G1 H1 F1 e1 I1 g1 q
noncomputable def TruD : PyData->Bool->Prop
 | .bool b, k => k = b
 | .list ds, k => k = !ds.isEmpty
 | _, _ => False
theorem evt_tru {K : PySem.W.Frag} (h : Ev B te env fun x e1 => ∃ b, TruD x b/\QT b e1) : EvT B (tTru K te) env QT:=fun σ G H F Q I k =>
 h σ G H F _ I fun v G1 H1 F1 x e1 I1 g1 r1 z_ => by
  obtain ⟨b, e, q⟩:=z_
  cases r1 with
  | bl c => cases e; exact ⟨_, rfl, k _ G1 H1 F1 e1 I1 g1 q⟩
  | lst ha rs =>
   refine ⟨b, .inl ⟨_, SqL.of (I1.gh _ _ ha), ?_⟩, k _ G1 H1 F1 e1 I1 g1 q⟩
   have e' : b = !_:=e
   rw [e']
   cases rs <;> rfl
  | _ => exact e.elim
theorem ev_andV (h : Ev B ta env fun x e1 => ∃ b, x = .bool b/\if b = true then Ev B tb e1 Q' else Q' (.bool false) e1) : Ev B (tAndV ta tb) env Q':=fun σ G H F Q I k =>
 h σ G H F _ I fun v G1 H1 F1 x e1 I1 g1 r1 z_ => by
  obtain ⟨b, e, q⟩:=z_
  subst e
  cases r1
  refine ⟨b, rfl, ?_⟩
  cases b with
  | true => rw [if_pos rfl] at q ⊢; exact q σ G1 H1 F1 Q I1 fun v G2 H2 F2 d e2 I2 g2 r2 q2 => k v G2 H2 F2 d e2 I2 (g1.trans g2) r2 q2
  | false => rw [if_neg Bool.false_ne_true] at q ⊢; exact k _ G1 H1 F1 _ e1 I1 g1 (.bl false) q
theorem ev_notV (h : Ev B ta env fun x e1 => ∃ b, x = .bool b/\Q' (.bool (!b)) e1) : Ev B (tNotV ta) env Q':=fun σ G H F Q I k =>
 h σ G H F _ I fun v G1 H1 F1 x e1 I1 g1 r1 z_ => by
  obtain ⟨b, e, q⟩:=z_
  subst e
  cases r1
  exact ⟨b, rfl, k _ G1 H1 F1 _ e1 I1 g1 (.bl _) q⟩
theorem ev_chain {r r' : R2} {tc : TE} (h : Ev B ta env fun x e1 => Ev B tb e1 fun y e2 => Op2 r x y fun s => ∃ b, s = .st (.bool b)/\if b = true then Ev B tc e2 fun z e3 => Op2 r' y z fun s' => FQ s' fun d => Q' d e3 else Q' (.bool false) e2) : Ev B (tChain r r' ta tb tc) env Q':=fun σ G H F Q I k =>
 h σ G H F _ I fun v1 G1 H1 F1 x e1 I1 g1 r1 q1 => q1 σ G1 H1 F1 _ I1 fun v2 G2 H2 F2 y e2 I2 g2 r2 q2 =>
  q2 G2 H2 v1 v2 _ I2.gh (r1.same g2) r2 fun v G3 H3 s Fv o z_ => by
   obtain ⟨b, es, q3⟩:=z_
   have I3:=(I2.out o).1
   have rv:=o.ok
   subst es
   obtain ⟨rv, _⟩:=rv
   cases rv
   refine ⟨b, rfl, ?_⟩
   cases b with
   | false => rw [if_neg Bool.false_ne_true] at q3 ⊢; exact k _ G3 H3 F2 _ e2 I3 (g1.trans (g2.trans o.gg)) (.bl _) q3
   | true =>
    rw [if_pos rfl] at q3 ⊢
    refine q3 σ G3 H3 F2 _ I3 fun v3 G4 H4 F4 z e4 I4 g4 r4 q4 => q4 G4 H4 v2 v3 Q I4.gh (r2.same (o.gg.trans g4)) r4 fun v5 G5 H5 s5 Fv5 o5 q5 => ?_
    have J:=I4.out o5
    have gg:=g1.trans (g2.trans (o.gg.trans (g4.trans o5.gg)))
    cases s5 with
    | st d => exact k v5 G5 H5 F4 d e4 J.1 gg o5.ok.1 q5
    | own A =>
     obtain ⟨d, f, q⟩:=q5
     exact k v5 _ H5 F4 d e4 (J.1.freeze J.2.fb J.2.fd J.2.fg) (gg.trans (jn_same J.2.fg)) (f G5 H5 v5 Fv5 J.2.ok J.2.fg J.1.gh) q
    | io A => exact q5.elim
    | scr ns => exact q5.elim
end
end VL
namespace VL
open PySem PySem.Spec L2
section
variable {B : Bs} {env : En} {D' : VEnds} {t u tb : TS} {te : TE} {g : TG} {c : TT} {QE : En->Prop}
theorem evs_seq (h : EvS B t { D' with nx:=fun e => EvS B u D' e } env) : EvS B (tSeq t u) D' env:=fun σ G H F D I r =>
 h σ G H F { D with nx:=u D } I ⟨fun σ G' H F env I' g q => q σ G' H F D I' (r.later g), r.rt, r.bk, r.ct⟩
theorem evs_next (h : D'.nx env) : EvS B tNext D' env:=fun σ G H F D I r => r.nx σ G H F env I (Same.refl _) h
theorem evs_asg (h : EvO B te env fun s e => EvG B g s e D'.nx) : EvS B (tAsg te g) D' env:=fun σ G H F D I r =>
 h σ G H F _ I fun v G1 H1 F1 Fv s e1 I1 g1 x1 q1 => q1 σ G1 H1 F1 v Fv D.nx I1 x1 fun σ2 G2 H2 F2 e2 I2 g2 q2 => r.nx σ2 G2 H2 F2 e2 I2 (g1.trans g2) q2
theorem evg_name {i : Nat} {s : Sl} (h : QE (env.set i (some s))) : EvG B (gName i) s env QE:=fun σ G H F v Fv Q I x k => k _ G H _ _ (I.store x i) (Same.refl _) h
theorem evgs_nil (h : QE env) : EvGs B gNil [] env QE:=fun σ G H F vs Q I x k => by cases x; exact ⟨rfl, k σ G H F env I (Same.refl _) h⟩
theorem evgs_cons {gs : TGs} {d : PyData} {ds : List PyData} (h : EvG B g (.st d) env fun e => EvGs B gs ds e QE) : EvGs B (gCons g gs) (d :: ds) env QE:=fun σ G H F vs Q I x k => by
 cases x with
 | cons r rs =>
  refine ⟨_, _, rfl, h σ G H F _ _ _ I (rsx_st r) fun σ1 G1 H1 F1 e1 I1 g1 q1 => q1 σ1 G1 H1 F1 _ Q I1 (rs.same g1) fun σ2 G2 H2 F2 e2 I2 g2 q2 => k σ2 G2 H2 F2 e2 I2 (g1.trans g2) q2⟩
theorem evg_tup {K : PySem.W.Frag} {n : Nat} {gs : TGs} {ds : List PyData} (hl : ds.length = n) (h : EvGs B gs ds env QE) : EvG B (gTup K n gs) (.st (.tuple ds)) env QE:=fun σ G H F v Fv Q I x k => by
 obtain ⟨r, _⟩:=x.ok
 cases r with
 | tup ha rs => exact ⟨_, _, rfl, SqT.of (I.gh _ _ ha), by rw [rs.length, hl], h σ G H F _ Q I rs k⟩
theorem evs_ret (h : EvO B te env fun s e => D'.rt s e) : EvS B (tRet te) D' env:=fun σ G H F D I r =>
 h σ G H F _ I fun v G1 H1 F1 Fv s e1 I1 g1 x1 q1 => r.rt σ G1 H1 F1 e1 v Fv s I1 g1 x1 q1
theorem evs_drop (h : EvO B te env fun _ e => D'.nx e) : EvS B (tDrop te) D' env:=fun σ G H F D I r =>
 h σ G H F _ I fun v G1 H1 F1 Fv s e1 I1 g1 x1 q1 => r.nx σ G1 H1 F1 e1 I1 g1 q1
theorem evs_if (h : EvT B c env fun b e => if b = true then EvS B t D' e else EvS B u D' e) : EvS B (tIfS c t u) D' env:=fun σ G H F D I r =>
 h σ G H F _ I fun b G1 H1 F1 e1 I1 g1 q => by
  cases b with
  | true => rw [if_pos rfl] at q ⊢; exact q σ G1 H1 F1 D I1 (r.later g1)
  | false => rw [if_neg Bool.false_ne_true] at q ⊢; exact q σ G1 H1 F1 D I1 (r.later g1)
def ForV (B : Bs) (g : TG) (tb : TS) (D' : VEnds) (ds : List PyData) (e1 : En) : Prop:=∃ J : Nat->En->Prop, J 0 e1/\(∀ i d e, ds[i]? = some d->J i e->EvG B g (.st d) e fun e2 => EvS B tb { D' with nx:=J (i + 1), ct:=J (i + 1), bk:=D'.nx } e2)/\∀ e, J ds.length e->D'.nx e
theorem evs_for {wi : TI} (h : EvI B wi env fun ds e1 => ForV B g tb D' ds e1) : EvS B (tFor wi g tb) D' env:=fun σ G H F D I r =>
 h σ G H F _ I fun J G1 H1 F1 ds e1 I1 g1 it z_ => by
  obtain ⟨Jv, j0, js, jd⟩:=z_
  refine ⟨fun i m σ H => m = ds.length - i/\i<=ds.length/\∃ G2 F2 e2, VI B G2 H σ e2 F2/\Same G1 G2/\Jv i e2, ⟨ds.length, by simp, Nat.zero_le _, G1, F1, e1, I1, Same.refl _, j0⟩, ?_⟩
  rintro i m σ H ⟨rfl, hi, G2, F2, e2, I2, g2, j2⟩
  by_cases hlt : i < ds.length
  ·refine .inr ⟨it.go i G2 H g2 I2.gh hlt, fun σ H => ∃ G3 F3 e3, VI B G3 H σ e3 F3/\Same G1 G3/\Jv (i + 1) e3, fun σ' H' h' => ⟨ds.length - (i + 1), by row_cond lo, rfl, hlt, h'⟩, fun x H' y => ?_⟩
   obtain ⟨G3, o⟩:=it.yld i G2 H x H' _ g2 I2.gh I2.ft (List.getElem?_eq_getElem hlt) y
   have I3:=I2.out o
   refine js i _ e2 (List.getElem?_eq_getElem hlt) j2 σ G3 H' F2 x _ _ I3.1 I3.2 fun σ4 G4 H4 F4 e4 I4 g4 q4 => ?_
   have gg:=g2.trans (o.gg.trans g4)
   refine q4 σ4 G4 H4 F4 _ I4 ⟨fun σ5 G5 H5 F5 e5 I5 g5 q5 => ⟨G5, F5, e5, I5, gg.trans g5, q5⟩, fun σ5 G5 H5 F5 e5 v5 Fv5 s5 I5 g5 => r.rt σ5 G5 H5 F5 e5 v5 Fv5 s5 I5 (g1.trans (gg.trans g5)), fun σ5 G5 H5 F5 e5 I5 g5 => r.nx σ5 G5 H5 F5 e5 I5 (g1.trans (gg.trans g5)), fun σ5 G5 H5 F5 e5 I5 g5 q5 => ⟨G5, F5, e5, I5, gg.trans g5, q5⟩⟩
  ·have e : i = ds.length:=by row_cond lo
   subst e
   exact .inl ⟨it.stop _ G2 H g2 I2.gh rfl, r.nx σ G2 H F2 e2 I2 (g1.trans g2) (jd e2 j2)⟩
variable {QI : List PyData->En->Prop}
theorem evi_list {K : PySem.W.Frag} (h : Ev B te env fun d e => ∃ ds, d = .list ds/\QI ds e) : EvI B (iList K te) env QI:=fun σ G H F R I k =>
 h σ G H F _ I fun v G1 H1 F1 d e1 I1 g1 r1 z_ => by
  obtain ⟨ds, ed, q1⟩:=z_
  subst ed
  cases r1 with
  | @lst a vs ds ha rs =>
   refine ⟨a, rfl, ⟨vs, SqL.of (I1.gh _ _ ha)⟩, k _ G1 H1 F1 ds e1 I1 g1 ⟨fun i G' H' g h hi => ?_, fun i G' H' g h hi => ?_, fun i G' H' x H'' d g h ft hd y => ?_⟩ q1⟩
   ·have : i < vs.length:=by rw [rs.length]; exact hi
    exact ⟨vs, vs[i], SqL.of (h _ _ (g _ _ ha)), List.getElem?_eq_getElem this⟩
   ·exact ⟨vs, SqL.of (h _ _ (g _ _ ha)), by rw [rs.length]; exact Nat.le_of_eq hi.symm⟩
   ·obtain ⟨e, y⟩:=y
    subst e
    obtain ⟨v, hv, rv⟩:=rs.get hd
    have:=y vs (SqL.of (h _ _ (g _ _ ha)))
    rw [hv] at this
    cases this
    exact ⟨G', Out.refl h (rv.same g)⟩
theorem x_list {ds : List PyData} {R : List PyData->Prop} (h : R ds) : ∃ xs, PyData.list ds = .list xs/\R xs:=⟨ds, rfl, h⟩
noncomputable def rngD (lo : Int) (n : Nat) : List PyData:=(List.range n).map fun (i : Nat) => .int (lo + (i : Int))
theorem rngD_length {lo : Int} {n : Nat} : (rngD lo n).length = n:=by simp [rngD]
theorem rngD_get {lo : Int} {n i : Nat} {d : PyData} (h : (rngD lo n)[i]? = some d) : i < n/\d = .int (lo + (i : Int)):=by
 unfold rngD at h
 rw [List.getElem?_map] at h
 have hi : i < n:=by
  have:=(List.getElem?_eq_some_iff (l:=(List.range n).map fun (i : Nat) => PyData.int (lo + (i : Int)))).mp (by rw [List.getElem?_map]; exact h)
  obtain ⟨q, _⟩:=this
  simpa using q
 rw [List.getElem?_eq_getElem (by simpa using hi)] at h
 simp at h
 exact ⟨hi, h.symm⟩
theorem itr_ok {G : Hp} {lo : Int} {n : Nat} : ItOk G (Itr lo n) (rngD lo n):=by
 refine ⟨fun i G' H' g h hi => ?_, fun i G' H' g h hi => ?_, fun i G' H' x H'' d g h ft hd y => ?_⟩
 ·rw [rngD_length] at hi; exact hi
 ·rw [rngD_length] at hi; exact Nat.le_of_eq hi.symm
 ·obtain ⟨e, y⟩:=y
  subst e y
  rw [(rngD_get hd).2]
  exact ⟨G', Out.refl h (.int _)⟩
def RngA1 (ds : List PyData) (R : List PyData->Prop) : Prop:=∃ j : Int, ds = [.int j]/\-(2 ^ 62)<=j/\j < 2 ^ 62/\R (rngD 0 j.toNat)
theorem evi_rng1 {ta : TA} (h : EvA B ta env fun ds e => RngA1 ds fun xs => QI xs e) : EvI B (iRng1 ta) env QI:=fun σ G H F R I k =>
 h σ G H F _ I fun vs G1 H1 F1 ds e1 I1 g1 r1 z_ => by
  obtain ⟨j, ed, b1, b2, q1⟩:=z_
  subst ed
  obtain rfl : vs = [V.int j]:=Rps.ints_inv (ns:=[j]) r1
  exact ⟨j, rfl, b1, b2, k _ G1 H1 F1 _ e1 I1 g1 itr_ok q1⟩
theorem x_rng1 {j : Int} {R : List PyData->Prop} (h1 : -4611686018427387904<=j) (h2 : j < 4611686018427387904) (h : R (rngD 0 j.toNat)) : RngA1 [.int j] R:=⟨j, rfl, by row_cond lo, by row_cond lo, h⟩
theorem forv_rng {lo : Int} {n : Nat} (J : Nat->En->Prop) (h0 : J 0 env) (hs : ∀ i e, i < n->J i e->EvG B g (.st (.int (lo + (i : Int)))) e fun e2 => EvS B tb { D' with nx:=J (i + 1), ct:=J (i + 1), bk:=D'.nx } e2) (hd : ∀ e, J n e->D'.nx e) : ForV B g tb D' (rngD lo n) env :=
 ⟨J, h0, fun i d e h j => by obtain ⟨hi, rfl⟩:=rngD_get h; exact hs i e hi j, fun e j => hd e (by rw [rngD_length] at j; exact j)⟩
theorem forv_map {α : Type} {f : α->PyData} {xs : List α} (J : Nat->En->Prop) (h0 : J 0 env) (hs : ∀ i x e, xs[i]? = some x->J i e->EvG B g (.st (f x)) e fun e2 => EvS B tb { D' with nx:=J (i + 1), ct:=J (i + 1), bk:=D'.nx } e2) (hd : ∀ e, J xs.length e->D'.nx e) : ForV B g tb D' (xs.map f) env :=
 ⟨J, h0, fun i d e h j => by
  rw [List.getElem?_map] at h
  cases hx : xs[i]? with
  | none => rw [hx] at h; cases h
  | some x => rw [hx] at h; cases h; exact hs i x e hx j, fun e j => hd e (by rw [List.length_map] at j; exact j)⟩
end
end VL
namespace VL
open PySem PySem.Spec L2
theorem evs_seqC {B : Bs} {a b : TS} {D' : VEnds} {env : En} (h : ∀ c : TS, c = b->EvS B a { D' with nx:=fun e => EvS B c D' e } env) : EvS B (tSeq a b) D' env:=evs_seq (h b rfl)
theorem evs_unf {B : Bs} {c b : TS} {D' : VEnds} {env : En} (e : c = b) (h : EvS B b D' env) : EvS B c D' env:=by rw [e]; exact h
@[elab_as_elim] theorem exS1 {α0 : Type} {σ : Type} {f : α0->σ} {p : α0->Prop} {motive : σ->Prop} (s : σ) (h : ∃ x0, s = f x0/\p x0) (k : ∀ x0, p x0->motive (f x0)) : motive s:=by
 obtain ⟨x0, e, h⟩:=h
 rw [e]; exact k _ h
@[elab_as_elim] theorem exE1 {α0 : Type} {σ : Type} {f : α0->σ} {motive : σ->Prop} (s : σ) (h : ∃ x0, s = f x0) (k : ∀ x0, motive (f x0)) : motive s:=by
 obtain ⟨x0, e⟩:=h
 rw [e]; exact k _
@[elab_as_elim] theorem exS2 {α0 : Type} {α1 : Type} {σ : Type} {f : α0->α1->σ} {p : α0->α1->Prop} {motive : σ->Prop} (s : σ) (h : ∃ x0 x1, s = f x0 x1/\p x0 x1) (k : ∀ x0 x1, p x0 x1->motive (f x0 x1)) : motive s:=by
 obtain ⟨x0, x1, e, h⟩:=h
 rw [e]; exact k _ _ h
@[elab_as_elim] theorem exE2 {α0 : Type} {α1 : Type} {σ : Type} {f : α0->α1->σ} {motive : σ->Prop} (s : σ) (h : ∃ x0 x1, s = f x0 x1) (k : ∀ x0 x1, motive (f x0 x1)) : motive s:=by
 obtain ⟨x0, x1, e⟩:=h
 rw [e]; exact k _ _
@[elab_as_elim] theorem exS3 {α0 : Type} {α1 : Type} {α2 : Type} {σ : Type} {f : α0->α1->α2->σ} {p : α0->α1->α2->Prop} {motive : σ->Prop} (s : σ) (h : ∃ x0 x1 x2, s = f x0 x1 x2/\p x0 x1 x2) (k : ∀ x0 x1 x2, p x0 x1 x2->motive (f x0 x1 x2)) : motive s:=by
 obtain ⟨x0, x1, x2, e, h⟩:=h
 rw [e]; exact k _ _ _ h
@[elab_as_elim] theorem exE3 {α0 : Type} {α1 : Type} {α2 : Type} {σ : Type} {f : α0->α1->α2->σ} {motive : σ->Prop} (s : σ) (h : ∃ x0 x1 x2, s = f x0 x1 x2) (k : ∀ x0 x1 x2, motive (f x0 x1 x2)) : motive s:=by
 obtain ⟨x0, x1, x2, e⟩:=h
 rw [e]; exact k _ _ _
@[elab_as_elim] theorem exS6 {α0 : Type} {α1 : Type} {α2 : Type} {α3 : Type} {α4 : Type} {α5 : Type} {σ : Type} {f : α0->α1->α2->α3->α4->α5->σ} {p : α0->α1->α2->α3->α4->α5->Prop} {motive : σ->Prop} (s : σ) (h : ∃ x0 x1 x2 x3 x4 x5, s = f x0 x1 x2 x3 x4 x5/\p x0 x1 x2 x3 x4 x5) (k : ∀ x0 x1 x2 x3 x4 x5, p x0 x1 x2 x3 x4 x5->motive (f x0 x1 x2 x3 x4 x5)) : motive s:=by
 obtain ⟨x0, x1, x2, x3, x4, x5, e, h⟩:=h
 rw [e]; exact k _ _ _ _ _ _ h
@[elab_as_elim] theorem exE7 {α0 : Type} {α1 : Type} {α2 : Type} {α3 : Type} {α4 : Type} {α5 : Type} {α6 : Type} {σ : Type} {f : α0->α1->α2->α3->α4->α5->α6->σ} {motive : σ->Prop} (s : σ) (h : ∃ x0 x1 x2 x3 x4 x5 x6, s = f x0 x1 x2 x3 x4 x5 x6) (k : ∀ x0 x1 x2 x3 x4 x5 x6, motive (f x0 x1 x2 x3 x4 x5 x6)) : motive s:=by
 obtain ⟨x0, x1, x2, x3, x4, x5, x6, e⟩:=h
 rw [e]; exact k _ _ _ _ _ _ _
end VL
namespace VL
open PySem PySem.Spec L2
theorem big {n : Nat} (h : n<=1000000) : n < sizeLine:=Nat.lt_of_le_of_lt h (by decide)
section
variable {B B1 : Bs} {G H G' H' : Hp} {σ σI : St} {env envI : En} {F F' : Nat->Addr->Prop} {v : V} {s : Sl} {Fv : Addr->Prop} {inv : Nat->Option Nat}
open Classical in
noncomputable def lentR (H : Hp) (F : Nat->Addr->Prop) (inv : Nat->Option Nat) : Hp:=fun a => if ∃ i j, inv i = some j/\F i a then none else H a
theorem lentR_none {i j : Nat} {a : Addr} (h : inv i = some j) (f : F i a) : lentR H F inv a = none:=if_pos ⟨i, j, h, f⟩
theorem lentR_eq {a : Addr} (h : ∀ i j, inv i = some j->¬ F i a) : lentR H F inv a = H a:=if_neg fun ⟨i, j, x, y⟩ => h i j x y
theorem lentR_same : Same (lentR H F inv) H:=fun a o e => by
 unfold lentR at e
 split at e
 ·cases e
 ·exact e
theorem VI.leave (I : VI B G H σ env F) (inj : ∀ i i' j, inv i = some j->inv i' = some j->i = i') (bG : B1.G = G) (bH : B1.H = H) (bR : ∀ a o, H a = some o->(∀ i j, inv i = some j->¬ F i a)->B1.R a = some o)
  (bF : ∀ i j, inv i = some j->∀ a, B1.F j a->F i a) (bS : ∀ i j, inv i = some j->B1.S[j]? = σ[i]?) (J : VI B1 G' H' σI envI F') (io : ∀ i j, inv i = some j->∃ A', envI[j]? = some (some (.io A'))) {env2 : En} (he : env2.length = env.length)
  (h2 : ∀ i s, env2[i]? = some (some s)->(inv i = none/\env[i]? = some (some s))\/∃ j A A', inv i = some j/\envI[j]? = some (some (.io A'))/\((env[i]? = some (some (.own A))/\s = .own A')\/(env[i]? = some (some (.io A))/\s = .io A'))) :
  VI B G' H' σ env2 (fun i a => match inv i with | some j => F' j a | none => F i a):=by
 have gn1 : ∀ a o, G' a = some o->G a = some o\/H a = none:=fun a o e => by
  have:=J.gn a o e
  rw [bG, bH] at this; exact this
 have fi : ∀ i j a, inv i = some j->F' j a->F i a\/H a = none:=fun i j a hi z => by
  obtain ⟨A', e⟩:=io i j hi
  obtain ⟨v, _, q⟩:=J.sl j _ e
  rcases q.2.1 a z with y | y
  ·exact .inl (bF i j hi a y)
  ·rw [bH] at y; exact .inr y
 have kp : ∀ a o, H a = some o->(∀ i j, inv i = some j->¬ F i a)->H' a = some o:=fun a o e n => J.rs a o (bR a o e n)
 refine ⟨J.gh, I.g0.trans (bG ▸ J.g0), fun a o e => ?_, fun a o e => ?_, I.rb, fun a o e => ?_, fun i a z => ?_, fun i a z => ?_, fun i k a y z => ?_, fun i a z => ?_, fun i t e => ?_, by rw [he]; exact I.ln, J.ft⟩
 ·rcases gn1 a o e with e | e
  ·exact I.gn a o e
  ·exact .inr (I.no_b e)
 ·refine kp a o (I.rs a o e) fun i j _ z => ?_
  rw [I.fr i a z] at e; cases e
 ·obtain ⟨o1, e1⟩:=I.bh a o e
  exact J.bh a o1 (by rw [bH]; exact e1)
 ·cases hi : inv i with
  | some j => rw [hi] at z; exact J.fg j a z
  | none =>
   rw [hi] at z
   cases e : G' a with
   | none => rfl
   | some o =>
    rcases gn1 a o e with e | e
    ·rw [I.fg i a z] at e; cases e
    ·exact absurd z (I.no_f e i)
 ·cases hi : inv i with
  | some j =>
   rw [hi] at z
   rcases fi i j a hi z with y | y
   ·exact I.fr i a y
   ·exact I.no_r y
  | none => rw [hi] at z; exact I.fr i a z
 ·cases hi : inv i with
  | some j =>
   rw [hi] at y
   cases hk : inv k with
   | some l =>
    rw [hk] at z
    have:=J.fd j l a y z
    subst this
    exact inj i k j hi hk
   | none =>
    rw [hk] at z
    rcases fi i j a hi y with x | x
    ·exact I.fd i k a x z
    ·exact absurd z (I.no_f x k)
  | none =>
   rw [hi] at y
   cases hk : inv k with
   | some l =>
    rw [hk] at z
    rcases fi k l a hk z with x | x
    ·exact I.fd i k a y x
    ·exact absurd y (I.no_f x i)
   | none => rw [hk] at z; exact I.fd i k a y z
 ·cases hi : inv i with
  | some j => rw [hi] at z; exact J.fo j a z
  | none =>
   rw [hi] at z
   obtain ⟨o, e⟩:=I.fo i a z
   exact J.bh a o (by rw [bH]; exact e)
 ·rcases h2 i t e with ⟨hi, e1⟩ | ⟨j, A, A', hi, e1, e2⟩
  ·obtain ⟨v, hv, q⟩:=I.sl i t e1
   refine ⟨v, hv, ?_⟩
   simp only [hi]
   refine q.mono (bG ▸ J.g0) fun a o z y => kp a o y fun i' j' hi' z' => ?_
   have:=I.fd i i' a z z'
   subst this
   rw [hi] at hi'; cases hi'
  ·obtain ⟨v, hv, q⟩:=J.sl j _ e1
   have hS : σ[i]? = some (some v):=by rw [← bS i j hi]; exact q.2.2
   refine ⟨v, hS, ?_⟩
   simp only [hi]
   rcases e2 with ⟨e2, rfl⟩ | ⟨e2, rfl⟩
   ·obtain ⟨v', _, q'⟩:=I.sl i _ e2
    refine ⟨q.1, fun a z => ?_⟩
    rcases fi i j a hi z with y | y
    ·exact q'.2 a y
    ·exact I.no_b y
   ·obtain ⟨v', hv', q'⟩:=I.sl i _ e2
    rw [hS] at hv'; cases hv'
    refine ⟨q.1, fun a z => ?_, q'.2.2⟩
    rcases fi i j a hi z with y | y
    ·exact q'.2.1 a y
    ·exact .inr (I.no_b y)
theorem RsX.leave (I : VI B G H σ env F) (bH : B1.H = H) (r : RsX B1 G' H' v Fv s F') : RsX B G' H' v Fv s (fun i a => match inv i with | some j => F' j a | none => F i a):=by
 have hn : ∀ a, Fv a->H a = none:=fun a z => bH ▸ r.fb a z
 refine ⟨r.ok, fun a z => I.no_b (hn a z), r.fg, r.fo, fun i a z y => ?_⟩
 cases hi : inv i with
 | some j => rw [hi] at y; exact r.fd j a z y
 | none => rw [hi] at y; exact I.no_f (hn a z) i y
end
noncomputable abbrev VP:=List Sl->(Sl->Prop)->Prop
noncomputable abbrev VIo:=Own->List Sl->(Own->Sl->Prop)->Prop
def noF : Nat->Addr->Prop:=fun _ _ => False
noncomputable def bsP (K : PySem.W.Frag) (G H : Hp) (vs : List V) : Bs:=⟨K, G, H, H, vs.map some, noF⟩
noncomputable def ArgOk (K : PySem.W.Frag) (G : Hp) : V->Sl->Prop
 | v, .st d => Rp G v d
 | v, .scr ns => ∃ a, v = .ref a/\SqL K G a (ns.map V.int)
 | _, _ => False
inductive ArgsOk (K : PySem.W.Frag) (G : Hp) : List V->List Sl->Prop
 | nil : ArgsOk K G [] []
 | cons {v : V} {s : Sl} {vs : List V} {ss : List Sl} : ArgOk K G v s->ArgsOk K G vs ss->ArgsOk K G (v :: vs) (s :: ss)
theorem ArgsOk.length {K : PySem.W.Frag} {G : Hp} : ∀ {vs : List V} {ss : List Sl}, ArgsOk K G vs ss->vs.length = ss.length
 | _, _, .nil => rfl
 | _, _, .cons _ t => by simp [ArgsOk.length t]
theorem ArgsOk.get {K : PySem.W.Frag} {G : Hp} : ∀ {vs : List V} {ss : List Sl} {i : Nat} {s : Sl}, ArgsOk K G vs ss->ss[i]? = some s->∃ v, vs[i]? = some v/\ArgOk K G v s
 | _, _, _, _, .nil, e => by simp at e
 | _, _, 0, _, .cons r _, e => by simp at e; subst e; exact ⟨_, rfl, r⟩
 | _, _, i + 1, s, .cons _ t, e => by
  obtain ⟨u, h1, h2⟩:=ArgsOk.get (i:=i) (s:=s) t (by simpa using e)
  exact ⟨u, by simpa using h1, h2⟩
theorem ArgsOk.of {K : PySem.W.Frag} {G : Hp} : ∀ {vs : List V} {ds : List PyData}, Rps G vs ds->ArgsOk K G vs (ds.map Sl.st)
 | _, _, .nil => .nil
 | _, _, .cons r t => .cons r (ArgsOk.of t)
theorem get_pad {α : Type} {xs : List α} {n i : Nat} {s : α} (e : (xs.map some ++ List.replicate n none)[i]? = some (some s)) : xs[i]? = some s:=by
 by_cases h : i < xs.length
 ·rw [List.getElem?_append_left (by simpa using h), List.getElem?_map] at e
  rw [List.getElem?_eq_getElem h] at e ⊢
  simpa using e
 ·rw [List.getElem?_append_right (by simpa using h), List.getElem?_replicate] at e
  split at e <;> cases e
theorem pad_get {α : Type} {xs : List α} {n i : Nat} {s : α} (e : xs[i]? = some s) : (xs.map some ++ List.replicate n none)[i]? = some (some s):=by
 have h : i < xs.length:=(List.getElem?_eq_some_iff.mp e).1
 rw [List.getElem?_append_left (by simpa using h), List.getElem?_map, e]; rfl
def spP (K : PySem.W.Frag) (f : VP) : Sp:=fun vs H Q _ => ∃ G ss Q', Same G H/\FT G H/\ArgsOk K G vs ss/\f ss Q'/\∀ s, Q' s->∀ v G' H' Fv, Out G H v G' H' s Fv->Q v H'
structure OutI (G H R : Hp) (F0 : Addr->Prop) (v0 : V) (A' : Own) (s : Sl) (v : V) (G' H' : Hp) (F' Fv : Addr->Prop) : Prop where
 gg : Same G G'
 gh : Same G' H'
 ft : FT G' H'
 gn : ∀ a o, G' a = some o->G a = some o\/H a = none
 rs : Same R H'
 bh : ∀ a o, H a = some o->∃ o', H' a = some o'
 ap : A'.P G' H' v0 F'
 fi : ∀ a, F' a->F0 a\/H a = none
 fg : ∀ a, F' a->G' a = none
 ok : RsOk G' H' v Fv s
 fv : ∀ a, Fv a->H a = none/\G' a = none/\(∃ o, H' a = some o)/\¬ F' a
def spI (K : PySem.W.Frag) (f : VIo) : Sp:=fun vs H Q _ => ∃ v0 vr G R A ss F0 Q', vs = v0 :: vr/\Same G H/\FT G H/\Same R H/\A.P G H v0 F0/\(∀ a, F0 a->G a = none)/\(∀ a, F0 a->R a = none)/\ArgsOk K G vr ss /\
 f A ss Q'/\∀ A' s, Q' A' s->∀ v G' H' F' Fv, OutI G H R F0 v0 A' s v G' H' F' Fv->Q v H'
theorem bodyP {K : PySem.W.Frag} {f : VP} {ts : TS} {N : List Str} {vs : List V} {H : Hp} {Q : VK} {E : XK} (h : spP K f vs H Q E)
  (hb : ∀ ss Q', f ss Q'->∀ B, B.K = K->EvS B ts { nx:=fun _ => Q' (.st .none), rt:=fun s _ => Q' s } (ss.map some ++ List.replicate (N.length - ss.length) none)) : ts { nx:=fun _ H' => Q .non H', rt:=Q } (L2.start N vs) H:=by
 obtain ⟨G, ss, Q', gh, ft, ao, hf, hQ⟩:=h
 have fin : ∀ {σ G' H' F env v Fv s}, VI (bsP K G H vs) G' H' σ env F->RsX (bsP K G H vs) G' H' v Fv s F->Out G H v G' H' s Fv:=fun I r =>
  ⟨I.g0, I.gh, I.rs, I.gn, r.fb, r.fg, r.fo, r.ok, fun _ => I.ft⟩
 refine hb ss _ hf (bsP K G H vs) rfl (L2.start N vs) G H noF _ ?_ ⟨fun σ G' H' F env I g q => hQ _ q _ _ _ _ (fin I (rsx_st .non)), fun σ G' H' F env v Fv s I g r q => hQ _ q v G' H' Fv (fin I r), fun _ _ _ _ _ _ _ q => q, fun _ _ _ _ _ _ _ q => q⟩
 refine ⟨gh, Same.refl _, fun a o e => .inl e, Same.refl _, Same.refl _, fun a o e => ⟨o, e⟩, fun i a z => z.elim, fun i a z => z.elim, fun i j a z => z.elim, fun i a z => z.elim, fun i s e => ?_, ?_, ft⟩
 ·obtain ⟨v, hv, q⟩:=ao.get (get_pad e)
  refine ⟨v, by unfold L2.start; exact pad_get hv, ?_⟩
  cases s with
  | st d => exact ⟨q, fun a z => z⟩
  | scr ns => exact ⟨q, fun a z => z⟩
  | own A => exact q.elim
  | io A => exact q.elim
 ·unfold L2.start; simp [ao.length]
theorem bodyI {K : PySem.W.Frag} {f : VIo} {ts : TS} {N : List Str} {vs : List V} {H : Hp} {Q : VK} {E : XK} (h : spI K f vs H Q E)
  (hb : ∀ A ss Q', f A ss Q'->∀ B, B.K = K->EvS B ts { nx:=fun e => ∃ A', e[0]? = some (some (.io A'))/\Q' A' (.st .none), rt:=fun s e => ∃ A', e[0]? = some (some (.io A'))/\Q' A' s } (some (.io A) :: (ss.map some ++ List.replicate (N.length - (ss.length + 1)) none))) : ts { nx:=fun _ H' => Q .non H', rt:=Q } (L2.start N vs) H:=by
 obtain ⟨v0, vr, G, R, A, ss, F0, Q', rfl, gh, ft, rh, ap, fg, fr, ao, hf, hQ⟩:=h
 have el : (v0 :: vr).length = ss.length + 1:=by simp [ao.length]
 refine hb A ss _ hf ⟨K, G, H, R, (v0 :: vr).map some, fun i a => i = 0/\F0 a⟩ rfl (L2.start N (v0 :: vr)) G H (fun i a => i = 0/\F0 a) _ ?_ ?_
 ·refine ⟨gh, Same.refl _, fun a o e => .inl e, rh, rh, fun a o e => ⟨o, e⟩, fun i a z => fg a z.2, fun i a z => fr a z.2, fun i j a z y => by rw [z.1, y.1], fun i a z => A.dom ap a z.2, fun i s e => ?_, ?_, ft⟩
  ·cases i with
   | zero =>
    simp at e
    subst e
    refine ⟨v0, rfl, ?_, fun a z => .inl z, rfl⟩
    have : (fun a => 0 = 0/\F0 a) = F0:=by funext a; simp
    rw [this]; exact ap
   | succ i =>
    have e' : (ss.map some ++ List.replicate (N.length - (ss.length + 1)) none)[i]? = some (some s):=by simpa using e
    obtain ⟨v, hv, q⟩:=ao.get (get_pad e')
    refine ⟨v, ?_, ?_⟩
    ·unfold L2.start; exact pad_get (by simpa using hv)
    ·cases s with
     | st d => exact ⟨q, fun a z => by cases z.1⟩
     | scr ns => exact ⟨q, fun a z => by cases z.1⟩
     | own A => exact q.elim
     | io A => exact q.elim
  ·unfold L2.start; simp [ao.length]
 ·have fin : ∀ σ G' H' F env v Fv s, VI ⟨K, G, H, R, (v0 :: vr).map some, fun i a => i = 0/\F0 a⟩ G' H' σ env F->RsX ⟨K, G, H, R, (v0 :: vr).map some, fun i a => i = 0/\F0 a⟩ G' H' v Fv s F->(∃ A', env[0]? = some (some (.io A'))/\Q' A' s)->Q v H':=by
   intro σ G' H' F env v Fv s I r ⟨A', e, q⟩
   obtain ⟨v', hv', q1, q2, q3⟩:=I.sl 0 _ e
   have : v' = v0:=by
    have q3' : ((v0 :: vr).map some)[0]? = some (some v'):=q3
    simpa using q3'.symm
   subst this
   exact hQ A' s q v G' H' (F 0) Fv ⟨I.g0, I.gh, I.ft, I.gn, I.rs, I.bh, q1, fun a z => by
    rcases q2 a z with y | y
    ·exact .inl y.2
    ·exact .inr y, I.fg 0, r.ok, fun a z => ⟨r.fb a z, r.fg a z, r.fo a z, r.fd 0 a z⟩⟩
  refine ⟨fun σ G' H' F env I g q => fin σ G' H' F env .non _ (.st .none) I (rsx_st .non) q, fun σ G' H' F env v Fv s I g r q => fin σ G' H' F env v Fv s I r q, fun _ _ _ _ _ _ _ q => q, fun _ _ _ _ _ _ _ q => q⟩
section
variable {B : Bs} {env : En} {Q' : PyData->En->Prop} {QO : Sl->En->Prop} {K : PySem.W.Frag} {E : XK}
theorem evo_callP {f : VP} {t : TA} (h : EvA B t env fun ds e1 => f (ds.map Sl.st) fun s => QO s e1) : EvO B (tCall (spP K f) [] E t) env QO:=fun σ G H F Q I k => by
 unfold tCall
 simp only [List.append_nil]
 exact h σ G H F _ I fun vs G1 H1 F1 ds e1 I1 g1 r1 q1 => ⟨G1, _, _, I1.gh, I1.ft, ArgsOk.of r1, q1, fun s q v G' H' Fv o => k v G' H' F1 Fv s e1 (I1.out o).1 (g1.trans o.gg) (I1.out o).2 q⟩
theorem ev_callP {f : VP} {t : TA} (h : EvA B t env fun ds e1 => f (ds.map Sl.st) fun s => FQ s fun d => Q' d e1) : Ev B (tCall (spP K f) [] E t) env Q':=ev_ofO (evo_callP h)
theorem evo_callS {f : VP} {t : TA} {i : Nat} {ns : List Int} (e : env[i]? = some (some (.scr ns))) (hK : B.K = K) (h : EvA B t env fun ds e1 => f (.scr ns :: ds.map Sl.st) fun s => QO s e1) : EvO B (tCall (spP K f) [] E (tCons (tVar i) t)) env QO:=fun σ G H F Q I k => by
 subst hK
 unfold tCall
 simp only [List.append_nil]
 obtain ⟨v0, hv, ⟨a, ea, sq⟩, _⟩:=I.sl i _ e
 refine ⟨v0, hv, h σ G H F _ I fun vs G1 H1 F1 ds e1 I1 g1 r1 q1 => ⟨G1, _, _, I1.gh, I1.ft, .cons (s:=.scr ns) ⟨a, ea, g1.seq sq⟩ (ArgsOk.of r1), q1, fun s q v G' H' Fv o => k v G' H' F1 Fv s e1 (I1.out o).1 (g1.trans o.gg) (I1.out o).2 q⟩⟩
theorem ev_callS {f : VP} {t : TA} {i : Nat} {ns : List Int} (e : env[i]? = some (some (.scr ns))) (hK : B.K = K) (h : EvA B t env fun ds e1 => f (.scr ns :: ds.map Sl.st) fun s => FQ s fun d => Q' d e1) : Ev B (tCall (spP K f) [] E (tCons (tVar i) t)) env Q':=ev_ofO (evo_callS e hK h)
noncomputable def reS : Sl->Own->Sl
 | .io _, A => .io A
 | _, A => .own A
theorem evo_callI {f : VIo} {t : TA} {i : Nat} (h0 : ∃ s, env[i]? = some (some s)) (h : EvA B t env fun ds e1 => ∃ s0 A, e1[i]? = some (some s0)/\(s0 = .own A\/s0 = .io A)/\f A (ds.map Sl.st) fun A' s => QO s (e1.set i (some (reS s0 A')))) : EvO B (tCall (spI K f) [] E (tCons (tVar i) t)) env QO:=fun σ G H F Q I k => by
 unfold tCall
 simp only [List.append_nil]
 obtain ⟨s, e⟩:=h0
 obtain ⟨v0, hv, _⟩:=I.sl i _ e
 refine ⟨v0, hv, h σ G H F _ I fun vs G1 H1 F1 ds e1 I1 g1 r1 ⟨s0, A, ei, hs, q1⟩ => ?_⟩
 obtain ⟨v', hv', q⟩:=I1.sl i _ ei
 rw [hv] at hv'; cases hv'
 have ap : A.P G1 H1 v0 (F1 i):=by
  rcases hs with rfl | rfl
  ·exact q.1
  ·exact q.1
 let inv : Nat->Option Nat:=fun j => if j = i then some 0 else none
 have inv_i : inv i = some 0:=if_pos rfl
 have inv_ne : ∀ j, j ≠ i->inv j = none:=fun j h => if_neg h
 have inv_inv : ∀ j l, inv j = some l->j = i/\l = 0:=fun j l h => by
  by_cases hj : j = i
  ·subst hj; rw [inv_i] at h; cases h; exact ⟨rfl, rfl⟩
  ·rw [inv_ne j hj] at h; cases h
 refine ⟨v0, vs, G1, lentR H1 F1 inv, A, _, F1 i, _, rfl, I1.gh, I1.ft, lentR_same, ap, I1.fg i, fun a z => lentR_none inv_i z, ArgsOk.of r1, q1, fun A' s q v G' H' F' Fv o => ?_⟩
 have hi : i < e1.length:=(List.getElem?_eq_some_iff.mp ei).1
 have J : VI ⟨K, G1, H1, lentR H1 F1 inv, [some v0], fun j a => j = 0/\F1 i a⟩ G' H' [some v0] [some (.io A')] (fun j a => j = 0/\F' a):=by
  refine ⟨o.gh, o.gg, o.gn, o.rs, lentR_same, o.bh, fun j a z => o.fg a z.2, fun j a z => ?_, fun j l a y z => by rw [y.1, z.1], fun j a z => A'.dom o.ap a z.2, fun j s e => ?_, rfl, o.ft⟩
  ·rcases o.fi a z.2 with y | y
   ·exact lentR_none inv_i y
   ·cases e : lentR H1 F1 inv a with
    | none => exact e
    | some u => rw [lentR_same a u e] at y; cases y
  ·cases j with
   | zero =>
    simp at e
    subst e
    refine ⟨v0, rfl, ?_, fun a z => ?_, rfl⟩
    ·have : (fun a => 0 = 0/\F' a) = F':=by funext a; simp
     rw [this]; exact o.ap
    ·rcases o.fi a z.2 with y | y
     ·exact .inl ⟨rfl, y⟩
     ·exact .inr y
   | succ j => simp at e
 have L:=I1.leave (inv:=inv) (env2:=e1.set i (some (reS s0 A'))) (fun a b j ha hb => by rw [(inv_inv a j ha).1, (inv_inv b j hb).1]) rfl rfl (fun a u e n => by show lentR H1 F1 inv a = _; rw [lentR_eq n]; exact e)
  (fun a j ha x z => by rw [(inv_inv a j ha).1]; exact z.2) (fun a j ha => by rw [(inv_inv a j ha).1, (inv_inv a j ha).2, hv]; rfl) J (fun a j ha => ⟨A', by rw [(inv_inv a j ha).2]; rfl⟩) (by simp) fun j s' e => by
   by_cases hj : j = i
   ·subst hj
    rw [List.getElem?_set, if_pos rfl, if_pos hi] at e
    cases e
    refine .inr ⟨0, A, A', inv_i, rfl, ?_⟩
    rcases hs with rfl | rfl
    ·exact .inl ⟨ei, rfl⟩
    ·exact .inr ⟨ei, rfl⟩
   ·rw [List.getElem?_set, if_neg (fun z => hj z.symm)] at e
    exact .inl ⟨inv_ne j hj, e⟩
 have X : RsX ⟨K, G1, H1, lentR H1 F1 inv, [some v0], fun j a => j = 0/\F1 i a⟩ G' H' v Fv s (fun j a => j = 0/\F' a):=⟨o.ok, fun a z => (o.fv a z).1, fun a z => (o.fv a z).2.1, fun a z => (o.fv a z).2.2.1, fun j a z y => (o.fv a z).2.2.2 y.2⟩
 exact k v G' H' _ Fv s _ L (g1.trans o.gg) (X.leave (inv:=inv) I1 rfl) q
end
end VL
namespace VL
open PySem PySem.Spec L2
noncomputable def isIo : Option Sl->Bool
 | some (.io _) => true
 | _ => false
noncomputable def isOwn : Option Sl->Bool
 | some (.own _) => true
 | _ => false
noncomputable def ioLe : En->En->Prop
 | a :: r, b :: s => (isIo a = isIo b/\isOwn b = false)/\ioLe r s
 | [], [] => True
 | _, _ => False
theorem isIo_iff {x : Option Sl} (h : isIo x = true) : ∃ A, x = some (.io A):=by
 cases x with
 | none => simp [isIo] at h
 | some y =>
  cases y with
  | io A => exact ⟨A, rfl⟩
  | _ => simp [isIo] at h
theorem ioLe.get : ∀ {a b : En} {j : Nat} {x : Option Sl}, ioLe a b->a[j]? = some x->isIo x = true->∃ A, b[j]? = some (some (.io A))
 | [], _, _, _, _, e, _ => by simp at e
 | x :: r, [], _, _, h, _, _ => h.elim
 | x :: r, y :: s, 0, z, h, e, p => by
  simp at e; subst e
  have:=h.1.1
  rw [p] at this
  obtain ⟨A, q⟩:=isIo_iff this.symm
  exact ⟨A, by simp [q]⟩
 | x :: r, y :: s, j + 1, z, h, e, p => by
  obtain ⟨A, q⟩:=ioLe.get (j:=j) h.2 (by simpa using e) p
  exact ⟨A, by simpa using q⟩
section
variable {B : Bs} {G H : Hp} {σ : St} {env : En} {F : Nat->Addr->Prop}
end
end VL
namespace VL
open PySem PySem.Spec L2
section
variable {B : Bs} {env : En} {g : TG} {tif : TT} {te : TE} {K : PySem.W.Frag} {src : List (Option Nat)} {ds : List PyData} {e1 : En} {R : List PyData->En->Prop}
end
section
variable {R : Sl->Prop}
theorem op2_I0i {g : Int->Int->Int} {i j : Int} (h : R (.st (.int (g i j)))) : Op2 (rI0 fun i j => .int (g i j)) (.int i) (.int j) R:=fun G H vx vy Q gh rx ry k => by
 cases rx; cases ry
 exact ⟨i, j, rfl, rfl, k _ _ _ _ _ (Out.refl gh (.int _)) h⟩
theorem op2_I0b {g : Int->Int->Bool} {i j : Int} (h : R (.st (.bool (g i j)))) : Op2 (rI0 fun i j => .bl (g i j)) (.int i) (.int j) R:=fun G H vx vy Q gh rx ry k => by
 cases rx; cases ry
 exact ⟨i, j, rfl, rfl, k _ _ _ _ _ (Out.refl gh (.bl _)) h⟩
theorem op2_Ii {C : Int->Int->Prop} {g : Int->Int->Int} {i j : Int} (hc : C i j) (h : R (.st (.int (g i j)))) : Op2 (rI C fun i j => .int (g i j)) (.int i) (.int j) R:=fun G H vx vy Q gh rx ry k => by
 cases rx; cases ry
 exact ⟨i, j, rfl, rfl, hc, k _ _ _ _ _ (Out.refl gh (.int _)) h⟩
theorem op1_Ui {g : Int->Int} {i : Int} (h : R (.st (.int (g i)))) : Op1 (rU fun i => .int (g i)) (.int i) R:=fun G H vx Q gh rx k => by
 cases rx
 exact ⟨i, rfl, k _ _ _ _ _ (Out.refl gh (.int _)) h⟩
theorem op2_eqI {i j : Int} (h : R (.st (.bool (decide (i = j))))) : Op2 rEq (.int i) (.int j) R:=fun G H vx vy Q gh rx ry k => by
 cases rx; cases ry
 exact go_eqI (k _ _ _ _ _ (Out.refl gh (.bl _)) h)
theorem op2_neI {i j : Int} (h : R (.st (.bool (!decide (i = j))))) : Op2 rNe (.int i) (.int j) R:=fun G H vx vy Q gh rx ry k => by
 cases rx; cases ry
 exact go_neI (k _ _ _ _ _ (Out.refl gh (.bl _)) h)
theorem dec_str' (i j : Str) : decide (V.str i = V.str j) = decide (i = j):=by
 by_cases h : i = j
 ·subst h; simp
 ·simp [h]
theorem op2_eqS {i j : Str} (h : R (.st (.bool (decide (i = j))))) : Op2 rEq (.str i) (.str j) R:=fun G H vx vy Q gh rx ry k => by
 cases rx; cases ry
 refine ⟨rfl, ?_⟩
 rw [dec_str']
 exact k _ _ _ _ _ (Out.refl gh (.bl _)) h
theorem op2_neS {i j : Str} (h : R (.st (.bool (!decide (i = j))))) : Op2 rNe (.str i) (.str j) R:=fun G H vx vy Q gh rx ry k => by
 cases rx; cases ry
 refine ⟨rfl, ?_⟩
 rw [dec_str']
 exact k _ _ _ _ _ (Out.refl gh (.bl _)) h
theorem op2_eqD {x y : PyData} (px : plainD x = true) (py : plainD y = true) (hd : x.depth<=60) (h : R (.st (.bool (PyData.eqv x y)))) : Op2 rEqD x y R:=fun G H vx vy Q gh rx ry k =>
 ⟨x, y, (rx.rep px).same gh, (ry.rep py).same gh, px, py, hd, k _ _ _ _ _ (Out.refl gh (.bl _)) h⟩
theorem Rps.at {G : Hp} {vs : List V} {ds : List PyData} {i : Int} {d : PyData} (r : Rps G vs ds) (h : atI ds i = some d) : ∃ v, atI vs i = some v/\Rp G v d:=by
 unfold atI at h ⊢
 rw [r.length]
 cases e : ixN ds.length i with
 | none => rw [e] at h; cases h
 | some j =>
  rw [e] at h
  exact r.get h
theorem op2_ixL {K : PySem.W.Frag} {ds : List PyData} {i : Int} {d : PyData} (hd : atI ds i = some d) (h : R (.st d)) : Op2 (rIxLT K) (.list ds) (.int i) R:=fun G H vx vy Q gh rx ry k => by
 cases ry
 cases rx with
 | lst ha rs =>
  obtain ⟨v, hv, rv⟩:=rs.at hd
  exact go_ixltL (gh _ _ ha) hv (k _ _ _ _ _ (Out.refl gh rv) h)
theorem op2_ixT {K : PySem.W.Frag} {ds : List PyData} {i : Int} {d : PyData} (hd : atI ds i = some d) (h : R (.st d)) : Op2 (rIxLT K) (.tuple ds) (.int i) R:=fun G H vx vy Q gh rx ry k => by
 cases ry
 cases rx with
 | tup ha rs =>
  obtain ⟨v, hv, rv⟩:=rs.at hd
  exact go_ixltT (gh _ _ ha) hv (k _ _ _ _ _ (Out.refl gh rv) h)
noncomputable def isNone : PyData->Bool
 | .none => true
 | _ => false
theorem rp_none {G : Hp} {v : V} {x : PyData} (r : Rp G v x) : decide (v = .non) = isNone x:=by cases r <;> rfl
theorem op2_isN {x : PyData} (h : R (.st (.bool (isNone x)))) : Op2 rIsN x .none R:=fun G H vx vy Q gh rx ry k => by
 cases ry
 refine ⟨rfl, ?_⟩
 rw [rp_none rx]
 exact k _ _ _ _ _ (Out.refl gh (.bl _)) h
theorem op2_notN {x : PyData} (h : R (.st (.bool (!isNone x)))) : Op2 rNotN x .none R:=fun G H vx vy Q gh rx ry k => by
 cases ry
 refine ⟨rfl, ?_⟩
 rw [rp_none rx]
 exact k _ _ _ _ _ (Out.refl gh (.bl _)) h
theorem op2_cat {xs ys : List PyData} (hl : xs.length + ys.length<=1000000) (h : R (.own (OL (xs ++ ys)))) : Op2 rCat (.list xs) (.list ys) R:=fun G H vx vy Q gh rx ry k => by
 cases rx with
 | lst ha ra =>
  cases ry with
  | lst hb rb =>
   refine go_cat (gh _ _ ha) (gh _ _ hb) ?_ fun p hp => k _ _ _ _ _ (Out.newL gh hp (ra.append rb)) h
   rw [ra.length, rb.length]; exact Nat.le_of_lt (big hl)
theorem opA_lenL {K : PySem.W.Frag} {xs : List PyData} (h : R (.st (.int xs.length))) : OpA (rLen K) [.list xs] R:=fun G H vs Q gh rs k => by
 cases rs with
 | cons r t =>
  cases t
  cases r with
  | lst ha ra =>
   refine go_lenL (gh _ _ ha) ?_
   rw [ra.length]
   exact k _ _ _ _ _ (Out.refl gh (.int _)) h
theorem opA_lenT {K : PySem.W.Frag} {xs : List PyData} (h : R (.st (.int xs.length))) : OpA (rLen K) [.tuple xs] R:=fun G H vs Q gh rs k => by
 cases rs with
 | cons r t =>
  cases t
  cases r with
  | tup ha ra =>
   refine go_lenT (gh _ _ ha) ?_
   rw [ra.length]
   exact k _ _ _ _ _ (Out.refl gh (.int _)) h
theorem opA_max2 {i j : Int} (h : R (.st (.int (if j > i then j else i)))) : OpA rMax2 [.int i, .int j] R:=fun G H vs Q gh rs k => by
 obtain rfl : vs = [V.int i, V.int j]:=Rps.ints_inv (ns:=[i, j]) rs
 exact go_max2 (k _ _ _ _ _ (Out.refl gh (.int _)) h)
theorem opA_min2 {i j : Int} (h : R (.st (.int (if j < i then j else i)))) : OpA rMin2 [.int i, .int j] R:=fun G H vs Q gh rs k => by
 obtain rfl : vs = [V.int i, V.int j]:=Rps.ints_inv (ns:=[i, j]) rs
 exact go_min2 (k _ _ _ _ _ (Out.refl gh (.int _)) h)
theorem opA_max3 {a b c : Int} (h : ∀ m, IsMax [a, b, c] m->R (.st (.int m))) : OpA rMax3 [.int a, .int b, .int c] R:=fun G H vs Q gh rs k => by
 obtain rfl : vs = [V.int a, V.int b, V.int c]:=Rps.ints_inv (ns:=[a, b, c]) rs
 exact go_max3 fun m hm => k _ _ _ _ _ (Out.refl gh (.int _)) (h m hm)
end
section
variable {B : Bs} {env : En} {QO : Sl->En->Prop} {Q' : PyData->En->Prop} {te tl th : TE} {K : PySem.W.Frag}
end
end VL
namespace VL
open PySem PySem.Spec L2
noncomputable def scalD : PyData->Bool
 | .none | .bool _ | .int _ | .str _ => true
 | _ => false
theorem rp_scal {G G' : Hp} {v : V} {d : PyData} (r : Rp G v d) (h : scalD d = true) : Rp G' v d:=by
 cases r with
 | non => exact .non
 | bl b => exact .bl b
 | int i => exact .int i
 | str x => exact .str x
 | _ => simp [scalD] at h
def Has (env : En) (i : Nat) (A : Own) : Prop:=env[i]? = some (some (.own A))\/env[i]? = some (some (.io A))
section
variable {B : Bs} {env : En} {QO : Sl->En->Prop} {Q' : PyData->En->Prop} {QT : Bool->En->Prop} {QE : En->Prop} {te ta tb tk : TE} {K : PySem.W.Frag} {i : Nat}
theorem VI.has {G H : Hp} {σ : St} {F : Nat->Addr->Prop} {A : Own} (I : VI B G H σ env F) (h : Has env i A) : ∃ v, σ[i]? = some (some v)/\A.P G H v (F i):=by
 rcases h with h | h
 ·obtain ⟨v, hv, q⟩:=I.sl i _ h; exact ⟨v, hv, q.1⟩
 ·obtain ⟨v, hv, q⟩:=I.sl i _ h; exact ⟨v, hv, q.1⟩
theorem VI.moment {G G1 G3 H H3 : Hp} {σ : St} {F : Nat->Addr->Prop} {v : V} {s : Sl} {Fv : Addr->Prop} (I : VI B G H σ env F) (g1 : Same G G1) (o : Out G1 H v G3 H3 s Fv) : ∃ G2, Same G G2/\VI B G2 H3 σ env F:=by
 refine ⟨fun a => if H a = none then G3 a else G a, fun a u e => ?_, I.grow (fun a u e => ?_) (fun a u e => ?_) o.hh (fun a u e => ?_) fun a ks e => ?_⟩
 ·show (if H a = none then G3 a else G a) = some u; rw [if_neg (by rw [I.gh a u e]; simp)]; exact e
 ·rw [if_neg (by rw [I.gh a u e]; simp)]; exact e
 ·by_cases h : H a = none
  ·rw [if_pos h] at e; exact o.gh a u e
  ·rw [if_neg h] at e; exact o.hh _ _ (I.gh a u e)
 ·by_cases h : H a = none
  ·exact .inr h
  ·rw [if_neg h] at e; exact .inl e
 ·have f1 : FT G1 H:=fun a ks e => g1 _ _ (I.ft a ks e)
  by_cases h : H a = none
  ·rw [if_pos h]; exact o.ft f1 a ks e
  ·rw [if_neg h]
   obtain ⟨u, hu⟩:=some_of_ne h
   have:=o.hh _ _ hu
   rw [e] at this
   exact I.ft a ks (by rw [hu, ← this])
theorem ev_cbB {r : List V->Hp->VK->Prop} {A : Own} {dx : PyData} (hA : Has env i A) (fz : Frz A dx) (h : OpA r [dx] fun s => ∃ d, s = .st d/\scalD d = true/\Q' d env) : Ev B (tCB r (tCons (tVar i) tNil)) env Q':=fun σ G H F Q I k => by
 obtain ⟨v, hv, ap⟩:=I.has hA
 refine ⟨v, hv, h (jn G H (F i)) H [v] Q (jn_gh I.gh) (.cons (fz _ _ _ _ ap (I.fg i) I.gh) .nil) fun w G3 H3 s Fv o ⟨d, es, hs, q3⟩ => ?_⟩
 subst es
 obtain ⟨G4, g4, I4⟩:=I.moment (jn_same (I.fg i)) o
 exact k w G4 H3 F d env I4 g4 (rp_scal o.ok.1 hs) q3
theorem x_sc {d : PyData} {R : PyData->Prop} (h1 : scalD d = true) (h : R d) : ∃ d', Sl.st d = .st d'/\scalD d' = true/\R d':=⟨d, rfl, h1, h⟩
theorem ev_ixO {ds0 : List PyData} (h0 : Has env i (OL ds0)) (h : Ev B tb env fun y e2 => ∃ ds k d, Has e2 i (OL ds)/\y = .int k/\atI ds k = some d/\Q' d e2) : Ev B (tOp (rIxLT K) (tVar i) tb) env Q':=fun σ G H F Q I k => by
 obtain ⟨v, hv, _⟩:=I.has h0
 refine ⟨v, hv, h σ G H F _ I fun u G2 H2 F2 y e2 I2 g2 r2 ⟨ds, j, d, hA, ey, hat, q⟩ => ?_⟩
 subst ey
 cases r2
 obtain ⟨v', hv', a, vs, ea, ha, rs, _⟩:=I2.has hA
 rw [hv] at hv'; cases hv'
 subst ea
 obtain ⟨w, hw, rw'⟩:=rs.at hat
 exact go_ixltL ha hw (k w G2 H2 F2 d e2 I2 g2 rw' q)
theorem ev_lenS {ns : List Int} (e : env[i]? = some (some (.scr ns))) (hK : B.K = K) (q : Q' (.int ns.length) env) : Ev B (tCB (rLen K) (tCons (tVar i) tNil)) env Q':=fun σ G H F Q I k => by
 subst hK
 obtain ⟨v0, hv, ⟨a, ea, sq⟩, _⟩:=I.sl i _ e
 subst ea
 refine ⟨_, hv, go_lenS (I.gh.seq sq) ?_⟩
 rw [List.length_map]
 exact k _ G H F _ env I (Same.refl _) (.int _) q
theorem ev_ixS {ns : List Int} (e : env[i]? = some (some (.scr ns))) (hK : B.K = K) (h : Ev B tb env fun y e2 => ∃ j n, y = .int j/\atI ns j = some n/\Q' (.int n) e2) : Ev B (tOp (rIxLT K) (tVar i) tb) env Q':=fun σ G H F Q I k => by
 subst hK
 obtain ⟨v0, hv, ⟨a, ea, sq⟩, _⟩:=I.sl i _ e
 subst ea
 refine ⟨_, hv, h σ G H F _ I fun u G2 H2 F2 y e2 I2 g2 r2 ⟨j, n, ey, hat, q⟩ => ?_⟩
 subst ey
 cases r2
 refine go_ixltS (I2.gh.seq (g2.seq sq)) (v:=.int n) ?_ (k _ G2 H2 F2 _ e2 I2 g2 (.int _) q)
 unfold atI at hat ⊢
 rw [List.length_map]
 cases e : ixN ns.length j with
 | none => rw [e] at hat; cases hat
 | some l => rw [e] at hat; simp at hat ⊢; exact hat
theorem VI.upd1 {G H : Hp} {σ : St} {F : Nat->Addr->Prop} {s : Sl} {A A' : Own} {a : Addr} {o : HO} (I : VI B G H σ env F) (e : env[i]? = some (some s)) (hs : s = .own A\/s = .io A) (hv : σ[i]? = some (some (.ref a))) (hf : ∀ b, F i b ↔ b = a) (hp : A'.P G (upd H a o) (.ref a) (· = a)) (nt : ∀ xs, o ≠ .tup xs:=by intro _ z; cases z) :
  VI B G (upd H a o) σ (env.set i (some (reS s A'))) (putF F i (· = a)):=by
 refine I.change (A:=A') i e hv (fun b u hb eb => by rw [upd_ne (fun z => hb ((hf b).mpr z))]; exact eb) (fun b u eb => ?_) (fun b z => ⟨.inl ((hf b).mpr z), by rw [z]; exact ⟨_, upd_same⟩⟩) hp (fun b ks e => ?_) ?_
 ·by_cases z : b = a
  ·rw [z]; exact ⟨_, upd_same⟩
  ·rw [upd_ne z]; exact ⟨u, eb⟩
 ·by_cases z : b = a
  ·subst z; rw [upd_same] at e; exact absurd (Option.some.inj e) (nt _)
  ·rw [upd_ne z] at e; exact I.ft b ks e
 ·rcases hs with rfl | rfl
  ·exact .inl ⟨rfl, A, rfl⟩
  ·exact .inr ⟨rfl, A, rfl⟩
theorem ev_append {ds0 : List PyData} (h0 : Has env i (OL ds0)) (h : Ev B te env fun y e2 => ∃ s ds, e2[i]? = some (some s)/\(s = .own (OL ds)\/s = .io (OL ds))/\ds.length<=999999/\Q' .none (e2.set i (some (reS s (OL (ds ++ [y])))))) : Ev B (tBM K "list" rAppend (tVar i) (tCons te tNil)) env Q':=fun σ G H F Q I k => by
 obtain ⟨v, hv, a, vs, ea, ha, rs, _⟩:=I.has h0
 subst ea
 refine ⟨_, hv, .inl ⟨rfl, _, SqL.of ha⟩, h σ G H F _ I fun u G2 H2 F2 y e2 I2 g2 r2 ⟨s, ds, es, hs, hl, q⟩ => ?_⟩
 have hA : Has e2 i (OL ds):=by rcases hs with rfl | rfl; exact .inl es; exact .inr es
 obtain ⟨v', hv', a', vs', ea', ha', rs', hf⟩:=I2.has hA
 rw [hv] at hv'; cases hv'; cases ea'
 refine go_append ha' (by rw [rs'.length]; exact big (by row_cond lo)) ?_
 exact k _ G2 _ _ _ _ (I2.upd1 (A':=OL (ds ++ [y])) es hs hv hf ⟨a, _, rfl, upd_same, rs'.append (.cons r2 .nil), fun b => Iff.rfl⟩) g2 .non q
theorem ev_appendO {ds0 : List PyData} (h0 : Has env i (OL ds0)) (h : Ev B te env fun y e2 => ∃ ds, e2[i]? = some (some (.own (OL ds)))/\ds.length<=999999/\Q' .none (e2.set i (some (.own (OL (ds ++ [y])))))) : Ev B (tBM K "list" rAppend (tVar i) (tCons te tNil)) env Q' :=
 ev_append h0 fun σ G H F Q I k => h σ G H F Q I fun v G' H' F' d e I' g r ⟨ds, h1, h2, q⟩ => k v G' H' F' d e I' g r ⟨_, ds, h1, .inl rfl, h2, q⟩
theorem evg_setO {d : PyData} {ds0 : List PyData} (h0 : Has env i (OL ds0)) (h : Ev B tk env fun y e2 => ∃ s ds k j, y = .int k/\e2[i]? = some (some s)/\(s = .own (OL ds)\/s = .io (OL ds))/\ixN ds.length k = some j/\QE (e2.set i (some (reS s (OL (ds.set j d)))))) : EvG B (gSub (tVar i) tk rSetL) (.st d) env QE:=fun σ G H F v Fv Q I x k => by
 obtain ⟨rv, _⟩:=x.ok
 obtain ⟨v1, hv, a, vs, ea, ha, rs, _⟩:=I.has h0
 subst ea
 refine ⟨_, hv, h σ G H F _ I fun u G2 H2 F2 y e2 I2 g2 r2 ⟨s, ds, n, j, ey, es, hs, hj, q⟩ => ?_⟩
 subst ey
 cases r2
 have hA : Has e2 i (OL ds):=by rcases hs with rfl | rfl; exact .inl es; exact .inr es
 obtain ⟨v', hv', a', vs', ea', ha', rs', hf⟩:=I2.has hA
 rw [hv] at hv'; cases hv'; cases ea'
 refine go_setL ha' (by rw [rs'.length]; exact hj) ?_
 exact k _ G2 _ _ _ (I2.upd1 (A':=OL (ds.set j d)) es hs hv hf ⟨a, _, rfl, upd_same, rs'.set (rv.same g2) j, fun b => Iff.rfl⟩) g2 q
end
end VL
namespace VL
open PySem PySem.Spec L2
noncomputable def tyD : PyData->String
 | .none => "NoneType" | .bool _ => "bool" | .int _ => "int" | .str _ => "str" | .list _ => "list" | .tuple _ => "tuple" | .dict _ => "dict"
def tyKnown (T : String) : Prop:=T = "int"\/T = "bool"\/T = "tuple"\/T = "list"\/T = "str"\/T = "dict"
noncomputable def isiD (T : String) (d : PyData) : Bool:=tyD d == T || (T == "int" && tyD d == "bool")
theorem rp_ty {K : PySem.W.Frag} {H : Hp} {v : V} {d : PyData} (r : Rp H v d) : TyOf K H v (.type (tyD d)):=by
 cases r with
 | non => exact .non
 | bl b => exact .bl b
 | int i => exact .int i
 | str x => exact .str x
 | lst h _ => exact .lst h
 | tup h _ => exact .tup h
 | dk h _ _ => exact .dK h
 | dt h _ _ => exact .dT h
theorem kit_D {K : PySem.W.Frag} {T : String} (h : tyKnown T) (d : PyData) : PySem.W.kitOne K (.type (tyD d)) (.type T) = some (isiD T d):=by
 rcases h with rfl | rfl | rfl | rfl | rfl | rfl
 ·cases d with
  | none => exact kit_NoneType_int
  | bool _ => exact kit_bool_int
  | int _ => exact kit_int_int
  | str _ => exact kit_str_int
  | list _ => exact kit_list_int
  | tuple _ => exact kit_tuple_int
  | dict _ => exact kit_dict_int
 ·cases d with
  | none => exact kit_NoneType_bool
  | bool _ => exact kit_bool_bool
  | int _ => exact kit_int_bool
  | str _ => exact kit_str_bool
  | list _ => exact kit_list_bool
  | tuple _ => exact kit_tuple_bool
  | dict _ => exact kit_dict_bool
 ·cases d with
  | none => exact kit_NoneType_tuple
  | bool _ => exact kit_bool_tuple
  | int _ => exact kit_int_tuple
  | str _ => exact kit_str_tuple
  | list _ => exact kit_list_tuple
  | tuple _ => exact kit_tuple_tuple
  | dict _ => exact kit_dict_tuple
 ·cases d with
  | none => exact kit_NoneType_list
  | bool _ => exact kit_bool_list
  | int _ => exact kit_int_list
  | str _ => exact kit_str_list
  | list _ => exact kit_list_list
  | tuple _ => exact kit_tuple_list
  | dict _ => exact kit_dict_list
 ·cases d with
  | none => exact kit_NoneType_str
  | bool _ => exact kit_bool_str
  | int _ => exact kit_int_str
  | str _ => exact kit_str_str
  | list _ => exact kit_list_str
  | tuple _ => exact kit_tuple_str
  | dict _ => exact kit_dict_str
 ·cases d with
  | none => exact kit_NoneType_dict
  | bool _ => exact kit_bool_dict
  | int _ => exact kit_int_dict
  | str _ => exact kit_str_dict
  | list _ => exact kit_list_dict
  | tuple _ => exact kit_tuple_dict
  | dict _ => exact kit_dict_dict
section
variable {B : Bs} {env : En} {QO : Sl->En->Prop} {Q' : PyData->En->Prop} {QT : Bool->En->Prop} {QE : En->Prop} {te ta tb tk : TE} {K : PySem.W.Frag} {i : Nat}
theorem ev_isi {T : String} (hT : tyKnown T) (h : Ev B te env fun d e => Q' (.bool (isiD T d)) e) : Ev B (tCB (rIsi K) (tCons te (tCons (tC (.ty T)) tNil))) env Q':=fun σ G H F Q I k =>
 h σ G H F _ I fun v G1 H1 F1 d e1 I1 g1 r1 q1 => ⟨v, T, _, _, rfl, rp_ty (r1.same I1.gh), kit_D hT d, k _ G1 H1 F1 _ e1 I1 g1 (.bl _) q1⟩
theorem ty_int : tyKnown "int":=.inl rfl
theorem ty_bool : tyKnown "bool":=.inr (.inl rfl)
theorem ty_tuple : tyKnown "tuple":=.inr (.inr (.inl rfl))
theorem x_len {n m : Nat} {P : Prop} (h : n<=m) (q : P) : n<=m/\P:=⟨h, q⟩
theorem x_appO {ds : List PyData} {e2 : En} {R : List PyData->Prop} (e : e2[i]? = some (some (.own (OL ds)))) (hl : ds.length<=999999) (q : R ds) : ∃ ds, e2[i]? = some (some (.own (OL ds)))/\ds.length<=999999/\R ds:=⟨ds, e, hl, q⟩
theorem x_ixO {ds : List PyData} {d : PyData} {k : Int} {e2 : En} {R : PyData->Prop} (hA : Has e2 i (OL ds)) (h : atI ds k = some d) (q : R d) : ∃ ds k' d, Has e2 i (OL ds)/\PyData.int k = .int k'/\atI ds k' = some d/\R d:=⟨ds, k, d, hA, rfl, h, q⟩
theorem x_ixS {ns : List Int} {n k : Int} {R : Int->Prop} (h : atI ns k = some n) (q : R n) : ∃ j n, PyData.int k = .int j/\atI ns j = some n/\R n:=⟨k, n, rfl, h, q⟩
theorem x_setI {ds : List PyData} {k : Int} {j : Nat} {e2 : En} {R : Sl->List PyData->Nat->Prop} (e : e2[i]? = some (some (.io (OL ds)))) (hj : ixN ds.length k = some j) (q : R (.io (OL ds)) ds j) : ∃ s ds k' j, PyData.int k = .int k'/\e2[i]? = some (some s)/\(s = .own (OL ds)\/s = .io (OL ds))/\ixN ds.length k' = some j/\R s ds j:=⟨_, ds, k, j, rfl, e, .inr rfl, hj, q⟩
theorem x_rt {A : Own} {e2 : En} {R : Own->Prop} (e : e2[0]? = some (some (.io A))) (q : R A) : ∃ A', e2[0]? = some (some (.io A'))/\R A':=⟨A, e, q⟩
theorem x_st {b : Bool} {R : Bool->Prop} (h : R b) : ∃ c, Sl.st (.bool b) = .st (.bool c)/\R c:=⟨b, rfl, h⟩
theorem tru_bl {b : Bool} {R : Bool->Prop} (h : R b) : ∃ k, TruD (.bool b) k/\R k:=⟨b, rfl, h⟩
theorem lenP {f : VP} {n : Nat} {vs : List V} {H : Hp} {Q : VK} {E : XK} (h : spP K f vs H Q E) (hf : ∀ ss Q', f ss Q'->ss.length = n) : vs.length = n:=by
 obtain ⟨G, ss, Q', _, _, ao, q, _⟩:=h
 rw [ao.length]; exact hf ss Q' q
theorem lenI {f : VIo} {n : Nat} {vs : List V} {H : Hp} {Q : VK} {E : XK} (h : spI K f vs H Q E) (hf : ∀ A ss Q', f A ss Q'->ss.length + 1 = n) : vs.length = n:=by
 obtain ⟨v0, vr, G, R, A, ss, F0, Q', rfl, _, _, _, _, _, _, ao, q, _⟩:=h
 rw [List.length_cons, ao.length]; exact hf A ss Q' q
theorem evo_callIo {f : VIo} {t : TA} {E : XK} {A : Own} (h0 : env[i]? = some (some (.io A))) (h : EvA B t env fun ds e1 => e1[i]? = some (some (.io A))/\f A (ds.map Sl.st) fun A' s => QO s (e1.set i (some (.io A')))) : EvO B (tCall (spI K f) [] E (tCons (tVar i) t)) env QO :=
 evo_callI ⟨_, h0⟩ fun σ G H F Q I k => h σ G H F Q I fun vs G' H' F' ds e1 I' g r ⟨h1, q⟩ => k vs G' H' F' ds e1 I' g r ⟨_, A, h1, .inr rfl, q⟩
theorem evo_callIw {f : VIo} {t : TA} {E : XK} {A : Own} (h0 : env[i]? = some (some (.own A))) (h : EvA B t env fun ds e1 => e1[i]? = some (some (.own A))/\f A (ds.map Sl.st) fun A' s => QO s (e1.set i (some (.own A')))) : EvO B (tCall (spI K f) [] E (tCons (tVar i) t)) env QO :=
 evo_callI ⟨_, h0⟩ fun σ G H F Q I k => h σ G H F Q I fun vs G' H' F' ds e1 I' g r ⟨h1, q⟩ => k vs G' H' F' ds e1 I' g r ⟨_, A, h1, .inl rfl, q⟩
theorem ev_callIo {f : VIo} {t : TA} {E : XK} {A : Own} (h0 : env[i]? = some (some (.io A))) (h : EvA B t env fun ds e1 => e1[i]? = some (some (.io A))/\f A (ds.map Sl.st) fun A' s => FQ s fun d => Q' d (e1.set i (some (.io A')))) : Ev B (tCall (spI K f) [] E (tCons (tVar i) t)) env Q':=ev_ofO (evo_callIo h0 h)
theorem ev_callIw {f : VIo} {t : TA} {E : XK} {A : Own} (h0 : env[i]? = some (some (.own A))) (h : EvA B t env fun ds e1 => e1[i]? = some (some (.own A))/\f A (ds.map Sl.st) fun A' s => FQ s fun d => Q' d (e1.set i (some (.own A')))) : Ev B (tCall (spI K f) [] E (tCons (tVar i) t)) env Q':=ev_ofO (evo_callIw h0 h)
theorem x_and {P Q : Prop} (h : P) (q : Q) : P/\Q:=⟨h, q⟩
end
end VL
namespace VL
open PySem L2
section
variable {B : Bs} {QE : En->Prop} {Q' : PyData->En->Prop} {s : Sl} {r : En} {A : Own} {d : PyData} {x0 x1 x2 x3 x4 x5 x6 x7 x8 x9 x10 x11 x12 x13 x14 x15 x16 x17 x18 x19 x20 x21 x22 x23 x24 x25 : Option Sl}
theorem evg_n1 (h : QE (x0 :: some s :: r)) : EvG B (gName 1) s (x0 :: x1 :: r) QE:=evg_name h
theorem evg_n2 (h : QE (x0 :: x1 :: some s :: r)) : EvG B (gName 2) s (x0 :: x1 :: x2 :: r) QE:=evg_name h
theorem evg_n3 (h : QE (x0 :: x1 :: x2 :: some s :: r)) : EvG B (gName 3) s (x0 :: x1 :: x2 :: x3 :: r) QE:=evg_name h
theorem evg_n4 (h : QE (x0 :: x1 :: x2 :: x3 :: some s :: r)) : EvG B (gName 4) s (x0 :: x1 :: x2 :: x3 :: x4 :: r) QE:=evg_name h
theorem evg_n5 (h : QE (x0 :: x1 :: x2 :: x3 :: x4 :: some s :: r)) : EvG B (gName 5) s (x0 :: x1 :: x2 :: x3 :: x4 :: x5 :: r) QE:=evg_name h
theorem evg_n6 (h : QE (x0 :: x1 :: x2 :: x3 :: x4 :: x5 :: some s :: r)) : EvG B (gName 6) s (x0 :: x1 :: x2 :: x3 :: x4 :: x5 :: x6 :: r) QE:=evg_name h
theorem evg_n7 (h : QE (x0 :: x1 :: x2 :: x3 :: x4 :: x5 :: x6 :: some s :: r)) : EvG B (gName 7) s (x0 :: x1 :: x2 :: x3 :: x4 :: x5 :: x6 :: x7 :: r) QE:=evg_name h
theorem evg_n8 (h : QE (x0 :: x1 :: x2 :: x3 :: x4 :: x5 :: x6 :: x7 :: some s :: r)) : EvG B (gName 8) s (x0 :: x1 :: x2 :: x3 :: x4 :: x5 :: x6 :: x7 :: x8 :: r) QE:=evg_name h
end
end VL
namespace Gr
structure Ring (T : Int->Int->Prop) (a : Int) (k : Nat) (far : Int->Option Nat) (edge : List Int) : Prop where
 lab : ∀ v d, far v = some d ↔ (Dist T a v d/\d<=k)
 edg : ∀ v, v ∈ edge ↔ Dist T a v k
structure Mid (T : Int->Int->Prop) (k : Nat) (far0 : Int->Option Nat) (edge : List Int) (done : Int->Prop) (far : Int->Option Nat) (beyond : List Int) : Prop where
 old : ∀ v d, far0 v = some d->far v = some d
 new : ∀ v, v ∈ beyond ↔ (far0 v = none/\far v ≠ none)
 val : ∀ v d, far0 v = none->far v = some d->d = k + 1/\∃ u, u ∈ edge/\T u v
 dn : ∀ u w, done u->T u w->far w ≠ none
noncomputable def label (far : Int->Option Nat) (w : Int) (d : Nat) : Int->Option Nat:=fun v => if v = w then some d else far v
theorem label_same {far : Int->Option Nat} {w : Int} {d : Nat} : label far w d w = some d:=if_pos rfl
theorem label_ne {far : Int->Option Nat} {w v : Int} {d : Nat} (h : v ≠ w) : label far w d v = far v:=if_neg h
variable {T : Int->Int->Prop} {a : Int} {k : Nat} {far0 far : Int->Option Nat} {edge beyond : List Int} {done : Int->Prop}
theorem Ring.start : Ring T a 0 (label (fun _ => none) a 0) [a]:=by
 refine ⟨fun v d => ?_, fun v => ?_⟩
 ·by_cases h : v = a
  ·subst h
   rw [label_same]
   constructor
   ·intro e; cases e; exact ⟨Dist.self T v, Nat.le_refl _⟩
   ·rintro ⟨h, _⟩; rw [h.uniq (Dist.self T v)]
  ·rw [label_ne h]
   constructor
   ·intro e; cases e
   ·rintro ⟨h1, h2⟩
    have : d = 0:=by row_cond lo
    subst this
    cases h1.1
    exact absurd rfl h
 ·simp only [List.mem_singleton]
  constructor
  ·rintro rfl; exact Dist.self T v
  ·intro h; cases h.1; rfl
theorem Mid.start : Mid T k far0 edge (fun _ => False) far0 [] :=
 ⟨fun v d h => h, fun v => ⟨fun h => by simp at h, fun h => absurd h.1 h.2⟩, fun v d h g => (by rw [h] at g; cases g), fun u w h => h.elim⟩
theorem Mid.imp {done' : Int->Prop} (m : Mid T k far0 edge done far beyond) (h : ∀ u, done' u->done u) : Mid T k far0 edge done' far beyond :=
 ⟨m.old, m.new, m.val, fun x w hx t => m.dn x w (h x hx) t⟩
theorem Ring.next (r : Ring T a k far0 edge) (m : Mid T k far0 edge done far beyond) (hd : ∀ u ∈ edge, done u) : Ring T a (k + 1) far beyond:=by
 have key : ∀ v, far0 v = none->far v ≠ none->Dist T a v (k + 1):=fun v h0 h1 => by
  cases e : far v with
  | none => exact absurd e h1
  | some d =>
   obtain ⟨rfl, u, hu, t⟩:=m.val v d h0 e
   obtain ⟨e', he, h⟩:=((r.edg u).mp hu).next t
   by_cases hk : e'<=k
   ·rw [(r.lab v e').mpr ⟨h, hk⟩] at h0; cases h0
   ·have : e' = k + 1:=by row_cond lo
    rw [← this]; exact h
 have back : ∀ v, Dist T a v (k + 1)->far0 v = none/\far v ≠ none:=fun v h => by
  refine ⟨?_, ?_⟩
  ·cases e : far0 v with
   | none => rfl
   | some d =>
    obtain ⟨h1, h2⟩:=(r.lab v d).mp e
    have:=h1.uniq h
    row_cond lo
  ·obtain ⟨u, t, hu⟩:=h.pred
   exact m.dn u v (hd u ((r.edg u).mpr hu)) t
 refine ⟨fun v d => ?_, fun v => ⟨fun h => ?_, fun h => (m.new v).mpr (back v h)⟩⟩
 ·constructor
  ·intro e
   cases e0 : far0 v with
   | some d0 =>
    rw [m.old v d0 e0] at e
    cases e
    obtain ⟨h1, h2⟩:=(r.lab v d).mp e0
    exact ⟨h1, by row_cond lo⟩
   | none =>
    have hk:=(m.val v d e0 e).1
    subst hk
    exact ⟨key v e0 (by rw [e]; simp), Nat.le_refl _⟩
  ·rintro ⟨h, hk⟩
   by_cases hd' : d<=k
   ·exact m.old v d ((r.lab v d).mpr ⟨h, hd'⟩)
   ·have e1 : d = k + 1:=by row_cond lo
    subst e1
    obtain ⟨h0, h1⟩:=back v h
    cases e : far v with
    | none => exact absurd e h1
    | some d => rw [(m.val v d h0 e).1]
 ·obtain ⟨h0, h1⟩:=(m.new v).mp h
  exact key v h0 h1
theorem Walk.app {u v w : Int} {i j : Nat} (h : Walk T u i v) (g : Walk T v j w) : Walk T u (i + j) w:=by
 induction g with
 | refl => exact h
 | step _ t ih => exact .step ih t
theorem Walk.rev (hs : ∀ u v, T u v->T v u) {u v : Int} {i : Nat} (h : Walk T u i v) : Walk T v i u:=by
 induction h with
 | refl => exact .refl
 | @step j x y _ t ih =>
  have:=(Walk.step (T:=T) (u:=y) .refl (hs _ _ t)).app ih
  rw [Nat.add_comm] at this
  exact this
theorem Dist.rev (hs : ∀ u v, T u v->T v u) {u v : Int} {d : Nat} (h : Dist T u v d) : Dist T v u d:=⟨h.1.rev hs, fun k w => h.2 k (w.rev hs)⟩
theorem Dist.lt {n : Nat} (hT : ∀ u v, T u v->0<=v/\v < (n : Int)) (ha : 0<=a/\a < (n : Int)) {v : Int} {d : Nat} (h : Dist T a v d) : d < n:=by
 -- the places of a shortest way are unlike
 have key : ∀ d v, Dist T a v d->∃ l : List Int, l.length = d + 1/\l.Nodup/\∀ x ∈ l, (0<=x/\x < (n : Int))/\∃ j, j<=d/\Dist T a x j:=by
  intro d
  induction d with
  | zero =>
   intro v h
   have : v = a:=by cases h.1; rfl
   subst this
   exact ⟨[v], rfl, by simp, fun x hx => by simp at hx; subst hx; exact ⟨ha, 0, Nat.le_refl _, h⟩⟩
  | succ d ih =>
   intro v h
   obtain ⟨u, t, hu⟩:=h.pred
   obtain ⟨l, h1, h2, h3⟩:=ih u hu
   refine ⟨v :: l, by simp [h1], List.nodup_cons.mpr ⟨fun hm => ?_, h2⟩, fun x hx => ?_⟩
   ·obtain ⟨_, j, hj, hd⟩:=h3 v hm
    have:=hd.uniq h
    row_cond lo
   ·rcases List.mem_cons.mp hx with rfl | hx
    ·exact ⟨hT _ _ t, d + 1, Nat.le_refl _, h⟩
    ·obtain ⟨q, j, hj, hd⟩:=h3 x hx
     exact ⟨q, j, by row_cond lo, hd⟩
 obtain ⟨l, h1, h2, h3⟩:=key d v h
 have few : ∀ (n : Nat) (l : List Int), l.Nodup->(∀ v ∈ l, 0<=v/\v < (n : Int))->l.length<=n:=by
  intro n
  induction n with
  | zero =>
   intro l _ h
   cases l with
   | nil => simp
   | cons v r => have:=h v (by simp); row_cond lo
  | succ n ih =>
   intro l hn h
   have h1:=ih (l.erase (n : Int)) (hn.erase _) fun v hv => by
    have hm:=List.mem_of_mem_erase hv
    have hb:=h v hm
    have hne : v ≠ (n : Int):=by
     rintro rfl
     exact absurd hv (List.Nodup.not_mem_erase hn)
    row_cond lo
   have h2 : l.length<=(l.erase (n : Int)).length + 1:=by
    rw [List.length_erase]
    split <;> row_cond lo
   row_cond lo
 have:=few n l h2 fun x hx => (h3 x hx).1
 row_cond lo
end Gr
namespace VL
open PySem PySem.Spec L2
theorem nodup_ix {α : Type} {xs : List α} (h : xs.Nodup) {i j : Nat} (hi : i < xs.length) (hj : j < xs.length) (e : xs[i] = xs[j]) : i = j:=by
 have p:=List.pairwise_iff_getElem.mp h
 rcases Nat.lt_trichotomy i j with q | q | q
 ·exact absurd e (p i j hi hj q)
 ·exact q
 ·exact absurd e.symm (p j i hj hi q)
section
variable {B : Bs} {env : En} {QO : Sl->En->Prop} {Q' : PyData->En->Prop} {D' : VEnds} {K : PySem.W.Frag} {i : Nat}
noncomputable def exO {α : Type} (f : α->Own) : Own where
 P:=fun G H v F => ∃ x, (f x).P G H v F
 mono:=fun ⟨x, h⟩ g hh => ⟨x, (f x).mono h g hh⟩
 dom:=fun ⟨x, h⟩ => (f x).dom h
theorem VI.weakO {G H : Hp} {σ : St} {F : Nat->Addr->Prop} {A A' : Own} (I : VI B G H σ env F) (e : env[i]? = some (some (.own A))) (h : ∀ G H v F, A.P G H v F->A'.P G H v F) : VI B G H σ (env.set i (some (.own A'))) F:=by
 refine ⟨I.gh, I.g0, I.gn, I.rs, I.rb, I.bh, I.fg, I.fr, I.fd, I.fo, fun j s es => ?_, by simp [I.ln], I.ft⟩
 by_cases hj : j = i
 ·subst hj
  rw [List.getElem?_set, if_pos rfl, if_pos (List.getElem?_eq_some_iff.mp e).1] at es
  cases es
  obtain ⟨v, hv, q⟩:=I.sl j _ e
  exact ⟨v, hv, h _ _ _ _ q.1, q.2⟩
 ·rw [List.getElem?_set, if_neg (fun z => hj z.symm)] at es
  exact I.sl j s es
end
@[reducible] noncomputable def prD (p : Int × Int) : PyData:=.tuple [.int p.1, .int p.2]
def Tied (es : List (Int × Int)) (u v : Int) : Prop:=(u, v) ∈ es\/(v, u) ∈ es
theorem Tied.symm {es : List (Int × Int)} {u v : Int} (h : Tied es u v) : Tied es v u:=h.elim .inr .inl
def TiedL (n : Int) (T : Int->Int->Prop) (tl : List (List Int)) : Prop:=(tl.length : Int) = n/\∀ (i : Nat) ws, tl[i]? = some ws->∀ w, w ∈ ws ↔ T i w
noncomputable def oD : Option Nat->PyData
 | none => .none
 | some d => .int d
noncomputable def lab (n : Nat) (far : Int->Option Nat) : List PyData:=(List.range n).map fun (i : Nat) => oD (far (i : Int))
theorem at_in {α : Type} {xs : List α} {i : Int} {x : α} (h0 : 0<=i) (h : xs[i.toNat]? = some x) : atI xs i = some x:=by
 have:=atI_nat (xs:=xs) (j:=i.toNat) h
 rwa [show ((i.toNat : Nat) : Int) = i by row_cond lo] at this
theorem TiedL.get {n : Int} {T : Int->Int->Prop} {tl : List (List Int)} (h : TiedL n T tl) {v : Int} (h0 : 0<=v) (h1 : v < n) : ∃ ws, tl[v.toNat]? = some ws/\∀ w, w ∈ ws ↔ T v w:=by
 have hl : v.toNat < tl.length:=by have:=h.1; row_cond lo
 refine ⟨tl[v.toNat], List.getElem?_eq_getElem hl, fun w => ?_⟩
 rw [h.2 _ _ (List.getElem?_eq_getElem hl) w, show ((v.toNat : Nat) : Int) = v by row_cond lo]
end VL
namespace VL
open PySem L2
end VL
namespace DI
open PySem PySem.W
def Raw (h : Heap) (d : Addr) (es : Array DictEntry) (ep : Nat) : Prop:=∃ o, h.get? d = some o/\o.ExactDict/\o.data = .dict es ep
theorem Raw.keep {h h' : Heap} {d : Addr} {es : Array DictEntry} {ep : Nat} (r : Raw h d es ep) (k : ∀ o, h.get? d = some o->h'.get? d = some o) : Raw h' d es ep:=let ⟨o, e, x⟩:=r; ⟨o, k o e, x⟩
theorem Raw.ty {s : Shared} {d : Addr} {es : Array DictEntry} {ep : Nat} (r : Raw s.heap d es ep) : s.TypeIs (.ref d) "dict":=let ⟨o, e, x, _⟩:=r; ⟨o, e, x.1⟩
section
variable {prog : Program} {w : World} {A : Around} {E : Value->Shared->Prop} {s : Shared} {d it : Addr} {es : Array DictEntry} {ep i : Nat}
theorem raw_iter {Q : Value->Shared->Prop} (hd : (d == sysModules) = false) (r : Raw s.heap d es ep)
  (hQ : Q (.ref s.heap.objs.size) { s with heap:=s.heap.push { cls:=.type "dict_keyiterator", data:=.fields #[.ref d, .int 0 0, .int es.size 0, .int ep 0] } }) : wpAny (model prog w) A (pyIter (.ref d)) Q E s:=by
 obtain ⟨o, ho, hx, hdat⟩:=id r
 refine wpAny_pyIter_slot r.ty PySem.F.slot_dict_iter (wpAny_call_entry PySem.F.slot_dict_iter r.ty PySem.F.entry_dict_iter ?body (PySem.F.args_dict_iter_1 _))
 case body =>
  unfold Builtin.«dict.__iter__»
  refine wpAny_bind ?slot
  case slot =>
   unfold Builtin.Dict.dictSlotNone
   refine wpAny_bind (wpAny_notOrdered_dict r.ty ?pl)
   case pl =>
    show wpAny _ _ (pure (Value.ref d)) _ _ s
    refine wpAny_pure ?rest
    case rest =>
     show wpAny _ _ (Builtin.Dict.showsAll d >>= _) _ _ s
     unfold Builtin.Dict.showsAll
     rw [if_neg (by rw [hd]; exact Bool.false_ne_true)]
     refine wpAny_bind (wpAny_pure (wpAny_bind (wpAny_dictEntries ho hdat (wpAny_bind (wpAny_dictEpoch ho hdat (wpAny_bind (wpAny_newObj_type (wpAny_pure ⟨_, rfl, "dict_keyiterator", _, ⟨_, Heap.get?_push_size _ rfl, rfl⟩, PySem.F.slot_dict_keyiterator_next.lookup, ?fin⟩))))))))
     case fin => simpa [rawInt] using hQ
theorem raw_item {Q : Option Value->Shared->Prop} (hit : s.heap.IsKeyIter it d i es.size ep) (r : Raw s.heap d es ep) (hi : i < es.size)
  (hQ : ∀ h', h'.IsKeyIter it d (i + 1) es.size ep->Heap.SameBut it s.heap h'->Q (some es[i].key) { s with heap:=h' }) : wpAny (model prog w) A (pyNext (.ref it)) Q E s:=by
 obtain ⟨o, ho, hc, hd⟩:=id hit
 obtain ⟨od, hod, hcd, hdd⟩:=r
 unfold pyNext
 refine wpAny_bind (wpAny_attempt (wpAny_callSpecial?_slot (name:=Str.ofString "__next__") hit.typeIs PySem.F.slot_dict_keyiterator_next (wpAny_call_entry PySem.F.slot_dict_keyiterator_next hit.typeIs PySem.F.entry_dict_keyiterator_next ?b (PySem.F.args_dict_keyiterator_next_1 _))))
 case b =>
  refine wpAny_bind (wpAny_pure (wpAny_bind (wpAny_bind ?c)))
  case c =>
   first | refine wpAny_bind (wpAny_typeNameOfWhole_keyiter hit.typeIs (wpAny_pure (wpAny_bind (wpAny_fieldsOf ho hd ?e)))) | refine wpAny_bind (wpAny_typeNameOf_keyiter hit.typeIs (wpAny_pure (wpAny_bind (wpAny_fieldsOf ho hd ?e))))
   case e =>
    simp only [show Builtin.Dict_items.ownsTuple "dict_keyiterator" = false by decide, Bool.false_eq_true, if_false]
    show wpAny _ _ (if (Value.ref d == Value.none) = true then _ else _) _ _ s; rw [if_neg (show ¬ ((Value.ref d == Value.none) = true) from Bool.false_ne_true)]
    refine wpAny_bind (wpAny_pure (wpAny_bind (wpAny_dictEntries hod hdd ?f)))
    case f =>
     rw [if_neg (by simp)]; refine wpAny_bind (wpAny_pure (wpAny_bind (wpAny_dictEpoch hod hdd ?g)))
     case g =>
      rw [if_neg (by simp)]; refine wpAny_pure ?h
      case h =>
       simp only [show ¬ ((i : Int) < 0) by row_cond lo, if_false, Int.toNat_natCast, Array.getElem?_eq_getElem hi]; refine wpAny_bind ?j
       case j =>
        first | refine wpAny_bind (wpAny_typeNameOfWhole_keyiter hit.typeIs (wpAny_pure (wpAny_bind (wpAny_isOneOf_keyiter hit.typeIs ?k)))) | refine wpAny_bind (wpAny_typeNameOf_keyiter hit.typeIs (wpAny_pure (wpAny_bind (wpAny_isOneOf_keyiter hit.typeIs ?k))))
        case k =>
         show wpAny _ _ (setField (.ref it) 1 (rawInt ((i : Int) + 1)) >>= _) _ _ s; refine wpAny_bind (wpAny_setField ho hd (by simp) ?l)
         case l =>
          have nx : (s.heap.update it (Obj.mapFields (·.setIfInBounds 1 (rawInt ((i : Int) + 1))))).IsKeyIter it d (i + 1) es.size ep:=⟨_, Heap.get?_update_self _ ho (Obj.isFreed_of_fields (Obj.data_mapFields hd _)), (Obj.cls_mapFields ..).trans hc, by rw [Obj.data_mapFields hd]; simp [rawInt]⟩
          refine wpAny_bind (wpAny_holding (wpAny_bind (wpAny_isOneOf_keyiter (s:={ s with heap:=s.heap.update it (Obj.mapFields (·.setIfInBounds 1 (rawInt ((i : Int) + 1)))) }) nx.typeIs ?m)))
          case m => show wpAny _ _ (pure es[i].key) _ _ _; exact wpAny_pure (wpAny_pure ⟨_, rfl, wpAny_pure (hQ _ nx (Heap.SameBut.update ..))⟩)
theorem raw_end {Q : Option Value->Shared->Prop} (hh : A.handled = none) (hit : s.heap.IsKeyIter it d es.size es.size ep) (r : Raw s.heap d es ep) (hQ : ∀ h', Heap.ExtBut it s.heap h'->Q none { s with heap:=h' }) : wpAny (model prog w) A (pyNext (.ref it)) Q E s:=by
 obtain ⟨o, ho, hc, hd⟩:=id hit
 obtain ⟨od, hod, hcd, hdd⟩:=r
 unfold pyNext
 refine wpAny_bind (wpAny_attempt (wpAny_callSpecial?_slot (name:=Str.ofString "__next__") hit.typeIs PySem.F.slot_dict_keyiterator_next (wpAny_call_entry PySem.F.slot_dict_keyiterator_next hit.typeIs PySem.F.entry_dict_keyiterator_next ?b (PySem.F.args_dict_keyiterator_next_1 _))))
 case b =>
  refine wpAny_bind (wpAny_pure (wpAny_bind (wpAny_bind ?c)))
  case c =>
   first | refine wpAny_bind (wpAny_typeNameOfWhole_keyiter hit.typeIs (wpAny_pure (wpAny_bind (wpAny_fieldsOf ho hd ?e)))) | refine wpAny_bind (wpAny_typeNameOf_keyiter hit.typeIs (wpAny_pure (wpAny_bind (wpAny_fieldsOf ho hd ?e))))
   case e =>
    simp only [show Builtin.Dict_items.ownsTuple "dict_keyiterator" = false by decide, Bool.false_eq_true, if_false]
    show wpAny _ _ (if (Value.ref d == Value.none) = true then _ else _) _ _ s; rw [if_neg (show ¬ ((Value.ref d == Value.none) = true) from Bool.false_ne_true)]
    refine wpAny_bind (wpAny_pure (wpAny_bind (wpAny_dictEntries hod hdd ?f)))
    case f =>
     rw [if_neg (by simp)]; refine wpAny_bind (wpAny_pure (wpAny_bind (wpAny_dictEpoch hod hdd ?g)))
     case g =>
      rw [if_neg (by simp)]; refine wpAny_pure ?h
      case h =>
       simp only [show ¬ ((es.size : Int) < 0) by row_cond lo, if_false, Int.toNat_natCast, Array.getElem?_eq_none (Nat.le_refl es.size)]; refine wpAny_bind ?j
       case j =>
        first | refine wpAny_bind (wpAny_typeNameOfWhole_keyiter hit.typeIs (wpAny_pure ?k)) | refine wpAny_bind (wpAny_typeNameOf_keyiter hit.typeIs (wpAny_pure ?k))
        case k =>
         show wpAny _ _ (setField (.ref it) 0 .none >>= _) _ _ s; refine wpAny_bind (wpAny_setField ho hd (by simp) ?l)
         case l =>
          show wpAny _ _ (newExc (.type "StopIteration") [] >>= _) _ _ _; refine wpAny_bind ?m
          case m =>
           simp only [newExc, newTuple]; refine wpAny_bind (wpAny_newObj_type ?zz2 (by size_fits))
           case zz2 =>
            refine wpAny_bind (m:=firstArgMember _ _) (wpAny_of_eq (a:=Value.none) (by first | rfl | (simp only [firstArgMember]; rfl)) (wpAny_newObj_type ?zz1 (by size_fits)))
            case zz1 =>
             simp only [raiseNew]; refine wpAny_bind (wpAny_handled ?q)
             case q =>
              rw [show A.in1.handled = none from hh]; refine wpAny_bind (wpAny_pure (wpAny_throw ?u1))
              case u1 => refine wpAny_bind (wpAny_isInstance (T:="StopIteration") (b:=true) ⟨_, Heap.get?_push_size _ rfl, rfl⟩ isSubtype_stop ?u2); exact wpAny_pure (hQ _ (((Heap.SameBut.update ..).extBut.push _).push _))
end
theorem walks {prog : Program} {w : World} {A : Around} (hh : A.handled = none) (I d : Addr) (hne : d ≠ I) (es : Array DictEntry) (ep : Nat) :
  Walks prog w A I [I, d] [I] es.size (fun i v => (es[i]?).map (·.key) = some v) (fun i h => h.IsKeyIter I d i es.size ep/\Raw h d es ep) where
 sub:=fun b hb => by simp at hb; simp [hb]
 frame:=fun _ _ _ st hk => ⟨st.1.at fun o e => hk I (by simp) o e, st.2.keep fun o e => hk d (by simp) o e⟩
 item:=fun i s Q E hi st hQ => raw_item st.1 st.2 hi fun h' nx sb => hQ _ h' s.toks (by rw [Array.getElem?_eq_getElem hi]; rfl) ⟨nx, st.2.keep fun o e => sb.extBut d o hne e⟩ fun b o hb e => sb.extBut b o (fun z => hb (by simp [z])) e
 done:=fun s Q E st hQ => raw_end hh st.1 st.2 fun h' eb => hQ h' s.toks fun b o hb e => eb b o (fun z => hb (by simp [z])) e
 self:=fun _ _ _ _ st hQ => wpAny_pyIter_keyiter st.1 hQ
end DI
namespace DI
open PySem PySem.W PyProof.Rows
section
variable {prog : Program} {w : World} {A : Around} {E : Value->Shared->Prop} {s : Shared}
theorem src (d : Addr) (es : Array DictEntry) (ep : Nat) (hd : (d == sysModules) = false) : KdlSrc prog w "dict" d d es.size (fun i v => (es[i]?).map (·.key) = some v) (fun h => Raw h d es ep) where
 type:=fun s r => r.ty
 there:=fun h r => let ⟨o, e, _⟩:=r; ⟨Heap.lt_size e, Heap.lt_size e⟩
 keep:=fun h h' r k => r.keep fun o e => k d (.inl rfl) o e
 notList:=by decide
 notTuple:=by decide
 hint:=fun A E s Q r q => kdl_hint_dict r.ty q
 iter:=fun A s hh r => ⟨{ cls:=.type "dict_keyiterator", data:=.fields #[.ref d, .int 0 0, .int es.size 0, .int ep 0] }, fun i h => h.IsKeyIter s.heap.objs.size d i es.size ep/\Raw h d es ep, fun E Q q => raw_iter hd r q,
  walks hh s.heap.objs.size d (by obtain ⟨o, e, _⟩:=r; exact Nat.ne_of_lt (Heap.lt_size e)) es ep, ⟨_, Heap.get?_push_size _ rfl, rfl, rfl⟩, r.keep fun o e => Heap.get?_push_of_some _ e⟩
end
end DI
namespace TS
open PySem PySem.W PyProof.Rows
section
variable {prog : Program} {w : World} {A : Around} {E : Value->Shared->Prop} {s : Shared}
end
end TS
namespace L2
open PySem PySem.Spec PyProof.Rows
section
variable {X : Cx} {pins : List (Addr × Obj)} {σ : St} {H : Hp} {s : Shared} {h' : Heap}
end
section
variable {X : Cx} {elts : List Expr} {k : Nat} {tpos : Pos}
end
section
variable {X : Cx} {elts : List Expr} {k : Nat} {tpos : Pos}
end
end L2
namespace L2
open PySem PySem.Spec PyProof.Rows
section
variable {X : Cx}
end
end L2
namespace L2
open PySem PySem.Spec PyProof.Rows
section
variable {X : Cx} {pins : List (Addr × Obj)} {σ : St} {H : Hp} {s : Shared}
end
theorem KT.get {H : Hp} : ∀ {kvs : List (List Key × V)} {xs : List (List Key × Addr × Value)} {i : Nat} {p : List Key × V}, KT H kvs xs->kvs[i]? = some p->∃ q, xs[i]? = some q/\p.1 = q.1/\H q.2.1 = some (.tup (p.1.map kV))
 | _, _, _, _, .nil, e => by simp at e
 | _, _, 0, _, .cons r _, e => by simp at e; subst e; exact ⟨_, rfl, r.1, r.2.1⟩
 | _, _, i + 1, p, .cons _ t, e => by
  obtain ⟨q, h1, h2⟩:=KT.get (i:=i) (p:=p) t (by simpa using e)
  exact ⟨q, by simpa using h1, h2⟩
section
variable {X : Cx} {tg : Expr}
end
end L2
namespace VL
open PySem PySem.Spec L2
section
variable {B : Bs} {env : En} {QI : List PyData->En->Prop} {QO : Sl->En->Prop} {Q' : PyData->En->Prop} {K : PySem.W.Frag} {i : Nat} {ta : TA}
theorem RpT.len {G : Hp} : ∀ {kvs : List (List Key × V)} {es : List (List Key × PyData)}, RpT G kvs es->kvs.length = es.length/\kvs.map (·.1) = es.map (·.1)
 | _, _, .nil => ⟨rfl, rfl⟩
 | _, _, .cons _ t => by
  obtain ⟨h1, h2⟩:=RpT.len t
  exact ⟨by simp [h1], by simp [h2]⟩
end
section
variable {B : Bs} {env : En} {QO : Sl->En->Prop} {Q' : PyData->En->Prop} {K : PySem.W.Frag} {i : Nat} {ta : TA} {R : Sl->Prop}
end
section
variable {κ : Type} [DecidableEq κ] {α : Type}
noncomputable def valD (es : List (κ × α)) (k : κ) : Option α:=(es.find? fun e => decide (e.1 = k)).map (·.2)
end
theorem RpK.val {G : Hp} {k : Key} : ∀ {kvs : List (Key × V)} {es : List (Key × PyData)}, RpK G kvs es->(valD es k = none->valV kvs k = none)/\∀ d, valD es k = some d->∃ v, valV kvs k = some v/\Rp G v d
 | _, _, .nil => ⟨fun _ => rfl, fun d h => by cases h⟩
 | _, _, .cons (k:=k') r t => by
  obtain ⟨i1, i2⟩:=RpK.val (k:=k) t
  by_cases e : k' = k
  ·refine ⟨fun h => by simp [valD, e] at h, fun d h => ?_⟩
   simp [valD, e] at h
   subst h
   exact ⟨_, by simp [valV, e], r⟩
  ·refine ⟨fun h => ?_, fun d h => ?_⟩
   ·simp [valV, e]; simp [valD, e] at h
    have:=i1 (by simp [valD]; exact h)
    simpa [valV] using this
   ·obtain ⟨v, h1, h2⟩:=i2 d (by simpa [valD, e] using h)
    exact ⟨v, by simpa [valV, e] using h1, h2⟩
theorem RpK.any {G : Hp} {k : Key} : ∀ {kvs : List (Key × V)} {es : List (Key × PyData)}, RpK G kvs es->(kvs.any fun e => decide (e.1 = k)) = es.any fun e => decide (e.1 = k)
 | _, _, .nil => rfl
 | _, _, .cons r t => by simp [RpK.any t]
theorem RpK.map {G : Hp} {k : Key} {v : V} {d : PyData} (h : Rp G v d) : ∀ {kvs : List (Key × V)} {es : List (Key × PyData)}, RpK G kvs es->RpK G (kvs.map fun e => if e.1 = k then (e.1, v) else e) (es.map fun e => if e.1 = k then (e.1, d) else e)
 | _, _, .nil => .nil
 | _, _, .cons (k:=k') r t => by
  by_cases e : k' = k
  ·simp only [List.map_cons, e, if_true]; exact .cons h (RpK.map h t)
  ·simp only [List.map_cons, e, if_false]; exact .cons r (RpK.map h t)
theorem RpK.append {G : Hp} : ∀ {a b : List (Key × V)} {c d : List (Key × PyData)}, RpK G a c->RpK G b d->RpK G (a ++ b) (c ++ d)
 | _, _, _, _, .nil, s => s
 | _, _, _, _, .cons r t, s => .cons r (RpK.append t s)
theorem RpT.any {G : Hp} {k : List Key} : ∀ {kvs : List (List Key × V)} {es : List (List Key × PyData)}, RpT G kvs es->(kvs.any fun e => decide (e.1 = k)) = es.any fun e => decide (e.1 = k)
 | _, _, .nil => rfl
 | _, _, .cons r t => by simp [RpT.any t]
theorem RpT.map {G : Hp} {k : List Key} {v : V} {d : PyData} (h : Rp G v d) : ∀ {kvs : List (List Key × V)} {es : List (List Key × PyData)}, RpT G kvs es->RpT G (kvs.map fun e => if e.1 = k then (e.1, v) else e) (es.map fun e => if e.1 = k then (e.1, d) else e)
 | _, _, .nil => .nil
 | _, _, .cons (k:=k') r t => by
  by_cases e : k' = k
  ·simp only [List.map_cons, e, if_true]; exact .cons h (RpT.map h t)
  ·simp only [List.map_cons, e, if_false]; exact .cons r (RpT.map h t)
theorem RpT.append {G : Hp} : ∀ {a b : List (List Key × V)} {c d : List (List Key × PyData)}, RpT G a c->RpT G b d->RpT G (a ++ b) (c ++ d)
 | _, _, _, _, .nil, s => s
 | _, _, _, _, .cons r t, s => .cons r (RpT.append t s)
theorem RpK.length {G : Hp} : ∀ {kvs : List (Key × V)} {es : List (Key × PyData)}, RpK G kvs es->kvs.length = es.length
 | _, _, .nil => rfl
 | _, _, .cons _ t => by simp [RpK.length t]
section
variable {B : Bs} {env : En} {QO : Sl->En->Prop} {Q' : PyData->En->Prop} {D' : VEnds} {i : Nat} {te ty tv td : TE}
theorem evo_dnewK (q : QO (.own (OD [])) env) : EvO B tDNewK env QO:=fun σ G H F Q I k p hp => by
 have o:=Out.newD (ds:=[]) I.gh hp .nil
 exact k _ _ _ F _ _ env (I.out o).1 o.gg (I.out o).2 q
end
end VL
namespace VL
open PySem PySem.Spec L2
section
variable {B : Bs} {env : En} {QO : Sl->En->Prop} {Q' : PyData->En->Prop} {QE : En->Prop} {D' : VEnds} {K : PySem.W.Frag} {i : Nat} {ta : TA}
theorem evg_lst {n : Nat} {gs : TGs} {ds : List PyData} (hl : ds.length = n) (h : EvGs B gs ds env QE) : EvG B (gLst K n gs) (.st (.list ds)) env QE:=fun σ G H F v Fv Q I x k => by
 obtain ⟨r, _⟩:=x.ok
 cases r with
 | lst ha rs => exact ⟨_, _, rfl, SqL.of (I.gh _ _ ha), by rw [rs.length, hl], h σ G H F _ Q I rs k⟩
theorem evo_sortI (h : EvA B ta env fun ds e => ∃ ns : List Int, ds = [.list (ns.map .int)]/\ns.length < 64/\∀ ns' : List Int, ns'.Perm ns->ns'.Pairwise (·<=·)->QO (.own (OL (ns'.map .int))) e) : EvO B (tCB (rSortI K) ta) env QO:=fun σ G H F Q I k =>
 h σ G H F _ I fun vs G1 H1 F1 ds e1 I1 g1 r1 z_ => by
  obtain ⟨ns, ed, hl, q1⟩:=z_
  subst ed
  cases r1 with
  | cons r t =>
   cases t
   cases r with
   | @lst a us _ ha rs =>
    have:=Rps.ints_inv rs
    subst this
    refine ⟨a, ns, rfl, SqL.of (I1.gh _ _ ha), hl, fun ns' p hp hs hf => ?_⟩
    have o:=Out.newL I1.gh hf (Rps.ints ns')
    exact k _ _ _ F1 _ _ e1 (I1.out o).1 (g1.trans o.gg) (I1.out o).2 (q1 _ hp hs)
end
def ltP (p q : Int × Int) : Prop:=p.1 < q.1\/(p.1 = q.1/\p.2 < q.2)
@[reducible] noncomputable def p2 (p : Int × Int) : List Int:=[p.1, p.2]
def Rise (es : List (Int × Int)) : Prop:=es.Pairwise ltP
theorem ltP_irr (p : Int × Int) : ¬ ltP p p:=by unfold ltP; row_cond lo
theorem ltP_tr {p q r : Int × Int} (h : ltP p q) (g : ltP q r) : ltP p r:=by unfold ltP at *; row_cond lo
theorem Rise.nodup {es : List (Int × Int)} (h : Rise es) : es.Nodup:=h.imp fun {p q} z (e : p = q) => ltP_irr q (by rw [e] at z; exact z)
theorem Rise.eq : ∀ {as bs : List (Int × Int)}, Rise as->Rise bs->(∀ p, p ∈ as ↔ p ∈ bs)->as = bs
 | [], [], _, _, _ => rfl
 | [], b :: _, _, _, h => by have:=(h b).mpr List.mem_cons_self; simp at this
 | a :: _, [], _, _, h => by have:=(h a).mp List.mem_cons_self; simp at this
 | a :: as, b :: bs, ha, hb, h => by
  obtain ⟨ha1, ha2⟩:=List.pairwise_cons.mp ha
  obtain ⟨hb1, hb2⟩:=List.pairwise_cons.mp hb
  have e : a = b:=by
   rcases List.mem_cons.mp ((h a).mp List.mem_cons_self) with e | e
   ·exact e
   ·rcases List.mem_cons.mp ((h b).mpr List.mem_cons_self) with e2 | e2
    ·exact e2.symm
    ·exact absurd (ltP_tr (ha1 b e2) (hb1 a e)) (ltP_irr a)
  subst e
  have:=Rise.eq ha2 hb2 fun p => by
   have hp:=h p
   simp only [List.mem_cons] at hp
   constructor
   ·intro m
    rcases hp.mp (.inr m) with e | e
    ·subst e; exact absurd (ha1 p m) (ltP_irr p)
    ·exact e
   ·intro m
    rcases hp.mpr (.inr m) with e | e
    ·subst e; exact absurd (hb1 p m) (ltP_irr p)
    ·exact e
  rw [this]
structure WebOk (n : Int) (es : List (Int × Int)) : Prop where
 lo : 1<=n
 hi : n<=60
 inn : ∀ p ∈ es, 0<=p.1/\p.1 < p.2/\p.2 < n
 rise : Rise es
theorem few_pairs {n : Nat} {es : List (Int × Int)} (hn : es.Nodup) (hi : ∀ p ∈ es, 0<=p.1/\p.1 < (n : Int)/\0<=p.2/\p.2 < (n : Int)) : es.length<=n * n:=by
 have h1 : (es.map fun (p : Int × Int) => p.1 * (n : Int) + p.2).Nodup:=by
  unfold List.Nodup
  rw [List.pairwise_map]
  refine List.Pairwise.imp_of_mem ?_ hn
  intro p q hp hq hne e
  have a:=hi p hp
  have b:=hi q hq
  apply hne
  have e1 : p.1 = q.1:=by
   rcases Int.lt_trichotomy p.1 q.1 with z | z | z
   ·have : (p.1 + 1) * n<=q.1 * n:=Int.mul_le_mul_of_nonneg_right (by row_cond lo) (by row_cond lo)
    rw [Int.add_mul] at this; row_cond lo
   ·exact z
   ·have : (q.1 + 1) * n<=p.1 * n:=Int.mul_le_mul_of_nonneg_right (by row_cond lo) (by row_cond lo)
    rw [Int.add_mul] at this; row_cond lo
  rw [e1] at e
  exact Prod.ext e1 (by row_cond lo)
 have:=L2.few_places (n * n) _ h1 fun v hv => by
  obtain ⟨p, hp, rfl⟩:=List.mem_map.mp hv
  have a:=hi p hp
  have h2 : 0<=p.1 * (n : Int):=Int.mul_nonneg a.1 (by row_cond lo)
  have h3 : (p.1 + 1) * (n : Int)<=n * n:=Int.mul_le_mul_of_nonneg_right (by row_cond lo) (by row_cond lo)
  rw [Int.add_mul] at h3
  push_cast
  row_cond lo
 simpa using this
theorem WebOk.len {n : Int} {es : List (Int × Int)} (h : WebOk n es) : es.length<=3600:=by
 have:=few_pairs (n:=n.toNat) h.rise.nodup fun p hp => by have:=h.inn p hp; have:=h.lo; row_cond lo
 have h2 : n.toNat<=60:=by have:=h.hi; row_cond lo
 exact Nat.le_trans this (Nat.mul_le_mul h2 h2)
noncomputable def kE (ps : List (Int × Int)) : List (List Key × PyData):=ps.map fun p => ([Sum.inl p.1, Sum.inl p.2], .bool true)
section
variable {B : Bs} {env : En} {QO : Sl->En->Prop} {K : PySem.W.Frag} {i : Nat} {ta : TA}
end
end VL
namespace VL
open PySem PySem.Spec L2
section
variable {B : Bs} {env : En} {QO : Sl->En->Prop} {Q' : PyData->En->Prop} {K : PySem.W.Frag} {i j : Nat} {ta te : TE}
end
section
variable {B : Bs} {env : En} {Q' : PyData->En->Prop} {D' : VEnds} {i : Nat} {ty tv : TE}
end
section
variable {R : Sl->Prop} {K : PySem.W.Frag}
end
end VL
namespace VL
end VL
namespace VL
open PySem PySem.Spec L2
section
variable {B : Bs} {env : En} {Q' : PyData->En->Prop} {K : PySem.W.Frag} {E : XK} {i : Nat}
end
end VL
namespace VL
open PySem L2
theorem g_EvS {B : Bs} {t : TS} {D' : VEnds} {e : En} (h : EvS B t D' e) : EvS B t D' e:=h
theorem g_EvG {B : Bs} {g : TG} {s : Sl} {e : En} {Q : En->Prop} (h : EvG B g s e Q) : EvG B g s e Q:=h
theorem g_EvGs {B : Bs} {g : TGs} {s : List PyData} {e : En} {Q : En->Prop} (h : EvGs B g s e Q) : EvGs B g s e Q:=h
theorem g_Ev {B : Bs} {t : TE} {e : En} {Q : PyData->En->Prop} (h : Ev B t e Q) : Ev B t e Q:=h
theorem g_EvO {B : Bs} {t : TE} {e : En} {Q : Sl->En->Prop} (h : EvO B t e Q) : EvO B t e Q:=h
theorem g_EvT {B : Bs} {t : TT} {e : En} {Q : Bool->En->Prop} (h : EvT B t e Q) : EvT B t e Q:=h
theorem g_EvA {B : Bs} {t : TA} {e : En} {Q : List PyData->En->Prop} (h : EvA B t e Q) : EvA B t e Q:=h
theorem g_EvI {B : Bs} {t : TI} {e : En} {Q : List PyData->En->Prop} (h : EvI B t e Q) : EvI B t e Q:=h
theorem g_Op2 {r : R2} {x y : PyData} {R : Sl->Prop} (h : Op2 r x y R) : Op2 r x y R:=h
theorem g_Op1 {r : V->Hp->VK->Prop} {x : PyData} {R : Sl->Prop} (h : Op1 r x R) : Op1 r x R:=h
theorem g_OpA {r : List V->Hp->VK->Prop} {x : List PyData} {R : Sl->Prop} (h : OpA r x R) : OpA r x R:=h
theorem g_FQ {s : Sl} {R : PyData->Prop} (h : FQ s R) : FQ s R:=h
theorem g_RngA1 {ds : List PyData} {R : List PyData->Prop} (h : RngA1 ds R) : RngA1 ds R:=h
end VL
namespace VL
open PySem L2
structure PsOk (n : Int) (ps : List (Int × Int)) : Prop where
 nd : ps.Nodup
 inn : ∀ p ∈ ps, 0<=p.1/\p.1 < p.2/\p.2 < n
theorem PsOk.nil (n : Int) : PsOk n []:=⟨List.nodup_nil, fun p hp => by simp at hp⟩
theorem PsOk.len {n : Int} {ps : List (Int × Int)} (h : PsOk n ps) (hn : n<=100) : ps.length<=10000:=by
 by_cases h0 : 0<=n
 ·have:=few_pairs (n:=n.toNat) h.nd fun p hp => by have:=h.inn p hp; row_cond lo
  have h2 : n.toNat<=100:=by row_cond lo
  exact Nat.le_trans this (Nat.mul_le_mul h2 h2)
 ·cases ps with
  | nil => simp
  | cons p r => have:=h.inn p List.mem_cons_self; row_cond lo
def Conn (n : Int) (T : Int->Int->Prop) : Prop:=∀ u v, 0<=u->u < n->0<=v->v < n->∃ k, Gr.Walk T u k v
theorem Conn.mono {n : Int} {T T' : Int->Int->Prop} (h : Conn n T) (g : ∀ u v, T u v->T' u v) : Conn n T':=fun u v u0 u1 v0 v1 => by
 obtain ⟨k, w⟩:=h u v u0 u1 v0 v1
 exact ⟨k, w.rec .refl fun _ t ih => .step ih (g _ _ t)⟩
def Order (n : Int) (row : List Int) : Prop:=row.Perm ((List.range n.toNat).map fun (i : Nat) => (i : Int))
theorem Order.len {n : Int} {row : List Int} (h : Order n row) : row.length = n.toNat:=by have:=h.length_eq; simpa using this
theorem Order.nodup {n : Int} {row : List Int} (h : Order n row) : row.Nodup:=by
 refine h.nodup_iff.mpr ?_
 unfold List.Nodup
 rw [List.pairwise_map]
 exact List.nodup_range.imp fun {a b} hab e => hab (by row_cond lo)
theorem Order.mem {n : Int} {row : List Int} (h : Order n row) {v : Int} : v ∈ row ↔ 0<=v/\v < n:=by
 rw [h.mem_iff, List.mem_map]
 constructor
 ·rintro ⟨i, hi, rfl⟩
  have:=List.mem_range.mp hi
  row_cond lo
 ·rintro ⟨h0, h1⟩
  exact ⟨v.toNat, List.mem_range.mpr (by row_cond lo), by row_cond lo⟩
theorem Order.get {n : Int} {row : List Int} (h : Order n row) {a : Int} (h0 : 0<=a) (h1 : a < n) : ∃ x, row[a.toNat]? = some x/\atI row a = some x/\0<=x/\x < n:=by
 have hl : a.toNat < row.length:=by rw [h.len]; row_cond lo
 have e : row[a.toNat]? = some row[a.toNat]:=List.getElem?_eq_getElem hl
 have:=h.mem.mp (List.mem_of_getElem? e)
 exact ⟨_, e, at_in h0 e, this.1, this.2⟩
theorem Order.inj {n : Int} {row : List Int} (h : Order n row) {a b x : Int} (a0 : 0<=a) (b0 : 0<=b) (ha : row[a.toNat]? = some x) (hb : row[b.toNat]? = some x) : a = b:=by
 obtain ⟨l1, e1⟩:=List.getElem?_eq_some_iff.mp ha
 obtain ⟨l2, e2⟩:=List.getElem?_eq_some_iff.mp hb
 have:=nodup_ix h.nodup l1 l2 (e1.trans e2.symm)
 row_cond lo
noncomputable def rowAt (row : List Int) (a : Int) : Int:=row.getD a.toNat 0
theorem Order.at {n : Int} {row : List Int} (h : Order n row) {a : Int} (h0 : 0<=a) (h1 : a < n) : row[a.toNat]? = some (rowAt row a)/\0<=rowAt row a/\rowAt row a < n:=by
 obtain ⟨x, e, _, x0, x1⟩:=h.get h0 h1
 have : rowAt row a = x:=by unfold rowAt; rw [List.getD_eq_getElem?_getD, e]; rfl
 rw [this]; exact ⟨e, x0, x1⟩
theorem Tied.perm {qs ps : List (Int × Int)} (h : qs.Perm ps) {u v : Int} : Tied qs u v ↔ Tied ps u v:=by unfold Tied; rw [h.mem_iff, h.mem_iff]
section
variable {B : Bs} {env : En} {g : TG} {tif : TT} {te : TE} {K : PySem.W.Frag} {src : List (Option Nat)} {ds : List PyData} {e1 : En} {R : List PyData->En->Prop}
end
theorem evg_frz {B : Bs} {g : TG} {A : Own} {d : PyData} {env : En} {QE : En->Prop} (f : Frz A d) (h : EvG B g (.st d) env QE) : EvG B g (.own A) env QE:=fun σ G H F v Fv Q I x k =>
 h σ _ H F v _ Q (I.freeze x.fb x.fd x.fg) (rsx_st (f G H v Fv x.ok x.fg I.gh)) fun σ' G' H' F' e' I' g' q => k σ' G' H' F' e' I' ((jn_same x.fg).trans g') q
end VL
namespace VL
open PySem PySem.Spec L2
def Sls (K : PySem.W.Frag) (G : Hp) (σ : St) (e : En) : Prop:=∀ (j : Nat) (s : Sl), e[j]? = some (some s)->∃ v, σ[j]? = some (some v)/\((∃ d, s = .st d/\Rp G v d)\/∃ (ns : List Int) (a : Addr), s = .scr ns/\v = .ref a/\SqL K G a (ns.map V.int))
theorem Sls.same {K : PySem.W.Frag} {G G' : Hp} {σ : St} {e : En} (h : Sls K G σ e) (g : Same G G') : Sls K G' σ e:=fun j s es => by
 obtain ⟨v, hv, q⟩:=h j s es
 refine ⟨v, hv, ?_⟩
 rcases q with ⟨d, e1, r⟩ | ⟨ns, a, e1, e2, r⟩
 ·exact .inl ⟨d, e1, r.same g⟩
 ·exact .inr ⟨ns, a, e1, e2, g.seq r⟩
section
variable {B : Bs} {env : En}
end
section
variable {B : Bs} {env : En} {Q' : PyData->En->Prop} {QO : Sl->En->Prop} {c : TT} {ta tb : TE}
end
end VL
namespace VL
open PySem PySem.Spec L2 PyProof.Rows
end VL
namespace VL
open PySem PySem.Spec L2
section
variable {B : Bs} {env : En} {QO : Sl->En->Prop} {i : Nat}
end
end VL
namespace VL
open PySem PySem.Spec L2
end VL
namespace VL
open PySem PySem.Spec L2
section
variable {X : Cx}
end
section
variable {R : Sl->Prop}
end
end VL
namespace L2
open PySem PySem.Spec PyProof.Rows
section
variable {X : Cx}
variable {e est : Expr} {te : TE} {ts : TO} {pos p2 : Pos}
end
end L2
namespace VL
open PySem PySem.Spec L2
section
variable {B : Bs} {env : En} {QO : Sl->En->Prop} {Q' : PyData->En->Prop} {te tl : TE} {ts : TO} {K : PySem.W.Frag} {i : Nat}
theorem Rps.rev {G : Hp} : ∀ {vs : List V} {ds : List PyData}, Rps G vs ds->Rps G vs.reverse ds.reverse
 | _, _, .nil => .nil
 | _, _, .cons r t => by
  rw [List.reverse_cons, List.reverse_cons]
  exact (Rps.rev t).append (.cons r .nil)
end
end VL
namespace VL
open PySem PySem.Spec L2
theorem nd_le {α : Type} [DecidableEq α] : ∀ {as bs : List α}, as.Nodup->(∀ a ∈ as, a ∈ bs)->as.length<=bs.length
 | [], _, _, _ => Nat.zero_le _
 | a :: as, bs, hn, hs => by
  have ha : a ∈ bs:=hs a (List.mem_cons_self ..)
  have hn':=List.nodup_cons.mp hn
  have h:=nd_le (bs:=bs.erase a) hn'.2 fun x hx => (List.mem_erase_of_ne (show x ≠ a from fun e => hn'.1 (by rw [← e]; exact hx))).mpr (hs x (List.mem_cons_of_mem _ hx))
  rw [List.length_erase_of_mem ha] at h
  have : 0 < bs.length:=List.length_pos_of_mem ha
  simp only [List.length_cons]
  row_cond lo
structure But (n : Int) (es rem : List (Int × Int)) : Prop where
 rise : Rise es
 inn : ∀ p ∈ es, 0<=p.1/\p.1 < p.2/\p.2 < n
 all : ∀ p : Int × Int, 0<=p.1->p.1 < p.2->p.2 < n->p ∈ es\/p ∈ rem
theorem But.len {n : Int} {es rem : List (Int × Int)} (h : But n es rem) (hn : 8<=n) (hr : rem.length<=5) : 2<=es.length:=by
 have:=nd_le (as:=[((0 : Int), (1 : Int)), (0, 2), (0, 3), (0, 4), (0, 5), (0, 6), (0, 7)]) (bs:=es ++ rem) (by decide) (fun p hp => by
  have : 0<=p.1/\p.1 < p.2/\p.2 < 8:=by
   simp only [List.mem_cons, List.not_mem_nil, or_false] at hp
   rcases hp with rfl | rfl | rfl | rfl | rfl | rfl | rfl <;> decide
  exact List.mem_append.mpr (h.all p this.1 this.2.1 (by row_cond lo)))
 simp at this
 row_cond lo
end VL
namespace PopT
open PySem PyProof.Rows
section
variable {prog : Program} {w : World} {K : Type} [DecidableEq K] {knd : HeapKind prog w K} {A : Around} {E : Value->Shared->Prop} {s : Shared}
end
end PopT
namespace L2
open PySem PySem.Spec PySem.W PyProof.Rows
theorem KT.at {H : Hp} {kvs : List (List Key × V)} {xs : List (List Key × Addr × Value)} (r : KT H kvs xs) : ∀ {j : Nat} {k : List Key} {v : V}, kvs[j]? = some (k, v)->∃ p : Addr × Value, xs[j]? = some (k, p)/\RelV v p.2:=by
 induction r with
 | nil => intro j k v e; simp at e
 | @cons p q ps qs hq t ih =>
  intro j k v e
  cases j with
  | zero =>
   have e : p = (k, v):=by simpa using e
   subst e
   exact ⟨q.2, by rw [List.getElem?_cons_zero, show k = q.1 from hq.1], hq.2.2⟩
  | succ j => exact ih (by simpa using e)
theorem KT.erase {H : Hp} {kvs : List (List Key × V)} {xs : List (List Key × Addr × Value)} (r : KT H kvs xs) : ∀ (j : Nat), KT H (kvs.eraseIdx j) (xs.eraseIdx j):=by
 induction r with
 | nil => intro j; exact .nil
 | @cons p q ps qs hq t ih =>
  intro j
  cases j with
  | zero => exact t
  | succ j => exact .cons hq (ih j)
section
variable {X : Cx} {pins : List (Addr × Obj)} {σ : St} {H : Hp} {s : Shared} {a b : Addr} {A : Around} {E : Value->Shared->Prop}
end
section
variable {X : Cx} {o e f : Expr} {apos cpos : Pos} {td ty tx : TE}
end
end L2
namespace DNe
open PySem PyProof.Rows
end DNe
namespace L2
open PySem PySem.Spec PySem.W PyProof.Rows
end L2
namespace DNe
open PySem PyProof.Rows
section
variable {prog : Program} {w : World} {A : Around} {E : Value->Shared->Prop} {s : Shared}
end
end DNe
namespace L2
open PySem PySem.Spec PySem.W PyProof.Rows
end L2
namespace VL
open PySem PySem.Spec L2
section
variable {B : Bs} {env : En} {Q' : PyData->En->Prop} {QO : Sl->En->Prop} {i : Nat} {ty : TE}
theorem RpT.at {G : Hp} : ∀ {kvs : List (List Key × V)} {es : List (List Key × PyData)}, RpT G kvs es->∀ {j : Nat} {ks : List Key} {d : PyData}, es[j]? = some (ks, d)->∃ v, kvs[j]? = some (ks, v)/\Rp G v d
 | _, _, .nil, j, ks, d, e => by simp at e
 | _, _, .cons (k:=k) (v:=v) (d:=d0) h t, 0, ks, d, e => by
  have e : (k, d0) = (ks, d):=by simpa using e
  cases e
  exact ⟨v, rfl, h⟩
 | _, _, .cons h t, j + 1, ks, d, e => by
  obtain ⟨v, e1, r⟩:=RpT.at t (j:=j) (by simpa using e)
  exact ⟨v, by simpa using e1, r⟩
theorem RpT.erase {G : Hp} : ∀ {kvs : List (List Key × V)} {es : List (List Key × PyData)}, RpT G kvs es->∀ (j : Nat), RpT G (kvs.eraseIdx j) (es.eraseIdx j)
 | _, _, .nil, _ => .nil
 | _, _, .cons _ t, 0 => t
 | _, _, .cons h t, j + 1 => .cons h (RpT.erase t j)
end
end VL
namespace DictL
open PySem PyProof.Rows
section
variable {prog : Program} {w : World} {A : Around} {R : Result->Shared->Prop} {I : Addr} {fp wr : List Addr} {n : Nat} {P : Nat->Value->Prop} {St : Nat->Heap->Prop} {K : Type} [DecidableEq K] {knd : KeyKind prog w K}
end
end DictL
namespace DictL
open PySem PyProof.Rows
section
variable {prog : Program} {w : World} {A : Around} {E : Value->Shared->Prop} {s : Shared}
end
end DictL
namespace DictL
open PySem PyProof.Rows
section
variable {prog : Program} {w : World} {A : Around} {E : Value->Shared->Prop} {s : Shared} {K : Type} [DecidableEq K] {knd : KeyKind prog w K}
end
end DictL
namespace L2
open PySem PySem.W PyProof.Rows
section
variable {K : Type} [DecidableEq K]
end
section
variable {X : Cx}
end
end L2
namespace VL
open PySem PySem.Spec L2
section
variable {B : Bs} {env : En} {QO : Sl->En->Prop} {Q' : PyData->En->Prop} {D' : VEnds} {K : PySem.W.Frag} {i : Nat}
end
end VL
namespace VL
open PySem PySem.Spec L2
section
variable {B : Bs} {env : En} {QO : Sl->En->Prop} {Q' : PyData->En->Prop} {K : PySem.W.Frag} {i : Nat}
end
end VL
namespace VL
open PySem PySem.Spec L2
section
variable {B : Bs} {env : En} {QO : Sl->En->Prop} {Q' : PyData->En->Prop} {K : PySem.W.Frag} {i : Nat}
end
end VL
namespace L2
open PySem PySem.W PyProof.Rows
section
variable {X : Cx}
end
end L2
namespace VL
open PySem PySem.Spec L2
section
variable {B : Bs} {env : En} {Q' : PyData->En->Prop} {R : Sl->Prop} {td : TE}
end
end VL
namespace SS
open PySem
theorem rise_le {l : List Nat} (hr : l.Pairwise (· < ·)) {i j : Nat} (hij : i<=j) (hj : j < l.length) : l[i]'(by row_cond lo)<=l[j]:=by
 by_cases e : i = j
 ·subst e; exact Nat.le_refl _
 ·exact Nat.le_of_lt (List.pairwise_iff_getElem.mp hr i j (by row_cond lo) hj (by row_cond lo))
theorem below_go (xs : Array Nat) (j : Nat) (hr : xs.toList.Pairwise (· < ·)) : ∀ (fuel lo hi : Nat), hi - lo<=fuel->lo<=hi->hi<=xs.size->(∀ i (h : i < xs.toList.length), i < lo->xs.toList[i] < j)->(∀ i (h : i < xs.toList.length), hi<=i->j<=xs.toList[i]) ->
  SetTable.below.go xs j fuel lo hi<=xs.size/\(∀ i (h : i < xs.toList.length), i < SetTable.below.go xs j fuel lo hi->xs.toList[i] < j)/\(∀ i (h : i < xs.toList.length), SetTable.below.go xs j fuel lo hi<=i->j<=xs.toList[i])
 | 0, lo, hi, h1, h2, h3, h4, h5 => by
  unfold SetTable.below.go
  have : lo = hi:=by row_cond lo
  subst this
  exact ⟨h3, h4, h5⟩
 | fuel + 1, lo, hi, h1, h2, h3, h4, h5 => by
  unfold SetTable.below.go
  by_cases hl : lo < hi
  ·rw [if_pos hl]
   have hm : (lo + hi) / 2 < xs.size:=by row_cond lo
   have hm' : (lo + hi) / 2 < xs.toList.length:=by simpa using hm
   have eg : xs.getD ((lo + hi) / 2) j = xs.toList[(lo + hi) / 2]:=by simp [Array.getD, hm]
   dsimp only
   rw [eg]
   split
   ·rename_i hlt
    refine below_go xs j hr fuel _ hi (by row_cond lo) (by row_cond lo) h3 (fun i h hi' => ?_) h5
    exact Nat.lt_of_le_of_lt (rise_le hr (by row_cond lo) hm') hlt
   ·rename_i hge
    refine below_go xs j hr fuel lo _ (by row_cond lo) (by row_cond lo) (by row_cond lo) h4 (fun i h hi' => ?_)
    exact Nat.le_trans (by row_cond lo) (rise_le hr hi' h)
  ·rw [if_neg hl]
   have : lo = hi:=by row_cond lo
   subst this
   exact ⟨h3, h4, h5⟩
theorem below_ok (xs : Array Nat) (j : Nat) (hr : xs.toList.Pairwise (· < ·)) :
  SetTable.below xs j<=xs.size/\(∀ i (h : i < xs.toList.length), i < SetTable.below xs j->xs.toList[i] < j)/\(∀ i (h : i < xs.toList.length), SetTable.below xs j<=i->j<=xs.toList[i]) :=
 below_go xs j hr _ 0 _ (by row_cond lo) (by row_cond lo) (Nat.le_refl _) (fun i h hi => by row_cond lo) (fun i h hi => by simp at h; row_cond lo)
theorem below_next (xs : Array Nat) (hr : xs.toList.Pairwise (· < ·)) (i : Nat) (hi : i < xs.toList.length) : SetTable.below xs (xs.toList[i] + 1) = i + 1:=by
 obtain ⟨h1, h2, h3⟩:=below_ok xs (xs.toList[i] + 1) hr
 rcases Nat.lt_trichotomy (SetTable.below xs (xs.toList[i] + 1)) (i + 1) with h | h | h
 ·have:=h3 i hi (by row_cond lo); row_cond lo
 ·exact h
 ·have hs : i + 1 < xs.toList.length:=by simp; row_cond lo
  have a:=h2 (i + 1) hs (by row_cond lo)
  have b:=List.pairwise_iff_getElem.mp hr i (i + 1) hi hs (by row_cond lo)
  row_cond lo
theorem below_zero (xs : Array Nat) (hr : xs.toList.Pairwise (· < ·)) : SetTable.below xs 0 = 0:=by
 obtain ⟨h1, h2, h3⟩:=below_ok xs 0 hr
 rcases Nat.eq_zero_or_pos (SetTable.below xs 0) with h | h
 ·exact h
 ·have:=h2 0 (by simp; row_cond lo) (by row_cond lo); row_cond lo
structure TbI (bt : Bool) (t : SetTable) : Prop where
 led : bt = false->t.led = true
 dum : t.dummies = #[]
 ris : t.plain = true->t.place.toList.Pairwise (· < ·)
theorem TbI.fresh (bt : Bool) (f m : Nat) : TbI bt (.fresh f m (!bt)):=⟨fun h => by subst h; rfl, rfl, fun _ => List.Pairwise.nil⟩
theorem pick_perm {α : Type} (next : Nat->Nat) : ∀ (n k : Nat) (left : List α) (out : Array α), left.length = n->(pickOrder.go next n k left out).toList.Perm (out.toList ++ left)
 | 0, k, left, out, h => by
  unfold pickOrder.go
  rw [List.eq_nil_of_length_eq_zero h]; simp
 | n + 1, k, left, out, h => by
  unfold pickOrder.go
  have hl : next k % left.length < left.length:=Nat.mod_lt _ (by row_cond lo)
  rw [List.getElem?_eq_getElem hl]
  dsimp only
  refine (pick_perm next n (k + 1) _ _ (by rw [List.length_eraseIdx]; split <;> row_cond lo)).trans ?_
  rw [Array.toList_push, List.append_assoc]
  refine List.Perm.append_left _ ?_
  have e : left = left.take (next k % left.length) ++ left[next k % left.length] :: left.drop (next k % left.length + 1):=by
   rw [← List.drop_eq_getElem_cons hl, List.take_append_drop]
  rw [List.eraseIdx_eq_take_drop_succ]
  refine List.Perm.trans ?_ (List.Perm.of_eq e.symm)
  rw [List.singleton_append]
  exact List.perm_middle.symm
theorem pickOrder_perm {α : Type} (next : Nat->Nat) (xs : Array α) : (pickOrder next xs).toList.Perm xs.toList:=by
 unfold pickOrder
 simpa using pick_perm next xs.size 0 xs.toList #[] (by simp)
end SS
namespace SS
open PySem PySem.W PyProof.Rows
section
variable {prog : Program} {w : World} {A : Around} {E : Value->Shared->Prop} {s : Shared}
noncomputable def bt (w : World) : Bool:=w.params.followText "set-order"
noncomputable def kE (e : Int × Value) : Int:=match e.2 with | .int k _ => k | _ => 0
def GoodE (prog : Program) (w : World) (e : Int × Value) : Prop:=e.1 = (intKind prog w).hash (kE e)/\∃ t, e.2 = .int (kE e) t
def SetR (prog : Program) (w : World) (a : Addr) (es : Array (Int × Value)) (ep : Nat) (t : SetTable) (h : Heap) : Prop :=
 ∃ o, h.get? a = some o/\o.ExactSet/\o.data = .set es ep t/\t.fits es.size = true/\TbI (bt w) t
def SetI (prog : Program) (w : World) (a : Addr) (L : List Int) (h : Heap) : Prop:=∃ es ep t, SetR prog w a es ep t h/\(∀ e ∈ es.toList, GoodE prog w e)/\(es.toList.map kE).Perm L
theorem SetR.at {a : Addr} {es : Array (Int × Value)} {ep : Nat} {t : SetTable} {h h' : Heap} (x : SetR prog w a es ep t h) (k : ∀ o, h.get? a = some o->h'.get? a = some o) : SetR prog w a es ep t h':=let ⟨o, e, r⟩:=x; ⟨o, k o e, r⟩
theorem SetI.at {a : Addr} {L : List Int} {h h' : Heap} (x : SetI prog w a L h) (k : ∀ o, h.get? a = some o->h'.get? a = some o) : SetI prog w a L h':=let ⟨es, ep, t, r, p⟩:=x; ⟨es, ep, t, r.at k, p⟩
theorem store_ok {a : Addr} {es es' : Array (Int × Value)} {ep : Nat} {t t' : SetTable} {Q : Unit->Shared->Prop} (x : SetR prog w a es ep t s.heap) (hz : es'.size < scanBound) (h : Q () { s with heap:=s.heap.update a (Obj.putSet es' t') }) : wpAny (model prog w) A (storeSet a es' t') Q E s:=by
 obtain ⟨o, ho, hx, hd, _⟩:=x
 exact wpAny_storeSet_of ho hd h (fits_of_scanBound hz)
end
end SS
namespace SS
open PySem PySem.W PyProof.Rows
section
variable {prog : Program} {w : World} {A : Around} {E : Value->Shared->Prop} {s : Shared}
section
variable {R : Result->Shared->Prop} {I : Addr} {fp wr : List Addr} {n : Nat} {P : Nat->Value->Prop} {St : Nat->Heap->Prop}
end
end
end SS
namespace SS
open PySem PySem.W PyProof.Rows
theorem slot_it_next : Slot "set_iterator" "__next__" "set_iterator.__next__" :=
 .of (owner:="set_iterator") (n:="__next__") (by rw [typeLookup_type, builtinLookup_eq_fast]; kernel_rfl) (by decide +kernel) (by decide +kernel) (by decide +kernel)
  (by first | exact .inl (by decide +kernel) | exact .inr (by decide +kernel)) (by rw [isSubtype_type]; kernel_rfl)
theorem slot_it_iter : Slot "set_iterator" "__iter__" "set_iterator.__iter__" :=
 .of (owner:="set_iterator") (n:="__iter__") (by rw [typeLookup_type, builtinLookup_eq_fast]; kernel_rfl) (by decide +kernel) (by decide +kernel) (by decide +kernel)
  (by first | exact .inl (by decide +kernel) | exact .inr (by decide +kernel)) (by rw [isSubtype_type]; kernel_rfl)
theorem owner_it : Manifest.owners.lookup (String.ofList ['r', 'o', 't', 'a', 'r', 'e', 't', 'i', '_', 't', 'e', 's'].reverse) = some Manifest.sig_set_iterator:=by kernel_rfl
theorem args_it_next (a : Value) : argsOk "set_iterator.__next__" ⟨[a], []⟩:=by
 unfold argsOk; rw [signature?_of (id:="set_iterator.__next__") (n:=['_', '_', 't', 'x', 'e', 'n', '_', '_']) (o:=['r', 'o', 't', 'a', 'r', 'e', 't', 'i', '_', 't', 'e', 's']) (by kernel_rfl) owner_it]; kernel_rfl
theorem args_it_iter (a : Value) : argsOk "set_iterator.__iter__" ⟨[a], []⟩:=by
 unfold argsOk; rw [signature?_of (id:="set_iterator.__iter__") (n:=['_', '_', 'r', 'e', 't', 'i', '_', '_']) (o:=['r', 'o', 't', 'a', 'r', 'e', 't', 'i', '_', 't', 'e', 's']) (by kernel_rfl) owner_it]; kernel_rfl
theorem entry_it_next : entryFor table "set_iterator.__next__" = some Builtin.«set_iterator.__next__»:=entryFor_of_tree (by kernel_rfl)
theorem entry_it_iter : entryFor table "set_iterator.__iter__" = some Builtin.«dict_keyiterator.__iter__»:=entryFor_alias (id':="dict_keyiterator.__iter__") (by kernel_rfl) rfl (by decide +kernel) (by kernel_rfl)
section
variable {prog : Program} {w : World} {A : Around} {E : Value->Shared->Prop} {s : Shared} {a I : Addr} {es : Array (Int × Value)} {ep : Nat} {t : SetTable}
def IsIt (h : Heap) (I : Addr) (vs : Array Value) : Prop:=∃ o, h.get? I = some o/\o.cls = .type "set_iterator"/\o.data = .fields vs
theorem IsIt.ty {vs : Array Value} (x : IsIt s.heap I vs) : s.TypeIs (.ref I) "set_iterator":=let ⟨o, e, c, _⟩:=x; ⟨o, e, c⟩
theorem IsIt.at {h h' : Heap} {vs : Array Value} (x : IsIt h I vs) (k : ∀ o, h.get? I = some o->h'.get? I = some o) : IsIt h' I vs:=let ⟨o, e, r⟩:=x; ⟨o, k o e, r⟩
theorem SetR.ty (x : SetR prog w a es ep t s.heap) : s.TypeIs (.ref a) "set":=let ⟨o, e, c, _⟩:=x; ⟨o, e, c.1⟩
theorem state_ok {Q : (Array (Int × Value) × Nat × SetTable)->Shared->Prop} (x : SetR prog w a es ep t s.heap) (h : Q (es, ep, t) s) : wpAny (model prog w) A (setState a) Q E s:=let ⟨_, ho, _, hd, hf, _⟩:=x; wpAny_setState_of ho hd hf h
theorem entries_ok {Q : Array (Int × Value)->Shared->Prop} (x : SetR prog w a es ep t s.heap) (h : Q es s) : wpAny (model prog w) A (setEntries a) Q E s:=by
 unfold setEntries; exact wpAny_bind (state_ok x (wpAny_pure h))
theorem text_ok {Q : Bool->Shared->Prop} (h : Q (bt w) s) : wpAny (model prog w) A setsByText Q E s:=by
 unfold setsByText; exact wpAny_bind (wpAny_askSetting (wpAny_pure h))
noncomputable def dr (w : World) (es : Array (Int × Value)) (t : SetTable) : Bool:=!bt w && (!t.plain && decide (es.size > 1))
end
end SS
namespace SS
open PySem PySem.W PyProof.Rows
section
variable {prog : Program} {w : World} {A : Around} {E : Value->Shared->Prop} {s : Shared} {a I : Addr} {es : Array (Int × Value)} {ep : Nat} {t : SetTable}
noncomputable def ord (w : World) (a : Addr) (es : Array (Int × Value)) (ep : Nat) : List (Int × Value):=if bt w = true then (pickOrder (w.params.setOrder a ep) es).toList else es.toList
theorem ord_perm : (ord w a es ep).Perm es.toList:=by
 unfold ord; split
 ·exact pickOrder_perm _ _
 ·exact List.Perm.refl _
noncomputable def sl (t : SetTable) : Nat->Nat
 | 0 => 0
 | i + 1 => t.place.getD i 0 + 1
theorem place_rise (x : SetR prog w a es ep t s.heap) (hb : bt w = false) (hd : dr w es t = false) : t.place.toList.Pairwise (· < ·):=by
 obtain ⟨o, _, _, _, hf, hT⟩:=x
 unfold dr at hd
 rw [hb] at hd
 cases hp : t.plain with
 | true => exact hT.ris hp
 | false =>
  rw [hp] at hd
  have h1 : es.size<=1:=by simpa using hd
  have h2 : t.place.toList.length<=1:=by
   simp only [SetTable.fits, Bool.and_eq_true, beq_iff_eq] at hf
   rw [Array.length_toList]; row_cond lo
  match hl : t.place.toList with
  | [] => exact .nil
  | [y] => exact List.pairwise_singleton _ _
  | y :: z :: r => rw [hl] at h2; simp at h2
theorem next_ok {slot i : Nat} {Q : Option (Value × Nat)->Shared->Prop} (x : SetR prog w a es ep t s.heap) (hd : dr w es t = false) (hs : bt w = false->slot = sl t i) (hi : i<=es.size)
  (h1 : ∀ e nx, (ord w a es ep)[i]? = some e->(bt w = false->nx = sl t (i + 1))->Q (some (e.2, nx)) s) (h2 : i = es.size->Q none s) : wpAny (model prog w) A (setNext a slot i ep) Q E s:=by
 unfold setNext
 refine wpAny_bind (state_ok x ?_)
 dsimp only
 refine wpAny_bind (text_ok ?_)
 cases hb : bt w with
 | true =>
  rw [if_pos rfl]
  rw [if_neg (by simp)]
  refine wpAny_bind ?_
  unfold setWalk
  refine wpAny_bind (state_ok x ?_)
  dsimp only
  refine wpAny_bind (text_ok ?_)
  rw [hb, if_pos rfl]
  refine wpAny_bind (wpAny_askSetting (wpAny_pure (wpAny_pure ?_)))
  show Q ((pickOrder (w.params.setOrder a ep) es)[i]?.map fun e => (e.2, slot)) s
  have eo : ord w a es ep = (pickOrder (w.params.setOrder a ep) es).toList:=by unfold ord; rw [hb, if_pos rfl]
  rw [← Array.getElem?_toList, ← eo]
  cases he : (ord w a es ep)[i]? with
  | none =>
   refine h2 ?_
   have:=List.getElem?_eq_none_iff.mp he
   rw [ord_perm.length_eq, Array.length_toList] at this
   row_cond lo
  | some e => exact h1 e slot he fun z => by rw [hb] at z; cases z
 | false =>
  rw [if_neg (by decide)]
  have hpr:=place_rise x hb hd
  obtain ⟨o, ho, hx, hdt, hf, hT⟩:=id x
  have hps : t.place.size = es.size:=by
   simp only [SetTable.fits, Bool.and_eq_true, beq_iff_eq] at hf; exact hf.1
  have hbl : SetTable.below t.place slot = i:=by
   rw [hs hb]
   cases i with
   | zero => exact below_zero _ hpr
   | succ j =>
    have hj : j < t.place.toList.length:=by rw [Array.length_toList]; row_cond lo
    have e : t.place.getD j 0 = t.place.toList[j]:=by simp [Array.getD, show j < t.place.size by row_cond lo]
    show SetTable.below t.place (t.place.getD j 0 + 1) = j + 1
    rw [e]; exact below_next _ hpr j hj
  refine wpAny_bind (wpAny_pure ?_)
  have hdr : (!t.plain && decide (es.size > 1)) = false:=by unfold dr at hd; rw [hb] at hd; exact hd
  show wpAny _ _ (if (!t.plain && decide (es.size > 1)) = true then _ else _) _ _ s
  rw [hdr, if_neg (by decide)]
  refine wpAny_bind ?_
  show wpAny _ _ (if (!t.led && !es.isEmpty) = true then _ else _) _ _ s
  rw [hT.led hb]
  rw [if_neg (by simp)]
  refine wpAny_pure ?_
  rw [hbl]
  have eo : ord w a es ep = es.toList:=by unfold ord; rw [hb, if_neg (by decide)]
  rcases Nat.lt_or_ge i es.size with hlt | hge
  ·have e1 : es[i]? = some es[i]:=Array.getElem?_eq_getElem hlt
   have e2 : t.place[i]? = some t.place[i]:=Array.getElem?_eq_getElem (by row_cond lo)
   rw [e1, e2]
   refine wpAny_pure (h1 es[i] _ (by rw [eo, Array.getElem?_toList]; exact e1) fun _ => ?_)
   show t.place[i] + 1 = t.place.getD i 0 + 1
   simp [Array.getD, show i < t.place.size by row_cond lo]
  ·have e1 : es[i]? = none:=Array.getElem?_eq_none_iff.mpr hge
   rw [e1]
   exact wpAny_pure (h2 (by row_cond lo))
theorem upd2 {h : Heap} {f x b n e : Value} {i : Value} (hit : IsIt h I #[f, i, x, n, e]) (j : Nat) (v : Value) (vs : Array Value) (hv : #[f, i, x, n, e].setIfInBounds j v = vs) : IsIt (h.update I (Obj.mapFields (·.setIfInBounds j v))) I vs:=by
 obtain ⟨o, ho, hc, hd⟩:=hit
 exact ⟨_, Heap.get?_update_self _ ho (Obj.isFreed_of_fields (Obj.data_mapFields hd _)), (Obj.cls_mapFields ..).trans hc, by rw [Obj.data_mapFields hd, hv]⟩
theorem field_ok {vs : Array Value} {i : Nat} {x : Value} {Q : Unit->Shared->Prop} (hit : IsIt s.heap I vs) (hi : i < vs.size) (h : Q () { s with heap:=s.heap.update I (Obj.mapFields (·.setIfInBounds i x)) }) : wpAny (model prog w) A (setField (.ref I) i x) Q E s:=by
 obtain ⟨o, ho, hc, hd⟩:=hit
 exact wpAny_setField ho hd hi h
theorem py_next {vs : Array Value} {Q : Option Value->Shared->Prop} (hit : IsIt s.heap I vs)
  (h : wpAny (model prog w) A.in1 (Builtin.«set_iterator.__next__» ⟨[.ref I], []⟩) (fun fin s' => ∃ v, fin = .done (.ret v)/\Q (some v) s') (fun e s' => wpAny (model prog w) A (do if ← isInstance e (.type "StopIteration") then pure none else throw e) Q E s') s) :
  wpAny (model prog w) A (pyNext (.ref I)) Q E s:=by
 unfold pyNext
 refine wpAny_bind (wpAny_attempt (wpAny_callSpecial?_slot (name:=Str.ofString "__next__") hit.ty slot_it_next (wpAny_call_entry slot_it_next hit.ty entry_it_next ?b (args_it_next _))))
 case b =>
  refine wpAny_mono h ?_ ?_
  ·rintro fin s' ⟨v, rfl, q⟩
   exact ⟨v, rfl, wpAny_pure q⟩
  ·intro e s' q; exact q
theorem stop_ok {Q : Option Value->Shared->Prop} {F : Type} {Qf : F->Shared->Prop} (hh : A.handled = none) (h : ∀ h', (∀ b o, s.heap.get? b = some o->h'.get? b = some o)->Q none { s with heap:=h' }) :
  wpAny (model prog w) A.in1 (newExc (.type "StopIteration") [] >>= fun e => (raiseNew e : Sem F)) Qf (fun e s' => wpAny (model prog w) A (do if ← isInstance e (.type "StopIteration") then pure none else throw e) Q E s') s:=by
 refine wpAny_bind ?_
 simp only [newExc, newTuple]; refine wpAny_bind (wpAny_newObj_type ?_ (by size_fits))
 refine wpAny_bind (m:=firstArgMember _ _) (wpAny_of_eq (a:=Value.none) (by first | rfl | (simp only [firstArgMember]; rfl)) (wpAny_newObj_type ?_ (by size_fits)))
 simp only [raiseNew]; refine wpAny_bind (wpAny_handled ?_)
 rw [show A.in1.handled = none from hh]; refine wpAny_bind (wpAny_pure (wpAny_throw ?_))
 refine wpAny_bind (wpAny_isInstance (T:="StopIteration") (b:=true) ⟨_, Heap.get?_push_size _ rfl, rfl⟩ isSubtype_stop ?_)
 exact wpAny_pure (h _ fun b o e => Heap.get?_push_of_some _ (Heap.get?_push_of_some _ e))
theorem item_ok {slot i : Nat} {Q : Option Value->Shared->Prop} (hh : A.handled = none) (hne : a ≠ I) (hit : IsIt s.heap I #[rawInt slot, rawInt i, .ref a, rawInt es.size, rawInt ep]) (x : SetR prog w a es ep t s.heap) (hd : dr w es t = false) (hs : bt w = false->slot = sl t i) (hi : i<=es.size)
  (h1 : ∀ e (nx : Nat) h', (ord w a es ep)[i]? = some e->(bt w = false->nx = sl t (i + 1))->IsIt h' I #[rawInt nx, rawInt ((i + 1 : Nat) : Int), .ref a, rawInt es.size, rawInt ep]->(∀ b o, b ≠ I->s.heap.get? b = some o->h'.get? b = some o)->Q (some e.2) { s with heap:=h' })
  (h2 : i = es.size->∀ h', (∀ b o, b ≠ I->s.heap.get? b = some o->h'.get? b = some o)->Q none { s with heap:=h' }) : wpAny (model prog w) A (pyNext (.ref I)) Q E s:=by
 refine py_next hit ?_
 obtain ⟨o, ho, hc, hdt⟩:=id hit
 unfold Builtin.«set_iterator.__next__»
 refine wpAny_bind (wpAny_pure (wpAny_bind (wpAny_fieldsOf ho hdt ?_)))
 show wpAny _ _ (setEntries a >>= _) _ _ s
 refine wpAny_bind (entries_ok x ?_)
 rw [if_neg (by simp)]
 show wpAny _ _ (setNext a slot i ep >>= _) _ _ s
 refine wpAny_bind (next_ok x hd hs hi (fun e nx he hn => ?_) fun hz => ?_)
 ·dsimp only
  refine wpAny_bind (field_ok hit (by simp) ?_)
  have hit1:=upd2 (b:=.none) hit 0 (rawInt nx) #[rawInt nx, rawInt i, .ref a, rawInt es.size, rawInt ep] rfl
  refine wpAny_bind (field_ok (s:={ s with heap:=_ }) hit1 (by simp) ?_)
  have hit2:=upd2 (b:=.none) hit1 1 (rawInt ((i + 1 : Nat) : Int)) #[rawInt nx, rawInt ((i + 1 : Nat) : Int), .ref a, rawInt es.size, rawInt ep] rfl
  refine wpAny_pure ⟨_, rfl, h1 e nx _ he hn hit2 fun b o hb e => ?_⟩
  exact (Heap.get?_update_other _ _ (Ne.symm hb)).trans ((Heap.get?_update_other _ _ (Ne.symm hb)).trans e)
 ·dsimp only
  refine wpAny_bind (field_ok hit (by simp) ?_)
  refine stop_ok (s:={ s with heap:=s.heap.update I _ }) hh fun h' k => h2 hz h' fun b o hb e => k b o ((Heap.get?_update_other _ _ (Ne.symm hb)).trans e)
theorem self_ok {vs : Array Value} {Q : Value->Shared->Prop} (hit : IsIt s.heap I vs) (h : Q (.ref I) s) : wpAny (model prog w) A (pyIter (.ref I)) Q E s:=by
 refine wpAny_pyIter_slot hit.ty slot_it_iter (wpAny_call_entry slot_it_iter hit.ty entry_it_iter ?_ (args_it_iter _))
 show wpAny _ _ (ret (.ref I)) _ _ s
 exact wpAny_pure ⟨_, rfl, "set_iterator", _, hit.ty, slot_it_next.lookup, h⟩
theorem walks (hh : A.handled = none) (hne : a ≠ I) (hd : dr w es t = false) : Walks prog w A I [I, a] [I] es.size (fun i v => ((ord w a es ep).map (·.2))[i]? = some v)
  (fun i h => ∃ slot : Nat, IsIt h I #[rawInt slot, rawInt i, .ref a, rawInt es.size, rawInt ep]/\SetR prog w a es ep t h/\(bt w = false->slot = sl t i)) where
 sub:=fun b hb => by simp at hb; simp [hb]
 frame:=fun _ _ _ st hk => let ⟨slot, h1, h2, h3⟩:=st; ⟨slot, h1.at fun o e => hk I (by simp) o e, h2.at fun o e => hk a (by simp) o e, h3⟩
 item:=fun i s Q E hi st hQ => by
  obtain ⟨slot, h1, h2, h3⟩:=st
  refine item_ok hh hne h1 h2 hd h3 (Nat.le_of_lt hi) (fun e nx h' he hn hit k => ?_) fun hz => by row_cond lo
  exact hQ _ h' s.toks (by rw [List.getElem?_map, he]; rfl) ⟨nx, hit, h2.at fun o e => k a o hne e, hn⟩ fun b o hb e => k b o (fun z => hb (by simp [z])) e
 done:=fun s Q E st hQ => by
  obtain ⟨slot, h1, h2, h3⟩:=st
  refine item_ok hh hne h1 h2 hd h3 (Nat.le_refl _) (fun e nx h' he hn hit k => ?_) fun hz h' k => hQ h' s.toks fun b o hb e => k b o (fun z => hb (by simp [z])) e
  have:=(List.getElem?_eq_some_iff.mp he).1
  rw [ord_perm.length_eq, Array.length_toList] at this
  row_cond lo
 self:=fun _ _ _ _ st hQ => let ⟨_, h1, _, _⟩:=st; self_ok h1 hQ
end
end SS
namespace SS
open PySem PySem.W PyProof.Rows
section
variable {prog : Program} {w : World} {A : Around} {E : Value->Shared->Prop} {s : Shared} {a : Addr} {es : Array (Int × Value)} {ep : Nat} {t : SetTable}
end
end SS
namespace SS
open PySem PySem.W PyProof.Rows
section
variable {prog : Program} {w : World} {A : Around} {E : Value->Shared->Prop} {s : Shared} {a : Addr}
end
end SS
namespace L2
open PySem PySem.W PyProof.Rows
section
variable {X : Cx}
end
end L2
namespace VL
open PySem PySem.Spec L2
section
variable {B : Bs} {env : En} {QO : Sl->En->Prop} {K : PySem.W.Frag} {ta : TA} {P : Program} {w : World}
end
end VL
namespace SH
open PySem PySem.SetTable
noncomputable def it : Nat->Nat->Nat
 | 0, x => x
 | n + 1, x => it n (5 * x + 1)
theorem it_add : ∀ (a b x : Nat), it (a + b) x = it b (it a x)
 | 0, b, x => by rw [Nat.zero_add]; rfl
 | a + 1, b, x => by rw [Nat.add_right_comm]; exact it_add a b (5 * x + 1)
theorem it_pow (m : Nat) : ∃ c d : Nat, ∀ x, it (2 ^ m) x = (1 + 2 ^ (m + 2) * c) * x + 2 ^ m * (2 * d + 1):=by
 induction m with
 | zero => exact ⟨1, 0, fun x => by show 5 * x + 1 = _; row_cond lo⟩
 | succ m ih =>
  obtain ⟨c, d, h⟩:=ih
  refine ⟨c + 2 ^ (m + 1) * (c * c), d + 2 ^ m * c * (2 * d + 1), fun x => ?_⟩
  rw [show 2 ^ (m + 1) = 2 ^ m + 2 ^ m by rw [Nat.pow_succ]; row_cond lo, it_add, h, h]
  have e1 : 2 ^ (m + 2) = 4 * 2 ^ m:=by rw [Nat.pow_add]; row_cond lo
  have e2 : 2 ^ (m + 1 + 2) = 8 * 2 ^ m:=by rw [Nat.pow_add, Nat.pow_succ]; row_cond lo
  rw [e1, e2]
  generalize 2 ^ m = P
  grind
theorem it_all (m : Nat) (x j : Nat) : ∃ r, r < 2 ^ m/\it r x % 2 ^ m = j % 2 ^ m:=by
 induction m with
 | zero => exact ⟨0, by decide, by rw [Nat.pow_zero, Nat.mod_one, Nat.mod_one]⟩
 | succ m ih =>
  obtain ⟨r, hr, e⟩:=ih
  obtain ⟨c, d, h⟩:=it_pow m
  have hp : 0 < 2 ^ m:=Nat.pow_pos (by decide)
  have e2 : 2 ^ (m + 1) = 2 ^ m * 2:=Nat.pow_succ ..
  have e4 : 2 ^ (m + 2) = 2 ^ m * 4:=by rw [Nat.pow_add]
  rw [e2]
  have m1:=Nat.mod_mul (x:=it r x) (a:=2 ^ m) (b:=2)
  have m2:=Nat.mod_mul (x:=j) (a:=2 ^ m) (b:=2)
  by_cases hq : it r x / 2 ^ m % 2 = j / 2 ^ m % 2
  ·exact ⟨r, by row_cond lo, by rw [m1, m2, e, hq]⟩
  ·refine ⟨r + 2 ^ m, by row_cond lo, ?_⟩
   rw [it_add, h, e4]
   have e5 : (1 + 2 ^ m * 4 * c) * it r x + 2 ^ m * (2 * d + 1) = it r x + 2 ^ m * (4 * (c * it r x) + 2 * d + 1):=by
    generalize 2 ^ m = P
    grind
   rw [e5, Nat.mod_mul, m2, Nat.add_mul_mod_self_left, e, Nat.add_mul_div_left _ _ hp]
   have : (it r x / 2 ^ m + (4 * (c * it r x) + 2 * d + 1)) % 2 = j / 2 ^ m % 2:=by
    generalize c * it r x = z
    row_cond lo
   rw [this]
theorem it_succ (r x : Nat) : it (r + 1) x = 5 * it r x + 1:=by rw [it_add]; rfl
noncomputable def adv (mask : Nat) (p : Probe) : Probe:=if p.more > 0 then { p with j:=p.j + 1, more:=p.more - 1 } else { p with j:=(leap mask p.i p.perturb).1, more:=runEnd mask (leap mask p.i p.perturb).1 - (leap mask p.i p.perturb).1, i:=(leap mask p.i p.perturb).1, perturb:=(leap mask p.i p.perturb).2 }
noncomputable def pr0 (mask : Nat) (h : Int) : Probe:={ j:=bits h % (mask + 1), more:=runEnd mask (bits h % (mask + 1)) - bits h % (mask + 1), i:=bits h % (mask + 1), perturb:=bits h, dummy:=none }
noncomputable def pr (mask : Nat) (h : Int) : Nat->Probe
 | 0 => pr0 mask h
 | k + 1 => adv mask (pr mask h k)
noncomputable def lp (mask : Nat) (h : Int) : Nat->Nat × Nat
 | 0 => (bits h % (mask + 1), bits h)
 | n + 1 => leap mask (lp mask h n).1 (lp mask h n).2
noncomputable def pAt (mask : Nat) (q : Nat × Nat) (a : Nat) : Probe:={ j:=q.1 + a, more:=runEnd mask q.1 - q.1 - a, i:=q.1, perturb:=q.2, dummy:=none }
theorem pr_run {mask : Nat} {h : Int} {s : Nat} {q : Nat × Nat} (e : pr mask h s = pAt mask q 0) : ∀ a, a<=runEnd mask q.1 - q.1->pr mask h (s + a) = pAt mask q a
 | 0, _ => e
 | a + 1, ha => by
  have ih:=pr_run e a (by row_cond lo)
  show adv mask (pr mask h (s + a)) = _
  rw [ih]
  unfold adv pAt
  rw [if_pos (by show runEnd mask q.1 - q.1 - a > 0; row_cond lo)]
  show Probe.mk _ _ _ _ _ = Probe.mk _ _ _ _ _
  congr 1
theorem pr_leap {mask : Nat} {h : Int} {s : Nat} {q : Nat × Nat} (e : pr mask h s = pAt mask q 0) : pr mask h (s + (runEnd mask q.1 - q.1) + 1) = pAt mask (leap mask q.1 q.2) 0:=by
 have:=pr_run e _ (Nat.le_refl _)
 show adv mask (pr mask h (s + _)) = _
 rw [this]
 unfold adv pAt
 rw [if_neg (by show ¬ (runEnd mask q.1 - q.1 - (runEnd mask q.1 - q.1) > 0); row_cond lo)]
 rfl
noncomputable def sp (mask : Nat) (h : Int) : Nat->Nat
 | 0 => 0
 | n + 1 => sp mask h n + (runEnd mask (lp mask h n).1 - (lp mask h n).1) + 1
theorem pr_sp (mask : Nat) (h : Int) : ∀ n, pr mask h (sp mask h n) = pAt mask (lp mask h n) 0
 | 0 => rfl
 | n + 1 => pr_leap (pr_sp mask h n)
theorem lp_pert (mask : Nat) (h : Int) : ∀ n, (lp mask h n).2 = bits h / 32 ^ n
 | 0 => by show bits h = _; rw [Nat.pow_zero, Nat.div_one]
 | n + 1 => by
  show (lp mask h n).2 / 32 = _
  rw [lp_pert mask h n, Nat.div_div_eq_div_mul, Nat.pow_succ]
theorem bits_lt (h : Int) : bits h < 2 ^ 64:=by
 unfold bits
 have h1:=Int.emod_nonneg h (show (2 ^ 64 : Int) ≠ 0 by decide)
 have h2:=Int.emod_lt_of_pos h (show (0 : Int) < 2 ^ 64 by decide)
 row_cond lo
theorem lp_zero (mask : Nat) (h : Int) (r : Nat) : (lp mask h (13 + r)).2 = 0:=by
 rw [lp_pert]
 apply Nat.div_eq_of_lt
 refine Nat.lt_of_lt_of_le (bits_lt h) ?_
 rw [Nat.pow_add]
 exact Nat.le_trans (show 2 ^ 64<=32 ^ 13 by decide) (Nat.le_mul_of_pos_right _ (Nat.pow_pos (by decide)))
theorem lp_it (mask : Nat) (h : Int) : ∀ r, (lp mask h (13 + r)).1 % (mask + 1) = it r (lp mask h 13).1 % (mask + 1)
 | 0 => rfl
 | r + 1 => by
  show ((lp mask h (13 + r)).1 * 5 + 1 + (lp mask h (13 + r)).2 / 32) % (mask + 1) % (mask + 1) = _
  rw [lp_zero, it_succ, Nat.mod_mod, show 0 / 32 = 0 from rfl, Nat.add_zero, Nat.add_mod, Nat.mul_mod, lp_it mask h r, ← Nat.mul_mod, ← Nat.add_mod, Nat.mul_comm]
theorem lp_lt (mask : Nat) (h : Int) : ∀ n, (lp mask h n).1 < mask + 1
 | 0 => Nat.mod_lt _ (Nat.succ_pos _)
 | n + 1 => Nat.mod_lt _ (Nat.succ_pos _)
theorem lp_all {mask m : Nat} (hm : mask + 1 = 2 ^ m) (h : Int) (j : Nat) (hj : j<=mask) : ∃ n, n < mask + 14/\(lp mask h n).1 = j:=by
 obtain ⟨r, hr, e⟩:=it_all m (lp mask h 13).1 j
 refine ⟨13 + r, by row_cond lo, ?_⟩
 have h1:=lp_it mask h r
 rw [hm, e, ← hm, Nat.mod_eq_of_lt (lp_lt mask h _), Nat.mod_eq_of_lt (show j < mask + 1 by row_cond lo)] at h1
 exact h1
end SH
namespace SH
open PySem PySem.SetTable
structure TOk (t : SetTable) : Prop where
 ris : t.place.toList.Pairwise (· < ·)
 dum : t.dummies = #[]
 le : ∀ j ∈ t.place.toList, j<=t.mask
 two : ∃ m, t.mask + 1 = 2 ^ m
 room : t.place.size<=t.mask
def HI (t : SetTable) (es : List (Int × Value)) : Prop:=es.length = t.place.size/\∀ (i : Nat) (e : Int × Value) (j : Nat), es[i]? = some e->t.place.toList[i]? = some j->∃ k, (pr t.mask e.1 k).j = j/\∀ k', k' < k->t.slot (pr t.mask e.1 k').j ≠ .empty
theorem ins_get {α : Type} (l : List α) (p : Nat) (x : α) (hp : p<=l.length) (i : Nat) : (l.take p ++ x :: l.drop p)[i]? = if i < p then l[i]? else if i = p then some x else l[i - 1]?:=by
 have hlen : (l.take p).length = p:=by rw [List.length_take]; row_cond lo
 by_cases h1 : i < p
 ·rw [if_pos h1, List.getElem?_append_left (by row_cond lo), List.getElem?_take, if_pos h1]
 ·rw [if_neg h1, List.getElem?_append_right (by row_cond lo), hlen]
  by_cases h2 : i = p
  ·rw [if_pos h2, h2, Nat.sub_self]; rfl
  ·rw [if_neg h2]
   obtain ⟨d, hd⟩ : ∃ d, i - p = d + 1:=⟨i - p - 1, by row_cond lo⟩
   rw [hd, List.getElem?_cons_succ, List.getElem?_drop, show p + d = i - 1 by row_cond lo]
noncomputable def ow (owner : Array (Option Nat)) (j : Nat) : Option Nat:=owner.getD j none
theorem find_range (f : Nat->Bool) : ∀ (n : Nat), (∃ k, (List.range n).find? f = some k/\k < n/\f k = true/\∀ k', k' < k->f k' = false)\/((List.range n).find? f = none/\∀ k', k' < n->f k' = false):=fun n => by
 cases h : (List.range n).find? f with
 | none =>
  refine .inr ⟨rfl, fun k' hk => ?_⟩
  have:=List.find?_eq_none.mp h k' (List.mem_range.mpr hk)
  simpa using this
 | some k =>
  refine .inl ⟨k, rfl, List.mem_range.mp (List.mem_of_find?_eq_some h), List.find?_some h, fun k' hk => ?_⟩
  rw [List.find?_range_eq_some] at h
  have:=h.2.2 k' hk
  simpa using this
theorem free_ok {mask : Nat} {owner : Array (Option Nat)} (hsz : owner.size = mask + 1) {h : Int} {ne je : Nat} (hne : (lp mask h ne).1 = je) (hje : ow owner je = none) (hjm : je<=mask) : ∀ (fuel n : Nat), n + fuel > ne->n<=ne->(∀ s', s' < sp mask h n->ow owner (pr mask h s').j ≠ none) ->
  ∃ s, layClean.free mask owner fuel (lp mask h n).1 (lp mask h n).2 = some (pr mask h s).j/\ow owner (pr mask h s).j = none/\(pr mask h s).j<=mask/\∀ s', s' < s->ow owner (pr mask h s').j ≠ none
 | 0, n, h1, h2, _ => by row_cond lo
 | fuel + 1, n, h1, h2, hall => by
  have hl:=lp_lt mask h n
  have hrun : runEnd mask (lp mask h n).1<=mask/\(lp mask h n).1<=runEnd mask (lp mask h n).1:=by unfold runEnd; split <;> row_cond lo
  have hg : ∀ j, j<=mask->owner.getD j (some 0) = ow owner j:=fun j hj => by
   unfold ow
   simp [Array.getD, hsz, show j < mask + 1 by row_cond lo]
  have hat : ∀ a, a<=runEnd mask (lp mask h n).1 - (lp mask h n).1->(pr mask h (sp mask h n + a)).j = (lp mask h n).1 + a:=fun a ha => by rw [pr_run (pr_sp mask h n) a ha]; rfl
  have hrest : ∀ K, K<=runEnd mask (lp mask h n).1 - (lp mask h n).1 + 1->(∀ k', k' < K->(owner.getD ((lp mask h n).1 + k') (some 0)).isNone = false)->∀ s', s' < sp mask h n + K->ow owner (pr mask h s').j ≠ none:=fun K hK hf s' hs' => by
   by_cases hs : s' < sp mask h n
   ·exact hall s' hs
   ·obtain ⟨a, rfl⟩ : ∃ a, s' = sp mask h n + a:=⟨s' - sp mask h n, by row_cond lo⟩
    rw [hat a (by row_cond lo), ← hg _ (by row_cond lo)]
    intro z
    have:=hf a (by row_cond lo)
    rw [z] at this
    cases this
  unfold layClean.free
  rcases find_range (fun k => (owner.getD ((lp mask h n).1 + k) (some 0)).isNone) (runEnd mask (lp mask h n).1 + 1 - (lp mask h n).1) with ⟨k, e, hk, hfk, hfb⟩ | ⟨e, hf⟩
  ·rw [e]
   refine ⟨sp mask h n + k, by rw [hat k (by row_cond lo)], ?_, by rw [hat k (by row_cond lo)]; row_cond lo, hrest k (by row_cond lo) hfb⟩
   rw [hat k (by row_cond lo), ← hg _ (by row_cond lo)]
   simpa using hfk
  ·rw [e]
   have hne' : n ≠ ne:=fun z => by
    subst z
    have:=hf 0 (by row_cond lo)
    rw [Nat.add_zero, hne, hg je hjm, hje] at this
    cases this
   have ih:=free_ok hsz hne hje hjm fuel (n + 1) (by row_cond lo) (by row_cond lo) (fun s' hs' => hrest _ (Nat.le_refl _) (fun k' hk' => hf k' (by row_cond lo)) s' (by
    have : sp mask h (n + 1) = sp mask h n + (runEnd mask (lp mask h n).1 - (lp mask h n).1) + 1:=rfl
    row_cond lo))
   exact ih
end SH
namespace SH
open PySem PySem.SetTable
structure Lay (mask : Nat) (hs : List Int) (owner : Array (Option Nat)) : Prop where
 sz : owner.size = mask + 1
 at' : ∀ k h, hs[k]? = some h->∃ s, (pr mask h s).j<=mask/\ow owner (pr mask h s).j = some k/\∀ s', s' < s->ow owner (pr mask h s').j ≠ none
 un : ∀ j k, ow owner j = some k->k < hs.length
 inj : ∀ j j' k, ow owner j = some k->ow owner j' = some k->j = j'
theorem Lay.start (mask : Nat) : Lay mask [] (Array.replicate (mask + 1) none):=by
 have hn : ∀ j, ow (Array.replicate (mask + 1) none) j = none:=fun j => by
  unfold ow
  simp only [Array.getD]
  split
  ·simp
  ·rfl
 exact ⟨by simp, fun k h hk => by simp at hk, fun j k e => (by rw [hn] at e; cases e), fun j j' k e => (by rw [hn] at e; cases e)⟩
theorem Lay.gap {mask : Nat} {hs : List Int} {owner : Array (Option Nat)} (x : Lay mask hs owner) (hl : hs.length<=mask) : ∃ j, j<=mask/\ow owner j = none:=by
 apply Classical.byContradiction
 intro hn
 have hall : ∀ j, j<=mask->∃ k, ow owner j = some k:=fun j hj => by
  cases e : ow owner j with
  | some k => exact ⟨k, rfl⟩
  | none => exact absurd ⟨j, hj, e⟩ hn
 have hnd : ((List.range (mask + 1)).map fun j => (ow owner j).getD 0).Nodup:=by
  rw [List.Nodup, List.pairwise_map]
  refine List.Pairwise.imp_of_mem (fun {a b} ha hb hab => ?_) List.nodup_range
  obtain ⟨k, hk⟩:=hall a (by have:=List.mem_range.mp ha; row_cond lo)
  obtain ⟨k', hk'⟩:=hall b (by have:=List.mem_range.mp hb; row_cond lo)
  rw [hk, hk']
  intro e
  have e : k = k':=e
  subst e
  exact hab (x.inj a b k hk hk')
 have:=List.Nodup.length_le_of_subset (l₂:=List.range hs.length) hnd fun k hk => by
  obtain ⟨j, hj, rfl⟩:=List.mem_map.mp hk
  obtain ⟨k, e⟩:=hall j (by have:=List.mem_range.mp hj; row_cond lo)
  rw [e]
  exact List.mem_range.mpr (x.un j k e)
 rw [List.length_map, List.length_range, List.length_range] at this
 row_cond lo
theorem ow_set {owner : Array (Option Nat)} {j q : Nat} {o : Option Nat} (hj : j < owner.size) : ow (owner.setIfInBounds j o) q = if q = j then o else ow owner q:=by
 unfold ow
 simp only [Array.getD, Array.size_setIfInBounds]
 by_cases e : q = j
 ·subst e
  simp [hj]
 ·rw [if_neg e]
  split
  ·rename_i hq
   simp [Array.getElem_setIfInBounds, hq, Ne.symm e]
  ·rfl
theorem Lay.next {mask m : Nat} (hm : mask + 1 = 2 ^ m) {hs : List Int} {owner : Array (Option Nat)} (x : Lay mask hs owner) (hl : hs.length<=mask) (h : Int) :
  ∃ j, layClean.free mask owner (turns mask) (bits h % (mask + 1)) (bits h) = some j/\Lay mask (hs ++ [h]) (owner.setIfInBounds j (some hs.length)):=by
 obtain ⟨je, hje, he⟩:=x.gap hl
 obtain ⟨ne, hne, el⟩:=lp_all hm h je hje
 obtain ⟨s, e1, e2, e3, e4⟩:=free_ok x.sz el he hje (turns mask) 0 (by unfold turns; row_cond lo) (Nat.zero_le _) (fun s' hs' => by cases hs')
 have hjs : (pr mask h s).j < owner.size:=by rw [x.sz]; row_cond lo
 have hmono : ∀ q, ow owner q ≠ none->ow (owner.setIfInBounds (pr mask h s).j (some hs.length)) q ≠ none:=fun q hq => by
  rw [ow_set hjs]
  split
  ·simp
  ·exact hq
 refine ⟨_, e1, ⟨by rw [Array.size_setIfInBounds]; exact x.sz, fun k h' hk => ?_, fun j k e => ?_, fun j j' k e e' => ?_⟩⟩
 ·by_cases hkl : k < hs.length
  ·rw [List.getElem?_append_left hkl] at hk
   obtain ⟨s2, a1, a2, a3⟩:=x.at' k h' hk
   refine ⟨s2, a1, ?_, fun s' hs' => hmono _ (a3 s' hs')⟩
   rw [ow_set hjs, if_neg (fun z => by rw [z, e2] at a2; cases a2)]
   exact a2
  ·have hk2:=(List.getElem?_eq_some_iff.mp hk).1
   rw [List.length_append] at hk2
   simp at hk2
   have : k = hs.length:=by row_cond lo
   subst this
   rw [List.getElem?_append_right (Nat.le_refl _), Nat.sub_self] at hk
   cases hk
   exact ⟨s, e3, by rw [ow_set hjs, if_pos rfl], fun s' hs' => hmono _ (e4 s' hs')⟩
 ·rw [ow_set hjs] at e
  rw [List.length_append]
  split at e
  ·cases e; simp
  ·have:=x.un j k e; row_cond lo
 ·rw [ow_set hjs] at e e'
  split at e
  ·rename_i h1
   cases e
   split at e'
   ·rename_i h2; rw [h1, h2]
   ·have:=x.un j' _ e'; row_cond lo
  ·split at e'
   ·cases e'
    have:=x.un j _ e; row_cond lo
   ·exact x.inj j j' k e e'
end SH
namespace SH
open PySem PySem.W PyProof.Rows
section
variable {prog : Program} {w : World} {A : Around} {E : Value->Shared->Prop} {s : Shared} {U : Addr->Prop}
noncomputable abbrev TK (prog : Program) (w : World):=tupleKind (intKind prog w)
structure ST (prog : Program) (w : World) (U : Addr->Prop) (a : Addr) (es : Array (Int × Value)) (ep : Nat) (t : SetTable) (ks : List (List Int)) (h : Heap) : Prop where
 r : SS.SetR prog w a es ep t h
 ok : TOk t
 hi : HI t es.toList
 pl : t.plain = true
 msk : 7<=t.mask/\t.mask<=8191
 len : ks.length = es.size
 gd : ∀ (i : Nat) e k, es.toList[i]? = some e->ks[i]? = some k->∃ b, e = ((TK prog w).hash k, .ref b)/\(TK prog w).is h k b/\U b
 nd : ks.Nodup
theorem ST.at {a : Addr} {es : Array (Int × Value)} {ep : Nat} {t : SetTable} {ks : List (List Int)} {h h' : Heap} (x : ST prog w U a es ep t ks h) (k : ∀ o, h.get? a = some o->h'.get? a = some o) (kt : ∀ b ks, U b->(TK prog w).is h ks b->(TK prog w).is h' ks b) : ST prog w U a es ep t ks h' :=
 ⟨x.r.at k, x.ok, x.hi, x.pl, x.msk, x.len, fun i e q h1 h2 => let ⟨b, e1, e2⟩:=x.gd i e q h1 h2; ⟨b, e1, kt b q e2.2 e2.1, e2.2⟩, x.nd⟩
end
end SH
namespace SH
open PySem PySem.W PyProof.Rows SS
section
variable {prog : Program} {w : World} {A : Around} {E : Value->Shared->Prop} {s : Shared} {U : Addr->Prop}
section
variable {R : Result->Shared->Prop} {I : Addr} {fp wr : List Addr} {n : Nat} {P : Nat->Value->Prop} {St : Nat->Heap->Prop}
end
end
end SH
namespace SH
open PySem PySem.W PyProof.Rows SS
section
variable {prog : Program} {w : World} {A : Around} {E : Value->Shared->Prop} {s : Shared} {a : Addr}
end
end SH
namespace L2
open PySem PySem.W PyProof.Rows
section
variable {X : Cx}
end
end L2
namespace VL
open PySem PySem.Spec L2
section
variable {B : Bs} {env : En} {QO : Sl->En->Prop} {K : PySem.W.Frag} {ta : TA} {P : Program} {w : World}
end
end VL
namespace L2
open PySem PySem.W PyProof.Rows
section
variable {X : Cx} {pins : List (Addr × Obj)} {σ : St} {H : Hp} {s : Shared} {a : Addr} {kvs : List (Key × V)} {k : Key} {A : Around} {E : Value->Shared->Prop}
end
section
variable {X : Cx} {o e f : Expr} {apos cpos : Pos} {td ty tx : TE}
end
end L2
namespace VL
open PySem PySem.Spec L2
section
variable {B : Bs} {env : En} {QO : Sl->En->Prop} {Q' : PyData->En->Prop} {D' : VEnds} {K : PySem.W.Frag} {i : Nat}
end
end VL
namespace VL
open PySem PySem.Spec L2
end VL
namespace VL
open PySem PySem.Spec L2
end VL
namespace VL
open PySem PySem.Spec L2
section
variable {B : Bs} {env : En} {QO : Sl->En->Prop} {Q' : PyData->En->Prop} {K : PySem.W.Frag} {E : XK} {i : Nat}
end
end VL
namespace VL
open PySem L2
theorem conn_len {n : Int} {es : List (Int × Int)} (h : Conn n (Tied es)) : ∃ fs : List (Int × Int), fs.Nodup/\(∀ p ∈ fs, p ∈ es)/\(fs.length : Int) = (n - 1).toNat:=by
 have key : ∀ i : Nat, ∃ p : Int × Int, (i : Int) + 1 < n->p ∈ es/\∃ (u : Int) (d : Nat), (p = (u, (i : Int) + 1)\/p = ((i : Int) + 1, u))/\Gr.Dist (Tied es) 0 u d/\Gr.Dist (Tied es) 0 ((i : Int) + 1) (d + 1):=by
  intro i
  by_cases hi : (i : Int) + 1 < n
  ·obtain ⟨k, w⟩:=h 0 ((i : Int) + 1) (by row_cond lo) (by row_cond lo) (by row_cond lo) hi
   obtain ⟨d, _, hd⟩:=Gr.Dist.of_walk w
   cases d with
   | zero =>
    have hz:=hd.1
    generalize hv : (i : Int) + 1 = v at hz
    cases hz
    row_cond lo
   | succ d =>
    obtain ⟨u, ht, hu⟩:=hd.pred
    rcases ht with ht | ht
    ·exact ⟨_, fun _ => ⟨ht, u, d, .inl rfl, hu, hd⟩⟩
    ·exact ⟨_, fun _ => ⟨ht, u, d, .inr rfl, hu, hd⟩⟩
  ·exact ⟨(0, 0), fun q => absurd q hi⟩
 obtain ⟨f, hf⟩ : ∃ f : Nat->Int × Int, ∀ i : Nat, (i : Int) + 1 < n->f i ∈ es/\∃ (u : Int) (d : Nat), (f i = (u, (i : Int) + 1)\/f i = ((i : Int) + 1, u))/\Gr.Dist (Tied es) 0 u d/\Gr.Dist (Tied es) 0 ((i : Int) + 1) (d + 1):=⟨fun i => Classical.choose (key i), fun i => Classical.choose_spec (key i)⟩
 refine ⟨(List.range (n - 1).toNat).map f, ?_, fun p hp => ?_, by simp⟩
 ·unfold List.Nodup
  rw [List.pairwise_map]
  refine List.Pairwise.imp_of_mem ?_ List.nodup_range
  intro i j hi hj hij e
  have hi1:=List.mem_range.mp hi
  have hj1:=List.mem_range.mp hj
  obtain ⟨_, u, d, e1, hu, hd⟩:=hf i (by row_cond lo)
  obtain ⟨_, v, c, e2, hv, hc⟩:=hf j (by row_cond lo)
  rw [e] at e1
  have hsw : u = (j : Int) + 1/\v = (i : Int) + 1:=by
   rcases e1 with e1 | e1 <;> rcases e2 with e2 | e2 <;> rw [e1] at e2 <;> simp only [Prod.mk.injEq] at e2 <;> row_cond lo
  rw [hsw.1] at hu
  rw [hsw.2] at hv
  have:=hu.uniq hc
  have:=hv.uniq hd
  row_cond lo
 ·obtain ⟨i, hi, rfl⟩:=List.mem_map.mp hp
  exact (hf i (by have:=List.mem_range.mp hi; row_cond lo)).1
noncomputable def lessE (es : List (Int × Int)) (t : Int × Int) : List (Int × Int):=es.filter fun p => !decide (p = t)
theorem lessE_mem {es : List (Int × Int)} {t p : Int × Int} : p ∈ lessE es t ↔ p ∈ es/\p ≠ t:=by simp [lessE]
theorem tied_less {es : List (Int × Int)} {a b : Int} (h : (a, b) ∈ es) (x y : Int) : Tied es x y ↔ Tied (lessE es (a, b)) x y\/(x = a/\y = b)\/(x = b/\y = a):=by
 unfold Tied
 rw [lessE_mem, lessE_mem]
 constructor
 ·rintro (q | q)
  ·by_cases e : (x, y) = (a, b)
   ·exact .inr (.inl (by simpa using e))
   ·exact .inl (.inl ⟨q, e⟩)
  ·by_cases e : (y, x) = (a, b)
   ·simp only [Prod.mk.injEq] at e
    exact .inr (.inr ⟨e.2, e.1⟩)
   ·exact .inl (.inr ⟨q, e⟩)
 ·rintro ((q | q) | ⟨rfl, rfl⟩ | ⟨rfl, rfl⟩)
  ·exact .inl q.1
  ·exact .inr q.1
  ·exact .inl h
  ·exact .inr h
theorem tree_parts {n : Int} {es : List (Int × Int)} {a b : Int} (hn : 1<=n) (hl : (es.length : Int) = n - 1) (hc : Conn n (Tied es)) (h : (a, b) ∈ es) (k : Nat) : ¬ Gr.Walk (Tied (lessE es (a, b))) a k b:=fun hw => by
 have hs : ∀ u v, Tied (lessE es (a, b)) u v->Tied (lessE es (a, b)) v u:=fun _ _ t => t.symm
 have hc' : Conn n (Tied (lessE es (a, b))):=fun u v u0 u1 v0 v1 => by
  obtain ⟨j, w⟩:=hc u v u0 u1 v0 v1
  clear v0 v1
  induction w with
  | refl => exact ⟨0, .refl⟩
  | step _ t ih =>
   obtain ⟨m, w⟩:=ih
   rcases (tied_less h _ _).mp t with t | ⟨rfl, rfl⟩ | ⟨rfl, rfl⟩
   ·exact ⟨_, .step w t⟩
   ·exact ⟨_, w.app hw⟩
   ·exact ⟨_, w.app (hw.rev hs)⟩
 obtain ⟨fs, nd, sub, len⟩:=conn_len hc'
 have:=List.Nodup.length_le_of_subset (l₁:=(a, b) :: fs) (l₂:=es) (List.nodup_cons.mpr ⟨fun q => (lessE_mem.mp (sub _ q)).2 rfl, nd⟩) fun p hp => by
  rcases List.mem_cons.mp hp with rfl | hp
  ·exact h
  ·exact (lessE_mem.mp (sub _ hp)).1
 simp only [List.length_cons] at this
 row_cond lo
section
variable {T T' : Int->Int->Prop} {a b : Int}
end
theorem walk_off {T T' : Int->Int->Prop} {b v : Int} {K : Nat} (hv : Gr.Dist T b v (K + 1)) (hT : ∀ x y, x ≠ v->y ≠ v->T x y->T' x y) : ∀ (k : Nat) (p : Int), k<=K->Gr.Dist T b p k->Gr.Walk T' b k p
 | 0, p, _, h => by cases h.1; exact .refl
 | k + 1, p, hk, h => by
  obtain ⟨u, t, hu⟩:=h.pred
  refine .step (walk_off hv hT k u (by row_cond lo) hu) (hT u p ?_ ?_ t)
  ·rintro rfl; have:=hu.uniq hv; row_cond lo
  ·rintro rfl; have:=h.uniq hv; row_cond lo
theorem near_uniq {n : Int} {es : List (Int × Int)} {b v p q : Int} {K : Nat} (hn : 1<=n) (hl : (es.length : Int) = n - 1) (hc : Conn n (Tied es)) (tp : Tied es v p) (tq : Tied es v q) (hp : Gr.Dist (Tied es) b p K) (hq : Gr.Dist (Tied es) b q K) (hv : Gr.Dist (Tied es) b v (K + 1)) : p = q:=by
 apply Classical.byContradiction
 intro hne
 have pv : p ≠ v:=by rintro rfl; have:=hp.uniq hv; row_cond lo
 have qv : q ≠ v:=by rintro rfl; have:=hq.uniq hv; row_cond lo
 have key : ∀ t : Int × Int, (t = (v, p)\/t = (p, v))->∃ k, Gr.Walk (Tied (lessE es t)) v k p:=by
  intro t ht
  have hs : ∀ u v, Tied (lessE es t) u v->Tied (lessE es t) v u:=fun _ _ t => t.symm
  have hT : ∀ x y, x ≠ v->y ≠ v->Tied es x y->Tied (lessE es t) x y:=fun x y hx hy h => by
   have n1 : (x, y) ≠ t:=fun e => by rw [← e] at ht; simp only [Prod.mk.injEq] at ht; row_cond lo
   have n2 : (y, x) ≠ t:=fun e => by rw [← e] at ht; simp only [Prod.mk.injEq] at ht; row_cond lo
   rcases h with h | h
   ·exact .inl (lessE_mem.mpr ⟨h, n1⟩)
   ·exact .inr (lessE_mem.mpr ⟨h, n2⟩)
  have hvq : Tied (lessE es t) v q:=by
   have n1 : (v, q) ≠ t:=fun e => by rw [← e] at ht; simp only [Prod.mk.injEq] at ht; row_cond lo
   have n2 : (q, v) ≠ t:=fun e => by rw [← e] at ht; simp only [Prod.mk.injEq] at ht; row_cond lo
   rcases tq with h | h
   ·exact .inl (lessE_mem.mpr ⟨h, n1⟩)
   ·exact .inr (lessE_mem.mpr ⟨h, n2⟩)
  exact ⟨_, (Gr.Walk.step .refl hvq).app (((walk_off hv hT K q (Nat.le_refl _) hq).rev hs).app (walk_off hv hT K p (Nat.le_refl _) hp))⟩
 rcases tp with h | h
 ·obtain ⟨k, w⟩:=key (v, p) (.inl rfl)
  exact tree_parts hn hl hc h k w
 ·obtain ⟨k, w⟩:=key (p, v) (.inr rfl)
  exact tree_parts hn hl hc h k (w.rev fun _ _ t => t.symm)
structure WayTo (T : Int->Int->Prop) (a b : Int) (d : Nat) (ws : List Int) : Prop where
 len : ws.length = d + 1
 fst : ws[0]? = some a
 far : ∀ (i : Nat) x, ws[i]? = some x->Gr.Dist T b x (d - i)
 tie : ∀ (i : Nat) x y, ws[i]? = some x->ws[i + 1]? = some y->T x y
theorem WayTo.uniq {n : Int} {es : List (Int × Int)} {a b : Int} {d : Nat} {ws zs : List Int} (hn : 1<=n) (hl : (es.length : Int) = n - 1) (hc : Conn n (Tied es)) (h : WayTo (Tied es) a b d ws) (g : WayTo (Tied es) a b d zs) : ws = zs:=by
 have key : ∀ i : Nat, i<=d->ws[i]? = zs[i]?:=by
  intro i
  induction i with
  | zero => intro _; rw [h.fst, g.fst]
  | succ i ih =>
   intro hi
   have e:=ih (by row_cond lo)
   obtain ⟨x, hx⟩ : ∃ x, ws[i]? = some x:=⟨_, List.getElem?_eq_getElem (by rw [h.len]; row_cond lo)⟩
   obtain ⟨y, hy⟩ : ∃ y, ws[i + 1]? = some y:=⟨_, List.getElem?_eq_getElem (by rw [h.len]; row_cond lo)⟩
   obtain ⟨z, hz⟩ : ∃ z, zs[i + 1]? = some z:=⟨_, List.getElem?_eq_getElem (by rw [g.len]; row_cond lo)⟩
   have hx' : zs[i]? = some x:=by rw [← e]; exact hx
   have dx:=h.far i x hx
   have dy:=h.far (i + 1) y hy
   have dz:=g.far (i + 1) z hz
   rw [show d - i = d - (i + 1) + 1 by row_cond lo] at dx
   rw [hy, hz, near_uniq hn hl hc (h.tie i x y hx hy) (g.tie i x z hx' hz) dy dz dx]
 refine List.ext_getElem? fun i => ?_
 by_cases hi : i<=d
 ·exact key i hi
 ·rw [List.getElem?_eq_none (by rw [h.len]; row_cond lo), List.getElem?_eq_none (by rw [g.len]; row_cond lo)]
theorem WayTo.walk {T : Int->Int->Prop} {a b : Int} {d : Nat} {zs : List Int} (h : WayTo T a b d zs) : ∀ (j : Nat) x, zs[j]? = some x->Gr.Walk T a j x
 | 0, x, e => by rw [h.fst] at e; cases e; exact .refl
 | j + 1, x, e => by
  have hj:=(List.getElem?_eq_some_iff.mp e).1
  obtain ⟨y, hy⟩ : ∃ y, zs[j]? = some y:=⟨_, List.getElem?_eq_getElem (by row_cond lo)⟩
  exact .step (h.walk j y hy) (h.tie j y x hy e)
theorem WayTo.rev {T : Int->Int->Prop} {a b : Int} {d : Nat} {zs : List Int} (hs : ∀ u v, T u v->T v u) (h : WayTo T b a d zs) : WayTo T a b d zs.reverse:=by
 have get : ∀ (i : Nat) x, zs.reverse[i]? = some x->i<=d/\zs[d - i]? = some x:=fun i x e => by
  have hi:=(List.getElem?_eq_some_iff.mp e).1
  rw [List.length_reverse, h.len] at hi
  rw [List.getElem?_reverse (by rw [h.len]; exact hi), h.len] at e
  exact ⟨by row_cond lo, by rw [show d - i = d + 1 - 1 - i by row_cond lo]; exact e⟩
 have hab : Gr.Dist T a b d:=h.far 0 b h.fst
 refine ⟨by rw [List.length_reverse, h.len], ?_, fun i x e => ?_, fun i x y e1 e2 => ?_⟩
 ·rw [List.getElem?_reverse (by rw [h.len]; row_cond lo), h.len]
  obtain ⟨x, hx⟩ : ∃ x, zs[d + 1 - 1 - 0]? = some x:=⟨_, List.getElem?_eq_getElem (by rw [h.len]; row_cond lo)⟩
  have:=h.far _ x hx
  rw [show d - (d + 1 - 1 - 0) = 0 by row_cond lo] at this
  rw [hx]
  cases this.1
  rfl
 ·obtain ⟨hi, e⟩:=get i x e
  refine ⟨h.walk (d - i) x e, fun k w => ?_⟩
  have h1:=h.far (d - i) x e
  rw [show d - (d - i) = i by row_cond lo] at h1
  have:=hab.2 _ (h1.1.app (w.rev hs))
  row_cond lo
 ·obtain ⟨hi, e1⟩:=get i x e1
  obtain ⟨hi2, e2⟩:=get (i + 1) y e2
  exact hs _ _ (h.tie (d - (i + 1)) y x e2 (by rw [show d - (i + 1) + 1 = d - i by row_cond lo]; exact e1))
end VL
namespace L2
open PySem PySem.Spec PyProof.Rows
structure FlyT (base : Heap) (l : List Env) (e T : Addr) (cls : Value) (h : Heap) : Prop where
 stay : base.StaysIn h
 new : base.get? e = none
 newT : base.get? T = none
 funs : h.FunFrames base l
 tr : ∃ oe vs oT ts a0, h.get? e = some oe/\(oe.cls = cls/\vs[0]? = some a0)/\oe.data = .fields vs/\vs[1]? = some (.ref T)/\T ≠ e/\h.get? T = some oT/\oT.data = .fields ts/\ts[3]? = some .none
theorem FlyT.of {base h0 h' : Heap} {as : List Addr} {l : List Env} {e : Addr} {cls a0 : Value} (x : Heap.FlyingW (PySem.W.hideAll h0 as) l e cls a0 h') (up : h0.UpToSlots h') (st : base.StaysIn h0) (ha : ∀ b ∈ as, base.get? b = none) (fn : h0.FunFrames base l) (ne : base.get? e = none) :
  ∃ T, FlyT base l e T cls h'/\(T ∈ as\/h0.get? T = none):=by
 obtain ⟨k1, k2, k3, oe, vs, T, oT, ts, he, hc, hd, h1, hT, hTe, hoT, hdT, h3⟩:=x
 have hT' : T ∈ as\/h0.get? T = none:=by
  by_cases m : T ∈ as
  ·exact .inl m
  ·cases q : h0.get? T with
   | none => exact .inr rfl
   | some o => rw [PySem.W.hideAll_get as q m] at hT; cases hT
 refine ⟨T, ⟨fun b o q => k1 b o (PySem.W.hideAll_get as (st b o q) fun m => by rw [ha b m] at q; cases q), ne, ?_, fn.of_keeps fun b o hb hn => ?_, oe, vs, oT, ts, a0, he, hc, hd, h1, hTe, hoT, hdT, h3⟩, hT'⟩
 ·rcases hT' with m | m
  ·exact ha T m
  ·exact PySem.W.fresh_of_stays st m
 ·obtain ⟨sl, q⟩:=up b o hb hn
  exact ⟨_, q, rfl⟩
theorem fly_no {base h0 h' : Heap} {l l' : List Env} {e T : Addr} {cls : Value} (fn : h0.FunFrames base l) (up : h0.UpToSlots h') (y : FlyT base l' e T cls h') : T ∉ frs l:=fun m => by
 obtain ⟨_, o, ho, hn⟩:=fn.mem m
 obtain ⟨sl, q⟩:=up T o ho hn
 obtain ⟨oe, vs, oT, ts, a0, _, _, _, _, _, hoT, hdT, _⟩:=y.tr
 rw [q] at hoT; cases hoT
 exact hn ts hdT
theorem frs_mem {l : List Env} : ∀ env ∈ l, ∀ a, env.frame = some a->a ∈ frs l:=fun env he a ha => List.mem_filterMap.mpr ⟨env, he, ha⟩
section
variable {M : Model} {A : Around} {E : Value->Shared->Prop} {s : Shared} {base : Heap} {env : Env} {outer : List Env} {L e T : Addr} {cls : Value} {Q : Unit->Shared->Prop}
theorem leave_on (hfr : A.frames = some (env :: outer)) (hf : env.frame = some L) (x : FlyT base (env :: outer) e T cls s.heap)
  (hQ : ∀ h' T', FlyT base outer e T' cls h'->(T' = T\/s.heap.get? T' = none)->(∀ b o, s.heap.get? b = some o->b ≠ e->b ≠ T->b ∉ frs (env :: outer)->h'.get? b = some o)->s.heap.UpToSlots h'->Q () { s with heap:=h' }) : wpAny M A (leaving env (.ref e)) Q E s:=by
 obtain ⟨oe, vs, oT, ts, a0, he, hc, hd, h1, hTe, hoT, hdT, h3⟩:=id x.tr
 refine wpAny_leaves_onW (base:=PySem.W.hideAll s.heap (e :: T :: frs (env :: outer))) hfr hf ⟨fun b o q => PySem.W.of_hideAll _ q, PySem.W.hideAll_none _ (.head _), PySem.W.funFrames_hide x.funs fun en hn a ha => .tail _ (.tail _ (frs_mem en hn a ha)),
  oe, vs, T, oT, ts, he, hc, hd, h1, PySem.W.hideAll_none _ (.tail _ (.head _)), hTe, hoT, hdT, h3⟩ fun h' f up => ?_
 obtain ⟨T', y, hT'⟩:=FlyT.of (base:=base) f up x.stay (fun b hb => by
  rcases List.mem_cons.mp hb with z | hb
  ·rw [z]; exact x.new
  ·rcases List.mem_cons.mp hb with z | hb
   ·rw [z]; exact x.newT
   ·exact (x.funs.mem hb).1) x.funs.2.2 x.new
 refine hQ h' T' y ?_ (fun b o q n1 n2 n3 => f.1 b o (PySem.W.hideAll_get _ q fun z => ?_)) up
 ·rcases hT' with z | z
  ·rcases List.mem_cons.mp z with z | z
   ·obtain ⟨_, _, _, _, _, _, _, _, _, n, _⟩:=y.tr
    exact absurd z n
   ·rcases List.mem_cons.mp z with z | z
    ·exact .inl z
    ·exact absurd z (fly_no x.funs up y)
  ·exact .inr z
 ·rcases List.mem_cons.mp z with z | z
  ·exact n1 z
  ·rcases List.mem_cons.mp z with z | z
   ·exact n2 z
   ·exact n3 z
theorem leave_made {h : Heap} {args : List Value} (hfr : A.frames = some (env :: outer)) (hf : env.frame = some L) (st : base.StaysIn h) (fn : h.FunFrames base (env :: outer)) (hx : Heap.MadeExcOf h s.heap e cls args)
  (hQ : ∀ h' T', FlyT base outer e T' cls h'->h.get? T' = none->(∀ b o, h.get? b = some o->b ∉ frs (env :: outer)->h'.get? b = some o)->h.UpToSlots h'->Q () { s with heap:=h' }) : wpAny M A (leaving env (.ref e)) Q E s:=by
 refine wpAny_leaves_madeW (base:=PySem.W.hideAll h (frs (env :: outer))) hfr hf (fun b o q => PySem.W.of_hideAll _ q) (PySem.W.funFrames_hide fn frs_mem) hx fun h' t f _ _ up => ?_
 have up' : h.UpToSlots h':=(Heap.UpToSlots.of_keeps hx.keeps).trans up
 obtain ⟨T', y, hT'⟩:=FlyT.of (base:=base) f up' st (fun b hb => (fn.mem hb).1) fn.2.2 (PySem.W.fresh_of_stays st hx.new)
 refine hQ h' T' y ?_ (fun b o q n => f.1 b o (PySem.W.hideAll_get _ q n)) up'
 rcases hT' with z | z
 ·exact absurd z (fly_no fn up' y)
 ·exact z
end
theorem ObjOk.has {P : Program} {w : World} {H : Hp} {h : Heap} {a : Addr} {o : HO} (x : ObjOk P w H h a o) : ∃ ob, h.get? a = some ob:=by
 cases o with
 | lst xs => obtain ⟨_, _, _, _, e⟩:=x; exact ⟨_, e⟩
 | tup xs => obtain ⟨_, _, _, ob, e, _⟩:=x; exact ⟨_, e⟩
 | dK kvs => obtain ⟨_, _, _, _, o, _, _, e, _⟩:=x; exact ⟨_, e⟩
 | dT kvs => obtain ⟨_, _, _, _, o, _, _, e, _⟩:=x; exact ⟨_, e⟩
 | set S n => obtain ⟨o, _, _, _, e, _⟩:=x; exact ⟨_, e⟩
 | ins C dx fs => obtain ⟨_, _, _, e, _⟩:=x; exact ⟨_, e⟩
 | own y => exact x
 | xd fs => obtain ⟨_, ⟨_, _, _, e, _⟩, _⟩:=x; exact ⟨_, e⟩
 | rng lo hi => obtain ⟨_, _, _, e⟩:=x; exact ⟨_, e⟩
 | frz ob u => obtain ⟨e, _⟩:=x; exact ⟨_, e⟩
 | tbl ps => exact ⟨_, show h.get? a = some _ from x⟩
 | met f y => exact ⟨_, show h.get? a = some _ from x⟩
 | ext φ => obtain ⟨_, e, _⟩:=x; exact e
theorem HOk.no {P : Program} {w : World} {H : Hp} {h : Heap} {a : Addr} (x : HOk P w H h) (e : h.get? a = none) : H a = none:=by
 cases q : H a with
 | none => rfl
 | some o => obtain ⟨ob, z⟩:=(x a o q).has; rw [e] at z; cases z
noncomputable def CXE (P : Program) (w : World) (base : Heap) : CXT:=fun outer H s E e s' => ∃ ea T C H', e = .ref ea/\s'.os = s.os/\AllBare s'.gens/\Un (frs outer) [] H H' s.heap s'.heap/\HOk P w H' s'.heap /\
 FlyT base outer ea T (.ref C) s'.heap/\s.heap.get? ea = none/\s.heap.get? T = none/\H' ea = none/\H' T = none/\E (.ref C) none H'
section
variable {P : Program} {w : World} {K : PySem.W.Frag} {mg : Str->Option Value} {base : Heap} {N : List Str} {qual : Str} {scope : Scope} {f : Addr} {cd : Value} {A : Around} {outer : List Env} {s0 : Shared} {H0 : Hp} {E : XK}
theorem Un.back {X : Cx} {pins : List (Addr × Obj)} {σ : St} {H : Hp} {s : Shared} {h' : Heap} (I : Inv X pins σ H s) (hx : X.ex = []) (keep : ∀ b o, X.s₀.heap.get? b = some o->s.heap.get? b = some o->b ∉ frs X.stack->h'.get? b = some o)
  (keep' : ∀ b o o', X.s₀.heap.get? b = some o->s.heap.get? b = some o'->∃ o2, h'.get? b = some o2) (up : s.heap.UpToSlots h') : Un X.fs [] X.H₀ H X.s₀.heap h':=by
 have nl : ∀ b o, X.s₀.heap.get? b = some o->b ∉ X.fs->b ∉ frs X.stack:=fun b o q nf m => by
  rcases List.mem_cons.mp (I.stkSub b m) with z | z
  ·exact absurd (Nat.lt_of_lt_of_le (Heap.lt_size q) (z ▸ I.ok.above)) (Nat.lt_irrefl _)
  ·exact nf z
 have nx : ∀ b : Addr, b ∉ X.ex:=fun b z => by rw [hx] at z; cases z
 refine ⟨fun b o q n hb _ => keep b o q (I.base.keep b o q n hb (nx b)) (nl b o q hb), fun b o q n hb _ => ?_, fun b o q n _ => I.base.free b o q n (nx b), fun b o q _ => ?_, I.base.tups, I.base.frzs, I.base.tbls⟩
 ·obtain ⟨sl, e⟩:=I.base.slot b o q n hb (nx b)
  obtain ⟨_, o', e', hn⟩:=I.funs.mem hb
  rw [e] at e'; cases e'
  obtain ⟨sl', e2⟩:=up b _ e hn
  exact ⟨sl', e2⟩
 ·obtain ⟨o', e⟩:=I.base.there b o q (nx b)
  exact keep' b o o' q e
theorem passE : Passes (CXE P w base) (cxOf (CXE P w base) P w K mg base N qual scope f cd A outer s0 H0 E) E:=by
 intro pins σ H s e s' I h
 obtain ⟨ea, T, C, H', rfl, ho, hg, un, hok, fl, ne, nT, he, hT, hE⟩:=h
 have J:=I.call' ho un hok hg (fun b z => absurd z (by simp))
 have pre : ∀ b o, s0.heap.get? b = some o->∃ o', s.heap.get? b = some o':=fun b o q => I.base.there b o q (fun z => absurd (show b ∈ ([] : List Addr) from z) (by simp))
 have n1 : ∀ b o, s0.heap.get? b = some o->b ≠ ea:=fun b o q z => by obtain ⟨o', r⟩:=pre b o q; rw [z, ne] at r; cases r
 have n2 : ∀ b o, s0.heap.get? b = some o->b ≠ T:=fun b o q z => by obtain ⟨o', r⟩:=pre b o q; rw [z, nT] at r; cases r
 refine leave_on I.ok.frames rfl fl fun h' T' fl' hT' keep up => ?_
 have U:=Un.back J rfl (h':=h') (fun b o q r m => keep b o r (n1 b o q) (n2 b o q) m) (fun b o o' q r => by
  by_cases m : b ∈ frs (envOfC qual scope s0.heap.objs.size f cd :: outer)
  ·obtain ⟨_, o2, e2, hn⟩:=fl.funs.mem m
   obtain ⟨sl, e3⟩:=up b o2 e2 hn
   exact ⟨_, e3⟩
  ·exact ⟨o', keep b o' r (n1 b o q) (n2 b o q) m⟩) up
 have tr : ∀ b u, H' b = some u->∀ v, s'.heap.get? b = some v->h'.get? b = some v:=fun b u q v r => keep b v r (fun z => by rw [z, he] at q; cases q) (fun z => by rw [z, hT] at q; cases q) (fun m => by rw [J.stkFree b m] at q; cases q)
 refine ⟨ea, T', C, H', rfl, ho.trans I.os, hg, U, fun b u q => (hok b u q).stay (fun c v hc r => ?_) (fun _ q => q) (fun _ _ q => q), fl', ?_, ?_, he, ?_, hE⟩
 ·rcases hc with z | z
  ·rw [z] at r ⊢; exact tr b u q v r
  ·exact tr c _ z v r
 ·cases q : s0.heap.get? ea with
  | none => rfl
  | some o => exact absurd rfl (n1 ea o q)
 ·cases q : s0.heap.get? T' with
  | none => rfl
  | some o =>
   rcases hT' with z | z
   ·exact absurd z (n2 T' o q)
   ·obtain ⟨o', r⟩:=J.base.there T' o q (fun z => absurd (show T' ∈ ([] : List Addr) from z) (by simp))
    rw [z] at r; cases r
 ·rcases hT' with z | z
  ·rw [z]; exact hT
  ·exact hok.no z
theorem xe_made {pins : List (Addr × Obj)} {σ : St} {H : Hp} {s : Shared} {h1 : Heap} {e C : Addr} {args : List Value} (I : Inv (cxOf (CXE P w base) P w K mg base N qual scope f cd A outer s0 H0 E) pins σ H s) (m : Heap.MadeExcOf s.heap h1 e (.ref C) args)
  (hE : E (.ref C) none H) : (cxOf (CXE P w base) P w K mg base N qual scope f cd A outer s0 H0 E).xe (.ref e) { s with heap:=h1 }:=by
 have pre : ∀ b o, s0.heap.get? b = some o->∃ o', s.heap.get? b = some o':=fun b o q => I.base.there b o q (fun z => absurd (show b ∈ ([] : List Addr) from z) (by simp))
 refine leave_made (s:={ s with heap:=h1 }) I.ok.frames rfl I.bk I.stack m fun h' T' fl' hT' keep up => ?_
 have U:=Un.back I rfl (h':=h') (fun b o q r m => keep b o r m) (fun b o o' q r => by
  by_cases m : b ∈ frs (envOfC qual scope s0.heap.objs.size f cd :: outer)
  ·obtain ⟨_, o2, e2, hn⟩:=I.stack.mem m
   obtain ⟨sl, e3⟩:=up b o2 e2 hn
   exact ⟨_, e3⟩
  ·exact ⟨o', keep b o' r m⟩) up
 have tr : ∀ b u, H b = some u->∀ v, s.heap.get? b = some v->h'.get? b = some v:=fun b u q v r => keep b v r (fun m => by rw [I.stkFree b m] at q; cases q)
 refine ⟨e, T', C, H, rfl, I.os, I.bare, U, fun b u q => (I.hok b u q).stay (fun c v hc r => ?_) (fun _ q => q) (fun _ _ q => q), fl', ?_, ?_, I.hok.no m.new, I.hok.no hT', hE⟩
 ·rcases hc with z | z
  ·rw [z] at r ⊢; exact tr b u q v r
  ·exact tr c _ z v r
 ·cases q : s0.heap.get? e with
  | none => rfl
  | some o => obtain ⟨o', r⟩:=pre e o q; rw [m.new] at r; cases r
 ·cases q : s0.heap.get? T' with
  | none => rfl
  | some o => obtain ⟨o', r⟩:=pre T' o q; rw [hT'] at r; cases r
end
end L2
namespace L2
open PySem PySem.Spec PyProof.Rows
section
variable {M : Model} {A : Around} {E : Value->Shared->Prop}
variable {nm q nm' q' : Str} {C N D N' : Addr} {bs bm bs' bm' : List Value} {hdct hdct' : Bool} {sn sn' : List Str} {sub sub' : List Value} {ab ab' : Bool} {col col' : Option Bool} {dd dd' : Option Addr} {k0 k1 k2 k3 k5 j0 j1 j2 j3 j5 : Option Value} {newId newId' : String}
theorem excMatches_up {h : Heap} {g : Array GenState} {d : Drawn} {t : Nat} {os : OsState} {e : Addr} {oe : Obj} {Q : Bool->Shared->Prop}
  (hC : h.get? C = some (excClassObj nm q C N bs bm hdct sn sub ab col dd k0 k1 k2 k3 k5 newId)) (hD : h.get? D = some (excClassObj nm' q' D N' bs' bm' hdct' sn' sub' ab' col' dd' j0 j1 j2 j3 j5 newId')) (he : h.get? e = some oe) (hcls : oe.cls = .ref C)
  (hbase : bm'.contains (.type "BaseException") = true) (hin : (Value.ref C :: bm).contains (.ref D) = true) (hq : Q true ⟨h, g, d, t, os⟩) : wpAny M A (excMatches (.ref e) (.ref D)) Q E ⟨h, g, d, t, os⟩:=by
 have hcB : (Value.ref D :: bm').contains (.type "BaseException") = true:=by rw [List.contains_cons, hbase, Bool.or_true]
 have f:=tc_notTuple
 unfold excMatches
 repeat (first | (with_reducible refine wpAny_loadPart_at he ?_; rw [hcls]) | with_reducible refine wpAny_loadPart_at hD ?_ | (with_reducible refine wpAny_isSubtype_exc hD ?_; rw [hcB]) | (with_reducible refine wpAny_isSubtype_exc hC ?_; rw [hin]) | wp_step)
 exact hq
end
noncomputable abbrev bmV : List Value:=[.type "ValueError", .type "Exception", .type "BaseException", .type "object"]
abbrev XOk (K : PySem.W.Frag) (mg : Str->Option Value) (x : Str) (C : Addr) : Prop:=∀ h : Heap, K.In h->OwnCls x C bmV "ValueError.__new__" mg h
def XSub (K : PySem.W.Frag) (C D : Addr) : Prop:=∀ h : Heap, K.In h->∃ nm q N bs bm hdct sn sub ab col dd k0 k1 k2 k3 k5 newId,
 h.get? C = some (excClassObj nm q C N bs bm hdct sn sub ab col dd k0 k1 k2 k3 k5 newId)/\(Value.ref C :: bm).contains (.ref D) = true
section
variable {X : Cx}
theorem ps_raise {x : Str} {C : Addr} {np cpos pos : Pos} {e0 : Expr} {es : List Expr} {ta : TA} {W : Hp->Prop} (c : XOk X.K X.mg x C) (hg : Gl X x) (hc : X.calm = true) (ha : PA X (e0 :: es) ta)
  (hx : ∀ (pins : List (Addr × Obj)) (σ : St) (H : Hp) (s : Shared) (h1 : Heap) (e : Addr) (args : List Value), Inv X pins σ H s->Heap.MadeExcOf s.heap h1 e (.ref C) args->W H->X.xe (.ref e) { s with heap:=h1 })
  (hdb : (x == ("__debug__" : Str)) = false:=by decide) (he : starEach (e0 :: es) X.env = (false, eval e0 X.env) :: starEach es X.env:=by rfl) (hpl : (backTo cpos (starEach es X.env)).any (·.1) = false:=by rfl) :
  PS X (.Raise (some (.Call (.Name x np) (e0 :: es) [] cpos)) none pos) (fun _ σ H => ta σ H fun vs H1 => vs.length<=sizeLine/\W H1):=by
 intro pins s σ H D I h
 obtain ⟨tl, N, nm, q, bs, hdct, sn, sub, ab, col, dd, k0, k1, k2, k3, k5, mN, hC, hN, hni, T⟩:=(c X.base I.mod.kin).obj
 refine wpAny_Raise_call_subT (C:=C) (nm:=nm) (q:=q) (N:=N) (bs:=bs) (bm:=tl) (hdct:=hdct) (sn:=sn) (sub:=sub) (ab:=ab) (col:=col) (dd:=dd) (k0:=k0) (k1:=k1) (k2:=k2) (k3:=k3) (k5:=k5)
  PySem.F.excBase_ValueError (mN:=mN) (T.hasType PySem.F.excBase_ValueError.hasBase) (I.ok.hd hc) (by rw [he]; show (false || (backTo cpos (starEach es X.env)).any (·.1)) = false; rw [hpl]; rfl) hni (ld_glob I hg (c X.base I.mod.kin).bound ⟨rfl, ?_⟩ hdb)
 have hh:=ha cpos pins s σ H _ I h
 rw [he] at hh ⊢
 refine Calls.evalArgs_plain (thn hh fun us s2 z => ?_)
 obtain ⟨vs, H1, I1, r, hl, w⟩:=z
 exact ⟨rfl, by rw [← r.length]; exact hl, I1.bk _ _ hC, hN.keeps I1.bk, T.keeps I1.bk, fun h' e m => hx pins σ H1 s2 h' e us I1 m w⟩
def NewAt (X : Cx) (pins : List (Addr × Obj)) (b : Addr) : Prop:=X.s₀.heap.get? b = none/\b ≠ X.env.locals/\(∀ x c, X.env.cells.lookup x = some c->c ≠ b)/\∀ p ∈ X.pn ++ pins, p.1 ≠ b
theorem newAt {pins : List (Addr × Obj)} {σ : St} {H : Hp} {s : Shared} (I : Inv X pins σ H s) (hx : X.ex = []) {b : Addr} (e : s.heap.get? b = none) : NewAt X pins b:=by
 refine ⟨?_, fun z => ?_, fun x c hc z => ?_, fun p hp z => ?_⟩
 ·cases q : X.s₀.heap.get? b with
  | none => rfl
  | some o => obtain ⟨o', r⟩:=I.base.there b o q (by rw [hx]; simp); rw [e] at r; cases r
 ·obtain ⟨m, ⟨o, _, _, ho, _⟩, _⟩:=I.loc
  rw [← z, e] at ho; cases ho
 ·obtain ⟨v, o, ho, _⟩:=I.cell x c hc
  rw [z, e] at ho; cases ho
 ·have:=(I.pin p hp).1
  rw [z, e] at this; cases this
theorem Inv.flew {pins : List (Addr × Obj)} {σ : St} {H : Hp} {s : Shared} {h' : Heap} {e T : Addr} (J : Inv X pins σ H s) (hx : X.ex = []) (ne : NewAt X pins e) (nT : NewAt X pins T) (he : H e = none) (hT : H T = none)
  (keep : ∀ b o, s.heap.get? b = some o->b ≠ e->b ≠ T->b ∉ frs X.stack->h'.get? b = some o) (up : s.heap.UpToSlots h') : Inv X pins σ H { s with heap:=h' }:=by
 have n1 : ∀ b o, X.s₀.heap.get? b = some o->b ≠ e:=fun b o q z => by rw [z, ne.1] at q; cases q
 have n2 : ∀ b o, X.s₀.heap.get? b = some o->b ≠ T:=fun b o q z => by rw [z, nT.1] at q; cases q
 have U:=Un.back J hx (h':=h') (fun b o q r m => keep b o r (n1 b o q) (n2 b o q) m) (fun b o o' q r => by
  by_cases m : b ∈ frs X.stack
  ·obtain ⟨_, o2, e2, hn⟩:=J.stack.mem m
   obtain ⟨sl, e3⟩:=up b o2 e2 hn
   exact ⟨_, e3⟩
  ·exact ⟨o', keep b o' r (n1 b o q) (n2 b o q) m⟩) up
 have tr : ∀ b u, H b = some u->∀ v, s.heap.get? b = some v->h'.get? b = some v:=fun b u q v r => keep b v r (fun z => by rw [z, he] at q; cases q) (fun z => by rw [z, hT] at q; cases q) (fun m => by rw [J.stkFree b m] at q; cases q)
 have ck : ∀ c v, s.heap.IsCell c v->h'.IsCell c v:=fun c v z_ => by
  obtain ⟨o, ho, hd⟩:=z_
  obtain ⟨sl, z⟩:=up c o ho (fun vs q => by rw [hd] at q; cases q)
  exact ⟨_, z, hd⟩
 refine ⟨J.ok, J.os, J.bare, by rw [hx]; exact U, ?_, fun x c z => ?_, J.free, J.freeC, fun p hp => ?_, fun b u q => (J.hok b u q).stay (fun c v hc r => ?_) (fun _ q => q) (fun _ _ q => q), J.len⟩
 ·obtain ⟨m, hn, hl⟩:=J.loc
  refine ⟨m, up.ns hn, fun i x v e1 e2 e3 => ?_⟩
  obtain ⟨u, r, l⟩:=hl i x v e1 e2 e3
  refine ⟨u, r, ?_⟩
  rcases l with l | ⟨k, c, e, z⟩
  ·exact .inl l
  ·exact .inr ⟨k, c, e, ck c _ z⟩
 ·obtain ⟨v, q⟩:=J.cell x c z
  exact ⟨v, ck c v q⟩
 ·obtain ⟨a, b, c, d, f⟩:=J.pin p hp
  refine ⟨keep p.1 p.2 a (ne.2.2.2 p hp) (nT.2.2.2 p hp) (fun m => ?_), b, c, d, f⟩
  rcases List.mem_cons.mp (J.stkSub _ m) with z | z
  ·exact c z
  ·exact d z
 ·rcases hc with z | z
  ·rw [z] at r ⊢; exact tr b u q v r
  ·exact tr c _ z v r
def ExAt (e C : Addr) (h : Heap) : Prop:=∃ ob, h.get? e = some ob/\ob.cls = .ref C
theorem Inv.track {pins : List (Addr × Obj)} {σ : St} {H : Hp} {s : Shared} {e C : Addr} (J : Inv X pins σ H s) (hx : X.ex = []) (ne : NewAt X pins e) (he : H e = none) (hf : e ∉ X.fs) (x : ExAt e C s.heap) : Inv X pins σ (upd H e (.ext (ExAt e C))) s:=by
 have nn : ∀ b u, H b = some u->b ≠ e:=fun b u q z => by rw [z, he] at q; cases q
 have n1 : ∀ b o, X.s₀.heap.get? b = some o->b ≠ e:=fun b o q z => by rw [z, ne.1] at q; cases q
 refine ⟨J.ok, J.os, J.bare, ⟨J.base.keep, J.base.slot, fun b o q n hb => ?_, J.base.there, fun b xs q => ?_, fun b o u q => ?_, fun b ps q => ?_⟩, J.loc, J.cell, ?_, fun y c z => ?_, fun p hp => ?_, fun b u q => ?_, J.len⟩
 ·rw [upd_ne (n1 b o q)]; exact J.base.free b o q n hb
 ·have:=J.base.tups b xs q
  rw [upd_ne (nn b _ this)]; exact this
 ·have:=J.base.frzs b o u q
  rw [upd_ne (nn b _ this)]; exact this
 ·obtain ⟨more, this⟩:=J.base.tbls b ps q
  exact ⟨more, by rw [upd_ne (nn b _ this)]; exact this⟩
 ·rw [upd_ne (Ne.symm ne.2.1)]; exact J.free
 ·rw [upd_ne (ne.2.2.1 y c z)]; exact J.freeC y c z
 ·obtain ⟨a, b, c, d, f⟩:=J.pin p hp
  exact ⟨a, by rw [upd_ne (ne.2.2.2 p hp)]; exact b, c, d, f⟩
 ·by_cases z : b = e
  ·subst z
   rw [upd_same] at q; cases q
   obtain ⟨ob, e1, e2⟩:=id x
   exact ⟨x, ⟨ob, e1⟩, fun h1 h2 ⟨o, a, c⟩ k => ⟨o, k o a, c⟩⟩
  ·rw [upd_ne z] at q
   exact (J.hok b u q).stay (fun _ _ _ r => r) (fun c r => by rw [upd_ne (nn c _ r)]; exact r) (fun c xs r => by rw [upd_ne (nn c _ r)]; exact r)
theorem goes_ok {M : Model} {A : Around} {E : Value->Shared->Prop} {Q : Unit->Shared->Prop} {pins : List (Addr × Obj)} {σ : St} {H : Hp} {s : Shared} {i : Nat} {n : Str} {pos : Pos} (I : Inv X pins σ H s) (hN : X.N.Nodup) (hi : X.N[i]? = some n) (hk : X.env.kindOf n = some .local)
  (h : ∀ s', Inv X pins (σ.set i none) H s'->Q () s') : wpAny M A (do bindName X.env n .none; unbindBehindTheSuite X.env n pos) Q E s:=by
 obtain ⟨m, hn, hl⟩:=id I.loc
 have hcls : (X.env.scope.kind == .class || (X.env.scope.kind == .module && X.env.locals != X.env.globals)) = false:=by rw [I.ok.kind]; rfl
 have hiσ : i < σ.length:=by rw [I.len]; exact (List.getElem?_eq_some_iff.mp hi).1
 refine wpAny_nameGoes_keeps hk hn hcls fun h' v hn' hs => h _ ?_
 have neL : ∀ b o, X.s₀.heap.get? b = some o->b ≠ X.env.locals:=fun b o e => Nat.ne_of_lt (Nat.lt_of_lt_of_le (Heap.lt_size e) I.ok.above)
 refine ⟨I.ok, I.os, I.bare, ⟨fun b o e n hb hx => (hs.2 b (neL b o e)).trans (I.base.keep b o e n hb hx), fun b o e n hb hx => ?_, I.base.free, fun b o e hx => ?_, I.base.tups, I.base.frzs, I.base.tbls⟩, ⟨_, hn', fun j y u e1 e2 e3 => ?_⟩, fun y c e => ?_, I.free, I.freeC, fun p hp => ?_, fun b u q => (I.hok b u q).stay (fun c w hc r => (hs.2 c (fun z => ?_)).trans r) (fun _ q => q) (fun _ _ q => q), by simpa using I.len⟩
 ·obtain ⟨sl, e1⟩:=I.base.slot b o e n hb hx
  exact ⟨sl, (hs.2 b (neL b o e)).trans e1⟩
 ·obtain ⟨o', e1⟩:=I.base.there b o e hx
  exact ⟨o', (hs.2 b (neL b o e)).trans e1⟩
 ·by_cases hj : j = i
  ·subst hj
   rw [List.getElem?_set_self hiσ] at e2; cases e2
  ·rw [List.getElem?_set_ne (Ne.symm hj)] at e2
   obtain ⟨u', r', q⟩:=hl j y u e1 e2 e3
   refine ⟨u', r', ?_⟩
   rcases q with ⟨k, e⟩ | ⟨k, c, e, z⟩
   ·refine .inl ⟨k, ?_⟩
    have : y ≠ n:=fun e => hj (nodup_ix hN e1 (e ▸ hi))
    simp [this, e]
   ·exact .inr ⟨k, c, e, z.sameBut hs (I.cne y c e)⟩
 ·obtain ⟨w', z⟩:=I.cell y c e
  exact ⟨w', z.sameBut hs (I.cne y c e)⟩
 ·obtain ⟨e, n, ne, nf, d⟩:=I.pin p hp
  exact ⟨(hs.2 p.1 ne).trans e, n, ne, nf, d⟩
 ·rcases hc with y | y
  ·rw [← y, z, I.free] at q; cases q
  ·rw [z, I.free] at y; cases y
noncomputable abbrev Cx.marked (X : Cx) (ea : Addr) : Cx:={ X with A:=X.A.mark (some (.ref ea)), calm:=false }
theorem Inv.mark {pins : List (Addr × Obj)} {σ : St} {H : Hp} {s : Shared} (I : Inv X pins σ H s) (ea : Addr) : Inv (X.marked ea) pins σ H s :=
 ⟨⟨I.ok.mod, I.ok.kind, I.ok.glob, I.ok.blt, I.ok.above, I.ok.inj, I.ok.has, I.ok.cab, fun z => (by cases z), I.ok.frames, I.ok.stk, I.ok.exf, I.ok.bs, I.ok.bsz, I.ok.noex, I.ok.exfs, I.ok.funs, I.ok.frf⟩, I.os, I.bare, I.base, I.loc, I.cell, I.free, I.freeC, I.pin, I.hok, I.len⟩
theorem Inv.unmark {pins : List (Addr × Obj)} {σ : St} {H : Hp} {s : Shared} {ea : Addr} (ok : X.Ok) (I : Inv (X.marked ea) pins σ H s) : Inv X pins σ H s :=
 ⟨ok, I.os, I.bare, I.base, I.loc, I.cell, I.free, I.freeC, I.pin, I.hok, I.len⟩
noncomputable abbrev XW:=Value->St->Hp->Prop
def XP (X : Cx) (pins : List (Addr × Obj)) (W : XW) (e : Value) (s' : Shared) : Prop:=∃ σ ea T C H', e = .ref ea/\Inv X pins σ H' s'/\FlyT X.base X.stack ea T (.ref C) s'.heap/\NewAt X pins ea/\NewAt X pins T/\H' ea = none/\H' T = none/\W (.ref C) σ H'
def PXs (X : Cx) (st : List Stmt) (t : XW->TS) : Prop :=
 ∀ (pins : List (Addr × Obj)) (s : Shared) (σ : St) (H : Hp) (D : Ends) (W : XW), Inv X pins σ H s->t W D σ H->wpAny (model X.prog X.w) X.A (execs st X.env) (SP X pins D) (XP X pins W) s
theorem px_if {c : Expr} {a b : List Stmt} {tc : TT} {t u : XW->TS} {pos : Pos} (hc : PT X.nox c tc) (ha : PXs X a t) (hb : PXs X b u) : PXs X [.If c a b pos] (fun W D σ H => tc σ H fun v H1 => if v = true then t W D σ H1 else u W D σ H1):=by
 intro pins s σ H D W I h
 refine wpAny_execs_cons (thn (Q:=SP X pins D) (wpAny_If (wpAny_mono (hc pins s σ H _ (I.wish _) h) (fun d s1 ⟨H1, I1, q1⟩ => ?_) fun _ _ z => False.elim z)) fun f s1 q => ?_)
 ·cases d with
  | true => exact ha pins s1 σ H1 D W I1.unwish q1
  | false => exact hb pins s1 σ H1 D W I1.unwish q1
 ·cases f with
  | next => exact wpAny_execs_nil q
  | ret v => exact q
  | brk => exact q
  | cont => exact q
theorem px_call {k : Nat} {f : Addr} {fd : FuncData} {ps : List Str} {sp : Sp} {x : Str} {p pos ep : Pos} {e : Expr} {es : List Expr} {ta : TA} (F : FnOk X.prog X.w X.K X.mg X.base (CXE X.prog X.w X.base) k f fd ps sp) (hr : Room k X.A) (hx : X.ex = []) (hg : Gl X x) (hm : X.mg x = some (.ref f)) (hk : PySem.W.keepIn X.K (.ref f) = true)
  (hb : Binds X.K fd ps []) (ha : PA X.nox (e :: es) ta) (hdb : (x == ("__debug__" : Str)) = false:=by decide) (he : starEach (e :: es) X.env = (false, eval e X.env) :: starEach es X.env:=by rfl) (hpl : (backTo pos (starEach es X.env)).any (·.1) = false:=by rfl)
  (hs : swapsWith (.Call (.Name x p) (e :: es) [] pos) none ep.line X.env = pure false:=by rfl) :
  PXs X [.Expr (.Call (.Name x p) (e :: es) [] pos) ep] (fun W D σ H => ta σ H fun vs H1 => sp vs H1 (fun _ H2 => D.nx σ H2) (fun c _ H2 => W c σ H2)):=by
 intro pins s σ H D W I h
 refine wpAny_execs_cons (thn (Q:=SP X pins D) (wpAny_Expr_any (Q:=SP X pins D) ?_ I.quiet hs) fun f s1 q => ?_)
 ·refine wpAny_Call_Name_kw (ld_glob I hg hm ?_ hdb)
  refine PySem.W.callWith_K (h₀:=X.base) I.ok.mod.kin hk (wpAny_mono (ha pos pins s σ H _ (I.wish _) h) (fun us s1 ⟨vs, H1, I1, r, q⟩ => ⟨I1.kIn, ?_⟩) fun _ _ z => False.elim z) he hpl
  have I1:=I1.unwish
  have hl : us.length = ps.length:=by rw [← r.length]; exact F.len _ _ _ _ q
  refine wpAny_call (codeAny_mono (F.run X.A X.stack s1 H1 ⟨us, []⟩ us vs _ _ hr I1.env0 (by have:=hb s1 us I1.kIn (by simpa using hl); simpa using this) r q) fun r s' hq => ?_)
  cases r with
  | error e =>
   obtain ⟨ea, T, C, H', rfl, ho, hg, un, hok, fl, ne, nT, he, hT, hE⟩:=hq
   exact ⟨σ, ea, T, C, H', rfl, I1.call' ho un hok hg (fun b z => absurd z (by simp)), fl, newAt I1 hx ne, newAt I1 hx nT, he, hT, hE⟩
  | ok fl =>
   cases fl with
   | ret u =>
    obtain ⟨v, H2, J, _, q⟩:=I1.after hq
    exact ⟨σ, H2, J, q⟩
   | next => exact False.elim hq
   | brk => exact False.elim hq
   | cont => exact False.elim hq
 ·cases f with
  | next => exact wpAny_execs_nil q
  | ret v => exact q
  | brk => exact q
  | cont => exact q
def tTry (K : PySem.W.Frag) (D0 : Addr) (i : Nat) (tb : XW->TS) (ts : TS) : TS:=fun D σ H => tb (fun cls σ1 H1 => ∃ C, cls = .ref C/\XSub K C D0/\∀ ea, H1 ea = none ->
 ts { nx:=fun σ2 H2 => D.nx (σ2.set i none) H2, rt:=D.rt, bk:=fun σ2 H2 => D.bk (σ2.set i none) H2, ct:=fun σ2 H2 => D.ct (σ2.set i none) H2 } (σ1.set i (some (.ref ea))) (upd H1 ea (.ext (ExAt ea C)))) D σ H
theorem ps_try {body suite : List Stmt} {b0 : Stmt} {x n : Str} {D0 : Addr} {i : Nat} {tb : XW->TS} {ts : TS} {np hpos pos : Pos} (hst : X.stack = X.env :: X.outer/\X.env.frame = some X.env.locals) (hx : X.ex = []) (c : XOk X.K X.mg x D0) (hg : Gl X x) (hN : X.N.Nodup) (hi : X.N[i]? = some n) (hk : X.env.kindOf n = some .local)
  (hb : PXs X body tb) (hs : ∀ ea, PSs (X.marked ea).nox (b0 :: suite) ts) (hdb : (x == ("__debug__" : Str)) = false:=by decide) :
  PS X (.Try body [.ExceptHandler (some (.Name x np)) (some n) (b0 :: suite) hpos] [] [] pos) (tTry X.K D0 i tb ts):=by
 intro pins s σ H D I h
 refine wpAny_Try_except (wpAny_mono (hb pins s σ H D _ I h) (fun f s1 q => ?_) fun e s1 q => ?_)
 ·cases f with
  | next => exact wpAny_execs_nil q
  | ret v => exact q
  | brk => exact q
  | cont => exact q
 ·obtain ⟨σ1, ea, T, C, H1, rfl, J, fl, nwE, nwT, he, hT, C', hC', hsub, hts⟩:=q
  cases hC'
  obtain ⟨oe, vs, oT, ts', a0, g1, g2, g3, g4, g5, g6, g7, g8⟩:=id fl.tr
  have hfr : X.A.frames = some (X.env :: X.outer):=J.ok.frames.trans (congrArg some hst.1)
  have fw : Heap.FlyingW (PySem.W.hideAll s1.heap (ea :: T :: frs X.stack)) (X.env :: X.outer) ea (.ref C) a0 s1.heap:=by
   rw [← hst.1]
   exact ⟨fun b o q => PySem.W.of_hideAll _ q, PySem.W.hideAll_none _ (.head _), PySem.W.funFrames_hide fl.funs fun en hn a ha => .tail _ (.tail _ (frs_mem en hn a ha)), oe, vs, T, oT, ts', g1, g2, g3, g4, PySem.W.hideAll_none _ (.tail _ (.head _)), g5, g6, g7, g8⟩
  have kp : ∀ {h' : Heap}, (PySem.W.hideAll s1.heap (ea :: T :: frs X.stack)).StaysIn h'->∀ b o, s1.heap.get? b = some o->b ≠ ea->b ≠ T->b ∉ frs X.stack->h'.get? b = some o:=fun {h'} k b o q n1 n2 n3 => k b o (PySem.W.hideAll_get _ q fun z => by
   rcases List.mem_cons.mp z with z | z
   ·exact n1 z
   ·rcases List.mem_cons.mp z with z | z
    ·exact n2 z
    ·exact n3 z)
  have bs : ∀ {h' : Heap}, (PySem.W.hideAll s1.heap (ea :: T :: frs X.stack)).StaysIn h'->∀ b o, X.base.get? b = some o->h'.get? b = some o:=fun {h'} k b o q => kp k b o (J.bk b o q) (fun z => by rw [z, fl.new] at q; cases q) (fun z => by rw [z, fl.newT] at q; cases q) (fun z => by rw [(fl.funs.mem z).1] at q; cases q)
  refine wpAny_looks_onW hfr hst.2 fw fun h4 f4 up4 => ?_
  refine wpAny_landsW f4 fun h5 f5 up5 => ?_
  obtain ⟨nm, q, N, bs', bm, hdct, sn, sub, ab, col, dd, k0, k1, k2, k3, k5, newId, hC, hin⟩:=hsub h5 (J.mod.kin.keeps (bs f5.1))
  obtain ⟨tl, N', nm', q', bs2, hdct', sn', sub', ab', col', dd', j0, j1, j2, j3, j5, mN, hD, hN', hni, Tl⟩:=(c h5 (J.mod.kin.keeps (bs f5.1))).obj
  obtain ⟨ob, hob, hobc⟩:=f5.there
  refine wpAny_handleBy_cons (codeAny_handlers_test ?_) (by intro q; cases q)
  refine Calls.Name_function_global J.ok.kind hg (Calls.loadGlobal_global (by rw [J.ok.glob]; exact J.mod.glob.keeps (bs f5.1)) (c h5 (J.mod.kin.keeps (bs f5.1))).bound ?_) hdb
  refine excMatches_up hC hD hob hobc (Tl.hasType PySem.F.excBase_ValueError.hasBase) hin ?_
  refine codeAny_handlers_suite_as ?_
  refine lands_againW f5 fun h6 f6 up6 => ?_
  have J6 : Inv X pins σ1 H1 { s1 with heap:=h6 }:=J.flew hx nwE nwT he hT (kp f6.1) ((up4.trans up5).trans up6)
  have J7:=J6.track hx nwE he (fun z => ?nf) f6.there
  case nf =>
   obtain ⟨_, o, ho, hn⟩:=J.funs.mem z
   rw [g1] at ho; cases ho
   exact hn vs g3
  refine store_ok J7 hN hi (.inl hk) (show RelV (.ref ea) (.ref ea) from rfl) (fun s7 I7 => ?_) (.inr hk)
  refine wpAny_mono (hs ea pins s7 _ _ _ ((I7.mark ea).wish _) (hts ea he)) (fun f s8 q => ?_) fun _ _ z => False.elim z
  have ok:=I.ok
  cases f with
  | next =>
   obtain ⟨σ', H', K, q⟩:=q
   exact goes_ok (Inv.unmark ok K.unwish) hN hi hk fun s9 K9 => ⟨_, _, K9, q⟩
  | brk =>
   obtain ⟨σ', H', K, q⟩:=q
   exact goes_ok (Inv.unmark ok K.unwish) hN hi hk fun s9 K9 => ⟨_, _, K9, q⟩
  | cont =>
   obtain ⟨σ', H', K, q⟩:=q
   exact goes_ok (Inv.unmark ok K.unwish) hN hi hk fun s9 K9 => ⟨_, _, K9, q⟩
  | ret u =>
   obtain ⟨v, σ', H', K, r, q⟩:=q
   exact goes_ok (Inv.unmark ok K.unwish) hN hi hk fun s9 K9 => ⟨v, _, _, K9, r, q⟩
end
end L2
namespace VL
open PySem PySem.Spec L2
noncomputable abbrev VPX:=List Sl->(Sl->Prop)->(Addr->Prop)->Prop
def spX (K : PySem.W.Frag) (f : VPX) : Sp:=fun vs H Q E => ∃ G ss Q' R', Same G H/\FT G H/\ArgsOk K G vs ss/\f ss Q' R'/\(∀ s, Q' s->∀ v G' H' Fv, Out G H v G' H' s Fv->Q v H') /\
 ∀ C, R' C->∀ G' H', Out G H .non G' H' (.st .none) (fun _ => False)->E (.ref C) none H'
theorem lenX {K : PySem.W.Frag} {f : VPX} {vs : List V} {H : Hp} {Q : VK} {E : XK} {n : Nat} (h : spX K f vs H Q E) (hl : ∀ ss Q' R', f ss Q' R'->ss.length = n) : vs.length = n:=by
 obtain ⟨G, ss, Q', R', _, _, ao, hf, _⟩:=h
 rw [ao.length]; exact hl ss Q' R' hf
def EvE (B : Bs) (E : XK) (R : Addr->Prop) : Prop:=∀ C, R C->∀ (σ : St) (G H : Hp) (F : Nat->Addr->Prop) (env : En), VI B G H σ env F->E (.ref C) none H
theorem bodyX {K : PySem.W.Frag} {f : VPX} {ts : TS} {N : List Str} {vs : List V} {H : Hp} {Q : VK} {E : XK} (h : spX K f vs H Q E)
  (hb : ∀ ss Q' R', f ss Q' R'->∀ B, B.K = K->EvE B E R'->EvS B ts { nx:=fun _ => Q' (.st .none), rt:=fun s _ => Q' s } (ss.map some ++ List.replicate (N.length - ss.length) none)) : ts { nx:=fun _ H' => Q .non H', rt:=Q } (L2.start N vs) H:=by
 obtain ⟨G, ss, Q', R', gh, ft, ao, hf, hQ, hR⟩:=h
 have fin : ∀ {σ G' H' F env v Fv s}, VI (bsP K G H vs) G' H' σ env F->RsX (bsP K G H vs) G' H' v Fv s F->Out G H v G' H' s Fv:=fun I r =>
  ⟨I.g0, I.gh, I.rs, I.gn, r.fb, r.fg, r.fo, r.ok, fun _ => I.ft⟩
 refine hb ss _ _ hf (bsP K G H vs) rfl (fun C hC σ G' H' F env I => hR C hC G' H' (fin I (rsx_st .non))) (L2.start N vs) G H noF _ ?_ ⟨fun σ G' H' F env I g q => hQ _ q _ _ _ _ (fin I (rsx_st .non)), fun σ G' H' F env v Fv s I g r q => hQ _ q v G' H' Fv (fin I r), fun _ _ _ _ _ _ _ q => q, fun _ _ _ _ _ _ _ q => q⟩
 refine ⟨gh, Same.refl _, fun a o e => .inl e, Same.refl _, Same.refl _, fun a o e => ⟨o, e⟩, fun i a z => z.elim, fun i a z => z.elim, fun i j a z => z.elim, fun i a z => z.elim, fun i s e => ?_, ?_, ft⟩
 ·obtain ⟨v, hv, q⟩:=ao.get (get_pad e)
  refine ⟨v, by unfold L2.start; exact pad_get hv, ?_⟩
  cases s with
  | st d => exact ⟨q, fun a z => z⟩
  | scr ns => exact ⟨q, fun a z => z⟩
  | own A => exact q.elim
  | io A => exact q.elim
 ·unfold L2.start; simp [ao.length]
section
variable {B : Bs} {env : En} {Q' : PyData->En->Prop} {QO : Sl->En->Prop} {K : PySem.W.Frag} {E : XK} {R : Addr->Prop} {D' : VEnds}
theorem evo_callX {f : VPX} {t : TA} (hE : EvE B E R) (h : EvA B t env fun ds e1 => f (ds.map Sl.st) (fun s => QO s e1) R) : EvO B (tCall (spX K f) [] E t) env QO:=fun σ G H F Q I k => by
 unfold tCall
 simp only [List.append_nil]
 exact h σ G H F _ I fun vs G1 H1 F1 ds e1 I1 g1 r1 q1 => ⟨G1, _, _, R, I1.gh, I1.ft, ArgsOk.of r1, q1, fun s q v G' H' Fv o => k v G' H' F1 Fv s e1 (I1.out o).1 (g1.trans o.gg) (I1.out o).2 q, fun C hC G' H' o => hE C hC σ G' H' F1 e1 (I1.out o).1⟩
theorem evs_raise {ta : TA} {C : Addr} (hE : EvE B E R) (hC : R C) (h : EvA B ta env fun ds _ => ds.length<=1000) : EvS B (fun _ σ H => ta σ H fun vs H1 => vs.length<=sizeLine/\E (.ref C) none H1) D' env:=fun σ G H F D I r =>
 h σ G H F _ I fun vs G1 H1 F1 ds e1 I1 g1 r1 q => ⟨by rw [r1.length]; exact Nat.le_of_lt (big (Nat.le_trans q (by decide))), hE C hC σ G1 H1 F1 e1 I1⟩
end
noncomputable def OE (C : Addr) : Own where
 P:=fun G H v F => ∃ a, v = .ref a/\H a = some (.ext (ExAt a C))/\∀ b, F b ↔ b = a
 mono:=fun ⟨a, e, h, f⟩ g hh => ⟨a, e, hh a _ ((f a).mpr rfl) h, f⟩
 dom:=fun ⟨a, e, h, f⟩ b z => by rw [(f b).mp z]; exact ⟨_, h⟩
def EvXs (B : Bs) (tb : XW->TS) (D' : VEnds) (RX : Addr->En->Prop) (env : En) : Prop:=∀ (σ : St) (G H : Hp) (F : Nat->Addr->Prop) (D : Ends) (W : XW), VI B G H σ env F->RelE B G D D' ->
 (∀ C σ' G' H' F' env', VI B G' H' σ' env' F'->Same G G'->RX C env'->W (.ref C) σ' H')->tb W D σ H
section
variable {B : Bs} {env : En} {K : PySem.W.Frag} {D' : VEnds} {RX : Addr->En->Prop}
theorem evx_if {tc : TT} {t u : XW->TS} (h : EvT B tc env fun b e1 => if b = true then EvXs B t D' RX e1 else EvXs B u D' RX e1) : EvXs B (fun W D σ H => tc σ H fun v H1 => if v = true then t W D σ H1 else u W D σ H1) D' RX env:=fun σ G H F D W I r w =>
 h σ G H F _ I fun b G1 H1 F1 e1 I1 g1 q => by
  cases b with
  | true => exact q σ G1 H1 F1 D W I1 (r.later g1) fun C σ' G' H' F' env' I' g' q' => w C σ' G' H' F' env' I' (g1.trans g') q'
  | false => exact q σ G1 H1 F1 D W I1 (r.later g1) fun C σ' G' H' F' env' I' g' q' => w C σ' G' H' F' env' I' (g1.trans g') q'
theorem evx_call {f : VPX} {ta : TA} (h : EvA B ta env fun ds e1 => f (ds.map Sl.st) (fun _ => D'.nx e1) (fun C => RX C e1)) : EvXs B (fun W D σ H => ta σ H fun vs H1 => spX K f vs H1 (fun _ H2 => D.nx σ H2) (fun c _ H2 => W c σ H2)) D' RX env:=fun σ G H F D W I r w =>
 h σ G H F _ I fun vs G1 H1 F1 ds e1 I1 g1 r1 q1 => ⟨G1, _, _, _, I1.gh, I1.ft, ArgsOk.of r1, q1, fun s q v G' H' Fv o => r.nx σ G' H' F1 e1 (I1.out o).1 (g1.trans o.gg) q, fun C hC G' H' o => w C σ G' H' F1 e1 (I1.out o).1 (g1.trans o.gg) hC⟩
theorem evs_try {D0 : Addr} {i : Nat} {tb : XW->TS} {ts : TS} (h : EvXs B tb D' (fun C e1 => XSub K C D0/\EvS B ts { nx:=fun e => D'.nx (e.set i none), rt:=D'.rt, bk:=fun e => D'.bk (e.set i none), ct:=fun e => D'.ct (e.set i none) } (e1.set i (some (.own (OE C))))) env) : EvS B (tTry K D0 i tb ts) D' env:=fun σ G H F D I r => by
 refine h σ G H F D _ I r fun C σ' G' H' F' env' I' g' q => ⟨C, rfl, q.1, fun ea he => ?_⟩
 have nG : G' ea = none:=I'.no_g he
 have I1 : VI B G' (upd H' ea (.ext (ExAt ea C))) σ' env' F':=I'.grow (Same.refl _) (I'.gh.trans (same_upd he)) (same_upd he) (fun a o e => .inl e) (fun a ks e => by
  by_cases z : a = ea
  ·subst z; rw [upd_same] at e; cases e
  ·rw [upd_ne z] at e; exact I'.ft a ks e)
 have X1 : RsX B G' (upd H' ea (.ext (ExAt ea C))) (.ref ea) (fun a => a = ea) (.own (OE C)) F':=⟨⟨ea, rfl, upd_same, fun b => Iff.rfl⟩, fun a z => z ▸ I'.no_b he, fun a z => z ▸ nG, fun a z => ⟨.ext (ExAt ea C), by rw [z]; exact upd_same⟩, fun j a z y => I'.no_f (z ▸ he) j y⟩
 have I2:=I1.store X1 i
 have dn : ∀ {σ2 : St} {G2 H2 : Hp} {F2 : Nat->Addr->Prop} {e2 : En}, VI B G2 H2 σ2 e2 F2->VI B G2 H2 (σ2.set i none) (e2.set i none) (putF F2 i fun _ => False):=fun J => J.slot (Fv:=fun _ => False) i none none (fun a z => z.elim) (fun a z => z.elim) (fun a z => z.elim) (fun j a _ z => z.elim) (fun s e => by cases e)
 refine q.2 (σ'.set i (some (.ref ea))) G' _ _ _ I2 ⟨fun σ2 G2 H2 F2 e2 J g q2 => r.nx _ G2 H2 _ _ (dn J) (g'.trans g) q2, fun σ2 G2 H2 F2 e2 v Fv s J g x q2 => r.rt σ2 G2 H2 F2 e2 v Fv s J (g'.trans g) x q2, fun σ2 G2 H2 F2 e2 J g q2 => r.bk _ G2 H2 _ _ (dn J) (g'.trans g) q2, fun σ2 G2 H2 F2 e2 J g q2 => r.ct _ G2 H2 _ _ (dn J) (g'.trans g) q2⟩
end
end VL
namespace L2
open PySem PySem.Spec PyProof.Rows
section
open PySem PySem.Calls PyProof.Rows Builtin Builtin.ObjectAttr Builtin.Getset_descriptor
variable {prog : Program} {w : World} {A : Around} {E : Value->Shared->Prop} {K : PySem.W.Frag} {h : Heap} {g : Array GenState} {d : Drawn} {t : Nat} {os : OsState} {x C : Addr} {o : Obj}
theorem look_ty {M : Model} (hx : h.get? x = some o) (hc : o.cls = .ref C) : PySem.W.Looks M h (typeOf (.ref x)) (.ref C):=hc ▸ (PySem.W.Looks.ld hx).andThen .now
structure XIn (K : PySem.W.Frag) (C : Addr) : Prop where
 cl : (PySem.W.clsIn K C).isSome = true
 ga : PySem.W.findIn K (.ref C) "__getattribute__" = some (some (.builtin "BaseException.__getattribute__"))
 gn : PySem.W.findIn K (.ref C) "__getattr__" = some none
 cs : PySem.W.findIn K (.ref C) "__class__" = some (some (.builtin "object.__class__"))
 mo : PySem.W.mroIn K C (.type "object") = some true
 mb : PySem.W.mroIn K C (.type "BaseException") = some true
theorem xc_get {R : Result->Shared->Prop} {tp : Value} (X : K.In h) (c : XIn K C) (hx : h.get? x = some o) (hc : o.cls = .ref C) (hq : R (.ok (.ret (.ref C))) ⟨h, g, d, t, os⟩) :
  codeAny (model prog w) A (.call (.builtin "getset_descriptor.__get__") ⟨[.builtin "object.__class__", .ref x, tp], []⟩) R ⟨h, g, d, t, os⟩:=by
 have L0:=look_ty (M:=model prog w) hx hc
 have L1:=PySem.W.looks_mroIn (M:=model prog w) X c.mo
 refine codeAny_call_builtin PySem.W.KF.slot_gs.plain PySem.W.KF.entry_gs (PySem.W.KF.slot_gs.check _ _ _ _ _ _ _ _ PySem.W.KF.type_class (PySem.W.KF.args_gs _ _ _) ?_)
 unfold Builtin.«getset_descriptor.__get__» descrGet
 rw [PySem.W.dga_obj]
 refine wpAny_bind (wpAny_pure ?_)
 unfold descrGetter descrCheckInstance descrNameAndClass isInstance
 simp only [PySem.W.KF.owner_class]
 repeat (first | (with_reducible refine L0.at ?_) | (with_reducible refine L1.at ?_) | wp_step)
 refine ⟨Code.quiet_builtin _ (by decide +kernel), codeAny_builtin PySem.W.KF.entry_class ?_⟩
 unfold Builtin.«object.__class__» shownTypeOf
 repeat (first | (with_reducible refine L0.at ?_) | (with_reducible refine L1.at ?_) | wp_step)
 exact hq
theorem xc_check {M : Model} {nameV : Value} {Q : Unit->Shared->Prop} (X : K.In h) (c : XIn K C) (hx : h.get? x = some o) (hc : o.cls = .ref C) (hq : Q () ⟨h, g, d, t, os⟩) : wpAny M A (checkBuiltinCall "BaseException.__getattribute__" ⟨[.ref x, nameV], []⟩) Q E ⟨h, g, d, t, os⟩:=by
 have hk : builtinKind "BaseException.__getattribute__" = some .slot:=by decide +kernel
 have hsplit : splitId "BaseException.__getattribute__" = some ("BaseException", "__getattribute__"):=by decide +kernel
 have ha:=F.args_bexc_ga (.ref x) nameV
 have L0:=look_ty (M:=M) hx hc
 have L1:=PySem.W.looks_mroIn (M:=M) X c.mb
 simp only [checkBuiltinCall, hk, hsplit]
 refine wpAny_bind ?_
 ·unfold isInstance
  refine wpAny_bind (L0.at (L1.at ?_))
  repeat (first | wp_step)
  exact hq
theorem xc_entry {tk : Tok} {Q : Fin->Shared->Prop} (X : K.In h) (c : XIn K C) (hx : h.get? x = some o) (hc : o.cls = .ref C) (hq : Q (.done (.ret (.ref C))) ⟨h, g, d, t, os⟩) :
  wpAny (model prog w) A (Builtin.«object.__getattribute__» ⟨[.ref x, .str "__class__" tk], []⟩) Q E ⟨h, g, d, t, os⟩:=by
 have L2:=PySem.W.looks_findIn (M:=model prog w) X c.cs
 have f5 : typeOf (.builtin "object.__class__") = pure (.type "getset_descriptor"):=PySem.W.KF.type_class
 have f6:=F.slot_gs_get.lookup
 have f7:=F.slot_gs_set.lookup
 repeat (any_goals (first | assumption | (with_reducible refine wpAny_loadPart_at hx ?_; rw [hc]) | with_reducible refine L2.at ?_ | wp_step))
 refine xc_get X c hx hc ?_
 repeat (any_goals (first | assumption | wp_step))
theorem xc_call {tk : Tok} {R : Result->Shared->Prop} (X : K.In h) (c : XIn K C) (hx : h.get? x = some o) (hc : o.cls = .ref C) (hq : R (.ok (.ret (.ref C))) ⟨h, g, d, t, os⟩) :
  codeAny (model prog w) A (.call (.builtin "BaseException.__getattribute__") ⟨[.ref x, .str "__class__" tk], []⟩) R ⟨h, g, d, t, os⟩ :=
 codeAny_call_builtin PySem.F.attrBase_ValueError.ga.plain F.entry_bexc_ga (xc_check X c hx hc (xc_entry X c hx hc hq))
theorem xc_attr {Q : Option Value->Shared->Prop} (X : K.In h) (c : XIn K C) (hx : h.get? x = some o) (hc : o.cls = .ref C) (hq : Q (some (.ref C)) ⟨h, g, d, t + 1, os⟩) :
  wpAny (model prog w) A (getAttr? (.ref x) "__class__") Q E ⟨h, g, d, t, os⟩:=by
 have f3:=PySem.F.attrBase_ValueError.ga.bind (.ref x)
 have hx2 : (Value.builtin "BaseException.__getattribute__" == Value.builtin "object.__getattribute__") = false:=by decide +kernel
 have hx1 : (onTheHeap (Value.ref C) && Value.builtin "BaseException.__getattribute__" == Value.builtin "object.__getattribute__") = false:=by rw [hx2]; rfl
 have L1:=PySem.W.looks_findIn (M:=model prog w) X c.ga
 have L2:=PySem.W.looks_findIn (M:=model prog w) X c.gn
 unfold getAttr? getAttrBy? getAttrBy
 repeat (any_goals (first | assumption | (with_reducible refine wpAny_loadPart_at hx ?_; rw [hc]) | with_reducible refine L1.at ?_ | with_reducible refine L2.at ?_ | wp_step))
 refine xc_call X c hx hc ?_
 repeat (any_goals (first | assumption | wp_step))
end
theorem kitx_exc {K : PySem.W.Frag} {x C : Addr} (c : XIn K C) : PySem.W.KitX K (.ref x) (.ref C) (ExAt x C) where
 ty:=fun M h _ ⟨o, h1, h2⟩ => look_ty h1 h2
 it:=fun _ _ X _ => by
  obtain ⟨cdD, hcD⟩:=Option.isSome_iff_exists.mp c.cl
  unfold PySem.W.clsIn at hcD
  split at hcD
  ·rename_i c' d' cd' sl' ho
   intro A' Q' E' s' k q
   unfold isType loadHead
   exact wpAny_bind (wpAny_loadPart (k _ _ (X _ _ ho)) (wpAny_pure q))
  ·cases hcD
 ne:=fun h tp dd its n sl X htp => by
  obtain ⟨cdD, hcD⟩:=Option.isSome_iff_exists.mp c.cl
  refine Bool.eq_false_iff.mpr fun q => ?_
  have e : C = tp:=Value.ref.inj (beq_iff_eq.mp q)
  subst e
  unfold PySem.W.clsIn at hcD
  split at hcD
  ·rename_i c' d' cd' sl' ho
   have z:=(X _ _ ho).symm.trans htp
   cases z
  ·cases hcD
 ca:=fun {prog w A E Q s} X p k => by
  obtain ⟨h, g, d, t, os⟩:=s
  obtain ⟨o, h1, h2⟩:=p
  exact xc_attr X c h1 h2 k
section
variable {X : Cx}
def rIsiX (K : PySem.W.Frag) : List V->Hp->VK->Prop:=fun xs H Q => ∃ (a C : Addr) (y : V) (u : Value) (b : Bool), xs = [.ref a, y]/\((∃ D, y = .ref D/\u = .ref D)\/∃ T, y = .ty T/\u = .type T)/\H a = some (.ext (ExAt a C))/\XIn K C/\PySem.W.kitOne K (.ref C) u = some b/\Q (.bl b) H
theorem call_isiX : CallR X (.builtin "isinstance") (rIsiX X.K):=by
 intro pins s σ H xs us Q I r h
 obtain ⟨a, C, y, u, b, rfl, hy, ha, c, e, q⟩:=h
 obtain ⟨u1, u2, rfl, r1, r2⟩:=vals2 r
 cases (show u1 = Value.ref a from r1)
 have hu : u2 = u:=by
  rcases hy with ⟨D, rfl, rfl⟩ | ⟨T, rfl, rfl⟩
  ·exact r2
  ·exact r2
 subst hu
 exact PySem.W.kia_one (kitx_exc c) I.kIn (show ExAt a C s.heap from (I.hok a _ ha).1) e (fun z => nomatch z) fun tk => ⟨.bl b, H, I.tok _, rfl, q⟩
end
end L2
namespace L2
open PySem PySem.Spec PyProof.Rows
section
variable {P : Program} {w : World} {K : PySem.W.Frag} {mg : Str->Option Value} {base : Heap} {x : Str} {k : Nat} {ps : List Str} {sp : Sp}
def CanX (P : Program) (w : World) (K : PySem.W.Frag) (mg : Str->Option Value) (base : Heap) (x : Str) (k : Nat) (ps : List Str) (sp : Sp) : Prop :=
 ∃ f fd, FnOk P w K mg base (CXE P w base) k f fd ps sp/\mg x = some (.ref f)/\PySem.W.keepIn K (.ref f) = true/\Binds K fd ps []
theorem DefAt.canX {st : Stmt} {f : Addr} {fd : FuncData} (D : DefAt K mg x st ps f fd) (ok : FnOk P w K mg base (CXE P w base) k f fd ps sp) : CanX P w K mg base x k ps sp:=⟨f, fd, ok, D.mgx, D.fn.kp, D.bd⟩
theorem Fun.okX {qual : Str} {st : Stmt} {f : Addr} {fd : FuncData} {N : List Str} (F : Fun K x qual st f fd) (S : FnScope N ps (defScope st)) (len : ∀ vs H Q E, sp vs H Q E->vs.length = ps.length)
  (hbody : ∀ (cdv : Value) (A : Around) (outer : List Env) (s : Shared) (H : Hp) (vs : List V) (Q : VK) (E : XK), Room k (A.deeper (envOfC qual (defScope st) s.heap.objs.size f cdv))->sp vs H Q E ->
   ∃ t, PSs (cxOf (CXE P w base) P w K mg base N qual (defScope st) f cdv A outer s H E) (defBody st) t/\t { nx:=fun _ H' => Q .non H', rt:=Q } (start N vs) H) : FnOk P w K mg base (CXE P w base) (k + 1) f fd ps sp:=by
 obtain ⟨oc, od, kV, doc, pm, an, cdv, ct, osl, rfl, lk, hcd⟩:=F.ex
 exact fn_of lk hcd S len fun A outer s H vs Q E hr hsp => hbody cdv A outer s H vs Q E hr hsp
variable {N : List Str} {qual : Str} {scope : Scope} {f : Addr} {cd : Value} {A : Around} {outer : List Env} {s0 : Shared} {H0 : Hp} {E : XK} {j : Nat} {p pos ep np cpos : Pos} {e : Expr} {es : List Expr} {t : TA}
theorem pe_callX (F : CanX P w K mg base x k ps sp) (hr : Room j (cxOf (CXE P w base) P w K mg base N qual scope f cd A outer s0 H0 E).A) (ha : PA (cxOf (CXE P w base) P w K mg base N qual scope f cd A outer s0 H0 E) (e :: es) t) (hj : k<=j:=by decide)
  (hg : Gl (cxOf (CXE P w base) P w K mg base N qual scope f cd A outer s0 H0 E) x:=by rfl) (hdb : (x == ("__debug__" : Str)) = false:=by decide)
  (he : starEach (e :: es) (cxOf (CXE P w base) P w K mg base N qual scope f cd A outer s0 H0 E).env = (false, eval e (cxOf (CXE P w base) P w K mg base N qual scope f cd A outer s0 H0 E).env) :: starEach es (cxOf (CXE P w base) P w K mg base N qual scope f cd A outer s0 H0 E).env:=by rfl)
  (hpl : (backTo pos (starEach es (cxOf (CXE P w base) P w K mg base N qual scope f cd A outer s0 H0 E).env)).any (·.1) = false:=by rfl) :
  PE (cxOf (CXE P w base) P w K mg base N qual scope f cd A outer s0 H0 E) (.Call (.Name x p) (e :: es) [] pos) (tCall sp [] E t):=by
 obtain ⟨f', fd, c1, c2, c3, c4⟩:=F
 exact pe_call c1 (hr.mono hj) hg c2 c3 c4 .nil passE ha hdb he hpl
theorem ps_raiseD {C : Addr} {m : Str} {j : Nat} (c : XOk K mg x C) (hg : Gl (cxOf (CXE P w base) P w K mg base N qual scope f cd A outer s0 H0 E) x:=by rfl) (hdb : (x == ("__debug__" : Str)) = false:=by decide) :
  PS (cxOf (CXE P w base) P w K mg base N qual scope f cd A outer s0 H0 E) (.Raise (some (.Call (.Name x np) [.Constant (.str m) j ep] [] cpos)) none pos) (fun _ σ H => tCons (tC (.str m)) tNil σ H fun vs H1 => vs.length<=sizeLine/\E (.ref C) none H1) :=
 ps_raise (W:=fun H => E (.ref C) none H) c hg rfl (pa_cons pe_str pa_nil) (fun pins σ H s h1 e args I m w => xe_made I m w) hdb
variable {X : Cx}
theorem px_callD (F : CanX X.prog X.w X.K X.mg X.base x k ps sp) (hr : Room j X.A) (ha : PA X.nox (e :: es) t) (hx : X.ex = []:=by rfl) (hj : k<=j:=by decide) (hg : Gl X x:=by rfl) (hdb : (x == ("__debug__" : Str)) = false:=by decide)
  (he : starEach (e :: es) X.env = (false, eval e X.env) :: starEach es X.env:=by rfl) (hpl : (backTo pos (starEach es X.env)).any (·.1) = false:=by rfl)
  (hs : swapsWith (.Call (.Name x p) (e :: es) [] pos) none ep.line X.env = pure false:=by rfl) :
  PXs X [.Expr (.Call (.Name x p) (e :: es) [] pos) ep] (fun W D σ H => t σ H fun vs H1 => sp vs H1 (fun _ H2 => D.nx σ H2) (fun c _ H2 => W c σ H2)):=by
 obtain ⟨f', fd, c1, c2, c3, c4⟩:=F
 exact px_call c1 (hr.mono hj) hx hg c2 c3 c4 ha hdb he hpl hs
end
end L2
namespace VL
open PySem PySem.Spec L2
section
variable {B : Bs} {env : En} {QO : Sl->En->Prop} {Q' : PyData->En->Prop} {QT : Bool->En->Prop} {K : PySem.W.Frag} {i : Nat} {C : Addr}
theorem ev_isiX {D : Addr} {b : Bool} (hA : Has env i (OE C)) (c : XIn K C) (e : PySem.W.kitOne K (.ref C) (.ref D) = some b) (q : Q' (.bool b) env) : Ev B (tCB (rIsiX K) (tCons (tVar i) (tCons (tC (.ref D)) tNil))) env Q':=fun σ G H F Q I k => by
 obtain ⟨v, hv, a, rfl, ha, f⟩:=I.has hA
 exact ⟨_, hv, a, C, _, _, b, rfl, .inl ⟨D, rfl, rfl⟩, ha, c, e, k _ G H F _ env I (Same.refl _) (.bl _) q⟩
theorem ev_isiXT {T : String} {b : Bool} (hA : Has env i (OE C)) (c : XIn K C) (e : PySem.W.kitOne K (.ref C) (.type T) = some b) (q : Q' (.bool b) env) : Ev B (tCB (rIsiX K) (tCons (tVar i) (tCons (tC (.ty T)) tNil))) env Q':=fun σ G H F Q I k => by
 obtain ⟨v, hv, a, rfl, ha, f⟩:=I.has hA
 exact ⟨_, hv, a, C, _, _, b, rfl, .inr ⟨T, rfl, rfl⟩, ha, c, e, k _ G H F _ env I (Same.refl _) (.bl _) q⟩
theorem ev_isNE (hA : Has env i (OE C)) (q : Q' (.bool false) env) : Ev B (tOp rIsN (tVar i) (tC .non)) env Q':=fun σ G H F Q I k => by
 obtain ⟨v, hv, a, rfl, ha, f⟩:=I.has hA
 exact ⟨_, hv, rfl, k _ G H F _ env I (Same.refl _) (.bl _) q⟩
end
end VL
namespace L2
open PySem PySem.Spec PyProof.Rows
theorem exc_in {K : PySem.W.Frag} {C : Addr} {bmB : List Value} {newId : String} (q : PySem.W.excIn K C bmB newId = true) : ∃ bm N nm qn bs hdct sn sub ab col dd k0 k1 k2 k3 k5,
  K.lookup C = some (excClassObj nm qn C N bs bm hdct sn sub ab col dd k0 k1 k2 k3 k5 newId)/\PySem.W.tailIn K bmB bm = true/\PySem.W.nsOkIn K N = true/\PySem.W.nsIn K N "__init__" = some none:=by
 unfold PySem.W.excIn at q
 split at q
 ·rename_i dd cd sl ho
  split at q
  ·rename_i C' bm k0 k1 k2 k3 n k5 hm hs
   simp only [Bool.and_eq_true, beq_iff_eq, Bool.not_eq_true'] at q
   obtain ⟨⟨⟨⟨⟨rfl, rfl⟩, hdel⟩, ht⟩, hok⟩, hni⟩:=q
   obtain ⟨nm, bs, mro, ns, qn, hd, sn, sub, ab, col, del⟩:=cd
   dsimp only at hm hdel hok hni
   subst hm hdel
   have hsl : sl = #[k0, k1, k2, k3, some (.builtin n), k5]:=by
    obtain ⟨l⟩:=sl
    simp only at hs
    rw [hs]
   subst hsl
   exact ⟨bm, ns, nm, qn, bs, hd, sn, sub, ab, col, dd, k0, k1, k2, k3, k5, ho, ht, hok, hni⟩
  ·cases q
 ·cases q
theorem xok_of {K : PySem.W.Frag} {mg : Str->Option Value} {x : Str} {C : Addr} (m : mg x = some (.ref C)) (q : PySem.W.excIn K C bmV "ValueError.__new__" = true) : XOk K mg x C:=fun h X => by
 obtain ⟨bm, N, nm, qn, bs, hdct, sn, sub, ab, col, dd, k0, k1, k2, k3, k5, hl, ht, hok, hni⟩:=exc_in q
 exact ⟨m, bm, N, nm, qn, bs, hdct, sn, sub, ab, col, dd, k0, k1, k2, k3, k5, _, X _ _ hl, .of_isNs (PySem.W.isNs_of_in X hok), PySem.W.nsMap_none_of_in X hok hni, PySem.W.tail_of_in X ht⟩
theorem xsub_of {K : PySem.W.Frag} {C D : Addr} (q : PySem.W.excIn K C bmV "ValueError.__new__" = true) (m : PySem.W.mroIn K C (.ref D) = some true) : XSub K C D:=fun h X => by
 obtain ⟨bm, N, nm, qn, bs, hdct, sn, sub, ab, col, dd, k0, k1, k2, k3, k5, hl, ht, hok, hni⟩:=exc_in q
 refine ⟨nm, qn, N, bs, bm, hdct, sn, sub, ab, col, dd, k0, k1, k2, k3, k5, _, X _ _ hl, ?_⟩
 unfold PySem.W.mroIn PySem.W.clsIn at m
 rw [hl] at m
 simpa [excClassObj] using m
theorem cl_of {K : PySem.W.Frag} {C : Addr} {bmB : List Value} {newId : String} (q : PySem.W.excIn K C bmB newId = true) : (PySem.W.clsIn K C).isSome = true:=by
 obtain ⟨bm, N, nm, qn, bs, hdct, sn, sub, ab, col, dd, k0, k1, k2, k3, k5, hl, ht, hok, hni⟩:=exc_in q
 unfold PySem.W.clsIn
 rw [hl]
 rfl
structure XCls (K : PySem.W.Frag) (mg : Str->Option Value) (x : Str) (C : Addr) : Prop where
 mgx : mg x = some (.ref C)
 exc : PySem.W.excIn K C bmV "ValueError.__new__" = true
 xin : XIn K C
theorem XCls.ok {K : PySem.W.Frag} {mg : Str->Option Value} {x : Str} {C : Addr} (c : XCls K mg x C) : XOk K mg x C:=xok_of c.mgx c.exc
end L2
namespace L2
open PySem PySem.Spec PyProof.Rows
noncomputable def isB (k : Bool) : Value->Bool
 | .bool a => a == k
 | _ => false
theorem vals_bls : ∀ {bs : List Bool} {us : List Value}, Vals (bs.map V.bl) us->us = bs.map Value.bool
 | [], _, .nil => rfl
 | b :: bs, _, .cons r t => by
  rw [List.map_cons, ← vals_bls t, show _ = Value.bool b from r]
theorem vals_rfs : ∀ {ds : List Addr} {us : List Value}, Vals (ds.map V.ref) us->us = ds.map Value.ref
 | [], _, .nil => rfl
 | b :: bs, _, .cons r t => by
  rw [List.map_cons, ← vals_rfs t, show _ = Value.ref b from r]
section
variable {X : Cx}
def rIndexB : V->List V->Hp->VK->Prop:=fun x vs H Q => ∃ (l : Addr) (bs : List Bool) (k : Bool) (j : Nat), x = .ref l/\vs = [.bl k]/\H l = some (.lst (bs.map V.bl))/\bs[j]? = some k/\(∀ m, m < j->bs[m]? ≠ some k)/\Q (.int j) H
theorem mt_indexB : MtM X "list.index" rIndexB:=by
 intro pins s σ H x vs v us Q I rx rv h
 obtain ⟨l, bs, k, j, rfl, rfl, hH, hj, hno, q⟩:=h
 cases rx
 obtain ⟨u, rfl, ru⟩:=rv.one
 cases (show u = Value.bool k from ru)
 obtain ⟨z, its, n, r, hl, e⟩:=I.lstM hH
 have hi:=vals_bls r
 subst hi
 rw [List.length_map] at hl z
 obtain ⟨hj1, hj2⟩:=List.getElem?_eq_some_iff.mp hj
 have hz : sizeLine < 2 ^ 62:=by decide
 refine call_meets F.slot_list_index ⟨_, e, rfl⟩ F.entry_list_index (F.args_list_index_2 _ _)
  (SeqAt.list_indexAt l (bs.map Value.bool).toArray n none #[] (.bool k) (isB k) j (by simp; row_cond lo) (by row_cond lo) ?_ (fun m hm hlt => ?_)) ⟨e, fun y hy => ?_, ?_⟩
 ·rw [List.getElem_toArray, List.getElem_map]
  simp [isB, hj2]
 ·have hm' : m < bs.length:=by row_cond lo
  rw [List.getElem_toArray, List.getElem_map]
  have:=hno m hlt
  rw [List.getElem?_eq_getElem hm'] at this
  simp only [isB, beq_eq_false_iff_ne, ne_eq]
  exact fun e => this (by rw [e])
 ·obtain ⟨b, _, rfl⟩:=List.mem_map.mp (List.mem_toArray.mp hy)
  exact SeqAt.EqAt.bool_bool b k
 ·exact ⟨.int j, H, I.tok _, ⟨_, rfl⟩, q⟩
def rCountB : V->List V->Hp->VK->Prop:=fun x vs H Q => ∃ (l : Addr) (bs : List Bool) (k : Bool), x = .ref l/\vs = [.bl k]/\H l = some (.lst (bs.map V.bl))/\Q (.int (bs.count k : Nat)) H
theorem mt_countB : MtM X "list.count" rCountB:=by
 intro pins s σ H x vs v us Q I rx rv h
 obtain ⟨l, bs, k, rfl, rfl, hH, q⟩:=h
 cases rx
 obtain ⟨u, rfl, ru⟩:=rv.one
 cases (show u = Value.bool k from ru)
 obtain ⟨z, its, n, r, hl, e⟩:=I.lstM hH
 have hi:=vals_bls r
 subst hi
 refine call_meets F.slot_list_count ⟨_, e, rfl⟩ F.entry_list_count (F.args_list_count_2 _ _)
  (SeqAt.list_countAt l (bs.map Value.bool).toArray n none #[] (.bool k) (isB k)) ⟨e, fun y hy => ?_, ?_⟩
 ·obtain ⟨b, _, rfl⟩:=List.mem_map.mp (List.mem_toArray.mp hy)
  exact SeqAt.EqAt.bool_bool b k
 ·have hc : ((bs.map Value.bool).toArray.toList.countP (isB k) : Nat) = bs.count k:=by
   rw [show (bs.map Value.bool).toArray.toList = bs.map Value.bool from rfl, List.countP_map]
   rfl
  rw [hc]
  exact ⟨.int (bs.count k : Nat), H, I.tok _, ⟨_, rfl⟩, q⟩
def rIsiXs (K : PySem.W.Frag) : List V->Hp->VK->Prop:=fun xs H Q => ∃ (a C tp : Addr) (Ds : List Addr) (b : Bool), xs = [.ref a, .ref tp]/\H tp = some (.tup (Ds.map V.ref))/\H a = some (.ext (ExAt a C))/\XIn K C/\PySem.W.kitAny K (.ref C) (Ds.map Value.ref) = some b/\Q (.bl b) H
theorem call_isiXs : CallR X (.builtin "isinstance") (rIsiXs X.K):=by
 intro pins s σ H xs us Q I r h
 obtain ⟨a, C, tp, Ds, b, rfl, htp, ha, c, e, q⟩:=h
 obtain ⟨u1, u2, rfl, r1, r2⟩:=vals2 r
 cases (show u1 = Value.ref a from r1)
 cases (show u2 = Value.ref tp from r2)
 obtain ⟨_, its, rv, o, e1, e2, n, e3⟩:=(show ObjOk X.prog X.w H s.heap tp (.tup (Ds.map V.ref)) from I.hok tp _ htp)
 have:=vals_rfs rv
 subst this
 obtain ⟨oc, od, dt, sl⟩:=o
 simp only at e2 e3
 subst e2 e3
 exact PySem.W.kia_tup (kitx_exc c) I.kIn (show ExAt a C s.heap from (I.hok a _ ha).1) e1 e (fun z => nomatch z) fun tk => ⟨.bl b, H, I.tok _, rfl, q⟩
end
end L2
namespace VL
open PySem PySem.Spec L2
section
variable {B : Bs} {env : En} {Q' : PyData->En->Prop} {K : PySem.W.Frag} {i : Nat} {C : Addr} {tl te : TE}
theorem Rps.bls_inv {G : Hp} : ∀ {bs : List Bool} {vs : List V}, Rps G vs (bs.map PyData.bool)->vs = bs.map V.bl
 | [], _, .nil => rfl
 | n :: ns, _, .cons r t => by
  cases r
  rw [Rps.bls_inv t]; rfl
theorem ev_indexB {bs : List Bool} {k : Bool} {j : Nat} (h : Ev B tl env fun x e1 => x = .list (bs.map .bool)/\bs[j]? = some k/\(∀ m, m < j->bs[m]? ≠ some k)/\Q' (.int j) e1) : Ev B (tBM K "list" rIndexB tl (tCons (tC (.bl k)) tNil)) env Q':=fun σ G H F Q I kq =>
 h σ G H F _ I fun v G1 H1 F1 d e1 I1 g1 r1 z_ => by
  obtain ⟨ed, h1, h2, q⟩:=z_
  subst ed
  cases r1 with
  | @lst a vs _ ha rs =>
   have ev : vs = bs.map V.bl:=rs.bls_inv
   subst ev
   exact ⟨.inl ⟨rfl, _, SqL.of (I1.gh _ _ ha)⟩, a, bs, k, j, rfl, rfl, I1.gh _ _ ha, h1, h2, kq _ G1 H1 F1 _ e1 I1 g1 (.int _) q⟩
theorem ev_countB {bs : List Bool} {k : Bool} (h : Ev B tl env fun x e1 => x = .list (bs.map .bool)/\Q' (.int (bs.count k : Nat)) e1) : Ev B (tBM K "list" rCountB tl (tCons (tC (.bl k)) tNil)) env Q':=fun σ G H F Q I kq =>
 h σ G H F _ I fun v G1 H1 F1 d e1 I1 g1 r1 z_ => by
  obtain ⟨ed, q⟩:=z_
  subst ed
  cases r1 with
  | @lst a vs _ ha rs =>
   have ev : vs = bs.map V.bl:=rs.bls_inv
   subst ev
   exact ⟨.inl ⟨rfl, _, SqL.of (I1.gh _ _ ha)⟩, a, bs, k, rfl, rfl, I1.gh _ _ ha, kq _ G1 H1 F1 _ e1 I1 g1 (.int _) q⟩
noncomputable def tCs : List Addr->TA
 | [] => tNil
 | D :: r => tCons (tC (.ref D)) (tCs r)
theorem tcs_run {σ : St} {H : Hp} : ∀ {Ds : List Addr} {Q : List V->Hp->Prop}, Q (Ds.map V.ref) H->tCs Ds σ H Q
 | [], Q, h => h
 | D :: r, Q, h => tcs_run (Ds:=r) h
theorem ev_isiXs {D : Addr} {Ds : List Addr} {b : Bool} (hA : Has env i (OE C)) (hl : (D :: Ds).length<=1000) (c : XIn K C) (e : PySem.W.kitAny K (.ref C) ((D :: Ds).map Value.ref) = some b) (q : Q' (.bool b) env) : Ev B (tCB (rIsiXs K) (tCons (tVar i) (tCons (tTup (tCs (D :: Ds))) tNil))) env Q':=fun σ G H F Q I k => by
 obtain ⟨v, hv, a, rfl, ha, f⟩:=I.has hA
 refine ⟨_, hv, tcs_run ⟨by rw [List.length_map]; exact Nat.le_of_lt (small1000 hl), fun p hp => ?_⟩⟩
 have nx : a ≠ p:=fun z => by subst z; rw [ha] at hp; cases hp
 refine ⟨a, C, p, D :: Ds, b, rfl, upd_same, by rw [upd_ne nx]; exact ha, c, e, ?_⟩
 refine k _ G _ F _ env (I.grow (Same.refl _) (I.gh.trans (same_upd hp)) (same_upd hp) (fun a o e => .inl e) fun a ks e => ?_) (Same.refl _) (.bl _) q
 by_cases z : a = p
 ·subst z
  rw [upd_same] at e
  cases ks with
  | nil => simp at e
  | cons x xs =>
   have:=(List.cons.inj (HO.tup.inj (Option.some.inj e))).1
   cases x <;> cases this
 ·rw [upd_ne z] at e
  exact I.ft a ks e
end
end VL
namespace G
open PySem L2 VL
noncomputable def top (i : Nat) : Stmt:=PySem.Challenge.pw_fewties_k32_no_lines_and_no_ties.main.body.getD i (.Pass ⟨0, 0, 0, 0⟩)
noncomputable abbrev s_is_whole : Stmt:=top 11
noncomputable abbrev s_is_between : Stmt:=top 12
noncomputable abbrev s_need_number : Stmt:=top 13
noncomputable abbrev s_is_place : Stmt:=top 14
noncomputable abbrev s_is_tie : Stmt:=top 15
noncomputable abbrev s_need_span : Stmt:=top 18
noncomputable abbrev s_line_far : Stmt:=top 19
noncomputable abbrev s_ring_far : Stmt:=top 20
noncomputable abbrev s_line_best : Stmt:=top 21
noncomputable abbrev s_ring_best : Stmt:=top 22
noncomputable abbrev s_law_cell : Stmt:=top 24
noncomputable abbrev s_law_store : Stmt:=top 25
noncomputable abbrev s_law_take : Stmt:=top 26
noncomputable abbrev s_law_number_of : Stmt:=top 27
noncomputable abbrev s_law_tie : Stmt:=top 28
noncomputable abbrev s_law_kind : Stmt:=top 29
noncomputable abbrev s_law_word : Stmt:=top 30
noncomputable abbrev s_law_no_number : Stmt:=top 31
noncomputable abbrev s_law_no_tie : Stmt:=top 32
noncomputable abbrev s_law : Stmt:=top 33
structure Txt (K : PySem.W.Frag) (mg : Str->Option Value) : Prop where
 b_ValueError : mg "ValueError" = none
 b_max : mg "max" = none
 b_range : mg "range" = none
 b_sorted : mg "sorted" = none
 b_isinstance : mg "isinstance" = none
 b_int : mg "int" = none
 b_len : mg "len" = none
 b_min : mg "min" = none
 b_bool : mg "bool" = none
 b_tuple : mg "tuple" = none
 v_MOST_LONG : ∃ t, mg "MOST_LONG" = some (.int 1000000000000000000 t)
 d_is_whole : ∃ f fd, DefAt K mg "is_whole" s_is_whole ["thing"] f fd
 d_is_between : ∃ f fd, DefAt K mg "is_between" s_is_between ["least", "most", "thing"] f fd
 d_need_number : ∃ f fd, DefAt K mg "need_number" s_need_number ["least", "most", "thing"] f fd
 d_is_place : ∃ f fd, DefAt K mg "is_place" s_is_place ["n", "thing"] f fd
 d_is_tie : ∃ f fd, DefAt K mg "is_tie" s_is_tie ["n", "thing"] f fd
 d_need_span : ∃ f fd, DefAt K mg "need_span" s_need_span ["n", "most", "tie"] f fd
 d_line_far : ∃ f fd, DefAt K mg "line_far" s_line_far ["n", "tie"] f fd
 d_ring_far : ∃ f fd, DefAt K mg "ring_far" s_ring_far ["n", "tie"] f fd
 d_line_best : ∃ f fd, DefAt K mg "line_best" s_line_best ["n"] f fd
 d_ring_best : ∃ f fd, DefAt K mg "ring_best" s_ring_best ["n"] f fd
 d_law_cell : ∃ f fd, DefAt K mg "_law_cell" s_law_cell ["script", "k"] f fd
 d_law_store : ∃ f fd, DefAt K mg "_law_store" s_law_store ["cell"] f fd
 d_law_take : ∃ f fd, DefAt K mg "_law_take" s_law_take ["store", "many"] f fd
 d_law_number_of : ∃ f fd, DefAt K mg "_law_number_of" s_law_number_of ["store", "least"] f fd
 d_law_tie : ∃ f fd, DefAt K mg "_law_tie" s_law_tie ["store", "n", "ring"] f fd
 d_law_kind : ∃ f fd, DefAt K mg "_law_kind" s_law_kind ["caught"] f fd
 d_law_word : ∃ f fd, DefAt K mg "_law_word" s_law_word ["way", "n", "tie"] f fd
 d_law_no_number : ∃ f fd, DefAt K mg "_law_no_number" s_law_no_number ["store", "way"] f fd
 d_law_no_tie : ∃ f fd, DefAt K mg "_law_no_tie" s_law_no_tie ["store", "n", "way"] f fd
 d_law : ∃ f fd, DefAt K mg "law" s_law ["script"] f fd
 x_TieError : ∃ C, XCls K mg "TieError" C
 x_NoPlace : ∃ C, XCls K mg "NoPlace" C
 x_NoJoin : ∃ C, XCls K mg "NoJoin" C
 x_NoTie : ∃ C, XCls K mg "NoTie" C
 x_NoTree : ∃ C, XCls K mg "NoTree" C
 x_NoNumber : ∃ C, XCls K mg "NoNumber" C
 x_NoText : ∃ C, XCls K mg "NoText" C
 x_NoName : ∃ C, XCls K mg "NoName" C
 x_NoRow : ∃ C, XCls K mg "NoRow" C
 y_NoTie_TieError : ∀ C D, mg "NoTie" = some (.ref C)->mg "TieError" = some (.ref D)->PySem.W.kitOne K (.ref C) (.ref D) = some true
 y_NoTie_NoPlace : ∀ C D, mg "NoTie" = some (.ref C)->mg "NoPlace" = some (.ref D)->PySem.W.kitOne K (.ref C) (.ref D) = some false
 y_NoTie_NoJoin : ∀ C D, mg "NoTie" = some (.ref C)->mg "NoJoin" = some (.ref D)->PySem.W.kitOne K (.ref C) (.ref D) = some false
 y_NoTie_NoTie : ∀ C D, mg "NoTie" = some (.ref C)->mg "NoTie" = some (.ref D)->PySem.W.kitOne K (.ref C) (.ref D) = some true
 y_NoTie_NoTree : ∀ C D, mg "NoTie" = some (.ref C)->mg "NoTree" = some (.ref D)->PySem.W.kitOne K (.ref C) (.ref D) = some false
 y_NoTie_NoNumber : ∀ C D, mg "NoTie" = some (.ref C)->mg "NoNumber" = some (.ref D)->PySem.W.kitOne K (.ref C) (.ref D) = some false
 y_NoTie_NoText : ∀ C D, mg "NoTie" = some (.ref C)->mg "NoText" = some (.ref D)->PySem.W.kitOne K (.ref C) (.ref D) = some false
 y_NoTie_NoName : ∀ C D, mg "NoTie" = some (.ref C)->mg "NoName" = some (.ref D)->PySem.W.kitOne K (.ref C) (.ref D) = some false
 y_NoTie_NoRow : ∀ C D, mg "NoTie" = some (.ref C)->mg "NoRow" = some (.ref D)->PySem.W.kitOne K (.ref C) (.ref D) = some false
 y_NoTie_ValueError : ∀ C, mg "NoTie" = some (.ref C)->PySem.W.kitOne K (.ref C) (.type "ValueError") = some true
 s_NoTie_TieError : ∀ C D, mg "NoTie" = some (.ref C)->mg "TieError" = some (.ref D)->PySem.W.mroIn K C (.ref D) = some true
 y_NoNumber_TieError : ∀ C D, mg "NoNumber" = some (.ref C)->mg "TieError" = some (.ref D)->PySem.W.kitOne K (.ref C) (.ref D) = some true
 y_NoNumber_NoPlace : ∀ C D, mg "NoNumber" = some (.ref C)->mg "NoPlace" = some (.ref D)->PySem.W.kitOne K (.ref C) (.ref D) = some false
 y_NoNumber_NoJoin : ∀ C D, mg "NoNumber" = some (.ref C)->mg "NoJoin" = some (.ref D)->PySem.W.kitOne K (.ref C) (.ref D) = some false
 y_NoNumber_NoTie : ∀ C D, mg "NoNumber" = some (.ref C)->mg "NoTie" = some (.ref D)->PySem.W.kitOne K (.ref C) (.ref D) = some false
 y_NoNumber_NoTree : ∀ C D, mg "NoNumber" = some (.ref C)->mg "NoTree" = some (.ref D)->PySem.W.kitOne K (.ref C) (.ref D) = some false
 y_NoNumber_NoNumber : ∀ C D, mg "NoNumber" = some (.ref C)->mg "NoNumber" = some (.ref D)->PySem.W.kitOne K (.ref C) (.ref D) = some true
 y_NoNumber_NoText : ∀ C D, mg "NoNumber" = some (.ref C)->mg "NoText" = some (.ref D)->PySem.W.kitOne K (.ref C) (.ref D) = some false
 y_NoNumber_NoName : ∀ C D, mg "NoNumber" = some (.ref C)->mg "NoName" = some (.ref D)->PySem.W.kitOne K (.ref C) (.ref D) = some false
 y_NoNumber_NoRow : ∀ C D, mg "NoNumber" = some (.ref C)->mg "NoRow" = some (.ref D)->PySem.W.kitOne K (.ref C) (.ref D) = some false
 y_NoNumber_ValueError : ∀ C, mg "NoNumber" = some (.ref C)->PySem.W.kitOne K (.ref C) (.type "ValueError") = some true
 s_NoNumber_TieError : ∀ C D, mg "NoNumber" = some (.ref C)->mg "TieError" = some (.ref D)->PySem.W.mroIn K C (.ref D) = some true
local macro_rules | `(tactic| row_cond gn) => `(tactic| first | (with_reducible first | refine evg_n0 ?_ | refine evg_n1 ?_ | refine evg_n2 ?_ | refine evg_n3 ?_ | refine evg_n4 ?_ | refine evg_n5 ?_ | refine evg_n6 ?_ | refine evg_n7 ?_ | refine evg_n8 ?_ | refine evg_n9 ?_ | refine evg_n10 ?_ | refine evg_n11 ?_ | refine evg_n12 ?_ | refine evg_n13 ?_ | refine evg_n14 ?_ | refine evg_n15 ?_ | refine evg_n16 ?_ | refine evg_n17 ?_ | refine evg_n18 ?_ | refine evg_n19 ?_ | refine evg_n20 ?_ | refine evg_n21 ?_ | refine evg_n22 ?_ | refine evg_n23 ?_ | refine evg_n24 ?_ | refine evg_n25 ?_) | ((with_reducible refine evg_name ?_); dsimp only [List.set_cons_zero, List.set_cons_succ]))
local macro_rules | `(tactic| row_cond dc) => `(tactic| first | assumption | row_cond lo | (with_reducible rfl))
local macro_rules | `(tactic| row_cond ar) => `(tactic| first | assumption | (refine ⟨?_, ?_, ?_⟩ <;> decide) | (constructor <;> first | assumption | row_cond lo) | (show (0 : Int) < _; first | assumption | row_cond lo) | (left; constructor <;> first | assumption | row_cond lo) | (right; constructor <;> first | assumption | row_cond lo))
local macro_rules | `(tactic| row_cond hs) => `(tactic| first | exact Or.inl rfl | exact Or.inr rfl)
local macro_rules | `(tactic| row_cond fz) => `(tactic| first | exact frz_OL | exact frz_OD | exact frz_OT | exact frz_OW | exact frz_OLL | assumption)
local macro_rules | `(tactic| row_cond le) => `(tactic| first | exact Nat.le_of_ble_eq_true rfl | assumption | row_cond lo | (simp only [List.length_append, List.length_map, List.length_cons, List.length_nil, List.length_set, List.length_replicate]; row_cond lo))
local macro_rules | `(tactic| row_cond ia) => `(tactic| first | assumption | exact at0 | exact at1 | exact at2 | exact rfl)
local macro_rules | `(tactic| row_cond ty) => `(tactic| first | exact ty_int | exact ty_bool | exact ty_tuple | exact ty_list | exact ty_str | exact ty_dict)
local macro_rules | `(tactic| row_cond sEvS) => `(tactic| first | (with_reducible refine evs_seqC (fun c_ hc_ => ?_)) | (with_reducible first | refine evs_asg ?_ | refine evs_if ?_ | refine evs_drop ?_) | (with_reducible first | refine evs_ret ?_ | refine evs_for ?_ | refine evs_next ?_) | ((with_reducible refine' evs_unf ?h0 ?_); (case h0 => assumption)))
local macro_rules | `(tactic| row_cond sEvG) => `(tactic| first | row_cond gn | ((with_reducible refine' evg_tup ?h0 ?_); (case h0 => exact rfl)) | ((with_reducible refine' evg_setO ?h0 ?_); (case h0 => row_cond hs)) | ((with_reducible refine' evg_lst ?h0 ?_); (case h0 => exact rfl)) | (with_reducible refine evg_st ?_))
local macro_rules | `(tactic| row_cond sEvGs) => `(tactic| first | (with_reducible first | refine evgs_cons ?_ | refine evgs_nil ?_))
local macro_rules | `(tactic| row_cond sEv) => `(tactic| first | ((with_reducible refine' ev_var ?h0 ?_); (case h0 => exact rfl)) | (with_reducible refine ev_int ?_) | ((with_reducible refine' ev_ixO ?h0 ?_); (case h0 => row_cond hs)) | ((with_reducible refine' ev_ixS ?h0 ?h1 ?_); (case h0 => exact rfl); (case h1 => assumption)) | (with_reducible refine ev_op ?_) | ((with_reducible refine' ev_lenS ?h0 ?h1 ?_); (case h0 => exact rfl); (case h1 => assumption)) | ((with_reducible refine' ev_isi ?h0 ?_); (case h0 => row_cond ty)) | ((with_reducible refine' ev_cbB ?h0 ?h1 ?_); (case h0 => row_cond hs); (case h1 => row_cond fz)) | ((with_reducible refine' ev_callIo ?h0 ?_); (case h0 => exact rfl)) | ((with_reducible refine' ev_callIw ?h0 ?_); (case h0 => exact rfl)) | ((with_reducible refine' ev_callS ?h0 ?h1 ?_); (case h0 => exact rfl); (case h1 => assumption)) | (with_reducible refine ev_callP ?_) | ((with_reducible refine' ev_varF ?h0 ?h1 ?_); (case h0 => exact rfl); (case h1 => row_cond fz); dsimp only [List.set_cons_zero, List.set_cons_succ]) | (with_reducible first | refine ev_tup ?_ | refine ev_lst ?_ | refine ev_bl ?_ | refine ev_non ?_ | refine ev_str ?_ | refine ev_un ?_ | refine ev_andV ?_ | refine ev_notV ?_ | refine ev_chain ?_ | refine ev_ofO (te:=tCB (rSortI _) _) ?_ | refine ev_cb ?_) | ((with_reducible refine' ev_appendO ?h0 ?_); (case h0 => row_cond hs)) | (with_reducible refine ev_listR ?_))
local macro_rules | `(tactic| row_cond sEvO) => `(tactic| first | (with_reducible first | refine evo_op (r:=rCat) ?_ | refine evo_of (te:=tOp _ _ _) ?_ | refine evo_of (te:=tVar _) ?_ | refine evo_of (te:=tC _) ?_ | refine evo_lst ?_) | (with_reducible refine evo_tup ?_) | ((with_reducible refine' evo_callIo ?h0 ?_); (case h0 => exact rfl)) | ((with_reducible refine' evo_callIw ?h0 ?_); (case h0 => exact rfl)) | ((with_reducible refine' evo_callS ?h0 ?h1 ?_); (case h0 => exact rfl); (case h1 => assumption)) | (with_reducible first | refine evo_callP ?_) | (with_reducible first | refine evo_dnewK ?_ | refine evo_of (te:=tUn _ _) ?_ | refine evo_of (te:=tAndV _ _) ?_ | refine evo_of (te:=tNotV _) ?_ | refine evo_of (te:=tChain _ _ _ _ _) ?_ | refine evo_of (te:=tCB (rLen _) _) ?_ | refine evo_of (te:=tCB (rIsi _) _) ?_ | refine evo_of (te:=tCB rMax2 _) ?_ | refine evo_of (te:=tCB rMin2 _) ?_ | refine evo_of (te:=tCB rMax3 _) ?_ | refine evo_of (te:=tBM _ _ _ _ _) ?_))
local macro_rules | `(tactic| row_cond sEvT) => `(tactic| first | (with_reducible first | refine evt_test ?_ | refine evt_B ?_ | refine evt_and ?_ | refine evt_or ?_ | refine evt_not ?_) | (with_reducible refine evt_tru ?_))
local macro_rules | `(tactic| row_cond sEvA) => `(tactic| first | (with_reducible first | refine eva_cons ?_ | refine eva_nil ?_))
local macro_rules | `(tactic| row_cond sEvI) => `(tactic| first | (with_reducible first | refine evi_rng1 ?_ | refine evi_down ?_ | refine evi_list ?_) | (with_reducible refine evi_tup ?_))
local macro_rules | `(tactic| row_cond sOp2) => `(tactic| first | (with_reducible first | refine op2_I0i ?_ | refine op2_I0b ?_) | ((with_reducible refine' op2_Ii ?h0 ?_); (case h0 => row_cond ar)) | (with_reducible first | refine op2_eqI ?_ | refine op2_neI ?_) | ((with_reducible refine' op2_ixL ?h0 ?_); (case h0 => row_cond ia)) | ((with_reducible refine' op2_ixT ?h0 ?_); (case h0 => row_cond ia)) | (with_reducible first | refine op2_eqS ?_ | refine op2_neS ?_ | refine op2_isN ?_ | refine op2_notN ?_) | ((with_reducible refine' op2_cat ?h0 ?_); (case h0 => row_cond le)))
local macro_rules | `(tactic| row_cond sOp1) => `(tactic| first | (with_reducible refine op1_Ui ?_))
local macro_rules | `(tactic| row_cond sOpA) => `(tactic| first | (with_reducible first | refine opA_lenL ?_ | refine opA_lenT ?_ | refine opA_max2 ?_ | refine opA_min2 ?_))
local macro_rules | `(tactic| row_cond sFQ) => `(tactic| first | (with_reducible first | refine fq_st ?_ | refine fq_OL ?_ | refine fq_OD ?_))
local macro_rules | `(tactic| row_cond sRngA1) => `(tactic| first | ((with_reducible refine' x_rng1 ?h0 ?h1 ?_); (case h0 => row_cond lo); (case h1 => row_cond lo)))
local macro_rules | `(tactic| row_cond sRest) => `(tactic| first | (with_reducible first | refine x_bl ?_ | refine x_st ?_ | refine x_list ?_) | ((with_reducible refine' x_ixO ?h0 ?h1 ?_); (case h0 => row_cond hs); (case h1 => row_cond ia)) | ((with_reducible refine' x_ixS ?h0 ?_); (case h0 => row_cond ia)) | ((with_reducible refine' x_sc ?h0 ?_); (case h0 => exact rfl)) | ((with_reducible refine' x_len ?h0 ?_); (case h0 => row_cond le)) | (with_reducible first | refine go_ifT ?_ | refine go_ifF ?_ | refine go_ifNT ?_ | refine go_ifNF ?_) | ((with_reducible refine' go_iteT ?h0 ?_); (case h0 => row_cond dc)) | ((with_reducible refine' go_iteF ?h0 ?_); (case h0 => row_cond dc)) | ((with_reducible refine' go_iteNT ?h0 ?_); (case h0 => row_cond dc)) | ((with_reducible refine' go_iteNF ?h0 ?_); (case h0 => row_cond dc)) | ((with_reducible refine' x_and ?h0 ?_); (case h0 => first | exact rfl | row_cond hs)) | ((with_reducible refine' x_rt ?h0 ?_); (case h0 => exact rfl)) | ((with_reducible refine' x_appO ?h0 ?h1 ?_); (case h0 => exact rfl); (case h1 => row_cond le); dsimp only [List.set_cons_zero, List.set_cons_succ]) | ((with_reducible refine' x_setI ?h0 ?h1 ?_); (case h0 => exact rfl); (case h1 => first | exact ixN0 | exact ixN1 | exact ixN2 | assumption); dsimp only [List.set_cons_zero, List.set_cons_succ, reS]) | (with_reducible first | refine tru_bl ?_))
local macro_rules | `(tactic| row_cond st) => `(tactic| first | ((with_reducible refine g_EvS ?_); row_cond sEvS) | ((with_reducible refine g_EvG ?_); row_cond sEvG) | ((with_reducible refine g_EvGs ?_); row_cond sEvGs) | ((with_reducible refine g_Ev ?_); row_cond sEv) | ((with_reducible refine g_EvO ?_); row_cond sEvO) | ((with_reducible refine g_EvT ?_); row_cond sEvT) | ((with_reducible refine g_EvA ?_); row_cond sEvA) | ((with_reducible refine g_EvI ?_); row_cond sEvI) | ((with_reducible refine g_EvOp ?_); row_cond sEvOp) | ((with_reducible refine g_Op2 ?_); row_cond sOp2) | ((with_reducible refine g_Op1 ?_); row_cond sOp1) | ((with_reducible refine g_OpA ?_); row_cond sOpA) | ((with_reducible refine g_FQ ?_); row_cond sFQ) | ((with_reducible refine g_RngA1 ?_); row_cond sRngA1) | ((with_reducible refine g_RngA2 ?_); row_cond sRngA2) | row_cond sRest)
local macro_rules | `(tactic| row_cond go) => `(tactic| repeat row_cond st)
local macro_rules | `(tactic| row_cond hnx) => `(tactic| first | assumption | (apply Ne.symm; assumption) | exact ne_of_none (by assumption) (by assumption) | exact (ne_of_none (by assumption) (by assumption)).symm)
local macro_rules | `(tactic| row_cond hhp) => `(tactic| first | assumption | exact upd_same | (rw [upd_ne (by row_cond hnx)]; row_cond hhp) | ((refine' Same.at ?ss ?hh); (case ss => assumption); (case hh => row_cond hhp)))
local macro_rules | `(tactic| row_cond hix) => `(tactic| first | assumption | exact at0 | exact at1 | exact at2)
local macro_rules | `(tactic| row_cond hst) => `(tactic| first | (with_reducible first | refine go_seq ?_ | refine go_asg ?_ | refine go_name ?_ | refine go_op ?_ | refine go_c ?_ | refine go_I0 ?_ | refine go_U ?_ | refine go_eqI ?_ | refine go_test ?_ | refine go_bl ?_ | refine go_ifS ?_ | refine go_and ?_ | refine go_ret ?_ | refine go_drop ?_ | refine go_next ?_ | refine go_cb ?_ | refine go_cons ?_ | refine go_nil ?_ | refine go_call ?_ | refine go_max2 ?_ | refine go_min2 ?_ | refine go_intB ?_ | refine go_gsub ?_ | refine go_lstW ?_ | refine go_bmL ?_ | refine go_for ?_ | refine go_lc ?_ | refine go_irng1 ?_ | refine go_yes ?_ | refine go_ifT ?_ | refine go_ifF ?_) | ((with_reducible refine' go_var ?hv ?_); (case hv => exact rfl)) | ((with_reducible refine' go_ixltL ?ha ?hv ?_); (case ha => row_cond hhp); (case hv => row_cond hix)) | ((with_reducible refine go_I ?hc ?_); (case hc => row_cond ar)) | ((with_reducible refine' go_lenL ?ha ?_); (case ha => row_cond hhp)) | ((with_reducible refine' go_setL ?ha ?hj ?_); (case ha => row_cond hhp); (case hj => first | exact ixN0 | exact ixN1 | exact ixN2)) | ((with_reducible refine' go_tyL ?ha ?_); (case ha => row_cond hhp)) | ((with_reducible refine' go_append ?ha ?hl ?_); (case ha => row_cond hhp); (case hl => exact small1000 (by simp; row_cond lo))) | ((with_reducible refine' go_iteT ?hc ?_); (case hc => row_cond dc)) | ((with_reducible refine' go_iteF ?hc ?_); (case hc => row_cond dc)) | dsimp only [List.set_cons_zero, List.set_cons_succ])
local macro_rules | `(tactic| row_cond hgo) => `(tactic| repeat row_cond hst)
noncomputable def isInt : PyData->Bool
 | .int _ => true
 | _ => false
noncomputable def btwD (a b : Int) : PyData->Bool
 | .int i => decide (a<=i/\i<=b)
 | _ => false
def vpWhole : VP:=fun ss Q => ∃ d, ss = [.st d]/\Q (.st (.bool (isInt d)))
def vpBetween : VP:=fun ss Q => ∃ (a b : Int) (d : PyData), ss = [.st (.int a), .st (.int b), .st d]/\Q (.st (.bool (btwD a b d)))
def vpPlace : VP:=fun ss Q => ∃ (n : Int) (d : PyData), ss = [.st (.int n), .st d]/\Q (.st (.bool (btwD 0 (n - 1) d)))
section
variable {P : Program} {w : World} {K : PySem.W.Frag} {mg : Str->Option Value} {base : Heap}
theorem sc_is_whole : FnScope ["thing"] ["thing"] (defScope s_is_whole):=⟨rfl, rfl, rfl, by decide +kernel, rfl, by decide +kernel, by decide +kernel⟩
theorem can_is_whole (T : Txt K mg) : Can P w K mg base "is_whole" 1 ["thing"] (spP K (vpWhole)):=by
 obtain ⟨f, fd, D⟩:=T.d_is_whole
 refine D.can (D.fn.ok sc_is_whole (fun vs H Q E h => lenP h fun ss Q' q => by obtain ⟨d, rfl, k⟩:=q; rfl) (fun cdv A outer s H vs Q E hr h => ?_))
 have nd:=sc_is_whole.nd
 refine ⟨_, (pss_one (ps_ret (pe_and (pe_callB call_isi (by rfl) T.b_isinstance bt_isinstance (pa_cons (pv 0) (pa_cons (pe_bltn (v:=.ty "int") rfl T.b_int bt_int rfl) pa_nil))) (pe_one (pe_not (pe_callB call_isi (by rfl) T.b_isinstance bt_isinstance (pa_cons (pv 0) (pa_cons (pe_bltn (v:=.ty "bool") rfl T.b_bool bt_bool rfl) pa_nil)))))))), ?_⟩
 refine bodyP h fun ss Q' q B hK => ?_
 refine exS1 ss q fun d q1_ => ?_
 have k:=q1_
 clear q1_ q
 show EvS B _ _ [some (.st d)]
 row_cond go
 cases d with
 | int i => refine go_ifT ?_; row_cond go; exact k
 | bool b => refine go_ifT ?_; row_cond go; exact k
 | _ => refine go_ifF ?_; exact k
theorem sc_is_between : FnScope ["least", "most", "thing"] ["least", "most", "thing"] (defScope s_is_between):=⟨rfl, rfl, rfl, by decide +kernel, rfl, by decide +kernel, by decide +kernel⟩
theorem can_is_between (T : Txt K mg) : Can P w K mg base "is_between" 2 ["least", "most", "thing"] (spP K (vpBetween)):=by
 obtain ⟨f, fd, D⟩:=T.d_is_between
 refine D.can (D.fn.ok sc_is_between (fun vs H Q E h => lenP h fun ss Q' q => by obtain ⟨a, b, d, rfl, k⟩:=q; rfl) (fun cdv A outer s H vs Q E hr h => ?_))
 have nd:=sc_is_between.nd
 refine ⟨_, (pss_one (ps_ret (pe_and (pe_callD (can_is_whole T) hr (pa_cons (pv 2) pa_nil)) (pe_one (pe_chain op_le op_le (pv 0) (pv 2) (pv 1)))))), ?_⟩
 refine bodyP h fun ss Q' q B hK => ?_
 refine exS3 ss q fun a b d q1_ => ?_
 have k:=q1_
 clear q1_ q
 show EvS B _ _ [some (.st (.int a)), some (.st (.int b)), some (.st d)]
 row_cond go
 refine ⟨d, rfl, ?_⟩
 row_cond go
 cases d with
 | int i =>
  refine go_ifT ?_
  row_cond go
  refine go_ite (fun h1 => ?_) (fun h1 => ?_)
  ·row_cond go
   have e : decide (i<=b) = btwD a b (.int i):=by
    show _ = decide (a<=i/\i<=b)
    rw [Bool.eq_iff_iff]; simp [h1]
   rw [e]; exact k
  ·have e : false = btwD a b (.int i):=by
    show _ = decide (a<=i/\i<=b)
    exact (decide_eq_false (fun z => h1 z.1)).symm
   rw [e]; exact k
 | _ => exact go_ifF k
theorem sc_is_place : FnScope ["n", "thing"] ["n", "thing"] (defScope s_is_place):=⟨rfl, rfl, rfl, by decide +kernel, rfl, by decide +kernel, by decide +kernel⟩
theorem can_is_place (T : Txt K mg) : Can P w K mg base "is_place" 3 ["n", "thing"] (spP K (vpPlace)):=by
 obtain ⟨f, fd, D⟩:=T.d_is_place
 refine D.can (D.fn.ok sc_is_place (fun vs H Q E h => lenP h fun ss Q' q => by obtain ⟨n, d, rfl, k⟩:=q; rfl) (fun cdv A outer s H vs Q E hr h => ?_))
 have nd:=sc_is_place.nd
 refine ⟨_, (pss_one (ps_ret (pe_callD (can_is_between T) hr (pa_cons pe_int (pa_cons (pe_op op_sub (pv 0) pe_int) (pa_cons (pv 1) pa_nil)))))), ?_⟩
 refine bodyP h fun ss Q' q B hK => ?_
 refine exS2 ss q fun n d q1_ => ?_
 have k:=q1_
 clear q1_ q
 show EvS B _ _ [some (.st (.int n)), some (.st d)]
 row_cond go
 exact ⟨_, _, _, rfl, k⟩
end
noncomputable def isTieD (n : Int) : PyData->Bool
 | .tuple [.int a, .int b] => decide (0<=a/\a<=n - 1) && decide (0<=b/\b<=n - 1) && decide (a < b)
 | _ => false
def vpTie : VP:=fun ss Q => ∃ (n : Int) (d : PyData), ss = [.st (.int n), .st d]/\Q (.st (.bool (isTieD n d)))
section
variable {P : Program} {w : World} {K : PySem.W.Frag} {mg : Str->Option Value} {base : Heap}
theorem sc_is_tie : FnScope ["n", "thing", "a", "b"] ["n", "thing"] (defScope s_is_tie):=⟨rfl, rfl, rfl, by decide +kernel, rfl, by decide +kernel, by decide +kernel⟩
theorem can_is_tie (T : Txt K mg) : Can P w K mg base "is_tie" 4 ["n", "thing"] (spP K (vpTie)):=by
 obtain ⟨f, fd, D⟩:=T.d_is_tie
 refine D.can (D.fn.ok sc_is_tie (fun vs H Q E h => lenP h fun ss Q' q => by obtain ⟨n, d, rfl, k⟩:=q; rfl) (fun cdv A outer s H vs Q E hr h => ?_))
 have nd:=sc_is_tie.nd
 refine ⟨_, (pss_cons (ps_if (PW.pt (pw_or (pt_not (pt_val (pe_callB call_isi (by rfl) T.b_isinstance bt_isinstance (pa_cons (pv 1) (pa_cons (pe_bltn (v:=.ty "tuple") rfl T.b_tuple bt_tuple rfl) pa_nil))))) (pw_or1 (pt_cmpR op_ne (pe_callB call_lenS (by rfl) T.b_len bt_len (pa_cons (pv 1) pa_nil)) pe_int (nomark _)))))
   (pss_one (ps_ret pe_bl))
   pss_nil)
  (pss_cons (ps_asg (pv 1) (pg_tup rfl (pgs_cons (pg_name (i:=2) nd rfl (Or.inl rfl)) (pgs_cons (pg_name (i:=3) nd rfl (Or.inl rfl)) pgs_nil))))
  (pss_one (ps_ret (pe_and (pe_callD (can_is_place T) hr (pa_cons (pv 0) (pa_cons (pv 2) pa_nil))) (pe_and (pe_callD (can_is_place T) hr (pa_cons (pv 0) (pa_cons (pv 3) pa_nil))) (pe_one (pe_cmpR op_lt (pv 2) (pv 3) (nomark _))))))))), ?_⟩
 refine bodyP h fun ss Q' q B hK => ?_
 refine exS2 ss q fun n d q1_ => ?_
 have k:=q1_
 clear q1_ q
 show EvS B _ _ [some (.st (.int n)), some (.st d), none, none]
 row_cond go
 cases d with
 | tuple xs =>
  refine go_ifNT ?_
  row_cond go
  rcases (show xs.length = 2\/xs.length ≠ 2 by row_cond lo) with h2 | h2
  ·match xs, h2 with
   | [x, y], _ =>
    row_cond go
    refine ⟨n, x, rfl, ?_⟩
    row_cond go
    have key : isTieD n (.tuple [x, y]) = (btwD 0 (n - 1) x && (btwD 0 (n - 1) y && match x, y with | .int a, .int b => decide (a < b) | _, _ => false)):=by
     cases x <;> cases y <;> simp [isTieD, btwD, Bool.and_assoc]
    cases hx : btwD 0 (n - 1) x with
    | false =>
     rw [hx, Bool.false_and] at key
     refine go_ifF ?_
     rw [← key]; exact k
    | true =>
     refine go_ifT ?_
     row_cond go
     refine ⟨n, y, rfl, ?_⟩
     row_cond go
     cases hy : btwD 0 (n - 1) y with
     | false =>
      rw [hx, hy] at key
      refine go_ifF ?_
      rw [show false = isTieD n (.tuple [x, y]) by rw [key]; rfl]; exact k
     | true =>
      refine go_ifT ?_
      cases x with
      | int a =>
       cases y with
       | int b =>
        row_cond go
        rw [hx, hy] at key
        rw [show decide (a < b) = isTieD n (.tuple [.int a, .int b]) by rw [key]; rfl]; exact k
       | _ => simp [btwD] at hy
      | _ => simp [btwD] at hx
  ·row_cond go
   have : isTieD n (.tuple xs) = false:=by
    match xs, h2 with
    | [], _ => rfl
    | [x], _ => cases x <;> rfl
    | [_, _], h => exact absurd rfl h
    | x :: y :: _ :: _, _ => cases x <;> cases y <;> rfl
   rw [← this]; exact k
 | _ =>
  refine go_ifNF ?_
  row_cond go
  exact k
end
noncomputable def spanD (n most : Int) : PyData->Bool
 | .tuple [.int a, .int b] => decide (0<=a/\b<=n - 1/\2<=b - a/\b - a<=most)
 | _ => false
noncomputable def vpNeedNumX (mg : Str->Option Value) : VPX:=fun ss Q R => ∃ (a b : Int) (d : PyData), ss = [.st (.int a), .st (.int b), .st d]/\(btwD a b d = true->Q (.st .none))/\(btwD a b d = false->∀ C, mg "NoNumber" = some (.ref C)->R C)
noncomputable def vpSpanX (mg : Str->Option Value) : VPX:=fun ss Q R => ∃ (n most : Int) (d : PyData), ss = [.st (.int n), .st (.int most), .st d]/\(spanD n most d = true->Q (.st .none))/\(spanD n most d = false->∀ C, mg "NoTie" = some (.ref C)->R C)
noncomputable abbrev MXL : Int:=1000000000000000000
noncomputable def vpFarLX (mg : Str->Option Value) (least off : Int) : VPX:=fun ss Q R => ∃ (d1 d2 : PyData), ss = [.st d1, .st d2]/\(btwD least MXL d1 = false->∀ C, mg "NoNumber" = some (.ref C)->R C)/\∀ n, d1 = .int n->least<=n->n<=MXL ->
 ((d2 = .none\/spanD n (n - 1 - off) d2 = true)->∀ s, Q s)/\(d2 ≠ .none->spanD n (n - 1 - off) d2 = false->∀ C, mg "NoTie" = some (.ref C)->R C)
noncomputable def vpBestLX (mg : Str->Option Value) (least : Int) : VPX:=fun ss Q R => ∃ (d1 : PyData), ss = [.st d1]/\(btwD least MXL d1 = false->∀ C, mg "NoNumber" = some (.ref C)->R C)/\∀ n, d1 = .int n->least<=n->n<=MXL->∀ s, Q s
theorem btw_int {a b : Int} {d : PyData} (h : btwD a b d = true) : ∃ n, d = .int n/\a<=n/\n<=b:=by
 cases d with
 | int n => exact ⟨n, rfl, (of_decide_eq_true h).1, (of_decide_eq_true h).2⟩
 | _ => cases h
theorem span_tie {n most : Int} {d : PyData} (h : spanD n most d = true) : isTieD n d = true/\∃ a b, d = .tuple [.int a, .int b]/\2<=b - a/\b - a<=most:=by
 unfold spanD at h
 split at h
 ·rename_i a b
  have:=of_decide_eq_true h
  refine ⟨?_, a, b, rfl, this.2.2.1, this.2.2.2⟩
  simp only [isTieD, Bool.and_eq_true, decide_eq_true_eq]
  row_cond lo
 ·cases h
theorem tie_int {n : Int} {d : PyData} (h : isTieD n d = true) : ∃ a b, d = .tuple [.int a, .int b]/\0<=a/\a < b/\b<=n - 1:=by
 unfold isTieD at h
 split at h
 ·rename_i a b
  simp only [Bool.and_eq_true, decide_eq_true_eq] at h
  exact ⟨a, b, rfl, by row_cond lo, by row_cond lo, by row_cond lo⟩
 ·cases h
section
variable {P : Program} {w : World} {K : PySem.W.Frag} {mg : Str->Option Value} {base : Heap}
theorem scX_need_number : FnScope ["least", "most", "thing"] ["least", "most", "thing"] (defScope s_need_number):=⟨rfl, rfl, rfl, by decide +kernel, rfl, by decide +kernel, by decide +kernel⟩
theorem canX_need_number (T : Txt K mg) : CanX P w K mg base "need_number" 3 ["least", "most", "thing"] (spX K (vpNeedNumX mg)):=by
 obtain ⟨f, fd, D⟩:=T.d_need_number
 obtain ⟨cNoNumber, xNoNumber⟩:=T.x_NoNumber
 refine D.canX (D.fn.okX scX_need_number (fun vs H Q E h => lenX h fun ss Q' R' q => by obtain ⟨a, b, d, rfl, k1, k2⟩:=q; rfl) (fun cdv A outer s H vs Q E hr h => ?_))
 have nd:=scX_need_number.nd
 refine ⟨_, (pss_one (ps_if (pt_not (pt_val (pe_callD (can_is_between T) hr (pa_cons (pv 0) (pa_cons (pv 1) (pa_cons (pv 2) pa_nil))))))
   (pss_one (ps_raiseD xNoNumber.ok))
   pss_nil)), ?_⟩
 refine bodyX h fun ss Q' R' q B hK hE => ?_
 obtain ⟨a, b, d, rfl, k1, k2⟩:=q
 show EvS B _ _ [some (.st (.int a)), some (.st (.int b)), some (.st d)]
 row_cond go
 refine ⟨_, _, _, rfl, ?_⟩
 row_cond go
 cases e : btwD a b d with
 | true =>
  row_cond go
  exact k1 e
 | false =>
  row_cond go
  refine evs_raise hE (k2 e _ xNoNumber.mgx) ?_
  row_cond go
  exact Nat.le_of_ble_eq_true rfl
theorem scX_need_span : FnScope ["n", "most", "tie"] ["n", "most", "tie"] (defScope s_need_span):=⟨rfl, rfl, rfl, by decide +kernel, rfl, by decide +kernel, by decide +kernel⟩
theorem canX_need_span (T : Txt K mg) : CanX P w K mg base "need_span" 5 ["n", "most", "tie"] (spX K (vpSpanX mg)):=by
 obtain ⟨f, fd, D⟩:=T.d_need_span
 obtain ⟨cNoTie, xNoTie⟩:=T.x_NoTie
 refine D.canX (D.fn.okX scX_need_span (fun vs H Q E h => lenX h fun ss Q' R' q => by obtain ⟨n, most, d, rfl, k1, k2⟩:=q; rfl) (fun cdv A outer s H vs Q E hr h => ?_))
 have nd:=scX_need_span.nd
 refine ⟨_, (pss_one (ps_if (PW.pt (pw_or (pt_not (pt_val (pe_callD (can_is_tie T) hr (pa_cons (pv 0) (pa_cons (pv 2) pa_nil))))) (pw_or1 (pt_not (pt_chain op_le op_le pe_int (pe_op op_sub (pe_ix ix_lt (pv 2) pe_int (fun _ _ => rfl)) (pe_ix ix_lt (pv 2) pe_int (fun _ _ => rfl))) (pv 1))))))
   (pss_one (ps_raiseD xNoTie.ok))
   pss_nil)), ?_⟩
 refine bodyX h fun ss Q' R' q B hK hE => ?_
 obtain ⟨n, most, d, rfl, k1, k2⟩:=q
 show EvS B _ _ [some (.st (.int n)), some (.st (.int most)), some (.st d)]
 row_cond go
 refine ⟨_, _, rfl, ?_⟩
 cases e : isTieD n d with
 | false =>
  row_cond go
  have hs : spanD n most d = false:=by
   cases q : spanD n most d with
   | false => rfl
   | true => have:=(span_tie q).1; rw [e] at this; cases this
  refine evs_raise hE (k2 hs _ xNoTie.mgx) ?_
  row_cond go
  exact Nat.le_of_ble_eq_true rfl
 | true =>
  obtain ⟨a, b, rfl, a0, ab, b1⟩:=tie_int e
  row_cond go
  by_cases q1 : 2<=b - a
  ·by_cases q2 : b - a<=most
   ·have hs : spanD n most (.tuple [.int a, .int b]) = true:=decide_eq_true ⟨a0, b1, q1, q2⟩
    row_cond go
    exact k1 hs
   ·have hs : spanD n most (.tuple [.int a, .int b]) = false:=decide_eq_false fun z => q2 z.2.2.2
    row_cond go
    refine evs_raise hE (k2 hs _ xNoTie.mgx) ?_
    row_cond go
    exact Nat.le_of_ble_eq_true rfl
  ·have hs : spanD n most (.tuple [.int a, .int b]) = false:=decide_eq_false fun z => q1 z.2.2.1
   row_cond go
   refine evs_raise hE (k2 hs _ xNoTie.mgx) ?_
   row_cond go
   exact Nat.le_of_ble_eq_true rfl
theorem scX_line_far : FnScope ["n", "tie", "a", "b", "left", "right", "around"] ["n", "tie"] (defScope s_line_far):=⟨rfl, rfl, rfl, by decide +kernel, rfl, by decide +kernel, by decide +kernel⟩
theorem canX_line_far (T : Txt K mg) : CanX P w K mg base "line_far" 6 ["n", "tie"] (spX K (vpFarLX mg 1 0)):=by
 obtain ⟨f, fd, D⟩:=T.d_line_far
 obtain ⟨tk_MOST_LONG, hMOST_LONG⟩:=T.v_MOST_LONG
 refine D.canX (D.fn.okX scX_line_far (fun vs H Q E h => lenX h fun ss Q' R' q => by obtain ⟨d1, d2, rfl, k1, k2⟩:=q; rfl) (fun cdv A outer s H vs Q E hr h => ?_))
 have nd:=scX_line_far.nd
 refine ⟨_, (pss_cons (ps_expr (pe_callX (canX_need_number T) hr (pa_cons pe_int (pa_cons (pe_glob (v:=.int 1000000000000000000) rfl hMOST_LONG ⟨_, rfl⟩) (pa_cons (pv 0) pa_nil)))))
  (pss_cons (ps_if (pt_cmpR op_isNn (pv 1) pe_non (nomark _))
   (pss_one (ps_ret (pe_op op_sub (pv 0) pe_int)))
   pss_nil)
  (pss_cons (ps_expr (pe_callX (canX_need_span T) hr (pa_cons (pv 0) (pa_cons (pe_op op_sub (pv 0) pe_int) (pa_cons (pv 1) pa_nil)))))
  (pss_cons (ps_asg (pv 1) (pg_tup rfl (pgs_cons (pg_name (i:=2) nd rfl (Or.inl rfl)) (pgs_cons (pg_name (i:=3) nd rfl (Or.inl rfl)) pgs_nil))))
  (pss_cons (ps_set (i:=4) nd rfl (Or.inl rfl) (pv 2))
  (pss_cons (ps_set (i:=5) nd rfl (Or.inl rfl) (pe_op op_sub (pe_op op_sub (pv 0) pe_int) (pv 3)))
  (pss_cons (ps_set (i:=6) nd rfl (Or.inl rfl) (pe_op op_fdiv (pe_op op_add (pe_op op_sub (pv 3) (pv 2)) pe_int) pe_int))
  (pss_one (ps_ret (pe_callB (call_max3 rfl) (by rfl) T.b_max bt_max (pa_cons (pe_op op_add (pv 4) (pv 6)) (pa_cons (pe_op op_add (pv 5) (pv 6)) (pa_cons (pe_op op_add (pe_op op_add (pv 4) pe_int) (pv 5)) pa_nil))))))))))))), ?_⟩
 refine bodyX h fun ss Q' R' q B hK hE => ?_
 obtain ⟨d1, d2, rfl, k1, k2⟩:=q
 show EvS B _ _ [some (.st d1), some (.st d2), none, none, none, none, none]
 row_cond go
 refine evo_callX hE ?_
 row_cond go
 refine ⟨_, _, _, rfl, fun hb => ?_, k1⟩
 obtain ⟨n, rfl, n1, n2⟩:=btw_int hb
 obtain ⟨k3, k4⟩:=k2 n rfl n1 n2
 row_cond go
 cases d2 with
 | none =>
  refine go_ifT ?_
  row_cond go
  exact k3 (.inl rfl) _
 | _ =>
  refine go_ifF ?_
  row_cond go
  refine evo_callX hE ?_
  row_cond go
  refine ⟨_, _, _, rfl, fun hs => ?_, fun hs => k4 (fun z => by cases z) (by rw [Int.sub_zero]; exact hs)⟩
  first
  | (exfalso; cases hs; done)
  | (obtain ⟨_, a, b, e, _, _⟩ := span_tie hs
     cases e
     row_cond go
     refine opA_max3 fun m hm => ?_
     row_cond go
     exact k3 (.inr (by rw [Int.sub_zero]; exact hs)) _)
theorem scX_ring_far : FnScope ["n", "tie"] ["n", "tie"] (defScope s_ring_far):=⟨rfl, rfl, rfl, by decide +kernel, rfl, by decide +kernel, by decide +kernel⟩
theorem canX_ring_far (T : Txt K mg) : CanX P w K mg base "ring_far" 6 ["n", "tie"] (spX K (vpFarLX mg 3 1)):=by
 obtain ⟨f, fd, D⟩:=T.d_ring_far
 obtain ⟨tk_MOST_LONG, hMOST_LONG⟩:=T.v_MOST_LONG
 refine D.canX (D.fn.okX scX_ring_far (fun vs H Q E h => lenX h fun ss Q' R' q => by obtain ⟨d1, d2, rfl, k1, k2⟩:=q; rfl) (fun cdv A outer s H vs Q E hr h => ?_))
 have nd:=scX_ring_far.nd
 refine ⟨_, (pss_cons (ps_expr (pe_callX (canX_need_number T) hr (pa_cons pe_int (pa_cons (pe_glob (v:=.int 1000000000000000000) rfl hMOST_LONG ⟨_, rfl⟩) (pa_cons (pv 0) pa_nil)))))
  (pss_cons (ps_if (pt_cmpR op_notNn (pv 1) pe_non (nomark _))
   (pss_one (ps_expr (pe_callX (canX_need_span T) hr (pa_cons (pv 0) (pa_cons (pe_op op_sub (pv 0) pe_int) (pa_cons (pv 1) pa_nil))))))
   pss_nil)
  (pss_one (ps_ret (pe_op op_fdiv (pv 0) pe_int))))), ?_⟩
 refine bodyX h fun ss Q' R' q B hK hE => ?_
 obtain ⟨d1, d2, rfl, k1, k2⟩:=q
 show EvS B _ _ [some (.st d1), some (.st d2)]
 row_cond go
 refine evo_callX hE ?_
 row_cond go
 refine ⟨_, _, _, rfl, fun hb => ?_, k1⟩
 obtain ⟨n, rfl, n1, n2⟩:=btw_int hb
 obtain ⟨k3, k4⟩:=k2 n rfl n1 n2
 row_cond go
 cases d2 with
 | none =>
  refine go_ifF ?_
  row_cond go
  exact k3 (.inl rfl) _
 | _ =>
  refine go_ifT ?_
  row_cond go
  refine evo_callX hE ?_
  row_cond go
  refine ⟨_, _, _, rfl, fun hs => ?_, fun hs => k4 (fun z => by cases z) (by rw [show n - 1 - 1 = n - 2 by row_cond lo]; exact hs)⟩
  row_cond go
  exact k3 (.inr (by rw [show n - 1 - 1 = n - 2 by row_cond lo]; exact hs)) _
theorem scX_line_best : FnScope ["n"] ["n"] (defScope s_line_best):=⟨rfl, rfl, rfl, by decide +kernel, rfl, by decide +kernel, by decide +kernel⟩
theorem canX_line_best (T : Txt K mg) : CanX P w K mg base "line_best" 4 ["n"] (spX K (vpBestLX mg 3)):=by
 obtain ⟨f, fd, D⟩:=T.d_line_best
 obtain ⟨tk_MOST_LONG, hMOST_LONG⟩:=T.v_MOST_LONG
 refine D.canX (D.fn.okX scX_line_best (fun vs H Q E h => lenX h fun ss Q' R' q => by obtain ⟨d1, rfl, k1, k2⟩:=q; rfl) (fun cdv A outer s H vs Q E hr h => ?_))
 have nd:=scX_line_best.nd
 refine ⟨_, (pss_cons (ps_expr (pe_callX (canX_need_number T) hr (pa_cons pe_int (pa_cons (pe_glob (v:=.int 1000000000000000000) rfl hMOST_LONG ⟨_, rfl⟩) (pa_cons (pv 0) pa_nil)))))
  (pss_one (ps_ret (pe_tup (pa_cons (pe_op op_fdiv (pv 0) pe_int) (pa_cons (pe_tup (pa_cons pe_int (pa_cons (pe_op op_mul (pe_op op_fdiv (pe_op op_sub (pv 0) pe_int) pe_int) pe_int) pa_nil))) pa_nil)))))), ?_⟩
 refine bodyX h fun ss Q' R' q B hK hE => ?_
 obtain ⟨d1, rfl, k1, k2⟩:=q
 show EvS B _ _ [some (.st d1)]
 row_cond go
 refine evo_callX hE ?_
 row_cond go
 refine ⟨_, _, _, rfl, fun hb => ?_, k1⟩
 obtain ⟨n, rfl, n1, n2⟩:=btw_int hb
 row_cond go
 exact k2 n rfl n1 n2 _
theorem scX_ring_best : FnScope ["n"] ["n"] (defScope s_ring_best):=⟨rfl, rfl, rfl, by decide +kernel, rfl, by decide +kernel, by decide +kernel⟩
theorem canX_ring_best (T : Txt K mg) : CanX P w K mg base "ring_best" 4 ["n"] (spX K (vpBestLX mg 4)):=by
 obtain ⟨f, fd, D⟩:=T.d_ring_best
 obtain ⟨tk_MOST_LONG, hMOST_LONG⟩:=T.v_MOST_LONG
 refine D.canX (D.fn.okX scX_ring_best (fun vs H Q E h => lenX h fun ss Q' R' q => by obtain ⟨d1, rfl, k1, k2⟩:=q; rfl) (fun cdv A outer s H vs Q E hr h => ?_))
 have nd:=scX_ring_best.nd
 refine ⟨_, (pss_cons (ps_expr (pe_callX (canX_need_number T) hr (pa_cons pe_int (pa_cons (pe_glob (v:=.int 1000000000000000000) rfl hMOST_LONG ⟨_, rfl⟩) (pa_cons (pv 0) pa_nil)))))
  (pss_one (ps_ret (pe_tup (pa_cons (pe_op op_fdiv (pv 0) pe_int) (pa_cons (pe_tup (pa_cons pe_int (pa_cons pe_int pa_nil))) pa_nil)))))), ?_⟩
 refine bodyX h fun ss Q' R' q B hK hE => ?_
 obtain ⟨d1, rfl, k1, k2⟩:=q
 show EvS B _ _ [some (.st d1)]
 row_cond go
 refine evo_callX hE ?_
 row_cond go
 refine ⟨_, _, _, rfl, fun hb => ?_, k1⟩
 obtain ⟨n, rfl, n1, n2⟩:=btw_int hb
 row_cond go
 exact k2 n rfl n1 n2 _
end
noncomputable def stD (g c t : Int) : List PyData:=[.int g, .int c, .int t]
def vpCell : VP:=fun ss Q => ∃ (ns : List Int) (k : Int), ss = [.scr ns, .st (.int k)]/\0<=k/\k < 1048576/\∀ c, Q (.st (.int c))
def vpStore : VP:=fun ss Q => ∃ c : Int, ss = [.st (.int c)]/\∀ g t u, Q (.own (OL (stD g t u)))
def vpTake : VIo:=fun A ss Q => ∃ g c t many : Int, A = OL (stD g c t)/\ss = [.st (.int many)]/\0 < many/\many < 1073741824/\∀ r g' c' t' : Int, 0<=r->r < many->Q (OL (stD g' c' t')) (.st (.int r))
section
variable {P : Program} {w : World} {K : PySem.W.Frag} {mg : Str->Option Value} {base : Heap}
theorem sc_law_cell : FnScope ["script", "k"] ["script", "k"] (defScope s_law_cell):=⟨rfl, rfl, rfl, by decide +kernel, rfl, by decide +kernel, by decide +kernel⟩
theorem can_law_cell (T : Txt K mg) : Can P w K mg base "_law_cell" 1 ["script", "k"] (spP K (vpCell)):=by
 obtain ⟨f, fd, D⟩:=T.d_law_cell
 refine D.can (D.fn.ok sc_law_cell (fun vs H Q E h => lenP h fun ss Q' q => by obtain ⟨ns, k, rfl, h0, h1, kk⟩:=q; rfl) (fun cdv A outer s H vs Q E hr h => ?_))
 have nd:=sc_law_cell.nd
 refine ⟨_, (pss_cons (ps_if (pt_cmpR op_lt (pv 1) (pe_callB call_lenS (by rfl) T.b_len bt_len (pa_cons (pv 0) pa_nil)) (nomark _))
   (pss_one (ps_ret (pe_ix ix_lt (pv 0) (pv 1) (fun _ _ => rfl))))
   pss_nil)
  (pss_one (ps_ret (pe_op op_add (pe_op op_add (pe_op op_mul (pe_op op_mul pe_int (pv 1)) (pv 1)) (pe_op op_mul pe_int (pv 1))) pe_int)))), ?_⟩
 refine bodyP h fun ss Q' q B hK => ?_
 refine exS2 ss q fun ns k q1_ => ?_
 have h0:=q1_.1
 have h1:=q1_.2.1
 have kk:=q1_.2.2
 clear q1_ q
 show EvS B _ _ [some (.scr ns), some (.st (.int k))]
 row_cond go
 refine go_ite (fun hk => ?_) (fun hk => ?_)
 ·have hin : k.toNat < ns.length:=by row_cond lo
  have hat : atI ns k = some ns[k.toNat]:=at_in h0 (List.getElem?_eq_getElem hin)
  row_cond go
  exact kk _
 ·row_cond go
  exact kk _
theorem sc_law_store : FnScope ["cell", "great"] ["cell"] (defScope s_law_store):=⟨rfl, rfl, rfl, by decide +kernel, rfl, by decide +kernel, by decide +kernel⟩
theorem can_law_store (T : Txt K mg) : Can P w K mg base "_law_store" 1 ["cell"] (spP K (vpStore)):=by
 obtain ⟨f, fd, D⟩:=T.d_law_store
 refine D.can (D.fn.ok sc_law_store (fun vs H Q E h => lenP h fun ss Q' q => by obtain ⟨c, rfl, k⟩:=q; rfl) (fun cdv A outer s H vs Q E hr h => ?_))
 have nd:=sc_law_store.nd
 refine ⟨_, (pss_cons (ps_set (i:=1) nd rfl (Or.inl rfl) pe_int)
  (pss_cons (ps_if (pt_cmpR op_ge (pv 0) (pe_powc (n:=1000000000000000000) (by decide) (by refine ⟨by decide, by decide, by decide⟩)) (nomark _))
   (pss_one (ps_set (i:=1) nd rfl (Or.inl rfl) (pv 0)))
   pss_nil)
  (pss_one (ps_ret (pe_lst (pa_cons (pv 1) (pa_cons (pe_op op_mod (pv 0) pe_int) (pa_cons pe_int pa_nil)))))))), ?_⟩
 refine bodyP h fun ss Q' q B hK => ?_
 refine exS1 ss q fun c q1_ => ?_
 have k:=q1_
 clear q1_ q
 show EvS B _ _ [some (.st (.int c)), none]
 row_cond go
 refine go_ite (fun hk => ?_) (fun hk => ?_)
 ·row_cond go
  exact k _ _ _
 ·row_cond go
  exact k _ _ _
theorem sc_law_take : FnScope ["store", "many", "told", "one"] ["store", "many"] (defScope s_law_take):=⟨rfl, rfl, rfl, by decide +kernel, rfl, by decide +kernel, by decide +kernel⟩
theorem can_law_takeO (T : Txt K mg) : Can P w K mg base "_law_take" 1 ["store", "many"] (spI K (vpTake)):=by
 obtain ⟨f, fd, D⟩:=T.d_law_take
 refine D.can (D.fn.ok sc_law_take (fun vs H Q E h => lenI h fun A ss Q' q => by obtain ⟨g, c, t, many, rfl, rfl, h1, h2, k⟩:=q; rfl) (fun cdv A outer s H vs Q E hr h => ?_))
 have nd:=sc_law_take.nd
 refine ⟨_, (pss_cons (ps_if (pt_cmpR op_gt (pe_ix ix_lt (pv 0) pe_int (fun _ _ => rfl)) pe_int (nomark _))
   (pss_cons (ps_set (i:=2) nd rfl (Or.inl rfl) (pe_op op_mod (pe_ix ix_lt (pv 0) pe_int (fun _ _ => rfl)) (pv 1)))
    (pss_cons (ps_asg (pe_op op_fdiv (pe_ix ix_lt (pv 0) pe_int (fun _ _ => rfl)) (pv 1)) (pg_sub (pv 0) pe_int set_list))
    (pss_one (ps_ret (pv 2)))))
   pss_nil)
  (pss_cons (ps_asg (pe_op op_add (pe_ix ix_lt (pv 0) pe_int (fun _ _ => rfl)) pe_int) (pg_sub (pv 0) pe_int set_list))
  (pss_cons (ps_set (i:=3) nd rfl (Or.inl rfl) (pe_op op_mod (pe_op op_mul (pe_op op_add (pe_ix ix_lt (pv 0) pe_int (fun _ _ => rfl)) (pe_op op_mul pe_int (pe_ix ix_lt (pv 0) pe_int (fun _ _ => rfl)))) pe_int) pe_int))
  (pss_cons (ps_set (i:=3) nd rfl (Or.inl rfl) (pe_op op_mod (pe_op op_mul (pv 3) (pv 3)) pe_int))
  (pss_cons (ps_set (i:=3) nd rfl (Or.inl rfl) (pe_op op_mod (pe_op op_mul (pe_op op_add (pv 3) (pe_op op_mul pe_int (pe_ix ix_lt (pv 0) pe_int (fun _ _ => rfl)))) pe_int) pe_int))
  (pss_one (ps_ret (pe_op op_mod (pe_op op_fdiv (pv 3) pe_int) (pv 1))))))))), ?_⟩
 refine bodyI h fun A0 ss Q' q B hK => ?_
 obtain ⟨g, c, t, many, rfl, rfl, h1, h2, k⟩:=q
 show EvS B _ _ [some (.io (OL (stD g c t))), some (.st (.int many)), none, none]
 unfold stD at *
 row_cond go
 refine go_ite (fun hk => ?_) (fun hk => ?_)
 ·row_cond go
  exact k _ _ _ _ (Int.emod_nonneg _ (by row_cond lo)) (Int.emod_lt_of_pos _ h1)
 ·row_cond go
  exact k _ _ _ _ (Int.emod_nonneg _ (by row_cond lo)) (Int.emod_lt_of_pos _ h1)
end
noncomputable def OSt : Own:=exO fun q : Int × Int × Int => OL (stD q.1 q.2.1 q.2.2)
theorem hide_of {K : PySem.W.Frag} {f : VIo} {vs : List V} {H : Hp} {Q : VK} {E : XK} (h : spI K (fun A ss Q => A = OSt/\∀ g c t, f (OL (stD g c t)) ss fun A' s => (∃ g c t, A' = OL (stD g c t))/\Q OSt s) vs H Q E) : spI K f vs H Q E:=by
 obtain ⟨v0, vr, G, R, A, ss, F0, Q', rfl, gh, ft, rh, ap, fg, fr, ao, ⟨rfl, hf⟩, hQ⟩:=h
 obtain ⟨⟨g, c, t⟩, ap⟩:=ap
 refine ⟨v0, vr, G, R, OL (stD g c t), ss, F0, _, rfl, gh, ft, rh, ap, fg, fr, ao, hf g c t, fun A' s hq v G' H' F' Fv o => ?_⟩
 obtain ⟨⟨g', c', t', rfl⟩, q⟩:=hq
 exact hQ OSt s q v G' H' F' Fv { o with ap:=⟨(g', c', t'), o.ap⟩ }
theorem can_impS {P : Program} {w : World} {K : PySem.W.Frag} {mg : Str->Option Value} {base : Heap} {x : Str} {k : Nat} {ps : List Str} {sp sp' : Sp} (c : Can P w K mg base x k ps sp) (h : ∀ vs H Q E, sp' vs H Q E->sp vs H Q E) : Can P w K mg base x k ps sp':=by
 obtain ⟨f, fd, ok, m, kp, b⟩:=c
 exact ⟨f, fd, ok.imp h, m, kp, b⟩
def vpTakeS : VIo:=fun A ss Q => ∃ many : Int, A = OSt/\ss = [.st (.int many)]/\0 < many/\many < 1073741824/\∀ r : Int, 0<=r->r < many->Q OSt (.st (.int r))
theorem spI_imp {K : PySem.W.Frag} {f f' : VIo} {vs : List V} {H : Hp} {Q : VK} {E : XK} (hf : ∀ A ss Q', f A ss Q'->f' A ss Q') (h : spI K f vs H Q E) : spI K f' vs H Q E:=by
 obtain ⟨v0, vr, G, R, A, ss, F0, Q', rfl, gh, ft, rh, ap, fg, fr, ao, q, hQ⟩:=h
 exact ⟨v0, vr, G, R, A, ss, F0, Q', rfl, gh, ft, rh, ap, fg, fr, ao, hf _ _ _ q, hQ⟩
theorem evs_hide {B : Bs} {t : TS} {D' : VEnds} {env : En} {g c u : Int} (i : Nat) (e : env[i]? = some (some (.own (OL (stD g c u))))) (q : EvS B t D' (env.set i (some (.own OSt)))) : EvS B t D' env:=fun σ G H F D I r => q σ G H F D (I.weakO e fun _ _ _ _ h => ⟨(g, c, u), h⟩) r
section
variable {P : Program} {w : World} {K : PySem.W.Frag} {mg : Str->Option Value} {base : Heap}
theorem can_law_take (T : Txt K mg) : Can P w K mg base "_law_take" 1 ["store", "many"] (spI K (vpTakeS)) :=
 can_impS (can_law_takeO T) fun vs H Q E h => hide_of (spI_imp (fun A ss Q' q => by
  obtain ⟨many, rfl, rfl, h1, h2, k⟩:=q
  exact ⟨rfl, fun g c t => ⟨g, c, t, many, rfl, rfl, h1, h2, fun r g' c' t' r0 r1 => ⟨⟨g', c', t', rfl⟩, k r r0 r1⟩⟩⟩) h)
end
def vpNumOf : VIo:=fun A ss Q => ∃ least : Int, A = OSt/\ss = [.st (.int least)]/\1<=least/\least<=4/\∀ r : Int, least<=r->r<=1000000000000000000->Q OSt (.st (.int r))
def Ends (n : Int) (es : List Int) : Prop:=∀ e ∈ es, 0<=e/\e<=n - 1
theorem at8 {a b c d e f g h : PyData} {r : Int} (h0 : 0<=r) (h1 : r < 8) : ∃ v, atI [a, b, c, d, e, f, g, h] r = some v/\v ∈ [a, b, c, d, e, f, g, h]:=by
 have hr : r.toNat < 8:=by row_cond lo
 exact ⟨[a, b, c, d, e, f, g, h][r.toNat]'hr, at_in h0 (List.getElem?_eq_getElem hr), List.getElem_mem _⟩
theorem int_snoc (ds : List Int) (x : Int) : ds.map PyData.int ++ [.int x] = (ds ++ [x]).map .int:=by simp
def GoodD (n : Int) (ring : Bool) (d : PyData) : Prop:=d = .none\/spanD n (n - 1 - (if ring = true then 1 else 0)) d = true
def vpTieL : VIo:=fun A ss Q => ∃ (n : Int) (ring : Bool), A = OSt/\ss = [.st (.int n), .st (.bool ring)]/\3<=n/\n<=1000000000000000000/\∀ d : PyData, GoodD n ring d->Q OSt (.st d)
section
variable {P : Program} {w : World} {K : PySem.W.Frag} {mg : Str->Option Value} {base : Heap}
theorem sc_law_number_of : FnScope ["store", "least", "kind", "great", "k"] ["store", "least"] (defScope s_law_number_of):=⟨rfl, rfl, rfl, by decide +kernel, rfl, by decide +kernel, by decide +kernel⟩
theorem can_law_number_of (T : Txt K mg) : Can P w K mg base "_law_number_of" 2 ["store", "least"] (spI K (vpNumOf)):=by
 obtain ⟨f, fd, D⟩:=T.d_law_number_of
 refine D.can (D.fn.ok sc_law_number_of (fun vs H Q E h => lenI h fun A ss Q' q => by obtain ⟨least, rfl, rfl, h1, h2, k⟩:=q; rfl) (fun cdv A outer s H vs Q E hr h => ?_))
 have nd:=sc_law_number_of.nd
 refine ⟨_, (pss_cons (ps_set (i:=2) nd rfl (Or.inl rfl) (pe_callD (can_law_take T) hr (pa_cons (pv 0) (pa_cons pe_int pa_nil))))
  (pss_cons (ps_if (pt_cmpR op_eq (pv 2) pe_int (nomark _))
   (pss_one (ps_ret (pe_op op_add (pv 1) (pe_callD (can_law_take T) hr (pa_cons (pv 0) (pa_cons pe_int pa_nil))))))
   pss_nil)
  (pss_cons (ps_if (pt_cmpR op_eq (pv 2) pe_int (nomark _))
   (pss_one (ps_ret (pe_op op_add (pv 1) (pe_callD (can_law_take T) hr (pa_cons (pv 0) (pa_cons pe_int pa_nil))))))
   pss_nil)
  (pss_cons (ps_if (pt_cmpR op_eq (pv 2) pe_int (nomark _))
   (pss_one (ps_ret (pe_op op_add (pv 1) (pe_callD (can_law_take T) hr (pa_cons (pv 0) (pa_cons (pe_powc (n:=1000000) (by decide) (by refine ⟨by decide, by decide, by decide⟩)) pa_nil))))))
   pss_nil)
  (pss_cons (ps_if (pt_cmpR op_eq (pv 2) pe_int (nomark _))
   (pss_one (ps_ret (pe_op op_sub (pe_powc (n:=1000000000000000000) (by decide) (by refine ⟨by decide, by decide, by decide⟩)) (pe_callD (can_law_take T) hr (pa_cons (pv 0) (pa_cons pe_int pa_nil))))))
   pss_nil)
  (pss_cons (ps_set (i:=3) nd rfl (Or.inl rfl) pe_int)
  (pss_cons (ps_for PassesOwn.never rfl (pi_range1 rfl T.b_range (pa_cons pe_int pa_nil)) (pg_name (i:=4) nd rfl (Or.inl rfl))
   (pss_one (ps_set (i:=3) nd rfl (Or.inl rfl) (pe_op op_add (pe_op op_mul (pv 3) (pe_powc (n:=1000000) (by decide) (by refine ⟨by decide, by decide, by decide⟩))) (pe_callD (can_law_take T) hr (pa_cons (pv 0) (pa_cons (pe_powc (n:=1000000) (by decide) (by refine ⟨by decide, by decide, by decide⟩)) pa_nil)))))))
  (pss_one (ps_ret (pe_callB (call_max2n rfl) (by rfl) T.b_max bt_max (pa_cons (pv 1) (pa_cons (pv 3) pa_nil)))))))))))), ?_⟩
 refine bodyI h fun A0 ss Q' q B hK => ?_
 obtain ⟨least, rfl, rfl, h1, h2, k⟩:=q
 show EvS B _ _ [some (.io OSt), some (.st (.int least)), none, none, none]
 row_cond go
 refine ⟨5, rfl, rfl, by row_cond lo, by row_cond lo, fun kind k0 k5 => ?_⟩
 row_cond go
 refine go_ite (fun e0 => ?_) (fun e0 => ?_)
 ·row_cond go
  refine ⟨_, rfl, rfl, by row_cond lo, by row_cond lo, fun r r0 r1 => ?_⟩
  row_cond go
  exact k _ (by row_cond lo) (by row_cond lo)
 row_cond go
 refine go_ite (fun e1 => ?_) (fun e1 => ?_)
 ·row_cond go
  refine ⟨_, rfl, rfl, by row_cond lo, by row_cond lo, fun r r0 r1 => ?_⟩
  row_cond go
  exact k _ (by row_cond lo) (by row_cond lo)
 row_cond go
 refine go_ite (fun e2 => ?_) (fun e2 => ?_)
 ·row_cond go
  refine ⟨_, rfl, rfl, by row_cond lo, by row_cond lo, fun r r0 r1 => ?_⟩
  row_cond go
  exact k _ (by row_cond lo) (by row_cond lo)
 row_cond go
 refine go_ite (fun e3 => ?_) (fun e3 => ?_)
 ·row_cond go
  refine ⟨_, rfl, rfl, by row_cond lo, by row_cond lo, fun r r0 r1 => ?_⟩
  row_cond go
  exact k _ (by row_cond lo) (by row_cond lo)
 row_cond go
 refine forv_rng (fun i e => ∃ g v4, e = [some (.io OSt), some (.st (.int least)), some (.st (.int kind)), some (.st (.int g)), v4]/\0<=g/\g < (10 : Int) ^ (6 * i)) ⟨_, _, rfl, by row_cond lo, by decide⟩ ?_ ?_
 ·rintro i e hi q0_
  refine exS2 e q0_ fun g v4 q1_ => ?_
  have g0:=q1_.1
  have g1:=q1_.2
  clear q1_ q0_
  have hi3 : i < 3:=by simpa using hi
  row_cond go
  refine ⟨_, rfl, rfl, by row_cond lo, by row_cond lo, fun r r0 r1 => ?_⟩
  row_cond go
  refine ⟨_, _, rfl, by row_cond lo, ?_⟩
  rw [show 6 * (i + 1) = 6 * i + 6 by row_cond lo, Int.pow_add, show (10 : Int) ^ 6 = 1000000 by decide]
  row_cond lo
 ·rintro e q0_
  refine exS2 e q0_ fun g v4 q1_ => ?_
  have g0:=q1_.1
  have g1:=q1_.2
  clear q1_ q0_
  have g2 : g < 1000000000000000000:=by
   exact Int.lt_of_lt_of_le g1 (by decide)
  row_cond go
  refine k _ ?_ ?_ <;> split <;> row_cond lo
theorem sc_law_tie : FnScope ["store", "n", "ring", "ends", "k", "far", "some", "a", "b"] ["store", "n", "ring"] (defScope s_law_tie):=⟨rfl, rfl, rfl, by decide +kernel, rfl, by decide +kernel, by decide +kernel⟩
theorem can_law_tie (T : Txt K mg) : Can P w K mg base "_law_tie" 2 ["store", "n", "ring"] (spI K (vpTieL)):=by
 obtain ⟨f, fd, D⟩:=T.d_law_tie
 refine D.can (D.fn.ok sc_law_tie (fun vs H Q E h => lenI h fun A ss Q' q => by obtain ⟨n, ring, rfl, rfl, h1, h2, k⟩:=q; rfl) (fun cdv A outer s H vs Q E hr h => ?_))
 have nd:=sc_law_tie.nd
 refine ⟨_, (pss_cons (ps_set (i:=3) nd rfl (Or.inl rfl) (pe_lst pa_nil))
  (pss_cons (ps_for PassesOwn.never rfl (pi_range1 rfl T.b_range (pa_cons pe_int pa_nil)) (pg_name (i:=4) nd rfl (Or.inl rfl))
   (pss_cons (ps_set (i:=5) nd rfl (Or.inl rfl) (pe_op op_mod (pe_op op_add (pe_op op_add (pe_op op_mul (pe_callD (can_law_take T) hr (pa_cons (pv 0) (pa_cons (pe_powc (n:=100000000) (by decide) (by refine ⟨by decide, by decide, by decide⟩)) pa_nil))) (pe_powc (n:=10000000000) (by decide) (by refine ⟨by decide, by decide, by decide⟩))) (pe_op op_mul (pe_callD (can_law_take T) hr (pa_cons (pv 0) (pa_cons (pe_powc (n:=100000000) (by decide) (by refine ⟨by decide, by decide, by decide⟩)) pa_nil))) pe_int)) (pe_callD (can_law_take T) hr (pa_cons (pv 0) (pa_cons pe_int pa_nil)))) (pv 1)))
    (pss_cons (ps_set (i:=6) nd rfl (Or.inl rfl) (pe_lst (pa_cons pe_int (pa_cons (pe_op op_sub (pv 1) pe_int) (pa_cons (pe_op op_fdiv (pv 1) pe_int) (pa_cons (pe_callD (can_law_take T) hr (pa_cons (pv 0) (pa_cons (pe_callB (call_min2n rfl) (by rfl) T.b_min bt_min (pa_cons (pv 1) (pa_cons pe_int pa_nil))) pa_nil))) (pa_cons (pe_op op_sub (pe_op op_sub (pv 1) pe_int) (pe_callD (can_law_take T) hr (pa_cons (pv 0) (pa_cons (pe_callB (call_min2n rfl) (by rfl) T.b_min bt_min (pa_cons (pv 1) (pa_cons pe_int pa_nil))) pa_nil)))) (pa_cons (pv 5) (pa_cons (pe_op op_fdiv (pv 1) pe_int) (pa_cons (pv 5) pa_nil))))))))))
    (pss_one (ps_expr (pe_bm PySem.F.plainAttrs_list PySem.F.slot_list_append PySem.F.type_list_append mt_append (pv 3) (pa_cons (pe_ix ix_lt (pv 6) (pe_callD (can_law_take T) hr (pa_cons (pv 0) (pa_cons pe_int pa_nil))) (fun _ _ => rfl)) pa_nil)))))))
  (pss_cons (ps_asg (pe_callB call_sortI (by rfl) T.b_sorted bt_sorted (pa_cons (pv 3) pa_nil)) (pg_lst rfl (pgs_cons (pg_name (i:=7) nd rfl (Or.inl rfl)) (pgs_cons (pg_name (i:=8) nd rfl (Or.inl rfl)) pgs_nil))))
  (pss_cons (ps_if (PW.pt (pw_or (pt_cmpR op_lt (pe_op op_sub (pv 8) (pv 7)) pe_int (nomark _)) (pw_or1 (PW.pt (pw_and (pt_tru (pv 2)) (pw_and1 (pt_cmpR (op_eqD hr.units) (pe_tup (pa_cons (pv 7) (pa_cons (pv 8) pa_nil))) (pe_tup (pa_cons pe_int (pa_cons (pe_op op_sub (pv 1) pe_int) pa_nil))) (nomark _))))))))
   (pss_one (ps_ret pe_non))
   pss_nil)
  (pss_one (ps_ret (pe_tup (pa_cons (pv 7) (pa_cons (pv 8) pa_nil))))))))), ?_⟩
 refine bodyI h fun A0 ss Q' q B hK => ?_
 obtain ⟨n, ring, rfl, rfl, h1, h2, k⟩:=q
 show EvS B _ _ [some (.io OSt), some (.st (.int n)), some (.st (.bool ring)), none, none, none, none, none, none]
 row_cond go
 refine forv_rng (fun i e => ∃ v1 v2 v3 v4 v5 ns, e = [some (.io OSt), some (.st (.int n)), some (.st (.bool ring)), some (.own (OL (ns.map .int))), v1, v2, v3, v4, v5]/\ns.length = i/\Ends n ns) ⟨_, _, _, _, _, [], rfl, rfl, fun e he => by cases he⟩ ?_ ?_
 ·rintro i e hi q0_
  refine exS6 e q0_ fun v1 v2 v3 v4 v5 ns q1_ => ?_
  have hl:=q1_.1
  have hE:=q1_.2
  clear q1_ q0_
  row_cond go
  refine ⟨_, rfl, rfl, by row_cond lo, by row_cond lo, fun x1 x1a x1b => ?_⟩
  row_cond go
  refine ⟨_, rfl, rfl, by row_cond lo, by row_cond lo, fun x2 x2a x2b => ?_⟩
  row_cond go
  refine ⟨_, rfl, rfl, by row_cond lo, by row_cond lo, fun x3 x3a x3b => ?_⟩
  row_cond go
  have hf:=Int.emod_nonneg (x1 * 10000000000 + x2 * 100 + x3) (show n ≠ 0 by row_cond lo)
  have hf2:=Int.emod_lt_of_pos (x1 * 10000000000 + x2 * 100 + x3) (show 0 < n by row_cond lo)
  generalize (x1 * 10000000000 + x2 * 100 + x3) % n = far at hf hf2
  row_cond go
  refine ⟨_, rfl, rfl, by split <;> row_cond lo, by split <;> row_cond lo, fun x4 x4a x4b => ?_⟩
  have x4c : x4 < n:=by split at x4b <;> row_cond lo
  row_cond go
  refine ⟨_, rfl, rfl, by split <;> row_cond lo, by split <;> row_cond lo, fun x5 x5a x5b => ?_⟩
  have x5c : x5 < n:=by split at x5b <;> row_cond lo
  row_cond go
  refine ⟨_, rfl, rfl, by row_cond lo, by row_cond lo, fun x6 x6a x6b => ?_⟩
  obtain ⟨v, hv, hm⟩:=at8 (a:=.int 0) (b:=.int (n - 1)) (c:=.int (n / 2)) (d:=.int x4) (e:=.int (n - 1 - x5)) (f:=.int far) (g:=.int (n / 3)) (h:=.int far) x6a x6b
  obtain ⟨z, rfl, z1, z2⟩ : ∃ z : Int, v = .int z/\0<=z/\z<=n - 1:=by
   simp only [List.mem_cons, List.not_mem_nil, or_false] at hm
   rcases hm with rfl | rfl | rfl | rfl | rfl | rfl | rfl | rfl <;> exact ⟨_, rfl, by row_cond lo, by row_cond lo⟩
  row_cond go
  rw [int_snoc]
  refine ⟨_, _, _, _, _, ns ++ [z], rfl, by simp [hl], fun e he => ?_⟩
  rcases List.mem_append.mp he with q | q
  ·exact hE e q
  ·have : e = z:=by simpa using q
   subst this; exact ⟨z1, z2⟩
 ·rintro e q0_
  refine exS6 e q0_ fun v1 v2 v3 v4 v5 ns q1_ => ?_
  have hl:=q1_.1
  have hE:=q1_.2
  clear q1_ q0_
  row_cond go
  refine evo_sortI ?_
  row_cond go
  refine ⟨ns, rfl, by rw [hl]; decide, fun ms pm so => evg_frz frz_OL ?_⟩
  obtain ⟨a, b, rfl⟩ : ∃ a b, ms = [a, b]:=by
   have hl2 : ms.length = 2:=by rw [pm.length_eq, hl]; rfl
   match ms, hl2 with
   | [a, b], _ => exact ⟨a, b, rfl⟩
  have ha:=hE a (pm.mem_iff.mp (by simp))
  have hb:=hE b (pm.mem_iff.mp (by simp))
  show EvG B _ (.st (.list [.int a, .int b])) _ _
  row_cond go
  refine go_ite (fun h3 => ?_) (fun h3 => ?_)
  ·row_cond go
   exact k _ (.inl rfl)
  ·row_cond go
   cases ring with
   | true =>
    refine go_ifT ?_
    row_cond go
    refine op2_eqD rfl rfl (by simp [PyData.depth, PyData.depthAll]) ?_
    have ee : PyData.eqv (.tuple [.int a, .int b]) (.tuple [.int 0, .int (n - 1)]) = decide (a = 0/\b = n - 1):=by
     rw [Bool.eq_iff_iff, eqv_plain _ _ rfl rfl]
     simp
    rw [ee]
    row_cond go
    refine go_ite (fun h5 => ?_) (fun h5 => ?_)
    ·row_cond go
     exact k _ (.inl rfl)
    ·row_cond go
     exact k _ (.inr (decide_eq_true ⟨ha.1, hb.2, by row_cond lo, by rw [if_pos rfl]; row_cond lo⟩))
   | false =>
    refine go_ifF ?_
    row_cond go
    exact k _ (.inr (decide_eq_true ⟨ha.1, hb.2, by row_cond lo, by rw [if_neg Bool.false_ne_true]; row_cond lo⟩))
end
theorem bt_ValueError : bootBuiltins "ValueError" = some (.type "ValueError"):=by decide +kernel
def vpKind (mg : Str->Option Value) : VIo:=fun A ss Q => ∃ C, A = OE C/\ss = []/\∃ w : Str, ((mg "NoNumber" = some (.ref C)/\w = "NoNumber")\/(mg "NoTie" = some (.ref C)/\w = "NoTie"))/\Q (OE C) (.st (.str w))
section
variable {P : Program} {w : World} {K : PySem.W.Frag} {mg : Str->Option Value} {base : Heap}
theorem sc_law_kind : FnScope ["caught", "kinds"] ["caught"] (defScope s_law_kind):=⟨rfl, rfl, rfl, by decide +kernel, rfl, by decide +kernel, by decide +kernel⟩
theorem can_law_kind (T : Txt K mg) : Can P w K mg base "_law_kind" 1 ["caught"] (spI K (vpKind mg)):=by
 obtain ⟨f, fd, D⟩:=T.d_law_kind
 obtain ⟨cNoJoin, xNoJoin⟩:=T.x_NoJoin
 obtain ⟨cNoNumber, xNoNumber⟩:=T.x_NoNumber
 obtain ⟨cNoTie, xNoTie⟩:=T.x_NoTie
 obtain ⟨cNoTree, xNoTree⟩:=T.x_NoTree
 obtain ⟨cNoName, xNoName⟩:=T.x_NoName
 obtain ⟨cNoPlace, xNoPlace⟩:=T.x_NoPlace
 obtain ⟨cNoRow, xNoRow⟩:=T.x_NoRow
 obtain ⟨cNoText, xNoText⟩:=T.x_NoText
 refine D.can (D.fn.ok sc_law_kind (fun vs H Q E h => lenI h fun A ss Q' q => by obtain ⟨C, rfl, rfl, w, hC, kk⟩:=q; rfl) (fun cdv A outer s H vs Q E hr h => ?_))
 have nd:=sc_law_kind.nd
 refine ⟨_, (pss_cons (ps_set (i:=1) nd rfl (Or.inl rfl) (pe_lst (pa_cons (pe_callB call_isiX (by rfl) T.b_isinstance bt_isinstance (pa_cons (pv 0) (pa_cons (pe_glob (v:=.ref cNoJoin) rfl xNoJoin.mgx rfl) pa_nil))) (pa_cons (pe_callB call_isiX (by rfl) T.b_isinstance bt_isinstance (pa_cons (pv 0) (pa_cons (pe_glob (v:=.ref cNoNumber) rfl xNoNumber.mgx rfl) pa_nil))) pa_nil))))
  (pss_cons (ps_set (i:=1) nd rfl (Or.inl rfl) (pe_op op_cat (pv 1) (pe_lst (pa_cons (pe_callB call_isiX (by rfl) T.b_isinstance bt_isinstance (pa_cons (pv 0) (pa_cons (pe_glob (v:=.ref cNoTie) rfl xNoTie.mgx rfl) pa_nil))) (pa_cons (pe_callB call_isiX (by rfl) T.b_isinstance bt_isinstance (pa_cons (pv 0) (pa_cons (pe_glob (v:=.ref cNoTree) rfl xNoTree.mgx rfl) pa_nil))) pa_nil)))))
  (pss_cons (ps_set (i:=1) nd rfl (Or.inl rfl) (pe_op op_cat (pv 1) (pe_lst (pa_cons (pe_callB call_isiXs (by rfl) T.b_isinstance bt_isinstance (pa_cons (pv 0) (pa_cons (pe_tup (pa_cons (pe_glob (v:=.ref cNoName) rfl xNoName.mgx rfl) (pa_cons (pe_glob (v:=.ref cNoPlace) rfl xNoPlace.mgx rfl) (pa_cons (pe_glob (v:=.ref cNoRow) rfl xNoRow.mgx rfl) (pa_cons (pe_glob (v:=.ref cNoText) rfl xNoText.mgx rfl) pa_nil))))) pa_nil))) pa_nil))))
  (pss_cons (ps_if (PW.pt (pw_or (pt_cmpR op_ne (pe_bm PySem.F.plainAttrs_list PySem.F.slot_list_count PySem.F.type_list_count mt_countB (pv 1) (pa_cons pe_bl pa_nil)) pe_int (nomark _)) (pw_or1 (pt_not (pt_val (pe_callB call_isiX (by rfl) T.b_isinstance bt_isinstance (pa_cons (pv 0) (pa_cons (pe_bltn (v:=.ty "ValueError") rfl T.b_ValueError bt_ValueError rfl) pa_nil))))))))
   (pss_one (ps_ret pe_str))
   pss_nil)
  (pss_one (ps_ret (pe_ix ix_lt (pe_lst (pa_cons pe_str (pa_cons pe_str (pa_cons pe_str (pa_cons pe_str (pa_cons pe_str pa_nil)))))) (pe_bm PySem.F.plainAttrs_list PySem.F.slot_list_index PySem.F.type_list_index mt_indexB (pv 1) (pa_cons pe_bl pa_nil)) (fun _ _ => rfl)))))))), ?_⟩
 refine bodyI h fun A0 ss Q' q B hK => ?_
 obtain ⟨C, rfl, rfl, w, hC, kk⟩:=q
 show EvS B _ _ [some (.io (OE C)), none]
 rcases hC with ⟨hC, rfl⟩ | ⟨hC, rfl⟩
 ·obtain rfl : cNoNumber = C:=by have:=xNoNumber.mgx.symm.trans hC; cases this; rfl
  have hany : PySem.W.kitAny K (.ref cNoNumber) ((cNoName :: [cNoPlace, cNoRow, cNoText]).map Value.ref) = some false:=by
   simp only [List.map_cons, List.map_nil, PySem.W.kitAny, T.y_NoNumber_NoName _ _ xNoNumber.mgx xNoName.mgx, T.y_NoNumber_NoPlace _ _ xNoNumber.mgx xNoPlace.mgx, T.y_NoNumber_NoRow _ _ xNoNumber.mgx xNoRow.mgx, T.y_NoNumber_NoText _ _ xNoNumber.mgx xNoText.mgx]
  repeat (first
   | (refine ev_isiX (.inr rfl) xNoNumber.xin (T.y_NoNumber_NoJoin _ _ xNoNumber.mgx xNoJoin.mgx) ?_)
   | (refine ev_isiX (.inr rfl) xNoNumber.xin (T.y_NoNumber_NoNumber _ _ xNoNumber.mgx xNoNumber.mgx) ?_)
   | (refine ev_isiX (.inr rfl) xNoNumber.xin (T.y_NoNumber_NoTie _ _ xNoNumber.mgx xNoTie.mgx) ?_)
   | (refine ev_isiX (.inr rfl) xNoNumber.xin (T.y_NoNumber_NoTree _ _ xNoNumber.mgx xNoTree.mgx) ?_)
   | (refine ev_isiXs (Ds:=[cNoPlace, cNoRow, cNoText]) (.inr rfl) (by simp) xNoNumber.xin hany ?_)
   | (refine ev_isiXT (.inr rfl) xNoNumber.xin (T.y_NoNumber_ValueError _ xNoNumber.mgx) ?_)
   | (refine ev_countB (bs:=[false, true, false, false, false]) ?_)
   | (refine ev_indexB (bs:=[false, true, false, false, false]) (j:=1) ?_)
   | row_cond st)
  rw [show (!decide (((List.count true [false, true, false, false, false] : Nat) : Int) = 1)) = false by decide]
  refine go_ifF ?_
  repeat (first
   | (refine ev_isiX (.inr rfl) xNoNumber.xin (T.y_NoNumber_NoJoin _ _ xNoNumber.mgx xNoJoin.mgx) ?_)
   | (refine ev_isiX (.inr rfl) xNoNumber.xin (T.y_NoNumber_NoNumber _ _ xNoNumber.mgx xNoNumber.mgx) ?_)
   | (refine ev_isiX (.inr rfl) xNoNumber.xin (T.y_NoNumber_NoTie _ _ xNoNumber.mgx xNoTie.mgx) ?_)
   | (refine ev_isiX (.inr rfl) xNoNumber.xin (T.y_NoNumber_NoTree _ _ xNoNumber.mgx xNoTree.mgx) ?_)
   | (refine ev_isiXs (Ds:=[cNoPlace, cNoRow, cNoText]) (.inr rfl) (by simp) xNoNumber.xin hany ?_)
   | (refine ev_isiXT (.inr rfl) xNoNumber.xin (T.y_NoNumber_ValueError _ xNoNumber.mgx) ?_)
   | (refine ev_countB (bs:=[false, true, false, false, false]) ?_)
   | (refine ev_indexB (bs:=[false, true, false, false, false]) (j:=1) ?_)
   | row_cond st)
  refine ⟨by decide, ?_⟩
  row_cond go
  exact kk
 ·obtain rfl : cNoTie = C:=by have:=xNoTie.mgx.symm.trans hC; cases this; rfl
  have hany : PySem.W.kitAny K (.ref cNoTie) ((cNoName :: [cNoPlace, cNoRow, cNoText]).map Value.ref) = some false:=by
   simp only [List.map_cons, List.map_nil, PySem.W.kitAny, T.y_NoTie_NoName _ _ xNoTie.mgx xNoName.mgx, T.y_NoTie_NoPlace _ _ xNoTie.mgx xNoPlace.mgx, T.y_NoTie_NoRow _ _ xNoTie.mgx xNoRow.mgx, T.y_NoTie_NoText _ _ xNoTie.mgx xNoText.mgx]
  repeat (first
   | (refine ev_isiX (.inr rfl) xNoTie.xin (T.y_NoTie_NoJoin _ _ xNoTie.mgx xNoJoin.mgx) ?_)
   | (refine ev_isiX (.inr rfl) xNoTie.xin (T.y_NoTie_NoNumber _ _ xNoTie.mgx xNoNumber.mgx) ?_)
   | (refine ev_isiX (.inr rfl) xNoTie.xin (T.y_NoTie_NoTie _ _ xNoTie.mgx xNoTie.mgx) ?_)
   | (refine ev_isiX (.inr rfl) xNoTie.xin (T.y_NoTie_NoTree _ _ xNoTie.mgx xNoTree.mgx) ?_)
   | (refine ev_isiXs (Ds:=[cNoPlace, cNoRow, cNoText]) (.inr rfl) (by simp) xNoTie.xin hany ?_)
   | (refine ev_isiXT (.inr rfl) xNoTie.xin (T.y_NoTie_ValueError _ xNoTie.mgx) ?_)
   | (refine ev_countB (bs:=[false, false, true, false, false]) ?_)
   | (refine ev_indexB (bs:=[false, false, true, false, false]) (j:=2) ?_)
   | row_cond st)
  rw [show (!decide (((List.count true [false, false, true, false, false] : Nat) : Int) = 1)) = false by decide]
  refine go_ifF ?_
  repeat (first
   | (refine ev_isiX (.inr rfl) xNoTie.xin (T.y_NoTie_NoJoin _ _ xNoTie.mgx xNoJoin.mgx) ?_)
   | (refine ev_isiX (.inr rfl) xNoTie.xin (T.y_NoTie_NoNumber _ _ xNoTie.mgx xNoNumber.mgx) ?_)
   | (refine ev_isiX (.inr rfl) xNoTie.xin (T.y_NoTie_NoTie _ _ xNoTie.mgx xNoTie.mgx) ?_)
   | (refine ev_isiX (.inr rfl) xNoTie.xin (T.y_NoTie_NoTree _ _ xNoTie.mgx xNoTree.mgx) ?_)
   | (refine ev_isiXs (Ds:=[cNoPlace, cNoRow, cNoText]) (.inr rfl) (by simp) xNoTie.xin hany ?_)
   | (refine ev_isiXT (.inr rfl) xNoTie.xin (T.y_NoTie_ValueError _ xNoTie.mgx) ?_)
   | (refine ev_countB (bs:=[false, false, true, false, false]) ?_)
   | (refine ev_indexB (bs:=[false, false, true, false, false]) (j:=2) ?_)
   | row_cond st)
  refine ⟨by decide, ?_⟩
  row_cond go
  exact kk
end
noncomputable def lstD (way : Int) : Int:=if way = 0 then 1 else if way = 3 then 4 else 3
noncomputable def okT (way : Int) : PyData->PyData->Bool
 | .int _, .none => true
 | .int n, d => spanD n (n - 1 - way) d
 | _, _ => false
theorem okT_of {way n : Int} {d : PyData} (h : d = .none\/spanD n (n - 1 - way) d = true) : okT way (.int n) d = true:=by
 rcases h with rfl | h
 ·rfl
 ·cases d <;> first | rfl | exact h
theorem noT_of {way n : Int} {d : PyData} (h : d ≠ .none) (g : spanD n (n - 1 - way) d = false) : okT way (.int n) d = false:=by
 cases d <;> first | exact absurd rfl h | exact g
def vpWord : VP:=fun ss Q => ∃ (way : Int) (d1 d2 : PyData), ss = [.st (.int way), .st d1, .st d2]/\0<=way/\way<=3/\(btwD (lstD way) MXL d1 = false->Q (.st (.str "NoNumber"))) /\
 (btwD (lstD way) MXL d1 = true->(2<=way\/okT way d1 d2 = true)->Q (.st (.str "")))/\(way<=1->btwD (lstD way) MXL d1 = true->okT way d1 d2 = false->Q (.st (.str "NoTie")))
section
variable {P : Program} {w : World} {K : PySem.W.Frag} {mg : Str->Option Value} {base : Heap}
theorem sc_law_word : FnScope ["way", "n", "tie", "e", "caught"] ["way", "n", "tie"] (defScope s_law_word):=⟨rfl, rfl, rfl, by decide +kernel, rfl, by decide +kernel, by decide +kernel⟩
theorem can_law_word (T : Txt K mg) : Can P w K mg base "_law_word" 7 ["way", "n", "tie"] (spP K (vpWord)):=by
 obtain ⟨f, fd, D⟩:=T.d_law_word
 obtain ⟨cTieError, xTieError⟩:=T.x_TieError
 refine D.can (D.fn.ok sc_law_word (fun vs H Q E h => lenP h fun ss Q' q => by obtain ⟨way, d1, d2, rfl, w0, w1, k1, k2, k3⟩:=q; rfl) (fun cdv A outer s H vs Q E hr h => ?_))
 have nd:=sc_law_word.nd
 refine ⟨_, (pss_cons (ps_set (i:=4) nd rfl (Or.inl rfl) pe_non)
  (pss_cons (ps_try (i:=3) ⟨rfl, rfl⟩ rfl xTieError.ok rfl nd rfl rfl (px_if (pt_cmpR op_eq (pv 0) pe_int (nomark _))
    (px_callD (canX_line_far T) hr (pa_cons (pv 1) (pa_cons (pv 2) pa_nil)))
    (px_if (pt_cmpR op_eq (pv 0) pe_int (nomark _))
     (px_callD (canX_ring_far T) hr (pa_cons (pv 1) (pa_cons (pv 2) pa_nil)))
     (px_if (pt_cmpR op_eq (pv 0) pe_int (nomark _))
      (px_callD (canX_line_best T) hr (pa_cons (pv 1) pa_nil))
      (px_callD (canX_ring_best T) hr (pa_cons (pv 1) pa_nil)))))
   (fun ea => (pss_one (ps_set (i:=4) nd rfl (Or.inl rfl) (pv 3)))))
  (pss_cons (ps_if (pt_cmpR op_isNn (pv 4) pe_non (nomark _))
   (pss_one (ps_ret pe_str))
   pss_nil)
  (pss_one (ps_ret (pe_callD (can_law_kind T) hr (pa_cons (pv 4) pa_nil))))))), ?_⟩
 refine bodyP h fun ss Q' q B hK => ?_
 refine exS3 ss q fun way d1 d2 q1_ => ?_
 have w0:=q1_.1
 have w1:=q1_.2.1
 have k1:=q1_.2.2.1
 have k2:=q1_.2.2.2.1
 have k3:=q1_.2.2.2.2
 clear q1_ q
 show EvS B _ _ [some (.st (.int way)), some (.st d1), some (.st d2), none, none]
 obtain ⟨cNoNumber, xNoNumber⟩:=T.x_NoNumber
 obtain ⟨cNoTie, xNoTie⟩:=T.x_NoTie
 have hsubNoNumber : XSub K cNoNumber cTieError:=xsub_of xNoNumber.exc (T.s_NoNumber_TieError _ _ xNoNumber.mgx xTieError.mgx)
 have hsubNoTie : XSub K cNoTie cTieError:=xsub_of xNoTie.exc (T.s_NoTie_TieError _ _ xNoTie.mgx xTieError.mgx)
 row_cond go
 refine evs_try ?_
 refine evx_if ?_
 row_cond go
 refine go_ite (fun hw => ?_) (fun hw0 => ?_)
 ·refine evx_call ?_
  row_cond go
  refine ⟨d1, d2, rfl, fun hb C hC => ?_, fun n en n1 n2 => ⟨fun hg s => ?_, fun hn hs C hC => ?_⟩⟩
  ·obtain rfl : cNoNumber = C:=by have:=xNoNumber.mgx.symm.trans hC; cases this; rfl
   refine ⟨hsubNoNumber, ?_⟩
   dsimp only [List.set_cons_zero, List.set_cons_succ]
   refine evs_asg (evo_varM rfl ?_)
   dsimp only [List.set_cons_zero, List.set_cons_succ]
   repeat (first | (refine ev_isNE (.inl rfl) ?_) | row_cond st | (dsimp only [List.set_cons_zero, List.set_cons_succ]; row_cond st))
   refine ⟨cNoNumber, rfl, rfl, "NoNumber", .inl ⟨xNoNumber.mgx, rfl⟩, ?_⟩
   exact k1 (by subst hw; exact hb)
  ·row_cond go
   refine go_ifT ?_
   row_cond go
   exact k2 (by subst hw; subst en; exact decide_eq_true ⟨n1, n2⟩) (.inr (by subst hw; subst en; exact okT_of hg))
  ·obtain rfl : cNoTie = C:=by have:=xNoTie.mgx.symm.trans hC; cases this; rfl
   refine ⟨hsubNoTie, ?_⟩
   dsimp only [List.set_cons_zero, List.set_cons_succ]
   refine evs_asg (evo_varM rfl ?_)
   dsimp only [List.set_cons_zero, List.set_cons_succ]
   repeat (first | (refine ev_isNE (.inl rfl) ?_) | row_cond st | (dsimp only [List.set_cons_zero, List.set_cons_succ]; row_cond st))
   refine ⟨cNoTie, rfl, rfl, "NoTie", .inr ⟨xNoTie.mgx, rfl⟩, ?_⟩
   exact k3 (by subst hw; row_cond lo) (by subst hw; subst en; exact decide_eq_true ⟨n1, n2⟩) (by subst hw; subst en; exact noT_of hn hs)
 refine evx_if ?_
 row_cond go
 refine go_ite (fun hw => ?_) (fun hw1 => ?_)
 ·refine evx_call ?_
  row_cond go
  refine ⟨d1, d2, rfl, fun hb C hC => ?_, fun n en n1 n2 => ⟨fun hg s => ?_, fun hn hs C hC => ?_⟩⟩
  ·obtain rfl : cNoNumber = C:=by have:=xNoNumber.mgx.symm.trans hC; cases this; rfl
   refine ⟨hsubNoNumber, ?_⟩
   dsimp only [List.set_cons_zero, List.set_cons_succ]
   refine evs_asg (evo_varM rfl ?_)
   dsimp only [List.set_cons_zero, List.set_cons_succ]
   repeat (first | (refine ev_isNE (.inl rfl) ?_) | row_cond st | (dsimp only [List.set_cons_zero, List.set_cons_succ]; row_cond st))
   refine ⟨cNoNumber, rfl, rfl, "NoNumber", .inl ⟨xNoNumber.mgx, rfl⟩, ?_⟩
   exact k1 (by subst hw; exact hb)
  ·row_cond go
   refine go_ifT ?_
   row_cond go
   exact k2 (by subst hw; subst en; exact decide_eq_true ⟨n1, n2⟩) (.inr (by subst hw; subst en; exact okT_of hg))
  ·obtain rfl : cNoTie = C:=by have:=xNoTie.mgx.symm.trans hC; cases this; rfl
   refine ⟨hsubNoTie, ?_⟩
   dsimp only [List.set_cons_zero, List.set_cons_succ]
   refine evs_asg (evo_varM rfl ?_)
   dsimp only [List.set_cons_zero, List.set_cons_succ]
   repeat (first | (refine ev_isNE (.inl rfl) ?_) | row_cond st | (dsimp only [List.set_cons_zero, List.set_cons_succ]; row_cond st))
   refine ⟨cNoTie, rfl, rfl, "NoTie", .inr ⟨xNoTie.mgx, rfl⟩, ?_⟩
   exact k3 (by subst hw; row_cond lo) (by subst hw; subst en; exact decide_eq_true ⟨n1, n2⟩) (by subst hw; subst en; exact noT_of hn hs)
 refine evx_if ?_
 row_cond go
 refine go_ite (fun hw => ?_) (fun hw2 => ?_)
 ·refine evx_call ?_
  row_cond go
  refine ⟨d1, rfl, fun hb C hC => ?_, fun n en n1 n2 s => ?_⟩
  ·obtain rfl : cNoNumber = C:=by have:=xNoNumber.mgx.symm.trans hC; cases this; rfl
   refine ⟨hsubNoNumber, ?_⟩
   dsimp only [List.set_cons_zero, List.set_cons_succ]
   refine evs_asg (evo_varM rfl ?_)
   dsimp only [List.set_cons_zero, List.set_cons_succ]
   repeat (first | (refine ev_isNE (.inl rfl) ?_) | row_cond st | (dsimp only [List.set_cons_zero, List.set_cons_succ]; row_cond st))
   refine ⟨cNoNumber, rfl, rfl, "NoNumber", .inl ⟨xNoNumber.mgx, rfl⟩, ?_⟩
   exact k1 (by subst hw; exact hb)
  ·row_cond go
   refine go_ifT ?_
   row_cond go
   exact k2 (by subst hw; subst en; exact decide_eq_true ⟨n1, n2⟩) (.inl (by subst hw; row_cond lo))
 obtain hw : way = 3:=by row_cond lo
 ·refine evx_call ?_
  row_cond go
  refine ⟨d1, rfl, fun hb C hC => ?_, fun n en n1 n2 s => ?_⟩
  ·obtain rfl : cNoNumber = C:=by have:=xNoNumber.mgx.symm.trans hC; cases this; rfl
   refine ⟨hsubNoNumber, ?_⟩
   dsimp only [List.set_cons_zero, List.set_cons_succ]
   refine evs_asg (evo_varM rfl ?_)
   dsimp only [List.set_cons_zero, List.set_cons_succ]
   repeat (first | (refine ev_isNE (.inl rfl) ?_) | row_cond st | (dsimp only [List.set_cons_zero, List.set_cons_succ]; row_cond st))
   refine ⟨cNoNumber, rfl, rfl, "NoNumber", .inl ⟨xNoNumber.mgx, rfl⟩, ?_⟩
   exact k1 (by subst hw; exact hb)
  ·row_cond go
   refine go_ifT ?_
   row_cond go
   exact k2 (by subst hw; subst en; exact decide_eq_true ⟨n1, n2⟩) (.inl (by subst hw; row_cond lo))
end
theorem at_mem {L : List PyData} {r : Int} {m : Nat} (hl : L.length = m) (h0 : 0<=r) (h1 : r < m) : ∃ v, atI L r = some v/\v ∈ L:=by
 have hr : r.toNat < L.length:=by row_cond lo
 exact ⟨L[r.toNat]'hr, at_in h0 (List.getElem?_eq_getElem hr), List.getElem_mem _⟩
def vpNoNumD : VIo:=fun A ss Q => ∃ way : Int, A = OSt/\ss = [.st (.int way)]/\0<=way/\way<=3/\∀ d : PyData, btwD (lstD way) MXL d = false->Q OSt (.st d)
def vpNoTieD : VIo:=fun A ss Q => ∃ n way : Int, A = OSt/\ss = [.st (.int n), .st (.int way)]/\0<=way/\way<=1/\1<=n/\n<=MXL/\∀ d : PyData, okT way (.int n) d = false->Q OSt (.st d)
theorem four {way : Int} (h0 : 0<=way) (h1 : way<=3) {a b c d : Int} (p : (a < 1/\b < 3)/\c < 3/\d < 4) : ∃ x : Int, atI [PyData.int a, .int b, .int c, .int d] way = some (.int x)/\x < lstD way:=by
 obtain rfl | rfl | rfl | rfl : way = 0\/way = 1\/way = 2\/way = 3:=by row_cond lo
 ·exact ⟨a, rfl, p.1.1⟩
 ·exact ⟨b, rfl, p.1.2⟩
 ·exact ⟨c, rfl, p.2.1⟩
 ·exact ⟨d, rfl, p.2.2⟩
theorem x_any {env : En} {i : Nat} {L : List PyData} {r : Int} {m : Nat} {R : PyData->Prop} (e : Has env i (OL L)) (hl : L.length = m) (r0 : 0<=r) (r1 : r < m) (h : ∀ v ∈ L, R v) : ∃ ds k d, Has env i (OL ds)/\PyData.int r = .int k/\atI ds k = some d/\R d:=by
 obtain ⟨v, hv, hm⟩:=at_mem hl r0 r1
 exact ⟨L, r, v, e, rfl, hv, h v hm⟩
theorem lst_ge {way : Int} : 1<=lstD way:=by unfold lstD; split <;> (try split) <;> row_cond lo
noncomputable def tiesL (n a : Int) : List PyData:=[.tuple [.int a, .int a], .tuple [.int (a + 1), .int a], .tuple [.int a, .int n], .tuple [.int n, .int (n + 2)], .tuple [.int (-1), .int a], .tuple [.int (-2), .int 0]] ++
 [.tuple [.int 0, .int 10000000000000000000000000], .tuple [.bool true, .int 3], .tuple [.int 0, .bool true], .list [.int 0, .int 2], .tuple [.int 0], .tuple [.int 0, .int 2, .int 3]] ++
 [.str "0-2", .int 5, .tuple [], .dict (List.map (fun p : Key × PyData => (kD p.fst, p.snd)) []), .bool true, .tuple [.int 0, .str "2"], .tuple [.int a, .int (a + 1)], .tuple [.int a, .int (a + 1)], .tuple [.int a, .int (a + 1)]] ++
 [.tuple [.bool false, .int 2], .tuple [.int (0 - 10000000000000000000000000), .int 2]] ++
 [.tuple [.none, .int 2], .tuple [.int (if n - 2 > 0 then n - 2 else 0), .int (n - 1)], .tuple [.int 0, .int 1], .tuple [.tuple [.int 0, .int 2]], .tuple [.int 0, .list [.int 2]], .tuple [.int (n - 1), .int 0]]
theorem no_span {n way x y : Int} (h : ¬ (0<=x/\y<=n - 1/\2<=y - x/\y - x<=n - 1 - way)) : okT way (.int n) (.tuple [.int x, .int y]) = false:=decide_eq_false h
theorem no_ties {n way a : Int} (n0 : 1<=n) (n1 : n<=1000000000000000000) : ∀ v ∈ tiesL n a, okT way (.int n) v = false:=by
 intro v hv
 simp only [tiesL, List.mem_append, List.mem_cons, List.not_mem_nil, or_false] at hv
 rcases hv with ((((hv | hv) | hv) | hv) | hv) <;> repeat' (rcases hv with hv | hv)
 all_goals first | rfl | (refine no_span ?_; row_cond lo) | (refine no_span ?_; split <;> row_cond lo)
theorem no_ties1 {n a : Int} (n0 : 1<=n) (n1 : n<=1000000000000000000) : ∀ v ∈ tiesL n a ++ [.tuple [.int 0, .int (n - 1)], .tuple [.int 0, .int (n - 1)]], okT 1 (.int n) v = false:=by
 intro v hv
 rcases List.mem_append.mp hv with hv | hv
 ·exact no_ties n0 n1 v hv
 ·simp only [List.mem_cons, List.not_mem_nil, or_false] at hv
  have e : v = .tuple [.int 0, .int (n - 1)]:=by rcases hv with h | h <;> exact h
  subst e
  exact no_span (by row_cond lo)
section
variable {P : Program} {w : World} {K : PySem.W.Frag} {mg : Str->Option Value} {base : Heap}
theorem sc_law_no_number : FnScope ["store", "way", "some"] ["store", "way"] (defScope s_law_no_number):=⟨rfl, rfl, rfl, by decide +kernel, rfl, by decide +kernel, by decide +kernel⟩
theorem can_law_no_number (T : Txt K mg) : Can P w K mg base "_law_no_number" 2 ["store", "way"] (spI K (vpNoNumD)):=by
 obtain ⟨f, fd, D⟩:=T.d_law_no_number
 refine D.can (D.fn.ok sc_law_no_number (fun vs H Q E h => lenI h fun A ss Q' q => by obtain ⟨way, rfl, rfl, w0, w1, k⟩:=q; rfl) (fun cdv A outer s H vs Q E hr h => ?_))
 have nd:=sc_law_no_number.nd
 refine ⟨_, (pss_cons (ps_set (i:=2) nd rfl (Or.inl rfl) (pe_lst (by (refine' pa_cons (hs:=?C7) ?A7 ?B7; (case C7 => exact rfl); (case A7 => exact pe_int); (case B7 => refine' pa_cons (hs:=?C6) ?A6 ?B6; (case C6 => exact rfl); (case A6 => exact (pe_un un_neg pe_int)); (case B6 => refine' pa_cons (hs:=?C5) ?A5 ?B5; (case C5 => exact rfl); (case A5 => exact (pe_op op_add (pe_powc (n:=1000000000000000000) (by decide) (by refine ⟨by decide, by decide, by decide⟩)) pe_int)); (case B5 => refine' pa_cons (hs:=?C4) ?A4 ?B4; (case C4 => exact rfl); (case A4 => exact pe_bl); (case B4 => refine' pa_cons (hs:=?C3) ?A3 ?B3; (case C3 => exact rfl); (case A3 => exact pe_bl); (case B3 => refine' pa_cons (hs:=?C2) ?A2 ?B2; (case C2 => exact rfl); (case A2 => exact pe_non); (case B2 => refine' pa_cons (hs:=?C1) ?A1 ?B1; (case C1 => exact rfl); (case A1 => exact pe_str); (case B1 => exact pa_nil)))))))))))
  (pss_cons (ps_set (i:=2) nd rfl (Or.inl rfl) (pe_op op_cat (pv 2) (pe_lst (pa_cons (pe_lst (pa_cons pe_int pa_nil)) (pa_cons (pe_tup (pa_cons pe_int pa_nil)) (pa_cons pe_dnewK (pa_cons (pe_powc (n:=10000000000000000000000000) (by decide) (by refine ⟨by decide, by decide, by decide⟩)) (pa_cons (pe_op op_sub pe_int (pe_powc (n:=1000000000000000000) (by decide) (by refine ⟨by decide, by decide, by decide⟩))) (pa_cons (pe_ix ix_lt (pe_lst (pa_cons pe_int (pa_cons pe_int (pa_cons pe_int (pa_cons pe_int pa_nil))))) (pv 1) (fun _ _ => rfl)) (pa_cons (pe_ix ix_lt (pe_lst (pa_cons (pe_un un_neg pe_int) (pa_cons pe_int (pa_cons pe_int (pa_cons pe_int pa_nil))))) (pv 1) (fun _ _ => rfl)) pa_nil))))))))))
  (pss_one (ps_ret (pe_ix ix_lt (pv 2) (pe_callD (can_law_take T) hr (pa_cons (pv 0) (pa_cons pe_int pa_nil))) (fun _ _ => rfl)))))), ?_⟩
 refine bodyI h fun A0 ss Q' q B hK => ?_
 obtain ⟨way, rfl, rfl, w0, w1, k⟩:=q
 show EvS B _ _ [some (.io OSt), some (.st (.int way)), none]
 obtain ⟨x, hx, x1⟩:=four w0 w1 (a:=0) (b:=2) (c:=2) (d:=3) (by decide)
 obtain ⟨y, hy, y1⟩:=four w0 w1 (a:=-5) (b:=1) (c:=1) (d:=1) (by decide)
 repeat (first | (refine ev_ofO (evo_dnewK ?_)) | row_cond st)
 refine ⟨14, rfl, rfl, by row_cond lo, by row_cond lo, fun r r0 r1 => ?_⟩
 row_cond go
 refine x_any (m:=14) (.inl rfl) rfl r0 r1 fun v hv => ⟨OSt, rfl, k v ?_⟩
 have hl:=lst_ge (way:=way)
 simp only [List.mem_append, List.mem_cons, List.not_mem_nil, or_false] at hv
 rcases hv with (rfl | rfl | rfl | rfl | rfl | rfl | rfl) | (rfl | rfl | rfl | rfl | rfl | rfl | rfl) <;> first | rfl | (refine decide_eq_false fun z => ?_; have z1 : _<=(1000000000000000000 : Int):=z.2; have z2:=z.1; row_cond lo)
theorem sc_law_no_tie : FnScope ["store", "n", "way", "a", "some"] ["store", "n", "way"] (defScope s_law_no_tie):=⟨rfl, rfl, rfl, by decide +kernel, rfl, by decide +kernel, by decide +kernel⟩
theorem can_law_no_tie (T : Txt K mg) : Can P w K mg base "_law_no_tie" 2 ["store", "n", "way"] (spI K (vpNoTieD)):=by
 obtain ⟨f, fd, D⟩:=T.d_law_no_tie
 refine D.can (D.fn.ok sc_law_no_tie (fun vs H Q E h => lenI h fun A ss Q' q => by obtain ⟨n, way, rfl, rfl, w0, w1, n0, n1, k⟩:=q; rfl) (fun cdv A outer s H vs Q E hr h => ?_))
 have nd:=sc_law_no_tie.nd
 refine ⟨_, (pss_cons (ps_set (i:=3) nd rfl (Or.inl rfl) (pe_callD (can_law_take T) hr (pa_cons (pv 0) (pa_cons (pe_callB (call_min2n rfl) (by rfl) T.b_min bt_min (pa_cons (pv 1) (pa_cons pe_int pa_nil))) pa_nil))))
  (pss_cons (ps_set (i:=4) nd rfl (Or.inl rfl) (pe_lst (pa_cons (pe_tup (pa_cons (pv 3) (pa_cons (pv 3) pa_nil))) (pa_cons (pe_tup (pa_cons (pe_op op_add (pv 3) pe_int) (pa_cons (pv 3) pa_nil))) (pa_cons (pe_tup (pa_cons (pv 3) (pa_cons (pv 1) pa_nil))) (pa_cons (pe_tup (pa_cons (pv 1) (pa_cons (pe_op op_add (pv 1) pe_int) pa_nil))) (pa_cons (pe_tup (pa_cons (pe_un un_neg pe_int) (pa_cons (pv 3) pa_nil))) (pa_cons (pe_tup (pa_cons (pe_un un_neg pe_int) (pa_cons pe_int pa_nil))) pa_nil))))))))
  (pss_cons (ps_set (i:=4) nd rfl (Or.inl rfl) (pe_op op_cat (pv 4) (pe_lst (by (refine' pa_cons (hs:=?C17) ?A17 ?B17; (case C17 => exact rfl); (case A17 => exact (pe_tup (pa_cons pe_int (pa_cons (pe_powc (n:=10000000000000000000000000) (by decide) (by refine ⟨by decide, by decide, by decide⟩)) pa_nil)))); (case B17 => refine' pa_cons (hs:=?C14) ?A14 ?B14; (case C14 => exact rfl); (case A14 => exact (pe_tup (by (refine' pa_cons (hs:=?C16) ?A16 ?B16; (case C16 => exact rfl); (case A16 => exact pe_bl); (case B16 => refine' pa_cons (hs:=?C15) ?A15 ?B15; (case C15 => exact rfl); (case A15 => exact pe_int); (case B15 => exact pa_nil)))))); (case B14 => refine' pa_cons (hs:=?C11) ?A11 ?B11; (case C11 => exact rfl); (case A11 => exact (pe_tup (by (refine' pa_cons (hs:=?C13) ?A13 ?B13; (case C13 => exact rfl); (case A13 => exact pe_int); (case B13 => refine' pa_cons (hs:=?C12) ?A12 ?B12; (case C12 => exact rfl); (case A12 => exact pe_bl); (case B12 => exact pa_nil)))))); (case B11 => refine' pa_cons (hs:=?C10) ?A10 ?B10; (case C10 => exact rfl); (case A10 => exact (pe_lst (pa_cons pe_int (pa_cons pe_int pa_nil)))); (case B10 => refine' pa_cons (hs:=?C9) ?A9 ?B9; (case C9 => exact rfl); (case A9 => exact (pe_tup (pa_cons pe_int pa_nil))); (case B9 => refine' pa_cons (hs:=?C8) ?A8 ?B8; (case C8 => exact rfl); (case A8 => exact (pe_tup (pa_cons pe_int (pa_cons pe_int (pa_cons pe_int pa_nil))))); (case B8 => exact pa_nil)))))))))))
  (pss_cons (ps_set (i:=4) nd rfl (Or.inl rfl) (pe_op op_cat (pv 4) (pe_lst (by (refine' pa_cons (hs:=?C28) ?A28 ?B28; (case C28 => exact rfl); (case A28 => exact pe_str); (case B28 => refine' pa_cons (hs:=?C27) ?A27 ?B27; (case C27 => exact rfl); (case A27 => exact pe_int); (case B27 => refine' pa_cons (hs:=?C26) ?A26 ?B26; (case C26 => exact rfl); (case A26 => exact (pe_tup pa_nil)); (case B26 => refine' pa_cons (hs:=?C25) ?A25 ?B25; (case C25 => exact rfl); (case A25 => exact pe_dnewK); (case B25 => refine' pa_cons (hs:=?C24) ?A24 ?B24; (case C24 => exact rfl); (case A24 => exact pe_bl); (case B24 => refine' pa_cons (hs:=?C21) ?A21 ?B21; (case C21 => exact rfl); (case A21 => exact (pe_tup (by (refine' pa_cons (hs:=?C23) ?A23 ?B23; (case C23 => exact rfl); (case A23 => exact pe_int); (case B23 => refine' pa_cons (hs:=?C22) ?A22 ?B22; (case C22 => exact rfl); (case A22 => exact pe_str); (case B22 => exact pa_nil)))))); (case B21 => refine' pa_cons (hs:=?C20) ?A20 ?B20; (case C20 => exact rfl); (case A20 => exact (pe_tup (pa_cons (pv 3) (pa_cons (pe_op op_add (pv 3) pe_int) pa_nil)))); (case B20 => refine' pa_cons (hs:=?C19) ?A19 ?B19; (case C19 => exact rfl); (case A19 => exact (pe_tup (pa_cons (pv 3) (pa_cons (pe_op op_add (pv 3) pe_int) pa_nil)))); (case B19 => refine' pa_cons (hs:=?C18) ?A18 ?B18; (case C18 => exact rfl); (case A18 => exact (pe_tup (pa_cons (pv 3) (pa_cons (pe_op op_add (pv 3) pe_int) pa_nil)))); (case B18 => exact pa_nil))))))))))))))
  (pss_cons (ps_set (i:=4) nd rfl (Or.inl rfl) (pe_op op_cat (pv 4) (pe_lst (by (refine' pa_cons (hs:=?C30) ?A30 ?B30; (case C30 => exact rfl); (case A30 => exact (pe_tup (by (refine' pa_cons (hs:=?C32) ?A32 ?B32; (case C32 => exact rfl); (case A32 => exact pe_bl); (case B32 => refine' pa_cons (hs:=?C31) ?A31 ?B31; (case C31 => exact rfl); (case A31 => exact pe_int); (case B31 => exact pa_nil)))))); (case B30 => refine' pa_cons (hs:=?C29) ?A29 ?B29; (case C29 => exact rfl); (case A29 => exact (pe_tup (pa_cons (pe_op op_sub pe_int (pe_powc (n:=10000000000000000000000000) (by decide) (by refine ⟨by decide, by decide, by decide⟩))) (pa_cons pe_int pa_nil)))); (case B29 => exact pa_nil)))))))
  (pss_cons (ps_set (i:=4) nd rfl (Or.inl rfl) (pe_op op_cat (pv 4) (pe_lst (by (refine' pa_cons (hs:=?C38) ?A38 ?B38; (case C38 => exact rfl); (case A38 => exact (pe_tup (by (refine' pa_cons (hs:=?C40) ?A40 ?B40; (case C40 => exact rfl); (case A40 => exact pe_non); (case B40 => refine' pa_cons (hs:=?C39) ?A39 ?B39; (case C39 => exact rfl); (case A39 => exact pe_int); (case B39 => exact pa_nil)))))); (case B38 => refine' pa_cons (hs:=?C37) ?A37 ?B37; (case C37 => exact rfl); (case A37 => exact (pe_tup (pa_cons (pe_callB (call_max2n rfl) (by rfl) T.b_max bt_max (pa_cons pe_int (pa_cons (pe_op op_sub (pv 1) pe_int) pa_nil))) (pa_cons (pe_op op_sub (pv 1) pe_int) pa_nil)))); (case B37 => refine' pa_cons (hs:=?C36) ?A36 ?B36; (case C36 => exact rfl); (case A36 => exact (pe_tup (pa_cons pe_int (pa_cons pe_int pa_nil)))); (case B36 => refine' pa_cons (hs:=?C35) ?A35 ?B35; (case C35 => exact rfl); (case A35 => exact (pe_tup (pa_cons (pe_tup (pa_cons pe_int (pa_cons pe_int pa_nil))) pa_nil))); (case B35 => refine' pa_cons (hs:=?C34) ?A34 ?B34; (case C34 => exact rfl); (case A34 => exact (pe_tup (pa_cons pe_int (pa_cons (pe_lst (pa_cons pe_int pa_nil)) pa_nil)))); (case B34 => refine' pa_cons (hs:=?C33) ?A33 ?B33; (case C33 => exact rfl); (case A33 => exact (pe_tup (pa_cons (pe_op op_sub (pv 1) pe_int) (pa_cons pe_int pa_nil)))); (case B33 => exact pa_nil)))))))))))
  (pss_cons (ps_if (pt_cmpR op_eq (pv 2) pe_int (nomark _))
   (pss_one (ps_set (i:=4) nd rfl (Or.inl rfl) (pe_op op_cat (pv 4) (pe_lst (pa_cons (pe_tup (pa_cons pe_int (pa_cons (pe_op op_sub (pv 1) pe_int) pa_nil))) (pa_cons (pe_tup (pa_cons pe_int (pa_cons (pe_op op_sub (pv 1) pe_int) pa_nil))) pa_nil))))))
   pss_nil)
  (pss_one (ps_ret (pe_ix ix_lt (pv 4) (pe_callD (can_law_take T) hr (pa_cons (pv 0) (pa_cons (pe_callB call_lenS (by rfl) T.b_len bt_len (pa_cons (pv 4) pa_nil)) pa_nil))) (fun _ _ => rfl))))))))))), ?_⟩
 refine bodyI h fun A0 ss Q' q B hK => ?_
 obtain ⟨n, way, rfl, rfl, w0, w1, n0, n1, k⟩:=q
 show EvS B _ _ [some (.io OSt), some (.st (.int n)), some (.st (.int way)), none, none]
 row_cond go
 refine ⟨_, rfl, rfl, by split <;> row_cond lo, by split <;> row_cond lo, fun a a0 a1 => ?_⟩
 repeat (first | (refine ev_ofO (evo_dnewK ?_)) | row_cond st)
 refine go_ite (fun hw => ?_) (fun hw => ?_)
 ·row_cond go
  refine ⟨31, rfl, rfl, by row_cond lo, by row_cond lo, fun r r0 r1 => ?_⟩
  row_cond go
  refine x_any (m:=31) (.inl rfl) rfl r0 r1 fun v hv => ⟨OSt, rfl, k v ?_⟩
  subst hw
  exact no_ties1 n0 n1 v hv
 ·row_cond go
  refine ⟨29, rfl, rfl, by row_cond lo, by row_cond lo, fun r r0 r1 => ?_⟩
  row_cond go
  refine x_any (m:=29) (.inl rfl) rfl r0 r1 fun v hv => ⟨OSt, rfl, k v ?_⟩
  exact no_ties n0 n1 v hv
end
def spLaw (K : PySem.W.Frag) : Sp:=fun vs H Q _ => ∃ (a : Addr) (ns : List Int), vs = [.ref a]/\SqL K H a (ns.map V.int)/\ns.length<=63/\∀ H', Q (.bl true) H'
def vpLaw : VP:=fun ss Q => ∃ ns : List Int, ss = [.scr ns]/\ns.length<=63/\Q (.st (.bool true))
theorem spLaw_of {K : PySem.W.Frag} {vs : List V} {H : Hp} {Q : VK} {E : XK} (h : spLaw K vs H Q E) : spP K vpLaw vs H Q E:=by
 obtain ⟨a, ns, rfl, hS, hl, k⟩:=h
 refine ⟨H, [.scr ns], fun s => s = .st (.bool true), Same.refl _, fun a ks h => h, .cons ⟨a, rfl, hS⟩ .nil, ⟨ns, rfl, hl, rfl⟩, fun s e v G' H' Fv o => ?_⟩
 subst e
 have r:=o.ok.1
 cases r
 exact k _
theorem word_num {way : Int} {d1 d2 : PyData} {Q : Sl->Prop} (w0 : 0<=way) (w1 : way<=3) (hb : btwD (lstD way) MXL d1 = false) (h : Q (.st (.str "NoNumber"))) : vpWord [.st (.int way), .st d1, .st d2] Q :=
 ⟨way, d1, d2, rfl, w0, w1, fun _ => h, fun z => (by rw [hb] at z; cases z), fun _ z => (by rw [hb] at z; cases z)⟩
theorem word_ok {way : Int} {d1 d2 : PyData} {Q : Sl->Prop} (w0 : 0<=way) (w1 : way<=3) (hb : btwD (lstD way) MXL d1 = true) (ho : 2<=way\/okT way d1 d2 = true) (h : Q (.st (.str ""))) : vpWord [.st (.int way), .st d1, .st d2] Q :=
 ⟨way, d1, d2, rfl, w0, w1, fun z => (by rw [hb] at z; cases z), fun _ _ => h, fun w2 _ z => (by
  rcases ho with ho | ho
  ·row_cond lo
  ·rw [ho] at z; cases z)⟩
theorem word_tie {way : Int} {d1 d2 : PyData} {Q : Sl->Prop} (w0 : 0<=way) (w1 : way<=1) (hb : btwD (lstD way) MXL d1 = true) (ho : okT way d1 d2 = false) (h : Q (.st (.str "NoTie"))) : vpWord [.st (.int way), .st d1, .st d2] Q :=
 ⟨way, d1, d2, rfl, w0, by row_cond lo, fun z => (by rw [hb] at z; cases z), fun _ z => (by
  rcases z with z | z
  ·row_cond lo
  ·rw [ho] at z; cases z), fun _ _ _ => h⟩
theorem num_ok {way n : Int} (h1 : lstD way<=n) (h2 : n<=MXL) : btwD (lstD way) MXL (.int n) = true:=decide_eq_true ⟨h1, h2⟩
theorem lst_le {way : Int} : lstD way<=4:=by unfold lstD; split <;> (try split) <;> row_cond lo
theorem good_ok {n way : Int} {d : PyData} (w0 : 0<=way) (w1 : way<=1) (h : GoodD n (decide (way = 1)) d) : okT way (.int n) d = true:=by
 refine okT_of (h.imp_right fun z => ?_)
 obtain rfl | rfl : way = 0\/way = 1:=by row_cond lo
 ·exact z
 ·exact z
theorem one_bad {way n : Int} : okT way (.int n) (.tuple [.int 0, .int 1]) = false:=decide_eq_false fun z => by have:=z.2.2.1; row_cond lo
theorem few_ok {f w : Int} (h : (f, w) ∈ [((1 : Int), (0 : Int)), (2, 0), (3, 0), (3, 1)]) : 0<=w/\w<=1/\1<=f/\f<=3/\lstD w<=f:=by
 simp only [List.mem_cons, List.not_mem_nil, or_false, Prod.mk.injEq] at h
 rcases h with ⟨rfl, rfl⟩ | ⟨rfl, rfl⟩ | ⟨rfl, rfl⟩ | ⟨rfl, rfl⟩ <;> decide
section
variable {P : Program} {w : World} {K : PySem.W.Frag} {mg : Str->Option Value} {base : Heap}
theorem sc_law : FnScope ["script", "at", "store", "way", "bad", "tie", "n", "few"] ["script"] (defScope s_law):=⟨rfl, rfl, rfl, by decide +kernel, rfl, by decide +kernel, by decide +kernel⟩
theorem okv_law (T : Txt K mg) {f : Addr} {fd : FuncData} (D : DefAt K mg "law" s_law ["script"] f fd) : FnOk P w K mg base CX0 8 f fd ["script"] (spP K (vpLaw)):=by
 refine D.fn.ok sc_law (fun vs H Q E h => lenP h fun ss Q' q => by obtain ⟨ns, rfl, hns, kk⟩:=q; rfl) (fun cdv A outer s H vs Q E hr h => ?_)
 have nd:=sc_law.nd
 refine ⟨_, (pss_cons (ps_for PassesOwn.never rfl (pi_range1 rfl T.b_range (pa_cons (pe_callB (call_min2n rfl) (by rfl) T.b_min bt_min (pa_cons (pe_callB (call_max2n rfl) (by rfl) T.b_max bt_max (pa_cons (pe_callB call_lenS (by rfl) T.b_len bt_len (pa_cons (pv 0) pa_nil)) (pa_cons pe_int pa_nil))) (pa_cons pe_int pa_nil))) pa_nil)) (pg_name (i:=1) nd rfl (Or.inl rfl))
   (pss_cons (ps_set (i:=2) nd rfl (Or.inl rfl) (pe_callD (can_law_store T) hr (pa_cons (pe_callD (can_law_cell T) hr (pa_cons (pv 0) (pa_cons (pv 1) pa_nil))) pa_nil)))
    (pss_cons (ps_for PassesOwn.never rfl (pi_range1 rfl T.b_range (pa_cons pe_int pa_nil)) (pg_name (i:=3) nd rfl (Or.inl rfl))
     (pss_cons (ps_set (i:=4) nd rfl (Or.inl rfl) (pe_callD (can_law_no_number T) hr (pa_cons (pv 2) (pa_cons (pv 3) pa_nil))))
      (pss_one (ps_for PassesOwn.never rfl (pi_list (pe_lst (pa_cons pe_non (pa_cons (pe_tup (pa_cons pe_int (pa_cons pe_int pa_nil))) (pa_cons (pe_tup (pa_cons pe_int (pa_cons pe_int pa_nil))) (pa_cons pe_str pa_nil)))))) (pg_name (i:=5) nd rfl (Or.inl rfl))
       (pss_one (ps_if (pt_cmpR op_ne (pe_callD (can_law_word T) hr (pa_cons (pv 3) (pa_cons (pv 4) (pa_cons (pv 5) pa_nil)))) pe_str (nomark _))
         (pss_one (ps_ret pe_bl))
         pss_nil))))))
    (pss_cons (ps_set (i:=6) nd rfl (Or.inl rfl) (pe_callD (can_law_number_of T) hr (pa_cons (pv 2) (pa_cons pe_int pa_nil))))
    (pss_cons (ps_for PassesOwn.never rfl (pi_range1 rfl T.b_range (pa_cons pe_int pa_nil)) (pg_name (i:=3) nd rfl (Or.inl rfl))
     (pss_cons (ps_set (i:=5) nd rfl (Or.inl rfl) (pe_callD (can_law_tie T) hr (pa_cons (pv 2) (pa_cons (pv 6) (pa_cons (pe_cmpR op_eq (pv 3) pe_int (nomark _)) pa_nil)))))
      (pss_one (ps_if (PW.pt (pw_or (pt_cmpR op_ne (pe_callD (can_law_word T) hr (pa_cons (pv 3) (pa_cons (pv 6) (pa_cons (pe_callD (can_law_no_tie T) hr (pa_cons (pv 2) (pa_cons (pv 6) (pa_cons (pv 3) pa_nil)))) pa_nil)))) pe_str (nomark _)) (pw_or1 (pt_cmpR op_ne (pe_callD (can_law_word T) hr (pa_cons (pv 3) (pa_cons (pv 6) (pa_cons (pv 5) pa_nil)))) pe_str (nomark _)))))
       (pss_one (ps_ret pe_bl))
       pss_nil))))
    (pss_cons (ps_if (PW.pt (pw_or (pt_cmpR op_ne (pe_callD (can_law_word T) hr (pa_cons pe_int (pa_cons (pv 6) (pa_cons pe_non pa_nil)))) pe_str (nomark _)) (pw_or (pt_cmpR op_ne (pe_callD (can_law_word T) hr (pa_cons pe_int (pa_cons (pv 6) (pa_cons pe_non pa_nil)))) pe_str (nomark _)) (pw_or1 (pt_cmpR op_ne (pe_callD (can_law_word T) hr (pa_cons pe_int (pa_cons pe_int (pa_cons pe_non pa_nil)))) pe_str (nomark _))))))
     (pss_one (ps_ret pe_bl))
     pss_nil)
    (pss_one (ps_for PassesOwn.never rfl (pi_list (pe_lst (pa_cons (pe_tup (pa_cons pe_int (pa_cons pe_int pa_nil))) (pa_cons (pe_tup (pa_cons pe_int (pa_cons pe_int pa_nil))) (pa_cons (pe_tup (pa_cons pe_int (pa_cons pe_int pa_nil))) (pa_cons (pe_tup (pa_cons pe_int (pa_cons pe_int pa_nil))) pa_nil)))))) (pg_tup rfl (pgs_cons (pg_name (i:=7) nd rfl (Or.inl rfl)) (pgs_cons (pg_name (i:=3) nd rfl (Or.inl rfl)) pgs_nil)))
     (pss_cons (ps_if (PW.pt (pw_or (pt_cmpR op_ne (pe_callD (can_law_word T) hr (pa_cons (pv 3) (pa_cons (pv 7) (pa_cons (pe_callD (can_law_no_tie T) hr (pa_cons (pv 2) (pa_cons (pv 7) (pa_cons (pv 3) pa_nil)))) pa_nil)))) pe_str (nomark _)) (pw_or1 (pt_cmpR op_ne (pe_callD (can_law_word T) hr (pa_cons (pv 3) (pa_cons (pv 7) (pa_cons pe_non pa_nil)))) pe_str (nomark _)))))
       (pss_one (ps_ret pe_bl))
       pss_nil)
      (pss_one (ps_if (pt_cmpR op_ne (pe_callD (can_law_word T) hr (pa_cons (pv 3) (pa_cons (pv 7) (pa_cons (pe_tup (pa_cons pe_int (pa_cons pe_int pa_nil))) pa_nil)))) pe_str (nomark _))
       (pss_one (ps_ret pe_bl))
       pss_nil)))))))))))
  (pss_cons (ps_if (PW.pt (pw_or (pt_cmpR op_ne (pe_callD (can_law_word T) hr (pa_cons pe_int (pa_cons pe_int (pa_cons (pe_tup (pa_cons pe_int (pa_cons pe_int pa_nil))) pa_nil)))) pe_str (nomark _)) (pw_or1 (pt_cmpR op_ne (pe_callD (can_law_word T) hr (pa_cons pe_int (pa_cons pe_int (pa_cons (pe_tup (pa_cons pe_int (pa_cons pe_int pa_nil))) pa_nil)))) pe_str (nomark _)))))
   (pss_one (ps_ret pe_bl))
   pss_nil)
  (pss_one (ps_ret (pe_cmpR op_eq (pe_callD (can_law_word T) hr (pa_cons pe_int (pa_cons pe_int (pa_cons (pe_tup (pa_cons pe_int (pa_cons pe_int pa_nil))) pa_nil)))) pe_str (nomark _)))))), ?_⟩
 refine bodyP h fun ss Q' q B hK => ?_
 refine exS1 ss q fun ns q1_ => ?_
 have hns:=q1_.1
 have kk:=q1_.2
 clear q1_ q
 show EvS B _ _ [some (.scr ns), none, none, none, none, none, none, none]
 row_cond go
 refine forv_rng (fun i e => ∃ v1 v2 v3 v4 v5 v6 v7, e = [some (.scr ns), v1, v2, v3, v4, v5, v6, v7]) ⟨_, _, _, _, _, _, _, rfl⟩ ?_ ?_
 ·rintro i e hi q0_
  refine exE7 e q0_ fun v1 v2 v3 v4 v5 v6 v7 => ?_
  clear q0_
  have hi20 : i < 20:=by
   revert hi
   split <;> split <;> row_cond lo
  row_cond go
  refine ⟨ns, 0 + (i : Int), rfl, by row_cond lo, by row_cond lo, fun c => ?_⟩
  row_cond go
  refine ⟨c, rfl, fun g t u => ?_⟩
  repeat (first | (refine evs_hide 2 rfl ?_) | row_cond st)
  refine forv_rng (fun j e => ∃ v3 v4 v5, e = [some (.scr ns), some (.st (.int (0 + (i : Int)))), some (.own OSt), v3, v4, v5, v6, v7]) ⟨_, _, _, rfl⟩ ?_ ?_
  ·rintro j e hj q0_
   refine exE3 e q0_ fun v3 v4 v5 => ?_
   clear q0_
   have hj4 : j < 4:=by simpa using hj
   row_cond go
   refine ⟨0 + (j : Int), rfl, rfl, by row_cond lo, by row_cond lo, fun bad hbad => ?_⟩
   row_cond go
   refine forv_map (xs:=[PyData.none, .tuple [.int 0, .int 2], .tuple [.int 0, .int 0], .str "no"]) (f:=id) (fun l e => ∃ v5, e = [some (.scr ns), some (.st (.int (0 + (i : Int)))), some (.own OSt), some (.st (.int (0 + (j : Int)))), some (.st bad), v5, v6, v7]) ⟨_, rfl⟩ ?_ ?_
   ·rintro l tie e hl q0_
    refine exE1 e q0_ fun v5 => ?_
    clear q0_
    show EvG B _ (.st tie) _ _
    row_cond go
    refine word_num (by row_cond lo) (by row_cond lo) hbad ?_
    row_cond go
    exact ⟨_, rfl⟩
   ·rintro e q0_
    refine exE1 e q0_ fun v5 => ?_
    clear q0_
    exact ⟨_, _, _, rfl⟩
  ·rintro e q0_
   refine exE3 e q0_ fun v3 v4 v5 => ?_
   clear q0_
   row_cond go
   refine ⟨4, rfl, rfl, by row_cond lo, by row_cond lo, fun n n4 n1 => ?_⟩
   row_cond go
   refine forv_rng (fun j e => ∃ v3 v5, e = [some (.scr ns), some (.st (.int (0 + (i : Int)))), some (.own OSt), v3, v4, v5, some (.st (.int n)), v7]) ⟨_, _, rfl⟩ ?_ ?_
   ·rintro j e hj q0_
    refine exE2 e q0_ fun v3 v5 => ?_
    clear q0_
    have hj2 : j < 2:=by simpa using hj
    row_cond go
    refine ⟨n, _, rfl, rfl, by row_cond lo, n1, fun tie hg => ?_⟩
    row_cond go
    refine ⟨n, _, rfl, rfl, by row_cond lo, by row_cond lo, by row_cond lo, n1, fun d hd => ?_⟩
    row_cond go
    refine word_tie (by row_cond lo) (by row_cond lo) (num_ok (by have:=lst_le (way:=0 + (j : Int)); row_cond lo) n1) hd ?_
    row_cond go
    refine word_ok (by row_cond lo) (by row_cond lo) (num_ok (by have:=lst_le (way:=0 + (j : Int)); row_cond lo) n1) (.inr (good_ok (by row_cond lo) (by row_cond lo) hg)) ?_
    row_cond go
    exact ⟨_, _, rfl⟩
   ·rintro e q0_
    refine exE2 e q0_ fun v3 v5 => ?_
    clear q0_
    row_cond go
    refine word_ok (by row_cond lo) (by row_cond lo) (num_ok (by have:=lst_le (way:=2); row_cond lo) n1) (.inl (by row_cond lo)) ?_
    row_cond go
    refine word_ok (by row_cond lo) (by row_cond lo) (num_ok (by have:=lst_le (way:=3); row_cond lo) n1) (.inl (by row_cond lo)) ?_
    row_cond go
    refine word_ok (by row_cond lo) (by row_cond lo) (num_ok (by decide) (by decide)) (.inl (by row_cond lo)) ?_
    row_cond go
    refine forv_map (xs:=[((1 : Int), (0 : Int)), (2, 0), (3, 0), (3, 1)]) (f:=prD) (fun l e => ∃ v3 v7, e = [some (.scr ns), some (.st (.int (0 + (i : Int)))), some (.own OSt), v3, v4, v5, some (.st (.int n)), v7]) ⟨_, _, rfl⟩ ?_ ?_
    ·rintro l ⟨few, way⟩ e hl q0_
     refine exE2 e q0_ fun v3 v7 => ?_
     clear q0_
     obtain ⟨w0, w1, f1, f3, fl⟩:=few_ok (List.mem_of_getElem? hl)
     have fM : few<=MXL:=by show few<=(1000000000000000000 : Int); row_cond lo
     show EvG B _ (.st (.tuple [.int few, .int way])) _ _
     row_cond go
     refine ⟨few, way, rfl, rfl, w0, w1, f1, fM, fun d hd => ?_⟩
     row_cond go
     refine word_tie w0 w1 (num_ok fl fM) hd ?_
     row_cond go
     refine word_ok w0 (by row_cond lo) (num_ok fl fM) (.inr (okT_of (.inl rfl))) ?_
     row_cond go
     refine word_tie w0 w1 (num_ok fl fM) one_bad ?_
     row_cond go
     exact ⟨_, _, rfl⟩
    ·rintro e q0_
     refine exE2 e q0_ fun v3 v7 => ?_
     clear q0_
     exact ⟨_, _, _, _, _, _, _, rfl⟩
 ·rintro e q0_
  refine exE7 e q0_ fun v1 v2 v3 v4 v5 v6 v7 => ?_
  clear q0_
  row_cond go
  refine word_tie (by row_cond lo) (by row_cond lo) (num_ok (by decide) (by decide)) (by decide) ?_
  row_cond go
  refine word_tie (by row_cond lo) (by row_cond lo) (num_ok (by decide) (by decide)) (by decide) ?_
  row_cond go
  refine word_ok (by row_cond lo) (by row_cond lo) (num_ok (by decide) (by decide)) (.inr (by decide)) ?_
  row_cond go
  exact kk
theorem ok_law (T : Txt K mg) {f : Addr} {fd : FuncData} (D : DefAt K mg "law" s_law ["script"] f fd) : FnOk P w K mg base CX0 8 f fd ["script"] (spLaw K):=(okv_law T D).imp fun _ _ _ _ h => spLaw_of h
end
theorem len0 {α : Type} {us : List α} (h : us.length = 0) : us = []:=List.eq_nil_of_length_eq_zero h
theorem len1 {α : Type} {us : List α} (h : us.length = 1) : ∃ a0, us = [a0]:=by
 cases us with
 | nil => cases h
 | cons a us => exact ⟨a, by rw [len0 (Nat.succ.inj h)]⟩
theorem len2 {α : Type} {us : List α} (h : us.length = 2) : ∃ a0 a1, us = [a0, a1]:=by
 cases us with
 | nil => cases h
 | cons a us => obtain ⟨a1, e⟩:=len1 (Nat.succ.inj h); exact ⟨a, a1, by rw [e]⟩
theorem len3 {α : Type} {us : List α} (h : us.length = 3) : ∃ a0 a1 a2, us = [a0, a1, a2]:=by
 cases us with
 | nil => cases h
 | cons a us => obtain ⟨a1, a2, e⟩:=len2 (Nat.succ.inj h); exact ⟨a, a1, a2, by rw [e]⟩
theorem txt_mk {K : PySem.W.Frag} {h : Heap} {mg : Str->Option Value} (X : K.In h) (G : h.Ns mainGlobals mg)
  {f0 : Addr} {od0 an0 : Option Addr} {sl0 : Array (Option Value)} {oc0 kV0 dc0 pm0 cd0 ct0 : Value}
  {f1 : Addr} {od1 an1 : Option Addr} {sl1 : Array (Option Value)} {oc1 kV1 dc1 pm1 cd1 ct1 : Value}
  {f2 : Addr} {od2 an2 : Option Addr} {sl2 : Array (Option Value)} {oc2 kV2 dc2 pm2 cd2 ct2 : Value}
  {f3 : Addr} {od3 an3 : Option Addr} {sl3 : Array (Option Value)} {oc3 kV3 dc3 pm3 cd3 ct3 : Value}
  {f4 : Addr} {od4 an4 : Option Addr} {sl4 : Array (Option Value)} {oc4 kV4 dc4 pm4 cd4 ct4 : Value}
  {f5 : Addr} {od5 an5 : Option Addr} {sl5 : Array (Option Value)} {oc5 kV5 dc5 pm5 cd5 ct5 : Value}
  {f6 : Addr} {od6 an6 : Option Addr} {sl6 : Array (Option Value)} {oc6 kV6 dc6 pm6 cd6 ct6 : Value}
  {f7 : Addr} {od7 an7 : Option Addr} {sl7 : Array (Option Value)} {oc7 kV7 dc7 pm7 cd7 ct7 : Value}
  {f8 : Addr} {od8 an8 : Option Addr} {sl8 : Array (Option Value)} {oc8 kV8 dc8 pm8 cd8 ct8 : Value}
  {f9 : Addr} {od9 an9 : Option Addr} {sl9 : Array (Option Value)} {oc9 kV9 dc9 pm9 cd9 ct9 : Value}
  {f10 : Addr} {od10 an10 : Option Addr} {sl10 : Array (Option Value)} {oc10 kV10 dc10 pm10 cd10 ct10 : Value}
  {f11 : Addr} {od11 an11 : Option Addr} {sl11 : Array (Option Value)} {oc11 kV11 dc11 pm11 cd11 ct11 : Value}
  {f12 : Addr} {od12 an12 : Option Addr} {sl12 : Array (Option Value)} {oc12 kV12 dc12 pm12 cd12 ct12 : Value}
  {f13 : Addr} {od13 an13 : Option Addr} {sl13 : Array (Option Value)} {oc13 kV13 dc13 pm13 cd13 ct13 : Value}
  {f14 : Addr} {od14 an14 : Option Addr} {sl14 : Array (Option Value)} {oc14 kV14 dc14 pm14 cd14 ct14 : Value}
  {f15 : Addr} {od15 an15 : Option Addr} {sl15 : Array (Option Value)} {oc15 kV15 dc15 pm15 cd15 ct15 : Value}
  {f16 : Addr} {od16 an16 : Option Addr} {sl16 : Array (Option Value)} {oc16 kV16 dc16 pm16 cd16 ct16 : Value}
  {f17 : Addr} {od17 an17 : Option Addr} {sl17 : Array (Option Value)} {oc17 kV17 dc17 pm17 cd17 ct17 : Value}
  {f18 : Addr} {od18 an18 : Option Addr} {sl18 : Array (Option Value)} {oc18 kV18 dc18 pm18 cd18 ct18 : Value}
  {f19 : Addr} {od19 an19 : Option Addr} {sl19 : Array (Option Value)} {oc19 kV19 dc19 pm19 cd19 ct19 : Value}
  {tk_MOST_LONG : Tok} {C_TieError : Addr} {C_NoPlace : Addr} {C_NoJoin : Addr} {C_NoTie : Addr} {C_NoTree : Addr} {C_NoNumber : Addr} {C_NoText : Addr} {C_NoName : Addr} {C_NoRow : Addr} 
  (a0 : PySem.W.nsIn K mainGlobals "is_whole" = some (some (.ref f0))) (l0 : K.lookup f0 = some ⟨oc0, od0, .func (PySem.W.fnOf "is_whole" "is_whole" (defArgs s_is_whole) (defBody s_is_whole) (defScope s_is_whole) .none kV0 dc0 pm0 an0 cd0 ct0), sl0⟩) (c0 : PySem.W.codeIn K cd0 "is_whole" = true) (k0 : PySem.W.keepIn K (.ref f0) = true)
  (a1 : PySem.W.nsIn K mainGlobals "is_between" = some (some (.ref f1))) (l1 : K.lookup f1 = some ⟨oc1, od1, .func (PySem.W.fnOf "is_between" "is_between" (defArgs s_is_between) (defBody s_is_between) (defScope s_is_between) .none kV1 dc1 pm1 an1 cd1 ct1), sl1⟩) (c1 : PySem.W.codeIn K cd1 "is_between" = true) (k1 : PySem.W.keepIn K (.ref f1) = true)
  (a2 : PySem.W.nsIn K mainGlobals "need_number" = some (some (.ref f2))) (l2 : K.lookup f2 = some ⟨oc2, od2, .func (PySem.W.fnOf "need_number" "need_number" (defArgs s_need_number) (defBody s_need_number) (defScope s_need_number) .none kV2 dc2 pm2 an2 cd2 ct2), sl2⟩) (c2 : PySem.W.codeIn K cd2 "need_number" = true) (k2 : PySem.W.keepIn K (.ref f2) = true)
  (a3 : PySem.W.nsIn K mainGlobals "is_place" = some (some (.ref f3))) (l3 : K.lookup f3 = some ⟨oc3, od3, .func (PySem.W.fnOf "is_place" "is_place" (defArgs s_is_place) (defBody s_is_place) (defScope s_is_place) .none kV3 dc3 pm3 an3 cd3 ct3), sl3⟩) (c3 : PySem.W.codeIn K cd3 "is_place" = true) (k3 : PySem.W.keepIn K (.ref f3) = true)
  (a4 : PySem.W.nsIn K mainGlobals "is_tie" = some (some (.ref f4))) (l4 : K.lookup f4 = some ⟨oc4, od4, .func (PySem.W.fnOf "is_tie" "is_tie" (defArgs s_is_tie) (defBody s_is_tie) (defScope s_is_tie) .none kV4 dc4 pm4 an4 cd4 ct4), sl4⟩) (c4 : PySem.W.codeIn K cd4 "is_tie" = true) (k4 : PySem.W.keepIn K (.ref f4) = true)
  (a5 : PySem.W.nsIn K mainGlobals "need_span" = some (some (.ref f5))) (l5 : K.lookup f5 = some ⟨oc5, od5, .func (PySem.W.fnOf "need_span" "need_span" (defArgs s_need_span) (defBody s_need_span) (defScope s_need_span) .none kV5 dc5 pm5 an5 cd5 ct5), sl5⟩) (c5 : PySem.W.codeIn K cd5 "need_span" = true) (k5 : PySem.W.keepIn K (.ref f5) = true)
  (a6 : PySem.W.nsIn K mainGlobals "line_far" = some (some (.ref f6))) (l6 : K.lookup f6 = some ⟨oc6, od6, .func (PySem.W.fnOf "line_far" "line_far" (defArgs s_line_far) (defBody s_line_far) (defScope s_line_far) .none kV6 dc6 pm6 an6 cd6 ct6), sl6⟩) (c6 : PySem.W.codeIn K cd6 "line_far" = true) (k6 : PySem.W.keepIn K (.ref f6) = true)
  (a7 : PySem.W.nsIn K mainGlobals "ring_far" = some (some (.ref f7))) (l7 : K.lookup f7 = some ⟨oc7, od7, .func (PySem.W.fnOf "ring_far" "ring_far" (defArgs s_ring_far) (defBody s_ring_far) (defScope s_ring_far) .none kV7 dc7 pm7 an7 cd7 ct7), sl7⟩) (c7 : PySem.W.codeIn K cd7 "ring_far" = true) (k7 : PySem.W.keepIn K (.ref f7) = true)
  (a8 : PySem.W.nsIn K mainGlobals "line_best" = some (some (.ref f8))) (l8 : K.lookup f8 = some ⟨oc8, od8, .func (PySem.W.fnOf "line_best" "line_best" (defArgs s_line_best) (defBody s_line_best) (defScope s_line_best) .none kV8 dc8 pm8 an8 cd8 ct8), sl8⟩) (c8 : PySem.W.codeIn K cd8 "line_best" = true) (k8 : PySem.W.keepIn K (.ref f8) = true)
  (a9 : PySem.W.nsIn K mainGlobals "ring_best" = some (some (.ref f9))) (l9 : K.lookup f9 = some ⟨oc9, od9, .func (PySem.W.fnOf "ring_best" "ring_best" (defArgs s_ring_best) (defBody s_ring_best) (defScope s_ring_best) .none kV9 dc9 pm9 an9 cd9 ct9), sl9⟩) (c9 : PySem.W.codeIn K cd9 "ring_best" = true) (k9 : PySem.W.keepIn K (.ref f9) = true)
  (a10 : PySem.W.nsIn K mainGlobals "_law_cell" = some (some (.ref f10))) (l10 : K.lookup f10 = some ⟨oc10, od10, .func (PySem.W.fnOf "_law_cell" "_law_cell" (defArgs s_law_cell) (defBody s_law_cell) (defScope s_law_cell) .none kV10 dc10 pm10 an10 cd10 ct10), sl10⟩) (c10 : PySem.W.codeIn K cd10 "_law_cell" = true) (k10 : PySem.W.keepIn K (.ref f10) = true)
  (a11 : PySem.W.nsIn K mainGlobals "_law_store" = some (some (.ref f11))) (l11 : K.lookup f11 = some ⟨oc11, od11, .func (PySem.W.fnOf "_law_store" "_law_store" (defArgs s_law_store) (defBody s_law_store) (defScope s_law_store) .none kV11 dc11 pm11 an11 cd11 ct11), sl11⟩) (c11 : PySem.W.codeIn K cd11 "_law_store" = true) (k11 : PySem.W.keepIn K (.ref f11) = true)
  (a12 : PySem.W.nsIn K mainGlobals "_law_take" = some (some (.ref f12))) (l12 : K.lookup f12 = some ⟨oc12, od12, .func (PySem.W.fnOf "_law_take" "_law_take" (defArgs s_law_take) (defBody s_law_take) (defScope s_law_take) .none kV12 dc12 pm12 an12 cd12 ct12), sl12⟩) (c12 : PySem.W.codeIn K cd12 "_law_take" = true) (k12 : PySem.W.keepIn K (.ref f12) = true)
  (a13 : PySem.W.nsIn K mainGlobals "_law_number_of" = some (some (.ref f13))) (l13 : K.lookup f13 = some ⟨oc13, od13, .func (PySem.W.fnOf "_law_number_of" "_law_number_of" (defArgs s_law_number_of) (defBody s_law_number_of) (defScope s_law_number_of) .none kV13 dc13 pm13 an13 cd13 ct13), sl13⟩) (c13 : PySem.W.codeIn K cd13 "_law_number_of" = true) (k13 : PySem.W.keepIn K (.ref f13) = true)
  (a14 : PySem.W.nsIn K mainGlobals "_law_tie" = some (some (.ref f14))) (l14 : K.lookup f14 = some ⟨oc14, od14, .func (PySem.W.fnOf "_law_tie" "_law_tie" (defArgs s_law_tie) (defBody s_law_tie) (defScope s_law_tie) .none kV14 dc14 pm14 an14 cd14 ct14), sl14⟩) (c14 : PySem.W.codeIn K cd14 "_law_tie" = true) (k14 : PySem.W.keepIn K (.ref f14) = true)
  (a15 : PySem.W.nsIn K mainGlobals "_law_kind" = some (some (.ref f15))) (l15 : K.lookup f15 = some ⟨oc15, od15, .func (PySem.W.fnOf "_law_kind" "_law_kind" (defArgs s_law_kind) (defBody s_law_kind) (defScope s_law_kind) .none kV15 dc15 pm15 an15 cd15 ct15), sl15⟩) (c15 : PySem.W.codeIn K cd15 "_law_kind" = true) (k15 : PySem.W.keepIn K (.ref f15) = true)
  (a16 : PySem.W.nsIn K mainGlobals "_law_word" = some (some (.ref f16))) (l16 : K.lookup f16 = some ⟨oc16, od16, .func (PySem.W.fnOf "_law_word" "_law_word" (defArgs s_law_word) (defBody s_law_word) (defScope s_law_word) .none kV16 dc16 pm16 an16 cd16 ct16), sl16⟩) (c16 : PySem.W.codeIn K cd16 "_law_word" = true) (k16 : PySem.W.keepIn K (.ref f16) = true)
  (a17 : PySem.W.nsIn K mainGlobals "_law_no_number" = some (some (.ref f17))) (l17 : K.lookup f17 = some ⟨oc17, od17, .func (PySem.W.fnOf "_law_no_number" "_law_no_number" (defArgs s_law_no_number) (defBody s_law_no_number) (defScope s_law_no_number) .none kV17 dc17 pm17 an17 cd17 ct17), sl17⟩) (c17 : PySem.W.codeIn K cd17 "_law_no_number" = true) (k17 : PySem.W.keepIn K (.ref f17) = true)
  (a18 : PySem.W.nsIn K mainGlobals "_law_no_tie" = some (some (.ref f18))) (l18 : K.lookup f18 = some ⟨oc18, od18, .func (PySem.W.fnOf "_law_no_tie" "_law_no_tie" (defArgs s_law_no_tie) (defBody s_law_no_tie) (defScope s_law_no_tie) .none kV18 dc18 pm18 an18 cd18 ct18), sl18⟩) (c18 : PySem.W.codeIn K cd18 "_law_no_tie" = true) (k18 : PySem.W.keepIn K (.ref f18) = true)
  (a19 : PySem.W.nsIn K mainGlobals "law" = some (some (.ref f19))) (l19 : K.lookup f19 = some ⟨oc19, od19, .func (PySem.W.fnOf "law" "law" (defArgs s_law) (defBody s_law) (defScope s_law) .none kV19 dc19 pm19 an19 cd19 ct19), sl19⟩) (c19 : PySem.W.codeIn K cd19 "law" = true) (k19 : PySem.W.keepIn K (.ref f19) = true)
  (z_ValueError : PySem.W.nsIn K mainGlobals "ValueError" = some none)
  (z_max : PySem.W.nsIn K mainGlobals "max" = some none)
  (z_range : PySem.W.nsIn K mainGlobals "range" = some none)
  (z_sorted : PySem.W.nsIn K mainGlobals "sorted" = some none)
  (z_isinstance : PySem.W.nsIn K mainGlobals "isinstance" = some none)
  (z_int : PySem.W.nsIn K mainGlobals "int" = some none)
  (z_len : PySem.W.nsIn K mainGlobals "len" = some none)
  (z_min : PySem.W.nsIn K mainGlobals "min" = some none)
  (z_bool : PySem.W.nsIn K mainGlobals "bool" = some none)
  (z_tuple : PySem.W.nsIn K mainGlobals "tuple" = some none)
  (g_MOST_LONG : PySem.W.nsIn K mainGlobals "MOST_LONG" = some (some (.int 1000000000000000000 tk_MOST_LONG)))
  (xa_TieError : PySem.W.nsIn K mainGlobals "TieError" = some (some (.ref C_TieError))) (xe_TieError : PySem.W.excIn K C_TieError [.type "ValueError", .type "Exception", .type "BaseException", .type "object"] "ValueError.__new__" = true) (xi_TieError : XIn K C_TieError)
  (xa_NoPlace : PySem.W.nsIn K mainGlobals "NoPlace" = some (some (.ref C_NoPlace))) (xe_NoPlace : PySem.W.excIn K C_NoPlace [.type "ValueError", .type "Exception", .type "BaseException", .type "object"] "ValueError.__new__" = true) (xi_NoPlace : XIn K C_NoPlace)
  (xa_NoJoin : PySem.W.nsIn K mainGlobals "NoJoin" = some (some (.ref C_NoJoin))) (xe_NoJoin : PySem.W.excIn K C_NoJoin [.type "ValueError", .type "Exception", .type "BaseException", .type "object"] "ValueError.__new__" = true) (xi_NoJoin : XIn K C_NoJoin)
  (xa_NoTie : PySem.W.nsIn K mainGlobals "NoTie" = some (some (.ref C_NoTie))) (xe_NoTie : PySem.W.excIn K C_NoTie [.type "ValueError", .type "Exception", .type "BaseException", .type "object"] "ValueError.__new__" = true) (xi_NoTie : XIn K C_NoTie)
  (xa_NoTree : PySem.W.nsIn K mainGlobals "NoTree" = some (some (.ref C_NoTree))) (xe_NoTree : PySem.W.excIn K C_NoTree [.type "ValueError", .type "Exception", .type "BaseException", .type "object"] "ValueError.__new__" = true) (xi_NoTree : XIn K C_NoTree)
  (xa_NoNumber : PySem.W.nsIn K mainGlobals "NoNumber" = some (some (.ref C_NoNumber))) (xe_NoNumber : PySem.W.excIn K C_NoNumber [.type "ValueError", .type "Exception", .type "BaseException", .type "object"] "ValueError.__new__" = true) (xi_NoNumber : XIn K C_NoNumber)
  (xa_NoText : PySem.W.nsIn K mainGlobals "NoText" = some (some (.ref C_NoText))) (xe_NoText : PySem.W.excIn K C_NoText [.type "ValueError", .type "Exception", .type "BaseException", .type "object"] "ValueError.__new__" = true) (xi_NoText : XIn K C_NoText)
  (xa_NoName : PySem.W.nsIn K mainGlobals "NoName" = some (some (.ref C_NoName))) (xe_NoName : PySem.W.excIn K C_NoName [.type "ValueError", .type "Exception", .type "BaseException", .type "object"] "ValueError.__new__" = true) (xi_NoName : XIn K C_NoName)
  (xa_NoRow : PySem.W.nsIn K mainGlobals "NoRow" = some (some (.ref C_NoRow))) (xe_NoRow : PySem.W.excIn K C_NoRow [.type "ValueError", .type "Exception", .type "BaseException", .type "object"] "ValueError.__new__" = true) (xi_NoRow : XIn K C_NoRow)
  (y_NoTie_TieError : PySem.W.kitOne K (.ref C_NoTie) (.ref C_TieError) = some true)
  (y_NoTie_NoPlace : PySem.W.kitOne K (.ref C_NoTie) (.ref C_NoPlace) = some false)
  (y_NoTie_NoJoin : PySem.W.kitOne K (.ref C_NoTie) (.ref C_NoJoin) = some false)
  (y_NoTie_NoTie : PySem.W.kitOne K (.ref C_NoTie) (.ref C_NoTie) = some true)
  (y_NoTie_NoTree : PySem.W.kitOne K (.ref C_NoTie) (.ref C_NoTree) = some false)
  (y_NoTie_NoNumber : PySem.W.kitOne K (.ref C_NoTie) (.ref C_NoNumber) = some false)
  (y_NoTie_NoText : PySem.W.kitOne K (.ref C_NoTie) (.ref C_NoText) = some false)
  (y_NoTie_NoName : PySem.W.kitOne K (.ref C_NoTie) (.ref C_NoName) = some false)
  (y_NoTie_NoRow : PySem.W.kitOne K (.ref C_NoTie) (.ref C_NoRow) = some false)
  (y_NoTie_ValueError : PySem.W.kitOne K (.ref C_NoTie) (.type "ValueError") = some true)
  (s_NoTie_TieError : PySem.W.mroIn K C_NoTie (.ref C_TieError) = some true)
  (y_NoNumber_TieError : PySem.W.kitOne K (.ref C_NoNumber) (.ref C_TieError) = some true)
  (y_NoNumber_NoPlace : PySem.W.kitOne K (.ref C_NoNumber) (.ref C_NoPlace) = some false)
  (y_NoNumber_NoJoin : PySem.W.kitOne K (.ref C_NoNumber) (.ref C_NoJoin) = some false)
  (y_NoNumber_NoTie : PySem.W.kitOne K (.ref C_NoNumber) (.ref C_NoTie) = some false)
  (y_NoNumber_NoTree : PySem.W.kitOne K (.ref C_NoNumber) (.ref C_NoTree) = some false)
  (y_NoNumber_NoNumber : PySem.W.kitOne K (.ref C_NoNumber) (.ref C_NoNumber) = some true)
  (y_NoNumber_NoText : PySem.W.kitOne K (.ref C_NoNumber) (.ref C_NoText) = some false)
  (y_NoNumber_NoName : PySem.W.kitOne K (.ref C_NoNumber) (.ref C_NoName) = some false)
  (y_NoNumber_NoRow : PySem.W.kitOne K (.ref C_NoNumber) (.ref C_NoRow) = some false)
  (y_NoNumber_ValueError : PySem.W.kitOne K (.ref C_NoNumber) (.type "ValueError") = some true)
  (s_NoNumber_TieError : PySem.W.mroIn K C_NoNumber (.ref C_TieError) = some true)
  : Txt K mg where
  x_TieError:=⟨_, PySem.W.mg_of X G xa_TieError, xe_TieError, xi_TieError⟩
  x_NoPlace:=⟨_, PySem.W.mg_of X G xa_NoPlace, xe_NoPlace, xi_NoPlace⟩
  x_NoJoin:=⟨_, PySem.W.mg_of X G xa_NoJoin, xe_NoJoin, xi_NoJoin⟩
  x_NoTie:=⟨_, PySem.W.mg_of X G xa_NoTie, xe_NoTie, xi_NoTie⟩
  x_NoTree:=⟨_, PySem.W.mg_of X G xa_NoTree, xe_NoTree, xi_NoTree⟩
  x_NoNumber:=⟨_, PySem.W.mg_of X G xa_NoNumber, xe_NoNumber, xi_NoNumber⟩
  x_NoText:=⟨_, PySem.W.mg_of X G xa_NoText, xe_NoText, xi_NoText⟩
  x_NoName:=⟨_, PySem.W.mg_of X G xa_NoName, xe_NoName, xi_NoName⟩
  x_NoRow:=⟨_, PySem.W.mg_of X G xa_NoRow, xe_NoRow, xi_NoRow⟩
  y_NoTie_TieError:=fun C D e1 e2 => by rw [PySem.W.mg_of X G xa_NoTie] at e1; rw [PySem.W.mg_of X G xa_TieError] at e2; cases e1; cases e2; exact y_NoTie_TieError
  y_NoTie_NoPlace:=fun C D e1 e2 => by rw [PySem.W.mg_of X G xa_NoTie] at e1; rw [PySem.W.mg_of X G xa_NoPlace] at e2; cases e1; cases e2; exact y_NoTie_NoPlace
  y_NoTie_NoJoin:=fun C D e1 e2 => by rw [PySem.W.mg_of X G xa_NoTie] at e1; rw [PySem.W.mg_of X G xa_NoJoin] at e2; cases e1; cases e2; exact y_NoTie_NoJoin
  y_NoTie_NoTie:=fun C D e1 e2 => by rw [PySem.W.mg_of X G xa_NoTie] at e1; rw [PySem.W.mg_of X G xa_NoTie] at e2; cases e1; cases e2; exact y_NoTie_NoTie
  y_NoTie_NoTree:=fun C D e1 e2 => by rw [PySem.W.mg_of X G xa_NoTie] at e1; rw [PySem.W.mg_of X G xa_NoTree] at e2; cases e1; cases e2; exact y_NoTie_NoTree
  y_NoTie_NoNumber:=fun C D e1 e2 => by rw [PySem.W.mg_of X G xa_NoTie] at e1; rw [PySem.W.mg_of X G xa_NoNumber] at e2; cases e1; cases e2; exact y_NoTie_NoNumber
  y_NoTie_NoText:=fun C D e1 e2 => by rw [PySem.W.mg_of X G xa_NoTie] at e1; rw [PySem.W.mg_of X G xa_NoText] at e2; cases e1; cases e2; exact y_NoTie_NoText
  y_NoTie_NoName:=fun C D e1 e2 => by rw [PySem.W.mg_of X G xa_NoTie] at e1; rw [PySem.W.mg_of X G xa_NoName] at e2; cases e1; cases e2; exact y_NoTie_NoName
  y_NoTie_NoRow:=fun C D e1 e2 => by rw [PySem.W.mg_of X G xa_NoTie] at e1; rw [PySem.W.mg_of X G xa_NoRow] at e2; cases e1; cases e2; exact y_NoTie_NoRow
  y_NoTie_ValueError:=fun C e1 => by rw [PySem.W.mg_of X G xa_NoTie] at e1; cases e1; exact y_NoTie_ValueError
  s_NoTie_TieError:=fun C D e1 e2 => by rw [PySem.W.mg_of X G xa_NoTie] at e1; rw [PySem.W.mg_of X G xa_TieError] at e2; cases e1; cases e2; exact s_NoTie_TieError
  y_NoNumber_TieError:=fun C D e1 e2 => by rw [PySem.W.mg_of X G xa_NoNumber] at e1; rw [PySem.W.mg_of X G xa_TieError] at e2; cases e1; cases e2; exact y_NoNumber_TieError
  y_NoNumber_NoPlace:=fun C D e1 e2 => by rw [PySem.W.mg_of X G xa_NoNumber] at e1; rw [PySem.W.mg_of X G xa_NoPlace] at e2; cases e1; cases e2; exact y_NoNumber_NoPlace
  y_NoNumber_NoJoin:=fun C D e1 e2 => by rw [PySem.W.mg_of X G xa_NoNumber] at e1; rw [PySem.W.mg_of X G xa_NoJoin] at e2; cases e1; cases e2; exact y_NoNumber_NoJoin
  y_NoNumber_NoTie:=fun C D e1 e2 => by rw [PySem.W.mg_of X G xa_NoNumber] at e1; rw [PySem.W.mg_of X G xa_NoTie] at e2; cases e1; cases e2; exact y_NoNumber_NoTie
  y_NoNumber_NoTree:=fun C D e1 e2 => by rw [PySem.W.mg_of X G xa_NoNumber] at e1; rw [PySem.W.mg_of X G xa_NoTree] at e2; cases e1; cases e2; exact y_NoNumber_NoTree
  y_NoNumber_NoNumber:=fun C D e1 e2 => by rw [PySem.W.mg_of X G xa_NoNumber] at e1; rw [PySem.W.mg_of X G xa_NoNumber] at e2; cases e1; cases e2; exact y_NoNumber_NoNumber
  y_NoNumber_NoText:=fun C D e1 e2 => by rw [PySem.W.mg_of X G xa_NoNumber] at e1; rw [PySem.W.mg_of X G xa_NoText] at e2; cases e1; cases e2; exact y_NoNumber_NoText
  y_NoNumber_NoName:=fun C D e1 e2 => by rw [PySem.W.mg_of X G xa_NoNumber] at e1; rw [PySem.W.mg_of X G xa_NoName] at e2; cases e1; cases e2; exact y_NoNumber_NoName
  y_NoNumber_NoRow:=fun C D e1 e2 => by rw [PySem.W.mg_of X G xa_NoNumber] at e1; rw [PySem.W.mg_of X G xa_NoRow] at e2; cases e1; cases e2; exact y_NoNumber_NoRow
  y_NoNumber_ValueError:=fun C e1 => by rw [PySem.W.mg_of X G xa_NoNumber] at e1; cases e1; exact y_NoNumber_ValueError
  s_NoNumber_TieError:=fun C D e1 e2 => by rw [PySem.W.mg_of X G xa_NoNumber] at e1; rw [PySem.W.mg_of X G xa_TieError] at e2; cases e1; cases e2; exact s_NoNumber_TieError
  b_ValueError:=PySem.W.mg_none_of X G z_ValueError
  b_max:=PySem.W.mg_none_of X G z_max
  b_range:=PySem.W.mg_none_of X G z_range
  b_sorted:=PySem.W.mg_none_of X G z_sorted
  b_isinstance:=PySem.W.mg_none_of X G z_isinstance
  b_int:=PySem.W.mg_none_of X G z_int
  b_len:=PySem.W.mg_none_of X G z_len
  b_min:=PySem.W.mg_none_of X G z_min
  b_bool:=PySem.W.mg_none_of X G z_bool
  b_tuple:=PySem.W.mg_none_of X G z_tuple
  v_MOST_LONG:=⟨_, PySem.W.mg_of X G g_MOST_LONG⟩
  d_is_whole:=⟨_, _, have F:=fun_mk (st:=s_is_whole) l0 c0 k0; ⟨F, PySem.W.mg_of X G a0, F.binds (ps:=["thing"]) fun _ _ _ _ _ _ us hl => by obtain ⟨_, rfl⟩:=len1 hl; rfl⟩⟩
  d_is_between:=⟨_, _, have F:=fun_mk (st:=s_is_between) l1 c1 k1; ⟨F, PySem.W.mg_of X G a1, F.binds (ps:=["least", "most", "thing"]) fun _ _ _ _ _ _ us hl => by obtain ⟨_, _, _, rfl⟩:=len3 hl; rfl⟩⟩
  d_need_number:=⟨_, _, have F:=fun_mk (st:=s_need_number) l2 c2 k2; ⟨F, PySem.W.mg_of X G a2, F.binds (ps:=["least", "most", "thing"]) fun _ _ _ _ _ _ us hl => by obtain ⟨_, _, _, rfl⟩:=len3 hl; rfl⟩⟩
  d_is_place:=⟨_, _, have F:=fun_mk (st:=s_is_place) l3 c3 k3; ⟨F, PySem.W.mg_of X G a3, F.binds (ps:=["n", "thing"]) fun _ _ _ _ _ _ us hl => by obtain ⟨_, _, rfl⟩:=len2 hl; rfl⟩⟩
  d_is_tie:=⟨_, _, have F:=fun_mk (st:=s_is_tie) l4 c4 k4; ⟨F, PySem.W.mg_of X G a4, F.binds (ps:=["n", "thing"]) fun _ _ _ _ _ _ us hl => by obtain ⟨_, _, rfl⟩:=len2 hl; rfl⟩⟩
  d_need_span:=⟨_, _, have F:=fun_mk (st:=s_need_span) l5 c5 k5; ⟨F, PySem.W.mg_of X G a5, F.binds (ps:=["n", "most", "tie"]) fun _ _ _ _ _ _ us hl => by obtain ⟨_, _, _, rfl⟩:=len3 hl; rfl⟩⟩
  d_line_far:=⟨_, _, have F:=fun_mk (st:=s_line_far) l6 c6 k6; ⟨F, PySem.W.mg_of X G a6, F.binds (ps:=["n", "tie"]) fun _ _ _ _ _ _ us hl => by obtain ⟨_, _, rfl⟩:=len2 hl; rfl⟩⟩
  d_ring_far:=⟨_, _, have F:=fun_mk (st:=s_ring_far) l7 c7 k7; ⟨F, PySem.W.mg_of X G a7, F.binds (ps:=["n", "tie"]) fun _ _ _ _ _ _ us hl => by obtain ⟨_, _, rfl⟩:=len2 hl; rfl⟩⟩
  d_line_best:=⟨_, _, have F:=fun_mk (st:=s_line_best) l8 c8 k8; ⟨F, PySem.W.mg_of X G a8, F.binds (ps:=["n"]) fun _ _ _ _ _ _ us hl => by obtain ⟨_, rfl⟩:=len1 hl; rfl⟩⟩
  d_ring_best:=⟨_, _, have F:=fun_mk (st:=s_ring_best) l9 c9 k9; ⟨F, PySem.W.mg_of X G a9, F.binds (ps:=["n"]) fun _ _ _ _ _ _ us hl => by obtain ⟨_, rfl⟩:=len1 hl; rfl⟩⟩
  d_law_cell:=⟨_, _, have F:=fun_mk (st:=s_law_cell) l10 c10 k10; ⟨F, PySem.W.mg_of X G a10, F.binds (ps:=["script", "k"]) fun _ _ _ _ _ _ us hl => by obtain ⟨_, _, rfl⟩:=len2 hl; rfl⟩⟩
  d_law_store:=⟨_, _, have F:=fun_mk (st:=s_law_store) l11 c11 k11; ⟨F, PySem.W.mg_of X G a11, F.binds (ps:=["cell"]) fun _ _ _ _ _ _ us hl => by obtain ⟨_, rfl⟩:=len1 hl; rfl⟩⟩
  d_law_take:=⟨_, _, have F:=fun_mk (st:=s_law_take) l12 c12 k12; ⟨F, PySem.W.mg_of X G a12, F.binds (ps:=["store", "many"]) fun _ _ _ _ _ _ us hl => by obtain ⟨_, _, rfl⟩:=len2 hl; rfl⟩⟩
  d_law_number_of:=⟨_, _, have F:=fun_mk (st:=s_law_number_of) l13 c13 k13; ⟨F, PySem.W.mg_of X G a13, F.binds (ps:=["store", "least"]) fun _ _ _ _ _ _ us hl => by obtain ⟨_, _, rfl⟩:=len2 hl; rfl⟩⟩
  d_law_tie:=⟨_, _, have F:=fun_mk (st:=s_law_tie) l14 c14 k14; ⟨F, PySem.W.mg_of X G a14, F.binds (ps:=["store", "n", "ring"]) fun _ _ _ _ _ _ us hl => by obtain ⟨_, _, _, rfl⟩:=len3 hl; rfl⟩⟩
  d_law_kind:=⟨_, _, have F:=fun_mk (st:=s_law_kind) l15 c15 k15; ⟨F, PySem.W.mg_of X G a15, F.binds (ps:=["caught"]) fun _ _ _ _ _ _ us hl => by obtain ⟨_, rfl⟩:=len1 hl; rfl⟩⟩
  d_law_word:=⟨_, _, have F:=fun_mk (st:=s_law_word) l16 c16 k16; ⟨F, PySem.W.mg_of X G a16, F.binds (ps:=["way", "n", "tie"]) fun _ _ _ _ _ _ us hl => by obtain ⟨_, _, _, rfl⟩:=len3 hl; rfl⟩⟩
  d_law_no_number:=⟨_, _, have F:=fun_mk (st:=s_law_no_number) l17 c17 k17; ⟨F, PySem.W.mg_of X G a17, F.binds (ps:=["store", "way"]) fun _ _ _ _ _ _ us hl => by obtain ⟨_, _, rfl⟩:=len2 hl; rfl⟩⟩
  d_law_no_tie:=⟨_, _, have F:=fun_mk (st:=s_law_no_tie) l18 c18 k18; ⟨F, PySem.W.mg_of X G a18, F.binds (ps:=["store", "n", "way"]) fun _ _ _ _ _ _ us hl => by obtain ⟨_, _, _, rfl⟩:=len3 hl; rfl⟩⟩
  d_law:=⟨_, _, have F:=fun_mk (st:=s_law) l19 c19 k19; ⟨F, PySem.W.mg_of X G a19, F.binds (ps:=["script"]) fun _ _ _ _ _ _ us hl => by obtain ⟨_, rfl⟩:=len1 hl; rfl⟩⟩
theorem walk {l : PySem.W.OpenLaw} {q : Program} {loose : List Str} {XP : (Str->Option Value)->Heap->Prop} {YP : World->Heap->Prop} {d : DefRec} {K : Params->PySem.W.Frag} (hn : l.most = some 63) (hdf : d.params.defaults = []) (hnm : d.name = "law")
  (hY : ∀ (w : World) (h : Heap), YP w h->(K w.params).In h)
  (F : ∀ (w : World) (mg : Str->Option Value) (h : Heap), (K w.params).In h->h.Ns mainGlobals mg->Txt (K w.params) mg) :
  PySem.W.WalkO q loose XP YP l.row.toRowW d [] (fun f vs => PySem.call f vs):=by
 refine L2.walk_of (n:=63) (k:=8) (x:="script") (CX:=fun _ => CX0) (sp:=fun w => spLaw (K w.params)) hn (by decide) hdf ⟨rfl, by decide, by decide⟩ hY (fun w mg fa h X G e => ?_) (fun _ _ a ns hl _ hS => ⟨a, ns, rfl, hS, hl, fun _ => rfl⟩) fun _ _ _ _ _ z => z
 have T:=F w mg h X G
 rw [hnm] at e
 obtain ⟨f1, fd1, D⟩:=T.d_law
 have e1:=e.symm.trans D.mgx
 cases e1
 refine ⟨fd1, fun s u => ?_, fun base _ _ => ?_⟩
 ·obtain ⟨oc, od, kV, doc, pm, an, cdv, ct, osl, rfl, lk, hcd⟩:=D.fn.ex
  exact .of_eq rfl
 ·exact ok_law T D
end G
theorem PySem.W.Fast.tw598577053364301819 : True := trivial
theorem PySem.W.Fast.tw4614980443547820744 : True := trivial
theorem PySem.W.Fast.tw3288905016708750247 : True := trivial
theorem PySem.W.Fast.tw13858912091172787766 : True := trivial
theorem PySem.W.Fast.tw3965229716980539163 : True := trivial
theorem PySem.W.Fast.tw12763759016963838727 : True := trivial
theorem PySem.W.Fast.tw12131469399646028257 : True := trivial
theorem PySem.W.Fast.tw11617415225903135162 : True := trivial
theorem PySem.W.Fast.tw13000230657946248551 : True := trivial
theorem PySem.W.Fast.tw8336560526211956214 : True := trivial
theorem PySem.W.Fast.tw13736635177751621423 : True := trivial
theorem PySem.W.Fast.tw1508746770861054473 : True := trivial
theorem PySem.W.Fast.tw536481454556014054 : True := trivial
theorem PySem.W.Fast.tw18401757203407529965 : True := trivial
theorem PySem.W.Fast.tw9096520432915831622 : True := trivial
theorem PySem.W.Fast.tw15698380417244814989 : True := trivial
theorem PySem.W.Fast.tw5666588645146249992 : True := trivial
theorem PySem.W.Fast.tw17002071609612665544 : True := trivial
theorem PySem.W.Fast.tw8787629901690997939 : True := trivial
theorem PySem.W.Fast.tw1703643258456179645 : True := trivial
theorem PySem.W.Fast.tw5384757929209532417 : True := trivial
theorem PySem.W.Fast.tw8479769214960154125 : True := trivial
theorem PySem.W.Fast.tw15771349792379719640 : True := trivial
theorem PySem.W.Fast.tw4477389029632576239 : True := trivial
theorem PySem.W.Fast.tw12613269307421979492 : True := trivial
theorem PySem.W.Fast.tw7910827263013539894 : True := trivial
theorem PySem.W.Fast.tw12605845782571435316 : True := trivial
theorem PySem.W.Fast.tw11166853109546563800 : True := trivial
theorem PySem.W.Fast.tw9130280824828822741 : True := trivial
theorem PySem.W.Fast.tw13058506507427691735 : True := trivial
theorem PySem.W.Fast.tw15061299539341166831 : True := trivial
theorem PySem.W.Fast.tw17567373290833359822 : True := trivial
theorem PySem.W.Fast.tw11087979221846326145 : True := trivial
theorem PySem.W.Fast.tw3615464290642919434 : True := trivial
theorem PySem.W.Fast.tw15534564253507696408 : True := trivial
theorem PySem.W.Fast.tw11068947342830491958 : True := trivial
theorem PySem.W.Fast.tw3068428611745605337 : True := trivial
theorem PySem.W.Fast.tw8043145467987575816 : True := trivial
theorem PySem.W.Fast.tw4005107191473428464 : True := trivial
theorem PySem.W.Fast.tw2006039063779154223 : True := trivial
theorem PySem.W.Fast.tw11217017307111060713 : True := trivial
theorem PySem.W.Fast.tw7487421622266145919 : True := trivial
theorem PySem.W.Fast.tw9623608926647521162 : True := trivial
theorem PySem.W.Fast.tw223266431868893174 : True := trivial
theorem PySem.W.Fast.tw11584470670840102881 : True := trivial
theorem PySem.W.Fast.tw3961163297969094726 : True := trivial
theorem PySem.W.Fast.tw8796108985642984786 : True := trivial
theorem PySem.W.Fast.tw14810023920628318076 : True := trivial
theorem PySem.W.Fast.tw17401586814277825451 : True := trivial
theorem PySem.W.Fast.tw16422985712792918486 : True := trivial
theorem PySem.W.Fast.tw10951542556113756528 : True := trivial
theorem PySem.W.Fast.tw9256232793996374076 : True := trivial
theorem PySem.W.Fast.tw14836143593550118025 : True := trivial
theorem PySem.W.Fast.tw15033262768161976794 : True := trivial
theorem PySem.W.Fast.tw9697104039375258112 : True := trivial
theorem PySem.W.Fast.tw17944294404479534952 : True := trivial
theorem PySem.W.Fast.tw7908437966598004032 : True := trivial
theorem PySem.W.Fast.tw16699927859770241250 : True := trivial
theorem PySem.W.Fast.tw15660978845597730236 : True := trivial
theorem PySem.W.Fast.tw17504808045768990513 : True := trivial
theorem PySem.W.Fast.tw1566514590561533665 : True := trivial
theorem PySem.W.Fast.tw1423648178225158601 : True := trivial
theorem PySem.W.Fast.tw636908589294001492 : True := trivial
theorem PySem.W.Fast.tw16985181705765548397 : True := trivial
theorem PySem.W.Fast.tw3559227879200128478 : True := trivial
theorem PySem.W.Fast.tw17116889499521342758 : True := trivial
theorem PySem.W.Fast.tw12225030751901993083 : True := trivial
theorem PySem.W.Fast.tw9314969623089145718 : True := trivial
theorem PySem.W.Fast.tw11967343193408345459 : True := trivial
theorem PySem.W.Fast.tw16878400494543940104 : True := trivial
theorem PySem.W.Fast.tw17636895020376158122 : True := trivial
theorem PySem.W.Fast.tw3548346639327090899 : True := trivial
theorem PySem.W.Fast.tw6740620556235657766 : True := trivial
theorem PySem.W.Fast.tw15838865070306744012 : True := trivial
theorem PySem.W.Fast.tw1573097907704881690 : True := trivial
theorem PySem.W.Fast.tw2814918750823246120 : True := trivial
theorem PySem.W.Fast.tw17135440119396800682 : True := trivial
theorem PySem.W.Fast.tw9721883056330689138 : True := trivial
theorem PySem.W.Fast.tw9736866588916939703 : True := trivial
theorem PySem.W.Fast.tw11704974269785902831 : True := trivial
theorem PySem.W.Fast.tw6817784680169982349 : True := trivial
theorem PySem.W.Fast.tw16889866129627274630 : True := trivial
theorem PySem.W.Fast.tw17605107704296003673 : True := trivial
theorem PySem.W.Fast.tw11429871555331445911 : True := trivial
theorem PySem.W.Fast.tw12183803753330694754 : True := trivial
theorem PySem.W.Fast.tw12990449974711780393 : True := trivial
theorem PySem.W.Fast.tw16659168651478610994 : True := trivial
theorem PySem.W.Fast.tw6740923891881451605 : True := trivial
theorem PySem.W.Fast.tw3645812867230495579 : True := trivial
theorem PySem.W.Fast.tw15280478692396610328 : True := trivial
theorem PySem.W.Fast.tw6040047835053293797 : True := trivial
theorem PySem.W.Fast.tw6898074765111595386 : True := trivial
theorem PySem.W.Fast.tw12344701844370359762 : True := trivial
theorem PySem.W.Fast.tw11729379379557880413 : True := trivial
theorem PySem.W.Fast.tw12572936708371598309 : True := trivial
theorem PySem.W.Fast.tw7843259417899033464 : True := trivial
theorem PySem.W.Fast.tw1959225322680242274 : True := trivial
theorem PySem.W.Fast.tw6668624183556675545 : True := trivial
theorem PySem.W.Fast.tw11918641849149654091 : True := trivial
theorem PySem.W.Fast.tw1417998271631548514 : True := trivial
theorem PySem.W.Fast.tw1344396186021941491 : True := trivial
theorem PySem.W.Fast.tw6090084915319130806 : True := trivial
theorem PySem.W.Fast.tw9537402363711305242 : True := trivial
theorem PySem.W.Fast.tw10377383931606248400 : True := trivial
theorem PySem.W.Fast.tw2858792499695967877 : True := trivial
theorem PySem.W.Fast.tw8776066665132608173 : True := trivial
theorem PySem.W.Fast.tw5386230887682521538 : True := trivial
theorem PySem.W.Fast.tw17938348049879529001 : True := trivial
theorem PySem.W.Fast.tw14837663793726638990 : True := trivial
theorem PySem.W.Fast.tw8398410739939804618 : True := trivial
theorem PySem.W.Fast.tw11697728907526359624 : True := trivial
theorem PySem.W.Fast.tw11732675605189983353 : True := trivial
theorem PySem.W.Fast.tw6623522252512412464 : True := trivial
theorem PySem.W.Fast.tw16386684787294422545 : True := trivial
theorem PySem.W.Fast.tw5600207735680041179 : True := trivial
theorem PySem.W.Fast.tw17356635013172629429 : True := trivial
theorem PySem.W.Fast.tw14153851364948333822 : True := trivial
theorem PySem.W.Fast.tw17080583679341631797 : True := trivial
theorem PySem.W.Fast.tw6396916536493891367 : True := trivial
theorem PySem.W.Fast.tw15638475805662634914 : True := trivial
theorem PySem.W.Fast.tw8915014990589911105 : True := trivial
theorem PySem.W.Fast.tw11987019295936871725 : True := trivial
theorem PySem.W.Fast.tw13802533927405704477 : True := trivial
theorem PySem.W.Fast.tw16438593246552413731 : True := trivial
theorem PySem.W.Fast.tw11764449112035770300 : True := trivial
theorem PySem.W.Fast.tw1880105006610434066 : True := trivial
theorem PySem.W.Fast.tw14076080065455204913 : True := trivial
theorem PySem.W.Fast.tw11095284684277695633 : True := trivial
theorem PySem.W.Fast.tw15139092417562746822 : True := trivial
theorem PySem.W.Fast.tw16721313882335027743 : True := trivial
theorem PySem.W.Fast.tw1195857609001736892 : True := trivial
theorem PySem.W.Fast.tw11336111457198342106 : True := trivial
theorem PySem.W.Fast.tw2618308675561441558 : True := trivial
theorem PySem.W.Fast.tw13026737575061754734 : True := trivial
theorem PySem.W.Fast.tw5706050533765695226 : True := trivial
theorem PySem.W.Fast.tw15740671521963771273 : True := trivial
theorem PySem.W.Fast.tw14817941456709871299 : True := trivial
theorem PySem.W.Fast.tw18101217680559440685 : True := trivial
theorem PySem.W.Fast.tw12326104346949773819 : True := trivial
theorem PySem.W.Fast.tw7479024832133359998 : True := trivial
theorem PySem.W.Fast.tw14263437311767355356 : True := trivial
theorem PySem.W.Fast.tw3707867437781047648 : True := trivial
theorem PySem.W.Fast.tw11292764299106982763 : True := trivial
open PySem PySem.W PyProof.Rows
set_option maxRecDepth 100000 in
set_option maxHeartbeats 0 in
theorem PySem.Challenge.cw_fewties_k32_no_lines_and_no_ties_holds : PySem.Challenge.rw_fewties_k32_no_lines_and_no_ties.Holds := by
 w_on; o_law; k_head; (case hw => w_witness2)
 k_fill
 refine G.walk (l:=PySem.Challenge.rw_fewties_k32_no_lines_and_no_ties) rfl rfl rfl (fun w h Y => PySem.W.kIn_of Y) ?F
 case F =>
  intro w mg h KX GG
  refine' G.txt_mk KX GG ?a0 ?l0 ?c0 ?k0 ?a1 ?l1 ?c1 ?k1 ?a2 ?l2 ?c2 ?k2 ?a3 ?l3 ?c3 ?k3 ?a4 ?l4 ?c4 ?k4 ?a5 ?l5 ?c5 ?k5 ?a6 ?l6 ?c6 ?k6 ?a7 ?l7 ?c7 ?k7 ?a8 ?l8 ?c8 ?k8 ?a9 ?l9 ?c9 ?k9 ?a10 ?l10 ?c10 ?k10 ?a11 ?l11 ?c11 ?k11 ?a12 ?l12 ?c12 ?k12 ?a13 ?l13 ?c13 ?k13 ?a14 ?l14 ?c14 ?k14 ?a15 ?l15 ?c15 ?k15 ?a16 ?l16 ?c16 ?k16 ?a17 ?l17 ?c17 ?k17 ?a18 ?l18 ?c18 ?k18 ?a19 ?l19 ?c19 ?k19 ?z_ValueError ?z_max ?z_range ?z_sorted ?z_isinstance ?z_int ?z_len ?z_min ?z_bool ?z_tuple ?g_MOST_LONG ?xa_TieError ?xe_TieError ?xi_TieError ?xa_NoPlace ?xe_NoPlace ?xi_NoPlace ?xa_NoJoin ?xe_NoJoin ?xi_NoJoin ?xa_NoTie ?xe_NoTie ?xi_NoTie ?xa_NoTree ?xe_NoTree ?xi_NoTree ?xa_NoNumber ?xe_NoNumber ?xi_NoNumber ?xa_NoText ?xe_NoText ?xi_NoText ?xa_NoName ?xe_NoName ?xi_NoName ?xa_NoRow ?xe_NoRow ?xi_NoRow ?y_NoTie_TieError ?y_NoTie_NoPlace ?y_NoTie_NoJoin ?y_NoTie_NoTie ?y_NoTie_NoTree ?y_NoTie_NoNumber ?y_NoTie_NoText ?y_NoTie_NoName ?y_NoTie_NoRow ?y_NoTie_ValueError ?s_NoTie_TieError ?y_NoNumber_TieError ?y_NoNumber_NoPlace ?y_NoNumber_NoJoin ?y_NoNumber_NoTie ?y_NoNumber_NoTree ?y_NoNumber_NoNumber ?y_NoNumber_NoText ?y_NoNumber_NoName ?y_NoNumber_NoRow ?y_NoNumber_ValueError ?s_NoNumber_TieError
  (case a0 => k_is); (case l0 => k_is); (case c0 => k_is); (case k0 => k_is)
  (case a1 => k_is); (case l1 => k_is); (case c1 => k_is); (case k1 => k_is)
  (case a2 => k_is); (case l2 => k_is); (case c2 => k_is); (case k2 => k_is)
  (case a3 => k_is); (case l3 => k_is); (case c3 => k_is); (case k3 => k_is)
  (case a4 => k_is); (case l4 => k_is); (case c4 => k_is); (case k4 => k_is)
  (case a5 => k_is); (case l5 => k_is); (case c5 => k_is); (case k5 => k_is)
  (case a6 => k_is); (case l6 => k_is); (case c6 => k_is); (case k6 => k_is)
  (case a7 => k_is); (case l7 => k_is); (case c7 => k_is); (case k7 => k_is)
  (case a8 => k_is); (case l8 => k_is); (case c8 => k_is); (case k8 => k_is)
  (case a9 => k_is); (case l9 => k_is); (case c9 => k_is); (case k9 => k_is)
  (case a10 => k_is); (case l10 => k_is); (case c10 => k_is); (case k10 => k_is)
  (case a11 => k_is); (case l11 => k_is); (case c11 => k_is); (case k11 => k_is)
  (case a12 => k_is); (case l12 => k_is); (case c12 => k_is); (case k12 => k_is)
  (case a13 => k_is); (case l13 => k_is); (case c13 => k_is); (case k13 => k_is)
  (case a14 => k_is); (case l14 => k_is); (case c14 => k_is); (case k14 => k_is)
  (case a15 => k_is); (case l15 => k_is); (case c15 => k_is); (case k15 => k_is)
  (case a16 => k_is); (case l16 => k_is); (case c16 => k_is); (case k16 => k_is)
  (case a17 => k_is); (case l17 => k_is); (case c17 => k_is); (case k17 => k_is)
  (case a18 => k_is); (case l18 => k_is); (case c18 => k_is); (case k18 => k_is)
  (case a19 => k_is); (case l19 => k_is); (case c19 => k_is); (case k19 => k_is)
  (case z_ValueError => k_is)
  (case z_max => k_is)
  (case z_range => k_is)
  (case z_sorted => k_is)
  (case z_isinstance => k_is)
  (case z_int => k_is)
  (case z_len => k_is)
  (case z_min => k_is)
  (case z_bool => k_is)
  (case z_tuple => k_is)
  (case g_MOST_LONG => k_is)
  (case xa_TieError => k_is); (case xe_TieError => k_exc); (case xi_TieError => exact ⟨L2.cl_of (bmB:=[.type "ValueError", .type "Exception", .type "BaseException", .type "object"]) (newId:="ValueError.__new__") (by k_exc), by k_is, by k_is, by k_is, by k_is, by k_is⟩)
  (case xa_NoPlace => k_is); (case xe_NoPlace => k_exc); (case xi_NoPlace => exact ⟨L2.cl_of (bmB:=[.type "ValueError", .type "Exception", .type "BaseException", .type "object"]) (newId:="ValueError.__new__") (by k_exc), by k_is, by k_is, by k_is, by k_is, by k_is⟩)
  (case xa_NoJoin => k_is); (case xe_NoJoin => k_exc); (case xi_NoJoin => exact ⟨L2.cl_of (bmB:=[.type "ValueError", .type "Exception", .type "BaseException", .type "object"]) (newId:="ValueError.__new__") (by k_exc), by k_is, by k_is, by k_is, by k_is, by k_is⟩)
  (case xa_NoTie => k_is); (case xe_NoTie => k_exc); (case xi_NoTie => exact ⟨L2.cl_of (bmB:=[.type "ValueError", .type "Exception", .type "BaseException", .type "object"]) (newId:="ValueError.__new__") (by k_exc), by k_is, by k_is, by k_is, by k_is, by k_is⟩)
  (case xa_NoTree => k_is); (case xe_NoTree => k_exc); (case xi_NoTree => exact ⟨L2.cl_of (bmB:=[.type "ValueError", .type "Exception", .type "BaseException", .type "object"]) (newId:="ValueError.__new__") (by k_exc), by k_is, by k_is, by k_is, by k_is, by k_is⟩)
  (case xa_NoNumber => k_is); (case xe_NoNumber => k_exc); (case xi_NoNumber => exact ⟨L2.cl_of (bmB:=[.type "ValueError", .type "Exception", .type "BaseException", .type "object"]) (newId:="ValueError.__new__") (by k_exc), by k_is, by k_is, by k_is, by k_is, by k_is⟩)
  (case xa_NoText => k_is); (case xe_NoText => k_exc); (case xi_NoText => exact ⟨L2.cl_of (bmB:=[.type "ValueError", .type "Exception", .type "BaseException", .type "object"]) (newId:="ValueError.__new__") (by k_exc), by k_is, by k_is, by k_is, by k_is, by k_is⟩)
  (case xa_NoName => k_is); (case xe_NoName => k_exc); (case xi_NoName => exact ⟨L2.cl_of (bmB:=[.type "ValueError", .type "Exception", .type "BaseException", .type "object"]) (newId:="ValueError.__new__") (by k_exc), by k_is, by k_is, by k_is, by k_is, by k_is⟩)
  (case xa_NoRow => k_is); (case xe_NoRow => k_exc); (case xi_NoRow => exact ⟨L2.cl_of (bmB:=[.type "ValueError", .type "Exception", .type "BaseException", .type "object"]) (newId:="ValueError.__new__") (by k_exc), by k_is, by k_is, by k_is, by k_is, by k_is⟩)
  (case y_NoTie_TieError => kit_is)
  (case y_NoTie_NoPlace => kit_is)
  (case y_NoTie_NoJoin => kit_is)
  (case y_NoTie_NoTie => kit_is)
  (case y_NoTie_NoTree => kit_is)
  (case y_NoTie_NoNumber => kit_is)
  (case y_NoTie_NoText => kit_is)
  (case y_NoTie_NoName => kit_is)
  (case y_NoTie_NoRow => kit_is)
  (case y_NoTie_ValueError => kit_is)
  (case s_NoTie_TieError => k_is)
  (case y_NoNumber_TieError => kit_is)
  (case y_NoNumber_NoPlace => kit_is)
  (case y_NoNumber_NoJoin => kit_is)
  (case y_NoNumber_NoTie => kit_is)
  (case y_NoNumber_NoTree => kit_is)
  (case y_NoNumber_NoNumber => kit_is)
  (case y_NoNumber_NoText => kit_is)
  (case y_NoNumber_NoName => kit_is)
  (case y_NoNumber_NoRow => kit_is)
  (case y_NoNumber_ValueError => kit_is)
  (case s_NoNumber_TieError => k_is)
#print axioms PySem.Challenge.cw_fewties_k32_no_lines_and_no_ties_holds
