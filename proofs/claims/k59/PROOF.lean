import PyProof.Rows.All
import Wide.All
import OpenK.AllK
import Wide.FinOn
import Lean
import PyProof.EqAt
import PyProof.EqKinds
import PyProof.TupleCall
import PySem.Str
import PySem.Builtin.Int.W1All
import PyProof.NeKinds
import PyProof.ZipIter
import PyProof.SumWalkG
import PyProof.MinMaxWalk
import PyProof.WalksMore
import PyProof.SeqI3
import PyProof.WalkInts
import PyProof.Rows.CallKwBuiltin
import PyProof.Rows.Tup
import PyProof.CollectIter
import PyProof.EnumMake
import PyProof.TupleOfSeq
import PyProof.ListNew
import PyProof.ReprLoop
import PySem.Challenge.RW_hourhaul_k59_calendars_till_late_turned
set_option Elab.async false
set_option linter.all false
set_option maxRecDepth 100000
section
set_option Elab.async false
set_option linter.all false
set_option maxRecDepth 100000
/-! THE HAND LAYER, for ints, bools, texts, own classes, LISTS and tuples (index, slices, in, append, pop ..), calls, loops. Paste it whole ahead of your own text; what your proof does not reach may be deleted. -/
namespace L2
open PySem PySem.Spec PyProof.Rows

/-- a key: an int or a str -/
abbrev Key := Sum Int Str
def keyIs : Key → Value → Bool
  | .inl k, v => Value.isInt k v
  | .inr x, v => Value.isStrOf x v
def keyH (w : World) : Key → Int
  | .inl k => hashInt k
  | .inr x => hashStr w x
theorem keyIs_shape : ∀ {k : Key} {v : Value}, keyIs k v = true → (∃ i t, k = Sum.inl i ∧ v = Value.int i t) ∨ (∃ x t, k = Sum.inr x ∧ v = Value.str x t)
  | .inl i, v, h => by
    obtain ⟨t, e⟩ := Value.isInt_shape (k := i) (v := v) h
    exact .inl ⟨i, t, rfl, e⟩
  | .inr x, v, h => by
    obtain ⟨t, e⟩ := Value.isStrOf_shape (x := x) (v := v) h
    exact .inr ⟨x, t, rfl, e⟩
theorem key_ll (a b : Int) : decide ((Sum.inl a : Key) = Sum.inl b) = (a == b) := by
  by_cases e : a = b
  · subst e; simp
  · have h : ¬ (Sum.inl a : Key) = Sum.inl b := fun q => e (Sum.inl.inj q)
    rw [decide_eq_false h]
    exact (beq_eq_false_iff_ne.mpr e).symm
theorem key_rr (a b : Str) : decide ((Sum.inr a : Key) = Sum.inr b) = decide (a = b) := by
  by_cases e : a = b
  · subst e; simp
  · have h : ¬ (Sum.inr a : Key) = Sum.inr b := fun q => e (Sum.inr.inj q)
    rw [decide_eq_false h, decide_eq_false e]
theorem key_lr (a : Int) (b : Str) : decide ((Sum.inl a : Key) = Sum.inr b) = false := decide_eq_false (fun q => nomatch q)
theorem key_rl (a : Str) (b : Int) : decide ((Sum.inr a : Key) = Sum.inl b) = false := decide_eq_false (fun q => nomatch q)

def mixKind (prog : Program) (w : World) : PySem.KeyKind prog w Key where
  is := keyIs
  hash := keyH w
  inj := fun v a b ha hb => by
    rcases keyIs_shape ha with ⟨i, t, rfl, rfl⟩ | ⟨x, t, rfl, rfl⟩
    · rcases keyIs_shape hb with ⟨j, u, rfl, e⟩ | ⟨y, u, rfl, e⟩
      · injection e with e1 _; rw [e1]
      · exact nomatch e
    · rcases keyIs_shape hb with ⟨j, u, rfl, e⟩ | ⟨y, u, rfl, e⟩
      · exact nomatch e
      · injection e with e1 _; rw [e1]
  byValue := fun k v h => by
    rcases keyIs_shape h with ⟨i, t, rfl, rfl⟩ | ⟨x, t, rfl, rfl⟩ <;> rfl
  pyHash := fun hv h => by
    rcases keyIs_shape hv with ⟨i, t, rfl, rfl⟩ | ⟨x, t, rfl, rfl⟩
    · exact wpAny_pyHash_int h
    · exact wpAny_pyHash_str h
  eqBool := fun hu hv h => by
    rcases keyIs_shape hu with ⟨i, t, rfl, rfl⟩ | ⟨x, t, rfl, rfl⟩
    · rcases keyIs_shape hv with ⟨j, u, rfl, rfl⟩ | ⟨y, u, rfl, rfl⟩
      · rw [key_ll] at h; exact wpAny_eqBool_int h
      · rw [key_lr] at h; exact SeqAt.EqAt.int_str i t y u _ _ _ _ h
    · rcases keyIs_shape hv with ⟨j, u, rfl, rfl⟩ | ⟨y, u, rfl, rfl⟩
      · rw [key_rl] at h; exact SeqAt.EqAt.str_int x t j u _ _ _ _ h
      · rw [key_rr] at h; exact wpAny_eqBool_str h
  «strs» := fun k x t v h => by
    rcases keyIs_shape h with ⟨i, u, rfl, e⟩ | ⟨y, u, rfl, e⟩
    · exact nomatch e
    · injection e with e1 _
      subst e1
      cases v <;> rfl

end L2

namespace L2
open PySem PySem.Spec PyProof.Rows

/-- a value, without the heap -/
inductive V where
  | non | bl (b : Bool) | int (i : Int) | str (x : Str) | byt (b : Array UInt8) | flt (b : UInt64) | ref (a : Addr) | ty (n : String)
  deriving DecidableEq

def RelV : V → Value → Prop
  | .non, u => u = Value.none
  | .bl b, u => u = Value.bool b
  | .int i, u => ∃ t, u = Value.int i t
  | .str x, u => ∃ t, u = Value.str x t
  | .byt b, u => ∃ t, u = Value.bytes b t
  | .flt b, u => ∃ t, u = Value.float b t
  | .ref a, u => u = Value.ref a
  | .ty n, u => u = Value.type n

abbrev Vals : List V → List Value → Prop := Paired RelV
theorem Vals.length {xs : List V} {us : List Value} (r : Vals xs us) : xs.length = us.length := Paired.length r
theorem Vals.get : ∀ {xs : List V} {us : List Value} {i : Nat} {x : V}, Vals xs us → xs[i]? = some x → ∃ u, us[i]? = some u ∧ RelV x u
  | _, _, _, _, .nil, e => by simp at e
  | _, _, 0, _, .cons r _, e => by simp at e; subst e; exact ⟨_, rfl, r⟩
  | _, _, i + 1, x, .cons _ t, e => by
    obtain ⟨u, h1, h2⟩ := Vals.get (i := i) (x := x) t (by simpa using e)
    exact ⟨u, by simpa using h1, h2⟩
theorem Vals.set {x : V} {u : Value} (r : RelV x u) : ∀ {xs : List V} {us : List Value} (i : Nat), Vals xs us → Vals (xs.set i x) (us.set i u)
  | _, _, _, .nil => .nil
  | _, _, 0, .cons _ t => .cons r t
  | _, _, i + 1, .cons q t => .cons q (Vals.set r i t)
theorem Vals.append : ∀ {xs ys : List V} {us ws : List Value}, Vals xs us → Vals ys ws → Vals (xs ++ ys) (us ++ ws)
  | _, _, _, _, .nil, s => s
  | _, _, _, _, .cons r t, s => .cons r (Vals.append t s)
theorem Vals.take : ∀ {xs : List V} {us : List Value} (n : Nat), Vals xs us → Vals (xs.take n) (us.take n)
  | _, _, 0, _ => .nil
  | _, _, _ + 1, .nil => .nil
  | _, _, n + 1, .cons r t => .cons r (Vals.take n t)
theorem Vals.drop : ∀ {xs : List V} {us : List Value} (n : Nat), Vals xs us → Vals (xs.drop n) (us.drop n)
  | _, _, 0, r => r
  | _, _, _ + 1, .nil => .nil
  | _, _, n + 1, .cons _ t => Vals.drop n t
def RelO : Option V → Option Value → Prop
  | some v, some u => RelV v u
  | none, none => True
  | _, _ => False
def KV {κ : Type} : List (κ × V) → List (κ × Value) → Prop := Paired fun (p : κ × V) (q : κ × Value) => p.1 = q.1 ∧ RelV p.2 q.2

/-- a key of a dict (00_mix): an int or a text -/
def kV : Key → V
  | .inl i => .int i
  | .inr x => .str x

/-- what stands at a tracked address -/
inductive HO where
  /-- a list -/
  | lst (xs : List V)
  /-- a tuple (never changes) -/
  | tup (xs : List V)
  /-- a dict whose keys are ints and texts; one whose keys are tuples of ints and texts (the empty one is both) -/
  | dK (kvs : List (Key × V)) | dT (kvs : List (List Key × V))
  /-- a set of ints: its members, its size -/
  | set (S : Int → Bool) (n : Nat)
  /-- an instance of the class at C, its dict at dx, its attributes -/
  | ins (C dx : Addr) (fs : List (Str × V))
  /-- the dict of the instance at x -/
  | own (x : Addr)
  /-- the dict of an exception -/
  | xd (fs : List (Str × V))
  /-- a bound method, f of x -/
  | met (f x : Addr)
  /-- a range object lo, lo + 1, .. below hi -/
  | rng (lo hi : Int)
  /-- a thing that is known to the object (the script; a dict while a loop walks it): read, never written while it is so -/
  | frz (o : Obj) (u : HO)
  /-- a code object's table -/
  | tbl (ps : Array Value)
  /-- any other thing, by what is true of its one object (a def of one's own: SetO a S n := HO.ext fun h => ..) -/
  | ext (φ : Heap → Prop)

abbrev Hp := Addr → Option HO
def upd (H : Hp) (a : Addr) (o : HO) : Hp := fun b => if b = a then some o else H b
theorem upd_same {H : Hp} {a : Addr} {o : HO} : upd H a o a = some o := by unfold upd; rw [if_pos rfl]
theorem upd_ne {H : Hp} {a b : Addr} {o : HO} (h : b ≠ a) : upd H a o b = H b := by unfold upd; rw [if_neg h]
theorem ne_of_none {H : Hp} {a b : Addr} {o : HO} (h : H a = some o) (h' : H b = none) : a ≠ b := by
  intro e; subst e; rw [h] at h'; cases h'

section
variable (P : Program) (w : World)
def ObjOk (H : Hp) (h : Heap) (a : Addr) : HO → Prop
  | .lst xs => xs.length ≤ sizeLine ∧ ∃ (its : List Value) (n : Nat), Vals xs its ∧ h.get? a = some { cls := .type "list", data := .seq its.toArray n }
  | .tup xs => xs.length ≤ sizeLine ∧ ∃ its : List Value, Vals xs its ∧ IsTup h a its.toArray
  | .dK kvs => kvs.length ≤ sizeLine ∧ (a == sysModules) = false ∧ ∃ vs, KV kvs vs ∧ h.DictOf (mixKind P w) a vs
  | .dT kvs => kvs.length ≤ sizeLine ∧ (a == sysModules) = false ∧ ∃ xs : List (List Key × Addr × Value),
      Paired (fun (p : List Key × V) (q : List Key × Addr × Value) => p.1 = q.1 ∧ H q.2.1 = some (.tup (p.1.map kV)) ∧ RelV p.2 q.2.2) kvs xs ∧
      ∃ o es ep, h.get? a = some o ∧ o.ExactDict ∧ o.data = .dict es ep ∧ es.toList = xs.map (entryOfKey (tupleKind (mixKind P w))) ∧ (xs.map (·.1)).Nodup
  | .set S n => h.SetOf (intKind P w) a S n
  | .ins C dx fs => H dx = some (.own a) ∧ fs.length ≤ 1000 ∧ dx ≠ a ∧ h.get? a = some (PySem.W.instObj C dx) ∧
      ∃ mA, h.Ns1 dx mA ∧ (∀ f, RelO (fs.lookup f) (mA f)) ∧ PySem.Within mA (fs.map (·.1))
  | .own _ => ∃ o, h.get? a = some o
  | .xd fs => ∃ mA, h.Ns1 a mA ∧ ∀ f, RelO (fs.lookup f) (mA f)
  | .rng lo hi => ∃ t u v, h.get? a = some { cls := .type "range", data := .fields #[.int lo t, .int hi u, .int 1 v] }
  | .frz o u => h.get? a = some o ∧ ObjOk H h a u
  | .tbl ps => h.get? a = some { cls := .none, data := .fields ps }
  | .met f x => h.get? a = some (PySem.W.methodObj (.ref f) (.ref x))
  | .ext φ => φ h ∧ (∃ o, h.get? a = some o) ∧ ∀ h1 h2 : Heap, φ h1 → (∀ o, h1.get? a = some o → h2.get? a = some o) → φ h2
/-- the abstract heap is held -/
def HOk (H : Hp) (h : Heap) : Prop := ∀ a o, H a = some o → ObjOk P w H h a o
end

section
variable {P : Program} {w : World} {H H' : Hp} {h h' : Heap} {a : Addr} {o : HO}
theorem ObjOk.lt (x : ObjOk P w H h a o) : a < h.objs.size := by
  cases o with
  | lst xs => obtain ⟨_, _, _, _, e⟩ := x; exact Heap.lt_size e
  | tup xs => obtain ⟨_, _, _, p⟩ := x; exact p.lt
  | dK kvs => obtain ⟨_, _, _, _, o, _, _, e, _⟩ := x; exact Heap.lt_size e
  | dT kvs => obtain ⟨_, _, _, _, o, _, _, e, _⟩ := x; exact Heap.lt_size e
  | set S n => obtain ⟨o, _, _, _, e, _⟩ := x; exact Heap.lt_size e
  | ins C dx fs => obtain ⟨_, _, _, e, _⟩ := x; exact Heap.lt_size e
  | own y => obtain ⟨_, e⟩ := x; exact Heap.lt_size e
  | xd fs => obtain ⟨_, ⟨_, _, _, e, _⟩, _⟩ := x; exact Heap.lt_size e
  | rng lo hi => obtain ⟨_, _, _, e⟩ := x; exact Heap.lt_size e
  | frz ob u => obtain ⟨e, _⟩ := x; exact Heap.lt_size e
  | tbl ps => exact Heap.lt_size (show h.get? a = some _ from x)
  | met f y => exact Heap.lt_size (show h.get? a = some _ from x)
  | ext φ => obtain ⟨_, ⟨_, e⟩, _⟩ := x; exact Heap.lt_size e
theorem Paired.mapP {α β : Type} {F G : α → β → Prop} : ∀ {l₁ : List α} {l₂ : List β}, Paired F l₁ l₂ → (∀ a b, F a b → G a b) → Paired G l₁ l₂
  | _, _, .nil, _ => .nil
  | _, _, .cons r t, f => .cons (f _ _ r) (Paired.mapP t f)
/-- what an object's description leans on: its own object, its own dict, the tuples -/
theorem ObjOk.stay (x : ObjOk P w H h a o) (k : ∀ b u, (b = a ∨ H b = some (.own a)) → h.get? b = some u → h'.get? b = some u)
    (ho : ∀ b, H b = some (.own a) → H' b = some (.own a)) (ht : ∀ b xs, H b = some (.tup xs) → H' b = some (.tup xs)) : ObjOk P w H' h' a o := by
  induction o with
  | lst xs => obtain ⟨z, its, n, r, e⟩ := x; exact ⟨z, its, n, r, k _ _ (.inl rfl) e⟩
  | tup xs => obtain ⟨z, its, r, ob, e, c⟩ := x; exact ⟨z, its, r, ob, k _ _ (.inl rfl) e, c⟩
  | dK kvs => obtain ⟨z, y, vs, r, ob, es, ep, e, c⟩ := x; exact ⟨z, y, vs, r, ob, es, ep, k _ _ (.inl rfl) e, c⟩
  | dT kvs =>
    obtain ⟨z, y, xs, r, ob, es, ep, e, c⟩ := x
    exact ⟨z, y, xs, Paired.mapP r fun p q z => ⟨z.1, ht _ _ z.2.1, z.2.2⟩, ob, es, ep, k _ _ (.inl rfl) e, c⟩
  | set S n => obtain ⟨ob, es, ep, t, e, c⟩ := x; exact ⟨ob, es, ep, t, k _ _ (.inl rfl) e, c⟩
  | ins C dx fs =>
    obtain ⟨d, z, ne, e, mA, ⟨od, es, ep, e2, c⟩, r⟩ := x
    exact ⟨ho _ d, z, ne, k _ _ (.inl rfl) e, mA, ⟨od, es, ep, k _ _ (.inr d) e2, c⟩, r⟩
  | own y => obtain ⟨ob, e⟩ := x; exact ⟨ob, k _ _ (.inl rfl) e⟩
  | xd fs => obtain ⟨mA, ⟨od, es, ep, e, c⟩, r⟩ := x; exact ⟨mA, ⟨od, es, ep, k _ _ (.inl rfl) e, c⟩, r⟩
  | rng lo hi => obtain ⟨t, u, v, e⟩ := x; exact ⟨t, u, v, k _ _ (.inl rfl) e⟩
  | frz ob u ih => obtain ⟨e, q⟩ := x; exact ⟨k _ _ (.inl rfl) e, ih q⟩
  | tbl ps =>
    have e : h.get? a = some { cls := .none, data := .fields ps } := x
    show h'.get? a = some { cls := .none, data := .fields ps }
    exact k a _ (.inl rfl) e
  | met f y =>
    have e : h.get? a = some (PySem.W.methodObj (.ref f) (.ref y)) := x
    show h'.get? a = some (PySem.W.methodObj (.ref f) (.ref y))
    exact k a _ (.inl rfl) e
  | ext φ => obtain ⟨p, ⟨o, e⟩, st⟩ := x; exact ⟨st _ _ p fun o q => k _ _ (.inl rfl) q, ⟨o, k _ _ (.inl rfl) e⟩, st⟩
theorem HOk.lt (x : HOk P w H h) (e : H a = some o) : a < h.objs.size := (x a o e).lt
theorem HOk.fresh (x : HOk P w H h) (e : h.objs.size ≤ a) : H a = none := by
  cases q : H a with
  | none => rfl
  | some u => exact absurd (Nat.lt_of_lt_of_le (x.lt q) e) (Nat.lt_irrefl _)
/-- every object of the heap is kept -/
theorem HOk.kept (x : HOk P w H h) (k : ∀ b u, h.get? b = some u → h'.get? b = some u) : HOk P w H h' := fun a o e =>
  (x a o e).stay (fun b u _ q => k b u q) (fun _ q => q) fun _ _ q => q
/-- a new object is laid and tracked -/
theorem HOk.laid (x : HOk P w H h) (k : ∀ b u, h.get? b = some u → h'.get? b = some u) (hp : h.objs.size ≤ a) (new : ObjOk P w (upd H a o) h' a o) : HOk P w (upd H a o) h' := fun b u e => by
  have hn := x.fresh hp
  by_cases hb : b = a
  · subst hb; rw [upd_same] at e; cases e; exact new
  · rw [upd_ne hb] at e
    exact (x b u e).stay (fun c v _ q => k c v q) (fun c q => by rw [upd_ne (ne_of_none q hn)]; exact q) fun c xs q => by rw [upd_ne (ne_of_none q hn)]; exact q
end

/-- what may be read as u: it is u, or a known u -/
def Rd (H : Hp) (a : Addr) (u : HO) : Prop := H a = some u ∨ ∃ o, H a = some (.frz o u)
theorem Rd.ok {P : Program} {w : World} {H : Hp} {h : Heap} {a : Addr} {u : HO} (r : Rd H a u) (x : HOk P w H h) : ObjOk P w H h a u := by
  rcases r with r | ⟨o, r⟩
  · exact x a u r
  · obtain ⟨_, q⟩ := x a _ r
    exact q
/-- what may be written -/
def Mut : Option HO → Prop
  | some (.lst _) => True
  | some (.dK _) => True
  | some (.dT _) => True
  | some (.set _ _) => True
  | some (.ins _ _ _) => True
  | some (.ext _) => True
  | _ => False
section
variable {P : Program} {w : World} {H : Hp} {h h' : Heap} {x e : Addr} {o' : HO}
/-- the object at e is changed: x itself, or the dict of the instance x -/
theorem HOk.write (ok : HOk P w H h) (mu : Mut (H x)) (he : e = x ∨ H e = some (.own x)) (k : ∀ b u, b ≠ e → h.get? b = some u → h'.get? b = some u) (heo : ∃ u, h'.get? e = some u)
    (new : ObjOk P w (upd H x o') h' x o') : HOk P w (upd H x o') h' := fun b u q => by
  have nown : ∀ c y, H c = some (.own y) → c ≠ x := fun c y r z => by subst z; rw [r] at mu; exact mu
  have ntup : ∀ c xs, H c = some (.tup xs) → c ≠ x := fun c xs r z => by subst z; rw [r] at mu; exact mu
  by_cases hb : b = x
  · subst hb; rw [upd_same] at q; cases q; exact new
  · rw [upd_ne hb] at q
    by_cases hbe : b = e
    · have q' : H b = some (.own x) := by
        rcases he with z | z
        · exact absurd (hbe.trans z) hb
        · rw [hbe]; exact z
      rw [q] at q'; cases q'
      obtain ⟨v, hv⟩ := heo
      exact ⟨v, by rw [hbe]; exact hv⟩
    · refine (ok b u q).stay (fun c v hc r => k c v ?_ r) (fun c r => by rw [upd_ne (nown c b r)]; exact r) fun c xs r => by rw [upd_ne (ntup c xs r)]; exact r
      rcases hc with rfl | hc
      · exact hbe
      · rintro rfl
        rcases he with z | z
        · exact nown c b hc z
        · rw [hc] at z; cases z; exact hb rfl
end

/-! ### kept unless tracked; of the frames at fs (the callers') the slots may change (an exception that passes writes there); of the records at ex (iterators) nothing is said -/
structure Un (fs ex : List Addr) (H H' : Hp) (h h' : Heap) : Prop where
  keep : ∀ b o, h.get? b = some o → H b = none → b ∉ fs → b ∉ ex → h'.get? b = some o
  slot : ∀ b o, h.get? b = some o → H b = none → b ∈ fs → b ∉ ex → ∃ sl, h'.get? b = some { o with slots := sl }
  free : ∀ b o, h.get? b = some o → H b = none → b ∉ ex → H' b = none
  there : ∀ b o, h.get? b = some o → b ∉ ex → ∃ o', h'.get? b = some o'
  tups : ∀ b xs, H b = some (.tup xs) → H' b = some (.tup xs)
  frzs : ∀ b o u, H b = some (.frz o u) → H' b = some (.frz o u)
  tbls : ∀ b ps, H b = some (.tbl ps) → ∃ more, H' b = some (.tbl (ps ++ more))
section
variable {fs fs' ex ex' : List Addr} {H H1 H2 : Hp} {h h1 h2 h' : Heap} {a x e : Addr} {o : HO}
theorem Un.any (u : Un fs ex H H1 h h1) {b : Addr} {ob : Obj} (q : h.get? b = some ob) (n : H b = none) (hx : b ∉ ex) : ∃ sl, h1.get? b = some { ob with slots := sl } := by
  by_cases hb : b ∈ fs
  · exact u.slot b ob q n hb hx
  · exact ⟨ob.slots, u.keep b ob q n hb hx⟩
theorem Un.kept (k : ∀ b u, h.get? b = some u → h'.get? b = some u) : Un fs ex H H h h' :=
  ⟨fun b ob q _ _ _ => k b ob q, fun b ob q _ _ _ => ⟨ob.slots, k b ob q⟩, fun _ _ _ n _ => n, fun b ob q _ => ⟨ob, k b ob q⟩, fun _ _ q => q, fun _ _ _ q => q, fun _ ps q => ⟨#[], by rw [q]; simp⟩⟩
theorem Un.refl : Un fs ex H H h h := Un.kept fun _ _ q => q
theorem Un.laid (k : ∀ b u, h.get? b = some u → h'.get? b = some u) (hp : h.objs.size ≤ a) (hn : H a = none) : Un fs ex H (upd H a o) h h' where
  keep := fun b u q _ _ _ => k b u q
  slot := fun b u q _ _ _ => ⟨u.slots, k b u q⟩
  free := fun b u q n _ => by rw [upd_ne (Nat.ne_of_lt (Nat.lt_of_lt_of_le (Heap.lt_size q) hp))]; exact n
  there := fun b u q _ => ⟨u, k b u q⟩
  tups := fun b xs q => by rw [upd_ne (ne_of_none q hn)]; exact q
  frzs := fun b u xs q => by rw [upd_ne (ne_of_none q hn)]; exact q
  tbls := fun b ps q => ⟨#[], by rw [upd_ne (ne_of_none q hn), q]; simp⟩
theorem Un.write (mu : Mut (H x)) (he : e = x ∨ H e = some (.own x)) (k : ∀ b u, b ≠ e → h.get? b = some u → h'.get? b = some u) (heo : ∃ u, h'.get? e = some u) : Un fs ex H (upd H x o) h h' := by
  have hx : ∀ b, H b = none → b ≠ x := fun b n z => by subst z; rw [n] at mu; exact mu
  have hb : ∀ b, H b = none → b ≠ e := fun b n z => by
    subst z
    rcases he with r | r
    · exact hx b n r
    · rw [n] at r; cases r
  have hm : ∀ b u, H b = some u → ¬ Mut (some u) → b ≠ x := fun b u q nm z => by subst z; rw [q] at mu; exact nm mu
  refine ⟨fun b u q n _ _ => k b u (hb b n) q, fun b u q n _ _ => ⟨u.slots, k b u (hb b n) q⟩, fun b u q n _ => by rw [upd_ne (hx b n)]; exact n, fun b u q _ => ?_,
    fun b xs q => by rw [upd_ne (hm b _ q fun z => z)]; exact q, fun b u xs q => by rw [upd_ne (hm b _ q fun z => z)]; exact q, fun b ps q => ⟨#[], by rw [upd_ne (hm b _ q fun z => z), q]; simp⟩⟩
  by_cases hbe : b = e
  · subst hbe; exact heo
  · exact ⟨u, k b u hbe q⟩
end

/-! ### the heap without what is tracked -/
def trk (h : Heap) (H : Hp) : List Addr := (List.range h.objs.size).filter fun a => (H a).isSome
def hidT (h : Heap) (H : Hp) : Heap := PySem.W.hideAll h (trk h H)
theorem hidT_size (h : Heap) (H : Hp) : (hidT h H).objs.size = h.objs.size := PySem.W.hideAll_size _ _
theorem hidT_get {h : Heap} {H : Hp} {b : Addr} {o : Obj} (e : h.get? b = some o) (n : H b = none) : (hidT h H).get? b = some o :=
  PySem.W.hideAll_get _ e fun hm => by
    have q : (H b).isSome = true := (List.mem_filter.mp hm).2
    rw [n] at q; simp at q
theorem of_hidT {h : Heap} {H : Hp} {b : Addr} {o : Obj} (e : (hidT h H).get? b = some o) : h.get? b = some o ∧ H b = none := by
  have e' : h.get? b = some o := PySem.W.of_hideAll (trk h H) e
  refine ⟨e', ?_⟩
  cases q : H b with
  | none => rfl
  | some x =>
    have hm : b ∈ trk h H := List.mem_filter.mpr ⟨List.mem_range.mpr (Heap.lt_size e'), by simp [q]⟩
    have z : (hidT h H).get? b = none := PySem.W.hideAll_none (trk h H) hm
    rw [z] at e; cases e

/-! ### OpenK's ledger, filled with every new object but one -/
def allNews (g h : Heap) (L : Addr) : List (Addr × Obj) := (List.range h.objs.size).filterMap fun a => if a = L ∨ (g.get? a).isSome = true then none else (h.get? a).map fun o => (a, o)
def rest (g h : Heap) (L d : Addr) : List (Addr × Obj) := (allNews g h L).filter fun p => decide (p.1 ≠ d)
end L2

namespace L2
open PySem PySem.Spec PyProof.Rows

/-- the module's facts, over the base: the heap at the law's entry without what is tracked there -/
structure Mod (K : PySem.W.Frag) (mg : Str → Option Value) (base : Heap) : Prop where
  kin : K.In base
  glob : base.Ns mainGlobals mg
  blt : ∃ mb, base.Ns builtinsNs mb ∧ ∀ x : Str, x ≠ "__name__" → mb x = bootBuiltins x
  nolimit : base.NoLimit

/-- the context: a def's body (or a comprehension's block) running. base: fixed through the whole law; s₀, H₀: the entry; outer: the frames whose slots others may change (a def's callers); stack: all frames that run;
   ex: iterators that were made ahead of the entry and are walked here (a comprehension's); fn: the names whose cells were made at the entry (a def: all; a comprehension's block: its own); calm: not within an except suite; pn: pins that every state bears; xe: what is wanted of an exception that leaves the code -/
structure Cx where
  prog : Program
  w : World
  K : PySem.W.Frag
  mg : Str → Option Value
  base : Heap
  A : Around
  N : List Str
  s₀ : Shared
  H₀ : Hp
  env : Env
  outer : List Env
  stack : List Env
  ex : List Addr
  fn : Str → Bool
  calm : Bool
  pn : List (Addr × Obj)
  xe : Value → Shared → Prop
/-- the callers' frames -/
def frs (l : List Env) : List Addr := l.filterMap (·.frame)
abbrev Cx.fs (X : Cx) : List Addr := frs X.outer

def Vis (sc : Scope) (x : Str) : Prop := sc.names.lookup x = some .local ∨ sc.names.lookup x = some .cell ∨ sc.names.lookup x = some .free
def Loc (sc : Scope) (x : Str) : Prop := sc.names.lookup x = some .local ∨ sc.names.lookup x = some .cell
def Look (env : Env) (h : Heap) (m : Str → Option Value) (x : Str) (u : Value) : Prop :=
  (env.kindOf x = some .local ∧ m x = some u) ∨ ((env.kindOf x = some .cell ∨ env.kindOf x = some .free) ∧ ∃ c, env.cells.lookup x = some c ∧ h.IsCell c (some u))

structure Cx.Ok (X : Cx) : Prop where
  mod : Mod X.K X.mg X.base
  kind : X.env.scope.kind = .function
  glob : X.env.globals = mainGlobals
  blt : X.env.builtins = builtinsNs
  above : X.s₀.heap.objs.size ≤ X.env.locals
  inj : ∀ x y c, X.env.cells.lookup x = some c → X.env.cells.lookup y = some c → x = y
  has : ∀ x, (X.env.kindOf x = some .cell ∨ X.env.kindOf x = some .free) → ∃ c, X.env.cells.lookup x = some c
  cab : ∀ x c, X.fn x = true → X.env.cells.lookup x = some c → X.s₀.heap.objs.size ≤ c
  hd : X.calm = true → X.A.handled = none
  frames : X.A.frames = some X.stack
  stk : X.stack = X.outer ∨ (X.stack = X.env :: X.outer ∧ X.env.frame = some X.env.locals)
  exf : ∀ b ∈ X.ex, b ≠ X.env.locals ∧ ∀ x c, X.env.cells.lookup x = some c → c ≠ b
  bs : ∀ b o, X.base.get? b = some o → X.s₀.heap.get? b = some o ∧ X.H₀ b = none
  bsz : X.base.objs.size ≤ X.s₀.heap.objs.size
  noex : ∀ b o, X.base.get? b = some o → b ∉ X.ex
  exfs : ∀ b ∈ X.ex, b ∉ X.fs
  funs : X.s₀.heap.FunFrames X.base X.outer
  frf : ∀ b ∈ X.fs, X.H₀ b = none

structure Inv (X : Cx) (pins : List (Addr × Obj)) (σ : List (Option V)) (H : Hp) (s : Shared) : Prop where
  ok : X.Ok
  os : s.os = X.s₀.os
  bare : AllBare s.gens
  base : Un X.fs X.ex X.H₀ H X.s₀.heap s.heap
  loc : ∃ m, s.heap.Ns X.env.locals m ∧ ∀ (i : Nat) (x : Str) (v : V), X.N[i]? = some x → σ[i]? = some (some v) → Vis X.env.scope x → ∃ u, RelV v u ∧ Look X.env s.heap m x u
  cell : ∀ x c, X.env.cells.lookup x = some c → ∃ v, s.heap.IsCell c v
  free : H X.env.locals = none
  freeC : ∀ x c, X.env.cells.lookup x = some c → H c = none
  pin : ∀ p ∈ X.pn ++ pins, s.heap.get? p.1 = some p.2 ∧ H p.1 = none ∧ p.1 ≠ X.env.locals ∧ p.1 ∉ X.fs ∧ ∀ v, p.2.data ≠ .cell v
  hok : HOk X.prog X.w H s.heap
  len : σ.length = X.N.length

section
variable {X : Cx} {pins : List (Addr × Obj)} {σ : List (Option V)} {H H' : Hp} {s : Shared} {h' : Heap}

theorem Cx.Ok.nofr (ok : X.Ok) {b : Addr} {o : Obj} (e : X.base.get? b = some o) : b ∉ X.fs := fun hb => by
  have := (ok.funs.mem hb).1
  rw [e] at this; cases this
theorem Inv.bs (I : Inv X pins σ H s) : ∀ b o, X.base.get? b = some o → s.heap.get? b = some o ∧ H b = none := fun b o e =>
  ⟨I.base.keep b o (I.ok.bs b o e).1 (I.ok.bs b o e).2 (I.ok.nofr e) (I.ok.noex b o e), I.base.free b o (I.ok.bs b o e).1 (I.ok.bs b o e).2 (I.ok.noex b o e)⟩
theorem Inv.bk (I : Inv X pins σ H s) : ∀ b o, X.base.get? b = some o → s.heap.get? b = some o := fun b o e => (I.bs b o e).1
theorem Inv.mod (I : Inv X pins σ H s) : Mod X.K X.mg X.base := I.ok.mod
theorem Inv.kIn (I : Inv X pins σ H s) : X.K.In s.heap := I.ok.mod.kin.keeps I.bk
theorem Inv.lt (I : Inv X pins σ H s) : X.env.locals < s.heap.objs.size := let ⟨_, hn, _⟩ := I.loc; hn.lt
theorem Inv.sz (I : Inv X pins σ H s) : X.s₀.heap.objs.size ≤ s.heap.objs.size := Nat.le_trans I.ok.above (Nat.le_of_lt I.lt)
theorem Inv.nofs (I : Inv X pins σ H s) {a : Addr} (h : s.heap.objs.size ≤ a) : a ∉ X.fs := fun hb => by
  obtain ⟨_, o, ho, _⟩ := I.ok.funs.mem hb
  exact absurd (Nat.lt_of_lt_of_le (Heap.lt_size ho) (Nat.le_trans I.sz h)) (Nat.lt_irrefl _)
theorem Inv.cne (I : Inv X pins σ H s) : ∀ x c, X.env.cells.lookup x = some c → c ≠ X.env.locals := fun x c e z => by
  obtain ⟨v, o, ho, hd⟩ := I.cell x c e
  obtain ⟨m, ⟨o', es, ep, ho', hd', _⟩, _⟩ := I.loc
  rw [z, ho'] at ho; cases ho; rw [hd'] at hd; cases hd
theorem Inv.funs (I : Inv X pins σ H s) : s.heap.FunFrames X.base X.outer := by
  have all : ∀ (l : List Env), (∀ b ∈ frs l, b ∈ X.fs) → X.s₀.heap.FunFrames X.base l → s.heap.FunFrames X.base l := by
    intro l
    induction l with
    | nil => intro _ _; trivial
    | cons env r ih =>
      intro hs hl
      obtain ⟨hk, ⟨L, o, hf, hn, ho, hd⟩, hr⟩ := hl
      have hL : L ∈ X.fs := hs L (by unfold frs; rw [List.filterMap_cons, hf]; exact List.mem_cons_self)
      obtain ⟨sl, e⟩ := I.base.slot L o ho (I.ok.frf L hL) hL fun z => I.ok.exfs L z hL
      exact ⟨hk, ⟨L, _, hf, hn, e, hd⟩, ih (fun b hb => hs b (by unfold frs; rw [List.filterMap_cons, hf]; exact List.mem_cons_of_mem _ hb)) hr⟩
  exact all X.outer (fun _ hb => hb) I.ok.funs

/-- the frames that run, for a call -/
theorem Inv.stack (I : Inv X pins σ H s) : s.heap.FunFrames X.base X.stack := by
  rcases I.ok.stk with e | ⟨e, hf⟩
  · rw [e]; exact I.funs
  · rw [e]
    obtain ⟨m, hn, _⟩ := I.loc
    refine .cons (by rw [I.ok.kind]; decide) hf hn ?_ I.funs
    exact Heap.get?_none_of_le (Nat.le_trans I.ok.bsz I.ok.above)
theorem Inv.stkSub (I : Inv X pins σ H s) : ∀ b ∈ frs X.stack, b ∈ X.env.locals :: X.fs := fun b hb => by
  rcases I.ok.stk with e | ⟨e, hf⟩
  · rw [e] at hb; exact List.mem_cons_of_mem _ hb
  · rw [e] at hb
    unfold frs at hb
    rw [List.filterMap_cons, hf] at hb
    exact hb
theorem Inv.stkFree (I : Inv X pins σ H s) : ∀ b ∈ frs X.stack, H b = none := fun b hb => by
  rcases List.mem_cons.mp (I.stkSub b hb) with e | hb
  · rw [e]; exact I.free
  · obtain ⟨_, o, ho, _⟩ := I.ok.funs.mem hb
    exact I.base.free b o ho (I.ok.frf b hb) fun z => I.ok.exfs b z hb

/-- THE STEP: the untracked objects but the frame and the records at ch are kept (the callers' frames up to slots), the frame's map is kept, the new abstract heap is held -/
theorem Inv.step {g' : Array GenState} {t' : Nat} {d' : Drawn} {ch : List Addr} (I : Inv X pins σ H s)
    (hch : ∀ b ∈ ch, (b ∈ X.ex ∨ X.s₀.heap.objs.size ≤ b) ∧ b ≠ X.env.locals ∧ (∀ x c, X.env.cells.lookup x = some c → c ≠ b) ∧ ∀ p ∈ X.pn ++ pins, p.1 ≠ b)
    (keep : ∀ b o, b ≠ X.env.locals → b ∉ X.fs → b ∉ ch → s.heap.get? b = some o → H b = none → h'.get? b = some o)
    (slot : ∀ b o, b ≠ X.env.locals → b ∈ X.fs → b ∉ ch → s.heap.get? b = some o → H b = none → ∃ sl, h'.get? b = some { o with slots := sl }) (free : ∀ b o, b ∉ ch → s.heap.get? b = some o → H b = none → H' b = none)
    (there : ∀ b o, b ∉ ch → s.heap.get? b = some o → ∃ o', h'.get? b = some o')
    (tups : ∀ b xs, H b = some (.tup xs) → H' b = some (.tup xs)) (frzs : ∀ b o u, H b = some (.frz o u) → H' b = some (.frz o u)) (tbls : ∀ b ps, H b = some (.tbl ps) → ∃ more, H' b = some (.tbl (ps ++ more)))
    (ns : ∀ m, s.heap.Ns X.env.locals m → h'.Ns X.env.locals m) (hok : HOk X.prog X.w H' h') (hg : AllBare g') :
    Inv X pins σ H' { s with heap := h', gens := g', drawn := d', toks := t' } := by
  have neL : ∀ b o, X.s₀.heap.get? b = some o → b ≠ X.env.locals := fun b o e => Nat.ne_of_lt (Nat.lt_of_lt_of_le (Heap.lt_size e) I.ok.above)
  have neC : ∀ b o, X.s₀.heap.get? b = some o → b ∉ X.ex → b ∉ ch := fun b o e hx hb => by
    rcases (hch b hb).1 with z | z
    · exact hx z
    · exact absurd (Nat.lt_of_lt_of_le (Heap.lt_size e) z) (Nat.lt_irrefl _)
  have cellK : ∀ x c, X.env.cells.lookup x = some c → ∀ v, s.heap.IsCell c v → h'.IsCell c v := fun x c e v ⟨o, ho, hd⟩ => by
    have nch : c ∉ ch := fun z => (hch c z).2.2.1 x c e rfl
    by_cases hc : c ∈ X.fs
    · obtain ⟨sl, q⟩ := slot c o (I.cne x c e) hc nch ho (I.freeC x c e)
      exact ⟨_, q, hd⟩
    · exact ⟨o, keep c o (I.cne x c e) hc nch ho (I.freeC x c e), hd⟩
  refine ⟨I.ok, I.os, hg, ⟨fun b o e n hb hx => ?_, fun b o e n hb hx => ?_, fun b o e n hx => ?_, fun b o e hx => ?_, fun b xs e => tups b xs (I.base.tups b xs e), fun b o xs e => frzs b o xs (I.base.frzs b o xs e), fun b ps e => ?_⟩, ?_, fun x c e => ?_, ?_, fun x c e => ?_, fun p hp => ?_, hok, I.len⟩
  · exact keep b o (neL b o e) hb (neC b o e hx) (I.base.keep b o e n hb hx) (I.base.free b o e n hx)
  · obtain ⟨sl, e1⟩ := I.base.slot b o e n hb hx
    obtain ⟨sl', e2⟩ := slot b _ (neL b o e) hb (neC b o e hx) e1 (I.base.free b o e n hx)
    exact ⟨sl', e2⟩
  · obtain ⟨o', e1⟩ := I.base.there b o e hx
    exact free b o' (neC b o e hx) e1 (I.base.free b o e n hx)
  · obtain ⟨o', e1⟩ := I.base.there b o e hx
    exact there b o' (neC b o e hx) e1
  · obtain ⟨m1, e1⟩ := I.base.tbls b ps e
    obtain ⟨m2, e2⟩ := tbls b _ e1
    exact ⟨m1 ++ m2, by rw [e2, Array.append_assoc]⟩
  · obtain ⟨m, hn, hl⟩ := I.loc
    refine ⟨m, ns m hn, fun i x v e1 e2 e3 => ?_⟩
    obtain ⟨u, r, l⟩ := hl i x v e1 e2 e3
    refine ⟨u, r, ?_⟩
    rcases l with l | ⟨k, c, e, z⟩
    · exact .inl l
    · exact .inr ⟨k, c, e, cellK x c e _ z⟩
  · obtain ⟨v, z⟩ := I.cell x c e
    exact ⟨v, cellK x c e v z⟩
  · obtain ⟨m, ⟨o, _, _, ho, _⟩, _⟩ := I.loc
    exact free _ o (fun z => (hch _ z).2.1 rfl) ho I.free
  · obtain ⟨v, o, ho, hd⟩ := I.cell x c e
    exact free c o (fun z => (hch c z).2.2.1 x c e rfl) ho (I.freeC x c e)
  · obtain ⟨e, n, ne, nf, d⟩ := I.pin p hp
    have nch : p.1 ∉ ch := fun z => (hch p.1 z).2.2.2 p hp rfl
    exact ⟨keep p.1 p.2 ne nf nch e n, free p.1 p.2 nch e n, ne, nf, d⟩
/-- .. where the frame's own object is kept too -/
theorem Inv.un {t' : Nat} (I : Inv X pins σ H s) (u : Un X.fs [] H H' s.heap h') (hok : HOk X.prog X.w H' h') : Inv X pins σ H' { s with heap := h', toks := t' } := by
  obtain ⟨m, ⟨o, es, ep, ho, r⟩, _⟩ := id I.loc
  obtain ⟨sl, hL⟩ := u.any ho I.free (by simp)
  exact I.step (g' := s.gens) (d' := s.drawn) (ch := []) (fun _ z => nomatch z) (fun b o _ hb _ e n => u.keep b o e n hb (by simp)) (fun b o _ hb _ e n => u.slot b o e n hb (by simp)) (fun b o _ e n => u.free b o e n (by simp)) (fun b o _ e => u.there b o e (by simp)) u.tups u.frzs u.tbls (fun m' hm => by
    obtain ⟨o', es', ep', ho', r'⟩ := hm
    rw [ho] at ho'; cases ho'
    exact ⟨_, es', ep', hL, r'⟩) hok I.bare
/-- behind a call (or a comprehension's block): the slots of this frame may have changed too, the records at ch may have turned -/
theorem Inv.call {g' : Array GenState} {t' : Nat} {d' : Drawn} {ch : List Addr} (I : Inv X pins σ H s) (u : Un (frs X.stack) ch H H' s.heap h') (hok : HOk X.prog X.w H' h') (hg : AllBare g')
    (hch : ∀ b ∈ ch, (b ∈ X.ex ∨ X.s₀.heap.objs.size ≤ b) ∧ b ≠ X.env.locals ∧ (∀ x c, X.env.cells.lookup x = some c → c ≠ b) ∧ ∀ p ∈ X.pn ++ pins, p.1 ≠ b) :
    Inv X pins σ H' { s with heap := h', gens := g', drawn := d', toks := t' } := by
  obtain ⟨m, ⟨o, es, ep, ho, r⟩, _⟩ := id I.loc
  obtain ⟨sl, hL⟩ := u.any ho I.free fun z => (hch _ z).2.1 rfl
  exact I.step (ch := ch) hch (fun b o hL hb hc e n => u.keep b o e n (fun z => (List.mem_cons.mp (I.stkSub b z)).elim hL hb) hc) (fun b o _ _ hc e n => u.any e n hc) (fun b o hc e n => u.free b o e n hc) (fun b o hc e => u.there b o e hc) u.tups u.frzs u.tbls (fun m' hm => by
    obtain ⟨o', es', ep', ho', r'⟩ := hm
    rw [ho] at ho'; cases ho'
    exact ⟨_, es', ep', hL, r'⟩) hok hg
/-- an untracked record of ours (an iterator) has turned -/
theorem Inv.turned {t' : Nat} {it : Addr} (I : Inv X pins σ H s) (k : ∀ b o, b ≠ it → s.heap.get? b = some o → h'.get? b = some o) (hn : H it = none) (hL : it ≠ X.env.locals)
    (h1 : it ∈ X.ex ∨ X.s₀.heap.objs.size ≤ it) (h2 : ∀ x c, X.env.cells.lookup x = some c → c ≠ it) (h3 : ∀ p ∈ X.pn ++ pins, p.1 ≠ it) : Inv X pins σ H { s with heap := h', toks := t' } := by
  have nit : ∀ b u, H b = some u → b ≠ it := fun b u e z => by rw [z, hn] at e; cases e
  refine I.step (g' := s.gens) (d' := s.drawn) (ch := [it]) (fun b hb => ?_) (fun b o _ _ hc e _ => k b o (fun z => hc (by simp [z])) e) (fun b o _ _ hc e _ => ⟨o.slots, k b o (fun z => hc (by simp [z])) e⟩) (fun _ _ _ _ n => n)
    (fun b o hc e => ⟨o, k b o (fun z => hc (by simp [z])) e⟩) (fun _ _ e => e) (fun _ _ _ e => e) (fun b ps e => ⟨#[], by rw [e]; simp⟩) (fun m hm => ?_) (fun b u e => ?_) I.bare
  · have e : b = it := by simpa using hb
    subst e
    exact ⟨h1, hL, h2, h3⟩
  · obtain ⟨o, es, ep, ho, r⟩ := hm
    exact ⟨o, es, ep, k _ o (Ne.symm hL) ho, r⟩
  · refine (I.hok b u e).stay (fun c v hc q => k c v ?_ q) (fun _ q => q) fun _ _ q => q
    rcases hc with z | z
    · rw [z]; exact nit b u e
    · exact nit c _ z
theorem Inv.tok (I : Inv X pins σ H s) (t : Nat) : Inv X pins σ H { s with toks := t } := I.un (h' := s.heap) (t' := t) Un.refl I.hok
/-- all objects kept -/
theorem Inv.kept {t' : Nat} (I : Inv X pins σ H s) (k : ∀ b u, s.heap.get? b = some u → h'.get? b = some u) : Inv X pins σ H { s with heap := h', toks := t' } := I.un (Un.kept k) (I.hok.kept k)
/-- a new object laid and tracked -/
theorem Inv.laid {a : Addr} {o : HO} {t' : Nat} (I : Inv X pins σ H s) (k : ∀ b u, s.heap.get? b = some u → h'.get? b = some u) (hp : s.heap.objs.size ≤ a) (new : ObjOk X.prog X.w (upd H a o) h' a o) :
    Inv X pins σ (upd H a o) { s with heap := h', toks := t' } := I.un (Un.laid k hp (I.hok.fresh hp)) (I.hok.laid k hp new)
/-- an object written -/
theorem Inv.write {x e : Addr} {o : HO} {t' : Nat} (I : Inv X pins σ H s) (mu : Mut (H x)) (he : e = x ∨ H e = some (.own x)) (k : ∀ b u, b ≠ e → s.heap.get? b = some u → h'.get? b = some u) (heo : ∃ u, h'.get? e = some u)
    (new : ObjOk X.prog X.w (upd H x o) h' x o) : Inv X pins σ (upd H x o) { s with heap := h', toks := t' } := I.un (Un.write mu he k heo) (I.hok.write mu he k heo new)
theorem Inv.pins_of {pins' : List (Addr × Obj)} (I : Inv X pins σ H s) (h : ∀ p ∈ pins', s.heap.get? p.1 = some p.2 ∧ H p.1 = none ∧ p.1 ≠ X.env.locals ∧ p.1 ∉ X.fs ∧ ∀ v, p.2.data ≠ .cell v) : Inv X pins' σ H s :=
  ⟨I.ok, I.os, I.bare, I.base, I.loc, I.cell, I.free, I.freeC, fun p hp => (List.mem_append.mp hp).elim (fun z => I.pin p (List.mem_append_left _ z)) (h p), I.hok, I.len⟩

theorem nodup_ix {N : List Str} (hN : N.Nodup) {i j : Nat} {x : Str} (a : N[i]? = some x) (b : N[j]? = some x) : i = j := by
  obtain ⟨h1, e1⟩ := List.getElem?_eq_some_iff.mp a
  obtain ⟨h2, e2⟩ := List.getElem?_eq_some_iff.mp b
  exact (List.getElem_inj hN).mp (e1.trans e2.symm)

/-- a name is stored; what changed -/
theorem store_ok2 {M : Model} {A : Around} {E : Value → Shared → Prop} {i : Nat} {x : Str} {v : V} {u : Value} {Q : Unit → Shared → Prop} (I : Inv X pins σ H s) (hN : X.N.Nodup) (hi : X.N[i]? = some x) (hx : Loc X.env.scope x) (r : RelV v u)
    (h : ∀ s', Inv X pins (σ.set i (some v)) H s' → (∃ a, Heap.SameBut a s.heap s'.heap ∧ (a = X.env.locals ∨ X.env.cells.lookup x = some a)) → Q () s') (hf : X.fn x = true ∨ X.env.scope.names.lookup x = some .local := by first | exact .inl rfl | exact .inr rfl | assumption) : wpAny M A (storeName X.env x u) Q E s := by
  obtain ⟨m, hn, hl⟩ := id I.loc
  have hcls : (X.env.scope.kind == .class || (X.env.scope.kind == .module && X.env.locals != X.env.globals)) = false := by rw [I.ok.kind]; rfl
  have hiσ : i < σ.length := by rw [I.len]; exact (List.getElem?_eq_some_iff.mp hi).1
  have cne := I.cne
  have tracked : ∀ {a : Addr} {h' : Heap}, (∃ o, s.heap.get? a = some o ∧ H a = none) → Heap.SameBut a s.heap h' → HOk X.prog X.w H h' := fun {a h'} ha hs b ob e => by
    obtain ⟨_, _, hfree⟩ := ha
    refine (I.hok b ob e).stay (fun c w' hc q => (hs.2 c ?_).trans q) (fun _ q => q) fun _ _ q => q
    rintro rfl
    rcases hc with rfl | hc
    · rw [hfree] at e; cases e
    · rw [hfree] at hc; cases hc
  rcases hx with hk | hk
  · refine wpAny_storeName_local hk hn (fun h' hn' hs => ?_) hcls
    obtain ⟨oL, _, _, hoL, _⟩ := id hn
    refine h _ ⟨I.ok, I.os, I.bare, ⟨fun b o e n hb hx => ?_, fun b o e n hb hx => ?_, I.base.free, fun b o e hx => ?_, I.base.tups, I.base.frzs, I.base.tbls⟩, ⟨_, hn', fun j y v' e1 e2 e3 => ?_⟩, fun y c e => ?_, I.free, I.freeC, fun p hp => ?_, tracked ⟨oL, hoL, I.free⟩ hs, by simpa using I.len⟩ ⟨_, hs, .inl rfl⟩
    · exact (hs.2 b (Nat.ne_of_lt (Nat.lt_of_lt_of_le (Heap.lt_size e) I.ok.above))).trans (I.base.keep b o e n hb hx)
    · obtain ⟨sl, e1⟩ := I.base.slot b o e n hb hx
      exact ⟨sl, (hs.2 b (Nat.ne_of_lt (Nat.lt_of_lt_of_le (Heap.lt_size e) I.ok.above))).trans e1⟩
    · obtain ⟨o', e1⟩ := I.base.there b o e hx
      exact ⟨o', (hs.2 b (Nat.ne_of_lt (Nat.lt_of_lt_of_le (Heap.lt_size e) I.ok.above))).trans e1⟩
    · by_cases hj : j = i
      · subst hj
        rw [hi] at e1; cases e1
        rw [List.getElem?_set_self hiσ] at e2
        cases e2
        exact ⟨u, r, .inl ⟨hk, by simp⟩⟩
      · rw [List.getElem?_set_ne (Ne.symm hj)] at e2
        obtain ⟨u', r', q⟩ := hl j y v' e1 e2 e3
        refine ⟨u', r', ?_⟩
        rcases q with ⟨k, e⟩ | ⟨k, c, e, z⟩
        · refine .inl ⟨k, ?_⟩
          have : y ≠ x := fun e => hj (nodup_ix hN e1 (e ▸ hi))
          simp [this, e]
        · exact .inr ⟨k, c, e, z.sameBut hs (cne y c e)⟩
    · obtain ⟨w', z⟩ := I.cell y c e
      exact ⟨w', z.sameBut hs (cne y c e)⟩
    · obtain ⟨e, n, ne, nf, d⟩ := I.pin p hp
      exact ⟨(hs.2 p.1 ne).trans e, n, ne, nf, d⟩
  · have hfn : X.fn x = true := by
      rcases hf with z | z
      · exact z
      · rw [z] at hk; cases hk
    obtain ⟨c, hc⟩ := I.ok.has x (.inl hk)
    obtain ⟨w', z⟩ := I.cell x c hc
    refine wpAny_storeName_cell I.ok.kind hk hc z (fun h' hc' hs => ?_)
    obtain ⟨oc, hoc, hocd⟩ := id z
    refine h { s with heap := h' } ⟨I.ok, I.os, I.bare, ⟨fun b o e n hb hx => ?_, fun b o e n hb hx => ?_, I.base.free, fun b o e hx => ?_, I.base.tups, I.base.frzs, I.base.tbls⟩, ⟨m, hn.sameBut hs (Ne.symm (cne x c hc)), fun j y v' e1 e2 e3 => ?_⟩, fun y c' e => ?_, I.free, I.freeC, fun p hp => ?_, tracked ⟨oc, hoc, I.freeC x c hc⟩ hs, by simpa using I.len⟩ ⟨c, hs, .inr hc⟩
    · exact (hs.2 b (Nat.ne_of_lt (Nat.lt_of_lt_of_le (Heap.lt_size e) (I.ok.cab x c hfn hc)))).trans (I.base.keep b o e n hb hx)
    · obtain ⟨sl, e1⟩ := I.base.slot b o e n hb hx
      exact ⟨sl, (hs.2 b (Nat.ne_of_lt (Nat.lt_of_lt_of_le (Heap.lt_size e) (I.ok.cab x c hfn hc)))).trans e1⟩
    · obtain ⟨o', e1⟩ := I.base.there b o e hx
      exact ⟨o', (hs.2 b (Nat.ne_of_lt (Nat.lt_of_lt_of_le (Heap.lt_size e) (I.ok.cab x c hfn hc)))).trans e1⟩
    · by_cases hj : j = i
      · subst hj
        rw [hi] at e1; cases e1
        rw [List.getElem?_set_self hiσ] at e2
        cases e2
        exact ⟨u, r, .inr ⟨.inl hk, c, hc, hc'⟩⟩
      · rw [List.getElem?_set_ne (Ne.symm hj)] at e2
        obtain ⟨u', r', q⟩ := hl j y v' e1 e2 e3
        refine ⟨u', r', ?_⟩
        rcases q with q | ⟨k, c', e, z'⟩
        · exact .inl q
        · refine .inr ⟨k, c', e, z'.sameBut hs ?_⟩
          rintro rfl
          exact hj (nodup_ix hN e1 (I.ok.inj _ _ _ e hc ▸ hi))
    · by_cases hcc : c' = c
      · subst hcc; exact ⟨_, hc'⟩
      · obtain ⟨w2, z2⟩ := I.cell y c' e
        exact ⟨w2, z2.sameBut hs hcc⟩
    · obtain ⟨e, n, ne, nf, d⟩ := I.pin p hp
      refine ⟨(hs.2 p.1 ?_).trans e, n, ne, nf, d⟩
      intro q
      rw [q, hoc] at e
      have q' : oc = p.2 := Option.some.inj e
      exact d w' (by rw [← q']; exact hocd)
theorem store_ok {M : Model} {A : Around} {E : Value → Shared → Prop} {i : Nat} {x : Str} {v : V} {u : Value} {Q : Unit → Shared → Prop} (I : Inv X pins σ H s) (hN : X.N.Nodup) (hi : X.N[i]? = some x) (hx : Loc X.env.scope x) (r : RelV v u)
    (h : ∀ s', Inv X pins (σ.set i (some v)) H s' → Q () s') (hf : X.fn x = true ∨ X.env.scope.names.lookup x = some .local := by first | exact .inl rfl | exact .inr rfl | assumption) : wpAny M A (storeName X.env x u) Q E s :=
  store_ok2 I hN hi hx r (fun s' I' _ => h s' I') hf
end

/-! ### the judgements -/
/-- an exception: its class, its own dict's address (where it has one), the abstract heap behind it -/
abbrev XK := Value → Option Addr → Hp → Prop
abbrev St := List (Option V)
abbrev VK := V → Hp → Prop
/-- an expression's reading; a test's; an argument list's -/
abbrev TE := St → Hp → VK → Prop
abbrev TT := St → Hp → (Bool → Hp → Prop) → Prop
abbrev TA := St → Hp → (List V → Hp → Prop) → Prop
/-- what is wanted behind a statement -/
structure Ends where
  nx : St → Hp → Prop
  rt : VK
  bk : St → Hp → Prop := fun _ _ => False
  ct : St → Hp → Prop := fun _ _ => False
abbrev TS := Ends → St → Hp → Prop

def EP (X : Cx) (pins : List (Addr × Obj)) (σ : St) (Q : VK) (u : Value) (s' : Shared) : Prop := ∃ v H', Inv X pins σ H' s' ∧ RelV v u ∧ Q v H'
def TP (X : Cx) (pins : List (Addr × Obj)) (σ : St) (Q : Bool → Hp → Prop) (b : Bool) (s' : Shared) : Prop := ∃ H', Inv X pins σ H' s' ∧ Q b H'
def AP (X : Cx) (pins : List (Addr × Obj)) (σ : St) (Q : List V → Hp → Prop) (us : List Value) (s' : Shared) : Prop := ∃ vs H', Inv X pins σ H' s' ∧ Vals vs us ∧ Q vs H'
def SP (X : Cx) (pins : List (Addr × Obj)) (D : Ends) (f : Flow) (s' : Shared) : Prop :=
  match f with
  | .next => ∃ σ' H', Inv X pins σ' H' s' ∧ D.nx σ' H'
  | .brk => ∃ σ' H', Inv X pins σ' H' s' ∧ D.bk σ' H'
  | .cont => ∃ σ' H', Inv X pins σ' H' s' ∧ D.ct σ' H'
  | .ret u => ∃ v σ' H', Inv X pins σ' H' s' ∧ RelV v u ∧ D.rt v H'

def PE (X : Cx) (e : Expr) (t : TE) : Prop :=
  ∀ (pins : List (Addr × Obj)) (s : Shared) (σ : St) (H : Hp) (Q : VK), Inv X pins σ H s → t σ H Q → wpAny (model X.prog X.w) X.A (eval e X.env) (EP X pins σ Q) X.xe s
def PT (X : Cx) (e : Expr) (t : TT) : Prop :=
  ∀ (pins : List (Addr × Obj)) (s : Shared) (σ : St) (H : Hp) (Q : Bool → Hp → Prop), Inv X pins σ H s → t σ H Q → wpAny (model X.prog X.w) X.A (isTrue e X.env (eval e X.env)) (TP X pins σ Q) X.xe s
/-- a test whatever its 'whole' is (and, or) -/
def PW (X : Cx) (e : Expr) (t : TT) : Prop :=
  ∀ (whole : Sem Value) (pins : List (Addr × Obj)) (s : Shared) (σ : St) (H : Hp) (Q : Bool → Hp → Prop), Inv X pins σ H s → t σ H Q → wpAny (model X.prog X.w) X.A (isTrue e X.env whole) (TP X pins σ Q) X.xe s
theorem PW.pt {X : Cx} {e : Expr} {t : TT} (h : PW X e t) : PT X e t := h _
/-- an argument list (no star), from the left -/
def PA (X : Cx) (es : List Expr) (t : TA) : Prop :=
  ∀ (pos : Pos) (pins : List (Addr × Obj)) (s : Shared) (σ : St) (H : Hp) (Q : List V → Hp → Prop), Inv X pins σ H s → t σ H Q → wpAny (model X.prog X.w) X.A (spliced (backTo pos (starEach es X.env))) (AP X pins σ Q) X.xe s
def PS (X : Cx) (st : Stmt) (t : TS) : Prop :=
  ∀ (pins : List (Addr × Obj)) (s : Shared) (σ : St) (H : Hp) (D : Ends), Inv X pins σ H s → t D σ H → wpAny (model X.prog X.w) X.A (exec st X.env) (SP X pins D) X.xe s
def PSs (X : Cx) (st : List Stmt) (t : TS) : Prop :=
  ∀ (pins : List (Addr × Obj)) (s : Shared) (σ : St) (H : Hp) (D : Ends), Inv X pins σ H s → t D σ H → wpAny (model X.prog X.w) X.A (execs st X.env) (SP X pins D) X.xe s
/-- weaken the end -/
theorem thn {α : Type} {t : Sem α} {Q Q' : α → Shared → Prop} {M : Model} {A : Around} {E : Value → Shared → Prop} {s : Shared} (h : wpAny M A t Q E s) (hQ : ∀ a s, Q a s → Q' a s) : wpAny M A t Q' E s := wpAny_mono h hQ fun _ _ x => x
end L2

namespace L2
open PySem PySem.Spec PyProof.Rows
section
variable {X : Cx}

/-- two expressions in a row -/
theorem bin {a b : Expr} {ta tb : TE} (ha : PE X a ta) (hb : PE X b tb) {pins : List (Addr × Obj)} {s : Shared} {σ : St} {H : Hp} {R : V → V → Hp → Prop} (I : Inv X pins σ H s) (h : ta σ H fun x H1 => tb σ H1 fun y H2 => R x y H2)
    {α : Type} {Q : α → Shared → Prop} {f : Value → Value → Sem α}
    (hf : ∀ v u s2 x y H2, Inv X pins σ H2 s2 → RelV x v → RelV y u → R x y H2 → wpAny (model X.prog X.w) X.A (f v u) Q X.xe s2) :
    wpAny (model X.prog X.w) X.A (eval a X.env) (fun v s₁ => wpAny (model X.prog X.w) X.A (eval b X.env) (fun u s₂ => wpAny (model X.prog X.w) X.A (f v u) Q X.xe s₂) X.xe s₁) X.xe s := by
  refine thn (ha pins s σ H _ I h) fun v s1 ⟨x, H1, I1, r1, q1⟩ => ?_
  refine thn (hb pins s1 σ H1 _ I1 q1) fun u s2 ⟨y, H2, I2, r2, q2⟩ => ?_
  exact hf v u s2 x y H2 I2 r1 r2 q2

/-! ### names and constants -/
def tVar (i : Nat) : TE := fun σ H Q => ∃ v, σ[i]? = some (some v) ∧ Q v H
def tC (v : V) : TE := fun _ H Q => Q v H
theorem pe_var {i : Nat} {x : Str} {pos : Pos} (hN : X.N[i]? = some x) (hv : Vis X.env.scope x) (hd : (x == ("__debug__" : Str)) = false := by decide) (hcd : (x == ("__classdict__" : Str)) = false := by decide) : PE X (.Name x pos) (tVar i) := by
  intro pins s σ H Q I h
  obtain ⟨v, e, h⟩ := h
  obtain ⟨m, hn, hl⟩ := I.loc
  obtain ⟨u, r, l⟩ := hl i x v hN e hv
  have fin : EP X pins σ Q u s := ⟨v, H, I, r, h⟩
  rcases l with ⟨hk, hm⟩ | ⟨hk, c, hc, hcell⟩
  · exact wpAny_Name (wpAny_loadName_local I.ok.kind hk hn hm fin) hd
  · rcases hk with hk | hk
    · exact wpAny_Name (wpAny_loadName_cell I.ok.kind hk hc hcell fin) hd
    · exact wpAny_Name (wpAny_loadName_free I.ok.kind hk hc hcell fin hcd) hd
theorem pe_int {i j pos} : PE X (.Constant (.int i) j pos) (tC (.int i)) := fun _ _ _ H _ I h => wpAny_Constant_int ⟨.int i, H, I.tok _, ⟨_, rfl⟩, h⟩
theorem pe_bl {b j pos} : PE X (.Constant (.bool b) j pos) (tC (.bl b)) := fun _ _ _ H _ I h => Constant_bool ⟨.bl b, H, I, rfl, h⟩
theorem pe_non {j pos} : PE X (.Constant .none j pos) (tC .non) := fun _ _ _ H _ I h => Constant_none ⟨.non, H, I, rfl, h⟩
/-- a global name of the def -/
def Gl (X : Cx) (x : Str) : Prop := X.env.kindOf x = some .globalImplicit
theorem ld_glob {E : Value → Shared → Prop} {pins : List (Addr × Obj)} {s : Shared} {σ : St} {H : Hp} {x : Str} {u : Value} {pos : Pos} {Q : Value → Shared → Prop} (I : Inv X pins σ H s) (hg : Gl X x) (hm : X.mg x = some u) (h : Q u s)
    (hd : (x == ("__debug__" : Str)) = false := by decide) : wpAny (model X.prog X.w) X.A (eval (.Name x pos) X.env) Q E s :=
  Calls.Name_function_global I.ok.kind hg (Calls.loadGlobal_global (by rw [I.ok.glob]; exact I.mod.glob.keeps I.bk) hm h) hd
theorem ld_blt {E : Value → Shared → Prop} {pins : List (Addr × Obj)} {s : Shared} {σ : St} {H : Hp} {x : Str} {u : Value} {pos : Pos} {Q : Value → Shared → Prop} (I : Inv X pins σ H s) (hg : Gl X x) (hm : X.mg x = none) (hv : bootBuiltins x = some u) (h : Q u s)
    (hn : x ≠ "__name__" := by decide) (hd : (x == ("__debug__" : Str)) = false := by decide) : wpAny (model X.prog X.w) X.A (eval (.Name x pos) X.env) Q E s := by
  obtain ⟨mb, h1, h2⟩ := I.mod.blt
  exact Calls.Name_function_global I.ok.kind hg (Calls.loadGlobal_builtin (by rw [I.ok.glob]; exact I.mod.glob.keeps I.bk) hm (by rw [I.ok.blt]; exact h1.keeps I.bk) ((h2 x hn).trans hv) h) hd
theorem pe_bltn {x : Str} {v : V} {u : Value} {pos : Pos} (hg : Gl X x) (hm : X.mg x = none) (hv : bootBuiltins x = some u) (r : RelV v u) (hn : x ≠ "__name__" := by decide) (hd : (x == ("__debug__" : Str)) = false := by decide) : PE X (.Name x pos) (tC v) :=
  fun _ _ _ H _ I h => ld_blt I hg hm hv ⟨v, H, I, r, h⟩ hn hd

/-! ### arithmetic -/
/-- two ints -/
def t2I (ta tb : TE) (k : Int → Int → Hp → Prop) : St → Hp → Prop := fun σ H => ta σ H fun x H1 => tb σ H1 fun y H2 => ∃ i j, x = .int i ∧ y = .int j ∧ k i j H2
def tAdd (ta tb : TE) : TE := fun σ H Q => t2I ta tb (fun i j H2 => Q (.int (i + j)) H2) σ H
def tSub (ta tb : TE) : TE := fun σ H Q => t2I ta tb (fun i j H2 => Q (.int (i - j)) H2) σ H
/-- the left factor below 2^64 -/
def tMul (ta tb : TE) : TE := fun σ H Q => t2I ta tb (fun i j H2 => (-(2 ^ 64) < i ∧ i < 2 ^ 64) ∧ Q (.int (i * j)) H2) σ H
variable {a b : Expr} {ta tb : TE} {pos : Pos}
/-! ### comparisons -/
def PC (X : Cx) (op : CmpOp) (a b : Expr) (t : TE) : Prop :=
  ∀ (pins : List (Addr × Obj)) (s : Shared) (σ : St) (H : Hp) (Q : VK), Inv X pins σ H s → t σ H Q →
    wpAny (model X.prog X.w) X.A (eval a X.env) (fun v s₁ => wpAny (model X.prog X.w) X.A (eval b X.env) (fun u s₂ => wpAny (model X.prog X.w) X.A (compareOp op v u) (EP X pins σ Q) X.xe s₂) X.xe s₁) X.xe s
def tCmp (p : Int → Int → Bool) (ta tb : TE) : TE := fun σ H Q => t2I ta tb (fun i j H2 => Q (.bl (p i j)) H2) σ H
abbrev tLt : TE → TE → TE := tCmp fun i j => decide (i < j)
abbrev tLe : TE → TE → TE := tCmp fun i j => decide (i ≤ j)
abbrev tGt : TE → TE → TE := tCmp fun i j => decide (j < i)
abbrev tGe : TE → TE → TE := tCmp fun i j => decide (j ≤ i)
abbrev tEqI : TE → TE → TE := tCmp fun i j => decide (i = j)
abbrev tNeI : TE → TE → TE := tCmp fun i j => !decide (i = j)
/-- is None -/
def tIsN (ta : TE) : TE := fun σ H Q => ta σ H fun x H1 => Q (.bl (decide (x = .non))) H1
def tNotN (ta : TE) : TE := fun σ H Q => ta σ H fun x H1 => Q (.bl (!decide (x = .non))) H1
/-- a comparison as a value, as a test -/
def tB (t : TE) : TT := fun σ H Q => t σ H fun x H1 => ∃ c, x = .bl c ∧ Q c H1
theorem pt_cmp {op : CmpOp} {t : TE} (h : PC X op a b t) (h1 : behindInMarks op b = false := by first | exact nobehind _ (by decide) (by decide) | rfl) : PT X (.Compare a [op] [b] pos) (tB t) := by
  intro pins s σ H Q I hw
  refine wpAny_isTrue_Compare1 (thn (h pins s σ H _ I hw) fun v s1 h1 => thn h1 fun u s2 h2 => thn h2 fun c s3 ⟨x, H1, I1, r1, q1⟩ => ?_) h1
  obtain ⟨d, rfl, q⟩ := q1
  cases r1
  exact wpAny_truthy_bool ⟨H1, I1, q⟩
/-- an expression whose value is a bool, as a test -/
theorem pt_val {e : Expr} {t : TE} (h : PE X e t) (he : ∀ whole, isTrue e X.env whole = (do let v ← whole; standAt e.pos; holding [v] (truthy v)) := by intro _; rfl) : PT X e (tB t) := by
  intro pins s σ H Q I hw
  refine isTrue_plain (thn (h pins s σ H _ I hw) fun v s1 ⟨x, H1, I1, r1, q1⟩ => ?_) (he _)
  obtain ⟨d, rfl, q⟩ := q1
  cases r1
  exact wpAny_truthy_bool ⟨H1, I1, q⟩

/-! ### and, or, not -/
variable {tA tB' : TT} {rest : List Expr}
def tAnd (t u : TT) : TT := fun σ H Q => t σ H fun c H1 => if c = true then u σ H1 Q else Q false H1
def tOr (t u : TT) : TT := fun σ H Q => t σ H fun c H1 => if c = true then Q true H1 else u σ H1 Q
def tNot (t : TT) : TT := fun σ H Q => t σ H fun c H1 => Q (!c) H1
theorem pw_or1 (ha : PT X a tA) : PW X (.BoolOp .Or [a] pos) tA := by
  intro wh pins s σ H Q I h
  refine isTrue_or (thn (ha pins s σ H Q I h) fun c s1 e => ?_)
  cases c with
  | false => exact isTrue_or_nil e
  | true => exact e
theorem pw_or (ha : PT X a tA) (hb : PW X (.BoolOp .Or (b :: rest) pos) tB') : PW X (.BoolOp .Or (a :: b :: rest) pos) (tOr tA tB') := by
  intro wh pins s σ H Q I h
  refine isTrue_or (thn (ha pins s σ H _ I h) fun c s1 ⟨H1, I1, q1⟩ => ?_)
  cases c with
  | true => exact ⟨H1, I1, q1⟩
  | false => exact hb wh pins s1 σ H1 Q I1 q1
theorem pt_not (ha : PT X a tA) : PT X (.UnaryOp .Not a pos) (tNot tA) := by
  intro pins s σ H Q I h
  exact isTrue_not (ha pins s σ H (fun c H1 => Q (!c) H1) I h)
/-- .. as values (bools) -/
def tAndV (ta tb : TE) : TE := fun σ H Q => ta σ H fun x H1 => ∃ c, x = .bl c ∧ if c = true then tb σ H1 Q else Q (.bl false) H1
def tOrV (ta tb : TE) : TE := fun σ H Q => ta σ H fun x H1 => ∃ c, x = .bl c ∧ if c = true then Q (.bl true) H1 else tb σ H1 Q
def tNotV (ta : TE) : TE := fun σ H Q => ta σ H fun x H1 => ∃ c, x = .bl c ∧ Q (.bl (!c)) H1
theorem pe_one {op} {t : TE} (h : PE X a t) : PE X (.BoolOp op [a] pos) t := fun pins s σ H Q I hw => BoolOp_one (h pins s σ H Q I hw)
theorem pe_and (ha : PE X a ta) (hb : PE X (.BoolOp .And (b :: rest) pos) tb) : PE X (.BoolOp .And (a :: b :: rest) pos) (tAndV ta tb) := by
  intro pins s σ H Q I h
  refine BoolOp_and (thn (ha pins s σ H _ I h) fun v s1 ⟨x, H1, I1, r1, q1⟩ => ?_)
  obtain ⟨c, rfl, q1⟩ := q1
  cases r1
  refine wpAny_truthy_bool ?_
  cases c with
  | true => exact hb pins s1 σ H1 Q I1 q1
  | false => exact ⟨.bl false, H1, I1, rfl, q1⟩
theorem pe_or (ha : PE X a ta) (hb : PE X (.BoolOp .Or (b :: rest) pos) tb) : PE X (.BoolOp .Or (a :: b :: rest) pos) (tOrV ta tb) := by
  intro pins s σ H Q I h
  refine BoolOp_or (thn (ha pins s σ H _ I h) fun v s1 ⟨x, H1, I1, r1, q1⟩ => ?_)
  obtain ⟨c, rfl, q1⟩ := q1
  cases r1
  refine wpAny_truthy_bool ?_
  cases c with
  | false => exact hb pins s1 σ H1 Q I1 q1
  | true => exact ⟨.bl true, H1, I1, rfl, q1⟩
theorem pe_not (ha : PE X a ta) : PE X (.UnaryOp .Not a pos) (tNotV ta) := by
  intro pins s σ H Q I h
  refine UnaryOp_ (thn (ha pins s σ H _ I h) fun v s1 ⟨x, H1, I1, r1, q1⟩ => ?_)
  obtain ⟨c, rfl, q1⟩ := q1
  cases r1
  exact not_of (wpAny_truthy_bool ⟨.bl (!c), H1, I1, rfl, q1⟩)
/-- a if t else b -/
def tIf (t : TT) (ta tb : TE) : TE := fun σ H Q => t σ H fun c H1 => if c = true then ta σ H1 Q else tb σ H1 Q
theorem pe_ifExp {c : Expr} (hc : PT X c tA) (ha : PE X a ta) (hb : PE X b tb) : PE X (.IfExp c a b pos) (tIf tA ta tb) := by
  intro pins s σ H Q I h
  refine wpAny_IfExp (thn (hc pins s σ H _ I h) fun d s1 ⟨H1, I1, q1⟩ => ?_)
  cases d with
  | true => exact ha pins s1 σ H1 Q I1 q1
  | false => exact hb pins s1 σ H1 Q I1 q1
end
end L2

namespace L2
open PySem PySem.Spec PyProof.Rows

/-! ### a list, a tuple that is read: tracked, frozen, or an object of the module -/
def SqL (K : PySem.W.Frag) (H : Hp) (a : Addr) (xs : List V) : Prop :=
  Rd H a (.lst xs) ∨
    ∃ (o : Obj) (its : Array Value) (n : Nat), K.lookup a = some o ∧ o.cls = .type "list" ∧ o.dict = none ∧ o.data = .seq its n ∧ its.size ≤ sizeLine ∧ Vals xs its.toList
def SqT (K : PySem.W.Frag) (H : Hp) (a : Addr) (xs : List V) : Prop :=
  Rd H a (.tup xs) ∨
    ∃ (o : Obj) (its : Array Value) (n : Nat), K.lookup a = some o ∧ o.cls = .type "tuple" ∧ o.data = .seq its n ∧ its.size ≤ sizeLine ∧ Vals xs its.toList
def absV : Value → Option V
  | .none => some .non
  | .bool b => some (.bl b)
  | .int i _ => some (.int i)
  | .str x _ => some (.str x)
  | .bytes b _ => some (.byt b)
  | .float b _ => some (.flt b)
  | .ref a => some (.ref a)
  | .type n => some (.ty n)
  | _ => none
theorem RelV.abs {x : V} {u : Value} (r : RelV x u) : absV u = some x := by
  cases x with
  | non => cases r; rfl
  | bl _ => cases r; rfl
  | int _ => obtain ⟨t, rfl⟩ := r; rfl
  | str _ => obtain ⟨t, rfl⟩ := r; rfl
  | byt _ => obtain ⟨t, rfl⟩ := r; rfl
  | flt _ => obtain ⟨t, rfl⟩ := r; rfl
  | ref _ => cases r; rfl
  | ty _ => cases r; rfl
theorem RelV.inj {x y : V} {u : Value} (r : RelV x u) (q : RelV y u) : x = y := Option.some.inj (r.abs.symm.trans q.abs)
theorem Vals.inj : ∀ {xs ys : List V} {us : List Value}, Vals xs us → Vals ys us → xs = ys
  | _, _, _, .nil, .nil => rfl
  | _, _, _, .cons r t, .cons r' t' => by rw [r.inj r', Vals.inj t t']
section
variable {X : Cx} {pins : List (Addr × Obj)} {σ : St} {H : Hp} {s : Shared} {a : Addr} {xs ys : List V}
theorem SqL.of {K : PySem.W.Frag} (h : H a = some (.lst xs)) : SqL K H a xs := .inl (.inl h)
theorem SqT.of {K : PySem.W.Frag} (h : H a = some (.tup xs)) : SqT K H a xs := .inl (.inl h)
theorem Inv.list (I : Inv X pins σ H s) (h : SqL X.K H a xs) : ∃ its : List Value, Vals xs its ∧ PlainL s.heap a its.toArray ∧ xs.length ≤ sizeLine := by
  rcases h with h | ⟨o, its, n, hk, hc, hd, hs, hz, r⟩
  · obtain ⟨z, its, n, r, e⟩ := h.ok I.hok
    exact ⟨its, r, ⟨_, n, e, rfl, rfl, rfl⟩, z⟩
  · refine ⟨its.toList, r, ⟨o, n, I.kIn a o hk, hc, hd, by simpa using hs⟩, ?_⟩
    have e := r.length
    simp only [Array.length_toList] at e
    omega
theorem Inv.tuple (I : Inv X pins σ H s) (h : SqT X.K H a xs) : ∃ its : List Value, Vals xs its ∧ IsTup s.heap a its.toArray ∧ xs.length ≤ sizeLine := by
  rcases h with h | ⟨o, its, n, hk, hc, hs, hz, r⟩
  · obtain ⟨z, its, r, p⟩ := h.ok I.hok
    exact ⟨its, r, p, z⟩
  · refine ⟨its.toList, r, ⟨o, I.kIn a o hk, hc, n, by simpa using hs⟩, ?_⟩
    have e := r.length
    simp only [Array.length_toList] at e
    omega
theorem Inv.list_inj (I : Inv X pins σ H s) (h : SqL X.K H a xs) (h' : SqL X.K H a ys) : xs = ys := by
  obtain ⟨its, r, ⟨o, n, e, _, _, d⟩, _⟩ := I.list h
  obtain ⟨its', r', ⟨o', n', e', _, _, d'⟩, _⟩ := I.list h'
  rw [e] at e'; cases e'
  rw [d] at d'
  injection d' with d1 _
  have : its = its' := by simpa using congrArg Array.toList d1
  subst this
  exact r.inj r'
theorem Inv.tuple_inj (I : Inv X pins σ H s) (h : SqT X.K H a xs) (h' : SqT X.K H a ys) : xs = ys := by
  obtain ⟨its, r, ⟨o, e, _, n, d⟩, _⟩ := I.tuple h
  obtain ⟨its', r', ⟨o', e', _, n', d'⟩, _⟩ := I.tuple h'
  rw [e] at e'; cases e'
  rw [d] at d'
  injection d' with d1 _
  have : its = its' := by simpa using congrArg Array.toList d1
  subst this
  exact r.inj r'
end

/-! ### another wish about exceptions -/
abbrev Cx.wish (X : Cx) (E : Value → Shared → Prop) : Cx := { X with xe := E }
/-- no exception leaves -/
abbrev Cx.nox (X : Cx) : Cx := X.wish fun _ _ => False
theorem Cx.Ok.wish {X : Cx} (ok : X.Ok) (E : Value → Shared → Prop) : (X.wish E).Ok :=
  ⟨ok.mod, ok.kind, ok.glob, ok.blt, ok.above, ok.inj, ok.has, ok.cab, ok.hd, ok.frames, ok.stk, ok.exf, ok.bs, ok.bsz, ok.noex, ok.exfs, ok.funs, ok.frf⟩
theorem Cx.Ok.unwish {X : Cx} {E : Value → Shared → Prop} (ok : (X.wish E).Ok) : X.Ok :=
  ⟨ok.mod, ok.kind, ok.glob, ok.blt, ok.above, ok.inj, ok.has, ok.cab, ok.hd, ok.frames, ok.stk, ok.exf, ok.bs, ok.bsz, ok.noex, ok.exfs, ok.funs, ok.frf⟩
section
variable {X : Cx} {pins : List (Addr × Obj)} {σ : St} {H : Hp} {s : Shared} {E : Value → Shared → Prop}
theorem Inv.wish (I : Inv X pins σ H s) (E : Value → Shared → Prop) : Inv (X.wish E) pins σ H s := ⟨I.ok.wish E, I.os, I.bare, I.base, I.loc, I.cell, I.free, I.freeC, I.pin, I.hok, I.len⟩
theorem Inv.unwish (I : Inv (X.wish E) pins σ H s) : Inv X pins σ H s := ⟨I.ok.unwish, I.os, I.bare, I.base, I.loc, I.cell, I.free, I.freeC, I.pin, I.hok, I.len⟩
theorem SP.unwish {D : Ends} {f : Flow} {s' : Shared} (h : SP (X.wish E) pins D f s') : SP X pins D f s' := by
  cases f with
  | next => obtain ⟨σ', H', I, q⟩ := h; exact ⟨σ', H', I.unwish, q⟩
  | brk => obtain ⟨σ', H', I, q⟩ := h; exact ⟨σ', H', I.unwish, q⟩
  | cont => obtain ⟨σ', H', I, q⟩ := h; exact ⟨σ', H', I.unwish, q⟩
  | ret u => obtain ⟨v, σ', H', I, r, q⟩ := h; exact ⟨v, σ', H', I.unwish, r, q⟩
theorem PSs.nox {st : List Stmt} {t : TS} (h : PSs X.nox st t) : PSs X st t := fun pins s σ H D I hw =>
  wpAny_mono (h pins s σ H D (I.wish _) hw) (fun _ _ q => q.unwish) fun _ _ z => False.elim z
end

/-! ### blocks and small statements -/
section
variable {X : Cx} {st : Stmt} {rest : List Stmt} {t u : TS} {e : Expr} {te : TE} {pos : Pos}
def tNext : TS := fun D σ H => D.nx σ H
def tSeq (t u : TS) : TS := fun D σ H => t { D with nx := u D } σ H
theorem pss_nil : PSs X [] tNext := fun _ _ σ H _ I h => wpAny_execs_nil ⟨σ, H, I, h⟩
theorem pss_cons (h1 : PS X st t) (h2 : PSs X rest u) : PSs X (st :: rest) (tSeq t u) := by
  intro pins s σ H D I h
  refine wpAny_execs_cons (thn (h1 pins s σ H { D with nx := u D } I h) fun f s1 q => ?_)
  cases f with
  | next =>
    obtain ⟨σ', H', I', q⟩ := q
    exact h2 pins s1 σ' H' D I' q
  | ret v => exact q
  | brk => exact q
  | cont => exact q
def tBreak : TS := fun D σ H => D.bk σ H
def tCont : TS := fun D σ H => D.ct σ H
/-- in a def's body nothing is shown -/
theorem Inv.quiet {pins : List (Addr × Obj)} {σ : St} {H : Hp} {s : Shared} (I : Inv X pins σ H s) : interactive X.env = false := by simp [interactive, I.ok.kind]
/-- an expression whose value is dropped -/
def tDrop (te : TE) : TS := fun D σ H => te σ H fun _ H1 => D.nx σ H1
theorem ps_expr (he : PE X e te) (hs : swapsWith e none pos.line X.env = pure false := by rfl) : PS X (.Expr e pos) (tDrop te) := by
  intro pins s σ H D I h
  exact wpAny_Expr_any (thn (he pins s σ H _ I h) fun v s1 ⟨x, H1, I1, r1, q1⟩ => ⟨σ, H1, I1, q1⟩) I.quiet hs
def tRet (te : TE) : TS := fun D σ H => te σ H D.rt
theorem ps_ret (he : PE X e te) : PS X (.Return (some e) pos) (tRet te) := by
  intro pins s σ H D I h
  exact wpAny_Return_some (thn (he pins s σ H _ I h) fun v s1 ⟨x, H1, I1, r1, q1⟩ => ⟨x, σ, H1, I1, r1, q1⟩)
def tRetN : TS := fun D _ H => D.rt .non H
def tIfS (c : TT) (t u : TS) : TS := fun D σ H => c σ H fun b H1 => if b = true then t D σ H1 else u D σ H1
theorem ps_if {c : Expr} {a b : List Stmt} {tc : TT} (hc : PT X c tc) (ha : PSs X a t) (hb : PSs X b u) : PS X (.If c a b pos) (tIfS tc t u) := by
  intro pins s σ H D I h
  refine wpAny_If (thn (hc pins s σ H _ I h) fun d s1 ⟨H1, I1, q1⟩ => ?_)
  cases d with
  | true => exact ha pins s1 σ H1 D I1 q1
  | false => exact hb pins s1 σ H1 D I1 q1
/-- code that the proof never comes to -/
def tNever : TS := fun _ _ _ => False
end

/-! ### targets -/
abbrev TG := V → St → Hp → (St → Hp → Prop) → Prop
abbrev TGs := List V → St → Hp → (St → Hp → Prop) → Prop
def PG (X : Cx) (target : Expr) (t : TG) : Prop :=
  ∀ (pins : List (Addr × Obj)) (s : Shared) (σ : St) (H : Hp) (v : V) (u : Value) (Q : St → Hp → Prop), Inv X pins σ H s → RelV v u → t v σ H Q →
    wpAny (model X.prog X.w) X.A (assign target X.env u) (fun _ s' => ∃ σ' H', Inv X pins σ' H' s' ∧ Q σ' H') X.xe s
/-- several targets, one after another -/
def PGs (X : Cx) (ts : List Expr) (t : TGs) : Prop :=
  ∀ (pins : List (Addr × Obj)) (s : Shared) (σ : St) (H : Hp) (vs : List V) (us : List Value) (Q : St → Hp → Prop), Inv X pins σ H s → Vals vs us → t vs σ H Q →
    wpAny (model X.prog X.w) X.A (assignInOrder ((assignEach ts X.env).map (·.2)) us) (fun _ s' => ∃ σ' H', Inv X pins σ' H' s' ∧ Q σ' H') X.xe s
/-- o[i] = v, by values -/
abbrev TSet := V → V → V → Hp → (Hp → Prop) → Prop
def PSet (X : Cx) (t : TSet) : Prop :=
  ∀ (pins : List (Addr × Obj)) (s : Shared) (σ : St) (H : Hp) (o i v : V) (ov iv u : Value) (Q : Hp → Prop), Inv X pins σ H s → RelV o ov → RelV i iv → RelV v u → t o i v H Q →
    wpAny (model X.prog X.w) X.A (setItem ov iv u) (fun _ s' => ∃ H', Inv X pins σ H' s' ∧ Q H') X.xe s
/-- a op= b, by values -/
abbrev TIp := V → V → Hp → VK → Prop
def PIp (X : Cx) (op : Operator) (t : TIp) : Prop :=
  ∀ (pins : List (Addr × Obj)) (s : Shared) (σ : St) (H : Hp) (x y : V) (v u : Value) (Q : VK), Inv X pins σ H s → RelV x v → RelV y u → t x y H Q →
    wpAny (model X.prog X.w) X.A (inplaceOp op v u) (EP X pins σ Q) X.xe s
section
variable {X : Cx} {pos : Pos}
def gName (i : Nat) : TG := fun v σ H Q => Q (σ.set i (some v)) H
theorem pg_name {i : Nat} {x : Str} (hN : X.N.Nodup) (hi : X.N[i]? = some x) (hx : Loc X.env.scope x) (hf : X.fn x = true ∨ X.env.scope.names.lookup x = some .local := by first | exact .inl rfl | exact .inr rfl | assumption) : PG X (.Name x pos) (gName i) := by
  intro pins s σ H v u Q I r h
  exact wpAny_assign_Name (store_ok I hN hi hx r (fun s' I' => ⟨_, H, I', h⟩) hf)
def gNil : TGs := fun vs σ H Q => vs = [] ∧ Q σ H
def gCons (t : TG) (u : TGs) : TGs := fun vs σ H Q => ∃ v r, vs = v :: r ∧ t v σ H fun σ' H' => u r σ' H' Q
theorem pgs_nil : PGs X [] gNil := by
  intro pins s σ H vs us Q I r h
  obtain ⟨e, h⟩ := h
  subst e
  cases r
  exact assignInOrder_nil ⟨σ, H, I, h⟩
theorem pgs_cons {e : Expr} {es : List Expr} {t : TG} {u : TGs} (h1 : PG X e t) (h2 : PGs X es u)
    (hs : (assignEach (e :: es) X.env).map (·.2) = assign e X.env :: (assignEach es X.env).map (·.2) := by rfl) : PGs X (e :: es) (gCons t u) := by
  intro pins s σ H vs us Q I r h
  obtain ⟨v, vr, e1, h⟩ := h
  subst e1
  cases r with
  | cons r rr =>
    rw [hs]
    refine assignInOrder_cons (thn (h1 pins s σ H _ _ _ I r h) fun _ s1 ⟨σ1, H1, I1, q1⟩ => ?_)
    exact h2 pins s1 σ1 H1 _ _ Q I1 rr q1
/-- (a, b, ..) = a tuple of that length -/
def gTup (K : PySem.W.Frag) (n : Nat) (t : TGs) : TG := fun v σ H Q => ∃ a xs, v = .ref a ∧ SqT K H a xs ∧ xs.length = n ∧ t xs σ H Q
theorem pg_tup {es : List Expr} {k : Nat} {t : TGs} {n : Nat} (hc : X.calm = true) (h : PGs X es t)
    (hn : (assignEach es X.env).length = n := by rfl) (hst : (assignEach es X.env).findIdx? (·.1) = none := by rfl) : PG X (.Tuple es k pos) (gTup X.K n t) := by
  intro pins s σ H v u Q I r hw
  obtain ⟨a, xs, e1, hq, hl, hw⟩ := hw
  subst e1
  cases r
  obtain ⟨its, rv, ht, hz⟩ := I.tuple hq
  refine assign_Tuple_tuple (I.ok.hd hc) ht (by simp [hn, ← hl, rv.length]) hst fun h' hx => ?_
  have I1 : Inv X pins σ H { s with heap := h' } := I.kept (t' := s.toks) fun b o e => hx b o (Nat.ne_of_lt (Heap.lt_size e)) e
  exact h pins _ σ H xs _ Q I1 (by simpa using rv) hw
/-- o[i] = .. -/
def gSub (to ti : TE) (t : TSet) : TG := fun v σ H Q => to σ H fun o H1 => ti σ H1 fun i H2 => t o i v H2 fun H3 => Q σ H3
theorem pg_sub {o i : Expr} {to ti : TE} {t : TSet} (ho : PE X o to) (hi : PE X i ti) (hs : PSet X t)
    (ha : ∀ v, assign (.Subscript o i pos) X.env v = (do
      let ov ← holding [v] (eval o X.env)
      let iv ← holding [v, ov] (eval i X.env)
      standAt pos
      holding [v, ov, iv] (setItem ov iv v)
      release [v, ov, iv] []) := by intro _; rfl) : PG X (.Subscript o i pos) (gSub to ti t) := by
  intro pins s σ H v u Q I r h
  rw [ha]
  refine wpAny_bind (wpAny_holding (thn (ho pins s σ H _ I h) fun ov s1 ⟨x, H1, I1, r1, q1⟩ => ?_))
  refine wpAny_bind (wpAny_holding (thn (hi pins s1 σ H1 _ I1 q1) fun iv s2 ⟨y, H2, I2, r2, q2⟩ => ?_))
  refine wpAny_bind (wpAny_standAt (wpAny_bind (wpAny_holding (thn (hs pins s2 σ H2 x y v ov iv u _ I2 r1 r2 r q2) fun _ s3 ⟨H3, I3, q3⟩ => ?_))))
  exact wpAny_release ⟨σ, H3, I3, q3⟩
/-- target = value -/
def tAsg (te : TE) (g : TG) : TS := fun D σ H => te σ H fun x H1 => g x σ H1 D.nx
theorem ps_asg {tg e : Expr} {te : TE} {g : TG} (he : PE X e te) (hg : PG X tg g) (hs : swapsWithSole [tg] e pos.line X.env = pure false := by rfl) (hw : swappedStores [tg] e X.env = pure none := by rfl)
    (h1 : (assignEach [tg] X.env).map (·.2) = [assign tg X.env] := by rfl) : PS X (.Assign [tg] e pos) (tAsg te g) := by
  intro pins s σ H D I h
  refine wpAny_Assign_stores (thn (he pins s σ H _ I h) fun v s1 ⟨x, H1, I1, r1, q1⟩ => ?_) hs hw
  rw [h1]
  exact thn (hg pins s1 σ H1 x v _ I1 r1 q1) fun _ s2 q => q
/-- name = value -/
theorem ps_set {i : Nat} {x : Str} {e : Expr} {te : TE} {pos' : Pos} (hN : X.N.Nodup) (hi : X.N[i]? = some x) (hx : Loc X.env.scope x) (he : PE X e te) (hs : swapsWith e (some (.Name x pos')) pos.line X.env = pure false := by rfl) (hf : X.fn x = true ∨ X.env.scope.names.lookup x = some .local := by first | exact .inl rfl | exact .inr rfl | assumption) :
    PS X (.Assign [.Name x pos'] e pos) (tAsg te (gName i)) := by
  intro pins s σ H D I h
  refine wpAny_Assign_Name (thn (he pins s σ H _ I h) fun v s1 ⟨y, H1, I1, r1, q1⟩ => ?_) hs
  exact store_ok I1 hN hi hx r1 (fun s2 I2 => ⟨_, H1, I2, q1⟩) hf
/-- a, b = x, y with plain local names: stored from the right; the pair itself is not tracked (the opening rows as in PyProof/Rows/TupAssign.lean:23) -/
def tPar (i j : Nat) (ta : TA) : TS := fun D σ H => ta σ H fun vs H1 => ∃ v w, vs = [v, w] ∧ D.nx ((σ.set i (some v)).set j (some w)) H1
/-- name op= e -/
def tAug (i : Nat) (te : TE) (ti : TIp) : TS := fun D σ H => ∃ x, σ[i]? = some (some x) ∧ te σ H fun y H1 => ti x y H1 fun z H2 => D.nx (σ.set i (some z)) H2
/-- o[i] op= e -/
def tAugS (to ti te : TE) (tget : V → V → Hp → VK → Prop) (tip : TIp) (tset : TSet) : TS := fun D σ H => to σ H fun o H1 => ti σ H1 fun i H2 => tget o i H2 fun x H3 => te σ H3 fun y H4 => tip x y H4 fun z H5 => tset o i z H5 fun H6 => D.nx σ H6
/-- o[i], by values -/
def PGet (X : Cx) (t : V → V → Hp → VK → Prop) : Prop :=
  ∀ (pins : List (Addr × Obj)) (s : Shared) (σ : St) (H : Hp) (o i : V) (ov iv : Value) (Q : VK), Inv X pins σ H s → RelV o ov → RelV i iv → t o i H Q →
    wpAny (model X.prog X.w) X.A (getItem ov iv) (EP X pins σ Q) X.xe s
/-- ints -/
def ipI (f : Int → Int → Int) : TIp := fun x y H Q => ∃ i j, x = .int i ∧ y = .int j ∧ Q (.int (f i j)) H
end

/-! ### while -/
section
variable {X : Cx} {pos : Pos}
/-- the invariant W with its measure -/
def tWhile (c : TT) (tb : TS) : TS := fun D σ H => ∃ W : Nat → St → Hp → Prop, (∃ m, W m σ H) ∧ ∀ m σ H, W m σ H →
  c σ H fun b H1 => if b = true then ∃ N : St → Hp → Prop, (∀ σ' H', N σ' H' → ∃ m', m' < m ∧ W m' σ' H') ∧ tb { D with nx := N, ct := N, bk := D.nx } σ H1 else D.nx σ H1
end

/-! ### what a loop or a comprehension walks -/
/-- at turn i: it yields x (the heap may grow), or it stops -/
structure It where
  go : Nat → Hp → Prop
  yld : Nat → Hp → V → Hp → Prop
  stop : Nat → Hp → Prop
/-- the iterator's own objects may turn: they are not the frame's, not pinned, younger than the entry (or a comprehension's own) -/
def FpOk (X : Cx) (pins : List (Addr × Obj)) (H : Hp) (b : Addr) : Prop :=
  H b = none ∧ b ≠ X.env.locals ∧ b ∉ X.fs ∧ (b ∈ X.ex ∨ X.s₀.heap.objs.size ≤ b) ∧ (∀ x c, X.env.cells.lookup x = some c → c ≠ b) ∧ ∀ p ∈ X.pn ++ pins, p.1 ≠ b
theorem Inv.fpOk {X : Cx} {pins : List (Addr × Obj)} {σ : St} {H H' : Hp} {s : Shared} {b : Addr} (I : Inv X pins σ H s) (hb : s.heap.objs.size ≤ b) (hn : H' b = none) : FpOk X pins H' b := by
  refine ⟨hn, Nat.ne_of_gt (Nat.lt_of_lt_of_le I.lt hb), I.nofs hb, .inr (Nat.le_trans I.sz hb), fun x c e z => ?_, fun p hp z => ?_⟩
  · obtain ⟨v, q⟩ := I.cell x c e
    exact absurd (Nat.lt_of_lt_of_le q.lt (by rw [z]; exact hb)) (Nat.lt_irrefl _)
  · exact absurd (Nat.lt_of_lt_of_le (Heap.lt_size (I.pin p hp).1) (by rw [z]; exact hb)) (Nat.lt_irrefl _)
structure Turn (P : Program) (w : World) (K : PySem.W.Frag) (tg : Expr) (J : It) (fp : List Addr) (it : Addr) (tn : Nat → Heap → Prop) : Prop where
  mem : it ∈ fp
  obj : ∀ i h, tn i h → ∀ b ∈ fp, ∃ o, h.get? b = some o ∧ ∀ v, o.data ≠ .cell v
  keep : ∀ i h h', tn i h → (∀ b ∈ fp, ∀ o, h.get? b = some o → h'.get? b = some o) → tn i h'
  item : ∀ (X : Cx), X.prog = P → X.w = w → X.K = K → X.calm = true → ∀ (i : Nat) (pins : List (Addr × Obj)) (s : Shared) (σ : St) (H : Hp) (E : Value → Shared → Prop), Inv X pins σ H s → (∀ b ∈ fp, FpOk X pins H b) → tn i s.heap → J.go i H →
    wpAny (model P w) X.A (pyNext (.ref it)) (fun r s1 => ∃ u, r = some u ∧
      wpAny (model P w) X.A (letOwnedTupleGo tg (.ref it) u) (fun _ s2 => ∃ x H', Inv X pins σ H' s2 ∧ RelV x u ∧ J.yld i H x H' ∧ tn (i + 1) s2.heap ∧ ∀ b ∈ fp, H' b = none) E s1) E s
  done : ∀ (X : Cx), X.prog = P → X.w = w → X.K = K → X.calm = true → ∀ (i : Nat) (pins : List (Addr × Obj)) (s : Shared) (σ : St) (H : Hp) (E : Value → Shared → Prop), Inv X pins σ H s → (∀ b ∈ fp, FpOk X pins H b) → tn i s.heap → J.stop i H →
    wpAny (model P w) X.A (pyNext (.ref it)) (fun r s1 => r = none ∧ Inv X pins σ H s1) E s
  self : ∀ (A : Around) (i : Nat) (s : Shared) (Q : Value → Shared → Prop) (E : Value → Shared → Prop), tn i s.heap → Q (.ref it) s → wpAny (model P w) A (pyIter (.ref it)) Q E s
abbrev TI := St → Hp → (It → Hp → Prop) → Prop
/-- an iterator has come -/
def PIE (X : Cx) (pins : List (Addr × Obj)) (σ : St) (tg : Expr) (R : It → Hp → Prop) (itv : Value) (s2 : Shared) : Prop :=
  ∃ (it : Addr) (fp : List Addr) (tn : Nat → Heap → Prop) (J : It) (H' : Hp), itv = .ref it ∧ Inv X pins σ H' s2 ∧ Turn X.prog X.w X.K tg J fp it tn ∧ tn 0 s2.heap ∧ (∀ b ∈ fp, FpOk X pins H' b) ∧ R J H'
def PI (X : Cx) (tg iter : Expr) (wi : TI) : Prop :=
  ∀ (pins : List (Addr × Obj)) (s : Shared) (σ : St) (H : Hp) (R : It → Hp → Prop), Inv X pins σ H s → wi σ H R →
    wpAny (model X.prog X.w) X.A (eval iter X.env) (fun v s1 => wpAny (model X.prog X.w) X.A (pyIter v) (PIE X pins σ tg R) X.xe s1) X.xe s

/-- the step ahead of the store is nothing for an iterator that keeps no tuple -/
theorem go_of {M : Model} {A : Around} {E : Value → Shared → Prop} {s : Shared} {tg : Expr} {it : Addr} {u : Value} {o : Obj} {n : String} {vs : Array Value} {Q : Unit → Shared → Prop} (ho : s.heap.get? it = some o) (hc : o.cls = .type n) (hd : o.data = .fields vs)
    (hn : ["enumerate", "zip", "dict_itemiterator", "dict_reverseitemiterator", "odict_iterator", "itertools.zip_longest", "itertools.pairwise"].contains n = false) (hQ : Q () s) : wpAny M A (letOwnedTupleGo tg (.ref it) u) Q E s := by
  unfold letOwnedTupleGo
  cases tg <;> first
    | exact wpAny_pure hQ
    | (cases u <;> first
        | exact wpAny_pure hQ
        | (refine wpAny_bind (wpAny_load ho ?_)
           rw [hc, hd]
           show wpAny M A (if (["enumerate", "zip", "dict_itemiterator", "dict_reverseitemiterator", "odict_iterator", "itertools.zip_longest", "itertools.pairwise"].contains n && vs[0]? == some (rawInt _)) = true then _ else _) Q E s
           rw [if_neg (by intro h; rw [hn, Bool.false_and] at h; cases h)]
           exact wpAny_pure hQ))

/-- the list at a, as it stands at each turn (a loop may append to it) -/
def Itl (K : PySem.W.Frag) (a : Addr) : It :=
  ⟨fun i H => ∃ xs x, SqL K H a xs ∧ xs[i]? = some x, fun i H x H' => H' = H ∧ ∀ xs, SqL K H a xs → xs[i]? = some x, fun i H => ∃ xs, SqL K H a xs ∧ xs.length ≤ i⟩
def Itt (K : PySem.W.Frag) (a : Addr) : It :=
  ⟨fun i H => ∃ xs x, SqT K H a xs ∧ xs[i]? = some x, fun i H x H' => H' = H ∧ ∀ xs, SqT K H a xs → xs[i]? = some x, fun i H => ∃ xs, SqT K H a xs ∧ xs.length ≤ i⟩
/-- lo, lo + 1, .. (n of them) -/
def Itr (lo : Int) (n : Nat) : It := ⟨fun i _ => i < n, fun i H x H' => H' = H ∧ x = .int (lo + i), fun i _ => n ≤ i⟩
theorem turn_list {P : Program} {w : World} {K : PySem.W.Frag} {tg : Expr} (a it : Addr) : Turn P w K tg (Itl K a) [it] it (fun i h => h.IsListIter it a i) where
  mem := by simp
  obj := fun i h st b hb => by
    have e : b = it := by simpa using hb
    subst e
    obtain ⟨o, e, c, d⟩ := st
    exact ⟨o, e, fun v z => by rw [d] at z; cases z⟩
  keep := fun i h h' st k => st.at fun o e => k it (by simp) o e
  item := by
    intro X hP hw hK hc i pins s σ H E I hf st hg
    subst hP hw hK
    obtain ⟨xs, x, hq, hx⟩ := hg
    obtain ⟨its, rv, p, hz⟩ := I.list hq
    obtain ⟨u, hu, ru⟩ := rv.get hx
    obtain ⟨f0, f1, f2, f3, f4, f5⟩ := hf it (by simp)
    refine wpAny_pyNext_list_item st p.isList (x := u) (by simpa using hu) fun h' st' sb => ?_
    have I1 : Inv X pins σ H { s with heap := h' } := I.turned (t' := s.toks) (fun b o hb e => (sb.2 b hb).trans e) f0 f1 f3 f4 f5
    obtain ⟨o, e, c, d⟩ := id st'
    exact ⟨u, rfl, go_of (s := { s with heap := h' }) e c d (by decide) ⟨x, H, I1, ru, ⟨rfl, fun ys hy => by rw [I.list_inj hy hq]; exact hx⟩, st', fun b hb => (hf b hb).1⟩⟩
  done := by
    intro X hP hw hK hc i pins s σ H E I hf st hg
    subst hP hw hK
    obtain ⟨xs, hq, hx⟩ := hg
    obtain ⟨its, rv, p, hz⟩ := I.list hq
    obtain ⟨f0, f1, f2, f3, f4, f5⟩ := hf it (by simp)
    have hl := rv.length
    exact wpAny_pyNext_list_end (I.ok.hd hc) st p.isList (by simp; omega) fun h' eb => ⟨rfl, I.turned (t' := s.toks) (fun b o hb e => eb b o hb e) f0 f1 f3 f4 f5⟩
  self := fun _ _ _ _ _ st h => wpAny_pyIter_listiter st h
theorem turn_tuple {P : Program} {w : World} {K : PySem.W.Frag} {tg : Expr} (a it : Addr) : Turn P w K tg (Itt K a) [it] it (fun i h => h.IsTupleIter it a i) where
  mem := by simp
  obj := fun i h st b hb => by
    have e : b = it := by simpa using hb
    subst e
    obtain ⟨o, e, c, d⟩ := st
    exact ⟨o, e, fun v z => by rw [d] at z; cases z⟩
  keep := fun i h h' st k => st.at fun o e => k it (by simp) o e
  item := by
    intro X hP hw hK hc i pins s σ H E I hf st hg
    subst hP hw hK
    obtain ⟨xs, x, hq, hx⟩ := hg
    obtain ⟨its, rv, p, hz⟩ := I.tuple hq
    obtain ⟨u, hu, ru⟩ := rv.get hx
    obtain ⟨f0, f1, f2, f3, f4, f5⟩ := hf it (by simp)
    refine wpAny_pyNext_tuple_item st (show s.heap.IsTuple a its.toArray from p) (x := u) (by simpa using hu) fun h' st' sb => ?_
    have I1 : Inv X pins σ H { s with heap := h' } := I.turned (t' := s.toks) (fun b o hb e => (sb.2 b hb).trans e) f0 f1 f3 f4 f5
    obtain ⟨o, e, c, d⟩ := id st'
    exact ⟨u, rfl, go_of (s := { s with heap := h' }) e c d (by decide) ⟨x, H, I1, ru, ⟨rfl, fun ys hy => by rw [I.tuple_inj hy hq]; exact hx⟩, st', fun b hb => (hf b hb).1⟩⟩
  done := by
    intro X hP hw hK hc i pins s σ H E I hf st hg
    subst hP hw hK
    obtain ⟨xs, hq, hx⟩ := hg
    obtain ⟨its, rv, p, hz⟩ := I.tuple hq
    obtain ⟨f0, f1, f2, f3, f4, f5⟩ := hf it (by simp)
    have hl := rv.length
    exact wpAny_pyNext_tuple_end (I.ok.hd hc) st (show s.heap.IsTuple a its.toArray from p) (by simp; omega) fun h' eb => ⟨rfl, I.turned (t' := s.toks) (fun b o hb e => eb b o hb e) f0 f1 f3 f4 f5⟩
  self := fun _ _ _ _ _ st h => wpAny_pyIter_tupleiter st h
theorem turn_range {P : Program} {w : World} {K : PySem.W.Frag} {tg : Expr} (it : Addr) (lo : Int) (n : Nat) : Turn P w K tg (Itr lo n) [it] it (fun i h => IsRangeIter h it (lo + (i : Nat) * 1) ((n : Int) - (i : Nat)) 1) where
  mem := by simp
  obj := fun i h st b hb => by
    have e : b = it := by simpa using hb
    subst e
    exact ⟨_, st, fun v z => by
      have z' : Data.fields _ = Data.cell v := z
      cases z'⟩
  keep := fun i h h' st k => k it (by simp) _ st
  item := by
    intro X hP hw hK hc i pins s σ H E I hf st hg
    subst hP hw hK
    obtain ⟨f0, f1, f2, f3, f4, f5⟩ := hf it (by simp)
    have W := Walks.range (prog := X.prog) (w := X.w) (I.ok.hd hc) it lo 1 n
    refine W.item i s _ _ hg st fun v h' tk hv st' kk => ?_
    obtain ⟨t, rfl⟩ := hv
    have I1 : Inv X pins σ H { s with heap := h', toks := tk } := I.turned (fun b o hb e => kk b o (by simpa using hb) e) f0 f1 f3 f4 f5
    refine ⟨_, rfl, go_of (s := { s with heap := h', toks := tk }) (n := "range_iterator") st' rfl rfl (by decide) ⟨.int (lo + i), H, I1, ⟨t, ?_⟩, ⟨rfl, rfl⟩, st', fun b hb => (hf b hb).1⟩⟩
    rw [Int.mul_one]
  done := by
    intro X hP hw hK hc i pins s σ H E I hf st hg
    subst hP hw hK
    obtain ⟨f0, f1, f2, f3, f4, f5⟩ := hf it (by simp)
    exact wpAny_pyNext_range_end (I.ok.hd hc) st (by have : n ≤ i := hg; omega) fun h' eb => ⟨rfl, I.turned (t' := s.toks) (fun b o hb e => eb b o hb e) f0 f1 f3 f4 f5⟩
  self := fun _ _ _ _ _ st h => wpAny_pyIter_rangeiter st h
end L2

namespace L2
open PySem PySem.Spec PyProof.Rows
section
variable {X : Cx} {tg : Expr}
def iList (K : PySem.W.Frag) (tl : TE) : TI := fun σ H R => tl σ H fun x H1 => ∃ a, x = .ref a ∧ (∃ xs, SqL K H1 a xs) ∧ R (Itl K a) H1
def iTup (K : PySem.W.Frag) (tl : TE) : TI := fun σ H R => tl σ H fun x H1 => ∃ a, x = .ref a ∧ (∃ xs, SqT K H1 a xs) ∧ R (Itt K a) H1
/-- a range object just made, walked -/
theorem range_it {pins : List (Addr × Obj)} {σ : St} {H : Hp} {s : Shared} {R : It → Hp → Prop} {E : Value → Shared → Prop} {lo hi : Int} {t u v : Tok} {tk : Nat} (I : Inv X pins σ H s) (h1 : -(2 ^ 62) ≤ lo) (h2 : lo < 2 ^ 62) (h3 : -(2 ^ 62) ≤ hi) (h4 : hi < 2 ^ 62)
    (q : R (Itr lo (hi - lo).toNat) H) : wpAny (model X.prog X.w) X.A (pyIter (.ref s.heap.objs.size)) (PIE X pins σ tg R) E { s with heap := s.heap.push { cls := .type "range", data := .fields #[.int lo t, .int hi u, .int 1 v] }, toks := tk } := by
  refine wpAny_pyIter_range (IsRange.new ..) (small_one h1 h2 h3 h4) ?_
  have I1 : Inv X pins σ H { s with heap := s.heap.push { cls := .type "range", data := .fields #[.int lo t, .int hi u, .int 1 v] }, toks := tk } := I.kept fun b o e => Heap.get?_push_of_some _ e
  refine ⟨(s.heap.push { cls := .type "range", data := .fields #[.int lo t, .int hi u, .int 1 v] }).objs.size, [(s.heap.push { cls := .type "range", data := .fields #[.int lo t, .int hi u, .int 1 v] }).objs.size], _, _, H, rfl,
    I1.kept (t' := tk) fun b o e => Heap.get?_push_of_some _ e, turn_range _ lo (hi - lo).toNat, ?_, fun b hb => ?_, q⟩
  · have e1 : lo + ((0 : Nat) : Int) * 1 = lo := by simp
    have e2 : (((hi - lo).toNat : Nat) : Int) - ((0 : Nat) : Int) = Builtin.Range.rangeSize lo hi 1 := by rw [rangeSize_one]; split <;> omega
    show IsRangeIter _ _ (lo + ((0 : Nat) : Int) * 1) ((((hi - lo).toNat : Nat) : Int) - ((0 : Nat) : Int)) 1
    rw [e1, e2]
    exact Heap.get?_push_size _ rfl
  · have e : b = (s.heap.push { cls := .type "range", data := .fields #[.int lo t, .int hi u, .int 1 v] }).objs.size := by simpa using hb
    subst e
    exact I1.fpOk (Nat.le_refl _) (I1.hok.fresh (Nat.le_refl _))
def iRng1 (ta : TA) : TI := fun σ H R => ta σ H fun vs H1 => ∃ j : Int, vs = [.int j] ∧ -(2 ^ 62) ≤ j ∧ j < 2 ^ 62 ∧ R (Itr 0 j.toNat) H1
def iRng2 (ta : TA) : TI := fun σ H R => ta σ H fun vs H1 => ∃ i j : Int, vs = [.int i, .int j] ∧ (-(2 ^ 62) ≤ i ∧ i < 2 ^ 62 ∧ -(2 ^ 62) ≤ j ∧ j < 2 ^ 62) ∧ R (Itr i (j - i).toNat) H1
theorem pi_range1 {a : Expr} {ta : TA} {p pos : Pos} (hg : Gl X "range") (hm : X.mg "range" = none) (ha : PA X [a] ta) (hs : starEach [a] X.env = [(false, eval a X.env)] := by rfl) : PI X tg (.Call (.Name "range" p) [a] [] pos) (iRng1 ta) := by
  intro pins s σ H R I h
  refine Call_ (ld_blt I hg hm boot_range (PyProof.Rows.callWith_type1 (thn (ha pos pins s σ H _ I h) fun us s1 ⟨vs, H1, I1, r1, q1⟩ => ?_) hs rfl))
  obtain ⟨j, e, q1, q2, q⟩ := q1
  subst e
  cases r1 with
  | cons r rr =>
    cases rr
    obtain ⟨t, rfl⟩ := r
    exact call_range_1 (range_it I1 (by omega) (by omega) q1 q2 (by simpa using q))
/-! ### for -/
/-- W: the invariant by the turn and a measure; N: what the body is to reach -/
def tFor (wi : TI) (g : TG) (tb : TS) : TS := fun D σ H => wi σ H fun J H1 => ∃ W : Nat → Nat → St → Hp → Prop, (∃ m, W 0 m σ H1) ∧ ∀ i m σ H, W i m σ H →
  (J.stop i H ∧ D.nx σ H) ∨ (J.go i H ∧ ∃ N : St → Hp → Prop, (∀ σ' H', N σ' H' → ∃ m', m' < m ∧ W (i + 1) m' σ' H') ∧ ∀ x H', J.yld i H x H' → g x σ H' fun σ2 H2 => tb { D with nx := N, ct := N, bk := D.nx } σ2 H2)
/-- the records at fp as they stand -/
def pinsAt (fp : List Addr) (h : Heap) : List (Addr × Obj) := fp.filterMap fun b => (h.get? b).map fun o => (b, o)
theorem mem_pinsAt {fp : List Addr} {h : Heap} {b : Addr} {o : Obj} (hb : b ∈ fp) (e : h.get? b = some o) : (b, o) ∈ pinsAt fp h := List.mem_filterMap.mpr ⟨b, hb, by rw [e]; rfl⟩
theorem of_pinsAt {fp : List Addr} {h : Heap} {p : Addr × Obj} (hp : p ∈ pinsAt fp h) : p.1 ∈ fp ∧ h.get? p.1 = some p.2 := by
  obtain ⟨b, hb, e⟩ := List.mem_filterMap.mp hp
  cases q : h.get? b with
  | none => rw [q] at e; cases e
  | some o =>
    rw [q] at e
    have e' : (b, o) = p := Option.some.inj e
    subst e'
    exact ⟨hb, q⟩
theorem Inv.pinned {pins : List (Addr × Obj)} {σ : St} {H : Hp} {s : Shared} {fp : List Addr} (I : Inv X pins σ H s) (hf : ∀ b ∈ fp, FpOk X pins H b) (ho : ∀ b ∈ fp, ∃ o, s.heap.get? b = some o ∧ ∀ v, o.data ≠ .cell v) : Inv X (pins ++ pinsAt fp s.heap) σ H s :=
  I.pins_of fun p hp => (List.mem_append.mp hp).elim (fun z => I.pin p (List.mem_append_right _ z)) fun z => by
    obtain ⟨hb, e⟩ := of_pinsAt z
    obtain ⟨f0, f1, f2, _⟩ := hf p.1 hb
    obtain ⟨o, e', d⟩ := ho p.1 hb
    rw [e] at e'; cases e'
    exact ⟨e, f0, f1, f2, d⟩
theorem Inv.unpinned {pins pl : List (Addr × Obj)} {σ : St} {H : Hp} {s : Shared} (I : Inv X (pins ++ pl) σ H s) : Inv X pins σ H s := I.pins_of fun p hp => I.pin p (List.mem_append_right _ (List.mem_append_left _ hp))
theorem ps_for {iter : Expr} {body : List Stmt} {wi : TI} {g : TG} {tb : TS} {pos : Pos} (hp : PassesOwn (model X.prog X.w) X.A X.env X.xe) (hc : X.calm = true) (hi : PI X tg iter wi) (hg : PG X tg g) (hb : PSs X body tb)
    (hs : ∀ x, foldedSetIterable iter X.env x = pure x := by intro _; rfl) : PS X (.For tg iter body [] pos) (tFor wi g tb) := by
  intro pins s σ H D I h
  refine wpAny_For (thn (hi pins s σ H _ I h) fun v s1 h1 => thn h1 fun itv s2 h2 => ?_) hs
  obtain ⟨it, fp, tn, J, H2, e, I2, T, st2, f2, W, ⟨m0, w0⟩, turn⟩ := h2
  subst e
  -- what stays true of the iterator's objects through the loop
  have stat : ∀ {H' : Hp}, (∀ b ∈ fp, H' b = none) → ∀ b ∈ fp, FpOk X pins H' b := fun hn b hb => ⟨hn b hb, (f2 b hb).2⟩
  refine codeAny_forLoop_any (fun n s' => ∃ i σ' H', Inv X pins σ' H' s' ∧ tn i s'.heap ∧ (∀ b ∈ fp, H' b = none) ∧ W i n σ' H') ?_ m0 ⟨0, σ, H2, I2, st2, fun b hb => (f2 b hb).1, w0⟩
  rintro n s3 ⟨i, σ3, H3, I3, st3, fr3, w3⟩
  rcases turn i n σ3 H3 w3 with ⟨stop, qn⟩ | ⟨go, N, hN, step⟩
  · refine wpAny_passesOwn hp (thn (T.done X rfl rfl rfl hc i pins s3 σ3 H3 X.xe I3 (stat fr3) st3 stop) fun r s4 ⟨hr, I4⟩ => ?_)
    subst hr
    exact wpAny_execs_nil ⟨σ3, H3, I4, qn⟩
  · refine wpAny_passesOwn hp (thn (T.item X rfl rfl rfl hc i pins s3 σ3 H3 X.xe I3 (stat fr3) st3 go) fun r s4 ⟨u, hr, h4⟩ => ?_)
    subst hr
    refine wpAny_passesOwn hp (thn h4 fun _ s5 ⟨x, H5, I5, r5, y5, st5, fr5⟩ => ?_)
    have I5' := I5.pinned (stat fr5) (T.obj _ _ st5)
    refine wpAny_passesOwn hp (thn (hg _ s5 σ3 H5 x u _ I5' r5 (step x H5 y5)) fun _ s6 ⟨σ6, H6, I6, q6⟩ => ?_)
    refine wpAny_passesOwn hp (thn (hb _ s6 σ6 H6 _ I6 q6) fun f s7 q7 => ?_)
    have again : ∀ {σ7 : St} {H7 : Hp}, Inv X (pins ++ pinsAt fp s5.heap) σ7 H7 s7 → N σ7 H7 → ∃ m, m < n ∧ ∃ i σ' H', Inv X pins σ' H' s7 ∧ tn i s7.heap ∧ (∀ b ∈ fp, H' b = none) ∧ W i m σ' H' := fun {σ7 H7} I7 n7 => by
      obtain ⟨m', hm, w7⟩ := hN σ7 H7 n7
      refine ⟨m', hm, i + 1, σ7, H7, I7.unpinned, T.keep _ _ _ st5 fun b hb o e => (I7.pin (b, o) (List.mem_append_right _ (List.mem_append_right _ (mem_pinsAt hb e)))).1, fun b hb => ?_, w7⟩
      obtain ⟨o, e, d⟩ := T.obj _ _ st5 b hb
      exact (I7.pin (b, o) (List.mem_append_right _ (List.mem_append_right _ (mem_pinsAt hb e)))).2.1
    cases f with
    | next => obtain ⟨σ7, H7, I7, n7⟩ := q7; exact again I7 n7
    | cont => obtain ⟨σ7, H7, I7, n7⟩ := q7; exact again I7 n7
    | brk => obtain ⟨σ7, H7, I7, q7⟩ := q7; exact ⟨σ7, H7, I7.unpinned, q7⟩
    | ret v => obtain ⟨x7, σ7, H7, I7, r7, q7⟩ := q7; exact ⟨x7, σ7, H7, I7.unpinned, r7, q7⟩
end

/-! ### the forms one uses -/
end L2

namespace L2
open PySem PySem.Spec PyProof.Rows

abbrev R2 := V → V → Hp → VK → Prop
/-- a two-place operation on values: f is binaryOp op, inplaceOp op or compareOp op -/
def OpR (X : Cx) (f : Value → Value → Sem Value) (r : R2) : Prop :=
  ∀ (pins : List (Addr × Obj)) (s : Shared) (σ : St) (H : Hp) (x y : V) (v u : Value) (Q : VK), Inv X pins σ H s → RelV x v → RelV y u → r x y H Q →
    wpAny (model X.prog X.w) X.A (f v u) (EP X pins σ Q) X.xe s
/-- a one-place operation -/
def UnR (X : Cx) (f : Value → Sem Value) (r : V → Hp → VK → Prop) : Prop :=
  ∀ (pins : List (Addr × Obj)) (s : Shared) (σ : St) (H : Hp) (x : V) (v : Value) (Q : VK), Inv X pins σ H s → RelV x v → r x H Q →
    wpAny (model X.prog X.w) X.A (f v) (EP X pins σ Q) X.xe s
/-- a call of a value that is known (a builtin, a type) with values -/
def CallR (X : Cx) (f : Value) (r : List V → Hp → VK → Prop) : Prop :=
  ∀ (pins : List (Addr × Obj)) (s : Shared) (σ : St) (H : Hp) (xs : List V) (us : List Value) (Q : VK), Inv X pins σ H s → Vals xs us → r xs H Q →
    wpAny (model X.prog X.w) X.A (call f us) (EP X pins σ Q) X.xe s
/-- a value's truth -/
def TruR (X : Cx) (r : V → Hp → (Bool → Hp → Prop) → Prop) : Prop :=
  ∀ (pins : List (Addr × Obj)) (s : Shared) (σ : St) (H : Hp) (x : V) (v : Value) (Q : Bool → Hp → Prop), Inv X pins σ H s → RelV x v → r x H Q →
    wpAny (model X.prog X.w) X.A (truthy v) (TP X pins σ Q) X.xe s

def tOp (r : R2) (ta tb : TE) : TE := fun σ H Q => ta σ H fun x H1 => tb σ H1 fun y H2 => r x y H2 Q
def tUn (r : V → Hp → VK → Prop) (ta : TE) : TE := fun σ H Q => ta σ H fun x H1 => r x H1 Q
/-- ints in, under C, and a value out -/
def rI (C : Int → Int → Prop) (g : Int → Int → V) : R2 := fun x y H Q => ∃ i j, x = .int i ∧ y = .int j ∧ C i j ∧ Q (g i j) H
def rI0 (g : Int → Int → V) : R2 := fun x y H Q => ∃ i j, x = .int i ∧ y = .int j ∧ Q (g i j) H
def rU (g : Int → V) : V → Hp → VK → Prop := fun x H Q => ∃ i, x = .int i ∧ Q (g i) H

section
variable {X : Cx} {a b c : Expr} {ta tb tc : TE} {pos : Pos}

theorem binT (ha : PE X a ta) (hb : PE X b tb) {pins : List (Addr × Obj)} {s : Shared} {σ : St} {H : Hp} {R : V → V → Hp → Prop} (I : Inv X pins σ H s)
    (h : ta σ H fun x H1 => tb σ H1 fun y H2 => R x y H2) {Q : Value → Shared → Prop} {f : Value → Value → Sem Value}
    (hf : ∀ v u s2 x y H2, Inv X pins σ H2 s2 → RelV x v → RelV y u → R x y H2 → wpAny (model X.prog X.w) X.A (f v u) Q X.xe s2) :
    wpAny (model X.prog X.w) X.A (eval a X.env) (fun v s₁ => wpAny (model X.prog X.w) X.A (eval b X.env) (fun u s₂ => wpAny (model X.prog X.w) X.A (f v u) Q X.xe s₂) X.xe s₁) X.xe s := by
  refine thn (ha pins s σ H _ I h) fun v s1 ⟨x, H1, I1, r1, q1⟩ => ?_
  refine thn (hb pins s1 σ H1 _ I1 q1) fun u s2 ⟨y, H2, I2, r2, q2⟩ => ?_
  exact hf v u s2 x y H2 I2 r1 r2 q2

theorem pe_op {op : Operator} {r : R2} (ho : OpR X (binaryOp op) r) (ha : PE X a ta) (hb : PE X b tb) : PE X (.BinOp a op b pos) (tOp r ta tb) := by
  intro pins s σ H Q I h
  exact wpAny_BinOp (binT ha hb I h fun v u s2 x y H2 I2 rx ry q => ho pins s2 σ H2 x y v u Q I2 rx ry q)
/-! ### ints -/
theorem opI {f : Value → Value → Sem Value} {C : Int → Int → Prop} {g : Int → Int → Int}
    (rule : ∀ (i j : Int) (t u : Tok) (s : Shared) (Q : Value → Shared → Prop) (E : Value → Shared → Prop), C i j → Q (.int (g i j) s.toks) { s with toks := s.toks + 1 } → wpAny (model X.prog X.w) X.A (f (.int i t) (.int j u)) Q E s) :
    OpR X f (rI C fun i j => .int (g i j)) := by
  intro pins s σ H x y v u Q I rx ry h
  obtain ⟨i, j, rfl, rfl, hc, q⟩ := h
  obtain ⟨t, rfl⟩ := rx
  obtain ⟨t', rfl⟩ := ry
  exact rule i j t t' s _ _ hc ⟨.int (g i j), H, I.tok _, ⟨_, rfl⟩, q⟩
theorem opI0 {f : Value → Value → Sem Value} {g : Int → Int → Int}
    (rule : ∀ (i j : Int) (t u : Tok) (s : Shared) (Q : Value → Shared → Prop) (E : Value → Shared → Prop), Q (.int (g i j) s.toks) { s with toks := s.toks + 1 } → wpAny (model X.prog X.w) X.A (f (.int i t) (.int j u)) Q E s) :
    OpR X f (rI0 fun i j => .int (g i j)) := by
  intro pins s σ H x y v u Q I rx ry h
  obtain ⟨i, j, rfl, rfl, q⟩ := h
  obtain ⟨t, rfl⟩ := rx
  obtain ⟨t', rfl⟩ := ry
  exact rule i j t t' s _ _ ⟨.int (g i j), H, I.tok _, ⟨_, rfl⟩, q⟩
theorem opB0 {f : Value → Value → Sem Value} {g : Int → Int → Bool}
    (rule : ∀ (i j : Int) (t u : Tok) (s : Shared) (Q : Value → Shared → Prop) (E : Value → Shared → Prop), Q (.bool (g i j)) s → wpAny (model X.prog X.w) X.A (f (.int i t) (.int j u)) Q E s) :
    OpR X f (rI0 fun i j => .bl (g i j)) := by
  intro pins s σ H x y v u Q I rx ry h
  obtain ⟨i, j, rfl, rfl, q⟩ := h
  obtain ⟨t, rfl⟩ := rx
  obtain ⟨t', rfl⟩ := ry
  exact rule i j t t' s _ _ ⟨.bl (g i j), H, I, rfl, q⟩

def CDiv (i j : Int) : Prop := 0 < j ∧ j < 1073741824
def CDivN (i j : Int) : Prop := j ≠ 0 ∧ j.natAbs < 1073741824
def CPow (i j : Int) : Prop := 0 ≤ j ∧ j ≤ 1000000 ∧ i.natAbs < 2 ^ 64
def CMul (i j : Int) : Prop := (-(2 ^ 64) < i ∧ i < 2 ^ 64) ∨ (-(2 ^ 64) < j ∧ j < 2 ^ 64)
theorem CMul.ok {i j : Int} (h : CMul i j) : IntMulOk i j := by
  rcases h with ⟨h1, h2⟩ | ⟨h1, h2⟩
  · exact .of_left (intBits_le_64 h1 h2)
  · exact .of_right (intBits_le_64 h1 h2)
theorem op_add : OpR X (binaryOp .Add) (rI0 fun i j => .int (i + j)) := opI0 fun _ _ _ _ _ _ _ q => add_int q
theorem op_sub : OpR X (binaryOp .Sub) (rI0 fun i j => .int (i - j)) := opI0 fun _ _ _ _ _ _ _ q => sub_int q
theorem op_mul : OpR X (binaryOp .Mult) (rI CMul fun i j => .int (i * j)) := opI fun _ _ _ _ _ _ _ hc q => mul_int q hc.ok
/-- % by a positive divisor of any size -/
theorem op_mod : OpR X (binaryOp .Mod) (rI (fun _ j => 0 < j) fun i j => .int (i % j)) := opI fun i j _ _ _ _ _ hc q => by
  have h1 : (0 : Int) < j := hc
  exact mod_int' (by omega) (by rw [Int.fmod_eq_emod_of_nonneg i (by omega)]; exact q)
theorem op_pow : OpR X (binaryOp .Pow) (rI CPow fun i j => .int (i ^ j.toNat)) := opI fun _ _ _ _ _ _ _ hc q => pow_int_small hc.1 hc.2.1 hc.2.2 q
/-! ### bools among ints: n += (a < b) -/
end

/-! ### comparisons -/
/-- the scalars that == tells apart as data does -/
def scal : V → V → Bool
  | .non, .non => true | .non, .int _ => true | .int _, .non => true | .non, .bl _ => true | .bl _, .non => true | .non, .str _ => true | .str _, .non => true
  | .int _, .int _ => true | .bl _, .bl _ => true | .str _, .str _ => true | .byt _, .byt _ => true
  | .int _, .str _ => true | .str _, .int _ => true | .bl _, .str _ => true | .str _, .bl _ => true
  | _, _ => false
def rEq : R2 := fun x y H Q => scal x y = true ∧ Q (.bl (decide (x = y))) H
def rNe : R2 := fun x y H Q => scal x y = true ∧ Q (.bl (!decide (x = y))) H

section
variable {X : Cx} {a b c : Expr} {ta tb tc : TE} {pos : Pos}
theorem fin_bl {pins : List (Addr × Obj)} {σ : St} {H : Hp} {s : Shared} {Q : VK} {k k' : Bool} (I : Inv X pins σ H s) (q : Q (.bl k) H) (e : k = k') : EP X pins σ Q (.bool k') s := by
  subst e
  exact ⟨.bl k, H, I, rfl, q⟩
theorem op_lt : OpR X (compareOp .Lt) (rI0 fun i j => .bl (decide (i < j))) := opB0 fun _ _ _ _ _ _ _ q => lt_int q
theorem op_le : OpR X (compareOp .LtE) (rI0 fun i j => .bl (decide (i ≤ j))) := opB0 fun _ _ _ _ _ _ _ q => le_int q
theorem op_gt : OpR X (compareOp .Gt) (rI0 fun i j => .bl (decide (j < i))) := opB0 fun _ _ _ _ _ _ _ q => gt_int q
theorem op_ge : OpR X (compareOp .GtE) (rI0 fun i j => .bl (decide (j ≤ i))) := opB0 fun _ _ _ _ _ _ _ q => ge_int q
/-- is None, is not None: the right side a value none -/
theorem op_isN : OpR X (compareOp .Is) (fun x y H Q => y = .non ∧ Q (.bl (decide (x = .non))) H) := by
  intro pins s σ H x y v u Q I rx ry h
  obtain ⟨rfl, q⟩ := h
  cases ry
  refine is_none_gen (fin_bl I q ?_)
  cases x <;> first
    | (cases rx; rfl)
    | (obtain ⟨t, rfl⟩ := rx; rfl)
theorem op_notN : OpR X (compareOp .IsNot) (fun x y H Q => y = .non ∧ Q (.bl (!decide (x = .non))) H) := by
  intro pins s σ H x y v u Q I rx ry h
  obtain ⟨rfl, q⟩ := h
  cases ry
  refine isnot_none_gen (fin_bl I q ?_)
  cases x <;> first
    | (cases rx; rfl)
    | (obtain ⟨t, rfl⟩ := rx; rfl)

/-- is, is not of two objects that are tracked lists or instances -/
def isObj : HO → Bool
  | .lst _ => true
  | .ins _ _ _ => true
  | _ => false
theorem nomark (b : Expr) {op : CmpOp} (h : op ≠ .In := by decide) (h2 : op ≠ .NotIn := by decide) : behindInMarks op b = false := by
  have e1 : (op == CmpOp.In) = false := by cases op <;> first | rfl | exact absurd rfl h
  have e2 : (op == CmpOp.NotIn) = false := by cases op <;> first | rfl | exact absurd rfl h2
  cases b <;> simp [behindInMarks, e1, e2]
/-- a comparison as a value; hm: nomark b, or (for in, not in) by with_unfolding_all rfl -/
theorem pe_cmpR {op : CmpOp} {r : R2} (ho : OpR X (compareOp op) r) (ha : PE X a ta) (hb : PE X b tb) (hm : behindInMarks op b = false) : PE X (.Compare a [op] [b] pos) (tOp r ta tb) := by
  intro pins s σ H Q I h
  exact wpAny_Compare1 (binT ha hb I h fun v u s2 x y H2 I2 rx ry q => ho pins s2 σ H2 x y v u Q I2 rx ry q) hm
/-- a reading of a value as a test -/
def tTest (t : TE) : TT := fun σ H Q => t σ H fun x H' => ∃ k, x = .bl k ∧ Q k H'
theorem pt_cmpR {op : CmpOp} {r : R2} (ho : OpR X (compareOp op) r) (ha : PE X a ta) (hb : PE X b tb) (hm : behindInMarks op b = false) : PT X (.Compare a [op] [b] pos) (tTest (tOp r ta tb)) := by
  intro pins s σ H Q I h
  refine wpAny_isTrue_Compare1 (thn (ha pins s σ H _ I h) fun v s1 ⟨x, H1, I1, r1, q1⟩ => thn (hb pins s1 σ H1 _ I1 q1) fun u s2 ⟨y, H2, I2, r2, q2⟩ =>
    thn (ho pins s2 σ H2 x y v u _ I2 r1 r2 q2) fun c s3 ⟨z, H3, I3, r3, k, e, q3⟩ => ?_) hm
  subst e
  cases r3
  exact wpAny_truthy_bool ⟨H3, I3, q3⟩
/-- a op1 b op2 c -/
def tChain (r r' : R2) (ta tb tc : TE) : TE := fun σ H Q => ta σ H fun x H1 => tb σ H1 fun y H2 => r x y H2 fun z H3 => ∃ k, z = .bl k ∧
  (if k = true then tc σ H3 fun w' H4 => r' y w' H4 Q else Q (.bl false) H3)
theorem pt_chain {op op' : CmpOp} {r r' : R2} (ho : OpR X (compareOp op) r) (ho' : OpR X (compareOp op') r') (ha : PE X a ta) (hb : PE X b tb) (hc : PE X c tc)
    (hm : lastMarks [op, op'] [b, c] = false := by with_unfolding_all rfl) : PT X (.Compare a [op, op'] [b, c] pos) (tTest (tChain r r' ta tb tc)) := by
  intro pins s σ H Q I h
  refine isTrue_chain (thn (ha pins s σ H _ I h) fun v s1 ⟨x, H1, I1, r1, q1⟩ => test_link (thn (hb pins s1 σ H1 _ I1 q1) fun u s2 ⟨y, H2, I2, r2, q2⟩ =>
    thn (ho pins s2 σ H2 x y v u _ I2 r1 r2 q2) fun d s3 ⟨z, H3, I3, r3, k, e, q3⟩ => ?_)) hm
  subst e
  cases r3
  refine wpAny_truthy_bool ?_
  cases k with
  | false =>
    obtain ⟨k', e', q'⟩ := q3
    cases e'
    exact ite_ff ⟨H3, I3, q'⟩
  | true =>
    refine ite_tt (test_last (thn (hc pins s3 σ H3 _ I3 q3) fun w' s4 ⟨z', H4, I4, r4, q4⟩ => thn (ho' pins s4 σ H4 y z' u w' _ I4 r2 r4 q4) fun d' s5 ⟨z2, H5, I5, r5, k2, e2, q5⟩ => ?_))
    subst e2
    cases r5
    exact wpAny_truthy_bool ⟨H5, I5, q5⟩

/-! ### truth -/
/-- a value's truth by the abstract heap -/
def TruV (K : PySem.W.Frag) (x : V) (H : Hp) (k : Bool) : Prop :=
  match x with
  | .non => k = false
  | .bl b => k = b
  | .int i => k = (i != 0)
  | .str y => y.length ≤ sizeLine ∧ k = ((y.length : Int) != 0)
  | .byt y => y.size ≤ sizeLine ∧ k = ((y.size : Int) != 0)
  | .ref p => (∃ xs, SqL K H p xs ∧ k = !xs.isEmpty) ∨ (∃ xs, SqT K H p xs ∧ k = !xs.isEmpty) ∨ ∃ kvs, H p = some (.dK kvs) ∧ k = !kvs.isEmpty
  | _ => False
theorem line63 : (sizeLine : Nat) < 2 ^ 63 := by rw [sizeLine_eq]; decide
/-! ### strs and bytes -/
theorem op_add_str : OpR X (binaryOp .Add) (fun x y H Q => ∃ i j, x = .str i ∧ y = .str j ∧ i.length + j.length ≤ sizeLine ∧ Q (.str (i ++ j)) H) := by
  intro pins s σ H x y v u Q I rx ry h
  obtain ⟨i, j, rfl, rfl, hz, q⟩ := h
  obtain ⟨t, rfl⟩ := rx
  obtain ⟨t', rfl⟩ := ry
  exact add_str (fun t' tk => ⟨.str (i ++ j), H, I.tok _, ⟨_, rfl⟩, q⟩) hz
def PlainIxT (b : Expr) : Prop := ∀ o i, subscripted b false o i = operate [o, i] (getItem o i)
/-! ### scalar builtins, by CallR -/
theorem vals1 {x : V} {us : List Value} (r : Vals [x] us) : ∃ u, us = [u] ∧ RelV x u := by
  cases r with
  | cons r1 r2 => cases r2; exact ⟨_, rfl, r1⟩
theorem vals2 {x y : V} {us : List Value} (r : Vals [x, y] us) : ∃ u w', us = [u, w'] ∧ RelV x u ∧ RelV y w' := by
  cases r with
  | cons r1 r2 =>
    cases r2 with
    | cons r3 r4 => cases r4; exact ⟨_, _, rfl, r1, r3⟩
theorem call_abs : CallR X (.builtin "abs") (fun xs H Q => ∃ i, xs = [.int i] ∧ Q (.int (if i < 0 then -i else i)) H) := by
  intro pins s σ H xs us Q I r h
  obtain ⟨i, rfl, q⟩ := h
  obtain ⟨u, rfl, t, rfl⟩ := vals1 r
  exact call_abs_int fun u tk => ⟨.int (if i < 0 then -i else i), H, I.tok _, ⟨_, rfl⟩, q⟩
theorem call_max2 (hc : X.calm = true) : CallR X (.builtin "max") (fun xs H Q => ∃ i j, xs = [.int i, .int j] ∧ Q (.int (if j > i then j else i)) H) := by
  intro pins s σ H xs us Q I r h
  obtain ⟨i, j, rfl, q⟩ := h
  obtain ⟨u, w', rfl, ⟨t, rfl⟩, ⟨t', rfl⟩⟩ := vals2 r
  refine max_two_ints (I.ok.hd hc) fun h' tk k => ⟨_, H, I.kept k, ?_, q⟩
  by_cases hj : j > i
  · rw [if_pos hj, if_pos hj]; exact ⟨_, rfl⟩
  · rw [if_neg hj, if_neg hj]; exact ⟨_, rfl⟩
theorem call_int1 : CallR X (.type "int") (fun xs H Q => (∃ i, xs = [.int i] ∧ Q (.int i) H) ∨ ∃ k, xs = [.bl k] ∧ Q (.int (if k then 1 else 0)) H) := by
  intro pins s σ H xs us Q I r h
  rcases h with ⟨i, rfl, q⟩ | ⟨k, rfl, q⟩
  · obtain ⟨u, rfl, t, rfl⟩ := vals1 r
    exact call_int_int ⟨.int i, H, I, ⟨_, rfl⟩, q⟩
  · obtain ⟨u, rfl, r1⟩ := vals1 r
    cases r1
    exact call_int_bool ⟨.int (if k then 1 else 0), H, I.tok _, ⟨_, rfl⟩, q⟩
/-- len of a str, a bytes, a list, a tuple -/
def LenV (K : PySem.W.Frag) (x : V) (H : Hp) (n : Nat) : Prop :=
  match x with
  | .str y => y.length ≤ sizeLine ∧ n = y.length
  | .byt y => y.size ≤ sizeLine ∧ n = y.size
  | .ref p => (∃ xs, SqL K H p xs ∧ n = xs.length) ∨ ∃ xs, SqT K H p xs ∧ n = xs.length
  | _ => False
end
end L2

namespace L2
open PySem PySem.Spec PyProof.Rows

/-! ### an instance, its attributes a map -/
structure ObjM (h : Heap) (x dx C : Addr) (mA : Str → Option Value) : Prop where
  obj : h.get? x = some (PySem.W.instObj C dx)
  ns : h.Ns1 dx mA
  ne : dx ≠ x

section
variable {prog : Program} {w : World} {A : Around} {E : Value → Shared → Prop} {s : Shared} {K : PySem.W.Frag} {x dx C f : Addr} {mA : Str → Option Value} {name : Str} {v : Value}

end

/-! ### the attributes as a list of pairs -/
def putF (f : Str) (v : V) : List (Str × V) → List (Str × V)
  | [] => [(f, v)]
  | (g, x) :: r => if g = f then (g, v) :: r else (g, x) :: putF f v r
section
variable {P : Program} {w : World} {H H' : Hp} {h h' : Heap} {a C dx : Addr} {fs fs' : List (Str × V)}
end

/-! ### what of the text a class must have -/
structure Cls (K : PySem.W.Frag) (C : Addr) : Prop where
  pg : PySem.W.plainGet K C Str.empty = true
  hd : PySem.W.hasDictIn K C = true
  po : PySem.W.plainOver K C = true
  sa : PySem.W.findIn K (.ref C) "__setattr__" = some (some (.builtin "object.__setattr__"))
/-- no class of it has the name -/
def NoAttr (K : PySem.W.Frag) (C : Addr) (f : Str) : Prop := PySem.W.findIn K (.ref C) f = some none
/-- a constant of the class -/
structure Con (K : PySem.W.Frag) (C : Addr) (f : Str) (v : V) (u : Value) : Prop where
  at_ : PySem.W.findIn K (.ref C) f = some (some u)
  rel : RelV v u
  get : PySem.W.specialIn K u "__get__" = some none
  cp : PySem.W.copiedNames.contains f = false
/-- a method: a plain def of the class or of one above it -/
structure Meth (K : PySem.W.Frag) (C : Addr) (m : Str) (f : Addr) : Prop where
  at_ : PySem.W.findIn K (.ref C) m = some (some (.ref f))
  fn : PySem.W.isFn K (.ref f) = true
  kp : PySem.W.keepIn K (.ref f) = true

section
variable {X : Cx} {pins : List (Addr × Obj)} {σ : St} {H : Hp} {s : Shared} {a C dx : Addr} {fs : List (Str × V)} {f : Str} {v : V} {A : Around} {E : Value → Shared → Prop}

end

/-! ### readings and rules -/
/-- e.f, an attribute of the instance -/
def tFld (K : PySem.W.Frag) (ta : TE) (f : Str) : TE := fun σ H Q => ta σ H fun x H1 => ∃ a C dx fs v, x = .ref a ∧ H1 a = some (.ins C dx fs) ∧ Cls K C ∧ NoAttr K C f ∧ fs.lookup f = some v ∧ Q v H1
/-- e.f, a constant of the class -/
def tCon (K : PySem.W.Frag) (ta : TE) (f : Str) : TE := fun σ H Q => ta σ H fun x H1 => ∃ a C dx fs v u, x = .ref a ∧ H1 a = some (.ins C dx fs) ∧ Cls K C ∧ Con K C f v u ∧ fs.lookup f = none ∧ Q v H1
/-- e.f = value -/
def sFld (K : PySem.W.Frag) (ta tv : TE) (f : Str) : TS := fun D σ H => tv σ H fun y H1 => ta σ H1 fun x H2 => ∃ a C dx fs, x = .ref a ∧ H2 a = some (.ins C dx fs) ∧ Cls K C ∧ NoAttr K C f ∧ fs.length < 1000 ∧
  D.nx σ (upd H2 a (.ins C dx (putF f y fs)))
/-- an augmented operator on two values -/
def InOp (X : Cx) (op : Operator) (rd : V → V → Hp → VK → Prop) : Prop :=
  ∀ (pins : List (Addr × Obj)) (s : Shared) (σ : St) (H : Hp) (x y : V) (u v : Value) (Q : VK), Inv X pins σ H s → RelV x u → RelV y v → rd x y H Q → wpAny (model X.prog X.w) X.A (inplaceOp op u v) (EP X pins σ Q) X.xe s
/-- e.f op= value -/
def sFldAug (K : PySem.W.Frag) (ta tv : TE) (rd : V → V → Hp → VK → Prop) (f : Str) : TS := fun D σ H => ta σ H fun x H1 => ∃ a C dx fs v, x = .ref a ∧ H1 a = some (.ins C dx fs) ∧ Cls K C ∧ NoAttr K C f ∧ fs.lookup f = some v ∧
  tv σ H1 fun y H2 => rd v y H2 fun z H3 => ∃ dx' fs', H3 a = some (.ins C dx' fs') ∧ fs'.length < 1000 ∧ D.nx σ (upd H3 a (.ins C dx' (putF f z fs')))

section
variable {X : Cx} {o e value : Expr} {f : Str} {pos pos' tpos : Pos} {ta tv : TE}
def rAdd : V → V → Hp → VK → Prop := fun x y H Q => ∃ i j, x = .int i ∧ y = .int j ∧ Q (.int (i + j)) H
def rSub : V → V → Hp → VK → Prop := fun x y H Q => ∃ i j, x = .int i ∧ y = .int j ∧ Q (.int (i - j)) H
end

/-! ### isinstance -/
section
variable {X : Cx} {pins : List (Addr × Obj)} {σ : St} {H : Hp} {s : Shared} {A : Around} {E : Value → Shared → Prop} {Q : Value → Shared → Prop} {c : Value} {b : Bool}
/-- the type of a value, as the fragment's deciders take it; for an instance its class -/
inductive TyOf (K : PySem.W.Frag) (H : Hp) : V → Value → Prop where
  | non : TyOf K H .non (.type "NoneType")
  | bl (x : Bool) : TyOf K H (.bl x) (.type "bool")
  | int (i : Int) : TyOf K H (.int i) (.type "int")
  | str (x : Str) : TyOf K H (.str x) (.type "str")
  | flt (x : UInt64) : TyOf K H (.flt x) (.type "float")
  | lst {a : Addr} {xs : List V} (e : H a = some (.lst xs)) : TyOf K H (.ref a) (.type "list")
  | frz {a : Addr} {o : Obj} {xs : List V} (e : H a = some (.frz o (.lst xs))) : TyOf K H (.ref a) (.type "list")
  | tup {a : Addr} {xs : List V} (e : H a = some (.tup xs)) : TyOf K H (.ref a) (.type "tuple")
  | dK {a : Addr} {kvs : List (Key × V)} (e : H a = some (.dK kvs)) : TyOf K H (.ref a) (.type "dict")
  | dT {a : Addr} {kvs : List (List Key × V)} (e : H a = some (.dT kvs)) : TyOf K H (.ref a) (.type "dict")
  | ins {a C dx : Addr} {fs : List (Str × V)} (e : H a = some (.ins C dx fs)) (cl : Cls K C) (ha : PySem.W.findIn K (.ref C) "__class__" = some (some (.builtin "object.__class__")))
      (hn : PySem.W.specialIn K (.builtin "object.__class__") "__get__" = some (some (.builtin "getset_descriptor.__get__"))) (htk : PySem.W.takesIn K (.builtin "object.__class__") = some true)
      (hm : PySem.W.mroIn K C (.type "object") = some true) : TyOf K H (.ref a) (.ref C)
end
end L2

namespace L2
open PySem PySem.Spec PyProof.Rows

/-! ### room -/
structure Room (k : Nat) (A : Around) : Prop where
  hd : A.handled = none
  dp : A.depth + 3 * k + 5 < recursionLimit
  un : A.units + 16 * k + 200 < cLine
theorem Room.deeper {k : Nat} {A : Around} (r : Room (k + 1) A) (env : Env) : Room k (A.deeper env) :=
  ⟨r.hd, by have := r.dp; show A.depth + 1 + 3 * k + 5 < _; omega, by have := r.un; show A.units + 3 + 16 * k + 200 < _; omega⟩
theorem Room.depth {k : Nat} {A : Around} (r : Room k A) : A.depth < recursionLimit := by have := r.dp; omega
/-! ### argument lists and displays -/
def tNil : TA := fun _ H Q => Q [] H
def tCons (ta : TE) (tr : TA) : TA := fun σ H Q => ta σ H fun x H1 => tr σ H1 fun xs H2 => Q (x :: xs) H2
section
variable {X : Cx} {e : Expr} {es : List Expr} {te : TE} {t : TA} {pos : Pos}
theorem pa_nil : PA X [] tNil := fun _ _ _ _ H Q I h => Calls.spliced_nil ⟨[], H, I, .nil, h⟩
theorem pa_cons (ha : PE X e te) (hr : PA X es t) (hs : starEach (e :: es) X.env = (false, eval e X.env) :: starEach es X.env := by rfl) : PA X (e :: es) (tCons te t) := by
  intro pos pins s σ H Q I h
  rw [hs]
  show wpAny _ _ (spliced ((false, eval e X.env) :: backTo pos (starEach es X.env))) _ _ s
  refine Calls.spliced_cons (thn (ha pins s σ H _ I h) fun u s1 ⟨x, H1, I1, r1, q1⟩ => ?_)
  exact thn (hr pos pins s1 σ H1 _ I1 q1) fun us s2 ⟨xs, H2, I2, r2, q2⟩ => ⟨x :: xs, H2, I2, .cons r1 r2, q2⟩

/-- a tuple, a list of written items -/
def tTup (t : TA) : TE := fun σ H Q => t σ H fun xs H1 => xs.length ≤ sizeLine ∧ ∀ p, H1 p = none → Q (.ref p) (upd H1 p (.tup xs))
def tLst (t : TA) : TE := fun σ H Q => t σ H fun xs H1 => xs.length ≤ sizeLine ∧ ∀ p, H1 p = none → Q (.ref p) (upd H1 p (.lst xs))
theorem pe_tup {x1} (h : PA X es t) : PE X (.Tuple es x1 pos) (tTup t) := by
  intro pins s σ H Q I hq
  refine wpAny_Tuple_spliced (thn (h pos pins s σ H _ I hq) fun us s1 ⟨xs, H1, I1, r, z, q⟩ => ⟨by rw [← r.length]; exact z, ?_⟩)
  have hf : H1 s1.heap.objs.size = none := I1.hok.fresh (Nat.le_refl _)
  refine ⟨.ref s1.heap.objs.size, upd H1 s1.heap.objs.size (.tup xs), I1.laid (t' := s1.toks) (fun b u e => Heap.get?_push_of_some _ e) (Nat.le_refl _) ?_, rfl, q _ hf⟩
  exact ⟨z, us, r, ⟨_, Heap.get?_push_size _ rfl, rfl, _, rfl⟩⟩
theorem pe_lst (h : PA X es t) : PE X (.List es pos) (tLst t) := by
  intro pins s σ H Q I hq
  refine wpAny_List_spliced (thn (h pos pins s σ H _ I hq) fun us s1 ⟨xs, H1, I1, r, z, q⟩ => ⟨by rw [← r.length]; exact z, ?_⟩)
  have hf : H1 s1.heap.objs.size = none := I1.hok.fresh (Nat.le_refl _)
  refine ⟨.ref s1.heap.objs.size, upd H1 s1.heap.objs.size (.lst xs), I1.laid (t' := s1.toks) (fun b u e => Heap.get?_push_of_some _ e) (Nat.le_refl _) ?_, rfl, q _ hf⟩
  exact ⟨z, us, 0, r, Heap.get?_push_size _ rfl⟩
end

/-! ### what a def promises -/
/-- a def's promise: the bound arguments in the parameters' order, the heap, the wanted end, the wanted exception -/
abbrev Sp := List V → Hp → VK → XK → Prop
/-- how an exception lies behind a call (file 08 gives it): the callers' frames, abstract heap and state ahead of the call, the wish, the exception, the state -/
abbrev CXT := List Env → Hp → Shared → XK → Value → Shared → Prop

/-- the state at a call -/
structure Env0 (P : Program) (w : World) (K : PySem.W.Frag) (mg : Str → Option Value) (base : Heap) (A : Around) (outer : List Env) (s : Shared) (H : Hp) : Prop where
  frames : A.frames = some outer
  mod : Mod K mg base
  bs : ∀ b o, base.get? b = some o → s.heap.get? b = some o ∧ H b = none
  bsz : base.objs.size ≤ s.heap.objs.size
  funs : s.heap.FunFrames base outer
  frf : ∀ b ∈ frs outer, H b = none
  hok : HOk P w H s.heap
  bare : AllBare s.gens
/-- a call's end -/
def CE (outer : List Env) (P : Program) (w : World) (H : Hp) (s : Shared) (Q : VK) (u : Value) (s' : Shared) : Prop :=
  ∃ v H', s'.os = s.os ∧ AllBare s'.gens ∧ Un (frs outer) [] H H' s.heap s'.heap ∧ HOk P w H' s'.heap ∧ RelV v u ∧ Q v H'
def CR (CX : CXT) (outer : List Env) (P : Program) (w : World) (H : Hp) (s : Shared) (Q : VK) (E : XK) (r : Result) (s' : Shared) : Prop :=
  match r with
  | .ok (.ret u) => CE outer P w H s Q u s'
  | .ok _ => False
  | .error e => CX outer H s E e s'
structure FnOk (P : Program) (w : World) (K : PySem.W.Frag) (mg : Str → Option Value) (base : Heap) (CX : CXT) (k : Nat) (f : Addr) (fd : FuncData) (ps : List Str) (sp : Sp) : Prop where
  len : ∀ vs H Q E, sp vs H Q E → vs.length = ps.length
  run : ∀ (A : Around) (outer : List Env) (s : Shared) (H : Hp) (args : Args) (us : List Value) (vs : List V) (Q : VK) (E : XK), Room k A → Env0 P w K mg base A outer s H → BindsTo s fd args (ps.zip us) → Vals vs us → sp vs H Q E →
    codeAny (model P w) A (.call (.ref f) args) (CR CX outer P w H s Q E) s
section
variable {X : Cx} {pins : List (Addr × Obj)} {σ : St} {H : Hp} {s s' : Shared}
/-- from a body: what a callee wants -/
theorem Inv.env0 (I : Inv X pins σ H s) : Env0 X.prog X.w X.K X.mg X.base X.A X.stack s H :=
  ⟨I.ok.frames, I.ok.mod, I.bs, Nat.le_trans I.ok.bsz I.sz, I.stack, I.stkFree, I.hok, I.bare⟩
/-- behind a call -/
theorem Inv.after {Q : VK} {u : Value} (I : Inv X pins σ H s) (h : CE X.stack X.prog X.w H s Q u s') : EP X pins σ Q u s' := by
  obtain ⟨v, H', os, bare, un, hok, r, q⟩ := h
  obtain ⟨hh, g, d, t, os'⟩ := s'
  obtain rfl : os' = s.os := os
  exact ⟨v, H', I.call (h' := hh) (g' := g) (d' := d) (t' := t) (ch := []) un hok bare (fun b z => absurd z (by simp)), r, q⟩
end

/-! ### calls -/
/-- f(..): the written arguments, then the defaults dvs; E: what is wanted of an exception -/
def tCall (sp : Sp) (dvs : List V) (E : XK) (t : TA) : TE := fun σ H Q => t σ H fun vs H1 => sp (vs ++ dvs) H1 Q E
/-- o.m(..) of an instance of the class at C -/
def tMeth (C : Addr) (m : Str) (sp : Sp) (dvs : List V) (E : XK) (ta : TE) (t : TA) : TE := fun σ H Q => ta σ H fun x H1 => ∃ a dx fs, x = .ref a ∧ H1 a = some (.ins C dx fs) ∧ fs.lookup m = none ∧
  t σ H1 fun vs H2 => sp (x :: (vs ++ dvs)) H2 Q E
/-- C(..): a new instance and its dict, then __init__ -/
def tMake (C : Addr) (sp : Sp) (dvs : List V) (E : XK) (t : TA) : TE := fun σ H Q => t σ H fun vs H1 => ∀ x dx, H1 x = none → H1 dx = none → dx ≠ x →
  sp (.ref x :: (vs ++ dvs)) (upd (upd H1 dx (.own x)) x (.ins C dx [])) (fun v H2 => v = .non ∧ Q (.ref x) H2) E

/-- how the parameters are bound: us the positional arguments, kw the keywords' values by name, ds the defaults that fill up -/
def Binds (K : PySem.W.Frag) (fd : FuncData) (ps : List Str) (ds : List Value) : Prop :=
  ∀ (s : Shared) (us : List Value), K.In s.heap → (us ++ ds).length = ps.length → BindsTo s fd ⟨us, []⟩ (ps.zip (us ++ ds))
/-- every parameter is given -/
theorem Binds.all {K : PySem.W.Frag} {fd : FuncData} {ps : List Str} (h : ∀ us : List Value, us.length = ps.length → bindArgs fd ⟨us, []⟩ = pure (ps.zip us)) : Binds K fd ps [] := fun s us _ hl => by
  rw [List.append_nil] at hl ⊢
  exact .of_eq (h us hl)

/-- an exception of a callee reaches what this body wants of exceptions -/
def Passes (CX : CXT) (X : Cx) (E : XK) : Prop := ∀ (pins : List (Addr × Obj)) (σ : St) (H : Hp) (s : Shared) (e : Value) (s' : Shared), Inv X pins σ H s → CX X.stack H s E e s' → X.xe e s'

section
variable {X : Cx} {CX : CXT} {k : Nat} {f C : Addr} {fd : FuncData} {ps : List Str} {sp : Sp} {dvs : List V} {ds : List Value} {E : XK} {x m : Str} {p pos apos : Pos} {e o : Expr} {es : List Expr} {ta : TE} {t : TA}

/-- the callee runs -/
theorem run_fn {pins : List (Addr × Obj)} {σ : St} {H : Hp} {s : Shared} {Q : VK} {us : List Value} {vs : List V} (F : FnOk X.prog X.w X.K X.mg X.base CX k f fd ps sp) (hr : Room k X.A) (hb : Binds X.K fd ps ds) (hd : Vals dvs ds) (hx : Passes CX X E)
    (I : Inv X pins σ H s) (r : Vals vs us) (h : sp (vs ++ dvs) H Q E) : wpAny (model X.prog X.w) X.A (call (.ref f) us) (EP X pins σ Q) X.xe s := by
  have r2 : Vals (vs ++ dvs) (us ++ ds) := r.append hd
  have hl : (us ++ ds).length = ps.length := by rw [← r2.length]; exact F.len _ _ _ _ h
  refine wpAny_call (codeAny_mono (F.run X.A X.stack s H ⟨us, []⟩ (us ++ ds) (vs ++ dvs) Q E hr I.env0 (hb s us I.kIn hl) r2 h) fun r s' hq => ?_)
  cases r with
  | error e => exact hx pins σ H s e s' I hq
  | ok fl =>
    cases fl with
    | ret u => exact I.after hq
    | next => exact False.elim hq
    | brk => exact False.elim hq
    | cont => exact False.elim hq

theorem pe_call (F : FnOk X.prog X.w X.K X.mg X.base CX k f fd ps sp) (hr : Room k X.A) (hg : Gl X x) (hm : X.mg x = some (.ref f)) (hk : PySem.W.keepIn X.K (.ref f) = true) (hb : Binds X.K fd ps ds) (hd : Vals dvs ds) (hx : Passes CX X E)
    (ha : PA X (e :: es) t) (hdb : (x == ("__debug__" : Str)) = false := by decide) (he : starEach (e :: es) X.env = (false, eval e X.env) :: starEach es X.env := by rfl) (hpl : (backTo pos (starEach es X.env)).any (·.1) = false := by rfl) :
    PE X (.Call (.Name x p) (e :: es) [] pos) (tCall sp dvs E t) := by
  intro pins s σ H Q I h
  refine wpAny_Call_Name_kw (ld_glob I hg hm ?_ hdb)
  refine PySem.W.callWith_K (h₀ := X.base) I.ok.mod.kin hk (thn (ha pos pins s σ H _ I h) fun us s1 ⟨vs, H1, I1, r, q⟩ => ⟨I1.kIn, ?_⟩) he hpl
  exact run_fn F hr hb hd hx I1 r q
/-- what a class must have to be made -/
structure Mk (K : PySem.W.Frag) (C f : Addr) : Prop where
  makes : PySem.W.makesIn K C = true
  init : PySem.W.findIn K (.ref C) "__init__" = some (some (.ref f))
  fn : PySem.W.isFn K (.ref f) = true
  kp : PySem.W.keepIn K (.ref C) = true

end

/-! ### keywords -/
/-- the values of the keywords, from the left -/
def PK (X : Cx) (kws : List Keyword) (t : TA) : Prop :=
  ∀ (pos : Pos) (pins : List (Addr × Obj)) (s : Shared) (σ : St) (H : Hp) (Q : List V → Hp → Prop), Inv X pins σ H s → t σ H Q → wpAny (model X.prog X.w) X.A (evalAll ((backToKw pos (keywordEach kws X.env)).map (·.2))) (AP X pins σ Q) X.xe s
section
variable {X : Cx} {CX : CXT} {k : Nat} {f C : Addr} {fd : FuncData} {ps ks : List Str} {sp : Sp} {E : XK} {x m : Str} {p pos apos kpos : Pos} {e o : Expr} {es : List Expr} {kws : List Keyword} {te ta : TE} {t tk : TA} {nm : Option Str}
/-- how a call with keywords binds: g puts the positional values us and the keywords' values ws (names ks) in the parameters' order, defaults among them -/
structure KBinds (K : PySem.W.Frag) (fd : FuncData) (ps ks : List Str) (g : List Value → List Value → List Value) (gV : List V → List V → List V) : Prop where
  to : ∀ (s : Shared) (us ws : List Value), K.In s.heap → (g us ws).length = ps.length → BindsTo s fd ⟨us, ks.zip ws⟩ (ps.zip (g us ws))
  rel : ∀ {vs : List V} {us : List Value} {zs : List V} {ws : List Value}, Vals vs us → Vals zs ws → Vals (gV vs zs) (g us ws)
def tCallK (sp : Sp) (gV : List V → List V → List V) (E : XK) (t tk : TA) : TE := fun σ H Q => t σ H fun vs H1 => tk σ H1 fun zs H2 => sp (gV vs zs) H2 Q E
variable {g : List Value → List Value → List Value} {gV : List V → List V → List V}
end

/-! ### a def's body keeps its promise -/
/-- names: the parameters first -/
structure FnScope (N P : List Str) (sc : Scope) : Prop where
  kind : sc.kind = .function
  co : sc.isCoroutine = false
  gen : sc.isGenerator = false
  nd : N.Nodup
  pre : N.take P.length = P
  par : ∀ x ∈ P, sc.names.lookup x = some .local ∨ sc.names.lookup x = some .cell
  nofree : ∀ y ∈ sc.names, y.2 ≠ .free

theorem bindL_out {kindOf : Str → Option NameKind} {x : Str} : ∀ {binds : List (Str × Value)} {m : Str → Option Value}, (∀ v, (x, v) ∉ binds) → bindL kindOf binds m x = m x
  | [], _, _ => rfl
  | (n, v) :: r, m, h => by
    unfold bindL
    rw [bindL_out fun w hw => h w (List.mem_cons_of_mem _ hw)]
    split
    · have : x ≠ n := by rintro rfl; exact h v List.mem_cons_self
      simp [this]
    · rfl
theorem bindC_out {kindOf : Str → Option NameKind} {x : Str} : ∀ {binds : List (Str × Value)} {m : Str → Option Value}, (∀ v, (x, v) ∉ binds) → bindC kindOf binds m x = m x
  | [], _, _ => rfl
  | (n, v) :: r, m, h => by
    unfold bindC
    rw [bindC_out fun w hw => h w (List.mem_cons_of_mem _ hw)]
    split
    · rfl
    · have : x ≠ n := by rintro rfl; exact h v List.mem_cons_self
      simp [this]
theorem bindL_get {kindOf : Str → Option NameKind} {x : Str} {v : Value} : ∀ {P : List Str} {vs : List Value} {i : Nat} {m : Str → Option Value}, P.Nodup → P[i]? = some x → vs[i]? = some v → kindOf x = some .local →
    bindL kindOf (P.zip vs) m x = some v
  | [], _, _, _, _, h, _, _ => by simp at h
  | _ :: _, [], _, _, _, _, h, _ => by simp at h
  | p :: P, w :: vs, 0, m, nd, h1, h2, hk => by
    simp at h1 h2; subst h1; subst h2
    show bindL kindOf ((p, w) :: P.zip vs) m p = _
    unfold bindL
    rw [bindL_out fun v hv => (List.nodup_cons.mp nd).1 (List.of_mem_zip hv).1, if_pos hk]
    simp
  | p :: P, w :: vs, i + 1, m, nd, h1, h2, hk => by
    show bindL kindOf ((p, w) :: P.zip vs) m x = _
    unfold bindL
    exact bindL_get (i := i) (List.nodup_cons.mp nd).2 (by simpa using h1) (by simpa using h2) hk
theorem bindC_get {kindOf : Str → Option NameKind} {x : Str} {v : Value} : ∀ {P : List Str} {vs : List Value} {i : Nat} {m : Str → Option Value}, P.Nodup → P[i]? = some x → vs[i]? = some v → kindOf x ≠ some .local →
    bindC kindOf (P.zip vs) m x = some v
  | [], _, _, _, _, h, _, _ => by simp at h
  | _ :: _, [], _, _, _, _, h, _ => by simp at h
  | p :: P, w :: vs, 0, m, nd, h1, h2, hk => by
    simp at h1 h2; subst h1; subst h2
    show bindC kindOf ((p, w) :: P.zip vs) m p = _
    unfold bindC
    rw [bindC_out fun v hv => (List.nodup_cons.mp nd).1 (List.of_mem_zip hv).1, if_neg hk]
    simp
  | p :: P, w :: vs, i + 1, m, nd, h1, h2, hk => by
    show bindC kindOf ((p, w) :: P.zip vs) m x = _
    unfold bindC
    exact bindC_get (i := i) (List.nodup_cons.mp nd).2 (by simpa using h1) (by simpa using h2) hk

/-- the names' values at the entry -/
def start (N : List Str) (vs : List V) : St := vs.map some ++ List.replicate (N.length - vs.length) none

/-- the context of a def's body, at its entry; an exception leaves the frame, then lies as CX says -/
def cxOf (CX : CXT) (P : Program) (w : World) (K : PySem.W.Frag) (mg : Str → Option Value) (base : Heap) (N : List Str) (qual : Str) (scope : Scope) (f : Addr) (cd : Value) (A : Around) (outer : List Env) (s : Shared) (H : Hp) (E : XK) : Cx where
  prog := P
  w := w
  K := K
  mg := mg
  base := base
  A := A.deeper (envOfC qual scope s.heap.objs.size f cd)
  N := N
  s₀ := s
  H₀ := H
  env := envOfC qual scope s.heap.objs.size f cd
  outer := outer
  stack := envOfC qual scope s.heap.objs.size f cd :: outer
  ex := []
  calm := true
  fn := fun _ => true
  pn := []
  xe := fun e s' => wpAny (model P w) (A.deeper (envOfC qual scope s.heap.objs.size f cd)) (leaving (envOfC qual scope s.heap.objs.size f cd) e) (fun _ s'' => CX outer H s E e s'') (fun e' s'' => CX outer H s E e' s'') s'

theorem cell_has {sc : Scope} {n : Nat} {x : Str} (h : sc.names.lookup x = some .cell) : ∃ c, (cellsFrom n sc.names []).lookup x = some c := by
  have q := PySem.W.cellsFrom_some sc.names n [] (.inl h)
  exact Option.isSome_iff_exists.mp q

theorem inv_start {CX : CXT} {P : Program} {w : World} {K : PySem.W.Frag} {mg : Str → Option Value} {base : Heap} {N ps : List Str} {qual : Str} {scope : Scope} {f : Addr} {cd : Value} {A : Around} {outer : List Env} {s s1 : Shared} {H : Hp} {E : XK} {us : List Value} {vs : List V}
    (S : FnScope N ps scope) (hd : A.handled = none) (e0 : Env0 P w K mg base A outer s H) (hl : vs.length = ps.length) (r : Vals vs us)
    (x : InCallC s s.heap.objs.size (bindL (envOfC qual scope s.heap.objs.size f cd).kindOf (ps.zip us) fun _ => none) (cellsFrom (s.heap.objs.size + 1) scope.names []) (bindC (envOfC qual scope s.heap.objs.size f cd).kindOf (ps.zip us) fun _ => none) s1) :
    Inv (cxOf CX P w K mg base N qual scope f cd A outer s H E) [] (start N vs) H s1 := by
  have hpl : ps.length ≤ N.length := by have := congrArg List.length S.pre; rw [List.length_take] at this; omega
  obtain ⟨h1, tk, rfl, hk⟩ := x.done
  have noA : ∀ b : Addr, b ∉ (cxOf CX P w K mg base N qual scope f cd A outer s H E).ex := fun b z => absurd (show b ∈ ([] : List Addr) from z) (by simp)
  refine ⟨⟨e0.mod, S.kind, rfl, rfl, Nat.le_refl _, fun y z c h1 h2 => ?_, fun y hy => ?_, fun y c _ h => ?_, fun _ => hd, Around.frames_deeper e0.frames, .inr ⟨rfl, rfl⟩, fun b z => absurd z (noA b), e0.bs, e0.bsz, fun b _ _ => noA b, fun b z => absurd z (noA b), e0.funs, e0.frf⟩,
    rfl, e0.bare, Un.kept hk, ⟨_, x.toInCall.ns, fun i y v h1 h2 h3 => ?_⟩, fun y c h => ⟨_, x.cell y c h⟩, e0.hok.fresh (Nat.le_refl _), fun y c h => ?_, fun p hp => absurd (show p ∈ ([] : List (Addr × Obj)) from hp) (by simp), e0.hok.kept hk, ?_⟩
  · exact name_of_addr x.apart (PySem.mem_of_lookup h1) (PySem.mem_of_lookup h2)
  · have hy : scope.names.lookup y = some .cell ∨ scope.names.lookup y = some .free := hy
    rcases hy with hy | hy
    · exact cell_has hy
    · exact absurd rfl (S.nofree _ (PySem.mem_of_lookup hy))
  · exact Nat.le_of_lt (x.above y c (PySem.mem_of_lookup h))
  · have hi : i < vs.length := by
      unfold start at h2
      by_cases hi : i < vs.length
      · exact hi
      · rw [List.getElem?_append_right (by simpa using hi)] at h2
        rw [List.getElem?_replicate] at h2
        split at h2 <;> cases h2
    have ha : vs[i]? = some v := by
      unfold start at h2
      rw [List.getElem?_append_left (by simpa using hi), List.getElem?_map] at h2
      cases e : vs[i]? with
      | none => rw [e] at h2; cases h2
      | some a => rw [e] at h2; cases h2; rfl
    obtain ⟨u, hu, rv⟩ := r.get ha
    have hp : ps[i]? = some y := by
      rw [← S.pre, List.getElem?_take_of_lt (by omega)]; exact h1
    have ndP : ps.Nodup := by rw [← S.pre]; exact S.nd.sublist (List.take_sublist _ _)
    refine ⟨u, rv, ?_⟩
    rcases S.par y (List.mem_of_getElem? hp) with k | k
    · exact .inl ⟨k, bindL_get ndP hp hu k⟩
    · obtain ⟨c, e⟩ := cell_has (n := s.heap.objs.size + 1) k
      refine .inr ⟨.inl k, c, e, ?_⟩
      have q := x.cell y c e
      rw [bindC_get ndP hp hu (by show scope.names.lookup y ≠ _; rw [k]; decide)] at q
      exact q
  · exact e0.hok.fresh (Nat.le_of_lt (x.above y c (PySem.mem_of_lookup h)))
  · unfold start
    show _ = N.length
    rw [List.length_append, List.length_map, List.length_replicate]
    omega

/-- THE RULE: a def (or a method) of the text, by its body. The body's reading t is chosen for each entry; it is run at the parameters' values -/
theorem fn_of {CX : CXT} {P : Program} {w : World} {K : PySem.W.Frag} {mg : Str → Option Value} {base : Heap} {k : Nat} {f : Addr} {name qual : Str} {params : Arguments} {body : List Stmt} {scope : Scope} {dV kV doc pm cdv ct oc : Value} {an od : Option Addr}
    {osl : Array (Option Value)} {N ps : List Str} {sp : Sp} (lk : K.lookup f = some ⟨oc, od, .func (PySem.W.fnOf name qual params body scope dV kV doc pm an cdv ct), osl⟩) (hcd : PySem.W.codeIn K cdv qual = true) (S : FnScope N ps scope)
    (len : ∀ vs H Q E, sp vs H Q E → vs.length = ps.length)
    (hbody : ∀ (A : Around) (outer : List Env) (s : Shared) (H : Hp) (vs : List V) (Q : VK) (E : XK), Room k (A.deeper (envOfC qual scope s.heap.objs.size f cdv)) → sp vs H Q E →
      ∃ t, PSs (cxOf CX P w K mg base N qual scope f cdv A outer s H E) body t ∧ t { nx := fun _ H' => Q .non H', rt := Q } (start N vs) H) :
    FnOk P w K mg base CX (k + 1) f (PySem.W.fnOf name qual params body scope dV kV doc pm an cdv ct) ps sp := by
  refine ⟨len, fun A outer s H args us vs Q E hr e0 hb r hsp => ?_⟩
  have hl := len _ _ _ _ hsp
  have KX : K.In s.heap := e0.mod.kin.keeps fun b o e => (e0.bs b o e).1
  have lim : s.heap.NoLimit := e0.mod.nolimit.keeps fun b o e => (e0.bs b o e).1
  have hkind : ∀ y ∈ ps.zip us, scope.names.lookup y.1 = some .local ∨ (scope.names.lookup y.1 = some .cell ∧ ((cellsFrom (s.heap.objs.size + 1) scope.names []).lookup y.1).isSome = true) := fun ⟨n, v⟩ hy => by
    rcases S.par n (List.of_mem_zip hy).1 with q | q
    · exact .inl q
    · exact .inr ⟨q, PySem.W.cellsFrom_some _ _ _ (.inl q)⟩
  refine codeAny_call_function hr.depth (KX _ _ lk) rfl S.co S.gen rfl (PySem.W.codeRec_of KX hcd) (hb _ _ _ _ ?_)
  refine wpAny_newFunctionEnv_cells S.kind hkind fun env he s1 x => ?_
  subst he
  refine ⟨lim.keeps x.toInCall.keep, codeAny_func ?_⟩
  obtain ⟨t, ht, hq⟩ := hbody A outer s H vs Q E (hr.deeper _) hsp
  have I : Inv (cxOf CX P w K mg base N qual scope f cdv A outer s H E) [] (start N vs) H s1 := inv_start S hr.hd e0 hl r x
  refine wpAny_mono (ht [] s1 (start N vs) H _ I hq) (fun fl s' hs => ?_) fun e s' hs => hs
  have fin : ∀ {σ' : St} {H' : Hp} {v : V} {u : Value}, Inv (cxOf CX P w K mg base N qual scope f cdv A outer s H E) [] σ' H' s' → RelV v u → Q v H' → CE outer P w H s Q u s' :=
    fun {σ' H' v u} J rv q => ⟨v, H', J.os, J.bare, J.base, J.hok, rv, q⟩
  cases fl with
  | ret u =>
    obtain ⟨v, σ', H', J, rv, q⟩ := hs
    exact fin J rv q
  | next =>
    obtain ⟨σ', H', J, q⟩ := hs
    exact fin (v := V.non) (u := Value.none) J rfl q
  | brk =>
    obtain ⟨_, _, _, q⟩ := hs
    exact False.elim q
  | cont =>
    obtain ⟨_, _, _, q⟩ := hs
    exact False.elim q
end L2

namespace L2
open PySem PySem.Spec PyProof.Rows
section
variable {X : Cx} {x : Str} {p pos : Pos} {e : Expr} {es : List Expr} {t : TA} {id T : String} {r : List V → Hp → VK → Prop}

def tCB (r : List V → Hp → VK → Prop) (t : TA) : TE := fun σ H Q => t σ H fun vs H1 => r vs H1 Q
/-- f(e, ..), f a built-in function -/
theorem pe_callB (hc : CallR X (.builtin id) r) (hg : Gl X x) (hm : X.mg x = none) (hv : bootBuiltins x = some (.builtin id)) (ha : PA X (e :: es) t) (hn : x ≠ "__name__" := by decide) (hdb : (x == ("__debug__" : Str)) = false := by decide)
    (he : starEach (e :: es) X.env = (false, eval e X.env) :: starEach es X.env := by rfl) (hpl : (backTo pos (starEach es X.env)).any (·.1) = false := by rfl) : PE X (.Call (.Name x p) (e :: es) [] pos) (tCB r t) := by
  intro pins s σ H Q I h
  refine wpAny_Call_Name_kw (ld_blt I hg hm hv ?_ hn hdb)
  exact PyProof.Rows.callWith_builtin1 (thn (ha pos pins s σ H _ I h) fun us s1 ⟨vs, H1, I1, r1, q1⟩ => hc pins s1 σ H1 vs us Q I1 r1 q1) he hpl
/-- T(e, ..), T a built-in type -/
theorem pe_callTy (hc : CallR X (.type T) r) (hg : Gl X x) (hm : X.mg x = none) (hv : bootBuiltins x = some (.type T)) (ha : PA X (e :: es) t) (hn : x ≠ "__name__" := by decide) (hdb : (x == ("__debug__" : Str)) = false := by decide)
    (he : starEach (e :: es) X.env = (false, eval e X.env) :: starEach es X.env := by rfl) (hpl : (backTo pos (starEach es X.env)).any (·.1) = false := by rfl) : PE X (.Call (.Name x p) (e :: es) [] pos) (tCB r t) := by
  intro pins s σ H Q I h
  refine wpAny_Call_Name_kw (ld_blt I hg hm hv ?_ hn hdb)
  exact PyProof.Rows.callWith_type1 (thn (ha pos pins s σ H _ I h) fun us s1 ⟨vs, H1, I1, r1, q1⟩ => hc pins s1 σ H1 vs us Q I1 r1 q1) he hpl
end
end L2

namespace HT
open PySem PyProof.Rows

/-- t < u of tuples of ints -/
def lexLt : List Int → List Int → Bool
  | [], [] => false
  | [], _ :: _ => true
  | _ :: _, [] => false
  | x :: xs, y :: ys => if x = y then lexLt xs ys else decide (x < y)
section
open PySem.SeqAt
open PySem.AutoSeq1 (wpAny_loadPart')
open PySem.MeetsSeq PySem.MeetsSeq2 PySem.MeetsSeq3

end

section
variable {prog : Program} {w : World} {A : Around} {E : Value → Shared → Prop} {s : Shared}

/-- t + u, t not empty -/
theorem cat_tup {t b : Addr} {vs ws : List Value} {Q : Value → Shared → Prop} (ht : IsTup s.heap t vs.toArray) (hb : IsTup s.heap b ws.toArray) (hv : vs ≠ [])
    (h1 : ws = [] → Q (.ref t) s) (h2 : ws ≠ [] → Q (.ref s.heap.objs.size) { s with heap := s.heap.push { cls := .type "tuple", data := .seq (vs ++ ws).toArray } })
    (hsz : vs.length + ws.length ≤ sizeLine) : wpAny (model prog w) A (binaryOp .Add (.ref t) (.ref b)) Q E s := by
  obtain ⟨⟨cls, dd, data, sl⟩, ho, hc, n, hd⟩ := id ht
  obtain ⟨⟨cls2, dd2, data2, sl2⟩, ho2, hc2, n2, hd2⟩ := id hb
  simp only at hc hd hc2 hd2
  subst hc hd hc2 hd2
  have e : vs.toArray ++ ws.toArray = (vs ++ ws).toArray := by simp
  by_cases hw : ws = []
  · exact concat_meets ⟨_, ho, rfl⟩ ⟨_, ho2, rfl⟩ noFill_tuple_add seq_tuple_add PySem.F.slot_tuple_add PySem.F.entry_tuple_add (PySem.F.args_tuple_add_2 _ _)
      (tuple_addW1 t b vs.toArray ws.toArray n n2 dd dd2 sl sl2 (by simpa using hv) (by simp [hw])) ⟨ho, ho2, h1 hw⟩
  · refine concat_meets ⟨_, ho, rfl⟩ ⟨_, ho2, rfl⟩ noFill_tuple_add seq_tuple_add PySem.F.slot_tuple_add PySem.F.entry_tuple_add (PySem.F.args_tuple_add_2 _ _)
      (tuple_addW2 t b vs.toArray ws.toArray n n2 dd dd2 sl sl2 (by simpa using hv) (by simpa using hw) (by rw [List.size_toArray, List.size_toArray]; exact hsz)) ⟨ho, ho2, ?_⟩
    rw [e]
    exact h2 hw

/-! ### t[a:b], not the whole -/
/-- a slice's bound as a place among n (d where it is left out) -/
def sIx (n d : Nat) : Option Int → Nat
  | none => d
  | some v => if v < 0 then (v + (n : Int)).toNat else min v.toNat n
theorem sIx_le (n d : Nat) (hd : d ≤ n) (o : Option Int) : sIx n d o ≤ n := by
  cases o with
  | none => exact hd
  | some v =>
    show (if v < 0 then (v + (n : Int)).toNat else min v.toNat n) ≤ n
    by_cases hv : v < 0
    · rw [if_pos hv]; omega
    · rw [if_neg hv]; exact Nat.min_le_right _ _
theorem clip_eq (v : Int) (n d : Nat) : (if v < 0 then max (v + (n : Int)) 0 else min v (n : Int)) = ((sIx n d (some v) : Nat) : Int) := by
  show (if v < 0 then max (v + (n : Int)) 0 else min v (n : Int)) = (((if v < 0 then (v + (n : Int)).toNat else min v.toNat n) : Nat) : Int)
  by_cases hv : v < 0
  · simp only [if_pos hv]; omega
  · simp only [if_neg hv]; omega
theorem adjust_gen (lo hi : Option Int) (n : Nat) : Builtin.Slice.sliceAdjust lo hi 1 (n : Int) = (((sIx n 0 lo : Nat) : Int), ((sIx n n hi : Nat) : Int)) := by
  have h1 : ¬ ((1 : Int) < 0) := by omega
  unfold Builtin.Slice.sliceAdjust
  simp only [h1, if_false]
  refine Prod.ext ?_ ?_
  · cases lo with
    | none => rfl
    | some v => exact clip_eq v n 0
  · cases hi with
    | none => rfl
    | some v => exact clip_eq v n n
theorem places_gen (i j : Nat) : Builtin.Slice.slicePlaces (i : Int) (j : Int) 1 = j - i := by
  unfold Builtin.Slice.slicePlaces
  have h1 : (1 : Int) > 0 := by omega
  simp only [h1, if_true, Int.ediv_one]
  split <;> omega
theorem slicePart_ {v : Value} {o : Option Int} {Q : Option Int → Shared → Prop} (p : IsPart v o) (h : Q o s) : wpAny (model prog w) A (Builtin.Slice.slicePartIndex v) Q E s := by
  cases p with
  | none => exact slicePart_none h
  | int i t => exact slicePart_int h
theorem sliceApplied_gen {sl : Addr} {vl vu : Value} {lo hi : Option Int} {n : Nat} {Q : Int × Int × Nat → Shared → Prop} (hs : s.heap.IsSliceOf sl vl vu .none) (pl : IsPart vl lo) (pu : IsPart vu hi)
    (h : Q (((sIx n 0 lo : Nat) : Int), 1, sIx n n hi - sIx n 0 lo) s) : wpAny (model prog w) A (Builtin.Slice.sliceApplied (.ref sl) (pure (n : Int))) Q E s := by
  obtain ⟨os, hos, hcs, hds⟩ := id hs
  unfold Builtin.Slice.sliceApplied Builtin.Slice.sliceFields
  refine wpAny_bind (wpAny_bind (wpAny_field hos hds (x := vl) rfl (wpAny_bind (wpAny_field hos hds (x := vu) rfl (wpAny_bind (wpAny_field hos hds (x := .none) rfl (wpAny_pure ?_)))))))
  refine wpAny_bind (slicePart_none ?_)
  show wpAny _ _ (if ((1 : Int) == 0) = true then _ else _) _ _ s
  rw [if_neg (by decide)]
  refine wpAny_bind (slicePart_ pl (wpAny_bind (slicePart_ pu (wpAny_bind (wpAny_pure ?_)))))
  show wpAny _ _ (match Builtin.Slice.sliceAdjust lo hi 1 (n : Int) with | (lo, hi) => pure (lo, (1 : Int), Builtin.Slice.slicePlaces lo hi 1)) _ _ s
  rw [adjust_gen lo hi n]
  show wpAny _ _ (pure (((sIx n 0 lo : Nat) : Int), (1 : Int), Builtin.Slice.slicePlaces ((sIx n 0 lo : Nat) : Int) ((sIx n n hi : Nat) : Int) 1)) _ _ s
  rw [places_gen]
  exact wpAny_pure h
theorem pick_gen (xs : Array Value) (i k : Nat) : ((List.range k).filterMap fun (m : Nat) => xs[((i : Int) + (m : Int) * 1).toNat]?).toArray = ((xs.toList.drop i).take k).toArray := by
  have e : (fun (m : Nat) => xs[((i : Int) + (m : Int) * 1).toNat]?) = fun m => xs[i + m]? := by
    funext m
    have : ((i : Int) + (m : Int) * 1).toNat = i + m := by omega
    rw [this]
  rw [e]
  have := pick_run xs i k
  rw [List.filterMap_map] at this
  have e2 : ((fun x => xs[x]?) ∘ fun x => i + x) = fun m => xs[i + m]? := rfl
  rw [e2] at this
  rw [this]

theorem getItem_tuple_cut {t sl : Addr} {items : Array Value} {vl vu : Value} {lo hi : Option Int} {Q : Value → Shared → Prop} (ht : IsTup s.heap t items) (hs : s.heap.IsSliceOf sl vl vu .none) (pl : IsPart vl lo) (pu : IsPart vu hi)
    (hw : ¬ (sIx items.size 0 lo = 0 ∧ sIx items.size items.size hi = items.size))
    (h : Q (.ref s.heap.objs.size) { s with heap := s.heap.push { cls := .type "tuple", data := .seq ((items.toList.drop (sIx items.size 0 lo)).take (sIx items.size items.size hi - sIx items.size 0 lo)).toArray } })
    (hsz : items.size ≤ sizeLine) : wpAny (model prog w) A (getItem (.ref t) (.ref sl)) Q E s := by
  have htake : sizeOk (.seq ((items.toList.drop (sIx items.size 0 lo)).take (sIx items.size items.size hi - sIx items.size 0 lo)).toArray) := by
    show ((items.toList.drop (sIx items.size 0 lo)).take (sIx items.size items.size hi - sIx items.size 0 lo)).toArray.size ≤ sizeLine
    rw [List.size_toArray, List.length_take, List.length_drop, Array.length_toList]
    omega
  have hj : sIx items.size items.size hi ≤ items.size := sIx_le _ _ (Nat.le_refl _) hi
  obtain ⟨os, hos, hcs, hds⟩ := id hs
  have hTs : s.TypeIs (.ref sl) "slice" := ⟨os, hos, hcs⟩
  unfold getItem
  try with_reducible refine wpAny_holding ?_
  first | refine wpAny_bind (wpAny_pure ?_) | skip
  refine wpAny_bind (wpAny_sequenceKey ht.typeIs (by decide) ?_)
  refine wpAny_bind (wpAny_callSpecial?_slot (name := Str.ofString "__getitem__") ht.typeIs PyProof.Rows.slot_tuple_getitem
    (wpAny_call_entry PyProof.Rows.slot_tuple_getitem ht.typeIs entry_tuple_getitem ?_ (args_tuple_getitem _ _)))
  show wpAny _ _ (Builtin.Tuple.tupleItemsOf (.ref t) >>= _) _ _ s
  refine wpAny_bind (tupleItemsOf_ ht ?_)
  refine wpAny_bind (wpAny_typeOf hTs ?_)
  rw [if_pos (by decide)]
  refine wpAny_bind (sliceApplied_gen hs pl pu ?_)
  have hno : ¬ ((((sIx items.size 0 lo : Nat) : Int) == 0 && (1 : Int) == 1 && (sIx items.size items.size hi - sIx items.size 0 lo) == items.size) = true) := by
    intro q
    rw [Bool.and_eq_true, Bool.and_eq_true] at q
    have q1 : ((sIx items.size 0 lo : Nat) : Int) = 0 := eq_of_beq q.1.1
    have q2 : sIx items.size items.size hi - sIx items.size 0 lo = items.size := eq_of_beq q.2
    exact hw ⟨by omega, by omega⟩
  show wpAny _ _ (if (((sIx items.size 0 lo : Nat) : Int) == 0 && (1 : Int) == 1 && (sIx items.size items.size hi - sIx items.size 0 lo) == items.size) = true then _ else _) _ _ s
  rw [if_neg hno, pick_gen]
  first
    | exact wpAny_bind (m := Builtin.Tuple.tupleExact _) (wpAny_newObj_type (wpAny_pure ⟨_, rfl, wpAny_pure h⟩) htake)
    | exact wpAny_bind (m := Builtin.Tuple.tupleExact _) (wpAny_newObj_type (wpAny_bind (wpAny_pure (wpAny_pure ⟨_, rfl, wpAny_pure h⟩))) htake)
    | exact wpAny_bind (wpAny_bind (m := Builtin.Tuple.tupleExact _) (wpAny_newObj_type (wpAny_pure (wpAny_pure ⟨_, rfl, wpAny_pure h⟩)) htake))
    | exact wpAny_bind (wpAny_bind (m := Builtin.Tuple.tupleExact _) (wpAny_newObj_type (wpAny_pure ⟨_, rfl, wpAny_pure h⟩) htake))
end
end HT

namespace L2
open PySem PySem.Spec PyProof.Rows

/-! ### the parts of a slice -/
abbrev TO := St → Hp → (Option Int → Hp → Prop) → Prop
/-- a slice's part (left out, or an int) -/
def PO (X : Cx) (e : Option Expr) (t : TO) : Prop :=
  ∀ (pins : List (Addr × Obj)) (s : Shared) (σ : St) (H : Hp) (Q : Option Int → Hp → Prop), Inv X pins σ H s → t σ H Q →
    wpAny (model X.prog X.w) X.A (evalPart e X.env) (fun u s' => ∃ o H', Inv X pins σ H' s' ∧ IsPart u o ∧ Q o H') X.xe s
def tNoPart : TO := fun _ H Q => Q none H
def tPart (t : TE) : TO := fun σ H Q => t σ H fun x H1 => ∃ i, x = .int i ∧ Q (some i) H1

section
variable {X : Cx} {e : Expr} {te : TE} {lo hi : Option Expr} {tl th : TO} {pos p2 : Pos}

theorem po_none : PO X none tNoPart := by
  intro pins s σ H Q I h
  rw [evalPart_none]
  exact wpAny_pure ⟨none, H, I, .none, h⟩
theorem po_some (h : PE X e te) : PO X (some e) (tPart te) := by
  intro pins s σ H Q I hw
  rw [evalPart_some]
  refine thn (h pins s σ H _ I hw) fun u s1 ⟨x, H1, I1, r1, q1⟩ => ?_
  obtain ⟨i, rfl, q⟩ := q1
  obtain ⟨t, rfl⟩ := r1
  exact ⟨some i, H1, I1, .int i t, q⟩

/-- what a slice of a value is, by values: the slice object stands at sl -/
def SlR (X : Cx) (r : V → Option Int → Option Int → Hp → VK → Prop) : Prop :=
  ∀ (pins : List (Addr × Obj)) (s : Shared) (σ : St) (H : Hp) (x : V) (v vl vu : Value) (lo hi : Option Int) (sl : Addr) (Q : VK), Inv X pins σ H s → RelV x v → s.heap.IsSliceOf sl vl vu .none → IsPart vl lo → IsPart vu hi → r x lo hi H Q →
    ∃ T id, typeLookup (.type T) "__getitem__" = pure (some (.builtin id)) ∧ s.TypeIs v T ∧ wpAny (model X.prog X.w) X.A (getItem v (.ref sl)) (EP X pins σ Q) X.xe s
def tSl (r : V → Option Int → Option Int → Hp → VK → Prop) (te : TE) (tl th : TO) : TE := fun σ H Q => te σ H fun x H1 => tl σ H1 fun l H2 => th σ H2 fun u H3 => r x l u H3 Q
/-- a[lo:hi], any a -/
theorem pe_slice {r : V → Option Int → Option Int → Hp → VK → Prop} (hr : SlR X r) (he : PE X e te) (hl : PO X lo tl) (hu : PO X hi th) : PE X (.Subscript e (.Slice lo hi none p2) pos) (tSl r te tl th) := by
  intro pins s σ H Q I h
  refine Subscript_ (thn (he pins s σ H _ I h) fun v s1 ⟨x, H1, I1, r1, q1⟩ => ?_)
  refine wpAny_Slice (thn (hl pins s1 σ H1 _ I1 q1) fun vl s2 ⟨l, H2, I2, pl, q2⟩ => thn (hu pins s2 σ H2 _ I2 q2) fun vu s3 ⟨u, H3, I3, pu, q3⟩ => ?_)
  rw [evalPart_none]
  refine wpAny_pure ?_
  have I4 : Inv X pins σ H3 { s3 with heap := s3.heap.push { cls := .type "slice", data := .fields #[vl, vu, .none] } } := I3.kept (t' := s3.toks) fun b ob q => Heap.get?_push_of_some _ q
  obtain ⟨T, id, hT, ht, hg⟩ := hr pins { s3 with heap := s3.heap.push { cls := .type "slice", data := .fields #[vl, vu, .none] } } σ H3 x v vl vu l u s3.heap.objs.size Q I4 r1 (Heap.IsSliceOf.new ..) pl pu q3
  show wpAny (model X.prog X.w) X.A (subscriptTail e (.Slice lo hi none p2) v (.ref s3.heap.objs.size)) (EP X pins σ Q) X.xe { s3 with heap := s3.heap.push { cls := .type "slice", data := .fields #[vl, vu, .none] } }
  exact tail_any (ops := [.ref s3.heap.objs.size, v]) ht hT hg (by with_unfolding_all rfl)

/-- the items of xs[lo:hi] -/
def cutV (xs : List V) (lo hi : Option Int) : List V := (xs.drop (HT.sIx xs.length 0 lo)).take (HT.sIx xs.length xs.length hi - HT.sIx xs.length 0 lo)
theorem cutV_length (xs : List V) (lo hi : Option Int) : (cutV xs lo hi).length ≤ xs.length := by
  unfold cutV
  rw [List.length_take, List.length_drop]
  omega
/-- t[lo:hi], not the whole of it (the whole would be t itself) -/
def rSlT (K : PySem.W.Frag) : V → Option Int → Option Int → Hp → VK → Prop := fun x lo hi H Q => ∃ a xs, x = .ref a ∧ SqT K H a xs ∧
  ¬ (HT.sIx xs.length 0 lo = 0 ∧ HT.sIx xs.length xs.length hi = xs.length) ∧ ∀ p, H p = none → Q (.ref p) (upd H p (.tup (cutV xs lo hi)))
theorem sl_tup : SlR X (rSlT X.K) := by
  intro pins s σ H x v vl vu lo hi sl Q I rx hs pl pu h
  obtain ⟨a, xs, rfl, hx, hw, q⟩ := h
  cases rx
  obtain ⟨its, r, ht, hz⟩ := I.tuple hx
  have hlen : its.toArray.size = xs.length := by rw [List.size_toArray]; exact r.length.symm
  refine ⟨"tuple", _, PyProof.Rows.slot_tuple_getitem.lookup, ht.typeIs, ?_⟩
  refine HT.getItem_tuple_cut ht hs pl pu (by rw [hlen]; exact hw) ?_ (by rw [hlen]; exact hz)
  rw [hlen]
  refine ⟨.ref s.heap.objs.size, _, I.laid (t' := s.toks) (o := .tup (cutV xs lo hi)) (fun b ob q => Heap.get?_push_of_some _ q) (Nat.le_refl _) ?_, rfl, q _ (I.hok.fresh (Nat.le_refl _))⟩
  exact ⟨Nat.le_trans (cutV_length xs lo hi) hz, _, (r.drop (HT.sIx xs.length 0 lo)).take (HT.sIx xs.length xs.length hi - HT.sIx xs.length 0 lo), IsTup.new _ _⟩

/-! ### t < u, t + u -/
def rLtT (K : PySem.W.Frag) : R2 := fun x y H Q => ∃ a b ns ms, x = .ref a ∧ y = .ref b ∧ SqT K H a (ns.map V.int) ∧ SqT K H b (ms.map V.int) ∧ Q (.bl (HT.lexLt ns ms)) H
/-- t + u, t not empty: u empty gives t itself -/
def rCatT (K : PySem.W.Frag) : R2 := fun x y H Q => ∃ a b xs ys, x = .ref a ∧ y = .ref b ∧ SqT K H a xs ∧ SqT K H b ys ∧ xs ≠ [] ∧ xs.length + ys.length ≤ sizeLine ∧
  (ys = [] → Q (.ref a) H) ∧ (ys ≠ [] → ∀ p, H p = none → Q (.ref p) (upd H p (.tup (xs ++ ys))))
theorem Vals.nil_iff {xs : List V} {us : List Value} (r : Vals xs us) : us = [] ↔ xs = [] := by
  cases r with
  | nil => simp
  | cons _ _ => simp
theorem op_catT : OpR X (binaryOp .Add) (rCatT X.K) := by
  intro pins s σ H x y v u Q I rx ry h
  obtain ⟨a, b, xs, ys, rfl, rfl, ha, hb, hx, hz, q1, q2⟩ := h
  cases rx
  cases ry
  obtain ⟨its, r1, p1, _⟩ := I.tuple ha
  obtain ⟨its2, r2, p2, _⟩ := I.tuple hb
  refine HT.cat_tup p1 p2 (fun z => hx (r1.nil_iff.mp z)) (fun z => ⟨.ref a, H, I, rfl, q1 (r2.nil_iff.mp z)⟩) (fun z => ?_) (by rw [← r1.length, ← r2.length]; exact hz)
  refine ⟨.ref s.heap.objs.size, _, I.laid (t' := s.toks) (o := .tup (xs ++ ys)) (fun b ob q => Heap.get?_push_of_some _ q) (Nat.le_refl _) ?_, rfl, q2 (fun w => z (r2.nil_iff.mpr w)) _ (I.hok.fresh (Nat.le_refl _))⟩
  exact ⟨by rw [List.length_append]; exact hz, _, r1.append r2, IsTup.new _ _⟩
end
end L2

namespace L2
open PySem PySem.Spec PyProof.Rows

/-! ### places -/
/-- the place that an index of any sign means -/
def ixN (n : Nat) (i : Int) : Option Nat := if 0 ≤ i then (if i < n then some i.toNat else none) else if -(n : Int) ≤ i then some (i + n).toNat else none
def atI {α : Type} (xs : List α) (i : Int) : Option α := (ixN xs.length i).bind fun j => xs[j]?
theorem ixN_seq {n : Nat} {i : Int} {j : Nat} (h : ixN n i = some j) : seqIndex? i n = some j ∧ j < n ∧ -(n : Int) ≤ i ∧ i < n := by
  unfold ixN at h
  by_cases h0 : 0 ≤ i
  · rw [if_pos h0] at h
    by_cases h1 : i < n
    · rw [if_pos h1] at h
      have e : i.toNat = j := Option.some.inj h
      exact ⟨by rw [seqIndex_of h0 h1, e], by omega, by omega, h1⟩
    · rw [if_neg h1] at h; cases h
  · rw [if_neg h0] at h
    by_cases h1 : -(n : Int) ≤ i
    · rw [if_pos h1] at h
      have e : (i + n).toNat = j := Option.some.inj h
      exact ⟨by rw [seqIndex_neg (by omega) h1, e], by omega, h1, by omega⟩
    · rw [if_neg h1] at h; cases h
theorem atI_get {α : Type} {xs : List α} {i : Int} {v : α} (h : atI xs i = some v) : ∃ j, seqIndex? i xs.length = some j ∧ xs[j]? = some v ∧ j < xs.length ∧ -(xs.length : Int) ≤ i ∧ i < xs.length := by
  unfold atI at h
  cases e : ixN xs.length i with
  | none => rw [e] at h; cases h
  | some j =>
    rw [e] at h
    obtain ⟨h1, h2, h3, h4⟩ := ixN_seq e
    exact ⟨j, h1, h, h2, h3, h4⟩
/-! ### what may be subscripted -/
/-- what stands as an index of a plain subscript -/
def PlainIx (b : Expr) : Prop := ∀ o i, subscripted b false o i = operate [o, i] (getItem o i)
/-- a subscript by values -/
def IxR (X : Cx) (r : R2) : Prop :=
  ∀ (value slice : Expr) (pins : List (Addr × Obj)) (s : Shared) (σ : St) (H : Hp) (x y : V) (v u : Value) (Q : VK), Inv X pins σ H s → RelV x v → RelV y u → r x y H Q →
    subscripted slice false v u = operate [v, u] (getItem v u) → wpAny (model X.prog X.w) X.A (subscriptTail value slice v u) (EP X pins σ Q) X.xe s
/-- a call of a builtin's method by values: the receiver, the arguments -/
def MtR (X : Cx) (id : String) (r : V → List V → Hp → VK → Prop) : Prop :=
  ∀ (pins : List (Addr × Obj)) (s : Shared) (σ : St) (H : Hp) (x : V) (xs : List V) (v : Value) (us : List Value) (Q : VK), Inv X pins σ H s → RelV x v → Vals xs us → r x xs H Q →
    wpAny (model X.prog X.w) X.A (call (.builtin id) (v :: us)) (EP X pins σ Q) X.xe s
section
variable {X : Cx} {a b : Expr} {ta tb : TE} {pos : Pos}
/-- a[b] -/
theorem pe_ix {r : R2} (hr : IxR X r) (ha : PE X a ta) (hb : PE X b tb) (hs : PlainIx b) : PE X (.Subscript a b pos) (tOp r ta tb) := by
  intro pins s σ H Q I h
  exact Subscript_ (binT ha hb I h fun v u s2 x y H2 I2 rx ry q => hr a b pins s2 σ H2 x y v u Q I2 rx ry q (hs _ _))

def rIxL (K : PySem.W.Frag) : R2 := fun x y H Q => ∃ p xs i v, x = .ref p ∧ y = .int i ∧ SqL K H p xs ∧ atI xs i = some v ∧ Q v H
def rIxT (K : PySem.W.Frag) : R2 := fun x y H Q => ∃ p xs i v, x = .ref p ∧ y = .int i ∧ SqT K H p xs ∧ atI xs i = some v ∧ Q v H
def rIxS : R2 := fun x y H Q => ∃ z i c, x = .str z ∧ y = .int i ∧ z.length ≤ sizeLine ∧ atI z.cps.toList i = some c ∧ Q (.str ⟨#[c]⟩) H
theorem ix_list : IxR X (rIxL X.K) := by
  intro value slice pins s σ H x y v u Q I rx ry h hs
  obtain ⟨p, xs, i, z, rfl, rfl, hq, he, q⟩ := h
  cases rx
  obtain ⟨t, rfl⟩ := ry
  obtain ⟨its, r, pl, hz⟩ := I.list hq
  obtain ⟨j, h1, h2, h3, h4, h5⟩ := atI_get he
  obtain ⟨w, ew, rw'⟩ := r.get h2
  have hl := r.length
  have hn := line63
  have fin : EP X pins σ Q w s := ⟨z, H, I, rw', q⟩
  by_cases h0 : 0 ≤ i
  · have hj : i.toNat = j := by
      rw [seqIndex_of h0 h5] at h1
      exact Option.some.inj h1
    exact item_listR pl.isList h0 (by omega) (by rw [hj]; simpa using ew) fin hs
  · have hj : (i + (its.toArray.size : Int)).toNat = j := by
      rw [seqIndex_neg (by omega) h4] at h1
      rw [List.size_toArray, ← hl]
      exact Option.some.inj h1
    exact subscriptTail_builtinR (x := w) pl.isList.typeIs slot_list_getitem.lookup
      (wpAny_getItem_list_neg (Q := fun r s' => r = w ∧ EP X pins σ Q r s') pl.isList (by omega) (by rw [List.size_toArray] <;> omega) (by omega) (by rw [hj]; simpa using ew) ⟨rfl, fin⟩) hs
theorem ix_tup : IxR X (rIxT X.K) := by
  intro value slice pins s σ H x y v u Q I rx ry h hs
  obtain ⟨p, xs, i, z, rfl, rfl, hq, he, q⟩ := h
  cases rx
  obtain ⟨t, rfl⟩ := ry
  obtain ⟨its, r, pl, hz⟩ := I.tuple hq
  obtain ⟨j, h1, h2, h3, h4, h5⟩ := atI_get he
  obtain ⟨w, ew, rw'⟩ := r.get h2
  have hl := r.length
  have hn := line63
  have fin : EP X pins σ Q w s := ⟨z, H, I, rw', q⟩
  exact subscriptTail_builtinR (x := w) pl.typeIs slot_tuple_getitem.lookup
    (getItem_tuple (j := j) (Q := fun r s' => r = w ∧ EP X pins σ Q r s') pl (by omega) (by omega) (by rw [List.size_toArray, ← hl]; exact h1) (by simpa using ew) ⟨rfl, fin⟩) hs
/-- list, tuple or str -/
def rIx (K : PySem.W.Frag) : R2 := fun x y H Q => rIxL K x y H Q ∨ rIxT K x y H Q ∨ rIxS x y H Q
/-! ### xs[i] = v, any sign -/
/-- the list's object behind a store -/
theorem mapSeq_set (its : List Value) (n j : Nat) (u : Value) : Obj.mapSeq (·.setIfInBounds j u) { cls := .type "list", data := .seq its.toArray n } = { cls := .type "list", data := .seq (its.set j u).toArray n } := by
  simp [Obj.mapSeq]
theorem Inv.lst {pins : List (Addr × Obj)} {σ : St} {H : Hp} {s : Shared} {p : Addr} {xs : List V} (I : Inv X pins σ H s) (h : H p = some (.lst xs)) :
    ∃ (its : List Value) (n : Nat), Vals xs its ∧ s.heap.get? p = some { cls := .type "list", data := .seq its.toArray n } ∧ xs.length ≤ sizeLine := by
  obtain ⟨z, its, n, r, e⟩ := I.hok p _ h
  exact ⟨its, n, r, e, z⟩
/-- the list at p is written by an update of its object -/
theorem Inv.lstUpd {pins : List (Addr × Obj)} {σ : St} {H : Hp} {s : Shared} {p : Addr} {xs ys : List V} {its its' : List Value} {n n' : Nat} {f : Obj → Obj} (I : Inv X pins σ H s) (h : H p = some (.lst xs))
    (ho : s.heap.get? p = some { cls := .type "list", data := .seq its.toArray n }) (hf : f { cls := .type "list", data := .seq its.toArray n } = { cls := .type "list", data := .seq its'.toArray n' }) (r : Vals ys its') (hz : ys.length ≤ sizeLine) (t : Nat) :
    Inv X pins σ (upd H p (.lst ys)) { s with heap := s.heap.update p f, toks := t } := by
  have e : (s.heap.update p f).get? p = some { cls := .type "list", data := .seq its'.toArray n' } := by
    rw [Heap.get?_update_self f ho (by rw [hf] <;> rfl), hf]
  refine I.write (x := p) (e := p) (by rw [h]; trivial) (.inl rfl) (fun b u hb q => (Heap.get?_update_other _ _ (Ne.symm hb)).trans q) ⟨_, e⟩ ?_
  exact ⟨hz, its', n', r, e⟩
def rSetL : V → V → V → Hp → (Hp → Prop) → Prop := fun o i v H Q => ∃ p xs k j, o = .ref p ∧ i = .int k ∧ H p = some (.lst xs) ∧ ixN xs.length k = some j ∧ Q (upd H p (.lst (xs.set j v)))
theorem set_list : PSet X rSetL := by
  intro pins s σ H o i v ov iv u Q I ro ri rv h
  obtain ⟨p, xs, k, j, rfl, rfl, hp, hj, q⟩ := h
  cases ro
  obtain ⟨t, rfl⟩ := ri
  obtain ⟨its, n, r, ho, hz⟩ := I.lst hp
  obtain ⟨h1, h2, h3, h4⟩ := ixN_seq hj
  have hl := r.length
  have hn := line63
  have I' : Inv X pins σ (upd H p (.lst (xs.set j v))) { s with heap := s.heap.update p (Obj.mapSeq (·.setIfInBounds j u)) } :=
    I.lstUpd hp ho (mapSeq_set its n j u) (r.set rv j) (by rw [List.length_set]; exact hz) s.toks
  by_cases h0 : 0 ≤ k
  · have hk : k.toNat = j := by
      rw [seqIndex_of h0 h4] at h1
      exact Option.some.inj h1
    exact PySem.W.ki_setAt ho h0 (by omega) (by rw [List.size_toArray, ← hl]; exact h4) (by rw [hk]; exact ⟨_, I', q⟩)
  · have hk : (k + (its.toArray.size : Int)).toNat = j := by
      rw [seqIndex_neg (by omega) h3] at h1
      rw [List.size_toArray, ← hl]
      exact Option.some.inj h1
    exact PySem.W.ki_setBack ho (by omega) (by rw [List.size_toArray, ← hl]; exact h3) (by omega) (by rw [hk]; exact ⟨_, I', q⟩)

/-! ### slices -/
theorem slice_bounds (lo hi : Option Int) (n : Nat) : (sliceBounds lo hi none n).1 = ((HT.sIx n 0 lo : Nat) : Int) ∧ (sliceBounds lo hi none n).2.1 = ((HT.sIx n n hi : Nat) : Int) ∧ (sliceBounds lo hi none n).2.2 = 1 := by
  refine ⟨?_, ?_, rfl⟩
  · cases lo with
    | none => simp [sliceBounds, HT.sIx]
    | some i =>
      simp only [sliceBounds, HT.sIx, Option.getD_none, show (1 : Int) > 0 by decide, if_true]
      by_cases h : i < 0
      · simp only [h, if_true] <;> omega
      · simp only [h, if_false] <;> omega
  · cases hi with
    | none => simp [sliceBounds, HT.sIx]
    | some i =>
      simp only [sliceBounds, HT.sIx, Option.getD_none, show (1 : Int) > 0 by decide, if_true]
      by_cases h : i < 0
      · simp only [h, if_true] <;> omega
      · simp only [h, if_false] <;> omega
theorem slicePick_cut (its : List Value) (lo hi : Option Int) : slicePick its.toArray lo hi none = ((its.drop (HT.sIx its.length 0 lo)).take (HT.sIx its.length its.length hi - HT.sIx its.length 0 lo)).toArray := by
  obtain ⟨h1, h2, h3⟩ := slice_bounds lo hi its.toArray.size
  unfold slicePick
  rw [h1, h2, h3]
  simp only [sliceRange_one, pick_run, List.size_toArray] <;> rfl
/-- xs[lo:hi] of a list: a new list -/
def rSlL (K : PySem.W.Frag) : V → Option Int → Option Int → Hp → VK → Prop := fun x lo hi H Q => ∃ a xs, x = .ref a ∧ SqL K H a xs ∧ ∀ p, H p = none → Q (.ref p) (upd H p (.lst (cutV xs lo hi)))
theorem sl_list : SlR X (rSlL X.K) := by
  intro pins s σ H x v vl vu lo hi sl Q I rx hs pl pu h
  obtain ⟨a, xs, rfl, hx, q⟩ := h
  cases rx
  obtain ⟨its, r, ht, hz⟩ := I.list hx
  have hlen := r.length
  refine ⟨"list", _, slot_list_getitem.lookup, ht.isList.typeIs, ?_⟩
  refine wpAny_getItem_list_slice ht.isList hs pl pu .none (by simp) ?_ (by rw [List.size_toArray] <;> omega)
  rw [slicePick_cut, ← hlen]
  refine ⟨.ref s.heap.objs.size, _, I.laid (t' := s.toks) (o := .lst (cutV xs lo hi)) (fun b ob q => Heap.get?_push_of_some _ q) (Nat.le_refl _) ?_, rfl, q _ (I.hok.fresh (Nat.le_refl _))⟩
  exact ⟨Nat.le_trans (cutV_length xs lo hi) hz, _, 0, (r.drop (HT.sIx xs.length 0 lo)).take (HT.sIx xs.length xs.length hi - HT.sIx xs.length 0 lo), Heap.get?_push_size _ rfl⟩

/-! ### in, not in: flat items -/
def flatV : V → Bool
  | .non => true
  | .bl _ => true
  | .int _ => true
  | .str _ => true
  | _ => false
/-- == of flat values -/
def eqV : V → V → Bool
  | .non, .non => true
  | .bl a, .bl b => a == b
  | .bl a, .int b => (if a then 1 else 0) == b
  | .int a, .bl b => a == (if b then 1 else 0)
  | .int a, .int b => a == b
  | .str a, .str b => a == b
  | _, _ => false
/-- the items' answers, read off the values (a value's own answer does not lean on its token) -/
def eqU (x : V) (u : Value) : Bool := match u with
  | .none => eqV .non x
  | .bool b => eqV (.bl b) x
  | .int i _ => eqV (.int i) x
  | .str z _ => eqV (.str z) x
  | _ => false
def inV (x : V) (xs : List V) : Bool := xs.any fun y => eqV y x
/-- x in a list or tuple of flat items -/
def rIn (K : PySem.W.Frag) (neg : Bool) : R2 := fun x y H Q => ∃ p xs, y = .ref p ∧ (SqL K H p xs ∨ SqT K H p xs) ∧ flatV x = true ∧ xs.all flatV = true ∧ Q (.bl (if neg then !inV x xs else inV x xs)) H
/-! ### len, list(x), tuple(x) of any list or tuple that is read -/
theorem call_len_seq : CallR X (.builtin "len") (fun xs H Q => ∃ p ys, xs = [.ref p] ∧ (SqL X.K H p ys ∨ SqT X.K H p ys) ∧ Q (.int ys.length) H) := by
  intro pins s σ H xs us Q I r h
  obtain ⟨p, ys, rfl, hq, q⟩ := h
  obtain ⟨u, rfl, rx⟩ := vals1 r
  cases rx
  have hn := line63
  rcases hq with hq | hq
  · obtain ⟨its, r', pl, hz⟩ := I.list hq
    have hlen := r'.length
    exact Calls.call_len_list pl.isList (by simp only [List.size_toArray] <;> omega) ⟨.int ys.length, H, I.tok _, ⟨s.toks + 1, by rw [List.size_toArray, hlen]⟩, q⟩
  · obtain ⟨its, r', pl, hz⟩ := I.tuple hq
    have hlen := r'.length
    exact len_tuple pl (by simp only [List.size_toArray] <;> omega) ⟨.int ys.length, H, I.tok _, ⟨s.toks + 1, by rw [List.size_toArray, hlen]⟩, q⟩
theorem call_tuple_of : CallR X (.type "tuple") (fun xs H Q => ∃ p ys, xs = [.ref p] ∧ ((SqL X.K H p ys ∧ ∀ l, H l = none → Q (.ref l) (upd H l (.tup ys))) ∨ (SqT X.K H p ys ∧ Q (.ref p) H))) := by
  intro pins s σ H xs us Q I r h
  obtain ⟨p, ys, rfl, h⟩ := h
  obtain ⟨u, rfl, rx⟩ := vals1 r
  cases rx
  rcases h with ⟨hq, q⟩ | ⟨hq, q⟩
  · obtain ⟨its, r', pl, hz⟩ := I.list hq
    have hlen := r'.length
    refine call_tuple_list pl.isList (fun h' kp => ?_) (by simp only [List.size_toArray] <;> omega)
    have I1 : Inv X pins σ H { s with heap := h' } := I.kept (t' := s.toks) kp
    have I2 : Inv X pins σ (upd H h'.objs.size (.tup ys)) { s with heap := h'.push { cls := .type "tuple", data := .seq its.toArray } } :=
      I1.laid (t' := s.toks) (fun b o e => Heap.get?_push_of_some _ e) (Nat.le_refl _) (show ObjOk X.prog X.w _ _ _ (.tup ys) from ⟨hz, its, r', IsTup.new _ _⟩)
    exact ⟨.ref h'.objs.size, _, I2, rfl, q _ (I1.hok.fresh (Nat.le_refl _))⟩
  · obtain ⟨its, r', pl, hz⟩ := I.tuple hq
    exact call_tuple_same pl ⟨.ref p, H, I, rfl, q⟩

/-! ### the call of a builtin's method: o.m(..) -/
/-- the value is of that builtin type -/
def tyV (K : PySem.W.Frag) (T : String) (x : V) (H : Hp) : Prop := match x with
  | .str _ => T = "str"
  | .int _ => T = "int"
  | .ref p => (T = "list" ∧ ∃ xs, SqL K H p xs) ∨ (T = "tuple" ∧ ∃ o, K.lookup p = some o ∧ o.cls = .type "tuple" ∧ o.dict = none) ∨
      (T = "dict" ∧ ((∃ kvs, H p = some (.dK kvs)) ∨ ∃ kvs, H p = some (.dT kvs))) ∨ (T = "set" ∧ ∃ S n, H p = some (.set S n))
  | _ => False
theorem tyV_is {pins : List (Addr × Obj)} {σ : St} {H : Hp} {s : Shared} {T : String} {x : V} {v : Value} (I : Inv X pins σ H s) (r : RelV x v) (ty : tyV X.K T x H) :
    s.TypeIs v T ∧ ∀ a, v = .ref a → ∃ ob, s.heap.get? a = some ob ∧ ob.dict = none := by
  cases x with
  | str z =>
    obtain ⟨t, rfl⟩ := r
    cases (show T = "str" from ty)
    exact ⟨typeIs_str s z t, fun _ e => nomatch e⟩
  | int i =>
    obtain ⟨t, rfl⟩ := r
    cases (show T = "int" from ty)
    exact ⟨typeIs_int s i t, fun _ e => nomatch e⟩
  | ref p =>
    cases r
    rcases ty with ⟨rfl, xs, hq⟩ | ⟨rfl, o, hk, hc, hd⟩ | ⟨rfl, hk⟩ | ⟨rfl, S, n, hk⟩
    · obtain ⟨its, _, pl, _⟩ := I.list hq
      refine ⟨pl.isList.typeIs, fun a e => ?_⟩
      cases e
      obtain ⟨o, n, e, c, hd, _⟩ := pl
      exact ⟨o, e, hd⟩
    · refine ⟨⟨o, I.kIn p o hk, hc⟩, fun a e => ?_⟩
      cases e
      exact ⟨o, I.kIn _ o hk, hd⟩
    · have z : ∃ o, s.heap.get? p = some o ∧ o.ExactDict := by
        rcases hk with ⟨kvs, hk⟩ | ⟨kvs, hk⟩
        · obtain ⟨_, _, _, _, o, _, _, e, ex, _⟩ := I.hok p _ hk
          exact ⟨o, e, ex⟩
        · obtain ⟨_, _, _, _, o, _, _, e, ex, _⟩ := I.hok p _ hk
          exact ⟨o, e, ex⟩
      obtain ⟨o, e, ex⟩ := z
      refine ⟨⟨o, e, ex.1⟩, fun a e2 => ?_⟩
      cases e2
      exact ⟨o, e, ex.2.1⟩
    · obtain ⟨o, _, _, _, e, ex, _⟩ := I.hok p _ hk
      refine ⟨⟨o, e, ex.1⟩, fun a e2 => ?_⟩
      cases e2
      exact ⟨o, e, ex.2.1⟩
  | _ => exact False.elim ty
def tBM0 (K : PySem.W.Frag) (T : String) (r : V → List V → Hp → VK → Prop) (to : TE) : TE := fun σ H Q => to σ H fun x H1 => tyV K T x H1 ∧ r x [] H1 Q
def tBM (K : PySem.W.Frag) (T : String) (r : V → List V → Hp → VK → Prop) (to : TE) (t : TA) : TE := fun σ H Q => to σ H fun x H1 => tyV K T x H1 ∧ t σ H1 fun xs H2 => r x xs H2 Q
variable {o e : Expr} {es : List Expr} {to : TE} {t : TA} {name : Str} {apos cpos : Pos} {T id : String} {r : V → List V → Hp → VK → Prop}
theorem pe_bm (pa : PlainAttrs T) (slot : Slot T name id) (hty : typeOf (.builtin id) = pure (.type "method_descriptor")) (hm : MtR X id r) (ho : PE X o to) (ha : PA X (e :: es) t)
    (hbase : attributeBase o name X.env (eval o X.env) = eval o X.env := by rfl)
    (hfew : ((backTo cpos (starEach (e :: es) X.env)).all (fun x => !x.1) && (backToKw cpos (keywordEach [] X.env)).all (fun x => x.1.isSome)
      && decide ((e :: es).length + ([] : List Keyword).length + (if ([] : List Keyword).isEmpty then 0 else 1) < 30)) = true := by rfl)
    (hline : (apos.endLine == cpos.line) = true := by rfl) (hs : starEach (e :: es) X.env = (false, eval e X.env) :: starEach es X.env := by rfl) (hplain : (backTo cpos (starEach es X.env)).any (·.1) = false := by rfl) :
    PE X (.Call (.Attribute o name apos) (e :: es) [] cpos) (tBM X.K T r to t) := by
  intro pins s σ H Q I h
  refine wpAny_Call_method_late hbase hfew hline rfl (thn (ho pins s σ H _ I h) fun v s1 ⟨x, H1, I1, r1, ty, q1⟩ => ?_)
  obtain ⟨h1, h2⟩ := tyV_is I1 r1 ty
  refine ⟨T, id, pa, slot, hty, h1, h2, ?_⟩
  have hA := ha cpos pins s1 σ H1 _ I1 q1
  rw [hs] at hA ⊢
  refine Calls.callWith_builtin (by show (false || (backTo cpos (starEach es X.env)).any (·.1)) = false; rw [hplain] <;> rfl) (Calls.evalArgs_plain ?_)
  exact thn hA fun us s2 ⟨vs, H2, I2, r2, q2⟩ => hm pins s2 σ H2 x vs v us Q I2 r1 r2 q2
/- xs.append(e), list.index on a module's tuple .. are MtR facts of 06m -/
end
end L2

namespace L2
open PySem PySem.Spec PyProof.Rows

def MtM (X : Cx) (id : String) (r : V → List V → Hp → VK → Prop) : Prop :=
  ∀ (pins : List (Addr × Obj)) (s : Shared) (σ : St) (H : Hp) (x : V) (xs : List V) (v : Value) (us : List Value) (Q : VK), Inv X pins σ H s → RelV x v → Vals xs us → r x xs H Q →
    wpAny (model X.prog X.w) X.A (call (.builtin id) (v :: us)) (EP X pins σ Q) X.xe s

/-! ### lists of values -/
theorem Vals.one : ∀ {x : V} {us : List Value}, Vals [x] us → ∃ u, us = [u] ∧ RelV x u
  | _, _, .cons r .nil => ⟨_, rfl, r⟩
theorem Vals.two : ∀ {x y : V} {us : List Value}, Vals [x, y] us → ∃ u v, us = [u, v] ∧ RelV x u ∧ RelV y v
  | _, _, _, .cons r (.cons q .nil) => ⟨_, _, rfl, r, q⟩
theorem Vals.zero : ∀ {us : List Value}, Vals [] us → us = []
  | _, .nil => rfl
theorem Vals.reverse {xs : List V} {us : List Value} (h : Vals xs us) : Vals xs.reverse us.reverse := by
  induction h with
  | nil => exact .nil
  | cons r t ih => rw [List.reverse_cons, List.reverse_cons]; exact Vals.append ih (.cons r .nil)
theorem Vals.rep {xs : List V} {us : List Value} (h : Vals xs us) : ∀ k : Nat, Vals (List.replicate k xs).flatten (List.replicate k us).flatten
  | 0 => .nil
  | k + 1 => by
    rw [List.replicate_succ, List.replicate_succ, List.flatten_cons, List.flatten_cons]
    exact Vals.append h (Vals.rep h k)
theorem foldl_rep (its : List Value) : ∀ (k : Nat) (acc : List Value),
    List.foldl (fun x1 x2 => x1 ++ x2) acc.toArray (List.replicate k its.toArray) = (acc ++ (List.replicate k its).flatten).toArray
  | 0, acc => by simp
  | k + 1, acc => by
    have e : acc.toArray ++ its.toArray = (acc ++ its).toArray := by simp
    have e2 : (acc ++ its) ++ (List.replicate k its).flatten = acc ++ (List.replicate (k + 1) its).flatten := by
      rw [List.replicate_succ, List.flatten_cons, List.append_assoc]
    rw [← e2, ← foldl_rep its k (acc ++ its), ← e, List.replicate_succ, List.foldl_cons]

section
variable {X : Cx} {pins : List (Addr × Obj)} {σ : St} {H : Hp} {s : Shared} {l b : Addr} {xs ys zs : List V}

/-! ### the two steps: a tracked list is rewritten, a new list is laid -/
theorem Inv.lset {its its' : List Value} {n : Nat} {f : Array Value → Array Value} {t' : Nat} (I : Inv X pins σ H s) (hH : H l = some (.lst xs))
    (e : s.heap.get? l = some { cls := .type "list", data := .seq its.toArray n }) (hf : f its.toArray = its'.toArray) (hv : Vals ys its') (hz : ys.length ≤ sizeLine) :
    Inv X pins σ (upd H l (.lst ys)) { s with heap := s.heap.update l (Obj.mapSeq f), toks := t' } := by
  have q := PySem.IsL.update e f
  rw [hf] at q
  refine I.write (x := l) (e := l) (by rw [hH]; exact trivial) (.inl rfl) (fun b' u hb hu => (Heap.get?_update_other s.heap (Obj.mapSeq f) (Ne.symm hb)).trans hu) ⟨_, q⟩ ?_
  exact ⟨hz, its', _, hv, q⟩
theorem Inv.lnew {its : List Value} {t' : Nat} (I : Inv X pins σ H s) (hv : Vals ys its) (hz : ys.length ≤ sizeLine) :
    Inv X pins σ (upd H s.heap.objs.size (.lst ys)) { s with heap := s.heap.push { cls := .type "list", data := .seq its.toArray }, toks := t' } :=
  I.laid (fun _ _ q => Heap.get?_push_of_some _ q) (Nat.le_refl _) ⟨hz, its, 0, hv, Heap.get?_push_size _ rfl⟩
theorem Inv.fresh (I : Inv X pins σ H s) : H s.heap.objs.size = none := I.hok.fresh (Nat.le_refl _)
theorem Inv.lstM (I : Inv X pins σ H s) (hH : H l = some (.lst xs)) : xs.length ≤ sizeLine ∧ ∃ (its : List Value) (n : Nat), Vals xs its ∧ xs.length = its.length ∧ s.heap.get? l = some { cls := .type "list", data := .seq its.toArray n } := by
  obtain ⟨z, its, n, r, e⟩ := I.hok l _ hH
  exact ⟨z, its, n, r, r.length, e⟩

theorem notLongL {n : Nat} (h : n ≤ sizeLine) : Builtin.List.listTooLong n = false := by
  unfold Builtin.List.listTooLong
  exact decide_eq_false (by omega)
end

section
variable {X : Cx}

/-! ### methods -/
def rAppend : V → List V → Hp → VK → Prop := fun x vs H Q => ∃ l xs y, x = .ref l ∧ vs = [y] ∧ H l = some (.lst xs) ∧ xs.length < sizeLine ∧ Q .non (upd H l (.lst (xs ++ [y])))
theorem mt_append : MtM X "list.append" rAppend := by
  intro pins s σ H x vs v us Q I rx rv h
  obtain ⟨l, xs, y, rfl, rfl, hH, hz, q⟩ := h
  cases rx
  obtain ⟨u, rfl, ru⟩ := rv.one
  obtain ⟨z, its, n, r, hl, e⟩ := I.lstM hH
  refine call_meets F.slot_list_append ⟨_, e, rfl⟩ F.entry_list_append (F.args_list_append_2 _ _) (PySem.list_append l its.toArray n u (by rw [List.size_toArray]; omega)) ⟨e, ?_⟩
  refine ⟨.non, _, I.lset (its' := its ++ [u]) hH e (by simp) (r.append (.cons ru .nil)) ?_, rfl, q⟩
  rw [List.length_append, List.length_singleton]
  omega

def rExtend : V → List V → Hp → VK → Prop := fun x vs H Q => ∃ l b xs zs, x = .ref l ∧ vs = [.ref b] ∧ H l = some (.lst xs) ∧ H b = some (.lst zs) ∧ xs.length + zs.length ≤ sizeLine ∧ Q .non (upd H l (.lst (xs ++ zs)))
def rPop : V → List V → Hp → VK → Prop := fun x vs H Q => ∃ l xs y, x = .ref l ∧ vs = [] ∧ H l = some (.lst xs) ∧ xs[xs.length - 1]? = some y ∧ Q y (upd H l (.lst xs.dropLast))
def rPopAt : V → List V → Hp → VK → Prop := fun x vs H Q => ∃ l xs i k y, x = .ref l ∧ vs = [.int i] ∧ H l = some (.lst xs) ∧ -(2 ^ 63) ≤ i ∧ i < 2 ^ 63 ∧ seqIndex? i xs.length = some k ∧ xs[k]? = some y ∧ Q y (upd H l (.lst (xs.eraseIdx k)))
def rReverse : V → List V → Hp → VK → Prop := fun x vs H Q => ∃ l xs, x = .ref l ∧ vs = [] ∧ H l = some (.lst xs) ∧ Q .non (upd H l (.lst xs.reverse))
def rClear : V → List V → Hp → VK → Prop := fun x vs H Q => ∃ l xs, x = .ref l ∧ vs = [] ∧ H l = some (.lst xs) ∧ Q .non (upd H l (.lst []))
/-! ### list + list, list += list, list * int -/
def rCat : R2 := fun x y H Q => ∃ l b xs zs, x = .ref l ∧ y = .ref b ∧ H l = some (.lst xs) ∧ H b = some (.lst zs) ∧ xs.length + zs.length ≤ sizeLine ∧ ∀ p, H p = none → Q (.ref p) (upd H p (.lst (xs ++ zs)))
/-- a list times an int (a negative one is nothing) -/
def rRep : R2 := fun x y H Q => ∃ l k xs, x = .ref l ∧ y = .int k ∧ H l = some (.lst xs) ∧ -(2 ^ 63) ≤ k ∧ k < 2 ^ 63 ∧ xs.length * k.toNat ≤ sizeLine ∧
  ∀ p, H p = none → Q (.ref p) (upd H p (.lst (List.replicate k.toNat xs).flatten))
theorem len_rep {α : Type} (xs : List α) (k : Nat) : (List.replicate k xs).flatten.length = k * xs.length := by
  induction k with
  | zero => simp
  | succ k ih => rw [List.replicate_succ, List.flatten_cons, List.length_append, ih, Nat.succ_mul, Nat.add_comm]
/-! ### del xs[i] -/
end

/-! ### xs[a:b] = ys -/
section
variable {prog : Program} {w : World} {A : Around} {E : Value → Shared → Prop} {s : Shared}
set_option maxRecDepth 100000 in
end

section
variable {X : Cx}
end
end L2

namespace Att
open PySem PySem.W PySem.Calls PyProof.Rows

/-! ### the script -/
theorem ints_of_wellAll {P : Params} {h : Heap} : ∀ (ns : List Int) (vs : List Value), WellAll P h vs (ns.map WData.int) → IntsAre vs ns := by
  intro ns
  induction ns with
  | nil =>
    intro vs w
    rw [List.map_nil] at w
    cases w
    exact .nil
  | cons n ns ih =>
    intro vs w
    rw [List.map_cons] at w
    cases w with
    | cons a b =>
      cases a
      exact .cons _ _ (ih _ b)

theorem script_of {l : OpenLaw} {n : Nat} (hn : l.most = some n) {P : Params} {h : Heap} {args : List WData} {vals : List Value}
    (hpre : l.row.toRowW.claim.pre args = true) (hwl : WellAll P h vals args) :
    ∃ a vs ns, vals = [Value.ref a] ∧ args = [WData.list (ns.map WData.int)] ∧ h.get? a = some { cls := .type "list", data := .seq vs.toArray } ∧ IntsAre vs ns ∧ ns.length ≤ n := by
  have hsh : WShape.hasAll [] args [.list .int] = true := (pre_splitW hpre).1
  have hc : l.pre.holds [] { args := args } = true := (pre_splitW hpre).2
  obtain ⟨d, r, rfl, h1, h2⟩ := hasAllW_cons hsh
  obtain rfl := hasAllW_nil h2
  obtain ⟨xs, rfl, h3⟩ := hasW_list h1
  obtain ⟨ns, rfl⟩ := items_int h3
  have hlen : ns.length ≤ n := by
    unfold OpenLaw.pre at hc
    have h4 : (WTm.not (.lt (.lit (.int (n : Int))) (.len (.arg 0)))).holds [] { args := [.list (ns.map .int)] } = true := by
      have h4 := (holds_andW hc).1
      rw [hn] at h4
      exact h4
    have h5 := condW_of h4 (w_not (w_lt w_lit (w_len_list (w_arg rfl))))
    rw [List.length_map] at h5
    refine Nat.le_of_not_lt fun q => ?_
    have q' : (n : Int) < ((ns.length : Nat) : Int) := by omega
    first
      | (rw [decide_eq_true q'] at h5; exact absurd h5 (by decide))
      | (simp at h5; omega)
  cases hwl with
  | cons w1 w2 =>
    cases w2
    cases w1 with
    | list ho hall => exact ⟨_, _, ns, rfl, rfl, ho, ints_of_wellAll ns _ hall, hlen⟩

theorem post_true (l : OpenLaw) (args : List WData) : l.row.toRowW.claim.post args (.bool true) args = true :=
  postW_of (r := l.row.toRowW) (X := (true == true))
    (show WShape.has [] (.bool true) .bool = true by first | rfl | decide | simp [WShape.has, WShape.arms, WShape.armsAll])
    (show (WTm.eq .res (.lit (.bool true))).value [] { args := args, res := some (.bool true), after := args } = some (.bool (true == true)) from w_eq_bool (w_res rfl) w_lit) rfl

/-! ### the attachment: holds_open's last premise (the goal 'hc' behind k_head) from a wpAny of the law's body -/
/-- the same from a codeAny of the CALL (for a layer whose function contracts speak of calls) -/
theorem attach_call {l : OpenLaw} {n : Nat} {q : Program} {loose : List Str} {XP : (Str → Option Value) → Heap → Prop} {YP : World → Heap → Prop} {d : DefRec}
    (hn : l.most = some n) (hdf : d.params.defaults = [])
    (call : ∀ (w : World) (s₀ s₁ : Shared) (mg mb : Str → Option Value) (fa : Addr) (o : Obj) (pm cd doc : Value) (a : Addr) (vs : List Value) (ns : List Int),
      Ground q loose [] XP w s₀ mg mb s₁.heap → YP w s₁.heap →
      s₁.heap.get? fa = some o → o.data = .func (docDef d.name d.params d.body d.scope pm cd doc) → s₁.heap.CodeRec cd d.name → mg d.name = some (.ref fa) →
      s₁.heap.get? a = some { cls := .type "list", data := .seq vs.toArray } → IntsAre vs ns → ns.length ≤ n → s₁.gens = #[] →
      codeAny (model l.prog w) callerA (.call (.ref fa) ⟨[.ref a], []⟩) (fun r s' => r = .ok (.ret (.bool true)) ∧ OldK s₁.heap s'.heap ∧ s'.os = s₁.os ∧ AllBare s'.gens) s₁) :
    WalkO q loose XP YP l.row.toRowW d [] (fun f vs => PySem.call f vs) := by
  intro w s₀ s₁ mg mb G Y fa o pm cd doc dV kV ho hd hcd hD hmg hg args vals as hpre hlay hrd hwl hlo
  obtain rfl : dV = .none := Dflts.none hD hdf
  obtain rfl : kV = .none := Dflts.noKw hD
  obtain ⟨a, vs, ns, rfl, rfl, hobj, hints, hlen⟩ := script_of hn hpre hwl
  refine enter_call (codeAny_mono (call w s₀ s₁ mg mb fa o pm cd doc a vs ns G Y ho (fd_plain hd) hcd hmg hobj hints hlen hg) fun r s' hq => ?_)
  obtain ⟨rfl, h2, h3, h4⟩ := hq
  exact ⟨.inl ⟨.bool true, .bool true, [], rfl, fun _ => rfl, .bool true, post_true l _, fun _ => ⟨List.Pairwise.nil, fun _ hm => (nomatch hm)⟩⟩, h2, h3, h4⟩

/-! ### rules over ANY heap (no ledger) from facts about the written part K: the library's own take a ledger (News) for what they write -/
section
variable {prog : Program} {w : World} {A : Around} {E : Value → Shared → Prop} {s : Shared} {K : Frag}

/-! the whole heap as the ledger: makes every rule that writes through a ledger a rule over any heap -/
def noObjs (h : Heap) : Heap := { h with objs := #[] }
def ledger (h : Heap) (L d : Addr) : List (Addr × Obj) := (List.range h.objs.size).filterMap fun a => if a = L ∨ a = d then none else (h.get? a).map fun o => (a, o)
end
end Att

namespace L2
open PySem PySem.Spec PyProof.Rows

theorem vals_ints : ∀ {vs : List Value} {ns : List Int}, IntsAre vs ns → Vals (ns.map V.int) vs
  | _, _, .nil => .nil
  | _, _, .cons n t h => .cons ⟨t, rfl⟩ (vals_ints h)

/-- nothing is tracked but the script, known to the object (or it is an object of the module) -/
def Only (H : Hp) : Prop := ∀ b, H b = none ∨ ∃ o xs, H b = some (.frz o (.lst xs))

/-- THE HEAD: the law's promise, at the heap behind the top. F, the promise of the law's def, may use that base is part of the heap (so K.In base, base.Ns mainGlobals mg stand in Mod) -/
theorem law_call {P : Program} {w : World} {K : PySem.W.Frag} {mg mb : Str → Option Value} {CX : CXT} {k : Nat} {fa a : Addr} {fd : FuncData} {x : Str} {sp : Sp} {s₁ : Shared} {vs : List Value} {ns : List Int}
    (KX : K.In s₁.heap) (hns : s₁.heap.Ns mainGlobals mg) (hb : s₁.heap.Ns builtinsNs mb) (hbb : ∀ x : Str, x ≠ "__name__" → mb x = bootBuiltins x) (hlim : s₁.heap.NoLimit) (hg : s₁.gens = #[])
    (ha : s₁.heap.get? a = some { cls := .type "list", data := .seq vs.toArray }) (hi : IntsAre vs ns) (hl : ns.length ≤ sizeLine) (hr : Room k callerA)
    (F : ∀ base : Heap, K.In base → base.Ns mainGlobals mg → FnOk P w K mg base CX k fa fd [x] sp) (hbind : ∀ (s : Shared) (u : Value), BindsTo s fd ⟨[u], []⟩ [(x, u)])
    (hsp : ∀ H : Hp, Only H → SqL K H a (ns.map V.int) → sp [.ref a] H (fun v _ => v = .bl true) fun _ _ _ => False)
    (hCX : ∀ H e s', CX [] H s₁ (fun _ _ _ => False) e s' → False) :
    codeAny (model P w) callerA (.call (.ref fa) ⟨[.ref a], []⟩) (fun r s' => r = .ok (.ret (.bool true)) ∧ OldK s₁.heap s'.heap ∧ s'.os = s₁.os ∧ AllBare s'.gens) s₁ := by
  have rv := vals_ints hi
  have lenV := hi.length
  -- from an abstract heap in which nothing but the script may be tracked
  have core : ∀ H : Hp, Only H → SqL K H a (ns.map V.int) → HOk P w H s₁.heap → (∀ b, H b ≠ none → b = a) → (H a ≠ none → K.lookup a = none) →
      codeAny (model P w) callerA (.call (.ref fa) ⟨[.ref a], []⟩) (fun r s' => r = .ok (.ret (.bool true)) ∧ OldK s₁.heap s'.heap ∧ s'.os = s₁.os ∧ AllBare s'.gens) s₁ := by
    intro H hO hS hok hA hK
    have base_of : ∀ {b : Addr} {o : Obj}, s₁.heap.get? b = some o → H b = none → (hidT s₁.heap H).get? b = some o := fun e n => hidT_get e n
    have noA : ∀ {b : Addr} {o : Obj} {es : Array DictEntry} {ep : Nat}, s₁.heap.get? b = some o → o.data = .dict es ep → H b = none := fun {b o es ep} e d => by
      cases q : H b with
      | none => rfl
      | some u =>
        have e' : b = a := hA b (by rw [q]; simp)
        subst e'
        rw [ha] at e; cases e
        have d' : Data.seq vs.toArray _ = Data.dict es ep := d
        cases d'
    have nsK : ∀ {b : Addr} {m : Str → Option Value}, s₁.heap.Ns b m → (hidT s₁.heap H).Ns b m := fun {b m} ⟨o, es, ep, e, d, r⟩ => ⟨o, es, ep, base_of e (noA e d), d, r⟩
    have hKb : K.In (hidT s₁.heap H) := fun b o e => base_of (KX b o e) (by
      cases q : H b with
      | none => rfl
      | some u =>
        have e' : b = a := hA b (by rw [q]; simp)
        subst e'
        rw [hK (by rw [q]; simp)] at e; cases e)
    have hM : Mod K mg (hidT s₁.heap H) := ⟨hKb, nsK hns, ⟨mb, nsK hb, hbb⟩, let ⟨mc, h1, h2⟩ := hlim; ⟨mc, nsK h1, h2⟩⟩
    have e0 : Env0 P w K mg (hidT s₁.heap H) callerA [] s₁ H := ⟨rfl, hM, fun b o e => of_hidT e, Nat.le_of_eq (hidT_size _ _), trivial, fun b hb => absurd (show b ∈ ([] : List Addr) from hb) (by simp), hok, .of_eq hg⟩
    refine codeAny_mono ((F _ hKb (nsK hns)).run callerA [] s₁ H ⟨[.ref a], []⟩ [.ref a] [.ref a] _ _ hr e0 (hbind s₁ (.ref a)) (.cons rfl .nil) (hsp H hO hS)) fun r s' h => ?_
    cases r with
    | error e => exact (hCX H e s' h).elim
    | ok fl =>
      cases fl with
      | next => exact False.elim h
      | brk => exact False.elim h
      | cont => exact False.elim h
      | ret u =>
        obtain ⟨v, H', os, bare, un, hok', r', q⟩ := h
        have q' : v = .bl true := q
        subst q'
        obtain rfl : u = Value.bool true := r'
        refine ⟨rfl, OldK.of_keep fun b o e => ?_, os, bare⟩
        cases q : H b with
        | none => exact un.keep b o e q (by intro z; exact absurd (show b ∈ ([] : List Addr) from z) (by simp)) (by simp)
        | some u =>
          rcases hO b with z | ⟨ob, xs, z⟩
          · rw [q] at z; cases z
          · have z2 := un.frzs b ob _ z
            obtain ⟨e1, _⟩ := hok b _ z
            obtain ⟨e2, _⟩ := hok' b _ z2
            rw [e] at e1; cases e1
            exact e2
  cases hk : K.lookup a with
  | some o =>
    -- the script is one of the module's own objects
    have e := KX a o hk
    rw [ha] at e
    cases e
    refine core (fun _ => none) (fun _ => .inl rfl) (.inr ⟨_, vs.toArray, _, hk, rfl, rfl, rfl, by rw [List.size_toArray, lenV]; exact hl, by simpa using rv⟩) (fun b u z => by have z' : (none : Option HO) = some u := z; cases z') (fun b z => absurd rfl z) fun z => absurd rfl z
  | none =>
    refine core (fun b => if b = a then some (.frz { cls := .type "list", data := .seq vs.toArray } (.lst (ns.map V.int))) else none) (fun b => ?_) (.inl (.inr ⟨{ cls := .type "list", data := .seq vs.toArray }, if_pos rfl⟩)) (fun b u z => ?_) (fun b z => ?_) fun _ => hk
    · by_cases hb : b = a
      · exact .inr ⟨_, _, if_pos hb⟩
      · exact .inl (if_neg hb)
    · by_cases hb : b = a
      · have z' := (if_pos hb).symm.trans z
        cases z'
        subst hb
        exact ⟨ha, by rw [List.length_map]; exact hl, vs, _, rv, ha⟩
      · have z' := (if_neg hb).symm.trans z
        cases z'
    · by_cases hb : b = a
      · exact hb
      · exact absurd (if_neg hb) z
end L2

namespace L2
open PySem PySem.Spec PyProof.Rows

abbrev KOf {K : PySem.W.Frag} {h : Heap} (_ : K.In h) : PySem.W.Frag := K

/-- the goal that k_head leaves (case hc), from the law's promise. F gives the function object fd (K's own) once, then the promise over every base -/
theorem walk_of {l : PySem.W.OpenLaw} {n k : Nat} {q : Program} {loose : List Str} {XP : (Str → Option Value) → Heap → Prop} {YP : World → Heap → Prop} {d : DefRec} {K : Params → PySem.W.Frag} {CX : World → CXT} {sp : World → Sp} {x : Str}
    (hn : l.most = some n) (hn2 : n ≤ sizeLine) (hdf : d.params.defaults = []) (hr : Room k callerA)
    (hY : ∀ (w : World) (h : Heap), YP w h → (K w.params).In h)
    (F : ∀ (w : World) (mg : Str → Option Value) (fa : Addr) (h : Heap), (K w.params).In h → h.Ns mainGlobals mg → mg d.name = some (.ref fa) →
      ∃ fd : FuncData, (∀ (s : Shared) (u : Value), BindsTo s fd ⟨[u], []⟩ [(x, u)]) ∧
        ∀ base : Heap, (K w.params).In base → base.Ns mainGlobals mg → FnOk l.prog w (K w.params) mg base (CX w) k fa fd [x] (sp w))
    (hsp : ∀ (w : World) (H : Hp) (a : Addr) (ns : List Int), ns.length ≤ n → Only H → SqL (K w.params) H a (ns.map V.int) → sp w [.ref a] H (fun v _ => v = .bl true) fun _ _ _ => False)
    (hCX : ∀ (w : World) (H : Hp) (s : Shared) (e : Value) (s' : Shared), CX w [] H s (fun _ _ _ => False) e s' → False) :
    PySem.W.WalkO q loose XP YP l.row.toRowW d [] (fun f vs => PySem.call f vs) := by
  refine Att.attach_call hn hdf fun w s₀ s₁ mg mb fa o pm cd doc a vs ns G Y ho hd hcd hmg hobj hints hlen hg => ?_
  have KX := hY w _ Y
  obtain ⟨fd, hb, hF⟩ := F w mg fa _ KX G.T.g hmg
  exact law_call KX G.T.g G.T.b G.T.builtins G.T.nolimit hg hobj hints (Nat.le_trans hlen hn2) hr hF hb (fun H hO hS => hsp w H a ns hlen hO hS) fun H e s' => hCX w H s₁ e s'
/-- the same where the promise hangs on the written part alone: (sp := My.sp_law), no hole under a binder -/
theorem walk_ofK {l : PySem.W.OpenLaw} {n k : Nat} {q : Program} {loose : List Str} {XP : (Str → Option Value) → Heap → Prop} {YP : World → Heap → Prop} {d : DefRec} {K : Params → PySem.W.Frag} {CX : CXT} {sp : PySem.W.Frag → Sp} {x : Str}
    (hn : l.most = some n) (hn2 : n ≤ sizeLine) (hdf : d.params.defaults = []) (hr : Room k callerA)
    (hY : ∀ (w : World) (h : Heap), YP w h → (K w.params).In h)
    (F : ∀ (w : World) (mg : Str → Option Value) (fa : Addr) (h : Heap), (K w.params).In h → h.Ns mainGlobals mg → mg d.name = some (.ref fa) →
      ∃ fd : FuncData, (∀ (s : Shared) (u : Value), BindsTo s fd ⟨[u], []⟩ [(x, u)]) ∧
        ∀ base : Heap, (K w.params).In base → base.Ns mainGlobals mg → FnOk l.prog w (K w.params) mg base CX k fa fd [x] (sp (K w.params)))
    (hsp : ∀ (K : PySem.W.Frag) (H : Hp) (a : Addr) (ns : List Int), ns.length ≤ n → Only H → SqL K H a (ns.map V.int) → sp K [.ref a] H (fun v _ => v = .bl true) fun _ _ _ => False)
    (hCX : ∀ (H : Hp) (s : Shared) (e : Value) (s' : Shared), CX [] H s (fun _ _ _ => False) e s' → False) :
    PySem.W.WalkO q loose XP YP l.row.toRowW d [] (fun f vs => PySem.call f vs) :=
  walk_of (K := K) (CX := fun _ => CX) (sp := fun w => sp (K w.params)) hn hn2 hdf hr hY F (fun w H a ns h1 h2 h3 => hsp (K w.params) H a ns h1 h2 h3) fun _ H s e s' => hCX H s e s'
end L2

/- THE LAST THEOREM (shape; LID, My.* are yours):
   My.Adr: a structure of the addresses that your layer names (classes, functions); My.Txt K t: a structure (Prop) of the equations over K;
   My.txt_mk : {K} {implicit addresses ..} (e1 : nsIn K mainGlobals "law" = some (some (.ref f))) (e2 : K.lookup f = some ⟨oc, od, .func (fnOf "law" "law" params body scope dV kV doc pm an cdv ct), sl⟩) (e3 : codeIn K cdv "law" = true) .. : ∃ t, My.Txt K t

set_option maxRecDepth 100000 in
set_option maxHeartbeats 0 in
(the tactic k_is has no namespace: write k_is) -/

/-! SHORT WORDS over the layer: a def of the text, its body, what a loop and a test want. -/
namespace L2
open PySem PySem.Spec PyProof.Rows

/-! ### the text by places -/
/-- the j-th statement of a class's body -/
def inClass (s : Stmt) (j : Nat) : Stmt := match s with
  | .ClassDef _ _ _ body _ _ _ _ _ _ _ => body.getD j (.Pass ⟨0, 0, 0, 0⟩)
  | _ => .Pass ⟨0, 0, 0, 0⟩
def defArgs (s : Stmt) : Arguments := match s with
  | .FunctionDef _ a _ _ _ _ _ _ _ _ => a
  | _ => { posonlyargs := [], args := [], vararg := none, kwonlyargs := [], kw_defaults := [], kwarg := none, defaults := [] }
def defBody (s : Stmt) : List Stmt := match s with
  | .FunctionDef _ _ b _ _ _ _ _ _ _ => b
  | _ => []
def defScope (s : Stmt) : Scope := match s with
  | .FunctionDef _ _ _ _ _ _ sc _ _ _ => sc
  | _ => { kind := .function, names := [], isGenerator := false, isCoroutine := false }

/-! ### no exception leaves a def -/
abbrev CX0 : CXT := fun _ _ _ _ _ _ => False
abbrev E0 : XK := fun _ _ _ => False
theorem pass0 {X : Cx} : Passes CX0 X E0 := fun _ _ _ _ _ _ _ h => h.elim

/-! ### a def (or method) of the text as it stands behind the top -/
structure Fun (K : PySem.W.Frag) (x qual : Str) (st : Stmt) (f : Addr) (fd : FuncData) : Prop where
  ex : ∃ (oc : Value) (od : Option Addr) (kV doc pm : Value) (an : Option Addr) (cdv ct : Value) (osl : Array (Option Value)),
    fd = PySem.W.fnOf x qual (defArgs st) (defBody st) (defScope st) .none kV doc pm an cdv ct ∧ K.lookup f = some ⟨oc, od, .func fd, osl⟩ ∧ PySem.W.codeIn K cdv qual = true
  kp : PySem.W.keepIn K (.ref f) = true
section
variable {P : Program} {w : World} {K : PySem.W.Frag} {mg : Str → Option Value} {base : Heap}
/-- THE RULE for a def: its body as a term of rules, and the reading of that term -/
theorem Fun.ok {x qual : Str} {st : Stmt} {f : Addr} {fd : FuncData} {N ps : List Str} {k : Nat} {sp : Sp} (F : Fun K x qual st f fd) (S : FnScope N ps (defScope st)) (len : ∀ vs H Q E, sp vs H Q E → vs.length = ps.length)
    (hbody : ∀ (cdv : Value) (A : Around) (outer : List Env) (s : Shared) (H : Hp) (vs : List V) (Q : VK) (E : XK), Room k (A.deeper (envOfC qual (defScope st) s.heap.objs.size f cdv)) → sp vs H Q E →
      ∃ t, PSs (cxOf CX0 P w K mg base N qual (defScope st) f cdv A outer s H E).nox (defBody st) t ∧ t { nx := fun _ H' => Q .non H', rt := Q } (start N vs) H) : FnOk P w K mg base CX0 (k + 1) f fd ps sp := by
  obtain ⟨oc, od, kV, doc, pm, an, cdv, ct, osl, rfl, lk, hcd⟩ := F.ex
  refine fn_of lk hcd S len fun A outer s H vs Q E hr hsp => ?_
  obtain ⟨t, h, q⟩ := hbody cdv A outer s H vs Q E hr hsp
  exact ⟨t, h.nox, q⟩
/-- how its arguments bind (no defaults): h is «fun _ _ _ _ _ _ us hl => match us, hl with | [_, _], _ => rfl», one _ a parameter -/
theorem Fun.binds {x qual : Str} {st : Stmt} {f : Addr} {fd : FuncData} {ps : List Str} (F : Fun K x qual st f fd)
    (h : ∀ (kV doc pm : Value) (an : Option Addr) (cdv ct : Value) (us : List Value), us.length = ps.length → bindArgs (PySem.W.fnOf x qual (defArgs st) (defBody st) (defScope st) .none kV doc pm an cdv ct) ⟨us, []⟩ = pure (ps.zip us)) : Binds K fd ps [] := by
  obtain ⟨oc, od, kV, doc, pm, an, cdv, ct, osl, rfl, lk, hcd⟩ := F.ex
  exact .all (h kV doc pm an cdv ct)
theorem fun_mk {x qual : Str} {st : Stmt} {f : Addr} {oc : Value} {od an : Option Addr} {osl : Array (Option Value)} {kV doc pm cdv ct : Value} (l : K.lookup f = some ⟨oc, od, .func (PySem.W.fnOf x qual (defArgs st) (defBody st) (defScope st) .none kV doc pm an cdv ct), osl⟩)
    (c : PySem.W.codeIn K cdv qual = true) (k : PySem.W.keepIn K (.ref f) = true) : Fun K x qual st f (PySem.W.fnOf x qual (defArgs st) (defBody st) (defScope st) .none kV doc pm an cdv ct) := ⟨⟨oc, od, kV, doc, pm, an, cdv, ct, osl, rfl, l, c⟩, k⟩
end
/-! ### expressions in short: the name that stands in the i-th slot -/
section
variable {X : Cx}
end

/-! ### tests -/
/-! ### heaps -/
/-- all that was tracked is as it was -/
def Same (H H' : Hp) : Prop := ∀ b o, H b = some o → H' b = some o
theorem Same.refl (H : Hp) : Same H H := fun _ _ h => h
theorem Same.trans {H H1 H2 : Hp} (a : Same H H1) (b : Same H1 H2) : Same H H2 := fun c o h => b c o (a c o h)
theorem Same.seq {K : PySem.W.Frag} {H H' : Hp} {a : Addr} {xs : List V} (e : Same H H') (h : SqL K H a xs) : SqL K H' a xs := by
  rcases h with (h | ⟨o, h⟩) | h
  · exact .inl (.inl (e _ _ h))
  · exact .inl (.inr ⟨o, e _ _ h⟩)
  · exact .inr h

end L2
end

section
set_option linter.all false
/-! A small evaluator over plain data: no heap, no addresses. -/
namespace HH
open PySem

/-- data: what a value is worth -/
inductive D where
  | non | bl (b : Bool) | int (i : Int) | str (s : Str) | tup (ds : List D) | lst (ds : List D)
  deriving Repr, Inhabited

mutual
/-- == -/
def peq : D → D → Bool
  | .non, .non => true
  | .bl a, .bl b => a == b
  | .bl a, .int i => (if a then (1 : Int) else 0) == i
  | .int i, .bl a => i == (if a then (1 : Int) else 0)
  | .int i, .int j => i == j
  | .str a, .str b => a == b
  | .tup xs, .tup ys => peqs xs ys
  | .lst xs, .lst ys => peqs xs ys
  | _, _ => false
def peqs : List D → List D → Bool
  | [], [] => true
  | x :: xs, y :: ys => peq x y && peqs xs ys
  | _, _ => false
end
/-- no deeper than n -/
def dle : Nat → D → Bool
  | _, .non => true | _, .bl _ => true | _, .int _ => true | _, .str _ => true
  | 0, .tup _ => false | 0, .lst _ => false
  | n + 1, .tup ds => ds.all (dle n)
  | n + 1, .lst ds => ds.all (dle n)

/-- a slot of the frame: unbound; data that nobody changes; a list that nobody else has (the flag: the caller's, or locked); a list that a loop walks -/
inductive Sl where
  | unb | val (b : Bool) (d : D) | own (b : Bool) (ds : List D) | lent (ds : List D)
  deriving Repr, Inhabited
/-- a value: data, or a new list that nobody else has -/
inductive R where
  | val (d : D) | own (ds : List D)
  deriving Repr, Inhabited
def R.d : R → D
  | .val d => d
  | .own ds => .lst ds
inductive Res (α : Type) where
  | ok (a : α) (ρ : List Sl) | stuck
  deriving Repr, Inhabited
def Res.bind {α β : Type} : Res α → (α → List Sl → Res β) → Res β
  | .ok a ρ, f => f a ρ
  | .stuck, _ => .stuck
def lift {α : Type} (o : Option α) (ρ : List Sl) : Res α := match o with
  | some a => .ok a ρ
  | none => .stuck

inductive Op where | add | sub | mul | fdiv | mod | pow | shl | shr | band
  deriving Repr, DecidableEq
inductive Cm where | eq | ne | lt | le | gt | ge | isN | notN | inn | notin | isT | notT
  deriving Repr, DecidableEq
inductive Ty where | int | bool | str | tuple | list | none
  deriving Repr, DecidableEq
inductive Blt where | len | list | tuple | min2 | max2 | minL | maxL | sum | all | any | sorted | abs | int | minN | maxN
  deriving Repr, DecidableEq

/-- expressions -/
inductive P where
  | var (i : Nat)
  | con (d : D)
  | glob (x : Str) (d : D)
  | bin (o : Op) (a b : P)
  | neg (a : P)
  | not (a : P)
  | and (a b : P)
  | or (a b : P)
  | cmp (o : Cm) (a b : P)
  | chain (o o' : Cm) (a b c : P)
  | ife (c a b : P)
  | tup (as : List P)
  | lst (as : List P)
  | idx (a i : P)
  | slice (a lo hi : P)
  | call (f : Nat) (as : List P)
  | blt (b : Blt) (as : List P)
  | inst (ts : List Ty) (a : P)
  | pop (x : Nat)
  | comp (src : P) (n : Nat) (is : List Nat) (one : Bool) (test : Option P) (elt : P)
  | rng (a b : P)
  | enm (a : P)
  | zip (a b : P)
  | rev (a : P)
  | compZ (i : Nat) (b : P) (n : Nat) (is : List Nat) (one : Bool) (test : Option P) (elt : P)
  deriving Repr, Inhabited

abbrev lim : Nat := 16777216

def opAdd : D → D → Option R
  | .int i, .int j => some (.val (.int (i + j)))
  | .lst xs, .lst ys => if xs.length + ys.length ≤ lim then some (.own (xs ++ ys)) else none
  | .tup xs, .tup ys => if xs.length + ys.length ≤ lim then some (.val (.tup (xs ++ ys))) else none
  | .str x, .str y => if x.length + y.length ≤ lim then some (.val (.str (x ++ y))) else none
  | _, _ => none
def opMul : D → D → Option R
  | .int i, .int j => if ((-18446744073709551616 < i ∧ i < 18446744073709551616) ∨ (-18446744073709551616 < j ∧ j < 18446744073709551616)) then some (.val (.int (i * j))) else none
  | .lst xs, .int k => if 0 ≤ k ∧ 0 < xs.length ∧ xs.length * k.toNat ≤ lim then some (.own (List.replicate k.toNat xs).flatten) else none
  | .tup xs, .int k => if 0 ≤ k ∧ 0 < xs.length ∧ xs.length * k.toNat ≤ lim then some (.val (.tup (List.replicate k.toNat xs).flatten)) else none
  | _, _ => none
def opSub : D → D → Option R
  | .int i, .int j => some (.val (.int (i - j)))
  | _, _ => none
def opFdiv : D → D → Option R
  | .int i, .int j => if 0 < j ∧ j < 1606938044258990275541962092341162602522202993782792835301376 then some (.val (.int (i / j))) else none
  | _, _ => none
def opMod : D → D → Option R
  | .int i, .int j => if 0 < j then some (.val (.int (i % j))) else none
  | _, _ => none
def opPow : D → D → Option R
  | .int i, .int j => if 0 ≤ j ∧ j ≤ 1000 ∧ i.natAbs < 18446744073709551616 then some (.val (.int (i ^ j.toNat))) else none
  | _, _ => none
def opShl : D → D → Option R
  | .int i, .int j => if 0 ≤ j ∧ j ≤ 1000 ∧ i.natAbs < 18446744073709551616 then some (.val (.int (i * 2 ^ j.toNat))) else none
  | _, _ => none
def opShr : D → D → Option R
  | .int i, .int j => if 0 ≤ j then some (.val (.int (i / 2 ^ j.toNat))) else none
  | _, _ => none
def opBand : D → D → Option R
  | .int i, .int j => some (.val (.int (Builtin.bitAnd i j)))
  | _, _ => none
def op2 : Op → D → D → Option R
  | .add => opAdd
  | .mul => opMul
  | .sub => opSub
  | .fdiv => opFdiv
  | .mod => opMod
  | .pow => opPow
  | .shl => opShl
  | .shr => opShr
  | .band => opBand

def flat : D → Bool
  | .tup _ => false | .lst _ => false | _ => true
def items : D → Option (List D)
  | .lst ds => some ds
  | .tup ds => some ds
  | _ => none
def itemsT : D → Option (List D)
  | .tup ds => some ds
  | _ => none
def cmEq (x y : D) : Option Bool := if dle 8 x && dle 8 y then some (peq x y) else none
def cmNe (x y : D) : Option Bool := if dle 8 x && dle 8 y then some (!peq x y) else none
def cmI (f : Int → Int → Bool) : D → D → Option Bool
  | .int i, .int j => some (f i j)
  | _, _ => none
def isNon : D → Bool
  | .non => true
  | _ => false
def cmN (neg : Bool) (x : D) : D → Option Bool
  | .non => some (if neg then !isNon x else isNon x)
  | _ => none
def cmIn (neg : Bool) (x y : D) : Option Bool := (items y).bind fun ys => if (flat x && ys.all flat) = true then some (if neg then !(ys.any fun y => peq y x) else ys.any fun y => peq y x) else none
def cmT (neg : Bool) : D → D → Option Bool
  | .bl b, .bl true => some (if neg then !b else b)
  | _, _ => none
def cm : Cm → D → D → Option Bool
  | .eq => cmEq
  | .ne => cmNe
  | .lt => cmI fun i j => decide (i < j)
  | .le => cmI fun i j => decide (i ≤ j)
  | .gt => cmI fun i j => decide (j < i)
  | .ge => cmI fun i j => decide (j ≤ i)
  | .isN => cmN false
  | .notN => cmN true
  | .inn => cmIn false
  | .notin => cmIn true
  | .isT => cmT false
  | .notT => cmT true
def cmR (o : Cm) (x y : D) : Option R := (cm o x y).map fun k => .val (.bl k)
/-- the place that an index means -/
def ixN (n : Nat) (i : Int) : Option Nat := if 0 ≤ i then (if i < n then some i.toNat else none) else if -(n : Int) ≤ i then some (i + n).toNat else none
def at' {α : Type} (xs : List α) (i : Int) : Option α := (ixN xs.length i).bind fun j => xs[j]?
def sIx (n d : Nat) : Option Int → Nat
  | none => d
  | some i => if 0 ≤ i then min i.toNat n else (i + n).toNat
def cut {α : Type} (xs : List α) (lo hi : Option Int) : List α := (xs.drop (sIx xs.length 0 lo)).take (sIx xs.length xs.length hi - sIx xs.length 0 lo)
def optI : D → Option (Option Int)
  | .non => some none
  | .int i => some (some i)
  | _ => none
def asI : D → Option Int
  | .int i => some i
  | _ => none
def asB : D → Option Bool
  | .bl b => some b
  | _ => none
def ixR (x y : D) : Option R := (items x).bind fun ds => (asI y).bind fun i => (at' ds i).map .val
def negR (x : D) : Option R := (asI x).map fun i => .val (.int (-i))
def isNC : P → Bool
  | .con .non => true
  | _ => false
/-- a slice's part: left out, or an int -/
def part (p : P) (d : D) : Option (Option Int) := if isNC p then some none else (asI d).map some
def sl3 : D → Option (Option Int) → Option (Option Int) → Option R
  | .lst xs, some lo, some hi => some (.own (cut xs lo hi))
  | .tup xs, some lo, some hi => some (.val (.tup (cut xs lo hi)))
  | _, _, _ => none

def isTy : Ty → D → Bool
  | .int, .int _ => true | .int, .bl _ => true | .bool, .bl _ => true | .str, .str _ => true | .tuple, .tup _ => true | .list, .lst _ => true | .none, .non => true
  | _, _ => false
/-- the order of sorted: ints; tuples of ints from the left -/
def dlt : D → D → Bool
  | .int i, .int j => decide (i < j)
  | .tup xs, .tup ys => lex xs ys
  | _, _ => false
where
  lex : List D → List D → Bool
  | [], _ :: _ => true
  | .int i :: xs, .int j :: ys => decide (i < j) || (i == j && lex xs ys)
  | _, _ => false
def ordb : D → Bool
  | .int _ => true
  | _ => false
/-- all ints, or all tuples of ints -/
def sortable (ds : List D) : Bool := ds.all ordb || ds.all fun d => match d with | .tup xs => xs.all ordb | _ => false
def srt (ds : List D) : List D := ds.mergeSort fun a b => !dlt b a

def itemsL : D → Option (List D)
  | .lst ds => some ds
  | _ => none
def blt : Blt → List D → Option R
  | .len, [x] => (items x).map fun ds => .val (.int ds.length)
  | .list, [x] => (items x).map fun ds => .own ds
  | .tuple, [x] => (items x).map fun ds => .val (.tup ds)
  | .min2, [.int i, .int j] => some (.val (.int (if j < i then j else i)))
  | .max2, [.int i, .int j] => some (.val (.int (if i < j then j else i)))
  | .minL, [x] => ((items x).bind fun ds => ds.mapM asI).bind fun ns => ns.min?.map fun i => .val (.int i)
  | .maxL, [x] => ((items x).bind fun ds => ds.mapM asI).bind fun ns => ns.max?.map fun i => .val (.int i)
  | .sum, [x] => ((items x).bind fun ds => ds.mapM asI).map fun ns => .val (.int ns.sum)
  | .minN, [x] => ((items x).bind fun ds => ds.mapM asI).map fun ns => .val (match ns.min? with | some i => .int i | none => .non)
  | .maxN, [x] => ((items x).bind fun ds => ds.mapM asI).map fun ns => .val (match ns.max? with | some i => .int i | none => .non)
  | .all, [x] => ((itemsL x).bind fun ds => ds.mapM asB).map fun bs => .val (.bl (bs.all id))
  | .any, [x] => ((itemsL x).bind fun ds => ds.mapM asB).map fun bs => .val (.bl (bs.any id))
  | .sorted, [x] => (items x).bind fun ds => if sortable ds then some (.own (srt ds)) else none
  | .abs, [.int i] => some (.val (.int (if i < 0 then -i else i)))
  | .int, [.int i] => some (.val (.int i))
  | .int, [.bl b] => some (.val (.int (if b then 1 else 0)))
  | _, _ => none

/-- a slot's data, only looked at -/
def pk (ρ : List Sl) (i : Nat) : Option D := match ρ[i]? with
  | some (.val _ d) => some d
  | some (.own _ ds) => some (.lst ds)
  | some (.lent ds) => some (.lst ds)
  | _ => none
def pkL (ρ : List Sl) (i : Nat) : Option (List D) := match pk ρ i with
  | some (.lst ds) => some ds
  | _ => none
abbrev Ev := List Sl → Res R
def isVar : P → Option Nat
  | .var i => some i
  | _ => none
/-- an operand that is only looked at -/
def opd (i : Option Nat) (e : Ev) (ρ : List Sl) : Res D := match i with
  | some i => lift (pk ρ i) ρ
  | none => (e ρ).bind fun r ρ => .ok r.d ρ
/-- two operands: a name on the left is looked at last (it stands for the same object) -/
def opd2 (i : Option Nat) (e : Ev) (j : Option Nat) (f : Ev) (ρ : List Sl) : Res (D × D) := match i with
  | some i => (lift (pk ρ i) ρ).bind fun _ ρ => (opd j f ρ).bind fun y ρ => (lift (pk ρ i) ρ).bind fun x ρ => .ok (x, y) ρ
  | none => (opd none e ρ).bind fun x ρ => (opd j f ρ).bind fun y ρ => .ok (x, y) ρ
/-- a truth -/
def tru (e : Ev) (ρ : List Sl) : Res Bool := (e ρ).bind fun r ρ => lift (asB r.d) ρ

/-- an argument: data, or a name -/
inductive Arg where
  | dat (d : D) | tmp (ds : List D) | nam (i : Nat)
  deriving Repr
def argOf : R → Arg
  | .val d => .dat d
  | .own ds => .tmp ds
/-- the callee's slots; the names whose lists are lent to it -/
def bindA (ρ : List Sl) : List Arg → List Nat → Option (List Sl)
  | [], _ => some []
  | .dat d :: r, used => (bindA ρ r used).map fun s => .val false d :: s
  | .tmp ds :: r, used => (bindA ρ r used).map fun s => .own false ds :: s
  | .nam i :: r, used => match ρ[i]? with
    | some (.val _ d) => (bindA ρ r used).map fun s => .val false d :: s
    | some (.own _ ds) => if used.contains i then none else (bindA ρ r (i :: used)).map fun s => .own true ds :: s
    | some (.lent ds) => if used.contains i then none else (bindA ρ r (i :: used)).map fun s => .lent ds :: s
    | _ => none
/-- what the callee left at the name i -/
def lookA (i : Nat) : List Arg → List Sl → Option Sl
  | .nam k :: as, s :: ss => if k = i then some s else lookA i as ss
  | .dat _ :: as, _ :: ss => lookA i as ss
  | .tmp _ :: as, _ :: ss => lookA i as ss
  | _, _ => none
def backS : Sl → Option Sl → Sl
  | .own b _, some (.own _ ds) => .own b ds
  | .own b _, some (.val _ d) => .val b d
  | s, _ => s
/-- what the callee did to the lists that were lent to it -/
def backA (as : List Arg) (ss : List Sl) : Nat → List Sl → List Sl
  | _, [] => []
  | i, s :: ρ => backS s (lookA i as ss) :: backA as ss (i + 1) ρ
abbrev Call := Nat → List Sl → Res R
def doCall (c : Call) (f : Nat) (as : List Arg) (ρ : List Sl) : Res R := match bindA ρ as [] with
  | none => .stuck
  | some args => match c f args with
    | .ok r args' => .ok r (backA as args' 0 ρ)
    | .stuck => .stuck

/-- a name is bound -/
def put (ρ : List Sl) (i : Nat) (s : Sl) : Option (List Sl) := match ρ[i]? with
  | some .unb => some (ρ.set i s)
  | some (.val false _) => some (ρ.set i s)
  | some (.own false _) => some (ρ.set i s)
  | _ => none
def putAll (ρ : List Sl) : List Nat → List D → Option (List Sl)
  | [], [] => some ρ
  | i :: is, d :: ds => (put ρ i (.val false d)).bind fun ρ => putAll ρ is ds
  | _, _ => none
/-- a loop's target: a name, or names -/
def bindF (ρ : List Sl) (is : List Nat) (one : Bool) (d : D) : Option (List Sl) := match one, is, d with
  | true, [i], d => put ρ i (.val false d)
  | false, is, .tup ds => putAll ρ is ds
  | _, _, _ => none

/-- what a walk takes: a name's own list is lent -/
def srcOf (i : Option Nat) (e : Ev) (ρ : List Sl) : Res (List D) := match i with
  | some i => match ρ[i]? with
    | some (.val _ d) => lift (items d) ρ
    | some (.own _ ds) => .ok ds (ρ.set i (.lent ds))
    | some (.lent ds) => .ok ds ρ
    | _ => .stuck
  | none => (e ρ).bind fun r ρ => lift (items r.d) ρ
/-- the list is given back: ρ₀ as it stood ahead of the walk -/
def unlend (ρ₀ : List Sl) (i : Option Nat) (ρ : List Sl) : List Sl := match i with
  | some i => match ρ₀[i]? with
    | some (.own b ds) => ρ.set i (.own b ds)
    | _ => ρ
  | none => ρ

/-- zip of a name's list and what b tells: the first is lent; told too: the frame ahead of the lending -/
def srcZ (i : Nat) (f : Ev) (ρ : List Sl) : Res (List D × List Sl) := (lift (pk ρ i) ρ).bind fun _ ρ => (f ρ).bind fun r ρb => (lift (items r.d) ρb).bind fun es ρb => match ρb[i]? with
  | some (.val _ d) => (lift (items d) ρb).bind fun ds ρb => .ok ((ds.zip es).map fun p => D.tup [p.1, p.2], ρb) ρb
  | some (.own _ ds) => .ok ((ds.zip es).map fun p => D.tup [p.1, p.2], ρb) (ρb.set i (.lent ds))
  | some (.lent ds) => .ok ((ds.zip es).map fun p => D.tup [p.1, p.2], ρb) ρb
  | _ => .stuck
/-- a comprehension's turns -/
def turns (is : List Nat) (one : Bool) (test : List Sl → Res Bool) (elt : Ev) : List D → List D → List Sl → Res (List D)
  | [], acc, ρ => .ok acc ρ
  | d :: r, acc, ρ => match bindF ρ is one d with
    | none => .stuck
    | some ρ => (test ρ).bind fun b ρ => if b then (elt ρ).bind fun x ρ => turns is one test elt r (acc ++ [x.d]) ρ else turns is one test elt r acc ρ

mutual
def ev (c : Call) : P → List Sl → Res R
  | .var i, ρ => match ρ[i]? with
    | some (.val _ d) => .ok (.val d) ρ
    | some (.own b ds) => .ok (.val (.lst ds)) (ρ.set i (.val b (.lst ds)))
    | _ => .stuck
  | .con d, ρ => .ok (.val d) ρ
  | .glob _ d, ρ => .ok (.val d) ρ
  | .bin o a b, ρ => (opd2 (isVar a) (ev c a) (isVar b) (ev c b) ρ).bind fun xy ρ => lift (op2 o xy.1 xy.2) ρ
  | .neg a, ρ => (opd (isVar a) (ev c a) ρ).bind fun x ρ => lift (negR x) ρ
  | .not a, ρ => (tru (ev c a) ρ).bind fun b ρ => .ok (.val (.bl (!b))) ρ
  | .and a b, ρ => (tru (ev c a) ρ).bind fun x ρ => if x then (tru (ev c b) ρ).bind fun y ρ => .ok (.val (.bl y)) ρ else .ok (.val (.bl false)) ρ
  | .or a b, ρ => (tru (ev c a) ρ).bind fun x ρ => if x then .ok (.val (.bl true)) ρ else (tru (ev c b) ρ).bind fun y ρ => .ok (.val (.bl y)) ρ
  | .cmp o a b, ρ => (opd2 (isVar a) (ev c a) (isVar b) (ev c b) ρ).bind fun xy ρ => lift (cmR o xy.1 xy.2) ρ
  | .chain o o' a b d, ρ => (opd2 (isVar a) (ev c a) (isVar b) (ev c b) ρ).bind fun xy ρ => (lift (if flat xy.2 = true then cm o xy.1 xy.2 else none) ρ).bind fun k ρ =>
      if k then (opd (isVar d) (ev c d) ρ).bind fun z ρ => lift (cmR o' xy.2 z) ρ else .ok (.val (.bl false)) ρ
  | .ife t a b, ρ => (tru (ev c t) ρ).bind fun k ρ => if k then (ev c a ρ).bind fun r ρ => .ok (.val r.d) ρ else (ev c b ρ).bind fun r ρ => .ok (.val r.d) ρ
  | .tup as, ρ => (evs c as ρ).bind fun ds ρ => .ok (.val (.tup ds)) ρ
  | .lst as, ρ => (evs c as ρ).bind fun ds ρ => .ok (.own ds) ρ
  | .idx a i, ρ => (opd2 (isVar a) (ev c a) (isVar i) (ev c i) ρ).bind fun xy ρ => lift (ixR xy.1 xy.2) ρ
  | .slice a l h, ρ => match isVar a with
    | some i => (lift (pk ρ i) ρ).bind fun _ ρ => (opd (isVar l) (ev c l) ρ).bind fun y ρ => (opd (isVar h) (ev c h) ρ).bind fun z ρ => (lift (pk ρ i) ρ).bind fun x ρ => lift (sl3 x (part l y) (part h z)) ρ
    | none => (opd none (ev c a) ρ).bind fun x ρ => (opd (isVar l) (ev c l) ρ).bind fun y ρ => (opd (isVar h) (ev c h) ρ).bind fun z ρ => lift (sl3 x (part l y) (part h z)) ρ
  | .call f as, ρ => (evA c as ρ).bind fun xs ρ => doCall c f xs ρ
  | .blt b [a], ρ => (opd (isVar a) (ev c a) ρ).bind fun x ρ => lift (blt b [x]) ρ
  | .blt b as, ρ => (evs c as ρ).bind fun ds ρ => lift (blt b ds) ρ
  | .inst ts a, ρ => (opd (isVar a) (ev c a) ρ).bind fun x ρ => .ok (.val (.bl (ts.any fun t => isTy t x))) ρ
  | .pop x, ρ => match ρ[x]? with
    | some (.own b ds) => lift (ds.getLast?.map .val) (ρ.set x (.own b ds.dropLast))
    | _ => .stuck
  | .comp src n is one test elt, ρ => (srcOf (isVar src) (ev c src) ρ).bind fun ds ρ₁ =>
      if ds.length ≤ lim then (turns is one (evT c test) (ev c elt) ds [] (ρ₁ ++ List.replicate n .unb)).bind fun xs ρ₂ => .ok (.own xs) (unlend ρ (isVar src) (ρ₂.take ρ₁.length)) else .stuck
  | .rng a b, ρ => (opd2 (isVar a) (ev c a) (isVar b) (ev c b) ρ).bind fun xy ρ => lift ((asI xy.1).bind fun i => (asI xy.2).bind fun j =>
      if -1000000 ≤ i ∧ i ≤ 1000000000 ∧ j ≤ 1000000000 ∧ -1000000000 ≤ j then some (.val (.lst ((List.range (j - i).toNat).map fun (k : Nat) => D.int (i + (k : Int))))) else none) ρ
  | .enm a, ρ => (ev c a ρ).bind fun r ρ => lift ((items r.d).map fun ds => .val (.lst (ds.mapIdx fun i d => D.tup [.int (i : Int), d]))) ρ
  | .zip a b, ρ => (ev c a ρ).bind fun x ρ => (ev c b ρ).bind fun y ρ => lift ((items x.d).bind fun ds => (items y.d).map fun es => .val (.lst ((ds.zip es).map fun p => D.tup [p.1, p.2]))) ρ
  | .rev a, ρ => (ev c a ρ).bind fun r ρ => lift ((itemsT r.d).map fun ds => .val (.lst ds.reverse)) ρ
  | .compZ i b n is one test elt, ρ => (srcZ i (ev c b) ρ).bind fun du ρ₁ =>
      if du.1.length ≤ lim then (turns is one (evT c test) (ev c elt) du.1 [] (ρ₁ ++ List.replicate n .unb)).bind fun xs ρ₂ => .ok (.own xs) (unlend du.2 (some i) (ρ₂.take ρ₁.length)) else .stuck
def evs (c : Call) : List P → List Sl → Res (List D)
  | [], ρ => .ok [] ρ
  | a :: r, ρ => (ev c a ρ).bind fun x ρ => (evs c r ρ).bind fun xs ρ => .ok (x.d :: xs) ρ
def evA (c : Call) : List P → List Sl → Res (List Arg)
  | [], ρ => .ok [] ρ
  | a :: r, ρ => match isVar a with
    | some i => (lift (pk ρ i) ρ).bind fun _ ρ => (evA c r ρ).bind fun xs ρ => .ok (.nam i :: xs) ρ
    | none => (ev c a ρ).bind fun x ρ => (evA c r ρ).bind fun xs ρ => .ok (argOf x :: xs) ρ
def evT (c : Call) : Option P → List Sl → Res Bool
  | none, ρ => .ok true ρ
  | some t, ρ => tru (ev c t) ρ
end

/-- statements -/
inductive S where
  | pass | brk | cont | bad
  | expr (e : P)
  | asg (i : Nat) (e : P)
  | par (i j : Nat) (a b : P)
  | unp (i : List Nat) (e : P)
  | seti (x : Nat) (i e : P)
  | app (x : Nat) (e : P)
  | ext (x : Nat) (e : P)
  | ret (e : P) | retN
  | ifs (c : P) (a b : List S)
  | forr (src : P) (i : List Nat) (one : Bool) (body : List S)
  | whl (c : P) (body : List S)
  | popi (x : Nat) (i : P)
  | swp (x : Nat) (i : P) (y : Nat) (j : P) (a b : P)
  | aug (x : Nat) (sub : Bool) (e : P)
  | augi (x : Nat) (i : P) (sub : Bool) (e : P)
  | extO (x : Nat) (e : P)
  deriving Repr, Inhabited

inductive Fl where
  | next | brk | cont | ret (r : R)
  deriving Repr, Inhabited

def slOf : R → Sl
  | .val d => .val false d
  | .own ds => .own false ds
/-- a for's turns -/
def forT (is : List Nat) (one : Bool) (body : List Sl → Res Fl) : List D → List Sl → Res Fl
  | [], ρ => .ok .next ρ
  | d :: r, ρ => match bindF ρ is one d with
    | none => .stuck
    | some ρ => (body ρ).bind fun fl ρ => match fl with
      | .next => forT is one body r ρ
      | .cont => forT is one body r ρ
      | .brk => .ok .next ρ
      | .ret r => .ok (.ret r) ρ
/-- a while's turns -/
def whlT (test : List Sl → Res Bool) (body : List Sl → Res Fl) : Nat → List Sl → Res Fl
  | 0, _ => .stuck
  | n + 1, ρ => (test ρ).bind fun b ρ => if b then (body ρ).bind fun fl ρ => match fl with
      | .next => whlT test body n ρ
      | .cont => whlT test body n ρ
      | .brk => .ok .next ρ
      | .ret r => .ok (.ret r) ρ
    else .ok .next ρ

mutual
def ex (c : Call) (n : Nat) : S → List Sl → Res Fl
  | .pass, ρ => .ok .next ρ
  | .brk, ρ => .ok .brk ρ
  | .cont, ρ => .ok .cont ρ
  | .bad, _ => .stuck
  | .expr e, ρ => (ev c e ρ).bind fun _ ρ => .ok .next ρ
  | .asg i e, ρ => (ev c e ρ).bind fun r ρ => (lift (put ρ i (slOf r)) ρ).bind fun ρ' _ => .ok .next ρ'
  | .par i j a b, ρ => (ev c a ρ).bind fun x ρ => (ev c b ρ).bind fun y ρ => (lift ((put ρ i (.val false x.d)).bind fun ρ => put ρ j (.val false y.d)) ρ).bind fun ρ' _ => .ok .next ρ'
  | .unp is e, ρ => (ev c e ρ).bind fun r ρ => match r.d with
    | .tup ds => (lift (putAll ρ is ds) ρ).bind fun ρ' _ => .ok .next ρ'
    | _ => .stuck
  | .seti x i e, ρ => (ev c e ρ).bind fun r ρ => (lift (pk ρ x) ρ).bind fun _ ρ => (opd (isVar i) (ev c i) ρ).bind fun k ρ => match ρ[x]?, k with
    | some (.own b ds), .int k => match ixN ds.length k with
      | some j => .ok .next (ρ.set x (.own b (ds.set j r.d)))
      | none => .stuck
    | _, _ => .stuck
  | .app x e, ρ => (lift (pkL ρ x) ρ).bind fun _ ρ => (ev c e ρ).bind fun r ρ => match ρ[x]? with
    | some (.own b ds) => if ds.length < lim then .ok .next (ρ.set x (.own b (ds ++ [r.d]))) else .stuck
    | _ => .stuck
  | .ext x e, ρ => (lift (pkL ρ x) ρ).bind fun _ ρ => (ev c e ρ).bind fun r ρ => match ρ[x]?, r.d with
    | some (.own b ds), .lst es => if ds.length + es.length ≤ lim then .ok .next (ρ.set x (.own b (ds ++ es))) else .stuck
    | _, _ => .stuck
  | .ret e, ρ => match isVar e with
    | some i => match ρ[i]? with
      | some (.own false ds) => .ok (.ret (.own ds)) (ρ.set i .unb)
      | _ => (ev c e ρ).bind fun r ρ => .ok (.ret r) ρ
    | none => (ev c e ρ).bind fun r ρ => .ok (.ret r) ρ
  | .retN, ρ => .ok (.ret (.val .non)) ρ
  | .ifs t a b, ρ => (tru (ev c t) ρ).bind fun k ρ => if k then exs c n a ρ else exs c n b ρ
  | .forr src is one body, ρ => (srcOf (isVar src) (ev c src) ρ).bind fun ds ρ₁ => (forT is one (exs c n body) ds ρ₁).bind fun fl ρ₂ => .ok fl (unlend ρ (isVar src) ρ₂)
  | .whl t body, ρ => whlT (tru (ev c t)) (exs c n body) n ρ
  | .popi x i, ρ => (lift (pkL ρ x) ρ).bind fun _ ρ => (opd (isVar i) (ev c i) ρ).bind fun k ρ => match ρ[x]?, k with
    | some (.own b ds), .int k => match ixN ds.length k with
      | some j => if ds.length ≤ lim then .ok .next (ρ.set x (.own b (ds.eraseIdx j))) else .stuck
      | none => .stuck
    | _, _ => .stuck
  | .swp x i y j a b, ρ => (ev c a ρ).bind fun u ρ => (ev c b ρ).bind fun v ρ => (lift (pk ρ x) ρ).bind fun _ ρ => (opd (isVar i) (ev c i) ρ).bind fun k ρ => match ρ[x]?, k with
    | some (.own b ds), .int k => match ixN ds.length k with
      | some m => (lift (pk (ρ.set x (.own b (ds.set m u.d))) y) (ρ.set x (.own b (ds.set m u.d)))).bind fun _ ρ => (opd (isVar j) (ev c j) ρ).bind fun k ρ => match ρ[y]?, k with
        | some (.own b ds), .int k => match ixN ds.length k with
          | some m => .ok .next (ρ.set y (.own b (ds.set m v.d)))
          | none => .stuck
        | _, _ => .stuck
      | none => .stuck
    | _, _ => .stuck
  | .aug x sub e, ρ => (lift (pk ρ x) ρ).bind fun a ρ => (opd (isVar e) (ev c e) ρ).bind fun b ρ => match a, b with
    | .int i, .int j => (lift (put ρ x (.val false (.int (if sub then i - j else i + j)))) ρ).bind fun ρ' _ => .ok .next ρ'
    | _, _ => .stuck
  | .augi x i sub e, ρ => (lift (pk ρ x) ρ).bind fun _ ρ => (opd (isVar i) (ev c i) ρ).bind fun k ρ => (lift (pk ρ x) ρ).bind fun l ρ => (lift (ixR l k) ρ).bind fun a ρ => (opd (isVar e) (ev c e) ρ).bind fun b ρ => match a, b, ρ[x]?, k with
    | .val (.int u), .int v, some (.own bb ds), .int k => match ixN ds.length k with
      | some j => .ok .next (ρ.set x (.own bb (ds.set j (.int (if sub then u - v else u + v)))))
      | none => .stuck
    | _, _, _, _ => .stuck
  | .extO x e, ρ => (lift (pkL ρ x) ρ).bind fun _ ρ => (ev c e ρ).bind fun r ρ => match ρ[x]?, r with
    | some (.own b ds), .own es => if ds.length + es.length ≤ lim then .ok .next (ρ.set x (.own b (ds ++ es))) else .stuck
    | _, _ => .stuck
def exs (c : Call) (n : Nat) : List S → List Sl → Res Fl
  | [], ρ => .ok .next ρ
  | s :: r, ρ => (ex c n s ρ).bind fun fl ρ => match fl with
    | .next => exs c n r ρ
    | fl => .ok fl ρ
end

/-- a def: how many parameters, how many names, the body -/
structure Fd where
  np : Nat
  nn : Nat
  body : List S
  deriving Repr, Inhabited
abbrev Tab := Nat → Option Fd
def enter (c : Call) (n : Nat) (d : Fd) (args : List Sl) : Res R :=
  if args.length = d.np ∧ d.np ≤ d.nn then match exs c n d.body (args ++ List.replicate (d.nn - d.np) .unb) with
    | .ok .next ρ => .ok (.val .non) (ρ.take d.np)
    | .ok (.ret r) ρ => .ok r (ρ.take d.np)
    | _ => .stuck
  else .stuck
/-- the program runs: w bounds a while's turns, the second number the depth of calls -/
def run (Γ : Tab) (w : Nat) : Nat → Call
  | 0, _, _ => .stuck
  | n + 1, f, args => match Γ f with
    | some d => enter (run Γ w n) w d args
    | none => .stuck
end HH
end

section
set_option linter.all false
set_option Elab.async false
/-! Data upon the heap: what the evaluator's slots say of the abstract heap. -/
namespace HH
open PySem L2
section
variable (K : PySem.W.Frag)
mutual
def Rep (F : Hp) : V → D → Prop
  | v, .non => v = .non
  | v, .bl b => v = .bl b
  | v, .int i => v = .int i
  | v, .str x => v = .str x
  | v, .tup ds => ∃ a xs, v = .ref a ∧ SqT K F a xs ∧ Reps F xs ds
  | v, .lst ds => ∃ a xs, v = .ref a ∧ SqL K F a xs ∧ Reps F xs ds
def Reps (F : Hp) : List V → List D → Prop
  | vs, [] => vs = []
  | vs, d :: ds => ∃ v r, vs = v :: r ∧ Rep F v d ∧ Reps F r ds
end
end
section
variable {K : PySem.W.Frag} {F F' H H' : Hp}
theorem Same.seqT {a : Addr} {xs : List V} (e : Same H H') (h : SqT K H a xs) : SqT K H' a xs := by
  rcases h with (h | ⟨o, h⟩) | h
  · exact .inl (.inl (e _ _ h))
  · exact .inl (.inr ⟨o, e _ _ h⟩)
  · exact .inr h
mutual
theorem Rep.mono (e : Same F F') : ∀ {d : D} {v : V}, Rep K F v d → Rep K F' v d
  | .non, _, h => by rw [Rep] at h ⊢; exact h
  | .bl _, _, h => by rw [Rep] at h ⊢; exact h
  | .int _, _, h => by rw [Rep] at h ⊢; exact h
  | .str _, _, h => by rw [Rep] at h ⊢; exact h
  | .tup ds, _, h => by
    rw [Rep] at h ⊢
    obtain ⟨a, xs, rfl, hs, r⟩ := h
    exact ⟨a, xs, rfl, Same.seqT e hs, Reps.mono e r⟩
  | .lst ds, _, h => by
    rw [Rep] at h ⊢
    obtain ⟨a, xs, rfl, hs, r⟩ := h
    exact ⟨a, xs, rfl, e.seq hs, Reps.mono e r⟩
theorem Reps.mono (e : Same F F') : ∀ {ds : List D} {vs : List V}, Reps K F vs ds → Reps K F' vs ds
  | [], _, h => by rw [Reps] at h ⊢; exact h
  | d :: ds, _, h => by
    rw [Reps] at h ⊢
    obtain ⟨v, r, rfl, h1, h2⟩ := h
    exact ⟨v, r, rfl, Rep.mono e h1, Reps.mono e h2⟩
end
theorem Reps.nil : Reps K F [] [] := by rw [Reps]
theorem Reps.cons {v : V} {d : D} {vs : List V} {ds : List D} (h : Rep K F v d) (t : Reps K F vs ds) : Reps K F (v :: vs) (d :: ds) := by
  rw [Reps]; exact ⟨v, vs, rfl, h, t⟩
theorem Reps.uncons {vs : List V} {d : D} {ds : List D} (h : Reps K F vs (d :: ds)) : ∃ v r, vs = v :: r ∧ Rep K F v d ∧ Reps K F r ds := by rw [Reps] at h; exact h
theorem Reps.unnil {vs : List V} (h : Reps K F vs []) : vs = [] := by rw [Reps] at h; exact h
theorem Reps.length : ∀ {ds : List D} {vs : List V}, Reps K F vs ds → vs.length = ds.length
  | [], _, h => by rw [h.unnil]; rfl
  | d :: ds, _, h => by
    obtain ⟨v, r, rfl, _, t⟩ := h.uncons
    simp [Reps.length t]
theorem Reps.get : ∀ {ds : List D} {vs : List V} {i : Nat} {d : D}, Reps K F vs ds → ds[i]? = some d → ∃ v, vs[i]? = some v ∧ Rep K F v d
  | [], _, _, _, h, e => by simp at e
  | d :: ds, _, 0, _, h, e => by
    obtain ⟨v, r, rfl, h1, t⟩ := h.uncons
    simp at e; subst e
    exact ⟨v, rfl, h1⟩
  | d :: ds, _, i + 1, _, h, e => by
    obtain ⟨v, r, rfl, _, t⟩ := h.uncons
    simp at e
    obtain ⟨w, e1, e2⟩ := t.get e
    exact ⟨w, by simpa using e1, e2⟩
theorem Reps.append : ∀ {ds es : List D} {vs us : List V}, Reps K F vs ds → Reps K F us es → Reps K F (vs ++ us) (ds ++ es)
  | [], _, _, _, h, h' => by rw [h.unnil]; exact h'
  | d :: ds, _, _, _, h, h' => by
    obtain ⟨v, r, rfl, h1, t⟩ := h.uncons
    exact .cons h1 (t.append h')
theorem Reps.set {v : V} {d : D} (hr : Rep K F v d) : ∀ {ds : List D} {vs : List V} (i : Nat), Reps K F vs ds → Reps K F (vs.set i v) (ds.set i d)
  | [], _, _, h => by rw [h.unnil]; exact .nil
  | _ :: _, _, 0, h => by
    obtain ⟨w, r, rfl, h1, t⟩ := h.uncons
    exact .cons hr t
  | _ :: _, _, i + 1, h => by
    obtain ⟨w, r, rfl, h1, t⟩ := h.uncons
    exact .cons h1 (Reps.set hr i t)
theorem Reps.take : ∀ {ds : List D} {vs : List V} (n : Nat), Reps K F vs ds → Reps K F (vs.take n) (ds.take n)
  | [], _, n, h => by rw [h.unnil]; simpa using Reps.nil
  | _ :: _, _, 0, h => .nil
  | _ :: _, _, n + 1, h => by
    obtain ⟨w, r, rfl, h1, t⟩ := h.uncons
    exact .cons h1 (t.take n)
theorem Reps.drop : ∀ {ds : List D} {vs : List V} (n : Nat), Reps K F vs ds → Reps K F (vs.drop n) (ds.drop n)
  | [], _, n, h => by rw [h.unnil]; simpa using Reps.nil
  | _ :: _, _, 0, h => h
  | _ :: _, _, n + 1, h => by
    obtain ⟨w, r, rfl, h1, t⟩ := h.uncons
    exact t.drop n
theorem Reps.rep {ds : List D} {vs : List V} (h : Reps K F vs ds) : ∀ n, Reps K F (List.replicate n vs).flatten (List.replicate n ds).flatten
  | 0 => by simpa using Reps.nil
  | n + 1 => by simpa [List.replicate_succ] using h.append (Reps.rep h n)

/-! ### slots -/
def lst? : Sl → Option (List D)
  | .own _ ds => some ds
  | .lent ds => some ds
  | _ => none
def OwnAt (ρ : List Sl) (σ : St) (i : Nat) (a : Addr) : Prop := (∃ s ds, ρ[i]? = some s ∧ lst? s = some ds) ∧ σ[i]? = some (some (V.ref a))
def Own (ρ : List Sl) (σ : St) (a : Addr) : Prop := ∃ i, OwnAt ρ σ i a
structure GS (K : PySem.W.Frag) (F : Hp) (ρ : List Sl) (σ : St) (H : Hp) : Prop where
  sub : Same F H
  len : ρ.length = σ.length
  val : ∀ (i : Nat) (b : Bool) (d : D), ρ[i]? = some (Sl.val b d) → ∃ v : V, σ[i]? = some (some v) ∧ Rep K F v d
  own : ∀ (i : Nat) (s : Sl) (ds : List D), ρ[i]? = some s → lst? s = some ds → ∃ (a : Addr) (xs : List V), σ[i]? = some (some (V.ref a)) ∧ H a = some (.lst xs) ∧ F a = none ∧ Reps K F xs ds
  dis : ∀ (i j : Nat) (a : Addr), OwnAt ρ σ i a → OwnAt ρ σ j a → i = j
/-- locked slots: a caller's, or walked -/
def lkd : Sl → Bool
  | .val b _ => b
  | .own b _ => b
  | .lent _ => true
  | .unb => false
def lkOk : Sl → Sl → Prop
  | .val true d, s => s = .val true d
  | .own true _, s => (∃ ds, s = .own true ds) ∨ ∃ d, s = .val true d
  | .lent ds, s => s = .lent ds
  | _, _ => True
theorem lkOk.refl (s : Sl) : lkOk s s := by
  unfold lkOk; split <;> first | rfl | exact .inl ⟨_, rfl⟩ | trivial
theorem lkOk.lkd {s s' : Sl} (h : lkOk s s') (l : lkd s = true) : HH.lkd s' = true := by
  cases s with
  | unb => cases l
  | val b d => cases b with
    | true => cases h; rfl
    | false => cases l
  | own b d => cases b with
    | true => rcases h with ⟨_, rfl⟩ | ⟨_, rfl⟩ <;> rfl
    | false => cases l
  | lent d => cases h; rfl
theorem lkOk.trans {s s' s'' : Sl} (l : HH.lkd s = true) (h : lkOk s s') (h' : lkOk s' s'') : lkOk s s'' := by
  cases s with
  | unb => cases l
  | val b d => cases b with
    | true => cases h; exact h'
    | false => cases l
  | own b d => cases b with
    | true => rcases h with ⟨_, rfl⟩ | ⟨d, rfl⟩
              · exact h'
              · exact .inr ⟨d, h'⟩
    | false => cases l
  | lent d => cases h; exact h'
structure Stp (K : PySem.W.Frag) (F : Hp) (ρ : List Sl) (σ : St) (H : Hp) (F' : Hp) (ρ' : List Sl) (σ' : St) (H' : Hp) : Prop where
  gs : GS K F' ρ' σ' H'
  fsub : Same F F'
  fgr : ∀ b, F b = none → F' b ≠ none → Own ρ σ b ∨ H b = none
  keep : ∀ b o, H b = some o → ¬ Own ρ σ b → H' b = some o
  ogr : ∀ b, Own ρ' σ' b → Own ρ σ b ∨ H b = none
  len : ρ'.length = ρ.length
  lk : ∀ (i : Nat) (s : Sl), ρ[i]? = some s → lkd s = true → σ'[i]? = σ[i]? ∧ ∃ s', ρ'[i]? = some s' ∧ lkOk s s'
theorem Stp.refl {ρ : List Sl} {σ : St} (g : GS K F ρ σ H) : Stp K F ρ σ H F ρ σ H :=
  ⟨g, Same.refl _, fun b h h' => absurd h h', fun _ _ h _ => h, fun _ h => .inl h, rfl, fun i s h _ => ⟨rfl, s, h, .refl s⟩⟩
theorem Stp.trans {F1 F2 H1 H2 : Hp} {ρ ρ1 ρ2 : List Sl} {σ σ1 σ2 : St} (a : Stp K F ρ σ H F1 ρ1 σ1 H1) (b : Stp K F1 ρ1 σ1 H1 F2 ρ2 σ2 H2) : Stp K F ρ σ H F2 ρ2 σ2 H2 := by
  have back : ∀ c, Own ρ1 σ1 c ∨ H1 c = none → Own ρ σ c ∨ H c = none := fun c h => by
    rcases h with h | h
    · exact a.ogr c h
    · by_cases ho : Own ρ σ c
      · exact .inl ho
      · right
        cases e : H c with
        | none => rfl
        | some o => rw [a.keep c o e ho] at h; cases h
  refine ⟨b.gs, a.fsub.trans b.fsub, fun c h h' => ?_, fun c o h n => ?_, fun c h => back c (b.ogr c h), b.len.trans a.len, fun i s h l => ?_⟩
  · by_cases e : F1 c = none
    · exact back c (b.fgr c e h')
    · exact a.fgr c h e
  · refine b.keep c o (a.keep c o h n) fun h' => ?_
    rcases a.ogr c h' with h' | h'
    · exact n h'
    · rw [h] at h'; cases h'
  · obtain ⟨e1, s1, h1, k1⟩ := a.lk i s h l
    obtain ⟨e2, s2, h2, k2⟩ := b.lk i s1 h1 (k1.lkd l)
    exact ⟨e2.trans e1, s2, h2, .trans l k1 k2⟩

/-- what is only looked at -/
def PRep (K : PySem.W.Frag) (F H : Hp) (v : V) (d : D) : Prop := Rep K F v d ∨ ∃ a xs ds, v = .ref a ∧ H a = some (.lst xs) ∧ Reps K F xs ds ∧ d = .lst ds
/-- a value that has come -/
def RepR (K : PySem.W.Frag) (F' : Hp) (ρ' : List Sl) (σ' : St) (H' : Hp) (ρ : List Sl) (σ : St) (H : Hp) (v : V) : R → Prop
  | .val d => Rep K F' v d
  | .own ds => ∃ a xs, v = .ref a ∧ H' a = some (.lst xs) ∧ F' a = none ∧ Reps K F' xs ds ∧ ¬ Own ρ' σ' a ∧ (Own ρ σ a ∨ H a = none)
theorem Same.upd_none {F : Hp} {a : Addr} {o : HO} (h : F a = none) : Same F (upd F a o) := fun b u e => by
  have : b ≠ a := by rintro rfl; rw [h] at e; cases e
  rw [upd_ne this]; exact e
theorem Stp.frz {ρ ρ' : List Sl} {σ σ' : St} {v : V} {r : R} (s : Stp K F ρ σ H F' ρ' σ' H') (h : RepR K F' ρ' σ' H' ρ σ H v r) :
    ∃ F'', Stp K F ρ σ H F'' ρ' σ' H' ∧ Same F' F'' ∧ Rep K F'' v r.d := by
  cases r with
  | val d => exact ⟨F', s, .refl _, h⟩
  | own ds =>
    obtain ⟨a, xs, rfl, h1, h2, h3, h4, h5⟩ := h
    have sm : Same F' (upd F' a (.lst xs)) := Same.upd_none h2
    refine ⟨upd F' a (.lst xs), ⟨⟨fun b o e => ?_, s.gs.len, fun i b d e => ?_, fun i sl ds' e e' => ?_, s.gs.dis⟩, s.fsub.trans sm, fun b n n' => ?_, s.keep, s.ogr, s.len, s.lk⟩, sm, ?_⟩
    · by_cases hb : b = a
      · subst hb; rw [upd_same] at e; cases e; exact h1
      · rw [upd_ne hb] at e; exact s.gs.sub b o e
    · obtain ⟨v, e1, e2⟩ := s.gs.val i b d e
      exact ⟨v, e1, e2.mono sm⟩
    · obtain ⟨b, ys, e1, e2, e3, e4⟩ := s.gs.own i sl ds' e e'
      have hb : b ≠ a := by rintro rfl; exact h4 ⟨i, ⟨sl, ds', e, e'⟩, e1⟩
      exact ⟨b, ys, e1, e2, by rw [upd_ne hb]; exact e3, e4.mono sm⟩
    · by_cases hb : b = a
      · subst hb; exact h5
      · rw [upd_ne hb] at n'; exact s.fgr b n n'
    · show Rep K _ _ (.lst ds)
      rw [Rep]; exact ⟨a, xs, rfl, SqL.of upd_same, h3.mono sm⟩
/-- a slot looked at -/
theorem GS.pk {ρ : List Sl} {σ : St} {i : Nat} {d : D} (g : GS K F ρ σ H) (e : HH.pk ρ i = some d) : ∃ v : V, σ[i]? = some (some v) ∧ PRep K F H v d := by
  unfold HH.pk at e
  split at e
  · rename_i b d' h
    cases e
    obtain ⟨v, h1, h2⟩ := g.val i b d h
    exact ⟨v, h1, .inl h2⟩
  · rename_i b ds h
    cases e
    obtain ⟨a, xs, h1, h2, h3, h4⟩ := g.own i _ ds h rfl
    exact ⟨.ref a, h1, .inr ⟨a, xs, ds, rfl, h2, h4, rfl⟩⟩
  · rename_i ds h
    cases e
    obtain ⟨a, xs, h1, h2, h3, h4⟩ := g.own i _ ds h rfl
    exact ⟨.ref a, h1, .inr ⟨a, xs, ds, rfl, h2, h4, rfl⟩⟩
  · cases e
/-- only new things were laid -/
structure Ext (F H F' H' : Hp) : Prop where
  hs : Same H H'
  fs : Same F F'
  sub : Same F' H'
  gr : ∀ b, F b = none → F' b ≠ none → H b = none
theorem Ext.refl (h : Same F H) : Ext F H F H := ⟨.refl _, .refl _, h, fun _ a b => absurd a b⟩
theorem Ext.stp {ρ : List Sl} {σ : St} (g : GS K F ρ σ H) (e : Ext F H F' H') : Stp K F ρ σ H F' ρ σ H' := by
  refine ⟨⟨e.sub, g.len, fun i b d h => ?_, fun i s ds h h' => ?_, g.dis⟩, e.fs, fun b n n' => .inr (e.gr b n n'), fun b o h _ => e.hs b o h, fun _ h => .inl h, rfl, fun i s h _ => ⟨rfl, s, h, .refl s⟩⟩
  · obtain ⟨v, h1, h2⟩ := g.val i b d h
    exact ⟨v, h1, h2.mono e.fs⟩
  · obtain ⟨a, xs, h1, h2, h3, h4⟩ := g.own i s ds h h'
    refine ⟨a, xs, h1, e.hs _ _ h2, ?_, h4.mono e.fs⟩
    cases q : F' a with
    | none => rfl
    | some o => have := e.gr a h3 (by rw [q]; simp); rw [h2] at this; cases this
/-- a value, behind new things alone -/
def RepN (K : PySem.W.Frag) (F' H' H : Hp) (v : V) : R → Prop
  | .val d => Rep K F' v d
  | .own ds => ∃ a xs, v = .ref a ∧ H' a = some (.lst xs) ∧ F' a = none ∧ Reps K F' xs ds ∧ H a = none
theorem RepN.repR {ρ : List Sl} {σ : St} {v : V} {r : R} (g : GS K F ρ σ H) (h : RepN K F' H' H v r) : RepR K F' ρ σ H' ρ σ H v r := by
  cases r with
  | val d => exact h
  | own ds =>
    obtain ⟨a, xs, rfl, h1, h2, h3, h4⟩ := h
    refine ⟨a, xs, rfl, h1, h2, h3, fun ⟨i, ⟨s, ds', e, e'⟩, e2⟩ => ?_, .inr h4⟩
    obtain ⟨b, ys, q1, q2, _⟩ := g.own i s ds' e e'
    rw [e2] at q1; cases q1
    rw [h4] at q2; cases q2
/-- a value, later -/
theorem RepR.later {F1 H1 F2 H2 : Hp} {ρ ρ1 ρ2 : List Sl} {σ σ1 σ2 : St} {v : V} {r : R} (a : Stp K F ρ σ H F1 ρ1 σ1 H1) (h : RepR K F2 ρ2 σ2 H2 ρ1 σ1 H1 v r) : RepR K F2 ρ2 σ2 H2 ρ σ H v r := by
  cases r with
  | val d => exact h
  | own ds =>
    obtain ⟨b, xs, rfl, h1, h2, h3, h4, h5⟩ := h
    refine ⟨b, xs, rfl, h1, h2, h3, h4, ?_⟩
    rcases h5 with h5 | h5
    · exact a.ogr b h5
    · by_cases ho : Own ρ σ b
      · exact .inl ho
      · right
        cases e : H b with
        | none => rfl
        | some o => rw [a.keep b o e ho] at h5; cases h5
end
end HH
end

section
set_option linter.all false
set_option Elab.async false
set_option maxRecDepth 10000
/-! The evaluator's word holds in the model: expressions. -/
namespace HH
open PySem L2 PySem.Spec PyProof.Rows

theorem bind_ok {α β : Type} {x : Res α} {f : α → List Sl → Res β} {b : β} {ρ' : List Sl} (h : x.bind f = .ok b ρ') : ∃ a ρ, x = .ok a ρ ∧ f a ρ = .ok b ρ' := by
  cases x with
  | ok a ρ => exact ⟨a, ρ, rfl, h⟩
  | stuck => cases h
theorem lift_ok {α : Type} {o : Option α} {ρ ρ' : List Sl} {a : α} (h : lift o ρ = .ok a ρ') : o = some a ∧ ρ = ρ' := by
  cases o with
  | none => cases h
  | some b => cases h; exact ⟨rfl, rfl⟩
theorem map_some {α β : Type} {o : Option α} {f : α → β} {b : β} (h : o.map f = some b) : ∃ a, o = some a ∧ f a = b := by
  cases o with
  | none => cases h
  | some a => cases h; exact ⟨a, rfl, rfl⟩
theorem bindO {α β : Type} {o : Option α} {f : α → Option β} {b : β} (h : o.bind f = some b) : ∃ a, o = some a ∧ f a = some b := by
  cases o with
  | none => cases h
  | some a => exact ⟨a, rfl, h⟩
theorem ite_some {α : Type} {c : Prop} [Decidable c] {a b : α} (h : (if c then some a else none) = some b) : c ∧ a = b := by
  split at h
  · rename_i hc; cases h; exact ⟨hc, rfl⟩
  · cases h

section
variable {X : Cx} {c : Call} {e a b : Expr} {p pa pb : P} {pos : Pos}
theorem peImp {t t' : TE} (h : PE X e t) (i : ∀ σ H Q, t' σ H Q → t σ H Q) : PE X e t' := fun pins s σ H Q I q => h pins s σ H Q I (i σ H Q q)
theorem ptImp {t t' : TT} (h : PT X e t) (i : ∀ σ H Q, t' σ H Q → t σ H Q) : PT X e t' := fun pins s σ H Q I q => h pins s σ H Q I (i σ H Q q)
theorem pwImp {t t' : TT} (h : PW X e t) (i : ∀ σ H Q, t' σ H Q → t σ H Q) : PW X e t' := fun wh pins s σ H Q I q => h wh pins s σ H Q I (i σ H Q q)
theorem paImp {es : List Expr} {t t' : TA} (h : PA X es t) (i : ∀ σ H Q, t' σ H Q → t σ H Q) : PA X es t' := fun pos pins s σ H Q I q => h pos pins s σ H Q I (i σ H Q q)

/-- an expression by the evaluator's word -/
def tEv (K : PySem.W.Frag) (f : Ev) : TE := fun σ H Q => ∃ F ρ r ρ', GS K F ρ σ H ∧ f ρ = .ok r ρ' ∧ ∀ v F' H', Stp K F ρ σ H F' ρ' σ H' → RepR K F' ρ' σ H' ρ σ H v r → Q v H'
def tTr (K : PySem.W.Frag) (f : List Sl → Res Bool) : TT := fun σ H Q => ∃ F ρ k ρ', GS K F ρ σ H ∧ f ρ = .ok k ρ' ∧ ∀ F' H', Stp K F ρ σ H F' ρ' σ H' → Q k H'
def tEvs (K : PySem.W.Frag) (f : List Sl → Res (List D)) : TA := fun σ H Q => ∃ F ρ ds ρ', GS K F ρ σ H ∧ f ρ = .ok ds ρ' ∧ ∀ vs F' H', Stp K F ρ σ H F' ρ' σ H' → Reps K F' vs ds → Q vs H'
/-- sound: an expression; as a test -/
structure SX (X : Cx) (c : Call) (e : Expr) (p : P) : Prop where
  ev : PE X e (tEv X.K (HH.ev c p))
  var : ∀ i, isVar p = some i → PE X e (tVar i)
def SA (X : Cx) (c : Call) (es : List Expr) (ps : List P) : Prop := PA X es (tEvs X.K (evs c ps)) ∧ ps.length = es.length

/-- an operand that is looked at -/
theorem SX.opd (h : SX X c e p) : ∃ t, PE X e t ∧ ∀ {σ : L2.St} {H F : Hp} {ρ ρ' : List Sl} {d : D} {Q : VK}, GS X.K F ρ σ H → opd (isVar p) (HH.ev c p) ρ = .ok d ρ' →
    (∀ v F' H', Stp X.K F ρ σ H F' ρ' σ H' → PRep X.K F' H' v d → Q v H') → t σ H Q := by
  cases hv : isVar p with
  | none =>
    refine ⟨_, h.ev, fun {σ H F ρ ρ' d Q} g e k => ?_⟩
    obtain ⟨r, ρ1, e1, e2⟩ := bind_ok e
    cases e2
    refine ⟨F, ρ, r, _, g, e1, fun v F' H' s rr => ?_⟩
    obtain ⟨F'', s', _, rp⟩ := s.frz rr
    exact k v F'' H' s' (.inl rp)
  | some i =>
    refine ⟨_, h.var i hv, fun {σ H F ρ ρ' d Q} g e k => ?_⟩
    obtain ⟨e1, e2⟩ := lift_ok e
    subst e2
    obtain ⟨v, h1, h2⟩ := g.pk e1
    exact ⟨v, h1, k v F H (.refl g) h2⟩
/-- two operands -/
theorem SX.opd2 (ha : SX X c a pa) (hb : SX X c b pb) : ∃ ta tb, PE X a ta ∧ PE X b tb ∧ ∀ {σ : L2.St} {H F : Hp} {ρ ρ' : List Sl} {xy : D × D} {R : V → V → Hp → Prop}, GS X.K F ρ σ H →
    opd2 (isVar pa) (HH.ev c pa) (isVar pb) (HH.ev c pb) ρ = .ok xy ρ' → (∀ v u F' H', Stp X.K F ρ σ H F' ρ' σ H' → PRep X.K F' H' v xy.1 → PRep X.K F' H' u xy.2 → R v u H') → ta σ H fun x H1 => tb σ H1 fun y H2 => R x y H2 := by
  obtain ⟨tb, hb1, hb2⟩ := hb.opd
  cases hv : isVar pa with
  | none =>
    refine ⟨_, tb, ha.ev, hb1, fun {σ H F ρ ρ' xy R} g e k => ?_⟩
    obtain ⟨x, ρ1, e1, e⟩ := bind_ok e
    obtain ⟨y, ρ2, e2, e⟩ := bind_ok e
    cases e
    obtain ⟨r, ρ1', e1, e0⟩ := bind_ok e1
    cases e0
    refine ⟨F, ρ, r, _, g, e1, fun v F' H' s rr => ?_⟩
    obtain ⟨F1, s1, _, rp⟩ := s.frz rr
    refine hb2 s1.gs e2 fun u F2 H2 s2 pu => ?_
    exact k v u F2 H2 (s1.trans s2) (.inl (rp.mono s2.fsub)) pu
  | some i =>
    refine ⟨_, tb, ha.var i hv, hb1, fun {σ H F ρ ρ' xy R} g e k => ?_⟩
    obtain ⟨x0, ρ0, e0, e⟩ := bind_ok e
    obtain ⟨e00, e01⟩ := lift_ok e0
    subst e01
    obtain ⟨y, ρ1, e1, e⟩ := bind_ok e
    obtain ⟨x, ρ2, e2, e⟩ := bind_ok e
    cases e
    have zz := lift_ok e2; clear e2; obtain ⟨e2, e3⟩ := zz
    subst e3
    obtain ⟨v, h1, _⟩ := g.pk e00
    refine ⟨v, h1, hb2 g e1 fun u F1 H1 s1 pu => ?_⟩
    obtain ⟨v', h1', pv⟩ := s1.gs.pk e2
    rw [h1] at h1'
    cases h1'
    exact k v u F1 H1 s1 pv pu

/-- an operation on data -/
def rD (K : PySem.W.Frag) (f : D → D → Option R) : R2 := fun x y H Q => ∃ F d e r, Same F H ∧ PRep K F H x d ∧ PRep K F H y e ∧ f d e = some r ∧ ∀ v F' H', Ext F H F' H' → RepN K F' H' H v r → Q v H'
def rD1 (K : PySem.W.Frag) (f : D → Option R) : V → Hp → VK → Prop := fun x H Q => ∃ F d r, Same F H ∧ PRep K F H x d ∧ f d = some r ∧ ∀ v F' H', Ext F H F' H' → RepN K F' H' H v r → Q v H'
theorem sx_op2 {E : Expr} {f : D → D → Option R} {q : P} (hp : ∀ {ta tb}, PE X a ta → PE X b tb → PE X E (tOp (rD X.K f) ta tb)) (ha : SX X c a pa) (hb : SX X c b pb)
    (hq : ∀ ρ, HH.ev c q ρ = (HH.opd2 (isVar pa) (HH.ev c pa) (isVar pb) (HH.ev c pb) ρ).bind fun xy ρ => lift (f xy.1 xy.2) ρ) (hv : isVar q = none) : SX X c E q := by
  obtain ⟨ta, tb, h1, h2, h3⟩ := ha.opd2 hb
  refine ⟨peImp (hp h1 h2) fun σ H Q ⟨F, ρ, r, ρ', g, e, k⟩ => ?_, fun i h => by rw [hv] at h; cases h⟩
  rw [hq] at e
  obtain ⟨xy, ρ1, e1, e2⟩ := bind_ok e
  have zz := lift_ok e2; clear e2; obtain ⟨e2, e3⟩ := zz
  subst e3
  refine h3 g e1 fun v u F' H' s pv pu => ⟨F', xy.1, xy.2, r, s.gs.sub, pv, pu, e2, fun w F2 H2 x rn => ?_⟩
  exact k w F2 H2 (s.trans (x.stp s.gs)) (.later s (rn.repR s.gs))
/-! ### names and constants -/
theorem GS.freeze {K : PySem.W.Frag} {F H : Hp} {ρ : List Sl} {σ : L2.St} {i : Nat} {b : Bool} {ds : List D} (g : GS K F ρ σ H) (e : ρ[i]? = some (.own b ds)) :
    ∃ v F', σ[i]? = some (some v) ∧ Stp K F ρ σ H F' (ρ.set i (.val b (.lst ds))) σ H ∧ Rep K F' v (.lst ds) := by
  obtain ⟨a, xs, h1, h2, h3, h4⟩ := g.own i _ ds e rfl
  have hi : i < ρ.length := (List.getElem?_eq_some_iff.mp e).1
  have sm : Same F (upd F a (.lst xs)) := Same.upd_none h3
  have rp : Rep K (upd F a (.lst xs)) (.ref a) (.lst ds) := by rw [Rep]; exact ⟨a, xs, rfl, SqL.of upd_same, h4.mono sm⟩
  have oa : Own ρ σ a := ⟨i, ⟨_, ds, e, rfl⟩, h1⟩
  have old : ∀ j x, OwnAt (ρ.set i (.val b (.lst ds))) σ j x → OwnAt ρ σ j x ∧ j ≠ i := fun j x ⟨⟨s, ds', q1, q2⟩, q3⟩ => by
    by_cases hj : j = i
    · subst hj; rw [List.getElem?_set_self hi] at q1; cases q1; cases q2
    · rw [List.getElem?_set_ne (Ne.symm hj)] at q1; exact ⟨⟨⟨s, ds', q1, q2⟩, q3⟩, hj⟩
  refine ⟨.ref a, upd F a (.lst xs), h1, ⟨⟨fun x o q => ?_, by simpa using g.len, fun j b' d q => ?_, fun j s ds' q q' => ?_, fun j k x q q' => g.dis j k x (old j x q).1 (old k x q').1⟩, sm, fun x n n' => ?_, fun _ _ q _ => q, fun x ⟨j, q⟩ => .inl ⟨j, (old j x q).1⟩, by simp, fun j s q l => ⟨rfl, ?_⟩⟩, rp⟩
  · by_cases hx : x = a
    · subst hx; rw [upd_same] at q; cases q; exact h2
    · rw [upd_ne hx] at q; exact g.sub x o q
  · by_cases hj : j = i
    · subst hj; rw [List.getElem?_set_self hi] at q; cases q; exact ⟨_, h1, rp⟩
    · rw [List.getElem?_set_ne (Ne.symm hj)] at q
      obtain ⟨v, q1, q2⟩ := g.val j b' d q
      exact ⟨v, q1, q2.mono sm⟩
  · by_cases hj : j = i
    · subst hj; rw [List.getElem?_set_self hi] at q; cases q; cases q'
    · rw [List.getElem?_set_ne (Ne.symm hj)] at q
      obtain ⟨x, ys, q1, q2, q3, q4⟩ := g.own j s ds' q q'
      have hx : x ≠ a := by rintro rfl; exact hj (g.dis j i x ⟨⟨s, ds', q, q'⟩, q1⟩ ⟨⟨_, ds, e, rfl⟩, h1⟩)
      exact ⟨x, ys, q1, q2, by rw [upd_ne hx]; exact q3, q4.mono sm⟩
  · by_cases hx : x = a
    · subst hx; exact .inl oa
    · rw [upd_ne hx] at n'; exact absurd n n'
  · by_cases hj : j = i
    · subst hj
      rw [e] at q; cases q
      refine ⟨_, List.getElem?_set_self hi, ?_⟩
      cases b with
      | true => exact .inr ⟨_, rfl⟩
      | false => cases l
    · exact ⟨s, by rw [List.getElem?_set_ne (Ne.symm hj)]; exact q, .refl s⟩
theorem sx_var {i : Nat} {x : Str} (hN : X.N[i]? = some x) (hv : Vis X.env.scope x) (hd : (x == ("__debug__" : Str)) = false := by decide) (hcd : (x == ("__classdict__" : Str)) = false := by decide) : SX X c (.Name x pos) (.var i) := by
  have h := pe_var (X := X) (pos := pos) hN hv hd hcd
  refine ⟨peImp h fun σ H Q ⟨F, ρ, r, ρ', g, e, k⟩ => ?_, fun j hj => by cases hj; exact h⟩
  rw [HH.ev] at e
  split at e
  · rename_i b d q
    cases e
    obtain ⟨v, h1, h2⟩ := g.val i b d q
    exact ⟨v, h1, k v F H (.refl g) h2⟩
  · rename_i b ds q
    cases e
    obtain ⟨v, F', h1, h2, h3⟩ := g.freeze q
    exact ⟨v, h1, k v F' H h2 h3⟩
  · cases e
theorem sx_con {d : D} {v : V} (h : PE X e (tC v)) (hr : ∀ F, Rep X.K F v d) : SX X c e (.con d) :=
  ⟨peImp h fun σ H Q ⟨F, ρ, r, ρ', g, e, k⟩ => by rw [HH.ev] at e; cases e; exact k v F H (.refl g) (hr F), fun i h => by cases h⟩
theorem sx_int {i j} : SX X c (.Constant (.int i) j pos) (.con (.int i)) := sx_con pe_int fun F => by rw [Rep]
theorem sx_bl {i j} : SX X c (.Constant (.bool i) j pos) (.con (.bl i)) := sx_con pe_bl fun F => by rw [Rep]
theorem sx_non {j} : SX X c (.Constant .none j pos) (.con .non) := sx_con pe_non fun F => by rw [Rep]
/-! ### what is seen of data -/
theorem PRep.int {K : PySem.W.Frag} {F H : Hp} {v : V} {i : Int} (h : PRep K F H v (.int i)) : v = .int i := by
  rcases h with h | ⟨_, _, _, _, _, _, h⟩
  · rw [Rep] at h; exact h
  · cases h
theorem PRep.bl {K : PySem.W.Frag} {F H : Hp} {v : V} {i : Bool} (h : PRep K F H v (.bl i)) : v = .bl i := by
  rcases h with h | ⟨_, _, _, _, _, _, h⟩
  · rw [Rep] at h; exact h
  · cases h
theorem PRep.str {K : PySem.W.Frag} {F H : Hp} {v : V} {i : Str} (h : PRep K F H v (.str i)) : v = .str i := by
  rcases h with h | ⟨_, _, _, _, _, _, h⟩
  · rw [Rep] at h; exact h
  · cases h
theorem PRep.non {K : PySem.W.Frag} {F H : Hp} {v : V} (h : PRep K F H v .non) : v = .non := by
  rcases h with h | ⟨_, _, _, _, _, _, h⟩
  · rw [Rep] at h; exact h
  · cases h
theorem PRep.tup {K : PySem.W.Frag} {F H : Hp} {v : V} {ds : List D} (s : Same F H) (h : PRep K F H v (.tup ds)) : ∃ a xs, v = .ref a ∧ SqT K H a xs ∧ Reps K F xs ds ∧ Rep K F v (.tup ds) := by
  rcases h with h | ⟨_, _, _, _, _, _, h⟩
  · have h' := h
    rw [Rep] at h
    obtain ⟨a, xs, rfl, h1, h2⟩ := h
    exact ⟨a, xs, rfl, Same.seqT s h1, h2, h'⟩
  · cases h
theorem PRep.lst {K : PySem.W.Frag} {F H : Hp} {v : V} {ds : List D} (s : Same F H) (h : PRep K F H v (.lst ds)) : ∃ a xs, v = .ref a ∧ SqL K H a xs ∧ Reps K F xs ds := by
  rcases h with h | ⟨a, xs, es, h1, h2, h3, h⟩
  · rw [Rep] at h
    obtain ⟨a, xs, rfl, h1, h2⟩ := h
    exact ⟨a, xs, rfl, s.seq h1, h2⟩
  · cases h
    exact ⟨a, xs, h1, SqL.of h2, h3⟩
theorem PRep.items {K : PySem.W.Frag} {F H : Hp} {v : V} {d : D} {ds : List D} (s : Same F H) (h : PRep K F H v d) (e : items d = some ds) : ∃ a xs, v = .ref a ∧ (SqL K H a xs ∨ SqT K H a xs) ∧ Reps K F xs ds := by
  cases d with
  | tup es => cases e; obtain ⟨a, xs, h1, h2, h3, _⟩ := h.tup s; exact ⟨a, xs, h1, .inr h2, h3⟩
  | lst es => cases e; obtain ⟨a, xs, h1, h2, h3⟩ := h.lst s; exact ⟨a, xs, h1, .inl h2, h3⟩
  | _ => cases e
/-- a value without a new thing -/
theorem RepN.val0 {K : PySem.W.Frag} {F H : Hp} {Q : VK} {v : V} {d : D} (s : Same F H) (r : Rep K F v d) (k : ∀ v F' H', Ext F H F' H' → RepN K F' H' H v (.val d) → Q v H') : Q v H := k v F H (.refl s) r
theorem repInt {K : PySem.W.Frag} {F : Hp} (i : Int) : Rep K F (.int i) (.int i) := by rw [Rep]
theorem repBl {K : PySem.W.Frag} {F : Hp} (i : Bool) : Rep K F (.bl i) (.bl i) := by rw [Rep]
theorem repStr {K : PySem.W.Frag} {F : Hp} (i : Str) : Rep K F (.str i) (.str i) := by rw [Rep]
theorem repNon {K : PySem.W.Frag} {F : Hp} : Rep K F .non .non := by rw [Rep]
/-- a new list, a new tuple -/
theorem newL {K : PySem.W.Frag} {F H : Hp} {Q : VK} {xs : List V} {ds : List D} {p : Addr} (s : Same F H) (r : Reps K F xs ds) (hp : H p = none) (k : ∀ v F' H', Ext F H F' H' → RepN K F' H' H v (.own ds) → Q v H') : Q (.ref p) (upd H p (.lst xs)) := by
  have fp : F p = none := by
    cases q : F p with
    | none => rfl
    | some o => rw [s p o q] at hp; cases hp
  exact k _ F _ ⟨Same.upd_none hp, .refl _, s.trans (Same.upd_none hp), fun _ a b => absurd a b⟩ ⟨p, xs, rfl, upd_same, fp, r, hp⟩
theorem newT {K : PySem.W.Frag} {F H : Hp} {Q : VK} {xs : List V} {ds : List D} {p : Addr} (s : Same F H) (r : Reps K F xs ds) (hp : H p = none) (k : ∀ v F' H', Ext F H F' H' → RepN K F' H' H v (.val (.tup ds)) → Q v H') : Q (.ref p) (upd H p (.tup xs)) := by
  have fp : F p = none := by
    cases q : F p with
    | none => rfl
    | some o => rw [s p o q] at hp; cases hp
  have sm : Same F (upd F p (.tup xs)) := Same.upd_none fp
  refine k _ (upd F p (.tup xs)) _ ⟨Same.upd_none hp, sm, fun b o e => ?_, fun b n n' => ?_⟩ ?_
  · by_cases hb : b = p
    · subst hb; rw [upd_same] at e ⊢; exact e
    · rw [upd_ne hb] at e ⊢; exact s b o e
  · by_cases hb : b = p
    · subst hb; exact hp
    · rw [upd_ne hb] at n'; exact absurd n n'
  · show Rep K _ _ (.tup ds)
    rw [Rep]; exact ⟨p, xs, rfl, SqT.of upd_same, r.mono sm⟩
end
end HH
end

section
set_option linter.all false
set_option Elab.async false
set_option maxRecDepth 10000
/-! Operations on data. -/
namespace HH
open PySem L2 PySem.Spec PyProof.Rows
/-- int.__rmul__ declines a list, whatever else the list bears -/
theorem rmul_declines (k : Int) (t : Tok) (l : Addr) (its : Array Value) (n : Nat) (dd : Option Addr) (sl : Array (Option Value)) :
    Meets (Builtin.«int.__rmul__» ⟨[.int k t, .ref l], []⟩) (fun _ R s => s.heap.get? l = some ⟨.type "list", dd, .seq its n, sl⟩ ∧ R (.ok (.ret Value.notImplemented)) s) :=
  .of_wp fun prog w A R s h => by
    obtain ⟨hp, g, d, tk, os⟩ := s
    obtain ⟨hl, h⟩ := h
    wp_walk
    exact ⟨_, rfl, h⟩
theorem list_mulW (l : Addr) (its : Array Value) (n : Nat) (dd : Option Addr) (sl : Array (Option Value)) (k : Int) (t : Tok) (h0 : ¬(!Builtin.List.listFitsIndex k) = true) (h1 : ¬its.size * k.toNat > (2 ^ 63 - 1) / 8) (h2 : ¬Builtin.List.listTooLong (its.size * k.toNat) = true) :
    Meets (Builtin.«list.__mul__» ⟨[.ref l, .int k t], []⟩) (fun _ R s => s.heap.get? l = some ⟨.type "list", dd, .seq its n, sl⟩ ∧
      R (.ok (.ret (Value.ref s.heap.objs.size))) { s with heap := s.heap.push { cls := .type "list", data := .seq (List.foldl (· ++ ·) #[] (List.replicate (if its.isEmpty = true then 0 else k.toNat) its)) } }) :=
  .of_wp fun prog w A R s h => by
    obtain ⟨hp, g, d, tk, os⟩ := s
    obtain ⟨hl, h⟩ := h
    have hz := AutoListH.joined_fits h2
    wp_walk using wpAny_loadPart' hl
    refine wpAny_ite_false (decide_eq_false (Nat.not_lt.mpr hz)) ?_
    wp_walk
    exact ⟨_, rfl, h⟩
section
variable {X : Cx} {c : Call} {e a b d : Expr} {p pa pb pd : P} {pos : Pos}
/-! ### + -/
theorem op_catL : OpR X (binaryOp .Add) (fun x y H Q => ∃ l b xs zs, x = .ref l ∧ y = .ref b ∧ SqL X.K H l xs ∧ SqL X.K H b zs ∧ xs.length + zs.length ≤ sizeLine ∧ ∀ p, H p = none → Q (.ref p) (upd H p (.lst (xs ++ zs)))) := by
  intro pins s σ H x y v u Q I rx ry h
  obtain ⟨l, b, xs, zs, rfl, rfl, hl, hb, hz, q⟩ := h
  cases rx
  cases ry
  obtain ⟨its, r, pl, _⟩ := I.list hl
  obtain ⟨its2, r2, pl2, _⟩ := I.list hb
  obtain ⟨⟨cls, dd, data, sl⟩, ho, hc, n, hd⟩ := id pl.isList
  obtain ⟨⟨cls2, dd2, data2, sl2⟩, ho2, hc2, n2, hd2⟩ := id pl2.isList
  simp only at hc hd hc2 hd2
  subst hc hd hc2 hd2
  have e : its.toArray ++ its2.toArray = (its ++ its2).toArray := by simp
  refine concat_meets ⟨_, ho, rfl⟩ ⟨_, ho2, rfl⟩ noFill_list_add seq_list_add PySem.F.slot_list_add PySem.F.entry_list_add (PySem.F.args_list_add_2 _ _) (list_addW l b its.toArray its2.toArray n n2 dd dd2 sl sl2 (by simp only [List.size_toArray]; rw [← r.length, ← r2.length]; exact hz)) ⟨ho, ho2, ?_⟩
  rw [e]
  exact ⟨.ref _, _, I.lnew (t' := s.toks) (r.append r2) (by rw [List.length_append]; exact hz), rfl, q _ I.fresh⟩
theorem op_catT0 : OpR X (binaryOp .Add) (fun x y H Q => ∃ a b ys, x = .ref a ∧ y = .ref b ∧ SqT X.K H a [] ∧ SqT X.K H b ys ∧ Q (.ref b) H) := by
  intro pins s σ H x y v u Q I rx ry h
  obtain ⟨a, b, ys, rfl, rfl, ha, hb, q⟩ := h
  cases rx
  cases ry
  obtain ⟨its, r1, p1, _⟩ := I.tuple ha
  obtain ⟨its2, r2, p2, _⟩ := I.tuple hb
  obtain ⟨⟨cls, dd, data, sl⟩, ho, hc, n, hd⟩ := id p1
  obtain ⟨⟨cls2, dd2, data2, sl2⟩, ho2, hc2, n2, hd2⟩ := id p2
  simp only at hc hd hc2 hd2
  subst hc hd hc2 hd2
  have e0 : its = [] := r1.nil_iff.mpr rfl
  subst e0
  exact concat_meets ⟨_, ho, rfl⟩ ⟨_, ho2, rfl⟩ noFill_tuple_add seq_tuple_add PySem.F.slot_tuple_add PySem.F.entry_tuple_add (PySem.F.args_tuple_add_2 _ _)
    (tuple_addW0 a b _ its2.toArray n n2 dd dd2 sl sl2 (by simp)) ⟨ho, ho2, ⟨.ref b, H, I, rfl, q⟩⟩
theorem op_addD : OpR X (binaryOp .Add) (rD X.K (op2 .add)) := by
  intro pins s σ H x y v u Q I rx ry ⟨F, d, e, r, sm, px, py, he, k⟩
  replace he : opAdd d e = some r := he
  unfold opAdd at he
  split at he
  · cases he
    rw [px.int] at rx; rw [py.int] at ry
    exact op_add pins s σ H _ _ v u Q I rx ry ⟨_, _, rfl, rfl, RepN.val0 sm (repInt _) k⟩
  · rename_i xs ys
    obtain ⟨hl, he⟩ := ite_some he
    subst he
    obtain ⟨a, vs, rfl, ha, ra⟩ := px.lst sm
    obtain ⟨b, us, rfl, hb, rb⟩ := py.lst sm
    exact op_catL pins s σ H _ _ v u Q I rx ry ⟨a, b, vs, us, rfl, rfl, ha, hb, by rw [ra.length, rb.length]; exact hl, fun p hp => newL sm (ra.append rb) hp k⟩
  · rename_i xs ys
    obtain ⟨hl, he⟩ := ite_some he
    subst he
    obtain ⟨a, vs, rfl, ha, ra, ta⟩ := px.tup sm
    obtain ⟨b, us, rfl, hb, rb, tb⟩ := py.tup sm
    by_cases h0 : vs = []
    · subst h0
      have e0 : xs = [] := by have := ra.length; exact List.eq_nil_of_length_eq_zero this.symm
      subst e0
      exact op_catT0 pins s σ H _ _ v u Q I rx ry ⟨a, b, us, rfl, rfl, ha, hb, RepN.val0 sm tb k⟩
    · refine op_catT pins s σ H _ _ v u Q I rx ry ⟨a, b, vs, us, rfl, rfl, ha, hb, h0, by rw [ra.length, rb.length]; exact hl, fun e => ?_, fun _ p hp => newT sm (ra.append rb) hp k⟩
      subst e
      have e0 : ys = [] := by have := rb.length; exact List.eq_nil_of_length_eq_zero this.symm
      subst e0
      rw [List.append_nil] at k
      exact RepN.val0 sm ta k
  · rename_i x1 y1
    obtain ⟨hl, he⟩ := ite_some he
    subst he
    rw [px.str] at rx; rw [py.str] at ry
    exact op_add_str pins s σ H _ _ v u Q I rx ry ⟨_, _, rfl, rfl, hl, RepN.val0 sm (repStr _) k⟩
  · cases he
theorem op_subD : OpR X (binaryOp .Sub) (rD X.K (op2 .sub)) := by
  intro pins s σ H x y v u Q I rx ry ⟨F, d, e, r, sm, px, py, he, k⟩
  replace he : opSub d e = some r := he
  unfold opSub at he
  split at he
  · cases he
    rw [px.int] at rx; rw [py.int] at ry
    exact op_sub pins s σ H _ _ v u Q I rx ry ⟨_, _, rfl, rfl, RepN.val0 sm (repInt _) k⟩
  · cases he
theorem op_repL : OpR X (binaryOp .Mult) (fun x y H Q => ∃ l k xs, x = .ref l ∧ y = .int k ∧ SqL X.K H l xs ∧ -(2 ^ 63) ≤ k ∧ k < 2 ^ 63 ∧ xs.length * k.toNat ≤ sizeLine ∧ ∀ p, H p = none → Q (.ref p) (upd H p (.lst (List.replicate k.toNat xs).flatten))) := by
  intro pins s σ H x y v u Q I rx ry h
  obtain ⟨l, k, xs, rfl, rfl, hl, h1, h2, hz, q⟩ := h
  cases rx
  obtain ⟨t, rfl⟩ := ry
  obtain ⟨its, r, pl, _⟩ := I.list hl
  obtain ⟨⟨cls, dd, data, sl⟩, ho, hc, n, hd⟩ := id pl.isList
  simp only at hc hd
  subst hc hd
  have hlen : its.toArray.size * k.toNat ≤ sizeLine := by rw [List.size_toArray, ← r.length]; exact hz
  have hcap : ¬ its.toArray.size * k.toNat > (2 ^ 63 - 1) / 8 := by
    have : (sizeLine : Nat) ≤ (2 ^ 63 - 1) / 8 := by decide
    omega
  have hnew : List.foldl (· ++ ·) #[] (List.replicate (if its.toArray.isEmpty = true then 0 else k.toNat) its.toArray) = (List.replicate k.toNat its).flatten.toArray := by
    have f0 : ∀ m : Nat, List.foldl (· ++ ·) #[] (List.replicate m its.toArray) = (List.replicate m its).flatten.toArray := fun m => by
      have := foldl_rep its m []
      rw [List.nil_append] at this
      exact this
    rw [f0]
    cases its with
    | nil => simp
    | cons a r' => rw [if_neg (by simp)]
  refine wpAny_binaryOp_repeat_ref (T := "list") (U := "int") (by decide) ⟨_, ho, rfl⟩ (fun s' => typeIs_int s' k t) noFill_list_mul F.fills_int_mul F.slot_int_rmul repeat_list F.slot_int_index.lookup ?_
  refine call_meets F.slot_int_rmul (typeIs_int s k t) F.entry_int_rmul (F.args_int_rmul_2 _ _) (rmul_declines k t l its.toArray n dd sl) ⟨ho, rfl, ⟨_, ho, rfl⟩, ?_⟩
  refine call_meets F.slot_list_mul ⟨_, ho, rfl⟩ F.entry_list_mul (F.args_list_mul_2 _ _) (list_mulW l its.toArray n dd sl k t (by rw [fitsIndex_both h1 h2]; exact Bool.false_ne_true) hcap (by rw [notLongL hlen]; exact Bool.false_ne_true)) ⟨ho, ?_⟩
  rw [hnew]
  exact ⟨.ref _, _, I.lnew (t' := s.toks) (r.rep k.toNat) (by rw [len_rep, Nat.mul_comm]; exact hz), rfl, q _ I.fresh⟩
theorem noFill_tuple_mul : fillsNumberSlot (.type "tuple") "mul" = pure false :=
  PySem.fillsNumberSlot_seq (id := "tuple.__mul__") (r := some (.builtin "tuple.__rmul__")) PySem.F.slot_tuple_mul.lookup (by decide +kernel) PySem.F.slot_tuple_rmul.lookup (by decide +kernel)
theorem repeat_tuple : seqRepeat? (.type "tuple") = pure (some (.builtin "tuple.__mul__")) := by
  unfold seqRepeat?
  rw [PySem.seqSlot_of (T := "tuple") (name := "__mul__") (id := "tuple.__mul__") PySem.F.slot_tuple_mul.lookup (by decide +kernel), PySem.seqSlot_of (T := "tuple") (name := "__rmul__") (id := "tuple.__rmul__") PySem.F.slot_tuple_rmul.lookup (by decide +kernel)]
  rfl
theorem rmul_declinesT (k : Int) (t : Tok) (l : Addr) (its : Array Value) (n : Nat) (dd : Option Addr) (sl : Array (Option Value)) :
    Meets (Builtin.«int.__rmul__» ⟨[.int k t, .ref l], []⟩) (fun _ R s => s.heap.get? l = some ⟨.type "tuple", dd, .seq its n, sl⟩ ∧ R (.ok (.ret Value.notImplemented)) s) :=
  .of_wp fun prog w A R s h => by
    obtain ⟨hp, g, d, tk, os⟩ := s
    obtain ⟨hl, h⟩ := h
    wp_walk
    exact ⟨_, rfl, h⟩
theorem tuple_mulW (l : Addr) (its : Array Value) (n : Nat) (dd : Option Addr) (sl : Array (Option Value)) (k : Int) (t : Tok) (h0 : 0 ≤ k) (h1 : k < 2 ^ 63) (hz : its.size * k.toNat ≤ sizeLine) (hne : 0 < its.size) :
    Meets (Builtin.«tuple.__mul__» ⟨[.ref l, .int k t], []⟩) (fun _ R s => s.heap.get? l = some ⟨.type "tuple", dd, .seq its n, sl⟩ ∧
      (k = 1 → R (.ok (.ret (Value.ref l))) s) ∧ (k ≠ 1 → R (.ok (.ret (Value.ref s.heap.objs.size))) { s with heap := s.heap.push { cls := .type "tuple", data := .seq (List.foldl (· ++ ·) #[] (List.replicate k.toNat its)) } })) :=
  .of_wp fun prog w A R s h => by
    obtain ⟨hp, g, d, tk, os⟩ := s
    obtain ⟨hl, q1, q2⟩ := h
    have hem : its.isEmpty = false := by cases e : its.isEmpty with | false => rfl | true => rw [Array.isEmpty_iff_size_eq_zero] at e; omega
    show wpAny _ _ (asIndex (.int k t) >>= _) _ _ _
    wp_walk using wpAny_loadPart' hl
    have hI : IsTup hp l its := ⟨_, hl, rfl, n, rfl⟩
    rw [if_neg (by simp; omega)]
    refine wpAny_bind (PyProof.Rows.tupleItemsOf_ hI ?_)
    try dsimp only
    by_cases e1 : k = 1
    · rw [if_pos (by simp [e1])]
      wp_walk using wpAny_loadPart' hl
      exact ⟨_, rfl, q1 e1⟩
    · have q := q2 e1
      rw [if_neg (by simp [hem, e1])]
      by_cases e0 : k = 0
      · subst e0
        rw [if_pos (by simp)]
        unfold Builtin.Tuple.tupleExact
        refine wpAny_bind (wpAny_newObj_type ?_)
        exact wpAny_pure ⟨_, rfl, q⟩
      · have hb : (its.size : Int) * k ≤ sizeLine := by
          have : ((its.size * k.toNat : Nat) : Int) ≤ (sizeLine : Nat) := by exact_mod_cast hz
          rw [Int.natCast_mul, show ((k.toNat : Nat) : Int) = k by omega] at this
          exact this
        have hs2 : (sizeLine : Int) ≤ (2 ^ 63 - 1) / 8 := by decide
        rw [if_neg (by simp [hem]; omega), if_neg (by omega), if_neg (by simp [Builtin.Tuple.tupleTooMany]; omega)]
        unfold Builtin.Tuple.tupleExact
        refine wpAny_bind (wpAny_newObj_type ?_ ?_)
        · exact wpAny_pure ⟨_, rfl, q⟩
        · have := foldl_rep its.toList k.toNat []
          rw [List.nil_append, show its.toList.toArray = its by simp] at this
          show (List.foldl (· ++ ·) #[] (List.replicate k.toNat its)).size ≤ sizeLine
          rw [show (#[] : Array Value) = ([] : List Value).toArray from rfl, this, List.size_toArray, len_rep, Array.length_toList, Nat.mul_comm]
          exact hz
theorem op_repT : OpR X (binaryOp .Mult) (fun x y H Q => ∃ l k xs, x = .ref l ∧ y = .int k ∧ SqT X.K H l xs ∧ 0 < xs.length ∧ 0 ≤ k ∧ k < 2 ^ 63 ∧ xs.length * k.toNat ≤ sizeLine ∧ (k = 1 → Q (.ref l) H) ∧ (k ≠ 1 → ∀ p, H p = none → Q (.ref p) (upd H p (.tup (List.replicate k.toNat xs).flatten)))) := by
  intro pins s σ H x y v u Q I rx ry h
  obtain ⟨l, k, xs, rfl, rfl, hl, hne, h1, h2, hz, qa, qb⟩ := h
  cases rx
  obtain ⟨t, rfl⟩ := ry
  obtain ⟨its, r, pl, _⟩ := I.tuple hl
  obtain ⟨⟨cls, dd, data, sl⟩, ho, hc, n, hd⟩ := id pl
  simp only at hc hd
  subst hc hd
  have hlen : its.toArray.size * k.toNat ≤ sizeLine := by rw [List.size_toArray, ← r.length]; exact hz
  have hnew : List.foldl (· ++ ·) #[] (List.replicate k.toNat its.toArray) = (List.replicate k.toNat its).flatten.toArray := by
    have := foldl_rep its k.toNat []
    rw [List.nil_append] at this
    exact this
  refine wpAny_binaryOp_repeat_ref (T := "tuple") (U := "int") (by decide) ⟨_, ho, rfl⟩ (fun s' => typeIs_int s' k t) noFill_tuple_mul F.fills_int_mul F.slot_int_rmul repeat_tuple F.slot_int_index.lookup ?_
  refine call_meets F.slot_int_rmul (typeIs_int s k t) F.entry_int_rmul (F.args_int_rmul_2 _ _) (rmul_declinesT k t l its.toArray n dd sl) ⟨ho, rfl, ⟨_, ho, rfl⟩, ?_⟩
  refine call_meets PySem.F.slot_tuple_mul ⟨_, ho, rfl⟩ PySem.F.entry_tuple_mul (PySem.F.args_tuple_mul_2 _ _) (tuple_mulW l its.toArray n dd sl k t h1 h2 hlen (by rw [List.size_toArray, ← r.length]; exact hne)) ⟨ho, fun e => ⟨.ref l, H, I, rfl, qa e⟩, fun e => ?_⟩
  rw [hnew]
  refine ⟨.ref s.heap.objs.size, _, I.laid (t' := s.toks) (o := .tup (List.replicate k.toNat xs).flatten) (fun b ob q => Heap.get?_push_of_some _ q) (Nat.le_refl _) ?_, rfl, qb e _ (I.hok.fresh (Nat.le_refl _))⟩
  exact ⟨by rw [len_rep, Nat.mul_comm]; exact hz, _, r.rep k.toNat, IsTup.new _ _⟩
theorem op_mulD : OpR X (binaryOp .Mult) (rD X.K (op2 .mul)) := by
  intro pins s σ H x y v u Q I rx ry ⟨F, d, e, r, sm, px, py, he, k⟩
  replace he : opMul d e = some r := he
  unfold opMul at he
  split at he
  · obtain ⟨hc, he⟩ := ite_some he
    subst he
    rw [px.int] at rx; rw [py.int] at ry
    exact op_mul pins s σ H _ _ v u Q I rx ry ⟨_, _, rfl, rfl, hc, RepN.val0 sm (repInt _) k⟩
  · rename_i xs i
    obtain ⟨⟨h1, h2, h3⟩, he⟩ := ite_some he
    subst he
    obtain ⟨a, vs, rfl, ha, ra⟩ := px.lst sm
    rw [py.int] at ry
    have hk : i < 2 ^ 63 := by
      have h4 := Nat.le_mul_of_pos_left i.toNat h2
      have h5 : i.toNat ≤ 16777216 := Nat.le_trans h4 h3
      omega
    exact op_repL pins s σ H _ _ v u Q I rx ry ⟨a, i, vs, rfl, rfl, ha, by omega, hk, by rw [ra.length]; exact h3, fun p hp => newL sm (ra.rep i.toNat) hp k⟩
  · rename_i xs i
    obtain ⟨⟨h1, h2, h3⟩, he⟩ := ite_some he
    subst he
    obtain ⟨a, vs, rfl, ha, ra, rr⟩ := px.tup sm
    rw [py.int] at ry
    have hk : i < 2 ^ 63 := by
      have h4 := Nat.le_mul_of_pos_left i.toNat h2
      have h5 : i.toNat ≤ 16777216 := Nat.le_trans h4 h3
      omega
    refine op_repT pins s σ H _ _ v u Q I rx ry ⟨a, i, vs, rfl, rfl, ha, by rw [ra.length]; exact h2, h1, hk, by rw [ra.length]; exact h3, fun e => ?_, fun e p hp => newT sm (ra.rep i.toNat) hp k⟩
    subst e
    refine RepN.val0 sm ?_ k
    have e1 : (List.replicate (1 : Int).toNat xs).flatten = xs := by simp
    rw [e1]
    exact rr
  · cases he
theorem op_fdivD : OpR X (binaryOp .FloorDiv) (rD X.K (op2 .fdiv)) := by
  intro pins s σ H x y v u Q I rx ry ⟨F, d, e, r, sm, px, py, he, k⟩
  replace he : opFdiv d e = some r := he
  unfold opFdiv at he
  split at he
  · rename_i i j
    obtain ⟨⟨h1, h2⟩, he⟩ := ite_some he
    subst he
    rw [px.int] at rx; rw [py.int] at ry
    obtain ⟨t, rfl⟩ := rx
    obtain ⟨t', rfl⟩ := ry
    have hl : j.natAbs.log2 < 9000 := by
      have : j.natAbs < 2 ^ 200 := by
        have : (2 : Nat) ^ 200 = 1606938044258990275541962092341162602522202993782792835301376 := by decide
        omega
      have h3 := (Nat.log2_lt (by omega)).mpr this
      omega
    exact floordiv_int (by omega) (by rw [Int.fdiv_eq_ediv_of_nonneg i (by omega)]; exact ⟨.int _, H, I.tok _, ⟨_, rfl⟩, RepN.val0 sm (repInt _) k⟩) (.inl (PyProof.noPylong_of_log2 hl))
  · cases he
theorem op_modD : OpR X (binaryOp .Mod) (rD X.K (op2 .mod)) := by
  intro pins s σ H x y v u Q I rx ry ⟨F, d, e, r, sm, px, py, he, k⟩
  replace he : opMod d e = some r := he
  unfold opMod at he
  split at he
  · obtain ⟨h1, he⟩ := ite_some he
    subst he
    rw [px.int] at rx; rw [py.int] at ry
    exact op_mod pins s σ H _ _ v u Q I rx ry ⟨_, _, rfl, rfl, h1, RepN.val0 sm (repInt _) k⟩
  · cases he
theorem op_powD : OpR X (binaryOp .Pow) (rD X.K (op2 .pow)) := by
  intro pins s σ H x y v u Q I rx ry ⟨F, d, e, r, sm, px, py, he, k⟩
  replace he : opPow d e = some r := he
  unfold opPow at he
  split at he
  · obtain ⟨⟨h1, h2, h3⟩, he⟩ := ite_some he
    subst he
    rw [px.int] at rx; rw [py.int] at ry
    exact op_pow pins s σ H _ _ v u Q I rx ry ⟨_, _, rfl, rfl, ⟨h1, by omega, h3⟩, RepN.val0 sm (repInt _) k⟩
  · cases he
theorem sx_bin {o : Op} {op : Operator} (ho : OpR X (binaryOp op) (rD X.K (op2 o))) (ha : SX X c a pa) (hb : SX X c b pb) : SX X c (.BinOp a op b pos) (.bin o pa pb) :=
  sx_op2 (fun h1 h2 => pe_op ho h1 h2) ha hb (fun ρ => by rw [HH.ev]) rfl
/-! ### comparisons of ints, None -/
theorem op_cmI {op : CmpOp} {f : Int → Int → Bool} (ho : OpR X (compareOp op) (rI0 fun i j => .bl (f i j))) {o : Cm} (hc : cm o = cmI f) : OpR X (compareOp op) (rD X.K (cmR o)) := by
  intro pins s σ H x y v u Q I rx ry ⟨F, d, e, r, sm, px, py, he, k⟩
  unfold cmR at he
  rw [hc] at he
  obtain ⟨t, e1, e2⟩ := map_some he
  subst e2
  unfold cmI at e1
  split at e1
  · cases e1
    rw [px.int] at rx; rw [py.int] at ry
    exact ho pins s σ H _ _ v u Q I rx ry ⟨_, _, rfl, rfl, RepN.val0 sm (repBl _) k⟩
  · cases e1
theorem op_ltD : OpR X (compareOp .Lt) (rD X.K (cmR .lt)) := op_cmI op_lt rfl
theorem op_leD : OpR X (compareOp .LtE) (rD X.K (cmR .le)) := op_cmI op_le rfl
theorem op_gtD : OpR X (compareOp .Gt) (rD X.K (cmR .gt)) := op_cmI op_gt rfl
theorem op_geD : OpR X (compareOp .GtE) (rD X.K (cmR .ge)) := op_cmI op_ge rfl
theorem isNon_iff {K : PySem.W.Frag} {F H : Hp} {v : V} {d : D} (h : PRep K F H v d) : decide (v = .non) = isNon d := by
  cases d with
  | non => rw [h.non]; rfl
  | bl _ => rw [h.bl]; rfl
  | int _ => rw [h.int]; rfl
  | str _ => rw [h.str]; rfl
  | tup _ =>
    rcases h with h | ⟨a, _, _, rfl, _⟩
    · rw [Rep] at h; obtain ⟨a, _, rfl, _⟩ := h; rfl
    · rfl
  | lst _ =>
    rcases h with h | ⟨a, _, _, rfl, _⟩
    · rw [Rep] at h; obtain ⟨a, _, rfl, _⟩ := h; rfl
    · rfl
theorem op_isD : OpR X (compareOp .Is) (rD X.K (cmR .isN)) := by
  intro pins s σ H x y v u Q I rx ry ⟨F, d, e, r, sm, px, py, he, k⟩
  obtain ⟨t, e1, e2⟩ := map_some (show (cmN false d e).map _ = some r from he)
  subst e2
  unfold cmN at e1
  split at e1
  · cases e1
    exact op_isN pins s σ H x y v u Q I rx ry ⟨py.non, by rw [isNon_iff px]; exact RepN.val0 sm (repBl _) k⟩
  · cases e1
theorem op_notD : OpR X (compareOp .IsNot) (rD X.K (cmR .notN)) := by
  intro pins s σ H x y v u Q I rx ry ⟨F, d, e, r, sm, px, py, he, k⟩
  obtain ⟨t, e1, e2⟩ := map_some (show (cmN true d e).map _ = some r from he)
  subst e2
  unfold cmN at e1
  split at e1
  · cases e1
    exact op_notN pins s σ H x y v u Q I rx ry ⟨py.non, by rw [isNon_iff px]; exact RepN.val0 sm (repBl _) k⟩
  · cases e1
theorem sx_cmp {o : Cm} {op : CmpOp} (ho : OpR X (compareOp op) (rD X.K (cmR o))) (ha : SX X c a pa) (hb : SX X c b pb) (hm : behindInMarks op b = false) : SX X c (.Compare a [op] [b] pos) (.cmp o pa pb) :=
  sx_op2 (fun h1 h2 => pe_cmpR ho h1 h2 hm) ha hb (fun ρ => by rw [HH.ev]) rfl
end
end HH
end

section
set_option linter.all false
set_option Elab.async false
set_option maxRecDepth 10000
/-! Tests, displays, built-ins. -/
namespace HH
open PySem L2 PySem.Spec PyProof.Rows
section
variable {X : Cx} {c : Call} {e a b d : Expr} {p pa pb pd : P} {pos : Pos} {rest : List Expr}

theorem asB_some {x : D} {k : Bool} (h : asB x = some k) : x = .bl k := by cases x <;> cases h; rfl
theorem asI_some {x : D} {k : Int} (h : asI x = some k) : x = .int k := by cases x <;> cases h; rfl
theorem RepR.bool {K : PySem.W.Frag} {F' H' H : Hp} {ρ' ρ : List Sl} {σ' σ : L2.St} {v : V} {r : R} {k : Bool} (h : RepR K F' ρ' σ' H' ρ σ H v r) (e : r.d = .bl k) : v = .bl k := by
  cases r with
  | val d => cases (show d = .bl k from e); have h : Rep K F' v (.bl k) := h; rw [Rep] at h; exact h
  | own ds => cases e

/-! ### tests -/
def ST (X : Cx) (c : Call) (e : Expr) (p : P) : Prop := PT X e (tTr X.K (tru (HH.ev c p)))
def SW (X : Cx) (c : Call) (e : Expr) (p : P) : Prop := PW X e (tTr X.K (tru (HH.ev c p)))
theorem SW.st (h : SW X c e p) : ST X c e p := PW.pt h
/-- from the reading of a value -/
theorem tTr_of {t : TE} {Q : Bool → Hp → Prop} {σ : L2.St} {H : Hp} (hi : ∀ Q, tEv X.K (HH.ev c p) σ H Q → t σ H Q) (h : tTr X.K (tru (HH.ev c p)) σ H Q) : t σ H fun x H1 => ∃ k, x = .bl k ∧ Q k H1 := by
  obtain ⟨F, ρ, k, ρ', g, e, q⟩ := h
  obtain ⟨r, ρ1, e1, e2⟩ := bind_ok e
  have zz := lift_ok e2; clear e2; obtain ⟨e2, e3⟩ := zz
  subst e3
  exact hi _ ⟨F, ρ, r, ρ1, g, e1, fun v F' H' s rr => ⟨k, rr.bool (asB_some e2), q F' H' s⟩⟩
theorem st_val (h : SX X c e p) (he : ∀ whole, isTrue e X.env whole = (do let v ← whole; standAt e.pos; holding [v] (truthy v)) := by intro _; rfl) : ST X c e p :=
  ptImp (pt_val h.ev he) fun σ H Q q => tTr_of (fun _ z => z) q
theorem st_cmp {o : Cm} {op : CmpOp} (ho : OpR X (compareOp op) (rD X.K (cmR o))) (ha : SX X c a pa) (hb : SX X c b pb) (hm : behindInMarks op b = false) : ST X c (.Compare a [op] [b] pos) (.cmp o pa pb) := by
  obtain ⟨ta, tb, h1, h2, h3⟩ := ha.opd2 hb
  refine ptImp (pt_cmpR ho h1 h2 hm) fun σ H Q q => tTr_of (t := tOp (rD X.K (cmR o)) ta tb) (fun Q z => ?_) q
  obtain ⟨F, ρ, r, ρ', g, e, k⟩ := z
  rw [HH.ev] at e
  obtain ⟨xy, ρ1, e1, e2⟩ := bind_ok e
  have zz := lift_ok e2; clear e2; obtain ⟨e2, e3⟩ := zz
  subst e3
  refine h3 g e1 fun v u F' H' s pv pu => ⟨F', xy.1, xy.2, r, s.gs.sub, pv, pu, e2, fun w F2 H2 x rn => ?_⟩
  exact k w F2 H2 (s.trans (x.stp s.gs)) (.later s (rn.repR s.gs))
theorem st_not (ha : ST X c a pa) : ST X c (.UnaryOp .Not a pos) (.not pa) := by
  refine ptImp (pt_not ha) fun σ H Q ⟨F, ρ, k, ρ', g, e, q⟩ => ?_
  unfold tru at e
  rw [HH.ev] at e
  obtain ⟨r, ρ1, e1, e2⟩ := bind_ok e
  obtain ⟨k', ρ2, e3, e4⟩ := bind_ok e1
  cases e4
  have zz := lift_ok e2; clear e2; obtain ⟨e2, e5⟩ := zz
  subst e5
  have e2 : (!k') = k := by cases e2; rfl
  exact ⟨F, ρ, k', _, g, e3, fun F' H' s => by show Q (!k') H'; rw [e2]; exact q F' H' s⟩
theorem tru_or (ρ : List Sl) : tru (HH.ev c (.or pa pb)) ρ = (tru (HH.ev c pa) ρ).bind fun x ρ => if x then .ok true ρ else tru (HH.ev c pb) ρ := by
  unfold tru
  rw [HH.ev]
  unfold tru
  cases HH.ev c pa ρ with
  | stuck => rfl
  | ok r ρ1 =>
    simp only [Res.bind]
    cases h : asB r.d with
    | none => rfl
    | some k =>
      cases k with
      | true => rfl
      | false =>
        simp only [lift, Bool.false_eq_true, if_false]
        cases HH.ev c pb ρ1 with
        | stuck => rfl
        | ok r2 ρ2 =>
          simp only [Res.bind]
          cases h2 : asB r2.d with
          | none => rfl
          | some k2 => rfl
theorem sw_or1 (ha : ST X c a pa) : SW X c (.BoolOp .Or [a] pos) pa := pw_or1 ha
theorem sw_or (ha : ST X c a pa) (hb : SW X c (.BoolOp .Or (b :: rest) pos) pb) : SW X c (.BoolOp .Or (a :: b :: rest) pos) (.or pa pb) := by
  refine pwImp (pw_or ha hb) fun σ H Q ⟨F, ρ, k, ρ', g, e, q⟩ => ?_
  rw [tru_or] at e
  obtain ⟨x, ρ1, e1, e⟩ := bind_ok e
  refine ⟨F, ρ, x, ρ1, g, e1, fun F1 H1 s1 => ?_⟩
  cases x with
  | true =>
    rw [if_pos rfl] at e ⊢
    cases e
    exact q F1 H1 s1
  | false =>
    rw [if_neg Bool.false_ne_true] at e ⊢
    exact ⟨F1, ρ1, k, ρ', s1.gs, e, fun F2 H2 s2 => q F2 H2 (s1.trans s2)⟩
/-! ### and, or, not as values -/
theorem sx_not (ha : SX X c a pa) : SX X c (.UnaryOp .Not a pos) (.not pa) := by
  refine ⟨peImp (pe_not ha.ev) fun σ H Q ⟨F, ρ, r, ρ', g, e, k⟩ => ?_, fun i h => by cases h⟩
  rw [HH.ev] at e
  obtain ⟨x, ρ1, e1, e2⟩ := bind_ok e
  cases e2
  exact tTr_of (c := c) (fun _ z => z) ⟨F, ρ, x, _, g, e1, fun F' H' s => k _ F' H' s (show Rep X.K F' _ _ from repBl _)⟩
theorem sx_oneV {op} (ha : SX X c a pa) : PE X (.BoolOp op [a] pos) (tEv X.K (HH.ev c pa)) := pe_one ha.ev
theorem sx_and (ha : SX X c a pa) (hb : PE X (.BoolOp .And (b :: rest) pos) (tEv X.K (HH.ev c pb))) : SX X c (.BoolOp .And (a :: b :: rest) pos) (.and pa pb) := by
  refine ⟨peImp (pe_and ha.ev hb) fun σ H Q ⟨F, ρ, r, ρ', g, e, k⟩ => ?_, fun i h => by cases h⟩
  rw [HH.ev] at e
  obtain ⟨x, ρ1, e1, e⟩ := bind_ok e
  refine tTr_of (c := c) (fun _ z => z) (Q := fun x H1 => if x = true then tEv X.K (HH.ev c pb) σ H1 Q else Q (.bl false) H1) ⟨F, ρ, x, ρ1, g, e1, fun F1 H1 s1 => ?_⟩
  cases x with
  | true =>
    rw [if_pos rfl] at e ⊢
    obtain ⟨y, ρ2, e2, e3⟩ := bind_ok e
    cases e3
    obtain ⟨r2, ρ3, e4, e5⟩ := bind_ok e2
    have zz := lift_ok e5; clear e5; obtain ⟨e5, e6⟩ := zz
    subst e6
    refine ⟨F1, ρ1, r2, _, s1.gs, e4, fun v F2 H2 s2 rr => ?_⟩
    rw [rr.bool (asB_some e5)]
    exact k _ F2 H2 (s1.trans s2) (show Rep X.K F2 _ _ from repBl _)
  | false =>
    rw [if_neg Bool.false_ne_true] at e ⊢
    cases e
    exact k _ F1 H1 s1 (show Rep X.K F1 _ _ from repBl _)
theorem sx_or (ha : SX X c a pa) (hb : PE X (.BoolOp .Or (b :: rest) pos) (tEv X.K (HH.ev c pb))) : SX X c (.BoolOp .Or (a :: b :: rest) pos) (.or pa pb) := by
  refine ⟨peImp (pe_or ha.ev hb) fun σ H Q ⟨F, ρ, r, ρ', g, e, k⟩ => ?_, fun i h => by cases h⟩
  rw [HH.ev] at e
  obtain ⟨x, ρ1, e1, e⟩ := bind_ok e
  refine tTr_of (c := c) (fun _ z => z) (Q := fun x H1 => if x = true then Q (.bl true) H1 else tEv X.K (HH.ev c pb) σ H1 Q) ⟨F, ρ, x, ρ1, g, e1, fun F1 H1 s1 => ?_⟩
  cases x with
  | true =>
    rw [if_pos rfl] at e ⊢
    cases e
    exact k _ F1 H1 s1 (show Rep X.K F1 _ _ from repBl _)
  | false =>
    rw [if_neg Bool.false_ne_true] at e ⊢
    obtain ⟨y, ρ2, e2, e3⟩ := bind_ok e
    cases e3
    obtain ⟨r2, ρ3, e4, e5⟩ := bind_ok e2
    have zz := lift_ok e5; clear e5; obtain ⟨e5, e6⟩ := zz
    subst e6
    refine ⟨F1, ρ1, r2, _, s1.gs, e4, fun v F2 H2 s2 rr => ?_⟩
    rw [rr.bool (asB_some e5)]
    exact k _ F2 H2 (s1.trans s2) (show Rep X.K F2 _ _ from repBl _)
theorem sx_ife (hc : ST X c e p) (ha : SX X c a pa) (hb : SX X c b pb) : SX X c (.IfExp e a b pos) (.ife p pa pb) := by
  refine ⟨peImp (pe_ifExp hc ha.ev hb.ev) fun σ H Q ⟨F, ρ, r, ρ', g, e, k⟩ => ?_, fun i h => by cases h⟩
  rw [HH.ev] at e
  obtain ⟨x, ρ1, e1, e⟩ := bind_ok e
  refine ⟨F, ρ, x, ρ1, g, e1, fun F1 H1 s1 => ?_⟩
  cases x with
  | true =>
    rw [if_pos rfl] at e ⊢
    obtain ⟨r2, ρ2, e2, e3⟩ := bind_ok e
    cases e3
    refine ⟨F1, ρ1, r2, _, s1.gs, e2, fun v F2 H2 s2 rr => ?_⟩
    obtain ⟨F3, s3, _, rp⟩ := s2.frz rr
    exact k v F3 H2 (s1.trans s3) rp
  | false =>
    rw [if_neg Bool.false_ne_true] at e ⊢
    obtain ⟨r2, ρ2, e2, e3⟩ := bind_ok e
    cases e3
    refine ⟨F1, ρ1, r2, _, s1.gs, e2, fun v F2 H2 s2 rr => ?_⟩
    obtain ⟨F3, s3, _, rp⟩ := s2.frz rr
    exact k v F3 H2 (s1.trans s3) rp

/-! ### argument lists, displays -/
theorem evs_len : ∀ {ps : List P} {ρ ρ' : List Sl} {ds : List D}, evs c ps ρ = .ok ds ρ' → ds.length = ps.length
  | [], _, _, _, h => by rw [evs] at h; cases h; rfl
  | p :: ps, _, _, _, h => by
    rw [evs] at h
    obtain ⟨r, ρ1, _, h⟩ := bind_ok h
    obtain ⟨xs, ρ2, h2, h⟩ := bind_ok h
    cases h
    simp [evs_len h2]
theorem sa_nil : SA X c [] [] := ⟨paImp pa_nil fun σ H Q ⟨F, ρ, ds, ρ', g, e, k⟩ => by rw [evs] at e; cases e; exact k [] F H (.refl g) .nil, rfl⟩
theorem sa_cons {es : List Expr} {ps : List P} (ha : SX X c a pa) (hr : SA X c es ps) (hs : starEach (a :: es) X.env = (false, eval a X.env) :: starEach es X.env := by rfl) : SA X c (a :: es) (pa :: ps) := by
  refine ⟨paImp (pa_cons ha.ev hr.1 hs) fun σ H Q ⟨F, ρ, ds, ρ', g, e, k⟩ => ?_, by simp [hr.2]⟩
  rw [evs] at e
  obtain ⟨r, ρ1, e1, e⟩ := bind_ok e
  obtain ⟨xs, ρ2, e2, e⟩ := bind_ok e
  cases e
  refine ⟨F, ρ, r, ρ1, g, e1, fun v F' H' s rr => ?_⟩
  obtain ⟨F1, s1, _, rp⟩ := s.frz rr
  refine ⟨F1, ρ1, xs, _, s1.gs, e2, fun vs F2 H2 s2 rs => ?_⟩
  exact k _ F2 H2 (s1.trans s2) (.cons (rp.mono s2.fsub) rs)
theorem Ext.rep_tup {K : PySem.W.Frag} {F H : Hp} {ρ ρ' : List Sl} {σ : L2.St} {H0 F0 : Hp} {Q : VK} {xs : List V} {ds : List D} (s : Stp K F0 ρ σ H0 F ρ' σ H) (r : Reps K F xs ds)
    (k : ∀ v F' H', Stp K F0 ρ σ H0 F' ρ' σ H' → RepR K F' ρ' σ H' ρ σ H0 v (.val (.tup ds)) → Q v H') (p : Addr) (hp : H p = none) : Q (.ref p) (upd H p (.tup xs)) :=
  newT s.gs.sub r hp fun v F' H' x rn => k v F' H' (s.trans (x.stp s.gs)) rn
theorem sx_tup {es : List Expr} {ps : List P} {x1} (h : SA X c es ps) (hz : ps.length ≤ sizeLine := by decide) : SX X c (.Tuple es x1 pos) (.tup ps) := by
  refine ⟨peImp (pe_tup h.1) fun σ H Q ⟨F, ρ, r, ρ', g, e, k⟩ => ?_, fun i h => by cases h⟩
  rw [HH.ev] at e
  obtain ⟨ds, ρ1, e1, e⟩ := bind_ok e
  cases e
  exact ⟨F, ρ, ds, _, g, e1, fun vs F' H' s rs => ⟨by rw [rs.length, evs_len e1]; exact hz, fun p hp => Ext.rep_tup s rs k p hp⟩⟩
theorem sx_lst {es : List Expr} {ps : List P} (h : SA X c es ps) (hz : ps.length ≤ sizeLine := by decide) : SX X c (.List es pos) (.lst ps) := by
  refine ⟨peImp (pe_lst h.1) fun σ H Q ⟨F, ρ, r, ρ', g, e, k⟩ => ?_, fun i h => by cases h⟩
  rw [HH.ev] at e
  obtain ⟨ds, ρ1, e1, e⟩ := bind_ok e
  cases e
  exact ⟨F, ρ, ds, _, g, e1, fun vs F' H' s rs => ⟨by rw [rs.length, evs_len e1]; exact hz, fun p hp => newL s.gs.sub rs hp fun v F2 H2 x rn => k v F2 H2 (s.trans (x.stp s.gs)) (.later s (rn.repR s.gs))⟩⟩

/-! ### places -/
theorem at_get {ds : List D} {i : Int} {d : D} (h : at' ds i = some d) : ∃ j, L2.ixN ds.length i = some j ∧ ds[j]? = some d := bindO h
theorem ix_D : IxR X (rD X.K ixR) := by
  intro value slice pins s σ H x y v u Q I rx ry ⟨F, d, e, r, sm, px, py, he, k⟩ hs
  unfold ixR at he
  obtain ⟨ds, e1, he⟩ := bindO he
  obtain ⟨i, e2, he⟩ := bindO he
  obtain ⟨z, e3, he⟩ := map_some he
  subst he
  cases asI_some e2
  rw [py.int] at ry
  obtain ⟨p, xs, rfl, hq, rs⟩ := px.items sm e1
  obtain ⟨j, h1, h2⟩ := at_get e3
  obtain ⟨w, h3, h4⟩ := rs.get h2
  have hat : atI xs i = some w := by unfold atI; rw [rs.length, h1]; exact h3
  rcases hq with hq | hq
  · exact ix_list value slice pins s σ H _ _ v u Q I rx ry ⟨p, xs, i, w, rfl, rfl, hq, hat, RepN.val0 sm h4 k⟩ hs
  · exact ix_tup value slice pins s σ H _ _ v u Q I rx ry ⟨p, xs, i, w, rfl, rfl, hq, hat, RepN.val0 sm h4 k⟩ hs
theorem sx_idx (ha : SX X c a pa) (hb : SX X c b pb) (hs : PlainIx b := by intro _ _; rfl) : SX X c (.Subscript a b pos) (.idx pa pb) :=
  sx_op2 (f := ixR) (fun h1 h2 => pe_ix ix_D h1 h2 hs) ha hb (fun ρ => by rw [HH.ev]) rfl

/-! ### built-ins of one argument -/
def rB1 (K : PySem.W.Frag) (f : D → Option R) : List V → Hp → VK → Prop := fun xs H Q => ∃ x, xs = [x] ∧ rD1 K f x H Q
theorem sx_b1 {E : Expr} {f : D → Option R} {q : P} (hp : ∀ {t}, PA X [a] t → PE X E (tCB (rB1 X.K f) t)) (ha : SX X c a pa)
    (hq : ∀ ρ, HH.ev c q ρ = (HH.opd (isVar pa) (HH.ev c pa) ρ).bind fun x ρ => lift (f x) ρ) (hv : isVar q = none) (hs : starEach [a] X.env = (false, eval a X.env) :: starEach [] X.env := by rfl) : SX X c E q := by
  obtain ⟨ta, h1, h3⟩ := ha.opd
  refine ⟨peImp (hp (pa_cons h1 pa_nil hs)) fun σ H Q ⟨F, ρ, r, ρ', g, e, k⟩ => ?_, fun i h => by rw [hv] at h; cases h⟩
  rw [hq] at e
  obtain ⟨x, ρ1, e1, e2⟩ := bind_ok e
  have zz := lift_ok e2; clear e2; obtain ⟨e2, e3⟩ := zz
  subst e3
  refine h3 g e1 fun v F' H' s pv => ⟨v, rfl, F', x, r, s.gs.sub, pv, e2, fun w F2 H2 x rn => ?_⟩
  exact k w F2 H2 (s.trans (x.stp s.gs)) (.later s (rn.repR s.gs))
theorem c_len : CallR X (.builtin "len") (rB1 X.K fun x => blt .len [x]) := by
  intro pins s σ H xs us Q I r ⟨x, hx, F, d, r', sm, px, he, k⟩
  obtain ⟨ds, e1, he⟩ := map_some (show (items d).map _ = some r' from he)
  subst he
  obtain ⟨p, ys, rfl, hq, rs⟩ := px.items sm e1
  exact call_len_seq pins s σ H xs us Q I r ⟨p, ys, hx, hq, by rw [rs.length]; exact RepN.val0 sm (repInt _) k⟩
theorem c_tuple : CallR X (.type "tuple") (rB1 X.K fun x => blt .tuple [x]) := by
  intro pins s σ H xs us Q I r ⟨x, hx, F, d, r', sm, px, he, k⟩
  obtain ⟨ds, e1, he⟩ := map_some (show (items d).map _ = some r' from he)
  subst he
  cases d with
  | tup es =>
    cases e1
    obtain ⟨a, ys, rfl, hq, rs, rt⟩ := px.tup sm
    exact call_tuple_of pins s σ H xs us Q I r ⟨a, ys, hx, .inr ⟨hq, RepN.val0 sm rt k⟩⟩
  | lst es =>
    cases e1
    obtain ⟨a, ys, rfl, hq, rs⟩ := px.lst sm
    exact call_tuple_of pins s σ H xs us Q I r ⟨a, ys, hx, .inl ⟨hq, fun l hl => newT sm rs hl k⟩⟩
  | _ => cases e1
theorem sx_len {x : Str} {p' : Pos} (hx : x = "len") (hg : Gl X x) (hm : X.mg x = none) (ha : SX X c a pa) (hs : starEach [a] X.env = (false, eval a X.env) :: starEach [] X.env := by rfl) : SX X c (.Call (.Name x p') [a] [] pos) (.blt .len [pa]) := by
  subst hx; exact sx_b1 (fun h => pe_callB c_len hg hm PySem.boot_len h (he := hs)) ha (fun ρ => by rw [HH.ev]) rfl hs
theorem sx_tuple {x : Str} {p' : Pos} (hx : x = "tuple") (hg : Gl X x) (hm : X.mg x = none) (ha : SX X c a pa) (hs : starEach [a] X.env = (false, eval a X.env) :: starEach [] X.env := by rfl) : SX X c (.Call (.Name x p') [a] [] pos) (.blt .tuple [pa]) := by
  subst hx; exact sx_b1 (fun h => pe_callTy c_tuple hg hm (by decide +kernel) h (he := hs)) ha (fun ρ => by rw [HH.ev]) rfl hs
end
end HH
end

section
set_option linter.all false
set_option Elab.async false
set_option maxRecDepth 10000
/-! Calls of the text's own defs. -/
namespace HH
open PySem L2 PySem.Spec PyProof.Rows

/-- a def's promise by the evaluator's word -/
def spC (K : PySem.W.Frag) (np : Nat) (f : List Sl → Res R) : Sp := fun vs H Q _ => vs.length = np ∧ ∃ F args r args', GS K F args (vs.map some) H ∧ f args = .ok r args' ∧
  ∀ v F' σ' H', Stp K F args (vs.map some) H F' args' σ' H' → RepR K F' args' σ' H' args (vs.map some) H v r → Q v H'

section
variable {K : PySem.W.Frag}
/-- one argument's value -/
def AOne (K : PySem.W.Frag) (F : Hp) (ρ : List Sl) (σ : L2.St) (H : Hp) (ρ₀ : List Sl) (H₀ : Hp) (v : V) : Arg → Prop
  | .dat d => Rep K F v d
  | .tmp ds => ∃ x xs, v = .ref x ∧ H x = some (.lst xs) ∧ F x = none ∧ Reps K F xs ds ∧ ¬ Own ρ σ x ∧ (Own ρ₀ σ x ∨ H₀ x = none)
  | .nam i => σ[i]? = some (some v)
structure AOk (K : PySem.W.Frag) (F : Hp) (ρ : List Sl) (σ : L2.St) (H : Hp) (ρ₀ : List Sl) (H₀ : Hp) (as : List Arg) (vs : List V) : Prop where
  len : as.length = vs.length
  one : ∀ (j : Nat) (a : Arg) (v : V), as[j]? = some a → vs[j]? = some v → AOne K F ρ σ H ρ₀ H₀ v a
  dis : ∀ (j k : Nat) (ds es : List D) (x : Addr), as[j]? = some (.tmp ds) → as[k]? = some (.tmp es) → vs[j]? = some (.ref x) → vs[k]? = some (.ref x) → j = k
theorem AOne.later {F F' H H' H₀ : Hp} {ρ ρ' ρ₀ : List Sl} {σ : L2.St} {v : V} {a : Arg} (s : Stp K F ρ σ H F' ρ' σ H') (h : AOne K F ρ σ H ρ₀ H₀ v a) : AOne K F' ρ' σ H' ρ₀ H₀ v a := by
  cases a with
  | dat d => exact Rep.mono s.fsub h
  | nam i => exact h
  | tmp ds =>
    obtain ⟨x, xs, h1, h2, h3, h4, h5, h6⟩ := h
    refine ⟨x, xs, h1, s.keep x _ h2 h5, ?_, h4.mono s.fsub, fun o => ?_, h6⟩
    · cases q : F' x with
      | none => rfl
      | some o =>
        rcases s.fgr x h3 (by rw [q]; simp) with z | z
        · exact absurd z h5
        · rw [h2] at z; cases z
    · rcases s.ogr x o with z | z
      · exact h5 z
      · rw [h2] at z; cases z
theorem AOk.nil {F H H₀ : Hp} {ρ ρ₀ : List Sl} {σ : L2.St} : AOk K F ρ σ H ρ₀ H₀ [] [] := ⟨rfl, fun j a v h => by simp at h, fun j k ds es x h => by simp at h⟩
theorem AOk.cons {F H H₀ : Hp} {ρ ρ₀ : List Sl} {σ : L2.St} {a : Arg} {v : V} {as : List Arg} {vs : List V} (h : AOne K F ρ σ H ρ₀ H₀ v a) (t : AOk K F ρ σ H ρ₀ H₀ as vs)
    (hd : ∀ ds x, a = .tmp ds → v = .ref x → ∀ (k : Nat) es, as[k]? = some (.tmp es) → vs[k]? ≠ some (.ref x)) : AOk K F ρ σ H ρ₀ H₀ (a :: as) (v :: vs) := by
  refine ⟨by simp [t.len], fun j b u h1 h2 => ?_, fun j k ds es x h1 h2 h3 h4 => ?_⟩
  · cases j with
    | zero => simp at h1 h2; subst h1; subst h2; exact h
    | succ j => exact t.one j b u (by simpa using h1) (by simpa using h2)
  · cases j with
    | zero =>
      cases k with
      | zero => rfl
      | succ k => simp at h1 h3; exact absurd (by simpa using h4) (hd ds x h1 h3 k es (by simpa using h2))
    | succ j =>
      cases k with
      | zero => simp at h2 h4; exact absurd (by simpa using h3) (hd es x h2 h4 j ds (by simpa using h1))
      | succ k => rw [t.dis j k ds es x (by simpa using h1) (by simpa using h2) (by simpa using h3) (by simpa using h4)]

/-- what bindA lays at place j -/
def slotA (ρ : List Sl) : Arg → Sl → Prop
  | .dat d, s => s = .val false d
  | .tmp ds, s => s = .own false ds
  | .nam i, s => (∃ b d, ρ[i]? = some (.val b d) ∧ s = .val false d) ∨ (∃ b ds, ρ[i]? = some (.own b ds) ∧ s = .own true ds) ∨ ∃ ds, ρ[i]? = some (.lent ds) ∧ s = .lent ds
theorem bindA_ok {ρ : List Sl} : ∀ {as : List Arg} {used : List Nat} {args : List Sl}, bindA ρ as used = some args → args.length = as.length ∧
    (∀ (j : Nat) (a : Arg) (s : Sl), as[j]? = some a → args[j]? = some s → slotA ρ a s) ∧
    (∀ (j : Nat) (i : Nat) (s : Sl) ds, as[j]? = some (.nam i) → args[j]? = some s → lst? s = some ds → i ∉ used) ∧
    (∀ (j k : Nat) (i : Nat) (s t : Sl) ds es, as[j]? = some (.nam i) → as[k]? = some (.nam i) → args[j]? = some s → args[k]? = some t → lst? s = some ds → lst? t = some es → j = k)
  | [], used, args, h => by
    rw [bindA] at h; cases h
    exact ⟨rfl, fun j a s h => by simp at h, fun j i s ds h => by simp at h, fun j k i s t ds es h => by simp at h⟩
  | a :: as, used, args, h => by
    -- the head's slot, the tail's
    have key : ∃ s0 r used', args = s0 :: r ∧ bindA ρ as used' = some r ∧ slotA ρ a s0 ∧ ((∃ i ds, a = .nam i ∧ lst? s0 = some ds ∧ used' = i :: used ∧ i ∉ used) ∨ ((∀ i ds, a = .nam i → lst? s0 ≠ some ds) ∧ used' = used)) := by
      cases a with
      | dat d =>
        rw [bindA] at h
        obtain ⟨r, e1, e2⟩ := map_some h
        exact ⟨_, r, used, e2.symm, e1, rfl, .inr ⟨fun i ds z => (by cases z), rfl⟩⟩
      | tmp d =>
        rw [bindA] at h
        obtain ⟨r, e1, e2⟩ := map_some h
        exact ⟨_, r, used, e2.symm, e1, rfl, .inr ⟨fun i ds z => (by cases z), rfl⟩⟩
      | nam i =>
        rw [bindA] at h
        split at h
        · rename_i b d q
          obtain ⟨r, e1, e2⟩ := map_some h
          exact ⟨_, r, used, e2.symm, e1, .inl ⟨b, d, q, rfl⟩, .inr ⟨fun _ _ _ z => (by cases z), rfl⟩⟩
        · rename_i b ds q
          split at h
          · cases h
          · rename_i hu
            obtain ⟨r, e1, e2⟩ := map_some h
            exact ⟨_, r, _, e2.symm, e1, .inr (.inl ⟨b, ds, q, rfl⟩), .inl ⟨i, ds, rfl, rfl, rfl, by simpa using hu⟩⟩
        · rename_i ds q
          split at h
          · cases h
          · rename_i hu
            obtain ⟨r, e1, e2⟩ := map_some h
            exact ⟨_, r, _, e2.symm, e1, .inr (.inr ⟨ds, q, rfl⟩), .inl ⟨i, ds, rfl, rfl, rfl, by simpa using hu⟩⟩
        · cases h
    obtain ⟨s0, r, used', rfl, hr, hs0, hu⟩ := key
    obtain ⟨l1, l2, l3, l4⟩ := bindA_ok hr
    have sub : ∀ i, i ∉ used' → i ∉ used := fun i hi hm => by
      rcases hu with ⟨_, _, _, _, rfl, _⟩ | ⟨_, rfl⟩
      · exact hi (List.mem_cons_of_mem _ hm)
      · exact hi hm
    refine ⟨by simp [l1], fun j b s h1 h2 => ?_, fun j i s ds h1 h2 h3 => ?_, fun j k i s t ds es h1 h2 h3 h4 h5 h6 => ?_⟩
    · cases j with
      | zero => simp at h1 h2; subst h1; subst h2; exact hs0
      | succ j => exact l2 j b s (by simpa using h1) (by simpa using h2)
    · cases j with
      | zero =>
        simp at h1 h2; subst h1; subst h2
        rcases hu with ⟨i', _, e, _, _, hn⟩ | ⟨hn, _⟩
        · cases e; exact hn
        · exact absurd h3 (hn i ds rfl)
      | succ j => exact sub i (l3 j i s ds (by simpa using h1) (by simpa using h2) h3)
    · have z0 : ∀ (k : Nat) (t : Sl) es, a = .nam i → lst? s0 = some ds → (as[k]? = some (.nam i)) → r[k]? = some t → lst? t = some es → False := fun k t es ea e0 hk ht he => by
        rcases hu with ⟨i', _, e, _, rfl, hn⟩ | ⟨hn, _⟩
        · rw [ea] at e; cases e
          exact l3 k i t es hk ht he List.mem_cons_self
        · exact hn i ds ea e0
      have z1 : ∀ (k : Nat) (t : Sl) es, a = .nam i → lst? s0 = some es → (as[k]? = some (.nam i)) → r[k]? = some t → lst? t = some ds → False := fun k t es ea e0 hk ht he => by
        rcases hu with ⟨i', _, e, _, rfl, hn⟩ | ⟨hn, _⟩
        · rw [ea] at e; cases e
          exact l3 k i t ds hk ht he List.mem_cons_self
        · exact hn i es ea e0
      cases j with
      | zero =>
        cases k with
        | zero => rfl
        | succ k => simp at h1 h3; subst h3; exact (z0 k t es h1 h5 (by simpa using h2) (by simpa using h4) h6).elim
      | succ j =>
        cases k with
        | zero => simp at h2 h4; subst h4; exact (z1 j s es h2 h6 (by simpa using h1) (by simpa using h3) h5).elim
        | succ k => rw [l4 j k i s t ds es (by simpa using h1) (by simpa using h2) (by simpa using h3) (by simpa using h4) h5 h6]
theorem AOk.get {F H H₀ : Hp} {ρ ρ₀ : List Sl} {σ : L2.St} {as : List Arg} {vs : List V} (A : AOk K F ρ σ H ρ₀ H₀ as vs) {args : List Sl} {j : Nat} {s : Sl} (hl : args.length = as.length) (h : args[j]? = some s) :
    ∃ a v, as[j]? = some a ∧ vs[j]? = some v ∧ AOne K F ρ σ H ρ₀ H₀ v a := by
  have hj : j < args.length := (List.getElem?_eq_some_iff.mp h).1
  have h1 : j < as.length := by omega
  have h2 : j < vs.length := by rw [← A.len]; exact h1
  exact ⟨as[j], vs[j], by simp [h1], by simp [h2], A.one j _ _ (by simp [h1]) (by simp [h2])⟩
theorem args_gs {F H H₀ : Hp} {ρ ρ₀ : List Sl} {σ : L2.St} {as : List Arg} {vs : List V} {args : List Sl} (g : GS K F ρ σ H) (A : AOk K F ρ σ H ρ₀ H₀ as vs) (h : bindA ρ as [] = some args) : GS K F args (vs.map some) H := by
  obtain ⟨l1, l2, l3, l4⟩ := bindA_ok h
  have up : ∀ {j : Nat} {v : V}, vs[j]? = some v → (vs.map some)[j]? = some (some v) := fun e => by rw [List.getElem?_map, e]; rfl
  have dn : ∀ {j : Nat} {v : V}, (vs.map some)[j]? = some (some v) → vs[j]? = some v := fun {j v} e => by
    rw [List.getElem?_map] at e
    cases q : vs[j]? with
    | none => rw [q] at e; cases e
    | some w => rw [q] at e; cases e; rfl
  refine ⟨g.sub, by rw [l1, A.len, List.length_map], fun j b d e => ?_, fun j s ds e e' => ?_, fun j k x ⟨⟨s, ds, e1, e2⟩, e3⟩ ⟨⟨t, es, f1, f2⟩, f3⟩ => ?_⟩
  · obtain ⟨a, v, h1, h2, h3⟩ := A.get l1 e
    have h4 := l2 j a _ h1 e
    refine ⟨v, up h2, ?_⟩
    cases a with
    | dat d' => cases h4; exact h3
    | tmp ds => cases h4
    | nam i =>
      rcases h4 with ⟨b', d', q1, q2⟩ | ⟨_, _, _, q2⟩ | ⟨_, _, q2⟩
      · cases q2
        obtain ⟨w, q3, q4⟩ := g.val i b' d q1
        have h3 : σ[i]? = some (some v) := h3
        rw [h3] at q3; cases q3
        exact q4
      · cases q2
      · cases q2
  · obtain ⟨a, v, h1, h2, h3⟩ := A.get l1 e
    have h4 := l2 j a _ h1 e
    cases a with
    | dat d' => cases h4; cases e'
    | tmp es =>
      cases h4; cases e'
      obtain ⟨x, xs, rfl, q2, q3, q4, _⟩ := h3
      exact ⟨x, xs, up h2, q2, q3, q4⟩
    | nam i =>
      have h3 : σ[i]? = some (some v) := h3
      rcases h4 with ⟨b', d', q1, q2⟩ | ⟨b', es, q1, q2⟩ | ⟨es, q1, q2⟩
      · cases q2; cases e'
      · cases q2; cases e'
        obtain ⟨x, xs, q3, q4⟩ := g.own i _ ds q1 rfl
        rw [h3] at q3; cases q3
        exact ⟨x, xs, up h2, q4⟩
      · cases q2; cases e'
        obtain ⟨x, xs, q3, q4⟩ := g.own i _ ds q1 rfl
        rw [h3] at q3; cases q3
        exact ⟨x, xs, up h2, q4⟩
  · obtain ⟨a, v, h1, h2, h3⟩ := A.get l1 e1
    obtain ⟨a', v', h1', h2', h3'⟩ := A.get l1 f1
    have e3 := dn e3
    have f3 := dn f3
    rw [h2] at e3; cases e3
    rw [h2'] at f3; cases f3
    have s1 := l2 j a _ h1 e1
    have s2 := l2 k a' _ h1' f1
    have nm : ∀ {i : Nat} {s : Sl} {ds : List D}, lst? s = some ds → slotA ρ (.nam i) s → ∃ s' ds', ρ[i]? = some s' ∧ lst? s' = some ds' := fun {i s ds} l z => by
      rcases z with ⟨_, _, _, z⟩ | ⟨b, es, q, _⟩ | ⟨es, q, _⟩
      · subst z; cases l
      · exact ⟨_, es, q, rfl⟩
      · exact ⟨_, es, q, rfl⟩
    cases a with
    | dat d => cases s1; cases e2
    | tmp ds1 =>
      cases a' with
      | dat d => cases s2; cases f2
      | tmp ds2 => exact A.dis j k ds1 ds2 x h1 h1' h2 h2'
      | nam i =>
        obtain ⟨y, _, q1, _, _, _, q2, _⟩ := h3
        cases q1
        obtain ⟨s', ds', q3, q4⟩ := nm f2 s2
        exact absurd ⟨i, ⟨s', ds', q3, q4⟩, h3'⟩ q2
    | nam i =>
      obtain ⟨s', ds', q3, q4⟩ := nm e2 s1
      cases a' with
      | dat d => cases s2; cases f2
      | tmp ds2 =>
        obtain ⟨y, _, q1, _, _, _, q2, _⟩ := h3'
        cases q1
        exact absurd ⟨i, ⟨s', ds', q3, q4⟩, h3⟩ q2
      | nam i' =>
        obtain ⟨s'', ds'', q5, q6⟩ := nm f2 s2
        have := g.dis i i' x ⟨⟨s', ds', q3, q4⟩, h3⟩ ⟨⟨s'', ds'', q5, q6⟩, h3'⟩
        subst this
        exact l4 j k i s t ds es h1 h1' e1 f1 e2 f2

theorem backA_get {as : List Arg} {ss : List Sl} : ∀ (ρ : List Sl) (n i : Nat), (backA as ss n ρ)[i]? = (ρ[i]?).map fun s => backS s (lookA (n + i) as ss)
  | [], n, i => by simp [backA]
  | s :: ρ, n, 0 => by simp [backA]
  | s :: ρ, n, i + 1 => by
    rw [backA]
    simp only [List.getElem?_cons_succ]
    rw [backA_get ρ (n + 1) i]
    have : n + 1 + i = n + (i + 1) := by omega
    rw [this]
theorem backA_len {as : List Arg} {ss : List Sl} : ∀ (ρ : List Sl) (n : Nat), (backA as ss n ρ).length = ρ.length
  | [], n => rfl
  | s :: ρ, n => by rw [backA]; simp [backA_len ρ]
theorem lookA_some {i : Nat} : ∀ {as : List Arg} {ss : List Sl} {t : Sl}, lookA i as ss = some t → ∃ j : Nat, as[j]? = some (.nam i) ∧ ss[j]? = some t
  | [], _, _, h => by simp [lookA] at h
  | a :: as, [], _, h => by cases a <;> simp [lookA] at h
  | a :: as, s :: ss, t, h => by
    have tl : lookA i as ss = some t → ∃ j : Nat, (a :: as)[j]? = some (.nam i) ∧ (s :: ss)[j]? = some t := fun h => by
      obtain ⟨j, h1, h2⟩ := lookA_some h
      exact ⟨j + 1, by simpa using h1, by simpa using h2⟩
    cases a with
    | dat d => exact tl (by simpa [lookA] using h)
    | tmp d => exact tl (by simpa [lookA] using h)
    | nam k =>
      rw [lookA] at h
      split at h
      · rename_i hk; cases h; subst hk; exact ⟨0, rfl, rfl⟩
      · exact tl h
theorem lookA_none {i : Nat} : ∀ {as : List Arg} {ss : List Sl}, as.length = ss.length → lookA i as ss = none → ∀ j : Nat, as[j]? ≠ some (.nam i)
  | [], _, _, _ => fun j h => by simp at h
  | a :: as, [], hl, _ => by simp at hl
  | a :: as, s :: ss, hl, h => fun j hj => by
    have hl' : as.length = ss.length := by simpa using hl
    have tl : lookA i as ss = none ∧ a ≠ .nam i := by
      cases a with
      | dat d => exact ⟨by simpa [lookA] using h, by simp⟩
      | tmp d => exact ⟨by simpa [lookA] using h, by simp⟩
      | nam k =>
        rw [lookA] at h
        split at h
        · cases h
        · rename_i hk; exact ⟨h, fun e => hk (by cases e; rfl)⟩
    cases j with
    | zero => simp at hj; exact tl.2 hj
    | succ j => exact lookA_none hl' tl.1 j (by simpa using hj)

/-- behind a call -/
theorem call_stp {F₀ H₀ F H F' H' : Hp} {ρ₀ ρ args args' : List Sl} {σ σ' : L2.St} {as : List Arg} {vs : List V} (s0 : Stp K F₀ ρ₀ σ H₀ F ρ σ H) (A : AOk K F ρ σ H ρ₀ H₀ as vs) (hb : bindA ρ as [] = some args)
    (s : Stp K F args (vs.map some) H F' args' σ' H') :
    Stp K F₀ ρ₀ σ H₀ F' (backA as args' 0 ρ) σ H' ∧ ∀ v r, RepR K F' args' σ' H' args (vs.map some) H v r → RepR K F' (backA as args' 0 ρ) σ H' ρ₀ σ H₀ v r := by
  have g := s0.gs
  obtain ⟨l1, l2, l3, l4⟩ := bindA_ok hb
  have up : ∀ {j : Nat} {v : V}, vs[j]? = some v → (vs.map some)[j]? = some (some v) := fun e => by rw [List.getElem?_map, e]; rfl
  have dn : ∀ {j : Nat} {v : V}, (vs.map some)[j]? = some (some v) → vs[j]? = some v := fun {j v} e => by
    rw [List.getElem?_map] at e
    cases q : vs[j]? with
    | none => rw [q] at e; cases e
    | some w => rw [q] at e; cases e; rfl
  have la : as.length = args'.length := by rw [s.len, l1]
  -- whose are the lists that the callee holds
  have own : ∀ b, Own args (vs.map some) b → (∃ (j : Nat) (ds : List D), as[j]? = some (Arg.tmp ds) ∧ vs[j]? = some (V.ref b) ∧ ¬ Own ρ σ b ∧ (Own ρ₀ σ b ∨ H₀ b = none)) ∨ Own ρ σ b := fun b ⟨j, ⟨sl, ds, e1, e2⟩, e3⟩ => by
    obtain ⟨a, v, h1, h2, h3⟩ := A.get l1 e1
    have s1 := l2 j a _ h1 e1
    have e3 := dn e3
    rw [h2] at e3; cases e3
    cases a with
    | dat d => cases s1; cases e2
    | tmp es =>
      obtain ⟨x, _, q1, _, _, _, q2, q3⟩ := h3
      cases q1
      exact .inl ⟨j, es, h1, h2, q2, q3⟩
    | nam i =>
      right
      rcases s1 with ⟨_, _, _, z⟩ | ⟨b', es, q, _⟩ | ⟨es, q, _⟩
      · subst z; cases e2
      · exact ⟨i, ⟨_, es, q, rfl⟩, h3⟩
      · exact ⟨i, ⟨_, es, q, rfl⟩, h3⟩
  have back : ∀ b, Own ρ σ b ∨ H b = none → Own ρ₀ σ b ∨ H₀ b = none := fun b h => by
    rcases h with h | h
    · exact s0.ogr b h
    · by_cases ho : Own ρ₀ σ b
      · exact .inl ho
      · right
        cases e : H₀ b with
        | none => rfl
        | some o => rw [s0.keep b o e ho] at h; cases h
  have own' : ∀ b, Own args (vs.map some) b → Own ρ₀ σ b ∨ H₀ b = none := fun b h => by
    rcases own b h with ⟨_, _, _, _, _, z⟩ | z
    · exact z
    · exact back b (.inl z)
  -- a name's slot behind the call
  have slot : ∀ {i : Nat} {t : Sl}, (backA as args' 0 ρ)[i]? = some t → ∃ s1, ρ[i]? = some s1 ∧ t = backS s1 (lookA i as args') := fun {i t} h => by
    rw [backA_get] at h
    obtain ⟨s1, e1, e2⟩ := map_some h
    exact ⟨s1, e1, by rw [← e2, Nat.zero_add]⟩
  have slot' : ∀ {i : Nat} {s1 : Sl}, ρ[i]? = some s1 → (backA as args' 0 ρ)[i]? = some (backS s1 (lookA i as args')) := fun {i s1} h => by
    rw [backA_get, h, Nat.zero_add]; rfl
  -- what the callee left of a list that was lent to it
  have lent : ∀ {i j : Nat} {s1 t : Sl} {ds : List D}, ρ[i]? = some s1 → lst? s1 = some ds → as[j]? = some (.nam i) → args'[j]? = some t →
      ∃ v s2, σ[i]? = some (some v) ∧ σ'[j]? = some (some v) ∧ args[j]? = some s2 ∧ lkOk s2 t ∧ ((∃ b, s1 = .own b ds ∧ s2 = .own true ds) ∨ (s1 = .lent ds ∧ s2 = .lent ds)) := fun {i j s1 t ds} h1 h2 h3 h4 => by
    have hj : j < args.length := by rw [l1]; exact (List.getElem?_eq_some_iff.mp h3).1
    have e1 : args[j]? = some args[j] := by simp [hj]
    obtain ⟨a, v, q1, q2, q3⟩ := A.get l1 e1
    rw [h3] at q1; cases q1
    have q4 := l2 j _ _ h3 e1
    have kind : (∃ b, s1 = .own b ds ∧ args[j] = .own true ds) ∨ (s1 = .lent ds ∧ args[j] = .lent ds) := by
      rcases q4 with ⟨_, _, z, _⟩ | ⟨b, es, z, z'⟩ | ⟨es, z, z'⟩
      · rw [h1] at z; cases z; cases h2
      · rw [h1] at z; cases z; cases h2; exact .inl ⟨b, rfl, z'⟩
      · rw [h1] at z; cases z; cases h2; exact .inr ⟨rfl, z'⟩
    have lk : lkd args[j] = true := by rcases kind with ⟨_, _, z⟩ | ⟨_, z⟩ <;> rw [z] <;> rfl
    obtain ⟨z1, s', z2, z3⟩ := s.lk j _ e1 lk
    rw [h4] at z2; cases z2
    exact ⟨v, _, q3, by rw [z1]; exact up q2, e1, z3, kind⟩
  have ownB : ∀ {i : Nat} {x : Addr}, OwnAt (backA as args' 0 ρ) σ i x → OwnAt ρ σ i x := fun {i x} ⟨⟨t, ds, e1, e2⟩, e3⟩ => by
    obtain ⟨s1, q1, q2⟩ := slot e1
    refine ⟨?_, e3⟩
    cases s1 with
    | unb => subst q2; cases e2
    | val b d => subst q2; cases e2
    | own b es => exact ⟨_, es, q1, rfl⟩
    | lent es => exact ⟨_, es, q1, rfl⟩
  refine ⟨?_, fun v r h => ?_⟩
  rotate_left
  · cases r with
    | val d => exact h
    | own ds =>
      obtain ⟨x, xs, h1, h2, h3, h4, h5, h6⟩ := h
      refine ⟨x, xs, h1, h2, h3, h4, fun ⟨i, h⟩ => ?_, ?_⟩
      · have hO := ownB h
        obtain ⟨⟨s1, ds1, q1, q2⟩, q3⟩ := hO
        obtain ⟨x', xs', w1, w2, _⟩ := g.own i s1 ds1 q1 q2
        rw [q3] at w1; cases w1
        rcases h6 with h6 | h6
        · rcases own x h6 with ⟨_, _, _, _, z, _⟩ | _
          · exact z ⟨i, ⟨s1, ds1, q1, q2⟩, q3⟩
          · -- a name was lent
            obtain ⟨j, ⟨sl, es, w3, w4⟩, w5⟩ := h6
            obtain ⟨a', v', y1, y2, y3⟩ := A.get l1 w3
            have sa := l2 j a' _ y1 w3
            have w5 := dn w5
            rw [y2] at w5; cases w5
            cases a' with
            | dat d => cases sa; cases w4
            | tmp es' => obtain ⟨_, _, u1, _, _, _, u2, _⟩ := y3; cases u1; exact u2 ⟨i, ⟨s1, ds1, q1, q2⟩, q3⟩
            | nam i' =>
              have ex : ∃ s' ds', ρ[i']? = some s' ∧ lst? s' = some ds' := by
                rcases sa with ⟨_, _, _, z⟩ | ⟨b, es, q, _⟩ | ⟨es, q, _⟩
                · subst z; cases w4
                · exact ⟨_, es, q, rfl⟩
                · exact ⟨_, es, q, rfl⟩
              have := g.dis i i' x ⟨⟨s1, ds1, q1, q2⟩, q3⟩ ⟨ex, y3⟩
              subst this
              have hj : j < args'.length := by rw [← la]; exact (List.getElem?_eq_some_iff.mp y1).1
              have e' : args'[j]? = some args'[j] := by simp [hj]
              obtain ⟨v2, s2, u1, u2, u3, u4, u5⟩ := lent q1 q2 y1 e'
              rw [q3] at u1; cases u1
              -- the slot behind the call is a list's
              obtain ⟨⟨t, dt, t1, t2⟩, _⟩ := h
              obtain ⟨s3, t3, t4⟩ := slot t1
              rw [q1] at t3; cases t3
              have lo : ∃ t5, lookA i as args' = some t5 := by
                cases hl : lookA i as args' with
                | none => exact absurd y1 (lookA_none la hl j)
                | some t5 => exact ⟨t5, rfl⟩
              obtain ⟨t5, hl⟩ := lo
              obtain ⟨j2, t6, t7⟩ := lookA_some hl
              have hj2 : j2 < args.length := by rw [l1]; exact (List.getElem?_eq_some_iff.mp t6).1
              obtain ⟨_, s6, _, v2', v3', v4', v5'⟩ := lent q1 q2 t6 t7
              have l4' : j2 = j := by
                have a1 : lst? s6 = some ds1 := by rcases v5' with ⟨_, _, z⟩ | ⟨_, z⟩ <;> rw [z] <;> rfl
                have a2 : lst? s2 = some ds1 := by rcases u5 with ⟨_, _, z⟩ | ⟨_, z⟩ <;> rw [z] <;> rfl
                exact l4 j2 j i s6 s2 ds1 ds1 t6 y1 v3' u3 a1 a2
              subst l4'
              rw [e'] at t7; cases t7
              rw [hl] at t4
              refine h5 ⟨j2, ?_, u2⟩
              rcases u5 with ⟨b, z1, z2⟩ | ⟨z1, z2⟩
              · subst z1; subst z2
                rcases u4 with ⟨d2, z⟩ | ⟨d2, z⟩
                · exact ⟨_, d2, e', by rw [z]; rfl⟩
                · rw [z] at t4; subst t4; cases t2
              · subst z1; subst z2
                exact ⟨_, ds1, e', by rw [show args'[j2] = .lent ds1 from u4]; rfl⟩
        · rw [w2] at h6; cases h6
      · rcases h6 with h6 | h6
        · exact own' x h6
        · exact back x (.inr h6)
  refine ⟨⟨s.gs.sub, by rw [backA_len]; exact g.len, fun i b d e => ?_, fun i t ds e e' => ?_, fun i j x h1 h2 => g.dis i j x (ownB h1) (ownB h2)⟩, s0.fsub.trans s.fsub, fun b n n' => ?_, fun b o h n => ?_, fun b ⟨i, h⟩ => back b (.inl ⟨i, ownB h⟩), by rw [backA_len]; exact s0.len, fun i s1 h l => ?_⟩
  · -- data
    obtain ⟨s1, q1, q2⟩ := slot e
    cases s1 with
    | unb => cases q2
    | lent es => cases q2
    | val b' d' =>
      cases q2
      obtain ⟨v, z1, z2⟩ := g.val i b d q1
      exact ⟨v, z1, z2.mono s.fsub⟩
    | own b' es =>
      cases hl : lookA i as args' with
      | none => rw [hl] at q2; cases q2
      | some t =>
        rw [hl] at q2
        obtain ⟨j, z1, z2⟩ := lookA_some hl
        obtain ⟨v, s2, y1, y2, y3, y4, y5⟩ := lent q1 rfl z1 z2
        cases t with
        | unb => cases q2
        | own _ _ => cases q2
        | lent _ => cases q2
        | val b2 d2 =>
          cases q2
          obtain ⟨w, x1, x2⟩ := s.gs.val j b2 d z2
          rw [y2] at x1; cases x1
          exact ⟨v, y1, x2⟩
  · -- lists
    obtain ⟨s1, q1, q2⟩ := slot e
    -- a list that was not lent
    have stay : ∀ es, lst? s1 = some es → (∀ j : Nat, as[j]? ≠ some (.nam i)) → t = s1 → ∃ (a : Addr) (xs : List V), σ[i]? = some (some (V.ref a)) ∧ H' a = some (.lst xs) ∧ F' a = none ∧ Reps K F' xs ds := fun es he hn ht => by
      subst ht
      rw [he] at e'; cases e'
      obtain ⟨a, xs, z1, z2, z3, z4⟩ := g.own i _ ds q1 he
      have no : ¬ Own args (vs.map some) a := fun h => by
        obtain ⟨j, ⟨sl, es, w1, w2⟩, w3⟩ := h
        obtain ⟨a', v, h1, h2, h3⟩ := A.get l1 w1
        have sa := l2 j a' _ h1 w1
        have w3 := dn w3
        rw [h2] at w3; cases w3
        cases a' with
        | dat d => cases sa; cases w2
        | tmp es => obtain ⟨x, _, y1, _, _, _, y2, _⟩ := h3; cases y1; exact y2 ⟨i, ⟨_, ds, q1, he⟩, z1⟩
        | nam i' =>
          have : ∃ s' ds', ρ[i']? = some s' ∧ lst? s' = some ds' := by
            rcases sa with ⟨_, _, _, z⟩ | ⟨b, es, q, _⟩ | ⟨es, q, _⟩
            · subst z; cases w2
            · exact ⟨_, es, q, rfl⟩
            · exact ⟨_, es, q, rfl⟩
          have := g.dis i i' a ⟨⟨_, ds, q1, he⟩, z1⟩ ⟨this, h3⟩
          subst this
          exact hn j h1
      refine ⟨a, xs, z1, s.keep a _ z2 no, ?_, z4.mono s.fsub⟩
      cases q : F' a with
      | none => rfl
      | some o =>
        rcases s.fgr a z3 (by rw [q]; simp) with z | z
        · exact absurd z no
        · rw [z2] at z; cases z
    cases hl : lookA i as args' with
    | none =>
      have hn := lookA_none la hl
      rw [hl] at q2
      cases s1 with
      | unb => subst q2; cases e'
      | val b' d' => subst q2; cases e'
      | own b' es => exact stay es rfl hn q2
      | lent es => exact stay es rfl hn q2
    | some t2 =>
      rw [hl] at q2
      obtain ⟨j, z1, z2⟩ := lookA_some hl
      cases s1 with
      | unb => subst q2; cases e'
      | val b' d' => subst q2; cases e'
      | own b' es =>
        obtain ⟨v, s2, y1, y2, y3, y4, y5⟩ := lent q1 rfl z1 z2
        have : t2 ≠ .unb ∧ ∀ x, t2 ≠ .lent x := by
          rcases y5 with ⟨_, _, y5⟩ | ⟨y5, _⟩
          · subst y5; rcases y4 with ⟨_, rfl⟩ | ⟨_, rfl⟩ <;> simp
          · cases y5
        cases t2 with
        | unb => exact absurd rfl this.1
        | lent x => exact absurd rfl (this.2 x)
        | val b2 d2 => subst q2; cases e'
        | own b2 es2 =>
          subst q2; cases e'
          obtain ⟨a, xs, x1, x2⟩ := s.gs.own j _ ds z2 rfl
          rw [y2] at x1; cases x1
          exact ⟨a, xs, y1, x2⟩
      | lent es =>
        obtain ⟨v, s2, y1, y2, y3, y4, y5⟩ := lent q1 rfl z1 z2
        have ht : t = .lent es := by rw [q2]; cases t2 <;> rfl
        subst ht
        cases e'
        rcases y5 with ⟨_, y5, _⟩ | ⟨_, y5⟩
        · cases y5
        · subst y5
          cases (show t2 = .lent ds from y4)
          obtain ⟨a, xs, x1, x2⟩ := s.gs.own j _ ds z2 rfl
          rw [y2] at x1; cases x1
          exact ⟨a, xs, y1, x2⟩
  · by_cases q : F b = none
    · rcases s.fgr b q n' with z | z
      · exact own' b z
      · exact back b (.inr z)
    · exact s0.fgr b n q
  · refine s.keep b o (s0.keep b o h n) fun z => ?_
    rcases own' b z with z | z
    · exact n z
    · rw [h] at z; cases z
  · obtain ⟨e1, s2, h2, k2⟩ := s0.lk i s1 h l
    refine ⟨e1, _, slot' h2, ?_⟩
    have l2' := k2.lkd l
    refine lkOk.trans l k2 ?_
    cases s2 with
    | unb => cases l2'
    | val b d => exact lkOk.refl _
    | lent es =>
      cases lookA i as args' with
      | none => rfl
      | some t => cases t <;> rfl
    | own b es =>
      cases b with
      | false => cases l2'
      | true =>
        cases lookA i as args' with
        | none => exact .inl ⟨_, rfl⟩
        | some t =>
          cases t with
          | unb => exact .inl ⟨_, rfl⟩
          | lent _ => exact .inl ⟨_, rfl⟩
          | own _ ds => exact .inl ⟨_, rfl⟩
          | val _ d => exact .inr ⟨_, rfl⟩
theorem AOk.rebase {F1 H1 F2 H2 F H : Hp} {ρ ρ1 ρ2 : List Sl} {σ : L2.St} {as : List Arg} {vs : List V} (a : Stp K F ρ σ H F1 ρ1 σ H1) (A : AOk K F2 ρ2 σ H2 ρ1 H1 as vs) : AOk K F2 ρ2 σ H2 ρ H as vs := by
  refine ⟨A.len, fun j b v h1 h2 => ?_, A.dis⟩
  have h := A.one j b v h1 h2
  cases b with
  | dat d => exact h
  | nam i => exact h
  | tmp ds =>
    obtain ⟨x, xs, q1, q2, q3, q4, q5, q6⟩ := h
    refine ⟨x, xs, q1, q2, q3, q4, q5, ?_⟩
    rcases q6 with q6 | q6
    · exact a.ogr x q6
    · by_cases ho : Own ρ σ x
      · exact .inl ho
      · right
        cases e : H x with
        | none => rfl
        | some o => rw [a.keep x o e ho] at q6; cases q6
theorem AOk.consR {F1 H1 F2 H2 F H : Hp} {ρ ρ1 ρ2 : List Sl} {σ : L2.St} {as : List Arg} {vs : List V} {v : V} {r : R} (s1 : Stp K F ρ σ H F1 ρ1 σ H1) (rr : RepR K F1 ρ1 σ H1 ρ σ H v r) (s2 : Stp K F1 ρ1 σ H1 F2 ρ2 σ H2)
    (A : AOk K F2 ρ2 σ H2 ρ1 H1 as vs) : AOk K F2 ρ2 σ H2 ρ H (argOf r :: as) (v :: vs) := by
  have h1 : AOne K F1 ρ1 σ H1 ρ H v (argOf r) := by
    cases r with
    | val d => exact rr
    | own ds => exact rr
  refine .cons (h1.later s2) (A.rebase s1) fun ds x ea ev k es ek evk => ?_
  cases r with
  | val d => cases ea
  | own ds' =>
    obtain ⟨y, xs, q1, q2, q3, q4, q5, q6⟩ := rr
    rw [ev] at q1; cases q1
    have h := A.one k _ _ ek evk
    obtain ⟨z, zs, w1, _, _, _, _, w6⟩ := h
    cases w1
    rcases w6 with w6 | w6
    · exact q5 w6
    · rw [q2] at w6; cases w6
end
end HH
end

section
set_option linter.all false
set_option Elab.async false
set_option maxRecDepth 10000
/-! What statements do to the slots. -/
namespace HH
open PySem L2 PySem.Spec PyProof.Rows
section
variable {K : PySem.W.Frag} {F F1 H H1 : Hp} {ρ ρ1 ρ2 : List Sl} {σ σ1 : L2.St}
theorem put_ok {i : Nat} {s : Sl} (h : put ρ i s = some ρ1) : ∃ s0, ρ[i]? = some s0 ∧ lkd s0 = false ∧ ρ1 = ρ.set i s := by
  unfold put at h
  split at h
  · rename_i q; cases h; exact ⟨_, q, rfl, rfl⟩
  · rename_i q; cases h; exact ⟨_, q, rfl, rfl⟩
  · rename_i q; cases h; exact ⟨_, q, rfl, rfl⟩
  · cases h
/-- a value is bound to a name -/
theorem Stp.put {i : Nat} {v : V} {r : R} (s : Stp K F ρ σ H F1 ρ1 σ1 H1) (rr : RepR K F1 ρ1 σ1 H1 ρ σ H v r) (h : HH.put ρ1 i (slOf r) = some ρ2) : Stp K F ρ σ H F1 ρ2 (σ1.set i (some v)) H1 := by
  obtain ⟨s0, h0, hl, rfl⟩ := put_ok h
  have hi : i < ρ1.length := (List.getElem?_eq_some_iff.mp h0).1
  have hi' : i < σ1.length := by rw [← s.gs.len]; exact hi
  have old : ∀ {j : Nat} {a : Addr}, j ≠ i → OwnAt (ρ1.set i (slOf r)) (σ1.set i (some v)) j a → OwnAt ρ1 σ1 j a := fun {j a} hj ⟨⟨t, ds, e1, e2⟩, e3⟩ => by
    rw [List.getElem?_set_ne (Ne.symm hj)] at e1 e3
    exact ⟨⟨t, ds, e1, e2⟩, e3⟩
  have new : ∀ {a : Addr}, OwnAt (ρ1.set i (slOf r)) (σ1.set i (some v)) i a → ¬ Own ρ1 σ1 a ∧ (Own ρ σ a ∨ H a = none) := fun {a} ⟨⟨t, ds, e1, e2⟩, e3⟩ => by
    rw [List.getElem?_set_self hi] at e1
    rw [List.getElem?_set_self hi'] at e3
    cases e1; cases e3
    cases r with
    | val d => cases e2
    | own es => obtain ⟨x, xs, q1, q2, q3, q4, q5, q6⟩ := rr; cases q1; exact ⟨q5, q6⟩
  refine ⟨⟨s.gs.sub, by simp [s.gs.len], fun j b d e => ?_, fun j t ds e e' => ?_, fun j k a h1 h2 => ?_⟩, s.fsub, s.fgr, s.keep, fun a ⟨j, hj⟩ => ?_, by simp [s.len], fun j t e l => ?_⟩
  · by_cases hj : j = i
    · subst hj
      rw [List.getElem?_set_self hi] at e
      cases r with
      | own es => cases e
      | val d' => cases e; exact ⟨v, List.getElem?_set_self hi', rr⟩
    · rw [List.getElem?_set_ne (Ne.symm hj)] at e ⊢
      exact s.gs.val j b d e
  · by_cases hj : j = i
    · subst hj
      rw [List.getElem?_set_self hi] at e
      cases r with
      | val d' => cases e; cases e'
      | own es =>
        cases e; cases e'
        obtain ⟨x, xs, rfl, q2, q3, q4, _⟩ := rr
        exact ⟨x, xs, List.getElem?_set_self hi', q2, q3, q4⟩
    · rw [List.getElem?_set_ne (Ne.symm hj)] at e ⊢
      exact s.gs.own j t ds e e'
  · by_cases hj : j = i
    · by_cases hk : k = i
      · rw [hj, hk]
      · subst hj; exact absurd ⟨k, old hk h2⟩ (new h1).1
    · by_cases hk : k = i
      · subst hk; exact absurd ⟨j, old hj h1⟩ (new h2).1
      · exact s.gs.dis j k a (old hj h1) (old hk h2)
  · by_cases hji : j = i
    · subst hji; exact (new hj).2
    · exact s.ogr a ⟨j, old hji hj⟩
  · obtain ⟨e1, t1, e2, e3⟩ := s.lk j t e l
    have hj : j ≠ i := by
      rintro rfl
      rw [h0] at e2; cases e2
      rw [e3.lkd l] at hl; cases hl
    exact ⟨by rw [List.getElem?_set_ne (Ne.symm hj)]; exact e1, t1, by rw [List.getElem?_set_ne (Ne.symm hj)]; exact e2, e3⟩
/-- an own list is changed -/
theorem GS.mut {x : Nat} {b : Bool} {ds es : List D} {a : Addr} {ys : List V} (g : GS K F ρ σ H) (e : ρ[x]? = some (.own b ds)) (hx : σ[x]? = some (some (.ref a))) (r : Reps K F ys es) :
    Stp K F ρ σ H F (ρ.set x (.own b es)) σ (upd H a (.lst ys)) := by
  have hi : x < ρ.length := (List.getElem?_eq_some_iff.mp e).1
  have oa : OwnAt ρ σ x a := ⟨⟨_, ds, e, rfl⟩, hx⟩
  obtain ⟨a', xs, h1, h2, h3, h4⟩ := g.own x _ ds e rfl
  rw [hx] at h1; cases h1
  have old : ∀ {j : Nat} {c : Addr}, OwnAt (ρ.set x (.own b es)) σ j c → OwnAt ρ σ j c := fun {j c} ⟨⟨t, dt, q1, q2⟩, q3⟩ => by
    by_cases hj : j = x
    · subst hj; exact ⟨⟨_, ds, e, rfl⟩, q3⟩
    · rw [List.getElem?_set_ne (Ne.symm hj)] at q1; exact ⟨⟨t, dt, q1, q2⟩, q3⟩
  refine ⟨⟨fun c o q => ?_, by simp [g.len], fun j b' d q => ?_, fun j t dt q q' => ?_, fun j k c q1 q2 => g.dis j k c (old q1) (old q2)⟩, .refl _, fun c n n' => absurd n n', fun c o q n => ?_, fun c ⟨j, q⟩ => .inl ⟨j, old q⟩, by simp, fun j t q l => ⟨rfl, ?_⟩⟩
  · have : c ≠ a := by rintro rfl; rw [h3] at q; cases q
    rw [upd_ne this]; exact g.sub c o q
  · by_cases hj : j = x
    · subst hj; rw [List.getElem?_set_self hi] at q; cases q
    · rw [List.getElem?_set_ne (Ne.symm hj)] at q; exact g.val j b' d q
  · by_cases hj : j = x
    · subst hj
      rw [List.getElem?_set_self hi] at q; cases q; cases q'
      exact ⟨a, ys, hx, upd_same, h3, r⟩
    · rw [List.getElem?_set_ne (Ne.symm hj)] at q
      obtain ⟨c, zs, w1, w2, w3, w4⟩ := g.own j t dt q q'
      have : c ≠ a := by rintro rfl; exact hj (g.dis j x c ⟨⟨t, dt, q, q'⟩, w1⟩ oa)
      exact ⟨c, zs, w1, by rw [upd_ne this]; exact w2, w3, w4⟩
  · have : c ≠ a := by rintro rfl; exact n ⟨x, oa⟩
    rw [upd_ne this]; exact q
  · by_cases hj : j = x
    · subst hj
      rw [e] at q; cases q
      refine ⟨_, List.getElem?_set_self hi, ?_⟩
      cases b with
      | true => exact .inl ⟨_, rfl⟩
      | false => cases l
    · exact ⟨t, by rw [List.getElem?_set_ne (Ne.symm hj)]; exact q, .refl t⟩
/-- a list is lent to a walk -/
theorem GS.lend {i : Nat} {b : Bool} {ds : List D} (g : GS K F ρ σ H) (e : ρ[i]? = some (.own b ds)) : GS K F (ρ.set i (.lent ds)) σ H := by
  have hi : i < ρ.length := (List.getElem?_eq_some_iff.mp e).1
  have old : ∀ {j : Nat} {c : Addr}, OwnAt (ρ.set i (.lent ds)) σ j c → OwnAt ρ σ j c := fun {j c} ⟨⟨t, dt, q1, q2⟩, q3⟩ => by
    by_cases hj : j = i
    · subst hj; exact ⟨⟨_, ds, e, rfl⟩, q3⟩
    · rw [List.getElem?_set_ne (Ne.symm hj)] at q1; exact ⟨⟨t, dt, q1, q2⟩, q3⟩
  refine ⟨g.sub, by simp [g.len], fun j b' d q => ?_, fun j t dt q q' => ?_, fun j k c q1 q2 => g.dis j k c (old q1) (old q2)⟩
  · by_cases hj : j = i
    · subst hj; rw [List.getElem?_set_self hi] at q; cases q
    · rw [List.getElem?_set_ne (Ne.symm hj)] at q; exact g.val j b' d q
  · by_cases hj : j = i
    · subst hj; rw [List.getElem?_set_self hi] at q; cases q; cases q'; exact g.own j _ ds e rfl
    · rw [List.getElem?_set_ne (Ne.symm hj)] at q; exact g.own j t dt q q'
/-- .. and given back -/
theorem Stp.unlend {i : Nat} {b : Bool} {ds : List D} (g : GS K F ρ σ H) (e : ρ[i]? = some (.own b ds)) (s : Stp K F (ρ.set i (.lent ds)) σ H F1 ρ1 σ1 H1) :
    Stp K F ρ σ H F1 (ρ1.set i (.own b ds)) σ1 H1 ∧ ∀ v r, RepR K F1 ρ1 σ1 H1 (ρ.set i (.lent ds)) σ H v r → RepR K F1 (ρ1.set i (.own b ds)) σ1 H1 ρ σ H v r := by
  have hi : i < ρ.length := (List.getElem?_eq_some_iff.mp e).1
  have h1 : (ρ.set i (.lent ds))[i]? = some (.lent ds) := List.getElem?_set_self hi
  obtain ⟨z1, s', z2, z3⟩ := s.lk i _ h1 rfl
  cases (show s' = .lent ds from z3)
  have hi1 : i < ρ1.length := (List.getElem?_eq_some_iff.mp z2).1
  have o1 : ∀ {j : Nat} {c : Addr}, OwnAt (ρ.set i (.lent ds)) σ j c → OwnAt ρ σ j c := fun {j c} ⟨⟨t, dt, q1, q2⟩, q3⟩ => by
    by_cases hj : j = i
    · subst hj; exact ⟨⟨_, ds, e, rfl⟩, q3⟩
    · rw [List.getElem?_set_ne (Ne.symm hj)] at q1; exact ⟨⟨t, dt, q1, q2⟩, q3⟩
  have o1' : ∀ {c : Addr}, Own ρ σ c → Own (ρ.set i (.lent ds)) σ c := fun {c} ⟨j, ⟨t, dt, q1, q2⟩, q3⟩ => by
    by_cases hj : j = i
    · subst hj; exact ⟨j, ⟨_, ds, h1, rfl⟩, q3⟩
    · exact ⟨j, ⟨t, dt, by rw [List.getElem?_set_ne (Ne.symm hj)]; exact q1, q2⟩, q3⟩
  have o2 : ∀ {j : Nat} {c : Addr}, OwnAt (ρ1.set i (.own b ds)) σ1 j c → OwnAt ρ1 σ1 j c := fun {j c} ⟨⟨t, dt, q1, q2⟩, q3⟩ => by
    by_cases hj : j = i
    · subst hj; exact ⟨⟨_, ds, z2, rfl⟩, q3⟩
    · rw [List.getElem?_set_ne (Ne.symm hj)] at q1; exact ⟨⟨t, dt, q1, q2⟩, q3⟩
  have w : ∀ {c : Addr} {h : Hp}, Own (ρ.set i (.lent ds)) σ c ∨ h c = none → Own ρ σ c ∨ h c = none := fun {c h} q => q.imp (fun ⟨j, q⟩ => ⟨j, o1 q⟩) id
  refine ⟨⟨⟨s.gs.sub, by simp [s.gs.len], fun j b' d q => ?_, fun j t dt q q' => ?_, fun j k c q1 q2 => s.gs.dis j k c (o2 q1) (o2 q2)⟩, s.fsub, fun c n n' => w (s.fgr c n n'), fun c o q n => s.keep c o q fun ⟨j, x⟩ => n ⟨j, o1 x⟩, fun c ⟨j, q⟩ => w (s.ogr c ⟨j, o2 q⟩), by simpa using s.len, fun j t q l => ?_⟩, fun v r h => ?_⟩
  · by_cases hj : j = i
    · subst hj; rw [List.getElem?_set_self hi1] at q; cases q
    · rw [List.getElem?_set_ne (Ne.symm hj)] at q; exact s.gs.val j b' d q
  · by_cases hj : j = i
    · subst hj; rw [List.getElem?_set_self hi1] at q; cases q; cases q'; exact s.gs.own j _ ds z2 rfl
    · rw [List.getElem?_set_ne (Ne.symm hj)] at q; exact s.gs.own j t dt q q'
  · by_cases hj : j = i
    · subst hj
      rw [e] at q; cases q
      refine ⟨z1, _, List.getElem?_set_self hi1, ?_⟩
      cases b with
      | true => exact .inl ⟨_, rfl⟩
      | false => cases l
    · obtain ⟨y1, t', y2, y3⟩ := s.lk j t (by rw [List.getElem?_set_ne (Ne.symm hj)]; exact q) l
      exact ⟨y1, t', by rw [List.getElem?_set_ne (Ne.symm hj)]; exact y2, y3⟩
  · cases r with
    | val d => exact h
    | own es =>
      obtain ⟨x, xs, q1, q2, q3, q4, q5, q6⟩ := h
      exact ⟨x, xs, q1, q2, q3, q4, fun ⟨j, q⟩ => q5 ⟨j, o2 q⟩, w q6⟩
/-- a name's own list is handed back -/
theorem GS.give {i : Nat} {ds : List D} (g : GS K F ρ σ H) (e : ρ[i]? = some (.own false ds)) : ∃ v, σ[i]? = some (some v) ∧ Stp K F ρ σ H F (ρ.set i .unb) σ H ∧ RepR K F (ρ.set i .unb) σ H ρ σ H v (.own ds) := by
  have hi : i < ρ.length := (List.getElem?_eq_some_iff.mp e).1
  obtain ⟨a, xs, h1, h2, h3, h4⟩ := g.own i _ ds e rfl
  have old : ∀ {j : Nat} {c : Addr}, OwnAt (ρ.set i .unb) σ j c → OwnAt ρ σ j c ∧ j ≠ i := fun {j c} ⟨⟨t, dt, q1, q2⟩, q3⟩ => by
    by_cases hj : j = i
    · subst hj; rw [List.getElem?_set_self hi] at q1; cases q1; cases q2
    · rw [List.getElem?_set_ne (Ne.symm hj)] at q1; exact ⟨⟨⟨t, dt, q1, q2⟩, q3⟩, hj⟩
  have oa : OwnAt ρ σ i a := ⟨⟨_, ds, e, rfl⟩, h1⟩
  refine ⟨.ref a, h1, ⟨⟨g.sub, by simp [g.len], fun j b' d q => ?_, fun j t dt q q' => ?_, fun j k c q1 q2 => g.dis j k c (old q1).1 (old q2).1⟩, .refl _, fun c n n' => absurd n n', fun _ _ q _ => q, fun c ⟨j, q⟩ => .inl ⟨j, (old q).1⟩, by simp, fun j t q l => ⟨rfl, ?_⟩⟩, a, xs, rfl, h2, h3, h4, fun ⟨j, q⟩ => ?_, .inl ⟨i, oa⟩⟩
  · by_cases hj : j = i
    · subst hj; rw [List.getElem?_set_self hi] at q; cases q
    · rw [List.getElem?_set_ne (Ne.symm hj)] at q; exact g.val j b' d q
  · by_cases hj : j = i
    · subst hj; rw [List.getElem?_set_self hi] at q; cases q; cases q'
    · rw [List.getElem?_set_ne (Ne.symm hj)] at q; exact g.own j t dt q q'
  · by_cases hj : j = i
    · subst hj; rw [e] at q; cases q; cases l
    · exact ⟨t, by rw [List.getElem?_set_ne (Ne.symm hj)]; exact q, .refl t⟩
  · exact (old q).2 (g.dis j i a (old q).1 oa)
/-- more slots behind, and away again (a def's own names; a comprehension's) -/
theorem GS.more {n : Nat} {τ : List (Option V)} (g : GS K F ρ σ H) (hn : τ.length = n) : GS K F (ρ ++ List.replicate n .unb) (σ ++ τ) H := by
  have get : ∀ {j : Nat} {t : Sl}, (ρ ++ List.replicate n Sl.unb)[j]? = some t → t ≠ .unb → ρ[j]? = some t ∧ j < ρ.length := fun {j t} q ne => by
    by_cases hj : j < ρ.length
    · rw [List.getElem?_append_left hj] at q; exact ⟨q, hj⟩
    · rw [List.getElem?_append_right (by omega), List.getElem?_replicate] at q
      split at q
      · cases q; exact absurd rfl ne
      · cases q
  have up : ∀ {j : Nat} {v : Option V}, j < ρ.length → (σ[j]? = some v ↔ (σ ++ τ)[j]? = some v) := fun {j v} hj => by rw [List.getElem?_append_left (by rw [← g.len]; exact hj)]
  have old : ∀ {j : Nat} {c : Addr}, OwnAt (ρ ++ List.replicate n .unb) (σ ++ τ) j c → OwnAt ρ σ j c := fun {j c} ⟨⟨t, dt, q1, q2⟩, q3⟩ => by
    obtain ⟨h1, h2⟩ := get q1 (by rintro rfl; cases q2)
    exact ⟨⟨t, dt, h1, q2⟩, (up h2).mpr q3⟩
  refine ⟨g.sub, by simp [g.len, hn], fun j b d q => ?_, fun j t dt q q' => ?_, fun j k c q1 q2 => g.dis j k c (old q1) (old q2)⟩
  · obtain ⟨h1, h2⟩ := get q (by simp)
    obtain ⟨v, e1, e2⟩ := g.val j b d h1
    exact ⟨v, (up h2).mp e1, e2⟩
  · obtain ⟨h1, h2⟩ := get q (by rintro rfl; cases q')
    obtain ⟨a, xs, e1, e2⟩ := g.own j t dt h1 q'
    exact ⟨a, xs, (up h2).mp e1, e2⟩
theorem Stp.less {n : Nat} {τ : List (Option V)} {m : Nat} (hm : m = ρ.length) (g : GS K F ρ σ H) (hn : τ.length = n) (s : Stp K F (ρ ++ List.replicate n .unb) (σ ++ τ) H F1 ρ1 σ1 H1) :
    Stp K F ρ σ H F1 (ρ1.take m) (σ1.take m) H1 ∧ ∀ v r, RepR K F1 ρ1 σ1 H1 (ρ ++ List.replicate n .unb) (σ ++ τ) H v r → RepR K F1 (ρ1.take m) (σ1.take m) H1 ρ σ H v r := by
  subst hm
  have l1 : ρ.length ≤ ρ1.length := by rw [s.len]; simp
  have l2 : ρ.length ≤ σ1.length := by rw [← s.gs.len]; exact l1
  have tk : ∀ {α : Type} {l : List α} {j : Nat} {x : α}, (l.take ρ.length)[j]? = some x → l[j]? = some x ∧ j < ρ.length := fun {α l j x} q => by
    rw [List.getElem?_take] at q
    split at q
    · exact ⟨q, by assumption⟩
    · cases q
  have kt : ∀ {α : Type} {l : List α} {j : Nat} {x : α}, j < ρ.length → l[j]? = some x → (l.take ρ.length)[j]? = some x := fun {α l j x} hj q => by rw [List.getElem?_take, if_pos hj]; exact q
  have oN : ∀ {c : Addr}, Own (ρ ++ List.replicate n .unb) (σ ++ τ) c → Own ρ σ c := fun {c} ⟨j, ⟨t, dt, q1, q2⟩, q3⟩ => by
    by_cases hj : j < ρ.length
    · rw [List.getElem?_append_left hj] at q1
      rw [List.getElem?_append_left (by rw [← g.len]; exact hj)] at q3
      exact ⟨j, ⟨t, dt, q1, q2⟩, q3⟩
    · rw [List.getElem?_append_right (by omega), List.getElem?_replicate] at q1
      split at q1
      · cases q1; cases q2
      · cases q1
  have oN' : ∀ {c : Addr}, Own ρ σ c → Own (ρ ++ List.replicate n .unb) (σ ++ τ) c := fun {c} ⟨j, ⟨t, dt, q1, q2⟩, q3⟩ => by
    have hj : j < ρ.length := (List.getElem?_eq_some_iff.mp q1).1
    exact ⟨j, ⟨t, dt, by rw [List.getElem?_append_left hj]; exact q1, q2⟩, by rw [List.getElem?_append_left (by rw [← g.len]; exact hj)]; exact q3⟩
  have o1 : ∀ {j : Nat} {c : Addr}, OwnAt (ρ1.take ρ.length) (σ1.take ρ.length) j c → OwnAt ρ1 σ1 j c := fun {j c} ⟨⟨t, dt, q1, q2⟩, q3⟩ => ⟨⟨t, dt, (tk q1).1, q2⟩, (tk q3).1⟩
  have w : ∀ {c : Addr} {h : Hp}, Own (ρ ++ List.replicate n .unb) (σ ++ τ) c ∨ h c = none → Own ρ σ c ∨ h c = none := fun {c h} q => q.imp oN id
  refine ⟨⟨⟨s.gs.sub, by simp only [List.length_take]; omega, fun j b d q => ?_, fun j t dt q q' => ?_, fun j k c q1 q2 => s.gs.dis j k c (o1 q1) (o1 q2)⟩, s.fsub, fun c a b => w (s.fgr c a b), fun c o q n => s.keep c o q fun x => n (oN x), fun c ⟨j, q⟩ => w (s.ogr c ⟨j, o1 q⟩), by simp only [List.length_take]; omega, fun j t q l => ?_⟩, fun v r h => ?_⟩
  · obtain ⟨h1, h2⟩ := tk q
    obtain ⟨v, e1, e2⟩ := s.gs.val j b d h1
    exact ⟨v, kt h2 e1, e2⟩
  · obtain ⟨h1, h2⟩ := tk q
    obtain ⟨a, xs, e1, e2⟩ := s.gs.own j t dt h1 q'
    exact ⟨a, xs, kt h2 e1, e2⟩
  · have hj : j < ρ.length := (List.getElem?_eq_some_iff.mp q).1
    obtain ⟨y1, t', y2, y3⟩ := s.lk j t (by rw [List.getElem?_append_left hj]; exact q) l
    rw [List.getElem?_append_left (by rw [← g.len]; exact hj)] at y1
    refine ⟨?_, t', kt hj y2, y3⟩
    rw [List.getElem?_take, if_pos hj]; exact y1
  · cases r with
    | val d => exact h
    | own es =>
      obtain ⟨x, xs, q1, q2, q3, q4, q5, q6⟩ := h
      exact ⟨x, xs, q1, q2, q3, q4, fun ⟨j, q⟩ => q5 ⟨j, o1 q⟩, w q6⟩
end
end HH
end

section
set_option linter.all false
set_option Elab.async false
set_option maxRecDepth 10000
/-! Calls, statements. -/
namespace HH
open PySem L2 PySem.Spec PyProof.Rows
section
variable {X : Cx} {c : Call} {n : Nat} {e a b d : Expr} {p pa pb pd : P} {pos : Pos} {es : List Expr} {ps : List P}

/-! ### calls -/
def tEvA (K : PySem.W.Frag) (f : List Sl → Res (List Arg)) : TA := fun σ H Q => ∃ F ρ as ρ', GS K F ρ σ H ∧ f ρ = .ok as ρ' ∧ ∀ vs F' H', Stp K F ρ σ H F' ρ' σ H' → AOk K F' ρ' σ H' ρ H as vs → Q vs H'
def SG (X : Cx) (c : Call) (es : List Expr) (ps : List P) : Prop := PA X es (tEvA X.K (evA c ps))
theorem sg_nil : SG X c [] [] := paImp pa_nil fun σ H Q ⟨F, ρ, as, ρ', g, e, k⟩ => by rw [evA] at e; cases e; exact k [] F H (.refl g) .nil
theorem sg_cons (ha : SX X c a pa) (hr : SG X c es ps) (hs : starEach (a :: es) X.env = (false, eval a X.env) :: starEach es X.env := by rfl) : SG X c (a :: es) (pa :: ps) := by
  cases hv : isVar pa with
  | none =>
    refine paImp (pa_cons ha.ev hr hs) fun σ H Q ⟨F, ρ, as, ρ', g, e, k⟩ => ?_
    rw [evA, hv] at e
    obtain ⟨r, ρ1, e1, e⟩ := bind_ok e
    obtain ⟨xs, ρ2, e2, e⟩ := bind_ok e
    cases e
    refine ⟨F, ρ, r, ρ1, g, e1, fun v F1 H1 s1 rr => ⟨F1, ρ1, xs, _, s1.gs, e2, fun vs F2 H2 s2 A => k _ F2 H2 (s1.trans s2) (AOk.consR s1 rr s2 A)⟩⟩
  | some i =>
    refine paImp (pa_cons (ha.var i hv) hr hs) fun σ H Q ⟨F, ρ, as, ρ', g, e, k⟩ => ?_
    rw [evA, hv] at e
    obtain ⟨x0, ρ0, e0, e⟩ := bind_ok e
    obtain ⟨e00, e01⟩ := lift_ok e0
    subst e01
    obtain ⟨xs, ρ2, e2, e⟩ := bind_ok e
    cases e
    obtain ⟨v, h1, _⟩ := g.pk e00
    exact ⟨v, h1, F, ρ, xs, _, g, e2, fun vs F2 H2 s2 A => k _ F2 H2 s2 (.cons h1 A fun ds x z => by cases z)⟩
theorem sx_call {k f : Nat} {fa : Addr} {fd : FuncData} {qs : List Str} {x : Str} {p' : Pos} (Fn : FnOk X.prog X.w X.K X.mg X.base CX0 k fa fd qs (spC X.K qs.length (c f))) (hr : Room k X.A) (hg : Gl X x) (hm : X.mg x = some (.ref fa)) (hk : PySem.W.keepIn X.K (.ref fa) = true)
    (hb : Binds X.K fd qs []) (ha : SG X c (e :: es) ps) (hl : (e :: es).length = qs.length) (hdb : (x == ("__debug__" : Str)) = false := by decide) (he : starEach (e :: es) X.env = (false, eval e X.env) :: starEach es X.env := by rfl) (hpl : (backTo pos (starEach es X.env)).any (·.1) = false := by rfl)
    (hl2 : ps.length = (e :: es).length := by rfl) : SX X c (.Call (.Name x p') (e :: es) [] pos) (.call f ps) := by
  refine ⟨peImp (pe_call (E := E0) Fn hr hg hm hk hb .nil pass0 ha hdb he hpl) fun σ H Q ⟨F, ρ, r, ρ', g, e, k⟩ => ?_, fun i h => by cases h⟩
  rw [HH.ev] at e
  obtain ⟨as, ρ1, e1, e⟩ := bind_ok e
  unfold doCall at e
  split at e
  · cases e
  · rename_i args hb'
    split at e
    · rename_i r' args' hc
      cases e
      refine ⟨F, ρ, as, ρ1, g, e1, fun vs F1 H1 s1 A => ?_⟩
      have hlen : vs.length = qs.length := by
        have : ∀ {ps : List P} {ρ ρ' : List Sl} {as : List Arg}, evA c ps ρ = .ok as ρ' → as.length = ps.length := by
          intro ps
          induction ps with
          | nil => intro ρ ρ' as h; rw [evA] at h; cases h; rfl
          | cons q qs ih =>
            intro ρ ρ' as h
            rw [evA] at h
            split at h
            · obtain ⟨_, _, _, h⟩ := bind_ok h
              obtain ⟨xs, ρ2, h2, h⟩ := bind_ok h
              cases h; simp [ih h2]
            · obtain ⟨_, _, _, h⟩ := bind_ok h
              obtain ⟨xs, ρ2, h2, h⟩ := bind_ok h
              cases h; simp [ih h2]
        rw [← A.len, this e1, hl2, hl]
      show spC X.K qs.length (c f) (vs ++ []) H1 Q E0
      rw [List.append_nil]
      refine ⟨hlen, F1, args, r, args', args_gs s1.gs A hb', hc, fun v F' σ' H' s rr => ?_⟩
      obtain ⟨z1, z2⟩ := call_stp s1 A hb' s
      exact k v F' H' z1 (z2 v r rr)
    · cases e

/-! ### statements -/
def tEx (K : PySem.W.Frag) (f : List Sl → Res Fl) : TS := fun D σ H => ∃ F ρ fl ρ', GS K F ρ σ H ∧ f ρ = .ok fl ρ' ∧ ∀ F' σ' H', Stp K F ρ σ H F' ρ' σ' H' → (match fl with
  | .next => D.nx σ' H'
  | .brk => D.bk σ' H'
  | .cont => D.ct σ' H'
  | .ret r => ∀ v, RepR K F' ρ' σ' H' ρ σ H v r → D.rt v H')
def SS (X : Cx) (c : Call) (n : Nat) (st : Stmt) (s : S) : Prop := PS X st (tEx X.K (ex c n s))
def SB (X : Cx) (c : Call) (n : Nat) (st : List Stmt) (s : List S) : Prop := PSs X st (tEx X.K (exs c n s))
theorem psImp {st : Stmt} {t t' : TS} (h : PS X st t) (i : ∀ D σ H, t' D σ H → t D σ H) : PS X st t' := fun pins s σ H D I q => h pins s σ H D I (i D σ H q)
theorem pssImp {st : List Stmt} {t t' : TS} (h : PSs X st t) (i : ∀ D σ H, t' D σ H → t D σ H) : PSs X st t' := fun pins s σ H D I q => h pins s σ H D I (i D σ H q)
theorem sb_nil : SB X c n [] [] := pssImp pss_nil fun D σ H ⟨F, ρ, fl, ρ', g, e, k⟩ => by rw [exs] at e; cases e; exact k F σ H (.refl g)
theorem sb_cons {st : Stmt} {s : S} {sts : List Stmt} {ss : List S} (h1 : SS X c n st s) (h2 : SB X c n sts ss) : SB X c n (st :: sts) (s :: ss) := by
  refine pssImp (pss_cons h1 h2) fun D σ H ⟨F, ρ, fl, ρ', g, e, k⟩ => ?_
  rw [exs] at e
  obtain ⟨f1, ρ1, e1, e⟩ := bind_ok e
  cases f1 with
  | next =>
    refine ⟨F, ρ, .next, ρ1, g, e1, fun F1 σ1 H1 s1 => ⟨F1, ρ1, fl, ρ', s1.gs, e, fun F2 σ2 H2 s2 => ?_⟩⟩
    have q := k F2 σ2 H2 (s1.trans s2)
    cases fl with
    | next => exact q
    | brk => exact q
    | cont => exact q
    | ret r => exact fun v rr => q v (rr.later s1)
  | brk => cases e; exact ⟨F, ρ, .brk, _, g, e1, k⟩
  | cont => cases e; exact ⟨F, ρ, .cont, _, g, e1, k⟩
  | ret r => cases e; exact ⟨F, ρ, .ret r, _, g, e1, k⟩
theorem ss_ret (he : SX X c e p) : SS X c n (.Return (some e) pos) (.ret p) := by
  have plain : ∀ (D : Ends) (σ : L2.St) (H : Hp), (∃ F ρ fl ρ', GS X.K F ρ σ H ∧ ((HH.ev c p ρ).bind fun r ρ => .ok (Fl.ret r) ρ) = .ok fl ρ' ∧ ∀ F' σ' H', Stp X.K F ρ σ H F' ρ' σ' H' → (match fl with
      | .next => D.nx σ' H' | .brk => D.bk σ' H' | .cont => D.ct σ' H' | .ret r => ∀ v, RepR X.K F' ρ' σ' H' ρ σ H v r → D.rt v H')) → tEv X.K (HH.ev c p) σ H D.rt := fun D σ H ⟨F, ρ, fl, ρ', g, e, k⟩ => by
    obtain ⟨r, ρ1, e1, e⟩ := bind_ok e
    cases e
    exact ⟨F, ρ, r, _, g, e1, fun v F1 H1 s1 rr => k F1 σ H1 s1 v rr⟩
  cases hv : isVar p with
  | none =>
    refine psImp (ps_ret he.ev) fun D σ H ⟨F, ρ, fl, ρ', g, e, k⟩ => plain D σ H ⟨F, ρ, fl, ρ', g, ?_, k⟩
    rw [ex, hv] at e
    exact e
  | some i =>
    -- by the name itself: its own list is handed back, else its data
    have hp : p = .var i := by cases p <;> cases hv; rfl
    subst hp
    refine psImp (ps_ret (he.var i hv)) fun D σ H ⟨F, ρ, fl, ρ', g, e, k⟩ => ?_
    rw [ex, hv] at e
    dsimp only at e
    split at e
    · rename_i ds q
      cases e
      obtain ⟨v, h1, h2, h3⟩ := g.give q
      exact ⟨v, h1, k F σ H h2 v h3⟩
    · obtain ⟨r, ρ1, e1, e⟩ := bind_ok e
      cases e
      rw [HH.ev] at e1
      split at e1
      · rename_i b d q
        cases e1
        obtain ⟨v, h1, h2⟩ := g.val i b d q
        exact ⟨v, h1, k F σ H (.refl g) v h2⟩
      · rename_i b ds q
        cases e1
        obtain ⟨v, F', h1, h2, h3⟩ := g.freeze q
        exact ⟨v, h1, k F' σ H h2 v h3⟩
      · cases e1
theorem ss_if {sa sb : List Stmt} {ta tb : List S} (hc : ST X c e p) (ha : SB X c n sa ta) (hb : SB X c n sb tb) : SS X c n (.If e sa sb pos) (.ifs p ta tb) := by
  refine psImp (ps_if hc ha hb) fun D σ H ⟨F, ρ, fl, ρ', g, e, k⟩ => ?_
  rw [ex] at e
  obtain ⟨x, ρ1, e1, e⟩ := bind_ok e
  refine ⟨F, ρ, x, ρ1, g, e1, fun F1 H1 s1 => ?_⟩
  have go : ∀ {f : List Sl → Res Fl}, f ρ1 = .ok fl ρ' → tEx X.K f D σ H1 := fun {f} h => ⟨F1, ρ1, fl, ρ', s1.gs, h, fun F2 σ2 H2 s2 => by
    have q := k F2 σ2 H2 (s1.trans s2)
    cases fl with
    | next => exact q
    | brk => exact q
    | cont => exact q
    | ret r => exact fun v rr => q v (rr.later s1)⟩
  cases x with
  | true => rw [if_pos rfl] at e; exact go e
  | false => rw [if_neg Bool.false_ne_true] at e; exact go e
theorem ss_asg {i : Nat} {x : Str} {pos' : Pos} (hN : X.N.Nodup) (hi : X.N[i]? = some x) (hx : Loc X.env.scope x) (he : SX X c e p) (hs : swapsWith e (some (.Name x pos')) pos.line X.env = pure false := by rfl) (hf : X.fn x = true ∨ X.env.scope.names.lookup x = some .local := by first | exact .inl rfl | exact .inr rfl | assumption) :
    SS X c n (.Assign [.Name x pos'] e pos) (.asg i p) := by
  refine psImp (ps_set hN hi hx he.ev hs hf) fun D σ H ⟨F, ρ, fl, ρ', g, e, k⟩ => ?_
  rw [ex] at e
  obtain ⟨r, ρ1, e1, e⟩ := bind_ok e
  obtain ⟨ρ2, ρ3, e2, e⟩ := bind_ok e
  cases e
  have zz := lift_ok e2; clear e2; obtain ⟨e2, e3⟩ := zz
  exact ⟨F, ρ, r, ρ1, g, e1, fun v F1 H1 s1 rr => k F1 _ H1 (s1.put rr e2)⟩
end
end HH
end

section
set_option linter.all false
set_option Elab.async false
set_option maxRecDepth 10000
/-! A comprehension's block. -/
namespace L2
open PySem PySem.Spec PyProof.Rows

/-- the context of a comprehension's block -/
def cxC (X : Cx) (scope : Scope) (N' : List Str) (cl : List (Str × Addr)) (C : Addr) (s₀ : Shared) (H₀ : Hp) (ex : List Addr) : Cx :=
  { X with N := N', s₀ := s₀, H₀ := H₀, env := compEnvC scope cl C X.env, outer := X.stack, stack := X.stack, ex := ex, fn := fun _ => false, pn := [], xe := fun _ _ => False }

theorem closure_go {env : Env} (l : List (Str × NameKind)) : ∀ (cs : List (Str × Addr)), (∀ n, (n, NameKind.free) ∈ l → ∃ c, env.cells.lookup n = some c) → (∀ n c, cs.lookup n = some c → env.cells.lookup n = some c) →
    ∃ cl, (forIn l cs (fun (x : Str × NameKind) (r : List (Str × Addr)) => (if (x.2 == NameKind.free) = true then (do let a ← cellOf env x.1; pure (ForInStep.yield ((x.1, a) :: r))) else pure (ForInStep.yield r) : Sem (ForInStep (List (Str × Addr))))) : Sem (List (Str × Addr))) = pure cl ∧
      (∀ n c, cl.lookup n = some c → env.cells.lookup n = some c) ∧ (∀ n, ((n, NameKind.free) ∈ l ∨ (cs.lookup n).isSome) → (cl.lookup n).isSome) := by
  induction l with
  | nil => intro cs _ h; exact ⟨cs, rfl, h, fun n hn => by rcases hn with hn | hn; cases hn; exact hn⟩
  | cons y l ih =>
    obtain ⟨n, k⟩ := y
    intro cs hl hc
    rw [List.forIn_cons]
    by_cases hk : k = .free
    · subst hk
      obtain ⟨a, ha⟩ := hl n List.mem_cons_self
      obtain ⟨cl, e, h1, h2⟩ := ih ((n, a) :: cs) (fun m hm => hl m (List.mem_cons_of_mem _ hm)) fun m c hm => by
        rw [List.lookup_cons] at hm
        split at hm
        · rename_i q; have q := eq_of_beq q; subst q; cases hm; exact ha
        · exact hc m c hm
      refine ⟨cl, ?_, h1, fun m hm => h2 m ?_⟩
      · rw [← e]
        have : cellOf env n = pure a := by unfold cellOf; rw [ha]
        simp only [beq_self_eq_true, if_true, this]
        rfl
      · rcases hm with hm | hm
        · rcases List.mem_cons.mp hm with hm | hm
          · cases hm; right; simp [List.lookup_cons]
          · exact .inl hm
        · right
          rw [List.lookup_cons]
          split
          · rfl
          · exact hm
    · obtain ⟨cl, e, h1, h2⟩ := ih cs (fun m hm => hl m (List.mem_cons_of_mem _ hm)) hc
      refine ⟨cl, ?_, h1, fun m hm => h2 m ?_⟩
      · rw [← e]
        have : (k == NameKind.free) = false := by simpa using hk
        simp only [this, Bool.false_eq_true, if_false]
        rfl
      · rcases hm with hm | hm
        · rcases List.mem_cons.mp hm with hm | hm
          · cases hm; exact absurd rfl hk
          · exact .inl hm
        · exact .inr hm
theorem closure_ok {env : Env} {scope : Scope} (hl : ∀ n, (n, NameKind.free) ∈ scope.names → ∃ c, env.cells.lookup n = some c) :
    ∃ cl, closureFor scope env = pure cl ∧ (∀ n c, cl.lookup n = some c → env.cells.lookup n = some c) ∧ ∀ n, (n, NameKind.free) ∈ scope.names → (cl.lookup n).isSome := by
  obtain ⟨cl, e, h1, h2⟩ := closure_go (env := env) scope.names [] hl (by simp)
  refine ⟨cl, ?_, h1, fun n hn => h2 n (.inl hn)⟩
  unfold closureFor
  exact (congrArg (fun t => t >>= fun r => pure r) e).trans rfl

theorem relabel_lookup {env : Env} : ∀ (names : List (Str × NameKind)) (x : Str),
    (names.map fun (n, k) => if (k == NameKind.free && env.scope.kind == .function && env.kindOf n == some .cell) then (n, NameKind.cell) else (n, k)).lookup x =
      (names.lookup x).map fun k => if (k == NameKind.free && env.scope.kind == .function && env.kindOf x == some .cell) = true then NameKind.cell else k
  | [], x => rfl
  | (n, k) :: r, x => by
    have ih := relabel_lookup (env := env) r x
    show List.lookup x ((if (k == NameKind.free && env.scope.kind == .function && env.kindOf n == some .cell) = true then (n, NameKind.cell) else (n, k)) :: _) = _
    by_cases hc : (k == NameKind.free && env.scope.kind == .function && env.kindOf n == some .cell) = true
    · rw [if_pos hc, List.lookup_cons, List.lookup_cons]
      cases hx : x == n with
      | true =>
        have := eq_of_beq hx
        subst this
        show some NameKind.cell = some (if _ then _ else _)
        rw [if_pos hc]
      | false => exact ih
    · rw [if_neg hc, List.lookup_cons, List.lookup_cons]
      cases hx : x == n with
      | true =>
        have := eq_of_beq hx
        subst this
        show some k = some (if _ then _ else _)
        rw [if_neg hc]
      | false => exact ih
def sameB (N N' : List Str) (sc : Scope) : Bool := (N.zip N').all fun p => (p.1 == p.2 && sc.names.lookup p.2 == some .free) || (sc.names.lookup p.2 != some .local && sc.names.lookup p.2 != some .cell && sc.names.lookup p.2 != some .free)
structure CompOk (X : Cx) (scope : Scope) (N' : List Str) (n : Nat) : Prop where
  kind : scope.kind = .function
  nocell : ∀ y ∈ scope.names, y.2 ≠ .cell
  names : ∀ y ∈ scope.names, y.2 = .local → scope.names.lookup y.1 = some .local
  cap : ∀ y ∈ scope.names, y.2 = .free → X.env.scope.names.lookup y.1 = some .cell ∨ X.env.scope.names.lookup y.1 = some .free
  len : N'.length = X.N.length + n
  same : sameB X.N N' scope = true
theorem CompOk.get {X : Cx} {scope : Scope} {N' : List Str} {n : Nat} (c : CompOk X scope N' n) {i : Nat} {x : Str} (hi : i < X.N.length) (h : N'[i]? = some x) (hv : Vis (relabel scope X.env) x) : X.N[i]? = some x ∧ scope.names.lookup x = some .free := by
  have hz : (X.N.zip N')[i]? = some (X.N[i], x) := by
    rw [List.getElem?_zip_eq_some]
    exact ⟨by simp [hi], h⟩
  have := (List.all_eq_true.mp c.same) _ (List.mem_of_getElem? hz)
  simp only [Bool.or_eq_true, Bool.and_eq_true] at this
  rcases this with ⟨h1, h2⟩ | ⟨⟨h1, h2⟩, h3⟩
  · have h1 := eq_of_beq h1
    have h2 := eq_of_beq h2
    exact ⟨by simp [hi, h1], h2⟩
  · exfalso
    have h1 : scope.names.lookup x ≠ some .local := by simpa using h1
    have h2 : scope.names.lookup x ≠ some .cell := by simpa using h2
    have h3 : scope.names.lookup x ≠ some .free := by simpa using h3
    have e := relabel_lookup (env := X.env) scope.names x
    have hv : (relabel scope X.env).names.lookup x = some .local ∨ (relabel scope X.env).names.lookup x = some .cell ∨ (relabel scope X.env).names.lookup x = some .free := hv
    rw [show (relabel scope X.env).names.lookup x = _ from e] at hv
    cases q : scope.names.lookup x with
    | none => rw [q] at hv; simp at hv
    | some k =>
      rw [q] at hv h1 h2 h3
      have hk : (k == NameKind.free) = false := by
        cases k <;> first | rfl | exact absurd rfl h3
      simp only [Option.map_some, hk, Bool.false_and, Bool.false_eq_true, if_false, Option.some.injEq] at hv
      rcases hv with rfl | rfl | rfl
      · exact h1 rfl
      · exact h2 rfl
      · exact h3 rfl
end L2
namespace L2
open PySem PySem.Spec PyProof.Rows
section
variable {X : Cx} {pins : List (Addr × Obj)} {σ : L2.St} {H : Hp} {s : Shared} {scope : Scope} {N' : List Str} {n : Nat} {fp : List Addr} {cl : List (Str × Addr)}
theorem inv_comp {o : Obj} {h1 : Heap} {m : Str → Option Value} {t : Nat} (ok : CompOk X scope N' n) (I : Inv X pins σ H s) (hf : ∀ b ∈ fp, FpOk X pins H b ∧ b < s.heap.objs.size) (hcl : ∀ n c, cl.lookup n = some c → X.env.cells.lookup n = some c)
    (hcl2 : ∀ n, (n, NameKind.free) ∈ scope.names → (cl.lookup n).isSome) (hn : h1.Ns s.heap.objs.size m) (hs : Heap.SameBut s.heap.objs.size (s.heap.push o) h1) :
    Inv (cxC X scope N' cl s.heap.objs.size s H fp) [] (σ ++ List.replicate n none) H { s with heap := h1, toks := t } := by
  have old : ∀ b u, s.heap.get? b = some u → h1.get? b = some u := fun b u e => hs.extBut b u (Nat.ne_of_lt (Heap.lt_size e)) (Heap.get?_push_of_some _ e)
  have kindC : ∀ x, scope.names.lookup x = some .free → (relabel scope X.env).names.lookup x = some .cell ∨ (relabel scope X.env).names.lookup x = some .free := fun x h => by
    have e := relabel_lookup (env := X.env) scope.names x
    rw [h] at e
    have e' : (relabel scope X.env).names.lookup x = _ := e
    rw [e']
    simp only [Option.map_some]
    split
    · exact .inl rfl
    · exact .inr rfl
  refine ⟨⟨I.ok.mod, ok.kind, I.ok.glob, I.ok.blt, Nat.le_refl _, fun x y c h1 h2 => I.ok.inj x y c (hcl x c h1) (hcl y c h2), fun x hx => ?_, fun x c h => (by cases h), I.ok.hd, I.ok.frames, .inl rfl, fun b hb => ?_, I.bs, Nat.le_trans I.ok.bsz I.sz, fun b u e hb => ?_, fun b hb hfs => ?_, I.stack, I.stkFree⟩,
    rfl, I.bare, Un.kept old, ⟨m, hn, fun i x v e1 e2 hv => ?_⟩, fun x c e => ?_, I.hok.fresh (Nat.le_refl _), fun x c e => I.freeC x c (hcl x c e), fun p hp => (by cases hp), I.hok.kept old, ?_⟩
  · -- a captured name has its cell
    have hx : (relabel scope X.env).names.lookup x = some .cell ∨ (relabel scope X.env).names.lookup x = some .free := hx
    have e := relabel_lookup (env := X.env) scope.names x
    have e' : (relabel scope X.env).names.lookup x = _ := e
    rw [e'] at hx
    have hfree : scope.names.lookup x = some .free := by
      cases q : scope.names.lookup x with
      | none => rw [q] at hx; simp at hx
      | some k =>
        rw [q] at hx
        by_cases hk : k = .free
        · rw [hk]
        · have hk' : (k == NameKind.free) = false := by simpa using hk
          simp only [Option.map_some, hk', Bool.false_and, Bool.false_eq_true, if_false, Option.some.injEq] at hx
          rcases hx with rfl | rfl
          · exact absurd rfl (ok.nocell (x, .cell) (PySem.mem_of_lookup q))
          · exact absurd rfl hk
    exact Option.isSome_iff_exists.mp (hcl2 x (PySem.mem_of_lookup hfree))
  · obtain ⟨f, lt⟩ := hf b hb
    exact ⟨Nat.ne_of_lt lt, fun x c e => f.2.2.2.2.1 x c (hcl x c e)⟩
  · obtain ⟨f, lt⟩ := hf b hb
    rcases f.2.2.2.1 with h | h
    · exact I.ok.noex b u e h
    · have this : b < X.base.objs.size := Heap.lt_size e
      exact absurd (Nat.lt_of_lt_of_le this (Nat.le_trans I.ok.bsz h)) (Nat.lt_irrefl _)
  · obtain ⟨f, lt⟩ := hf b hb
    rcases List.mem_cons.mp (I.stkSub b hfs) with h | h
    · exact f.2.1 h
    · exact f.2.2.1 h
  · -- the names
    have hi : i < σ.length := by
      by_cases hi : i < σ.length
      · exact hi
      · rw [List.getElem?_append_right (by omega), List.getElem?_replicate] at e2
        split at e2 <;> cases e2
    rw [List.getElem?_append_left hi] at e2
    obtain ⟨h1', h2'⟩ := ok.get (by rw [← I.len]; exact hi) e1 hv
    have hk := ok.cap (x, .free) (PySem.mem_of_lookup h2') rfl
    obtain ⟨m0, hn0, hl⟩ := I.loc
    obtain ⟨u, r, l⟩ := hl i x v h1' e2 (.inr hk)
    refine ⟨u, r, .inr ⟨kindC x h2', ?_⟩⟩
    rcases l with ⟨hk', _⟩ | ⟨_, c, hc, hcell⟩
    · have hk' : X.env.scope.names.lookup x = some .local := hk'
      rcases hk with hk | hk <;> (rw [hk'] at hk; cases hk)
    · obtain ⟨c', hc'⟩ := Option.isSome_iff_exists.mp (hcl2 x (PySem.mem_of_lookup h2'))
      have := hcl x c' hc'
      rw [hc] at this; cases this
      refine ⟨c, hc', ?_⟩
      obtain ⟨oc, e3, e4⟩ := hcell
      exact ⟨oc, old c oc e3, e4⟩
  · obtain ⟨v, oc, e3, e4⟩ := I.cell x c (hcl x c e)
    exact ⟨v, oc, old c oc e3, e4⟩
  · show (σ ++ List.replicate n none).length = N'.length
    rw [List.length_append, List.length_replicate, I.len, ok.len]

theorem compLoop_any {prog : Program} {w : World} {A : Around} {R : Result → Shared → Prop} {elt target iter : Expr} {ifs : List Expr} {scope : Scope} {pos : Pos} {it acc : Value} {env : Env} (I : Nat → Shared → Prop)
    (turn : ∀ n s, I n s → wpAny (model prog w) A (pyNext it) (fun r s₁ => match r with
      | none => R (.ok .next) s₁
      | some v => wpAny (model prog w) A (letOwnedTupleGo target it v) (fun _ s₁ => wpAny (model prog w) A (assign target env v) (fun _ s₂ =>
          wpAny (model prog w) A (forIn ifs true fun c r => if r = true then do let ok ← isTrue c env (eval c env); pure (ForInStep.yield ok) else pure (ForInStep.yield r)) (fun ok s₃ =>
            if ok = true then wpAny (model prog w) A (eval elt env) (fun x s₄ =>
              wpAny (model prog w) A (call (.builtin "list.append") [acc, x]) (fun _ s₅ => ∃ m, m < n ∧ I m s₅) (notedBy (model prog w) A env fun e s' => R (.error e) s') s₄) (notedBy (model prog w) A env fun e s' => R (.error e) s') s₃
            else ∃ m, m < n ∧ I m s₃) (notedBy (model prog w) A env fun e s' => R (.error e) s') s₂) (notedBy (model prog w) A env fun e s' => R (.error e) s') s₁) (notedBy (model prog w) A env fun e s' => R (.error e) s') s₁) (notedBy (model prog w) A env fun e s' => R (.error e) s') s)
    (n : Nat) {s : Shared} (h : I n s) :
    codeAny (model prog w) A (.compLoop (.ListComp elt [⟨target, iter, ifs, 0⟩] scope pos) 0 it acc env) R s := by
  refine codeAny_loop rfl I (fun n s hI => ?_) n h
  show wpAny _ A ((compTurn (.ListComp elt [⟨target, iter, ifs, 0⟩] scope pos) 0 it acc env).onRaise (fun x => do noteFrame x env; theTreesLotGoes x)) _ _ s
  refine wpAny_noted ?_
  rw [compTurn_list]
  refine wpAny_bind (wpAny_standAt (wpAny_bind (wpAny_mono (turn n s hI) (fun r s₁ h₁ => ?_) fun _ _ h' => h')))
  cases r with
  | none => exact wpAny_pure h₁
  | some v =>
    refine wpAny_bind (wpAny_mono h₁ (fun _ s₁ h₁ => ?_) fun _ _ h' => h')
    refine wpAny_bind (wpAny_mono h₁ (fun _ s₂ h₂ => wpAny_bind (wpAny_mono h₂ (fun ok s₃ h₃ => ?_) fun _ _ h' => h')) fun _ _ h' => h')
    cases ok with
    | false => exact wpAny_pure ⟨rfl, h₃⟩
    | true =>
      exact wpAny_bind (wpAny_bind (wpAny_mono h₃ (fun x s₄ h₄ => wpAny_bind (wpAny_mono h₄ (fun _ s₅ h₅ => wpAny_pure (wpAny_pure ⟨rfl, h₅⟩)) fun _ _ h' => h')) fun _ _ h' => h'))

/-- the tests of a comprehension: none, or one -/
def PTs (X : Cx) (ifs : List Expr) (t : TT) : Prop :=
  ∀ (pins : List (Addr × Obj)) (s : Shared) (σ : L2.St) (H : Hp) (Q : Bool → Hp → Prop), Inv X pins σ H s → t σ H Q →
    wpAny (model X.prog X.w) X.A (forIn ifs true fun c r => if r = true then do let ok ← isTrue c X.env (eval c X.env); pure (ForInStep.yield ok) else pure (ForInStep.yield r)) (TP X pins σ Q) X.xe s
theorem pts_nil {X : Cx} : PTs X [] (fun _ H Q => Q true H) := fun pins s σ H Q I h => wpAny_tests_nil ⟨H, I, h⟩
/-- the turns: W by the turn, a measure, what has come, the names, the heap -/
def CompW (J : It) (g : TG) (tt : TT) (te : TE) (D : Addr) (Q : Hp → Prop) (W : Nat → Nat → List V → L2.St → Hp → Prop) : Prop :=
  ∀ i m ys σ H, W i m ys σ H → H D = some (.lst ys) ∧ ((J.stop i H ∧ Q H) ∨ (J.go i H ∧ ∀ x H2, J.yld i H x H2 → g x σ H2 fun σ3 H3 => tt σ3 H3 fun b H4 => if b = true then
    te σ3 H4 fun y H5 => H5 D = some (.lst ys) ∧ ys.length < sizeLine ∧ ∃ m', m' < m ∧ W (i + 1) m' (ys ++ [y]) σ3 (upd H5 D (.lst (ys ++ [y]))) else ∃ m', m' < m ∧ W (i + 1) m' ys σ3 H4))
theorem comp_core {E : Value → Shared → Prop} {elt target iter : Expr} {ifs : List Expr} {pos : Pos} {it : Addr} {tn : Nat → Heap → Prop} {J : It} {g : TG} {tt : TT} {te : TE} {Q : Addr → Hp → Prop} {RR : Value → Addr → Result → Shared → Prop}
    (hc : X.calm = true) (ok : CompOk X scope N' n) (I : Inv X pins σ H s) (hcl : ∀ n c, cl.lookup n = some c → X.env.cells.lookup n = some c) (hcl2 : ∀ n, (n, NameKind.free) ∈ scope.names → (cl.lookup n).isSome)
    (T : Turn X.prog X.w X.K target J fp it tn) (h0 : tn 0 s.heap) (hf : ∀ b ∈ fp, FpOk X pins H b)
    (hg : ∀ cl C s₀ H₀ ex, PG (cxC X scope N' cl C s₀ H₀ ex) target g) (ht : ∀ cl C s₀ H₀ ex, PTs (cxC X scope N' cl C s₀ H₀ ex) ifs tt) (he : ∀ cl C s₀ H₀ ex, PE (cxC X scope N' cl C s₀ H₀ ex) elt te)
    (hw : ∀ D, H D = none → ∃ W, (∃ m, W 0 m [] (σ ++ List.replicate n none) (upd H D (.lst []))) ∧ CompW J g tt te D (Q D) W)
    (hRR : ∀ D C s' H', Q D H' → (∃ m, s'.heap.Ns C m) → FpOk X pins H' C → Inv X pins σ H' s' → RR (.ref D) C (.ok .next) s') :
    wpAny (model X.prog X.w) X.A (newList []) (fun acc s₃ => wpAny (model X.prog X.w) X.A (newFunctionEnv scope X.env.globals cl [] X.env.qual none .none (some X.env)) (fun cenv s₄ =>
      codeAny (model X.prog X.w) X.A (.compStart (.ListComp elt [⟨target, iter, ifs, 0⟩] scope pos) 0 (.ref it) acc { cenv with scope := relabel scope X.env }) (RR acc cenv.locals) s₄) E s₃) E s := by
  refine wpAny_newObj_type (wpAny_newFunctionEnv ok.nocell (by intro y hy; simp at hy) (fun h₁ hns hsb => ?_) ok.kind)
  dsimp only at hns hsb ⊢
  -- the new list, tracked
  have I3 : Inv X pins σ (upd H s.heap.objs.size (.lst [])) { s with heap := s.heap.push { cls := .type "list", data := .seq ([] : List Value).toArray } } := I.lnew (t' := s.toks) .nil (Nat.zero_le _)
  generalize hs3 : ({ s with heap := s.heap.push { cls := .type "list", data := .seq ([] : List Value).toArray } } : Shared) = s3 at I3
  have hsz : s3.heap.objs.size = s.heap.objs.size + 1 := by rw [← hs3]; exact Heap.size_push _ _
  have hheap : s3.heap = s.heap.push { cls := .type "list", data := .seq ([] : List Value).toArray } := by rw [← hs3]
  obtain ⟨W, ⟨m0, w0⟩, turn⟩ := hw s.heap.objs.size I.fresh
  have tnK : ∀ {h' : Heap}, (∀ b o, s.heap.get? b = some o → h'.get? b = some o) → tn 0 h' := fun k => T.keep _ _ _ h0 fun b hb o e => k b o e
  have fp3 : ∀ b ∈ fp, FpOk X pins (upd H s.heap.objs.size (.lst [])) b ∧ b < s3.heap.objs.size := fun b hb => by
    obtain ⟨o, e, _⟩ := T.obj 0 _ h0 b hb
    have lt := Heap.lt_size e
    obtain ⟨f1, f2⟩ := hf b hb
    exact ⟨⟨by rw [upd_ne (Nat.ne_of_lt lt)]; exact f1, f2⟩, by rw [hsz]; exact Nat.lt_succ_of_lt lt⟩
  rw [← hheap] at hns hsb ⊢
  have I4 := inv_comp (t := s3.toks + ([] : List (Str × Value)).length) ok I3 fp3 hcl hcl2 hns hsb
  have old4 : ∀ b o, s.heap.get? b = some o → h₁.get? b = some o := fun b o e => hsb.extBut b o (Nat.ne_of_lt (by rw [hsz]; exact Nat.lt_succ_of_lt (Heap.lt_size e))) (Heap.get?_push_of_some _ (by rw [hheap]; exact Heap.get?_push_of_some _ e))
  generalize hX : cxC X scope N' cl s3.heap.objs.size s3 (upd H s.heap.objs.size (.lst [])) fp = X' at I4
  have hA : X'.A = X.A := by rw [← hX]; rfl
  have hpr : X'.prog = X.prog := by rw [← hX]; rfl
  have hwr : X'.w = X.w := by rw [← hX]; rfl
  have hKK : X'.K = X.K := by rw [← hX]; rfl
  have hcalm : X'.calm = true := by rw [← hX]; exact hc
  have hxe : X'.xe = fun _ _ => False := by rw [← hX]; rfl
  have henv : X'.env = compEnvC scope cl s3.heap.objs.size X.env := by rw [← hX]; rfl
  have hg' : PG X' target g := by rw [← hX]; exact hg _ _ _ _ _
  have ht' : PTs X' ifs tt := by rw [← hX]; exact ht _ _ _ _ _
  have he' : PE X' elt te := by rw [← hX]; exact he _ _ _ _ _
  have ff : ∀ {H' : Hp} {b : Addr}, b ∈ fp → H' b = none → FpOk X' [] H' b := fun {H' b} hb hn => by
    obtain ⟨f, lt⟩ := fp3 b hb
    rw [← hX]
    refine ⟨hn, Nat.ne_of_lt lt, fun hfs => ?_, .inl hb, fun x c e => f.2.2.2.2.1 x c (hcl x c e), fun p hp => by cases hp⟩
    rcases List.mem_cons.mp (I3.stkSub b hfs) with h | h
    · exact f.2.1 h
    · exact f.2.2.1 h
  -- behind the block
  have fin : ∀ {σ' : L2.St} {H' : Hp} {s' : Shared}, Inv X' [] σ' H' s' → Q s.heap.objs.size H' → RR (.ref s.heap.objs.size) s3.heap.objs.size (.ok .next) s' := fun {σ' H' s'} J' q => by
    rw [← hX] at J'
    have hC : H' s3.heap.objs.size = none := J'.free
    obtain ⟨hh, gg, dd, tt', os'⟩ := s'
    have eos : os' = s3.os := J'.os
    subst eos
    refine hRR _ _ _ H' q (let ⟨m, hm, _⟩ := J'.loc; ⟨m, hm⟩) ?_ (I3.call (h' := hh) (g' := gg) (d' := dd) (t' := tt') (ch := fp) J'.base J'.hok J'.bare fun b hb => ?_)
    · exact I3.fpOk (Nat.le_refl _) hC
    · obtain ⟨f, lt⟩ := fp3 b hb
      exact ⟨f.2.2.2.1, f.2.1, f.2.2.2.2.1, f.2.2.2.2.2⟩
  have main : codeAny (model X.prog X.w) X.A (.compLoop (.ListComp elt [⟨target, iter, ifs, 0⟩] scope pos) 0 (.ref it) (.ref s.heap.objs.size) X'.env) (RR (.ref s.heap.objs.size) s3.heap.objs.size) { s3 with heap := h₁, toks := s3.toks + ([] : List (Str × Value)).length } := by
    refine compLoop_any (fun k s' => ∃ i ys σ' H', Inv X' [] σ' H' s' ∧ tn i s'.heap ∧ (∀ b ∈ fp, H' b = none) ∧ W i k ys σ' H') (fun k s5 hI => ?_) m0 ⟨0, [], _, _, I4, tnK old4, fun b hb => (fp3 b hb).1.1, w0⟩
    obtain ⟨i, ys, σ5, H5, I5, t5, f5, w5⟩ := hI
    obtain ⟨hD, hturn⟩ := turn i k ys σ5 H5 w5
    have noE : ∀ {Z : Value → Shared → Prop}, ∀ (e : Value) (s' : Shared), X'.xe e s' → Z e s' := fun e s' z => by rw [hxe] at z; exact False.elim z
    rcases hturn with ⟨stop, q⟩ | ⟨go, step⟩
    · have z := T.done X' hpr hwr hKK hcalm i [] s5 σ5 H5 (fun _ _ => False) I5 (fun b hb => ff hb (f5 b hb)) t5 stop
      rw [hA] at z
      refine wpAny_mono z (fun r s6 ⟨hr, I6⟩ => ?_) fun _ _ z => False.elim z
      subst hr
      exact fin I6 q
    · have z := T.item X' hpr hwr hKK hcalm i [] s5 σ5 H5 (fun _ _ => False) I5 (fun b hb => ff hb (f5 b hb)) t5 go
      rw [hA] at z
      refine wpAny_mono z (fun r s6 ⟨u, hr, z6⟩ => ?_) fun _ _ z => False.elim z
      subst hr
      refine wpAny_mono z6 (fun _ s7 ⟨x, H7, I7, r7, y7, t7, f7⟩ => ?_) fun _ _ z => False.elim z
      have I7' := I7.pinned (fun b hb => ff hb (f7 b hb)) (T.obj _ _ t7)
      -- what the pins keep
      have back : ∀ {σ' : L2.St} {H' : Hp} {s' : Shared}, Inv X' ([] ++ pinsAt fp s7.heap) σ' H' s' → Inv X' [] σ' H' s' ∧ tn (i + 1) s'.heap ∧ ∀ b ∈ fp, H' b = none := fun {σ' H' s'} J' => by
        refine ⟨J'.unpinned, T.keep _ _ _ t7 fun b hb o e => (J'.pin (b, o) (List.mem_append_right _ (List.mem_append_right _ (mem_pinsAt hb e)))).1, fun b hb => ?_⟩
        obtain ⟨o, e, _⟩ := T.obj _ _ t7 b hb
        exact (J'.pin (b, o) (List.mem_append_right _ (List.mem_append_right _ (mem_pinsAt hb e)))).2.1
      have z7 := hg' _ s7 σ5 H7 x u _ I7' r7 (step x H7 y7)
      rw [hA, hpr, hwr] at z7
      refine wpAny_mono z7 (fun _ s8 ⟨σ8, H8, I8, q8⟩ => ?_) noE
      have z8 := ht' _ s8 σ8 H8 _ I8 q8
      rw [hA, hpr, hwr] at z8
      refine wpAny_mono z8 (fun b s9 ⟨H9, I9, q9⟩ => ?_) noE
      cases b with
      | false =>
        rw [if_neg Bool.false_ne_true] at q9 ⊢
        obtain ⟨m', hm, w'⟩ := q9
        obtain ⟨b1, b2, b3⟩ := back I9
        exact ⟨m', hm, i + 1, ys, σ8, H9, b1, b2, b3, w'⟩
      | true =>
        rw [if_pos rfl] at q9 ⊢
        have z9 := he' _ s9 σ8 H9 _ I9 q9
        rw [hA, hpr, hwr] at z9
        refine wpAny_mono z9 (fun y s10 ⟨yv, H10, I10, r10, hD10, hlen, m', hm, w'⟩ => ?_) noE
        have z10 := mt_append _ s10 σ8 H10 (.ref s.heap.objs.size) [yv] (.ref s.heap.objs.size) [y] (fun v H11 => H11 = upd H10 s.heap.objs.size (.lst (ys ++ [yv]))) I10 rfl (.cons r10 .nil) ⟨_, ys, yv, rfl, rfl, hD10, hlen, rfl⟩
        rw [hA, hpr, hwr] at z10
        refine wpAny_mono z10 (fun _ s11 ⟨_, H11, I11, _, e11⟩ => ?_) noE
        subst e11
        obtain ⟨b1, b2, b3⟩ := back I11
        exact ⟨m', hm, i + 1, ys ++ [yv], σ8, _, b1, b2, b3, w'⟩
  have e3 : ({ s3 with heap := h₁, toks := s3.toks + ([] : List (Str × Value)).length } : Shared) = { s with heap := h₁, toks := s.toks + ([] : List (Str × Value)).length } := by rw [← hs3]
  rw [henv, e3] at main
  exact codeAny_compStart_list main (T.self _ 0 _ _ _ (tnK old4) main)
end
end L2
end

section
set_option linter.all false
set_option Elab.async false
set_option maxRecDepth 10000
namespace L2
open PySem PySem.Spec PyProof.Rows
section
variable {X : Cx} {elt target iter : Expr} {ifs : List Expr} {scope : Scope} {pos : Pos} {N' : List Str} {n : Nat} {wi : TI} {g : TG} {tt : TT} {te : TE}
def tComp (n : Nat) (wi : TI) (g : TG) (tt : TT) (te : TE) : TE := fun σ H Q => wi σ H fun J H1 => ∀ D, H1 D = none → ∃ W, (∃ m, W 0 m [] (σ ++ List.replicate n none) (upd H1 D (.lst []))) ∧ CompW J g tt te D (fun H' => Q (.ref D) H') W
theorem comp_closure {pins : List (Addr × Obj)} {σ : L2.St} {H : Hp} {s : Shared} (I : Inv X pins σ H s) (ok : CompOk X scope N' n) :
    ∃ cl, closureFor scope X.env = pure cl ∧ (∀ n c, cl.lookup n = some c → X.env.cells.lookup n = some c) ∧ ∀ n, (n, NameKind.free) ∈ scope.names → (cl.lookup n).isSome :=
  closure_ok fun m hm => I.ok.has m (ok.cap (m, .free) hm rfl)
theorem pe_comp (hc : X.calm = true) (ok : CompOk X scope N' n) (hi : PI X target iter wi)
    (hg : ∀ cl C s₀ H₀ ex, PG (cxC X scope N' cl C s₀ H₀ ex) target g) (ht : ∀ cl C s₀ H₀ ex, PTs (cxC X scope N' cl C s₀ H₀ ex) ifs tt) (he : ∀ cl C s₀ H₀ ex, PE (cxC X scope N' cl C s₀ H₀ ex) elt te)
    (hs : ∀ x, foldedSetIterable iter X.env x = pure x := by intro _; rfl) : PE X (.ListComp elt [⟨target, iter, ifs, 0⟩] scope pos) (tComp n wi g tt te) := by
  intro pins s σ H Q I h
  obtain ⟨cl, hclos, hcl, hcl2⟩ := comp_closure I ok
  rw [eval_ListComp]
  refine wpAny_comprehension_free (use := none) rfl hs hclos ok.kind ok.names (thn (hi pins s σ H _ I h) fun v s1 h1 => thn h1 fun itv s2 h2 => ?_)
  obtain ⟨it, fp, tn, J, H2, rfl, I2, T, t0, f2, hw⟩ := h2
  refine comp_core (Q := fun D H' => Q (.ref D) H') (RR := fun acc C => compPost (model X.prog X.w) X.A X.xe none (EP X pins σ Q) acc C) hc ok I2 hcl hcl2 T t0 f2 hg ht he hw fun D C s' H' q hm fpC I' => ?_
  obtain ⟨m, hm⟩ := hm
  refine ⟨m, hm, fun h' hs' => ⟨.ref D, H', ?_, rfl, q⟩⟩
  exact I'.turned (t' := s'.toks) (fun b o hb e => hs'.extBut b o hb e) fpC.1 fpC.2.1 fpC.2.2.2.1 fpC.2.2.2.2.1 fpC.2.2.2.2.2
theorem ps_setC {i : Nat} {x : Str} {pos' spos : Pos} (hc : X.calm = true) (hN : X.N.Nodup) (hx0 : X.N[i]? = some x) (hx : Loc X.env.scope x) (ok : CompOk X scope N' n) (hi : PI X target iter wi)
    (hg : ∀ cl C s₀ H₀ ex, PG (cxC X scope N' cl C s₀ H₀ ex) target g) (ht : ∀ cl C s₀ H₀ ex, PTs (cxC X scope N' cl C s₀ H₀ ex) ifs tt) (he : ∀ cl C s₀ H₀ ex, PE (cxC X scope N' cl C s₀ H₀ ex) elt te)
    (hsw : swapsWith (.ListComp elt [⟨target, iter, ifs, 0⟩] scope pos) (some (.Name x pos')) spos.line X.env = pure true)
    (hs : ∀ x, foldedSetIterable iter X.env x = pure x := by intro _; rfl) (hf : X.fn x = true ∨ X.env.scope.names.lookup x = some .local := by first | exact .inl rfl | exact .inr rfl | assumption) :
    PS X (.Assign [.Name x pos'] (.ListComp elt [⟨target, iter, ifs, 0⟩] scope pos) spos) (tAsg (tComp n wi g tt te) (gName i)) := by
  intro pins s σ H D I h
  obtain ⟨cl, hclos, hcl, hcl2⟩ := comp_closure I ok
  rw [exec_Assign_Name_used _ _ _ _ hsw]
  refine wpAny_bind (wpAny_standAt (wpAny_bind ?_))
  show wpAny _ X.A (do let _ ← comprehension (.ListComp elt [⟨target, iter, ifs, 0⟩] scope pos) scope X.env _ (newList []) false (eval iter X.env) (some (assign (.Name x pos') X.env))) _ _ s
  refine wpAny_bind (wpAny_mono (wpAny_comprehension_free (use := some (assign (.Name x pos') X.env)) (Q := fun _ s' => SP X pins D .next s') rfl hs hclos ok.kind ok.names
    (thn (hi pins s σ H _ I h) fun v s1 h1 => thn h1 fun itv s2 h2 => ?_)) (fun _ s' hq => wpAny_pure (wpAny_pure hq)) fun _ _ e => e)
  obtain ⟨it, fp, tn, J, H2, rfl, I2, T, t0, f2, hw⟩ := h2
  refine comp_core (Q := fun Da H' => D.nx (σ.set i (some (.ref Da))) H') (RR := fun acc C => compPost (model X.prog X.w) X.A X.xe (some (assign (.Name x pos') X.env)) (fun _ s' => SP X pins D .next s') acc C) hc ok I2 hcl hcl2 T t0 f2 hg ht he hw fun Da C s' H' q hm fpC I' => ?_
  obtain ⟨m, hm⟩ := hm
  show wpAny _ X.A (assign (.Name x pos') X.env (.ref Da)) _ _ _
  refine wpAny_assign_Name (store_ok2 I' hN hx0 hx (show RelV (.ref Da) (.ref Da) from rfl) (fun s'' I'' ⟨a, sb, ha⟩ => ?_) hf)
  have hCa : C ≠ a := by
    rcases ha with rfl | ha
    · exact fpC.2.1
    · exact fun z => fpC.2.2.2.2.1 x a ha z.symm
  refine ⟨m, hm.sameBut sb hCa, fun h' hs' => ⟨_, H', ?_, q⟩⟩
  exact I''.turned (t' := s''.toks) (fun b o hb e => hs'.extBut b o hb e) fpC.1 fpC.2.1 fpC.2.2.2.1 fpC.2.2.2.2.1 fpC.2.2.2.2.2
/-- a list or a tuple is walked -/
def iSeq (K : PySem.W.Frag) (tl : TE) : TI := fun σ H R => tl σ H fun x H1 => ∃ a, x = .ref a ∧ (((∃ xs, SqL K H1 a xs) ∧ R (Itl K a) H1) ∨ ((∃ xs, SqT K H1 a xs) ∧ R (Itt K a) H1))
theorem pi_seq {tg l : Expr} {tl : TE} (hl : PE X l tl) : PI X tg l (iSeq X.K tl) := by
  intro pins s σ H R I h
  refine thn (hl pins s σ H _ I h) fun v s1 ⟨x, H1, I1, r1, q1⟩ => ?_
  obtain ⟨a, e, q1⟩ := q1
  subst e
  cases r1
  rcases q1 with ⟨⟨xs, hq⟩, q⟩ | ⟨⟨xs, hq⟩, q⟩
  · obtain ⟨its, rv, p, hz⟩ := I1.list hq
    refine wpAny_pyIter_list p.isList ?_
    refine ⟨s1.heap.objs.size, [s1.heap.objs.size], _, _, H1, rfl, I1.kept (t' := s1.toks) fun b o e => Heap.get?_push_of_some _ e, turn_list a _, ⟨_, Heap.get?_push_size _ rfl, rfl, rfl⟩, fun b hb => ?_, q⟩
    have e : b = s1.heap.objs.size := by simpa using hb
    subst e
    exact I1.fpOk (Nat.le_refl _) (I1.hok.fresh (Nat.le_refl _))
  · obtain ⟨its, rv, p, hz⟩ := I1.tuple hq
    refine wpAny_pyIter_tuple (show s1.heap.IsTuple a its.toArray from p) ?_
    refine ⟨s1.heap.objs.size, [s1.heap.objs.size], _, _, H1, rfl, I1.kept (t' := s1.toks) fun b o e => Heap.get?_push_of_some _ e, turn_tuple a _, ⟨_, Heap.get?_push_size _ rfl, rfl, rfl⟩, fun b hb => ?_, q⟩
    have e : b = s1.heap.objs.size := by simpa using hb
    subst e
    exact I1.fpOk (Nat.le_refl _) (I1.hok.fresh (Nat.le_refl _))
end
end L2
end

section
set_option linter.all false
set_option Elab.async false
set_option maxRecDepth 10000
/-! Loops and comprehensions by the evaluator's word. -/
namespace HH
open PySem L2 PySem.Spec PyProof.Rows

structure Walk (K : PySem.W.Frag) (F : Hp) (ρ : List Sl) (σ : L2.St) (H : Hp) (ul : List Sl → List Sl) (J : It) (ds : List D) (F1 : Hp) (ρ1 : List Sl) (H1 : Hp) : Prop where
  gs : GS K F1 ρ1 σ H1
  src : ∀ (n k : Nat) (F' : Hp) (ρ' : List Sl) (σ' : L2.St) (H' : Hp), Stp K F1 (ρ1 ++ List.replicate n .unb) (σ ++ List.replicate n none) H1 F' ρ' σ' H' →
    (∀ d, ds[k]? = some d → J.go k H' ∧ ∀ x H'', J.yld k H' x H'' → ∃ F'', Ext F' H' F'' H'' ∧ Rep K F'' x d) ∧ (ds.length ≤ k → J.stop k H')
  fin : ∀ F2 ρ2 σ2 H2, Stp K F1 ρ1 σ H1 F2 ρ2 σ2 H2 → Stp K F ρ σ H F2 (ul ρ2) σ2 H2 ∧ ∀ v r, RepR K F2 ρ2 σ2 H2 ρ1 σ H1 v r → RepR K F2 (ul ρ2) σ2 H2 ρ σ H v r
def tIt (K : PySem.W.Frag) (iv : Option Nat) (f : Ev) : TI := fun σ H R => ∃ F ρ ds ρ1, GS K F ρ σ H ∧ srcOf iv f ρ = .ok ds ρ1 ∧ ∀ J F1 H1, Walk K F ρ σ H (unlend ρ iv) J ds F1 ρ1 H1 → R J H1

section
variable {K : PySem.W.Frag} {F F1 H H1 : Hp} {ρ ρ1 : List Sl} {σ : L2.St} {ds : List D} {a : Addr}
theorem itl_src {xs : List V} {F' H' : Hp} (hq : SqL K H' a xs) (r : Reps K F' xs ds) (s : Same F' H') (k : Nat) (inj : ∀ ys, SqL K H' a ys → ys = xs) :
    (∀ d, ds[k]? = some d → (Itl K a).go k H' ∧ ∀ x H'', (Itl K a).yld k H' x H'' → ∃ F'', Ext F' H' F'' H'' ∧ Rep K F'' x d) ∧ (ds.length ≤ k → (Itl K a).stop k H') := by
  refine ⟨fun d hd => ?_, fun h => ⟨xs, hq, by rw [r.length]; exact h⟩⟩
  obtain ⟨w, h1, h2⟩ := r.get hd
  refine ⟨⟨xs, w, hq, h1⟩, fun x H'' ⟨e, y⟩ => ?_⟩
  subst e
  have := y xs hq
  rw [h1] at this; cases this
  exact ⟨F', .refl s, h2⟩
theorem itt_src {xs : List V} {F' H' : Hp} (hq : SqT K H' a xs) (r : Reps K F' xs ds) (s : Same F' H') (k : Nat) :
    (∀ d, ds[k]? = some d → (Itt K a).go k H' ∧ ∀ x H'', (Itt K a).yld k H' x H'' → ∃ F'', Ext F' H' F'' H'' ∧ Rep K F'' x d) ∧ (ds.length ≤ k → (Itt K a).stop k H') := by
  refine ⟨fun d hd => ?_, fun h => ⟨xs, hq, by rw [r.length]; exact h⟩⟩
  obtain ⟨w, h1, h2⟩ := r.get hd
  refine ⟨⟨xs, w, hq, h1⟩, fun x H'' ⟨e, y⟩ => ?_⟩
  subst e
  have := y xs hq
  rw [h1] at this; cases this
  exact ⟨F', .refl s, h2⟩
theorem itl_src' {xs : List V} {F' H' : Hp} (hq : SqL K H' a xs) (r : Reps K F' xs ds) (s : Same F' H') (k : Nat) :
    (∀ d, ds[k]? = some d → (Itl K a).go k H' ∧ ∀ x H'', (Itl K a).yld k H' x H'' → ∃ F'', Ext F' H' F'' H'' ∧ Rep K F'' x d) ∧ (ds.length ≤ k → (Itl K a).stop k H') := by
  refine ⟨fun d hd => ?_, fun h => ⟨xs, hq, by rw [r.length]; exact h⟩⟩
  obtain ⟨w, h1, h2⟩ := r.get hd
  refine ⟨⟨xs, w, hq, h1⟩, fun x H'' ⟨e, y⟩ => ?_⟩
  subst e
  have := y xs hq
  rw [h1] at this; cases this
  exact ⟨F', .refl s, h2⟩
/-- data that is walked -/
theorem walk_dat {ul : List Sl → List Sl} {v : V} {d : D} (s : Stp K F ρ σ H F1 ρ1 σ H1) (r : Rep K F1 v d) (hi : items d = some ds)
    (fin : ∀ F2 ρ2 σ2 H2, Stp K F1 ρ1 σ H1 F2 ρ2 σ2 H2 → Stp K F ρ σ H F2 (ul ρ2) σ2 H2 ∧ ∀ v r, RepR K F2 ρ2 σ2 H2 ρ1 σ H1 v r → RepR K F2 (ul ρ2) σ2 H2 ρ σ H v r) :
    ∃ a, v = .ref a ∧ (((∃ xs, SqL K H1 a xs) ∧ Walk K F ρ σ H ul (Itl K a) ds F1 ρ1 H1) ∨ ((∃ xs, SqT K H1 a xs) ∧ Walk K F ρ σ H ul (Itt K a) ds F1 ρ1 H1)) := by
  cases d with
  | tup es =>
    cases hi
    rw [Rep] at r
    obtain ⟨a, xs, rfl, h1, h2⟩ := r
    exact ⟨a, rfl, .inr ⟨⟨xs, Same.seqT s.gs.sub h1⟩, s.gs, fun n k F' ρ' σ' H' s' => itt_src (Same.seqT s'.gs.sub (Same.seqT s'.fsub h1)) (h2.mono s'.fsub) s'.gs.sub k, fin⟩⟩
  | lst es =>
    cases hi
    rw [Rep] at r
    obtain ⟨a, xs, rfl, h1, h2⟩ := r
    exact ⟨a, rfl, .inl ⟨⟨xs, s.gs.sub.seq h1⟩, s.gs, fun n k F' ρ' σ' H' s' => itl_src' (s'.gs.sub.seq (s'.fsub.seq h1)) (h2.mono s'.fsub) s'.gs.sub k, fin⟩⟩
  | _ => cases hi
/-- a name's own list that is walked -/
theorem walk_lent {i : Nat} {ul : List Sl → List Sl} (g : GS K F ρ1 σ H) (e : ρ1[i]? = some (.lent ds))
    (fin : ∀ F2 ρ2 σ2 H2, Stp K F ρ1 σ H F2 ρ2 σ2 H2 → Stp K F ρ σ H F2 (ul ρ2) σ2 H2 ∧ ∀ v r, RepR K F2 ρ2 σ2 H2 ρ1 σ H v r → RepR K F2 (ul ρ2) σ2 H2 ρ σ H v r) :
    ∃ a, σ[i]? = some (some (.ref a)) ∧ (∃ xs, SqL K H a xs) ∧ Walk K F ρ σ H ul (Itl K a) ds F ρ1 H := by
  obtain ⟨a, xs, h1, h2, h3, h4⟩ := g.own i _ ds e rfl
  have hi : i < ρ1.length := (List.getElem?_eq_some_iff.mp e).1
  refine ⟨a, h1, ⟨xs, SqL.of h2⟩, g, fun n k F' ρ' σ' H' s' => ?_, fin⟩
  obtain ⟨z1, t, z2, z3⟩ := s'.lk i _ (by rw [List.getElem?_append_left hi]; exact e) rfl
  cases (show t = .lent ds from z3)
  rw [List.getElem?_append_left (by rw [← g.len]; exact hi), h1] at z1
  obtain ⟨a', ys, w1, w2, w3, w4⟩ := s'.gs.own i _ ds z2 rfl
  rw [z1] at w1; cases w1
  exact itl_src' (SqL.of w2) w4 s'.gs.sub k
end

section
variable {X : Cx} {c : Call} {n : Nat} {e a b d tg : Expr} {p pa pb pd : P} {pos : Pos}
theorem piImp {t t' : TI} (h : PI X tg e t) (i : ∀ σ H R, t' σ H R → t σ H R) : PI X tg e t' := fun pins s σ H R I q => h pins s σ H R I (i σ H R q)
def SI (X : Cx) (c : Call) (tg e : Expr) (p : P) : Prop := PI X tg e (tIt X.K (isVar p) (HH.ev c p))
theorem si_seq (h : SX X c e p) : SI X c tg e p := by
  unfold SI
  cases hv : isVar p with
  | none =>
    refine piImp (pi_seq h.ev) fun σ H R ⟨F, ρ, ds, ρ1, g, e, k⟩ => ?_
    obtain ⟨r, ρ2, e1, e2⟩ := bind_ok e
    have zz := lift_ok e2; clear e2; obtain ⟨e2, e3⟩ := zz
    subst e3
    refine ⟨F, ρ, r, _, g, e1, fun v F' H' s rr => ?_⟩
    obtain ⟨F2, s2, _, rp⟩ := s.frz rr
    obtain ⟨a, ha, hw⟩ := walk_dat (ul := unlend ρ none) s2 rp e2 fun F3 ρ3 σ3 H3 s3 => ⟨s2.trans s3, fun v r rr => rr.later s2⟩
    exact ⟨a, ha, hw.imp (fun ⟨z, w⟩ => ⟨z, k _ _ _ w⟩) (fun ⟨z, w⟩ => ⟨z, k _ _ _ w⟩)⟩
  | some i =>
    refine piImp (pi_seq (h.var i hv)) fun σ H R ⟨F, ρ, ds, ρ1, g, e, k⟩ => ?_
    unfold srcOf at e
    dsimp only at e
    split at e
    · rename_i b d q
      have zz := lift_ok e; clear e; obtain ⟨e2, e3⟩ := zz
      subst e3
      obtain ⟨v, h1, h2⟩ := g.val i b d q
      have fin : ∀ F2 ρ2 σ2 H2, Stp X.K F ρ σ H F2 ρ2 σ2 H2 → Stp X.K F ρ σ H F2 (unlend ρ (some i) ρ2) σ2 H2 ∧ ∀ v r, RepR X.K F2 ρ2 σ2 H2 ρ σ H v r → RepR X.K F2 (unlend ρ (some i) ρ2) σ2 H2 ρ σ H v r := fun F2 ρ2 σ2 H2 s => by
        unfold unlend; dsimp only; rw [q]; exact ⟨s, fun _ _ z => z⟩
      obtain ⟨a, ha, hw⟩ := walk_dat (ul := unlend ρ (some i)) (.refl g) h2 e2 fin
      exact ⟨v, h1, a, ha, hw.imp (fun ⟨z, w⟩ => ⟨z, k _ _ _ w⟩) (fun ⟨z, w⟩ => ⟨z, k _ _ _ w⟩)⟩
    · rename_i b ds' q
      cases e
      have hi : i < ρ.length := (List.getElem?_eq_some_iff.mp q).1
      have fin : ∀ F2 ρ2 σ2 H2, Stp X.K F (ρ.set i (.lent ds)) σ H F2 ρ2 σ2 H2 → Stp X.K F ρ σ H F2 (unlend ρ (some i) ρ2) σ2 H2 ∧ ∀ v r, RepR X.K F2 ρ2 σ2 H2 (ρ.set i (.lent ds)) σ H v r → RepR X.K F2 (unlend ρ (some i) ρ2) σ2 H2 ρ σ H v r := fun F2 ρ2 σ2 H2 s => by
        unfold unlend; dsimp only; rw [q]; exact Stp.unlend g q s
      obtain ⟨a, h1, hx, w⟩ := walk_lent (ul := unlend ρ (some i)) (g.lend q) (List.getElem?_set_self hi) fin
      exact ⟨_, h1, a, rfl, .inl ⟨hx, k _ _ _ w⟩⟩
    · rename_i ds' q
      cases e
      have fin : ∀ F2 ρ2 σ2 H2, Stp X.K F ρ σ H F2 ρ2 σ2 H2 → Stp X.K F ρ σ H F2 (unlend ρ (some i) ρ2) σ2 H2 ∧ ∀ v r, RepR X.K F2 ρ2 σ2 H2 ρ σ H v r → RepR X.K F2 (unlend ρ (some i) ρ2) σ2 H2 ρ σ H v r := fun F2 ρ2 σ2 H2 s => by
        unfold unlend; dsimp only; rw [q]; exact ⟨s, fun _ _ z => z⟩
      obtain ⟨a, h1, hx, w⟩ := walk_lent (ul := unlend ρ (some i)) g q fin
      exact ⟨_, h1, a, rfl, .inl ⟨hx, k _ _ _ w⟩⟩
    · cases e
/-! ### range -/
theorem rng_walk {K : PySem.W.Frag} {F F1 H H1 : Hp} {ρ ρ1 : List Sl} {σ : L2.St} (s : Stp K F ρ σ H F1 ρ1 σ H1) (i j : Int) : Walk K F ρ σ H (unlend ρ none) (Itr i (j - i).toNat) ((List.range (j - i).toNat).map fun (k : Nat) => D.int (i + (k : Int))) F1 ρ1 H1 := by
  refine ⟨s.gs, fun n k F' ρ' σ' H' s' => ⟨fun d hd => ?_, fun h => ?_⟩, fun F3 ρ3 σ3 H3 s3 => ⟨s.trans s3, fun v r rr => rr.later s⟩⟩
  · rw [List.getElem?_map] at hd
    obtain ⟨m, e1, e2⟩ := map_some hd
    obtain ⟨h1, h2⟩ := List.getElem?_eq_some_iff.mp e1
    rw [List.getElem_range] at h2
    subst h2; subst e2
    rw [List.length_range] at h1
    refine ⟨h1, fun x H'' ⟨q1, q2⟩ => ?_⟩
    subst q1; subst q2
    exact ⟨F', .refl s'.gs.sub, repInt _⟩
  · rw [List.length_map, List.length_range] at h; exact h
theorem si_rng1 {x : Str} {p' : Pos} (hx : x = "range") (hg : Gl X x) (hm : X.mg x = none) (ha : SX X c a pa) (hs : starEach [a] X.env = [(false, eval a X.env)] := by rfl) : SI X c tg (.Call (.Name x p') [a] [] pos) (.rng (.con (.int 0)) pa) := by
  subst hx
  obtain ⟨ta, h1, h2⟩ := ha.opd
  refine piImp (pi_range1 hg hm (pa_cons h1 pa_nil hs) hs) fun σ H R ⟨F, ρ, ds, ρ1, g, e, k⟩ => ?_
  obtain ⟨r, ρ2, e1, e2⟩ := bind_ok e
  have zz := lift_ok e2; clear e2; obtain ⟨e2, e3⟩ := zz
  subst e3
  rw [HH.ev] at e1
  obtain ⟨xy, ρ3, e4, e5⟩ := bind_ok e1
  have zz := lift_ok e5; clear e5; obtain ⟨e5, e6⟩ := zz
  subst e6
  obtain ⟨y0, ρ5, e9, e10⟩ := bind_ok e4
  cases e10
  obtain ⟨i, f1, e5⟩ := bindO e5
  obtain ⟨j, f2, e5⟩ := bindO e5
  obtain ⟨⟨b1, b2, b3, b4⟩, e5⟩ := ite_some e5
  have f1 : i = 0 := by cases f1; rfl
  subst f1
  subst e5
  cases e2
  cases asI_some f2
  refine h2 g e9 fun v F' H' s pv => ⟨j, by rw [pv.int], by omega, by omega, ?_⟩
  have := rng_walk s 0 j
  rw [Int.sub_zero] at this
  refine k _ F' H' ?_
  rw [Int.sub_zero]
  exact this
end
end HH
end

section
set_option linter.all false
set_option Elab.async false
set_option maxRecDepth 10000
namespace HH
open PySem L2 PySem.Spec PyProof.Rows
section
variable {X : Cx} {c : Call} {n : Nat} {e a b d tg iter : Expr} {p pa pb pd : P} {pos : Pos} {body : List Stmt} {ss : List S}

/-! ### targets -/
/-- a loop's target: data is bound to it -/
def TGok (K : PySem.W.Frag) (bd : List Sl → D → Option (List Sl)) (g : TG) : Prop := ∀ (x : V) (d : D) (F : Hp) (ρ ρ' : List Sl) (σ : L2.St) (H : Hp) (Q : L2.St → Hp → Prop), GS K F ρ σ H → Rep K F x d → bd ρ d = some ρ' →
  (∀ σ', Stp K F ρ σ H F ρ' σ' H → Q σ' H) → g x σ H Q
theorem tg_name {K : PySem.W.Frag} (i : Nat) : TGok K (fun ρ d => put ρ i (.val false d)) (gName i) := fun x d F ρ ρ' σ H Q g r h k =>
  k _ (Stp.put (r := .val d) (.refl g) r h)
theorem tgs_all {K : PySem.W.Frag} : ∀ (is : List Nat) (gs : TGs), (∀ (xs : List V) (ds : List D) (F : Hp) (ρ ρ' : List Sl) (σ : L2.St) (H : Hp) (Q : L2.St → Hp → Prop), GS K F ρ σ H → Reps K F xs ds → putAll ρ is ds = some ρ' → (∀ σ', Stp K F ρ σ H F ρ' σ' H → Q σ' H) → gs xs σ H Q) →
    ∀ i, ∀ (xs : List V) (ds : List D) (F : Hp) (ρ ρ' : List Sl) (σ : L2.St) (H : Hp) (Q : L2.St → Hp → Prop), GS K F ρ σ H → Reps K F xs ds → putAll ρ (i :: is) ds = some ρ' → (∀ σ', Stp K F ρ σ H F ρ' σ' H → Q σ' H) → gCons (gName i) gs xs σ H Q := by
  intro is gs ih i xs ds F ρ ρ' σ H Q g r h k
  cases ds with
  | nil => simp [putAll] at h
  | cons d ds =>
    obtain ⟨v, vs, rfl, h1, h2⟩ := r.uncons
    rw [putAll] at h
    obtain ⟨ρ1, e1, e2⟩ := bindO h
    have s1 := Stp.put (r := .val d) (.refl g) h1 e1
    refine ⟨v, vs, rfl, ih vs ds F ρ1 ρ' _ H _ s1.gs h2 e2 fun σ' s2 => k σ' (s1.trans s2)⟩
theorem tgs_nil {K : PySem.W.Frag} : ∀ (xs : List V) (ds : List D) (F : Hp) (ρ ρ' : List Sl) (σ : L2.St) (H : Hp) (Q : L2.St → Hp → Prop), GS K F ρ σ H → Reps K F xs ds → putAll ρ [] ds = some ρ' → (∀ σ', Stp K F ρ σ H F ρ' σ' H → Q σ' H) → gNil xs σ H Q := by
  intro xs ds F ρ ρ' σ H Q g r h k
  cases ds with
  | nil => rw [putAll] at h; cases h; exact ⟨r.unnil, k σ (.refl g)⟩
  | cons d ds => simp [putAll] at h
theorem putAll_len : ∀ {is : List Nat} {ds : List D} {ρ ρ' : List Sl}, putAll ρ is ds = some ρ' → ds.length = is.length
  | [], [], _, _, _ => rfl
  | [], _ :: _, _, _, h => by simp [putAll] at h
  | _ :: _, [], _, _, h => by simp [putAll] at h
  | i :: is, d :: ds, ρ, ρ', h => by
    rw [putAll] at h
    obtain ⟨ρ1, e1, e2⟩ := bindO h
    simp [putAll_len e2]
theorem tg_tup {K : PySem.W.Frag} {is : List Nat} {gs : TGs} {m : Nat} (hm : m = is.length) (h : ∀ (xs : List V) (ds : List D) (F : Hp) (ρ ρ' : List Sl) (σ : L2.St) (H : Hp) (Q : L2.St → Hp → Prop), GS K F ρ σ H → Reps K F xs ds → putAll ρ is ds = some ρ' → (∀ σ', Stp K F ρ σ H F ρ' σ' H → Q σ' H) → gs xs σ H Q) :
    TGok K (fun ρ d => bindF ρ is false d) (gTup K m gs) := by
  intro x d F ρ ρ' σ H Q g r hb k
  replace hb : bindF ρ is false d = some ρ' := hb
  cases d with
  | tup ds =>
    replace hb : putAll ρ is ds = some ρ' := hb
    rw [Rep] at r
    obtain ⟨a, xs, rfl, h1, h2⟩ := r
    exact ⟨a, xs, rfl, Same.seqT g.sub h1, by rw [h2.length, putAll_len hb, hm], h xs _ F ρ ρ' σ H Q g h2 hb k⟩
  | _ => cases hb

/-! ### for -/
theorem ss_for {g : TG} {is : List Nat} {one : Bool} (hp : PassesOwn (model X.prog X.w) X.A X.env X.xe) (hc : X.calm = true) (hi : SI X c tg iter p) (hg : PG X tg g) (hgo : TGok X.K (fun ρ d => bindF ρ is one d) g) (hb : SB X c n body ss)
    (hs : ∀ x, foldedSetIterable iter X.env x = pure x := by intro _; rfl) : SS X c n (.For tg iter body [] pos) (.forr p is one ss) := by
  refine psImp (ps_for hp hc hi hg hb hs) fun D σ H ⟨F, ρ, fl, ρ', g0, e, k⟩ => ?_
  rw [ex] at e
  obtain ⟨ds, ρ1, e1, e⟩ := bind_ok e
  obtain ⟨fl', ρ2, e2, e⟩ := bind_ok e
  cases e
  refine ⟨F, ρ, ds, ρ1, g0, e1, fun J F1 H1 w => ?_⟩
  have src : ∀ (i : Nat) (F' : Hp) (ρ' : List Sl) (σ' : L2.St) (H' : Hp), Stp X.K F1 ρ1 σ H1 F' ρ' σ' H' →
    (∀ d, ds[i]? = some d → J.go i H' ∧ ∀ x H'', J.yld i H' x H'' → ∃ F'', Ext F' H' F'' H'' ∧ Rep X.K F'' x d) ∧ (ds.length ≤ i → J.stop i H') := fun i F' ρ' σ' H' s => w.src 0 i F' ρ' σ' H' (by simpa using s)
  refine ⟨fun i m σi Hi => ∃ Fi ρi, Stp X.K F1 ρ1 σ H1 Fi ρi σi Hi ∧ m = ds.length - i ∧ i ≤ ds.length ∧ forT is one (exs c n ss) (ds.drop i) ρi = .ok fl ρ2, ⟨_, F1, ρ1, .refl w.gs, rfl, Nat.zero_le _, e2⟩, ?_⟩
  rintro i m σi Hi ⟨Fi, ρi, si, rfl, hle, ei⟩
  obtain ⟨s1, s2⟩ := src i Fi ρi σi Hi si
  by_cases hlt : i < ds.length
  · right
    have hd : ds[i]? = some ds[i] := by simp [hlt]
    obtain ⟨go, step⟩ := s1 _ hd
    refine ⟨go, fun σ' H' => ∃ m', m' < ds.length - i ∧ ∃ Fi ρi, Stp X.K F1 ρ1 σ H1 Fi ρi σ' H' ∧ m' = ds.length - (i + 1) ∧ i + 1 ≤ ds.length ∧ forT is one (exs c n ss) (ds.drop (i + 1)) ρi = .ok fl ρ2, fun σ' H' z => z, fun x H' y => ?_⟩
    obtain ⟨F2, ext, rx⟩ := step x H' y
    have si2 := si.trans (ext.stp si.gs)
    rw [List.drop_eq_getElem_cons hlt, forT] at ei
    cases hbd : bindF ρi is one ds[i] with
    | none => rw [hbd] at ei; cases ei
    | some ρb =>
      rw [hbd] at ei
      obtain ⟨flb, ρc, eb, ei⟩ := bind_ok ei
      refine hgo x _ F2 ρi ρb σi H' _ si2.gs rx hbd fun σ2 sb => ?_
      have si3 := si2.trans sb
      refine ⟨F2, ρb, flb, ρc, si3.gs, eb, fun F4 σ4 H4 s4 => ?_⟩
      have si4 := si3.trans s4
      cases flb with
      | next => exact ⟨_, by omega, F4, ρc, si4, rfl, hlt, ei⟩
      | cont => exact ⟨_, by omega, F4, ρc, si4, rfl, hlt, ei⟩
      | brk =>
        cases ei
        exact k F4 σ4 H4 (w.fin _ _ _ _ si4).1
      | ret r =>
        cases ei
        intro v rr
        obtain ⟨z1, z2⟩ := w.fin _ _ _ _ si4
        exact k F4 σ4 H4 z1 v (z2 v r (rr.later si3))
  · left
    have hdr : ds.drop i = [] := by rw [List.drop_eq_nil_iff]; omega
    rw [hdr, forT] at ei
    cases ei
    exact ⟨s2 (by omega), k Fi σi Hi (w.fin _ _ _ _ si).1⟩
theorem bindF_one (i : Nat) : (fun (ρ : List Sl) (d : D) => bindF ρ [i] true d) = fun ρ d => put ρ i (.val false d) := by funext ρ d; rfl
theorem ss_for1 {i : Nat} {x : Str} {pos' : Pos} (hp : PassesOwn (model X.prog X.w) X.A X.env X.xe) (hc : X.calm = true) (hN : X.N.Nodup) (hx0 : X.N[i]? = some x) (hx : Loc X.env.scope x) (hi : SI X c (.Name x pos') iter p) (hb : SB X c n body ss)
    (hs : ∀ x, foldedSetIterable iter X.env x = pure x := by intro _; rfl) (hf : X.fn x = true ∨ X.env.scope.names.lookup x = some .local := by first | exact .inl rfl | exact .inr rfl | assumption) : SS X c n (.For (.Name x pos') iter body [] pos) (.forr p [i] true ss) :=
  ss_for hp hc hi (pg_name hN hx0 hx hf) (by rw [bindF_one]; exact tg_name i) hb hs
end
end HH
end

section
set_option linter.all false
set_option Elab.async false
set_option maxRecDepth 10000
namespace HH
open PySem L2 PySem.Spec PyProof.Rows
section
variable {X : Cx} {c : Call} {n : Nat} {e elt tg iter : Expr} {p ps pe : P} {pos : Pos} {scope : Scope} {N' : List Str} {ifs : List Expr}
theorem peImpN {t t' : TE} (h : PE X e t) (i : ∀ σ H Q, σ.length = X.N.length → t' σ H Q → t σ H Q) : PE X e t' := fun pins s σ H Q I q => h pins s σ H Q I (i σ H Q I.len q)
theorem psImpN {st : Stmt} {t t' : TS} (h : PS X st t) (i : ∀ D σ H, σ.length = X.N.length → t' D σ H → t D σ H) : PS X st t' := fun pins s σ H D I q => h pins s σ H D I (i D σ H I.len q)
/-- a comprehension's target: the names ahead of place m stay -/
def TGokC (K : PySem.W.Frag) (m : Nat) (is : List Nat) (one : Bool) (g : TG) : Prop := ∀ (x : V) (d : D) (F : Hp) (ρ ρ' : List Sl) (σ : L2.St) (H : Hp) (Q : L2.St → Hp → Prop), GS K F ρ σ H → Rep K F x d → bindF ρ is one d = some ρ' →
  (∀ σ', Stp K F ρ σ H F ρ' σ' H → σ'.take m = σ.take m → Q σ' H) → g x σ H Q
theorem take_set {α : Type} {l : List α} {i m : Nat} {a : α} (h : m ≤ i) : (l.set i a).take m = l.take m := by
  rw [List.take_set_of_le h]
theorem tgc_name {K : PySem.W.Frag} {i m : Nat} (h : m ≤ i) : TGokC K m [i] true (gName i) := fun x d F ρ ρ' σ H Q g r hb k =>
  k _ (Stp.put (r := .val d) (.refl g) r hb) (take_set h)
def TGs2 (K : PySem.W.Frag) (m : Nat) (is : List Nat) (gs : TGs) : Prop := ∀ (xs : List V) (ds : List D) (F : Hp) (ρ ρ' : List Sl) (σ : L2.St) (H : Hp) (Q : L2.St → Hp → Prop), GS K F ρ σ H → Reps K F xs ds → putAll ρ is ds = some ρ' →
  (∀ σ', Stp K F ρ σ H F ρ' σ' H → σ'.take m = σ.take m → Q σ' H) → gs xs σ H Q
theorem tgc_cons {K : PySem.W.Frag} {m i : Nat} {is : List Nat} {gs : TGs} (hi : m ≤ i) (ih : TGs2 K m is gs) : TGs2 K m (i :: is) (gCons (gName i) gs) := by
  intro xs ds F ρ ρ' σ H Q g r h k
  cases ds with
  | nil => simp [putAll] at h
  | cons d ds =>
    obtain ⟨v, vs, rfl, h1, h2⟩ := r.uncons
    rw [putAll] at h
    obtain ⟨ρ1, e1, e2⟩ := bindO h
    have s1 := Stp.put (r := .val d) (.refl g) h1 e1
    exact ⟨v, vs, rfl, ih vs ds F ρ1 ρ' _ H _ s1.gs h2 e2 fun σ' s2 z => k σ' (s1.trans s2) (z.trans (take_set hi))⟩
theorem tgc_nil {K : PySem.W.Frag} {m : Nat} : TGs2 K m [] gNil := by
  intro xs ds F ρ ρ' σ H Q g r h k
  cases ds with
  | nil => rw [putAll] at h; cases h; exact ⟨r.unnil, k σ (.refl g) rfl⟩
  | cons d ds => simp [putAll] at h
theorem tgc_tup {K : PySem.W.Frag} {is : List Nat} {gs : TGs} {m l : Nat} (hm : l = is.length) (h : TGs2 K m is gs) : TGokC K m is false (gTup K l gs) := by
  intro x d F ρ ρ' σ H Q g r hb k
  cases d with
  | tup ds =>
    replace hb : putAll ρ is ds = some ρ' := hb
    rw [Rep] at r
    obtain ⟨a, xs, rfl, h1, h2⟩ := r
    exact ⟨a, xs, rfl, Same.seqT g.sub h1, by rw [h2.length, putAll_len hb, hm], h xs _ F ρ ρ' σ H Q g h2 hb k⟩
  | _ => cases hb
/-- the tests -/
def SQ (X : Cx) (c : Call) (ifs : List Expr) (t : Option P) : Prop := PTs X ifs (tTr X.K (evT c t))
theorem sq_none : SQ X c [] none := fun pins s σ H Q I ⟨F, ρ, k, ρ', g, e, q⟩ => by
  rw [evT] at e; cases e
  exact pts_nil pins s σ H Q I (q F H (.refl g))
theorem Stp.offD {K : PySem.W.Frag} {F H F1 H1 : Hp} {ρ ρ1 : List Sl} {σ σ1 : L2.St} {Da : Addr} {o : HO} (s : Stp K F ρ σ H F1 ρ1 σ1 H1) (h : H Da = none) (hf : F1 Da = none) (ho : ¬ Own ρ1 σ1 Da) : Stp K F ρ σ H F1 ρ1 σ1 (upd H1 Da o) := by
  refine ⟨⟨fun b u e => ?_, s.gs.len, s.gs.val, fun i t ds e e' => ?_, s.gs.dis⟩, s.fsub, s.fgr, fun b u e n => ?_, s.ogr, s.len, s.lk⟩
  · have : b ≠ Da := by rintro rfl; rw [hf] at e; cases e
    rw [upd_ne this]; exact s.gs.sub b u e
  · obtain ⟨a, xs, q1, q2, q3, q4⟩ := s.gs.own i t ds e e'
    have : a ≠ Da := by rintro rfl; exact ho ⟨i, ⟨t, ds, e, e'⟩, q1⟩
    exact ⟨a, xs, q1, by rw [upd_ne this]; exact q2, q3, q4⟩
  · have : b ≠ Da := by rintro rfl; rw [h] at e; cases e
    rw [upd_ne this]; exact s.keep b u e n
/-- the turns of a comprehension -/
theorem comp_trA {K : PySem.W.Frag} {F H : Hp} {ρ ρ1 ρ2 : List Sl} {σ : L2.St} {ul : List Sl → List Sl} {ti : TI} {is : List Nat} {one : Bool} {test : List Sl → Res Bool} {el : Ev} {g : TG} {Q : VK} {ds xs : List D} {m : Nat}
    (hm : σ.length = m) (hgo : TGokC K m is one g) (hti : ∀ R : It → Hp → Prop, (∀ J F1 H1, Walk K F ρ σ H ul J ds F1 ρ1 H1 → R J H1) → ti σ H R) (hlim : ds.length ≤ lim)
    (e2 : turns is one test el ds [] (ρ1 ++ List.replicate n .unb) = .ok xs ρ2)
    (k : ∀ v F' H', Stp K F ρ σ H F' (ul (ρ2.take ρ1.length)) σ H' → RepR K F' (ul (ρ2.take ρ1.length)) σ H' ρ σ H v (.own xs) → Q v H') :
    tComp n ti g (tTr K test) (tEv K el) σ H Q := by
  refine hti _ fun J F1 H1 w Da hDa => ?_
  have hl1 : ρ1.length = σ.length := w.gs.len
  have gm := w.gs.more (n := n) (τ := List.replicate n none) (by simp)
  have fD : F1 Da = none := by
    cases q : F1 Da with
    | none => rfl
    | some o => rw [w.gs.sub Da o q] at hDa; cases hDa
  have nO : ¬ Own (ρ1 ++ List.replicate n .unb) (σ ++ List.replicate n none) Da := fun ⟨i, ⟨t, dt, q1, q2⟩, q3⟩ => by
    obtain ⟨a, ys, z1, z2, _⟩ := gm.own i t dt q1 q2
    rw [q3] at z1; cases z1
    rw [hDa] at z2; cases z2
  refine ⟨fun i mm ys σi Hi => ∃ Fi ρi acc, Stp K F1 (ρ1 ++ List.replicate n .unb) (σ ++ List.replicate n none) H1 Fi ρi σi Hi ∧ σi.take m = σ ∧ Hi Da = some (.lst ys) ∧ Fi Da = none ∧ ¬ Own ρi σi Da ∧ Reps K Fi ys acc ∧ acc.length ≤ i ∧ mm = ds.length - i ∧ i ≤ ds.length ∧
    turns is one test el (ds.drop i) acc ρi = .ok xs ρ2, ⟨_, F1, _, [], (Stp.refl gm).offD hDa fD nO, by rw [List.take_append_of_le_length (by omega), List.take_of_length_le (by omega)], upd_same, fD, nO, .nil, Nat.zero_le _, rfl, Nat.zero_le _, e2⟩, ?_⟩
  rintro i mm ys σi Hi ⟨Fi, ρi, acc, si, hσ, hD, hF, hO, rs, hacc, rfl, hle, ei⟩
  refine ⟨hD, ?_⟩
  -- what stays of the new list through a step
  have stay : ∀ {F2 H2 : Hp} {ρ3 : List Sl} {σ2 : L2.St}, Stp K Fi ρi σi Hi F2 ρ3 σ2 H2 → H2 Da = some (.lst ys) ∧ F2 Da = none ∧ ¬ Own ρ3 σ2 Da := fun {F2 H2 ρ3 σ2} s => by
    refine ⟨s.keep Da _ hD hO, ?_, fun o => ?_⟩
    · cases q : F2 Da with
      | none => rfl
      | some o =>
        rcases s.fgr Da hF (by rw [q]; simp) with z | z
        · exact absurd z hO
        · rw [hD] at z; cases z
    · rcases s.ogr Da o with z | z
      · exact hO z
      · rw [hD] at z; cases z
  obtain ⟨s1, s2⟩ := w.src n i Fi ρi σi Hi si
  by_cases hlt : i < ds.length
  · right
    have hd : ds[i]? = some ds[i] := by simp [hlt]
    obtain ⟨go, step⟩ := s1 _ hd
    refine ⟨go, fun x H2 y => ?_⟩
    obtain ⟨F2, ext, rx⟩ := step x H2 y
    have t2 := ext.stp si.gs
    rw [List.drop_eq_getElem_cons hlt, turns] at ei
    cases hbd : bindF ρi is one ds[i] with
    | none => rw [hbd] at ei; cases ei
    | some ρb =>
      rw [hbd] at ei
      obtain ⟨bb, ρc, eb, ei⟩ := bind_ok ei
      refine hgo x _ F2 ρi ρb σi H2 _ t2.gs rx hbd fun σ2 sb htk => ?_
      have t3 := t2.trans sb
      refine ⟨F2, ρb, bb, ρc, t3.gs, eb, fun F4 H4 s4 => ?_⟩
      have t4 := t3.trans s4
      cases bb with
      | false =>
        rw [if_neg Bool.false_ne_true] at ei
        obtain ⟨y1, y2, y3⟩ := stay t4
        exact ⟨_, by omega, F4, ρc, acc, si.trans t4, htk.trans hσ, y1, y2, y3, rs.mono t4.fsub, by omega, rfl, hlt, ei⟩
      | true =>
        rw [if_pos rfl] at ei
        obtain ⟨re, ρe, ee, ei⟩ := bind_ok ei
        refine (show tEv K el σ2 H4 _ from ⟨F4, ρc, re, ρe, t4.gs, ee, fun v F5 H5 s5 rr => ?_⟩)
        obtain ⟨F6, s6, _, rp⟩ := s5.frz rr
        have t6 := t4.trans s6
        obtain ⟨y1, y2, y3⟩ := stay t6
        have hlen : ys.length < sizeLine := by
          have h1 := rs.length
          have h2 : lim = sizeLine := rfl
          omega
        exact ⟨y1, hlen, _, by omega, F6, ρe, acc ++ [re.d], (si.trans t6).offD hDa y2 y3, htk.trans hσ, upd_same, y2, y3, (rs.mono t6.fsub).append (.cons rp .nil), by simp; omega, rfl, hlt, ei⟩
  · left
    have hdr : ds.drop i = [] := by rw [List.drop_eq_nil_iff]; omega
    rw [hdr, turns] at ei
    cases ei
    refine ⟨s2 (by omega), ?_⟩
    obtain ⟨l1, l2⟩ := Stp.less (m := ρ1.length) rfl w.gs (by simp) si
    have hst : σi.take ρ1.length = σ := by rw [hl1, hm]; exact hσ
    rw [hst] at l1
    have rr : RepR K Fi ρ2 σi Hi (ρ1 ++ List.replicate n .unb) (σ ++ List.replicate n none) H1 (.ref Da) (.own xs) := ⟨Da, ys, rfl, hD, hF, rs, hO, .inr hDa⟩
    have rr2 := l2 _ _ rr
    rw [hst] at rr2
    obtain ⟨z1, z2⟩ := w.fin _ _ _ _ l1
    exact k _ Fi Hi z1 (z2 _ _ rr2)
theorem comp_tr {K : PySem.W.Frag} {F H : Hp} {ρ : List Sl} {σ : L2.St} {iv : Option Nat} {f : Ev} {is : List Nat} {one : Bool} {test : List Sl → Res Bool} {el : Ev} {g : TG} {Q : VK} {r : R} {ρ' : List Sl} {m : Nat}
    (hm : σ.length = m) (hgo : TGokC K m is one g) (g0 : GS K F ρ σ H)
    (e : ((srcOf iv f ρ).bind fun ds ρ₁ => if ds.length ≤ lim then (turns is one test el ds [] (ρ₁ ++ List.replicate n .unb)).bind fun xs ρ₂ => Res.ok (R.own xs) (unlend ρ iv (ρ₂.take ρ₁.length)) else .stuck) = .ok r ρ')
    (k : ∀ v F' H', Stp K F ρ σ H F' ρ' σ H' → RepR K F' ρ' σ H' ρ σ H v r → Q v H') :
    tComp n (tIt K iv f) g (tTr K test) (tEv K el) σ H Q := by
  obtain ⟨ds, ρ1, e1, e⟩ := bind_ok e
  split at e
  · rename_i hlim
    obtain ⟨xs, ρ2, e2, e⟩ := bind_ok e
    cases e
    exact comp_trA hm hgo (fun R h => ⟨F, ρ, ds, ρ1, g0, e1, h⟩) hlim e2 k
  · cases e
theorem sx_comp {g : TG} {is : List Nat} {one : Bool} {t : Option P} (hc : X.calm = true) (ok : CompOk X scope N' n) (hi : SI X c tg iter ps) (hg : ∀ cl C s₀ H₀ ex, PG (cxC X scope N' cl C s₀ H₀ ex) tg g) (hgo : TGokC X.K X.N.length is one g)
    (ht : ∀ cl C s₀ H₀ ex, SQ (cxC X scope N' cl C s₀ H₀ ex) c ifs t) (he : ∀ cl C s₀ H₀ ex, SX (cxC X scope N' cl C s₀ H₀ ex) c elt pe)
    (hs : ∀ x, foldedSetIterable iter X.env x = pure x := by intro _; rfl) : SX X c (.ListComp elt [⟨tg, iter, ifs, 0⟩] scope pos) (.comp ps n is one t pe) := by
  refine ⟨peImpN (pe_comp (tt := tTr X.K (evT c t)) (te := tEv X.K (HH.ev c pe)) hc ok hi hg ht (fun cl C s₀ H₀ ex => (he cl C s₀ H₀ ex).ev) hs) fun σ H Q hl ⟨F, ρ, r, ρ', g0, e, k⟩ => ?_, fun i h => by cases h⟩
  rw [HH.ev] at e
  exact comp_tr hl hgo g0 e k
theorem ss_asgC {i : Nat} {x : Str} {pos' spos : Pos} {nn : Nat} {g : TG} {is : List Nat} {one : Bool} {t : Option P} (hc : X.calm = true) (hN : X.N.Nodup) (hx0 : X.N[i]? = some x) (hx : Loc X.env.scope x) (ok : CompOk X scope N' n) (hi : SI X c tg iter ps)
    (hg : ∀ cl C s₀ H₀ ex, PG (cxC X scope N' cl C s₀ H₀ ex) tg g) (hgo : TGokC X.K X.N.length is one g)
    (ht : ∀ cl C s₀ H₀ ex, SQ (cxC X scope N' cl C s₀ H₀ ex) c ifs t) (he : ∀ cl C s₀ H₀ ex, SX (cxC X scope N' cl C s₀ H₀ ex) c elt pe)
    (hsw : swapsWith (.ListComp elt [⟨tg, iter, ifs, 0⟩] scope pos) (some (.Name x pos')) spos.line X.env = pure true := by rfl)
    (hs : ∀ x, foldedSetIterable iter X.env x = pure x := by intro _; rfl) (hf : X.fn x = true ∨ X.env.scope.names.lookup x = some .local := by first | exact .inl rfl | exact .inr rfl | assumption) :
    SS X c nn (.Assign [.Name x pos'] (.ListComp elt [⟨tg, iter, ifs, 0⟩] scope pos) spos) (.asg i (.comp ps n is one t pe)) := by
  refine psImpN (ps_setC (tt := tTr X.K (evT c t)) (te := tEv X.K (HH.ev c pe)) hc hN hx0 hx ok hi hg ht (fun cl C s₀ H₀ ex => (he cl C s₀ H₀ ex).ev) hsw hs hf) fun D σ H hl ⟨F, ρ, fl, ρ', g0, e, k⟩ => ?_
  rw [ex] at e
  obtain ⟨r, ρ1, e1, e⟩ := bind_ok e
  obtain ⟨ρ2, ρ3, e2, e⟩ := bind_ok e
  cases e
  have zz := lift_ok e2; clear e2; obtain ⟨e2, e3⟩ := zz
  rw [HH.ev] at e1
  exact comp_tr hl hgo g0 e1 fun v F1 H1 s1 rr => k F1 _ H1 (s1.put rr e2)
end
end HH
end

section
set_option linter.all false
set_option Elab.async false
set_option maxRecDepth 10000
namespace HH
open PySem L2 PySem.Spec PyProof.Rows
section
variable {X : Cx} {c : Call} {n : Nat} {e a b d : Expr} {p pa pb pd : P} {pos : Pos} {es : List Expr} {ps : List P}
/-! ### isinstance -/
def tyN : D → String
  | .non => "NoneType" | .bl _ => "bool" | .int _ => "int" | .str _ => "str" | .tup _ => "tuple" | .lst _ => "list"
def tyS : Ty → String
  | .none => "NoneType" | .bool => "bool" | .int => "int" | .str => "str" | .tuple => "tuple" | .list => "list"
theorem kit_D (K : PySem.W.Frag) (t : Ty) (d : D) : PySem.W.kitOne K (.type (tyN d)) (.type (tyS t)) = some (isTy t d) := by
  cases t <;> cases d <;> rfl
theorem isi_D {pins : List (Addr × Obj)} {σ : L2.St} {H F : Hp} {s : Shared} {x : V} {u : Value} {dt : D} (I : L2.Inv X pins σ H s) (sm : Same F H) (px : PRep X.K F H x dt) (rx : RelV x u) :
    (∃ Hq, PySem.W.KitX X.K u (.type (tyN dt)) Hq ∧ Hq s.heap) ∧ u ≠ .builtin "__main__.__loader__#opaque" := by
  cases dt with
  | non => rw [px.non] at rx; cases rx; exact ⟨⟨_, PySem.W.kitx_none, trivial⟩, nofun⟩
  | bl y => rw [px.bl] at rx; cases rx; exact ⟨⟨_, PySem.W.kitx_bool, trivial⟩, nofun⟩
  | int i => rw [px.int] at rx; obtain ⟨t, rfl⟩ := rx; exact ⟨⟨_, PySem.W.kitx_int, trivial⟩, nofun⟩
  | str y => rw [px.str] at rx; obtain ⟨t, rfl⟩ := rx; exact ⟨⟨_, PySem.W.kitx_str, trivial⟩, nofun⟩
  | tup ds =>
    obtain ⟨q, xs, rfl, hq, _⟩ := px.tup sm
    cases rx
    obtain ⟨its, _, ⟨o, h1, h2, _⟩, _⟩ := I.tuple hq
    exact ⟨⟨_, PySem.W.kitx_tuple, ⟨o, h1, h2⟩⟩, nofun⟩
  | lst ds =>
    obtain ⟨q, xs, rfl, hq, _⟩ := px.lst sm
    cases rx
    obtain ⟨its, _, pl, _⟩ := I.list hq
    obtain ⟨o, h1, h2, _⟩ := pl.isList
    exact ⟨⟨_, PySem.W.kitx_list, ⟨o, h1, h2⟩⟩, nofun⟩
theorem c_inst (t : Ty) : CallR X (.builtin "isinstance") (fun xs H Q => ∃ x F dt, xs = [x, .ty (tyS t)] ∧ Same F H ∧ PRep X.K F H x dt ∧ Q (.bl (isTy t dt)) H) := by
  intro pins s σ H xs us Q I r ⟨x, F, dt, hx, sm, px, q⟩
  subst hx
  obtain ⟨u, w', rfl, rx, rt⟩ := r.two
  cases (show w' = Value.type (tyS t) from rt)
  obtain ⟨⟨Hq, Z, hz⟩, hne⟩ := isi_D I sm px rx
  exact PySem.W.kia_one Z I.kIn hz (kit_D _ t dt) hne fun tk => ⟨.bl _, H, I.tok tk, rfl, q⟩
theorem boot_isi : bootBuiltins "isinstance" = some (.builtin "isinstance") := by decide +kernel
theorem sx_inst1 {x y : Str} {p' p2 : Pos} (t : Ty) (hx : x = "isinstance") (hg : Gl X x) (hm : X.mg x = none) (ha : SX X c a pa) (hgy : Gl X y) (hmy : X.mg y = none) (hy : bootBuiltins y = some (.type (tyS t)))
    (hny : y ≠ "__name__" := by decide) (hdy : (y == ("__debug__" : Str)) = false := by decide)
    (hs : starEach [a, .Name y p2] X.env = (false, eval a X.env) :: starEach [.Name y p2] X.env := by rfl) : SX X c (.Call (.Name x p') [a, .Name y p2] [] pos) (.inst [t] pa) := by
  subst hx
  obtain ⟨ta, h1, h2⟩ := ha.opd
  refine ⟨peImp (pe_callB (c_inst t) hg hm boot_isi (pa_cons h1 (pa_cons (pe_bltn (v := .ty (tyS t)) hgy hmy hy rfl hny hdy) pa_nil) hs) (he := hs)) fun σ H Q ⟨F, ρ, r, ρ', g, e, k⟩ => ?_, fun i h => by cases h⟩
  rw [HH.ev] at e
  obtain ⟨dt, ρ1, e1, e⟩ := bind_ok e
  cases e
  refine h2 g e1 fun v F' H' s pv => ⟨v, F', dt, rfl, s.gs.sub, pv, k _ F' H' s ?_⟩
  show Rep X.K F' _ _
  rw [List.any_cons, List.any_nil, Bool.or_false]
  exact repBl _
def tysA (X : Cx) (ts : List Ty) (es : List Expr) : Prop := PA X es (fun _ H Q => Q (ts.map fun t => V.ty (tyS t)) H)
/-! ### built-ins of several arguments -/
def rBn (K : PySem.W.Frag) (f : List D → Option R) : List V → Hp → VK → Prop := fun xs H Q => ∃ F ds r, Same F H ∧ Reps K F xs ds ∧ f ds = some r ∧ ∀ v F' H', Ext F H F' H' → RepN K F' H' H v r → Q v H'
theorem sx_bn {E : Expr} {f : List D → Option R} {q : P} (hp : ∀ {t}, PA X es t → PE X E (tCB (rBn X.K f) t)) (ha : SA X c es ps)
    (hq : ∀ ρ, HH.ev c q ρ = (evs c ps ρ).bind fun ds ρ => lift (f ds) ρ) (hv : isVar q = none) : SX X c E q := by
  refine ⟨peImp (hp ha.1) fun σ H Q ⟨F, ρ, r, ρ', g, e, k⟩ => ?_, fun i h => by rw [hv] at h; cases h⟩
  rw [hq] at e
  obtain ⟨ds, ρ1, e1, e2⟩ := bind_ok e
  have zz := lift_ok e2; clear e2; obtain ⟨e2, e3⟩ := zz
  subst e3
  exact ⟨F, ρ, ds, ρ1, g, e1, fun vs F' H' s rs => ⟨F', ds, r, s.gs.sub, rs, e2, fun w F2 H2 x rn => k w F2 H2 (s.trans (x.stp s.gs)) (.later s (rn.repR s.gs))⟩⟩
theorem reps2 {K : PySem.W.Frag} {F : Hp} {xs : List V} {i j : Int} (h : Reps K F xs [.int i, .int j]) : xs = [.int i, .int j] := by
  obtain ⟨v, r, rfl, h1, h2⟩ := h.uncons
  obtain ⟨u, r2, rfl, h3, h4⟩ := h2.uncons
  rw [Rep] at h1 h3
  rw [h1, h3, h4.unnil]
theorem c_max2 (hc : X.calm = true) : CallR X (.builtin "max") (rBn X.K (blt .max2)) := by
  intro pins s σ H xs us Q I r ⟨F, ds, r', sm, rs, he, k⟩
  unfold blt at he
  split at he <;> first | (cases he; done) | skip
  all_goals try (rename_i h; cases h; done)
  all_goals (cases he; rw [reps2 rs] at r; exact call_max2 hc pins s σ H _ us Q I r ⟨_, _, rfl, RepN.val0 sm (repInt _) k⟩)
theorem boot_max : bootBuiltins "max" = some (.builtin "max") := by decide +kernel
theorem sx_max2 {x : Str} {p' : Pos} (hx : x = "max") (hc : X.calm = true) (hg : Gl X x) (hm : X.mg x = none) (ha : SA X c [a, b] [pa, pb]) (hs : starEach [a, b] X.env = (false, eval a X.env) :: starEach [b] X.env := by rfl) (hpl : (backTo pos (starEach [b] X.env)).any (·.1) = false := by rfl) :
    SX X c (.Call (.Name x p') [a, b] [] pos) (.blt .max2 [pa, pb]) := by
  subst hx; exact sx_bn (fun h => pe_callB (c_max2 hc) hg hm boot_max h (he := hs) (hpl := hpl)) ha (fun ρ => by rw [HH.ev]; intro a h; cases h) rfl
end
end HH
end

section
set_option linter.all false
set_option Elab.async false
set_option maxRecDepth 10000
namespace HH
open PySem L2 PySem.Spec PyProof.Rows
section
variable {X : Cx} {c : Call} {n : Nat} {e a b d : Expr} {p pa pb pd : P} {pos : Pos} {es : List Expr} {ps : List P}
/-! ### stores through a place, methods of own lists -/
theorem pkL_get {K : PySem.W.Frag} {F H : Hp} {ρ : List Sl} {σ : L2.St} {i : Nat} {ds : List D} (g : GS K F ρ σ H) (h : pkL ρ i = some ds) : ∃ a xs, σ[i]? = some (some (V.ref a)) ∧ SqL K H a xs := by
  unfold pkL at h
  split at h
  · rename_i q
    cases h
    obtain ⟨v, h1, h2⟩ := g.pk q
    obtain ⟨a, xs, rfl, h3, _⟩ := h2.lst g.sub
    exact ⟨a, xs, h1, h3⟩
  · cases h
theorem ss_seti {x : Str} {k : Nat} {px tpos : Pos} (hN : X.N[k]? = some x) (hv : Vis X.env.scope x) (hi : SX X c b pb) (he : SX X c e p)
    (ha : ∀ v, assign (.Subscript (.Name x px) b tpos) X.env v = (do
      let ov ← holding [v] (eval (.Name x px) X.env)
      let iv ← holding [v, ov] (eval b X.env)
      standAt tpos
      holding [v, ov, iv] (setItem ov iv v)
      release [v, ov, iv] []) := by intro _; rfl)
    (hs : swapsWithSole [.Subscript (.Name x px) b tpos] e pos.line X.env = pure false := by rfl) (hw : swappedStores [.Subscript (.Name x px) b tpos] e X.env = pure none := by rfl)
    (h1 : (assignEach [.Subscript (.Name x px) b tpos] X.env).map (·.2) = [assign (.Subscript (.Name x px) b tpos) X.env] := by rfl) (hd : (x == ("__debug__" : Str)) = false := by decide) (hcd : (x == ("__classdict__" : Str)) = false := by decide) :
    SS X c n (.Assign [.Subscript (.Name x px) b tpos] e pos) (.seti k pb p) := by
  obtain ⟨ti, hi1, hi2⟩ := hi.opd
  refine psImp (ps_asg he.ev (pg_sub (pe_var hN hv hd hcd) hi1 set_list ha) hs hw h1) fun D σ H ⟨F, ρ, fl, ρ', g, e, kk⟩ => ?_
  rw [ex] at e
  obtain ⟨r, ρ1, e1, e⟩ := bind_ok e
  obtain ⟨x0, ρ1', e0, e⟩ := bind_ok e
  have zz := lift_ok e0; clear e0; obtain ⟨e0, e01⟩ := zz
  subst e01
  obtain ⟨dk, ρ2, e2, e⟩ := bind_ok e
  refine ⟨F, ρ, r, ρ1, g, e1, fun v F1 H1 s1 rr => ?_⟩
  obtain ⟨F2, s2, _, rp⟩ := s1.frz rr
  obtain ⟨o, ho, _⟩ := s2.gs.pk e0
  refine ⟨o, ho, hi2 s2.gs e2 fun vi F3 H3 s3 pi => ?_⟩
  split at e
  · rename_i bb ds kk' q
    split at e
    · rename_i j hj
      cases e
      obtain ⟨ad, xs, q1, q2, q3, q4⟩ := s3.gs.own k _ ds q rfl
      rw [ho] at q1; cases q1
      refine ⟨ad, xs, kk', j, rfl, pi.int, q2, by rw [q4.length]; exact hj, ?_⟩
      exact kk F3 σ _ ((s2.trans s3).trans (s3.gs.mut q ho (q4.set (rp.mono s3.fsub) j)))
    · cases e
  · cases e
theorem sx_app_core {x : Str} {k : Nat} {px apos cpos : Pos} (hN : X.N[k]? = some x) (hv : Vis X.env.scope x) (he : SX X c e p) (hline : (apos.endLine == cpos.line) = true := by rfl) (hs : starEach [e] X.env = (false, eval e X.env) :: starEach [] X.env := by rfl)
    (hbase : attributeBase (.Name x px) "append" X.env (eval (.Name x px) X.env) = eval (.Name x px) X.env := by rfl)
    (hfew : ((backTo cpos (starEach [e] X.env)).all (fun x => !x.1) && (backToKw cpos (keywordEach [] X.env)).all (fun x => x.1.isSome)
      && decide ([e].length + ([] : List Keyword).length + (if ([] : List Keyword).isEmpty then 0 else 1) < 30)) = true := by rfl)
    (hsw : swapsWith (.Call (.Attribute (.Name x px) "append" apos) [e] [] cpos) none pos.line X.env = pure false := by rfl)
    (hd : (x == ("__debug__" : Str)) = false := by decide) (hcd : (x == ("__classdict__" : Str)) = false := by decide) : SS X c n (.Expr (.Call (.Attribute (.Name x px) "append" apos) [e] [] cpos) pos) (.app k p) := by
  refine psImp (ps_expr (pe_bm PySem.F.plainAttrs_list PySem.F.slot_list_append PySem.F.type_list_append mt_append (pe_var hN hv hd hcd) (pa_cons he.ev pa_nil hs) hbase hfew hline hs) hsw) fun D σ H ⟨F, ρ, fl, ρ', g, e, kk⟩ => ?_
  rw [ex] at e
  obtain ⟨d0, ρ0, e0, e⟩ := bind_ok e
  have zz := lift_ok e0; clear e0; obtain ⟨e0, e01⟩ := zz
  subst e01
  obtain ⟨r, ρ1, e1, e⟩ := bind_ok e
  obtain ⟨a, xs, h1, h2⟩ := pkL_get g e0
  refine ⟨.ref a, h1, .inl ⟨rfl, xs, h2⟩, F, ρ, r, ρ1, g, e1, fun v F1 H1 s1 rr => ?_⟩
  obtain ⟨F2, s2, _, rp⟩ := s1.frz rr
  split at e
  · rename_i bb ds q
    split at e
    · rename_i hlt
      cases e
      obtain ⟨ad, ys, q1, q2, q3, q4⟩ := s2.gs.own k _ ds q rfl
      rw [h1] at q1; cases q1
      exact ⟨_, ys, v, rfl, rfl, q2, by rw [q4.length]; exact hlt, kk F2 σ _ (s2.trans (s2.gs.mut q h1 (q4.append (.cons rp .nil))))⟩
    · cases e
  · cases e
/-! ### two names at once -/
/-! ### all -/
theorem mapM_asB {ds : List D} {bs : List Bool} (h : ds.mapM asB = some bs) : ds = bs.map D.bl := by
  induction ds generalizing bs with
  | nil => simp at h; subst h; rfl
  | cons d ds ih =>
    rw [List.mapM_cons] at h
    cases hd : asB d with
    | none => rw [hd] at h; cases h
    | some k =>
      rw [hd] at h
      cases hr : ds.mapM asB with
      | none => rw [hr] at h; cases h
      | some r => rw [hr] at h; cases h; rw [List.map_cons, ← ih hr, asB_some hd]
theorem reps_bl {K : PySem.W.Frag} {F : Hp} : ∀ {bs : List Bool} {xs : List V}, Reps K F xs (bs.map D.bl) → xs = bs.map V.bl
  | [], _, h => h.unnil
  | k :: bs, _, h => by
    obtain ⟨v, r, rfl, h1, h2⟩ := h.uncons
    rw [Rep] at h1
    rw [h1, reps_bl h2]; rfl
theorem vals_bl : ∀ {bs : List Bool} {us : List Value}, Vals (bs.map V.bl) us → us = bs.map Value.bool
  | [], _, h => h.zero
  | k :: bs, _, .cons r t => by rw [List.map_cons, ← vals_bl t, show _ = _ from r]
theorem c_quant {id : String} {f : List Bool → Bool} (hc : X.calm = true)
    (rule : ∀ {x : Value} {Q : Value → Shared → Prop} {s : Shared}, wpAny (model X.prog X.w) X.A.in1 (pyIter x) (fun it s₂ => ∃ I fp wr n P St tr, it = .ref I ∧ Walks X.prog X.w X.A.in1 I fp wr n P St ∧ St 0 s₂.heap ∧ TruthOf X.prog X.w X.A.in1 P tr ∧
      ∀ h' tk, (∀ b o, b ∉ wr → s₂.heap.get? b = some o → h'.get? b = some o) → Q (.bool (f ((List.range n).map tr))) { s₂ with heap := h', toks := tk }) X.xe s → wpAny (model X.prog X.w) X.A (call (.builtin id) [x]) Q X.xe s) :
    CallR X (.builtin id) (fun xs H Q => ∃ p ys bs, xs = [.ref p] ∧ SqL X.K H p ys ∧ ys = bs.map V.bl ∧ Q (.bl (f bs)) H) := by
  intro pins s σ H xs us Q I r ⟨p, ys, bs, hx, hq, hy, k⟩
  subst hx; subst hy
  obtain ⟨u, rfl, rx⟩ := r.one
  cases rx
  obtain ⟨its, rv, pl, hz⟩ := I.list hq
  have hits := vals_bl rv
  subst hits
  refine rule (wpAny_pyIter_list pl.isList ?_)
  have hne : p ≠ s.heap.objs.size := by
    obtain ⟨o, h1, _⟩ := pl.isList
    exact Nat.ne_of_lt (Heap.lt_size h1)
  refine ⟨s.heap.objs.size, _, _, _, _, _, fun i => bs.getD i false, rfl, Walks.list (prog := X.prog) (w := X.w) (A := X.A.in1) (show X.A.in1.handled = none from I.ok.hd hc) s.heap.objs.size p hne (bs.map Value.bool).toArray, ⟨⟨_, Heap.get?_push_size _ rfl, rfl, rfl⟩, ?_⟩, ?_, fun h' tk kp => ?_⟩
  · obtain ⟨o, h1, h2⟩ := pl.isList
    exact ⟨o, Heap.get?_push_of_some _ h1, h2⟩
  · intro i v s' Q' E' hP hQ
    have hv : v = .bool (bs.getD i false) := by
      have hP : (bs.map Value.bool)[i]? = some v := by simpa using hP
      rw [List.getElem?_map] at hP
      obtain ⟨k', e1, e2⟩ := map_some hP
      rw [← e2, List.getD_eq_getElem?_getD, e1]; rfl
    subst hv
    exact wpAny_truthy_bool hQ
  · have e : f ((List.range (bs.map Value.bool).toArray.size).map fun i => bs.getD i false) = f bs := by
      congr 1
      apply List.ext_getElem
      · simp
      · intro i h1 h2
        simp at h1
        simp [h1]
    rw [e]
    exact ⟨.bl _, H, I.kept (fun b o z => kp b o (by simp; exact Nat.ne_of_lt (Heap.lt_size z)) (Heap.get?_push_of_some _ z)), rfl, k⟩
theorem c_all (hc : X.calm = true) : CallR X (.builtin "all") (rB1 X.K fun x => blt .all [x]) := by
  intro pins s σ H xs us Q I r ⟨x, hx, F, d, r', sm, px, he, k⟩
  obtain ⟨bs, e1, he⟩ := map_some (show ((itemsL d).bind fun ds => ds.mapM asB).map _ = some r' from he)
  subst he
  obtain ⟨ds, e2, e3⟩ := bindO e1
  have e4 := mapM_asB e3
  cases d with
  | lst es =>
    cases e2
    obtain ⟨p, ys, rfl, hq, rs⟩ := px.lst sm
    rw [e4] at rs
    refine c_quant (f := fun bs => bs.all id) hc (fun h => call_all_walk (wpAny_mono h (fun it s₂ ⟨I, fp, wr, n, P, Sx, tr, h1, h2, h3, h4, h5⟩ => ⟨I, fp, wr, n, P, Sx, tr, h1, h2, h3, h4, fun h' tk kp => ?_⟩) fun _ _ z => z)) pins s σ H xs us Q I r ⟨p, ys, bs, hx, hq, reps_bl rs, RepN.val0 sm (repBl _) k⟩
    have z := h5 h' tk kp
    rw [List.all_map] at z
    exact z
  | _ => cases e2
theorem boot_all : bootBuiltins "all" = some (.builtin "all") := by decide +kernel
theorem sx_all {x : Str} {p' : Pos} (hx : x = "all") (hc : X.calm = true) (hg : Gl X x) (hm : X.mg x = none) (ha : SX X c a pa) (hs : starEach [a] X.env = (false, eval a X.env) :: starEach [] X.env := by rfl) : SX X c (.Call (.Name x p') [a] [] pos) (.blt .all [pa]) := by
  subst hx; exact sx_b1 (fun h => pe_callB (c_all hc) hg hm boot_all h (he := hs)) ha (fun ρ => by rw [HH.ev]) rfl hs
end
end HH
end

section
set_option linter.all false
set_option Elab.async false
set_option maxRecDepth 10000
/-! == of data. -/
namespace HH
open PySem L2 PySem.Spec PyProof.Rows
section
variable {K : PySem.W.Frag}
theorem peqs_len : ∀ {xs ys : List D}, xs.length ≠ ys.length → peqs xs ys = false
  | [], [], h => absurd rfl h
  | [], _ :: _, _ => by simp [peqs]
  | _ :: _, [], _ => by simp [peqs]
  | x :: xs, y :: ys, h => by
    rw [peqs, peqs_len (xs := xs) (ys := ys) (by simpa using h), Bool.and_false]
theorem peqs_range : ∀ {xs ys : List D}, xs.length = ys.length → peqs xs ys = (List.range xs.length).all fun j => peq (xs.getD j .non) (ys.getD j .non)
  | [], [], _ => by rw [peqs]; rfl
  | [], _ :: _, h => by simp at h
  | _ :: _, [], h => by simp at h
  | x :: xs, y :: ys, h => by
    rw [peqs, peqs_range (xs := xs) (ys := ys) (by simpa using h), List.length_cons, List.range_succ_eq_map, List.all_cons, List.all_map]
    rfl
mutual
theorem peq_refl : ∀ d : D, peq d d = true
  | .non => by rw [peq]
  | .bl _ => by rw [peq]; simp
  | .int _ => by rw [peq]; simp
  | .str _ => by rw [peq]; simp
  | .tup ds => by rw [peq]; exact peqs_refl ds
  | .lst ds => by rw [peq]; exact peqs_refl ds
theorem peqs_refl : ∀ ds : List D, peqs ds ds = true
  | [] => by rw [peqs]
  | d :: ds => by rw [peqs, peq_refl d, peqs_refl ds]; rfl
end
theorem flat_inj {F : Hp} {d e : D} {v : V} (hf : flat d = true) (h1 : Rep K F v d) (h2 : Rep K F v e) : d = e := by
  cases d with
  | tup _ => cases hf
  | lst _ => cases hf
  | non =>
    rw [Rep] at h1; subst h1
    cases e with
    | non => rfl
    | tup _ => rw [Rep] at h2; obtain ⟨_, _, q, _⟩ := h2; cases q
    | lst _ => rw [Rep] at h2; obtain ⟨_, _, q, _⟩ := h2; cases q
    | _ => rw [Rep] at h2; cases h2
  | bl k =>
    rw [Rep] at h1; subst h1
    cases e with
    | bl _ => rw [Rep] at h2; cases h2; rfl
    | tup _ => rw [Rep] at h2; obtain ⟨_, _, q, _⟩ := h2; cases q
    | lst _ => rw [Rep] at h2; obtain ⟨_, _, q, _⟩ := h2; cases q
    | _ => rw [Rep] at h2; cases h2
  | int k =>
    rw [Rep] at h1; subst h1
    cases e with
    | int _ => rw [Rep] at h2; cases h2; rfl
    | tup _ => rw [Rep] at h2; obtain ⟨_, _, q, _⟩ := h2; cases q
    | lst _ => rw [Rep] at h2; obtain ⟨_, _, q, _⟩ := h2; cases q
    | _ => rw [Rep] at h2; cases h2
  | str k =>
    rw [Rep] at h1; subst h1
    cases e with
    | str _ => rw [Rep] at h2; cases h2; rfl
    | tup _ => rw [Rep] at h2; obtain ⟨_, _, q, _⟩ := h2; cases q
    | lst _ => rw [Rep] at h2; obtain ⟨_, _, q, _⟩ := h2; cases q
    | _ => rw [Rep] at h2; cases h2
/-- the same value is the same data -/
theorem rep_inj {X : Cx} {pins : List (Addr × Obj)} {σ : L2.St} {H F : Hp} {s : Shared} (I : L2.Inv X pins σ H s) (sm : Same F H) :
    ∀ n : Nat, (∀ d : D, dle n d = true → ∀ (v : V) (e : D), Rep X.K F v d → Rep X.K F v e → d = e) := by
  have tl : ∀ {a : Addr} {xs ys : List V}, SqT X.K F a xs → SqL X.K F a ys → False := fun {a xs ys} h1 h2 => by
    obtain ⟨_, _, ⟨o, q1, q2, _⟩, _⟩ := I.tuple (Same.seqT sm h1)
    obtain ⟨_, _, pl, _⟩ := I.list (sm.seq h2)
    obtain ⟨o', q3, q4, _⟩ := pl.isList
    rw [q1] at q3; cases q3
    rw [q2] at q4
    exact absurd q4 (by decide)
  intro n
  induction n with
  | zero =>
    intro d hd v e h1 h2
    cases d with
    | tup _ => simp [dle] at hd
    | lst _ => simp [dle] at hd
    | non => exact flat_inj rfl h1 h2
    | bl k => exact flat_inj rfl h1 h2
    | int k => exact flat_inj rfl h1 h2
    | str k => exact flat_inj rfl h1 h2
  | succ n ih =>
    have all : ∀ {xs : List V} {ds es : List D}, ds.all (dle n) = true → Reps X.K F xs ds → Reps X.K F xs es → ds = es := fun {xs ds} => by
      induction ds generalizing xs with
      | nil =>
        intro es _ h1 h2
        rw [h1.unnil] at h2
        have := h2.length
        exact (List.eq_nil_of_length_eq_zero this.symm).symm
      | cons d ds ih2 =>
        intro es ha h1 h2
        rw [List.all_cons, Bool.and_eq_true] at ha
        obtain ⟨v, r, rfl, q1, q2⟩ := h1.uncons
        cases es with
        | nil => cases h2.unnil
        | cons e es =>
          obtain ⟨v', r', q0, q3, q4⟩ := h2.uncons
          cases q0
          rw [ih d ha.1 v e q1 q3, ih2 ha.2 q2 q4]
    intro d hd v e h1 h2
    cases d with
    | tup ds =>
      have ha : ds.all (dle n) = true := by simpa [dle] using hd
      rw [Rep] at h1
      obtain ⟨a, xs, rfl, z1, z2⟩ := h1
      cases e with
      | tup es =>
        rw [Rep] at h2
        obtain ⟨a', ys, q, w1, w2⟩ := h2
        cases q
        have := I.tuple_inj (Same.seqT sm z1) (Same.seqT sm w1)
        subst this
        rw [all ha z2 w2]
      | lst es => rw [Rep] at h2; obtain ⟨a', ys, q, w1, w2⟩ := h2; cases q; exact (tl z1 w1).elim
      | _ => rw [Rep] at h2; cases h2
    | lst ds =>
      have ha : ds.all (dle n) = true := by simpa [dle] using hd
      rw [Rep] at h1
      obtain ⟨a, xs, rfl, z1, z2⟩ := h1
      cases e with
      | lst es =>
        rw [Rep] at h2
        obtain ⟨a', ys, q, w1, w2⟩ := h2
        cases q
        have := I.list_inj (sm.seq z1) (sm.seq w1)
        subst this
        rw [all ha z2 w2]
      | tup es => rw [Rep] at h2; obtain ⟨a', ys, q, w1, w2⟩ := h2; cases q; exact (tl w1 z1).elim
      | _ => rw [Rep] at h2; cases h2
    | non => exact flat_inj rfl h1 h2
    | bl k => exact flat_inj rfl h1 h2
    | int k => exact flat_inj rfl h1 h2
    | str k => exact flat_inj rfl h1 h2

theorem eq_flat {A : Around} {s : Shared} {F : Hp} {d e : D} {v u : V} {v' u' : Value} (hd : flat d = true) (he : flat e = true) (h1 : Rep K F v d) (h2 : Rep K F u e) (r1 : RelV v v') (r2 : RelV u u') : SeqAt.EqAt A s v' u' (peq d e) := by
  cases d with
  | tup _ => cases hd
  | lst _ => cases hd
  | non =>
    rw [Rep] at h1; subst h1; cases (show v' = .none from r1)
    cases e with
    | tup _ => cases he
    | lst _ => cases he
    | non => rw [Rep] at h2; subst h2; cases (show u' = .none from r2); rw [peq]; exact SeqAt.EqAt.same _
    | bl _ => rw [Rep] at h2; subst h2; cases (show u' = .bool _ from r2); simp only [peq]; exact SeqAt.EqAt.none_bool _
    | int _ => rw [Rep] at h2; subst h2; obtain ⟨t, rfl⟩ := r2; simp only [peq]; exact SeqAt.EqAt.none_int _ _
    | str _ => rw [Rep] at h2; subst h2; obtain ⟨t, rfl⟩ := r2; simp only [peq]; exact SeqAt.EqAt.none_str _ _
  | bl _ =>
    rw [Rep] at h1; subst h1; cases (show v' = .bool _ from r1)
    cases e with
    | tup _ => cases he
    | lst _ => cases he
    | non => rw [Rep] at h2; subst h2; cases (show u' = .none from r2); simp only [peq]; exact SeqAt.EqAt.bool_none _
    | bl _ => rw [Rep] at h2; subst h2; cases (show u' = .bool _ from r2); simp only [peq]; exact SeqAt.EqAt.bool_bool _ _
    | int _ => rw [Rep] at h2; subst h2; obtain ⟨t, rfl⟩ := r2; simp only [peq]; exact SeqAt.EqAt.bool_int _ _ _
    | str _ => rw [Rep] at h2; subst h2; obtain ⟨t, rfl⟩ := r2; simp only [peq]; exact SeqAt.EqAt.bool_str _ _ _
  | int _ =>
    rw [Rep] at h1; subst h1; obtain ⟨t0, rfl⟩ := r1
    cases e with
    | tup _ => cases he
    | lst _ => cases he
    | non => rw [Rep] at h2; subst h2; cases (show u' = .none from r2); simp only [peq]; exact SeqAt.EqAt.int_none _ _
    | bl _ => rw [Rep] at h2; subst h2; cases (show u' = .bool _ from r2); simp only [peq]; exact SeqAt.EqAt.int_bool _ _ _
    | int _ => rw [Rep] at h2; subst h2; obtain ⟨t, rfl⟩ := r2; simp only [peq]; exact SeqAt.EqAt.int_int _ _ _ _
    | str _ => rw [Rep] at h2; subst h2; obtain ⟨t, rfl⟩ := r2; simp only [peq]; exact SeqAt.EqAt.int_str _ _ _ _
  | str _ =>
    rw [Rep] at h1; subst h1; obtain ⟨t0, rfl⟩ := r1
    cases e with
    | tup _ => cases he
    | lst _ => cases he
    | non => rw [Rep] at h2; subst h2; cases (show u' = .none from r2); simp only [peq]; exact SeqAt.EqAt.str_none _ _
    | bl _ => rw [Rep] at h2; subst h2; cases (show u' = .bool _ from r2); simp only [peq]; exact SeqAt.EqAt.str_bool _ _ _
    | int _ => rw [Rep] at h2; subst h2; obtain ⟨t, rfl⟩ := r2; simp only [peq]; exact SeqAt.EqAt.str_int _ _ _ _
    | str _ => rw [Rep] at h2; subst h2; obtain ⟨t, rfl⟩ := r2; simp only [peq]; exact SeqAt.EqAt.str_str _ _ _ _
theorem eq_tupF {A : Around} {s : Shared} {F : Hp} {ds : List D} {e : D} {u : V} {u' : Value} {a : Addr} {its : Array Value} (ht : s.heap.IsTuple a its) (hu : A.units < cLine) (he : flat e = true) (h2 : Rep K F u e) (r2 : RelV u u') :
    SeqAt.EqAt A s (.ref a) u' (peq (.tup ds) e) ∧ SeqAt.EqAt A s u' (.ref a) (peq e (.tup ds)) := by
  cases e with
  | tup _ => cases he
  | lst _ => cases he
  | non => rw [Rep] at h2; subst h2; cases (show u' = .none from r2); simp only [peq]; exact ⟨SeqAt.EqAt.tuple_none ht hu, SeqAt.EqAt.none_tuple ht hu⟩
  | bl _ => rw [Rep] at h2; subst h2; cases (show u' = .bool _ from r2); simp only [peq]; exact ⟨SeqAt.EqAt.tuple_bool _ ht hu, SeqAt.EqAt.bool_tuple _ ht hu⟩
  | int _ => rw [Rep] at h2; subst h2; obtain ⟨t, rfl⟩ := r2; simp only [peq]; exact ⟨SeqAt.EqAt.tuple_int _ _ ht hu, SeqAt.EqAt.int_tuple _ _ ht hu⟩
  | str _ => rw [Rep] at h2; subst h2; obtain ⟨t, rfl⟩ := r2; simp only [peq]; exact ⟨SeqAt.EqAt.tuple_str _ _ ht hu, SeqAt.EqAt.str_tuple _ _ ht hu⟩
theorem eq_lstF {A : Around} {s : Shared} {F : Hp} {ds : List D} {e : D} {u : V} {u' : Value} {a : Addr} {its : Array Value} (ht : s.heap.IsList a its) (hu : A.units < cLine) (he : flat e = true) (h2 : Rep K F u e) (r2 : RelV u u') :
    SeqAt.EqAt A s (.ref a) u' (peq (.lst ds) e) ∧ SeqAt.EqAt A s u' (.ref a) (peq e (.lst ds)) := by
  cases e with
  | tup _ => cases he
  | lst _ => cases he
  | non => rw [Rep] at h2; subst h2; cases (show u' = .none from r2); simp only [peq]; exact ⟨SeqAt.EqAt.list_none ht hu, SeqAt.EqAt.none_list ht hu⟩
  | bl _ => rw [Rep] at h2; subst h2; cases (show u' = .bool _ from r2); simp only [peq]; exact ⟨SeqAt.EqAt.list_bool _ ht hu, SeqAt.EqAt.bool_list _ ht hu⟩
  | int _ => rw [Rep] at h2; subst h2; obtain ⟨t, rfl⟩ := r2; simp only [peq]; exact ⟨SeqAt.EqAt.list_int _ _ ht hu, SeqAt.EqAt.int_list _ _ ht hu⟩
  | str _ => rw [Rep] at h2; subst h2; obtain ⟨t, rfl⟩ := r2; simp only [peq]; exact ⟨SeqAt.EqAt.list_str _ _ ht hu, SeqAt.EqAt.str_list _ _ ht hu⟩
theorem flat_dle {n : Nat} {d : D} (h : dle n d = true) (h0 : n = 0) : flat d = true := by
  subst h0; cases d <;> first | rfl | simp [dle] at h
/-- == of two values by their data; the tops may be a name's own lists -/
theorem eq_D {X : Cx} {pins : List (Addr × Obj)} {σ : L2.St} {H F : Hp} {s : Shared} (I : L2.Inv X pins σ H s) (sm : Same F H) : ∀ (n : Nat) (A : Around), A.units + n < cLine → ∀ (d e : D), dle n d = true → dle n e = true → ∀ (v u : V) (v' u' : Value),
    Rep X.K F v d → Rep X.K F u e → RelV v v' → RelV u u' → SeqAt.EqAt A s v' u' (peq d e) := by
  intro n
  induction n with
  | zero =>
    intro A hu d e hd he v u v' u' h1 h2 r1 r2
    exact eq_flat (flat_dle hd rfl) (flat_dle he rfl) h1 h2 r1 r2
  | succ n ih =>
    intro A hu d e hd he v u v' u' h1 h2 r1 r2
    have hu0 : A.units < cLine := by omega
    have hu1 : A.in1.units + n < cLine := by show A.units + 1 + n < cLine; omega
    -- items by place
    have at_ : ∀ {xs ys : List V} {us ws : List Value} {ds es : List D} {j : Nat} (k1 : j < us.toArray.size) (k2 : j < ws.toArray.size), ds.all (dle n) = true → es.all (dle n) = true → Vals xs us → Vals ys ws → Reps X.K F xs ds → Reps X.K F ys es →
        SeqAt.EqAt A.in1 s us.toArray[j] ws.toArray[j] (peq (ds.getD j .non) (es.getD j .non)) := fun {xs ys us ws ds es j} k1 k2 a1 a2 v1 v2 p1 p2 => by
      have k1 : j < us.length := by simpa using k1
      have k2 : j < ws.length := by simpa using k2
      have l1 : j < ds.length := by rw [← p1.length, v1.length]; exact k1
      have l2 : j < es.length := by rw [← p2.length, v2.length]; exact k2
      obtain ⟨x, g1, g2⟩ := p1.get (show ds[j]? = some ds[j] by simp [l1])
      obtain ⟨y, g3, g4⟩ := p2.get (show es[j]? = some es[j] by simp [l2])
      obtain ⟨x', g5, g6⟩ := v1.get g1
      obtain ⟨y', g7, g8⟩ := v2.get g3
      have e1 : us.toArray[j] = x' := by have := (List.getElem?_eq_some_iff.mp g5).2; simpa using this
      have e2 : ws.toArray[j] = y' := by have := (List.getElem?_eq_some_iff.mp g7).2; simpa using this
      have e3 : ds.getD j .non = ds[j] := by simp [List.getD, l1]
      have e4 : es.getD j .non = es[j] := by simp [List.getD, l2]
      rw [e1, e2, e3, e4]
      exact ih A.in1 hu1 _ _ (List.all_eq_true.mp a1 _ (List.getElem_mem l1)) (List.all_eq_true.mp a2 _ (List.getElem_mem l2)) x y x' y' g2 g4 g6 g8
    -- the same object
    have same : ∀ {a : Addr}, v = .ref a → u = .ref a → SeqAt.EqAt A s v' u' (peq d e) := fun {a} q1 q2 => by
      subst q1; subst q2
      have := rep_inj I sm (n + 1) d hd _ e h1 h2
      subst this
      rw [peq_refl]
      cases r1; cases r2
      exact SeqAt.EqAt.same _
    cases d with
    | tup ds =>
      have ha : ds.all (dle n) = true := by simpa [dle] using hd
      have h1' := h1
      rw [Rep] at h1'
      obtain ⟨a, xs, rfl, z1, z2⟩ := h1'
      cases r1
      obtain ⟨us, v1, p1, _⟩ := I.tuple (Same.seqT sm z1)
      cases e with
      | tup es =>
        have hb : es.all (dle n) = true := by simpa [dle] using he
        have h2' := h2
        rw [Rep] at h2'
        obtain ⟨b, ys, rfl, w1, w2⟩ := h2'
        by_cases hab : a = b
        · subst hab; exact same rfl rfl
        · cases r2
          obtain ⟨ws, v2, p2, _⟩ := I.tuple (Same.seqT sm w1)
          refine .of_refs hab ?_
          have z := SeqAt.RcAt.tuples (A := A) (e := fun j => peq (ds.getD j .non) (es.getD j .non)) p1 p2 hu0 fun j k1 k2 => at_ k1 k2 ha hb v1 v2 z2 w2
          have l1 : us.toArray.size = ds.length := by rw [List.size_toArray, ← v1.length, z2.length]
          have l2 : ws.toArray.size = es.length := by rw [List.size_toArray, ← v2.length, w2.length]
          rw [l1, l2] at z
          have e0 : peq (.tup ds) (.tup es) = ((List.range (min ds.length es.length)).all (fun j => peq (ds.getD j .non) (es.getD j .non)) && ds.length == es.length) := by
            rw [peq]
            by_cases hl : ds.length = es.length
            · rw [peqs_range hl, hl]; simp
            · rw [peqs_len hl]
              have : (ds.length == es.length) = false := by simpa using hl
              rw [this, Bool.and_false]
          rw [e0]
          exact z
      | lst es =>
        rw [Rep] at h2
        obtain ⟨b, ys, rfl, w1, w2⟩ := h2
        cases r2
        obtain ⟨ws, v2, p2, _⟩ := I.list (sm.seq w1)
        simp only [peq]
        exact SeqAt.EqAt.tuple_list p1 p2.isList hu0
      | non => exact (eq_tupF p1 hu0 rfl h2 r2).1
      | bl _ => exact (eq_tupF p1 hu0 rfl h2 r2).1
      | int _ => exact (eq_tupF p1 hu0 rfl h2 r2).1
      | str _ => exact (eq_tupF p1 hu0 rfl h2 r2).1
    | lst ds =>
      have ha : ds.all (dle n) = true := by simpa [dle] using hd
      have h1' := h1
      rw [Rep] at h1'
      obtain ⟨a, xs, rfl, z1, z2⟩ := h1'
      cases r1
      obtain ⟨us, v1, p1, _⟩ := I.list (sm.seq z1)
      cases e with
      | lst es =>
        have hb : es.all (dle n) = true := by simpa [dle] using he
        have h2' := h2
        rw [Rep] at h2'
        obtain ⟨b, ys, rfl, w1, w2⟩ := h2'
        by_cases hab : a = b
        · subst hab; exact same rfl rfl
        · cases r2
          obtain ⟨ws, v2, p2, _⟩ := I.list (sm.seq w1)
          refine .of_refs hab ?_
          have l1 : us.toArray.size = ds.length := by rw [List.size_toArray, ← v1.length, z2.length]
          have l2 : ws.toArray.size = es.length := by rw [List.size_toArray, ← v2.length, w2.length]
          rw [peq]
          by_cases hl : ds.length = es.length
          · have z := SeqAt.RcAt.lists (A := A) (e := fun j => peq (ds.getD j .non) (es.getD j .non)) p1.isList p2.isList (by rw [l1, l2, hl]) hu0 fun j k1 k2 => at_ k1 k2 ha hb v1 v2 z2 w2
            rw [l1] at z
            rw [peqs_range hl]
            exact z
          · rw [peqs_len hl]
            exact SeqAt.RcAt.lists_lengths p1.isList p2.isList (by rw [l1, l2]; simpa using hl) hu0
      | tup es =>
        rw [Rep] at h2
        obtain ⟨b, ys, rfl, w1, w2⟩ := h2
        cases r2
        obtain ⟨ws, v2, p2, _⟩ := I.tuple (Same.seqT sm w1)
        simp only [peq]
        exact SeqAt.EqAt.list_tuple p1.isList p2 hu0
      | non => exact (eq_lstF p1.isList hu0 rfl h2 r2).1
      | bl _ => exact (eq_lstF p1.isList hu0 rfl h2 r2).1
      | int _ => exact (eq_lstF p1.isList hu0 rfl h2 r2).1
      | str _ => exact (eq_lstF p1.isList hu0 rfl h2 r2).1
    | non | bl _ | int _ | str _ =>
      cases e with
      | tup es =>
        rw [Rep] at h2
        obtain ⟨b, ys, rfl, w1, w2⟩ := h2
        cases r2
        obtain ⟨ws, v2, p2, _⟩ := I.tuple (Same.seqT sm w1)
        exact (eq_tupF p2 hu0 rfl h1 r1).2
      | lst es =>
        rw [Rep] at h2
        obtain ⟨b, ys, rfl, w1, w2⟩ := h2
        cases r2
        obtain ⟨ws, v2, p2, _⟩ := I.list (sm.seq w1)
        exact (eq_lstF p2.isList hu0 rfl h1 r1).2
      | _ => exact eq_flat rfl rfl h1 h2 r1 r2
end
end HH
end

section
set_option linter.all false
set_option Elab.async false
set_option maxRecDepth 10000
namespace HH
open PySem L2 PySem.Spec PyProof.Rows
section
variable {X : Cx} {pins : List (Addr × Obj)} {σ : L2.St} {H F : Hp} {s : Shared} {A : Around}
abbrev RC (A : Around) (s : Shared) (v u : Value) (k : Bool) : Prop := SeqAt.RcAt A s v u k ∧ SeqAt.RcNeAt A s v u (!k)
/-- what stands at the top of data -/
inductive Top (X : Cx) (F H : Hp) (s : Shared) : Value → D → Prop where
  | non : Top X F H s .none .non
  | bl (b : Bool) : Top X F H s (.bool b) (.bl b)
  | int (i : Int) (t : Tok) : Top X F H s (.int i t) (.int i)
  | str (x : Str) (t : Tok) : Top X F H s (.str x t) (.str x)
  | tup {a : Addr} {us : List Value} {xs : List V} {ds : List D} (ht : s.heap.IsTuple a us.toArray) (hv : Vals xs us) (hr : Reps X.K F xs ds) : Top X F H s (.ref a) (.tup ds)
  | lst {a : Addr} {us : List Value} {xs : List V} {ds : List D} (ht : s.heap.IsList a us.toArray) (hv : Vals xs us) (hr : Reps X.K F xs ds) : Top X F H s (.ref a) (.lst ds)
theorem top_of (I : L2.Inv X pins σ H s) (sm : Same F H) {v : V} {v' : Value} {d : D} (h : PRep X.K F H v d) (r : RelV v v') : Top X F H s v' d := by
  cases d with
  | non => rw [h.non] at r; cases r; exact .non
  | bl b => rw [h.bl] at r; cases r; exact .bl b
  | int i => rw [h.int] at r; obtain ⟨t, rfl⟩ := r; exact .int i t
  | str x => rw [h.str] at r; obtain ⟨t, rfl⟩ := r; exact .str x t
  | tup ds =>
    obtain ⟨a, xs, rfl, h1, h2, _⟩ := h.tup sm
    cases r
    obtain ⟨us, v1, p1, _⟩ := I.tuple h1
    exact .tup p1 v1 h2
  | lst ds =>
    obtain ⟨a, xs, rfl, h1, h2⟩ := h.lst sm
    cases r
    obtain ⟨us, v1, p1, _⟩ := I.list h1
    exact .lst p1.isList v1 h2
theorem rc_D (I : L2.Inv X pins σ H s) (sm : Same F H) {n : Nat} (hu : A.units + (n + 1) < cLine) {d e : D} (hd : dle (n + 1) d = true) (he : dle (n + 1) e = true) {v' u' : Value} (h1 : Top X F H s v' d) (h2 : Top X F H s u' e) : RC A s v' u' (peq d e) := by
  have hu0 : A.units < cLine := by omega
  have hu1 : A.in1.units + n < cLine := by show A.units + 1 + n < cLine; omega
  have at_ : ∀ {xs ys : List V} {us ws : List Value} {ds es : List D} {j : Nat} (k1 : j < us.toArray.size) (k2 : j < ws.toArray.size), ds.all (dle n) = true → es.all (dle n) = true → Vals xs us → Vals ys ws → Reps X.K F xs ds → Reps X.K F ys es →
      SeqAt.EqAt A.in1 s us.toArray[j] ws.toArray[j] (peq (ds.getD j .non) (es.getD j .non)) := fun {xs ys us ws ds es j} k1 k2 a1 a2 v1 v2 p1 p2 => by
    have k1 : j < us.length := by simpa using k1
    have k2 : j < ws.length := by simpa using k2
    have l1 : j < ds.length := by rw [← p1.length, v1.length]; exact k1
    have l2 : j < es.length := by rw [← p2.length, v2.length]; exact k2
    obtain ⟨x, g1, g2⟩ := p1.get (show ds[j]? = some ds[j] by simp [l1])
    obtain ⟨y, g3, g4⟩ := p2.get (show es[j]? = some es[j] by simp [l2])
    obtain ⟨x', g5, g6⟩ := v1.get g1
    obtain ⟨y', g7, g8⟩ := v2.get g3
    have e1 : us.toArray[j] = x' := by have := (List.getElem?_eq_some_iff.mp g5).2; simpa using this
    have e2 : ws.toArray[j] = y' := by have := (List.getElem?_eq_some_iff.mp g7).2; simpa using this
    have e3 : ds.getD j .non = ds[j] := by simp [List.getD, l1]
    have e4 : es.getD j .non = es[j] := by simp [List.getD, l2]
    rw [e1, e2, e3, e4]
    exact eq_D I sm n A.in1 hu1 _ _ (List.all_eq_true.mp a1 _ (List.getElem_mem l1)) (List.all_eq_true.mp a2 _ (List.getElem_mem l2)) x y x' y' g2 g4 g6 g8
  cases h1 with
  | non =>
    cases h2 with
    | non => simp only [peq]; exact ⟨SeqAt.RcAt.none_none, SeqAt.RcNeAt.none_none⟩
    | bl b => simp only [peq]; exact ⟨SeqAt.RcAt.none_bool _, SeqAt.RcNeAt.none_bool _⟩
    | int i t => simp only [peq]; exact ⟨SeqAt.RcAt.none_int _ _, SeqAt.RcNeAt.none_int _ _⟩
    | str i t => simp only [peq]; exact ⟨SeqAt.RcAt.none_str _ _, SeqAt.RcNeAt.none_str _ _⟩
    | tup ht _ _ => simp only [peq]; exact ⟨SeqAt.RcAt.none_tuple ht hu0, SeqAt.RcNeAt.none_tuple ht hu0⟩
    | lst ht _ _ => simp only [peq]; exact ⟨SeqAt.RcAt.none_list ht hu0, SeqAt.RcNeAt.none_list ht hu0⟩
  | bl b0 =>
    cases h2 with
    | non => simp only [peq]; exact ⟨SeqAt.RcAt.bool_none _, SeqAt.RcNeAt.bool_none _⟩
    | bl b => simp only [peq]; exact ⟨SeqAt.RcAt.bool_bool _ _, SeqAt.RcNeAt.bool_bool _ _⟩
    | int i t => simp only [peq]; exact ⟨SeqAt.RcAt.bool_int _ _ _, SeqAt.RcNeAt.bool_int _ _ _⟩
    | str i t => simp only [peq]; exact ⟨SeqAt.RcAt.bool_str _ _ _, SeqAt.RcNeAt.bool_str _ _ _⟩
    | tup ht _ _ => simp only [peq]; exact ⟨SeqAt.RcAt.bool_tuple _ ht hu0, SeqAt.RcNeAt.bool_tuple _ ht hu0⟩
    | lst ht _ _ => simp only [peq]; exact ⟨SeqAt.RcAt.bool_list _ ht hu0, SeqAt.RcNeAt.bool_list _ ht hu0⟩
  | int i0 t0 =>
    cases h2 with
    | non => simp only [peq]; exact ⟨SeqAt.RcAt.int_none _ _, SeqAt.RcNeAt.int_none _ _⟩
    | bl b => simp only [peq]; exact ⟨SeqAt.RcAt.int_bool _ _ _, SeqAt.RcNeAt.int_bool _ _ _⟩
    | int i t => simp only [peq]; exact ⟨SeqAt.RcAt.int_int _ _ _ _, SeqAt.RcNeAt.int_int _ _ _ _⟩
    | str i t => simp only [peq]; exact ⟨SeqAt.RcAt.int_str _ _ _ _, SeqAt.RcNeAt.int_str _ _ _ _⟩
    | tup ht _ _ => simp only [peq]; exact ⟨SeqAt.RcAt.int_tuple _ _ ht hu0, SeqAt.RcNeAt.int_tuple _ _ ht hu0⟩
    | lst ht _ _ => simp only [peq]; exact ⟨SeqAt.RcAt.int_list _ _ ht hu0, SeqAt.RcNeAt.int_list _ _ ht hu0⟩
  | str i0 t0 =>
    cases h2 with
    | non => simp only [peq]; exact ⟨SeqAt.RcAt.str_none _ _, SeqAt.RcNeAt.str_none _ _⟩
    | bl b => simp only [peq]; exact ⟨SeqAt.RcAt.str_bool _ _ _, SeqAt.RcNeAt.str_bool _ _ _⟩
    | int i t => simp only [peq]; exact ⟨SeqAt.RcAt.str_int _ _ _ _, SeqAt.RcNeAt.str_int _ _ _ _⟩
    | str i t => simp only [peq]; exact ⟨SeqAt.RcAt.str_str _ _ _ _, SeqAt.RcNeAt.str_str _ _ _ _⟩
    | tup ht _ _ => simp only [peq]; exact ⟨SeqAt.RcAt.str_tuple _ _ ht hu0, SeqAt.RcNeAt.str_tuple _ _ ht hu0⟩
    | lst ht _ _ => simp only [peq]; exact ⟨SeqAt.RcAt.str_list _ _ ht hu0, SeqAt.RcNeAt.str_list _ _ ht hu0⟩
  | @tup a us xs ds ht hv hr =>
    have ha : ds.all (dle n) = true := by simpa [dle] using hd
    cases h2 with
    | non => simp only [peq]; exact ⟨SeqAt.RcAt.tuple_none ht hu0, SeqAt.RcNeAt.tuple_none ht hu0⟩
    | bl b => simp only [peq]; exact ⟨SeqAt.RcAt.tuple_bool _ ht hu0, SeqAt.RcNeAt.tuple_bool _ ht hu0⟩
    | int i t => simp only [peq]; exact ⟨SeqAt.RcAt.tuple_int _ _ ht hu0, SeqAt.RcNeAt.tuple_int _ _ ht hu0⟩
    | str i t => simp only [peq]; exact ⟨SeqAt.RcAt.tuple_str _ _ ht hu0, SeqAt.RcNeAt.tuple_str _ _ ht hu0⟩
    | lst ht2 _ _ => simp only [peq]; exact ⟨SeqAt.RcAt.tuple_list ht ht2 hu0, SeqAt.RcNeAt.tuple_list ht ht2 hu0⟩
    | @tup b ws ys es ht2 hv2 hr2 =>
      have hb : es.all (dle n) = true := by simpa [dle] using he
      have l1 : us.toArray.size = ds.length := by rw [List.size_toArray, ← hv.length, hr.length]
      have l2 : ws.toArray.size = es.length := by rw [List.size_toArray, ← hv2.length, hr2.length]
      have z1 := SeqAt.RcAt.tuples (A := A) (e := fun j => peq (ds.getD j .non) (es.getD j .non)) ht ht2 hu0 fun j k1 k2 => at_ k1 k2 ha hb hv hv2 hr hr2
      have z2 := SeqAt.RcNeAt.tuples (A := A) (e := fun j => peq (ds.getD j .non) (es.getD j .non)) ht ht2 hu0 fun j k1 k2 => at_ k1 k2 ha hb hv hv2 hr hr2
      rw [l1, l2] at z1 z2
      have e0 : peq (.tup ds) (.tup es) = ((List.range (min ds.length es.length)).all (fun j => peq (ds.getD j .non) (es.getD j .non)) && ds.length == es.length) := by
        rw [peq]
        by_cases hl : ds.length = es.length
        · rw [peqs_range hl, hl]; simp
        · rw [peqs_len hl]
          have : (ds.length == es.length) = false := by simpa using hl
          rw [this, Bool.and_false]
      rw [e0]
      exact ⟨z1, z2⟩
  | @lst a us xs ds ht hv hr =>
    have ha : ds.all (dle n) = true := by simpa [dle] using hd
    cases h2 with
    | non => simp only [peq]; exact ⟨SeqAt.RcAt.list_none ht hu0, SeqAt.RcNeAt.list_none ht hu0⟩
    | bl b => simp only [peq]; exact ⟨SeqAt.RcAt.list_bool _ ht hu0, SeqAt.RcNeAt.list_bool _ ht hu0⟩
    | int i t => simp only [peq]; exact ⟨SeqAt.RcAt.list_int _ _ ht hu0, SeqAt.RcNeAt.list_int _ _ ht hu0⟩
    | str i t => simp only [peq]; exact ⟨SeqAt.RcAt.list_str _ _ ht hu0, SeqAt.RcNeAt.list_str _ _ ht hu0⟩
    | tup ht2 _ _ => simp only [peq]; exact ⟨SeqAt.RcAt.list_tuple ht ht2 hu0, SeqAt.RcNeAt.list_tuple ht ht2 hu0⟩
    | @lst b ws ys es ht2 hv2 hr2 =>
      have hb : es.all (dle n) = true := by simpa [dle] using he
      have l1 : us.toArray.size = ds.length := by rw [List.size_toArray, ← hv.length, hr.length]
      have l2 : ws.toArray.size = es.length := by rw [List.size_toArray, ← hv2.length, hr2.length]
      rw [show peq (.lst ds) (.lst es) = peqs ds es by rw [peq]]
      by_cases hl : ds.length = es.length
      · have z1 := SeqAt.RcAt.lists (A := A) (e := fun j => peq (ds.getD j .non) (es.getD j .non)) ht ht2 (by rw [l1, l2, hl]) hu0 fun j k1 k2 => at_ k1 k2 ha hb hv hv2 hr hr2
        have z2 := SeqAt.RcNeAt.lists (A := A) (e := fun j => peq (ds.getD j .non) (es.getD j .non)) ht ht2 (by rw [l1, l2, hl]) hu0 fun j k1 k2 => at_ k1 k2 ha hb hv hv2 hr hr2
        rw [l1] at z1 z2
        rw [peqs_range hl]
        exact ⟨z1, z2⟩
      · rw [peqs_len hl]
        exact ⟨SeqAt.RcAt.lists_lengths ht ht2 (by rw [l1, l2]; simpa using hl) hu0, SeqAt.RcNeAt.lists_lengths ht ht2 (by rw [l1, l2]; simpa using hl) hu0⟩
theorem op_eqD (hu : X.A.units + 8 < cLine) : OpR X (compareOp .Eq) (rD X.K (cmR .eq)) := by
  intro pins s σ H x y v u Q I rx ry ⟨F, d, e, r, sm, px, py, he, k⟩
  obtain ⟨t, e1, e2⟩ := map_some (show (cmEq d e).map _ = some r from he)
  subst e2
  unfold cmEq at e1
  obtain ⟨hd, e1⟩ := ite_some e1
  rw [Bool.and_eq_true] at hd
  subst e1
  exact (rc_D I sm (n := 7) hu hd.1 hd.2 (top_of I sm px rx) (top_of I sm py ry)).1 _ _ _ _ ⟨.bl _, H, I, rfl, RepN.val0 sm (repBl _) k⟩
theorem op_neD (hu : X.A.units + 8 < cLine) : OpR X (compareOp .NotEq) (rD X.K (cmR .ne)) := by
  intro pins s σ H x y v u Q I rx ry ⟨F, d, e, r, sm, px, py, he, k⟩
  obtain ⟨t, e1, e2⟩ := map_some (show (cmNe d e).map _ = some r from he)
  subst e2
  unfold cmNe at e1
  obtain ⟨hd, e1⟩ := ite_some e1
  rw [Bool.and_eq_true] at hd
  subst e1
  exact (rc_D I sm (n := 7) hu hd.1 hd.2 (top_of I sm px rx) (top_of I sm py ry)).2 _ _ _ _ ⟨.bl _, H, I, rfl, RepN.val0 sm (repBl _) k⟩
end
end HH
end

section
set_option linter.all false
set_option Elab.async false
set_option maxRecDepth 10000
/-! Defs of the text, short words for derivations. -/
namespace HH
open PySem L2 PySem.Spec PyProof.Rows
section
variable {Pg : Program} {w : World} {K : PySem.W.Frag} {mg : Str → Option Value} {base : Heap}
/-- THE RULE: a def by its body -/
theorem fn_ok {x qual : Str} {st : Stmt} {f : Addr} {fd : FuncData} {N ps : List Str} {k n : Nat} {c : Call} {d : Fd} (Fu : Fun K x qual st f fd) (S : FnScope N ps (defScope st)) (h1 : d.np = ps.length) (h2 : d.nn = N.length)
    (hb : ∀ (cdv : Value) (A : Around) (outer : List Env) (s : Shared) (H : Hp) (E : XK), Room k (A.deeper (envOfC qual (defScope st) s.heap.objs.size f cdv)) → SB (cxOf CX0 Pg w K mg base N qual (defScope st) f cdv A outer s H E).nox c n (defBody st) d.body) :
    FnOk Pg w K mg base CX0 (k + 1) f fd ps (spC K ps.length (fun args => enter c n d args)) := by
  refine Fu.ok S (fun vs H Q E h => h.1) fun cdv A outer s H vs Q E hr h => ?_
  obtain ⟨hl, F, args, r, args', g, e, q⟩ := h
  refine ⟨_, hb cdv A outer s H E hr, ?_⟩
  replace e : enter c n d args = .ok r args' := e
  unfold enter at e
  split at e
  · rename_i hc
    obtain ⟨c1, c2⟩ := hc
    have hg := g.more (n := d.nn - d.np) (τ := List.replicate (N.length - vs.length) none) (by simp [h1, h2, hl])
    have hla : args.length = d.np := c1
    have go : ∀ {fl : Fl} {ρ' : List Sl}, exs c n d.body (args ++ List.replicate (d.nn - d.np) .unb) = .ok fl ρ' → (∀ F' σ' H', Stp K F (args ++ List.replicate (d.nn - d.np) .unb) (start N vs) H F' ρ' σ' H' → (match fl with
        | .next => Q .non H'
        | .brk => False
        | .cont => False
        | .ret r => ∀ v, RepR K F' ρ' σ' H' (args ++ List.replicate (d.nn - d.np) .unb) (start N vs) H v r → Q v H')) →
        tEx K (exs c n d.body) { nx := fun _ H' => Q .non H', rt := Q } (start N vs) H := fun {fl ρ'} z k => ⟨F, _, fl, ρ', hg, z, fun F' σ' H' s => by
      have := k F' σ' H' s
      cases fl <;> exact this⟩
    split at e
    · rename_i ρ' z
      cases e
      refine go z fun F' σ' H' s => ?_
      obtain ⟨z1, z2⟩ := Stp.less (m := d.np) hla.symm g (by simp [h1, h2, hl]) s
      exact q .non F' _ H' z1 (show Rep K F' _ _ from repNon)
    · rename_i r' ρ' z
      cases e
      refine go z fun F' σ' H' s v rr => ?_
      obtain ⟨z1, z2⟩ := Stp.less (m := d.np) hla.symm g (by simp [h1, h2, hl]) s
      exact q v F' _ H' z1 (z2 v r rr)
    · cases e
  · cases e
/-- what a caller knows of a def -/
structure CallOk (Pg : Program) (w : World) (K : PySem.W.Frag) (mg : Str → Option Value) (base : Heap) (k : Nat) (c : Call) (i : Nat) (x : Str) (np : Nat) : Prop where
  ex : ∃ fa fd qs, FnOk Pg w K mg base CX0 k fa fd qs (spC K qs.length (c i)) ∧ mg x = some (.ref fa) ∧ PySem.W.keepIn K (.ref fa) = true ∧ Binds K fd qs [] ∧ qs.length = np
end
section
variable {X : Cx} {c : Call} {n k : Nat} {e a b : Expr} {es : List Expr} {p pa pb : P} {ps : List P} {pos : Pos}
theorem sv (i : Nat) {x : Str} (hN : X.N[i]? = some x := by rfl) (hv : Vis X.env.scope x := by first | exact Or.inl rfl | exact Or.inr (Or.inl rfl) | exact Or.inr (Or.inr rfl)) (hd : (x == ("__debug__" : Str)) = false := by rfl) (hcd : (x == ("__classdict__" : Str)) = false := by rfl) : SX X c (.Name x pos) (.var i) := sx_var hN hv hd hcd
theorem sxc {i np : Nat} {x : Str} {p' : Pos} (C : CallOk X.prog X.w X.K X.mg X.base k c i x np) (hr : Room k X.A) (ha : SG X c (e :: es) ps) (hg : Gl X x := by rfl) (hl : (e :: es).length = np := by rfl) (hdb : (x == ("__debug__" : Str)) = false := by rfl)
    (he : starEach (e :: es) X.env = (false, eval e X.env) :: starEach es X.env := by rfl) (hpl : (backTo pos (starEach es X.env)).any (·.1) = false := by rfl) (hl2 : ps.length = (e :: es).length := by rfl) : SX X c (.Call (.Name x p') (e :: es) [] pos) (.call i ps) := by
  obtain ⟨fa, fd, qs, h1, h2, h3, h4, h5⟩ := C.ex
  exact sx_call h1 hr hg h2 h3 h4 ha (hl.trans h5.symm) hdb he hpl hl2
/-- the scopes of a comprehension, looked at -/
def compB (names outer : List (Str × NameKind)) (N N' : List Str) (n : Nat) : Bool :=
  (names.all fun y => y.2 != .cell) && (names.all fun y => y.2 != .local || names.lookup y.1 == some .local) && (names.all fun y => y.2 != .free || outer.lookup y.1 == some .cell || outer.lookup y.1 == some .free) && N'.length == N.length + n &&
  ((N.zip N').all fun p => (p.1 == p.2 && names.lookup p.2 == some .free) || (names.lookup p.2 != some .local && names.lookup p.2 != some .cell && names.lookup p.2 != some .free))
theorem cOk {scope : Scope} {N' : List Str} (hk : scope.kind = .function) (h : compB scope.names X.env.scope.names X.N N' n = true) : CompOk X scope N' n := by
  unfold compB at h
  simp only [Bool.and_eq_true] at h
  obtain ⟨⟨⟨⟨h1, h2⟩, h3⟩, h4⟩, h5⟩ := h
  refine ⟨hk, fun y hy e => ?_, fun y hy e => ?_, fun y hy e => ?_, by simpa using h4, h5⟩
  · have := List.all_eq_true.mp h1 y hy
    rw [e] at this; cases this
  · have := List.all_eq_true.mp h2 y hy
    rw [e] at this
    simpa using this
  · have := List.all_eq_true.mp h3 y hy
    rw [e] at this
    simp only [Bool.or_eq_true] at this
    rcases this with (z | z) | z
    · cases z
    · exact .inl (eq_of_beq z)
    · exact .inr (eq_of_beq z)
theorem room_u {A : Around} (h : Room k A) : A.units + 8 < cLine := by have := h.un; omega
end
end HH
end

section
set_option linter.all false
set_option Elab.async false
set_option maxRecDepth 100000
namespace PySem
open AutoSeq1 (wpAny_loadPart')
section
variable {prog : Program} {w : World} {A : Around} {E : Value → Shared → Prop} {s : Shared}
theorem nextOf_tuple_item {it l : Addr} {i : Nat} {items : Array Value} {x : Value} {Q : Value → Shared → Prop} (hit : s.heap.IsTupleIter it l i)
    (hl : s.heap.IsTuple l items) (hx : items[i]? = some x)
    (hQ : ∀ h', h'.IsTupleIter it l (i + 1) → Heap.SameBut it s.heap h' → Q x { s with heap := h' }) :
    wpAny (model prog w) A (Builtin.SmallTypes.nextOf (.ref it)) Q E s := by
  obtain ⟨o, ho, hc, hd⟩ := id hit
  obtain ⟨ol, hol, _, nl, hdl⟩ := hl
  unfold Builtin.SmallTypes.nextOf
  refine wpAny_bind (wpAny_callSpecial?_slot (name := Str.ofString "__next__") hit.typeIs F.slot_tuple_iterator_next
    (wpAny_call_entry F.slot_tuple_iterator_next hit.typeIs F.entry_tuple_iterator_next ?_ (F.args_tuple_iterator_next_1 _)))
  show wpAny _ _ (field (.ref it) 0 >>= _) _ _ s
  refine wpAny_bind (wpAny_field ho hd (x := .ref l) rfl ?_)
  show wpAny _ _ (if (Value.ref l == Value.none) = true then _ else _) _ _ s
  rw [if_neg (show ¬ ((Value.ref l == Value.none) = true) from Bool.false_ne_true)]
  show wpAny _ _ (field (.ref it) 1 >>= _) _ _ s
  refine wpAny_bind (wpAny_field ho hd (x := .int i 0) rfl ?_)
  show wpAny _ _ (seqItems? (.ref l) >>= _) _ _ s
  refine wpAny_bind (wpAny_seqItems hol hdl ?_)
  simp only [Int.toNat_natCast, hx]
  refine wpAny_bind (wpAny_setField ho hd (by simp) (wpAny_pure ⟨x, rfl, wpAny_pure (hQ _ ?_ (Heap.SameBut.update ..))⟩))
  exact ⟨_, Heap.get?_update_self _ ho (Obj.isFreed_of_fields (Obj.data_mapFields hd _)), (Obj.cls_mapFields ..).trans hc, by
    rw [Obj.data_mapFields hd]; simp [rawInt]⟩
theorem nextOf_tuple_end {it l : Addr} {i : Nat} {items : Array Value} {Q : Value → Shared → Prop} (hh : A.handled = none)
    (hit : s.heap.IsTupleIter it l i) (hl : s.heap.IsTuple l items) (hx : items[i]? = none)
    (hE : ∀ h' e, Heap.ExtBut it s.heap h' → (∃ o, h'.get? e = some o ∧ o.cls = .type "StopIteration") → E (.ref e) { s with heap := h' }) :
    wpAny (model prog w) A (Builtin.SmallTypes.nextOf (.ref it)) Q E s := by
  obtain ⟨o, ho, hc, hd⟩ := id hit
  obtain ⟨ol, hol, _, nl, hdl⟩ := hl
  unfold Builtin.SmallTypes.nextOf
  refine wpAny_bind (wpAny_callSpecial?_slot (name := Str.ofString "__next__") hit.typeIs F.slot_tuple_iterator_next
    (wpAny_call_entry F.slot_tuple_iterator_next hit.typeIs F.entry_tuple_iterator_next ?_ (F.args_tuple_iterator_next_1 _)))
  show wpAny _ _ (field (.ref it) 0 >>= _) _ _ s
  refine wpAny_bind (wpAny_field ho hd (x := .ref l) rfl ?_)
  show wpAny _ _ (if (Value.ref l == Value.none) = true then _ else _) _ _ s
  rw [if_neg (show ¬ ((Value.ref l == Value.none) = true) from Bool.false_ne_true)]
  show wpAny _ _ (field (.ref it) 1 >>= _) _ _ s
  refine wpAny_bind (wpAny_field ho hd (x := .int i 0) rfl ?_)
  show wpAny _ _ (seqItems? (.ref l) >>= _) _ _ s
  refine wpAny_bind (wpAny_seqItems hol hdl ?_)
  simp only [Int.toNat_natCast, hx]
  refine wpAny_bind (wpAny_rule (wpAny_bind (wpAny_setField ho hd (by simp) ?_)))
  show wpAny _ _ (newExc (.type "StopIteration") [] >>= _) _ _ _
  refine wpAny_bind ?_
  simp only [newExc, newTuple]
  refine wpAny_bind (wpAny_newObj_type ?_ (by size_fits))
  refine wpAny_bind (m := firstArgMember _ _) (wpAny_of_eq (a := Value.none) (by first | rfl | (simp only [firstArgMember]; rfl)) ?_)
  refine wpAny_newObj_type ?_ (by size_fits)
  simp only [raiseNew]
  refine wpAny_bind (wpAny_handled ?_)
  first | rw [show A.in1.handled = none from hh] | rw [hh]
  refine wpAny_bind (wpAny_pure (wpAny_throw ?_))
  exact hE _ _ (((Heap.SameBut.update ..).extBut.push _).push _) ⟨_, Heap.get?_push_size _ rfl, rfl⟩
end
section
variable {prog : Program} {w : World} {A : Around} {E : Value → Shared → Prop} {s : Shared}
end
end PySem
end

section
set_option linter.all false
set_option Elab.async false
set_option maxRecDepth 100000
namespace L2
open PySem PySem.Spec PyProof.Rows
section
variable {X : Cx} {pins : List (Addr × Obj)} {σ : L2.St} {H : Hp} {s : Shared}
/-- records of ours have turned, and one new object is laid -/
theorem Inv.laidCh {ch : List Addr} {h' : Heap} {o : HO} {t' : Nat} (I : Inv X pins σ H s) (k : ∀ b u, b ∉ ch → s.heap.get? b = some u → h'.get? b = some u) (hl : ∀ b ∈ ch, ∃ u, h'.get? b = some u) (hf : ∀ b ∈ ch, FpOk X pins H b)
    (new : ObjOk X.prog X.w (upd H s.heap.objs.size o) h' s.heap.objs.size o) : Inv X pins σ (upd H s.heap.objs.size o) { s with heap := h', toks := t' } := by
  have fr : H s.heap.objs.size = none := I.hok.fresh (Nat.le_refl _)
  have nch : ∀ b u, H b = some u → b ∉ ch := fun b u e hb => by rw [(hf b hb).1] at e; cases e
  have up : ∀ b u, H b = some u → upd H s.heap.objs.size o b = some u := fun b u e => by
    have : b ≠ s.heap.objs.size := by rintro rfl; rw [fr] at e; cases e
    rw [upd_ne this]; exact e
  refine I.call (g' := s.gens) (d' := s.drawn) (ch := ch) ⟨fun b u e n _ hx => k b u hx e, fun b u e n _ hx => ⟨u.slots, k b u hx e⟩, fun b u e n hx => ?_, fun b u e hx => ⟨u, k b u hx e⟩, fun b xs e => up b _ e, fun b ob u e => up b _ e, fun b ps e => ⟨#[], by rw [up b _ e]; simp⟩⟩ ?_ I.bare
    fun b hb => ⟨(hf b hb).2.2.2.1, (hf b hb).2.1, (hf b hb).2.2.2.2.1, (hf b hb).2.2.2.2.2⟩
  · have : b ≠ s.heap.objs.size := Nat.ne_of_lt (Heap.lt_size e)
    rw [upd_ne this]; exact n
  · intro b u e
    by_cases hb : b = s.heap.objs.size
    · subst hb; rw [upd_same] at e; cases e; exact new
    · rw [upd_ne hb] at e
      refine (I.hok b u e).stay (fun c v hc q => k c v ?_ q) (fun c q => up c _ q) fun c xs q => up c _ q
      rcases hc with rfl | hc
      · exact nch _ _ e
      · exact nch _ _ hc
end

/-! ### enumerate over a list -/
def IteL (K : PySem.W.Frag) (a : Addr) : It :=
  ⟨fun i H => ∃ xs x, SqL K H a xs ∧ xs[i]? = some x, fun i H x H' => ∃ T v, H T = none ∧ x = .ref T ∧ H' = upd H T (.tup [.int (i : Int), v]) ∧ ∀ xs, SqL K H a xs → xs[i]? = some v, fun i H => ∃ xs, SqL K H a xs ∧ xs.length ≤ i⟩
/-! ### enumerate over a tuple -/
def IteT (K : PySem.W.Frag) (a : Addr) : It :=
  ⟨fun i H => ∃ xs x, SqT K H a xs ∧ xs[i]? = some x, fun i H x H' => ∃ T v, H T = none ∧ x = .ref T ∧ H' = upd H T (.tup [.int (i : Int), v]) ∧ ∀ xs, SqT K H a xs → xs[i]? = some v, fun i H => ∃ xs, SqT K H a xs ∧ xs.length ≤ i⟩
section
variable {X : Cx} {elts : List Expr} {x1 : Nat} {tp : Pos}
/-- enumerate(l), walked with several names -/
def iEnm (K : PySem.W.Frag) (tl : TE) : TI := fun σ H R => tl σ H fun x H1 => ∃ a, x = .ref a ∧ (((∃ xs, SqL K H1 a xs) ∧ R (IteL K a) H1) ∨ ((∃ xs, SqT K H1 a xs) ∧ R (IteT K a) H1))
end
end L2
namespace HH
open PySem L2 PySem.Spec PyProof.Rows
section
variable {K : PySem.W.Frag} {F F1 H H1 : Hp} {ρ ρ1 : List Sl} {σ : L2.St} {ds : List D} {a : Addr}
/-- a new pair -/
theorem pair_new {F' H' : Hp} {T : Addr} {v w : V} {d1 d2 : D} (sm : Same F' H') (hT : H' T = none) (r1 : Rep K F' v d1) (r2 : Rep K F' w d2) : ∃ F'', Ext F' H' F'' (upd H' T (.tup [v, w])) ∧ Rep K F'' (.ref T) (.tup [d1, d2]) :=
  newT (Q := fun v H'' => ∃ F'', Ext F' H' F'' H'' ∧ Rep K F'' v (.tup [d1, d2])) sm (.cons r1 (.cons r2 .nil)) hT fun v F'' H'' x rn => ⟨F'', x, rn⟩
end
section
variable {X : Cx} {c : Call} {e a : Expr} {pa : P} {pos : Pos} {elts : List Expr} {x1 : Nat} {tp : Pos}
end
end HH
end

section
set_option linter.all false
set_option Elab.async false
set_option maxRecDepth 100000
namespace PySem
/-- an iterator over a list or a tuple, by what nextOf does -/
structure Nx (prog : Program) (w : World) (A : Around) (it src : Addr) (Sx : Nat → Heap → Prop) (get : Nat → Option Value) : Prop where
  obj : ∀ k h, Sx k h → ∃ o, h.get? it = some o ∧ ∀ v, o.data ≠ .cell v
  keep : ∀ k h h', Sx k h → (∀ o, h.get? it = some o → h'.get? it = some o) → (∀ o, h.get? src = some o → h'.get? src = some o) → Sx k h'
  item : ∀ k (s : Shared) (Q : Value → Shared → Prop) (E : Value → Shared → Prop) x, Sx k s.heap → get k = some x → (∀ h', Sx (k + 1) h' → Heap.SameBut it s.heap h' → Q x { s with heap := h' }) → wpAny (model prog w) A (Builtin.SmallTypes.nextOf (.ref it)) Q E s
  fin : ∀ k (s : Shared) (Q : Value → Shared → Prop) (E : Value → Shared → Prop), Sx k s.heap → get k = none →
    (∀ h' e, Heap.ExtBut it s.heap h' → (∃ o, h'.get? e = some o ∧ o.cls = .type "StopIteration") → E (.ref e) { s with heap := h' }) → wpAny (model prog w) A (Builtin.SmallTypes.nextOf (.ref it)) Q E s
section
variable {prog : Program} {w : World} {A : Around} {E : Value → Shared → Prop} {s : Shared}
theorem Nx.list (hh : A.handled = none) (it l : Addr) (hne : l ≠ it) (items : Array Value) : Nx prog w A it l (fun k h => h.IsListIter it l k ∧ h.IsList l items) (fun k => items[k]?) where
  obj := fun k h st => let ⟨o, h1, _, h3⟩ := st.1; ⟨o, h1, fun v z => by rw [h3] at z; cases z⟩
  keep := fun k h h' st a b => ⟨(let ⟨o, ho, r⟩ := st.1; ⟨o, a o ho, r⟩), (let ⟨o, ho, r⟩ := st.2; ⟨o, b o ho, r⟩)⟩
  item := fun k s Q E x st hx hQ => wpAny_nextOf_list_item st.1 st.2 hx fun h' hit hs => hQ h' ⟨hit, (let ⟨o, ho, r⟩ := st.2; ⟨o, hs.extBut l o hne ho, r⟩)⟩ hs
  fin := fun k s Q E st hx hE => wpAny_nextOf_list_end hh st.1 st.2 hx hE
theorem Nx.tuple (hh : A.handled = none) (it l : Addr) (hne : l ≠ it) (items : Array Value) : Nx prog w A it l (fun k h => h.IsTupleIter it l k ∧ h.IsTuple l items) (fun k => items[k]?) where
  obj := fun k h st => let ⟨o, h1, _, h3⟩ := st.1; ⟨o, h1, fun v z => by rw [h3] at z; cases z⟩
  keep := fun k h h' st a b => ⟨(let ⟨o, ho, r⟩ := st.1; ⟨o, a o ho, r⟩), (let ⟨o, ho, r⟩ := st.2; ⟨o, b o ho, r⟩)⟩
  item := fun k s Q E x st hx hQ => nextOf_tuple_item st.1 st.2 hx fun h' hit hs => hQ h' ⟨hit, (let ⟨o, ho, r⟩ := st.2; ⟨o, hs.extBut l o hne ho, r⟩)⟩ hs
  fin := fun k s Q E st hx hE => nextOf_tuple_end hh st.1 st.2 hx hE
variable {z TI TO i1 i2 l1 l2 : Addr} {k : Nat} {S1 S2 : Nat → Heap → Prop} {g1 g2 : Nat → Option Value} {a b : Value}
theorem zipN_item {x y : Value} {Q : Value → Shared → Prop} (D : ZipApart z TI TO i1 i2 l1 l2) (N1 : Nx prog w A i1 l1 S1 g1) (N2 : Nx prog w A i2 l2 S2 g2)
    (hz : IsZip s.heap z TI TO .none) (hTI : IsPair s.heap TI (.ref i1) (.ref i2)) (hTO : IsPair s.heap TO a b) (h1 : S1 k s.heap) (h2 : S2 k s.heap) (hx : g1 k = some x) (hy : g2 k = some y)
    (hQ : ∀ h', IsZip h' z TI TO (rawInt s.heap.objs.size) → IsPair h' TO x y → S1 (k + 1) h' → S2 (k + 1) h' → IsPair h' s.heap.objs.size x y → h'.objs.size = s.heap.objs.size + 1 →
      (∀ c o, c ≠ z → c ≠ TO → c ≠ i1 → c ≠ i2 → s.heap.get? c = some o → h'.get? c = some o) → Q (.ref s.heap.objs.size) { s with heap := h' }) :
    wpAny (model prog w) A (Builtin.«zip.__next__» ⟨[.ref z], []⟩) (fun fin s' => ∃ v, fin = .done (.ret v) ∧ Q v s') E s := by
  show wpAny _ _ (field (.ref z) 2 >>= _) _ _ _
  refine wpAny_bind (wpAny_field hz rfl (x := .bool false) rfl ?_)
  show wpAny _ _ (field (.ref z) 3 >>= _) _ _ _
  refine wpAny_bind (wpAny_field hz rfl (x := .ref TI) rfl (wpAny_bind (wpAny_seqItems hTI rfl ?_)))
  show wpAny _ _ (Builtin.SmallTypes.ownedTupleIsFree (.ref z) >>= _) _ _ _
  refine wpAny_bind ?_
  unfold Builtin.SmallTypes.ownedTupleIsFree
  refine wpAny_bind (wpAny_field hz rfl (x := .none) rfl (wpAny_pure ?_))
  simp only [if_true]
  refine wpAny_bind (wpAny_rule (wpAny_bind (wpAny_field hz rfl (x := .ref TO) rfl (wpAny_bind (wpAny_setField_rec hz (by simp) fun t1 z1 sb1 => ?_)))))
  have z1 : IsZip t1 z TI TO .ellipsis := z1
  refine wpAny_bind ?_
  simp only [List.zipIdx_cons, List.zipIdx_nil, List.forIn_cons, List.forIn_nil]
  refine wpAny_bind (wpAny_bind (wpAny_onRaise ?_))
  show wpAny _ _ (Builtin.SmallTypes.nextOf (.ref i1) >>= _) _ _ _
  have q1 : S1 k t1 := N1.keep _ _ _ h1 (fun o e => sb1.extBut _ _ D.i1z e) fun o e => sb1.extBut _ _ D.l1z e
  refine wpAny_bind (N1.item k _ _ _ x q1 hx fun t2 q2 sb2 => wpAny_pure ?_)
  have p2 : IsPair t2 TO a b := sb2.extBut _ _ D.TOi1 (sb1.extBut _ _ D.TOz hTO)
  refine wpAny_bind (wpAny_seqItems p2 rfl (wpAny_bind (wpAny_updateSeq_pair p2 fun t3 p3 sb3 => ?_)))
  have p3 : IsPair t3 TO x b := p3
  refine wpAny_bind (wpAny_letGo (wpAny_pure (wpAny_bind (wpAny_bind (wpAny_onRaise ?_)))))
  show wpAny _ _ (Builtin.SmallTypes.nextOf (.ref i2) >>= _) _ _ _
  have w3 : S2 k t3 := N2.keep _ _ _ h2 (fun o e => sb3.extBut _ _ D.TOi2.symm (sb2.extBut _ _ D.i12.symm (sb1.extBut _ _ D.i2z e))) fun o e => sb3.extBut _ _ D.l2TO (sb2.extBut _ _ D.l2i1 (sb1.extBut _ _ D.l2z e))
  refine wpAny_bind (N2.item k _ _ _ y w3 hy fun t4 w4 sb4 => wpAny_pure ?_)
  have p4 : IsPair t4 TO x b := sb4.extBut _ _ D.TOi2 p3
  refine wpAny_bind (wpAny_seqItems p4 rfl (wpAny_bind (wpAny_updateSeq_pair p4 fun t5 p5 sb5 => ?_)))
  have p5 : IsPair t5 TO x y := p5
  refine wpAny_bind (wpAny_letGo (wpAny_pure (wpAny_pure (wpAny_bind (wpAny_seqItems p5 rfl (wpAny_bind (wpAny_newTuple ?_)))))))
  have hsz : t5.objs.size = s.heap.objs.size := by rw [sb5.1, sb4.1, sb3.1, sb2.1, sb1.1]
  have z5 : IsZip t5 z TI TO .ellipsis := sb5.extBut _ _ D.TOz.symm (sb4.extBut _ _ D.i2z.symm (sb3.extBut _ _ D.TOz.symm (sb2.extBut _ _ D.i1z.symm z1)))
  have kp : ∀ c o, c ≠ z → c ≠ TO → c ≠ i1 → c ≠ i2 → s.heap.get? c = some o → t5.get? c = some o := fun c o c1 c2 c3 c4 e =>
    sb5.extBut _ _ c2 (sb4.extBut _ _ c4 (sb3.extBut _ _ c2 (sb2.extBut _ _ c3 (sb1.extBut _ _ c1 e))))
  have q5 : S1 (k + 1) t5 := N1.keep _ _ _ q2 (fun o e => sb5.extBut _ _ D.TOi1.symm (sb4.extBut _ _ D.i12 (sb3.extBut _ _ D.TOi1.symm e))) fun o e => sb5.extBut _ _ D.l1TO (sb4.extBut _ _ D.l1i2 (sb3.extBut _ _ D.l1TO e))
  have w5 : S2 (k + 1) t5 := N2.keep _ _ _ w4 (fun o e => sb5.extBut _ _ D.TOi2.symm e) fun o e => sb5.extBut _ _ D.l2TO e
  have zlt : z < t5.objs.size := Heap.lt_size z5
  show wpAny _ _ (Builtin.SmallTypes.ownedTupleHandOut (.ref z) (.ref t5.objs.size) >>= _) _ _ _
  refine wpAny_bind ?_
  unfold Builtin.SmallTypes.ownedTupleHandOut
  have z6 : IsZip (t5.push { cls := .type "tuple", data := .seq #[x, y] }) z TI TO .ellipsis := Heap.get?_push_of_some _ z5
  refine wpAny_bind (wpAny_setField_rec z6 (by simp) fun t7 z7 sb7 => ?_)
  have z7 : IsZip t7 z TI TO (rawInt t5.objs.size) := z7
  refine wpAny_setField_rec z7 (by simp) fun t8 z8 sb8 => ?_
  have z8 : IsZip t8 z TI TO (rawInt t5.objs.size) := z8
  have up : ∀ c o, c ≠ z → t5.get? c = some o → t8.get? c = some o := fun c o c1 e => sb8.extBut _ _ c1 (sb7.extBut _ _ c1 (Heap.get?_push_of_some _ e))
  have T8 : IsPair t8 t5.objs.size x y := sb8.extBut _ _ (Nat.ne_of_gt zlt) (sb7.extBut _ _ (Nat.ne_of_gt zlt) (Heap.get?_push_size _ rfl))
  have n8 : t8.objs.size = t5.objs.size + 1 := by rw [sb8.1, sb7.1, Heap.size_push]
  rw [hsz] at z8 T8 n8
  refine wpAny_pure ⟨_, rfl, ?_⟩
  show Q (.ref t5.objs.size) _
  rw [hsz]
  exact hQ t8 z8 (up _ _ D.TOz p5) (N1.keep _ _ _ q5 (fun o e => up _ o D.i1z e) fun o e => up _ o D.l1z e) (N2.keep _ _ _ w5 (fun o e => up _ o D.i2z e) fun o e => up _ o D.l2z e) T8 n8 fun c o c1 c2 c3 c4 e => up c o c1 (kp c o c1 c2 c3 c4 e)
theorem zipN_end {Q : Fin → Shared → Prop} (D : ZipApart z TI TO i1 i2 l1 l2) (N1 : Nx prog w A i1 l1 S1 g1) (N2 : Nx prog w A i2 l2 S2 g2)
    (hz : IsZip s.heap z TI TO .none) (hTI : IsPair s.heap TI (.ref i1) (.ref i2)) (hTO : IsPair s.heap TO a b) (h1 : S1 k s.heap) (h2 : S2 k s.heap) (hend : g1 k = none ∨ g2 k = none)
    (hE : ∀ h' e, (∀ c o, c ≠ z → c ≠ TO → c ≠ i1 → c ≠ i2 → s.heap.get? c = some o → h'.get? c = some o) → (∃ o, h'.get? e = some o ∧ o.cls = .type "StopIteration") → E (.ref e) { s with heap := h' }) :
    wpAny (model prog w) A (Builtin.«zip.__next__» ⟨[.ref z], []⟩) Q E s := by
  show wpAny _ _ (field (.ref z) 2 >>= _) _ _ _
  refine wpAny_bind (wpAny_field hz rfl (x := .bool false) rfl ?_)
  show wpAny _ _ (field (.ref z) 3 >>= _) _ _ _
  refine wpAny_bind (wpAny_field hz rfl (x := .ref TI) rfl (wpAny_bind (wpAny_seqItems hTI rfl ?_)))
  show wpAny _ _ (Builtin.SmallTypes.ownedTupleIsFree (.ref z) >>= _) _ _ _
  refine wpAny_bind ?_
  unfold Builtin.SmallTypes.ownedTupleIsFree
  refine wpAny_bind (wpAny_field hz rfl (x := .none) rfl (wpAny_pure ?_))
  simp only [if_true]
  refine wpAny_bind (wpAny_rule (wpAny_bind (wpAny_field hz rfl (x := .ref TO) rfl (wpAny_bind (wpAny_setField_rec hz (by simp) fun t1 z1 sb1 => ?_)))))
  have z1 : IsZip t1 z TI TO .ellipsis := z1
  refine wpAny_bind ?_
  simp only [List.zipIdx_cons, List.zipIdx_nil, List.forIn_cons, List.forIn_nil]
  refine wpAny_bind (wpAny_bind (wpAny_onRaise ?_))
  show wpAny _ _ (Builtin.SmallTypes.nextOf (.ref i1) >>= _) _ _ _
  have q1 : S1 k t1 := N1.keep _ _ _ h1 (fun o e => sb1.extBut _ _ D.i1z e) fun o e => sb1.extBut _ _ D.l1z e
  cases hx : g1 k with
  | none =>
    refine wpAny_bind (N1.fin k _ _ _ q1 hx fun t2 e sb2 he => ?_)
    obtain ⟨oe, hoe, hce⟩ := he
    have z2 : IsZip t2 z TI TO .ellipsis := sb2 _ _ D.i1z.symm z1
    have hez : e ≠ z := fun x => by subst x; rw [z2] at hoe; cases hoe; simp at hce
    exact wpAny_setField_rec z2 (by simp) fun t3 _ sb3 => hE t3 e (fun c o c1 _ c3 _ x => sb3.extBut _ _ c1 (sb2 _ _ c3 (sb1.extBut _ _ c1 x))) ⟨oe, sb3.extBut _ _ hez hoe, hce⟩
  | some x =>
    have hy : g2 k = none := by rcases hend with h | h; rw [hx] at h; cases h; exact h
    refine wpAny_bind (N1.item k _ _ _ x q1 hx fun t2 q2 sb2 => wpAny_pure ?_)
    have p2 : IsPair t2 TO a b := sb2.extBut _ _ D.TOi1 (sb1.extBut _ _ D.TOz hTO)
    refine wpAny_bind (wpAny_seqItems p2 rfl (wpAny_bind (wpAny_updateSeq_pair p2 fun t3 p3 sb3 => ?_)))
    refine wpAny_bind (wpAny_letGo (wpAny_pure (wpAny_bind (wpAny_bind (wpAny_onRaise ?_)))))
    show wpAny _ _ (Builtin.SmallTypes.nextOf (.ref i2) >>= _) _ _ _
    have w3 : S2 k t3 := N2.keep _ _ _ h2 (fun o e => sb3.extBut _ _ D.TOi2.symm (sb2.extBut _ _ D.i12.symm (sb1.extBut _ _ D.i2z e))) fun o e => sb3.extBut _ _ D.l2TO (sb2.extBut _ _ D.l2i1 (sb1.extBut _ _ D.l2z e))
    refine wpAny_bind (N2.fin k _ _ _ w3 hy fun t4 e sb4 he => ?_)
    obtain ⟨oe, hoe, hce⟩ := he
    have z4 : IsZip t4 z TI TO .ellipsis := sb4 _ _ D.i2z.symm (sb3.extBut _ _ D.TOz.symm (sb2.extBut _ _ D.i1z.symm z1))
    have hez : e ≠ z := fun x => by subst x; rw [z4] at hoe; cases hoe; simp at hce
    exact wpAny_setField_rec z4 (by simp) fun t5 _ sb5 => hE t5 e (fun c o c1 c2 c3 c4 x => sb5.extBut _ _ c1 (sb4 _ _ c4 (sb3.extBut _ _ c2 (sb2.extBut _ _ c3 (sb1.extBut _ _ c1 x))))) ⟨oe, sb5.extBut _ _ hez hoe, hce⟩
theorem pyNext_zipN_item {x y : Value} {Q : Option Value → Shared → Prop} (D : ZipApart z TI TO i1 i2 l1 l2) (N1 : Nx prog w A.in1 i1 l1 S1 g1) (N2 : Nx prog w A.in1 i2 l2 S2 g2)
    (hz : IsZip s.heap z TI TO .none) (hTI : IsPair s.heap TI (.ref i1) (.ref i2)) (hTO : IsPair s.heap TO a b) (h1 : S1 k s.heap) (h2 : S2 k s.heap) (hx : g1 k = some x) (hy : g2 k = some y)
    (hQ : ∀ h', IsZip h' z TI TO (rawInt s.heap.objs.size) → IsPair h' TO x y → S1 (k + 1) h' → S2 (k + 1) h' → IsPair h' s.heap.objs.size x y → h'.objs.size = s.heap.objs.size + 1 →
      (∀ c o, c ≠ z → c ≠ TO → c ≠ i1 → c ≠ i2 → s.heap.get? c = some o → h'.get? c = some o) → Q (some (.ref s.heap.objs.size)) { s with heap := h' }) : wpAny (model prog w) A (pyNext (.ref z)) Q E s := by
  have hT : s.TypeIs (.ref z) "zip" := ⟨_, hz, rfl⟩
  unfold pyNext
  exact wpAny_bind (wpAny_attempt (wpAny_callSpecial?_slot (name := Str.ofString "__next__") hT F.slot_zip_next
    (wpAny_call_entry F.slot_zip_next hT F.entry_zip_next (zipN_item D N1 N2 hz hTI hTO h1 h2 hx hy fun h' a1 a2 a3 a4 a5 a6 a7 => wpAny_pure (hQ h' a1 a2 a3 a4 a5 a6 a7)) (F.args_zip_next_1 _))))
theorem pyNext_zipN_end {Q : Option Value → Shared → Prop} (D : ZipApart z TI TO i1 i2 l1 l2) (N1 : Nx prog w A.in1 i1 l1 S1 g1) (N2 : Nx prog w A.in1 i2 l2 S2 g2)
    (hz : IsZip s.heap z TI TO .none) (hTI : IsPair s.heap TI (.ref i1) (.ref i2)) (hTO : IsPair s.heap TO a b) (h1 : S1 k s.heap) (h2 : S2 k s.heap) (hend : g1 k = none ∨ g2 k = none)
    (hQ : ∀ h', (∀ c o, c ≠ z → c ≠ TO → c ≠ i1 → c ≠ i2 → s.heap.get? c = some o → h'.get? c = some o) → Q none { s with heap := h' }) : wpAny (model prog w) A (pyNext (.ref z)) Q E s := by
  have hT : s.TypeIs (.ref z) "zip" := ⟨_, hz, rfl⟩
  unfold pyNext
  refine wpAny_bind (wpAny_attempt (wpAny_callSpecial?_slot (name := Str.ofString "__next__") hT F.slot_zip_next
    (wpAny_call_entry F.slot_zip_next hT F.entry_zip_next (zipN_end D N1 N2 hz hTI hTO h1 h2 hend fun h' e hk he => ?_) (F.args_zip_next_1 _))))
  obtain ⟨o, ho, hc⟩ := he
  exact wpAny_bind (wpAny_isInstance (T := "StopIteration") (b := true) ⟨o, ho, hc⟩ isSubtype_stop (wpAny_pure (hQ _ hk)))
end

/-! zip over L, L -/
theorem meets_zip_newLL (l1 l2 : Addr) (xs ys : Array Value) :
    Meets (Builtin.«zip.__new__» ⟨[.type "zip", .ref l1, .ref l2], []⟩) (fun _ R s => s.heap.IsList l1 xs ∧ s.heap.IsList l2 ys ∧
      R (.ok (.ret (.ref (s.heap.objs.size + 4)))) { s with heap := ((((s.heap.push { cls := .type "list_iterator", data := .fields #[.ref l1, .int 0 0] }).push { cls := .type "list_iterator", data := .fields #[.ref l2, .int 0 0] }).push { cls := .type "tuple", data := .seq #[.ref s.heap.objs.size, .ref (s.heap.objs.size + 1)] }).push { cls := .type "tuple", data := .seq #[.none, .none] }).push { cls := .type "zip", data := .fields #[.none, .bool false, .bool false, .ref (s.heap.objs.size + 2), .ref (s.heap.objs.size + 3)] } }) :=
  .of_wp fun prog w A R s h => by
    obtain ⟨hp, g, d, tk, os⟩ := s; obtain ⟨hl1, hl2, h⟩ := h
    have hsub := sub_zip
    have hL1 : Heap.IsList (Shared.heap ⟨hp, g, d, tk, os⟩) l1 xs := hl1
    have hL2 : Heap.IsList (Shared.heap ⟨hp.push { cls := .type "list_iterator", data := .fields #[.ref l1, .int 0 0] }, g, d, tk, os⟩) l2 ys := Heap.IsList.push hl2 _
    wp_walk using wpAny_pyIter_list hL1, wpAny_pyIter_list hL2
    simp only [Heap.size_push] at *
    exact ⟨_, rfl, h⟩
section
variable {prog : Program} {w : World} {A : Around} {E : Value → Shared → Prop} {s : Shared}
theorem call_zipLL {l1 l2 : Addr} {xs ys : Array Value} {Q : Value → Shared → Prop} (hl1 : s.heap.IsList l1 xs) (hl2 : s.heap.IsList l2 ys)
    (h : ∀ h', IsZip h' (s.heap.objs.size + 4) (s.heap.objs.size + 2) (s.heap.objs.size + 3) .none → IsPair h' (s.heap.objs.size + 2) (.ref s.heap.objs.size) (.ref (s.heap.objs.size + 1)) →
      IsPair h' (s.heap.objs.size + 3) .none .none → h'.IsListIter s.heap.objs.size l1 0 → h'.IsListIter (s.heap.objs.size + 1) l2 0 → (∀ c o, s.heap.get? c = some o → h'.get? c = some o) → Q (.ref (s.heap.objs.size + 4)) { s with heap := h' }) :
    wpAny (model prog w) A (call (.type "zip") [.ref l1, .ref l2]) Q E s := by
  refine callType_new F.called_zip (by decide) (F.typeCall_zip_2 _ _) (F.newCall_zip_2 _ _) (fun obj => F.args_object_init_3 obj _ _) F.entry_zip_new (meets_zip_newLL l1 l2 xs ys) ⟨hl1, hl2, ?_⟩
  generalize e1 : s.heap.push { cls := .type "list_iterator", data := .fields #[.ref l1, .int 0 0] } = t1
  have n1 : t1.objs.size = s.heap.objs.size + 1 := by rw [← e1, Heap.size_push]
  have a1 : t1.get? s.heap.objs.size = some { cls := .type "list_iterator", data := .fields #[.ref l1, .int 0 0] } := by rw [← e1]; exact Heap.get?_push_size _ rfl
  have k1 : ∀ c o, s.heap.get? c = some o → t1.get? c = some o := fun c o e => by rw [← e1]; exact Heap.get?_push_of_some _ e
  generalize e2 : t1.push { cls := .type "list_iterator", data := .fields #[.ref l2, .int 0 0] } = t2
  have n2 : t2.objs.size = s.heap.objs.size + 2 := by rw [← e2, Heap.size_push, n1]
  have a2 : t2.get? (s.heap.objs.size + 1) = some { cls := .type "list_iterator", data := .fields #[.ref l2, .int 0 0] } := by rw [← n1, ← e2]; exact Heap.get?_push_size _ rfl
  have k2 : ∀ c o, t1.get? c = some o → t2.get? c = some o := fun c o e => by rw [← e2]; exact Heap.get?_push_of_some _ e
  generalize e3 : t2.push { cls := .type "tuple", data := .seq #[.ref s.heap.objs.size, .ref (s.heap.objs.size + 1)] } = t3
  have n3 : t3.objs.size = s.heap.objs.size + 3 := by rw [← e3, Heap.size_push, n2]
  have a3 : t3.get? (s.heap.objs.size + 2) = some { cls := .type "tuple", data := .seq #[.ref s.heap.objs.size, .ref (s.heap.objs.size + 1)] } := by rw [← n2, ← e3]; exact Heap.get?_push_size _ rfl
  have k3 : ∀ c o, t2.get? c = some o → t3.get? c = some o := fun c o e => by rw [← e3]; exact Heap.get?_push_of_some _ e
  generalize e4 : t3.push { cls := .type "tuple", data := .seq #[.none, .none] } = t4
  have n4 : t4.objs.size = s.heap.objs.size + 4 := by rw [← e4, Heap.size_push, n3]
  have a4 : t4.get? (s.heap.objs.size + 3) = some { cls := .type "tuple", data := .seq #[.none, .none] } := by rw [← n3, ← e4]; exact Heap.get?_push_size _ rfl
  have k4 : ∀ c o, t3.get? c = some o → t4.get? c = some o := fun c o e => by rw [← e4]; exact Heap.get?_push_of_some _ e
  generalize e5 : t4.push { cls := .type "zip", data := .fields #[.none, .bool false, .bool false, .ref (s.heap.objs.size + 2), .ref (s.heap.objs.size + 3)] } = t5
  have a5 : t5.get? (s.heap.objs.size + 4) = some { cls := .type "zip", data := .fields #[.none, .bool false, .bool false, .ref (s.heap.objs.size + 2), .ref (s.heap.objs.size + 3)] } := by rw [← n4, ← e5]; exact Heap.get?_push_size _ rfl
  have k5 : ∀ c o, t4.get? c = some o → t5.get? c = some o := fun c o e => by rw [← e5]; exact Heap.get?_push_of_some _ e
  exact ⟨⟨_, a5, rfl⟩, h t5 a5 (k5 _ _ (k4 _ _ a3)) (k5 _ _ a4) ⟨_, k5 _ _ (k4 _ _ (k3 _ _ (k2 _ _ a1))), rfl, rfl⟩ ⟨_, k5 _ _ (k4 _ _ (k3 _ _ a2)), rfl, rfl⟩ fun c o e => k5 _ _ (k4 _ _ (k3 _ _ (k2 _ _ (k1 _ _ e))))⟩
end

/-! zip over L, T -/
theorem meets_zip_newLT (l1 l2 : Addr) (xs ys : Array Value) :
    Meets (Builtin.«zip.__new__» ⟨[.type "zip", .ref l1, .ref l2], []⟩) (fun _ R s => s.heap.IsList l1 xs ∧ s.heap.IsTuple l2 ys ∧
      R (.ok (.ret (.ref (s.heap.objs.size + 4)))) { s with heap := ((((s.heap.push { cls := .type "list_iterator", data := .fields #[.ref l1, .int 0 0] }).push { cls := .type "tuple_iterator", data := .fields #[.ref l2, .int 0 0] }).push { cls := .type "tuple", data := .seq #[.ref s.heap.objs.size, .ref (s.heap.objs.size + 1)] }).push { cls := .type "tuple", data := .seq #[.none, .none] }).push { cls := .type "zip", data := .fields #[.none, .bool false, .bool false, .ref (s.heap.objs.size + 2), .ref (s.heap.objs.size + 3)] } }) :=
  .of_wp fun prog w A R s h => by
    obtain ⟨hp, g, d, tk, os⟩ := s; obtain ⟨hl1, hl2, h⟩ := h
    have hsub := sub_zip
    have hL1 : Heap.IsList (Shared.heap ⟨hp, g, d, tk, os⟩) l1 xs := hl1
    have hL2 : Heap.IsTuple (Shared.heap ⟨hp.push { cls := .type "list_iterator", data := .fields #[.ref l1, .int 0 0] }, g, d, tk, os⟩) l2 ys := Heap.IsTuple.push hl2 _
    wp_walk using wpAny_pyIter_list hL1, wpAny_pyIter_tuple hL2
    simp only [Heap.size_push] at *
    exact ⟨_, rfl, h⟩
section
variable {prog : Program} {w : World} {A : Around} {E : Value → Shared → Prop} {s : Shared}
theorem call_zipLT {l1 l2 : Addr} {xs ys : Array Value} {Q : Value → Shared → Prop} (hl1 : s.heap.IsList l1 xs) (hl2 : s.heap.IsTuple l2 ys)
    (h : ∀ h', IsZip h' (s.heap.objs.size + 4) (s.heap.objs.size + 2) (s.heap.objs.size + 3) .none → IsPair h' (s.heap.objs.size + 2) (.ref s.heap.objs.size) (.ref (s.heap.objs.size + 1)) →
      IsPair h' (s.heap.objs.size + 3) .none .none → h'.IsListIter s.heap.objs.size l1 0 → h'.IsTupleIter (s.heap.objs.size + 1) l2 0 → (∀ c o, s.heap.get? c = some o → h'.get? c = some o) → Q (.ref (s.heap.objs.size + 4)) { s with heap := h' }) :
    wpAny (model prog w) A (call (.type "zip") [.ref l1, .ref l2]) Q E s := by
  refine callType_new F.called_zip (by decide) (F.typeCall_zip_2 _ _) (F.newCall_zip_2 _ _) (fun obj => F.args_object_init_3 obj _ _) F.entry_zip_new (meets_zip_newLT l1 l2 xs ys) ⟨hl1, hl2, ?_⟩
  generalize e1 : s.heap.push { cls := .type "list_iterator", data := .fields #[.ref l1, .int 0 0] } = t1
  have n1 : t1.objs.size = s.heap.objs.size + 1 := by rw [← e1, Heap.size_push]
  have a1 : t1.get? s.heap.objs.size = some { cls := .type "list_iterator", data := .fields #[.ref l1, .int 0 0] } := by rw [← e1]; exact Heap.get?_push_size _ rfl
  have k1 : ∀ c o, s.heap.get? c = some o → t1.get? c = some o := fun c o e => by rw [← e1]; exact Heap.get?_push_of_some _ e
  generalize e2 : t1.push { cls := .type "tuple_iterator", data := .fields #[.ref l2, .int 0 0] } = t2
  have n2 : t2.objs.size = s.heap.objs.size + 2 := by rw [← e2, Heap.size_push, n1]
  have a2 : t2.get? (s.heap.objs.size + 1) = some { cls := .type "tuple_iterator", data := .fields #[.ref l2, .int 0 0] } := by rw [← n1, ← e2]; exact Heap.get?_push_size _ rfl
  have k2 : ∀ c o, t1.get? c = some o → t2.get? c = some o := fun c o e => by rw [← e2]; exact Heap.get?_push_of_some _ e
  generalize e3 : t2.push { cls := .type "tuple", data := .seq #[.ref s.heap.objs.size, .ref (s.heap.objs.size + 1)] } = t3
  have n3 : t3.objs.size = s.heap.objs.size + 3 := by rw [← e3, Heap.size_push, n2]
  have a3 : t3.get? (s.heap.objs.size + 2) = some { cls := .type "tuple", data := .seq #[.ref s.heap.objs.size, .ref (s.heap.objs.size + 1)] } := by rw [← n2, ← e3]; exact Heap.get?_push_size _ rfl
  have k3 : ∀ c o, t2.get? c = some o → t3.get? c = some o := fun c o e => by rw [← e3]; exact Heap.get?_push_of_some _ e
  generalize e4 : t3.push { cls := .type "tuple", data := .seq #[.none, .none] } = t4
  have n4 : t4.objs.size = s.heap.objs.size + 4 := by rw [← e4, Heap.size_push, n3]
  have a4 : t4.get? (s.heap.objs.size + 3) = some { cls := .type "tuple", data := .seq #[.none, .none] } := by rw [← n3, ← e4]; exact Heap.get?_push_size _ rfl
  have k4 : ∀ c o, t3.get? c = some o → t4.get? c = some o := fun c o e => by rw [← e4]; exact Heap.get?_push_of_some _ e
  generalize e5 : t4.push { cls := .type "zip", data := .fields #[.none, .bool false, .bool false, .ref (s.heap.objs.size + 2), .ref (s.heap.objs.size + 3)] } = t5
  have a5 : t5.get? (s.heap.objs.size + 4) = some { cls := .type "zip", data := .fields #[.none, .bool false, .bool false, .ref (s.heap.objs.size + 2), .ref (s.heap.objs.size + 3)] } := by rw [← n4, ← e5]; exact Heap.get?_push_size _ rfl
  have k5 : ∀ c o, t4.get? c = some o → t5.get? c = some o := fun c o e => by rw [← e5]; exact Heap.get?_push_of_some _ e
  exact ⟨⟨_, a5, rfl⟩, h t5 a5 (k5 _ _ (k4 _ _ a3)) (k5 _ _ a4) ⟨_, k5 _ _ (k4 _ _ (k3 _ _ (k2 _ _ a1))), rfl, rfl⟩ ⟨_, k5 _ _ (k4 _ _ (k3 _ _ a2)), rfl, rfl⟩ fun c o e => k5 _ _ (k4 _ _ (k3 _ _ (k2 _ _ (k1 _ _ e))))⟩
end

/-! zip over T, L -/
theorem meets_zip_newTL (l1 l2 : Addr) (xs ys : Array Value) :
    Meets (Builtin.«zip.__new__» ⟨[.type "zip", .ref l1, .ref l2], []⟩) (fun _ R s => s.heap.IsTuple l1 xs ∧ s.heap.IsList l2 ys ∧
      R (.ok (.ret (.ref (s.heap.objs.size + 4)))) { s with heap := ((((s.heap.push { cls := .type "tuple_iterator", data := .fields #[.ref l1, .int 0 0] }).push { cls := .type "list_iterator", data := .fields #[.ref l2, .int 0 0] }).push { cls := .type "tuple", data := .seq #[.ref s.heap.objs.size, .ref (s.heap.objs.size + 1)] }).push { cls := .type "tuple", data := .seq #[.none, .none] }).push { cls := .type "zip", data := .fields #[.none, .bool false, .bool false, .ref (s.heap.objs.size + 2), .ref (s.heap.objs.size + 3)] } }) :=
  .of_wp fun prog w A R s h => by
    obtain ⟨hp, g, d, tk, os⟩ := s; obtain ⟨hl1, hl2, h⟩ := h
    have hsub := sub_zip
    have hL1 : Heap.IsTuple (Shared.heap ⟨hp, g, d, tk, os⟩) l1 xs := hl1
    have hL2 : Heap.IsList (Shared.heap ⟨hp.push { cls := .type "tuple_iterator", data := .fields #[.ref l1, .int 0 0] }, g, d, tk, os⟩) l2 ys := Heap.IsList.push hl2 _
    wp_walk using wpAny_pyIter_tuple hL1, wpAny_pyIter_list hL2
    simp only [Heap.size_push] at *
    exact ⟨_, rfl, h⟩
section
variable {prog : Program} {w : World} {A : Around} {E : Value → Shared → Prop} {s : Shared}
theorem call_zipTL {l1 l2 : Addr} {xs ys : Array Value} {Q : Value → Shared → Prop} (hl1 : s.heap.IsTuple l1 xs) (hl2 : s.heap.IsList l2 ys)
    (h : ∀ h', IsZip h' (s.heap.objs.size + 4) (s.heap.objs.size + 2) (s.heap.objs.size + 3) .none → IsPair h' (s.heap.objs.size + 2) (.ref s.heap.objs.size) (.ref (s.heap.objs.size + 1)) →
      IsPair h' (s.heap.objs.size + 3) .none .none → h'.IsTupleIter s.heap.objs.size l1 0 → h'.IsListIter (s.heap.objs.size + 1) l2 0 → (∀ c o, s.heap.get? c = some o → h'.get? c = some o) → Q (.ref (s.heap.objs.size + 4)) { s with heap := h' }) :
    wpAny (model prog w) A (call (.type "zip") [.ref l1, .ref l2]) Q E s := by
  refine callType_new F.called_zip (by decide) (F.typeCall_zip_2 _ _) (F.newCall_zip_2 _ _) (fun obj => F.args_object_init_3 obj _ _) F.entry_zip_new (meets_zip_newTL l1 l2 xs ys) ⟨hl1, hl2, ?_⟩
  generalize e1 : s.heap.push { cls := .type "tuple_iterator", data := .fields #[.ref l1, .int 0 0] } = t1
  have n1 : t1.objs.size = s.heap.objs.size + 1 := by rw [← e1, Heap.size_push]
  have a1 : t1.get? s.heap.objs.size = some { cls := .type "tuple_iterator", data := .fields #[.ref l1, .int 0 0] } := by rw [← e1]; exact Heap.get?_push_size _ rfl
  have k1 : ∀ c o, s.heap.get? c = some o → t1.get? c = some o := fun c o e => by rw [← e1]; exact Heap.get?_push_of_some _ e
  generalize e2 : t1.push { cls := .type "list_iterator", data := .fields #[.ref l2, .int 0 0] } = t2
  have n2 : t2.objs.size = s.heap.objs.size + 2 := by rw [← e2, Heap.size_push, n1]
  have a2 : t2.get? (s.heap.objs.size + 1) = some { cls := .type "list_iterator", data := .fields #[.ref l2, .int 0 0] } := by rw [← n1, ← e2]; exact Heap.get?_push_size _ rfl
  have k2 : ∀ c o, t1.get? c = some o → t2.get? c = some o := fun c o e => by rw [← e2]; exact Heap.get?_push_of_some _ e
  generalize e3 : t2.push { cls := .type "tuple", data := .seq #[.ref s.heap.objs.size, .ref (s.heap.objs.size + 1)] } = t3
  have n3 : t3.objs.size = s.heap.objs.size + 3 := by rw [← e3, Heap.size_push, n2]
  have a3 : t3.get? (s.heap.objs.size + 2) = some { cls := .type "tuple", data := .seq #[.ref s.heap.objs.size, .ref (s.heap.objs.size + 1)] } := by rw [← n2, ← e3]; exact Heap.get?_push_size _ rfl
  have k3 : ∀ c o, t2.get? c = some o → t3.get? c = some o := fun c o e => by rw [← e3]; exact Heap.get?_push_of_some _ e
  generalize e4 : t3.push { cls := .type "tuple", data := .seq #[.none, .none] } = t4
  have n4 : t4.objs.size = s.heap.objs.size + 4 := by rw [← e4, Heap.size_push, n3]
  have a4 : t4.get? (s.heap.objs.size + 3) = some { cls := .type "tuple", data := .seq #[.none, .none] } := by rw [← n3, ← e4]; exact Heap.get?_push_size _ rfl
  have k4 : ∀ c o, t3.get? c = some o → t4.get? c = some o := fun c o e => by rw [← e4]; exact Heap.get?_push_of_some _ e
  generalize e5 : t4.push { cls := .type "zip", data := .fields #[.none, .bool false, .bool false, .ref (s.heap.objs.size + 2), .ref (s.heap.objs.size + 3)] } = t5
  have a5 : t5.get? (s.heap.objs.size + 4) = some { cls := .type "zip", data := .fields #[.none, .bool false, .bool false, .ref (s.heap.objs.size + 2), .ref (s.heap.objs.size + 3)] } := by rw [← n4, ← e5]; exact Heap.get?_push_size _ rfl
  have k5 : ∀ c o, t4.get? c = some o → t5.get? c = some o := fun c o e => by rw [← e5]; exact Heap.get?_push_of_some _ e
  exact ⟨⟨_, a5, rfl⟩, h t5 a5 (k5 _ _ (k4 _ _ a3)) (k5 _ _ a4) ⟨_, k5 _ _ (k4 _ _ (k3 _ _ (k2 _ _ a1))), rfl, rfl⟩ ⟨_, k5 _ _ (k4 _ _ (k3 _ _ a2)), rfl, rfl⟩ fun c o e => k5 _ _ (k4 _ _ (k3 _ _ (k2 _ _ (k1 _ _ e))))⟩
end

/-! zip over T, T -/
theorem meets_zip_newTT (l1 l2 : Addr) (xs ys : Array Value) :
    Meets (Builtin.«zip.__new__» ⟨[.type "zip", .ref l1, .ref l2], []⟩) (fun _ R s => s.heap.IsTuple l1 xs ∧ s.heap.IsTuple l2 ys ∧
      R (.ok (.ret (.ref (s.heap.objs.size + 4)))) { s with heap := ((((s.heap.push { cls := .type "tuple_iterator", data := .fields #[.ref l1, .int 0 0] }).push { cls := .type "tuple_iterator", data := .fields #[.ref l2, .int 0 0] }).push { cls := .type "tuple", data := .seq #[.ref s.heap.objs.size, .ref (s.heap.objs.size + 1)] }).push { cls := .type "tuple", data := .seq #[.none, .none] }).push { cls := .type "zip", data := .fields #[.none, .bool false, .bool false, .ref (s.heap.objs.size + 2), .ref (s.heap.objs.size + 3)] } }) :=
  .of_wp fun prog w A R s h => by
    obtain ⟨hp, g, d, tk, os⟩ := s; obtain ⟨hl1, hl2, h⟩ := h
    have hsub := sub_zip
    have hL1 : Heap.IsTuple (Shared.heap ⟨hp, g, d, tk, os⟩) l1 xs := hl1
    have hL2 : Heap.IsTuple (Shared.heap ⟨hp.push { cls := .type "tuple_iterator", data := .fields #[.ref l1, .int 0 0] }, g, d, tk, os⟩) l2 ys := Heap.IsTuple.push hl2 _
    wp_walk using wpAny_pyIter_tuple hL1, wpAny_pyIter_tuple hL2
    simp only [Heap.size_push] at *
    exact ⟨_, rfl, h⟩
section
variable {prog : Program} {w : World} {A : Around} {E : Value → Shared → Prop} {s : Shared}
theorem call_zipTT {l1 l2 : Addr} {xs ys : Array Value} {Q : Value → Shared → Prop} (hl1 : s.heap.IsTuple l1 xs) (hl2 : s.heap.IsTuple l2 ys)
    (h : ∀ h', IsZip h' (s.heap.objs.size + 4) (s.heap.objs.size + 2) (s.heap.objs.size + 3) .none → IsPair h' (s.heap.objs.size + 2) (.ref s.heap.objs.size) (.ref (s.heap.objs.size + 1)) →
      IsPair h' (s.heap.objs.size + 3) .none .none → h'.IsTupleIter s.heap.objs.size l1 0 → h'.IsTupleIter (s.heap.objs.size + 1) l2 0 → (∀ c o, s.heap.get? c = some o → h'.get? c = some o) → Q (.ref (s.heap.objs.size + 4)) { s with heap := h' }) :
    wpAny (model prog w) A (call (.type "zip") [.ref l1, .ref l2]) Q E s := by
  refine callType_new F.called_zip (by decide) (F.typeCall_zip_2 _ _) (F.newCall_zip_2 _ _) (fun obj => F.args_object_init_3 obj _ _) F.entry_zip_new (meets_zip_newTT l1 l2 xs ys) ⟨hl1, hl2, ?_⟩
  generalize e1 : s.heap.push { cls := .type "tuple_iterator", data := .fields #[.ref l1, .int 0 0] } = t1
  have n1 : t1.objs.size = s.heap.objs.size + 1 := by rw [← e1, Heap.size_push]
  have a1 : t1.get? s.heap.objs.size = some { cls := .type "tuple_iterator", data := .fields #[.ref l1, .int 0 0] } := by rw [← e1]; exact Heap.get?_push_size _ rfl
  have k1 : ∀ c o, s.heap.get? c = some o → t1.get? c = some o := fun c o e => by rw [← e1]; exact Heap.get?_push_of_some _ e
  generalize e2 : t1.push { cls := .type "tuple_iterator", data := .fields #[.ref l2, .int 0 0] } = t2
  have n2 : t2.objs.size = s.heap.objs.size + 2 := by rw [← e2, Heap.size_push, n1]
  have a2 : t2.get? (s.heap.objs.size + 1) = some { cls := .type "tuple_iterator", data := .fields #[.ref l2, .int 0 0] } := by rw [← n1, ← e2]; exact Heap.get?_push_size _ rfl
  have k2 : ∀ c o, t1.get? c = some o → t2.get? c = some o := fun c o e => by rw [← e2]; exact Heap.get?_push_of_some _ e
  generalize e3 : t2.push { cls := .type "tuple", data := .seq #[.ref s.heap.objs.size, .ref (s.heap.objs.size + 1)] } = t3
  have n3 : t3.objs.size = s.heap.objs.size + 3 := by rw [← e3, Heap.size_push, n2]
  have a3 : t3.get? (s.heap.objs.size + 2) = some { cls := .type "tuple", data := .seq #[.ref s.heap.objs.size, .ref (s.heap.objs.size + 1)] } := by rw [← n2, ← e3]; exact Heap.get?_push_size _ rfl
  have k3 : ∀ c o, t2.get? c = some o → t3.get? c = some o := fun c o e => by rw [← e3]; exact Heap.get?_push_of_some _ e
  generalize e4 : t3.push { cls := .type "tuple", data := .seq #[.none, .none] } = t4
  have n4 : t4.objs.size = s.heap.objs.size + 4 := by rw [← e4, Heap.size_push, n3]
  have a4 : t4.get? (s.heap.objs.size + 3) = some { cls := .type "tuple", data := .seq #[.none, .none] } := by rw [← n3, ← e4]; exact Heap.get?_push_size _ rfl
  have k4 : ∀ c o, t3.get? c = some o → t4.get? c = some o := fun c o e => by rw [← e4]; exact Heap.get?_push_of_some _ e
  generalize e5 : t4.push { cls := .type "zip", data := .fields #[.none, .bool false, .bool false, .ref (s.heap.objs.size + 2), .ref (s.heap.objs.size + 3)] } = t5
  have a5 : t5.get? (s.heap.objs.size + 4) = some { cls := .type "zip", data := .fields #[.none, .bool false, .bool false, .ref (s.heap.objs.size + 2), .ref (s.heap.objs.size + 3)] } := by rw [← n4, ← e5]; exact Heap.get?_push_size _ rfl
  have k5 : ∀ c o, t4.get? c = some o → t5.get? c = some o := fun c o e => by rw [← e5]; exact Heap.get?_push_of_some _ e
  exact ⟨⟨_, a5, rfl⟩, h t5 a5 (k5 _ _ (k4 _ _ a3)) (k5 _ _ a4) ⟨_, k5 _ _ (k4 _ _ (k3 _ _ (k2 _ _ a1))), rfl, rfl⟩ ⟨_, k5 _ _ (k4 _ _ (k3 _ _ a2)), rfl, rfl⟩ fun c o e => k5 _ _ (k4 _ _ (k3 _ _ (k2 _ _ (k1 _ _ e))))⟩
end
end PySem
end

section
set_option linter.all false
set_option Elab.async false
set_option maxRecDepth 100000
namespace L2
open PySem PySem.Spec PyProof.Rows
/-- a list or a tuple -/
def Sq (t : Bool) (K : PySem.W.Frag) (H : Hp) (a : Addr) (xs : List V) : Prop := if t then SqT K H a xs else SqL K H a xs
def IsS (t : Bool) (h : Heap) (a : Addr) (xs : Array Value) : Prop := if t then h.IsTuple a xs else h.IsList a xs
def IsI (t : Bool) (h : Heap) (i a : Addr) (k : Nat) : Prop := if t then h.IsTupleIter i a k else h.IsListIter i a k
section
variable {X : Cx} {pins : List (Addr × Obj)} {σ : L2.St} {H : Hp} {s : Shared}
theorem Inv.sq {t : Bool} {a : Addr} {xs : List V} (I : Inv X pins σ H s) (h : Sq t X.K H a xs) : ∃ its : List Value, Vals xs its ∧ IsS t s.heap a its.toArray := by
  cases t with
  | true => obtain ⟨its, rv, pl, _⟩ := I.tuple h; exact ⟨its, rv, pl⟩
  | false => obtain ⟨its, rv, pl, _⟩ := I.list h; exact ⟨its, rv, pl.isList⟩
theorem Inv.sq_inj {t : Bool} {a : Addr} {xs ys : List V} (I : Inv X pins σ H s) (h : Sq t X.K H a xs) (h' : Sq t X.K H a ys) : xs = ys := by
  cases t with
  | true => exact I.tuple_inj h h'
  | false => exact I.list_inj h h'
theorem IsS.lt {t : Bool} {h : Heap} {a : Addr} {xs : Array Value} (q : IsS t h a xs) : a < h.objs.size := by
  cases t with
  | true => obtain ⟨o, e, _⟩ := id q; exact Heap.lt_size e
  | false => obtain ⟨o, e, _⟩ := id q; exact Heap.lt_size e
theorem IsI.obj {t : Bool} {h : Heap} {i a : Addr} {k : Nat} (q : IsI t h i a k) : ∃ o, h.get? i = some o ∧ ∀ v, o.data ≠ .cell v := by
  cases t with
  | true => obtain ⟨o, h2, h3, h4⟩ := id q; exact ⟨o, h2, fun v z => by rw [h4] at z; cases z⟩
  | false => obtain ⟨o, h2, h3, h4⟩ := id q; exact ⟨o, h2, fun v z => by rw [h4] at z; cases z⟩
theorem IsI.keep {t : Bool} {h h' : Heap} {i a : Addr} {k : Nat} (q : IsI t h i a k) (e : ∀ o, h.get? i = some o → h'.get? i = some o) : IsI t h' i a k := by
  cases t with
  | true => obtain ⟨o, h2, r⟩ := id q; exact ⟨o, e o h2, r⟩
  | false => obtain ⟨o, h2, r⟩ := id q; exact ⟨o, e o h2, r⟩
theorem nxOf (t : Bool) {prog : Program} {w : World} {A : Around} (hh : A.handled = none) (it l : Addr) (hne : l ≠ it) (items : Array Value) : Nx prog w A it l (fun k h => IsI t h it l k ∧ IsS t h l items) (fun k => items[k]?) := by
  cases t with
  | true => exact Nx.tuple hh it l hne items
  | false => exact Nx.list hh it l hne items
/-- records of ours have turned -/
theorem Inv.turnedCh {ch : List Addr} {h' : Heap} (I : Inv X pins σ H s) (k : ∀ b u, b ∉ ch → s.heap.get? b = some u → h'.get? b = some u) (hf : ∀ b ∈ ch, FpOk X pins H b) :
    Inv X pins σ H { s with heap := h' } := by
  have nch : ∀ b u, H b = some u → b ∉ ch := fun b u e hb => by rw [(hf b hb).1] at e; cases e
  refine I.call (g' := s.gens) (d' := s.drawn) (t' := s.toks) (ch := ch) ⟨fun b u e n _ hx => k b u hx e, fun b u e n _ hx => ⟨u.slots, k b u hx e⟩, fun b u e n hx => n, fun b u e hx => ⟨u, k b u hx e⟩, fun b xs e => e, fun b ob u e => e, fun b ps e => ⟨#[], by rw [e]; simp⟩⟩ ?_ I.bare
    fun b hb => ⟨(hf b hb).2.2.2.1, (hf b hb).2.1, (hf b hb).2.2.2.2.1, (hf b hb).2.2.2.2.2⟩
  intro b u e
  refine (I.hok b u e).stay (fun c v hc q => k c v ?_ q) (fun c q => q) fun c xs q => q
  rcases hc with rfl | hc
  · exact nch _ _ e
  · exact nch _ _ hc
end
/-- zip over two -/
def Itz (t1 t2 : Bool) (K : PySem.W.Frag) (a b : Addr) : It :=
  ⟨fun i H => ∃ xs ys x y, Sq t1 K H a xs ∧ Sq t2 K H b ys ∧ xs[i]? = some x ∧ ys[i]? = some y,
   fun i H x H' => ∃ T v w, H T = none ∧ x = .ref T ∧ H' = upd H T (.tup [v, w]) ∧ (∀ xs, Sq t1 K H a xs → xs[i]? = some v) ∧ ∀ ys, Sq t2 K H b ys → ys[i]? = some w,
   fun i H => ∃ xs ys, Sq t1 K H a xs ∧ Sq t2 K H b ys ∧ (xs.length ≤ i ∨ ys.length ≤ i)⟩
theorem turn_zip {P : Program} {w : World} {K : PySem.W.Frag} {elts : List Expr} {x1} {tp : Pos} (t1 t2 : Bool) {z TI TO i1 i2 l1 l2 : Addr} (D : ZipApart z TI TO i1 i2 l1 l2) :
    Turn P w K (.Tuple elts x1 tp) (Itz t1 t2 K l1 l2) [z, TI, TO, i1, i2] z (fun i h => IsZip h z TI TO .none ∧ IsPair h TI (.ref i1) (.ref i2) ∧ (∃ a b, IsPair h TO a b) ∧ IsI t1 h i1 l1 i ∧ IsI t2 h i2 l2 i) where
  mem := by simp
  obj := fun i h st b hb => by
    obtain ⟨h1, h2, ⟨u, v, h3⟩, h4, h5⟩ := st
    simp only [List.mem_cons, List.not_mem_nil, or_false] at hb
    rcases hb with rfl | rfl | rfl | rfl | rfl
    · exact ⟨_, h1, fun v z => by cases z⟩
    · exact ⟨_, h2, fun v z => by cases z⟩
    · exact ⟨_, h3, fun v z => by cases z⟩
    · exact h4.obj
    · exact h5.obj
  keep := fun i h h' st k => by
    obtain ⟨h1, h2, ⟨u, v, h3⟩, h4, h5⟩ := st
    exact ⟨k z (by simp) _ h1, k TI (by simp) _ h2, ⟨u, v, k TO (by simp) _ h3⟩, h4.keep (k i1 (by simp)), h5.keep (k i2 (by simp))⟩
  item := fun X hP hw hK hc i pins s σ H E I hf st go => by
    subst hP hw hK
    obtain ⟨h1, h2, ⟨u, v, h3⟩, h4, h5⟩ := st
    obtain ⟨xs, ys, x, y, hq1, hq2, hx, hy⟩ := go
    obtain ⟨its1, rv1, pl1⟩ := I.sq hq1
    obtain ⟨its2, rv2, pl2⟩ := I.sq hq2
    obtain ⟨ux, hu1, hu2⟩ := rv1.get hx
    obtain ⟨uy, hw1, hw2⟩ := rv2.get hy
    have hh : X.A.in1.handled = none := I.ok.hd hc
    refine pyNext_zipN_item D (nxOf t1 hh i1 l1 D.l1i1 its1.toArray) (nxOf t2 hh i2 l2 D.l2i2 its2.toArray) h1 h2 h3 (k := i) ⟨h4, pl1⟩ ⟨h5, pl2⟩ (x := ux) (y := uy) (by simpa using hu1) (by simpa using hw1) fun h' z1 p1 s1 s2 pT hsz kp => ?_
    refine ⟨_, rfl, wpAny_letOwnedTupleGo_zip z1 fun h'' z2 sb => ?_⟩
    have hlt : ∀ b ∈ [z, TI, TO, i1, i2], b ≠ s.heap.objs.size := fun b hb => by
      simp only [List.mem_cons, List.not_mem_nil, or_false] at hb
      rcases hb with rfl | rfl | rfl | rfl | rfl
      · exact Nat.ne_of_lt (Heap.lt_size h1)
      · exact Nat.ne_of_lt (Heap.lt_size h2)
      · exact Nat.ne_of_lt (Heap.lt_size h3)
      · exact Nat.ne_of_lt (Heap.lt_size h4.obj.choose_spec.1)
      · exact Nat.ne_of_lt (Heap.lt_size h5.obj.choose_spec.1)
    have kp2 : ∀ b o, b ∉ [z, TO, i1, i2] → s.heap.get? b = some o → h''.get? b = some o := fun b o hb q => by
      simp only [List.mem_cons, List.not_mem_nil, or_false, not_or] at hb
      exact sb.extBut b o hb.1 (kp b o hb.1 hb.2.1 hb.2.2.1 hb.2.2.2 q)
    have pT2 : IsPair h'' s.heap.objs.size ux uy := sb.extBut _ _ (hlt z (by simp)).symm pT
    have p2 : IsPair h'' TO ux uy := sb.extBut _ _ D.TOz p1
    have j1 : IsI t1 h'' i1 l1 (i + 1) := s1.1.keep fun o e => sb.extBut _ _ D.i1z e
    have j2 : IsI t2 h'' i2 l2 (i + 1) := s2.1.keep fun o e => sb.extBut _ _ D.i2z e
    refine ⟨.ref s.heap.objs.size, upd H s.heap.objs.size (.tup [x, y]), ?_, rfl, ⟨_, x, y, I.fresh, rfl, rfl, fun zs hz => ?_, fun zs hz => ?_⟩, ⟨z2, kp2 TI _ ?_ h2, ⟨_, _, p2⟩, j1, j2⟩, fun b hb => ?_⟩
    · refine I.laidCh (ch := [z, TO, i1, i2]) (t' := s.toks) kp2 (fun b hb => ?_) (fun b hb => hf b ?_) ⟨(by show 2 ≤ sizeLine; decide), [ux, uy], .cons hu2 (.cons hw2 .nil), ⟨_, pT2, rfl, _, rfl⟩⟩
      · simp only [List.mem_cons, List.not_mem_nil, or_false] at hb
        rcases hb with rfl | rfl | rfl | rfl
        · exact ⟨_, z2⟩
        · exact ⟨_, p2⟩
        · exact ⟨_, j1.obj.choose_spec.1⟩
        · exact ⟨_, j2.obj.choose_spec.1⟩
      · simp only [List.mem_cons, List.not_mem_nil, or_false] at hb ⊢
        rcases hb with h | h | h | h <;> simp [h]
    · rw [I.sq_inj hz hq1]; exact hx
    · rw [I.sq_inj hz hq2]; exact hy
    · simp [D.TIz, D.TITO, D.TIi1, D.TIi2]
    · rw [upd_ne (hlt b hb)]; exact (hf b hb).1
  done := fun X hP hw hK hc i pins s σ H E I hf st stop => by
    subst hP hw hK
    obtain ⟨h1, h2, ⟨u, v, h3⟩, h4, h5⟩ := st
    obtain ⟨xs, ys, hq1, hq2, hx⟩ := stop
    obtain ⟨its1, rv1, pl1⟩ := I.sq hq1
    obtain ⟨its2, rv2, pl2⟩ := I.sq hq2
    have hh : X.A.in1.handled = none := I.ok.hd hc
    refine pyNext_zipN_end D (nxOf t1 hh i1 l1 D.l1i1 its1.toArray) (nxOf t2 hh i2 l2 D.l2i2 its2.toArray) h1 h2 h3 (k := i) ⟨h4, pl1⟩ ⟨h5, pl2⟩ ?_ fun h' kp => ⟨rfl, ?_⟩
    · rcases hx with hx | hx
      · left; rw [rv1.length] at hx; simpa using hx
      · right; rw [rv2.length] at hx; simpa using hx
    · exact I.turnedCh (ch := [z, TO, i1, i2]) (fun b u hb q => by
        simp only [List.mem_cons, List.not_mem_nil, or_false, not_or] at hb
        exact kp b u hb.1 hb.2.1 hb.2.2.1 hb.2.2.2 q) fun b hb => hf b (by
        simp only [List.mem_cons, List.not_mem_nil, or_false] at hb ⊢
        rcases hb with h | h | h | h <;> simp [h])
  self := fun A i s Q E st q => wpAny_pyIter_zip st.1 q
section
variable {X : Cx} {elts : List Expr} {x1 : Nat} {tp : Pos}
theorem call_zipN {prog : Program} {w : World} {A : Around} {E : Value → Shared → Prop} {s : Shared} (t1 t2 : Bool) {l1 l2 : Addr} {xs ys : Array Value} {Q : Value → Shared → Prop} (hl1 : IsS t1 s.heap l1 xs) (hl2 : IsS t2 s.heap l2 ys)
    (h : ∀ h', IsZip h' (s.heap.objs.size + 4) (s.heap.objs.size + 2) (s.heap.objs.size + 3) .none → IsPair h' (s.heap.objs.size + 2) (.ref s.heap.objs.size) (.ref (s.heap.objs.size + 1)) →
      IsPair h' (s.heap.objs.size + 3) .none .none → IsI t1 h' s.heap.objs.size l1 0 → IsI t2 h' (s.heap.objs.size + 1) l2 0 → (∀ c o, s.heap.get? c = some o → h'.get? c = some o) → Q (.ref (s.heap.objs.size + 4)) { s with heap := h' }) :
    wpAny (model prog w) A (call (.type "zip") [.ref l1, .ref l2]) Q E s := by
  cases t1 <;> cases t2
  · exact call_zipLL hl1 hl2 h
  · exact call_zipLT hl1 hl2 h
  · exact call_zipTL hl1 hl2 h
  · exact call_zipTT hl1 hl2 h
theorem zapart {n l m : Nat} (h1 : l < n) (h2 : m < n) : ZipApart (n + 4) (n + 2) (n + 3) n (n + 1) l m := by
  constructor <;> exact fun h => absurd (show (_ : Nat) = _ from h) (by omega)
/-- zip(l, m), walked with several names -/
def qZip (K : PySem.W.Frag) (R : It → Hp → Prop) (vs : List V) (H1 : Hp) : Prop := ∃ t1 t2 a b, vs = [.ref a, .ref b] ∧ (∃ xs, Sq t1 K H1 a xs) ∧ (∃ ys, Sq t2 K H1 b ys) ∧ R (Itz t1 t2 K a b) H1
def iZip (K : PySem.W.Frag) (ta : TA) : TI := fun σ H R => ta σ H (qZip K R)
theorem boot_zip : bootBuiltins "zip" = some (.type "zip") := by decide +kernel
theorem pi_zip {a b : Expr} {ta : TA} {p pos : Pos} (hg : Gl X "zip") (hm : X.mg "zip" = none) (ha : PA X [a, b] ta) (hs : starEach [a, b] X.env = [(false, eval a X.env), (false, eval b X.env)] := by rfl) (hs2 : starEach [b] X.env = [(false, eval b X.env)] := by rfl) :
    PI X (.Tuple elts x1 tp) (.Call (.Name "zip" p) [a, b] [] pos) (iZip X.K ta) := by
  intro pins s σ H R I h
  refine Call_ (ld_blt I hg hm boot_zip (PyProof.Rows.callWith_type1 (thn (ha pos pins s σ H _ I h) fun us s1 ⟨vs, H1, I1, r1, q1⟩ => ?_) (by rw [hs, hs2]) (by rw [hs2]; rfl)))
  obtain ⟨t1, t2, l1, l2, rfl, ⟨xs, hq1⟩, ⟨ys, hq2⟩, q⟩ := q1
  obtain ⟨u, v, rfl, ru, rv⟩ := r1.two
  cases ru; cases rv
  obtain ⟨its1, rv1, pl1⟩ := I1.sq hq1
  obtain ⟨its2, rv2, pl2⟩ := I1.sq hq2
  have b1 := pl1.lt
  have b2 := pl2.lt
  refine call_zipN t1 t2 pl1 pl2 fun h' z0 p0 o0 j1 j2 kp => ?_
  have D : ZipApart (s1.heap.objs.size + 4) (s1.heap.objs.size + 2) (s1.heap.objs.size + 3) s1.heap.objs.size (s1.heap.objs.size + 1) l1 l2 := zapart b1 b2
  refine wpAny_pyIter_zip z0 ⟨_, _, _, _, H1, rfl, I1.kept (t' := s1.toks) kp, turn_zip t1 t2 D, ⟨z0, p0, ⟨_, _, o0⟩, j1, j2⟩, fun b hb => ?_, q⟩
  have hb' : s1.heap.objs.size ≤ b := by
    simp only [List.mem_cons, List.not_mem_nil, or_false] at hb
    rcases hb with rfl | rfl | rfl | rfl | rfl <;> first | exact Nat.le_add_right _ _ | exact Nat.le_refl _
  exact I1.fpOk hb' (I1.hok.fresh hb')
end
end L2
namespace HH
open PySem L2 PySem.Spec PyProof.Rows
section
variable {K : PySem.W.Frag} {F F1 H H1 : Hp} {ρ ρ1 : List Sl} {σ : L2.St} {ds es : List D} {a b : Addr}
theorem Same.sq {t : Bool} {xs : List V} (e : Same F H) (h : Sq t K F a xs) : Sq t K H a xs := by
  cases t with
  | true => exact Same.seqT e h
  | false => exact e.seq h
theorem zip_src {t1 t2 : Bool} {xs ys : List V} {F' H' : Hp} (hq1 : Sq t1 K H' a xs) (hq2 : Sq t2 K H' b ys) (r1 : Reps K F' xs ds) (r2 : Reps K F' ys es) (s : Same F' H') (k : Nat) :
    (∀ d, ((ds.zip es).map fun p => D.tup [p.1, p.2])[k]? = some d → (Itz t1 t2 K a b).go k H' ∧ ∀ x H'', (Itz t1 t2 K a b).yld k H' x H'' → ∃ F'', Ext F' H' F'' H'' ∧ Rep K F'' x d) ∧ (((ds.zip es).map fun p => D.tup [p.1, p.2]).length ≤ k → (Itz t1 t2 K a b).stop k H') := by
  refine ⟨fun d hd => ?_, fun h => ⟨xs, ys, hq1, hq2, by rw [r1.length, r2.length]; rw [List.length_map, List.length_zip] at h; omega⟩⟩
  rw [List.getElem?_map] at hd
  obtain ⟨⟨d0, d1⟩, e1, e2⟩ := map_some hd
  subst e2
  obtain ⟨f1, f2⟩ := List.getElem?_zip_eq_some.mp e1
  obtain ⟨w, h1, h2⟩ := r1.get f1
  obtain ⟨w', h1', h2'⟩ := r2.get f2
  refine ⟨⟨xs, ys, w, w', hq1, hq2, h1, h1'⟩, fun x H'' ⟨T, v, v', hT, hx, hH, y, y'⟩ => ?_⟩
  subst hx; subst hH
  have := y xs hq1
  rw [h1] at this; cases this
  have := y' ys hq2
  rw [h1'] at this; cases this
  exact pair_new s hT h2 h2'
theorem rep_sq {v : V} {d : D} {ds : List D} (h : Rep K F v d) (e : items d = some ds) : ∃ t a xs, v = .ref a ∧ Sq t K F a xs ∧ Reps K F xs ds := by
  cases d with
  | tup es =>
    cases e
    rw [Rep] at h
    obtain ⟨a, xs, rfl, h1, h2⟩ := h
    exact ⟨true, a, xs, rfl, h1, h2⟩
  | lst es =>
    cases e
    rw [Rep] at h
    obtain ⟨a, xs, rfl, h1, h2⟩ := h
    exact ⟨false, a, xs, rfl, h1, h2⟩
  | _ => cases e
end
section
variable {X : Cx} {c : Call} {e a b : Expr} {pa pb : P} {pos : Pos} {elts : List Expr} {x1 : Nat} {tp : Pos}
theorem si_zip {x : Str} {p' : Pos} (hx : x = "zip") (hg : Gl X x) (hm : X.mg x = none) (ha : SX X c a pa) (hb : SX X c b pb) (hs : starEach [a, b] X.env = [(false, eval a X.env), (false, eval b X.env)] := by rfl) (hs2 : starEach [b] X.env = [(false, eval b X.env)] := by rfl) :
    SI X c (.Tuple elts x1 tp) (.Call (.Name x p') [a, b] [] pos) (.zip pa pb) := by
  subst hx
  refine piImp (pi_zip hg hm (sa_cons ha (sa_cons hb sa_nil hs2) (by rw [hs, hs2])).1 hs hs2) fun σ H R ⟨F, ρ, ds, ρ1, g, e, k⟩ => ?_
  obtain ⟨r, ρ2, e1, e2⟩ := bind_ok e
  have zz := lift_ok e2; clear e2; obtain ⟨e2, e3⟩ := zz
  subst e3
  rw [HH.ev] at e1
  obtain ⟨x0, ρ3, e4, e7⟩ := bind_ok e1
  obtain ⟨y0, ρ4, e5, e8⟩ := bind_ok e7
  have zz := lift_ok e8; clear e8; obtain ⟨e8, e6⟩ := zz
  subst e6
  obtain ⟨us, f1, e9⟩ := bindO e8
  obtain ⟨ws, f2, f3⟩ := map_some e9
  subst f3
  cases e2
  refine ⟨F, ρ, [x0.d, y0.d], _, g, by rw [evs, e4]; show (evs c [pb] ρ3).bind _ = _; rw [evs, e5]; rfl, fun vs F' H' s rr => ?_⟩
  obtain ⟨v, r', rfl, rv, rr⟩ := rr.uncons
  obtain ⟨u, r'', rfl, ru, rr⟩ := rr.uncons
  rw [rr.unnil]
  obtain ⟨t1, a1, xs, rfl, q1, r1⟩ := rep_sq rv f1
  obtain ⟨t2, a2, ys, rfl, q2, r2⟩ := rep_sq ru f2
  exact ⟨t1, t2, a1, a2, rfl, ⟨xs, Same.sq s.gs.sub q1⟩, ⟨ys, Same.sq s.gs.sub q2⟩, k _ _ _ ⟨s.gs, fun n k F' ρ' σ' H' s' => zip_src (Same.sq s'.gs.sub (Same.sq s'.fsub q1)) (Same.sq s'.gs.sub (Same.sq s'.fsub q2)) (r1.mono s'.fsub) (r2.mono s'.fsub) s'.gs.sub k, fun F3 ρ3 σ3 H3 s3 => ⟨s.trans s3, fun v r rr => rr.later s⟩⟩⟩
end
end HH
end

section
set_option linter.all false
set_option Elab.async false
set_option maxRecDepth 100000
/-! The link: defs as they stand behind the top, calls by depth, the script. -/
namespace HH
open PySem L2 PySem.Spec PyProof.Rows
/-- a def as the top has written it -/
structure DefIn (K : PySem.W.Frag) (x : Str) (st : Stmt) : Prop where
  ex : ∃ f fd, PySem.W.nsIn K mainGlobals x = some (some (.ref f)) ∧ Fun K x x st f fd
section
variable {Pg : Program} {w : World} {K : PySem.W.Frag} {mg : Str → Option Value} {base h : Heap}
theorem def_in {x : Str} {st : Stmt} {f : Addr} {oc : Value} {od an : Option Addr} {osl : Array (Option Value)} {kV doc pm cdv ct : Value} (a : PySem.W.nsIn K mainGlobals x = some (some (.ref f)))
    (l : K.lookup f = some ⟨oc, od, .func (PySem.W.fnOf x x (defArgs st) (defBody st) (defScope st) .none kV doc pm an cdv ct), osl⟩)
    (c : PySem.W.codeIn K cdv x = true) (k : PySem.W.keepIn K (.ref f) = true) : DefIn K x st := ⟨_, _, a, fun_mk l c k⟩
theorem call0 {Γ : Tab} {wl i np : Nat} {x : Str} {st : Stmt} {ps : List Str} (X : K.In h) (G : h.Ns mainGlobals mg) (D : DefIn K x st) (hp : ps.length = np)
    (hb : ∀ (kV doc pm : Value) (an : Option Addr) (cdv ct : Value) (us : List Value), us.length = ps.length → bindArgs (PySem.W.fnOf x x (defArgs st) (defBody st) (defScope st) .none kV doc pm an cdv ct) ⟨us, []⟩ = pure (ps.zip us)) :
    CallOk Pg w K mg base 0 (run Γ wl 0) i x np := by
  obtain ⟨f, fd, a, F⟩ := D.ex
  exact ⟨f, fd, ps, ⟨fun vs H Q E s => s.1, fun A outer s H args us vs Q E hr e b v sp => by obtain ⟨_, F, as, r, as', _, z, _⟩ := sp; cases z⟩, PySem.W.mg_of X G a, F.kp, F.binds hb, hp⟩
theorem callS {Γ : Tab} {wl n i np : Nat} {x : Str} {st : Stmt} {ps : List Str} {d : Fd} (X : K.In h) (G : h.Ns mainGlobals mg) (D : DefIn K x st) (hp : ps.length = np) (hΓ : Γ i = some d)
    (hb : ∀ (kV doc pm : Value) (an : Option Addr) (cdv ct : Value) (us : List Value), us.length = ps.length → bindArgs (PySem.W.fnOf x x (defArgs st) (defBody st) (defScope st) .none kV doc pm an cdv ct) ⟨us, []⟩ = pure (ps.zip us))
    (ok : ∀ f fd, Fun K x x st f fd → FnOk Pg w K mg base CX0 (n + 1) f fd ps (spC K np (fun args => enter (run Γ wl n) wl d args))) :
    CallOk Pg w K mg base (n + 1) (run Γ wl (n + 1)) i x np := by
  obtain ⟨f, fd, a, F⟩ := D.ex
  refine ⟨f, fd, ps, ?_, PySem.W.mg_of X G a, F.kp, F.binds hb, hp⟩
  have e : run Γ wl (n + 1) i = fun args => enter (run Γ wl n) wl d args := by
    funext args
    show (match Γ i with | some d => enter (run Γ wl n) wl d args | none => .stuck) = _
    rw [hΓ]
  rw [e, hp]
  exact ok f fd F
/-- the script -/
theorem ints_reps {F : Hp} : ∀ ns : List Int, Reps K F (ns.map V.int) (ns.map D.int)
  | [] => .nil
  | n :: ns => .cons (repInt n) (ints_reps ns)
theorem script_ok {H : Hp} {a : Addr} {ns : List Int} {g : List Sl → Res R} {as : List Sl} (hS : SqL K H a (ns.map V.int)) (hr : g [.val false (.lst (ns.map D.int))] = .ok (.val (.bl true)) as) :
    spC K 1 g [.ref a] H (fun v _ => v = .bl true) fun _ _ _ => False := by
  refine ⟨rfl, H, _, _, as, ⟨.refl _, rfl, fun i b d e => ?_, fun i s ds e e' => ?_, fun i j c h => ?_⟩, hr, fun v F' σ' H' s rr => ?_⟩
  · match i, e with
    | 0, e =>
      cases e
      refine ⟨.ref a, rfl, ?_⟩
      rw [Rep]
      exact ⟨a, _, rfl, hS, ints_reps ns⟩
    | i + 1, e => simp at e
  · match i, e with
    | 0, e => cases e; cases e'
    | i + 1, e => simp at e
  · obtain ⟨⟨s, ds, e, e'⟩, _⟩ := h
    match i, e with
    | 0, e => cases e; cases e'
    | i + 1, e => simp at e
  · have rr : Rep K F' v (.bl true) := rr
    rw [Rep] at rr
    exact rr
end
end HH
end

section
set_option linter.all false
set_option Elab.async false
set_option maxRecDepth 100000
/-! The evaluator, reckoned with: what a run gives. -/
namespace HH
open PySem
def Res.sat {α : Type} (x : Res α) (Q : α → List Sl → Prop) : Prop := match x with
  | .ok a ρ => Q a ρ
  | .stuck => False
section
variable {α β : Type} {Q Q' : α → List Sl → Prop}
@[simp] theorem sat_ok {a : α} {ρ : List Sl} : (Res.ok a ρ).sat Q = Q a ρ := rfl
@[simp] theorem sat_stuck : (Res.stuck : Res α).sat Q = False := rfl
@[simp↓] theorem sat_bind {x : Res β} {f : β → List Sl → Res α} : (x.bind f).sat Q = x.sat fun a ρ => (f a ρ).sat Q := by cases x <;> rfl
@[simp] theorem sat_ite {p : Prop} [Decidable p] {x y : Res α} : (if p then x else y).sat Q = ((p → x.sat Q) ∧ (¬ p → y.sat Q)) := by
  by_cases h : p <;> simp [h]
@[simp] theorem sat_lift_some {a : α} {ρ : List Sl} : (lift (some a) ρ).sat Q = Q a ρ := rfl
@[simp] theorem sat_lift_none {ρ : List Sl} : (lift (none : Option α) ρ).sat Q = False := rfl
@[simp] theorem sat_lift_ite {p : Prop} [Decidable p] {a : α} {ρ : List Sl} : (lift (if p then some a else none) ρ).sat Q = (p ∧ Q a ρ) := by
  by_cases h : p <;> simp [h]
theorem Res.sat.imp {x : Res α} (h : x.sat Q) (k : ∀ a ρ, Q a ρ → Q' a ρ) : x.sat Q' := by
  cases x with
  | ok a ρ => exact k a ρ h
  | stuck => exact h
theorem sat_iff {x : Res α} : x.sat Q ↔ ∃ a ρ, x = .ok a ρ ∧ Q a ρ := by
  cases x with
  | ok a ρ => exact ⟨fun h => ⟨a, ρ, rfl, h⟩, fun ⟨_, _, e, h⟩ => by cases e; exact h⟩
  | stuck => exact ⟨fun h => h.elim, fun ⟨_, _, e, _⟩ => by cases e⟩
end
/-- free: a name that may be bound anew -/
def fr : Sl → Bool
  | .unb => true
  | .val b _ => !b
  | .own b _ => !b
  | .lent _ => false
@[simp] theorem fr_unb : fr .unb = true := rfl
@[simp] theorem fr_val {b : Bool} {d : D} : fr (.val b d) = !b := rfl
@[simp] theorem fr_own {b : Bool} {d : List D} : fr (.own b d) = !b := rfl
@[simp] theorem fr_lent {d : List D} : fr (.lent d) = false := rfl
theorem put_eq (ρ : List Sl) (i : Nat) (s : Sl) : put ρ i s = match ρ[i]? with | some t => if fr t = true then some (ρ.set i s) else none | none => none := by
  unfold put
  cases h : ρ[i]? with
  | none => rfl
  | some t => cases t with
    | unb => rfl
    | val b d => cases b <;> rfl
    | own b d => cases b <;> rfl
    | lent d => rfl
theorem run_succ {Γ : Tab} {w n i : Nat} {d : Fd} {args : List Sl} (h : Γ i = some d) : run Γ w (n + 1) i args = enter (run Γ w n) w d args := by
  rw [run, h]
def fin (np : Nat) : Fl → List Sl → Option (R × List Sl)
  | .next, ρ => some (.val .non, ρ.take np)
  | .ret r, ρ => some (r, ρ.take np)
  | _, _ => none
theorem sat_enter {c : Call} {n : Nat} {d : Fd} {args : List Sl} {Q : R → List Sl → Prop} (hl : args.length = d.np) (hd : d.np ≤ d.nn)
    (h : (exs c n d.body (args ++ List.replicate (d.nn - d.np) .unb)).sat fun fl ρ => match fl with | .next => Q (.val .non) (ρ.take d.np) | .ret r => Q r (ρ.take d.np) | _ => False) : (enter c n d args).sat Q := by
  unfold enter
  rw [if_pos ⟨hl, hd⟩]
  revert h
  cases exs c n d.body (args ++ List.replicate (d.nn - d.np) .unb) with
  | stuck => exact id
  | ok fl ρ => cases fl <;> exact id
theorem sat_run {Γ : Tab} {w n i : Nat} {d : Fd} {args : List Sl} {Q : R → List Sl → Prop} (hΓ : Γ i = some d) (hl : args.length = d.np) (hd : d.np ≤ d.nn)
    (h : (exs (run Γ w n) w d.body (args ++ List.replicate (d.nn - d.np) .unb)).sat fun fl ρ => match fl with | .next => Q (.val .non) (ρ.take d.np) | .ret r => Q r (ρ.take d.np) | _ => False) : (run Γ w (n + 1) i args).sat Q := by
  rw [run_succ hΓ]; exact sat_enter hl hd h
/-- a statement, then the others -/
theorem sat_cons {c : Call} {n : Nat} {s : S} {r : List S} {ρ : List Sl} {Q : Fl → List Sl → Prop} (h : (ex c n s ρ).sat fun fl ρ' => match fl with | .next => (exs c n r ρ').sat Q | fl => Q fl ρ') : (exs c n (s :: r) ρ).sat Q := by
  rw [exs, sat_bind]
  refine h.imp fun fl ρ' q => ?_
  cases fl <;> exact q
@[simp] theorem sat_nil {c : Call} {n : Nat} {ρ : List Sl} {Q : Fl → List Sl → Prop} : (exs c n [] ρ).sat Q = Q .next ρ := by rw [exs]; rfl
/-- a statement that ends ordinarily, with M -/
theorem sat_seq {c : Call} {n : Nat} {s : S} {r : List S} {ρ : List Sl} {Q : Fl → List Sl → Prop} (M : List Sl → Prop) (h : (ex c n s ρ).sat fun fl ρ' => fl = .next ∧ M ρ') (k : ∀ ρ', M ρ' → (exs c n r ρ').sat Q) : (exs c n (s :: r) ρ).sat Q :=
  sat_cons (h.imp fun fl ρ' ⟨e, q⟩ => by subst e; exact k ρ' q)
/-- a for's turns by an invariant -/
theorem sat_forT {is : List Nat} {one : Bool} {body : List Sl → Res Fl} (J : List D → List Sl → Prop) {Q : Fl → List Sl → Prop} (hb : ∀ d r ρ, J (d :: r) ρ → ∃ ρ1, bindF ρ is one d = some ρ1 ∧ (body ρ1).sat fun fl ρ2 => match fl with
      | .next => J r ρ2
      | .cont => J r ρ2
      | .brk => Q .next ρ2
      | .ret v => Q (.ret v) ρ2) (hq : ∀ ρ, J [] ρ → Q .next ρ) : ∀ {ds : List D} {ρ : List Sl}, J ds ρ → (forT is one body ds ρ).sat Q
  | [], ρ, j => hq ρ j
  | d :: r, ρ, j => by
    obtain ⟨ρ1, e, h⟩ := hb d r ρ j
    rw [forT, e]
    show ((body ρ1).bind _).sat Q
    rw [sat_bind]
    refine h.imp fun fl ρ2 q => ?_
    cases fl with
    | next => exact sat_forT J hb hq q
    | cont => exact sat_forT J hb hq q
    | brk => exact q
    | ret v => exact q
/-- a comprehension's turns: each item gives g -/
theorem sat_turns {is : List Nat} {one : Bool} {test : List Sl → Res Bool} {elt : Ev} (J : List Sl → Prop) (g : D → Option D) {Q : List D → List Sl → Prop} :
    ∀ {ds acc : List D} {ρ : List Sl}, J ρ → (∀ d, d ∈ ds → ∀ ρ, J ρ → ∃ ρ1, bindF ρ is one d = some ρ1 ∧ (test ρ1).sat fun b ρ2 => if b = true then (elt ρ2).sat fun r ρ3 => g d = some r.d ∧ J ρ3 else g d = none ∧ J ρ2) → (∀ ρ, J ρ → Q (acc ++ ds.filterMap g) ρ) →
      (turns is one test elt ds acc ρ).sat Q
  | [], acc, ρ, j, h, k => by rw [turns]; simpa using k ρ j
  | d :: r, acc, ρ, j, h, k => by
    obtain ⟨ρ1, e, h1⟩ := h d (by simp) ρ j
    rw [turns, e]
    show ((test ρ1).bind _).sat Q
    rw [sat_bind]
    refine h1.imp fun b ρ2 q => ?_
    cases b with
    | true =>
      rw [if_pos rfl] at q
      rw [if_pos rfl, sat_bind]
      refine q.imp fun x ρ3 ⟨e1, j3⟩ => ?_
      refine sat_turns J g j3 (fun d' hd' => h d' (by simp [hd'])) fun ρ' j' => ?_
      have := k ρ' j'
      rw [List.filterMap_cons, e1] at this
      rw [List.append_assoc]; exact this
    | false =>
      rw [if_neg (by simp)] at q
      rw [if_neg (by simp)]
      refine sat_turns J g q.2 (fun d' hd' => h d' (by simp [hd'])) fun ρ' j' => ?_
      have := k ρ' j'
      rw [List.filterMap_cons, q.1] at this
      exact this
/-- a comprehension without a test -/
theorem sat_turnsM {is : List Nat} {one : Bool} {elt : Ev} {c : Call} (J : List Sl → Prop) (g : D → D) {Q : List D → List Sl → Prop} {ds : List D} {ρ : List Sl} (j : J ρ) (h : ∀ d, d ∈ ds → ∀ ρ, J ρ → ∃ ρ1, bindF ρ is one d = some ρ1 ∧ (elt ρ1).sat fun r ρ3 => g d = r.d ∧ J ρ3)
    (k : ∀ ρ, J ρ → Q (ds.map g) ρ) : (turns is one (evT c none) elt ds [] ρ).sat Q :=
  sat_turns J (fun d => some (g d)) j (fun d hd ρ j => by
    obtain ⟨ρ1, e, h1⟩ := h d hd ρ j
    refine ⟨ρ1, e, ?_⟩
    rw [evT, sat_ok, if_pos rfl]
    exact h1.imp fun r ρ3 q => ⟨by rw [q.1], q.2⟩) fun ρ j => by simpa using k ρ j
section
variable {ρ l : List Sl} {a : Sl} {i j : Int} {k m : Nat} {b b' : Bool} {s : Str} {d : D} {ds es : List D} {e f : Ev} {x : Option Sl} {c : Call}
@[simp] theorem ty_int_non : isTy .int .non = false := rfl
@[simp] theorem ty_int_bl : isTy .int (.bl b) = true := rfl
@[simp] theorem ty_int_int : isTy .int (.int i) = true := rfl
@[simp] theorem ty_int_str : isTy .int (.str s) = false := rfl
@[simp] theorem ty_int_tup : isTy .int (.tup ds) = false := rfl
@[simp] theorem ty_int_lst : isTy .int (.lst ds) = false := rfl
@[simp] theorem ty_bool_non : isTy .bool .non = false := rfl
@[simp] theorem ty_bool_bl : isTy .bool (.bl b) = true := rfl
@[simp] theorem ty_bool_int : isTy .bool (.int i) = false := rfl
@[simp] theorem ty_bool_str : isTy .bool (.str s) = false := rfl
@[simp] theorem ty_bool_tup : isTy .bool (.tup ds) = false := rfl
@[simp] theorem ty_bool_lst : isTy .bool (.lst ds) = false := rfl
@[simp] theorem ty_str_non : isTy .str .non = false := rfl
@[simp] theorem ty_str_bl : isTy .str (.bl b) = false := rfl
@[simp] theorem ty_str_int : isTy .str (.int i) = false := rfl
@[simp] theorem ty_str_str : isTy .str (.str s) = true := rfl
@[simp] theorem ty_str_tup : isTy .str (.tup ds) = false := rfl
@[simp] theorem ty_str_lst : isTy .str (.lst ds) = false := rfl
@[simp] theorem ty_tuple_non : isTy .tuple .non = false := rfl
@[simp] theorem ty_tuple_bl : isTy .tuple (.bl b) = false := rfl
@[simp] theorem ty_tuple_int : isTy .tuple (.int i) = false := rfl
@[simp] theorem ty_tuple_str : isTy .tuple (.str s) = false := rfl
@[simp] theorem ty_tuple_tup : isTy .tuple (.tup ds) = true := rfl
@[simp] theorem ty_tuple_lst : isTy .tuple (.lst ds) = false := rfl
@[simp] theorem ty_list_non : isTy .list .non = false := rfl
@[simp] theorem ty_list_bl : isTy .list (.bl b) = false := rfl
@[simp] theorem ty_list_int : isTy .list (.int i) = false := rfl
@[simp] theorem ty_list_str : isTy .list (.str s) = false := rfl
@[simp] theorem ty_list_tup : isTy .list (.tup ds) = false := rfl
@[simp] theorem ty_list_lst : isTy .list (.lst ds) = true := rfl
@[simp] theorem ty_none_non : isTy .none .non = true := rfl
@[simp] theorem ty_none_bl : isTy .none (.bl b) = false := rfl
@[simp] theorem ty_none_int : isTy .none (.int i) = false := rfl
@[simp] theorem ty_none_str : isTy .none (.str s) = false := rfl
@[simp] theorem ty_none_tup : isTy .none (.tup ds) = false := rfl
@[simp] theorem ty_none_lst : isTy .none (.lst ds) = false := rfl
@[simp] theorem isNon_non : isNon .non = true := rfl
@[simp] theorem isNon_bl : isNon (.bl b) = false := rfl
@[simp] theorem isNon_int : isNon (.int i) = false := rfl
@[simp] theorem isNon_str : isNon (.str s) = false := rfl
@[simp] theorem isNon_tup : isNon (.tup ds) = false := rfl
@[simp] theorem isNon_lst : isNon (.lst ds) = false := rfl
@[simp] theorem flat_non : flat .non = true := rfl
@[simp] theorem flat_bl : flat (.bl b) = true := rfl
@[simp] theorem flat_int : flat (.int i) = true := rfl
@[simp] theorem flat_str : flat (.str s) = true := rfl
@[simp] theorem flat_tup : flat (.tup ds) = false := rfl
@[simp] theorem flat_lst : flat (.lst ds) = false := rfl
@[simp] theorem Rd_val : (R.val d).d = d := rfl
@[simp] theorem Rd_own : (R.own ds).d = .lst ds := rfl
@[simp] theorem slOf_val : slOf (.val d) = .val false d := rfl
@[simp] theorem slOf_own : slOf (.own ds) = .own false ds := rfl
@[simp] theorem argOf_val : argOf (.val d) = .dat d := rfl
@[simp] theorem argOf_own : argOf (.own ds) = .tmp ds := rfl
@[simp] theorem asI_int : asI (.int i) = some i := rfl
@[simp] theorem asB_bl : asB (.bl b) = some b := rfl
@[simp] theorem items_lst : items (.lst ds) = some ds := rfl
@[simp] theorem items_tup : items (.tup ds) = some ds := rfl
@[simp] theorem itemsT_tup : itemsT (.tup ds) = some ds := rfl
@[simp] theorem itemsL_lst : itemsL (.lst ds) = some ds := rfl
@[simp] theorem op2_add : op2 .add = opAdd := rfl
@[simp] theorem op2_sub : op2 .sub = opSub := rfl
@[simp] theorem op2_mul : op2 .mul = opMul := rfl
@[simp] theorem op2_fdiv : op2 .fdiv = opFdiv := rfl
@[simp] theorem op2_mod : op2 .mod = opMod := rfl
@[simp] theorem op2_pow : op2 .pow = opPow := rfl
@[simp] theorem opAdd_int : opAdd (.int i) (.int j) = some (.val (.int (i + j))) := rfl
@[simp] theorem opAdd_lst : opAdd (.lst ds) (.lst es) = if ds.length + es.length ≤ lim then some (.own (ds ++ es)) else none := rfl
@[simp] theorem opAdd_tup : opAdd (.tup ds) (.tup es) = if ds.length + es.length ≤ lim then some (.val (.tup (ds ++ es))) else none := rfl
@[simp] theorem opSub_int : opSub (.int i) (.int j) = some (.val (.int (i - j))) := rfl
@[simp] theorem opMul_int : opMul (.int i) (.int j) = if ((-18446744073709551616 < i ∧ i < 18446744073709551616) ∨ (-18446744073709551616 < j ∧ j < 18446744073709551616)) then some (.val (.int (i * j))) else none := rfl
@[simp] theorem opFdiv_int : opFdiv (.int i) (.int j) = if 0 < j ∧ j < 1606938044258990275541962092341162602522202993782792835301376 then some (.val (.int (i / j))) else none := rfl
@[simp] theorem opMod_int : opMod (.int i) (.int j) = if 0 < j then some (.val (.int (i % j))) else none := rfl
@[simp] theorem opPow_int : opPow (.int i) (.int j) = if 0 ≤ j ∧ j ≤ 1000 ∧ i.natAbs < 18446744073709551616 then some (.val (.int (i ^ j.toNat))) else none := rfl
@[simp] theorem ixR_lst : ixR (.lst ds) (.int i) = (at' ds i).map .val := rfl
@[simp] theorem ixR_tup : ixR (.tup ds) (.int i) = (at' ds i).map .val := rfl
@[simp] theorem negR_int : negR (.int i) = some (.val (.int (-i))) := rfl
@[simp] theorem cm_eq_int : cm .eq (.int i) (.int j) = some (i == j) := rfl
@[simp] theorem cm_ne_int : cm .ne (.int i) (.int j) = some (!(i == j)) := rfl
@[simp] theorem cm_eq_bl : cm .eq (.bl b) (.bl b') = some (b == b') := rfl
@[simp] theorem cm_ne_bl : cm .ne (.bl b) (.bl b') = some (!(b == b')) := rfl
@[simp] theorem cm_lt_int : cm .lt (.int i) (.int j) = some (decide (i < j)) := rfl
@[simp] theorem cm_le_int : cm .le (.int i) (.int j) = some (decide (i ≤ j)) := rfl
@[simp] theorem cm_gt_int : cm .gt (.int i) (.int j) = some (decide (j < i)) := rfl
@[simp] theorem cm_ge_int : cm .ge (.int i) (.int j) = some (decide (j ≤ i)) := rfl
@[simp] theorem cm_isN : cm .isN d .non = some (isNon d) := rfl
@[simp] theorem cm_notN : cm .notN d .non = some (!isNon d) := rfl
@[simp] theorem blt_len_lst : blt .len [.lst ds] = some (.val (.int ds.length)) := rfl
@[simp] theorem blt_len_tup : blt .len [.tup ds] = some (.val (.int ds.length)) := rfl
@[simp] theorem blt_list_lst : blt .list [.lst ds] = some (.own ds) := rfl
@[simp] theorem blt_list_tup : blt .list [.tup ds] = some (.own ds) := rfl
@[simp] theorem blt_tuple_lst : blt .tuple [.lst ds] = some (.val (.tup ds)) := rfl
@[simp] theorem blt_tuple_tup : blt .tuple [.tup ds] = some (.val (.tup ds)) := rfl
@[simp] theorem blt_min2 : blt .min2 [.int i, .int j] = some (.val (.int (if j < i then j else i))) := rfl
@[simp] theorem blt_max2 : blt .max2 [.int i, .int j] = some (.val (.int (if i < j then j else i))) := rfl
@[simp] theorem blt_all : blt .all [.lst ds] = (ds.mapM asB).map fun bs => .val (.bl (bs.all id)) := rfl
@[simp] theorem blt_any : blt .any [.lst ds] = (ds.mapM asB).map fun bs => .val (.bl (bs.any id)) := rfl
@[simp] theorem isVar_var : isVar (.var k) = some k := rfl
@[simp] theorem pk_cons : pk (a :: l) k = match (a :: l)[k]? with | some (.val _ d) => some d | some (.own _ ds) => some (.lst ds) | some (.lent ds) => some (.lst ds) | _ => none := rfl
@[simp] theorem pkL_cons : pkL (a :: l) k = match pk (a :: l) k with | some (.lst ds) => some ds | _ => none := rfl
@[simp] theorem opd_some : opd (some k) e ρ = lift (pk ρ k) ρ := rfl
@[simp] theorem opd_none : opd none e ρ = (e ρ).bind fun r ρ => .ok r.d ρ := rfl
@[simp] theorem opd2_some {y : Option Nat} : opd2 (some k) e y f ρ = (lift (pk ρ k) ρ).bind fun _ ρ => (opd y f ρ).bind fun y ρ => (lift (pk ρ k) ρ).bind fun x ρ => .ok (x, y) ρ := rfl
@[simp] theorem opd2_none {y : Option Nat} : opd2 none e y f ρ = (opd none e ρ).bind fun x ρ => (opd y f ρ).bind fun y ρ => .ok (x, y) ρ := rfl
@[simp] theorem backS_own {es : List D} : backS (.own b ds) (some (.own b' es)) = .own b es := rfl
@[simp] theorem backS_frz : backS (.own b ds) (some (.val b' d)) = .val b d := rfl
@[simp] theorem backS_no : backS a none = a := by cases a <;> rfl
@[simp] theorem backS_val : backS (.val b d) x = .val b d := by cases x <;> rfl
@[simp] theorem backS_unb : backS .unb x = .unb := by cases x <;> rfl
@[simp] theorem backS_lent : backS (.lent ds) x = .lent ds := by cases x <;> rfl
@[simp] theorem bindF_nm : bindF ρ [k] true d = put ρ k (.val false d) := rfl
@[simp] theorem bindF_tup {is : List Nat} : bindF ρ is false (.tup ds) = putAll ρ is ds := by cases is <;> rfl
@[simp] theorem srcOf_none : srcOf none e ρ = (e ρ).bind fun r ρ => lift (items r.d) ρ := rfl
@[simp] theorem srcOf_some : srcOf (some k) e (a :: l) = match (a :: l)[k]? with | some (.val _ d) => lift (items d) (a :: l) | some (.own _ ds) => .ok ds ((a :: l).set k (.lent ds)) | some (.lent ds) => .ok ds (a :: l) | _ => .stuck := rfl
@[simp] theorem unlend_none {ρ' : List Sl} : unlend ρ' none ρ = ρ := rfl
@[simp] theorem unlend_some : unlend (a :: l) (some k) ρ = match (a :: l)[k]? with | some (.own b ds) => ρ.set k (.own b ds) | _ => ρ := rfl
@[simp] theorem put_cons {s : Sl} : put (a :: l) k s = match (a :: l)[k]? with | some t => if fr t = true then some ((a :: l).set k s) else none | none => none := put_eq ..
@[simp] theorem putAll_nil : putAll ρ [] [] = some ρ := rfl
@[simp] theorem putAll_cons {is : List Nat} : putAll ρ (k :: is) (d :: ds) = (put ρ k (.val false d)).bind fun ρ => putAll ρ is ds := rfl
@[simp↓] theorem sat_doCall {as : List Arg} {Q : R → List Sl → Prop} : (doCall c k as ρ).sat Q = match bindA ρ as [] with | none => False | some args => (c k args).sat fun r args' => Q r (backA as args' 0 ρ) := by
  unfold doCall
  cases bindA ρ as [] with
  | none => rfl
  | some args => simp only; cases c k args <;> rfl
end
@[simp] theorem at_0 {α : Type} {a0 : α} {l : List α} : at' (a0 :: l) 0 = some a0 := by
  unfold at' ixN; rw [if_pos (by decide), if_pos (by simp only [List.length_cons]; omega)]; rfl
@[simp] theorem at_1 {α : Type} {a0 a1 : α} {l : List α} : at' (a0 :: a1 :: l) 1 = some a1 := by
  unfold at' ixN; rw [if_pos (by decide), if_pos (by simp only [List.length_cons]; omega)]; rfl
@[simp] theorem at_2 {α : Type} {a0 a1 a2 : α} {l : List α} : at' (a0 :: a1 :: a2 :: l) 2 = some a2 := by
  unfold at' ixN; rw [if_pos (by decide), if_pos (by simp only [List.length_cons]; omega)]; rfl
@[simp] theorem at_3 {α : Type} {a0 a1 a2 a3 : α} {l : List α} : at' (a0 :: a1 :: a2 :: a3 :: l) 3 = some a3 := by
  unfold at' ixN; rw [if_pos (by decide), if_pos (by simp only [List.length_cons]; omega)]; rfl
@[simp] theorem at_4 {α : Type} {a0 a1 a2 a3 a4 : α} {l : List α} : at' (a0 :: a1 :: a2 :: a3 :: a4 :: l) 4 = some a4 := by
  unfold at' ixN; rw [if_pos (by decide), if_pos (by simp only [List.length_cons]; omega)]; rfl
@[simp] theorem at_5 {α : Type} {a0 a1 a2 a3 a4 a5 : α} {l : List α} : at' (a0 :: a1 :: a2 :: a3 :: a4 :: a5 :: l) 5 = some a5 := by
  unfold at' ixN; rw [if_pos (by decide), if_pos (by simp only [List.length_cons]; omega)]; rfl
@[simp] theorem at_6 {α : Type} {a0 a1 a2 a3 a4 a5 a6 : α} {l : List α} : at' (a0 :: a1 :: a2 :: a3 :: a4 :: a5 :: a6 :: l) 6 = some a6 := by
  unfold at' ixN; rw [if_pos (by decide), if_pos (by simp only [List.length_cons]; omega)]; rfl
@[simp] theorem at_7 {α : Type} {a0 a1 a2 a3 a4 a5 a6 a7 : α} {l : List α} : at' (a0 :: a1 :: a2 :: a3 :: a4 :: a5 :: a6 :: a7 :: l) 7 = some a7 := by
  unfold at' ixN; rw [if_pos (by decide), if_pos (by simp only [List.length_cons]; omega)]; rfl
theorem at_nat {α : Type} {l : List α} {i : Int} (h : 0 ≤ i) (h' : i < l.length) : at' l i = l[i.toNat]? := by
  unfold at' ixN; rw [if_pos h, if_pos h']; rfl
theorem at_ofNat {α : Type} {l : List α} {k : Nat} (h' : k < l.length) : at' l (k : Int) = l[k]? := by
  rw [at_nat (by omega) (by omega)]; simp
theorem at_none {α : Type} {l : List α} {i : Int} (h : (l.length : Int) ≤ i) : at' l i = none := by
  unfold at' ixN; rw [if_pos (by omega), if_neg (by omega)]; rfl
theorem isVar_ne {p : P} (h : ∀ i, p ≠ .var i) : isVar p = none := by cases p <;> first | rfl | exact absurd rfl (h _)
@[simp] theorem isVar_con {d : D} : isVar (.con d) = none := rfl
@[simp] theorem isVar_glob {x : Str} {d : D} : isVar (.glob x d) = none := rfl
@[simp] theorem isVar_bin {o : Op} {p q : P} : isVar (.bin o p q) = none := rfl
@[simp] theorem isVar_neg {p : P} : isVar (.neg p) = none := rfl
@[simp] theorem isVar_not {p : P} : isVar (.not p) = none := rfl
@[simp] theorem isVar_and {p q : P} : isVar (.and p q) = none := rfl
@[simp] theorem isVar_or {p q : P} : isVar (.or p q) = none := rfl
@[simp] theorem isVar_cmp {o : Cm} {p q : P} : isVar (.cmp o p q) = none := rfl
@[simp] theorem isVar_chain {o o' : Cm} {p q r : P} : isVar (.chain o o' p q r) = none := rfl
@[simp] theorem isVar_ife {p q r : P} : isVar (.ife p q r) = none := rfl
@[simp] theorem isVar_tup {as : List P} : isVar (.tup as) = none := rfl
@[simp] theorem isVar_lst {as : List P} : isVar (.lst as) = none := rfl
@[simp] theorem isVar_idx {p q : P} : isVar (.idx p q) = none := rfl
@[simp] theorem isVar_slice {p q r : P} : isVar (.slice p q r) = none := rfl
@[simp] theorem isVar_call {f : Nat} {as : List P} : isVar (.call f as) = none := rfl
@[simp] theorem isVar_blt {b : Blt} {as : List P} : isVar (.blt b as) = none := rfl
@[simp] theorem isVar_inst {ts : List Ty} {p : P} : isVar (.inst ts p) = none := rfl
@[simp] theorem isVar_pop {x : Nat} : isVar (.pop x) = none := rfl
@[simp] theorem isVar_comp {p e : P} {n : Nat} {is : List Nat} {one : Bool} {t : Option P} : isVar (.comp p n is one t e) = none := rfl
@[simp] theorem isVar_rng {p q : P} : isVar (.rng p q) = none := rfl
@[simp] theorem isVar_enm {p : P} : isVar (.enm p) = none := rfl
@[simp] theorem isVar_zip {p q : P} : isVar (.zip p q) = none := rfl
@[simp] theorem isVar_rev {p : P} : isVar (.rev p) = none := rfl
/-- a comprehension's turns, by its text -/
def compT (c : Call) (is : List Nat) (one : Bool) (test : Option P) (elt : P) (ds : List D) (ρ : List Sl) : Res (List D) := turns is one (evT c test) (ev c elt) ds [] ρ
@[simp] theorem ev_comp {c : Call} {src elt : P} {n : Nat} {is : List Nat} {one : Bool} {test : Option P} {ρ : List Sl} : ev c (.comp src n is one test elt) ρ = (srcOf (isVar src) (ev c src) ρ).bind fun ds ρ₁ =>
      if ds.length ≤ lim then (compT c is one test elt ds (ρ₁ ++ List.replicate n .unb)).bind fun xs ρ₂ => .ok (.own xs) (unlend ρ (isVar src) (ρ₂.take ρ₁.length)) else .stuck := by rw [ev]; rfl
/-- a while, by its text -/
def whlC (c : Call) (n : Nat) (t : P) (body : List S) (k : Nat) (ρ : List Sl) : Res Fl := whlT (tru (ev c t)) (exs c n body) k ρ
@[simp] theorem ex_whl {c : Call} {n : Nat} {t : P} {body : List S} {ρ : List Sl} : ex c n (.whl t body) ρ = whlC c n t body n ρ := by rw [ex]; rfl
/-- each item gives its g -/
theorem sat_compM {c : Call} {is : List Nat} {one : Bool} {elt : P} (J : List Sl → Prop) (g : D → D) {Q : List D → List Sl → Prop} {ds : List D} {ρ : List Sl} (j : J ρ) (h : ∀ d, d ∈ ds → ∀ ρ, J ρ → ∃ ρ1, bindF ρ is one d = some ρ1 ∧ (ev c elt ρ1).sat fun r ρ3 => g d = r.d ∧ J ρ3)
    (k : ∀ ρ, J ρ → Q (ds.map g) ρ) : (compT c is one none elt ds ρ).sat Q := sat_turnsM J g j h k
theorem sat_compF {c : Call} {is : List Nat} {one : Bool} {elt t : P} (J : List Sl → Prop) (g : D → Option D) {Q : List D → List Sl → Prop} {ds : List D} {ρ : List Sl} (j : J ρ)
    (h : ∀ d, d ∈ ds → ∀ ρ, J ρ → ∃ ρ1, bindF ρ is one d = some ρ1 ∧ (ev c t ρ1).sat fun r ρ2 => ∃ b, r.d = .bl b ∧ if b = true then (ev c elt ρ2).sat fun r ρ3 => g d = some r.d ∧ J ρ3 else g d = none ∧ J ρ2) (k : ∀ ρ, J ρ → Q (ds.filterMap g) ρ) : (compT c is one (some t) elt ds ρ).sat Q :=
  sat_turns J g j (fun d hd ρ j => by
    obtain ⟨ρ1, e, h1⟩ := h d hd ρ j
    refine ⟨ρ1, e, ?_⟩
    rw [evT, tru, sat_bind]
    refine h1.imp fun r ρ2 ⟨b, e, q⟩ => ?_
    rw [e]
    exact q) fun ρ j => by simpa using k ρ j
/-- a while, by an invariant and a measure -/
theorem sat_whlC {c : Call} {n : Nat} {t : P} {body : List S} (J : Nat → List Sl → Prop) {Q : Fl → List Sl → Prop} (h : ∀ m ρ, J m ρ → (ev c t ρ).sat fun r ρ1 => ∃ b, r.d = .bl b ∧ if b = true then (exs c n body ρ1).sat fun fl ρ2 => match fl with
      | .next => ∃ m', m' < m ∧ J m' ρ2
      | .cont => ∃ m', m' < m ∧ J m' ρ2
      | .brk => Q .next ρ2
      | .ret v => Q (.ret v) ρ2 else Q .next ρ1) : ∀ {k m : Nat} {ρ : List Sl}, m < k → J m ρ → (whlC c n t body k ρ).sat Q
  | 0, m, ρ, hk, _ => absurd hk (Nat.not_lt_zero _)
  | k + 1, m, ρ, hk, j => by
    unfold whlC
    rw [whlT, sat_bind, tru, sat_bind]
    refine (h m ρ j).imp fun r ρ1 ⟨b, e, q⟩ => ?_
    rw [e]
    show (if b = true then _ else _ : Res Fl).sat Q
    cases b with
    | false =>
      rw [if_neg (by simp)] at q
      rw [if_neg (by simp)]; exact q
    | true =>
      rw [if_pos rfl] at q
      rw [if_pos rfl, sat_bind]
      refine q.imp fun fl ρ2 q => ?_
      cases fl with
      | next => obtain ⟨m', hm, j'⟩ := q; exact sat_whlC J h (Nat.lt_of_lt_of_le hm (Nat.lt_succ_iff.mp hk)) j'
      | cont => obtain ⟨m', hm, j'⟩ := q; exact sat_whlC J h (Nat.lt_of_lt_of_le hm (Nat.lt_succ_iff.mp hk)) j'
      | brk => exact q
      | ret v => exact q
@[simp] theorem q_ev1 : type_of% @HH.ev.eq_1 := @HH.ev.eq_1
@[simp] theorem q_ev2 : type_of% @HH.ev.eq_2 := @HH.ev.eq_2
@[simp] theorem q_ev3 : type_of% @HH.ev.eq_3 := @HH.ev.eq_3
@[simp] theorem q_ev4 : type_of% @HH.ev.eq_4 := @HH.ev.eq_4
@[simp] theorem q_ev5 : type_of% @HH.ev.eq_5 := @HH.ev.eq_5
@[simp] theorem q_ev6 : type_of% @HH.ev.eq_6 := @HH.ev.eq_6
@[simp] theorem q_ev7 : type_of% @HH.ev.eq_7 := @HH.ev.eq_7
@[simp] theorem q_ev8 : type_of% @HH.ev.eq_8 := @HH.ev.eq_8
@[simp] theorem q_ev9 : type_of% @HH.ev.eq_9 := @HH.ev.eq_9
@[simp] theorem q_ev10 : type_of% @HH.ev.eq_10 := @HH.ev.eq_10
@[simp] theorem q_ev11 : type_of% @HH.ev.eq_11 := @HH.ev.eq_11
@[simp] theorem q_ev12 : type_of% @HH.ev.eq_12 := @HH.ev.eq_12
@[simp] theorem q_ev13 : type_of% @HH.ev.eq_13 := @HH.ev.eq_13
@[simp] theorem q_ev14 : type_of% @HH.ev.eq_14 := @HH.ev.eq_14
@[simp] theorem q_ev15 : type_of% @HH.ev.eq_15 := @HH.ev.eq_15
@[simp] theorem q_ev16 : type_of% @HH.ev.eq_16 := @HH.ev.eq_16
@[simp] theorem q_ev17 : type_of% @HH.ev.eq_17 := @HH.ev.eq_17
@[simp] theorem q_ev18 : type_of% @HH.ev.eq_18 := @HH.ev.eq_18
@[simp] theorem q_ev19 : type_of% @HH.ev.eq_19 := @HH.ev.eq_19
@[simp] theorem q_ev20 : type_of% @HH.ev.eq_20 := @HH.ev.eq_20
@[simp] theorem q_ev22 : type_of% @HH.ev.eq_22 := @HH.ev.eq_22
@[simp] theorem q_ev23 : type_of% @HH.ev.eq_23 := @HH.ev.eq_23
@[simp] theorem q_ev24 : type_of% @HH.ev.eq_24 := @HH.ev.eq_24
@[simp] theorem q_ev25 : type_of% @HH.ev.eq_25 := @HH.ev.eq_25
@[simp] theorem q_ex1 : type_of% @HH.ex.eq_1 := @HH.ex.eq_1
@[simp] theorem q_ex2 : type_of% @HH.ex.eq_2 := @HH.ex.eq_2
@[simp] theorem q_ex3 : type_of% @HH.ex.eq_3 := @HH.ex.eq_3
@[simp] theorem q_ex4 : type_of% @HH.ex.eq_4 := @HH.ex.eq_4
@[simp] theorem q_ex5 : type_of% @HH.ex.eq_5 := @HH.ex.eq_5
@[simp] theorem q_ex6 : type_of% @HH.ex.eq_6 := @HH.ex.eq_6
@[simp] theorem q_ex7 : type_of% @HH.ex.eq_7 := @HH.ex.eq_7
@[simp] theorem q_ex8 : type_of% @HH.ex.eq_8 := @HH.ex.eq_8
@[simp] theorem q_ex9 : type_of% @HH.ex.eq_9 := @HH.ex.eq_9
@[simp] theorem q_ex10 : type_of% @HH.ex.eq_10 := @HH.ex.eq_10
@[simp] theorem q_ex11 : type_of% @HH.ex.eq_11 := @HH.ex.eq_11
@[simp] theorem q_ex12 : type_of% @HH.ex.eq_12 := @HH.ex.eq_12
@[simp] theorem q_ex13 : type_of% @HH.ex.eq_13 := @HH.ex.eq_13
@[simp] theorem q_ex14 : type_of% @HH.ex.eq_14 := @HH.ex.eq_14
@[simp] theorem q_ex15 : type_of% @HH.ex.eq_15 := @HH.ex.eq_15
@[simp] theorem q_tru1 : type_of% @HH.tru.eq_1 := @HH.tru.eq_1
@[simp] theorem q_evs1 : type_of% @HH.evs.eq_1 := @HH.evs.eq_1
@[simp] theorem q_evs2 : type_of% @HH.evs.eq_2 := @HH.evs.eq_2
@[simp] theorem q_evA1 : type_of% @HH.evA.eq_1 := @HH.evA.eq_1
@[simp] theorem q_evA2 : type_of% @HH.evA.eq_2 := @HH.evA.eq_2
@[simp] theorem q_evT1 : type_of% @HH.evT.eq_1 := @HH.evT.eq_1
@[simp] theorem q_evT2 : type_of% @HH.evT.eq_2 := @HH.evT.eq_2
@[simp] theorem q_cmR1 : type_of% @HH.cmR.eq_1 := @HH.cmR.eq_1
@[simp] theorem q_bindA1 : type_of% @HH.bindA.eq_1 := @HH.bindA.eq_1
@[simp] theorem q_bindA2 : type_of% @HH.bindA.eq_2 := @HH.bindA.eq_2
@[simp] theorem q_bindA3 : type_of% @HH.bindA.eq_3 := @HH.bindA.eq_3
@[simp] theorem q_bindA4 : type_of% @HH.bindA.eq_4 := @HH.bindA.eq_4
@[simp] theorem q_backA1 : type_of% @HH.backA.eq_1 := @HH.backA.eq_1
@[simp] theorem q_backA2 : type_of% @HH.backA.eq_2 := @HH.backA.eq_2
@[simp] theorem q_lookA1 : type_of% @HH.lookA.eq_1 := @HH.lookA.eq_1
@[simp] theorem q_lookA2 : type_of% @HH.lookA.eq_2 := @HH.lookA.eq_2
@[simp] theorem q_lookA3 : type_of% @HH.lookA.eq_3 := @HH.lookA.eq_3
@[simp] theorem q_lookA4 : type_of% @HH.lookA.eq_4 := @HH.lookA.eq_4
end HH
end

section
set_option linter.all false
set_option Elab.async false
set_option maxRecDepth 100000
/-! sum, min and max of a list or a tuple of ints; in, not in. -/
namespace HH
open PySem L2 PySem.Spec PyProof.Rows
section
variable {X : Cx} {c : Call} {a b : Expr} {pa pb : P} {pos : Pos}
/-! ### in -/
end
end HH
end

section
set_option linter.all false
set_option Elab.async false
set_option maxRecDepth 100000
/-! More to reckon with. -/
namespace HH
open PySem
section
variable {i j : Int} {ds es : List D} {d : D} {b b' : Bool}
@[simp] theorem op2_shl : op2 .shl = opShl := rfl
@[simp] theorem op2_shr : op2 .shr = opShr := rfl
@[simp] theorem op2_band : op2 .band = opBand := rfl
@[simp] theorem opShl_int : opShl (.int i) (.int j) = if 0 ≤ j ∧ j ≤ 1000 ∧ i.natAbs < 18446744073709551616 then some (.val (.int (i * 2 ^ j.toNat))) else none := rfl
@[simp] theorem opShr_int : opShr (.int i) (.int j) = if 0 ≤ j then some (.val (.int (i / 2 ^ j.toNat))) else none := rfl
@[simp] theorem opBand_int : opBand (.int i) (.int j) = some (.val (.int (Builtin.bitAnd i j))) := rfl
@[simp] theorem opMul_lst : opMul (.lst ds) (.int i) = if 0 ≤ i ∧ 0 < ds.length ∧ ds.length * i.toNat ≤ lim then some (.own (List.replicate i.toNat ds).flatten) else none := rfl
@[simp] theorem opMul_tup : opMul (.tup ds) (.int i) = if 0 ≤ i ∧ 0 < ds.length ∧ ds.length * i.toNat ≤ lim then some (.val (.tup (List.replicate i.toNat ds).flatten)) else none := rfl
@[simp] theorem cm_isT : cm .isT (.bl b) (.bl true) = some b := rfl
@[simp] theorem cm_notT : cm .notT (.bl b) (.bl true) = some (!b) := rfl
@[simp] theorem blt_sum : blt .sum [.lst ds] = (ds.mapM asI).map fun ns => .val (.int ns.sum) := rfl
@[simp] theorem blt_minL : blt .minL [.lst ds] = (ds.mapM asI).bind fun ns => ns.min?.map fun i => .val (.int i) := rfl
@[simp] theorem blt_maxL : blt .maxL [.lst ds] = (ds.mapM asI).bind fun ns => ns.max?.map fun i => .val (.int i) := rfl
end
@[simp] theorem q_ex17 : type_of% @HH.ex.eq_17 := @HH.ex.eq_17
@[simp] theorem q_ex18 : type_of% @HH.ex.eq_18 := @HH.ex.eq_18
@[simp] theorem q_ex19 : type_of% @HH.ex.eq_19 := @HH.ex.eq_19
@[simp] theorem q_ex20 : type_of% @HH.ex.eq_20 := @HH.ex.eq_20
@[simp] theorem q_ex21 : type_of% @HH.ex.eq_21 := @HH.ex.eq_21
theorem mapM_int {ns : List Int} : (ns.map D.int).mapM asI = some ns := by
  induction ns with
  | nil => rfl
  | cons n ns ih => simp [ih]
@[simp] theorem mapM_intc {ns : List Int} : ns.mapM (asI ∘ D.int) = some ns := by
  rw [← mapM_int (ns := ns), List.mapM_map]
@[simp] theorem mapM_blc {bs : List Bool} : bs.mapM (asB ∘ D.bl) = some bs := by
  induction bs with
  | nil => rfl
  | cons b bs ih => simp [ih]
theorem any_int {S : List Int} {i : Int} : ((S.map D.int).any fun y => peq y (.int i)) = S.contains i := by
  induction S with
  | nil => rfl
  | cons s S ih =>
    rw [List.map_cons, List.any_cons, List.contains_cons, ih, peq]
    rw [show (s == i) = (i == s) from Bool.eq_iff_iff.mpr ⟨fun h => by simp at h ⊢; exact h.symm, fun h => by simp at h ⊢; exact h.symm⟩]
theorem all_flat {S : List Int} : (S.map D.int).all flat = true := by
  rw [List.all_eq_true]; intro d hd; obtain ⟨i, _, rfl⟩ := List.mem_map.mp hd; rfl
theorem in_lst {S : List Int} {i : Int} : cm .inn (.int i) (.lst (S.map D.int)) = some (S.contains i) := by
  show cmIn false _ _ = _
  unfold cmIn
  simp only [items_lst, Option.bind_some, flat_int, all_flat, Bool.and_true, any_int]
  rfl
theorem in_tup {S : List Int} {i : Int} : cm .inn (.int i) (.tup (S.map D.int)) = some (S.contains i) := by
  show cmIn false _ _ = _
  unfold cmIn
  simp only [items_tup, Option.bind_some, flat_int, all_flat, Bool.and_true, any_int]
  rfl
theorem notin_lst {S : List Int} {i : Int} : cm .notin (.int i) (.lst (S.map D.int)) = some (!S.contains i) := by
  show cmIn true _ _ = _
  unfold cmIn
  simp only [items_lst, Option.bind_some, flat_int, all_flat, Bool.and_true, any_int]
  rfl
theorem notin_tup {S : List Int} {i : Int} : cm .notin (.int i) (.tup (S.map D.int)) = some (!S.contains i) := by
  show cmIn true _ _ = _
  unfold cmIn
  simp only [items_tup, Option.bind_some, flat_int, all_flat, Bool.and_true, any_int]
  rfl
theorem dle_int {n : Nat} {S : List Int} : dle (n + 1) (.lst (S.map D.int)) = true := by
  rw [dle, List.all_eq_true]; intro d hd; obtain ⟨i, _, rfl⟩ := List.mem_map.mp hd; cases n <;> rfl
theorem peqs_int : ∀ {S T : List Int}, peqs (S.map D.int) (T.map D.int) = (S == T)
  | [], [] => by simp [peqs]
  | [], _ :: _ => by simp [peqs]
  | _ :: _, [] => by simp [peqs]
  | s :: S, t :: T => by
    rw [List.map_cons, List.map_cons, peqs, peqs_int, peq]; rfl
theorem eq_ints {S T : List Int} : cm .eq (.lst (S.map D.int)) (.lst (T.map D.int)) = some (S == T) := by
  show cmEq _ _ = _
  unfold cmEq
  rw [dle_int, dle_int, peq, peqs_int]; rfl
theorem ne_ints {S T : List Int} : cm .ne (.lst (S.map D.int)) (.lst (T.map D.int)) = some (!(S == T)) := by
  show cmNe _ _ = _
  unfold cmNe
  rw [dle_int, dle_int, peq, peqs_int]; rfl
theorem eq_nilI {S : List Int} : cm .eq (.lst (S.map D.int)) (.lst []) = some S.isEmpty := by
  rw [show (.lst [] : D) = .lst (([] : List Int).map D.int) from rfl, eq_ints]
  cases S <;> rfl
theorem ne_nilI {S : List Int} : cm .ne (.lst (S.map D.int)) (.lst []) = some (!S.isEmpty) := by
  rw [show (.lst [] : D) = .lst (([] : List Int).map D.int) from rfl, ne_ints]
  cases S <;> rfl
theorem at_last {α : Type} {l : List α} {x : α} : at' (l ++ [x]) (-1) = some x := by
  unfold at' ixN
  rw [if_neg (by decide), if_pos (by simp only [List.length_append, List.length_singleton]; omega)]
  have : (-1 + ((l ++ [x]).length : Int)).toNat = l.length := by simp only [List.length_append, List.length_singleton]; omega
  rw [this]; simp
theorem at_map {α : Type} {l : List α} {f : α → D} {k : Nat} {x : α} (h : l[k]? = some x) : at' (l.map f) (k : Int) = some (f x) := by
  have hk := (List.getElem?_eq_some_iff.mp h).1
  rw [at_ofNat (by simpa using hk), List.getElem?_map, h]; rfl
theorem ix_nat {n k : Nat} (h : k < n) : ixN n (k : Int) = some k := by
  unfold ixN; rw [if_pos (by omega), if_pos (by omega)]; simp
theorem at_some {α : Type} {l : List α} {i : Int} (h : 0 ≤ i) (h' : i < l.length) : ∃ x, at' l i = some x ∧ x ∈ l := by
  rw [at_nat h h']
  have hk : i.toNat < l.length := by omega
  exact ⟨l[i.toNat], by simp [hk], List.getElem_mem hk⟩
/-- a for over a range -/
theorem sat_forR {is : List Nat} {one : Bool} {body : List Sl → Res Fl} {g : Nat → D} {N : Nat} (J : Nat → List Sl → Prop) {Q : Fl → List Sl → Prop} (hb : ∀ i ρ, i < N → J i ρ → ∃ ρ1, bindF ρ is one (g i) = some ρ1 ∧ (body ρ1).sat fun fl ρ2 => match fl with
      | .next => J (i + 1) ρ2
      | .cont => J (i + 1) ρ2
      | .brk => Q .next ρ2
      | .ret v => Q (.ret v) ρ2) (hq : ∀ ρ, J N ρ → Q .next ρ) {ρ : List Sl} (h0 : J 0 ρ) : (forT is one body ((List.range N).map g) ρ).sat Q := by
  refine sat_forT (fun r ρ => ∃ i, i ≤ N ∧ r = ((List.range N).map g).drop i ∧ J i ρ) ?_ ?_ ⟨0, Nat.zero_le _, rfl, h0⟩
  · rintro d r ρ ⟨i, hi, e, j⟩
    have hlt : i < N := by
      rcases Nat.lt_or_ge i N with h | h
      · exact h
      · rw [List.drop_eq_nil_of_le (by simpa using h)] at e; cases e
    rw [List.drop_eq_getElem_cons (by simpa using hlt)] at e
    injection e with e1 e2
    simp at e1
    subst e1
    obtain ⟨ρ1, h1, h2⟩ := hb i ρ hlt j
    refine ⟨ρ1, h1, h2.imp fun fl ρ2 q => ?_⟩
    cases fl with
    | next => exact ⟨i + 1, hlt, e2, q⟩
    | cont => exact ⟨i + 1, hlt, e2, q⟩
    | brk => exact q
    | ret v => exact q
  · rintro ρ ⟨i, hi, e, j⟩
    have : i = N := by
      have hl := congrArg List.length e
      simp at hl
      omega
    subst this
    exact hq ρ j
/-- a comprehension whose items all are P -/
theorem sat_compA {c : Call} {is : List Nat} {one : Bool} {elt : P} {t : Option P} (J : List Sl → Prop) (P : D → Prop) {Q : List D → List Sl → Prop} {ds : List D} {ρ : List Sl} (j : J ρ)
    (h : ∀ d, d ∈ ds → ∀ ρ, J ρ → ∃ ρ1, bindF ρ is one d = some ρ1 ∧ (evT c t ρ1).sat fun b ρ2 => if b = true then (ev c elt ρ2).sat fun r ρ3 => P r.d ∧ J ρ3 else J ρ2) (k : ∀ xs ρ, J ρ → xs.length ≤ ds.length → (∀ x ∈ xs, P x) → Q xs ρ) : (compT c is one t elt ds ρ).sat Q := by
  suffices hh : ∀ (ds : List D) (acc : List D) (ρ : List Sl), J ρ → (∀ x ∈ acc, P x) → (∀ d, d ∈ ds → ∀ ρ, J ρ → ∃ ρ1, bindF ρ is one d = some ρ1 ∧ (evT c t ρ1).sat fun b ρ2 => if b = true then (ev c elt ρ2).sat fun r ρ3 => P r.d ∧ J ρ3 else J ρ2) →
      (turns is one (evT c t) (ev c elt) ds acc ρ).sat fun xs ρ => J ρ ∧ (∀ x ∈ xs, P x) ∧ xs.length ≤ acc.length + ds.length from
    (hh ds [] ρ j (by simp) h).imp fun xs ρ ⟨q1, q2, q3⟩ => k xs ρ q1 (by simpa using q3) q2
  intro ds
  induction ds with
  | nil => intro acc ρ j ha _; rw [turns]; exact ⟨j, ha, by simp⟩
  | cons d r ih =>
    intro acc ρ j ha h
    obtain ⟨ρ1, e, h1⟩ := h d (by simp) ρ j
    rw [turns, e]
    show ((evT c t ρ1).bind _).sat _
    rw [sat_bind]
    refine h1.imp fun b ρ2 q => ?_
    cases b with
    | true =>
      rw [if_pos rfl] at q
      rw [if_pos rfl, sat_bind]
      refine q.imp fun x ρ3 ⟨p, j3⟩ => ?_
      refine (ih (acc ++ [x.d]) ρ3 j3 (fun y hy => ?_) fun d' hd' => h d' (by simp [hd'])).imp fun xs ρ ⟨q1, q2, q3⟩ => ⟨q1, q2, by simp at q3 ⊢; omega⟩
      rcases List.mem_append.mp hy with hy | hy
      · exact ha y hy
      · rw [List.mem_singleton.mp hy]; exact p
    | false =>
      rw [if_neg (by simp)] at q
      rw [if_neg (by simp)]
      exact (ih acc ρ2 q ha fun d' hd' => h d' (by simp [hd'])).imp fun xs ρ ⟨q1, q2, q3⟩ => ⟨q1, q2, by simp at q3 ⊢; omega⟩
/-- without a test: as many items -/
theorem sat_compN {c : Call} {is : List Nat} {one : Bool} {elt : P} (J : List Sl → Prop) (P : D → Prop) {Q : List D → List Sl → Prop} {ds : List D} {ρ : List Sl} (j : J ρ)
    (h : ∀ d, d ∈ ds → ∀ ρ, J ρ → ∃ ρ1, bindF ρ is one d = some ρ1 ∧ (ev c elt ρ1).sat fun r ρ3 => P r.d ∧ J ρ3) (k : ∀ xs ρ, J ρ → xs.length = ds.length → (∀ x ∈ xs, P x) → Q xs ρ) : (compT c is one none elt ds ρ).sat Q := by
  suffices hh : ∀ (ds : List D) (acc : List D) (ρ : List Sl), J ρ → (∀ x ∈ acc, P x) → (∀ d, d ∈ ds → ∀ ρ, J ρ → ∃ ρ1, bindF ρ is one d = some ρ1 ∧ (ev c elt ρ1).sat fun r ρ3 => P r.d ∧ J ρ3) →
      (turns is one (evT c none) (ev c elt) ds acc ρ).sat fun xs ρ => J ρ ∧ (∀ x ∈ xs, P x) ∧ xs.length = acc.length + ds.length from
    (hh ds [] ρ j (by simp) h).imp fun xs ρ ⟨q1, q2, q3⟩ => k xs ρ q1 (by simpa using q3) q2
  intro ds
  induction ds with
  | nil => intro acc ρ j ha _; rw [turns]; exact ⟨j, ha, by simp⟩
  | cons d r ih =>
    intro acc ρ j ha h
    obtain ⟨ρ1, e, h1⟩ := h d (by simp) ρ j
    rw [turns, e]
    show ((evT c none ρ1).bind _).sat _
    rw [evT]
    show ((ev c elt ρ1).bind _).sat _
    rw [sat_bind]
    refine h1.imp fun x ρ3 ⟨p, j3⟩ => ?_
    refine (ih (acc ++ [x.d]) ρ3 j3 (fun y hy => ?_) fun d' hd' => h d' (by simp [hd'])).imp fun xs ρ ⟨q1, q2, q3⟩ => ⟨q1, q2, by simp at q3 ⊢; omega⟩
    rcases List.mem_append.mp hy with hy | hy
    · exact ha y hy
    · rw [List.mem_singleton.mp hy]; exact p
end HH
end

section
set_option linter.all false
set_option Elab.async false
set_option maxRecDepth 100000
/-! Unpacking, pop at a place, two places at once, is True. -/
namespace HH
open PySem L2 PySem.Spec PyProof.Rows
section
variable {X : Cx} {c : Call} {n : Nat} {e a b d tg : Expr} {p pa pb pd : P} {pos : Pos}
theorem ss_unp {g : TG} {is : List Nat} (he : SX X c e p) (hg : PG X tg g) (hgo : TGok X.K (fun ρ d => bindF ρ is false d) g) (hs : swapsWithSole [tg] e pos.line X.env = pure false := by rfl) (hw : swappedStores [tg] e X.env = pure none := by rfl)
    (h1 : (assignEach [tg] X.env).map (·.2) = [assign tg X.env] := by rfl) : SS X c n (.Assign [tg] e pos) (.unp is p) := by
  refine psImp (ps_asg he.ev hg hs hw h1) fun D σ H ⟨F, ρ, fl, ρ', g0, e, k⟩ => ?_
  rw [ex] at e
  obtain ⟨r, ρ1, e1, e⟩ := bind_ok e
  refine ⟨F, ρ, r, ρ1, g0, e1, fun v F1 H1 s1 rr => ?_⟩
  obtain ⟨F2, s2, _, rp⟩ := s1.frz rr
  split at e
  · rename_i ds hd
    obtain ⟨ρ2, ρ3, e2, e⟩ := bind_ok e
    cases e
    have zz := lift_ok e2; clear e2; obtain ⟨e2, e3⟩ := zz
    rw [hd] at rp
    exact hgo v (.tup ds) F2 ρ1 _ σ H1 _ s2.gs rp (by show bindF ρ1 is false (.tup ds) = _; cases is <;> exact e2) fun σ' s3 => k F2 σ' H1 (s2.trans s3)
  · cases e
end
end HH
end

section
set_option linter.all false
set_option Elab.async false
set_option maxRecDepth 100000
/-! zip with a name's own list; pop; op=. -/
namespace HH
open PySem L2 PySem.Spec PyProof.Rows
section
variable {X : Cx} {c : Call} {n : Nat} {e a b d elt tg : Expr} {p pa pb pe : P} {pos : Pos} {elts : List Expr} {x1 : Nat} {tp : Pos}
def tItZ (K : PySem.W.Frag) (i : Nat) (f : Ev) : TI := fun σ H R => ∃ F ρ ds ρb ρ1, GS K F ρ σ H ∧ srcZ i f ρ = .ok (ds, ρb) ρ1 ∧ ∀ J F1 H1, Walk K F ρ σ H (unlend ρb (some i)) J ds F1 ρ1 H1 → R J H1
variable {scope : Scope} {N' : List Str} {ifs : List Expr} {iter : Expr}
/-! ### pop -/
end
end HH
end

section
set_option linter.all false
set_option Elab.async false
set_option maxRecDepth 100000
/-! min of a list of ints with a default. -/
namespace HH
open PySem L2 PySem.Spec PyProof.Rows
section
variable {prog : Program} {w : World} {A : Around} {R : Result → Shared → Prop} {I : Addr} {fp wr : List Addr} {m : Nat} {P : Nat → Value → Prop} {Sx : Nat → Heap → Prop} {dv : Value}
end
section
variable {prog : Program} {w : World} {A : Around} {E : Value → Shared → Prop} {s : Shared}
end
section
variable {X : Cx} {c : Call} {n : Nat} {e a b : Expr} {p pa pb : P} {pos : Pos}
/-- a built-in of one argument and default=None -/
def CallD (X : Cx) (id : String) (r : List V → Hp → VK → Prop) : Prop := ∀ (pins : List (Addr × Obj)) (s : Shared) (σ : L2.St) (H : Hp) (xs : List V) (us : List Value) (Q : VK), L2.Inv X pins σ H s → Vals xs us → r xs H Q → wpAny (model X.prog X.w) X.A (call (.builtin id) us [("default", .none)]) (EP X pins σ Q) X.xe s
end
end HH
end

section
set_option linter.all false
set_option Elab.async false
set_option maxRecDepth 100000
/-! Slices; int, abs; extend; op=. -/
namespace HT
open PySem PySem.Spec PyProof.Rows
section
variable {prog : Program} {w : World} {A : Around} {E : Value → Shared → Prop} {s : Shared}
/-- a slice that is the whole tuple is the tuple -/
theorem whole_tuple {t sl : Addr} {its : Array Value} {vl vu : Value} {lo hi : Option Int} {Q : Value → Shared → Prop} (ht : IsTup s.heap t its) (hs : s.heap.IsSliceOf sl vl vu .none) (pl : IsPart vl lo) (pu : IsPart vu hi)
    (h1 : sIx its.size 0 lo = 0) (h2 : sIx its.size its.size hi = its.size) (h : Q (.ref t) s) : wpAny (model prog w) A (getItem (.ref t) (.ref sl)) Q E s := by
  obtain ⟨os, hos, hcs, hds⟩ := id hs
  have hT : s.TypeIs (.ref sl) "slice" := ⟨os, hos, hcs⟩
  unfold getItem
  try with_reducible refine wpAny_holding ?_
  first | refine wpAny_bind (wpAny_pure ?_) | skip
  refine wpAny_bind (wpAny_sequenceKey ht.typeIs (by decide) (wpAny_bind (wpAny_callSpecial?_slot (name := Str.ofString "__getitem__") ht.typeIs slot_tuple_getitem (wpAny_call_entry slot_tuple_getitem ht.typeIs entry_tuple_getitem ?_ (args_tuple_getitem _ _)))))
  show wpAny _ _ (Builtin.Tuple.tupleItemsOf (.ref t) >>= _) _ _ s
  refine wpAny_bind (tupleItemsOf_ ht (wpAny_bind (wpAny_typeOf hT ?_)))
  rw [if_pos (by decide)]
  refine wpAny_bind (sliceApplied_gen hs pl pu ?_)
  have hyes : ((((sIx its.size 0 lo : Nat) : Int) == 0 && (1 : Int) == 1 && (sIx its.size its.size hi - sIx its.size 0 lo) == its.size) = true) := by rw [h1, h2]; simp
  show wpAny _ _ (if (((sIx its.size 0 lo : Nat) : Int) == 0 && (1 : Int) == 1 && (sIx its.size its.size hi - sIx its.size 0 lo) == its.size) = true then _ else _) _ _ s
  rw [if_pos hyes]
  unfold Builtin.Tuple.tupleIsExact
  refine wpAny_bind (wpAny_bind (wpAny_typeOf ht.typeIs (wpAny_pure ?_)))
  rw [if_pos (by decide)]
  exact wpAny_bind (wpAny_rule (wpAny_pure ⟨_, rfl, wpAny_pure h⟩))
end
end HT
namespace HH
open PySem L2 PySem.Spec PyProof.Rows
/-- no starred thing -/
def nst : Expr → Bool
  | .Starred _ _ => false
  | _ => true
theorem starEach_nst {e : Expr} {es : List Expr} {env : Env} (h : nst e = true) : starEach (e :: es) env = (false, eval e env) :: starEach es env := by
  cases e with
  | Starred a b => cases h
  | _ => rw [starEach]; (intro e p z; cases z)
/-- what stands behind written whole numbers -/
def dropInts : List Int → List Expr → Option (List Expr)
  | [], es => some es
  | i :: is, .Constant (.int j) _ _ :: es => if i = j then dropInts is es else none
  | _, _ => none
theorem sa_preI {X : L2.Cx} {c : Call} : ∀ (is : List Int) {es es' : List Expr} {ps' : List P}, dropInts is es = some es' → SA X c es' ps' → SA X c es (is.map (fun i => P.con (.int i)) ++ ps')
  | [], es, es', ps', h, r => by cases h; exact r
  | i :: is, [], es', ps', h, r => by cases h
  | i :: is, e :: es, es', ps', h, r => by
    cases e with
    | Constant v k p =>
      cases v with
      | int j =>
        rw [dropInts] at h
        split at h
        · rename_i hij
          subst hij
          exact sa_cons sx_int (sa_preI is h r) (starEach_nst rfl)
        · cases h
      | _ => cases h
    | _ => cases h
theorem sIx_eq {n d : Nat} {o : Option Int} : HT.sIx n d o = HH.sIx n d o := by
  cases o with
  | none => rfl
  | some v =>
    show (if v < 0 then (v + (n : Int)).toNat else min v.toNat n) = (if 0 ≤ v then min v.toNat n else (v + n).toNat)
    by_cases h : 0 ≤ v
    · rw [if_pos h, if_neg (by omega)]
    · rw [if_neg h, if_pos (by omega)]
theorem cut_eq {xs : List V} {lo hi : Option Int} : cutV xs lo hi = HH.cut xs lo hi := by
  unfold cutV HH.cut; rw [sIx_eq, sIx_eq]
theorem Reps.cut {K : PySem.W.Frag} {F : Hp} {ds : List D} {vs : List V} {lo hi : Option Int} (h : Reps K F vs ds) : Reps K F (HH.cut vs lo hi) (HH.cut ds lo hi) := by
  unfold HH.cut; rw [h.length]; exact (h.drop _).take _
section
variable {X : Cx} {c : Call} {n : Nat} {e a b : Expr} {p pa pb pl ph : P} {pos p2 : Pos} {lo hi : Option Expr}
/-- a slice of data -/
def rSlD (K : PySem.W.Frag) : V → Option Int → Option Int → Hp → VK → Prop := fun x lo hi H Q => ∃ F d r, Same F H ∧ PRep K F H x d ∧ sl3 d (some lo) (some hi) = some r ∧ ∀ v F' H', Ext F H F' H' → RepN K F' H' H v r → Q v H'
theorem sl_D : SlR X (rSlD X.K) := by
  intro pins s σ H x v vl vu lo hi sl Q I rx hs pl pu ⟨F, d, r, sm, px, he, k⟩
  cases d with
  | lst ds =>
    cases he
    obtain ⟨a, xs, rfl, hq, rs⟩ := px.lst sm
    refine sl_list pins s σ H _ v vl vu lo hi sl Q I rx hs pl pu ⟨a, xs, rfl, hq, fun p hp => ?_⟩
    rw [cut_eq]
    exact newL sm rs.cut hp k
  | tup ds =>
    cases he
    obtain ⟨a, xs, rfl, hq, rs, rt⟩ := px.tup sm
    by_cases hw : HT.sIx xs.length 0 lo = 0 ∧ HT.sIx xs.length xs.length hi = xs.length
    · cases rx
      obtain ⟨its, rv, ht, hz⟩ := I.tuple hq
      have hlen : its.toArray.size = xs.length := by rw [List.size_toArray]; exact rv.length.symm
      refine ⟨"tuple", _, slot_tuple_getitem.lookup, ht.typeIs, HT.whole_tuple ht hs pl pu (by rw [hlen]; exact hw.1) (by rw [hlen]; exact hw.2) ⟨.ref a, H, I, rfl, ?_⟩⟩
      have hc : HH.cut ds lo hi = ds := by
        unfold HH.cut
        rw [← rs.length, ← sIx_eq, ← sIx_eq, hw.1, hw.2]; simp [rs.length]
      rw [hc] at k
      exact RepN.val0 sm rt k
    · refine sl_tup pins s σ H _ v vl vu lo hi sl Q I rx hs pl pu ⟨a, xs, rfl, hq, hw, fun p hp => ?_⟩
      rw [cut_eq]
      exact newT sm rs.cut hp k
  | _ => cases he
/-- a slice's part -/
def SO (X : Cx) (c : Call) (o : Option Expr) (p : P) : Prop := ∃ t, PO X o t ∧ ∀ {σ : L2.St} {H F : Hp} {ρ ρ' : List Sl} {d : D} {i : Option Int} {Q : Option Int → Hp → Prop}, GS X.K F ρ σ H → opd (isVar p) (HH.ev c p) ρ = .ok d ρ' → part p d = some i → (∀ F' H', Stp X.K F ρ σ H F' ρ' σ H' → Q i H') → t σ H Q
theorem so_none : SO X c none (.con .non) := by
  refine ⟨_, po_none, fun {σ H F ρ ρ' d i Q} g e h k => ?_⟩
  cases (show some none = some i from h)
  have e' : (HH.ev c (.con .non) ρ).bind (fun r ρ => .ok r.d ρ) = .ok d ρ' := e
  clear e
  rw [HH.ev] at e'
  cases e'
  exact k F H (.refl g)
theorem so_some (h : SX X c e p) (hn : isNC p = false := by rfl) : SO X c (some e) p := by
  obtain ⟨t, h1, h2⟩ := h.opd
  refine ⟨_, po_some h1, fun {σ H F ρ ρ' d i Q} g e hp k => ?_⟩
  unfold part at hp
  rw [hn, if_neg (by decide)] at hp
  obtain ⟨j, e1, e2⟩ := map_some hp
  cases asI_some e1
  subst e2
  exact h2 g e fun v F' H' s pv => ⟨j, pv.int, k F' H' s⟩
theorem sl3_some {d : D} {x y : Option (Option Int)} {r : R} (h : sl3 d x y = some r) : ∃ lo hi, x = some lo ∧ y = some hi := by
  cases x with
  | none => cases d <;> cases h
  | some lo => cases y with
    | none => cases d <;> cases h
    | some hi => exact ⟨lo, hi, rfl, rfl⟩
theorem sx_slice (ha : SX X c a pa) (hl : SO X c lo pl) (hh : SO X c hi ph) : SX X c (.Subscript a (.Slice lo hi none p2) pos) (.slice pa pl ph) := by
  obtain ⟨tl, l1, l2⟩ := hl
  obtain ⟨th, h1, h2⟩ := hh
  cases hv : isVar pa with
  | none =>
    refine ⟨peImp (pe_slice sl_D ha.ev l1 h1) fun σ H Q ⟨F, ρ, r, ρ', g, e, k⟩ => ?_, fun i h => by cases h⟩
    rw [HH.ev, hv] at e
    obtain ⟨x, ρ1, e1', ea⟩ := bind_ok e; clear e
    have e1'' : (HH.ev c pa ρ).bind (fun r ρ => .ok r.d ρ) = .ok x ρ1 := e1'
    clear e1'
    obtain ⟨rx, ρ1', e1, e0⟩ := bind_ok e1''; clear e1''
    cases e0
    obtain ⟨y, ρ2, e2, eb⟩ := bind_ok ea; clear ea
    obtain ⟨z, ρ3, e3, ec⟩ := bind_ok eb; clear eb
    obtain ⟨e, e4⟩ := lift_ok ec; clear ec
    subst e4
    obtain ⟨lo', hi', q1, q2⟩ := sl3_some e
    rw [q1, q2] at e
    refine ⟨F, ρ, rx, _, g, e1, fun v F1 H1 s1 rr => ?_⟩
    obtain ⟨F2, s2, _, rp⟩ := s1.frz rr
    refine l2 s2.gs e2 q1 fun F3 H3 s3 => h2 s3.gs e3 q2 fun F4 H4 s4 => ?_
    have s5 := s2.trans (s3.trans s4)
    refine ⟨F4, _, r, s4.gs.sub, .inl ((rp.mono s3.fsub).mono s4.fsub), e, fun v F5 H5 x rn => ?_⟩
    exact k v F5 H5 (s5.trans (x.stp s5.gs)) (.later s5 (rn.repR s5.gs))
  | some i =>
    refine ⟨peImp (pe_slice sl_D (ha.var i hv) l1 h1) fun σ H Q ⟨F, ρ, r, ρ', g, e, k⟩ => ?_, fun i h => by cases h⟩
    rw [HH.ev, hv] at e
    obtain ⟨x0, ρ0, e0', ea⟩ := bind_ok e; clear e
    obtain ⟨e0, e01⟩ := lift_ok e0'; clear e0'
    subst e01
    obtain ⟨y, ρ2, e2, eb⟩ := bind_ok ea; clear ea
    obtain ⟨z, ρ3, e3, ec⟩ := bind_ok eb; clear eb
    obtain ⟨x, ρ4, e5', ed⟩ := bind_ok ec; clear ec
    obtain ⟨e5, e6⟩ := lift_ok e5'; clear e5'
    subst e6
    obtain ⟨e, e4⟩ := lift_ok ed; clear ed
    subst e4
    obtain ⟨lo', hi', q1, q2⟩ := sl3_some e
    rw [q1, q2] at e
    obtain ⟨v, hv1, _⟩ := g.pk e0
    refine ⟨v, hv1, l2 g e2 q1 fun F3 H3 s3 => h2 s3.gs e3 q2 fun F4 H4 s4 => ?_⟩
    have s5 := s3.trans s4
    obtain ⟨v', hv2, pv⟩ := s5.gs.pk e5
    rw [hv1] at hv2; cases hv2
    refine ⟨F4, _, r, s4.gs.sub, pv, e, fun v F5 H5 x rn => ?_⟩
    exact k v F5 H5 (s5.trans (x.stp s5.gs)) (.later s5 (rn.repR s5.gs))
/-! ### int, abs -/
theorem c_int : CallR X (.type "int") (rB1 X.K fun x => blt .int [x]) := by
  intro pins s σ H xs us Q I r ⟨x, hx, F, d, r', sm, px, he, k⟩
  cases d with
  | int i =>
    cases (show some _ = some r' from he)
    exact call_int1 pins s σ H xs us Q I r (.inl ⟨i, by rw [hx, px.int], RepN.val0 sm (repInt _) k⟩)
  | bl b =>
    cases (show some _ = some r' from he)
    exact call_int1 pins s σ H xs us Q I r (.inr ⟨b, by rw [hx, px.bl], RepN.val0 sm (repInt _) k⟩)
  | _ => cases he
theorem c_abs : CallR X (.builtin "abs") (rB1 X.K fun x => blt .abs [x]) := by
  intro pins s σ H xs us Q I r ⟨x, hx, F, d, r', sm, px, he, k⟩
  cases d with
  | int i =>
    cases (show some _ = some r' from he)
    exact call_abs pins s σ H xs us Q I r ⟨i, by rw [hx, px.int], RepN.val0 sm (repInt _) k⟩
  | _ => cases he
theorem boot_abs : bootBuiltins "abs" = some (.builtin "abs") := by decide +kernel
theorem sx_int1 {x : Str} {p' : Pos} (hx : x = "int") (hg : Gl X x) (hm : X.mg x = none) (ha : SX X c a pa) (hs : starEach [a] X.env = (false, eval a X.env) :: starEach [] X.env := by rfl) : SX X c (.Call (.Name x p') [a] [] pos) (.blt .int [pa]) := by
  subst hx; exact sx_b1 (fun h => pe_callTy c_int hg hm (by decide +kernel) h (he := hs)) ha (fun ρ => by rw [HH.ev]) rfl hs
theorem sx_abs {x : Str} {p' : Pos} (hx : x = "abs") (hg : Gl X x) (hm : X.mg x = none) (ha : SX X c a pa) (hs : starEach [a] X.env = (false, eval a X.env) :: starEach [] X.env := by rfl) : SX X c (.Call (.Name x p') [a] [] pos) (.blt .abs [pa]) := by
  subst hx; exact sx_b1 (fun h => pe_callB c_abs hg hm boot_abs h (he := hs)) ha (fun ρ => by rw [HH.ev]) rfl hs
/-! ### op= -/
/-! ### extend by a list that the program made -/
end
end HH
end

section
set_option linter.all false
set_option Elab.async false
set_option maxRecDepth 100000
/-! reversed over a tuple. -/
namespace PySem
namespace F
theorem rv_slot_next : Slot "reversed" "__next__" "reversed.__next__" :=
  .of (owner := "reversed") (n := "__next__") (by rw [typeLookup_type, builtinLookup_eq_fast]; kernel_rfl) (by decide +kernel) (by decide +kernel) (by decide +kernel)
    (by first | exact .inl (by decide +kernel) | exact .inr (by decide +kernel)) (by rw [isSubtype_type]; kernel_rfl)
theorem rv_entry_next : entryFor table "reversed.__next__" = some Builtin.«reversed.__next__» := entryFor_of_tree (by kernel_rfl)
theorem rv_owner : Manifest.owners.lookup (String.ofList ['d', 'e', 's', 'r', 'e', 'v', 'e', 'r'].reverse) = some Manifest.sig_reversed := by kernel_rfl
theorem rv_args_next (a : Value) : argsOk "reversed.__next__" ⟨[a], []⟩ := by
  unfold argsOk; rw [signature?_of (id := "reversed.__next__") (n := ['_', '_', 't', 'x', 'e', 'n', '_', '_']) (o := ['d', 'e', 's', 'r', 'e', 'v', 'e', 'r']) (by kernel_rfl) rv_owner]; kernel_rfl
theorem rv_slot_iter : Slot "reversed" "__iter__" "reversed.__iter__" :=
  .of (owner := "reversed") (n := "__iter__") (by rw [typeLookup_type, builtinLookup_eq_fast]; kernel_rfl) (by decide +kernel) (by decide +kernel) (by decide +kernel)
    (by first | exact .inl (by decide +kernel) | exact .inr (by decide +kernel)) (by rw [isSubtype_type]; kernel_rfl)
theorem rv_args_iter (a : Value) : argsOk "reversed.__iter__" ⟨[a], []⟩ := by
  unfold argsOk; rw [signature?_of (id := "reversed.__iter__") (n := ['_', '_', 'r', 'e', 't', 'i', '_', '_']) (o := ['d', 'e', 's', 'r', 'e', 'v', 'e', 'r']) (by kernel_rfl) rv_owner]; kernel_rfl
theorem rv_entry_iter : entryFor table "reversed.__iter__" = some Builtin.«dict_keyiterator.__iter__» :=
  entryFor_alias (id' := "dict_keyiterator.__iter__") (by kernel_rfl) (by first | rfl | decide +kernel | (unfold String.splitOn; simp +decide [String.splitOnAux])) (by decide +kernel) (by kernel_rfl)
theorem rv_mro : mroOf (.type "reversed") = pure [.type "reversed", .type "object"] := by rw [mroOf_type]; kernel_rfl
theorem rv_lookup_new : typeLookup (.type "reversed") "__new__" = pure (some (.builtin "reversed.__new__")) := by rw [typeLookup_type, builtinLookup_eq_fast]; kernel_rfl
theorem rv_slot_init : Slot "reversed" "__init__" "object.__init__" :=
  .of (owner := "object") (n := "__init__") (by rw [typeLookup_type, builtinLookup_eq_fast]; kernel_rfl) (by decide +kernel) (by decide +kernel) (by decide +kernel)
    (by first | exact .inl (by decide +kernel) | exact .inr (by decide +kernel)) (by rw [isSubtype_type]; kernel_rfl)
theorem rv_called : TypeCalled "reversed" "reversed.__new__" "object.__init__" :=
  ⟨by decide +kernel, by decide +kernel, ⟨_, _, rv_mro⟩, madeBy_type rv_mro rv_lookup_new (by decide +kernel), by decide +kernel, by rw [isSubtype_type]; kernel_rfl, rv_slot_init⟩
theorem rv_typeCall (a : Value) : checkTypeCall "reversed" ⟨[a], []⟩ = pure () := by kernel_rfl
theorem rv_newCall (a : Value) : checkBuiltinCall "reversed.__new__" ⟨[.type "reversed", a], []⟩ = pure () := by kernel_rfl
theorem rv_entry_new : entryFor table "reversed.__new__" = some Builtin.«reversed.__new__» := entryFor_of_tree (by kernel_rfl)
theorem rv_sub : isSubtype (.type "reversed") (.type "reversed") = pure true := by rw [isSubtype_type]; kernel_rfl
theorem tup_norev : typeLookup (.type "tuple") "__reversed__" = pure none := by rw [typeLookup_type, builtinLookup_eq_fast]; kernel_rfl
theorem tup_nodict : isSubtype (.type "tuple") (.type "dict") = pure false := by rw [isSubtype_type]; kernel_rfl
theorem tup_item : typeLookup (.type "tuple") "__getitem__" = pure (some (.builtin "tuple.__getitem__")) := by rw [typeLookup_type, builtinLookup_eq_fast]; kernel_rfl
theorem rv_slot_hint : Slot "reversed" "__length_hint__" "reversed.__length_hint__" :=
  .of (owner := "reversed") (n := "__length_hint__") (by rw [typeLookup_type, builtinLookup_eq_fast]; kernel_rfl) (by decide +kernel) (by decide +kernel) (by decide +kernel)
    (by first | exact .inl (by decide +kernel) | exact .inr (by decide +kernel)) (by rw [isSubtype_type]; kernel_rfl)
theorem rv_entry_hint : entryFor table "reversed.__length_hint__" = some Builtin.«reversed.__length_hint__» := entryFor_of_tree (by kernel_rfl)
theorem rv_args_hint (a : Value) : argsOk "reversed.__length_hint__" ⟨[a], []⟩ := by
  unfold argsOk; rw [signature?_of (id := "reversed.__length_hint__") (n := ['_', '_', 't', 'n', 'i', 'h', '_', 'h', 't', 'g', 'n', 'e', 'l', '_', '_']) (o := ['d', 'e', 's', 'r', 'e', 'v', 'e', 'r']) (by kernel_rfl) rv_owner]; kernel_rfl
theorem rv_nolen : typeLookup (.type "reversed") "__len__" = pure none := by rw [typeLookup_type, builtinLookup_eq_fast]; kernel_rfl
theorem rv_hint : typeLookup (.type "reversed") "__length_hint__" = pure (some (.builtin "reversed.__length_hint__")) := by rw [typeLookup_type, builtinLookup_eq_fast]; kernel_rfl
end F
def revTObj (l : Addr) (i : Int) : Obj := { cls := .type "reversed", data := .fields #[.ref l, rawInt i] }
def Heap.IsRevT (h : Heap) (a l : Addr) (i : Int) : Prop := ∃ o, h.get? a = some o ∧ o.cls = .type "reversed" ∧ o.data = .fields #[.ref l, rawInt i]
section
variable {prog : Program} {w : World} {A : Around} {E : Value → Shared → Prop} {s : Shared}
theorem Heap.IsRevT.typeIs {a l : Addr} {i : Int} (x : s.heap.IsRevT a l i) : s.TypeIs (.ref a) "reversed" := let ⟨o, ho, hc, _⟩ := x; ⟨o, ho, hc⟩
theorem Heap.IsRevT.at {h h' : Heap} {a l : Addr} {i : Int} (x : h.IsRevT a l i) (e : ∀ o, h.get? a = some o → h'.get? a = some o) : h'.IsRevT a l i := let ⟨o, ho, r⟩ := x; ⟨o, e _ ho, r⟩
theorem rv_newClass (a : Value) : Builtin.SmallTypes.newClass "reversed" ⟨[.type "reversed", a], []⟩ = pure (.type "reversed", [a]) := by
  unfold Builtin.SmallTypes.newClass
  simp only [isType, F.rv_sub, pure_bind, Bool.not_true, Bool.false_eq_true, if_false]
end
theorem meets_reversed_newT (l : Addr) (items : Array Value) (hfit : (items.size : Int) < 2 ^ 63) :
    Meets (Builtin.«reversed.__new__» ⟨[.type "reversed", .ref l], []⟩) (fun _ R s => PyProof.Rows.IsTup s.heap l items ∧
      R (.ok (.ret (.ref s.heap.objs.size))) { s with heap := s.heap.push (revTObj l ((items.size : Int) - 1)), toks := s.toks + 1 + 1 }) :=
  .of_wp fun prog w A R s h => by
    obtain ⟨hl, h⟩ := h
    have hT : s.TypeIs (.ref l) "tuple" := hl.typeIs
    unfold Builtin.«reversed.__new__»
    refine wpAny_bind (wpAny_of_eq (rv_newClass _) ?_)
    try dsimp only
    refine wpAny_bind (wpAny_of_eq (a := ()) (by first | rfl | kernel_rfl) ?_)
    refine wpAny_bind (wpAny_of_eq (a := ()) (by first | rfl | kernel_rfl) ?_)
    try dsimp only
    refine wpAny_bind (wpAny_specialOf hT F.tup_norev ?_)
    try dsimp only
    refine wpAny_bind ?_
    show wpAny _ A.in1 (isInstance (.ref l) (.type "dict") >>= _) _ _ s
    refine wpAny_bind (wpAny_isInstance hT F.tup_nodict ?_)
    show wpAny _ A.in1 (specialOf (.ref l) (Str.ofString "__getitem__") >>= _) _ _ s
    refine wpAny_bind (wpAny_specialOf hT F.tup_item ?_)
    show wpAny _ A.in1 (if (["tuple.__getitem__", "str.__getitem__", "bytes.__getitem__", "bytearray.__getitem__", "memoryview.__getitem__", "numpy.ndarray.__getitem__", "sqlite3.Row.__getitem__"].contains "tuple.__getitem__") = true then _ else _) _ _ s
    rw [if_pos (by decide +kernel)]
    refine wpAny_pure ?_
    show wpAny _ A.in1 (call (.builtin "len") [.ref l] >>= _) _ _ s
    refine wpAny_bind (PyProof.Rows.len_tuple hl hfit ?_)
    refine wpAny_bind (wpAny_of_eq (a := some (items.size : Int)) rfl ?_)
    show wpAny _ A.in1 (Builtin.SmallTypes.newRecord (.type "reversed") [.ref l, rawInt ((items.size : Int) - 1)] >>= _) _ _ _
    refine wpAny_bind ?_
    show wpAny _ A.in1 (newObj (.type "reversed") (.fields #[.ref l, rawInt ((items.size : Int) - 1)])) _ _ _
    refine wpAny_newObj_type ?_
    exact wpAny_pure ⟨_, rfl, h⟩
section
variable {prog : Program} {w : World} {A : Around} {E : Value → Shared → Prop} {s : Shared}
theorem call_reversed_tuple {l : Addr} {items : Array Value} {Q : Value → Shared → Prop} (hl : PyProof.Rows.IsTup s.heap l items) (hfit : (items.size : Int) < 2 ^ 63)
    (h : Q (.ref s.heap.objs.size) { s with heap := s.heap.push (revTObj l ((items.size : Int) - 1)), toks := s.toks + 1 + 1 }) : wpAny (model prog w) A (call (.type "reversed") [.ref l]) Q E s := by
  refine callType_new F.rv_called (by decide) (F.rv_typeCall _) (F.rv_newCall _) (fun obj => F.args_object_init_2 obj _) F.rv_entry_new (meets_reversed_newT l items hfit) ⟨hl, ?_⟩
  exact ⟨⟨_, Heap.get?_push_size _ rfl, rfl⟩, h⟩
theorem pyNext_revT_item {it l : Addr} {i : Nat} {items : Array Value} {x : Value} {Q : Option Value → Shared → Prop} (hit : s.heap.IsRevT it l (i : Int)) (hl : PyProof.Rows.IsTup s.heap l items) (hx : items[i]? = some x) (hfit : (items.size : Int) < 2 ^ 63)
    (hQ : ∀ h' tk, h'.IsRevT it l ((i : Int) - 1) → Heap.SameBut it s.heap h' → Q (some x) { s with heap := h', toks := tk }) : wpAny (model prog w) A (pyNext (.ref it)) Q E s := by
  obtain ⟨o, ho, hc, hd⟩ := id hit
  have hT : s.TypeIs (.ref l) "tuple" := hl.typeIs
  have hi : i < items.size := (Array.getElem?_eq_some_iff.mp hx).1
  unfold pyNext
  refine wpAny_bind (wpAny_attempt (wpAny_callSpecial?_slot (name := Str.ofString "__next__") hit.typeIs F.rv_slot_next
    (wpAny_call_entry F.rv_slot_next hit.typeIs F.rv_entry_next ?_ (F.rv_args_next _))))
  unfold Builtin.«reversed.__next__»
  refine wpAny_bind (wpAny_of_eq (a := (Value.ref it, [])) rfl ?_)
  try dsimp only
  refine wpAny_bind (wpAny_field ho hd (x := .ref l) rfl ?_)
  refine wpAny_bind (wpAny_field ho hd (x := rawInt (i : Int)) rfl ?_)
  show wpAny _ _ (if (i : Int) < 0 then _ else _) _ _ s
  rw [if_neg (by omega)]
  show wpAny _ _ (specialOf (.ref l) (Str.ofString "__getitem__") >>= _) _ _ s
  refine wpAny_bind (wpAny_specialOf hT F.tup_item ?_)
  show wpAny _ _ (mkInt (i : Int) >>= _) _ _ s
  refine wpAny_bind (wpAny_mkInt ?_)
  refine wpAny_bind (wpAny_attempt (PyProof.Rows.getItem_tuple (s := { s with toks := s.toks + 1 }) hl (by omega) (by omega) (j := i) (by simp [seqIndex?]; omega) hx ?_))
  show wpAny _ _ (field (.ref it) 1 >>= _) _ _ _
  refine wpAny_bind (wpAny_field ho hd (x := rawInt (i : Int)) rfl ?_)
  show wpAny _ _ (setField (.ref it) 1 (rawInt ((i : Int) - 1)) >>= _) _ _ _
  refine wpAny_bind (wpAny_setField ho hd (by simp) ?_)
  refine wpAny_pure ⟨x, rfl, wpAny_pure (hQ _ _ ?_ (Heap.SameBut.update ..))⟩
  exact ⟨_, Heap.get?_update_self _ ho (Obj.isFreed_of_fields (Obj.data_mapFields hd _)), (Obj.cls_mapFields ..).trans hc, by
    rw [Obj.data_mapFields hd]; simp⟩
theorem pyNext_revT_end {it l : Addr} {Q : Option Value → Shared → Prop} (hh : A.handled = none) (hit : s.heap.IsRevT it l (-1))
    (hQ : ∀ h', Heap.ExtBut it s.heap h' → Q none { s with heap := h' }) : wpAny (model prog w) A (pyNext (.ref it)) Q E s := by
  obtain ⟨o, ho, hc, hd⟩ := id hit
  unfold pyNext
  refine wpAny_bind (wpAny_attempt (wpAny_callSpecial?_slot (name := Str.ofString "__next__") hit.typeIs F.rv_slot_next
    (wpAny_call_entry F.rv_slot_next hit.typeIs F.rv_entry_next ?_ (F.rv_args_next _))))
  unfold Builtin.«reversed.__next__»
  refine wpAny_bind (wpAny_of_eq (a := (Value.ref it, [])) rfl ?_)
  try dsimp only
  refine wpAny_bind (wpAny_field ho hd (x := .ref l) rfl ?_)
  refine wpAny_bind (wpAny_field ho hd (x := rawInt (-1)) rfl ?_)
  show wpAny _ _ (if (-1 : Int) < 0 then _ else _) _ _ s
  rw [if_pos (by decide)]
  refine wpAny_bind (wpAny_rule ?_)
  refine wpAny_bind ?_
  show wpAny _ _ (setField (.ref it) 1 (rawInt (-1)) >>= fun _ => setField (.ref it) 0 .none) _ _ _
  refine wpAny_bind (wpAny_setField ho hd (by simp) ?_)
  have ho2 := Heap.get?_update_self (Obj.mapFields (·.setIfInBounds 1 (rawInt (-1)))) ho (Obj.isFreed_of_fields (Obj.data_mapFields hd _))
  have hd2 := Obj.data_mapFields hd (·.setIfInBounds 1 (rawInt (-1)))
  refine wpAny_setField ho2 hd2 (by simp) ?_
  refine wpAny_bind ?_
  show wpAny _ _ (newExc (.type "StopIteration") [] >>= _) _ _ _
  refine wpAny_bind ?_
  simp only [newExc, newTuple]
  refine wpAny_bind (wpAny_newObj_type ?_ (by size_fits))
  refine wpAny_bind (m := firstArgMember _ _) (wpAny_of_eq (a := Value.none) (by first | rfl | (simp only [firstArgMember]; rfl)) ?_)
  refine wpAny_newObj_type ?_ (by size_fits)
  simp only [raiseNew]
  refine wpAny_bind (wpAny_handled ?_)
  first | rw [show A.in1.handled = none from hh] | rw [hh]
  refine wpAny_bind (wpAny_pure (wpAny_throw ?_))
  refine wpAny_bind (wpAny_isInstance (T := "StopIteration") (b := true) ⟨_, Heap.get?_push_size _ rfl, rfl⟩ isSubtype_stop ?_)
  refine wpAny_pure (hQ _ (((Heap.ExtBut.trans (Heap.SameBut.update ..).extBut (Heap.SameBut.update ..).extBut).push _).push _))
theorem pyIter_revT {it l : Addr} {i : Int} {Q : Value → Shared → Prop} (hit : s.heap.IsRevT it l i) (h : Q (.ref it) s) : wpAny (model prog w) A (pyIter (.ref it)) Q E s := by
  refine wpAny_pyIter_slot hit.typeIs F.rv_slot_iter (wpAny_call_entry F.rv_slot_iter hit.typeIs F.rv_entry_iter ?_ (F.rv_args_iter _))
  show wpAny _ _ (ret (.ref it)) _ _ s
  exact wpAny_pure ⟨_, rfl, "reversed", _, hit.typeIs, F.rv_slot_next.lookup, h⟩
end
theorem IsTup.at' {h h' : Heap} {l : Addr} {items : Array Value} (x : PyProof.Rows.IsTup h l items) (e : ∀ o, h.get? l = some o → h'.get? l = some o) : PyProof.Rows.IsTup h' l items := let ⟨o, ho, r⟩ := x; ⟨o, e _ ho, r⟩
theorem Walks.tupRev {prog : Program} {w : World} {A : Around} (hh : A.handled = none) (I l : Addr) (hne : l ≠ I) (items : Array Value) (hfit : (items.size : Int) < 2 ^ 63) :
    Walks prog w A I [I, l] [I] items.size (fun i v => items[items.size - 1 - i]? = some v) (fun i h => i ≤ items.size ∧ h.IsRevT I l ((items.size : Int) - 1 - (i : Int)) ∧ PyProof.Rows.IsTup h l items) where
  sub := fun b hb => by simp at hb; simp [hb]
  frame := fun _ _ _ x hk => ⟨x.1, x.2.1.at fun o e => hk I (by simp) o e, IsTup.at' x.2.2 fun o e => hk l (by simp) o e⟩
  item := fun i s Q E hi x hQ => by
    have e : (items.size : Int) - 1 - (i : Int) = ((items.size - 1 - i : Nat) : Int) := by omega
    have hit := x.2.1
    rw [e] at hit
    have hx : items[items.size - 1 - i]? = some (items[items.size - 1 - i]'(by omega)) := Array.getElem?_eq_getElem (by omega)
    refine pyNext_revT_item hit x.2.2 hx hfit fun h' tk hit' hs' => ?_
    have e2 : ((items.size - 1 - i : Nat) : Int) - 1 = (items.size : Int) - 1 - ((i + 1 : Nat) : Int) := by omega
    rw [e2] at hit'
    exact hQ _ h' tk hx ⟨hi, hit', IsTup.at' x.2.2 fun o eo => (hs'.2 l hne).trans eo⟩ fun b o hb eo => hs'.extBut b o (fun h => hb (by simp [h])) eo
  done := fun s Q E x hQ => by
    have e : (items.size : Int) - 1 - (items.size : Int) = -1 := by omega
    have hit := x.2.1
    rw [e] at hit
    exact pyNext_revT_end hh hit fun h' he' => hQ h' s.toks fun b o hb eo => he' b o (fun h => hb (by simp [h])) eo
  self := fun _ _ _ _ x hQ => pyIter_revT x.2.1 hQ
section
variable {prog : Program} {w : World} {A : Around} {E : Value → Shared → Prop} {s : Shared}
theorem asInt_int (i : Int) (t : Tok) : asInt? (.int i t) = pure (some i) := rfl
/-- how many are left -/
theorem hint_revT {it l : Addr} {items : Array Value} {Q : Value → Shared → Prop} (hit : s.heap.IsRevT it l ((items.size : Int) - 1)) (hl : PyProof.Rows.IsTup s.heap l items) (hfit : (items.size : Int) < 2 ^ 63)
    (hQ : ∀ t tk, s.toks ≤ tk → Q (.int (items.size : Int) t) { s with toks := tk }) : wpAny (model prog w) A (call (.builtin "reversed.__length_hint__") [.ref it]) Q E s := by
  obtain ⟨o, ho, hc, hd⟩ := id hit
  refine wpAny_call_entry F.rv_slot_hint hit.typeIs F.rv_entry_hint ?_ (F.rv_args_hint _)
  unfold Builtin.«reversed.__length_hint__»
  refine wpAny_bind (wpAny_of_eq (a := Value.ref it) rfl ?_)
  refine wpAny_bind (wpAny_field ho hd (x := .ref l) rfl ?_)
  show wpAny _ _ (if (Value.ref l == Value.none) = true then _ else _) _ _ s
  rw [if_neg (show ¬ ((Value.ref l == Value.none) = true) from Bool.false_ne_true)]
  show wpAny _ _ (call (.builtin "len") [.ref l] >>= _) _ _ s
  refine wpAny_bind (PyProof.Rows.len_tuple hl hfit ?_)
  refine wpAny_bind (wpAny_of_eq (a := some (items.size : Int)) rfl ?_)
  show wpAny _ _ (field (.ref it) 1 >>= _) _ _ _
  refine wpAny_bind (wpAny_field ho hd (x := rawInt ((items.size : Int) - 1)) rfl ?_)
  show wpAny _ _ (if (items.size : Int) < (items.size : Int) - 1 + 1 then _ else _) _ _ _
  rw [if_neg (by omega), show (items.size : Int) - 1 + 1 = (items.size : Int) by omega]
  show wpAny _ _ (mkInt (items.size : Int) >>= _) _ _ _
  exact wpAny_bind (wpAny_mkInt (wpAny_pure ⟨_, rfl, hQ _ _ (by show s.toks ≤ s.toks + 1 + 1 + 1; omega)⟩))
theorem collect_revT {I l : Addr} {items : Array Value} {Q : List Value → Shared → Prop} (hh : A.handled = none) (hit : s.heap.IsRevT I l ((items.size : Int) - 1)) (hl : PyProof.Rows.IsTup s.heap l items) (hne : l ≠ I) (hsz : items.size ≤ sizeLine)
    (hQ : ∀ s' acc, Moved [I] (fun a b => b = a) s s' → ItemsOf (fun i v => items[items.size - 1 - i]? = some v) acc items.size → Q acc.toList s') : wpAny (model prog w) A (collect (.ref I)) Q E s := by
  have hfit : (items.size : Int) < 2 ^ 63 := by have : sizeLine ≤ 2 ^ 62 := by decide
                                                omega
  have W := (Walks.tupRev (prog := prog) (w := w) (A := A.in1) hh I l hne items hfit).toS
  have hst : (fun (i : Nat) (s : Shared) => i ≤ items.size ∧ s.heap.IsRevT I l ((items.size : Int) - 1 - (i : Int)) ∧ PyProof.Rows.IsTup s.heap l items) 0 s := ⟨Nat.zero_le _, by simpa using hit, hl⟩
  have hfp : ∀ b ∈ [I, l], b < s.heap.objs.size := fun b hb => by
    rcases List.mem_cons.mp hb with rfl | hb
    · obtain ⟨o, ho, _⟩ := hit; exact Heap.lt_size ho
    · have : b = l := by simpa using hb
      subst this; exact hl.lt
  have hSf : s.heap.objs.size ∉ [I, l] := fun hm => Nat.lt_irrefl _ (hfp _ hm)
  have hSI : s.heap.objs.size ≠ I := fun e => hSf (by simp [e])
  have hT : ∀ i (s : Shared), (i ≤ items.size ∧ s.heap.IsRevT I l ((items.size : Int) - 1 - (i : Int)) ∧ PyProof.Rows.IsTup s.heap l items) → s.TypeIs (.ref I) "reversed" := fun i s h => h.2.1.typeIs
  unfold collect
  refine wpAny_bind (wpAny_runValue (codeAny_builtin F.entry_proto_collect ?_))
  rw [Around.under_plainId F.plain_proto_collect _]
  show wpAny _ A.in1 (newList [] >>= fun l => again (.builtin "list.__iadd__" ⟨[l, .ref I], []⟩)) _ _ s
  refine wpAny_bind (wpAny_newObj_type ?_)
  refine wpAny_pure ⟨plainId_quiet F.plain_list_iadd _, codeAny_builtin F.entry_list_iadd ?_⟩
  rw [Around.under_plainId F.plain_list_iadd _]
  have hst₁ := W.frame 0 s (s.heap.push { cls := .type "list", data := .seq ([] : List Value).toArray }) s.toks hst (Nat.le_refl _) fun b _ o e => Heap.get?_push_of_some _ e
  have hS₁ : (s.heap.push { cls := .type "list", data := .seq ([] : List Value).toArray }).get? s.heap.objs.size = some { cls := .type "list", data := .seq ([] : List Value).toArray } := Heap.get?_push_size _ rfl
  have h1 : Builtin.List.listSameRef (.ref s.heap.objs.size) (.ref I) = false := by simp [Builtin.List.listSameRef, hSI]
  show wpAny _ A.in1 (Builtin.List.listExtendWith (.ref s.heap.objs.size) (.ref I) (.ref s.heap.objs.size)) _ _ _
  unfold Builtin.List.listExtendWith
  refine wpAny_bind (wpAny_typeOf (hT 0 _ hst₁) ?_)
  rw [if_neg (by rw [h1]; decide)]
  refine wpAny_bind (pyIter_revT hst₁.2.1 ?_)
  refine wpAny_bind (wpAny_holding ?_)
  unfold Builtin.List.listLengthHint
  refine wpAny_bind (wpAny_specialOf (hT 0 _ hst₁) F.rv_nolen ?_)
  show wpAny _ A.in1 (specialOf (Value.ref I) (Str.ofString "__length_hint__") >>= _) _ _ _
  refine wpAny_bind (wpAny_specialOf (hT 0 _ hst₁) F.rv_hint ?_)
  generalize hid : ("reversed.__length_hint__" : String) = id0; (fail_if_success (clear hid id0)); wp_delta; rw [show splitId id0 = some ("reversed", "__length_hint__") from by subst hid; decide +kernel]; subst hid
  refine wpAny_bind (wpAny_isInstance (b := true) (hT 0 _ hst₁) (by rw [isSubtype_type]; kernel_rfl) ?_)
  rw [if_neg (by decide)]
  dsimp only
  split
  · rename_i hq; exact absurd hq (by decide +kernel)
  refine wpAny_bind (wpAny_rule ?_)
  refine wpAny_bind (wpAny_of_eq (F.rv_slot_hint.bind _) ?_)
  dsimp only
  refine wpAny_bind (wpAny_attempt (hint_revT (by simpa using hst₁.2.1) hst₁.2.2 hfit fun t tk htk => ?_))
  show wpAny _ _ (asInt? (.int (items.size : Int) t) >>= _) _ _ _
  rw [asInt_int, pure_bind]
  generalize hN : (items.size : Int) = N
  dsimp only
  have b1 : Builtin.List.listFitsIndex N = true := by simp [Builtin.List.listFitsIndex]; omega
  have b2 : ¬ N < 0 := by omega
  have b3 : Builtin.List.listTooLong N.toNat = false := by simp [Builtin.List.listTooLong]; omega
  rw [b1, if_neg (by simp), if_neg b2, b3, if_neg (by simp)]
  refine wpAny_pure ?_
  have fin : ∀ (hp : Heap) (c : Nat), hp.get? s.heap.objs.size = some { cls := .type "list", dict := none, data := .seq #[] c, slots := #[] } → (∀ b o, b ≠ s.heap.objs.size → (s.heap.push { cls := .type "list", data := .seq ([] : List Value).toArray }).get? b = some o → hp.get? b = some o) →
      codeAny (model prog w) A (.builtin "list.extend.loop" ⟨[.ref s.heap.objs.size, .ref I, .ref s.heap.objs.size], []⟩)
            (fun r s' =>
              match r with
              | Except.ok (Flow.ret v) =>
                wpAny (model prog w) A
                  (match v with
                  | Value.ref a => do
                    let __do_lift ← load a
                    match __do_lift.data with
                      | Data.seq xs epoch => pure xs.toList
                      | x => unsupported "internal:collect"
                  | x => unsupported "internal:collect")
                  Q E s'
              | Except.ok a => False
              | Except.error e => E e s') { s with heap := hp, toks := tk } := fun hp c hS kp => by
    have hst₂ := W.frame 0 _ hp tk hst₁ htk fun b hb o e => kp b o (fun z => hSf (by rw [← z]; exact hb)) e
    refine codeAny_extend_loopS W hsz _ hSf _ items.size 0 _ #[] c rfl (Nat.zero_le _) hst₂ hS (ItemsOf.nil _) fun s' acc' c' hm hS' hacc => ?_
    show wpAny _ A (load s.heap.objs.size >>= _) _ _ s'
    refine wpAny_bind (wpAny_load hS' ?_)
    refine wpAny_pure (hQ s' acc' ⟨fun b o hb e => ?_, hm.gens, hm.drawn, hm.os, Nat.le_trans htk hm.toks⟩ hacc)
    have hbS : b ≠ s.heap.objs.size := Nat.ne_of_lt (Heap.lt_size e)
    exact hm.heap b o (by simp only [List.mem_cons, not_or]; exact ⟨hbS, by simpa using hb⟩) (kp b o hbS (Heap.get?_push_of_some _ e))
  split
  · refine wpAny_bind (wpAny_rule ?_)
    refine wpAny_bind ?_
    unfold Builtin.List.listTouch
    refine wpAny_bind ?_
    show wpAny _ _ (updateSeq s.heap.objs.size (·.push Value.none)) _ _ _
    have hS₂ := Heap.get?_update_self (Obj.mapSeq (·.push Value.none)) hS₁ rfl
    refine wpAny_updateSeq hS₁ rfl ?_
    show wpAny _ _ (updateSeq s.heap.objs.size (·.pop)) _ _ _
    have hS₃ := Heap.get?_update_self (Obj.mapSeq (·.pop)) hS₂ rfl
    refine wpAny_updateSeq hS₂ rfl ?_ (by show 1 ≤ sizeLine; decide) (by show 0 ≤ sizeLine + 1; omega)
    refine wpAny_pure ⟨plainId_quiet F.plain_extend_loop _, fin _ _ hS₃ fun b o hb e => ?_⟩
    rw [Heap.get?_update_other _ _ (Ne.symm hb), Heap.get?_update_other _ _ (Ne.symm hb)]
    exact e
  · exact wpAny_pure ⟨plainId_quiet F.plain_extend_loop _, fin _ _ hS₁ fun b o _ e => e⟩
end
/-- tuple(reversed(t)) -/
theorem meets_tuple_new_rev (I l : Addr) (items : Array Value) (hne : l ≠ I) (hsz : items.size ≤ sizeLine) :
    Meets (Builtin.«tuple.__new__» ⟨[.type "tuple", .ref I], []⟩)
      (fun A R s => A.handled = none ∧ s.heap.IsRevT I l ((items.size : Int) - 1) ∧ PyProof.Rows.IsTup s.heap l items ∧ ∀ s' : Shared, Moved [I] (fun a b => b = a) s s' → ∀ acc : Array Value, acc = items.reverse → R (.ok (.ret (.ref s'.heap.objs.size))) { s' with heap := s'.heap.push { cls := .type "tuple", data := .seq acc } }) :=
  .of_wp fun prog w A R s h => by
    obtain ⟨hh, hit, hl, h⟩ := h
    have hsub := sub_tuple_self
    have hinit := init_tuple_lookup
    have hmh := madeHere_tuple
    have hT : Shared.TypeIs s (.ref I) "reversed" := hit.typeIs
    obtain ⟨o, ho, hc, hd⟩ := id hit
    obtain ⟨hp, g, d, tk, os⟩ := s
    wp_walk using AutoSeq1.wpAny_loadPart' ho, wpAny_typeOf hT, collect_revT (A := A.in1) hh hit hl hne hsz
    intro s' acc hm hacc
    show wpAny _ _ (Builtin.Tuple.tupleExact acc.toList.toArray >>= fun v => ret v) _ _ _
    have e : acc.toList.toArray = acc := by simp
    have er : acc = items.reverse := by
      refine Array.ext (by rw [hacc.1, Array.size_reverse]) fun j h1 h2 => ?_
      have := hacc.2 j _ (Array.getElem?_eq_getElem h1)
      rw [Array.getElem_reverse]
      have h3 := Array.getElem?_eq_some_iff.mp this
      exact h3.2.symm
    rw [e]
    unfold Builtin.Tuple.tupleExact
    refine wpAny_bind (wpAny_newObj_type ?_ (by show acc.size ≤ sizeLine; rw [hacc.1]; exact hsz))
    exact wpAny_pure ⟨_, rfl, h s' hm acc er⟩
section
variable {prog : Program} {w : World} {A : Around} {E : Value → Shared → Prop} {s : Shared}
theorem call_tuple_rev {I l : Addr} {items : Array Value} {Q : Value → Shared → Prop} (hh : A.handled = none) (hit : s.heap.IsRevT I l ((items.size : Int) - 1)) (hl : PyProof.Rows.IsTup s.heap l items) (hne : l ≠ I) (hsz : items.size ≤ sizeLine)
    (h : ∀ s' : Shared, Moved [I] (fun a b => b = a) s s' → Q (.ref s'.heap.objs.size) { s' with heap := s'.heap.push { cls := .type "tuple", data := .seq items.reverse } }) :
    wpAny (model prog w) A (call (.type "tuple") [.ref I]) Q E s :=
  callType_new F.called_tuple (by decide) (F.typeCall_tuple_1 _) (F.newCall_tuple_1 _) (fun obj => F.args_object_init_2 obj _) F.entry_tuple_new
    (meets_tuple_new_rev I l items hne hsz) ⟨hh, hit, hl, fun s' hm acc e => by subst e; exact ⟨⟨_, Heap.get?_push_size _ rfl, rfl⟩, h s' hm⟩⟩
end
end PySem
end

section
set_option linter.all false
set_option Elab.async false
set_option maxRecDepth 100000
/-! reversed over a tuple: walked, made a tuple. -/
namespace L2
open PySem PySem.Spec PyProof.Rows
/-- a tuple of N items, from behind -/
def ItRT (K : PySem.W.Frag) (a : Addr) (N : Nat) : It :=
  ⟨fun i H => ∃ xs x, SqT K H a xs ∧ xs.length = N ∧ xs.reverse[i]? = some x, fun i H x H' => H' = H ∧ ∀ xs, SqT K H a xs → xs.reverse[i]? = some x, fun i H => ∃ xs, SqT K H a xs ∧ xs.length = N ∧ N ≤ i⟩
theorem fits_of {n : Nat} (h : n ≤ sizeLine) : (n : Int) < 2 ^ 63 := by
  have : sizeLine ≤ 2 ^ 62 := by decide
  omega
theorem turn_revT {P : Program} {w : World} {K : PySem.W.Frag} {tg : Expr} (a it : Addr) (N : Nat) : Turn P w K tg (ItRT K a N) [it] it (fun i h => i ≤ N ∧ h.IsRevT it a ((N : Int) - 1 - (i : Int))) where
  mem := by simp
  obj := fun i h st b hb => by
    have e : b = it := by simpa using hb
    subst e
    obtain ⟨_, o, e, c, d⟩ := st
    exact ⟨o, e, fun v z => by rw [d] at z; cases z⟩
  keep := fun i h h' st k => ⟨st.1, st.2.at fun o e => k it (by simp) o e⟩
  item := by
    intro X hP hw hK hc i pins s σ H E I hf st hg
    subst hP hw hK
    obtain ⟨xs, x, hq, hN, hx⟩ := hg
    obtain ⟨its, rv, p, hz⟩ := I.tuple hq
    have hi : i < xs.length := by simpa using (List.getElem?_eq_some_iff.mp hx).1
    have hx' : xs[N - 1 - i]? = some x := by rw [List.getElem?_reverse hi, hN] at hx; exact hx
    obtain ⟨u, hu, ru⟩ := rv.get hx'
    obtain ⟨f0, f1, f2, f3, f4, f5⟩ := hf it (by simp)
    have hit := st.2
    rw [show (N : Int) - 1 - (i : Int) = ((N - 1 - i : Nat) : Int) by omega] at hit
    refine pyNext_revT_item hit p (x := u) (by simpa using hu) (fits_of (by rw [List.size_toArray, ← rv.length]; exact hz)) fun h' tk st' sb => ?_
    rw [show ((N - 1 - i : Nat) : Int) - 1 = (N : Int) - 1 - ((i + 1 : Nat) : Int) by omega] at st'
    have I1 : Inv X pins σ H { s with heap := h', toks := tk } := I.turned (t' := tk) (fun b o hb e => (sb.2 b hb).trans e) f0 f1 f3 f4 f5
    obtain ⟨o, e, c, d⟩ := id st'
    exact ⟨u, rfl, go_of (s := { s with heap := h', toks := tk }) e c d (by decide) ⟨x, H, I1, ru, ⟨rfl, fun ys hy => by rw [I.tuple_inj hy hq]; exact hx⟩, ⟨by omega, st'⟩, fun b hb => (hf b hb).1⟩⟩
  done := by
    intro X hP hw hK hc i pins s σ H E I hf st hg
    subst hP hw hK
    obtain ⟨xs, hq, hN, hx⟩ := hg
    obtain ⟨f0, f1, f2, f3, f4, f5⟩ := hf it (by simp)
    have hit := st.2
    rw [show (N : Int) - 1 - (i : Int) = -1 by have := st.1; omega] at hit
    exact pyNext_revT_end (I.ok.hd hc) hit fun h' eb => ⟨rfl, I.turned (t' := s.toks) (fun b o hb e => eb b o hb e) f0 f1 f3 f4 f5⟩
  self := fun _ _ _ _ _ st h => pyIter_revT st.2 h
section
variable {X : Cx} {tg : Expr}
/-- reversed(t) -/
def iRev (K : PySem.W.Frag) (tl : TE) : TI := fun σ H R => tl σ H fun x H1 => ∃ a xs, x = .ref a ∧ SqT K H1 a xs ∧ R (ItRT K a xs.length) H1
theorem boot_tuple' : bootBuiltins "tuple" = some (.type "tuple") := by decide +kernel
theorem boot_reversed' : bootBuiltins "reversed" = some (.type "reversed") := by decide +kernel
theorem pi_rev {a : Expr} {ta : TE} {p pos : Pos} (hg : Gl X "reversed") (hm : X.mg "reversed" = none) (ha : PE X a ta) (hs : starEach [a] X.env = [(false, eval a X.env)] := by rfl) :
    PI X tg (.Call (.Name "reversed" p) [a] [] pos) (iRev X.K ta) := by
  intro pins s σ H R I h
  refine Call_ (ld_blt I hg hm boot_reversed' (PyProof.Rows.callWith_type1 (thn ((pa_cons ha pa_nil hs) pos pins s σ H (fun vs H1 => match vs with | [x] => ∃ a xs, x = .ref a ∧ SqT X.K H1 a xs ∧ R (ItRT X.K a xs.length) H1 | _ => False) I h) fun us s1 ⟨vs, H1, I1, r1, q1⟩ => ?_) hs rfl))
  obtain ⟨ad, xs, hq, q, vs1⟩ : ∃ ad xs, SqT X.K H1 ad xs ∧ R (ItRT X.K ad xs.length) H1 ∧ vs = [.ref ad] := by
    cases vs with
    | nil => cases q1
    | cons x r =>
      cases r with
      | nil => obtain ⟨ad, xs, rfl, q, q'⟩ := q1; exact ⟨ad, xs, q, q', rfl⟩
      | cons _ _ => cases q1
  subst vs1
  obtain ⟨u, rfl, ru⟩ := r1.one
  cases ru
  obtain ⟨its, rv, pl, hz⟩ := I1.tuple hq
  have hsz : its.toArray.size = xs.length := by rw [List.size_toArray, ← rv.length]
  refine call_reversed_tuple pl (fits_of (by rw [hsz]; exact hz)) ?_
  rw [hsz]
  have hit : (s1.heap.push (revTObj ad ((xs.length : Int) - 1))).IsRevT s1.heap.objs.size ad ((xs.length : Int) - 1) := ⟨_, Heap.get?_push_size _ rfl, rfl, rfl⟩
  refine pyIter_revT hit ⟨_, [s1.heap.objs.size], _, _, H1, rfl, I1.kept (t' := s1.toks + 1 + 1) (fun b o e => Heap.get?_push_of_some _ e), turn_revT ad s1.heap.objs.size xs.length, ⟨Nat.zero_le _, by simpa using hit⟩, fun b hb => ?_, q⟩
  have e : b = s1.heap.objs.size := by simpa using hb
  subst e
  exact I1.fpOk (Nat.le_refl _) (I1.hok.fresh (Nat.le_refl _))
/-- tuple(reversed(t)) -/
theorem pe_tupRev {a : Expr} {ta : TE} {p pos p2 pos2 : Pos} (hc : X.calm = true) (hgT : Gl X "tuple") (hmT : X.mg "tuple" = none) (hg : Gl X "reversed") (hm : X.mg "reversed" = none) (ha : PE X a ta) (hs : starEach [a] X.env = [(false, eval a X.env)] := by rfl)
    (hs2 : starEach [.Call (.Name "reversed" p) [a] [] pos] X.env = [(false, eval (.Call (.Name "reversed" p) [a] [] pos) X.env)] := by rfl) :
    PE X (.Call (.Name "tuple" p2) [.Call (.Name "reversed" p) [a] [] pos] [] pos2) (fun σ H Q => ta σ H fun x H1 => ∃ ad xs, x = .ref ad ∧ SqT X.K H1 ad xs ∧ ∀ l, H1 l = none → Q (.ref l) (upd H1 l (.tup xs.reverse))) := by
  intro pins s σ H Q I h
  refine Call_ (ld_blt I hgT hmT boot_tuple' (PyProof.Rows.callWith_type1 ?_ hs2 rfl))
  rw [hs2]
  show wpAny _ _ (spliced ((false, eval (.Call (.Name "reversed" p) [a] [] pos) X.env) :: [])) _ _ _
  refine Calls.spliced_cons (Call_ (ld_blt I hg hm boot_reversed' (PyProof.Rows.callWith_type1 (thn ((pa_cons ha pa_nil hs) pos pins s σ H (fun vs H1 => match vs with | [x] => ∃ ad xs, x = .ref ad ∧ SqT X.K H1 ad xs ∧ ∀ l, H1 l = none → Q (.ref l) (upd H1 l (.tup xs.reverse)) | _ => False) I h) fun us s1 ⟨vs, H1, I1, r1, q1⟩ => ?_) hs rfl)))
  obtain ⟨ad, xs, hq, q, vs1⟩ : ∃ ad xs, SqT X.K H1 ad xs ∧ (∀ l, H1 l = none → Q (.ref l) (upd H1 l (.tup xs.reverse))) ∧ vs = [.ref ad] := by
    cases vs with
    | nil => cases q1
    | cons x r =>
      cases r with
      | nil => obtain ⟨ad, xs, rfl, q, q'⟩ := q1; exact ⟨ad, xs, q, q', rfl⟩
      | cons _ _ => cases q1
  subst vs1
  obtain ⟨u, rfl, ru⟩ := r1.one
  cases ru
  obtain ⟨its, rv, pl, hz⟩ := I1.tuple hq
  have hsz : its.toArray.size = xs.length := by rw [List.size_toArray, ← rv.length]
  have hz2 : its.toArray.size ≤ sizeLine := by rw [hsz]; exact hz
  refine call_reversed_tuple pl (fits_of hz2) ?_
  refine Calls.spliced_nil ?_
  have hit : (s1.heap.push (revTObj ad ((its.toArray.size : Int) - 1))).IsRevT s1.heap.objs.size ad ((its.toArray.size : Int) - 1) := ⟨_, Heap.get?_push_size _ rfl, rfl, rfl⟩
  have I2 : Inv X pins σ H1 { s1 with heap := s1.heap.push (revTObj ad ((its.toArray.size : Int) - 1)), toks := s1.toks + 1 + 1 } := I1.kept (t' := s1.toks + 1 + 1) (fun b o e => Heap.get?_push_of_some _ e)
  have hne : ad ≠ s1.heap.objs.size := Nat.ne_of_lt pl.lt
  have fp := I1.fpOk (b := s1.heap.objs.size) (H' := H1) (Nat.le_refl _) (I1.hok.fresh (Nat.le_refl _))
  obtain ⟨f0, f1, f2, f3, f4, f5⟩ := fp
  refine call_tuple_rev (s := { s1 with heap := s1.heap.push (revTObj ad ((its.toArray.size : Int) - 1)), toks := s1.toks + 1 + 1 }) (I1.ok.hd hc) hit (IsTup.at' pl fun o e => Heap.get?_push_of_some _ e) hne hz2 fun s' hm' => ?_
  obtain ⟨h', g', d', t', os'⟩ := s'
  have eg : g' = s1.gens := hm'.gens
  have ed : d' = s1.drawn := hm'.drawn
  have eo : os' = s1.os := hm'.os
  subst eg ed eo
  have I3 : Inv X pins σ H1 ⟨h', s1.gens, s1.drawn, t', s1.os⟩ := I2.turned (t' := t') (fun b o hb e => hm'.heap b o (by simpa using hb) e) f0 f1 f3 f4 f5
  have er : its.toArray.reverse = its.reverse.toArray := by simp
  rw [er]
  refine ⟨.ref h'.objs.size, _, I3.laid (t' := t') (o := .tup xs.reverse) (fun b ob q => Heap.get?_push_of_some _ q) (Nat.le_refl _) ?_, rfl, q _ (I3.hok.fresh (Nat.le_refl _))⟩
  exact ⟨by rw [List.length_reverse]; exact hz, _, rv.reverse, IsTup.new _ _⟩
end
end L2
namespace HH
open PySem L2 PySem.Spec PyProof.Rows
section
variable {K : PySem.W.Frag} {F F1 H H1 : Hp} {ρ ρ1 : List Sl} {σ : L2.St} {ds : List D} {a : Addr}
theorem Reps.rev : ∀ {ds : List D} {xs : List V}, Reps K F xs ds → Reps K F xs.reverse ds.reverse
  | [], _, h => by rw [h.unnil]; exact .nil
  | d :: ds, _, h => by
    obtain ⟨v, r, rfl, h1, h2⟩ := h.uncons
    rw [List.reverse_cons, List.reverse_cons]
    exact (Reps.rev h2).append (.cons h1 .nil)
theorem itR_src {xs : List V} {F' H' : Hp} (hq : SqT K H' a xs) (r : Reps K F' xs ds) (s : Same F' H') (k : Nat) :
    (∀ d, ds.reverse[k]? = some d → (ItRT K a xs.length).go k H' ∧ ∀ x H'', (ItRT K a xs.length).yld k H' x H'' → ∃ F'', Ext F' H' F'' H'' ∧ Rep K F'' x d) ∧ (ds.reverse.length ≤ k → (ItRT K a xs.length).stop k H') := by
  refine ⟨fun d hd => ?_, fun h => ⟨xs, hq, rfl, by rw [r.length]; simpa using h⟩⟩
  obtain ⟨w, h1, h2⟩ := r.rev.get hd
  refine ⟨⟨xs, w, hq, rfl, h1⟩, fun x H'' ⟨e, y⟩ => ?_⟩
  subst e
  have := y xs hq
  rw [h1] at this; cases this
  exact ⟨F', .refl s, h2⟩
end
section
variable {X : Cx} {c : Call} {e a tg : Expr} {pa : P} {pos : Pos}
theorem si_rev {x : Str} {p' : Pos} (hx : x = "reversed") (hg : Gl X x) (hm : X.mg x = none) (ha : SX X c a pa) (hs : starEach [a] X.env = [(false, eval a X.env)] := by rfl) : SI X c tg (.Call (.Name x p') [a] [] pos) (.rev pa) := by
  subst hx
  refine piImp (pi_rev hg hm ha.ev hs) fun σ H R ⟨F, ρ, ds, ρ1, g, e, k⟩ => ?_
  obtain ⟨r, ρ2, e1, e2⟩ := bind_ok e
  have zz := lift_ok e2; clear e2; obtain ⟨e2, e3⟩ := zz
  subst e3
  rw [HH.ev] at e1
  obtain ⟨r0, ρ3, e4, e5⟩ := bind_ok e1
  have zz := lift_ok e5; clear e5; obtain ⟨e5, e6⟩ := zz
  subst e6
  obtain ⟨es, f1, f2⟩ := map_some e5
  subst f2
  cases e2
  refine ⟨F, ρ, r0, _, g, e4, fun v F' H' s rr => ?_⟩
  obtain ⟨F2, s2, _, rp⟩ := s.frz rr
  cases hd : r0.d with
  | tup es' =>
    rw [hd] at f1 rp
    cases f1
    rw [Rep] at rp
    obtain ⟨ad, xs, rfl, h1, h2⟩ := rp
    exact ⟨ad, xs, rfl, Same.seqT s2.gs.sub h1, k _ _ _ ⟨s2.gs, fun n k F' ρ' σ' H' s' => itR_src (Same.seqT s'.gs.sub (Same.seqT s'.fsub h1)) (h2.mono s'.fsub) s'.gs.sub k, fun F3 ρ3 σ3 H3 s3 => ⟨s2.trans s3, fun v r rr => rr.later s2⟩⟩⟩
  | _ => rw [hd] at f1; cases f1
theorem sx_tupRev {x y : Str} {p' q' pos' : Pos} (hy : y = "tuple") (hx : x = "reversed") (hc : X.calm = true) (hgT : Gl X y) (hmT : X.mg y = none) (hg : Gl X x) (hm : X.mg x = none) (ha : SX X c a pa) (hs : starEach [a] X.env = [(false, eval a X.env)] := by rfl)
    (hs2 : starEach [.Call (.Name x p') [a] [] pos] X.env = [(false, eval (.Call (.Name x p') [a] [] pos) X.env)] := by rfl) : SX X c (.Call (.Name y q') [.Call (.Name x p') [a] [] pos] [] pos') (.blt .tuple [.rev pa]) := by
  subst hx hy
  refine ⟨peImp (pe_tupRev hc hgT hmT hg hm ha.ev hs hs2) fun σ H Q ⟨F, ρ, r, ρ', g, e, k⟩ => ?_, fun i h => by cases h⟩
  rw [HH.ev] at e
  obtain ⟨x, ρ2, e1, e2⟩ := bind_ok e
  have zz := lift_ok e2; clear e2; obtain ⟨e2, e3⟩ := zz
  subst e3
  obtain ⟨r1, ρ3, e3, e4⟩ := bind_ok e1
  cases e4
  rw [HH.ev] at e3
  obtain ⟨r0, ρ4, e4, e5⟩ := bind_ok e3
  have zz := lift_ok e5; clear e5; obtain ⟨e5, e6⟩ := zz
  subst e6
  obtain ⟨es, f1, f2⟩ := map_some e5
  subst f2
  refine ⟨F, ρ, r0, _, g, e4, fun v F' H' s rr => ?_⟩
  obtain ⟨F2, s2, _, rp⟩ := s.frz rr
  cases hd : r0.d with
  | tup es' =>
    rw [hd] at f1 rp
    cases f1
    cases e2
    rw [Rep] at rp
    obtain ⟨ad, xs, rfl, h1, h2⟩ := rp
    exact ⟨ad, xs, rfl, Same.seqT s2.gs.sub h1, fun l hl => Ext.rep_tup s2 h2.rev k l hl⟩
  | _ => rw [hd] at f1; cases f1
end
section
variable {X : Cx} {c : Call} {a b d : Expr} {pa pb pd : P} {pos : Pos}
theorem st_chain {o o' : Cm} {op op' : CmpOp} (ho : OpR X (compareOp op) (rD X.K (cmR o))) (ho' : OpR X (compareOp op') (rD X.K (cmR o'))) (ha : SX X c a pa) (hb : SX X c b pb) (hd : SX X c d pd)
    (hm : lastMarks [op, op'] [b, d] = false := by with_unfolding_all rfl) : ST X c (.Compare a [op, op'] [b, d] pos) (.chain o o' pa pb pd) := by
  obtain ⟨ta, tb, h1, h2, h3⟩ := ha.opd2 hb
  obtain ⟨td, h4, h5⟩ := hd.opd
  refine ptImp (pt_chain ho ho' h1 h2 h4 hm) fun σ H Q q => tTr_of (t := tChain (rD X.K (cmR o)) (rD X.K (cmR o')) ta tb td) (fun Q z => ?_) q
  obtain ⟨F, ρ, r, ρ', g, e, k⟩ := z
  rw [HH.ev] at e
  obtain ⟨xy, ρ1, e1, e⟩ := bind_ok e
  obtain ⟨t, ρ2, e2, e⟩ := bind_ok e
  have zz := lift_ok e2; clear e2; obtain ⟨e2, e3⟩ := zz
  subst e3
  have hfl : flat xy.2 = true ∧ cm o xy.1 xy.2 = some t := by
    split at e2
    · rename_i hf; exact ⟨hf, e2⟩
    · cases e2
  obtain ⟨hfl, e2⟩ := hfl
  refine h3 g e1 fun v u F' H' s pv pu => ⟨F', xy.1, xy.2, .val (.bl t), s.gs.sub, pv, pu, by unfold cmR; rw [e2]; rfl, fun w F2 H2 x rn => ?_⟩
  have s2 := s.trans (x.stp s.gs)
  have rn : Rep X.K F2 w (.bl t) := rn
  rw [Rep] at rn
  subst rn
  refine ⟨t, rfl, ?_⟩
  cases t with
  | false =>
    rw [if_neg Bool.false_ne_true] at e ⊢
    cases e
    exact k _ F2 H2 s2 (show Rep X.K F2 _ _ from repBl _)
  | true =>
    rw [if_pos rfl] at e ⊢
    obtain ⟨z, ρ3, e3, e⟩ := bind_ok e
    obtain ⟨e4, e5⟩ := lift_ok e
    subst e5
    refine h5 s2.gs e3 fun w F3 H3 s3 pw => ⟨F3, xy.2, z, r, s3.gs.sub, ?_, pw, e4, fun w' F4 H4 x4 rn => ?_⟩
    · have x1 := x.fs
      have x2 := s3.fsub
      rcases pu with pu | ⟨_, _, _, _, _, _, h⟩
      · exact .inl ((pu.mono x1).mono x2)
      · rw [h] at hfl; cases hfl
    · have s4 := s2.trans s3
      exact k w' F4 H4 (s4.trans (x4.stp s4.gs)) (.later s4 (rn.repR s4.gs))
end
end HH
end

section
set_option linter.all false
set_option Elab.async false
set_option maxRecDepth 100000
set_option maxHeartbeats 4000000
namespace T
open PySem L2 PySem.Spec PyProof.Rows HH
def top (i : Nat) : Stmt := PySem.Challenge.pw_hourhaul_k59_calendars_till_late_turned.main.body.getD i (.Pass ⟨0, 0, 0, 0⟩)
/-- till_calendar -/
abbrev s0 : Stmt := top 1
def b0 : List S := [
    .asg 2 (.comp (.idx (.var 0) (.con (.int 3))) 1 [4] true none (.slice (.var 4) (.con .non) (.bin .add (.var 1) (.con (.int 1))))), 
    .asg 3 (.comp (.idx (.var 0) (.con (.int 4))) 1 [4] true none (.ife (.cmp .isN (.var 4) (.con .non)) (.con .non) (.slice (.var 4) (.con .non) (.var 1)))), 
    .ret (.tup [.idx (.var 0) (.con (.int 0)), .var 1, .idx (.var 0) (.con (.int 2)), .blt .tuple [.var 2], .blt .tuple [.var 3]])]
def f0 : Fd := ⟨2, 4, b0⟩
theorem sc0 : FnScope ["calendar", "hour", "rooms", "waits"] ["calendar", "hour"] (defScope s0) := ⟨rfl, rfl, rfl, by decide +kernel, rfl, by decide +kernel, by decide +kernel⟩
theorem d0 {Pg : Program} {w : World} {K : PySem.W.Frag} {mg : Str → Option Value} {base : Heap} {f : Addr} {fd : FuncData} {k n : Nat} {c : Call} (Fu : Fun K "till_calendar" "till_calendar" s0 f fd) (B_tuple : mg "tuple" = none) :
    FnOk Pg w K mg base CX0 (k + 1) f fd ["calendar", "hour"] (spC K 2 (fun args => enter c n f0 args)) := by
  refine fn_ok Fu sc0 rfl rfl fun cdv A outer s H E hr => ?_
  have nd := sc0.nd
  have hc : true = true := rfl
  refine sb_cons ?_ ?_
  · exact (ss_asgC (i := 2) (N' := ["calendar", "hour", "rooms", "waits", "row"]) hc nd rfl (Or.inl rfl) (cOk rfl (by rfl)) (si_seq (sx_idx (sv 0) sx_int)) (fun _ _ _ _ _ => pg_name (i := 4) (show (["calendar", "hour", "rooms", "waits", "row"] : List Str).Nodup by decide +kernel) rfl (Or.inl rfl) (Or.inr rfl)) (tgc_name (Nat.le_refl _)) (fun _ _ _ _ _ => sq_none) (fun _ _ _ _ _ => (sx_slice (sv 4) so_none (so_some (sx_bin op_addD (sv 1) sx_int)))) (by rfl) (by intro _; rfl) (Or.inl rfl))
  with_reducible refine sb_cons ?_ ?_
  · exact (ss_asgC (i := 3) (N' := ["calendar", "hour", "rooms", "waits", "row"]) hc nd rfl (Or.inl rfl) (cOk rfl (by rfl)) (si_seq (sx_idx (sv 0) sx_int)) (fun _ _ _ _ _ => pg_name (i := 4) (show (["calendar", "hour", "rooms", "waits", "row"] : List Str).Nodup by decide +kernel) rfl (Or.inl rfl) (Or.inr rfl)) (tgc_name (Nat.le_refl _)) (fun _ _ _ _ _ => sq_none) (fun _ _ _ _ _ => (sx_ife (st_cmp op_isD (sv 4) sx_non (nomark _)) sx_non (sx_slice (sv 4) so_none (so_some (sv 1))))) (by rfl) (by intro _; rfl) (Or.inl rfl))
  with_reducible refine sb_cons ?_ ?_
  · exact (by (with_reducible refine ss_ret ?a1); (case a1 => exact (sx_tup (sa_cons (sx_idx (sv 0) sx_int) (sa_cons (sv 1) (sa_cons (sx_idx (sv 0) sx_int) (sa_cons (sx_tuple rfl (by rfl) B_tuple (sv 2)) (sa_cons (sx_tuple rfl (by rfl) B_tuple (sv 3)) sa_nil (starEach_nst rfl)) (starEach_nst rfl)) (starEach_nst rfl)) (starEach_nst rfl)) (starEach_nst rfl)))))
  exact sb_nil
/-- late_calendar -/
abbrev s1 : Stmt := top 2
def b1 : List S := [
    .asg 2 (.comp (.zip (.idx (.var 0) (.con (.int 2))) (.idx (.var 0) (.con (.int 3)))) 2 [3, 4] false none (.ife (.cmp .eq (.idx (.var 3) (.con (.int 0))) (.con (.int 0))) (.bin .add (.bin .mul (.tup [.con (.int 0)]) (.var 1)) (.slice (.var 4) (.var 1) (.con .non))) (.var 4))), 
    .ret (.tup [.idx (.var 0) (.con (.int 0)), .idx (.var 0) (.con (.int 1)), .idx (.var 0) (.con (.int 2)), .blt .tuple [.var 2], .idx (.var 0) (.con (.int 4))])]
def f1 : Fd := ⟨2, 3, b1⟩
theorem sc1 : FnScope ["calendar", "hour", "rooms"] ["calendar", "hour"] (defScope s1) := ⟨rfl, rfl, rfl, by decide +kernel, rfl, by decide +kernel, by decide +kernel⟩
theorem d1 {Pg : Program} {w : World} {K : PySem.W.Frag} {mg : Str → Option Value} {base : Heap} {f : Addr} {fd : FuncData} {k n : Nat} {c : Call} (Fu : Fun K "late_calendar" "late_calendar" s1 f fd) (B_tuple : mg "tuple" = none) (B_zip : mg "zip" = none) :
    FnOk Pg w K mg base CX0 (k + 1) f fd ["calendar", "hour"] (spC K 2 (fun args => enter c n f1 args)) := by
  refine fn_ok Fu sc1 rfl rfl fun cdv A outer s H E hr => ?_
  have nd := sc1.nd
  have hc : true = true := rfl
  refine sb_cons ?_ ?_
  · exact (ss_asgC (i := 2) (N' := ["calendar", "hour", "rooms", "way", "row"]) hc nd rfl (Or.inl rfl) (cOk rfl (by rfl)) (si_zip rfl (by rfl) B_zip (sx_idx (sv 0) sx_int) (sx_idx (sv 0) sx_int)) (fun _ _ _ _ _ => pg_tup hc (pgs_cons (pg_name (i := 3) (show (["calendar", "hour", "rooms", "way", "row"] : List Str).Nodup by decide +kernel) rfl (Or.inl rfl) (Or.inr rfl)) (pgs_cons (pg_name (i := 4) (show (["calendar", "hour", "rooms", "way", "row"] : List Str).Nodup by decide +kernel) rfl (Or.inl rfl) (Or.inr rfl)) pgs_nil))) (tgc_tup rfl (tgc_cons (show 3 ≤ 3 by decide) (tgc_cons (show 3 ≤ 4 by decide) tgc_nil))) (fun _ _ _ _ _ => sq_none) (fun _ _ _ _ _ => (sx_ife (st_cmp (op_eqD (room_u hr)) (sx_idx (sv 3) sx_int) sx_int (nomark _)) (sx_bin op_addD (sx_bin op_mulD (sx_tup (sa_cons sx_int sa_nil (starEach_nst rfl))) (sv 1)) (sx_slice (sv 4) (so_some (sv 1)) so_none)) (sv 4))) (by rfl) (by intro _; rfl) (Or.inl rfl))
  with_reducible refine sb_cons ?_ ?_
  · exact (by (with_reducible refine ss_ret ?a1); (case a1 => exact (sx_tup (sa_cons (sx_idx (sv 0) sx_int) (sa_cons (sx_idx (sv 0) sx_int) (sa_cons (sx_idx (sv 0) sx_int) (sa_cons (sx_tuple rfl (by rfl) B_tuple (sv 2)) (sa_cons (sx_idx (sv 0) sx_int) sa_nil (starEach_nst rfl)) (starEach_nst rfl)) (starEach_nst rfl)) (starEach_nst rfl)) (starEach_nst rfl)))))
  exact sb_nil
/-- turned_rooms -/
abbrev s2 : Stmt := top 3
def b2 : List S := [
    .ret (.blt .tuple [.comp (.rng (.con (.int 0)) (.bin .add (.var 0) (.con (.int 1)))) 1 [3] true none (.ife (.cmp .le (.bin .add (.var 3) (.var 1)) (.var 0)) (.idx (.var 2) (.bin .sub (.bin .sub (.var 0) (.var 3)) (.var 1))) (.con (.int 0)))])]
def f2 : Fd := ⟨3, 3, b2⟩
theorem sc2 : FnScope ["last", "hours", "row"] ["last", "hours", "row"] (defScope s2) := ⟨rfl, rfl, rfl, by decide +kernel, rfl, by decide +kernel, by decide +kernel⟩
theorem d2 {Pg : Program} {w : World} {K : PySem.W.Frag} {mg : Str → Option Value} {base : Heap} {f : Addr} {fd : FuncData} {k n : Nat} {c : Call} (Fu : Fun K "turned_rooms" "turned_rooms" s2 f fd) (B_range : mg "range" = none) (B_tuple : mg "tuple" = none) :
    FnOk Pg w K mg base CX0 (k + 1) f fd ["last", "hours", "row"] (spC K 3 (fun args => enter c n f2 args)) := by
  refine fn_ok Fu sc2 rfl rfl fun cdv A outer s H E hr => ?_
  have nd := sc2.nd
  have hc : true = true := rfl
  refine sb_cons ?_ ?_
  · exact (by (with_reducible refine ss_ret ?a1); (case a1 => exact (sx_tuple rfl (by rfl) B_tuple (sx_comp (N' := ["last", "hours", "row", "hour"]) hc (cOk rfl (by rfl)) (si_rng1 rfl (by rfl) B_range (sx_bin op_addD (sv 0) sx_int)) (fun _ _ _ _ _ => pg_name (i := 3) (show (["last", "hours", "row", "hour"] : List Str).Nodup by decide +kernel) rfl (Or.inl rfl) (Or.inr rfl)) (tgc_name (Nat.le_refl _)) (fun _ _ _ _ _ => sq_none) (fun _ _ _ _ _ => (sx_ife (st_cmp op_leD (sx_bin op_addD (sv 3) (sv 1)) (sv 0) (nomark _)) (sx_idx (sv 2) (sx_bin op_subD (sx_bin op_subD (sv 0) (sv 3)) (sv 1))) sx_int))))))
  exact sb_nil
/-- turned_calendar -/
abbrev s3 : Stmt := top 4
def b3 : List S := [
    .asg 1 (.bin .sub (.idx (.var 0) (.con (.int 0))) (.con (.int 1))), 
    .asg 2 (.idx (.var 0) (.con (.int 1))), 
    .asg 3 (.comp (.idx (.var 0) (.con (.int 2))) 1 [6] true none (.tup [.bin .sub (.var 1) (.idx (.var 6) (.con (.int 1))), .bin .sub (.var 1) (.idx (.var 6) (.con (.int 0))), .idx (.var 6) (.con (.int 2))])), 
    .asg 4 (.comp (.zip (.idx (.var 0) (.con (.int 2))) (.idx (.var 0) (.con (.int 3)))) 2 [6, 7] false none (.call 2 [.var 2, .idx (.var 6) (.con (.int 2)), .var 7])), 
    .asg 5 (.comp (.rev (.idx (.var 0) (.con (.int 4)))) 1 [6] true none (.ife (.cmp .isN (.var 6) (.con .non)) (.con .non) (.blt .tuple [.rev (.var 6)]))), 
    .ret (.tup [.idx (.var 0) (.con (.int 0)), .var 2, .blt .tuple [.var 3], .blt .tuple [.var 4], .blt .tuple [.var 5]])]
def f3 : Fd := ⟨1, 6, b3⟩
theorem sc3 : FnScope ["calendar", "end", "last", "ways", "rooms", "waits"] ["calendar"] (defScope s3) := ⟨rfl, rfl, rfl, by decide +kernel, rfl, by decide +kernel, by decide +kernel⟩
theorem d3 {Pg : Program} {w : World} {K : PySem.W.Frag} {mg : Str → Option Value} {base : Heap} {f : Addr} {fd : FuncData} {k n : Nat} {c : Call} (Fu : Fun K "turned_calendar" "turned_calendar" s3 f fd) (B_reversed : mg "reversed" = none) (B_tuple : mg "tuple" = none) (B_zip : mg "zip" = none) (C_turned_rooms : CallOk Pg w K mg base k c 2 "turned_rooms" 3) :
    FnOk Pg w K mg base CX0 (k + 1) f fd ["calendar"] (spC K 1 (fun args => enter c n f3 args)) := by
  refine fn_ok Fu sc3 rfl rfl fun cdv A outer s H E hr => ?_
  have nd := sc3.nd
  have hc : true = true := rfl
  refine sb_cons ?_ ?_
  · exact (by (with_reducible refine ss_asg (i := 1) ?a1 ?a2 ?a3 ?a4 ?a5 ?a6); (case a1 => exact nd); (case a2 => exact rfl); (case a3 => exact (Or.inr rfl)); (case a5 => rfl); (case a6 => exact Or.inl rfl); (case a4 => exact (sx_bin op_subD (sx_idx (sv 0) sx_int) sx_int)))
  with_reducible refine sb_cons ?_ ?_
  · exact (by (with_reducible refine ss_asg (i := 2) ?a1 ?a2 ?a3 ?a4 ?a5 ?a6); (case a1 => exact nd); (case a2 => exact rfl); (case a3 => exact (Or.inr rfl)); (case a5 => rfl); (case a6 => exact Or.inl rfl); (case a4 => exact (sx_idx (sv 0) sx_int)))
  with_reducible refine sb_cons ?_ ?_
  · exact (ss_asgC (i := 3) (N' := ["calendar", "end", "last", "ways", "rooms", "waits", "way"]) hc nd rfl (Or.inl rfl) (cOk rfl (by rfl)) (si_seq (sx_idx (sv 0) sx_int)) (fun _ _ _ _ _ => pg_name (i := 6) (show (["calendar", "end", "last", "ways", "rooms", "waits", "way"] : List Str).Nodup by decide +kernel) rfl (Or.inl rfl) (Or.inr rfl)) (tgc_name (Nat.le_refl _)) (fun _ _ _ _ _ => sq_none) (fun _ _ _ _ _ => (sx_tup (sa_cons (sx_bin op_subD (sv 1) (sx_idx (sv 6) sx_int)) (sa_cons (sx_bin op_subD (sv 1) (sx_idx (sv 6) sx_int)) (sa_cons (sx_idx (sv 6) sx_int) sa_nil (starEach_nst rfl)) (starEach_nst rfl)) (starEach_nst rfl)))) (by rfl) (by intro _; rfl) (Or.inl rfl))
  with_reducible refine sb_cons ?_ ?_
  · exact (ss_asgC (i := 4) (N' := ["calendar", "end", "last", "ways", "rooms", "waits", "way", "row"]) hc nd rfl (Or.inl rfl) (cOk rfl (by rfl)) (si_zip rfl (by rfl) B_zip (sx_idx (sv 0) sx_int) (sx_idx (sv 0) sx_int)) (fun _ _ _ _ _ => pg_tup hc (pgs_cons (pg_name (i := 6) (show (["calendar", "end", "last", "ways", "rooms", "waits", "way", "row"] : List Str).Nodup by decide +kernel) rfl (Or.inl rfl) (Or.inr rfl)) (pgs_cons (pg_name (i := 7) (show (["calendar", "end", "last", "ways", "rooms", "waits", "way", "row"] : List Str).Nodup by decide +kernel) rfl (Or.inl rfl) (Or.inr rfl)) pgs_nil))) (tgc_tup rfl (tgc_cons (show 6 ≤ 6 by decide) (tgc_cons (show 6 ≤ 7 by decide) tgc_nil))) (fun _ _ _ _ _ => sq_none) (fun _ _ _ _ _ => (sxc C_turned_rooms hr (sg_cons (sv 2) (sg_cons (sx_idx (sv 6) sx_int) (sg_cons (sv 7) sg_nil (starEach_nst rfl)) (starEach_nst rfl)) (starEach_nst rfl)))) (by rfl) (by intro _; rfl) (Or.inl rfl))
  with_reducible refine sb_cons ?_ ?_
  · exact (ss_asgC (i := 5) (N' := ["calendar", "end", "last", "ways", "rooms", "waits", "row"]) hc nd rfl (Or.inl rfl) (cOk rfl (by rfl)) (si_rev rfl (by rfl) B_reversed (sx_idx (sv 0) sx_int)) (fun _ _ _ _ _ => pg_name (i := 6) (show (["calendar", "end", "last", "ways", "rooms", "waits", "row"] : List Str).Nodup by decide +kernel) rfl (Or.inl rfl) (Or.inr rfl)) (tgc_name (Nat.le_refl _)) (fun _ _ _ _ _ => sq_none) (fun _ _ _ _ _ => (sx_ife (st_cmp op_isD (sv 6) sx_non (nomark _)) sx_non (sx_tupRev rfl rfl hc (by rfl) B_tuple (by rfl) B_reversed (sv 6)))) (by rfl) (by intro _; rfl) (Or.inl rfl))
  with_reducible refine sb_cons ?_ ?_
  · exact (by (with_reducible refine ss_ret ?a1); (case a1 => exact (sx_tup (sa_cons (sx_idx (sv 0) sx_int) (sa_cons (sv 2) (sa_cons (sx_tuple rfl (by rfl) B_tuple (sv 3)) (sa_cons (sx_tuple rfl (by rfl) B_tuple (sv 4)) (sa_cons (sx_tuple rfl (by rfl) B_tuple (sv 5)) sa_nil (starEach_nst rfl)) (starEach_nst rfl)) (starEach_nst rfl)) (starEach_nst rfl)) (starEach_nst rfl)))))
  exact sb_nil
/-- _law_pool -/
abbrev s4 : Stmt := top 6
def b4 : List S := [
    .ret (.lst [.blt .max2 [.con (.int 0), .bin .sub (.blt .abs [.var 0]) (.bin .pow (.con (.int 10)) (.con (.int 18)))], .bin .mod (.var 0) (.bin .pow (.con (.int 10)) (.con (.int 18))), .con (.int 0)])]
def f4 : Fd := ⟨1, 1, b4⟩
theorem sc4 : FnScope ["cell"] ["cell"] (defScope s4) := ⟨rfl, rfl, rfl, by decide +kernel, rfl, by decide +kernel, by decide +kernel⟩
theorem d4 {Pg : Program} {w : World} {K : PySem.W.Frag} {mg : Str → Option Value} {base : Heap} {f : Addr} {fd : FuncData} {k n : Nat} {c : Call} (Fu : Fun K "_law_pool" "_law_pool" s4 f fd) (B_abs : mg "abs" = none) (B_max : mg "max" = none) :
    FnOk Pg w K mg base CX0 (k + 1) f fd ["cell"] (spC K 1 (fun args => enter c n f4 args)) := by
  refine fn_ok Fu sc4 rfl rfl fun cdv A outer s H E hr => ?_
  have nd := sc4.nd
  have hc : true = true := rfl
  refine sb_cons ?_ ?_
  · exact (by (with_reducible refine ss_ret ?a1); (case a1 => exact (sx_lst (sa_cons (sx_max2 rfl hc (by rfl) B_max (sa_cons sx_int (sa_cons (sx_bin op_subD (sx_abs rfl (by rfl) B_abs (sv 0)) (sx_bin op_powD sx_int sx_int)) sa_nil (starEach_nst rfl)) (starEach_nst rfl))) (sa_cons (sx_bin op_modD (sv 0) (sx_bin op_powD sx_int sx_int)) (sa_cons sx_int sa_nil (starEach_nst rfl)) (starEach_nst rfl)) (starEach_nst rfl)))))
  exact sb_nil
/-- _law_next -/
abbrev s5 : Stmt := top 7
def b5 : List S := [
    .ifs (.cmp .gt (.idx (.var 0) (.con (.int 0))) (.con (.int 0))) [.asg 2 (.bin .mod (.idx (.var 0) (.con (.int 0))) (.var 1)), .seti 0 (.con (.int 0)) (.bin .fdiv (.idx (.var 0) (.con (.int 0))) (.var 1)), .ret (.var 2)] [], 
    .seti 0 (.con (.int 2)) (.bin .add (.idx (.var 0) (.con (.int 2))) (.con (.int 1))), 
    .asg 3 (.bin .mod (.bin .add (.idx (.var 0) (.con (.int 1))) (.bin .mul (.con (.int 7919)) (.idx (.var 0) (.con (.int 2))))) (.con (.int 1000000007))), 
    .asg 4 (.bin .mod (.bin .mul (.bin .add (.var 3) (.con (.int 11))) (.bin .add (.var 3) (.con (.int 48271)))) (.con (.int 998244353))), 
    .ret (.bin .mod (.bin .fdiv (.bin .mod (.bin .mul (.var 4) (.var 4)) (.con (.int 2147483647))) (.con (.int 8))) (.var 1))]
def f5 : Fd := ⟨2, 5, b5⟩
theorem sc5 : FnScope ["pool", "base", "digit", "near", "stir"] ["pool", "base"] (defScope s5) := ⟨rfl, rfl, rfl, by decide +kernel, rfl, by decide +kernel, by decide +kernel⟩
theorem d5 {Pg : Program} {w : World} {K : PySem.W.Frag} {mg : Str → Option Value} {base : Heap} {f : Addr} {fd : FuncData} {k n : Nat} {c : Call} (Fu : Fun K "_law_next" "_law_next" s5 f fd) :
    FnOk Pg w K mg base CX0 (k + 1) f fd ["pool", "base"] (spC K 2 (fun args => enter c n f5 args)) := by
  refine fn_ok Fu sc5 rfl rfl fun cdv A outer s H E hr => ?_
  have nd := sc5.nd
  have hc : true = true := rfl
  refine sb_cons ?_ ?_
  · exact (ss_if (st_cmp op_gtD (sx_idx (sv 0) sx_int) sx_int (nomark _)) (sb_cons (by (with_reducible refine ss_asg (i := 2) ?a1 ?a2 ?a3 ?a4 ?a5 ?a6); (case a1 => exact nd); (case a2 => exact rfl); (case a3 => exact (Or.inl rfl)); (case a5 => rfl); (case a6 => exact Or.inl rfl); (case a4 => exact (sx_bin op_modD (sx_idx (sv 0) sx_int) (sv 1))))
      (sb_cons (ss_seti (k := 0) rfl (by first | exact Or.inl rfl | exact Or.inr (Or.inl rfl)) sx_int (sx_bin op_fdivD (sx_idx (sv 0) sx_int) (sv 1)))
      (sb_cons (by (with_reducible refine ss_ret ?a1); (case a1 => exact (sv 2)))
      sb_nil))) sb_nil)
  with_reducible refine sb_cons ?_ ?_
  · exact (ss_seti (k := 0) rfl (by first | exact Or.inl rfl | exact Or.inr (Or.inl rfl)) sx_int (sx_bin op_addD (sx_idx (sv 0) sx_int) sx_int))
  with_reducible refine sb_cons ?_ ?_
  · exact (by (with_reducible refine ss_asg (i := 3) ?a1 ?a2 ?a3 ?a4 ?a5 ?a6); (case a1 => exact nd); (case a2 => exact rfl); (case a3 => exact (Or.inl rfl)); (case a5 => rfl); (case a6 => exact Or.inl rfl); (case a4 => exact (sx_bin op_modD (sx_bin op_addD (sx_idx (sv 0) sx_int) (sx_bin op_mulD sx_int (sx_idx (sv 0) sx_int))) sx_int)))
  with_reducible refine sb_cons ?_ ?_
  · exact (by (with_reducible refine ss_asg (i := 4) ?a1 ?a2 ?a3 ?a4 ?a5 ?a6); (case a1 => exact nd); (case a2 => exact rfl); (case a3 => exact (Or.inl rfl)); (case a5 => rfl); (case a6 => exact Or.inl rfl); (case a4 => exact (sx_bin op_modD (sx_bin op_mulD (sx_bin op_addD (sv 3) sx_int) (sx_bin op_addD (sv 3) sx_int)) sx_int)))
  with_reducible refine sb_cons ?_ ?_
  · exact (by (with_reducible refine ss_ret ?a1); (case a1 => exact (sx_bin op_modD (sx_bin op_fdivD (sx_bin op_modD (sx_bin op_mulD (sv 4) (sv 4)) sx_int) sx_int) (sv 1))))
  exact sb_nil
/-- _law_wide -/
abbrev s6 : Stmt := top 8
def b6 : List S := [
    .ret (.bin .mod (.bin .add (.bin .mul (.call 5 [.var 0, .con (.int 100000)]) (.con (.int 100000))) (.call 5 [.var 0, .con (.int 100000)])) (.var 1))]
def f6 : Fd := ⟨2, 2, b6⟩
theorem sc6 : FnScope ["pool", "base"] ["pool", "base"] (defScope s6) := ⟨rfl, rfl, rfl, by decide +kernel, rfl, by decide +kernel, by decide +kernel⟩
theorem d6 {Pg : Program} {w : World} {K : PySem.W.Frag} {mg : Str → Option Value} {base : Heap} {f : Addr} {fd : FuncData} {k n : Nat} {c : Call} (Fu : Fun K "_law_wide" "_law_wide" s6 f fd) (C__law_next : CallOk Pg w K mg base k c 5 "_law_next" 2) :
    FnOk Pg w K mg base CX0 (k + 1) f fd ["pool", "base"] (spC K 2 (fun args => enter c n f6 args)) := by
  refine fn_ok Fu sc6 rfl rfl fun cdv A outer s H E hr => ?_
  have nd := sc6.nd
  have hc : true = true := rfl
  refine sb_cons ?_ ?_
  · exact (by (with_reducible refine ss_ret ?a1); (case a1 => exact (sx_bin op_modD (sx_bin op_addD (sx_bin op_mulD (sxc C__law_next hr (sg_cons (sv 0) (sg_cons sx_int sg_nil (starEach_nst rfl)) (starEach_nst rfl))) sx_int) (sxc C__law_next hr (sg_cons (sv 0) (sg_cons sx_int sg_nil (starEach_nst rfl)) (starEach_nst rfl)))) (sv 1))))
  exact sb_nil
/-- _law_roads -/
abbrev s7 : Stmt := top 9
def b7 : List S := [
    .asg 2 (.lst []), 
    .forr (.rng (.con (.int 0)) (.bin .sub (.var 1) (.con (.int 1)))) [3] true [.ifs (.cmp .gt (.call 5 [.var 0, .con (.int 8)]) (.con (.int 0))) [.app 2 (.tup [.var 3, .bin .add (.var 3) (.con (.int 1))])] []], 
    .forr (.rng (.con (.int 0)) (.call 5 [.var 0, .bin .sub (.con (.int 13)) (.blt .len [.var 2])])) [4] true [.asg 5 (.call 5 [.var 0, .var 1]), .app 2 (.tup [.var 5, .bin .mod (.bin .add (.bin .add (.var 5) (.con (.int 1))) (.call 5 [.var 0, .bin .sub (.var 1) (.con (.int 1))])) (.var 1)])], 
    .asg 6 (.lst []), 
    .forr (.var 2) [5, 7] false [.app 6 (.tup [.var 5, .var 7, .idx (.lst [.con (.int 1), .con (.int 1), .con (.int 2), .con (.int 2), .con (.int 3), .bin .add (.con (.int 1)) (.call 5 [.var 0, .con (.int 5)]), .bin .add (.con (.int 1)) (.call 6 [.var 0, .bin .pow (.con (.int 10)) (.con (.int 6))])]) (.call 5 [.var 0, .con (.int 7)])])], 
    .ret (.var 6)]
def f7 : Fd := ⟨2, 8, b7⟩
theorem sc7 : FnScope ["pool", "many", "roads", "place", "k", "begin", "found", "end"] ["pool", "many"] (defScope s7) := ⟨rfl, rfl, rfl, by decide +kernel, rfl, by decide +kernel, by decide +kernel⟩
theorem d7 {Pg : Program} {w : World} {K : PySem.W.Frag} {mg : Str → Option Value} {base : Heap} {f : Addr} {fd : FuncData} {k n : Nat} {c : Call} (Fu : Fun K "_law_roads" "_law_roads" s7 f fd) (B_len : mg "len" = none) (B_range : mg "range" = none) (C__law_next : CallOk Pg w K mg base k c 5 "_law_next" 2) (C__law_wide : CallOk Pg w K mg base k c 6 "_law_wide" 2) :
    FnOk Pg w K mg base CX0 (k + 1) f fd ["pool", "many"] (spC K 2 (fun args => enter c n f7 args)) := by
  refine fn_ok Fu sc7 rfl rfl fun cdv A outer s H E hr => ?_
  have nd := sc7.nd
  have hc : true = true := rfl
  refine sb_cons ?_ ?_
  · exact (by (with_reducible refine ss_asg (i := 2) ?a1 ?a2 ?a3 ?a4 ?a5 ?a6); (case a1 => exact nd); (case a2 => exact rfl); (case a3 => exact (Or.inl rfl)); (case a5 => rfl); (case a6 => exact Or.inl rfl); (case a4 => exact (sx_lst sa_nil)))
  with_reducible refine sb_cons ?_ ?_
  · exact (ss_for1 PassesOwn.never hc nd (i := 3) rfl (Or.inl rfl) (si_rng1 rfl (by rfl) B_range (sx_bin op_subD (sv 1) sx_int)) (sb_cons (ss_if (st_cmp op_gtD (sxc C__law_next hr (sg_cons (sv 0) (sg_cons sx_int sg_nil (starEach_nst rfl)) (starEach_nst rfl))) sx_int (nomark _)) (sb_cons (sx_app_core (k := 2) rfl (by first | exact Or.inl rfl | exact Or.inr (Or.inl rfl)) (sx_tup (sa_cons (sv 3) (sa_cons (sx_bin op_addD (sv 3) sx_int) sa_nil (starEach_nst rfl)) (starEach_nst rfl))))
      sb_nil) sb_nil)
      sb_nil) (by intro _; rfl) (Or.inl rfl))
  with_reducible refine sb_cons ?_ ?_
  · exact (ss_for1 PassesOwn.never hc nd (i := 4) rfl (Or.inl rfl) (si_rng1 rfl (by rfl) B_range (sxc C__law_next hr (sg_cons (sv 0) (sg_cons (sx_bin op_subD sx_int (sx_len rfl (by rfl) B_len (sv 2))) sg_nil (starEach_nst rfl)) (starEach_nst rfl)))) (sb_cons (by (with_reducible refine ss_asg (i := 5) ?a1 ?a2 ?a3 ?a4 ?a5 ?a6); (case a1 => exact nd); (case a2 => exact rfl); (case a3 => exact (Or.inl rfl)); (case a5 => rfl); (case a6 => exact Or.inl rfl); (case a4 => exact (sxc C__law_next hr (sg_cons (sv 0) (sg_cons (sv 1) sg_nil (starEach_nst rfl)) (starEach_nst rfl)))))
      (sb_cons (sx_app_core (k := 2) rfl (by first | exact Or.inl rfl | exact Or.inr (Or.inl rfl)) (sx_tup (sa_cons (sv 5) (sa_cons (sx_bin op_modD (sx_bin op_addD (sx_bin op_addD (sv 5) sx_int) (sxc C__law_next hr (sg_cons (sv 0) (sg_cons (sx_bin op_subD (sv 1) sx_int) sg_nil (starEach_nst rfl)) (starEach_nst rfl)))) (sv 1)) sa_nil (starEach_nst rfl)) (starEach_nst rfl))))
      sb_nil)) (by intro _; rfl) (Or.inl rfl))
  with_reducible refine sb_cons ?_ ?_
  · exact (by (with_reducible refine ss_asg (i := 6) ?a1 ?a2 ?a3 ?a4 ?a5 ?a6); (case a1 => exact nd); (case a2 => exact rfl); (case a3 => exact (Or.inl rfl)); (case a5 => rfl); (case a6 => exact Or.inl rfl); (case a4 => exact (sx_lst sa_nil)))
  with_reducible refine sb_cons ?_ ?_
  · exact (ss_for PassesOwn.never hc (si_seq (sv 2)) (pg_tup hc (pgs_cons (pg_name (i := 5) nd rfl (Or.inl rfl) (Or.inl rfl)) (pgs_cons (pg_name (i := 7) nd rfl (Or.inl rfl) (Or.inl rfl)) pgs_nil))) (tg_tup rfl (tgs_all _ _ (tgs_all _ _ tgs_nil 7) 5)) (sb_cons (sx_app_core (k := 6) rfl (by first | exact Or.inl rfl | exact Or.inr (Or.inl rfl)) (sx_tup (sa_cons (sv 5) (sa_cons (sv 7) (sa_cons (sx_idx (sx_lst (sa_preI [1, 1, 2, 2, 3] rfl (sa_cons (sx_bin op_addD sx_int (sxc C__law_next hr (sg_cons (sv 0) (sg_cons sx_int sg_nil (starEach_nst rfl)) (starEach_nst rfl)))) (sa_cons (sx_bin op_addD sx_int (sxc C__law_wide hr (sg_cons (sv 0) (sg_cons (sx_bin op_powD sx_int sx_int) sg_nil (starEach_nst rfl)) (starEach_nst rfl)))) sa_nil (starEach_nst rfl)) (starEach_nst rfl)))) (sxc C__law_next hr (sg_cons (sv 0) (sg_cons sx_int sg_nil (starEach_nst rfl)) (starEach_nst rfl)))) sa_nil (starEach_nst rfl)) (starEach_nst rfl)) (starEach_nst rfl))))
      sb_nil))
  with_reducible refine sb_cons ?_ ?_
  · exact (by (with_reducible refine ss_ret ?a1); (case a1 => exact (sv 6)))
  exact sb_nil
/-- _law_calendar -/
abbrev s8 : Stmt := top 10
def b8 : List S := [
    .asg 1 (.bin .add (.con (.int 2)) (.call 5 [.var 0, .con (.int 5)])), 
    .asg 2 (.call 5 [.var 0, .con (.int 13)]), 
    .asg 3 (.call 7 [.var 0, .var 1]), 
    .asg 4 (.idx (.lst [.con (.int 3), .con (.int 10), .bin .add (.bin .pow (.con (.int 10)) (.con (.int 9))) (.con (.int 1))]) (.call 5 [.var 0, .con (.int 3)])), 
    .asg 5 (.comp (.var 3) 1 [9] true none (.blt .tuple [.comp (.rng (.con (.int 0)) (.bin .add (.var 2) (.con (.int 1)))) 1 [10] true none (.call 6 [.var 0, .var 4])])), 
    .asg 6 (.lst [.con .non]), 
    .forr (.rng (.con (.int 0)) (.bin .sub (.var 1) (.con (.int 2)))) [7] true [.asg 8 (.blt .tuple [.comp (.rng (.con (.int 0)) (.var 2)) 1 [9] true none (.call 6 [.var 0, .var 4])]), .app 6 (.idx (.lst [.con .non, .var 8]) (.blt .int [.cmp .gt (.call 5 [.var 0, .con (.int 3)]) (.con (.int 0))]))], 
    .ret (.tup [.var 1, .var 2, .blt .tuple [.var 3], .blt .tuple [.var 5], .blt .tuple [.bin .add (.var 6) (.lst [.con .non])]])]
def f8 : Fd := ⟨1, 9, b8⟩
theorem sc8 : FnScope ["pool", "many", "last", "ways", "high", "rooms", "waits", "place", "held"] ["pool"] (defScope s8) := ⟨rfl, rfl, rfl, by decide +kernel, rfl, by decide +kernel, by decide +kernel⟩
theorem d8 {Pg : Program} {w : World} {K : PySem.W.Frag} {mg : Str → Option Value} {base : Heap} {f : Addr} {fd : FuncData} {k n : Nat} {c : Call} (Fu : Fun K "_law_calendar" "_law_calendar" s8 f fd) (B_int : mg "int" = none) (B_range : mg "range" = none) (B_tuple : mg "tuple" = none) (C__law_next : CallOk Pg w K mg base k c 5 "_law_next" 2) (C__law_roads : CallOk Pg w K mg base k c 7 "_law_roads" 2) (C__law_wide : CallOk Pg w K mg base k c 6 "_law_wide" 2) :
    FnOk Pg w K mg base CX0 (k + 1) f fd ["pool"] (spC K 1 (fun args => enter c n f8 args)) := by
  refine fn_ok Fu sc8 rfl rfl fun cdv A outer s H E hr => ?_
  have nd := sc8.nd
  have hc : true = true := rfl
  refine sb_cons ?_ ?_
  · exact (by (with_reducible refine ss_asg (i := 1) ?a1 ?a2 ?a3 ?a4 ?a5 ?a6); (case a1 => exact nd); (case a2 => exact rfl); (case a3 => exact (Or.inl rfl)); (case a5 => rfl); (case a6 => exact Or.inl rfl); (case a4 => exact (sx_bin op_addD sx_int (sxc C__law_next hr (sg_cons (sv 0) (sg_cons sx_int sg_nil (starEach_nst rfl)) (starEach_nst rfl))))))
  with_reducible refine sb_cons ?_ ?_
  · exact (by (with_reducible refine ss_asg (i := 2) ?a1 ?a2 ?a3 ?a4 ?a5 ?a6); (case a1 => exact nd); (case a2 => exact rfl); (case a3 => exact (Or.inr rfl)); (case a5 => rfl); (case a6 => exact Or.inl rfl); (case a4 => exact (sxc C__law_next hr (sg_cons (sv 0) (sg_cons sx_int sg_nil (starEach_nst rfl)) (starEach_nst rfl)))))
  with_reducible refine sb_cons ?_ ?_
  · exact (by (with_reducible refine ss_asg (i := 3) ?a1 ?a2 ?a3 ?a4 ?a5 ?a6); (case a1 => exact nd); (case a2 => exact rfl); (case a3 => exact (Or.inl rfl)); (case a5 => rfl); (case a6 => exact Or.inl rfl); (case a4 => exact (sxc C__law_roads hr (sg_cons (sv 0) (sg_cons (sv 1) sg_nil (starEach_nst rfl)) (starEach_nst rfl)))))
  with_reducible refine sb_cons ?_ ?_
  · exact (by (with_reducible refine ss_asg (i := 4) ?a1 ?a2 ?a3 ?a4 ?a5 ?a6); (case a1 => exact nd); (case a2 => exact rfl); (case a3 => exact (Or.inr rfl)); (case a5 => rfl); (case a6 => exact Or.inl rfl); (case a4 => exact (sx_idx (sx_lst (sa_cons sx_int (sa_cons sx_int (sa_cons (sx_bin op_addD (sx_bin op_powD sx_int sx_int) sx_int) sa_nil (starEach_nst rfl)) (starEach_nst rfl)) (starEach_nst rfl))) (sxc C__law_next hr (sg_cons (sv 0) (sg_cons sx_int sg_nil (starEach_nst rfl)) (starEach_nst rfl))))))
  with_reducible refine sb_cons ?_ ?_
  · exact (ss_asgC (i := 5) (N' := ["pool", "many", "last", "ways", "high", "rooms", "waits", "place", "held", "way"]) hc nd rfl (Or.inl rfl) (cOk rfl (by rfl)) (si_seq (sv 3)) (fun _ _ _ _ _ => pg_name (i := 9) (show (["pool", "many", "last", "ways", "high", "rooms", "waits", "place", "held", "way"] : List Str).Nodup by decide +kernel) rfl (Or.inl rfl) (Or.inr rfl)) (tgc_name (Nat.le_refl _)) (fun _ _ _ _ _ => sq_none) (fun _ _ _ _ _ => (sx_tuple rfl (by rfl) B_tuple (sx_comp (N' := ["pool", "many", "last", "ways", "high", "rooms", "waits", "place", "held", "way", "hour"]) hc (cOk rfl (by rfl)) (si_rng1 rfl (by rfl) B_range (sx_bin op_addD (sv 2) sx_int)) (fun _ _ _ _ _ => pg_name (i := 10) (show (["pool", "many", "last", "ways", "high", "rooms", "waits", "place", "held", "way", "hour"] : List Str).Nodup by decide +kernel) rfl (Or.inl rfl) (Or.inr rfl)) (tgc_name (Nat.le_refl _)) (fun _ _ _ _ _ => sq_none) (fun _ _ _ _ _ => (sxc C__law_wide hr (sg_cons (sv 0) (sg_cons (sv 4) sg_nil (starEach_nst rfl)) (starEach_nst rfl))))))) (by rfl) (by intro _; rfl) (Or.inl rfl))
  with_reducible refine sb_cons ?_ ?_
  · exact (by (with_reducible refine ss_asg (i := 6) ?a1 ?a2 ?a3 ?a4 ?a5 ?a6); (case a1 => exact nd); (case a2 => exact rfl); (case a3 => exact (Or.inl rfl)); (case a5 => rfl); (case a6 => exact Or.inl rfl); (case a4 => exact (sx_lst (sa_cons sx_non sa_nil (starEach_nst rfl)))))
  with_reducible refine sb_cons ?_ ?_
  · exact (ss_for1 PassesOwn.never hc nd (i := 7) rfl (Or.inl rfl) (si_rng1 rfl (by rfl) B_range (sx_bin op_subD (sv 1) sx_int)) (sb_cons (by (with_reducible refine ss_asg (i := 8) ?a1 ?a2 ?a3 ?a4 ?a5 ?a6); (case a1 => exact nd); (case a2 => exact rfl); (case a3 => exact (Or.inl rfl)); (case a5 => rfl); (case a6 => exact Or.inl rfl); (case a4 => exact (sx_tuple rfl (by rfl) B_tuple (sx_comp (N' := ["pool", "many", "last", "ways", "high", "rooms", "waits", "place", "held", "hour"]) hc (cOk rfl (by rfl)) (si_rng1 rfl (by rfl) B_range (sv 2)) (fun _ _ _ _ _ => pg_name (i := 9) (show (["pool", "many", "last", "ways", "high", "rooms", "waits", "place", "held", "hour"] : List Str).Nodup by decide +kernel) rfl (Or.inl rfl) (Or.inr rfl)) (tgc_name (Nat.le_refl _)) (fun _ _ _ _ _ => sq_none) (fun _ _ _ _ _ => (sxc C__law_wide hr (sg_cons (sv 0) (sg_cons (sv 4) sg_nil (starEach_nst rfl)) (starEach_nst rfl))))))))
      (sb_cons (sx_app_core (k := 6) rfl (by first | exact Or.inl rfl | exact Or.inr (Or.inl rfl)) (sx_idx (sx_lst (sa_cons sx_non (sa_cons (sv 8) sa_nil (starEach_nst rfl)) (starEach_nst rfl))) (sx_int1 rfl (by rfl) B_int (sx_cmp op_gtD (sxc C__law_next hr (sg_cons (sv 0) (sg_cons sx_int sg_nil (starEach_nst rfl)) (starEach_nst rfl))) sx_int (nomark _)))))
      sb_nil)) (by intro _; rfl) (Or.inl rfl))
  with_reducible refine sb_cons ?_ ?_
  · exact (by (with_reducible refine ss_ret ?a1); (case a1 => exact (sx_tup (sa_cons (sv 1) (sa_cons (sv 2) (sa_cons (sx_tuple rfl (by rfl) B_tuple (sv 3)) (sa_cons (sx_tuple rfl (by rfl) B_tuple (sv 5)) (sa_cons (sx_tuple rfl (by rfl) B_tuple (sx_bin op_addD (sv 6) (sx_lst (sa_cons sx_non sa_nil (starEach_nst rfl))))) sa_nil (starEach_nst rfl)) (starEach_nst rfl)) (starEach_nst rfl)) (starEach_nst rfl)) (starEach_nst rfl)))))
  exact sb_nil
/-- _law_same -/
abbrev s9 : Stmt := top 11
def b9 : List S := [
    .ifs (.cmp .isN (.var 1) (.con .non)) [.ret (.cmp .isN (.var 0) (.con .non))] [], 
    .ifs (.inst [.tuple] (.var 1)) [.ifs (.or (.not (.inst [.tuple] (.var 0))) (.cmp .ne (.blt .len [.var 0]) (.blt .len [.var 1]))) [.ret (.con (.bl false))] [], .ret (.blt .all [.comp (.zip (.var 0) (.var 1)) 2 [2, 3] false none (.call 9 [.var 2, .var 3])])] [], 
    .ret (.and (.inst [.int] (.var 0)) (.and (.not (.inst [.bool] (.var 0))) (.cmp .eq (.var 0) (.var 1))))]
def f9 : Fd := ⟨2, 2, b9⟩
theorem sc9 : FnScope ["found", "due"] ["found", "due"] (defScope s9) := ⟨rfl, rfl, rfl, by decide +kernel, rfl, by decide +kernel, by decide +kernel⟩
theorem d9 {Pg : Program} {w : World} {K : PySem.W.Frag} {mg : Str → Option Value} {base : Heap} {f : Addr} {fd : FuncData} {k n : Nat} {c : Call} (Fu : Fun K "_law_same" "_law_same" s9 f fd) (B_all : mg "all" = none) (B_bool : mg "bool" = none) (B_int : mg "int" = none) (B_isinstance : mg "isinstance" = none) (B_len : mg "len" = none) (B_tuple : mg "tuple" = none) (B_zip : mg "zip" = none) (C__law_same : CallOk Pg w K mg base k c 9 "_law_same" 2) :
    FnOk Pg w K mg base CX0 (k + 1) f fd ["found", "due"] (spC K 2 (fun args => enter c n f9 args)) := by
  refine fn_ok Fu sc9 rfl rfl fun cdv A outer s H E hr => ?_
  have nd := sc9.nd
  have hc : true = true := rfl
  refine sb_cons ?_ ?_
  · exact (ss_if (st_cmp op_isD (sv 1) sx_non (nomark _)) (sb_cons (by (with_reducible refine ss_ret ?a1); (case a1 => exact (sx_cmp op_isD (sv 0) sx_non (nomark _))))
      sb_nil) sb_nil)
  with_reducible refine sb_cons ?_ ?_
  · exact (ss_if (st_val (sx_inst1 .tuple rfl (by rfl) B_isinstance (sv 1) (by rfl) B_tuple (by kernel_rfl) (by decide) (by rfl))) (sb_cons (ss_if ((sw_or (st_not (st_val (sx_inst1 .tuple rfl (by rfl) B_isinstance (sv 0) (by rfl) B_tuple (by kernel_rfl) (by decide) (by rfl)))) (sw_or1 (st_cmp (op_neD (room_u hr)) (sx_len rfl (by rfl) B_len (sv 0)) (sx_len rfl (by rfl) B_len (sv 1)) (nomark _))))).st (sb_cons (by (with_reducible refine ss_ret ?a1); (case a1 => exact sx_bl))
      sb_nil) sb_nil)
      (sb_cons (by (with_reducible refine ss_ret ?a1); (case a1 => exact (sx_all rfl hc (by rfl) B_all (sx_comp (N' := ["found", "due", "one", "other"]) hc (cOk rfl (by rfl)) (si_zip rfl (by rfl) B_zip (sv 0) (sv 1)) (fun _ _ _ _ _ => pg_tup hc (pgs_cons (pg_name (i := 2) (show (["found", "due", "one", "other"] : List Str).Nodup by decide +kernel) rfl (Or.inl rfl) (Or.inr rfl)) (pgs_cons (pg_name (i := 3) (show (["found", "due", "one", "other"] : List Str).Nodup by decide +kernel) rfl (Or.inl rfl) (Or.inr rfl)) pgs_nil))) (tgc_tup rfl (tgc_cons (show 2 ≤ 2 by decide) (tgc_cons (show 2 ≤ 3 by decide) tgc_nil))) (fun _ _ _ _ _ => sq_none) (fun _ _ _ _ _ => (sxc C__law_same hr (sg_cons (sv 2) (sg_cons (sv 3) sg_nil (starEach_nst rfl)) (starEach_nst rfl))))))))
      sb_nil)) sb_nil)
  with_reducible refine sb_cons ?_ ?_
  · exact (by (with_reducible refine ss_ret ?a1); (case a1 => exact (sx_and (sx_inst1 .int rfl (by rfl) B_isinstance (sv 0) (by rfl) B_int (by kernel_rfl) (by decide) (by rfl)) (sx_and (sx_not (sx_inst1 .bool rfl (by rfl) B_isinstance (sv 0) (by rfl) B_bool (by kernel_rfl) (by decide) (by rfl))) (sx_oneV (sx_cmp (op_eqD (room_u hr)) (sv 0) (sv 1) (nomark _)))).ev)))
  exact sb_nil
/-- _law_room -/
abbrev s10 : Stmt := top 12
def b10 : List S := [
    .ifs (.chain .le .lt (.con (.int 0)) (.var 1) (.blt .len [.var 0])) [.ret (.idx (.var 0) (.var 1))] [], 
    .ret (.con (.int 0))]
def f10 : Fd := ⟨2, 2, b10⟩
theorem sc10 : FnScope ["one", "hour"] ["one", "hour"] (defScope s10) := ⟨rfl, rfl, rfl, by decide +kernel, rfl, by decide +kernel, by decide +kernel⟩
theorem d10 {Pg : Program} {w : World} {K : PySem.W.Frag} {mg : Str → Option Value} {base : Heap} {f : Addr} {fd : FuncData} {k n : Nat} {c : Call} (Fu : Fun K "_law_room" "_law_room" s10 f fd) (B_len : mg "len" = none) :
    FnOk Pg w K mg base CX0 (k + 1) f fd ["one", "hour"] (spC K 2 (fun args => enter c n f10 args)) := by
  refine fn_ok Fu sc10 rfl rfl fun cdv A outer s H E hr => ?_
  have nd := sc10.nd
  have hc : true = true := rfl
  refine sb_cons ?_ ?_
  · exact (ss_if (st_chain op_leD op_ltD sx_int (sv 1) (sx_len rfl (by rfl) B_len (sv 0))) (sb_cons (by (with_reducible refine ss_ret ?a1); (case a1 => exact (sx_idx (sv 0) (sv 1))))
      sb_nil) sb_nil)
  with_reducible refine sb_cons ?_ ?_
  · exact (by (with_reducible refine ss_ret ?a1); (case a1 => exact sx_int))
  exact sb_nil
/-- _law_turned -/
abbrev s11 : Stmt := top 13
def b11 : List S := [
    .unp [1, 2, 3, 4, 5] (.var 0), 
    .asg 6 (.lst []), 
    .asg 7 (.lst []), 
    .forr (.rng (.con (.int 0)) (.blt .len [.var 3])) [8] true [.app 6 (.tup [.bin .sub (.bin .sub (.var 1) (.con (.int 1))) (.idx (.idx (.var 3) (.var 8)) (.con (.int 1))), .bin .sub (.bin .sub (.var 1) (.con (.int 1))) (.idx (.idx (.var 3) (.var 8)) (.con (.int 0))), .idx (.idx (.var 3) (.var 8)) (.con (.int 2))]), .app 7 (.blt .tuple [.comp (.rng (.con (.int 0)) (.bin .add (.var 2) (.con (.int 1)))) 1 [12] true none (.call 10 [.idx (.var 4) (.var 8), .bin .sub (.bin .sub (.var 2) (.var 12)) (.idx (.idx (.var 3) (.var 8)) (.con (.int 2)))])])], 
    .asg 9 (.lst []), 
    .forr (.rng (.con (.int 0)) (.var 1)) [10] true [.asg 11 (.idx (.var 5) (.bin .sub (.bin .sub (.var 1) (.con (.int 1))) (.var 10))), .ifs (.cmp .notN (.var 11) (.con .non)) [.asg 11 (.blt .tuple [.comp (.rng (.con (.int 0)) (.var 2)) 1 [12] true none (.idx (.var 11) (.bin .sub (.bin .sub (.var 2) (.con (.int 1))) (.var 12)))])] [], .app 9 (.var 11)], 
    .ret (.tup [.var 1, .var 2, .blt .tuple [.var 6], .blt .tuple [.var 7], .blt .tuple [.var 9]])]
def f11 : Fd := ⟨1, 12, b11⟩
theorem sc11 : FnScope ["calendar", "many", "last", "ways", "rooms", "waits", "other", "turned", "k", "held", "place", "row"] ["calendar"] (defScope s11) := ⟨rfl, rfl, rfl, by decide +kernel, rfl, by decide +kernel, by decide +kernel⟩
theorem d11 {Pg : Program} {w : World} {K : PySem.W.Frag} {mg : Str → Option Value} {base : Heap} {f : Addr} {fd : FuncData} {k n : Nat} {c : Call} (Fu : Fun K "_law_turned" "_law_turned" s11 f fd) (B_len : mg "len" = none) (B_range : mg "range" = none) (B_tuple : mg "tuple" = none) (C__law_room : CallOk Pg w K mg base k c 10 "_law_room" 2) :
    FnOk Pg w K mg base CX0 (k + 1) f fd ["calendar"] (spC K 1 (fun args => enter c n f11 args)) := by
  refine fn_ok Fu sc11 rfl rfl fun cdv A outer s H E hr => ?_
  have nd := sc11.nd
  have hc : true = true := rfl
  refine sb_cons ?_ ?_
  · exact (ss_unp (sv 0) (pg_tup hc (pgs_cons (pg_name (i := 1) nd rfl (Or.inl rfl) (Or.inl rfl)) (pgs_cons (pg_name (i := 2) nd rfl (Or.inr rfl) (Or.inl rfl)) (pgs_cons (pg_name (i := 3) nd rfl (Or.inr rfl) (Or.inl rfl)) (pgs_cons (pg_name (i := 4) nd rfl (Or.inr rfl) (Or.inl rfl)) (pgs_cons (pg_name (i := 5) nd rfl (Or.inl rfl) (Or.inl rfl)) pgs_nil)))))) (tg_tup rfl (tgs_all _ _ (tgs_all _ _ (tgs_all _ _ (tgs_all _ _ (tgs_all _ _ tgs_nil 5) 4) 3) 2) 1)))
  with_reducible refine sb_cons ?_ ?_
  · exact (by (with_reducible refine ss_asg (i := 6) ?a1 ?a2 ?a3 ?a4 ?a5 ?a6); (case a1 => exact nd); (case a2 => exact rfl); (case a3 => exact (Or.inl rfl)); (case a5 => rfl); (case a6 => exact Or.inl rfl); (case a4 => exact (sx_lst sa_nil)))
  with_reducible refine sb_cons ?_ ?_
  · exact (by (with_reducible refine ss_asg (i := 7) ?a1 ?a2 ?a3 ?a4 ?a5 ?a6); (case a1 => exact nd); (case a2 => exact rfl); (case a3 => exact (Or.inl rfl)); (case a5 => rfl); (case a6 => exact Or.inl rfl); (case a4 => exact (sx_lst sa_nil)))
  with_reducible refine sb_cons ?_ ?_
  · exact (ss_for1 PassesOwn.never hc nd (i := 8) rfl (Or.inr rfl) (si_rng1 rfl (by rfl) B_range (sx_len rfl (by rfl) B_len (sv 3))) (sb_cons (sx_app_core (k := 6) rfl (by first | exact Or.inl rfl | exact Or.inr (Or.inl rfl)) (sx_tup (sa_cons (sx_bin op_subD (sx_bin op_subD (sv 1) sx_int) (sx_idx (sx_idx (sv 3) (sv 8)) sx_int)) (sa_cons (sx_bin op_subD (sx_bin op_subD (sv 1) sx_int) (sx_idx (sx_idx (sv 3) (sv 8)) sx_int)) (sa_cons (sx_idx (sx_idx (sv 3) (sv 8)) sx_int) sa_nil (starEach_nst rfl)) (starEach_nst rfl)) (starEach_nst rfl))))
      (sb_cons (sx_app_core (k := 7) rfl (by first | exact Or.inl rfl | exact Or.inr (Or.inl rfl)) (sx_tuple rfl (by rfl) B_tuple (sx_comp (N' := ["calendar", "many", "last", "ways", "rooms", "waits", "other", "turned", "k", "held", "place", "row", "hour"]) hc (cOk rfl (by rfl)) (si_rng1 rfl (by rfl) B_range (sx_bin op_addD (sv 2) sx_int)) (fun _ _ _ _ _ => pg_name (i := 12) (show (["calendar", "many", "last", "ways", "rooms", "waits", "other", "turned", "k", "held", "place", "row", "hour"] : List Str).Nodup by decide +kernel) rfl (Or.inl rfl) (Or.inr rfl)) (tgc_name (Nat.le_refl _)) (fun _ _ _ _ _ => sq_none) (fun _ _ _ _ _ => (sxc C__law_room hr (sg_cons (sx_idx (sv 4) (sv 8)) (sg_cons (sx_bin op_subD (sx_bin op_subD (sv 2) (sv 12)) (sx_idx (sx_idx (sv 3) (sv 8)) sx_int)) sg_nil (starEach_nst rfl)) (starEach_nst rfl)))))))
      sb_nil)) (by intro _; rfl) (Or.inl rfl))
  with_reducible refine sb_cons ?_ ?_
  · exact (by (with_reducible refine ss_asg (i := 9) ?a1 ?a2 ?a3 ?a4 ?a5 ?a6); (case a1 => exact nd); (case a2 => exact rfl); (case a3 => exact (Or.inl rfl)); (case a5 => rfl); (case a6 => exact Or.inl rfl); (case a4 => exact (sx_lst sa_nil)))
  with_reducible refine sb_cons ?_ ?_
  · exact (ss_for1 PassesOwn.never hc nd (i := 10) rfl (Or.inl rfl) (si_rng1 rfl (by rfl) B_range (sv 1)) (sb_cons (by (with_reducible refine ss_asg (i := 11) ?a1 ?a2 ?a3 ?a4 ?a5 ?a6); (case a1 => exact nd); (case a2 => exact rfl); (case a3 => exact (Or.inr rfl)); (case a5 => rfl); (case a6 => exact Or.inl rfl); (case a4 => exact (sx_idx (sv 5) (sx_bin op_subD (sx_bin op_subD (sv 1) sx_int) (sv 10)))))
      (sb_cons (ss_if (st_cmp op_notD (sv 11) sx_non (nomark _)) (sb_cons (by (with_reducible refine ss_asg (i := 11) ?a1 ?a2 ?a3 ?a4 ?a5 ?a6); (case a1 => exact nd); (case a2 => exact rfl); (case a3 => exact (Or.inr rfl)); (case a5 => rfl); (case a6 => exact Or.inl rfl); (case a4 => exact (sx_tuple rfl (by rfl) B_tuple (sx_comp (N' := ["calendar", "many", "last", "ways", "rooms", "waits", "other", "turned", "k", "held", "place", "row", "hour"]) hc (cOk rfl (by rfl)) (si_rng1 rfl (by rfl) B_range (sv 2)) (fun _ _ _ _ _ => pg_name (i := 12) (show (["calendar", "many", "last", "ways", "rooms", "waits", "other", "turned", "k", "held", "place", "row", "hour"] : List Str).Nodup by decide +kernel) rfl (Or.inl rfl) (Or.inr rfl)) (tgc_name (Nat.le_refl _)) (fun _ _ _ _ _ => sq_none) (fun _ _ _ _ _ => (sx_idx (sv 11) (sx_bin op_subD (sx_bin op_subD (sv 2) sx_int) (sv 12))))))))
      sb_nil) sb_nil)
      (sb_cons (sx_app_core (k := 9) rfl (by first | exact Or.inl rfl | exact Or.inr (Or.inl rfl)) (sv 11))
      sb_nil))) (by intro _; rfl) (Or.inl rfl))
  with_reducible refine sb_cons ?_ ?_
  · exact (by (with_reducible refine ss_ret ?a1); (case a1 => exact (sx_tup (sa_cons (sv 1) (sa_cons (sv 2) (sa_cons (sx_tuple rfl (by rfl) B_tuple (sv 6)) (sa_cons (sx_tuple rfl (by rfl) B_tuple (sv 7)) (sa_cons (sx_tuple rfl (by rfl) B_tuple (sv 9)) sa_nil (starEach_nst rfl)) (starEach_nst rfl)) (starEach_nst rfl)) (starEach_nst rfl)) (starEach_nst rfl)))))
  exact sb_nil
/-- _law_useful -/
abbrev s12 : Stmt := top 14
def b12 : List S := [
    .unp [1, 2, 3, 4, 5] (.var 0), 
    .asg 6 (.lst []), 
    .forr (.rng (.con (.int 0)) (.blt .len [.var 3])) [7] true [.asg 8 (.idx (.idx (.var 3) (.var 7)) (.con (.int 2))), .app 6 (.blt .tuple [.comp (.rng (.con (.int 0)) (.bin .add (.var 2) (.con (.int 1)))) 1 [9] true none (.bin .mul (.idx (.idx (.var 4) (.var 7)) (.var 9)) (.blt .int [.cmp .le (.bin .add (.var 9) (.var 8)) (.var 2)]))])], 
    .ret (.tup [.var 1, .var 2, .var 3, .blt .tuple [.var 6], .var 5])]
def f12 : Fd := ⟨1, 9, b12⟩
theorem sc12 : FnScope ["calendar", "many", "last", "ways", "rooms", "waits", "found", "k", "hours"] ["calendar"] (defScope s12) := ⟨rfl, rfl, rfl, by decide +kernel, rfl, by decide +kernel, by decide +kernel⟩
theorem d12 {Pg : Program} {w : World} {K : PySem.W.Frag} {mg : Str → Option Value} {base : Heap} {f : Addr} {fd : FuncData} {k n : Nat} {c : Call} (Fu : Fun K "_law_useful" "_law_useful" s12 f fd) (B_int : mg "int" = none) (B_len : mg "len" = none) (B_range : mg "range" = none) (B_tuple : mg "tuple" = none) :
    FnOk Pg w K mg base CX0 (k + 1) f fd ["calendar"] (spC K 1 (fun args => enter c n f12 args)) := by
  refine fn_ok Fu sc12 rfl rfl fun cdv A outer s H E hr => ?_
  have nd := sc12.nd
  have hc : true = true := rfl
  refine sb_cons ?_ ?_
  · exact (ss_unp (sv 0) (pg_tup hc (pgs_cons (pg_name (i := 1) nd rfl (Or.inl rfl) (Or.inl rfl)) (pgs_cons (pg_name (i := 2) nd rfl (Or.inr rfl) (Or.inl rfl)) (pgs_cons (pg_name (i := 3) nd rfl (Or.inl rfl) (Or.inl rfl)) (pgs_cons (pg_name (i := 4) nd rfl (Or.inr rfl) (Or.inl rfl)) (pgs_cons (pg_name (i := 5) nd rfl (Or.inl rfl) (Or.inl rfl)) pgs_nil)))))) (tg_tup rfl (tgs_all _ _ (tgs_all _ _ (tgs_all _ _ (tgs_all _ _ (tgs_all _ _ tgs_nil 5) 4) 3) 2) 1)))
  with_reducible refine sb_cons ?_ ?_
  · exact (by (with_reducible refine ss_asg (i := 6) ?a1 ?a2 ?a3 ?a4 ?a5 ?a6); (case a1 => exact nd); (case a2 => exact rfl); (case a3 => exact (Or.inl rfl)); (case a5 => rfl); (case a6 => exact Or.inl rfl); (case a4 => exact (sx_lst sa_nil)))
  with_reducible refine sb_cons ?_ ?_
  · exact (ss_for1 PassesOwn.never hc nd (i := 7) rfl (Or.inr rfl) (si_rng1 rfl (by rfl) B_range (sx_len rfl (by rfl) B_len (sv 3))) (sb_cons (by (with_reducible refine ss_asg (i := 8) ?a1 ?a2 ?a3 ?a4 ?a5 ?a6); (case a1 => exact nd); (case a2 => exact rfl); (case a3 => exact (Or.inr rfl)); (case a5 => rfl); (case a6 => exact Or.inl rfl); (case a4 => exact (sx_idx (sx_idx (sv 3) (sv 7)) sx_int)))
      (sb_cons (sx_app_core (k := 6) rfl (by first | exact Or.inl rfl | exact Or.inr (Or.inl rfl)) (sx_tuple rfl (by rfl) B_tuple (sx_comp (N' := ["calendar", "many", "last", "ways", "rooms", "waits", "found", "k", "hours", "hour"]) hc (cOk rfl (by rfl)) (si_rng1 rfl (by rfl) B_range (sx_bin op_addD (sv 2) sx_int)) (fun _ _ _ _ _ => pg_name (i := 9) (show (["calendar", "many", "last", "ways", "rooms", "waits", "found", "k", "hours", "hour"] : List Str).Nodup by decide +kernel) rfl (Or.inl rfl) (Or.inr rfl)) (tgc_name (Nat.le_refl _)) (fun _ _ _ _ _ => sq_none) (fun _ _ _ _ _ => (sx_bin op_mulD (sx_idx (sx_idx (sv 4) (sv 7)) (sv 9)) (sx_int1 rfl (by rfl) B_int (sx_cmp op_leD (sx_bin op_addD (sv 9) (sv 8)) (sv 2) (nomark _))))))))
      sb_nil)) (by intro _; rfl) (Or.inl rfl))
  with_reducible refine sb_cons ?_ ?_
  · exact (by (with_reducible refine ss_ret ?a1); (case a1 => exact (sx_tup (sa_cons (sv 1) (sa_cons (sv 2) (sa_cons (sv 3) (sa_cons (sx_tuple rfl (by rfl) B_tuple (sv 6)) (sa_cons (sv 5) sa_nil (starEach_nst rfl)) (starEach_nst rfl)) (starEach_nst rfl)) (starEach_nst rfl)) (starEach_nst rfl)))))
  exact sb_nil
/-- _law_ahead -/
abbrev s13 : Stmt := top 15
def b13 : List S := [
    .ifs (.cmp .isN (.var 0) (.con .non)) [.ret (.con .non)] [], 
    .ret (.blt .tuple [.comp (.rng (.con (.int 0)) (.var 1)) 1 [2] true none (.idx (.var 0) (.var 2))])]
def f13 : Fd := ⟨2, 2, b13⟩
theorem sc13 : FnScope ["one", "many"] ["one", "many"] (defScope s13) := ⟨rfl, rfl, rfl, by decide +kernel, rfl, by decide +kernel, by decide +kernel⟩
theorem d13 {Pg : Program} {w : World} {K : PySem.W.Frag} {mg : Str → Option Value} {base : Heap} {f : Addr} {fd : FuncData} {k n : Nat} {c : Call} (Fu : Fun K "_law_ahead" "_law_ahead" s13 f fd) (B_range : mg "range" = none) (B_tuple : mg "tuple" = none) :
    FnOk Pg w K mg base CX0 (k + 1) f fd ["one", "many"] (spC K 2 (fun args => enter c n f13 args)) := by
  refine fn_ok Fu sc13 rfl rfl fun cdv A outer s H E hr => ?_
  have nd := sc13.nd
  have hc : true = true := rfl
  refine sb_cons ?_ ?_
  · exact (ss_if (st_cmp op_isD (sv 0) sx_non (nomark _)) (sb_cons (by (with_reducible refine ss_ret ?a1); (case a1 => exact sx_non))
      sb_nil) sb_nil)
  with_reducible refine sb_cons ?_ ?_
  · exact (by (with_reducible refine ss_ret ?a1); (case a1 => exact (sx_tuple rfl (by rfl) B_tuple (sx_comp (N' := ["one", "many", "k"]) hc (cOk rfl (by rfl)) (si_rng1 rfl (by rfl) B_range (sv 1)) (fun _ _ _ _ _ => pg_name (i := 2) (show (["one", "many", "k"] : List Str).Nodup by decide +kernel) rfl (Or.inl rfl) (Or.inr rfl)) (tgc_name (Nat.le_refl _)) (fun _ _ _ _ _ => sq_none) (fun _ _ _ _ _ => (sx_idx (sv 0) (sv 2)))))))
  exact sb_nil
/-- _law_one -/
abbrev s14 : Stmt := top 16
def b14 : List S := [
    .asg 1 (.call 8 [.var 0]), 
    .unp [2, 3, 4, 5, 6] (.var 1), 
    .forr (.lst [.con (.int 0), .var 3, .call 5 [.var 0, .bin .add (.var 3) (.con (.int 1))]]) [7] true [.asg 8 (.blt .tuple [.comp (.var 5) 1 [14] true none (.call 13 [.var 14, .bin .add (.var 7) (.con (.int 1))])]), .asg 9 (.blt .tuple [.comp (.var 6) 1 [14] true none (.call 13 [.var 14, .var 7])]), .asg 10 (.lst []), .forr (.zip (.var 4) (.var 5)) [11, 12] false [.app 10 (.blt .tuple [.comp (.rng (.con (.int 0)) (.bin .add (.var 3) (.con (.int 1)))) 1 [14] true none (.bin .mul (.idx (.var 12) (.var 14)) (.blt .int [.or (.cmp .gt (.idx (.var 11) (.con (.int 0))) (.con (.int 0))) (.cmp .ge (.var 14) (.var 7))]))])], .ifs (.not (.call 9 [.call 0 [.var 1, .var 7], .tup [.var 2, .var 7, .var 4, .var 8, .var 9]])) [.ret (.con (.bl false))] [], .ifs (.not (.call 9 [.call 1 [.var 1, .var 7], .tup [.var 2, .var 3, .var 4, .blt .tuple [.var 10], .var 6]])) [.ret (.con (.bl false))] []], 
    .asg 13 (.call 3 [.var 1]), 
    .ret (.and (.call 9 [.var 13, .call 11 [.var 1]]) (.call 9 [.call 3 [.var 13], .call 12 [.var 1]]))]
def f14 : Fd := ⟨1, 14, b14⟩
theorem sc14 : FnScope ["pool", "calendar", "many", "last", "ways", "rooms", "waits", "hour", "some", "held", "late", "way", "one", "found"] ["pool"] (defScope s14) := ⟨rfl, rfl, rfl, by decide +kernel, rfl, by decide +kernel, by decide +kernel⟩
theorem d14 {Pg : Program} {w : World} {K : PySem.W.Frag} {mg : Str → Option Value} {base : Heap} {f : Addr} {fd : FuncData} {k n : Nat} {c : Call} (Fu : Fun K "_law_one" "_law_one" s14 f fd) (B_int : mg "int" = none) (B_range : mg "range" = none) (B_tuple : mg "tuple" = none) (B_zip : mg "zip" = none) (C__law_ahead : CallOk Pg w K mg base k c 13 "_law_ahead" 2) (C__law_calendar : CallOk Pg w K mg base k c 8 "_law_calendar" 1) (C__law_next : CallOk Pg w K mg base k c 5 "_law_next" 2) (C__law_same : CallOk Pg w K mg base k c 9 "_law_same" 2) (C__law_turned : CallOk Pg w K mg base k c 11 "_law_turned" 1) (C__law_useful : CallOk Pg w K mg base k c 12 "_law_useful" 1) (C_late_calendar : CallOk Pg w K mg base k c 1 "late_calendar" 2) (C_till_calendar : CallOk Pg w K mg base k c 0 "till_calendar" 2) (C_turned_calendar : CallOk Pg w K mg base k c 3 "turned_calendar" 1) :
    FnOk Pg w K mg base CX0 (k + 1) f fd ["pool"] (spC K 1 (fun args => enter c n f14 args)) := by
  refine fn_ok Fu sc14 rfl rfl fun cdv A outer s H E hr => ?_
  have nd := sc14.nd
  have hc : true = true := rfl
  refine sb_cons ?_ ?_
  · exact (by (with_reducible refine ss_asg (i := 1) ?a1 ?a2 ?a3 ?a4 ?a5 ?a6); (case a1 => exact nd); (case a2 => exact rfl); (case a3 => exact (Or.inl rfl)); (case a5 => rfl); (case a6 => exact Or.inl rfl); (case a4 => exact (sxc C__law_calendar hr (sg_cons (sv 0) sg_nil (starEach_nst rfl)))))
  with_reducible refine sb_cons ?_ ?_
  · exact (ss_unp (sv 1) (pg_tup hc (pgs_cons (pg_name (i := 2) nd rfl (Or.inl rfl) (Or.inl rfl)) (pgs_cons (pg_name (i := 3) nd rfl (Or.inl rfl) (Or.inl rfl)) (pgs_cons (pg_name (i := 4) nd rfl (Or.inl rfl) (Or.inl rfl)) (pgs_cons (pg_name (i := 5) nd rfl (Or.inl rfl) (Or.inl rfl)) (pgs_cons (pg_name (i := 6) nd rfl (Or.inl rfl) (Or.inl rfl)) pgs_nil)))))) (tg_tup rfl (tgs_all _ _ (tgs_all _ _ (tgs_all _ _ (tgs_all _ _ (tgs_all _ _ tgs_nil 6) 5) 4) 3) 2)))
  with_reducible refine sb_cons ?_ ?_
  · exact (ss_for1 PassesOwn.never hc nd (i := 7) rfl (Or.inr rfl) (si_seq (sx_lst (sa_cons sx_int (sa_cons (sv 3) (sa_cons (sxc C__law_next hr (sg_cons (sv 0) (sg_cons (sx_bin op_addD (sv 3) sx_int) sg_nil (starEach_nst rfl)) (starEach_nst rfl))) sa_nil (starEach_nst rfl)) (starEach_nst rfl)) (starEach_nst rfl)))) (sb_cons (by (with_reducible refine ss_asg (i := 8) ?a1 ?a2 ?a3 ?a4 ?a5 ?a6); (case a1 => exact nd); (case a2 => exact rfl); (case a3 => exact (Or.inl rfl)); (case a5 => rfl); (case a6 => exact Or.inl rfl); (case a4 => exact (sx_tuple rfl (by rfl) B_tuple (sx_comp (N' := ["pool", "calendar", "many", "last", "ways", "rooms", "waits", "hour", "some", "held", "late", "way", "one#12", "found", "one"]) hc (cOk rfl (by rfl)) (si_seq (sv 5)) (fun _ _ _ _ _ => pg_name (i := 14) (show (["pool", "calendar", "many", "last", "ways", "rooms", "waits", "hour", "some", "held", "late", "way", "one#12", "found", "one"] : List Str).Nodup by decide +kernel) rfl (Or.inl rfl) (Or.inr rfl)) (tgc_name (Nat.le_refl _)) (fun _ _ _ _ _ => sq_none) (fun _ _ _ _ _ => (sxc C__law_ahead hr (sg_cons (sv 14) (sg_cons (sx_bin op_addD (sv 7) sx_int) sg_nil (starEach_nst rfl)) (starEach_nst rfl))))))))
      (sb_cons (by (with_reducible refine ss_asg (i := 9) ?a1 ?a2 ?a3 ?a4 ?a5 ?a6); (case a1 => exact nd); (case a2 => exact rfl); (case a3 => exact (Or.inl rfl)); (case a5 => rfl); (case a6 => exact Or.inl rfl); (case a4 => exact (sx_tuple rfl (by rfl) B_tuple (sx_comp (N' := ["pool", "calendar", "many", "last", "ways", "rooms", "waits", "hour", "some", "held", "late", "way", "one#12", "found", "one"]) hc (cOk rfl (by rfl)) (si_seq (sv 6)) (fun _ _ _ _ _ => pg_name (i := 14) (show (["pool", "calendar", "many", "last", "ways", "rooms", "waits", "hour", "some", "held", "late", "way", "one#12", "found", "one"] : List Str).Nodup by decide +kernel) rfl (Or.inl rfl) (Or.inr rfl)) (tgc_name (Nat.le_refl _)) (fun _ _ _ _ _ => sq_none) (fun _ _ _ _ _ => (sxc C__law_ahead hr (sg_cons (sv 14) (sg_cons (sv 7) sg_nil (starEach_nst rfl)) (starEach_nst rfl))))))))
      (sb_cons (by (with_reducible refine ss_asg (i := 10) ?a1 ?a2 ?a3 ?a4 ?a5 ?a6); (case a1 => exact nd); (case a2 => exact rfl); (case a3 => exact (Or.inl rfl)); (case a5 => rfl); (case a6 => exact Or.inl rfl); (case a4 => exact (sx_lst sa_nil)))
      (sb_cons (ss_for PassesOwn.never hc (si_zip rfl (by rfl) B_zip (sv 4) (sv 5)) (pg_tup hc (pgs_cons (pg_name (i := 11) nd rfl (Or.inr rfl) (Or.inl rfl)) (pgs_cons (pg_name (i := 12) nd rfl (Or.inr rfl) (Or.inl rfl)) pgs_nil))) (tg_tup rfl (tgs_all _ _ (tgs_all _ _ tgs_nil 12) 11)) (sb_cons (sx_app_core (k := 10) rfl (by first | exact Or.inl rfl | exact Or.inr (Or.inl rfl)) (sx_tuple rfl (by rfl) B_tuple (sx_comp (N' := ["pool", "calendar", "many", "last", "ways", "rooms", "waits", "hour", "some", "held", "late", "way", "one", "found", "k"]) hc (cOk rfl (by rfl)) (si_rng1 rfl (by rfl) B_range (sx_bin op_addD (sv 3) sx_int)) (fun _ _ _ _ _ => pg_name (i := 14) (show (["pool", "calendar", "many", "last", "ways", "rooms", "waits", "hour", "some", "held", "late", "way", "one", "found", "k"] : List Str).Nodup by decide +kernel) rfl (Or.inl rfl) (Or.inr rfl)) (tgc_name (Nat.le_refl _)) (fun _ _ _ _ _ => sq_none) (fun _ _ _ _ _ => (sx_bin op_mulD (sx_idx (sv 12) (sv 14)) (sx_int1 rfl (by rfl) B_int (sx_or (sx_cmp op_gtD (sx_idx (sv 11) sx_int) sx_int (nomark _)) (sx_oneV (sx_cmp op_geD (sv 14) (sv 7) (nomark _))))))))))
      sb_nil))
      (sb_cons (ss_if (st_not (st_val (sxc C__law_same hr (sg_cons (sxc C_till_calendar hr (sg_cons (sv 1) (sg_cons (sv 7) sg_nil (starEach_nst rfl)) (starEach_nst rfl))) (sg_cons (sx_tup (sa_cons (sv 2) (sa_cons (sv 7) (sa_cons (sv 4) (sa_cons (sv 8) (sa_cons (sv 9) sa_nil (starEach_nst rfl)) (starEach_nst rfl)) (starEach_nst rfl)) (starEach_nst rfl)) (starEach_nst rfl))) sg_nil (starEach_nst rfl)) (starEach_nst rfl))))) (sb_cons (by (with_reducible refine ss_ret ?a1); (case a1 => exact sx_bl))
      sb_nil) sb_nil)
      (sb_cons (ss_if (st_not (st_val (sxc C__law_same hr (sg_cons (sxc C_late_calendar hr (sg_cons (sv 1) (sg_cons (sv 7) sg_nil (starEach_nst rfl)) (starEach_nst rfl))) (sg_cons (sx_tup (sa_cons (sv 2) (sa_cons (sv 3) (sa_cons (sv 4) (sa_cons (sx_tuple rfl (by rfl) B_tuple (sv 10)) (sa_cons (sv 6) sa_nil (starEach_nst rfl)) (starEach_nst rfl)) (starEach_nst rfl)) (starEach_nst rfl)) (starEach_nst rfl))) sg_nil (starEach_nst rfl)) (starEach_nst rfl))))) (sb_cons (by (with_reducible refine ss_ret ?a1); (case a1 => exact sx_bl))
      sb_nil) sb_nil)
      sb_nil)))))) (by intro _; rfl) (Or.inl rfl))
  with_reducible refine sb_cons ?_ ?_
  · exact (by (with_reducible refine ss_asg (i := 13) ?a1 ?a2 ?a3 ?a4 ?a5 ?a6); (case a1 => exact nd); (case a2 => exact rfl); (case a3 => exact (Or.inl rfl)); (case a5 => rfl); (case a6 => exact Or.inl rfl); (case a4 => exact (sxc C_turned_calendar hr (sg_cons (sv 1) sg_nil (starEach_nst rfl)))))
  with_reducible refine sb_cons ?_ ?_
  · exact (by (with_reducible refine ss_ret ?a1); (case a1 => exact (sx_and (sxc C__law_same hr (sg_cons (sv 13) (sg_cons (sxc C__law_turned hr (sg_cons (sv 1) sg_nil (starEach_nst rfl))) sg_nil (starEach_nst rfl)) (starEach_nst rfl))) (sx_oneV (sxc C__law_same hr (sg_cons (sxc C_turned_calendar hr (sg_cons (sv 13) sg_nil (starEach_nst rfl))) (sg_cons (sxc C__law_useful hr (sg_cons (sv 1) sg_nil (starEach_nst rfl))) sg_nil (starEach_nst rfl)) (starEach_nst rfl)))))))
  exact sb_nil
/-- law -/
abbrev s15 : Stmt := top 17
def b15 : List S := [
    .forr (.bin .add (.lst [.con (.int 0)]) (.slice (.var 0) (.con .non) (.con (.int 63)))) [1] true [.ifs (.not (.call 14 [.call 4 [.var 1]])) [.ret (.con (.bl false))] []], 
    .ret (.con (.bl true))]
def f15 : Fd := ⟨1, 2, b15⟩
theorem sc15 : FnScope ["script", "cell"] ["script"] (defScope s15) := ⟨rfl, rfl, rfl, by decide +kernel, rfl, by decide +kernel, by decide +kernel⟩
theorem d15 {Pg : Program} {w : World} {K : PySem.W.Frag} {mg : Str → Option Value} {base : Heap} {f : Addr} {fd : FuncData} {k n : Nat} {c : Call} (Fu : Fun K "law" "law" s15 f fd) (C__law_one : CallOk Pg w K mg base k c 14 "_law_one" 1) (C__law_pool : CallOk Pg w K mg base k c 4 "_law_pool" 1) :
    FnOk Pg w K mg base CX0 (k + 1) f fd ["script"] (spC K 1 (fun args => enter c n f15 args)) := by
  refine fn_ok Fu sc15 rfl rfl fun cdv A outer s H E hr => ?_
  have nd := sc15.nd
  have hc : true = true := rfl
  refine sb_cons ?_ ?_
  · exact (ss_for1 PassesOwn.never hc nd (i := 1) rfl (Or.inl rfl) (si_seq (sx_bin op_addD (sx_lst (sa_cons sx_int sa_nil (starEach_nst rfl))) (sx_slice (sv 0) so_none (so_some sx_int)))) (sb_cons (ss_if (st_not (st_val (sxc C__law_one hr (sg_cons (sxc C__law_pool hr (sg_cons (sv 1) sg_nil (starEach_nst rfl))) sg_nil (starEach_nst rfl))))) (sb_cons (by (with_reducible refine ss_ret ?a1); (case a1 => exact sx_bl))
      sb_nil) sb_nil)
      sb_nil) (by intro _; rfl) (Or.inl rfl))
  with_reducible refine sb_cons ?_ ?_
  · exact (by (with_reducible refine ss_ret ?a1); (case a1 => exact sx_bl))
  exact sb_nil
end T
end

section
namespace T
open PySem L2 PySem.Spec PyProof.Rows HH
def Γ : Tab := fun i => [f0, f1, f2, f3, f4, f5, f6, f7, f8, f9, f10, f11, f12, f13, f14, f15][i]?
end T
end

section
set_option Elab.async false
set_option linter.all false
set_option maxRecDepth 100000
namespace T
open HH
abbrev big : Int := 1606938044258990275541962092341162602522202993782792835301376
theorem next_sat {w n : Nat} {x y z m : Int} {Q : R → List Sl → Prop} (h0 : 0 < m) (h2 : m < big) (k : ∀ d x z : Int, 0 ≤ d → d < m → Q (.val (.int d)) [.own true [.int x, .int y, .int z], .val false (.int m)]) :
    (run Γ w (n + 1) 5 [.own true [.int x, .int y, .int z], .val false (.int m)]).sat Q := by
  have h3 : m < 1606938044258990275541962092341162602522202993782792835301376 := h2
  refine sat_run (d := f5) rfl rfl (by decide) ?_
  refine sat_cons ?_
  simp [f5]
  constructor
  · intro _
    refine sat_cons ?_
    simp [h0]
    refine sat_cons ?_
    simp [h0, h3, ixN]
    refine sat_cons ?_
    simp
    exact k _ _ _ (Int.emod_nonneg _ (by omega)) (Int.emod_lt_of_pos _ h0)
  · intro _
    refine sat_cons ?_
    simp [ixN]
    refine sat_cons ?_
    simp
    generalize hq : (y + 7919 * (z + 1)) % 1000000007 = q
    have q0 : 0 ≤ q ∧ q < 1000000007 := by omega
    have q1 : -18446744073709551616 < q + 11 ∧ q + 11 < 18446744073709551616 := by omega
    refine sat_cons ?_
    simp [q1]
    generalize hs : (q + 11) * (q + 48271) % 998244353 = st
    have q2 : -18446744073709551616 < st ∧ st < 18446744073709551616 := by omega
    refine sat_cons ?_
    simp [q2, h0]
    exact k _ _ _ (Int.emod_nonneg _ (by omega)) (Int.emod_lt_of_pos _ h0)
theorem pool_sat {w n : Nat} {x : Int} {Q : R → List Sl → Prop} (k : ∀ a b c : Int, Q (.own [.int a, .int b, .int c]) [.val false (.int x)]) : (run Γ w (n + 1) 4 [.val false (.int x)]).sat Q := by
  refine sat_run (d := f4) rfl rfl (by decide) ?_
  refine sat_cons ?_
  simp [f4]
  exact k _ _ _

end T
end

section
set_option Elab.async false
set_option linter.all false
set_option maxRecDepth 100000
namespace T
open HH
theorem pickN {ns : List Int} {i lo hi : Int} (h0 : 0 ≤ i) (h1 : i < (ns.length : Int)) (k : ∀ x ∈ ns, lo ≤ x ∧ x ≤ hi) : ∃ r, at' (ns.map D.int) i = some (.int r) ∧ lo ≤ r ∧ r ≤ hi := by
  have hk : i.toNat < ns.length := by omega
  refine ⟨ns[i.toNat], ?_, k _ (List.getElem_mem hk)⟩
  rw [at_nat h0 (by simpa using h1)]
  simp [hk]
theorem lt_big {a : Int} (h : a ≤ 1000000000000000000000) : a < big := by show _ < (1606938044258990275541962092341162602522202993782792835301376 : Int); omega
theorem other {a b m : Int} (h1 : 0 ≤ a) (h2 : a < m) (h3 : 0 ≤ b) (h4 : b < m - 1) : 0 ≤ (a + 1 + b) % m ∧ (a + 1 + b) % m < m ∧ (a + 1 + b) % m ≠ a := by
  by_cases h : a + 1 + b < m
  · rw [Int.emod_eq_of_lt (by omega) h]; omega
  · have e : (a + 1 + b) % m = a + 1 + b - m := by
      rw [← Int.sub_emod_right, Int.emod_eq_of_lt (by omega) (by omega)]
    rw [e]; omega
theorem wide_sat {w n : Nat} {x y z m : Int} {Q : R → List Sl → Prop} (h0 : 0 < m) (k : ∀ d x z : Int, 0 ≤ d → d < m → Q (.val (.int d)) [.own true [.int x, .int y, .int z], .val false (.int m)]) :
    (run Γ w (n + 2) 6 [.own true [.int x, .int y, .int z], .val false (.int m)]).sat Q := by
  refine sat_run (d := f6) rfl rfl (by decide) ?_
  refine sat_cons ?_
  simp [f6]
  refine next_sat (by decide) (by decide) fun d x z d0 d1 => ?_
  simp
  refine next_sat (by decide) (by decide) fun e x z e0 e1 => ?_
  simp [h0]
  exact k _ _ _ (Int.emod_nonneg _ (by omega)) (Int.emod_lt_of_pos _ h0)
/-- a road with its hours -/
structure Rd3 where
  (s t h : Int)
def Rd3.d (r : Rd3) : D := .tup [.int r.s, .int r.t, .int r.h]
structure Rd3.Ok (m : Int) (r : Rd3) : Prop where
  s0 : 0 ≤ r.s
  s1 : r.s < m
  t0 : 0 ≤ r.t
  t1 : r.t < m
  ne : r.s ≠ r.t
  h0 : 1 ≤ r.h
  h1 : r.h ≤ 1000000
def prD (p : Int × Int) : D := .tup [.int p.1, .int p.2]
def PrOk (m : Int) (p : Int × Int) : Prop := 0 ≤ p.1 ∧ p.1 < m ∧ 0 ≤ p.2 ∧ p.2 < m ∧ p.1 ≠ p.2
def JRo (y m : Int) (b : Nat) (s4 s5 s6 s7 : Sl) (i : Nat) (ρ : List Sl) : Prop := ∃ (x z : Int) (ps : List (Int × Int)) (s3 : Sl), ρ = [.own true [.int x, .int y, .int z], .val false (.int m), .own false (ps.map prD), s3, s4, s5, s6, s7] ∧ fr s3 = true ∧ (∀ p ∈ ps, PrOk m p) ∧ ps.length ≤ b + i
def JRp (y m : Int) (b : Nat) (s3 s6 s7 : Sl) (i : Nat) (ρ : List Sl) : Prop := ∃ (x z : Int) (ps : List (Int × Int)) (s4 s5 : Sl), ρ = [.own true [.int x, .int y, .int z], .val false (.int m), .own false (ps.map prD), s3, s4, s5, s6, s7] ∧ (fr s4 = true ∧ fr s5 = true) ∧ (∀ p ∈ ps, PrOk m p) ∧ ps.length ≤ b + i
def JRq (y m : Int) (ds : List D) (s3 s4 : Sl) (r : List D) (ρ : List Sl) : Prop := ∃ (x z : Int) (us : List (Int × Int)) (vs : List Rd3) (s5 s7 : Sl), ρ = [.own true [.int x, .int y, .int z], .val false (.int m), .lent ds, s3, s4, s5, .own false (vs.map Rd3.d), s7] ∧ (fr s5 = true ∧ fr s7 = true) ∧ r = us.map prD ∧ (∀ p ∈ us, PrOk m p) ∧ (∀ v ∈ vs, v.Ok m) ∧ us.length + vs.length ≤ 12
theorem roads_sat {w n : Nat} {x y z m : Int} {Q : R → List Sl → Prop} (m0 : 2 ≤ m) (m1 : m ≤ 6) (k : ∀ (vs : List Rd3) (x z : Int), (∀ v ∈ vs, v.Ok m) → vs.length ≤ 12 → Q (.own (vs.map Rd3.d)) [.own true [.int x, .int y, .int z], .val false (.int m)]) :
    (run Γ w (n + 3) 7 [.own true [.int x, .int y, .int z], .val false (.int m)]).sat Q := by
  refine sat_run (d := f7) rfl rfl (by decide) ?_
  refine sat_cons ?_
  simp [f7]
  refine sat_cons ?_
  simp [show m - 1 ≤ 1000000000 by omega, show -1000000000 ≤ m - 1 by omega]
  refine sat_forR (JRo y m 0 _ _ _ _) ?_ ?_ ⟨x, z, [], .unb, rfl, rfl, by simp, by simp⟩
  · rintro i _ hi ⟨x, z, ps, s3, rfl, h3, hp, hl⟩
    simp [h3]
    refine sat_cons ?_
    simp
    refine next_sat (by decide) (by decide) fun d x z d0 d1 => ?_
    simp
    refine ⟨fun _ => ?_, fun _ => ?_⟩
    · refine sat_cons ?_
      simp [show ps.length < lim by show _ < 16777216; omega]
      refine ⟨x, z, ps ++ [((i : Int), (i : Int) + 1)], _, by simp [prD]; rfl, rfl, fun p hp' => ?_, by simp; omega⟩
      rcases List.mem_append.mp hp' with hp' | hp'
      · exact hp p hp'
      · rw [List.mem_singleton.mp hp']; refine ⟨?_, ?_, ?_, ?_, ?_⟩ <;> simp <;> omega
    · exact ⟨x, z, ps, _, rfl, rfl, hp, by omega⟩
  rintro _ ⟨x, z, ps, s3, rfl, h3, hp, hl⟩
  refine sat_cons ?_
  simp
  have hl5 : ps.length ≤ 5 := by omega
  refine next_sat (by omega) (lt_big (by omega)) fun c x z c0 c1 => ?_
  simp
  refine ⟨by omega, ?_⟩
  refine sat_forR (JRp y m ps.length _ _ _) ?_ ?_ ⟨x, z, ps, .unb, .unb, rfl, ⟨rfl, rfl⟩, hp, by simp⟩
  · rintro i _ hi ⟨x, z, qs, s4, s5, rfl, ⟨h4, h5⟩, hq, hql⟩
    simp [h4]
    refine sat_cons ?_
    simp
    refine next_sat (by omega) (lt_big (by omega)) fun a x z a0 a1 => ?_
    simp [h5]
    refine sat_cons ?_
    simp
    refine next_sat (by omega) (lt_big (by omega)) fun b x z b0 b1 => ?_
    obtain ⟨t0, t1, tn⟩ := other a0 a1 b0 b1
    simp [show 0 < m by omega, show qs.length < lim by show _ < 16777216; omega]
    refine ⟨x, z, qs ++ [(a, (a + 1 + b) % m)], .val false (.int i), .val false (.int a), by simp [prD], ⟨rfl, rfl⟩, fun p hp' => ?_, by simp; omega⟩
    rcases List.mem_append.mp hp' with hp' | hp'
    · exact hq p hp'
    · rw [List.mem_singleton.mp hp']; exact ⟨a0, a1, t0, t1, fun z => tn z.symm⟩
  rintro _ ⟨x, z, qs, s4, s5, rfl, ⟨h4, h5⟩, hq, hql⟩
  have hq12 : qs.length ≤ 12 := by omega
  refine sat_cons ?_
  simp
  refine sat_cons ?_
  simp
  refine sat_forT (JRq y m _ _ _) ?_ ?_ ⟨x, z, qs, [], s5, .unb, rfl, ⟨h5, rfl⟩, rfl, hq, by simp, by simpa using hq12⟩
  · rintro d r _ ⟨x, z, us, vs, s5, s7, rfl, ⟨h5, h7⟩, hr, hu, hv, hl⟩
    cases us with
    | nil => cases hr
    | cons p us =>
      obtain ⟨rfl, rfl⟩ : d = prD p ∧ r = us.map prD := by simpa using hr
      have hpo := hu p (by simp)
      simp at hl
      simp [h5, h7, prD]
      refine sat_cons ?_
      simp
      refine next_sat (by decide) (by decide) fun a x z a0 a1 => ?_
      simp
      refine wide_sat (by decide) fun b x z b0 b1 => ?_
      simp
      refine next_sat (by decide) (by decide) fun e x z e0 e1 => ?_
      obtain ⟨h, he, h0, h1⟩ := pickN (ns := [1, 1, 2, 2, 3, 1 + a, 1 + b]) (lo := 1) (hi := 1000000) e0 (by simpa using e1) (by simp; omega)
      simp only [List.map_cons, List.map_nil] at he
      simp [he, show vs.length < lim by show _ < 16777216; omega]
      refine ⟨x, z, us, vs ++ [⟨p.1, p.2, h⟩], .val false (.int p.1), .val false (.int p.2), by simp [Rd3.d], ⟨rfl, rfl⟩, rfl, fun q hq => hu q (by simp [hq]), fun v hv' => ?_, by simp; omega⟩
      rcases List.mem_append.mp hv' with hv' | hv'
      · exact hv v hv'
      · rw [List.mem_singleton.mp hv']; exact ⟨hpo.1, hpo.2.1, hpo.2.2.1, hpo.2.2.2.1, hpo.2.2.2.2, h0, h1⟩
  · rintro _ ⟨x, z, us, vs, s5, s7, rfl, ⟨h5, h7⟩, hr, hu, hv, hl⟩
    refine sat_cons ?_
    simp
    exact k vs x z hv (by omega)

end T
end

section
set_option Elab.async false
set_option linter.all false
set_option maxRecDepth 100000
namespace T
open HH
structure Cal where
  (m T : Int)
  ways : List Rd3
  rooms : List (List Int)
  waits : List (Option (List Int))
def rowD (r : List Int) : D := .tup (r.map D.int)
def owD : Option (List Int) → D
  | none => .non
  | some r => rowD r
def Cal.d (c : Cal) : D := .tup [.int c.m, .int c.T, .tup (c.ways.map Rd3.d), .tup (c.rooms.map rowD), .tup (c.waits.map owD)]
structure Cal.Ok (c : Cal) : Prop where
  m0 : 2 ≤ c.m
  m1 : c.m ≤ 6
  t0 : 0 ≤ c.T
  t1 : c.T ≤ 12
  wl : c.ways.length ≤ 12
  wok : ∀ v ∈ c.ways, v.Ok c.m
  rl : c.rooms.length = c.ways.length
  rok : ∀ r ∈ c.rooms, (r.length : Int) = c.T + 1
  al : (c.waits.length : Int) = c.m
  aok : ∀ r, some r ∈ c.waits → (r.length : Int) = c.T
def RowP (T : Int) (d : D) : Prop := ∃ r : List Int, d = rowD r ∧ (r.length : Int) = T + 1
theorem rowsOf {T : Int} : ∀ {xs : List D}, (∀ x ∈ xs, RowP T x) → ∃ rs : List (List Int), xs = rs.map rowD ∧ ∀ r ∈ rs, (r.length : Int) = T + 1
  | [], _ => ⟨[], rfl, by simp⟩
  | x :: xs, h => by
    obtain ⟨v, rfl, h1⟩ := h x (by simp)
    obtain ⟨ws, rfl, h2⟩ := rowsOf (T := T) (xs := xs) fun y hy => h y (by simp [hy])
    exact ⟨v :: ws, rfl, fun u hu => by
      rcases List.mem_cons.mp hu with rfl | hu
      · exact h1
      · exact h2 u hu⟩
theorem intsOf : ∀ {xs : List D}, (∀ x ∈ xs, ∃ i, x = D.int i) → ∃ rs : List Int, xs = rs.map D.int
  | [], _ => ⟨[], rfl⟩
  | x :: xs, h => by
    obtain ⟨v, rfl⟩ := h x (by simp)
    obtain ⟨ws, rfl⟩ := intsOf (xs := xs) fun y hy => h y (by simp [hy])
    exact ⟨v :: ws, rfl⟩
def FCa (y : Int) (a1 a2 a3 a4 a5 a6 a7 a8 : Sl) (ρ : List Sl) : Prop := ∃ (x z : Int) (s : Sl), ρ = [.own true [.int x, .int y, .int z], a1, a2, a3, a4, a5, a6, a7, a8, s] ∧ fr s = true
def FCb (y : Int) (a1 a2 a3 a4 a5 a6 a7 a8 a9 : Sl) (ρ : List Sl) : Prop := ∃ (x z : Int) (s : Sl), ρ = [.own true [.int x, .int y, .int z], a1, a2, a3, a4, a5, a6, a7, a8, a9, s] ∧ fr s = true
def JCa (y T : Int) (a1 a2 a3 a4 a5 : Sl) (i : Nat) (ρ : List Sl) : Prop := ∃ (x z : Int) (ws : List (Option (List Int))) (s7 s8 : Sl), ρ = [.own true [.int x, .int y, .int z], a1, a2, a3, a4, a5, .own false (ws.map owD), s7, s8] ∧ (fr s7 = true ∧ fr s8 = true) ∧ ws.length = i + 1 ∧ ∀ r, some r ∈ ws → (r.length : Int) = T
theorem calendar_sat {w n : Nat} {x y z : Int} {Q : R → List Sl → Prop} (k : ∀ (c : Cal) (x z : Int), c.Ok → Q (.val c.d) [.own true [.int x, .int y, .int z]]) :
    (run Γ w (n + 4) 8 [.own true [.int x, .int y, .int z]]).sat Q := by
  refine sat_run (d := f8) rfl rfl (by decide) ?_
  refine sat_cons ?_
  simp [f8]
  refine next_sat (by decide) (by decide) fun a x z a0 a1 => ?_
  simp
  obtain ⟨m, hm, m0, m1⟩ : ∃ m, m = 2 + a ∧ 2 ≤ m ∧ m ≤ 6 := ⟨_, rfl, by omega, by omega⟩
  rw [← hm]
  refine sat_cons ?_
  simp
  refine next_sat (by decide) (by decide) fun T x z t0 t1 => ?_
  simp
  refine sat_cons ?_
  simp
  refine roads_sat m0 m1 fun vs x z hv hvl => ?_
  simp
  refine sat_cons ?_
  simp
  refine next_sat (by decide) (by decide) fun e x z e0 e1 => ?_
  obtain ⟨hg, he, h0, h1⟩ := pickN (ns := [3, 10, 1000000001]) (lo := 3) (hi := 1000000001) e0 (by simpa using e1) (by simp)
  simp only [List.map_cons, List.map_nil] at he
  simp [he]
  refine sat_cons ?_
  have hvlim : vs.length ≤ lim := by show _ ≤ 16777216; omega
  have hT1 : T + 1 ≤ 1000000000 := by omega
  have hT2 : -1000000000 ≤ T + 1 := by omega
  have hTl : (T + 1).toNat ≤ lim := by show _ ≤ 16777216; omega
  have hTl' : T.toNat ≤ lim := by show _ ≤ 16777216; omega
  simp [hvlim]
  refine sat_compN (FCa y _ _ _ _ _ _ _ _) (RowP T) ⟨x, z, .unb, rfl, rfl⟩ ?_ ?_
  · rintro d hd _ ⟨x, z, s, rfl, hs⟩
    simp [hs, hT1, hT2, hTl]
    refine sat_compN (FCb y _ _ _ _ _ _ _ _ _) (fun d => ∃ i, d = D.int i) ⟨x, z, .unb, rfl, rfl⟩ ?_ ?_
    · rintro d hd _ ⟨x, z, s, rfl, hs⟩
      obtain ⟨j, _, rfl⟩ := List.mem_map.mp hd
      simp [hs]
      refine wide_sat (by omega) fun c x z c0 c1 => ?_
      simp
      exact ⟨_, _, _, rfl, rfl⟩
    · rintro xs _ ⟨x, z, s, rfl, hs⟩ hl hx
      obtain ⟨is, rfl⟩ := intsOf hx
      simp at hl
      simp
      exact ⟨⟨is, rfl, by omega⟩, _, _, _, rfl, rfl⟩
  rintro xs _ ⟨x, z, s, rfl, hs⟩ hl hx
  obtain ⟨rs, rfl, hr⟩ := rowsOf hx
  simp at hl
  simp
  refine sat_cons ?_
  simp
  refine sat_cons ?_
  simp [show m - 2 ≤ 1000000000 by omega, show -1000000000 ≤ m - 2 by omega]
  refine sat_forR (JCa y T _ _ _ _ _) ?_ ?_ ⟨x, z, [none], .unb, .unb, rfl, ⟨rfl, rfl⟩, rfl, by simp⟩
  · rintro i _ hi ⟨x, z, ws, s7, s8, rfl, ⟨h7, h8⟩, hwl, hw⟩
    simp [h7]
    refine sat_cons ?_
    simp [show T ≤ 1000000000 by omega, show -1000000000 ≤ T by omega, hTl']
    refine sat_compN (FCa y _ _ _ _ _ _ _ _) (fun d => ∃ i, d = D.int i) ⟨x, z, .unb, rfl, rfl⟩ ?_ ?_
    · rintro d hd _ ⟨x, z, s, rfl, hs⟩
      obtain ⟨j, _, rfl⟩ := List.mem_map.mp hd
      simp [hs]
      refine wide_sat (by omega) fun c x z c0 c1 => ?_
      simp
      exact ⟨_, _, _, rfl, rfl⟩
    · rintro xs _ ⟨x, z, s, rfl, hs⟩ hl' hx
      obtain ⟨is, rfl⟩ := intsOf hx
      simp at hl'
      simp [h8]
      refine sat_cons ?_
      simp
      refine next_sat (by decide) (by decide) fun c x z c0 c1 => ?_
      have hwlim : ws.length < lim := by show _ < 16777216; omega
      by_cases hc : 0 < c
      · simp [hc, hwlim, blt]
        refine ⟨x, z, ws ++ [some is], .val false (.int i), .val false (rowD is), by simp [rowD, owD], ⟨rfl, rfl⟩, by simp [hwl], fun r hr' => ?_⟩
        rcases List.mem_append.mp hr' with hr' | hr'
        · exact hw r hr'
        · have : r = is := by simpa using hr'
          subst this; omega
      · simp [hc, hwlim, blt]
        refine ⟨x, z, ws ++ [none], .val false (.int i), .val false (rowD is), by simp [rowD, owD], ⟨rfl, rfl⟩, by simp [hwl], fun r hr' => ?_⟩
        rcases List.mem_append.mp hr' with hr' | hr'
        · exact hw r hr'
        · simp at hr'
  · rintro _ ⟨x, z, ws, s7, s8, rfl, ⟨h7, h8⟩, hwl, hw⟩
    refine sat_cons ?_
    simp [show ws.length + 1 ≤ lim by show _ ≤ 16777216; omega]
    have := k ⟨m, T, vs, rs, ws ++ [none]⟩ x z ⟨m0, m1, t0, by show T ≤ 12; omega, hvl, hv, by show rs.length = vs.length; omega, hr, by simp; omega, fun r hr' => ?_⟩
    · simpa [Cal.d, owD] using this
    · rcases List.mem_append.mp hr' with hr' | hr'
      · exact hw r hr'
      · simp at hr'

end T
end

section
set_option Elab.async false
set_option linter.all false
set_option maxRecDepth 100000
namespace T
open HH
/-! ### what the calendars are told as -/
def tillC (c : Cal) (h : Nat) : Cal := ⟨c.m, h, c.ways, c.rooms.map (·.take (h + 1)), c.waits.map (·.map (·.take h))⟩
def lateR (h : Nat) (v : Rd3) (r : List Int) : List Int := if v.s = 0 then List.replicate h 0 ++ r.drop h else r
def lateC (c : Cal) (h : Nat) : Cal := ⟨c.m, c.T, c.ways, (c.ways.zip c.rooms).map fun p => lateR h p.1 p.2, c.waits⟩
def turnR (T h : Int) (r : List Int) : List Int := (List.range (T + 1).toNat).map fun (i : Nat) => if (i : Int) + h ≤ T then r.getD (T - i - h).toNat 0 else 0
def turnW (m : Int) (v : Rd3) : Rd3 := ⟨m - 1 - v.t, m - 1 - v.s, v.h⟩
def turnC (c : Cal) : Cal := ⟨c.m, c.T, c.ways.map (turnW c.m), (c.ways.zip c.rooms).map fun p => turnR c.T p.1.h p.2, c.waits.reverse.map (·.map (·.reverse))⟩
@[simp] theorem cal_0 {c : Cal} : ixR c.d (.int 0) = some (.val (.int c.m)) := by simp [Cal.d]
@[simp] theorem cal_1 {c : Cal} : ixR c.d (.int 1) = some (.val (.int c.T)) := by simp [Cal.d]
@[simp] theorem cal_2 {c : Cal} : ixR c.d (.int 2) = some (.val (.tup (c.ways.map Rd3.d))) := by simp [Cal.d]
@[simp] theorem cal_3 {c : Cal} : ixR c.d (.int 3) = some (.val (.tup (c.rooms.map rowD))) := by simp [Cal.d]
@[simp] theorem cal_4 {c : Cal} : ixR c.d (.int 4) = some (.val (.tup (c.waits.map owD))) := by simp [Cal.d]
theorem cutT {r : List Int} {h : Nat} : cut (r.map D.int) none (some (h : Int)) = (r.take h).map D.int := by
  unfold cut sIx
  simp
theorem cutD' {r : List Int} {h : Nat} : cut (r.map D.int) (some (h : Int)) none = (r.drop h).map D.int := by
  unfold cut sIx
  simp
  by_cases e : h ≤ r.length
  · rw [Nat.min_eq_left e, List.take_of_length_le (by simp)]
  · rw [Nat.min_eq_right (by omega), List.drop_eq_nil_of_le (by simp), List.drop_eq_nil_of_le (by simp; omega)]; simp
def tD1 (h : Nat) : D → D
  | .tup r => .tup (r.take (h + 1))
  | d => d
def tD2 (h : Nat) : D → D
  | .tup r => .tup (r.take h)
  | d => d
def F4 (a b c d : Sl) (ρ : List Sl) : Prop := ∃ s, ρ = [a, b, c, d, s] ∧ fr s = true
theorem till_sat {w n h : Nat} {c : Cal} {Q : R → List Sl → Prop} (hc : c.Ok) (k : Q (.val (tillC c h).d) [.val false c.d, .val false (.int h)]) :
    (run Γ w (n + 1) 0 [.val false c.d, .val false (.int h)]).sat Q := by
  have hrl := hc.rl
  have hwl := hc.wl
  have hal := hc.al
  have m1 := hc.m1
  refine sat_run (d := f0) rfl rfl (by decide) ?_
  refine sat_cons ?_
  simp [f0, show c.rooms.length ≤ lim by show _ ≤ 16777216; omega]
  refine sat_compM (F4 _ _ _ _) (tD1 h) ⟨.unb, rfl, rfl⟩ ?_ ?_
  · rintro d hd _ ⟨s, rfl, hs⟩
    obtain ⟨r, _, rfl⟩ := List.mem_map.mp hd
    have e : cut (r.map D.int) none (some ((h : Int) + 1)) = (r.take (h + 1)).map D.int := cutT (h := h + 1)
    simp [hs, rowD, sl3, part, isNC, e, tD1]
    exact ⟨_, rfl, rfl⟩
  rintro _ ⟨s, rfl, hs⟩
  simp
  refine sat_cons ?_
  simp [show c.waits.length ≤ lim by show _ ≤ 16777216; omega]
  refine sat_compM (F4 _ _ _ _) (tD2 h) ⟨.unb, rfl, rfl⟩ ?_ ?_
  · rintro d hd _ ⟨s, rfl, hs⟩
    obtain ⟨r, _, rfl⟩ := List.mem_map.mp hd
    cases r with
    | none => simp [hs, owD, tD2]; exact ⟨_, rfl, rfl⟩
    | some r =>
      have e : cut (r.map D.int) none (some (h : Int)) = (r.take h).map D.int := cutT
      simp [hs, owD, rowD, sl3, part, isNC, e, tD2]
      exact ⟨_, rfl, rfl⟩
  rintro _ ⟨s, rfl, hs⟩
  simp
  refine sat_cons ?_
  simp
  have e1 : (c.rooms.map (tD1 h ∘ rowD)) = (c.rooms.map (·.take (h + 1))).map rowD := by
    rw [List.map_map]; refine List.map_congr_left fun r _ => ?_; simp [tD1, rowD]
  have e2 : (c.waits.map (tD2 h ∘ owD)) = (c.waits.map (·.map (·.take h))).map owD := by
    rw [List.map_map]; refine List.map_congr_left fun r _ => ?_
    cases r <;> simp [tD2, rowD, owD]
  rw [e1, e2]
  simpa [Cal.d, tillC] using k
theorem rd_0 {v : Rd3} : ixR v.d (.int 0) = some (.val (.int v.s)) := by simp [Rd3.d]
theorem rd_1 {v : Rd3} : ixR v.d (.int 1) = some (.val (.int v.t)) := by simp [Rd3.d]
theorem rd_2 {v : Rd3} : ixR v.d (.int 2) = some (.val (.int v.h)) := by simp [Rd3.d]
theorem zip_W : ∀ (ws : List Rd3) (rs : List (List Int)), ((ws.map Rd3.d).zip (rs.map rowD)).map (fun p => D.tup [p.1, p.2]) = (ws.zip rs).map fun p => D.tup [p.1.d, rowD p.2]
  | [], _ => by simp
  | _ :: _, [] => by simp
  | f :: fs, w :: ws => by simp [zip_W fs ws]
def lD (h : Nat) : D → D
  | .tup [.tup [.int s, .int _, .int _], .tup r] => .tup (if s = 0 then List.replicate h (D.int 0) ++ r.drop h else r)
  | d => d
def F3t (a b c : Sl) (ρ : List Sl) : Prop := ∃ s t, ρ = [a, b, c, s, t] ∧ fr s = true ∧ fr t = true
theorem late_sat {w n h : Nat} {c : Cal} {Q : R → List Sl → Prop} (hc : c.Ok) (hh : h ≤ 12) (k : Q (.val (lateC c h).d) [.val false c.d, .val false (.int h)]) :
    (run Γ w (n + 1) 1 [.val false c.d, .val false (.int h)]).sat Q := by
  have hrl := hc.rl
  have hwl := hc.wl
  have t1 := hc.t1
  refine sat_run (d := f1) rfl rfl (by decide) ?_
  refine sat_cons ?_
  have hz : min c.ways.length c.rooms.length ≤ lim := by show _ ≤ 16777216; omega
  simp [f1, hz]
  rw [zip_W]
  refine sat_compM (F3t _ _ _) (lD h) ⟨.unb, .unb, rfl, rfl, rfl⟩ ?_ ?_
  · rintro d hd _ ⟨s, t, rfl, hs, ht⟩
    obtain ⟨⟨v, r⟩, hm, rfl⟩ := List.mem_map.mp hd
    have hrr := hc.rok r (List.of_mem_zip hm).2
    by_cases e : v.s = 0
    · simp [hs, ht, rd_0, e, rowD, sl3, part, isNC, cutD', show h ≤ lim by show _ ≤ 16777216; omega]
      refine ⟨by show _ ≤ 16777216; omega, by simp [lD, Rd3.d, e], _, _, rfl, rfl, rfl⟩
    · simp [hs, ht, rd_0, e, rowD]
      refine ⟨by simp [lD, Rd3.d, e], _, _, rfl, rfl, rfl⟩
  rintro _ ⟨s, t, rfl, hs, ht⟩
  simp
  refine sat_cons ?_
  simp
  have e1 : ((c.ways.zip c.rooms).map (lD h ∘ fun p => D.tup [p.1.d, rowD p.2])) = ((c.ways.zip c.rooms).map fun p => lateR h p.1 p.2).map rowD := by
    rw [List.map_map]; refine List.map_congr_left fun p _ => ?_
    simp only [Function.comp, lD, Rd3.d, rowD, lateR]
    split
    · simp
    · rfl
  rw [e1]
  simpa [Cal.d, lateC] using k
def trD (T h : Int) (r : List Int) : D → D
  | .int i => .int (if i + h ≤ T then r.getD (T - i - h).toNat 0 else 0)
  | d => d
theorem trooms_sat {w n : Nat} {T h : Int} {r : List Int} {Q : R → List Sl → Prop} (t0 : 0 ≤ T) (t1 : T ≤ 12) (h0 : 1 ≤ h) (hr : (r.length : Int) = T + 1) (k : Q (.val (rowD (turnR T h r))) [.val false (.int T), .val false (.int h), .val false (rowD r)]) :
    (run Γ w (n + 1) 2 [.val false (.int T), .val false (.int h), .val false (rowD r)]).sat Q := by
  refine sat_run (d := f2) rfl rfl (by decide) ?_
  refine sat_cons ?_
  simp [f2, show T + 1 ≤ 1000000000 by omega, show -1000000000 ≤ T + 1 by omega, show (T + 1).toNat ≤ lim by show _ ≤ 16777216; omega]
  refine sat_compM (fun ρ => ∃ s, ρ = [.val false (.int T), .val false (.int h), .val false (rowD r), s] ∧ fr s = true) (trD T h r) ⟨.unb, rfl, rfl⟩ ?_ ?_
  · rintro d hd _ ⟨s, rfl, hs⟩
    obtain ⟨j, hj, rfl⟩ := List.mem_map.mp hd
    by_cases e : (j : Int) + h ≤ T
    · have hk : (T - (j : Int) - h).toNat < r.length := by omega
      have ea : at' (r.map D.int) (T - (j : Int) - h) = some (.int (r.getD (T - (j : Int) - h).toNat 0)) := by
        rw [at_nat (by omega) (by rw [List.length_map]; omega), List.getElem?_map]; simp [hk]
      simp [hs, e, rowD, ea, trD]
    · simp [hs, e, trD]
  rintro _ ⟨s, rfl, hs⟩
  simp
  simpa [rowD, turnR, Function.comp_def, trD] using k
def tuD (m : Int) : D → D
  | .tup [.int s, .int t, h] => .tup [.int (m - 1 - t), .int (m - 1 - s), h]
  | d => d
def trD2 (T : Int) : D → D
  | .tup [.tup [_, _, .int h], .tup r] => rowD (turnR T h (r.map fun d => match d with | .int i => i | _ => 0))
  | d => d
def rvD : D → D
  | .tup r => .tup r.reverse
  | d => d
def F6 (a b c d e f : Sl) (ρ : List Sl) : Prop := ∃ s, ρ = [a, b, c, d, e, f, s] ∧ fr s = true
def F6t (a b c d e f : Sl) (ρ : List Sl) : Prop := ∃ s t, ρ = [a, b, c, d, e, f, s, t] ∧ fr s = true ∧ fr t = true
theorem turned_sat {w n : Nat} {c : Cal} {Q : R → List Sl → Prop} (hc : c.Ok) (k : Q (.val (turnC c).d) [.val false c.d]) :
    (run Γ w (n + 2) 3 [.val false c.d]).sat Q := by
  have hrl := hc.rl
  have hwl := hc.wl
  have hal := hc.al
  have m1 := hc.m1
  have t1 := hc.t1
  refine sat_run (d := f3) rfl rfl (by decide) ?_
  refine sat_cons ?_
  simp [f3]
  refine sat_cons ?_
  simp
  refine sat_cons ?_
  simp [show c.ways.length ≤ lim by show _ ≤ 16777216; omega]
  refine sat_compM (F6 _ _ _ _ _ _) (tuD c.m) ⟨.unb, rfl, rfl⟩ ?_ ?_
  · rintro d hd _ ⟨s, rfl, hs⟩
    obtain ⟨v, _, rfl⟩ := List.mem_map.mp hd
    simp [hs, rd_0, rd_1, rd_2]
    exact ⟨by simp [tuD, Rd3.d], _, rfl, rfl⟩
  rintro _ ⟨s, rfl, hs⟩
  simp
  refine sat_cons ?_
  simp
  rw [zip_W]
  refine ⟨fun _ => ?_, by show _ ≤ 16777216; omega⟩
  refine sat_compM (F6t _ _ _ _ _ _) (trD2 c.T) ⟨.unb, .unb, rfl, rfl, rfl⟩ ?_ ?_
  · rintro d hd _ ⟨s, t, rfl, hs, ht⟩
    obtain ⟨⟨v, r⟩, hm, rfl⟩ := List.mem_map.mp hd
    have hrr := hc.rok r (List.of_mem_zip hm).2
    have hvv := hc.wok v (List.of_mem_zip hm).1
    simp [hs, ht, rd_2]
    refine trooms_sat hc.t0 hc.t1 hvv.h0 hrr ?_
    simp
    refine ⟨by simp [trD2, Rd3.d, rowD, Function.comp_def], _, _, rfl, rfl, rfl⟩
  rintro _ ⟨s, t, rfl, hs, ht⟩
  simp
  refine sat_cons ?_
  simp [show c.waits.length ≤ lim by show _ ≤ 16777216; omega]
  refine sat_compM (F6 _ _ _ _ _ _) rvD ⟨.unb, rfl, rfl⟩ ?_ ?_
  · rintro d hd _ ⟨s, rfl, hs⟩
    rw [← List.map_reverse] at hd
    obtain ⟨r, _, rfl⟩ := List.mem_map.mp hd
    cases r with
    | none => simp [hs, owD, rvD]; exact ⟨_, rfl, rfl⟩
    | some r => simp [hs, owD, rowD, rvD]; exact ⟨_, rfl, rfl⟩
  rintro _ ⟨s, rfl, hs⟩
  simp
  refine sat_cons ?_
  simp
  have e1 : c.ways.map (tuD c.m ∘ Rd3.d) = (c.ways.map (turnW c.m)).map Rd3.d := by
    rw [List.map_map]; rfl
  have e2 : ((c.ways.zip c.rooms).map (trD2 c.T ∘ fun p => D.tup [p.1.d, rowD p.2])) = ((c.ways.zip c.rooms).map fun p => turnR c.T p.1.h p.2).map rowD := by
    rw [List.map_map]; refine List.map_congr_left fun p _ => ?_
    simp [Function.comp_def, trD2, Rd3.d, rowD]
  have e3 : c.waits.map (rvD ∘ owD) = (c.waits.map (·.map (·.reverse))).map owD := by
    rw [List.map_map]; refine List.map_congr_left fun r _ => ?_
    cases r <;> simp [rvD, rowD, owD]
  rw [e1, e2, e3]
  have : (turnC c).d = .tup [.int c.m, .int c.T, .tup ((c.ways.map (turnW c.m)).map Rd3.d), .tup (((c.ways.zip c.rooms).map fun p => turnR c.T p.1.h p.2).map rowD), .tup ((c.waits.map (·.map (·.reverse))).map owD).reverse] := by
    simp [turnC, Cal.d, List.map_reverse]
  rw [this] at k
  simpa using k

end T
end

section
set_option Elab.async false
set_option linter.all false
set_option maxRecDepth 100000
namespace T
open HH
theorem trues : ∀ {xs : List D}, (∀ x ∈ xs, x = .bl true) → xs.mapM asB = some (List.replicate xs.length true)
  | [], _ => rfl
  | x :: xs, h => by
    rw [List.mapM_cons, h x (by simp), trues fun y hy => h y (by simp [hy])]; rfl
theorem zip_self : ∀ (ds : List D), (ds.zip ds).map (fun p => D.tup [p.1, p.2]) = ds.map fun d => D.tup [d, d]
  | [] => rfl
  | d :: ds => by simp [zip_self ds]
/-- None, whole numbers, tuples of such, no deeper than k, none longer than 1000 -/
def Pq : Nat → D → Prop
  | _, .non => True
  | _, .int _ => True
  | k + 1, .tup ds => ds.length ≤ 1000 ∧ ∀ d ∈ ds, Pq k d
  | _, _ => False
theorem same_ok {w : Nat} : ∀ {k n : Nat} {d : D} {Q : R → List Sl → Prop}, Pq k d → Q (.val (.bl true)) [.val false d, .val false d] → (run Γ w (n + k + 1) 9 [.val false d, .val false d]).sat Q
  | k, n, .non, Q, hp, q => by
    refine sat_run (d := f9) rfl rfl (by decide) ?_
    refine sat_cons ?_
    simp [f9]
    refine sat_cons ?_
    simp
    exact q
  | k, n, .int i, Q, hp, q => by
    refine sat_run (d := f9) rfl rfl (by decide) ?_
    refine sat_cons ?_
    simp [f9]
    refine sat_cons ?_
    simp
    refine sat_cons ?_
    simp
    exact q
  | 0, n, .tup ds, Q, hp, q => by simp [Pq] at hp
  | k + 1, n, .tup ds, Q, hp, q => by
    simp only [Pq] at hp
    refine sat_run (d := f9) rfl rfl (by decide) ?_
    refine sat_cons ?_
    simp [f9]
    refine sat_cons ?_
    simp
    refine sat_cons ?_
    simp
    refine sat_cons ?_
    have hl : ds.length ≤ lim := by show _ ≤ 16777216; omega
    simp [hl]
    rw [zip_self]
    refine sat_compN (fun ρ => ∃ s t, ρ = [.val false (.tup ds), .val false (.tup ds), s, t] ∧ fr s = true ∧ fr t = true) (fun d => d = .bl true) ⟨.unb, .unb, rfl, rfl, rfl⟩ ?_ ?_
    · rintro d hd _ ⟨s, t, rfl, hs, ht⟩
      obtain ⟨e, he, rfl⟩ := List.mem_map.mp hd
      simp [hs, ht]
      refine same_ok (n := n) (hp.2 e he) ?_
      simp
      exact ⟨_, _, ⟨rfl, rfl⟩, rfl, rfl⟩
    · rintro xs _ ⟨s, t, rfl, hs, ht⟩ hxl hx
      simp [trues hx]
      exact q
  | 0, n, .bl b, Q, hp, q => by simp [Pq] at hp
  | 0, n, .str b, Q, hp, q => by simp [Pq] at hp
  | 0, n, .lst b, Q, hp, q => by simp [Pq] at hp
  | k + 1, n, .bl b, Q, hp, q => by simp [Pq] at hp
  | k + 1, n, .str b, Q, hp, q => by simp [Pq] at hp
  | k + 1, n, .lst b, Q, hp, q => by simp [Pq] at hp
theorem same_okN {w k N : Nat} {d : D} {Q : R → List Sl → Prop} (hN : k < N) (hp : Pq k d) (q : Q (.val (.bl true)) [.val false d, .val false d]) : (run Γ w N 9 [.val false d, .val false d]).sat Q := by
  obtain ⟨n, rfl⟩ : ∃ n, N = n + k + 1 := ⟨N - k - 1, by omega⟩
  exact same_ok hp q

end T
end

section
set_option Elab.async false
set_option linter.all false
set_option maxRecDepth 100000
namespace T
open HH
theorem pq_row {k : Nat} {r : List Int} (h : r.length ≤ 1000) : Pq (k + 1) (rowD r) := by
  refine ⟨by simpa using h, fun d hd => ?_⟩
  obtain ⟨i, _, rfl⟩ := List.mem_map.mp hd
  cases k <;> trivial
theorem pq_rd {k : Nat} {v : Rd3} : Pq (k + 1) v.d := by
  refine ⟨by simp, fun d hd => ?_⟩
  simp at hd
  rcases hd with rfl | rfl | rfl <;> (cases k <;> trivial)
theorem pq_cal {c : Cal} (h1 : c.ways.length ≤ 1000) (h2 : c.rooms.length ≤ 1000) (h3 : c.waits.length ≤ 1000) (h4 : ∀ r ∈ c.rooms, r.length ≤ 1000) (h5 : ∀ r, some r ∈ c.waits → r.length ≤ 1000) : Pq 3 c.d := by
  refine ⟨by simp, fun d hd => ?_⟩
  simp at hd
  rcases hd with rfl | rfl | rfl | rfl | rfl
  · trivial
  · trivial
  · refine ⟨by simpa using h1, fun d hd => ?_⟩
    obtain ⟨v, _, rfl⟩ := List.mem_map.mp hd
    exact pq_rd
  · refine ⟨by simpa using h2, fun d hd => ?_⟩
    obtain ⟨r, hr, rfl⟩ := List.mem_map.mp hd
    exact pq_row (h4 r hr)
  · refine ⟨by simpa using h3, fun d hd => ?_⟩
    obtain ⟨r, hr, rfl⟩ := List.mem_map.mp hd
    cases r with
    | none => trivial
    | some r => exact pq_row (h5 r hr)
theorem getD_row {r : List Int} {i : Int} (h0 : 0 ≤ i) (h1 : i < (r.length : Int)) : at' (r.map D.int) i = some (.int (r.getD i.toNat 0)) := by
  have hk : i.toNat < r.length := by omega
  rw [at_nat h0 (by simpa using h1)]
  simp [hk]
theorem lroom_sat {w n : Nat} {i : Int} {r : List Int} {Q : R → List Sl → Prop} (k : Q (.val (.int (if 0 ≤ i ∧ i < (r.length : Int) then r.getD i.toNat 0 else 0))) [.val false (rowD r), .val false (.int i)]) :
    (run Γ w (n + 1) 10 [.val false (rowD r), .val false (.int i)]).sat Q := by
  refine sat_run (d := f10) rfl rfl (by decide) ?_
  refine sat_cons ?_
  by_cases h0 : 0 ≤ i
  · by_cases h1 : i < (r.length : Int)
    · simp only [h0, h1, and_self, if_true] at k
      simp [f10, h0, h1, rowD]
      refine sat_cons ?_
      simp [getD_row h0 h1]
      simpa [rowD] using k
    · simp only [h0, h1, and_false, if_false] at k
      simp [f10, h0, h1, rowD]
      refine sat_cons ?_
      simp
      simpa [rowD] using k
  · simp only [h0, false_and, if_false] at k
    simp [f10, h0, rowD]
    refine sat_cons ?_
    simp
    simpa [rowD] using k
theorem row_take {r : List Int} {n : Nat} (h : n ≤ r.length) : (List.range n).map (fun k => r.getD k 0) = r.take n := by
  refine List.ext_getElem (by simp; omega) fun i h1 h2 => ?_
  simp at h1
  simp [show i < r.length by omega]
theorem row_rev {r : List Int} {n : Nat} (h : r.length = n) : (List.range n).map (fun k => r.getD (n - 1 - k) 0) = r.reverse := by
  refine List.ext_getElem (by simp; omega) fun i h1 h2 => ?_
  simp at h1
  simp [h]
  rw [List.getElem?_eq_getElem (by omega)]
  simp
theorem ahead_sat {w n N : Nat} {M : Int} {o : Option (List Int)} {Q : R → List Sl → Prop} (hM : M = (N : Int)) (hN : N ≤ 1000) (ho : ∀ r, o = some r → N ≤ r.length) (k : Q (.val (owD (o.map (·.take N)))) [.val false (owD o), .val false (.int M)]) :
    (run Γ w (n + 1) 13 [.val false (owD o), .val false (.int M)]).sat Q := by
  subst hM
  refine sat_run (d := f13) rfl rfl (by decide) ?_
  refine sat_cons ?_
  cases o with
  | none =>
    simp [f13, owD]
    refine sat_cons ?_
    simp
    simpa [owD] using k
  | some r =>
    have hr := ho r rfl
    simp [f13, owD, rowD]
    refine sat_cons ?_
    simp [show N ≤ lim by show _ ≤ 16777216; omega]
    refine ⟨by omega, ?_⟩
    refine sat_compM (fun ρ => ∃ s, ρ = [.val false (rowD r), .val false (.int N), s] ∧ fr s = true) (fun d => match d with | .int i => .int (r.getD i.toNat 0) | d => d) ⟨.unb, rfl, rfl⟩ ?_ ?_
    · rintro d hd _ ⟨s, rfl, hs⟩
      obtain ⟨j, hj, rfl⟩ := List.mem_map.mp hd
      rw [List.mem_range] at hj
      simp [hs, rowD, getD_row (r := r) (i := (j : Int)) (by omega) (by omega)]
    · rintro _ ⟨s, rfl, hs⟩
      simp [Function.comp_def]
      have e := row_take hr
      have e2 : (List.range N).map (fun k => D.int (r.getD k 0)) = (r.take N).map D.int := by rw [← e, List.map_map]; rfl
      have e3 : (List.range N).map (fun x => D.int (r[x]?.getD 0)) = (r.take N).map D.int := by rw [← e2]; refine List.map_congr_left fun k _ => ?_; simp [List.getD_eq_getElem?_getD]
      rw [e3]
      simpa [owD, rowD] using k
theorem ahead_satD {w N' N : Nat} {M : Int} {o : Option (List Int)} {d : D} {Q : R → List Sl → Prop} (hN' : 0 < N') (hd : d = owD o) (hM : M = (N : Int)) (hN : N ≤ 1000) (ho : ∀ r, o = some r → N ≤ r.length) (k : Q (.val (owD (o.map (·.take N)))) [.val false d, .val false (.int M)]) :
    (run Γ w N' 13 [.val false d, .val false (.int M)]).sat Q := by
  obtain ⟨n, rfl⟩ : ∃ n, N' = n + 1 := ⟨N' - 1, by omega⟩
  subst hd; exact ahead_sat hM hN ho k

end T
end

section
set_option Elab.async false
set_option linter.all false
set_option maxRecDepth 100000
namespace T
open HH
theorem zip_get {c : Cal} (hc : c.Ok) {i : Nat} (hi : i < c.ways.length) : ∃ v r, c.ways[i]? = some v ∧ c.rooms[i]? = some r ∧ (c.ways.zip c.rooms)[i]? = some (v, r) ∧ v ∈ c.ways ∧ r ∈ c.rooms := by
  have hr : i < c.rooms.length := by rw [hc.rl]; exact hi
  refine ⟨c.ways[i], c.rooms[i], by simp [hi], by simp [hr], ?_, List.getElem_mem hi, List.getElem_mem hr⟩
  rw [List.getElem?_eq_getElem (by simp; omega)]; simp
theorem take_next {α : Type} {l : List α} {i : Nat} {x : α} (h : l[i]? = some x) : l.take (i + 1) = l.take i ++ [x] := by
  rw [List.take_succ, h]; rfl
theorem turnR_eq {T h : Int} {r : List Int} (t0 : 0 ≤ T) (h0 : 1 ≤ h) (hr : (r.length : Int) = T + 1) : (List.range (T + 1).toNat).map (fun (i : Nat) => if 0 ≤ T - (i : Int) - h ∧ T - (i : Int) - h < (r.length : Int) then r.getD (T - (i : Int) - h).toNat 0 else 0) = turnR T h r := by
  refine List.map_congr_left fun i hi => ?_
  rw [List.mem_range] at hi
  by_cases e : (i : Int) + h ≤ T
  · rw [if_pos e, if_pos (by omega)]
  · rw [if_neg e, if_neg (by omega)]
def JT (c : Cal) (i : Nat) (ρ : List Sl) : Prop := ∃ s8, ρ = [.val false c.d, .val false (.int c.m), .val false (.int c.T), .val false (.tup (c.ways.map Rd3.d)), .val false (.tup (c.rooms.map rowD)), .val false (.tup (c.waits.map owD)), .own false (((c.ways.take i).map (turnW c.m)).map Rd3.d), .own false ((((c.ways.zip c.rooms).take i).map fun p => turnR c.T p.1.h p.2).map rowD), s8, .unb, .unb, .unb] ∧ fr s8 = true
def JU (c : Cal) (a6 a7 a8 : Sl) (i : Nat) (ρ : List Sl) : Prop := ∃ s10 s11, ρ = [.val false c.d, .val false (.int c.m), .val false (.int c.T), .val false (.tup (c.ways.map Rd3.d)), .val false (.tup (c.rooms.map rowD)), .val false (.tup (c.waits.map owD)), a6, a7, a8, .own false (((c.waits.reverse.map (·.map (·.reverse))).take i).map owD), s10, s11] ∧ fr s10 = true ∧ fr s11 = true
theorem lturned_sat {w n : Nat} {c : Cal} {Q : R → List Sl → Prop} (hc : c.Ok) (k : Q (.val (turnC c).d) [.val false c.d]) :
    (run Γ w (n + 2) 11 [.val false c.d]).sat Q := by
  have hrl := hc.rl
  have hwl := hc.wl
  have hal := hc.al
  have m0 := hc.m0
  have m1 := hc.m1
  have t0 := hc.t0
  have t1 := hc.t1
  refine sat_run (d := f11) rfl rfl (by decide) ?_
  refine sat_cons ?_
  simp [f11]
  simp [Cal.d]
  rw [show D.tup [.int c.m, .int c.T, .tup (c.ways.map Rd3.d), .tup (c.rooms.map rowD), .tup (c.waits.map owD)] = c.d from rfl]
  refine sat_cons ?_
  simp
  refine sat_cons ?_
  simp
  refine sat_cons ?_
  simp
  refine ⟨by omega, ?_⟩
  refine sat_forR (JT c) ?_ ?_ ⟨.unb, by simp, rfl⟩
  · rintro i _ hi ⟨s8, rfl, h8⟩
    obtain ⟨v, r, e1, e2, e3, hv, hr⟩ := zip_get hc hi
    have hvv := hc.wok v hv
    have hrr := hc.rok r hr
    have b1 : at' (c.ways.map Rd3.d) (i : Int) = some v.d := at_map e1
    have b2 : at' (c.rooms.map rowD) (i : Int) = some (rowD r) := at_map e2
    have l1 : min i c.ways.length < lim := by show _ < 16777216; omega
    have l2 : min i (min c.ways.length c.rooms.length) < lim := by show _ < 16777216; omega
    simp [h8]
    refine sat_cons ?_
    simp [b1, rd_0, rd_1, rd_2, l1]
    refine sat_cons ?_
    simp [show c.T + 1 ≤ 1000000000 by omega, show -1000000000 ≤ c.T + 1 by omega, show (c.T + 1).toNat ≤ lim by show _ ≤ 16777216; omega]
    refine sat_compM (fun ρ => ∃ s, ρ = [.val false c.d, .val false (.int c.m), .val false (.int c.T), .val false (.tup (c.ways.map Rd3.d)), .val false (.tup (c.rooms.map rowD)), .val false (.tup (c.waits.map owD)), .own false (((c.ways.take i).map (turnW c.m)).map Rd3.d ++ [(turnW c.m v).d]), .own false ((((c.ways.zip c.rooms).take i).map fun p => turnR c.T p.1.h p.2).map rowD), .val false (.int i), .unb, .unb, .unb, s] ∧ fr s = true) (fun d => match d with | .int j => .int (if 0 ≤ c.T - j - v.h ∧ c.T - j - v.h < (r.length : Int) then r.getD (c.T - j - v.h).toNat 0 else 0) | d => d) ⟨.unb, by simp [turnW, Rd3.d], rfl⟩ ?_ ?_
    · rintro d hd _ ⟨s, rfl, hs⟩
      obtain ⟨j, hj, rfl⟩ := List.mem_map.mp hd
      simp [hs, b1, b2, rd_2]
      refine lroom_sat ?_
      simp
    · rintro _ ⟨s, rfl, hs⟩
      have e4 := turnR_eq t0 hvv.h0 hrr
      have e5 : ((List.range (c.T + 1).toNat).map fun (k : Nat) => D.int (k : Int)).map (fun d => match d with | .int j => D.int (if 0 ≤ c.T - j - v.h ∧ c.T - j - v.h < (r.length : Int) then r.getD (c.T - j - v.h).toNat 0 else 0) | d => d) = (turnR c.T v.h r).map D.int := by
        rw [← e4, List.map_map, List.map_map]; rfl
      have e6 : ((List.range (c.T + 1).toNat).map fun (k : Nat) => D.int (0 + (k : Int))) = (List.range (c.T + 1).toNat).map fun (k : Nat) => D.int (k : Int) := by simp
      rw [e5]
      simp [l2]
      refine ⟨.val false (.int i), ?_, rfl⟩
      rw [take_next e1, take_next e3]
      simp [rowD]
  rintro _ ⟨s8, rfl, h8⟩
  rw [List.take_length, show c.ways.length = (c.ways.zip c.rooms).length by simp; omega, List.take_length]
  refine sat_cons ?_
  simp
  refine sat_cons ?_
  simp [show c.m ≤ 1000000000 by omega, show -1000000000 ≤ c.m by omega]
  refine sat_forR (JU c _ _ _) ?_ ?_ ⟨.unb, .unb, by simp; exact ⟨rfl, rfl, rfl⟩, rfl, rfl⟩
  · rintro i _ hi ⟨s10, s11, rfl, h10, h11⟩
    have hi2 : c.m.toNat - 1 - i < c.waits.length := by omega
    obtain ⟨o, ho⟩ : ∃ o, c.waits[c.m.toNat - 1 - i]? = some o := ⟨_, List.getElem?_eq_getElem hi2⟩
    have hom : o ∈ c.waits := List.mem_of_getElem? ho
    have e1 : at' (c.waits.map owD) (c.m - 1 - (i : Int)) = some (owD o) := by
      rw [show c.m - 1 - (i : Int) = ((c.m.toNat - 1 - i : Nat) : Int) by omega]; exact at_map ho
    have e2 : (c.waits.reverse.map (·.map (·.reverse)))[i]? = some (o.map (·.reverse)) := by
      rw [List.getElem?_map, List.getElem?_reverse (by omega), show c.waits.length - 1 - i = c.m.toNat - 1 - i by omega, ho]; rfl
    have l3 : min i c.waits.length < lim := by show _ < 16777216; omega
    have l4 : (((c.waits.reverse.map (·.map (·.reverse))).take i).map owD).length < lim := by rw [List.length_map, List.length_take]; show _ < 16777216; omega
    simp only [JU]
    rw [take_next e2]
    generalize hg : ((c.waits.reverse.map (·.map (·.reverse))).take i).map owD = g at l4
    rw [List.map_append, hg]
    simp [h10]
    refine sat_cons ?_
    simp [e1, h11]
    cases o with
    | none =>
      refine sat_cons ?_
      simp [owD]
      refine sat_cons ?_
      simp [l4]
      exact ⟨_, _, ⟨rfl, rfl⟩, rfl, rfl⟩
    | some r =>
      have hr := hc.aok r hom
      refine sat_cons ?_
      simp [owD, rowD]
      refine sat_cons ?_
      simp [show c.T ≤ 1000000000 by omega, show -1000000000 ≤ c.T by omega, show c.T.toNat ≤ lim by show _ ≤ 16777216; omega]
      refine sat_compM (fun ρ => ∃ s, ρ = [.val false c.d, .val false (.int c.m), .val false (.int c.T), .val false (.tup (c.ways.map Rd3.d)), .val false (.tup (c.rooms.map rowD)), .val false (.tup (c.waits.map owD)), .own false ((c.ways.map (turnW c.m)).map Rd3.d), .own false (((c.ways.zip c.rooms).map fun p => turnR c.T p.1.h p.2).map rowD), s8, .own false g, .val false (.int i), .val false (rowD r), s] ∧ fr s = true) (fun d => match d with | .int j => .int (r.getD (c.T.toNat - 1 - j.toNat) 0) | d => d) ⟨.unb, by simp [rowD], rfl⟩ ?_ ?_
      · rintro d hd _ ⟨s, rfl, hs⟩
        obtain ⟨j, hj, rfl⟩ := List.mem_map.mp hd
        rw [List.mem_range] at hj
        have e3 : at' (r.map D.int) (c.T - 1 - (j : Int)) = some (.int (r.getD (c.T - 1 - (j : Int)).toNat 0)) := getD_row (by omega) (by omega)
        rw [show (c.T - 1 - (j : Int)).toNat = c.T.toNat - 1 - j by omega] at e3
        simp [hs, rowD, e3]
      · rintro _ ⟨s, rfl, hs⟩
        have e4 := row_rev (r := r) (n := c.T.toNat) (by omega)
        have e5 : ((List.range c.T.toNat).map fun (k : Nat) => D.int (k : Int)).map (fun d => match d with | .int j => D.int (r.getD (c.T.toNat - 1 - j.toNat) 0) | d => d) = r.reverse.map D.int := by
          rw [← e4, List.map_map, List.map_map]; rfl
        rw [e5]
        simp
        refine sat_cons ?_
        simp [l4]
        exact ⟨_, _, ⟨rfl, rfl⟩, rfl, rfl⟩
  rintro _ ⟨s10, s11, rfl, h10, h11⟩
  rw [List.take_of_length_le (by simp; omega)]
  refine sat_cons ?_
  simp
  simpa [turnC, Cal.d, Function.comp_def] using k

end T
end

section
set_option Elab.async false
set_option linter.all false
set_option maxRecDepth 100000
namespace T
open HH
def useR (T h : Int) (r : List Int) : List Int := (List.range (T + 1).toNat).map fun (i : Nat) => r.getD i 0 * (if (i : Int) + h ≤ T then 1 else 0)
def useC (c : Cal) : Cal := ⟨c.m, c.T, c.ways, (c.ways.zip c.rooms).map fun p => useR c.T p.1.h p.2, c.waits⟩
def JV (c : Cal) (i : Nat) (ρ : List Sl) : Prop := ∃ s7 s8, ρ = [.val false c.d, .val false (.int c.m), .val false (.int c.T), .val false (.tup (c.ways.map Rd3.d)), .val false (.tup (c.rooms.map rowD)), .val false (.tup (c.waits.map owD)), .own false ((((c.ways.zip c.rooms).take i).map fun p => useR c.T p.1.h p.2).map rowD), s7, s8] ∧ fr s7 = true ∧ fr s8 = true
theorem useful_sat {w n : Nat} {c : Cal} {Q : R → List Sl → Prop} (hc : c.Ok) (k : Q (.val (useC c).d) [.val false c.d]) :
    (run Γ w (n + 1) 12 [.val false c.d]).sat Q := by
  have hrl := hc.rl
  have hwl := hc.wl
  have t0 := hc.t0
  have t1 := hc.t1
  refine sat_run (d := f12) rfl rfl (by decide) ?_
  refine sat_cons ?_
  simp [f12]
  simp [Cal.d]
  rw [show D.tup [.int c.m, .int c.T, .tup (c.ways.map Rd3.d), .tup (c.rooms.map rowD), .tup (c.waits.map owD)] = c.d from rfl]
  refine sat_cons ?_
  simp
  refine sat_cons ?_
  simp
  refine ⟨by omega, ?_⟩
  refine sat_forR (JV c) ?_ ?_ ⟨.unb, .unb, by simp, rfl, rfl⟩
  · rintro i _ hi ⟨s7, s8, rfl, h7, h8⟩
    obtain ⟨v, r, e1, e2, e3, hv, hr⟩ := zip_get hc hi
    have hrr := hc.rok r hr
    have b1 : at' (c.ways.map Rd3.d) (i : Int) = some v.d := at_map e1
    have b2 : at' (c.rooms.map rowD) (i : Int) = some (rowD r) := at_map e2
    have l2 : min i (min c.ways.length c.rooms.length) < lim := by show _ < 16777216; omega
    simp [h7]
    refine sat_cons ?_
    simp [b1, rd_2, h8]
    refine sat_cons ?_
    simp [show c.T + 1 ≤ 1000000000 by omega, show -1000000000 ≤ c.T + 1 by omega, show (c.T + 1).toNat ≤ lim by show _ ≤ 16777216; omega]
    refine sat_compM (fun ρ => ∃ s, ρ = [.val false c.d, .val false (.int c.m), .val false (.int c.T), .val false (.tup (c.ways.map Rd3.d)), .val false (.tup (c.rooms.map rowD)), .val false (.tup (c.waits.map owD)), .own false ((((c.ways.zip c.rooms).take i).map fun p => useR c.T p.1.h p.2).map rowD), .val false (.int i), .val false (.int v.h), s] ∧ fr s = true) (fun d => match d with | .int j => .int (r.getD j.toNat 0 * (if j + v.h ≤ c.T then 1 else 0)) | d => d) ⟨.unb, by simp, rfl⟩ ?_ ?_
    · rintro d hd _ ⟨s, rfl, hs⟩
      obtain ⟨j, hj, rfl⟩ := List.mem_map.mp hd
      rw [List.mem_range] at hj
      have e4 : at' (r.map D.int) (j : Int) = some (.int (r.getD j 0)) := by
        have := getD_row (r := r) (i := (j : Int)) (by omega) (by omega)
        simpa using this
      by_cases e : (j : Int) + v.h ≤ c.T
      · simp [hs, b2, rowD, e4, e, blt]
      · simp [hs, b2, rowD, e4, e, blt]
    · rintro _ ⟨s, rfl, hs⟩
      have e5 : ((List.range (c.T + 1).toNat).map fun (k : Nat) => D.int (k : Int)).map (fun d => match d with | .int j => D.int (r.getD j.toNat 0 * (if j + v.h ≤ c.T then 1 else 0)) | d => d) = (useR c.T v.h r).map D.int := by
        rw [useR, List.map_map, List.map_map]; rfl
      rw [e5]
      simp [l2]
      refine ⟨.val false (.int i), .val false (.int v.h), ?_, rfl, rfl⟩
      rw [take_next e3]
      simp [rowD]
  · rintro _ ⟨s7, s8, rfl, h7, h8⟩
    rw [show c.ways.length = (c.ways.zip c.rooms).length by simp; omega, List.take_length]
    refine sat_cons ?_
    simp
    simpa [useC, Cal.d, Function.comp_def] using k
theorem turnR_len {T h : Int} {r : List Int} (t0 : 0 ≤ T) : ((turnR T h r).length : Int) = T + 1 := by simp [turnR]; omega
theorem turn_ok {c : Cal} (hc : c.Ok) : (turnC c).Ok where
  m0 := hc.m0
  m1 := hc.m1
  t0 := hc.t0
  t1 := hc.t1
  wl := by simpa [turnC] using hc.wl
  wok := fun v hv => by
    obtain ⟨u, hu, rfl⟩ := List.mem_map.mp hv
    have := hc.wok u hu
    exact ⟨by have := this.t1; show 0 ≤ c.m - 1 - u.t; omega, by have := this.t0; show c.m - 1 - u.t < c.m; omega, by have := this.s1; show 0 ≤ c.m - 1 - u.s; omega, by have := this.s0; show c.m - 1 - u.s < c.m; omega, by have := this.ne; show c.m - 1 - u.t ≠ c.m - 1 - u.s; omega, this.h0, this.h1⟩
  rl := by simp [turnC, hc.rl]
  rok := fun r hr => by
    obtain ⟨p, _, rfl⟩ := List.mem_map.mp hr
    exact turnR_len hc.t0
  al := by simpa [turnC] using hc.al
  aok := fun r hr => by
    obtain ⟨o, ho, e⟩ := List.mem_map.mp hr
    cases o with
    | none => cases e
    | some q => 
      have := hc.aok q (List.mem_reverse.mp ho)
      injection e with e; subst e; simpa [turnC] using this
theorem turnR_twice {T h : Int} {r : List Int} (t0 : 0 ≤ T) (h0 : 1 ≤ h) : turnR T h (turnR T h r) = useR T h r := by
  unfold useR
  rw [turnR]
  refine List.map_congr_left fun i hi => ?_
  rw [List.mem_range] at hi
  by_cases e : (i : Int) + h ≤ T
  · rw [if_pos e, if_pos e, turnR]
    have hk : (T - (i : Int) - h).toNat < (T + 1).toNat := by omega
    rw [List.getD_eq_getElem?_getD, List.getElem?_map, List.getElem?_range hk]
    simp only [Option.map_some, Option.getD_some]
    rw [if_pos (by omega), show (T - ((T - (i : Int) - h).toNat : Int) - h).toNat = i by omega]
    omega
  · rw [if_neg e, if_neg e]; omega
theorem turn_twice {c : Cal} (hc : c.Ok) : turnC (turnC c) = useC c := by
  have e1 : (c.ways.map (turnW c.m)).map (turnW c.m) = c.ways := by
    rw [List.map_map]
    conv => rhs; rw [← List.map_id c.ways]
    refine List.map_congr_left fun v _ => ?_
    show Rd3.mk _ _ _ = v
    cases v
    simp only [turnW]
    congr 1 <;> omega
  have e2 : ((c.ways.map (turnW c.m)).zip ((c.ways.zip c.rooms).map fun p => turnR c.T p.1.h p.2)).map (fun p => turnR c.T p.1.h p.2) = (c.ways.zip c.rooms).map fun p => useR c.T p.1.h p.2 := by
    refine List.ext_getElem (by simp) fun i h1 h2 => ?_
    simp at h1 h2
    simp only [List.getElem_map, List.getElem_zip]
    refine turnR_twice hc.t0 ?_
    exact (hc.wok _ (List.getElem_mem _)).h0
  have e3 : (c.waits.reverse.map (·.map (·.reverse))).reverse.map (·.map (·.reverse)) = c.waits := by
    rw [← List.map_reverse, List.reverse_reverse, List.map_map]
    conv => rhs; rw [← List.map_id c.waits]
    refine List.map_congr_left fun o _ => ?_
    cases o <;> simp
  simp only [turnC, useC, e1, e2, e3]
theorem lateR_eq {T : Int} {h : Nat} {v : Rd3} {r : List Int} (hs : 0 ≤ v.s) (hh : (h : Int) ≤ T) (hr : (r.length : Int) = T + 1) : (List.range (T + 1).toNat).map (fun (k : Nat) => r.getD k 0 * (if 0 < v.s ∨ (h : Int) ≤ (k : Int) then 1 else 0)) = lateR h v r := by
  unfold lateR
  by_cases e : v.s = 0
  · rw [if_pos e]
    refine List.ext_getElem (by simp; omega) fun i h1 h2 => ?_
    simp at h1
    simp only [List.getElem_map, List.getElem_range]
    by_cases hi : i < h
    · rw [List.getElem_append_left (by simpa using hi)]
      rw [if_neg (by omega)]; simp
    · rw [List.getElem_append_right (by simpa using hi)]
      rw [if_pos (by omega)]
      simp
      rw [List.getElem?_eq_getElem (by omega)]
      simp
      congr 1; omega
  · rw [if_neg e]
    refine List.ext_getElem (by simp; omega) fun i h1 h2 => ?_
    simp at h1
    simp only [List.getElem_map, List.getElem_range]
    rw [if_pos (by omega), List.getD_eq_getElem?_getD, List.getElem?_eq_getElem (by omega)]
    simp

end T
end

section
set_option Elab.async false
set_option linter.all false
set_option maxRecDepth 100000
namespace T
open HH
def JO (c : Cal) (y : Int) (r : List D) (ρ : List Sl) : Prop := ∃ (x z : Int) (s7 s8 s9 s10 s11 s12 : Sl), ρ = [.own false [.int x, .int y, .int z], .val false c.d, .val false (.int c.m), .val false (.int c.T), .val false (.tup (c.ways.map Rd3.d)), .val false (.tup (c.rooms.map rowD)), .val false (.tup (c.waits.map owD)), s7, s8, s9, s10, s11, s12, .unb] ∧ (fr s7 = true ∧ fr s8 = true ∧ fr s9 = true ∧ fr s10 = true ∧ fr s11 = true ∧ fr s12 = true) ∧ ∀ d ∈ r, ∃ h : Nat, d = .int h ∧ (h : Int) ≤ c.T
def JL (h : Nat) (a0 a1 a2 a3 a4 a5 a6 a7 a8 a9 a13 : Sl) (zs : List (Rd3 × List Int)) (r : List D) (ρ : List Sl) : Prop := ∃ (ds us : List (Rd3 × List Int)) (s11 s12 : Sl), ρ = [a0, a1, a2, a3, a4, a5, a6, a7, a8, a9, .own false ((ds.map fun p => lateR h p.1 p.2).map rowD), s11, s12, a13] ∧ (fr s11 = true ∧ fr s12 = true) ∧ r = (us.map fun p => D.tup [p.1.d, rowD p.2]) ∧ ds ++ us = zs
set_option maxHeartbeats 1000000 in
theorem one_sat {w n : Nat} {x y z : Int} {Q : R → List Sl → Prop} (k : ∀ s, Q (.val (.bl true)) [s]) :
    (run Γ w (n + 5) 14 [.own false [.int x, .int y, .int z]]).sat Q := by
  refine sat_run (d := f14) rfl rfl (by decide) ?_
  refine sat_cons ?_
  simp [f14]
  refine calendar_sat fun c x z hc => ?_
  have hrl := hc.rl
  have hwl := hc.wl
  have hal := hc.al
  have m0 := hc.m0
  have m1 := hc.m1
  have t0 := hc.t0
  have t1 := hc.t1
  have hT1 : c.T + 1 ≤ 1000000000 := by omega
  have hT2 : -1000000000 ≤ c.T + 1 := by omega
  have hTl : (c.T + 1).toNat ≤ lim := by show _ ≤ 16777216; omega
  have hzl : min c.ways.length c.rooms.length ≤ lim := by show _ ≤ 16777216; omega
  have hrlim : c.rooms.length ≤ lim := by show _ ≤ 16777216; omega
  have halim : c.waits.length ≤ lim := by show _ ≤ 16777216; omega
  simp
  refine sat_cons ?_
  simp
  simp [Cal.d]
  rw [show D.tup [.int c.m, .int c.T, .tup (c.ways.map Rd3.d), .tup (c.rooms.map rowD), .tup (c.waits.map owD)] = c.d from rfl]
  refine sat_cons ?_
  simp
  refine next_sat (by omega) (lt_big (by omega)) fun e x z e0 e1 => ?_
  simp
  refine sat_forT (JO c y) ?_ ?_ ⟨x, z, .unb, .unb, .unb, .unb, .unb, .unb, rfl, ⟨rfl, rfl, rfl, rfl, rfl, rfl⟩, fun d hd => ?_⟩
  rotate_left 2
  · simp at hd
    rcases hd with rfl | rfl | rfl
    · exact ⟨0, rfl, by simpa using t0⟩
    · exact ⟨c.T.toNat, by congr 1; omega, by omega⟩
    · exact ⟨e.toNat, by congr 1; omega, by omega⟩
  · rintro d r _ ⟨x, z, s7, s8, s9, s10, s11, s12, rfl, ⟨h7, h8, h9, h10, h11, h12⟩, hd⟩
    obtain ⟨h, rfl, hh⟩ := hd d (by simp)
    simp [h7]
    refine sat_cons ?_
    simp [hrlim]
    refine sat_compM (fun ρ => ∃ s, ρ = [.own false [.int x, .int y, .int z], .val false c.d, .val false (.int c.m), .val false (.int c.T), .val false (.tup (c.ways.map Rd3.d)), .val false (.tup (c.rooms.map rowD)), .val false (.tup (c.waits.map owD)), .val false (.int h), s8, s9, s10, s11, s12, .unb, s] ∧ fr s = true) (tD1 h) ⟨.unb, rfl, rfl⟩ ?_ ?_
    · rintro d hd _ ⟨s, rfl, hs⟩
      obtain ⟨q, hq, hdq⟩ := List.mem_map.mp hd
      have hqq := hc.rok q hq
      simp [hs]
      refine ahead_satD (o := some q) (M := (h : Int) + 1) (N := h + 1) (by omega) hdq.symm (by simp) (by omega) (fun r' e => by cases e; omega) ?_
      subst hdq
      simp [owD, rowD, tD1]
    rintro _ ⟨s, rfl, hs⟩
    simp [h8]
    refine sat_cons ?_
    simp [halim]
    refine sat_compM (fun ρ => ∃ s, ρ = [.own false [.int x, .int y, .int z], .val false c.d, .val false (.int c.m), .val false (.int c.T), .val false (.tup (c.ways.map Rd3.d)), .val false (.tup (c.rooms.map rowD)), .val false (.tup (c.waits.map owD)), .val false (.int h), .val false (.tup (c.rooms.map (tD1 h ∘ rowD))), s9, s10, s11, s12, .unb, s] ∧ fr s = true) (tD2 h) ⟨.unb, by simp, rfl⟩ ?_ ?_
    · rintro d hd _ ⟨s, rfl, hs⟩
      obtain ⟨o, ho, hdo⟩ := List.mem_map.mp hd
      simp [hs]
      refine ahead_satD (o := o) (M := (h : Int)) (N := h) (by omega) hdo.symm (by rfl) (by omega) (fun r' e => by subst e; have := hc.aok r' ho; omega) ?_
      subst hdo
      cases o <;> simp [owD, rowD, tD2]
    rintro _ ⟨s, rfl, hs⟩
    simp [h9]
    refine sat_cons ?_
    simp [h10]
    refine sat_cons ?_
    simp
    rw [zip_W]
    refine sat_forT (JL h _ _ _ _ _ _ _ _ _ _ _ (c.ways.zip c.rooms)) ?_ ?_ ⟨[], c.ways.zip c.rooms, s11, s12, rfl, ⟨h11, h12⟩, rfl, rfl⟩
    · rintro d r' _ ⟨ds, us, s11, s12, rfl, ⟨h11, h12⟩, hr, hz⟩
      cases us with
      | nil => cases hr
      | cons p us =>
        obtain ⟨rfl, rfl⟩ : d = D.tup [p.1.d, rowD p.2] ∧ r' = (us.map fun p => D.tup [p.1.d, rowD p.2]) := by simpa using hr
        have hp : p ∈ c.ways.zip c.rooms := by rw [← hz]; simp
        obtain ⟨v, q⟩ := p
        have hqq := hc.rok q (List.of_mem_zip hp).2
        have hvv := hc.wok v (List.of_mem_zip hp).1
        have hv0 := hvv.s0
        have hdl : ds.length < lim := by
          have := congrArg List.length hz
          simp at this
          show _ < 16777216; omega
        simp [h11, h12]
        refine sat_cons ?_
        simp [hT1, hT2, hTl]
        refine sat_compM (fun ρ => ∃ s, ρ = [.own false [.int x, .int y, .int z], .val false c.d, .val false (.int c.m), .val false (.int c.T), .val false (.tup (c.ways.map Rd3.d)), .val false (.tup (c.rooms.map rowD)), .val false (.tup (c.waits.map owD)), .val false (.int h), .val false (.tup (c.rooms.map (tD1 h ∘ rowD))), .val false (.tup (c.waits.map (tD2 h ∘ owD))), .own false ((ds.map fun p => lateR h p.1 p.2).map rowD), .val false v.d, .val false (rowD q), .unb, s] ∧ fr s = true) (fun d => match d with | .int j => .int (q.getD j.toNat 0 * (if 0 < v.s ∨ (h : Int) ≤ j then 1 else 0)) | d => d) ⟨.unb, by simp, rfl⟩ ?_ ?_
        · rintro d hd _ ⟨s, rfl, hs⟩
          obtain ⟨j, hj, rfl⟩ := List.mem_map.mp hd
          rw [List.mem_range] at hj
          have e4 : at' (q.map D.int) (j : Int) = some (.int (q.getD j 0)) := by
            have := getD_row (r := q) (i := (j : Int)) (by omega) (by omega)
            simpa using this
          by_cases e : 0 < v.s
          · simp [hs, rowD, e4, rd_0, e, blt]
          · by_cases e' : h ≤ j
            · simp [hs, rowD, e4, rd_0, e, e', blt]
            · simp [hs, rowD, e4, rd_0, e, e', blt]
        · rintro _ ⟨s, rfl, hs⟩
          have e5 : ((List.range (c.T + 1).toNat).map fun (k : Nat) => D.int (k : Int)).map (fun d => match d with | .int j => D.int (q.getD j.toNat 0 * (if 0 < v.s ∨ (h : Int) ≤ j then 1 else 0)) | d => d) = (lateR h v q).map D.int := by
            rw [← lateR_eq hv0 hh hqq, List.map_map, List.map_map]; rfl
          rw [e5]
          simp [hdl]
          refine ⟨ds ++ [(v, q)], us, .val false v.d, .val false (rowD q), by simp [rowD], ⟨rfl, rfl⟩, rfl, by simpa using hz⟩
    rintro _ ⟨ds, us, s11, s12, rfl, ⟨h11, h12⟩, hr, hz⟩
    have : us = [] := by cases us with | nil => rfl | cons _ _ => cases hr
    subst this
    rw [List.append_nil] at hz
    subst hz
    refine sat_cons ?_
    simp
    refine till_sat hc ?_
    simp
    have e1 : D.tup [.int c.m, .int h, .tup (c.ways.map Rd3.d), .tup (c.rooms.map (tD1 h ∘ rowD)), .tup (c.waits.map (tD2 h ∘ owD))] = (tillC c h).d := by
      have e1 : (c.rooms.map (tD1 h ∘ rowD)) = (c.rooms.map (·.take (h + 1))).map rowD := by
        rw [List.map_map]; refine List.map_congr_left fun r _ => ?_; simp [tD1, rowD]
      have e2 : (c.waits.map (tD2 h ∘ owD)) = (c.waits.map (·.map (·.take h))).map owD := by
        rw [List.map_map]; refine List.map_congr_left fun r _ => ?_
        cases r <;> simp [tD2, rowD, owD]
      rw [e1, e2]; rfl
    rw [e1]
    have hp1 : Pq 3 (tillC c h).d := by
      refine pq_cal ?_ ?_ ?_ (fun r hr => ?_) fun r hr => ?_
      · show c.ways.length ≤ 1000; omega
      · simp [tillC]; omega
      · simp [tillC]; omega
      · obtain ⟨q, hq, rfl⟩ := List.mem_map.mp hr
        have := hc.rok q hq
        rw [List.length_take]; omega
      · obtain ⟨o, ho, e⟩ := List.mem_map.mp hr
        cases o with
        | none => cases e
        | some q =>
          injection e with e; subst e
          have := hc.aok q ho
          rw [List.length_take]; omega
    refine same_okN (k := 3) (by omega) hp1 ?_
    simp
    refine sat_cons ?_
    simp
    refine late_sat hc (by omega) ?_
    simp
    have e2 : D.tup [.int c.m, .int c.T, .tup (c.ways.map Rd3.d), .tup ((c.ways.zip c.rooms).map (rowD ∘ fun p => lateR h p.1 p.2)), .tup (c.waits.map owD)] = (lateC c h).d := by
      simp [lateC, Cal.d]
    rw [e2]
    have hp2 : Pq 3 (lateC c h).d := by
      refine pq_cal ?_ ?_ ?_ (fun r hr => ?_) fun r hr => ?_
      · show c.ways.length ≤ 1000; omega
      · simp [lateC]; omega
      · show c.waits.length ≤ 1000; omega
      · obtain ⟨p, hp, rfl⟩ := List.mem_map.mp hr
        have := hc.rok p.2 (List.of_mem_zip hp).2
        simp only [lateR]
        split
        · simp; omega
        · omega
      · have := hc.aok r hr; omega
    refine same_okN (k := 3) (by omega) hp2 ?_
    simp
    exact ⟨x, z, _, _, _, _, _, _, rfl, ⟨rfl, rfl, rfl, rfl, h11, h12⟩, fun d hd' => hd d (List.mem_cons_of_mem _ hd')⟩
  rintro _ ⟨x, z, s7, s8, s9, s10, s11, s12, rfl, ⟨h7, h8, h9, h10, h11, h12⟩, hd⟩
  have hp0 : ∀ c : Cal, c.Ok → Pq 3 c.d := fun c hc => by
    have hrl := hc.rl
    have hwl := hc.wl
    have hal := hc.al
    have m1 := hc.m1
    have t1 := hc.t1
    refine pq_cal (by omega) (by omega) (by omega) (fun r hr => ?_) fun r hr => ?_
    · have := hc.rok r hr; omega
    · have := hc.aok r hr; omega
  refine sat_cons ?_
  simp
  refine turned_sat hc ?_
  simp
  refine sat_cons ?_
  simp
  refine lturned_sat hc ?_
  simp
  refine same_okN (k := 3) (by omega) (hp0 _ (turn_ok hc)) ?_
  simp
  refine turned_sat (turn_ok hc) ?_
  simp
  refine useful_sat hc ?_
  rw [← turn_twice hc]
  simp
  refine same_okN (k := 3) (by omega) (hp0 _ (turn_ok (turn_ok hc))) ?_
  simp
  exact k _
def J59 (v : Sl) (r : List D) (ρ : List Sl) : Prop := ∃ s1, ρ = [v, s1] ∧ fr s1 = true ∧ ∀ d ∈ r, ∃ i, d = D.int i
theorem law_run (ns : List Int) (hn : ns.length ≤ 63) : ∃ as, run Γ 1000 40 15 [.val false (.lst (ns.map D.int))] = .ok (.val (.bl true)) as := by
  suffices h : (run Γ 1000 40 15 [.val false (.lst (ns.map D.int))]).sat fun r _ => r = .val (.bl true) by
    obtain ⟨a, ρ, e, rfl⟩ := sat_iff.mp h
    exact ⟨ρ, e⟩
  refine sat_run (d := f15) rfl rfl (by decide) ?_
  refine sat_cons ?_
  have ec : cut (ns.map D.int) none (some 63) = ns.map D.int := by
    unfold cut sIx
    simp
    exact List.take_of_length_le (by simp; omega)
  have hl : 1 + ns.length ≤ lim := by show _ ≤ 16777216; omega
  simp [f15, sl3, part, isNC, ec, hl]
  refine sat_forT (J59 (.val false (.lst (ns.map D.int)))) ?_ ?_ ?_
  · rintro d r _ ⟨s1, rfl, h1, hd⟩
    obtain ⟨x, rfl⟩ := hd d (by simp)
    simp [h1]
    refine sat_cons ?_
    simp
    refine pool_sat fun a b c => ?_
    simp
    refine one_sat fun s => ?_
    simp
    exact ⟨_, rfl, rfl, fun d h => hd d (List.mem_cons_of_mem _ h)⟩
  · rintro _ ⟨s1, rfl, h1, hd⟩
    refine sat_cons ?_
    simp
  · refine ⟨.unb, rfl, rfl, fun d hd => ?_⟩
    simp at hd
    rcases hd with rfl | ⟨i, _, rfl⟩
    · exact ⟨_, rfl⟩
    · exact ⟨_, rfl⟩

end T
end
namespace T
open PySem L2 PySem.Spec PyProof.Rows HH
structure Txt (K : PySem.W.Frag) : Prop where
  D0 : DefIn K "till_calendar" s0
  D1 : DefIn K "late_calendar" s1
  D2 : DefIn K "turned_rooms" s2
  D3 : DefIn K "turned_calendar" s3
  D4 : DefIn K "_law_pool" s4
  D5 : DefIn K "_law_next" s5
  D6 : DefIn K "_law_wide" s6
  D7 : DefIn K "_law_roads" s7
  D8 : DefIn K "_law_calendar" s8
  D9 : DefIn K "_law_same" s9
  D10 : DefIn K "_law_room" s10
  D11 : DefIn K "_law_turned" s11
  D12 : DefIn K "_law_useful" s12
  D13 : DefIn K "_law_ahead" s13
  D14 : DefIn K "_law_one" s14
  D15 : DefIn K "law" s15
  B_abs : PySem.W.nsIn K mainGlobals "abs" = some none
  B_all : PySem.W.nsIn K mainGlobals "all" = some none
  B_bool : PySem.W.nsIn K mainGlobals "bool" = some none
  B_int : PySem.W.nsIn K mainGlobals "int" = some none
  B_isinstance : PySem.W.nsIn K mainGlobals "isinstance" = some none
  B_len : PySem.W.nsIn K mainGlobals "len" = some none
  B_max : PySem.W.nsIn K mainGlobals "max" = some none
  B_range : PySem.W.nsIn K mainGlobals "range" = some none
  B_reversed : PySem.W.nsIn K mainGlobals "reversed" = some none
  B_tuple : PySem.W.nsIn K mainGlobals "tuple" = some none
  B_zip : PySem.W.nsIn K mainGlobals "zip" = some none
structure Oks (Pg : Program) (w : World) (K : PySem.W.Frag) (mg : Str → Option Value) (base : Heap) (n : Nat) : Prop where
  c0 : CallOk Pg w K mg base n (run Γ 1000 n) 0 "till_calendar" 2
  c1 : CallOk Pg w K mg base n (run Γ 1000 n) 1 "late_calendar" 2
  c2 : CallOk Pg w K mg base n (run Γ 1000 n) 2 "turned_rooms" 3
  c3 : CallOk Pg w K mg base n (run Γ 1000 n) 3 "turned_calendar" 1
  c4 : CallOk Pg w K mg base n (run Γ 1000 n) 4 "_law_pool" 1
  c5 : CallOk Pg w K mg base n (run Γ 1000 n) 5 "_law_next" 2
  c6 : CallOk Pg w K mg base n (run Γ 1000 n) 6 "_law_wide" 2
  c7 : CallOk Pg w K mg base n (run Γ 1000 n) 7 "_law_roads" 2
  c8 : CallOk Pg w K mg base n (run Γ 1000 n) 8 "_law_calendar" 1
  c9 : CallOk Pg w K mg base n (run Γ 1000 n) 9 "_law_same" 2
  c10 : CallOk Pg w K mg base n (run Γ 1000 n) 10 "_law_room" 2
  c11 : CallOk Pg w K mg base n (run Γ 1000 n) 11 "_law_turned" 1
  c12 : CallOk Pg w K mg base n (run Γ 1000 n) 12 "_law_useful" 1
  c13 : CallOk Pg w K mg base n (run Γ 1000 n) 13 "_law_ahead" 2
  c14 : CallOk Pg w K mg base n (run Γ 1000 n) 14 "_law_one" 1
  c15 : CallOk Pg w K mg base n (run Γ 1000 n) 15 "law" 1
set_option maxHeartbeats 0 in
theorem all_ok {Pg : Program} {w : World} {K : PySem.W.Frag} {mg : Str → Option Value} {base h : Heap} (T : Txt K) (X : K.In h) (G : h.Ns mainGlobals mg) : ∀ n, Oks Pg w K mg base n
  | 0 => {
    c0 := call0 (ps := ["calendar", "hour"]) X G T.D0 rfl (fun _ _ _ _ _ _ us hl => match us, hl with | [_, _], _ => rfl)
    c1 := call0 (ps := ["calendar", "hour"]) X G T.D1 rfl (fun _ _ _ _ _ _ us hl => match us, hl with | [_, _], _ => rfl)
    c2 := call0 (ps := ["last", "hours", "row"]) X G T.D2 rfl (fun _ _ _ _ _ _ us hl => match us, hl with | [_, _, _], _ => rfl)
    c3 := call0 (ps := ["calendar"]) X G T.D3 rfl (fun _ _ _ _ _ _ us hl => match us, hl with | [_], _ => rfl)
    c4 := call0 (ps := ["cell"]) X G T.D4 rfl (fun _ _ _ _ _ _ us hl => match us, hl with | [_], _ => rfl)
    c5 := call0 (ps := ["pool", "base"]) X G T.D5 rfl (fun _ _ _ _ _ _ us hl => match us, hl with | [_, _], _ => rfl)
    c6 := call0 (ps := ["pool", "base"]) X G T.D6 rfl (fun _ _ _ _ _ _ us hl => match us, hl with | [_, _], _ => rfl)
    c7 := call0 (ps := ["pool", "many"]) X G T.D7 rfl (fun _ _ _ _ _ _ us hl => match us, hl with | [_, _], _ => rfl)
    c8 := call0 (ps := ["pool"]) X G T.D8 rfl (fun _ _ _ _ _ _ us hl => match us, hl with | [_], _ => rfl)
    c9 := call0 (ps := ["found", "due"]) X G T.D9 rfl (fun _ _ _ _ _ _ us hl => match us, hl with | [_, _], _ => rfl)
    c10 := call0 (ps := ["one", "hour"]) X G T.D10 rfl (fun _ _ _ _ _ _ us hl => match us, hl with | [_, _], _ => rfl)
    c11 := call0 (ps := ["calendar"]) X G T.D11 rfl (fun _ _ _ _ _ _ us hl => match us, hl with | [_], _ => rfl)
    c12 := call0 (ps := ["calendar"]) X G T.D12 rfl (fun _ _ _ _ _ _ us hl => match us, hl with | [_], _ => rfl)
    c13 := call0 (ps := ["one", "many"]) X G T.D13 rfl (fun _ _ _ _ _ _ us hl => match us, hl with | [_, _], _ => rfl)
    c14 := call0 (ps := ["pool"]) X G T.D14 rfl (fun _ _ _ _ _ _ us hl => match us, hl with | [_], _ => rfl)
    c15 := call0 (ps := ["script"]) X G T.D15 rfl (fun _ _ _ _ _ _ us hl => match us, hl with | [_], _ => rfl)
  }
  | n + 1 =>
    have ih := all_ok (Pg := Pg) (w := w) (base := base) T X G n
    {
      c0 := callS (ps := ["calendar", "hour"]) X G T.D0 rfl rfl (fun _ _ _ _ _ _ us hl => match us, hl with | [_, _], _ => rfl) fun _ _ F => d0 F (PySem.W.mg_none_of X G T.B_tuple)
      c1 := callS (ps := ["calendar", "hour"]) X G T.D1 rfl rfl (fun _ _ _ _ _ _ us hl => match us, hl with | [_, _], _ => rfl) fun _ _ F => d1 F (PySem.W.mg_none_of X G T.B_tuple) (PySem.W.mg_none_of X G T.B_zip)
      c2 := callS (ps := ["last", "hours", "row"]) X G T.D2 rfl rfl (fun _ _ _ _ _ _ us hl => match us, hl with | [_, _, _], _ => rfl) fun _ _ F => d2 F (PySem.W.mg_none_of X G T.B_range) (PySem.W.mg_none_of X G T.B_tuple)
      c3 := callS (ps := ["calendar"]) X G T.D3 rfl rfl (fun _ _ _ _ _ _ us hl => match us, hl with | [_], _ => rfl) fun _ _ F => d3 F (PySem.W.mg_none_of X G T.B_reversed) (PySem.W.mg_none_of X G T.B_tuple) (PySem.W.mg_none_of X G T.B_zip) ih.c2
      c4 := callS (ps := ["cell"]) X G T.D4 rfl rfl (fun _ _ _ _ _ _ us hl => match us, hl with | [_], _ => rfl) fun _ _ F => d4 F (PySem.W.mg_none_of X G T.B_abs) (PySem.W.mg_none_of X G T.B_max)
      c5 := callS (ps := ["pool", "base"]) X G T.D5 rfl rfl (fun _ _ _ _ _ _ us hl => match us, hl with | [_, _], _ => rfl) fun _ _ F => d5 F
      c6 := callS (ps := ["pool", "base"]) X G T.D6 rfl rfl (fun _ _ _ _ _ _ us hl => match us, hl with | [_, _], _ => rfl) fun _ _ F => d6 F ih.c5
      c7 := callS (ps := ["pool", "many"]) X G T.D7 rfl rfl (fun _ _ _ _ _ _ us hl => match us, hl with | [_, _], _ => rfl) fun _ _ F => d7 F (PySem.W.mg_none_of X G T.B_len) (PySem.W.mg_none_of X G T.B_range) ih.c5 ih.c6
      c8 := callS (ps := ["pool"]) X G T.D8 rfl rfl (fun _ _ _ _ _ _ us hl => match us, hl with | [_], _ => rfl) fun _ _ F => d8 F (PySem.W.mg_none_of X G T.B_int) (PySem.W.mg_none_of X G T.B_range) (PySem.W.mg_none_of X G T.B_tuple) ih.c5 ih.c7 ih.c6
      c9 := callS (ps := ["found", "due"]) X G T.D9 rfl rfl (fun _ _ _ _ _ _ us hl => match us, hl with | [_, _], _ => rfl) fun _ _ F => d9 F (PySem.W.mg_none_of X G T.B_all) (PySem.W.mg_none_of X G T.B_bool) (PySem.W.mg_none_of X G T.B_int) (PySem.W.mg_none_of X G T.B_isinstance) (PySem.W.mg_none_of X G T.B_len) (PySem.W.mg_none_of X G T.B_tuple) (PySem.W.mg_none_of X G T.B_zip) ih.c9
      c10 := callS (ps := ["one", "hour"]) X G T.D10 rfl rfl (fun _ _ _ _ _ _ us hl => match us, hl with | [_, _], _ => rfl) fun _ _ F => d10 F (PySem.W.mg_none_of X G T.B_len)
      c11 := callS (ps := ["calendar"]) X G T.D11 rfl rfl (fun _ _ _ _ _ _ us hl => match us, hl with | [_], _ => rfl) fun _ _ F => d11 F (PySem.W.mg_none_of X G T.B_len) (PySem.W.mg_none_of X G T.B_range) (PySem.W.mg_none_of X G T.B_tuple) ih.c10
      c12 := callS (ps := ["calendar"]) X G T.D12 rfl rfl (fun _ _ _ _ _ _ us hl => match us, hl with | [_], _ => rfl) fun _ _ F => d12 F (PySem.W.mg_none_of X G T.B_int) (PySem.W.mg_none_of X G T.B_len) (PySem.W.mg_none_of X G T.B_range) (PySem.W.mg_none_of X G T.B_tuple)
      c13 := callS (ps := ["one", "many"]) X G T.D13 rfl rfl (fun _ _ _ _ _ _ us hl => match us, hl with | [_, _], _ => rfl) fun _ _ F => d13 F (PySem.W.mg_none_of X G T.B_range) (PySem.W.mg_none_of X G T.B_tuple)
      c14 := callS (ps := ["pool"]) X G T.D14 rfl rfl (fun _ _ _ _ _ _ us hl => match us, hl with | [_], _ => rfl) fun _ _ F => d14 F (PySem.W.mg_none_of X G T.B_int) (PySem.W.mg_none_of X G T.B_range) (PySem.W.mg_none_of X G T.B_tuple) (PySem.W.mg_none_of X G T.B_zip) ih.c13 ih.c8 ih.c5 ih.c9 ih.c11 ih.c12 ih.c1 ih.c0 ih.c3
      c15 := callS (ps := ["script"]) X G T.D15 rfl rfl (fun _ _ _ _ _ _ us hl => match us, hl with | [_], _ => rfl) fun _ _ F => d15 F ih.c14 ih.c4
    }
theorem gin {K : PySem.W.Frag} {x : Str} {i : Int} {t : Tok} (a : PySem.W.nsIn K mainGlobals x = some (some (Value.int i t))) : ∃ t, PySem.W.nsIn K mainGlobals x = some (some (Value.int i t)) := ⟨t, a⟩
set_option maxHeartbeats 0 in
theorem law_fn {Pg : Program} {w : World} {K : PySem.W.Frag} {mg : Str → Option Value} {h : Heap} {fa : Addr} (T : Txt K) (X : K.In h) (G : h.Ns mainGlobals mg) (hmg : mg "law" = some (.ref fa)) :
    ∃ fd : FuncData, (∀ (s : Shared) (u : Value), BindsTo s fd ⟨[u], []⟩ [("script", u)]) ∧ ∀ base : Heap, K.In base → base.Ns mainGlobals mg → FnOk Pg w K mg base CX0 40 fa fd ["script"] (spC K 1 (run Γ 1000 40 15)) := by
  obtain ⟨f, fd, a, F⟩ := T.D15.ex
  have e := hmg.symm.trans (PySem.W.mg_of X G a)
  cases e
  refine ⟨fd, fun s u => ?_, fun base kb nb => ?_⟩
  · obtain ⟨oc, od, kV, doc, pm, an, cdv, ct, osl, rfl, lk, hcd⟩ := F.ex
    exact .of_eq rfl
  · have ih := all_ok (Pg := Pg) (w := w) (base := base) T kb nb 39
    exact d15 (k := 39) (n := 1000) (c := run Γ 1000 39) F ih.c14 ih.c4
end T
open PySem PySem.W PyProof.Rows
set_option maxRecDepth 100000 in
set_option maxHeartbeats 0 in
theorem PySem.Challenge.cw_hourhaul_k59_calendars_till_late_turned_holds : PySem.Challenge.rw_hourhaul_k59_calendars_till_late_turned.Holds := by
  w_on; o_law; k_head; (case hw => w_witness2)
  k_fill
  refine L2.walk_ofK (l := PySem.Challenge.rw_hourhaul_k59_calendars_till_late_turned) (n := 63) (k := 40) (x := "script") (CX := L2.CX0) (sp := fun K => HH.spC K 1 (HH.run T.Γ 1000 40 15)) rfl (by decide) rfl ⟨rfl, by decide, by decide⟩ (fun w h Y => PySem.W.kIn_of Y) ?F ?S ?C
  case F =>
    intro w mg fa h KX G hmg
    refine T.law_fn ?T KX G hmg
    constructor
    · (refine' HH.def_in ?a ?l ?c ?k); (case a => k_is); (case l => k_is); (case c => k_is); (case k => k_is)
    · (refine' HH.def_in ?a ?l ?c ?k); (case a => k_is); (case l => k_is); (case c => k_is); (case k => k_is)
    · (refine' HH.def_in ?a ?l ?c ?k); (case a => k_is); (case l => k_is); (case c => k_is); (case k => k_is)
    · (refine' HH.def_in ?a ?l ?c ?k); (case a => k_is); (case l => k_is); (case c => k_is); (case k => k_is)
    · (refine' HH.def_in ?a ?l ?c ?k); (case a => k_is); (case l => k_is); (case c => k_is); (case k => k_is)
    · (refine' HH.def_in ?a ?l ?c ?k); (case a => k_is); (case l => k_is); (case c => k_is); (case k => k_is)
    · (refine' HH.def_in ?a ?l ?c ?k); (case a => k_is); (case l => k_is); (case c => k_is); (case k => k_is)
    · (refine' HH.def_in ?a ?l ?c ?k); (case a => k_is); (case l => k_is); (case c => k_is); (case k => k_is)
    · (refine' HH.def_in ?a ?l ?c ?k); (case a => k_is); (case l => k_is); (case c => k_is); (case k => k_is)
    · (refine' HH.def_in ?a ?l ?c ?k); (case a => k_is); (case l => k_is); (case c => k_is); (case k => k_is)
    · (refine' HH.def_in ?a ?l ?c ?k); (case a => k_is); (case l => k_is); (case c => k_is); (case k => k_is)
    · (refine' HH.def_in ?a ?l ?c ?k); (case a => k_is); (case l => k_is); (case c => k_is); (case k => k_is)
    · (refine' HH.def_in ?a ?l ?c ?k); (case a => k_is); (case l => k_is); (case c => k_is); (case k => k_is)
    · (refine' HH.def_in ?a ?l ?c ?k); (case a => k_is); (case l => k_is); (case c => k_is); (case k => k_is)
    · (refine' HH.def_in ?a ?l ?c ?k); (case a => k_is); (case l => k_is); (case c => k_is); (case k => k_is)
    · (refine' HH.def_in ?a ?l ?c ?k); (case a => k_is); (case l => k_is); (case c => k_is); (case k => k_is)
    · k_is
    · k_is
    · k_is
    · k_is
    · k_is
    · k_is
    · k_is
    · k_is
    · k_is
    · k_is
    · k_is
  case S =>
    intro K H a ns hl hO hS
    obtain ⟨as, e⟩ := T.law_run ns hl
    exact HH.script_ok hS e
  case C => exact fun H s e s' z => z

