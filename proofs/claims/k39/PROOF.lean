import PyProof.Rows.All
import Wide.All
import OpenK.AllK
import Wide.FinOn
import Lean
import PyProof.EqAt
import PyProof.EqKinds
import PyProof.TupleCall
import PySem.Str
import PySem.Builtin.Int.W1All
import PyProof.NeKinds
import PyProof.ZipIter
import PyProof.SumWalkG
import PyProof.MinMaxWalk
import PyProof.WalksMore
import PyProof.SeqI3
import PyProof.WalkInts
import PyProof.Rows.CallKwBuiltin
import PyProof.Rows.Tup
import PyProof.CollectIter
import PyProof.EnumMake
import PyProof.TupleOfSeq
import PyProof.ListNew
import PyProof.ReprLoop
import PyProof.StationsW
import PyProof.ExcClass3
import PyProof.Rows.CatchBare
import OpenK.KOwn
import KE.KIsAll
import PyProof.NsDelKeeps
import PyProof.RulesAs
import PyProof.ExcArgsOwn
import PyProof.ListRange
import KE.RegKIsAll
import PyProof.ExcBaseAll.ValueError
import PySem.Challenge.RW_hourhaul_k39_what_rounds_bring
set_option Elab.async false
set_option linter.all false
set_option maxRecDepth 100000
section
set_option Elab.async false
set_option linter.all false
set_option maxRecDepth 100000
namespace L2
open PySem PySem.Spec PyProof.Rows
noncomputable abbrev Key := Sum Int Str
noncomputable def keyIs : Key → Value → Bool
  | .inl k, v => Value.isInt k v
  | .inr x, v => Value.isStrOf x v
noncomputable def keyH (w : World) : Key → Int
  | .inl k => hashInt k
  | .inr x => hashStr w x
theorem keyIs_shape : ∀ {k : Key} {v : Value}, keyIs k v = true → (∃ i t, k = Sum.inl i ∧ v = Value.int i t) ∨ (∃ x t, k = Sum.inr x ∧ v = Value.str x t)
  | .inl i, v, h => by
    obtain ⟨t, e⟩ := Value.isInt_shape (k := i) (v := v) h
    exact .inl ⟨i, t, rfl, e⟩
  | .inr x, v, h => by
    obtain ⟨t, e⟩ := Value.isStrOf_shape (x := x) (v := v) h
    exact .inr ⟨x, t, rfl, e⟩
theorem key_ll (a b : Int) : decide ((Sum.inl a : Key) = Sum.inl b) = (a == b) := by
  by_cases e : a = b
  · subst e; simp
  · have h : ¬ (Sum.inl a : Key) = Sum.inl b := fun q => e (Sum.inl.inj q)
    rw [decide_eq_false h]
    exact (beq_eq_false_iff_ne.mpr e).symm
theorem key_rr (a b : Str) : decide ((Sum.inr a : Key) = Sum.inr b) = decide (a = b) := by
  by_cases e : a = b
  · subst e; simp
  · have h : ¬ (Sum.inr a : Key) = Sum.inr b := fun q => e (Sum.inr.inj q)
    rw [decide_eq_false h, decide_eq_false e]
theorem key_lr (a : Int) (b : Str) : decide ((Sum.inl a : Key) = Sum.inr b) = false := decide_eq_false (fun q => nomatch q)
theorem key_rl (a : Str) (b : Int) : decide ((Sum.inr a : Key) = Sum.inl b) = false := decide_eq_false (fun q => nomatch q)
noncomputable def mixKind (prog : Program) (w : World) : PySem.KeyKind prog w Key where
  is := keyIs
  hash := keyH w
  inj := fun v a b ha hb => by
    rcases keyIs_shape ha with ⟨i, t, rfl, rfl⟩ | ⟨x, t, rfl, rfl⟩
    · rcases keyIs_shape hb with ⟨j, u, rfl, e⟩ | ⟨y, u, rfl, e⟩
      · injection e with e1 _; rw [e1]
      · exact nomatch e
    · rcases keyIs_shape hb with ⟨j, u, rfl, e⟩ | ⟨y, u, rfl, e⟩
      · exact nomatch e
      · injection e with e1 _; rw [e1]
  byValue := fun k v h => by
    rcases keyIs_shape h with ⟨i, t, rfl, rfl⟩ | ⟨x, t, rfl, rfl⟩ <;> rfl
  pyHash := fun hv h => by
    rcases keyIs_shape hv with ⟨i, t, rfl, rfl⟩ | ⟨x, t, rfl, rfl⟩
    · exact wpAny_pyHash_int h
    · exact wpAny_pyHash_str h
  eqBool := fun hu hv h => by
    rcases keyIs_shape hu with ⟨i, t, rfl, rfl⟩ | ⟨x, t, rfl, rfl⟩
    · rcases keyIs_shape hv with ⟨j, u, rfl, rfl⟩ | ⟨y, u, rfl, rfl⟩
      · rw [key_ll] at h; exact wpAny_eqBool_int h
      · rw [key_lr] at h; exact SeqAt.EqAt.int_str i t y u _ _ _ _ h
    · rcases keyIs_shape hv with ⟨j, u, rfl, rfl⟩ | ⟨y, u, rfl, rfl⟩
      · rw [key_rl] at h; exact SeqAt.EqAt.str_int x t j u _ _ _ _ h
      · rw [key_rr] at h; exact wpAny_eqBool_str h
  «strs» := fun k x t v h => by
    rcases keyIs_shape h with ⟨i, u, rfl, e⟩ | ⟨y, u, rfl, e⟩
    · exact nomatch e
    · injection e with e1 _
      subst e1
      cases v <;> rfl
end L2
namespace L2
open PySem PySem.Spec PyProof.Rows
inductive V where
  | non | bl (b : Bool) | int (i : Int) | str (x : Str) | byt (b : Array UInt8) | flt (b : UInt64) | ref (a : Addr) | ty (n : String)
  deriving DecidableEq
noncomputable def RelV : V → Value → Prop
  | .non, u => u = Value.none
  | .bl b, u => u = Value.bool b
  | .int i, u => ∃ t, u = Value.int i t
  | .str x, u => ∃ t, u = Value.str x t
  | .byt b, u => ∃ t, u = Value.bytes b t
  | .flt b, u => ∃ t, u = Value.float b t
  | .ref a, u => u = Value.ref a
  | .ty n, u => u = Value.type n
noncomputable abbrev Vals : List V → List Value → Prop := Paired RelV
theorem Vals.length {xs : List V} {us : List Value} (r : Vals xs us) : xs.length = us.length := Paired.length r
theorem Vals.get : ∀ {xs : List V} {us : List Value} {i : Nat} {x : V}, Vals xs us → xs[i]? = some x → ∃ u, us[i]? = some u ∧ RelV x u
  | _, _, _, _, .nil, e => by simp at e
  | _, _, 0, _, .cons r _, e => by simp at e; subst e; exact ⟨_, rfl, r⟩
  | _, _, i + 1, x, .cons _ t, e => by
    obtain ⟨u, h1, h2⟩ := Vals.get (i := i) (x := x) t (by simpa using e)
    exact ⟨u, by simpa using h1, h2⟩
theorem Vals.set {x : V} {u : Value} (r : RelV x u) : ∀ {xs : List V} {us : List Value} (i : Nat), Vals xs us → Vals (xs.set i x) (us.set i u)
  | _, _, _, .nil => .nil
  | _, _, 0, .cons _ t => .cons r t
  | _, _, i + 1, .cons q t => .cons q (Vals.set r i t)
theorem Vals.append : ∀ {xs ys : List V} {us ws : List Value}, Vals xs us → Vals ys ws → Vals (xs ++ ys) (us ++ ws)
  | _, _, _, _, .nil, s => s
  | _, _, _, _, .cons r t, s => .cons r (Vals.append t s)
theorem Vals.take : ∀ {xs : List V} {us : List Value} (n : Nat), Vals xs us → Vals (xs.take n) (us.take n)
  | _, _, 0, _ => .nil
  | _, _, _ + 1, .nil => .nil
  | _, _, n + 1, .cons r t => .cons r (Vals.take n t)
theorem Vals.drop : ∀ {xs : List V} {us : List Value} (n : Nat), Vals xs us → Vals (xs.drop n) (us.drop n)
  | _, _, 0, r => r
  | _, _, _ + 1, .nil => .nil
  | _, _, n + 1, .cons _ t => Vals.drop n t
noncomputable def RelO : Option V → Option Value → Prop
  | some v, some u => RelV v u
  | none, none => True
  | _, _ => False
noncomputable def KV {κ : Type} : List (κ × V) → List (κ × Value) → Prop := Paired fun (p : κ × V) (q : κ × Value) => p.1 = q.1 ∧ RelV p.2 q.2
noncomputable def kV : Key → V
  | .inl i => .int i
  | .inr x => .str x
inductive HO where
  /-- a list -/
  | lst (xs : List V)
  /-- a tuple (never changes) -/
  | tup (xs : List V)
  /-- a dict whose keys are ints and texts; one whose keys are tuples of ints and texts (the empty one is both) -/
  | dK (kvs : List (Key × V)) | dT (kvs : List (List Key × V))
  /-- a set of ints: its members, its size -/
  | set (S : Int → Bool) (n : Nat)
  /-- an instance of the class at C, its dict at dx, its attributes -/
  | ins (C dx : Addr) (fs : List (Str × V))
  /-- the dict of the instance at x -/
  | own (x : Addr)
  /-- the dict of an exception -/
  | xd (fs : List (Str × V))
  /-- a bound method, f of x -/
  | met (f x : Addr)
  /-- a range object lo, lo + 1, .. below hi -/
  | rng (lo hi : Int)
  /-- a thing that is known to the object (the script; a dict while a loop walks it): read, never written while it is so -/
  | frz (o : Obj) (u : HO)
  /-- a code object's table -/
  | tbl (ps : Array Value)
  /-- any other thing, by what is true of its one object (a def of one's own: SetO a S n := HO.ext fun h => ..) -/
  | ext (φ : Heap → Prop)
noncomputable abbrev Hp := Addr → Option HO
noncomputable def upd (H : Hp) (a : Addr) (o : HO) : Hp := fun b => if b = a then some o else H b
theorem upd_same {H : Hp} {a : Addr} {o : HO} : upd H a o a = some o := by unfold upd; rw [if_pos rfl]
theorem upd_ne {H : Hp} {a b : Addr} {o : HO} (h : b ≠ a) : upd H a o b = H b := by unfold upd; rw [if_neg h]
theorem ne_of_none {H : Hp} {a b : Addr} {o : HO} (h : H a = some o) (h' : H b = none) : a ≠ b := by
  intro e; subst e; rw [h] at h'; cases h'
section
variable (P : Program) (w : World)
noncomputable def ObjOk (H : Hp) (h : Heap) (a : Addr) : HO → Prop
  | .lst xs => xs.length ≤ sizeLine ∧ ∃ (its : List Value) (n : Nat), Vals xs its ∧ h.get? a = some { cls := .type "list", data := .seq its.toArray n }
  | .tup xs => xs.length ≤ sizeLine ∧ ∃ its : List Value, Vals xs its ∧ IsTup h a its.toArray
  | .dK kvs => kvs.length ≤ sizeLine ∧ (a == sysModules) = false ∧ ∃ vs, KV kvs vs ∧ h.DictOf (mixKind P w) a vs
  | .dT kvs => kvs.length ≤ sizeLine ∧ (a == sysModules) = false ∧ ∃ xs : List (List Key × Addr × Value),
      Paired (fun (p : List Key × V) (q : List Key × Addr × Value) => p.1 = q.1 ∧ H q.2.1 = some (.tup (p.1.map kV)) ∧ RelV p.2 q.2.2) kvs xs ∧
      ∃ o es ep, h.get? a = some o ∧ o.ExactDict ∧ o.data = .dict es ep ∧ es.toList = xs.map (entryOfKey (tupleKind (mixKind P w))) ∧ (xs.map (·.1)).Nodup
  | .set S n => h.SetOf (intKind P w) a S n
  | .ins C dx fs => H dx = some (.own a) ∧ fs.length ≤ 1000 ∧ dx ≠ a ∧ h.get? a = some (PySem.W.instObj C dx) ∧
      ∃ mA, h.Ns1 dx mA ∧ (∀ f, RelO (fs.lookup f) (mA f)) ∧ PySem.Within mA (fs.map (·.1))
  | .own _ => ∃ o, h.get? a = some o
  | .xd fs => ∃ mA, h.Ns1 a mA ∧ ∀ f, RelO (fs.lookup f) (mA f)
  | .rng lo hi => ∃ t u v, h.get? a = some { cls := .type "range", data := .fields #[.int lo t, .int hi u, .int 1 v] }
  | .frz o u => h.get? a = some o ∧ ObjOk H h a u
  | .tbl ps => h.get? a = some { cls := .none, data := .fields ps }
  | .met f x => h.get? a = some (PySem.W.methodObj (.ref f) (.ref x))
  | .ext φ => φ h ∧ (∃ o, h.get? a = some o) ∧ ∀ h1 h2 : Heap, φ h1 → (∀ o, h1.get? a = some o → h2.get? a = some o) → φ h2
noncomputable def HOk (H : Hp) (h : Heap) : Prop := ∀ a o, H a = some o → ObjOk P w H h a o
end
section
variable {P : Program} {w : World} {H H' : Hp} {h h' : Heap} {a : Addr} {o : HO}
theorem ObjOk.lt (x : ObjOk P w H h a o) : a < h.objs.size := by
  cases o with
  | lst xs => obtain ⟨_, _, _, _, e⟩ := x; exact Heap.lt_size e
  | tup xs => obtain ⟨_, _, _, p⟩ := x; exact p.lt
  | dK kvs => obtain ⟨_, _, _, _, o, _, _, e, _⟩ := x; exact Heap.lt_size e
  | dT kvs => obtain ⟨_, _, _, _, o, _, _, e, _⟩ := x; exact Heap.lt_size e
  | set S n => obtain ⟨o, _, _, _, e, _⟩ := x; exact Heap.lt_size e
  | ins C dx fs => obtain ⟨_, _, _, e, _⟩ := x; exact Heap.lt_size e
  | own y => obtain ⟨_, e⟩ := x; exact Heap.lt_size e
  | xd fs => obtain ⟨_, ⟨_, _, _, e, _⟩, _⟩ := x; exact Heap.lt_size e
  | rng lo hi => obtain ⟨_, _, _, e⟩ := x; exact Heap.lt_size e
  | frz ob u => obtain ⟨e, _⟩ := x; exact Heap.lt_size e
  | tbl ps => exact Heap.lt_size (show h.get? a = some _ from x)
  | met f y => exact Heap.lt_size (show h.get? a = some _ from x)
  | ext φ => obtain ⟨_, ⟨_, e⟩, _⟩ := x; exact Heap.lt_size e
theorem Paired.mapP {α β : Type} {F G : α → β → Prop} : ∀ {l₁ : List α} {l₂ : List β}, Paired F l₁ l₂ → (∀ a b, F a b → G a b) → Paired G l₁ l₂
  | _, _, .nil, _ => .nil
  | _, _, .cons r t, f => .cons (f _ _ r) (Paired.mapP t f)
theorem ObjOk.stay (x : ObjOk P w H h a o) (k : ∀ b u, (b = a ∨ H b = some (.own a)) → h.get? b = some u → h'.get? b = some u)
    (ho : ∀ b, H b = some (.own a) → H' b = some (.own a)) (ht : ∀ b xs, H b = some (.tup xs) → H' b = some (.tup xs)) : ObjOk P w H' h' a o := by
  induction o with
  | lst xs => obtain ⟨z, its, n, r, e⟩ := x; exact ⟨z, its, n, r, k _ _ (.inl rfl) e⟩
  | tup xs => obtain ⟨z, its, r, ob, e, c⟩ := x; exact ⟨z, its, r, ob, k _ _ (.inl rfl) e, c⟩
  | dK kvs => obtain ⟨z, y, vs, r, ob, es, ep, e, c⟩ := x; exact ⟨z, y, vs, r, ob, es, ep, k _ _ (.inl rfl) e, c⟩
  | dT kvs =>
    obtain ⟨z, y, xs, r, ob, es, ep, e, c⟩ := x
    exact ⟨z, y, xs, Paired.mapP r fun p q z => ⟨z.1, ht _ _ z.2.1, z.2.2⟩, ob, es, ep, k _ _ (.inl rfl) e, c⟩
  | set S n => obtain ⟨ob, es, ep, t, e, c⟩ := x; exact ⟨ob, es, ep, t, k _ _ (.inl rfl) e, c⟩
  | ins C dx fs =>
    obtain ⟨d, z, ne, e, mA, ⟨od, es, ep, e2, c⟩, r⟩ := x
    exact ⟨ho _ d, z, ne, k _ _ (.inl rfl) e, mA, ⟨od, es, ep, k _ _ (.inr d) e2, c⟩, r⟩
  | own y => obtain ⟨ob, e⟩ := x; exact ⟨ob, k _ _ (.inl rfl) e⟩
  | xd fs => obtain ⟨mA, ⟨od, es, ep, e, c⟩, r⟩ := x; exact ⟨mA, ⟨od, es, ep, k _ _ (.inl rfl) e, c⟩, r⟩
  | rng lo hi => obtain ⟨t, u, v, e⟩ := x; exact ⟨t, u, v, k _ _ (.inl rfl) e⟩
  | frz ob u ih => obtain ⟨e, q⟩ := x; exact ⟨k _ _ (.inl rfl) e, ih q⟩
  | tbl ps =>
    have e : h.get? a = some { cls := .none, data := .fields ps } := x
    show h'.get? a = some { cls := .none, data := .fields ps }
    exact k a _ (.inl rfl) e
  | met f y =>
    have e : h.get? a = some (PySem.W.methodObj (.ref f) (.ref y)) := x
    show h'.get? a = some (PySem.W.methodObj (.ref f) (.ref y))
    exact k a _ (.inl rfl) e
  | ext φ => obtain ⟨p, ⟨o, e⟩, st⟩ := x; exact ⟨st _ _ p fun o q => k _ _ (.inl rfl) q, ⟨o, k _ _ (.inl rfl) e⟩, st⟩
theorem HOk.lt (x : HOk P w H h) (e : H a = some o) : a < h.objs.size := (x a o e).lt
theorem HOk.fresh (x : HOk P w H h) (e : h.objs.size ≤ a) : H a = none := by
  cases q : H a with
  | none => rfl
  | some u => exact absurd (Nat.lt_of_lt_of_le (x.lt q) e) (Nat.lt_irrefl _)
theorem HOk.kept (x : HOk P w H h) (k : ∀ b u, h.get? b = some u → h'.get? b = some u) : HOk P w H h' := fun a o e =>
  (x a o e).stay (fun b u _ q => k b u q) (fun _ q => q) fun _ _ q => q
theorem HOk.laid (x : HOk P w H h) (k : ∀ b u, h.get? b = some u → h'.get? b = some u) (hp : h.objs.size ≤ a) (new : ObjOk P w (upd H a o) h' a o) : HOk P w (upd H a o) h' := fun b u e => by
  have hn := x.fresh hp
  by_cases hb : b = a
  · subst hb; rw [upd_same] at e; cases e; exact new
  · rw [upd_ne hb] at e
    exact (x b u e).stay (fun c v _ q => k c v q) (fun c q => by rw [upd_ne (ne_of_none q hn)]; exact q) fun c xs q => by rw [upd_ne (ne_of_none q hn)]; exact q
end
noncomputable def Rd (H : Hp) (a : Addr) (u : HO) : Prop := H a = some u ∨ ∃ o, H a = some (.frz o u)
theorem Rd.ok {P : Program} {w : World} {H : Hp} {h : Heap} {a : Addr} {u : HO} (r : Rd H a u) (x : HOk P w H h) : ObjOk P w H h a u := by
  rcases r with r | ⟨o, r⟩
  · exact x a u r
  · obtain ⟨_, q⟩ := x a _ r
    exact q
noncomputable def Mut : Option HO → Prop
  | some (.lst _) => True
  | some (.dK _) => True
  | some (.dT _) => True
  | some (.set _ _) => True
  | some (.ins _ _ _) => True
  | some (.ext _) => True
  | _ => False
section
variable {P : Program} {w : World} {H : Hp} {h h' : Heap} {x e : Addr} {o' : HO}
theorem HOk.write (ok : HOk P w H h) (mu : Mut (H x)) (he : e = x ∨ H e = some (.own x)) (k : ∀ b u, b ≠ e → h.get? b = some u → h'.get? b = some u) (heo : ∃ u, h'.get? e = some u)
    (new : ObjOk P w (upd H x o') h' x o') : HOk P w (upd H x o') h' := fun b u q => by
  have nown : ∀ c y, H c = some (.own y) → c ≠ x := fun c y r z => by subst z; rw [r] at mu; exact mu
  have ntup : ∀ c xs, H c = some (.tup xs) → c ≠ x := fun c xs r z => by subst z; rw [r] at mu; exact mu
  by_cases hb : b = x
  · subst hb; rw [upd_same] at q; cases q; exact new
  · rw [upd_ne hb] at q
    by_cases hbe : b = e
    · have q' : H b = some (.own x) := by
        rcases he with z | z
        · exact absurd (hbe.trans z) hb
        · rw [hbe]; exact z
      rw [q] at q'; cases q'
      obtain ⟨v, hv⟩ := heo
      exact ⟨v, by rw [hbe]; exact hv⟩
    · refine (ok b u q).stay (fun c v hc r => k c v ?_ r) (fun c r => by rw [upd_ne (nown c b r)]; exact r) fun c xs r => by rw [upd_ne (ntup c xs r)]; exact r
      rcases hc with rfl | hc
      · exact hbe
      · rintro rfl
        rcases he with z | z
        · exact nown c b hc z
        · rw [hc] at z; cases z; exact hb rfl
end
structure Un (fs ex : List Addr) (H H' : Hp) (h h' : Heap) : Prop where
  keep : ∀ b o, h.get? b = some o → H b = none → b ∉ fs → b ∉ ex → h'.get? b = some o
  slot : ∀ b o, h.get? b = some o → H b = none → b ∈ fs → b ∉ ex → ∃ sl, h'.get? b = some { o with slots := sl }
  free : ∀ b o, h.get? b = some o → H b = none → b ∉ ex → H' b = none
  there : ∀ b o, h.get? b = some o → b ∉ ex → ∃ o', h'.get? b = some o'
  tups : ∀ b xs, H b = some (.tup xs) → H' b = some (.tup xs)
  frzs : ∀ b o u, H b = some (.frz o u) → H' b = some (.frz o u)
  tbls : ∀ b ps, H b = some (.tbl ps) → ∃ more, H' b = some (.tbl (ps ++ more))
section
variable {fs fs' ex ex' : List Addr} {H H1 H2 : Hp} {h h1 h2 h' : Heap} {a x e : Addr} {o : HO}
theorem Un.any (u : Un fs ex H H1 h h1) {b : Addr} {ob : Obj} (q : h.get? b = some ob) (n : H b = none) (hx : b ∉ ex) : ∃ sl, h1.get? b = some { ob with slots := sl } := by
  by_cases hb : b ∈ fs
  · exact u.slot b ob q n hb hx
  · exact ⟨ob.slots, u.keep b ob q n hb hx⟩
theorem Un.kept (k : ∀ b u, h.get? b = some u → h'.get? b = some u) : Un fs ex H H h h' :=
  ⟨fun b ob q _ _ _ => k b ob q, fun b ob q _ _ _ => ⟨ob.slots, k b ob q⟩, fun _ _ _ n _ => n, fun b ob q _ => ⟨ob, k b ob q⟩, fun _ _ q => q, fun _ _ _ q => q, fun _ ps q => ⟨#[], by rw [q]; simp⟩⟩
theorem Un.refl : Un fs ex H H h h := Un.kept fun _ _ q => q
theorem Un.laid (k : ∀ b u, h.get? b = some u → h'.get? b = some u) (hp : h.objs.size ≤ a) (hn : H a = none) : Un fs ex H (upd H a o) h h' where
  keep := fun b u q _ _ _ => k b u q
  slot := fun b u q _ _ _ => ⟨u.slots, k b u q⟩
  free := fun b u q n _ => by rw [upd_ne (Nat.ne_of_lt (Nat.lt_of_lt_of_le (Heap.lt_size q) hp))]; exact n
  there := fun b u q _ => ⟨u, k b u q⟩
  tups := fun b xs q => by rw [upd_ne (ne_of_none q hn)]; exact q
  frzs := fun b u xs q => by rw [upd_ne (ne_of_none q hn)]; exact q
  tbls := fun b ps q => ⟨#[], by rw [upd_ne (ne_of_none q hn), q]; simp⟩
theorem Un.write (mu : Mut (H x)) (he : e = x ∨ H e = some (.own x)) (k : ∀ b u, b ≠ e → h.get? b = some u → h'.get? b = some u) (heo : ∃ u, h'.get? e = some u) : Un fs ex H (upd H x o) h h' := by
  have hx : ∀ b, H b = none → b ≠ x := fun b n z => by subst z; rw [n] at mu; exact mu
  have hb : ∀ b, H b = none → b ≠ e := fun b n z => by
    subst z
    rcases he with r | r
    · exact hx b n r
    · rw [n] at r; cases r
  have hm : ∀ b u, H b = some u → ¬ Mut (some u) → b ≠ x := fun b u q nm z => by subst z; rw [q] at mu; exact nm mu
  refine ⟨fun b u q n _ _ => k b u (hb b n) q, fun b u q n _ _ => ⟨u.slots, k b u (hb b n) q⟩, fun b u q n _ => by rw [upd_ne (hx b n)]; exact n, fun b u q _ => ?_,
    fun b xs q => by rw [upd_ne (hm b _ q fun z => z)]; exact q, fun b u xs q => by rw [upd_ne (hm b _ q fun z => z)]; exact q, fun b ps q => ⟨#[], by rw [upd_ne (hm b _ q fun z => z), q]; simp⟩⟩
  by_cases hbe : b = e
  · subst hbe; exact heo
  · exact ⟨u, k b u hbe q⟩
end
noncomputable def trk (h : Heap) (H : Hp) : List Addr := (List.range h.objs.size).filter fun a => (H a).isSome
noncomputable def hidT (h : Heap) (H : Hp) : Heap := PySem.W.hideAll h (trk h H)
theorem hidT_size (h : Heap) (H : Hp) : (hidT h H).objs.size = h.objs.size := PySem.W.hideAll_size _ _
theorem hidT_get {h : Heap} {H : Hp} {b : Addr} {o : Obj} (e : h.get? b = some o) (n : H b = none) : (hidT h H).get? b = some o :=
  PySem.W.hideAll_get _ e fun hm => by
    have q : (H b).isSome = true := (List.mem_filter.mp hm).2
    rw [n] at q; simp at q
theorem of_hidT {h : Heap} {H : Hp} {b : Addr} {o : Obj} (e : (hidT h H).get? b = some o) : h.get? b = some o ∧ H b = none := by
  have e' : h.get? b = some o := PySem.W.of_hideAll (trk h H) e
  refine ⟨e', ?_⟩
  cases q : H b with
  | none => rfl
  | some x =>
    have hm : b ∈ trk h H := List.mem_filter.mpr ⟨List.mem_range.mpr (Heap.lt_size e'), by simp [q]⟩
    have z : (hidT h H).get? b = none := PySem.W.hideAll_none (trk h H) hm
    rw [z] at e; cases e
end L2
namespace L2
open PySem PySem.Spec PyProof.Rows
structure Mod (K : PySem.W.Frag) (mg : Str → Option Value) (base : Heap) : Prop where
  kin : K.In base
  glob : base.Ns mainGlobals mg
  blt : ∃ mb, base.Ns builtinsNs mb ∧ ∀ x : Str, x ≠ "__name__" → mb x = bootBuiltins x
  nolimit : base.NoLimit
structure Cx where
  prog : Program
  w : World
  K : PySem.W.Frag
  mg : Str → Option Value
  base : Heap
  A : Around
  N : List Str
  s₀ : Shared
  H₀ : Hp
  env : Env
  outer : List Env
  stack : List Env
  ex : List Addr
  fn : Str → Bool
  calm : Bool
  pn : List (Addr × Obj)
  xe : Value → Shared → Prop
noncomputable def frs (l : List Env) : List Addr := l.filterMap (·.frame)
noncomputable abbrev Cx.fs (X : Cx) : List Addr := frs X.outer
noncomputable def Vis (sc : Scope) (x : Str) : Prop := sc.names.lookup x = some .local ∨ sc.names.lookup x = some .cell ∨ sc.names.lookup x = some .free
noncomputable def Loc (sc : Scope) (x : Str) : Prop := sc.names.lookup x = some .local ∨ sc.names.lookup x = some .cell
noncomputable def Look (env : Env) (h : Heap) (m : Str → Option Value) (x : Str) (u : Value) : Prop :=
  (env.kindOf x = some .local ∧ m x = some u) ∨ ((env.kindOf x = some .cell ∨ env.kindOf x = some .free) ∧ ∃ c, env.cells.lookup x = some c ∧ h.IsCell c (some u))
structure Cx.Ok (X : Cx) : Prop where
  mod : Mod X.K X.mg X.base
  kind : X.env.scope.kind = .function
  glob : X.env.globals = mainGlobals
  blt : X.env.builtins = builtinsNs
  above : X.s₀.heap.objs.size ≤ X.env.locals
  inj : ∀ x y c, X.env.cells.lookup x = some c → X.env.cells.lookup y = some c → x = y
  has : ∀ x, (X.env.kindOf x = some .cell ∨ X.env.kindOf x = some .free) → ∃ c, X.env.cells.lookup x = some c
  cab : ∀ x c, X.fn x = true → X.env.cells.lookup x = some c → X.s₀.heap.objs.size ≤ c
  hd : X.calm = true → X.A.handled = none
  frames : X.A.frames = some X.stack
  stk : X.stack = X.outer ∨ (X.stack = X.env :: X.outer ∧ X.env.frame = some X.env.locals)
  exf : ∀ b ∈ X.ex, b ≠ X.env.locals ∧ ∀ x c, X.env.cells.lookup x = some c → c ≠ b
  bs : ∀ b o, X.base.get? b = some o → X.s₀.heap.get? b = some o ∧ X.H₀ b = none
  bsz : X.base.objs.size ≤ X.s₀.heap.objs.size
  noex : ∀ b o, X.base.get? b = some o → b ∉ X.ex
  exfs : ∀ b ∈ X.ex, b ∉ X.fs
  funs : X.s₀.heap.FunFrames X.base X.outer
  frf : ∀ b ∈ X.fs, X.H₀ b = none
structure Inv (X : Cx) (pins : List (Addr × Obj)) (σ : List (Option V)) (H : Hp) (s : Shared) : Prop where
  ok : X.Ok
  os : s.os = X.s₀.os
  bare : AllBare s.gens
  base : Un X.fs X.ex X.H₀ H X.s₀.heap s.heap
  loc : ∃ m, s.heap.Ns X.env.locals m ∧ ∀ (i : Nat) (x : Str) (v : V), X.N[i]? = some x → σ[i]? = some (some v) → Vis X.env.scope x → ∃ u, RelV v u ∧ Look X.env s.heap m x u
  cell : ∀ x c, X.env.cells.lookup x = some c → ∃ v, s.heap.IsCell c v
  free : H X.env.locals = none
  freeC : ∀ x c, X.env.cells.lookup x = some c → H c = none
  pin : ∀ p ∈ X.pn ++ pins, s.heap.get? p.1 = some p.2 ∧ H p.1 = none ∧ p.1 ≠ X.env.locals ∧ p.1 ∉ X.fs ∧ ∀ v, p.2.data ≠ .cell v
  hok : HOk X.prog X.w H s.heap
  len : σ.length = X.N.length
section
variable {X : Cx} {pins : List (Addr × Obj)} {σ : List (Option V)} {H H' : Hp} {s : Shared} {h' : Heap}
theorem Cx.Ok.nofr (ok : X.Ok) {b : Addr} {o : Obj} (e : X.base.get? b = some o) : b ∉ X.fs := fun hb => by
  have := (ok.funs.mem hb).1
  rw [e] at this; cases this
theorem Inv.bs (I : Inv X pins σ H s) : ∀ b o, X.base.get? b = some o → s.heap.get? b = some o ∧ H b = none := fun b o e =>
  ⟨I.base.keep b o (I.ok.bs b o e).1 (I.ok.bs b o e).2 (I.ok.nofr e) (I.ok.noex b o e), I.base.free b o (I.ok.bs b o e).1 (I.ok.bs b o e).2 (I.ok.noex b o e)⟩
theorem Inv.bk (I : Inv X pins σ H s) : ∀ b o, X.base.get? b = some o → s.heap.get? b = some o := fun b o e => (I.bs b o e).1
theorem Inv.mod (I : Inv X pins σ H s) : Mod X.K X.mg X.base := I.ok.mod
theorem Inv.kIn (I : Inv X pins σ H s) : X.K.In s.heap := I.ok.mod.kin.keeps I.bk
theorem Inv.lt (I : Inv X pins σ H s) : X.env.locals < s.heap.objs.size := let ⟨_, hn, _⟩ := I.loc; hn.lt
theorem Inv.sz (I : Inv X pins σ H s) : X.s₀.heap.objs.size ≤ s.heap.objs.size := Nat.le_trans I.ok.above (Nat.le_of_lt I.lt)
theorem Inv.nofs (I : Inv X pins σ H s) {a : Addr} (h : s.heap.objs.size ≤ a) : a ∉ X.fs := fun hb => by
  obtain ⟨_, o, ho, _⟩ := I.ok.funs.mem hb
  exact absurd (Nat.lt_of_lt_of_le (Heap.lt_size ho) (Nat.le_trans I.sz h)) (Nat.lt_irrefl _)
theorem Inv.cne (I : Inv X pins σ H s) : ∀ x c, X.env.cells.lookup x = some c → c ≠ X.env.locals := fun x c e z => by
  obtain ⟨v, o, ho, hd⟩ := I.cell x c e
  obtain ⟨m, ⟨o', es, ep, ho', hd', _⟩, _⟩ := I.loc
  rw [z, ho'] at ho; cases ho; rw [hd'] at hd; cases hd
theorem Inv.funs (I : Inv X pins σ H s) : s.heap.FunFrames X.base X.outer := by
  have all : ∀ (l : List Env), (∀ b ∈ frs l, b ∈ X.fs) → X.s₀.heap.FunFrames X.base l → s.heap.FunFrames X.base l := by
    intro l
    induction l with
    | nil => intro _ _; trivial
    | cons env r ih =>
      intro hs hl
      obtain ⟨hk, ⟨L, o, hf, hn, ho, hd⟩, hr⟩ := hl
      have hL : L ∈ X.fs := hs L (by unfold frs; rw [List.filterMap_cons, hf]; exact List.mem_cons_self)
      obtain ⟨sl, e⟩ := I.base.slot L o ho (I.ok.frf L hL) hL fun z => I.ok.exfs L z hL
      exact ⟨hk, ⟨L, _, hf, hn, e, hd⟩, ih (fun b hb => hs b (by unfold frs; rw [List.filterMap_cons, hf]; exact List.mem_cons_of_mem _ hb)) hr⟩
  exact all X.outer (fun _ hb => hb) I.ok.funs
theorem Inv.stack (I : Inv X pins σ H s) : s.heap.FunFrames X.base X.stack := by
  rcases I.ok.stk with e | ⟨e, hf⟩
  · rw [e]; exact I.funs
  · rw [e]
    obtain ⟨m, hn, _⟩ := I.loc
    refine .cons (by rw [I.ok.kind]; decide) hf hn ?_ I.funs
    exact Heap.get?_none_of_le (Nat.le_trans I.ok.bsz I.ok.above)
theorem Inv.stkSub (I : Inv X pins σ H s) : ∀ b ∈ frs X.stack, b ∈ X.env.locals :: X.fs := fun b hb => by
  rcases I.ok.stk with e | ⟨e, hf⟩
  · rw [e] at hb; exact List.mem_cons_of_mem _ hb
  · rw [e] at hb
    unfold frs at hb
    rw [List.filterMap_cons, hf] at hb
    exact hb
theorem Inv.stkFree (I : Inv X pins σ H s) : ∀ b ∈ frs X.stack, H b = none := fun b hb => by
  rcases List.mem_cons.mp (I.stkSub b hb) with e | hb
  · rw [e]; exact I.free
  · obtain ⟨_, o, ho, _⟩ := I.ok.funs.mem hb
    exact I.base.free b o ho (I.ok.frf b hb) fun z => I.ok.exfs b z hb
theorem Inv.step {g' : Array GenState} {t' : Nat} {d' : Drawn} {ch : List Addr} (I : Inv X pins σ H s)
    (hch : ∀ b ∈ ch, (b ∈ X.ex ∨ X.s₀.heap.objs.size ≤ b) ∧ b ≠ X.env.locals ∧ (∀ x c, X.env.cells.lookup x = some c → c ≠ b) ∧ ∀ p ∈ X.pn ++ pins, p.1 ≠ b)
    (keep : ∀ b o, b ≠ X.env.locals → b ∉ X.fs → b ∉ ch → s.heap.get? b = some o → H b = none → h'.get? b = some o)
    (slot : ∀ b o, b ≠ X.env.locals → b ∈ X.fs → b ∉ ch → s.heap.get? b = some o → H b = none → ∃ sl, h'.get? b = some { o with slots := sl }) (free : ∀ b o, b ∉ ch → s.heap.get? b = some o → H b = none → H' b = none)
    (there : ∀ b o, b ∉ ch → s.heap.get? b = some o → ∃ o', h'.get? b = some o')
    (tups : ∀ b xs, H b = some (.tup xs) → H' b = some (.tup xs)) (frzs : ∀ b o u, H b = some (.frz o u) → H' b = some (.frz o u)) (tbls : ∀ b ps, H b = some (.tbl ps) → ∃ more, H' b = some (.tbl (ps ++ more)))
    (ns : ∀ m, s.heap.Ns X.env.locals m → h'.Ns X.env.locals m) (hok : HOk X.prog X.w H' h') (hg : AllBare g') :
    Inv X pins σ H' { s with heap := h', gens := g', drawn := d', toks := t' } := by
  have neL : ∀ b o, X.s₀.heap.get? b = some o → b ≠ X.env.locals := fun b o e => Nat.ne_of_lt (Nat.lt_of_lt_of_le (Heap.lt_size e) I.ok.above)
  have neC : ∀ b o, X.s₀.heap.get? b = some o → b ∉ X.ex → b ∉ ch := fun b o e hx hb => by
    rcases (hch b hb).1 with z | z
    · exact hx z
    · exact absurd (Nat.lt_of_lt_of_le (Heap.lt_size e) z) (Nat.lt_irrefl _)
  have cellK : ∀ x c, X.env.cells.lookup x = some c → ∀ v, s.heap.IsCell c v → h'.IsCell c v := fun x c e v ⟨o, ho, hd⟩ => by
    have nch : c ∉ ch := fun z => (hch c z).2.2.1 x c e rfl
    by_cases hc : c ∈ X.fs
    · obtain ⟨sl, q⟩ := slot c o (I.cne x c e) hc nch ho (I.freeC x c e)
      exact ⟨_, q, hd⟩
    · exact ⟨o, keep c o (I.cne x c e) hc nch ho (I.freeC x c e), hd⟩
  refine ⟨I.ok, I.os, hg, ⟨fun b o e n hb hx => ?_, fun b o e n hb hx => ?_, fun b o e n hx => ?_, fun b o e hx => ?_, fun b xs e => tups b xs (I.base.tups b xs e), fun b o xs e => frzs b o xs (I.base.frzs b o xs e), fun b ps e => ?_⟩, ?_, fun x c e => ?_, ?_, fun x c e => ?_, fun p hp => ?_, hok, I.len⟩
  · exact keep b o (neL b o e) hb (neC b o e hx) (I.base.keep b o e n hb hx) (I.base.free b o e n hx)
  · obtain ⟨sl, e1⟩ := I.base.slot b o e n hb hx
    obtain ⟨sl', e2⟩ := slot b _ (neL b o e) hb (neC b o e hx) e1 (I.base.free b o e n hx)
    exact ⟨sl', e2⟩
  · obtain ⟨o', e1⟩ := I.base.there b o e hx
    exact free b o' (neC b o e hx) e1 (I.base.free b o e n hx)
  · obtain ⟨o', e1⟩ := I.base.there b o e hx
    exact there b o' (neC b o e hx) e1
  · obtain ⟨m1, e1⟩ := I.base.tbls b ps e
    obtain ⟨m2, e2⟩ := tbls b _ e1
    exact ⟨m1 ++ m2, by rw [e2, Array.append_assoc]⟩
  · obtain ⟨m, hn, hl⟩ := I.loc
    refine ⟨m, ns m hn, fun i x v e1 e2 e3 => ?_⟩
    obtain ⟨u, r, l⟩ := hl i x v e1 e2 e3
    refine ⟨u, r, ?_⟩
    rcases l with l | ⟨k, c, e, z⟩
    · exact .inl l
    · exact .inr ⟨k, c, e, cellK x c e _ z⟩
  · obtain ⟨v, z⟩ := I.cell x c e
    exact ⟨v, cellK x c e v z⟩
  · obtain ⟨m, ⟨o, _, _, ho, _⟩, _⟩ := I.loc
    exact free _ o (fun z => (hch _ z).2.1 rfl) ho I.free
  · obtain ⟨v, o, ho, hd⟩ := I.cell x c e
    exact free c o (fun z => (hch c z).2.2.1 x c e rfl) ho (I.freeC x c e)
  · obtain ⟨e, n, ne, nf, d⟩ := I.pin p hp
    have nch : p.1 ∉ ch := fun z => (hch p.1 z).2.2.2 p hp rfl
    exact ⟨keep p.1 p.2 ne nf nch e n, free p.1 p.2 nch e n, ne, nf, d⟩
theorem Inv.un {t' : Nat} (I : Inv X pins σ H s) (u : Un X.fs [] H H' s.heap h') (hok : HOk X.prog X.w H' h') : Inv X pins σ H' { s with heap := h', toks := t' } := by
  obtain ⟨m, ⟨o, es, ep, ho, r⟩, _⟩ := id I.loc
  obtain ⟨sl, hL⟩ := u.any ho I.free (by simp)
  exact I.step (g' := s.gens) (d' := s.drawn) (ch := []) (fun _ z => nomatch z) (fun b o _ hb _ e n => u.keep b o e n hb (by simp)) (fun b o _ hb _ e n => u.slot b o e n hb (by simp)) (fun b o _ e n => u.free b o e n (by simp)) (fun b o _ e => u.there b o e (by simp)) u.tups u.frzs u.tbls (fun m' hm => by
    obtain ⟨o', es', ep', ho', r'⟩ := hm
    rw [ho] at ho'; cases ho'
    exact ⟨_, es', ep', hL, r'⟩) hok I.bare
theorem Inv.call {g' : Array GenState} {t' : Nat} {d' : Drawn} {ch : List Addr} (I : Inv X pins σ H s) (u : Un (frs X.stack) ch H H' s.heap h') (hok : HOk X.prog X.w H' h') (hg : AllBare g')
    (hch : ∀ b ∈ ch, (b ∈ X.ex ∨ X.s₀.heap.objs.size ≤ b) ∧ b ≠ X.env.locals ∧ (∀ x c, X.env.cells.lookup x = some c → c ≠ b) ∧ ∀ p ∈ X.pn ++ pins, p.1 ≠ b) :
    Inv X pins σ H' { s with heap := h', gens := g', drawn := d', toks := t' } := by
  obtain ⟨m, ⟨o, es, ep, ho, r⟩, _⟩ := id I.loc
  obtain ⟨sl, hL⟩ := u.any ho I.free fun z => (hch _ z).2.1 rfl
  exact I.step (ch := ch) hch (fun b o hL hb hc e n => u.keep b o e n (fun z => (List.mem_cons.mp (I.stkSub b z)).elim hL hb) hc) (fun b o _ _ hc e n => u.any e n hc) (fun b o hc e n => u.free b o e n hc) (fun b o hc e => u.there b o e hc) u.tups u.frzs u.tbls (fun m' hm => by
    obtain ⟨o', es', ep', ho', r'⟩ := hm
    rw [ho] at ho'; cases ho'
    exact ⟨_, es', ep', hL, r'⟩) hok hg
theorem Inv.turned {t' : Nat} {it : Addr} (I : Inv X pins σ H s) (k : ∀ b o, b ≠ it → s.heap.get? b = some o → h'.get? b = some o) (hn : H it = none) (hL : it ≠ X.env.locals)
    (h1 : it ∈ X.ex ∨ X.s₀.heap.objs.size ≤ it) (h2 : ∀ x c, X.env.cells.lookup x = some c → c ≠ it) (h3 : ∀ p ∈ X.pn ++ pins, p.1 ≠ it) : Inv X pins σ H { s with heap := h', toks := t' } := by
  have nit : ∀ b u, H b = some u → b ≠ it := fun b u e z => by rw [z, hn] at e; cases e
  refine I.step (g' := s.gens) (d' := s.drawn) (ch := [it]) (fun b hb => ?_) (fun b o _ _ hc e _ => k b o (fun z => hc (by simp [z])) e) (fun b o _ _ hc e _ => ⟨o.slots, k b o (fun z => hc (by simp [z])) e⟩) (fun _ _ _ _ n => n)
    (fun b o hc e => ⟨o, k b o (fun z => hc (by simp [z])) e⟩) (fun _ _ e => e) (fun _ _ _ e => e) (fun b ps e => ⟨#[], by rw [e]; simp⟩) (fun m hm => ?_) (fun b u e => ?_) I.bare
  · have e : b = it := by simpa using hb
    subst e
    exact ⟨h1, hL, h2, h3⟩
  · obtain ⟨o, es, ep, ho, r⟩ := hm
    exact ⟨o, es, ep, k _ o (Ne.symm hL) ho, r⟩
  · refine (I.hok b u e).stay (fun c v hc q => k c v ?_ q) (fun _ q => q) fun _ _ q => q
    rcases hc with z | z
    · rw [z]; exact nit b u e
    · exact nit c _ z
theorem Inv.tok (I : Inv X pins σ H s) (t : Nat) : Inv X pins σ H { s with toks := t } := I.un (h' := s.heap) (t' := t) Un.refl I.hok
theorem Inv.kept {t' : Nat} (I : Inv X pins σ H s) (k : ∀ b u, s.heap.get? b = some u → h'.get? b = some u) : Inv X pins σ H { s with heap := h', toks := t' } := I.un (Un.kept k) (I.hok.kept k)
theorem Inv.laid {a : Addr} {o : HO} {t' : Nat} (I : Inv X pins σ H s) (k : ∀ b u, s.heap.get? b = some u → h'.get? b = some u) (hp : s.heap.objs.size ≤ a) (new : ObjOk X.prog X.w (upd H a o) h' a o) :
    Inv X pins σ (upd H a o) { s with heap := h', toks := t' } := I.un (Un.laid k hp (I.hok.fresh hp)) (I.hok.laid k hp new)
theorem Inv.write {x e : Addr} {o : HO} {t' : Nat} (I : Inv X pins σ H s) (mu : Mut (H x)) (he : e = x ∨ H e = some (.own x)) (k : ∀ b u, b ≠ e → s.heap.get? b = some u → h'.get? b = some u) (heo : ∃ u, h'.get? e = some u)
    (new : ObjOk X.prog X.w (upd H x o) h' x o) : Inv X pins σ (upd H x o) { s with heap := h', toks := t' } := I.un (Un.write mu he k heo) (I.hok.write mu he k heo new)
theorem Inv.pins_of {pins' : List (Addr × Obj)} (I : Inv X pins σ H s) (h : ∀ p ∈ pins', s.heap.get? p.1 = some p.2 ∧ H p.1 = none ∧ p.1 ≠ X.env.locals ∧ p.1 ∉ X.fs ∧ ∀ v, p.2.data ≠ .cell v) : Inv X pins' σ H s :=
  ⟨I.ok, I.os, I.bare, I.base, I.loc, I.cell, I.free, I.freeC, fun p hp => (List.mem_append.mp hp).elim (fun z => I.pin p (List.mem_append_left _ z)) (h p), I.hok, I.len⟩
theorem nodup_ix {N : List Str} (hN : N.Nodup) {i j : Nat} {x : Str} (a : N[i]? = some x) (b : N[j]? = some x) : i = j := by
  obtain ⟨h1, e1⟩ := List.getElem?_eq_some_iff.mp a
  obtain ⟨h2, e2⟩ := List.getElem?_eq_some_iff.mp b
  exact (List.getElem_inj hN).mp (e1.trans e2.symm)
theorem store_ok2 {M : Model} {A : Around} {E : Value → Shared → Prop} {i : Nat} {x : Str} {v : V} {u : Value} {Q : Unit → Shared → Prop} (I : Inv X pins σ H s) (hN : X.N.Nodup) (hi : X.N[i]? = some x) (hx : Loc X.env.scope x) (r : RelV v u)
    (h : ∀ s', Inv X pins (σ.set i (some v)) H s' → (∃ a, Heap.SameBut a s.heap s'.heap ∧ (a = X.env.locals ∨ X.env.cells.lookup x = some a)) → Q () s') (hf : X.fn x = true ∨ X.env.scope.names.lookup x = some .local := by first | exact .inl rfl | exact .inr rfl | assumption) : wpAny M A (storeName X.env x u) Q E s := by
  obtain ⟨m, hn, hl⟩ := id I.loc
  have hcls : (X.env.scope.kind == .class || (X.env.scope.kind == .module && X.env.locals != X.env.globals)) = false := by rw [I.ok.kind]; rfl
  have hiσ : i < σ.length := by rw [I.len]; exact (List.getElem?_eq_some_iff.mp hi).1
  have cne := I.cne
  have tracked : ∀ {a : Addr} {h' : Heap}, (∃ o, s.heap.get? a = some o ∧ H a = none) → Heap.SameBut a s.heap h' → HOk X.prog X.w H h' := fun {a h'} ha hs b ob e => by
    obtain ⟨_, _, hfree⟩ := ha
    refine (I.hok b ob e).stay (fun c w' hc q => (hs.2 c ?_).trans q) (fun _ q => q) fun _ _ q => q
    rintro rfl
    rcases hc with rfl | hc
    · rw [hfree] at e; cases e
    · rw [hfree] at hc; cases hc
  rcases hx with hk | hk
  · refine wpAny_storeName_local hk hn (fun h' hn' hs => ?_) hcls
    obtain ⟨oL, _, _, hoL, _⟩ := id hn
    refine h _ ⟨I.ok, I.os, I.bare, ⟨fun b o e n hb hx => ?_, fun b o e n hb hx => ?_, I.base.free, fun b o e hx => ?_, I.base.tups, I.base.frzs, I.base.tbls⟩, ⟨_, hn', fun j y v' e1 e2 e3 => ?_⟩, fun y c e => ?_, I.free, I.freeC, fun p hp => ?_, tracked ⟨oL, hoL, I.free⟩ hs, by simpa using I.len⟩ ⟨_, hs, .inl rfl⟩
    · exact (hs.2 b (Nat.ne_of_lt (Nat.lt_of_lt_of_le (Heap.lt_size e) I.ok.above))).trans (I.base.keep b o e n hb hx)
    · obtain ⟨sl, e1⟩ := I.base.slot b o e n hb hx
      exact ⟨sl, (hs.2 b (Nat.ne_of_lt (Nat.lt_of_lt_of_le (Heap.lt_size e) I.ok.above))).trans e1⟩
    · obtain ⟨o', e1⟩ := I.base.there b o e hx
      exact ⟨o', (hs.2 b (Nat.ne_of_lt (Nat.lt_of_lt_of_le (Heap.lt_size e) I.ok.above))).trans e1⟩
    · by_cases hj : j = i
      · subst hj
        rw [hi] at e1; cases e1
        rw [List.getElem?_set_self hiσ] at e2
        cases e2
        exact ⟨u, r, .inl ⟨hk, by simp⟩⟩
      · rw [List.getElem?_set_ne (Ne.symm hj)] at e2
        obtain ⟨u', r', q⟩ := hl j y v' e1 e2 e3
        refine ⟨u', r', ?_⟩
        rcases q with ⟨k, e⟩ | ⟨k, c, e, z⟩
        · refine .inl ⟨k, ?_⟩
          have : y ≠ x := fun e => hj (nodup_ix hN e1 (e ▸ hi))
          simp [this, e]
        · exact .inr ⟨k, c, e, z.sameBut hs (cne y c e)⟩
    · obtain ⟨w', z⟩ := I.cell y c e
      exact ⟨w', z.sameBut hs (cne y c e)⟩
    · obtain ⟨e, n, ne, nf, d⟩ := I.pin p hp
      exact ⟨(hs.2 p.1 ne).trans e, n, ne, nf, d⟩
  · have hfn : X.fn x = true := by
      rcases hf with z | z
      · exact z
      · rw [z] at hk; cases hk
    obtain ⟨c, hc⟩ := I.ok.has x (.inl hk)
    obtain ⟨w', z⟩ := I.cell x c hc
    refine wpAny_storeName_cell I.ok.kind hk hc z (fun h' hc' hs => ?_)
    obtain ⟨oc, hoc, hocd⟩ := id z
    refine h { s with heap := h' } ⟨I.ok, I.os, I.bare, ⟨fun b o e n hb hx => ?_, fun b o e n hb hx => ?_, I.base.free, fun b o e hx => ?_, I.base.tups, I.base.frzs, I.base.tbls⟩, ⟨m, hn.sameBut hs (Ne.symm (cne x c hc)), fun j y v' e1 e2 e3 => ?_⟩, fun y c' e => ?_, I.free, I.freeC, fun p hp => ?_, tracked ⟨oc, hoc, I.freeC x c hc⟩ hs, by simpa using I.len⟩ ⟨c, hs, .inr hc⟩
    · exact (hs.2 b (Nat.ne_of_lt (Nat.lt_of_lt_of_le (Heap.lt_size e) (I.ok.cab x c hfn hc)))).trans (I.base.keep b o e n hb hx)
    · obtain ⟨sl, e1⟩ := I.base.slot b o e n hb hx
      exact ⟨sl, (hs.2 b (Nat.ne_of_lt (Nat.lt_of_lt_of_le (Heap.lt_size e) (I.ok.cab x c hfn hc)))).trans e1⟩
    · obtain ⟨o', e1⟩ := I.base.there b o e hx
      exact ⟨o', (hs.2 b (Nat.ne_of_lt (Nat.lt_of_lt_of_le (Heap.lt_size e) (I.ok.cab x c hfn hc)))).trans e1⟩
    · by_cases hj : j = i
      · subst hj
        rw [hi] at e1; cases e1
        rw [List.getElem?_set_self hiσ] at e2
        cases e2
        exact ⟨u, r, .inr ⟨.inl hk, c, hc, hc'⟩⟩
      · rw [List.getElem?_set_ne (Ne.symm hj)] at e2
        obtain ⟨u', r', q⟩ := hl j y v' e1 e2 e3
        refine ⟨u', r', ?_⟩
        rcases q with q | ⟨k, c', e, z'⟩
        · exact .inl q
        · refine .inr ⟨k, c', e, z'.sameBut hs ?_⟩
          rintro rfl
          exact hj (nodup_ix hN e1 (I.ok.inj _ _ _ e hc ▸ hi))
    · by_cases hcc : c' = c
      · subst hcc; exact ⟨_, hc'⟩
      · obtain ⟨w2, z2⟩ := I.cell y c' e
        exact ⟨w2, z2.sameBut hs hcc⟩
    · obtain ⟨e, n, ne, nf, d⟩ := I.pin p hp
      refine ⟨(hs.2 p.1 ?_).trans e, n, ne, nf, d⟩
      intro q
      rw [q, hoc] at e
      have q' : oc = p.2 := Option.some.inj e
      exact d w' (by rw [← q']; exact hocd)
theorem store_ok {M : Model} {A : Around} {E : Value → Shared → Prop} {i : Nat} {x : Str} {v : V} {u : Value} {Q : Unit → Shared → Prop} (I : Inv X pins σ H s) (hN : X.N.Nodup) (hi : X.N[i]? = some x) (hx : Loc X.env.scope x) (r : RelV v u)
    (h : ∀ s', Inv X pins (σ.set i (some v)) H s' → Q () s') (hf : X.fn x = true ∨ X.env.scope.names.lookup x = some .local := by first | exact .inl rfl | exact .inr rfl | assumption) : wpAny M A (storeName X.env x u) Q E s :=
  store_ok2 I hN hi hx r (fun s' I' _ => h s' I') hf
end
noncomputable abbrev XK := Value → Option Addr → Hp → Prop
noncomputable abbrev St := List (Option V)
noncomputable abbrev VK := V → Hp → Prop
noncomputable abbrev TE := St → Hp → VK → Prop
noncomputable abbrev TT := St → Hp → (Bool → Hp → Prop) → Prop
noncomputable abbrev TA := St → Hp → (List V → Hp → Prop) → Prop
structure Ends where
  nx : St → Hp → Prop
  rt : VK
  bk : St → Hp → Prop := fun _ _ => False
  ct : St → Hp → Prop := fun _ _ => False
noncomputable abbrev TS := Ends → St → Hp → Prop
noncomputable def EP (X : Cx) (pins : List (Addr × Obj)) (σ : St) (Q : VK) (u : Value) (s' : Shared) : Prop := ∃ v H', Inv X pins σ H' s' ∧ RelV v u ∧ Q v H'
noncomputable def TP (X : Cx) (pins : List (Addr × Obj)) (σ : St) (Q : Bool → Hp → Prop) (b : Bool) (s' : Shared) : Prop := ∃ H', Inv X pins σ H' s' ∧ Q b H'
noncomputable def AP (X : Cx) (pins : List (Addr × Obj)) (σ : St) (Q : List V → Hp → Prop) (us : List Value) (s' : Shared) : Prop := ∃ vs H', Inv X pins σ H' s' ∧ Vals vs us ∧ Q vs H'
noncomputable def SP (X : Cx) (pins : List (Addr × Obj)) (D : Ends) (f : Flow) (s' : Shared) : Prop :=
  match f with
  | .next => ∃ σ' H', Inv X pins σ' H' s' ∧ D.nx σ' H'
  | .brk => ∃ σ' H', Inv X pins σ' H' s' ∧ D.bk σ' H'
  | .cont => ∃ σ' H', Inv X pins σ' H' s' ∧ D.ct σ' H'
  | .ret u => ∃ v σ' H', Inv X pins σ' H' s' ∧ RelV v u ∧ D.rt v H'
noncomputable def PE (X : Cx) (e : Expr) (t : TE) : Prop :=
  ∀ (pins : List (Addr × Obj)) (s : Shared) (σ : St) (H : Hp) (Q : VK), Inv X pins σ H s → t σ H Q → wpAny (model X.prog X.w) X.A (eval e X.env) (EP X pins σ Q) X.xe s
noncomputable def PT (X : Cx) (e : Expr) (t : TT) : Prop :=
  ∀ (pins : List (Addr × Obj)) (s : Shared) (σ : St) (H : Hp) (Q : Bool → Hp → Prop), Inv X pins σ H s → t σ H Q → wpAny (model X.prog X.w) X.A (isTrue e X.env (eval e X.env)) (TP X pins σ Q) X.xe s
noncomputable def PW (X : Cx) (e : Expr) (t : TT) : Prop :=
  ∀ (whole : Sem Value) (pins : List (Addr × Obj)) (s : Shared) (σ : St) (H : Hp) (Q : Bool → Hp → Prop), Inv X pins σ H s → t σ H Q → wpAny (model X.prog X.w) X.A (isTrue e X.env whole) (TP X pins σ Q) X.xe s
theorem PW.pt {X : Cx} {e : Expr} {t : TT} (h : PW X e t) : PT X e t := h _
noncomputable def PA (X : Cx) (es : List Expr) (t : TA) : Prop :=
  ∀ (pos : Pos) (pins : List (Addr × Obj)) (s : Shared) (σ : St) (H : Hp) (Q : List V → Hp → Prop), Inv X pins σ H s → t σ H Q → wpAny (model X.prog X.w) X.A (spliced (backTo pos (starEach es X.env))) (AP X pins σ Q) X.xe s
noncomputable def PS (X : Cx) (st : Stmt) (t : TS) : Prop :=
  ∀ (pins : List (Addr × Obj)) (s : Shared) (σ : St) (H : Hp) (D : Ends), Inv X pins σ H s → t D σ H → wpAny (model X.prog X.w) X.A (exec st X.env) (SP X pins D) X.xe s
noncomputable def PSs (X : Cx) (st : List Stmt) (t : TS) : Prop :=
  ∀ (pins : List (Addr × Obj)) (s : Shared) (σ : St) (H : Hp) (D : Ends), Inv X pins σ H s → t D σ H → wpAny (model X.prog X.w) X.A (execs st X.env) (SP X pins D) X.xe s
theorem thn {α : Type} {t : Sem α} {Q Q' : α → Shared → Prop} {M : Model} {A : Around} {E : Value → Shared → Prop} {s : Shared} (h : wpAny M A t Q E s) (hQ : ∀ a s, Q a s → Q' a s) : wpAny M A t Q' E s := wpAny_mono h hQ fun _ _ x => x
end L2
namespace L2
open PySem PySem.Spec PyProof.Rows
section
variable {X : Cx}
noncomputable def tVar (i : Nat) : TE := fun σ H Q => ∃ v, σ[i]? = some (some v) ∧ Q v H
noncomputable def tC (v : V) : TE := fun _ H Q => Q v H
theorem pe_var {i : Nat} {x : Str} {pos : Pos} (hN : X.N[i]? = some x) (hv : Vis X.env.scope x) (hd : (x == ("__debug__" : Str)) = false := by decide) (hcd : (x == ("__classdict__" : Str)) = false := by decide) : PE X (.Name x pos) (tVar i) := by
  intro pins s σ H Q I h
  obtain ⟨v, e, h⟩ := h
  obtain ⟨m, hn, hl⟩ := I.loc
  obtain ⟨u, r, l⟩ := hl i x v hN e hv
  have fin : EP X pins σ Q u s := ⟨v, H, I, r, h⟩
  rcases l with ⟨hk, hm⟩ | ⟨hk, c, hc, hcell⟩
  · exact wpAny_Name (wpAny_loadName_local I.ok.kind hk hn hm fin) hd
  · rcases hk with hk | hk
    · exact wpAny_Name (wpAny_loadName_cell I.ok.kind hk hc hcell fin) hd
    · exact wpAny_Name (wpAny_loadName_free I.ok.kind hk hc hcell fin hcd) hd
theorem pe_int {i j pos} : PE X (.Constant (.int i) j pos) (tC (.int i)) := fun _ _ _ H _ I h => wpAny_Constant_int ⟨.int i, H, I.tok _, ⟨_, rfl⟩, h⟩
theorem pe_bl {b j pos} : PE X (.Constant (.bool b) j pos) (tC (.bl b)) := fun _ _ _ H _ I h => Constant_bool ⟨.bl b, H, I, rfl, h⟩
theorem pe_non {j pos} : PE X (.Constant .none j pos) (tC .non) := fun _ _ _ H _ I h => Constant_none ⟨.non, H, I, rfl, h⟩
noncomputable def Gl (X : Cx) (x : Str) : Prop := X.env.kindOf x = some .globalImplicit
theorem ld_glob {E : Value → Shared → Prop} {pins : List (Addr × Obj)} {s : Shared} {σ : St} {H : Hp} {x : Str} {u : Value} {pos : Pos} {Q : Value → Shared → Prop} (I : Inv X pins σ H s) (hg : Gl X x) (hm : X.mg x = some u) (h : Q u s)
    (hd : (x == ("__debug__" : Str)) = false := by decide) : wpAny (model X.prog X.w) X.A (eval (.Name x pos) X.env) Q E s :=
  Calls.Name_function_global I.ok.kind hg (Calls.loadGlobal_global (by rw [I.ok.glob]; exact I.mod.glob.keeps I.bk) hm h) hd
theorem ld_blt {E : Value → Shared → Prop} {pins : List (Addr × Obj)} {s : Shared} {σ : St} {H : Hp} {x : Str} {u : Value} {pos : Pos} {Q : Value → Shared → Prop} (I : Inv X pins σ H s) (hg : Gl X x) (hm : X.mg x = none) (hv : bootBuiltins x = some u) (h : Q u s)
    (hn : x ≠ "__name__" := by decide) (hd : (x == ("__debug__" : Str)) = false := by decide) : wpAny (model X.prog X.w) X.A (eval (.Name x pos) X.env) Q E s := by
  obtain ⟨mb, h1, h2⟩ := I.mod.blt
  exact Calls.Name_function_global I.ok.kind hg (Calls.loadGlobal_builtin (by rw [I.ok.glob]; exact I.mod.glob.keeps I.bk) hm (by rw [I.ok.blt]; exact h1.keeps I.bk) ((h2 x hn).trans hv) h) hd
theorem pe_bltn {x : Str} {v : V} {u : Value} {pos : Pos} (hg : Gl X x) (hm : X.mg x = none) (hv : bootBuiltins x = some u) (r : RelV v u) (hn : x ≠ "__name__" := by decide) (hd : (x == ("__debug__" : Str)) = false := by decide) : PE X (.Name x pos) (tC v) :=
  fun _ _ _ H _ I h => ld_blt I hg hm hv ⟨v, H, I, r, h⟩ hn hd
variable {a b : Expr} {ta tb : TE} {pos : Pos}
noncomputable def tB (t : TE) : TT := fun σ H Q => t σ H fun x H1 => ∃ c, x = .bl c ∧ Q c H1
theorem pt_val {e : Expr} {t : TE} (h : PE X e t) (he : ∀ whole, isTrue e X.env whole = (do let v ← whole; standAt e.pos; holding [v] (truthy v)) := by intro _; rfl) : PT X e (tB t) := by
  intro pins s σ H Q I hw
  refine isTrue_plain (thn (h pins s σ H _ I hw) ?_) (he _)
  rintro v s1 ⟨x, H1, I1, r1, q1⟩
  obtain ⟨d, rfl, q⟩ := q1
  cases r1
  exact wpAny_truthy_bool ⟨H1, I1, q⟩
variable {tA tB' : TT} {rest : List Expr}
noncomputable def tAnd (t u : TT) : TT := fun σ H Q => t σ H fun c H1 => if c = true then u σ H1 Q else Q false H1
noncomputable def tOr (t u : TT) : TT := fun σ H Q => t σ H fun c H1 => if c = true then Q true H1 else u σ H1 Q
noncomputable def tNot (t : TT) : TT := fun σ H Q => t σ H fun c H1 => Q (!c) H1
theorem pw_and1 (ha : PT X a tA) : PW X (.BoolOp .And [a] pos) tA := by
  intro wh pins s σ H Q I h
  refine isTrue_and (thn (ha pins s σ H Q I h) fun c s1 e => ?_)
  cases c with
  | true => exact isTrue_and_nil e
  | false => exact e
theorem pw_or1 (ha : PT X a tA) : PW X (.BoolOp .Or [a] pos) tA := by
  intro wh pins s σ H Q I h
  refine isTrue_or (thn (ha pins s σ H Q I h) fun c s1 e => ?_)
  cases c with
  | false => exact isTrue_or_nil e
  | true => exact e
theorem pw_and (ha : PT X a tA) (hb : PW X (.BoolOp .And (b :: rest) pos) tB') : PW X (.BoolOp .And (a :: b :: rest) pos) (tAnd tA tB') := by
  intro wh pins s σ H Q I h
  refine isTrue_and (thn (ha pins s σ H _ I h) ?_)
  rintro c s1 ⟨H1, I1, q1⟩
  cases c with
  | true => exact hb wh pins s1 σ H1 Q I1 q1
  | false => exact ⟨H1, I1, q1⟩
theorem pw_or (ha : PT X a tA) (hb : PW X (.BoolOp .Or (b :: rest) pos) tB') : PW X (.BoolOp .Or (a :: b :: rest) pos) (tOr tA tB') := by
  intro wh pins s σ H Q I h
  refine isTrue_or (thn (ha pins s σ H _ I h) ?_)
  rintro c s1 ⟨H1, I1, q1⟩
  cases c with
  | true => exact ⟨H1, I1, q1⟩
  | false => exact hb wh pins s1 σ H1 Q I1 q1
theorem pt_not (ha : PT X a tA) : PT X (.UnaryOp .Not a pos) (tNot tA) := by
  intro pins s σ H Q I h
  exact isTrue_not (ha pins s σ H (fun c H1 => Q (!c) H1) I h)
noncomputable def tAndV (ta tb : TE) : TE := fun σ H Q => ta σ H fun x H1 => ∃ c, x = .bl c ∧ if c = true then tb σ H1 Q else Q (.bl false) H1
noncomputable def tNotV (ta : TE) : TE := fun σ H Q => ta σ H fun x H1 => ∃ c, x = .bl c ∧ Q (.bl (!c)) H1
theorem pe_one {op} {t : TE} (h : PE X a t) : PE X (.BoolOp op [a] pos) t := fun pins s σ H Q I hw => BoolOp_one (h pins s σ H Q I hw)
theorem pe_and (ha : PE X a ta) (hb : PE X (.BoolOp .And (b :: rest) pos) tb) : PE X (.BoolOp .And (a :: b :: rest) pos) (tAndV ta tb) := by
  intro pins s σ H Q I h
  refine BoolOp_and (thn (ha pins s σ H _ I h) ?_)
  rintro v s1 ⟨x, H1, I1, r1, q1⟩
  obtain ⟨c, rfl, q1⟩ := q1
  cases r1
  refine wpAny_truthy_bool ?_
  cases c with
  | true => exact hb pins s1 σ H1 Q I1 q1
  | false => exact ⟨.bl false, H1, I1, rfl, q1⟩
theorem pe_not (ha : PE X a ta) : PE X (.UnaryOp .Not a pos) (tNotV ta) := by
  intro pins s σ H Q I h
  refine UnaryOp_ (thn (ha pins s σ H _ I h) ?_)
  rintro v s1 ⟨x, H1, I1, r1, q1⟩
  obtain ⟨c, rfl, q1⟩ := q1
  cases r1
  exact not_of (wpAny_truthy_bool ⟨.bl (!c), H1, I1, rfl, q1⟩)
end
end L2
namespace L2
open PySem PySem.Spec PyProof.Rows
noncomputable def SqL (K : PySem.W.Frag) (H : Hp) (a : Addr) (xs : List V) : Prop :=
  Rd H a (.lst xs) ∨
    ∃ (o : Obj) (its : Array Value) (n : Nat), K.lookup a = some o ∧ o.cls = .type "list" ∧ o.dict = none ∧ o.data = .seq its n ∧ its.size ≤ sizeLine ∧ Vals xs its.toList
noncomputable def SqT (K : PySem.W.Frag) (H : Hp) (a : Addr) (xs : List V) : Prop :=
  Rd H a (.tup xs) ∨
    ∃ (o : Obj) (its : Array Value) (n : Nat), K.lookup a = some o ∧ o.cls = .type "tuple" ∧ o.data = .seq its n ∧ its.size ≤ sizeLine ∧ Vals xs its.toList
noncomputable def absV : Value → Option V
  | .none => some .non
  | .bool b => some (.bl b)
  | .int i _ => some (.int i)
  | .str x _ => some (.str x)
  | .bytes b _ => some (.byt b)
  | .float b _ => some (.flt b)
  | .ref a => some (.ref a)
  | .type n => some (.ty n)
  | _ => none
theorem RelV.abs {x : V} {u : Value} (r : RelV x u) : absV u = some x := by
  cases x with
  | non => cases r; rfl
  | bl _ => cases r; rfl
  | int _ => obtain ⟨t, rfl⟩ := r; rfl
  | str _ => obtain ⟨t, rfl⟩ := r; rfl
  | byt _ => obtain ⟨t, rfl⟩ := r; rfl
  | flt _ => obtain ⟨t, rfl⟩ := r; rfl
  | ref _ => cases r; rfl
  | ty _ => cases r; rfl
theorem RelV.inj {x y : V} {u : Value} (r : RelV x u) (q : RelV y u) : x = y := Option.some.inj (r.abs.symm.trans q.abs)
theorem Vals.inj : ∀ {xs ys : List V} {us : List Value}, Vals xs us → Vals ys us → xs = ys
  | _, _, _, .nil, .nil => rfl
  | _, _, _, .cons r t, .cons r' t' => by rw [r.inj r', Vals.inj t t']
section
variable {X : Cx} {pins : List (Addr × Obj)} {σ : St} {H : Hp} {s : Shared} {a : Addr} {xs ys : List V}
theorem SqL.of {K : PySem.W.Frag} (h : H a = some (.lst xs)) : SqL K H a xs := .inl (.inl h)
theorem SqT.of {K : PySem.W.Frag} (h : H a = some (.tup xs)) : SqT K H a xs := .inl (.inl h)
theorem Inv.list (I : Inv X pins σ H s) (h : SqL X.K H a xs) : ∃ its : List Value, Vals xs its ∧ PlainL s.heap a its.toArray ∧ xs.length ≤ sizeLine := by
  rcases h with h | ⟨o, its, n, hk, hc, hd, hs, hz, r⟩
  · obtain ⟨z, its, n, r, e⟩ := h.ok I.hok
    exact ⟨its, r, ⟨_, n, e, rfl, rfl, rfl⟩, z⟩
  · refine ⟨its.toList, r, ⟨o, n, I.kIn a o hk, hc, hd, by simpa using hs⟩, ?_⟩
    have e := r.length
    simp only [Array.length_toList] at e
    omega
theorem Inv.tuple (I : Inv X pins σ H s) (h : SqT X.K H a xs) : ∃ its : List Value, Vals xs its ∧ IsTup s.heap a its.toArray ∧ xs.length ≤ sizeLine := by
  rcases h with h | ⟨o, its, n, hk, hc, hs, hz, r⟩
  · obtain ⟨z, its, r, p⟩ := h.ok I.hok
    exact ⟨its, r, p, z⟩
  · refine ⟨its.toList, r, ⟨o, I.kIn a o hk, hc, n, by simpa using hs⟩, ?_⟩
    have e := r.length
    simp only [Array.length_toList] at e
    omega
theorem Inv.list_inj (I : Inv X pins σ H s) (h : SqL X.K H a xs) (h' : SqL X.K H a ys) : xs = ys := by
  obtain ⟨its, r, ⟨o, n, e, _, _, d⟩, _⟩ := I.list h
  obtain ⟨its', r', ⟨o', n', e', _, _, d'⟩, _⟩ := I.list h'
  rw [e] at e'; cases e'
  rw [d] at d'
  injection d' with d1 _
  have : its = its' := by simpa using congrArg Array.toList d1
  subst this
  exact r.inj r'
theorem Inv.tuple_inj (I : Inv X pins σ H s) (h : SqT X.K H a xs) (h' : SqT X.K H a ys) : xs = ys := by
  obtain ⟨its, r, ⟨o, e, _, n, d⟩, _⟩ := I.tuple h
  obtain ⟨its', r', ⟨o', e', _, n', d'⟩, _⟩ := I.tuple h'
  rw [e] at e'; cases e'
  rw [d] at d'
  injection d' with d1 _
  have : its = its' := by simpa using congrArg Array.toList d1
  subst this
  exact r.inj r'
end
noncomputable abbrev Cx.wish (X : Cx) (E : Value → Shared → Prop) : Cx := { X with xe := E }
noncomputable abbrev Cx.nox (X : Cx) : Cx := X.wish fun _ _ => False
theorem Cx.Ok.wish {X : Cx} (ok : X.Ok) (E : Value → Shared → Prop) : (X.wish E).Ok :=
  ⟨ok.mod, ok.kind, ok.glob, ok.blt, ok.above, ok.inj, ok.has, ok.cab, ok.hd, ok.frames, ok.stk, ok.exf, ok.bs, ok.bsz, ok.noex, ok.exfs, ok.funs, ok.frf⟩
theorem Cx.Ok.unwish {X : Cx} {E : Value → Shared → Prop} (ok : (X.wish E).Ok) : X.Ok :=
  ⟨ok.mod, ok.kind, ok.glob, ok.blt, ok.above, ok.inj, ok.has, ok.cab, ok.hd, ok.frames, ok.stk, ok.exf, ok.bs, ok.bsz, ok.noex, ok.exfs, ok.funs, ok.frf⟩
section
variable {X : Cx} {pins : List (Addr × Obj)} {σ : St} {H : Hp} {s : Shared} {E : Value → Shared → Prop}
theorem Inv.wish (I : Inv X pins σ H s) (E : Value → Shared → Prop) : Inv (X.wish E) pins σ H s := ⟨I.ok.wish E, I.os, I.bare, I.base, I.loc, I.cell, I.free, I.freeC, I.pin, I.hok, I.len⟩
theorem Inv.unwish (I : Inv (X.wish E) pins σ H s) : Inv X pins σ H s := ⟨I.ok.unwish, I.os, I.bare, I.base, I.loc, I.cell, I.free, I.freeC, I.pin, I.hok, I.len⟩
theorem SP.unwish {D : Ends} {f : Flow} {s' : Shared} (h : SP (X.wish E) pins D f s') : SP X pins D f s' := by
  cases f with
  | next => obtain ⟨σ', H', I, q⟩ := h; exact ⟨σ', H', I.unwish, q⟩
  | brk => obtain ⟨σ', H', I, q⟩ := h; exact ⟨σ', H', I.unwish, q⟩
  | cont => obtain ⟨σ', H', I, q⟩ := h; exact ⟨σ', H', I.unwish, q⟩
  | ret u => obtain ⟨v, σ', H', I, r, q⟩ := h; exact ⟨v, σ', H', I.unwish, r, q⟩
theorem PSs.nox {st : List Stmt} {t : TS} (h : PSs X.nox st t) : PSs X st t := fun pins s σ H D I hw =>
  wpAny_mono (h pins s σ H D (I.wish _) hw) (fun _ _ q => q.unwish) fun _ _ z => False.elim z
end
section
variable {X : Cx} {st : Stmt} {rest : List Stmt} {t u : TS} {e : Expr} {te : TE} {pos : Pos}
noncomputable def tNext : TS := fun D σ H => D.nx σ H
noncomputable def tSeq (t u : TS) : TS := fun D σ H => t { D with nx := u D } σ H
theorem pss_nil : PSs X [] tNext := fun _ _ σ H _ I h => wpAny_execs_nil ⟨σ, H, I, h⟩
theorem pss_cons (h1 : PS X st t) (h2 : PSs X rest u) : PSs X (st :: rest) (tSeq t u) := by
  intro pins s σ H D I h
  refine wpAny_execs_cons (thn (h1 pins s σ H { D with nx := u D } I h) fun f s1 q => ?_)
  cases f with
  | next =>
    obtain ⟨σ', H', I', q⟩ := q
    exact h2 pins s1 σ' H' D I' q
  | ret v => exact q
  | brk => exact q
  | cont => exact q
theorem pss_one (h1 : PS X st t) : PSs X [st] t := by
  intro pins s σ H D I h
  refine wpAny_execs_cons (thn (h1 pins s σ H D I h) fun f s1 q => ?_)
  cases f with
  | next => exact wpAny_execs_nil q
  | ret v => exact q
  | brk => exact q
  | cont => exact q
theorem Inv.quiet {pins : List (Addr × Obj)} {σ : St} {H : Hp} {s : Shared} (I : Inv X pins σ H s) : interactive X.env = false := by simp [interactive, I.ok.kind]
noncomputable def tDrop (te : TE) : TS := fun D σ H => te σ H fun _ H1 => D.nx σ H1
theorem ps_expr (he : PE X e te) (hs : swapsWith e none pos.line X.env = pure false := by rfl) : PS X (.Expr e pos) (tDrop te) := by
  intro pins s σ H D I h
  exact wpAny_Expr_any (thn (he pins s σ H _ I h) fun v s1 ⟨x, H1, I1, r1, q1⟩ => ⟨σ, H1, I1, q1⟩) I.quiet hs
noncomputable def tRet (te : TE) : TS := fun D σ H => te σ H D.rt
theorem ps_ret (he : PE X e te) : PS X (.Return (some e) pos) (tRet te) := by
  intro pins s σ H D I h
  exact wpAny_Return_some (thn (he pins s σ H _ I h) fun v s1 ⟨x, H1, I1, r1, q1⟩ => ⟨x, σ, H1, I1, r1, q1⟩)
noncomputable def tIfS (c : TT) (t u : TS) : TS := fun D σ H => c σ H fun b H1 => if b = true then t D σ H1 else u D σ H1
theorem ps_if {c : Expr} {a b : List Stmt} {tc : TT} (hc : PT X c tc) (ha : PSs X a t) (hb : PSs X b u) : PS X (.If c a b pos) (tIfS tc t u) := by
  intro pins s σ H D I h
  refine wpAny_If (thn (hc pins s σ H _ I h) ?_)
  rintro d s1 ⟨H1, I1, q1⟩
  cases d with
  | true => exact ha pins s1 σ H1 D I1 q1
  | false => exact hb pins s1 σ H1 D I1 q1
noncomputable def tNever : TS := fun _ _ _ => False
theorem ps_never : PS X st tNever := fun _ _ _ _ _ _ h => h.elim
end
noncomputable abbrev TG := V → St → Hp → (St → Hp → Prop) → Prop
noncomputable abbrev TGs := List V → St → Hp → (St → Hp → Prop) → Prop
noncomputable def PG (X : Cx) (target : Expr) (t : TG) : Prop :=
  ∀ (pins : List (Addr × Obj)) (s : Shared) (σ : St) (H : Hp) (v : V) (u : Value) (Q : St → Hp → Prop), Inv X pins σ H s → RelV v u → t v σ H Q →
    wpAny (model X.prog X.w) X.A (assign target X.env u) (fun _ s' => ∃ σ' H', Inv X pins σ' H' s' ∧ Q σ' H') X.xe s
noncomputable def PGs (X : Cx) (ts : List Expr) (t : TGs) : Prop :=
  ∀ (pins : List (Addr × Obj)) (s : Shared) (σ : St) (H : Hp) (vs : List V) (us : List Value) (Q : St → Hp → Prop), Inv X pins σ H s → Vals vs us → t vs σ H Q →
    wpAny (model X.prog X.w) X.A (assignInOrder ((assignEach ts X.env).map (·.2)) us) (fun _ s' => ∃ σ' H', Inv X pins σ' H' s' ∧ Q σ' H') X.xe s
noncomputable abbrev TSet := V → V → V → Hp → (Hp → Prop) → Prop
noncomputable def PSet (X : Cx) (t : TSet) : Prop :=
  ∀ (pins : List (Addr × Obj)) (s : Shared) (σ : St) (H : Hp) (o i v : V) (ov iv u : Value) (Q : Hp → Prop), Inv X pins σ H s → RelV o ov → RelV i iv → RelV v u → t o i v H Q →
    wpAny (model X.prog X.w) X.A (setItem ov iv u) (fun _ s' => ∃ H', Inv X pins σ H' s' ∧ Q H') X.xe s
section
variable {X : Cx} {pos : Pos}
noncomputable def gName (i : Nat) : TG := fun v σ H Q => Q (σ.set i (some v)) H
theorem pg_name {i : Nat} {x : Str} (hN : X.N.Nodup) (hi : X.N[i]? = some x) (hx : Loc X.env.scope x) (hf : X.fn x = true ∨ X.env.scope.names.lookup x = some .local := by first | exact .inl rfl | exact .inr rfl | assumption) : PG X (.Name x pos) (gName i) := by
  intro pins s σ H v u Q I r h
  exact wpAny_assign_Name (store_ok I hN hi hx r (fun s' I' => ⟨_, H, I', h⟩) hf)
noncomputable def gNil : TGs := fun vs σ H Q => vs = [] ∧ Q σ H
noncomputable def gCons (t : TG) (u : TGs) : TGs := fun vs σ H Q => ∃ v r, vs = v :: r ∧ t v σ H fun σ' H' => u r σ' H' Q
theorem pgs_nil : PGs X [] gNil := by
  intro pins s σ H vs us Q I r h
  obtain ⟨e, h⟩ := h
  subst e
  cases r
  exact assignInOrder_nil ⟨σ, H, I, h⟩
theorem pgs_cons {e : Expr} {es : List Expr} {t : TG} {u : TGs} (h1 : PG X e t) (h2 : PGs X es u)
    (hs : (assignEach (e :: es) X.env).map (·.2) = assign e X.env :: (assignEach es X.env).map (·.2) := by rfl) : PGs X (e :: es) (gCons t u) := by
  intro pins s σ H vs us Q I r h
  obtain ⟨v, vr, e1, h⟩ := h
  subst e1
  cases r with
  | cons r rr =>
    rw [hs]
    refine assignInOrder_cons (thn (h1 pins s σ H _ _ _ I r h) ?_)
    rintro _ s1 ⟨σ1, H1, I1, q1⟩
    exact h2 pins s1 σ1 H1 _ _ Q I1 rr q1
noncomputable def gTup (K : PySem.W.Frag) (n : Nat) (t : TGs) : TG := fun v σ H Q => ∃ a xs, v = .ref a ∧ SqT K H a xs ∧ xs.length = n ∧ t xs σ H Q
theorem pg_tup {es : List Expr} {k : Nat} {t : TGs} {n : Nat} (hc : X.calm = true) (h : PGs X es t)
    (hn : (assignEach es X.env).length = n := by rfl) (hst : (assignEach es X.env).findIdx? (·.1) = none := by rfl) : PG X (.Tuple es k pos) (gTup X.K n t) := by
  intro pins s σ H v u Q I r hw
  obtain ⟨a, xs, e1, hq, hl, hw⟩ := hw
  subst e1
  cases r
  obtain ⟨its, rv, ht, hz⟩ := I.tuple hq
  refine assign_Tuple_tuple (I.ok.hd hc) ht (by simp [hn, ← hl, rv.length]) hst fun h' hx => ?_
  have I1 : Inv X pins σ H { s with heap := h' } := I.kept (t' := s.toks) fun b o e => hx b o (Nat.ne_of_lt (Heap.lt_size e)) e
  exact h pins _ σ H xs _ Q I1 (by simpa using rv) hw
noncomputable def gSub (to ti : TE) (t : TSet) : TG := fun v σ H Q => to σ H fun o H1 => ti σ H1 fun i H2 => t o i v H2 fun H3 => Q σ H3
theorem pg_sub {o i : Expr} {to ti : TE} {t : TSet} (ho : PE X o to) (hi : PE X i ti) (hs : PSet X t)
    (ha : ∀ v, assign (.Subscript o i pos) X.env v = (do
      let ov ← holding [v] (eval o X.env)
      let iv ← holding [v, ov] (eval i X.env)
      standAt pos
      holding [v, ov, iv] (setItem ov iv v)
      release [v, ov, iv] []) := by intro _; rfl) : PG X (.Subscript o i pos) (gSub to ti t) := by
  intro pins s σ H v u Q I r h
  rw [ha]
  refine wpAny_bind (wpAny_holding (thn (ho pins s σ H _ I h) ?_))
  rintro ov s1 ⟨x, H1, I1, r1, q1⟩
  refine wpAny_bind (wpAny_holding (thn (hi pins s1 σ H1 _ I1 q1) ?_))
  rintro iv s2 ⟨y, H2, I2, r2, q2⟩
  refine wpAny_bind (wpAny_standAt (wpAny_bind (wpAny_holding (thn (hs pins s2 σ H2 x y v ov iv u _ I2 r1 r2 r q2) ?_))))
  rintro _ s3 ⟨H3, I3, q3⟩
  exact wpAny_release ⟨σ, H3, I3, q3⟩
noncomputable def tAsg (te : TE) (g : TG) : TS := fun D σ H => te σ H fun x H1 => g x σ H1 D.nx
theorem ps_asg {tg e : Expr} {te : TE} {g : TG} (he : PE X e te) (hg : PG X tg g) (hs : swapsWithSole [tg] e pos.line X.env = pure false := by rfl) (hw : swappedStores [tg] e X.env = pure none := by rfl)
    (h1 : (assignEach [tg] X.env).map (·.2) = [assign tg X.env] := by rfl) : PS X (.Assign [tg] e pos) (tAsg te g) := by
  intro pins s σ H D I h
  refine wpAny_Assign_stores (thn (he pins s σ H _ I h) ?_) hs hw
  rintro v s1 ⟨x, H1, I1, r1, q1⟩
  rw [h1]
  exact thn (hg pins s1 σ H1 x v _ I1 r1 q1) fun _ s2 q => q
theorem ps_set {i : Nat} {x : Str} {e : Expr} {te : TE} {pos' : Pos} (hN : X.N.Nodup) (hi : X.N[i]? = some x) (hx : Loc X.env.scope x) (he : PE X e te) (hs : swapsWith e (some (.Name x pos')) pos.line X.env = pure false := by rfl) (hf : X.fn x = true ∨ X.env.scope.names.lookup x = some .local := by first | exact .inl rfl | exact .inr rfl | assumption) :
    PS X (.Assign [.Name x pos'] e pos) (tAsg te (gName i)) := by
  intro pins s σ H D I h
  refine wpAny_Assign_Name (thn (he pins s σ H _ I h) ?_) hs
  rintro v s1 ⟨y, H1, I1, r1, q1⟩
  exact store_ok I1 hN hi hx r1 (fun s2 I2 => ⟨_, H1, I2, q1⟩) hf
noncomputable def tPar (i j : Nat) (ta : TA) : TS := fun D σ H => ta σ H fun vs H1 => ∃ v w, vs = [v, w] ∧ D.nx ((σ.set i (some v)).set j (some w)) H1
theorem ps_par {i j : Nat} {x y : Str} {a b : Expr} {ta : TA} {px py pt : Pos} {kt k2 pt2} (hc : X.calm = true) (hN : X.N.Nodup) (hi : X.N[i]? = some x) (hj : X.N[j]? = some y) (hij : i ≠ j)
    (hx : X.env.scope.names.lookup x = some .local) (hy : X.env.scope.names.lookup y = some .local) (ha : PA X [a, b] ta)
    (hw : swappedStores [.Tuple [.Name x px, .Name y py] kt pt] (.Tuple [a, b] k2 pt2) X.env = pure (some [x, y]))
    (hs : swapsWithSole [.Tuple [.Name x px, .Name y py] kt pt] (.Tuple [a, b] k2 pt2) pos.line X.env = pure false := by rfl) :
    PS X (.Assign [.Tuple [.Name x px, .Name y py] kt pt] (.Tuple [a, b] k2 pt2) pos) (tPar i j ta) := by
  intro pins s σ H D I h
  rw [exec_Assign_arm]
  refine wpAny_bind (wpAny_standAt ?_)
  rw [hs]
  refine wpAny_bind (wpAny_pure ?_)
  rw [if_neg (by decide)]
  refine wpAny_bind (Tuple_ (thn (ha _ pins s σ H _ I h) ?_))
  rintro us s1 ⟨vs, H1, I1, r1, q1⟩
  obtain ⟨v, w, e1, q1⟩ := q1
  subst e1
  obtain ⟨u1, u2, rfl, rv, rw'⟩ : ∃ u1 u2, us = [u1, u2] ∧ RelV v u1 ∧ RelV w u2 := by
    cases r1 with
    | cons p q =>
      cases q with
      | cons p' q' =>
        cases q'
        exact ⟨_, _, rfl, p, p'⟩
  refine wpAny_newObj_type ?_ (by show 2 ≤ sizeLine; decide)
  have I2 : Inv X pins σ H1 { s1 with heap := s1.heap.push { cls := .type "tuple", data := .seq [u1, u2].toArray } } := I1.kept (t' := s1.toks) fun b o e => Heap.get?_push_of_some _ e
  rw [hw]
  refine wpAny_bind (wpAny_pure ?_)
  show wpAny (model X.prog X.w) X.A (do rule "assign.swapped-stores"; let items ← unpackItems (.ref s1.heap.objs.size) 2 none; assignInOrder [fun v => bindName X.env y v, fun v => bindName X.env x v] items.reverse; pure Flow.next) _ _ _
  refine wpAny_bind (wpAny_rule (wpAny_bind (unpackItems_tuple (items := #[u1, u2]) (I.ok.hd hc) (IsTup.new s1.heap _) fun h' hx' => ?_)))
  have I3 := I2.kept (h' := h') (t' := s1.toks) fun b o e => hx' b o (Nat.ne_of_lt (Heap.lt_size e)) e
  show wpAny _ _ (assignInOrder [fun v => bindName X.env y v, fun v => bindName X.env x v] [u2, u1] >>= fun _ => pure Flow.next) _ _ _
  refine wpAny_bind (assignInOrder_cons (wpAny_bindName (store_ok I3 hN hj (.inl hy) rw' (fun s2 I4 => ?_) (.inr hy))))
  refine assignInOrder_cons (wpAny_bindName (store_ok I4 hN hi (.inl hx) rv (fun s3 I5 => assignInOrder_nil (wpAny_pure ?_)) (.inr hx)))
  rw [List.set_comm _ _ (Ne.symm hij)] at I5
  exact ⟨_, H1, I5, q1⟩
end
section
variable {X : Cx} {pos : Pos}
end
structure It where
  go : Nat → Hp → Prop
  yld : Nat → Hp → V → Hp → Prop
  stop : Nat → Hp → Prop
noncomputable def FpOk (X : Cx) (pins : List (Addr × Obj)) (H : Hp) (b : Addr) : Prop :=
  H b = none ∧ b ≠ X.env.locals ∧ b ∉ X.fs ∧ (b ∈ X.ex ∨ X.s₀.heap.objs.size ≤ b) ∧ (∀ x c, X.env.cells.lookup x = some c → c ≠ b) ∧ ∀ p ∈ X.pn ++ pins, p.1 ≠ b
theorem Inv.fpOk {X : Cx} {pins : List (Addr × Obj)} {σ : St} {H H' : Hp} {s : Shared} {b : Addr} (I : Inv X pins σ H s) (hb : s.heap.objs.size ≤ b) (hn : H' b = none) : FpOk X pins H' b := by
  refine ⟨hn, Nat.ne_of_gt (Nat.lt_of_lt_of_le I.lt hb), I.nofs hb, .inr (Nat.le_trans I.sz hb), fun x c e z => ?_, fun p hp z => ?_⟩
  · obtain ⟨v, q⟩ := I.cell x c e
    exact absurd (Nat.lt_of_lt_of_le q.lt (by rw [z]; exact hb)) (Nat.lt_irrefl _)
  · exact absurd (Nat.lt_of_lt_of_le (Heap.lt_size (I.pin p hp).1) (by rw [z]; exact hb)) (Nat.lt_irrefl _)
structure Turn (P : Program) (w : World) (K : PySem.W.Frag) (tg : Expr) (J : It) (fp : List Addr) (it : Addr) (tn : Nat → Heap → Prop) : Prop where
  mem : it ∈ fp
  obj : ∀ i h, tn i h → ∀ b ∈ fp, ∃ o, h.get? b = some o ∧ ∀ v, o.data ≠ .cell v
  keep : ∀ i h h', tn i h → (∀ b ∈ fp, ∀ o, h.get? b = some o → h'.get? b = some o) → tn i h'
  item : ∀ (X : Cx), X.prog = P → X.w = w → X.K = K → X.calm = true → ∀ (i : Nat) (pins : List (Addr × Obj)) (s : Shared) (σ : St) (H : Hp) (E : Value → Shared → Prop), Inv X pins σ H s → (∀ b ∈ fp, FpOk X pins H b) → tn i s.heap → J.go i H →
    wpAny (model P w) X.A (pyNext (.ref it)) (fun r s1 => ∃ u, r = some u ∧
      wpAny (model P w) X.A (letOwnedTupleGo tg (.ref it) u) (fun _ s2 => ∃ x H', Inv X pins σ H' s2 ∧ RelV x u ∧ J.yld i H x H' ∧ tn (i + 1) s2.heap ∧ ∀ b ∈ fp, H' b = none) E s1) E s
  done : ∀ (X : Cx), X.prog = P → X.w = w → X.K = K → X.calm = true → ∀ (i : Nat) (pins : List (Addr × Obj)) (s : Shared) (σ : St) (H : Hp) (E : Value → Shared → Prop), Inv X pins σ H s → (∀ b ∈ fp, FpOk X pins H b) → tn i s.heap → J.stop i H →
    wpAny (model P w) X.A (pyNext (.ref it)) (fun r s1 => r = none ∧ Inv X pins σ H s1) E s
  self : ∀ (A : Around) (i : Nat) (s : Shared) (Q : Value → Shared → Prop) (E : Value → Shared → Prop), tn i s.heap → Q (.ref it) s → wpAny (model P w) A (pyIter (.ref it)) Q E s
noncomputable abbrev TI := St → Hp → (It → Hp → Prop) → Prop
noncomputable def PIE (X : Cx) (pins : List (Addr × Obj)) (σ : St) (tg : Expr) (R : It → Hp → Prop) (itv : Value) (s2 : Shared) : Prop :=
  ∃ (it : Addr) (fp : List Addr) (tn : Nat → Heap → Prop) (J : It) (H' : Hp), itv = .ref it ∧ Inv X pins σ H' s2 ∧ Turn X.prog X.w X.K tg J fp it tn ∧ tn 0 s2.heap ∧ (∀ b ∈ fp, FpOk X pins H' b) ∧ R J H'
noncomputable def PI (X : Cx) (tg iter : Expr) (wi : TI) : Prop :=
  ∀ (pins : List (Addr × Obj)) (s : Shared) (σ : St) (H : Hp) (R : It → Hp → Prop), Inv X pins σ H s → wi σ H R →
    wpAny (model X.prog X.w) X.A (eval iter X.env) (fun v s1 => wpAny (model X.prog X.w) X.A (pyIter v) (PIE X pins σ tg R) X.xe s1) X.xe s
theorem go_of {M : Model} {A : Around} {E : Value → Shared → Prop} {s : Shared} {tg : Expr} {it : Addr} {u : Value} {o : Obj} {n : String} {vs : Array Value} {Q : Unit → Shared → Prop} (ho : s.heap.get? it = some o) (hc : o.cls = .type n) (hd : o.data = .fields vs)
    (hn : ["enumerate", "zip", "dict_itemiterator", "dict_reverseitemiterator", "odict_iterator", "itertools.zip_longest", "itertools.pairwise"].contains n = false) (hQ : Q () s) : wpAny M A (letOwnedTupleGo tg (.ref it) u) Q E s := by
  unfold letOwnedTupleGo
  cases tg <;> first
    | exact wpAny_pure hQ
    | (cases u <;> first
        | exact wpAny_pure hQ
        | (refine wpAny_bind (wpAny_load ho ?_)
           rw [hc, hd]
           show wpAny M A (if (["enumerate", "zip", "dict_itemiterator", "dict_reverseitemiterator", "odict_iterator", "itertools.zip_longest", "itertools.pairwise"].contains n && vs[0]? == some (rawInt _)) = true then _ else _) Q E s
           rw [if_neg (by intro h; rw [hn, Bool.false_and] at h; cases h)]
           exact wpAny_pure hQ))
noncomputable def Itl (K : PySem.W.Frag) (a : Addr) : It :=
  ⟨fun i H => ∃ xs x, SqL K H a xs ∧ xs[i]? = some x, fun i H x H' => H' = H ∧ ∀ xs, SqL K H a xs → xs[i]? = some x, fun i H => ∃ xs, SqL K H a xs ∧ xs.length ≤ i⟩
noncomputable def Itt (K : PySem.W.Frag) (a : Addr) : It :=
  ⟨fun i H => ∃ xs x, SqT K H a xs ∧ xs[i]? = some x, fun i H x H' => H' = H ∧ ∀ xs, SqT K H a xs → xs[i]? = some x, fun i H => ∃ xs, SqT K H a xs ∧ xs.length ≤ i⟩
noncomputable def Itr (lo : Int) (n : Nat) : It := ⟨fun i _ => i < n, fun i H x H' => H' = H ∧ x = .int (lo + i), fun i _ => n ≤ i⟩
theorem turn_list {P : Program} {w : World} {K : PySem.W.Frag} {tg : Expr} (a it : Addr) : Turn P w K tg (Itl K a) [it] it (fun i h => h.IsListIter it a i) where
  mem := by simp
  obj := fun i h st b hb => by
    have e : b = it := by simpa using hb
    subst e
    obtain ⟨o, e, c, d⟩ := st
    exact ⟨o, e, fun v z => by rw [d] at z; cases z⟩
  keep := fun i h h' st k => st.at fun o e => k it (by simp) o e
  item := by
    intro X hP hw hK hc i pins s σ H E I hf st hg
    subst hP hw hK
    obtain ⟨xs, x, hq, hx⟩ := hg
    obtain ⟨its, rv, p, hz⟩ := I.list hq
    obtain ⟨u, hu, ru⟩ := rv.get hx
    obtain ⟨f0, f1, f2, f3, f4, f5⟩ := hf it (by simp)
    refine wpAny_pyNext_list_item st p.isList (x := u) (by simpa using hu) fun h' st' sb => ?_
    have I1 : Inv X pins σ H { s with heap := h' } := I.turned (t' := s.toks) (fun b o hb e => (sb.2 b hb).trans e) f0 f1 f3 f4 f5
    obtain ⟨o, e, c, d⟩ := id st'
    exact ⟨u, rfl, go_of (s := { s with heap := h' }) e c d (by decide) ⟨x, H, I1, ru, ⟨rfl, fun ys hy => by rw [I.list_inj hy hq]; exact hx⟩, st', fun b hb => (hf b hb).1⟩⟩
  done := by
    intro X hP hw hK hc i pins s σ H E I hf st hg
    subst hP hw hK
    obtain ⟨xs, hq, hx⟩ := hg
    obtain ⟨its, rv, p, hz⟩ := I.list hq
    obtain ⟨f0, f1, f2, f3, f4, f5⟩ := hf it (by simp)
    have hl := rv.length
    exact wpAny_pyNext_list_end (I.ok.hd hc) st p.isList (by simp; omega) fun h' eb => ⟨rfl, I.turned (t' := s.toks) (fun b o hb e => eb b o hb e) f0 f1 f3 f4 f5⟩
  self := fun _ _ _ _ _ st h => wpAny_pyIter_listiter st h
theorem turn_tuple {P : Program} {w : World} {K : PySem.W.Frag} {tg : Expr} (a it : Addr) : Turn P w K tg (Itt K a) [it] it (fun i h => h.IsTupleIter it a i) where
  mem := by simp
  obj := fun i h st b hb => by
    have e : b = it := by simpa using hb
    subst e
    obtain ⟨o, e, c, d⟩ := st
    exact ⟨o, e, fun v z => by rw [d] at z; cases z⟩
  keep := fun i h h' st k => st.at fun o e => k it (by simp) o e
  item := by
    intro X hP hw hK hc i pins s σ H E I hf st hg
    subst hP hw hK
    obtain ⟨xs, x, hq, hx⟩ := hg
    obtain ⟨its, rv, p, hz⟩ := I.tuple hq
    obtain ⟨u, hu, ru⟩ := rv.get hx
    obtain ⟨f0, f1, f2, f3, f4, f5⟩ := hf it (by simp)
    refine wpAny_pyNext_tuple_item st (show s.heap.IsTuple a its.toArray from p) (x := u) (by simpa using hu) fun h' st' sb => ?_
    have I1 : Inv X pins σ H { s with heap := h' } := I.turned (t' := s.toks) (fun b o hb e => (sb.2 b hb).trans e) f0 f1 f3 f4 f5
    obtain ⟨o, e, c, d⟩ := id st'
    exact ⟨u, rfl, go_of (s := { s with heap := h' }) e c d (by decide) ⟨x, H, I1, ru, ⟨rfl, fun ys hy => by rw [I.tuple_inj hy hq]; exact hx⟩, st', fun b hb => (hf b hb).1⟩⟩
  done := by
    intro X hP hw hK hc i pins s σ H E I hf st hg
    subst hP hw hK
    obtain ⟨xs, hq, hx⟩ := hg
    obtain ⟨its, rv, p, hz⟩ := I.tuple hq
    obtain ⟨f0, f1, f2, f3, f4, f5⟩ := hf it (by simp)
    have hl := rv.length
    exact wpAny_pyNext_tuple_end (I.ok.hd hc) st (show s.heap.IsTuple a its.toArray from p) (by simp; omega) fun h' eb => ⟨rfl, I.turned (t' := s.toks) (fun b o hb e => eb b o hb e) f0 f1 f3 f4 f5⟩
  self := fun _ _ _ _ _ st h => wpAny_pyIter_tupleiter st h
theorem turn_range {P : Program} {w : World} {K : PySem.W.Frag} {tg : Expr} (it : Addr) (lo : Int) (n : Nat) : Turn P w K tg (Itr lo n) [it] it (fun i h => IsRangeIter h it (lo + (i : Nat) * 1) ((n : Int) - (i : Nat)) 1) where
  mem := by simp
  obj := fun i h st b hb => by
    have e : b = it := by simpa using hb
    subst e
    exact ⟨_, st, fun v z => by
      have z' : Data.fields _ = Data.cell v := z
      cases z'⟩
  keep := fun i h h' st k => k it (by simp) _ st
  item := by
    intro X hP hw hK hc i pins s σ H E I hf st hg
    subst hP hw hK
    obtain ⟨f0, f1, f2, f3, f4, f5⟩ := hf it (by simp)
    have W := Walks.range (prog := X.prog) (w := X.w) (I.ok.hd hc) it lo 1 n
    refine W.item i s _ _ hg st fun v h' tk hv st' kk => ?_
    obtain ⟨t, rfl⟩ := hv
    have I1 : Inv X pins σ H { s with heap := h', toks := tk } := I.turned (fun b o hb e => kk b o (by simpa using hb) e) f0 f1 f3 f4 f5
    refine ⟨_, rfl, go_of (s := { s with heap := h', toks := tk }) (n := "range_iterator") st' rfl rfl (by decide) ⟨.int (lo + i), H, I1, ⟨t, ?_⟩, ⟨rfl, rfl⟩, st', fun b hb => (hf b hb).1⟩⟩
    rw [Int.mul_one]
  done := by
    intro X hP hw hK hc i pins s σ H E I hf st hg
    subst hP hw hK
    obtain ⟨f0, f1, f2, f3, f4, f5⟩ := hf it (by simp)
    exact wpAny_pyNext_range_end (I.ok.hd hc) st (by have : n ≤ i := hg; omega) fun h' eb => ⟨rfl, I.turned (t' := s.toks) (fun b o hb e => eb b o hb e) f0 f1 f3 f4 f5⟩
  self := fun _ _ _ _ _ st h => wpAny_pyIter_rangeiter st h
end L2
namespace L2
open PySem PySem.Spec PyProof.Rows
section
variable {X : Cx} {tg : Expr}
theorem range_it {pins : List (Addr × Obj)} {σ : St} {H : Hp} {s : Shared} {R : It → Hp → Prop} {E : Value → Shared → Prop} {lo hi : Int} {t u v : Tok} {tk : Nat} (I : Inv X pins σ H s) (h1 : -(2 ^ 62) ≤ lo) (h2 : lo < 2 ^ 62) (h3 : -(2 ^ 62) ≤ hi) (h4 : hi < 2 ^ 62)
    (q : R (Itr lo (hi - lo).toNat) H) : wpAny (model X.prog X.w) X.A (pyIter (.ref s.heap.objs.size)) (PIE X pins σ tg R) E { s with heap := s.heap.push { cls := .type "range", data := .fields #[.int lo t, .int hi u, .int 1 v] }, toks := tk } := by
  refine wpAny_pyIter_range (IsRange.new ..) (small_one h1 h2 h3 h4) ?_
  have I1 : Inv X pins σ H { s with heap := s.heap.push { cls := .type "range", data := .fields #[.int lo t, .int hi u, .int 1 v] }, toks := tk } := I.kept fun b o e => Heap.get?_push_of_some _ e
  refine ⟨(s.heap.push { cls := .type "range", data := .fields #[.int lo t, .int hi u, .int 1 v] }).objs.size, [(s.heap.push { cls := .type "range", data := .fields #[.int lo t, .int hi u, .int 1 v] }).objs.size], _, _, H, rfl,
    I1.kept (t' := tk) fun b o e => Heap.get?_push_of_some _ e, turn_range _ lo (hi - lo).toNat, ?_, fun b hb => ?_, q⟩
  · have e1 : lo + ((0 : Nat) : Int) * 1 = lo := by simp
    have e2 : (((hi - lo).toNat : Nat) : Int) - ((0 : Nat) : Int) = Builtin.Range.rangeSize lo hi 1 := by rw [rangeSize_one]; split <;> omega
    show IsRangeIter _ _ (lo + ((0 : Nat) : Int) * 1) ((((hi - lo).toNat : Nat) : Int) - ((0 : Nat) : Int)) 1
    rw [e1, e2]
    exact Heap.get?_push_size _ rfl
  · have e : b = (s.heap.push { cls := .type "range", data := .fields #[.int lo t, .int hi u, .int 1 v] }).objs.size := by simpa using hb
    subst e
    exact I1.fpOk (Nat.le_refl _) (I1.hok.fresh (Nat.le_refl _))
noncomputable def iRng1 (ta : TA) : TI := fun σ H R => ta σ H fun vs H1 => ∃ j : Int, vs = [.int j] ∧ -(2 ^ 62) ≤ j ∧ j < 2 ^ 62 ∧ R (Itr 0 j.toNat) H1
noncomputable def iRng2 (ta : TA) : TI := fun σ H R => ta σ H fun vs H1 => ∃ i j : Int, vs = [.int i, .int j] ∧ (-(2 ^ 62) ≤ i ∧ i < 2 ^ 62 ∧ -(2 ^ 62) ≤ j ∧ j < 2 ^ 62) ∧ R (Itr i (j - i).toNat) H1
theorem pi_range1 {a : Expr} {ta : TA} {p pos : Pos} (hg : Gl X "range") (hm : X.mg "range" = none) (ha : PA X [a] ta) (hs : starEach [a] X.env = [(false, eval a X.env)] := by rfl) : PI X tg (.Call (.Name "range" p) [a] [] pos) (iRng1 ta) := by
  intro pins s σ H R I h
  refine Call_ (ld_blt I hg hm boot_range (PyProof.Rows.callWith_type1 (thn (ha pos pins s σ H _ I h) ?_) hs rfl))
  rintro us s1 ⟨vs, H1, I1, r1, q1⟩
  obtain ⟨j, e, q1, q2, q⟩ := q1
  subst e
  cases r1 with
  | cons r rr =>
    cases rr
    obtain ⟨t, rfl⟩ := r
    exact call_range_1 (range_it I1 (by omega) (by omega) q1 q2 (by simpa using q))
theorem pi_range2 {a b : Expr} {ta : TA} {p pos : Pos} (hg : Gl X "range") (hm : X.mg "range" = none) (ha : PA X [a, b] ta) (hs : starEach [a, b] X.env = [(false, eval a X.env), (false, eval b X.env)] := by rfl) (hs2 : starEach [b] X.env = [(false, eval b X.env)] := by rfl) :
    PI X tg (.Call (.Name "range" p) [a, b] [] pos) (iRng2 ta) := by
  intro pins s σ H R I h
  refine Call_ (ld_blt I hg hm boot_range (PyProof.Rows.callWith_type1 (thn (ha pos pins s σ H _ I h) ?_) (by rw [hs, hs2]) (by rw [hs2]; rfl)))
  rintro us s1 ⟨vs, H1, I1, r1, q1⟩
  obtain ⟨i, j, e, ⟨q1, q2, q3, q4⟩, q⟩ := q1
  subst e
  cases r1 with
  | cons r rr =>
    cases rr with
    | cons r' rr =>
      cases rr
      obtain ⟨t, rfl⟩ := r
      obtain ⟨t', rfl⟩ := r'
      exact call_range_2 (range_it I1 q1 q2 q3 q4 q)
noncomputable def tFor (wi : TI) (g : TG) (tb : TS) : TS := fun D σ H => wi σ H fun J H1 => ∃ W : Nat → Nat → St → Hp → Prop, (∃ m, W 0 m σ H1) ∧ ∀ i m σ H, W i m σ H →
  (J.stop i H ∧ D.nx σ H) ∨ (J.go i H ∧ ∃ N : St → Hp → Prop, (∀ σ' H', N σ' H' → ∃ m', m' < m ∧ W (i + 1) m' σ' H') ∧ ∀ x H', J.yld i H x H' → g x σ H' fun σ2 H2 => tb { D with nx := N, ct := N, bk := D.nx } σ2 H2)
noncomputable def pinsAt (fp : List Addr) (h : Heap) : List (Addr × Obj) := fp.filterMap fun b => (h.get? b).map fun o => (b, o)
theorem mem_pinsAt {fp : List Addr} {h : Heap} {b : Addr} {o : Obj} (hb : b ∈ fp) (e : h.get? b = some o) : (b, o) ∈ pinsAt fp h := List.mem_filterMap.mpr ⟨b, hb, by rw [e]; rfl⟩
theorem of_pinsAt {fp : List Addr} {h : Heap} {p : Addr × Obj} (hp : p ∈ pinsAt fp h) : p.1 ∈ fp ∧ h.get? p.1 = some p.2 := by
  obtain ⟨b, hb, e⟩ := List.mem_filterMap.mp hp
  cases q : h.get? b with
  | none => rw [q] at e; cases e
  | some o =>
    rw [q] at e
    have e' : (b, o) = p := Option.some.inj e
    subst e'
    exact ⟨hb, q⟩
theorem Inv.pinned {pins : List (Addr × Obj)} {σ : St} {H : Hp} {s : Shared} {fp : List Addr} (I : Inv X pins σ H s) (hf : ∀ b ∈ fp, FpOk X pins H b) (ho : ∀ b ∈ fp, ∃ o, s.heap.get? b = some o ∧ ∀ v, o.data ≠ .cell v) : Inv X (pins ++ pinsAt fp s.heap) σ H s :=
  I.pins_of fun p hp => (List.mem_append.mp hp).elim (fun z => I.pin p (List.mem_append_right _ z)) fun z => by
    obtain ⟨hb, e⟩ := of_pinsAt z
    obtain ⟨f0, f1, f2, _⟩ := hf p.1 hb
    obtain ⟨o, e', d⟩ := ho p.1 hb
    rw [e] at e'; cases e'
    exact ⟨e, f0, f1, f2, d⟩
theorem Inv.unpinned {pins pl : List (Addr × Obj)} {σ : St} {H : Hp} {s : Shared} (I : Inv X (pins ++ pl) σ H s) : Inv X pins σ H s := I.pins_of fun p hp => I.pin p (List.mem_append_right _ (List.mem_append_left _ hp))
theorem ps_for {iter : Expr} {body : List Stmt} {wi : TI} {g : TG} {tb : TS} {pos : Pos} (hp : PassesOwn (model X.prog X.w) X.A X.env X.xe) (hc : X.calm = true) (hi : PI X tg iter wi) (hg : PG X tg g) (hb : PSs X body tb)
    (hs : ∀ x, foldedSetIterable iter X.env x = pure x := by intro _; rfl) : PS X (.For tg iter body [] pos) (tFor wi g tb) := by
  intro pins s σ H D I h
  refine wpAny_For (thn (hi pins s σ H _ I h) fun v s1 h1 => thn h1 fun itv s2 h2 => ?_) hs
  obtain ⟨it, fp, tn, J, H2, e, I2, T, st2, f2, W, ⟨m0, w0⟩, turn⟩ := h2
  subst e
  -- what stays true of the iterator's objects through the loop
  have stat : ∀ {H' : Hp}, (∀ b ∈ fp, H' b = none) → ∀ b ∈ fp, FpOk X pins H' b := fun hn b hb => ⟨hn b hb, (f2 b hb).2⟩
  refine codeAny_forLoop_any (fun n s' => ∃ i σ' H', Inv X pins σ' H' s' ∧ tn i s'.heap ∧ (∀ b ∈ fp, H' b = none) ∧ W i n σ' H') ?_ m0 ⟨0, σ, H2, I2, st2, fun b hb => (f2 b hb).1, w0⟩
  rintro n s3 ⟨i, σ3, H3, I3, st3, fr3, w3⟩
  rcases turn i n σ3 H3 w3 with ⟨stop, qn⟩ | ⟨go, N, hN, step⟩
  · refine wpAny_passesOwn hp (thn (T.done X rfl rfl rfl hc i pins s3 σ3 H3 X.xe I3 (stat fr3) st3 stop) ?_)
    rintro r s4 ⟨hr, I4⟩
    subst hr
    exact wpAny_execs_nil ⟨σ3, H3, I4, qn⟩
  · refine wpAny_passesOwn hp (thn (T.item X rfl rfl rfl hc i pins s3 σ3 H3 X.xe I3 (stat fr3) st3 go) ?_)
    rintro r s4 ⟨u, hr, h4⟩
    subst hr
    refine wpAny_passesOwn hp (thn h4 ?_)
    rintro _ s5 ⟨x, H5, I5, r5, y5, st5, fr5⟩
    have I5' := I5.pinned (stat fr5) (T.obj _ _ st5)
    refine wpAny_passesOwn hp (thn (hg _ s5 σ3 H5 x u _ I5' r5 (step x H5 y5)) ?_)
    rintro _ s6 ⟨σ6, H6, I6, q6⟩
    refine wpAny_passesOwn hp (thn (hb _ s6 σ6 H6 _ I6 q6) fun f s7 q7 => ?_)
    have again : ∀ {σ7 : St} {H7 : Hp}, Inv X (pins ++ pinsAt fp s5.heap) σ7 H7 s7 → N σ7 H7 → ∃ m, m < n ∧ ∃ i σ' H', Inv X pins σ' H' s7 ∧ tn i s7.heap ∧ (∀ b ∈ fp, H' b = none) ∧ W i m σ' H' := fun {σ7 H7} I7 n7 => by
      obtain ⟨m', hm, w7⟩ := hN σ7 H7 n7
      refine ⟨m', hm, i + 1, σ7, H7, I7.unpinned, T.keep _ _ _ st5 fun b hb o e => (I7.pin (b, o) (List.mem_append_right _ (List.mem_append_right _ (mem_pinsAt hb e)))).1, fun b hb => ?_, w7⟩
      obtain ⟨o, e, d⟩ := T.obj _ _ st5 b hb
      exact (I7.pin (b, o) (List.mem_append_right _ (List.mem_append_right _ (mem_pinsAt hb e)))).2.1
    cases f with
    | next => obtain ⟨σ7, H7, I7, n7⟩ := q7; exact again I7 n7
    | cont => obtain ⟨σ7, H7, I7, n7⟩ := q7; exact again I7 n7
    | brk => obtain ⟨σ7, H7, I7, q7⟩ := q7; exact ⟨σ7, H7, I7.unpinned, q7⟩
    | ret v => obtain ⟨x7, σ7, H7, I7, r7, q7⟩ := q7; exact ⟨x7, σ7, H7, I7.unpinned, r7, q7⟩
end
end L2
namespace L2
open PySem PySem.Spec PyProof.Rows
noncomputable abbrev R2 := V → V → Hp → VK → Prop
noncomputable def OpR (X : Cx) (f : Value → Value → Sem Value) (r : R2) : Prop :=
  ∀ (pins : List (Addr × Obj)) (s : Shared) (σ : St) (H : Hp) (x y : V) (v u : Value) (Q : VK), Inv X pins σ H s → RelV x v → RelV y u → r x y H Q →
    wpAny (model X.prog X.w) X.A (f v u) (EP X pins σ Q) X.xe s
noncomputable def UnR (X : Cx) (f : Value → Sem Value) (r : V → Hp → VK → Prop) : Prop :=
  ∀ (pins : List (Addr × Obj)) (s : Shared) (σ : St) (H : Hp) (x : V) (v : Value) (Q : VK), Inv X pins σ H s → RelV x v → r x H Q →
    wpAny (model X.prog X.w) X.A (f v) (EP X pins σ Q) X.xe s
noncomputable def CallR (X : Cx) (f : Value) (r : List V → Hp → VK → Prop) : Prop :=
  ∀ (pins : List (Addr × Obj)) (s : Shared) (σ : St) (H : Hp) (xs : List V) (us : List Value) (Q : VK), Inv X pins σ H s → Vals xs us → r xs H Q →
    wpAny (model X.prog X.w) X.A (call f us) (EP X pins σ Q) X.xe s
noncomputable def tOp (r : R2) (ta tb : TE) : TE := fun σ H Q => ta σ H fun x H1 => tb σ H1 fun y H2 => r x y H2 Q
noncomputable def tUn (r : V → Hp → VK → Prop) (ta : TE) : TE := fun σ H Q => ta σ H fun x H1 => r x H1 Q
noncomputable def rI (C : Int → Int → Prop) (g : Int → Int → V) : R2 := fun x y H Q => ∃ i j, x = .int i ∧ y = .int j ∧ C i j ∧ Q (g i j) H
noncomputable def rI0 (g : Int → Int → V) : R2 := fun x y H Q => ∃ i j, x = .int i ∧ y = .int j ∧ Q (g i j) H
noncomputable def rU (g : Int → V) : V → Hp → VK → Prop := fun x H Q => ∃ i, x = .int i ∧ Q (g i) H
section
variable {X : Cx} {a b c : Expr} {ta tb tc : TE} {pos : Pos}
theorem binT (ha : PE X a ta) (hb : PE X b tb) {pins : List (Addr × Obj)} {s : Shared} {σ : St} {H : Hp} {R : V → V → Hp → Prop} (I : Inv X pins σ H s)
    (h : ta σ H fun x H1 => tb σ H1 fun y H2 => R x y H2) {Q : Value → Shared → Prop} {f : Value → Value → Sem Value}
    (hf : ∀ v u s2 x y H2, Inv X pins σ H2 s2 → RelV x v → RelV y u → R x y H2 → wpAny (model X.prog X.w) X.A (f v u) Q X.xe s2) :
    wpAny (model X.prog X.w) X.A (eval a X.env) (fun v s₁ => wpAny (model X.prog X.w) X.A (eval b X.env) (fun u s₂ => wpAny (model X.prog X.w) X.A (f v u) Q X.xe s₂) X.xe s₁) X.xe s := by
  refine thn (ha pins s σ H _ I h) ?_
  rintro v s1 ⟨x, H1, I1, r1, q1⟩
  refine thn (hb pins s1 σ H1 _ I1 q1) ?_
  rintro u s2 ⟨y, H2, I2, r2, q2⟩
  exact hf v u s2 x y H2 I2 r1 r2 q2
theorem pe_op {op : Operator} {r : R2} (ho : OpR X (binaryOp op) r) (ha : PE X a ta) (hb : PE X b tb) : PE X (.BinOp a op b pos) (tOp r ta tb) := by
  intro pins s σ H Q I h
  exact wpAny_BinOp (binT ha hb I h fun v u s2 x y H2 I2 rx ry q => ho pins s2 σ H2 x y v u Q I2 rx ry q)
theorem pe_un {op : UnaryOp} {r : V → Hp → VK → Prop} (ho : UnR X (unaryOp op) r) (ha : PE X a ta) : PE X (.UnaryOp op a pos) (tUn r ta) := by
  intro pins s σ H Q I h
  exact UnaryOp_ (thn (ha pins s σ H _ I h) fun v s1 ⟨x, H1, I1, r1, q1⟩ => ho pins s1 σ H1 x v Q I1 r1 q1)
theorem opI {f : Value → Value → Sem Value} {C : Int → Int → Prop} {g : Int → Int → Int}
    (rule : ∀ (i j : Int) (t u : Tok) (s : Shared) (Q : Value → Shared → Prop) (E : Value → Shared → Prop), C i j → Q (.int (g i j) s.toks) { s with toks := s.toks + 1 } → wpAny (model X.prog X.w) X.A (f (.int i t) (.int j u)) Q E s) :
    OpR X f (rI C fun i j => .int (g i j)) := by
  intro pins s σ H x y v u Q I rx ry h
  obtain ⟨i, j, rfl, rfl, hc, q⟩ := h
  obtain ⟨t, rfl⟩ := rx
  obtain ⟨t', rfl⟩ := ry
  exact rule i j t t' s _ _ hc ⟨.int (g i j), H, I.tok _, ⟨_, rfl⟩, q⟩
theorem opI0 {f : Value → Value → Sem Value} {g : Int → Int → Int}
    (rule : ∀ (i j : Int) (t u : Tok) (s : Shared) (Q : Value → Shared → Prop) (E : Value → Shared → Prop), Q (.int (g i j) s.toks) { s with toks := s.toks + 1 } → wpAny (model X.prog X.w) X.A (f (.int i t) (.int j u)) Q E s) :
    OpR X f (rI0 fun i j => .int (g i j)) := by
  intro pins s σ H x y v u Q I rx ry h
  obtain ⟨i, j, rfl, rfl, q⟩ := h
  obtain ⟨t, rfl⟩ := rx
  obtain ⟨t', rfl⟩ := ry
  exact rule i j t t' s _ _ ⟨.int (g i j), H, I.tok _, ⟨_, rfl⟩, q⟩
theorem opB0 {f : Value → Value → Sem Value} {g : Int → Int → Bool}
    (rule : ∀ (i j : Int) (t u : Tok) (s : Shared) (Q : Value → Shared → Prop) (E : Value → Shared → Prop), Q (.bool (g i j)) s → wpAny (model X.prog X.w) X.A (f (.int i t) (.int j u)) Q E s) :
    OpR X f (rI0 fun i j => .bl (g i j)) := by
  intro pins s σ H x y v u Q I rx ry h
  obtain ⟨i, j, rfl, rfl, q⟩ := h
  obtain ⟨t, rfl⟩ := rx
  obtain ⟨t', rfl⟩ := ry
  exact rule i j t t' s _ _ ⟨.bl (g i j), H, I, rfl, q⟩
noncomputable def CPow (i j : Int) : Prop := 0 ≤ j ∧ j ≤ 1000000 ∧ i.natAbs < 2 ^ 64
noncomputable def CMul (i j : Int) : Prop := (-(2 ^ 64) < i ∧ i < 2 ^ 64) ∨ (-(2 ^ 64) < j ∧ j < 2 ^ 64)
theorem CMul.ok {i j : Int} (h : CMul i j) : IntMulOk i j := by
  rcases h with ⟨h1, h2⟩ | ⟨h1, h2⟩
  · exact .of_left (intBits_le_64 h1 h2)
  · exact .of_right (intBits_le_64 h1 h2)
theorem op_add : OpR X (binaryOp .Add) (rI0 fun i j => .int (i + j)) := opI0 fun _ _ _ _ _ _ _ q => add_int q
theorem op_sub : OpR X (binaryOp .Sub) (rI0 fun i j => .int (i - j)) := opI0 fun _ _ _ _ _ _ _ q => sub_int q
theorem op_mul : OpR X (binaryOp .Mult) (rI CMul fun i j => .int (i * j)) := opI fun _ _ _ _ _ _ _ hc q => mul_int q hc.ok
theorem op_mod : OpR X (binaryOp .Mod) (rI (fun _ j => 0 < j) fun i j => .int (i % j)) := opI fun i j _ _ _ _ _ hc q => by
  have h1 : (0 : Int) < j := hc
  exact mod_int' (by omega) (by rw [Int.fmod_eq_emod_of_nonneg i (by omega)]; exact q)
theorem op_pow : OpR X (binaryOp .Pow) (rI CPow fun i j => .int (i ^ j.toNat)) := opI fun _ _ _ _ _ _ _ hc q => pow_int_small hc.1 hc.2.1 hc.2.2 q
theorem unI {f : Value → Sem Value} {g : Int → Int}
    (rule : ∀ (i : Int) (t : Tok) (s : Shared) (Q : Value → Shared → Prop) (E : Value → Shared → Prop), Q (.int (g i) s.toks) { s with toks := s.toks + 1 } → wpAny (model X.prog X.w) X.A (f (.int i t)) Q E s) :
    UnR X f (rU fun i => .int (g i)) := by
  intro pins s σ H x v Q I rx h
  obtain ⟨i, rfl, q⟩ := h
  obtain ⟨t, rfl⟩ := rx
  exact rule i t s _ _ ⟨.int (g i), H, I.tok _, ⟨_, rfl⟩, q⟩
theorem un_neg : UnR X (unaryOp .USub) (rU fun i => .int (-i)) := unI fun _ _ _ _ _ q => neg_int q
end
section
variable {X : Cx} {a b c : Expr} {ta tb tc : TE} {pos : Pos}
theorem fin_bl {pins : List (Addr × Obj)} {σ : St} {H : Hp} {s : Shared} {Q : VK} {k k' : Bool} (I : Inv X pins σ H s) (q : Q (.bl k) H) (e : k = k') : EP X pins σ Q (.bool k') s := by
  subst e
  exact ⟨.bl k, H, I, rfl, q⟩
theorem op_lt : OpR X (compareOp .Lt) (rI0 fun i j => .bl (decide (i < j))) := opB0 fun _ _ _ _ _ _ _ q => lt_int q
theorem op_le : OpR X (compareOp .LtE) (rI0 fun i j => .bl (decide (i ≤ j))) := opB0 fun _ _ _ _ _ _ _ q => le_int q
theorem op_gt : OpR X (compareOp .Gt) (rI0 fun i j => .bl (decide (j < i))) := opB0 fun _ _ _ _ _ _ _ q => gt_int q
theorem op_ge : OpR X (compareOp .GtE) (rI0 fun i j => .bl (decide (j ≤ i))) := opB0 fun _ _ _ _ _ _ _ q => ge_int q
theorem op_isN : OpR X (compareOp .Is) (fun x y H Q => y = .non ∧ Q (.bl (decide (x = .non))) H) := by
  intro pins s σ H x y v u Q I rx ry h
  obtain ⟨rfl, q⟩ := h
  cases ry
  refine is_none_gen (fin_bl I q ?_)
  cases x <;> first
    | (cases rx; rfl)
    | (obtain ⟨t, rfl⟩ := rx; rfl)
theorem nomark (b : Expr) {op : CmpOp} (h : op ≠ .In := by decide) (h2 : op ≠ .NotIn := by decide) : behindInMarks op b = false := by
  have e1 : (op == CmpOp.In) = false := by cases op <;> first | rfl | exact absurd rfl h
  have e2 : (op == CmpOp.NotIn) = false := by cases op <;> first | rfl | exact absurd rfl h2
  cases b <;> simp [behindInMarks, e1, e2]
theorem pe_cmpR {op : CmpOp} {r : R2} (ho : OpR X (compareOp op) r) (ha : PE X a ta) (hb : PE X b tb) (hm : behindInMarks op b = false) : PE X (.Compare a [op] [b] pos) (tOp r ta tb) := by
  intro pins s σ H Q I h
  exact wpAny_Compare1 (binT ha hb I h fun v u s2 x y H2 I2 rx ry q => ho pins s2 σ H2 x y v u Q I2 rx ry q) hm
noncomputable def tTest (t : TE) : TT := fun σ H Q => t σ H fun x H' => ∃ k, x = .bl k ∧ Q k H'
theorem pt_cmpR {op : CmpOp} {r : R2} (ho : OpR X (compareOp op) r) (ha : PE X a ta) (hb : PE X b tb) (hm : behindInMarks op b = false) : PT X (.Compare a [op] [b] pos) (tTest (tOp r ta tb)) := by
  intro pins s σ H Q I h
  refine wpAny_isTrue_Compare1 (thn (ha pins s σ H _ I h) fun v s1 ⟨x, H1, I1, r1, q1⟩ => thn (hb pins s1 σ H1 _ I1 q1) fun u s2 ⟨y, H2, I2, r2, q2⟩ =>
    thn (ho pins s2 σ H2 x y v u _ I2 r1 r2 q2) fun c s3 ⟨z, H3, I3, r3, k, e, q3⟩ => ?_) hm
  subst e
  cases r3
  exact wpAny_truthy_bool ⟨H3, I3, q3⟩
noncomputable def tChain (r r' : R2) (ta tb tc : TE) : TE := fun σ H Q => ta σ H fun x H1 => tb σ H1 fun y H2 => r x y H2 fun z H3 => ∃ k, z = .bl k ∧
  (if k = true then tc σ H3 fun w' H4 => r' y w' H4 Q else Q (.bl false) H3)
theorem pe_chain {op op' : CmpOp} {r r' : R2} (ho : OpR X (compareOp op) r) (ho' : OpR X (compareOp op') r') (ha : PE X a ta) (hb : PE X b tb) (hc : PE X c tc)
    (hm : lastMarks [op, op'] [b, c] = false := by with_unfolding_all rfl) : PE X (.Compare a [op, op'] [b, c] pos) (tChain r r' ta tb tc) := by
  intro pins s σ H Q I h
  refine Compare_chain (thn (ha pins s σ H _ I h) fun v s1 ⟨x, H1, I1, r1, q1⟩ => chain_link (thn (hb pins s1 σ H1 _ I1 q1) fun u s2 ⟨y, H2, I2, r2, q2⟩ =>
    thn (ho pins s2 σ H2 x y v u _ I2 r1 r2 q2) fun d s3 ⟨z, H3, I3, r3, k, e, q3⟩ => ?_)) hm
  subst e
  cases r3
  refine wpAny_truthy_bool ?_
  cases k with
  | false => exact ite_ff ⟨.bl false, H3, I3, rfl, q3⟩
  | true => exact ite_tt (chain_last (thn (hc pins s3 σ H3 _ I3 q3) fun w' s4 ⟨z', H4, I4, r4, q4⟩ => ho' pins s4 σ H4 y z' u w' Q I4 r2 r4 q4))
theorem pt_chain {op op' : CmpOp} {r r' : R2} (ho : OpR X (compareOp op) r) (ho' : OpR X (compareOp op') r') (ha : PE X a ta) (hb : PE X b tb) (hc : PE X c tc)
    (hm : lastMarks [op, op'] [b, c] = false := by with_unfolding_all rfl) : PT X (.Compare a [op, op'] [b, c] pos) (tTest (tChain r r' ta tb tc)) := by
  intro pins s σ H Q I h
  refine isTrue_chain (thn (ha pins s σ H _ I h) fun v s1 ⟨x, H1, I1, r1, q1⟩ => test_link (thn (hb pins s1 σ H1 _ I1 q1) fun u s2 ⟨y, H2, I2, r2, q2⟩ =>
    thn (ho pins s2 σ H2 x y v u _ I2 r1 r2 q2) fun d s3 ⟨z, H3, I3, r3, k, e, q3⟩ => ?_)) hm
  subst e
  cases r3
  refine wpAny_truthy_bool ?_
  cases k with
  | false =>
    obtain ⟨k', e', q'⟩ := q3
    cases e'
    exact ite_ff ⟨H3, I3, q'⟩
  | true =>
    refine ite_tt (test_last (thn (hc pins s3 σ H3 _ I3 q3) fun w' s4 ⟨z', H4, I4, r4, q4⟩ => thn (ho' pins s4 σ H4 y z' u w' _ I4 r2 r4 q4) ?_))
    rintro d' s5 ⟨z2, H5, I5, r5, k2, e2, q5⟩
    subst e2
    cases r5
    exact wpAny_truthy_bool ⟨H5, I5, q5⟩
theorem line63 : (sizeLine : Nat) < 2 ^ 63 := by rw [sizeLine_eq]; decide
theorem op_add_str : OpR X (binaryOp .Add) (fun x y H Q => ∃ i j, x = .str i ∧ y = .str j ∧ i.length + j.length ≤ sizeLine ∧ Q (.str (i ++ j)) H) := by
  intro pins s σ H x y v u Q I rx ry h
  obtain ⟨i, j, rfl, rfl, hz, q⟩ := h
  obtain ⟨t, rfl⟩ := rx
  obtain ⟨t', rfl⟩ := ry
  exact add_str (fun t' tk => ⟨.str (i ++ j), H, I.tok _, ⟨_, rfl⟩, q⟩) hz
theorem vals1 {x : V} {us : List Value} (r : Vals [x] us) : ∃ u, us = [u] ∧ RelV x u := by
  cases r with
  | cons r1 r2 => cases r2; exact ⟨_, rfl, r1⟩
theorem vals2 {x y : V} {us : List Value} (r : Vals [x, y] us) : ∃ u w', us = [u, w'] ∧ RelV x u ∧ RelV y w' := by
  cases r with
  | cons r1 r2 =>
    cases r2 with
    | cons r3 r4 => cases r4; exact ⟨_, _, rfl, r1, r3⟩
theorem call_max2 (hc : X.calm = true) : CallR X (.builtin "max") (fun xs H Q => ∃ i j, xs = [.int i, .int j] ∧ Q (.int (if j > i then j else i)) H) := by
  intro pins s σ H xs us Q I r h
  obtain ⟨i, j, rfl, q⟩ := h
  obtain ⟨u, w', rfl, ⟨t, rfl⟩, ⟨t', rfl⟩⟩ := vals2 r
  refine max_two_ints (I.ok.hd hc) fun h' tk k => ⟨_, H, I.kept k, ?_, q⟩
  by_cases hj : j > i
  · rw [if_pos hj, if_pos hj]; exact ⟨_, rfl⟩
  · rw [if_neg hj, if_neg hj]; exact ⟨_, rfl⟩
end
end L2
namespace L2
open PySem PySem.Spec PyProof.Rows
section
variable {prog : Program} {w : World} {A : Around} {E : Value → Shared → Prop} {s : Shared} {K : PySem.W.Frag} {x dx C f : Addr} {mA : Str → Option Value} {name : Str} {v : Value}
end
section
variable {P : Program} {w : World} {H H' : Hp} {h h' : Heap} {a C dx : Addr} {fs fs' : List (Str × V)}
end
section
variable {X : Cx} {pins : List (Addr × Obj)} {σ : St} {H : Hp} {s : Shared} {a C dx : Addr} {fs : List (Str × V)} {f : Str} {v : V} {A : Around} {E : Value → Shared → Prop}
end
section
variable {X : Cx} {o e value : Expr} {f : Str} {pos pos' tpos : Pos} {ta tv : TE}
end
section
variable {X : Cx} {pins : List (Addr × Obj)} {σ : St} {H : Hp} {s : Shared} {A : Around} {E : Value → Shared → Prop} {Q : Value → Shared → Prop} {c : Value} {b : Bool}
end
end L2
namespace L2
open PySem PySem.Spec PyProof.Rows
structure Room (k : Nat) (A : Around) : Prop where
  hd : A.handled = none
  dp : A.depth + 3 * k + 5 < recursionLimit
  un : A.units + 16 * k + 200 < cLine
theorem Room.deeper {k : Nat} {A : Around} (r : Room (k + 1) A) (env : Env) : Room k (A.deeper env) :=
  ⟨r.hd, by have := r.dp; show A.depth + 1 + 3 * k + 5 < _; omega, by have := r.un; show A.units + 3 + 16 * k + 200 < _; omega⟩
theorem Room.depth {k : Nat} {A : Around} (r : Room k A) : A.depth < recursionLimit := by have := r.dp; omega
noncomputable def tNil : TA := fun _ H Q => Q [] H
noncomputable def tCons (ta : TE) (tr : TA) : TA := fun σ H Q => ta σ H fun x H1 => tr σ H1 fun xs H2 => Q (x :: xs) H2
section
variable {X : Cx} {e : Expr} {es : List Expr} {te : TE} {t : TA} {pos : Pos}
theorem pa_nil : PA X [] tNil := fun _ _ _ _ H Q I h => Calls.spliced_nil ⟨[], H, I, .nil, h⟩
theorem pa_cons (ha : PE X e te) (hr : PA X es t) (hs : starEach (e :: es) X.env = (false, eval e X.env) :: starEach es X.env := by rfl) : PA X (e :: es) (tCons te t) := by
  intro pos pins s σ H Q I h
  rw [hs]
  show wpAny _ _ (spliced ((false, eval e X.env) :: backTo pos (starEach es X.env))) _ _ s
  refine Calls.spliced_cons (thn (ha pins s σ H _ I h) ?_)
  rintro u s1 ⟨x, H1, I1, r1, q1⟩
  exact thn (hr pos pins s1 σ H1 _ I1 q1) fun us s2 ⟨xs, H2, I2, r2, q2⟩ => ⟨x :: xs, H2, I2, .cons r1 r2, q2⟩
noncomputable def tTup (t : TA) : TE := fun σ H Q => t σ H fun xs H1 => xs.length ≤ sizeLine ∧ ∀ p, H1 p = none → Q (.ref p) (upd H1 p (.tup xs))
noncomputable def tLst (t : TA) : TE := fun σ H Q => t σ H fun xs H1 => xs.length ≤ sizeLine ∧ ∀ p, H1 p = none → Q (.ref p) (upd H1 p (.lst xs))
theorem pe_tup {x1} (h : PA X es t) : PE X (.Tuple es x1 pos) (tTup t) := by
  intro pins s σ H Q I hq
  refine wpAny_Tuple_spliced (thn (h pos pins s σ H _ I hq) fun us s1 ⟨xs, H1, I1, r, z, q⟩ => ⟨by rw [← r.length]; exact z, ?_⟩)
  have hf : H1 s1.heap.objs.size = none := I1.hok.fresh (Nat.le_refl _)
  refine ⟨.ref s1.heap.objs.size, upd H1 s1.heap.objs.size (.tup xs), I1.laid (t' := s1.toks) (fun b u e => Heap.get?_push_of_some _ e) (Nat.le_refl _) ?_, rfl, q _ hf⟩
  exact ⟨z, us, r, ⟨_, Heap.get?_push_size _ rfl, rfl, _, rfl⟩⟩
theorem pe_lst (h : PA X es t) : PE X (.List es pos) (tLst t) := by
  intro pins s σ H Q I hq
  refine wpAny_List_spliced (thn (h pos pins s σ H _ I hq) fun us s1 ⟨xs, H1, I1, r, z, q⟩ => ⟨by rw [← r.length]; exact z, ?_⟩)
  have hf : H1 s1.heap.objs.size = none := I1.hok.fresh (Nat.le_refl _)
  refine ⟨.ref s1.heap.objs.size, upd H1 s1.heap.objs.size (.lst xs), I1.laid (t' := s1.toks) (fun b u e => Heap.get?_push_of_some _ e) (Nat.le_refl _) ?_, rfl, q _ hf⟩
  exact ⟨z, us, 0, r, Heap.get?_push_size _ rfl⟩
end
noncomputable abbrev Sp := List V → Hp → VK → XK → Prop
noncomputable abbrev CXT := List Env → Hp → Shared → XK → Value → Shared → Prop
structure Env0 (P : Program) (w : World) (K : PySem.W.Frag) (mg : Str → Option Value) (base : Heap) (A : Around) (outer : List Env) (s : Shared) (H : Hp) : Prop where
  frames : A.frames = some outer
  mod : Mod K mg base
  bs : ∀ b o, base.get? b = some o → s.heap.get? b = some o ∧ H b = none
  bsz : base.objs.size ≤ s.heap.objs.size
  funs : s.heap.FunFrames base outer
  frf : ∀ b ∈ frs outer, H b = none
  hok : HOk P w H s.heap
  bare : AllBare s.gens
noncomputable def CE (outer : List Env) (P : Program) (w : World) (H : Hp) (s : Shared) (Q : VK) (u : Value) (s' : Shared) : Prop :=
  ∃ v H', s'.os = s.os ∧ AllBare s'.gens ∧ Un (frs outer) [] H H' s.heap s'.heap ∧ HOk P w H' s'.heap ∧ RelV v u ∧ Q v H'
noncomputable def CR (CX : CXT) (outer : List Env) (P : Program) (w : World) (H : Hp) (s : Shared) (Q : VK) (E : XK) (r : Result) (s' : Shared) : Prop :=
  match r with
  | .ok (.ret u) => CE outer P w H s Q u s'
  | .ok _ => False
  | .error e => CX outer H s E e s'
structure FnOk (P : Program) (w : World) (K : PySem.W.Frag) (mg : Str → Option Value) (base : Heap) (CX : CXT) (k : Nat) (f : Addr) (fd : FuncData) (ps : List Str) (sp : Sp) : Prop where
  len : ∀ vs H Q E, sp vs H Q E → vs.length = ps.length
  run : ∀ (A : Around) (outer : List Env) (s : Shared) (H : Hp) (args : Args) (us : List Value) (vs : List V) (Q : VK) (E : XK), Room k A → Env0 P w K mg base A outer s H → BindsTo s fd args (ps.zip us) → Vals vs us → sp vs H Q E →
    codeAny (model P w) A (.call (.ref f) args) (CR CX outer P w H s Q E) s
section
variable {X : Cx} {pins : List (Addr × Obj)} {σ : St} {H : Hp} {s s' : Shared}
theorem Inv.env0 (I : Inv X pins σ H s) : Env0 X.prog X.w X.K X.mg X.base X.A X.stack s H :=
  ⟨I.ok.frames, I.ok.mod, I.bs, Nat.le_trans I.ok.bsz I.sz, I.stack, I.stkFree, I.hok, I.bare⟩
theorem Inv.after {Q : VK} {u : Value} (I : Inv X pins σ H s) (h : CE X.stack X.prog X.w H s Q u s') : EP X pins σ Q u s' := by
  obtain ⟨v, H', os, bare, un, hok, r, q⟩ := h
  obtain ⟨hh, g, d, t, os'⟩ := s'
  obtain rfl : os' = s.os := os
  exact ⟨v, H', I.call (h' := hh) (g' := g) (d' := d) (t' := t) (ch := []) un hok bare (fun b z => absurd z (by simp)), r, q⟩
end
noncomputable def tCall (sp : Sp) (dvs : List V) (E : XK) (t : TA) : TE := fun σ H Q => t σ H fun vs H1 => sp (vs ++ dvs) H1 Q E
noncomputable def Binds (K : PySem.W.Frag) (fd : FuncData) (ps : List Str) (ds : List Value) : Prop :=
  ∀ (s : Shared) (us : List Value), K.In s.heap → (us ++ ds).length = ps.length → BindsTo s fd ⟨us, []⟩ (ps.zip (us ++ ds))
theorem Binds.all {K : PySem.W.Frag} {fd : FuncData} {ps : List Str} (h : ∀ us : List Value, us.length = ps.length → bindArgs fd ⟨us, []⟩ = pure (ps.zip us)) : Binds K fd ps [] := fun s us _ hl => by
  rw [List.append_nil] at hl ⊢
  exact .of_eq (h us hl)
noncomputable def Passes (CX : CXT) (X : Cx) (E : XK) : Prop := ∀ (pins : List (Addr × Obj)) (σ : St) (H : Hp) (s : Shared) (e : Value) (s' : Shared), Inv X pins σ H s → CX X.stack H s E e s' → X.xe e s'
section
variable {X : Cx} {CX : CXT} {k : Nat} {f C : Addr} {fd : FuncData} {ps : List Str} {sp : Sp} {dvs : List V} {ds : List Value} {E : XK} {x m : Str} {p pos apos : Pos} {e o : Expr} {es : List Expr} {ta : TE} {t : TA}
theorem run_fn {pins : List (Addr × Obj)} {σ : St} {H : Hp} {s : Shared} {Q : VK} {us : List Value} {vs : List V} (F : FnOk X.prog X.w X.K X.mg X.base CX k f fd ps sp) (hr : Room k X.A) (hb : Binds X.K fd ps ds) (hd : Vals dvs ds) (hx : Passes CX X E)
    (I : Inv X pins σ H s) (r : Vals vs us) (h : sp (vs ++ dvs) H Q E) : wpAny (model X.prog X.w) X.A (call (.ref f) us) (EP X pins σ Q) X.xe s := by
  have r2 : Vals (vs ++ dvs) (us ++ ds) := r.append hd
  have hl : (us ++ ds).length = ps.length := by rw [← r2.length]; exact F.len _ _ _ _ h
  refine wpAny_call (codeAny_mono (F.run X.A X.stack s H ⟨us, []⟩ (us ++ ds) (vs ++ dvs) Q E hr I.env0 (hb s us I.kIn hl) r2 h) fun r s' hq => ?_)
  cases r with
  | error e => exact hx pins σ H s e s' I hq
  | ok fl =>
    cases fl with
    | ret u => exact I.after hq
    | next => exact False.elim hq
    | brk => exact False.elim hq
    | cont => exact False.elim hq
theorem pe_call (F : FnOk X.prog X.w X.K X.mg X.base CX k f fd ps sp) (hr : Room k X.A) (hg : Gl X x) (hm : X.mg x = some (.ref f)) (hk : PySem.W.keepIn X.K (.ref f) = true) (hb : Binds X.K fd ps ds) (hd : Vals dvs ds) (hx : Passes CX X E)
    (ha : PA X (e :: es) t) (hdb : (x == ("__debug__" : Str)) = false := by decide) (he : starEach (e :: es) X.env = (false, eval e X.env) :: starEach es X.env := by rfl) (hpl : (backTo pos (starEach es X.env)).any (·.1) = false := by rfl) :
    PE X (.Call (.Name x p) (e :: es) [] pos) (tCall sp dvs E t) := by
  intro pins s σ H Q I h
  refine wpAny_Call_Name_kw (ld_glob I hg hm ?_ hdb)
  refine PySem.W.callWith_K (h₀ := X.base) I.ok.mod.kin hk (thn (ha pos pins s σ H _ I h) fun us s1 ⟨vs, H1, I1, r, q⟩ => ⟨I1.kIn, ?_⟩) he hpl
  exact run_fn F hr hb hd hx I1 r q
end
section
variable {X : Cx} {CX : CXT} {k : Nat} {f C : Addr} {fd : FuncData} {ps ks : List Str} {sp : Sp} {E : XK} {x m : Str} {p pos apos kpos : Pos} {e o : Expr} {es : List Expr} {kws : List Keyword} {te ta : TE} {t tk : TA} {nm : Option Str}
variable {g : List Value → List Value → List Value} {gV : List V → List V → List V}
end
structure FnScope (N P : List Str) (sc : Scope) : Prop where
  kind : sc.kind = .function
  co : sc.isCoroutine = false
  gen : sc.isGenerator = false
  nd : N.Nodup
  pre : N.take P.length = P
  par : ∀ x ∈ P, sc.names.lookup x = some .local ∨ sc.names.lookup x = some .cell
  nofree : ∀ y ∈ sc.names, y.2 ≠ .free
theorem bindL_out {kindOf : Str → Option NameKind} {x : Str} : ∀ {binds : List (Str × Value)} {m : Str → Option Value}, (∀ v, (x, v) ∉ binds) → bindL kindOf binds m x = m x
  | [], _, _ => rfl
  | (n, v) :: r, m, h => by
    unfold bindL
    rw [bindL_out fun w hw => h w (List.mem_cons_of_mem _ hw)]
    split
    · have : x ≠ n := by rintro rfl; exact h v List.mem_cons_self
      simp [this]
    · rfl
theorem bindC_out {kindOf : Str → Option NameKind} {x : Str} : ∀ {binds : List (Str × Value)} {m : Str → Option Value}, (∀ v, (x, v) ∉ binds) → bindC kindOf binds m x = m x
  | [], _, _ => rfl
  | (n, v) :: r, m, h => by
    unfold bindC
    rw [bindC_out fun w hw => h w (List.mem_cons_of_mem _ hw)]
    split
    · rfl
    · have : x ≠ n := by rintro rfl; exact h v List.mem_cons_self
      simp [this]
theorem bindL_get {kindOf : Str → Option NameKind} {x : Str} {v : Value} : ∀ {P : List Str} {vs : List Value} {i : Nat} {m : Str → Option Value}, P.Nodup → P[i]? = some x → vs[i]? = some v → kindOf x = some .local →
    bindL kindOf (P.zip vs) m x = some v
  | [], _, _, _, _, h, _, _ => by simp at h
  | _ :: _, [], _, _, _, _, h, _ => by simp at h
  | p :: P, w :: vs, 0, m, nd, h1, h2, hk => by
    simp at h1 h2; subst h1; subst h2
    show bindL kindOf ((p, w) :: P.zip vs) m p = _
    unfold bindL
    rw [bindL_out fun v hv => (List.nodup_cons.mp nd).1 (List.of_mem_zip hv).1, if_pos hk]
    simp
  | p :: P, w :: vs, i + 1, m, nd, h1, h2, hk => by
    show bindL kindOf ((p, w) :: P.zip vs) m x = _
    unfold bindL
    exact bindL_get (i := i) (List.nodup_cons.mp nd).2 (by simpa using h1) (by simpa using h2) hk
theorem bindC_get {kindOf : Str → Option NameKind} {x : Str} {v : Value} : ∀ {P : List Str} {vs : List Value} {i : Nat} {m : Str → Option Value}, P.Nodup → P[i]? = some x → vs[i]? = some v → kindOf x ≠ some .local →
    bindC kindOf (P.zip vs) m x = some v
  | [], _, _, _, _, h, _, _ => by simp at h
  | _ :: _, [], _, _, _, _, h, _ => by simp at h
  | p :: P, w :: vs, 0, m, nd, h1, h2, hk => by
    simp at h1 h2; subst h1; subst h2
    show bindC kindOf ((p, w) :: P.zip vs) m p = _
    unfold bindC
    rw [bindC_out fun v hv => (List.nodup_cons.mp nd).1 (List.of_mem_zip hv).1, if_neg hk]
    simp
  | p :: P, w :: vs, i + 1, m, nd, h1, h2, hk => by
    show bindC kindOf ((p, w) :: P.zip vs) m x = _
    unfold bindC
    exact bindC_get (i := i) (List.nodup_cons.mp nd).2 (by simpa using h1) (by simpa using h2) hk
noncomputable def start (N : List Str) (vs : List V) : St := vs.map some ++ List.replicate (N.length - vs.length) none
noncomputable def cxOf (CX : CXT) (P : Program) (w : World) (K : PySem.W.Frag) (mg : Str → Option Value) (base : Heap) (N : List Str) (qual : Str) (scope : Scope) (f : Addr) (cd : Value) (A : Around) (outer : List Env) (s : Shared) (H : Hp) (E : XK) : Cx where
  prog := P
  w := w
  K := K
  mg := mg
  base := base
  A := A.deeper (envOfC qual scope s.heap.objs.size f cd)
  N := N
  s₀ := s
  H₀ := H
  env := envOfC qual scope s.heap.objs.size f cd
  outer := outer
  stack := envOfC qual scope s.heap.objs.size f cd :: outer
  ex := []
  calm := true
  fn := fun _ => true
  pn := []
  xe := fun e s' => wpAny (model P w) (A.deeper (envOfC qual scope s.heap.objs.size f cd)) (leaving (envOfC qual scope s.heap.objs.size f cd) e) (fun _ s'' => CX outer H s E e s'') (fun e' s'' => CX outer H s E e' s'') s'
theorem cell_has {sc : Scope} {n : Nat} {x : Str} (h : sc.names.lookup x = some .cell) : ∃ c, (cellsFrom n sc.names []).lookup x = some c := by
  have q := PySem.W.cellsFrom_some sc.names n [] (.inl h)
  exact Option.isSome_iff_exists.mp q
theorem inv_start {CX : CXT} {P : Program} {w : World} {K : PySem.W.Frag} {mg : Str → Option Value} {base : Heap} {N ps : List Str} {qual : Str} {scope : Scope} {f : Addr} {cd : Value} {A : Around} {outer : List Env} {s s1 : Shared} {H : Hp} {E : XK} {us : List Value} {vs : List V}
    (S : FnScope N ps scope) (hd : A.handled = none) (e0 : Env0 P w K mg base A outer s H) (hl : vs.length = ps.length) (r : Vals vs us)
    (x : InCallC s s.heap.objs.size (bindL (envOfC qual scope s.heap.objs.size f cd).kindOf (ps.zip us) fun _ => none) (cellsFrom (s.heap.objs.size + 1) scope.names []) (bindC (envOfC qual scope s.heap.objs.size f cd).kindOf (ps.zip us) fun _ => none) s1) :
    Inv (cxOf CX P w K mg base N qual scope f cd A outer s H E) [] (start N vs) H s1 := by
  have hpl : ps.length ≤ N.length := by have := congrArg List.length S.pre; rw [List.length_take] at this; omega
  obtain ⟨h1, tk, rfl, hk⟩ := x.done
  have noA : ∀ b : Addr, b ∉ (cxOf CX P w K mg base N qual scope f cd A outer s H E).ex := fun b z => absurd (show b ∈ ([] : List Addr) from z) (by simp)
  refine ⟨⟨e0.mod, S.kind, rfl, rfl, Nat.le_refl _, fun y z c h1 h2 => ?_, fun y hy => ?_, fun y c _ h => ?_, fun _ => hd, Around.frames_deeper e0.frames, .inr ⟨rfl, rfl⟩, fun b z => absurd z (noA b), e0.bs, e0.bsz, fun b _ _ => noA b, fun b z => absurd z (noA b), e0.funs, e0.frf⟩,
    rfl, e0.bare, Un.kept hk, ⟨_, x.toInCall.ns, fun i y v h1 h2 h3 => ?_⟩, fun y c h => ⟨_, x.cell y c h⟩, e0.hok.fresh (Nat.le_refl _), fun y c h => ?_, fun p hp => absurd (show p ∈ ([] : List (Addr × Obj)) from hp) (by simp), e0.hok.kept hk, ?_⟩
  · exact name_of_addr x.apart (PySem.mem_of_lookup h1) (PySem.mem_of_lookup h2)
  · have hy : scope.names.lookup y = some .cell ∨ scope.names.lookup y = some .free := hy
    rcases hy with hy | hy
    · exact cell_has hy
    · exact absurd rfl (S.nofree _ (PySem.mem_of_lookup hy))
  · exact Nat.le_of_lt (x.above y c (PySem.mem_of_lookup h))
  · have hi : i < vs.length := by
      unfold start at h2
      by_cases hi : i < vs.length
      · exact hi
      · rw [List.getElem?_append_right (by simpa using hi)] at h2
        rw [List.getElem?_replicate] at h2
        split at h2 <;> cases h2
    have ha : vs[i]? = some v := by
      unfold start at h2
      rw [List.getElem?_append_left (by simpa using hi), List.getElem?_map] at h2
      cases e : vs[i]? with
      | none => rw [e] at h2; cases h2
      | some a => rw [e] at h2; cases h2; rfl
    obtain ⟨u, hu, rv⟩ := r.get ha
    have hp : ps[i]? = some y := by
      rw [← S.pre, List.getElem?_take_of_lt (by omega)]; exact h1
    have ndP : ps.Nodup := by rw [← S.pre]; exact S.nd.sublist (List.take_sublist _ _)
    refine ⟨u, rv, ?_⟩
    rcases S.par y (List.mem_of_getElem? hp) with k | k
    · exact .inl ⟨k, bindL_get ndP hp hu k⟩
    · obtain ⟨c, e⟩ := cell_has (n := s.heap.objs.size + 1) k
      refine .inr ⟨.inl k, c, e, ?_⟩
      have q := x.cell y c e
      rw [bindC_get ndP hp hu (by show scope.names.lookup y ≠ _; rw [k]; decide)] at q
      exact q
  · exact e0.hok.fresh (Nat.le_of_lt (x.above y c (PySem.mem_of_lookup h)))
  · unfold start
    show _ = N.length
    rw [List.length_append, List.length_map, List.length_replicate]
    omega
theorem fn_of {CX : CXT} {P : Program} {w : World} {K : PySem.W.Frag} {mg : Str → Option Value} {base : Heap} {k : Nat} {f : Addr} {name qual : Str} {params : Arguments} {body : List Stmt} {scope : Scope} {dV kV doc pm cdv ct oc : Value} {an od : Option Addr}
    {osl : Array (Option Value)} {N ps : List Str} {sp : Sp} (lk : K.lookup f = some ⟨oc, od, .func (PySem.W.fnOf name qual params body scope dV kV doc pm an cdv ct), osl⟩) (hcd : PySem.W.codeIn K cdv qual = true) (S : FnScope N ps scope)
    (len : ∀ vs H Q E, sp vs H Q E → vs.length = ps.length)
    (hbody : ∀ (A : Around) (outer : List Env) (s : Shared) (H : Hp) (vs : List V) (Q : VK) (E : XK), Room k (A.deeper (envOfC qual scope s.heap.objs.size f cdv)) → sp vs H Q E →
      ∃ t, PSs (cxOf CX P w K mg base N qual scope f cdv A outer s H E) body t ∧ t { nx := fun _ H' => Q .non H', rt := Q } (start N vs) H) :
    FnOk P w K mg base CX (k + 1) f (PySem.W.fnOf name qual params body scope dV kV doc pm an cdv ct) ps sp := by
  refine ⟨len, fun A outer s H args us vs Q E hr e0 hb r hsp => ?_⟩
  have hl := len _ _ _ _ hsp
  have KX : K.In s.heap := e0.mod.kin.keeps fun b o e => (e0.bs b o e).1
  have lim : s.heap.NoLimit := e0.mod.nolimit.keeps fun b o e => (e0.bs b o e).1
  have hkind : ∀ y ∈ ps.zip us, scope.names.lookup y.1 = some .local ∨ (scope.names.lookup y.1 = some .cell ∧ ((cellsFrom (s.heap.objs.size + 1) scope.names []).lookup y.1).isSome = true) := fun ⟨n, v⟩ hy => by
    rcases S.par n (List.of_mem_zip hy).1 with q | q
    · exact .inl q
    · exact .inr ⟨q, PySem.W.cellsFrom_some _ _ _ (.inl q)⟩
  refine codeAny_call_function hr.depth (KX _ _ lk) rfl S.co S.gen rfl (PySem.W.codeRec_of KX hcd) (hb _ _ _ _ ?_)
  refine wpAny_newFunctionEnv_cells S.kind hkind fun env he s1 x => ?_
  subst he
  refine ⟨lim.keeps x.toInCall.keep, codeAny_func ?_⟩
  obtain ⟨t, ht, hq⟩ := hbody A outer s H vs Q E (hr.deeper _) hsp
  have I : Inv (cxOf CX P w K mg base N qual scope f cdv A outer s H E) [] (start N vs) H s1 := inv_start S hr.hd e0 hl r x
  refine wpAny_mono (ht [] s1 (start N vs) H _ I hq) (fun fl s' hs => ?_) fun e s' hs => hs
  have fin : ∀ {σ' : St} {H' : Hp} {v : V} {u : Value}, Inv (cxOf CX P w K mg base N qual scope f cdv A outer s H E) [] σ' H' s' → RelV v u → Q v H' → CE outer P w H s Q u s' :=
    fun {σ' H' v u} J rv q => ⟨v, H', J.os, J.bare, J.base, J.hok, rv, q⟩
  cases fl with
  | ret u =>
    obtain ⟨v, σ', H', J, rv, q⟩ := hs
    exact fin J rv q
  | next =>
    obtain ⟨σ', H', J, q⟩ := hs
    exact fin (v := V.non) (u := Value.none) J rfl q
  | brk =>
    obtain ⟨_, _, _, q⟩ := hs
    exact False.elim q
  | cont =>
    obtain ⟨_, _, _, q⟩ := hs
    exact False.elim q
end L2
namespace L2
open PySem PySem.Spec PyProof.Rows
section
variable {X : Cx} {x : Str} {p pos : Pos} {e : Expr} {es : List Expr} {t : TA} {id T : String} {r : List V → Hp → VK → Prop}
noncomputable def tCB (r : List V → Hp → VK → Prop) (t : TA) : TE := fun σ H Q => t σ H fun vs H1 => r vs H1 Q
theorem pe_callB (hc : CallR X (.builtin id) r) (hg : Gl X x) (hm : X.mg x = none) (hv : bootBuiltins x = some (.builtin id)) (ha : PA X (e :: es) t) (hn : x ≠ "__name__" := by decide) (hdb : (x == ("__debug__" : Str)) = false := by decide)
    (he : starEach (e :: es) X.env = (false, eval e X.env) :: starEach es X.env := by rfl) (hpl : (backTo pos (starEach es X.env)).any (·.1) = false := by rfl) : PE X (.Call (.Name x p) (e :: es) [] pos) (tCB r t) := by
  intro pins s σ H Q I h
  refine wpAny_Call_Name_kw (ld_blt I hg hm hv ?_ hn hdb)
  exact PyProof.Rows.callWith_builtin1 (thn (ha pos pins s σ H _ I h) fun us s1 ⟨vs, H1, I1, r1, q1⟩ => hc pins s1 σ H1 vs us Q I1 r1 q1) he hpl
theorem pe_callTy (hc : CallR X (.type T) r) (hg : Gl X x) (hm : X.mg x = none) (hv : bootBuiltins x = some (.type T)) (ha : PA X (e :: es) t) (hn : x ≠ "__name__" := by decide) (hdb : (x == ("__debug__" : Str)) = false := by decide)
    (he : starEach (e :: es) X.env = (false, eval e X.env) :: starEach es X.env := by rfl) (hpl : (backTo pos (starEach es X.env)).any (·.1) = false := by rfl) : PE X (.Call (.Name x p) (e :: es) [] pos) (tCB r t) := by
  intro pins s σ H Q I h
  refine wpAny_Call_Name_kw (ld_blt I hg hm hv ?_ hn hdb)
  exact PyProof.Rows.callWith_type1 (thn (ha pos pins s σ H _ I h) fun us s1 ⟨vs, H1, I1, r1, q1⟩ => hc pins s1 σ H1 vs us Q I1 r1 q1) he hpl
end
end L2
namespace HT
open PySem PyProof.Rows
section
open PySem.SeqAt
open PySem.AutoSeq1 (wpAny_loadPart')
open PySem.MeetsSeq PySem.MeetsSeq2 PySem.MeetsSeq3
end
section
variable {prog : Program} {w : World} {A : Around} {E : Value → Shared → Prop} {s : Shared}
theorem cat_tup {t b : Addr} {vs ws : List Value} {Q : Value → Shared → Prop} (ht : IsTup s.heap t vs.toArray) (hb : IsTup s.heap b ws.toArray) (hv : vs ≠ [])
    (h1 : ws = [] → Q (.ref t) s) (h2 : ws ≠ [] → Q (.ref s.heap.objs.size) { s with heap := s.heap.push { cls := .type "tuple", data := .seq (vs ++ ws).toArray } })
    (hsz : vs.length + ws.length ≤ sizeLine) : wpAny (model prog w) A (binaryOp .Add (.ref t) (.ref b)) Q E s := by
  obtain ⟨⟨cls, dd, data, sl⟩, ho, hc, n, hd⟩ := id ht
  obtain ⟨⟨cls2, dd2, data2, sl2⟩, ho2, hc2, n2, hd2⟩ := id hb
  simp only at hc hd hc2 hd2
  subst hc hd hc2 hd2
  have e : vs.toArray ++ ws.toArray = (vs ++ ws).toArray := by simp
  by_cases hw : ws = []
  · exact concat_meets ⟨_, ho, rfl⟩ ⟨_, ho2, rfl⟩ noFill_tuple_add seq_tuple_add PySem.F.slot_tuple_add PySem.F.entry_tuple_add (PySem.F.args_tuple_add_2 _ _)
      (tuple_addW1 t b vs.toArray ws.toArray n n2 dd dd2 sl sl2 (by simpa using hv) (by simp [hw])) ⟨ho, ho2, h1 hw⟩
  · refine concat_meets ⟨_, ho, rfl⟩ ⟨_, ho2, rfl⟩ noFill_tuple_add seq_tuple_add PySem.F.slot_tuple_add PySem.F.entry_tuple_add (PySem.F.args_tuple_add_2 _ _)
      (tuple_addW2 t b vs.toArray ws.toArray n n2 dd dd2 sl sl2 (by simpa using hv) (by simpa using hw) (by rw [List.size_toArray, List.size_toArray]; exact hsz)) ⟨ho, ho2, ?_⟩
    rw [e]
    exact h2 hw
noncomputable def sIx (n d : Nat) : Option Int → Nat
  | none => d
  | some v => if v < 0 then (v + (n : Int)).toNat else min v.toNat n
theorem sIx_le (n d : Nat) (hd : d ≤ n) (o : Option Int) : sIx n d o ≤ n := by
  cases o with
  | none => exact hd
  | some v =>
    show (if v < 0 then (v + (n : Int)).toNat else min v.toNat n) ≤ n
    by_cases hv : v < 0
    · rw [if_pos hv]; omega
    · rw [if_neg hv]; exact Nat.min_le_right _ _
theorem clip_eq (v : Int) (n d : Nat) : (if v < 0 then max (v + (n : Int)) 0 else min v (n : Int)) = ((sIx n d (some v) : Nat) : Int) := by
  show (if v < 0 then max (v + (n : Int)) 0 else min v (n : Int)) = (((if v < 0 then (v + (n : Int)).toNat else min v.toNat n) : Nat) : Int)
  by_cases hv : v < 0
  · simp only [if_pos hv]; omega
  · simp only [if_neg hv]; omega
theorem adjust_gen (lo hi : Option Int) (n : Nat) : Builtin.Slice.sliceAdjust lo hi 1 (n : Int) = (((sIx n 0 lo : Nat) : Int), ((sIx n n hi : Nat) : Int)) := by
  have h1 : ¬ ((1 : Int) < 0) := by omega
  unfold Builtin.Slice.sliceAdjust
  simp only [h1, if_false]
  refine Prod.ext ?_ ?_
  · cases lo with
    | none => rfl
    | some v => exact clip_eq v n 0
  · cases hi with
    | none => rfl
    | some v => exact clip_eq v n n
theorem places_gen (i j : Nat) : Builtin.Slice.slicePlaces (i : Int) (j : Int) 1 = j - i := by
  unfold Builtin.Slice.slicePlaces
  have h1 : (1 : Int) > 0 := by omega
  simp only [h1, if_true, Int.ediv_one]
  split <;> omega
theorem slicePart_ {v : Value} {o : Option Int} {Q : Option Int → Shared → Prop} (p : IsPart v o) (h : Q o s) : wpAny (model prog w) A (Builtin.Slice.slicePartIndex v) Q E s := by
  cases p with
  | none => exact slicePart_none h
  | int i t => exact slicePart_int h
theorem sliceApplied_gen {sl : Addr} {vl vu : Value} {lo hi : Option Int} {n : Nat} {Q : Int × Int × Nat → Shared → Prop} (hs : s.heap.IsSliceOf sl vl vu .none) (pl : IsPart vl lo) (pu : IsPart vu hi)
    (h : Q (((sIx n 0 lo : Nat) : Int), 1, sIx n n hi - sIx n 0 lo) s) : wpAny (model prog w) A (Builtin.Slice.sliceApplied (.ref sl) (pure (n : Int))) Q E s := by
  obtain ⟨os, hos, hcs, hds⟩ := id hs
  unfold Builtin.Slice.sliceApplied Builtin.Slice.sliceFields
  refine wpAny_bind (wpAny_bind (wpAny_field hos hds (x := vl) rfl (wpAny_bind (wpAny_field hos hds (x := vu) rfl (wpAny_bind (wpAny_field hos hds (x := .none) rfl (wpAny_pure ?_)))))))
  refine wpAny_bind (slicePart_none ?_)
  show wpAny _ _ (if ((1 : Int) == 0) = true then _ else _) _ _ s
  rw [if_neg (by decide)]
  refine wpAny_bind (slicePart_ pl (wpAny_bind (slicePart_ pu (wpAny_bind (wpAny_pure ?_)))))
  show wpAny _ _ (match Builtin.Slice.sliceAdjust lo hi 1 (n : Int) with | (lo, hi) => pure (lo, (1 : Int), Builtin.Slice.slicePlaces lo hi 1)) _ _ s
  rw [adjust_gen lo hi n]
  show wpAny _ _ (pure (((sIx n 0 lo : Nat) : Int), (1 : Int), Builtin.Slice.slicePlaces ((sIx n 0 lo : Nat) : Int) ((sIx n n hi : Nat) : Int) 1)) _ _ s
  rw [places_gen]
  exact wpAny_pure h
theorem pick_gen (xs : Array Value) (i k : Nat) : ((List.range k).filterMap fun (m : Nat) => xs[((i : Int) + (m : Int) * 1).toNat]?).toArray = ((xs.toList.drop i).take k).toArray := by
  have e : (fun (m : Nat) => xs[((i : Int) + (m : Int) * 1).toNat]?) = fun m => xs[i + m]? := by
    funext m
    have : ((i : Int) + (m : Int) * 1).toNat = i + m := by omega
    rw [this]
  rw [e]
  have := pick_run xs i k
  rw [List.filterMap_map] at this
  have e2 : ((fun x => xs[x]?) ∘ fun x => i + x) = fun m => xs[i + m]? := rfl
  rw [e2] at this
  rw [this]
theorem getItem_tuple_cut {t sl : Addr} {items : Array Value} {vl vu : Value} {lo hi : Option Int} {Q : Value → Shared → Prop} (ht : IsTup s.heap t items) (hs : s.heap.IsSliceOf sl vl vu .none) (pl : IsPart vl lo) (pu : IsPart vu hi)
    (hw : ¬ (sIx items.size 0 lo = 0 ∧ sIx items.size items.size hi = items.size))
    (h : Q (.ref s.heap.objs.size) { s with heap := s.heap.push { cls := .type "tuple", data := .seq ((items.toList.drop (sIx items.size 0 lo)).take (sIx items.size items.size hi - sIx items.size 0 lo)).toArray } })
    (hsz : items.size ≤ sizeLine) : wpAny (model prog w) A (getItem (.ref t) (.ref sl)) Q E s := by
  have htake : sizeOk (.seq ((items.toList.drop (sIx items.size 0 lo)).take (sIx items.size items.size hi - sIx items.size 0 lo)).toArray) := by
    show ((items.toList.drop (sIx items.size 0 lo)).take (sIx items.size items.size hi - sIx items.size 0 lo)).toArray.size ≤ sizeLine
    rw [List.size_toArray, List.length_take, List.length_drop, Array.length_toList]
    omega
  have hj : sIx items.size items.size hi ≤ items.size := sIx_le _ _ (Nat.le_refl _) hi
  obtain ⟨os, hos, hcs, hds⟩ := id hs
  have hTs : s.TypeIs (.ref sl) "slice" := ⟨os, hos, hcs⟩
  unfold getItem
  try with_reducible refine wpAny_holding ?_
  first | refine wpAny_bind (wpAny_pure ?_) | skip
  refine wpAny_bind (wpAny_sequenceKey ht.typeIs (by decide) ?_)
  refine wpAny_bind (wpAny_callSpecial?_slot (name := Str.ofString "__getitem__") ht.typeIs PyProof.Rows.slot_tuple_getitem
    (wpAny_call_entry PyProof.Rows.slot_tuple_getitem ht.typeIs entry_tuple_getitem ?_ (args_tuple_getitem _ _)))
  show wpAny _ _ (Builtin.Tuple.tupleItemsOf (.ref t) >>= _) _ _ s
  refine wpAny_bind (tupleItemsOf_ ht ?_)
  refine wpAny_bind (wpAny_typeOf hTs ?_)
  rw [if_pos (by decide)]
  refine wpAny_bind (sliceApplied_gen hs pl pu ?_)
  have hno : ¬ ((((sIx items.size 0 lo : Nat) : Int) == 0 && (1 : Int) == 1 && (sIx items.size items.size hi - sIx items.size 0 lo) == items.size) = true) := by
    intro q
    rw [Bool.and_eq_true, Bool.and_eq_true] at q
    have q1 : ((sIx items.size 0 lo : Nat) : Int) = 0 := eq_of_beq q.1.1
    have q2 : sIx items.size items.size hi - sIx items.size 0 lo = items.size := eq_of_beq q.2
    exact hw ⟨by omega, by omega⟩
  show wpAny _ _ (if (((sIx items.size 0 lo : Nat) : Int) == 0 && (1 : Int) == 1 && (sIx items.size items.size hi - sIx items.size 0 lo) == items.size) = true then _ else _) _ _ s
  rw [if_neg hno, pick_gen]
  first
    | exact wpAny_bind (m := Builtin.Tuple.tupleExact _) (wpAny_newObj_type (wpAny_pure ⟨_, rfl, wpAny_pure h⟩) htake)
    | exact wpAny_bind (m := Builtin.Tuple.tupleExact _) (wpAny_newObj_type (wpAny_bind (wpAny_pure (wpAny_pure ⟨_, rfl, wpAny_pure h⟩))) htake)
    | exact wpAny_bind (wpAny_bind (m := Builtin.Tuple.tupleExact _) (wpAny_newObj_type (wpAny_pure (wpAny_pure ⟨_, rfl, wpAny_pure h⟩)) htake))
    | exact wpAny_bind (wpAny_bind (m := Builtin.Tuple.tupleExact _) (wpAny_newObj_type (wpAny_pure ⟨_, rfl, wpAny_pure h⟩) htake))
end
end HT
namespace L2
open PySem PySem.Spec PyProof.Rows
noncomputable abbrev TO := St → Hp → (Option Int → Hp → Prop) → Prop
noncomputable def PO (X : Cx) (e : Option Expr) (t : TO) : Prop :=
  ∀ (pins : List (Addr × Obj)) (s : Shared) (σ : St) (H : Hp) (Q : Option Int → Hp → Prop), Inv X pins σ H s → t σ H Q →
    wpAny (model X.prog X.w) X.A (evalPart e X.env) (fun u s' => ∃ o H', Inv X pins σ H' s' ∧ IsPart u o ∧ Q o H') X.xe s
noncomputable def tNoPart : TO := fun _ H Q => Q none H
noncomputable def tPart (t : TE) : TO := fun σ H Q => t σ H fun x H1 => ∃ i, x = .int i ∧ Q (some i) H1
section
variable {X : Cx} {e : Expr} {te : TE} {lo hi : Option Expr} {tl th : TO} {pos p2 : Pos}
theorem po_none : PO X none tNoPart := by
  intro pins s σ H Q I h
  rw [evalPart_none]
  exact wpAny_pure ⟨none, H, I, .none, h⟩
theorem po_some (h : PE X e te) : PO X (some e) (tPart te) := by
  intro pins s σ H Q I hw
  rw [evalPart_some]
  refine thn (h pins s σ H _ I hw) ?_
  rintro u s1 ⟨x, H1, I1, r1, q1⟩
  obtain ⟨i, rfl, q⟩ := q1
  obtain ⟨t, rfl⟩ := r1
  exact ⟨some i, H1, I1, .int i t, q⟩
noncomputable def SlR (X : Cx) (r : V → Option Int → Option Int → Hp → VK → Prop) : Prop :=
  ∀ (pins : List (Addr × Obj)) (s : Shared) (σ : St) (H : Hp) (x : V) (v vl vu : Value) (lo hi : Option Int) (sl : Addr) (Q : VK), Inv X pins σ H s → RelV x v → s.heap.IsSliceOf sl vl vu .none → IsPart vl lo → IsPart vu hi → r x lo hi H Q →
    ∃ T id, typeLookup (.type T) "__getitem__" = pure (some (.builtin id)) ∧ s.TypeIs v T ∧ wpAny (model X.prog X.w) X.A (getItem v (.ref sl)) (EP X pins σ Q) X.xe s
noncomputable def tSl (r : V → Option Int → Option Int → Hp → VK → Prop) (te : TE) (tl th : TO) : TE := fun σ H Q => te σ H fun x H1 => tl σ H1 fun l H2 => th σ H2 fun u H3 => r x l u H3 Q
theorem pe_slice {r : V → Option Int → Option Int → Hp → VK → Prop} (hr : SlR X r) (he : PE X e te) (hl : PO X lo tl) (hu : PO X hi th) : PE X (.Subscript e (.Slice lo hi none p2) pos) (tSl r te tl th) := by
  intro pins s σ H Q I h
  refine Subscript_ (thn (he pins s σ H _ I h) ?_)
  rintro v s1 ⟨x, H1, I1, r1, q1⟩
  refine wpAny_Slice (thn (hl pins s1 σ H1 _ I1 q1) fun vl s2 ⟨l, H2, I2, pl, q2⟩ => thn (hu pins s2 σ H2 _ I2 q2) ?_)
  rintro vu s3 ⟨u, H3, I3, pu, q3⟩
  rw [evalPart_none]
  refine wpAny_pure ?_
  have I4 : Inv X pins σ H3 { s3 with heap := s3.heap.push { cls := .type "slice", data := .fields #[vl, vu, .none] } } := I3.kept (t' := s3.toks) fun b ob q => Heap.get?_push_of_some _ q
  obtain ⟨T, id, hT, ht, hg⟩ := hr pins { s3 with heap := s3.heap.push { cls := .type "slice", data := .fields #[vl, vu, .none] } } σ H3 x v vl vu l u s3.heap.objs.size Q I4 r1 (Heap.IsSliceOf.new ..) pl pu q3
  show wpAny (model X.prog X.w) X.A (subscriptTail e (.Slice lo hi none p2) v (.ref s3.heap.objs.size)) (EP X pins σ Q) X.xe { s3 with heap := s3.heap.push { cls := .type "slice", data := .fields #[vl, vu, .none] } }
  exact tail_any (ops := [.ref s3.heap.objs.size, v]) ht hT hg (by with_unfolding_all rfl)
noncomputable def cutV (xs : List V) (lo hi : Option Int) : List V := (xs.drop (HT.sIx xs.length 0 lo)).take (HT.sIx xs.length xs.length hi - HT.sIx xs.length 0 lo)
theorem cutV_length (xs : List V) (lo hi : Option Int) : (cutV xs lo hi).length ≤ xs.length := by
  unfold cutV
  rw [List.length_take, List.length_drop]
  omega
noncomputable def rSlT (K : PySem.W.Frag) : V → Option Int → Option Int → Hp → VK → Prop := fun x lo hi H Q => ∃ a xs, x = .ref a ∧ SqT K H a xs ∧
  ¬ (HT.sIx xs.length 0 lo = 0 ∧ HT.sIx xs.length xs.length hi = xs.length) ∧ ∀ p, H p = none → Q (.ref p) (upd H p (.tup (cutV xs lo hi)))
theorem sl_tup : SlR X (rSlT X.K) := by
  intro pins s σ H x v vl vu lo hi sl Q I rx hs pl pu h
  obtain ⟨a, xs, rfl, hx, hw, q⟩ := h
  cases rx
  obtain ⟨its, r, ht, hz⟩ := I.tuple hx
  have hlen : its.toArray.size = xs.length := by rw [List.size_toArray]; exact r.length.symm
  refine ⟨"tuple", _, PyProof.Rows.slot_tuple_getitem.lookup, ht.typeIs, ?_⟩
  refine HT.getItem_tuple_cut ht hs pl pu (by rw [hlen]; exact hw) ?_ (by rw [hlen]; exact hz)
  rw [hlen]
  refine ⟨.ref s.heap.objs.size, _, I.laid (t' := s.toks) (o := .tup (cutV xs lo hi)) (fun b ob q => Heap.get?_push_of_some _ q) (Nat.le_refl _) ?_, rfl, q _ (I.hok.fresh (Nat.le_refl _))⟩
  exact ⟨Nat.le_trans (cutV_length xs lo hi) hz, _, (r.drop (HT.sIx xs.length 0 lo)).take (HT.sIx xs.length xs.length hi - HT.sIx xs.length 0 lo), IsTup.new _ _⟩
noncomputable def rCatT (K : PySem.W.Frag) : R2 := fun x y H Q => ∃ a b xs ys, x = .ref a ∧ y = .ref b ∧ SqT K H a xs ∧ SqT K H b ys ∧ xs ≠ [] ∧ xs.length + ys.length ≤ sizeLine ∧
  (ys = [] → Q (.ref a) H) ∧ (ys ≠ [] → ∀ p, H p = none → Q (.ref p) (upd H p (.tup (xs ++ ys))))
theorem Vals.nil_iff {xs : List V} {us : List Value} (r : Vals xs us) : us = [] ↔ xs = [] := by
  cases r with
  | nil => simp
  | cons _ _ => simp
theorem op_catT : OpR X (binaryOp .Add) (rCatT X.K) := by
  intro pins s σ H x y v u Q I rx ry h
  obtain ⟨a, b, xs, ys, rfl, rfl, ha, hb, hx, hz, q1, q2⟩ := h
  cases rx
  cases ry
  obtain ⟨its, r1, p1, _⟩ := I.tuple ha
  obtain ⟨its2, r2, p2, _⟩ := I.tuple hb
  refine HT.cat_tup p1 p2 (fun z => hx (r1.nil_iff.mp z)) (fun z => ⟨.ref a, H, I, rfl, q1 (r2.nil_iff.mp z)⟩) (fun z => ?_) (by rw [← r1.length, ← r2.length]; exact hz)
  refine ⟨.ref s.heap.objs.size, _, I.laid (t' := s.toks) (o := .tup (xs ++ ys)) (fun b ob q => Heap.get?_push_of_some _ q) (Nat.le_refl _) ?_, rfl, q2 (fun w => z (r2.nil_iff.mpr w)) _ (I.hok.fresh (Nat.le_refl _))⟩
  exact ⟨by rw [List.length_append]; exact hz, _, r1.append r2, IsTup.new _ _⟩
end
end L2
namespace L2
open PySem PySem.Spec PyProof.Rows
noncomputable def ixN (n : Nat) (i : Int) : Option Nat := if 0 ≤ i then (if i < n then some i.toNat else none) else if -(n : Int) ≤ i then some (i + n).toNat else none
noncomputable def atI {α : Type} (xs : List α) (i : Int) : Option α := (ixN xs.length i).bind fun j => xs[j]?
theorem ixN_seq {n : Nat} {i : Int} {j : Nat} (h : ixN n i = some j) : seqIndex? i n = some j ∧ j < n ∧ -(n : Int) ≤ i ∧ i < n := by
  unfold ixN at h
  by_cases h0 : 0 ≤ i
  · rw [if_pos h0] at h
    by_cases h1 : i < n
    · rw [if_pos h1] at h
      have e : i.toNat = j := Option.some.inj h
      exact ⟨by rw [seqIndex_of h0 h1, e], by omega, by omega, h1⟩
    · rw [if_neg h1] at h; cases h
  · rw [if_neg h0] at h
    by_cases h1 : -(n : Int) ≤ i
    · rw [if_pos h1] at h
      have e : (i + n).toNat = j := Option.some.inj h
      exact ⟨by rw [seqIndex_neg (by omega) h1, e], by omega, h1, by omega⟩
    · rw [if_neg h1] at h; cases h
theorem atI_get {α : Type} {xs : List α} {i : Int} {v : α} (h : atI xs i = some v) : ∃ j, seqIndex? i xs.length = some j ∧ xs[j]? = some v ∧ j < xs.length ∧ -(xs.length : Int) ≤ i ∧ i < xs.length := by
  unfold atI at h
  cases e : ixN xs.length i with
  | none => rw [e] at h; cases h
  | some j =>
    rw [e] at h
    obtain ⟨h1, h2, h3, h4⟩ := ixN_seq e
    exact ⟨j, h1, h, h2, h3, h4⟩
noncomputable def PlainIx (b : Expr) : Prop := ∀ o i, subscripted b false o i = operate [o, i] (getItem o i)
noncomputable def IxR (X : Cx) (r : R2) : Prop :=
  ∀ (value slice : Expr) (pins : List (Addr × Obj)) (s : Shared) (σ : St) (H : Hp) (x y : V) (v u : Value) (Q : VK), Inv X pins σ H s → RelV x v → RelV y u → r x y H Q →
    subscripted slice false v u = operate [v, u] (getItem v u) → wpAny (model X.prog X.w) X.A (subscriptTail value slice v u) (EP X pins σ Q) X.xe s
noncomputable def MtR (X : Cx) (id : String) (r : V → List V → Hp → VK → Prop) : Prop :=
  ∀ (pins : List (Addr × Obj)) (s : Shared) (σ : St) (H : Hp) (x : V) (xs : List V) (v : Value) (us : List Value) (Q : VK), Inv X pins σ H s → RelV x v → Vals xs us → r x xs H Q →
    wpAny (model X.prog X.w) X.A (call (.builtin id) (v :: us)) (EP X pins σ Q) X.xe s
section
variable {X : Cx} {a b : Expr} {ta tb : TE} {pos : Pos}
theorem pe_ix {r : R2} (hr : IxR X r) (ha : PE X a ta) (hb : PE X b tb) (hs : PlainIx b) : PE X (.Subscript a b pos) (tOp r ta tb) := by
  intro pins s σ H Q I h
  exact Subscript_ (binT ha hb I h fun v u s2 x y H2 I2 rx ry q => hr a b pins s2 σ H2 x y v u Q I2 rx ry q (hs _ _))
noncomputable def rIxL (K : PySem.W.Frag) : R2 := fun x y H Q => ∃ p xs i v, x = .ref p ∧ y = .int i ∧ SqL K H p xs ∧ atI xs i = some v ∧ Q v H
noncomputable def rIxT (K : PySem.W.Frag) : R2 := fun x y H Q => ∃ p xs i v, x = .ref p ∧ y = .int i ∧ SqT K H p xs ∧ atI xs i = some v ∧ Q v H
theorem ix_list : IxR X (rIxL X.K) := by
  intro value slice pins s σ H x y v u Q I rx ry h hs
  obtain ⟨p, xs, i, z, rfl, rfl, hq, he, q⟩ := h
  cases rx
  obtain ⟨t, rfl⟩ := ry
  obtain ⟨its, r, pl, hz⟩ := I.list hq
  obtain ⟨j, h1, h2, h3, h4, h5⟩ := atI_get he
  obtain ⟨w, ew, rw'⟩ := r.get h2
  have hl := r.length
  have hn := line63
  have fin : EP X pins σ Q w s := ⟨z, H, I, rw', q⟩
  by_cases h0 : 0 ≤ i
  · have hj : i.toNat = j := by
      rw [seqIndex_of h0 h5] at h1
      exact Option.some.inj h1
    exact item_listR pl.isList h0 (by omega) (by rw [hj]; simpa using ew) fin hs
  · have hj : (i + (its.toArray.size : Int)).toNat = j := by
      rw [seqIndex_neg (by omega) h4] at h1
      rw [List.size_toArray, ← hl]
      exact Option.some.inj h1
    exact subscriptTail_builtinR (x := w) pl.isList.typeIs slot_list_getitem.lookup
      (wpAny_getItem_list_neg (Q := fun r s' => r = w ∧ EP X pins σ Q r s') pl.isList (by omega) (by rw [List.size_toArray] <;> omega) (by omega) (by rw [hj]; simpa using ew) ⟨rfl, fin⟩) hs
theorem ix_tup : IxR X (rIxT X.K) := by
  intro value slice pins s σ H x y v u Q I rx ry h hs
  obtain ⟨p, xs, i, z, rfl, rfl, hq, he, q⟩ := h
  cases rx
  obtain ⟨t, rfl⟩ := ry
  obtain ⟨its, r, pl, hz⟩ := I.tuple hq
  obtain ⟨j, h1, h2, h3, h4, h5⟩ := atI_get he
  obtain ⟨w, ew, rw'⟩ := r.get h2
  have hl := r.length
  have hn := line63
  have fin : EP X pins σ Q w s := ⟨z, H, I, rw', q⟩
  exact subscriptTail_builtinR (x := w) pl.typeIs slot_tuple_getitem.lookup
    (getItem_tuple (j := j) (Q := fun r s' => r = w ∧ EP X pins σ Q r s') pl (by omega) (by omega) (by rw [List.size_toArray, ← hl]; exact h1) (by simpa using ew) ⟨rfl, fin⟩) hs
theorem mapSeq_set (its : List Value) (n j : Nat) (u : Value) : Obj.mapSeq (·.setIfInBounds j u) { cls := .type "list", data := .seq its.toArray n } = { cls := .type "list", data := .seq (its.set j u).toArray n } := by
  simp [Obj.mapSeq]
theorem Inv.lst {pins : List (Addr × Obj)} {σ : St} {H : Hp} {s : Shared} {p : Addr} {xs : List V} (I : Inv X pins σ H s) (h : H p = some (.lst xs)) :
    ∃ (its : List Value) (n : Nat), Vals xs its ∧ s.heap.get? p = some { cls := .type "list", data := .seq its.toArray n } ∧ xs.length ≤ sizeLine := by
  obtain ⟨z, its, n, r, e⟩ := I.hok p _ h
  exact ⟨its, n, r, e, z⟩
theorem Inv.lstUpd {pins : List (Addr × Obj)} {σ : St} {H : Hp} {s : Shared} {p : Addr} {xs ys : List V} {its its' : List Value} {n n' : Nat} {f : Obj → Obj} (I : Inv X pins σ H s) (h : H p = some (.lst xs))
    (ho : s.heap.get? p = some { cls := .type "list", data := .seq its.toArray n }) (hf : f { cls := .type "list", data := .seq its.toArray n } = { cls := .type "list", data := .seq its'.toArray n' }) (r : Vals ys its') (hz : ys.length ≤ sizeLine) (t : Nat) :
    Inv X pins σ (upd H p (.lst ys)) { s with heap := s.heap.update p f, toks := t } := by
  have e : (s.heap.update p f).get? p = some { cls := .type "list", data := .seq its'.toArray n' } := by
    rw [Heap.get?_update_self f ho (by rw [hf] <;> rfl), hf]
  refine I.write (x := p) (e := p) (by rw [h]; trivial) (.inl rfl) (fun b u hb q => (Heap.get?_update_other _ _ (Ne.symm hb)).trans q) ⟨_, e⟩ ?_
  exact ⟨hz, its', n', r, e⟩
noncomputable def rSetL : V → V → V → Hp → (Hp → Prop) → Prop := fun o i v H Q => ∃ p xs k j, o = .ref p ∧ i = .int k ∧ H p = some (.lst xs) ∧ ixN xs.length k = some j ∧ Q (upd H p (.lst (xs.set j v)))
theorem set_list : PSet X rSetL := by
  intro pins s σ H o i v ov iv u Q I ro ri rv h
  obtain ⟨p, xs, k, j, rfl, rfl, hp, hj, q⟩ := h
  cases ro
  obtain ⟨t, rfl⟩ := ri
  obtain ⟨its, n, r, ho, hz⟩ := I.lst hp
  obtain ⟨h1, h2, h3, h4⟩ := ixN_seq hj
  have hl := r.length
  have hn := line63
  have I' : Inv X pins σ (upd H p (.lst (xs.set j v))) { s with heap := s.heap.update p (Obj.mapSeq (·.setIfInBounds j u)) } :=
    I.lstUpd hp ho (mapSeq_set its n j u) (r.set rv j) (by rw [List.length_set]; exact hz) s.toks
  by_cases h0 : 0 ≤ k
  · have hk : k.toNat = j := by
      rw [seqIndex_of h0 h4] at h1
      exact Option.some.inj h1
    exact PySem.W.ki_setAt ho h0 (by omega) (by rw [List.size_toArray, ← hl]; exact h4) (by rw [hk]; exact ⟨_, I', q⟩)
  · have hk : (k + (its.toArray.size : Int)).toNat = j := by
      rw [seqIndex_neg (by omega) h3] at h1
      rw [List.size_toArray, ← hl]
      exact Option.some.inj h1
    exact PySem.W.ki_setBack ho (by omega) (by rw [List.size_toArray, ← hl]; exact h3) (by omega) (by rw [hk]; exact ⟨_, I', q⟩)
theorem slice_bounds (lo hi : Option Int) (n : Nat) : (sliceBounds lo hi none n).1 = ((HT.sIx n 0 lo : Nat) : Int) ∧ (sliceBounds lo hi none n).2.1 = ((HT.sIx n n hi : Nat) : Int) ∧ (sliceBounds lo hi none n).2.2 = 1 := by
  refine ⟨?_, ?_, rfl⟩
  · cases lo with
    | none => simp [sliceBounds, HT.sIx]
    | some i =>
      simp only [sliceBounds, HT.sIx, Option.getD_none, show (1 : Int) > 0 by decide, if_true]
      by_cases h : i < 0
      · simp only [h, if_true] <;> omega
      · simp only [h, if_false] <;> omega
  · cases hi with
    | none => simp [sliceBounds, HT.sIx]
    | some i =>
      simp only [sliceBounds, HT.sIx, Option.getD_none, show (1 : Int) > 0 by decide, if_true]
      by_cases h : i < 0
      · simp only [h, if_true] <;> omega
      · simp only [h, if_false] <;> omega
theorem slicePick_cut (its : List Value) (lo hi : Option Int) : slicePick its.toArray lo hi none = ((its.drop (HT.sIx its.length 0 lo)).take (HT.sIx its.length its.length hi - HT.sIx its.length 0 lo)).toArray := by
  obtain ⟨h1, h2, h3⟩ := slice_bounds lo hi its.toArray.size
  unfold slicePick
  rw [h1, h2, h3]
  simp only [sliceRange_one, pick_run, List.size_toArray] <;> rfl
noncomputable def rSlL (K : PySem.W.Frag) : V → Option Int → Option Int → Hp → VK → Prop := fun x lo hi H Q => ∃ a xs, x = .ref a ∧ SqL K H a xs ∧ ∀ p, H p = none → Q (.ref p) (upd H p (.lst (cutV xs lo hi)))
theorem sl_list : SlR X (rSlL X.K) := by
  intro pins s σ H x v vl vu lo hi sl Q I rx hs pl pu h
  obtain ⟨a, xs, rfl, hx, q⟩ := h
  cases rx
  obtain ⟨its, r, ht, hz⟩ := I.list hx
  have hlen := r.length
  refine ⟨"list", _, slot_list_getitem.lookup, ht.isList.typeIs, ?_⟩
  refine wpAny_getItem_list_slice ht.isList hs pl pu .none (by simp) ?_ (by rw [List.size_toArray] <;> omega)
  rw [slicePick_cut, ← hlen]
  refine ⟨.ref s.heap.objs.size, _, I.laid (t' := s.toks) (o := .lst (cutV xs lo hi)) (fun b ob q => Heap.get?_push_of_some _ q) (Nat.le_refl _) ?_, rfl, q _ (I.hok.fresh (Nat.le_refl _))⟩
  exact ⟨Nat.le_trans (cutV_length xs lo hi) hz, _, 0, (r.drop (HT.sIx xs.length 0 lo)).take (HT.sIx xs.length xs.length hi - HT.sIx xs.length 0 lo), Heap.get?_push_size _ rfl⟩
noncomputable def flatV : V → Bool
  | .non => true
  | .bl _ => true
  | .int _ => true
  | .str _ => true
  | _ => false
noncomputable def eqV : V → V → Bool
  | .non, .non => true
  | .bl a, .bl b => a == b
  | .bl a, .int b => (if a then 1 else 0) == b
  | .int a, .bl b => a == (if b then 1 else 0)
  | .int a, .int b => a == b
  | .str a, .str b => a == b
  | _, _ => false
theorem eqAt_V {A : Around} {s : Shared} {y x : V} {u v : Value} (ry : RelV y u) (rx : RelV x v) (fy : flatV y = true) (fx : flatV x = true) : SeqAt.EqAt A s u v (eqV y x) := by
  cases y with
  | non =>
    cases ry
    cases x with
    | non => cases rx; exact SeqAt.EqAt.same _
    | bl b => cases rx; exact SeqAt.EqAt.none_bool b
    | int b => obtain ⟨t, rfl⟩ := rx; exact SeqAt.EqAt.none_int b t
    | str b => obtain ⟨t, rfl⟩ := rx; exact SeqAt.EqAt.none_str b t
    | _ => exact absurd (show false = true from fx) Bool.false_ne_true
  | bl a =>
    cases ry
    cases x with
    | non => cases rx; exact SeqAt.EqAt.bool_none a
    | bl b => cases rx; exact SeqAt.EqAt.bool_bool a b
    | int b => obtain ⟨t, rfl⟩ := rx; exact SeqAt.EqAt.bool_int a b t
    | str b => obtain ⟨t, rfl⟩ := rx; exact SeqAt.EqAt.bool_str a b t
    | _ => exact absurd (show false = true from fx) Bool.false_ne_true
  | int a =>
    obtain ⟨t', rfl⟩ := ry
    cases x with
    | non => cases rx; exact SeqAt.EqAt.int_none a t'
    | bl b => cases rx; exact SeqAt.EqAt.int_bool a t' b
    | int b => obtain ⟨t, rfl⟩ := rx; exact SeqAt.EqAt.int_int a t' b t
    | str b => obtain ⟨t, rfl⟩ := rx; exact SeqAt.EqAt.int_str a t' b t
    | _ => exact absurd (show false = true from fx) Bool.false_ne_true
  | str a =>
    obtain ⟨t', rfl⟩ := ry
    cases x with
    | non => cases rx; exact SeqAt.EqAt.str_none a t'
    | bl b => cases rx; exact SeqAt.EqAt.str_bool a t' b
    | int b => obtain ⟨t, rfl⟩ := rx; exact SeqAt.EqAt.str_int a t' b t
    | str b => obtain ⟨t, rfl⟩ := rx; exact SeqAt.EqAt.str_str a t' b t
    | _ => exact absurd (show false = true from fx) Bool.false_ne_true
  | _ => exact absurd (show false = true from fy) Bool.false_ne_true
noncomputable def eqU (x : V) (u : Value) : Bool := match u with
  | .none => eqV .non x
  | .bool b => eqV (.bl b) x
  | .int i _ => eqV (.int i) x
  | .str z _ => eqV (.str z) x
  | _ => false
theorem eqU_of {x y : V} {u : Value} (r : RelV y u) (f : flatV y = true) : eqU x u = eqV y x := by
  cases y with
  | non => cases r; rfl
  | bl b => cases r; rfl
  | int i => obtain ⟨t, rfl⟩ := r; rfl
  | str z => obtain ⟨t, rfl⟩ := r; rfl
  | _ => exact absurd (show false = true from f) Bool.false_ne_true
theorem any_eqU {x : V} : ∀ {xs : List V} {us : List Value}, Vals xs us → xs.all flatV = true → us.any (eqU x) = xs.any fun y => eqV y x
  | _, _, .nil, _ => rfl
  | y :: xs, u :: us, .cons r t, f => by
    rw [List.all_cons, Bool.and_eq_true] at f
    rw [List.any_cons, List.any_cons, eqU_of r f.1, any_eqU t f.2]
theorem mem_eqAt {A : Around} {s : Shared} {x : V} {v : Value} (rx : RelV x v) (fx : flatV x = true) : ∀ {xs : List V} {us : List Value}, Vals xs us → xs.all flatV = true → ∀ u ∈ us, SeqAt.EqAt A s u v (eqU x u)
  | _, _, .nil, _ => fun u hu => by cases hu
  | y :: xs, u :: us, .cons r t, f => fun u' hu => by
    rw [List.all_cons, Bool.and_eq_true] at f
    rcases List.mem_cons.mp hu with rfl | hu
    · rw [eqU_of r f.1]; exact eqAt_V r rx f.1 fx
    · exact mem_eqAt rx fx t f.2 u' hu
noncomputable def inV (x : V) (xs : List V) : Bool := xs.any fun y => eqV y x
noncomputable def rIn (K : PySem.W.Frag) (neg : Bool) : R2 := fun x y H Q => ∃ p xs, y = .ref p ∧ (SqL K H p xs ∨ SqT K H p xs) ∧ flatV x = true ∧ xs.all flatV = true ∧ Q (.bl (if neg then !inV x xs else inV x xs)) H
theorem op_in_seq : OpR X (compareOp .In) (rIn X.K false) := by
  intro pins s σ H x y v u Q I rx ry h
  obtain ⟨p, xs, rfl, hq, fx, fs, q⟩ := h
  cases ry
  rcases hq with hq | hq
  · obtain ⟨its, r, pl, hz⟩ := I.list hq
    refine SeqAt.in_listAt (eqU x) pl.isList (fun w hw => mem_eqAt rx fx r fs w (by simpa using hw)) ⟨.bl _, H, I, rfl, ?_⟩
    rw [show its.toArray.any (eqU x) = its.any (eqU x) by simp, any_eqU r fs]
    exact q
  · obtain ⟨its, r, pl, hz⟩ := I.tuple hq
    refine SeqAt.in_tupleAt (eqU x) pl (fun w hw => mem_eqAt rx fx r fs w (by simpa using hw)) ⟨.bl _, H, I, rfl, ?_⟩
    rw [show its.toArray.any (eqU x) = its.any (eqU x) by simp, any_eqU r fs]
    exact q
theorem call_len_seq : CallR X (.builtin "len") (fun xs H Q => ∃ p ys, xs = [.ref p] ∧ (SqL X.K H p ys ∨ SqT X.K H p ys) ∧ Q (.int ys.length) H) := by
  intro pins s σ H xs us Q I r h
  obtain ⟨p, ys, rfl, hq, q⟩ := h
  obtain ⟨u, rfl, rx⟩ := vals1 r
  cases rx
  have hn := line63
  rcases hq with hq | hq
  · obtain ⟨its, r', pl, hz⟩ := I.list hq
    have hlen := r'.length
    exact Calls.call_len_list pl.isList (by simp only [List.size_toArray] <;> omega) ⟨.int ys.length, H, I.tok _, ⟨s.toks + 1, by rw [List.size_toArray, hlen]⟩, q⟩
  · obtain ⟨its, r', pl, hz⟩ := I.tuple hq
    have hlen := r'.length
    exact len_tuple pl (by simp only [List.size_toArray] <;> omega) ⟨.int ys.length, H, I.tok _, ⟨s.toks + 1, by rw [List.size_toArray, hlen]⟩, q⟩
theorem call_list_of : CallR X (.type "list") (fun xs H Q => ∃ p ys, xs = [.ref p] ∧ (SqL X.K H p ys ∨ SqT X.K H p ys) ∧ ∀ l, H l = none → Q (.ref l) (upd H l (.lst ys))) := by
  intro pins s σ H xs us Q I r h
  obtain ⟨p, ys, rfl, hq, q⟩ := h
  obtain ⟨u, rfl, rx⟩ := vals1 r
  cases rx
  have fin : ∀ (its : List Value), Vals ys its → ys.length ≤ sizeLine → ∀ (h' : Heap) (c' : Nat), (∀ b o', s.heap.get? b = some o' → h'.get? b = some o') →
      h'.get? s.heap.objs.size = some { cls := .type "list", dict := none, data := .seq its.toArray c', slots := #[] } → EP X pins σ Q (.ref s.heap.objs.size) { s with heap := h' } := fun its r' hz h' c' kp e =>
    ⟨.ref s.heap.objs.size, _, I.laid (t' := s.toks) kp (Nat.le_refl _) (show ObjOk X.prog X.w _ h' _ (.lst ys) from ⟨hz, its, c', r', e⟩), rfl, q _ (I.hok.fresh (Nat.le_refl _))⟩
  rcases hq with hq | hq
  · obtain ⟨its, r', pl, hz⟩ := I.list hq
    have hlen := r'.length
    obtain ⟨o, ho, hc, n, hd⟩ := pl.isList
    exact call_list_seq p (.inl rfl) ho hc hd (fun h' c' kp e => fin its r' hz h' c' kp e) (by simp only [List.size_toArray] <;> omega)
  · obtain ⟨its, r', pl, hz⟩ := I.tuple hq
    have hlen := r'.length
    obtain ⟨o, ho, hc, n, hd⟩ := pl
    exact call_list_seq p (.inr rfl) ho hc hd (fun h' c' kp e => fin its r' hz h' c' kp e) (by simp only [List.size_toArray] <;> omega)
theorem call_tuple_of : CallR X (.type "tuple") (fun xs H Q => ∃ p ys, xs = [.ref p] ∧ ((SqL X.K H p ys ∧ ∀ l, H l = none → Q (.ref l) (upd H l (.tup ys))) ∨ (SqT X.K H p ys ∧ Q (.ref p) H))) := by
  intro pins s σ H xs us Q I r h
  obtain ⟨p, ys, rfl, h⟩ := h
  obtain ⟨u, rfl, rx⟩ := vals1 r
  cases rx
  rcases h with ⟨hq, q⟩ | ⟨hq, q⟩
  · obtain ⟨its, r', pl, hz⟩ := I.list hq
    have hlen := r'.length
    refine call_tuple_list pl.isList (fun h' kp => ?_) (by simp only [List.size_toArray] <;> omega)
    have I1 : Inv X pins σ H { s with heap := h' } := I.kept (t' := s.toks) kp
    have I2 : Inv X pins σ (upd H h'.objs.size (.tup ys)) { s with heap := h'.push { cls := .type "tuple", data := .seq its.toArray } } :=
      I1.laid (t' := s.toks) (fun b o e => Heap.get?_push_of_some _ e) (Nat.le_refl _) (show ObjOk X.prog X.w _ _ _ (.tup ys) from ⟨hz, its, r', IsTup.new _ _⟩)
    exact ⟨.ref h'.objs.size, _, I2, rfl, q _ (I1.hok.fresh (Nat.le_refl _))⟩
  · obtain ⟨its, r', pl, hz⟩ := I.tuple hq
    exact call_tuple_same pl ⟨.ref p, H, I, rfl, q⟩
noncomputable def tyV (K : PySem.W.Frag) (T : String) (x : V) (H : Hp) : Prop := match x with
  | .str _ => T = "str"
  | .int _ => T = "int"
  | .ref p => (T = "list" ∧ ∃ xs, SqL K H p xs) ∨ (T = "tuple" ∧ ∃ o, K.lookup p = some o ∧ o.cls = .type "tuple" ∧ o.dict = none) ∨
      (T = "dict" ∧ ((∃ kvs, H p = some (.dK kvs)) ∨ ∃ kvs, H p = some (.dT kvs))) ∨ (T = "set" ∧ ∃ S n, H p = some (.set S n))
  | _ => False
theorem tyV_is {pins : List (Addr × Obj)} {σ : St} {H : Hp} {s : Shared} {T : String} {x : V} {v : Value} (I : Inv X pins σ H s) (r : RelV x v) (ty : tyV X.K T x H) :
    s.TypeIs v T ∧ ∀ a, v = .ref a → ∃ ob, s.heap.get? a = some ob ∧ ob.dict = none := by
  cases x with
  | str z =>
    obtain ⟨t, rfl⟩ := r
    cases (show T = "str" from ty)
    exact ⟨typeIs_str s z t, fun _ e => nomatch e⟩
  | int i =>
    obtain ⟨t, rfl⟩ := r
    cases (show T = "int" from ty)
    exact ⟨typeIs_int s i t, fun _ e => nomatch e⟩
  | ref p =>
    cases r
    rcases ty with ⟨rfl, xs, hq⟩ | ⟨rfl, o, hk, hc, hd⟩ | ⟨rfl, hk⟩ | ⟨rfl, S, n, hk⟩
    · obtain ⟨its, _, pl, _⟩ := I.list hq
      refine ⟨pl.isList.typeIs, fun a e => ?_⟩
      cases e
      obtain ⟨o, n, e, c, hd, _⟩ := pl
      exact ⟨o, e, hd⟩
    · refine ⟨⟨o, I.kIn p o hk, hc⟩, fun a e => ?_⟩
      cases e
      exact ⟨o, I.kIn _ o hk, hd⟩
    · have z : ∃ o, s.heap.get? p = some o ∧ o.ExactDict := by
        rcases hk with ⟨kvs, hk⟩ | ⟨kvs, hk⟩
        · obtain ⟨_, _, _, _, o, _, _, e, ex, _⟩ := I.hok p _ hk
          exact ⟨o, e, ex⟩
        · obtain ⟨_, _, _, _, o, _, _, e, ex, _⟩ := I.hok p _ hk
          exact ⟨o, e, ex⟩
      obtain ⟨o, e, ex⟩ := z
      refine ⟨⟨o, e, ex.1⟩, fun a e2 => ?_⟩
      cases e2
      exact ⟨o, e, ex.2.1⟩
    · obtain ⟨o, _, _, _, e, ex, _⟩ := I.hok p _ hk
      refine ⟨⟨o, e, ex.1⟩, fun a e2 => ?_⟩
      cases e2
      exact ⟨o, e, ex.2.1⟩
  | _ => exact False.elim ty
noncomputable def tBM (K : PySem.W.Frag) (T : String) (r : V → List V → Hp → VK → Prop) (to : TE) (t : TA) : TE := fun σ H Q => to σ H fun x H1 => tyV K T x H1 ∧ t σ H1 fun xs H2 => r x xs H2 Q
variable {o e : Expr} {es : List Expr} {to : TE} {t : TA} {name : Str} {apos cpos : Pos} {T id : String} {r : V → List V → Hp → VK → Prop}
theorem pe_bm (pa : PlainAttrs T) (slot : Slot T name id) (hty : typeOf (.builtin id) = pure (.type "method_descriptor")) (hm : MtR X id r) (ho : PE X o to) (ha : PA X (e :: es) t)
    (hbase : attributeBase o name X.env (eval o X.env) = eval o X.env := by rfl)
    (hfew : ((backTo cpos (starEach (e :: es) X.env)).all (fun x => !x.1) && (backToKw cpos (keywordEach [] X.env)).all (fun x => x.1.isSome)
      && decide ((e :: es).length + ([] : List Keyword).length + (if ([] : List Keyword).isEmpty then 0 else 1) < 30)) = true := by rfl)
    (hline : (apos.endLine == cpos.line) = true := by rfl) (hs : starEach (e :: es) X.env = (false, eval e X.env) :: starEach es X.env := by rfl) (hplain : (backTo cpos (starEach es X.env)).any (·.1) = false := by rfl) :
    PE X (.Call (.Attribute o name apos) (e :: es) [] cpos) (tBM X.K T r to t) := by
  intro pins s σ H Q I h
  refine wpAny_Call_method_late hbase hfew hline rfl (thn (ho pins s σ H _ I h) ?_)
  rintro v s1 ⟨x, H1, I1, r1, ty, q1⟩
  obtain ⟨h1, h2⟩ := tyV_is I1 r1 ty
  refine ⟨T, id, pa, slot, hty, h1, h2, ?_⟩
  have hA := ha cpos pins s1 σ H1 _ I1 q1
  rw [hs] at hA ⊢
  refine Calls.callWith_builtin (by show (false || (backTo cpos (starEach es X.env)).any (·.1)) = false; rw [hplain] <;> rfl) (Calls.evalArgs_plain ?_)
  exact thn hA fun us s2 ⟨vs, H2, I2, r2, q2⟩ => hm pins s2 σ H2 x vs v us Q I2 r1 r2 q2
/- xs.append(e), list.index on a module's tuple .. are MtR facts of 06m -/
end
end L2
namespace L2
open PySem PySem.Spec PyProof.Rows
noncomputable def MtM (X : Cx) (id : String) (r : V → List V → Hp → VK → Prop) : Prop :=
  ∀ (pins : List (Addr × Obj)) (s : Shared) (σ : St) (H : Hp) (x : V) (xs : List V) (v : Value) (us : List Value) (Q : VK), Inv X pins σ H s → RelV x v → Vals xs us → r x xs H Q →
    wpAny (model X.prog X.w) X.A (call (.builtin id) (v :: us)) (EP X pins σ Q) X.xe s
theorem Vals.one : ∀ {x : V} {us : List Value}, Vals [x] us → ∃ u, us = [u] ∧ RelV x u
  | _, _, .cons r .nil => ⟨_, rfl, r⟩
theorem Vals.two : ∀ {x y : V} {us : List Value}, Vals [x, y] us → ∃ u v, us = [u, v] ∧ RelV x u ∧ RelV y v
  | _, _, _, .cons r (.cons q .nil) => ⟨_, _, rfl, r, q⟩
theorem Vals.zero : ∀ {us : List Value}, Vals [] us → us = []
  | _, .nil => rfl
theorem Vals.rep {xs : List V} {us : List Value} (h : Vals xs us) : ∀ k : Nat, Vals (List.replicate k xs).flatten (List.replicate k us).flatten
  | 0 => .nil
  | k + 1 => by
    rw [List.replicate_succ, List.replicate_succ, List.flatten_cons, List.flatten_cons]
    exact Vals.append h (Vals.rep h k)
theorem foldl_rep (its : List Value) : ∀ (k : Nat) (acc : List Value),
    List.foldl (fun x1 x2 => x1 ++ x2) acc.toArray (List.replicate k its.toArray) = (acc ++ (List.replicate k its).flatten).toArray
  | 0, acc => by simp
  | k + 1, acc => by
    have e : acc.toArray ++ its.toArray = (acc ++ its).toArray := by simp
    have e2 : (acc ++ its) ++ (List.replicate k its).flatten = acc ++ (List.replicate (k + 1) its).flatten := by
      rw [List.replicate_succ, List.flatten_cons, List.append_assoc]
    rw [← e2, ← foldl_rep its k (acc ++ its), ← e, List.replicate_succ, List.foldl_cons]
section
variable {X : Cx} {pins : List (Addr × Obj)} {σ : St} {H : Hp} {s : Shared} {l b : Addr} {xs ys zs : List V}
theorem Inv.lset {its its' : List Value} {n : Nat} {f : Array Value → Array Value} {t' : Nat} (I : Inv X pins σ H s) (hH : H l = some (.lst xs))
    (e : s.heap.get? l = some { cls := .type "list", data := .seq its.toArray n }) (hf : f its.toArray = its'.toArray) (hv : Vals ys its') (hz : ys.length ≤ sizeLine) :
    Inv X pins σ (upd H l (.lst ys)) { s with heap := s.heap.update l (Obj.mapSeq f), toks := t' } := by
  have q := PySem.IsL.update e f
  rw [hf] at q
  refine I.write (x := l) (e := l) (by rw [hH]; exact trivial) (.inl rfl) (fun b' u hb hu => (Heap.get?_update_other s.heap (Obj.mapSeq f) (Ne.symm hb)).trans hu) ⟨_, q⟩ ?_
  exact ⟨hz, its', _, hv, q⟩
theorem Inv.lnew {its : List Value} {t' : Nat} (I : Inv X pins σ H s) (hv : Vals ys its) (hz : ys.length ≤ sizeLine) :
    Inv X pins σ (upd H s.heap.objs.size (.lst ys)) { s with heap := s.heap.push { cls := .type "list", data := .seq its.toArray }, toks := t' } :=
  I.laid (fun _ _ q => Heap.get?_push_of_some _ q) (Nat.le_refl _) ⟨hz, its, 0, hv, Heap.get?_push_size _ rfl⟩
theorem Inv.fresh (I : Inv X pins σ H s) : H s.heap.objs.size = none := I.hok.fresh (Nat.le_refl _)
theorem Inv.lstM (I : Inv X pins σ H s) (hH : H l = some (.lst xs)) : xs.length ≤ sizeLine ∧ ∃ (its : List Value) (n : Nat), Vals xs its ∧ xs.length = its.length ∧ s.heap.get? l = some { cls := .type "list", data := .seq its.toArray n } := by
  obtain ⟨z, its, n, r, e⟩ := I.hok l _ hH
  exact ⟨z, its, n, r, r.length, e⟩
theorem notLongL {n : Nat} (h : n ≤ sizeLine) : Builtin.List.listTooLong n = false := by
  unfold Builtin.List.listTooLong
  exact decide_eq_false (by omega)
end
section
variable {X : Cx}
noncomputable def rAppend : V → List V → Hp → VK → Prop := fun x vs H Q => ∃ l xs y, x = .ref l ∧ vs = [y] ∧ H l = some (.lst xs) ∧ xs.length < sizeLine ∧ Q .non (upd H l (.lst (xs ++ [y])))
theorem mt_append : MtM X "list.append" rAppend := by
  intro pins s σ H x vs v us Q I rx rv h
  obtain ⟨l, xs, y, rfl, rfl, hH, hz, q⟩ := h
  cases rx
  obtain ⟨u, rfl, ru⟩ := rv.one
  obtain ⟨z, its, n, r, hl, e⟩ := I.lstM hH
  refine call_meets F.slot_list_append ⟨_, e, rfl⟩ F.entry_list_append (F.args_list_append_2 _ _) (PySem.list_append l its.toArray n u (by rw [List.size_toArray]; omega)) ⟨e, ?_⟩
  refine ⟨.non, _, I.lset (its' := its ++ [u]) hH e (by simp) (r.append (.cons ru .nil)) ?_, rfl, q⟩
  rw [List.length_append, List.length_singleton]
  omega
theorem len_rep {α : Type} (xs : List α) (k : Nat) : (List.replicate k xs).flatten.length = k * xs.length := by
  induction k with
  | zero => simp
  | succ k ih => rw [List.replicate_succ, List.flatten_cons, List.length_append, ih, Nat.succ_mul, Nat.add_comm]
end
section
variable {prog : Program} {w : World} {A : Around} {E : Value → Shared → Prop} {s : Shared}
set_option maxRecDepth 100000 in
end
section
variable {X : Cx}
end
end L2
namespace Att
open PySem PySem.W PySem.Calls PyProof.Rows
theorem ints_of_wellAll {P : Params} {h : Heap} : ∀ (ns : List Int) (vs : List Value), WellAll P h vs (ns.map WData.int) → IntsAre vs ns := by
  intro ns
  induction ns with
  | nil =>
    intro vs w
    rw [List.map_nil] at w
    cases w
    exact .nil
  | cons n ns ih =>
    intro vs w
    rw [List.map_cons] at w
    cases w with
    | cons a b =>
      cases a
      exact .cons _ _ (ih _ b)
theorem script_of {l : OpenLaw} {n : Nat} (hn : l.most = some n) {P : Params} {h : Heap} {args : List WData} {vals : List Value}
    (hpre : l.row.toRowW.claim.pre args = true) (hwl : WellAll P h vals args) :
    ∃ a vs ns, vals = [Value.ref a] ∧ args = [WData.list (ns.map WData.int)] ∧ h.get? a = some { cls := .type "list", data := .seq vs.toArray } ∧ IntsAre vs ns ∧ ns.length ≤ n := by
  have hsh : WShape.hasAll [] args [.list .int] = true := (pre_splitW hpre).1
  have hc : l.pre.holds [] { args := args } = true := (pre_splitW hpre).2
  obtain ⟨d, r, rfl, h1, h2⟩ := hasAllW_cons hsh
  obtain rfl := hasAllW_nil h2
  obtain ⟨xs, rfl, h3⟩ := hasW_list h1
  obtain ⟨ns, rfl⟩ := items_int h3
  have hlen : ns.length ≤ n := by
    unfold OpenLaw.pre at hc
    have h4 : (WTm.not (.lt (.lit (.int (n : Int))) (.len (.arg 0)))).holds [] { args := [.list (ns.map .int)] } = true := by
      have h4 := (holds_andW hc).1
      rw [hn] at h4
      exact h4
    have h5 := condW_of h4 (w_not (w_lt w_lit (w_len_list (w_arg rfl))))
    rw [List.length_map] at h5
    refine Nat.le_of_not_lt fun q => ?_
    have q' : (n : Int) < ((ns.length : Nat) : Int) := by omega
    first
      | (rw [decide_eq_true q'] at h5; exact absurd h5 (by decide))
      | (simp at h5; omega)
  cases hwl with
  | cons w1 w2 =>
    cases w2
    cases w1 with
    | list ho hall => exact ⟨_, _, ns, rfl, rfl, ho, ints_of_wellAll ns _ hall, hlen⟩
theorem post_true (l : OpenLaw) (args : List WData) : l.row.toRowW.claim.post args (.bool true) args = true :=
  postW_of (r := l.row.toRowW) (X := (true == true))
    (show WShape.has [] (.bool true) .bool = true by first | rfl | decide | simp [WShape.has, WShape.arms, WShape.armsAll])
    (show (WTm.eq .res (.lit (.bool true))).value [] { args := args, res := some (.bool true), after := args } = some (.bool (true == true)) from w_eq_bool (w_res rfl) w_lit) rfl
theorem attach_call {l : OpenLaw} {n : Nat} {q : Program} {loose : List Str} {XP : (Str → Option Value) → Heap → Prop} {YP : World → Heap → Prop} {d : DefRec}
    (hn : l.most = some n) (hdf : d.params.defaults = [])
    (call : ∀ (w : World) (s₀ s₁ : Shared) (mg mb : Str → Option Value) (fa : Addr) (o : Obj) (pm cd doc : Value) (a : Addr) (vs : List Value) (ns : List Int),
      Ground q loose [] XP w s₀ mg mb s₁.heap → YP w s₁.heap →
      s₁.heap.get? fa = some o → o.data = .func (docDef d.name d.params d.body d.scope pm cd doc) → s₁.heap.CodeRec cd d.name → mg d.name = some (.ref fa) →
      s₁.heap.get? a = some { cls := .type "list", data := .seq vs.toArray } → IntsAre vs ns → ns.length ≤ n → s₁.gens = #[] →
      codeAny (model l.prog w) callerA (.call (.ref fa) ⟨[.ref a], []⟩) (fun r s' => r = .ok (.ret (.bool true)) ∧ OldK s₁.heap s'.heap ∧ s'.os = s₁.os ∧ AllBare s'.gens) s₁) :
    WalkO q loose XP YP l.row.toRowW d [] (fun f vs => PySem.call f vs) := by
  intro w s₀ s₁ mg mb G Y fa o pm cd doc dV kV ho hd hcd hD hmg hg args vals as hpre hlay hrd hwl hlo
  obtain rfl : dV = .none := Dflts.none hD hdf
  obtain rfl : kV = .none := Dflts.noKw hD
  obtain ⟨a, vs, ns, rfl, rfl, hobj, hints, hlen⟩ := script_of hn hpre hwl
  refine enter_call (codeAny_mono (call w s₀ s₁ mg mb fa o pm cd doc a vs ns G Y ho (fd_plain hd) hcd hmg hobj hints hlen hg) fun r s' hq => ?_)
  obtain ⟨rfl, h2, h3, h4⟩ := hq
  exact ⟨.inl ⟨.bool true, .bool true, [], rfl, fun _ => rfl, .bool true, post_true l _, fun _ => ⟨List.Pairwise.nil, fun _ hm => (nomatch hm)⟩⟩, h2, h3, h4⟩
section
variable {prog : Program} {w : World} {A : Around} {E : Value → Shared → Prop} {s : Shared} {K : Frag}
end
end Att
namespace L2
open PySem PySem.Spec PyProof.Rows
theorem vals_ints : ∀ {vs : List Value} {ns : List Int}, IntsAre vs ns → Vals (ns.map V.int) vs
  | _, _, .nil => .nil
  | _, _, .cons n t h => .cons ⟨t, rfl⟩ (vals_ints h)
noncomputable def Only (H : Hp) : Prop := ∀ b, H b = none ∨ ∃ o xs, H b = some (.frz o (.lst xs))
theorem law_call {P : Program} {w : World} {K : PySem.W.Frag} {mg mb : Str → Option Value} {CX : CXT} {k : Nat} {fa a : Addr} {fd : FuncData} {x : Str} {sp : Sp} {s₁ : Shared} {vs : List Value} {ns : List Int}
    (KX : K.In s₁.heap) (hns : s₁.heap.Ns mainGlobals mg) (hb : s₁.heap.Ns builtinsNs mb) (hbb : ∀ x : Str, x ≠ "__name__" → mb x = bootBuiltins x) (hlim : s₁.heap.NoLimit) (hg : s₁.gens = #[])
    (ha : s₁.heap.get? a = some { cls := .type "list", data := .seq vs.toArray }) (hi : IntsAre vs ns) (hl : ns.length ≤ sizeLine) (hr : Room k callerA)
    (F : ∀ base : Heap, K.In base → base.Ns mainGlobals mg → FnOk P w K mg base CX k fa fd [x] sp) (hbind : ∀ (s : Shared) (u : Value), BindsTo s fd ⟨[u], []⟩ [(x, u)])
    (hsp : ∀ H : Hp, Only H → SqL K H a (ns.map V.int) → sp [.ref a] H (fun v _ => v = .bl true) fun _ _ _ => False)
    (hCX : ∀ H e s', CX [] H s₁ (fun _ _ _ => False) e s' → False) :
    codeAny (model P w) callerA (.call (.ref fa) ⟨[.ref a], []⟩) (fun r s' => r = .ok (.ret (.bool true)) ∧ OldK s₁.heap s'.heap ∧ s'.os = s₁.os ∧ AllBare s'.gens) s₁ := by
  have rv := vals_ints hi
  have lenV := hi.length
  -- from an abstract heap in which nothing but the script may be tracked
  have core : ∀ H : Hp, Only H → SqL K H a (ns.map V.int) → HOk P w H s₁.heap → (∀ b, H b ≠ none → b = a) → (H a ≠ none → K.lookup a = none) →
      codeAny (model P w) callerA (.call (.ref fa) ⟨[.ref a], []⟩) (fun r s' => r = .ok (.ret (.bool true)) ∧ OldK s₁.heap s'.heap ∧ s'.os = s₁.os ∧ AllBare s'.gens) s₁ := by
    intro H hO hS hok hA hK
    have base_of : ∀ {b : Addr} {o : Obj}, s₁.heap.get? b = some o → H b = none → (hidT s₁.heap H).get? b = some o := fun e n => hidT_get e n
    have noA : ∀ {b : Addr} {o : Obj} {es : Array DictEntry} {ep : Nat}, s₁.heap.get? b = some o → o.data = .dict es ep → H b = none := fun {b o es ep} e d => by
      cases q : H b with
      | none => rfl
      | some u =>
        have e' : b = a := hA b (by rw [q]; simp)
        subst e'
        rw [ha] at e; cases e
        have d' : Data.seq vs.toArray _ = Data.dict es ep := d
        cases d'
    have nsK : ∀ {b : Addr} {m : Str → Option Value}, s₁.heap.Ns b m → (hidT s₁.heap H).Ns b m := fun {b m} ⟨o, es, ep, e, d, r⟩ => ⟨o, es, ep, base_of e (noA e d), d, r⟩
    have hKb : K.In (hidT s₁.heap H) := fun b o e => base_of (KX b o e) (by
      cases q : H b with
      | none => rfl
      | some u =>
        have e' : b = a := hA b (by rw [q]; simp)
        subst e'
        rw [hK (by rw [q]; simp)] at e; cases e)
    have hM : Mod K mg (hidT s₁.heap H) := ⟨hKb, nsK hns, ⟨mb, nsK hb, hbb⟩, let ⟨mc, h1, h2⟩ := hlim; ⟨mc, nsK h1, h2⟩⟩
    have e0 : Env0 P w K mg (hidT s₁.heap H) callerA [] s₁ H := ⟨rfl, hM, fun b o e => of_hidT e, Nat.le_of_eq (hidT_size _ _), trivial, fun b hb => absurd (show b ∈ ([] : List Addr) from hb) (by simp), hok, .of_eq hg⟩
    refine codeAny_mono ((F _ hKb (nsK hns)).run callerA [] s₁ H ⟨[.ref a], []⟩ [.ref a] [.ref a] _ _ hr e0 (hbind s₁ (.ref a)) (.cons rfl .nil) (hsp H hO hS)) fun r s' h => ?_
    cases r with
    | error e => exact (hCX H e s' h).elim
    | ok fl =>
      cases fl with
      | next => exact False.elim h
      | brk => exact False.elim h
      | cont => exact False.elim h
      | ret u =>
        obtain ⟨v, H', os, bare, un, hok', r', q⟩ := h
        have q' : v = .bl true := q
        subst q'
        obtain rfl : u = Value.bool true := r'
        refine ⟨rfl, OldK.of_keep fun b o e => ?_, os, bare⟩
        cases q : H b with
        | none => exact un.keep b o e q (by intro z; exact absurd (show b ∈ ([] : List Addr) from z) (by simp)) (by simp)
        | some u =>
          rcases hO b with z | ⟨ob, xs, z⟩
          · rw [q] at z; cases z
          · have z2 := un.frzs b ob _ z
            obtain ⟨e1, _⟩ := hok b _ z
            obtain ⟨e2, _⟩ := hok' b _ z2
            rw [e] at e1; cases e1
            exact e2
  cases hk : K.lookup a with
  | some o =>
    -- the script is one of the module's own objects
    have e := KX a o hk
    rw [ha] at e
    cases e
    refine core (fun _ => none) (fun _ => .inl rfl) (.inr ⟨_, vs.toArray, _, hk, rfl, rfl, rfl, by rw [List.size_toArray, lenV]; exact hl, by simpa using rv⟩) (fun b u z => by have z' : (none : Option HO) = some u := z; cases z') (fun b z => absurd rfl z) fun z => absurd rfl z
  | none =>
    refine core (fun b => if b = a then some (.frz { cls := .type "list", data := .seq vs.toArray } (.lst (ns.map V.int))) else none) (fun b => ?_) (.inl (.inr ⟨{ cls := .type "list", data := .seq vs.toArray }, if_pos rfl⟩)) (fun b u z => ?_) (fun b z => ?_) fun _ => hk
    · by_cases hb : b = a
      · exact .inr ⟨_, _, if_pos hb⟩
      · exact .inl (if_neg hb)
    · by_cases hb : b = a
      · have z' := (if_pos hb).symm.trans z
        cases z'
        subst hb
        exact ⟨ha, by rw [List.length_map]; exact hl, vs, _, rv, ha⟩
      · have z' := (if_neg hb).symm.trans z
        cases z'
    · by_cases hb : b = a
      · exact hb
      · exact absurd (if_neg hb) z
end L2
namespace L2
open PySem PySem.Spec PyProof.Rows
theorem walk_of {l : PySem.W.OpenLaw} {n k : Nat} {q : Program} {loose : List Str} {XP : (Str → Option Value) → Heap → Prop} {YP : World → Heap → Prop} {d : DefRec} {K : Params → PySem.W.Frag} {CX : World → CXT} {sp : World → Sp} {x : Str}
    (hn : l.most = some n) (hn2 : n ≤ sizeLine) (hdf : d.params.defaults = []) (hr : Room k callerA)
    (hY : ∀ (w : World) (h : Heap), YP w h → (K w.params).In h)
    (F : ∀ (w : World) (mg : Str → Option Value) (fa : Addr) (h : Heap), (K w.params).In h → h.Ns mainGlobals mg → mg d.name = some (.ref fa) →
      ∃ fd : FuncData, (∀ (s : Shared) (u : Value), BindsTo s fd ⟨[u], []⟩ [(x, u)]) ∧
        ∀ base : Heap, (K w.params).In base → base.Ns mainGlobals mg → FnOk l.prog w (K w.params) mg base (CX w) k fa fd [x] (sp w))
    (hsp : ∀ (w : World) (H : Hp) (a : Addr) (ns : List Int), ns.length ≤ n → Only H → SqL (K w.params) H a (ns.map V.int) → sp w [.ref a] H (fun v _ => v = .bl true) fun _ _ _ => False)
    (hCX : ∀ (w : World) (H : Hp) (s : Shared) (e : Value) (s' : Shared), CX w [] H s (fun _ _ _ => False) e s' → False) :
    PySem.W.WalkO q loose XP YP l.row.toRowW d [] (fun f vs => PySem.call f vs) := by
  refine Att.attach_call hn hdf fun w s₀ s₁ mg mb fa o pm cd doc a vs ns G Y ho hd hcd hmg hobj hints hlen hg => ?_
  have KX := hY w _ Y
  obtain ⟨fd, hb, hF⟩ := F w mg fa _ KX G.T.g hmg
  exact law_call KX G.T.g G.T.b G.T.builtins G.T.nolimit hg hobj hints (Nat.le_trans hlen hn2) hr hF hb (fun H hO hS => hsp w H a ns hlen hO hS) fun H e s' => hCX w H s₁ e s'
theorem walk_ofK {l : PySem.W.OpenLaw} {n k : Nat} {q : Program} {loose : List Str} {XP : (Str → Option Value) → Heap → Prop} {YP : World → Heap → Prop} {d : DefRec} {K : Params → PySem.W.Frag} {CX : CXT} {sp : PySem.W.Frag → Sp} {x : Str}
    (hn : l.most = some n) (hn2 : n ≤ sizeLine) (hdf : d.params.defaults = []) (hr : Room k callerA)
    (hY : ∀ (w : World) (h : Heap), YP w h → (K w.params).In h)
    (F : ∀ (w : World) (mg : Str → Option Value) (fa : Addr) (h : Heap), (K w.params).In h → h.Ns mainGlobals mg → mg d.name = some (.ref fa) →
      ∃ fd : FuncData, (∀ (s : Shared) (u : Value), BindsTo s fd ⟨[u], []⟩ [(x, u)]) ∧
        ∀ base : Heap, (K w.params).In base → base.Ns mainGlobals mg → FnOk l.prog w (K w.params) mg base CX k fa fd [x] (sp (K w.params)))
    (hsp : ∀ (K : PySem.W.Frag) (H : Hp) (a : Addr) (ns : List Int), ns.length ≤ n → Only H → SqL K H a (ns.map V.int) → sp K [.ref a] H (fun v _ => v = .bl true) fun _ _ _ => False)
    (hCX : ∀ (H : Hp) (s : Shared) (e : Value) (s' : Shared), CX [] H s (fun _ _ _ => False) e s' → False) :
    PySem.W.WalkO q loose XP YP l.row.toRowW d [] (fun f vs => PySem.call f vs) :=
  walk_of (K := K) (CX := fun _ => CX) (sp := fun w => sp (K w.params)) hn hn2 hdf hr hY F (fun w H a ns h1 h2 h3 => hsp (K w.params) H a ns h1 h2 h3) fun _ H s e s' => hCX H s e s'
end L2
/- THE LAST THEOREM (shape; LID, My.* are yours):
   My.Adr: a structure of the addresses that your layer names (classes, functions); My.Txt K t: a structure (Prop) of the equations over K;
   My.txt_mk : {K} {implicit addresses ..} (e1 : nsIn K mainGlobals "law" = some (some (.ref f))) (e2 : K.lookup f = some ⟨oc, od, .func (fnOf "law" "law" params body scope dV kV doc pm an cdv ct), sl⟩) (e3 : codeIn K cdv "law" = true) .. : ∃ t, My.Txt K t
set_option maxRecDepth 100000 in
set_option maxHeartbeats 0 in
(the tactic k_is has no namespace: write k_is) -/
namespace L2
open PySem PySem.Spec PyProof.Rows
noncomputable def defArgs (s : Stmt) : Arguments := match s with
  | .FunctionDef _ a _ _ _ _ _ _ _ _ => a
  | _ => { posonlyargs := [], args := [], vararg := none, kwonlyargs := [], kw_defaults := [], kwarg := none, defaults := [] }
noncomputable def defBody (s : Stmt) : List Stmt := match s with
  | .FunctionDef _ _ b _ _ _ _ _ _ _ => b
  | _ => []
noncomputable def defScope (s : Stmt) : Scope := match s with
  | .FunctionDef _ _ _ _ _ _ sc _ _ _ => sc
  | _ => { kind := .function, names := [], isGenerator := false, isCoroutine := false }
noncomputable abbrev CX0 : CXT := fun _ _ _ _ _ _ => False
noncomputable abbrev E0 : XK := fun _ _ _ => False
theorem pass0 {X : Cx} : Passes CX0 X E0 := fun _ _ _ _ _ _ _ h => h.elim
structure Fun (K : PySem.W.Frag) (x qual : Str) (st : Stmt) (f : Addr) (fd : FuncData) : Prop where
  ex : ∃ (oc : Value) (od : Option Addr) (kV doc pm : Value) (an : Option Addr) (cdv ct : Value) (osl : Array (Option Value)),
    fd = PySem.W.fnOf x qual (defArgs st) (defBody st) (defScope st) .none kV doc pm an cdv ct ∧ K.lookup f = some ⟨oc, od, .func fd, osl⟩ ∧ PySem.W.codeIn K cdv qual = true
  kp : PySem.W.keepIn K (.ref f) = true
section
variable {P : Program} {w : World} {K : PySem.W.Frag} {mg : Str → Option Value} {base : Heap}
theorem Fun.ok {x qual : Str} {st : Stmt} {f : Addr} {fd : FuncData} {N ps : List Str} {k : Nat} {sp : Sp} (F : Fun K x qual st f fd) (S : FnScope N ps (defScope st)) (len : ∀ vs H Q E, sp vs H Q E → vs.length = ps.length)
    (hbody : ∀ (cdv : Value) (A : Around) (outer : List Env) (s : Shared) (H : Hp) (vs : List V) (Q : VK) (E : XK), Room k (A.deeper (envOfC qual (defScope st) s.heap.objs.size f cdv)) → sp vs H Q E →
      ∃ t, PSs (cxOf CX0 P w K mg base N qual (defScope st) f cdv A outer s H E).nox (defBody st) t ∧ t { nx := fun _ H' => Q .non H', rt := Q } (start N vs) H) : FnOk P w K mg base CX0 (k + 1) f fd ps sp := by
  obtain ⟨oc, od, kV, doc, pm, an, cdv, ct, osl, rfl, lk, hcd⟩ := F.ex
  refine fn_of lk hcd S len fun A outer s H vs Q E hr hsp => ?_
  obtain ⟨t, h, q⟩ := hbody cdv A outer s H vs Q E hr hsp
  exact ⟨t, h.nox, q⟩
theorem Fun.binds {x qual : Str} {st : Stmt} {f : Addr} {fd : FuncData} {ps : List Str} (F : Fun K x qual st f fd)
    (h : ∀ (kV doc pm : Value) (an : Option Addr) (cdv ct : Value) (us : List Value), us.length = ps.length → bindArgs (PySem.W.fnOf x qual (defArgs st) (defBody st) (defScope st) .none kV doc pm an cdv ct) ⟨us, []⟩ = pure (ps.zip us)) : Binds K fd ps [] := by
  obtain ⟨oc, od, kV, doc, pm, an, cdv, ct, osl, rfl, lk, hcd⟩ := F.ex
  exact .all (h kV doc pm an cdv ct)
theorem fun_mk {x qual : Str} {st : Stmt} {f : Addr} {oc : Value} {od an : Option Addr} {osl : Array (Option Value)} {kV doc pm cdv ct : Value} (l : K.lookup f = some ⟨oc, od, .func (PySem.W.fnOf x qual (defArgs st) (defBody st) (defScope st) .none kV doc pm an cdv ct), osl⟩)
    (c : PySem.W.codeIn K cdv qual = true) (k : PySem.W.keepIn K (.ref f) = true) : Fun K x qual st f (PySem.W.fnOf x qual (defArgs st) (defBody st) (defScope st) .none kV doc pm an cdv ct) := ⟨⟨oc, od, kV, doc, pm, an, cdv, ct, osl, rfl, l, c⟩, k⟩
end
section
variable {X : Cx}
end
noncomputable def Same (H H' : Hp) : Prop := ∀ b o, H b = some o → H' b = some o
theorem Same.refl (H : Hp) : Same H H := fun _ _ h => h
theorem Same.trans {H H1 H2 : Hp} (a : Same H H1) (b : Same H1 H2) : Same H H2 := fun c o h => b c o (a c o h)
theorem Same.seq {K : PySem.W.Frag} {H H' : Hp} {a : Addr} {xs : List V} (e : Same H H') (h : SqL K H a xs) : SqL K H' a xs := by
  rcases h with (h | ⟨o, h⟩) | h
  · exact .inl (.inl (e _ _ h))
  · exact .inl (.inr ⟨o, e _ _ h⟩)
  · exact .inr h
end L2
end
section
set_option linter.all false
namespace HH
open PySem
inductive D where
  | non | bl (b : Bool) | int (i : Int) | str (s : Str) | tup (ds : List D) | lst (ds : List D)
  deriving Inhabited
mutual
noncomputable def peq : D → D → Bool
  | .non, .non => true
  | .bl a, .bl b => a == b
  | .bl a, .int i => (if a then (1 : Int) else 0) == i
  | .int i, .bl a => i == (if a then (1 : Int) else 0)
  | .int i, .int j => i == j
  | .str a, .str b => a == b
  | .tup xs, .tup ys => peqs xs ys
  | .lst xs, .lst ys => peqs xs ys
  | _, _ => false
noncomputable def peqs : List D → List D → Bool
  | [], [] => true
  | x :: xs, y :: ys => peq x y && peqs xs ys
  | _, _ => false
end
noncomputable def dle : Nat → D → Bool
  | _, .non => true | _, .bl _ => true | _, .int _ => true | _, .str _ => true
  | 0, .tup _ => false | 0, .lst _ => false
  | n + 1, .tup ds => ds.all (dle n)
  | n + 1, .lst ds => ds.all (dle n)
inductive Sl where
  | unb | val (b : Bool) (d : D) | own (b : Bool) (ds : List D) | lent (ds : List D)
  deriving Inhabited
inductive R where
  | val (d : D) | own (ds : List D)
  deriving Inhabited
noncomputable def R.d : R → D
  | .val d => d
  | .own ds => .lst ds
inductive Res (α : Type) where
  | ok (a : α) (ρ : List Sl) | exc (k : Nat) (ρ : List Sl) | stuck
  deriving Inhabited
noncomputable def Res.bind {α β : Type} : Res α → (α → List Sl → Res β) → Res β
  | .ok a ρ, f => f a ρ
  | .exc _ _, _ => .stuck
  | .stuck, _ => .stuck
noncomputable def lift {α : Type} (o : Option α) (ρ : List Sl) : Res α := match o with
  | some a => .ok a ρ
  | none => .stuck
inductive Op where | add | sub | mul | fdiv | mod | pow | shl | shr | band
  deriving DecidableEq
inductive Cm where | eq | ne | lt | le | gt | ge | isN | notN | inn | notin | isT | notT
  deriving DecidableEq
inductive Ty where | int | bool | str | tuple | list | none
  deriving DecidableEq
inductive Blt where | len | list | tuple | min2 | max2 | minL | maxL | sum | all | any | sorted | abs | int | minN | maxN | listR | rvs | revL
  deriving DecidableEq
inductive P where
  | var (i : Nat)
  | con (d : D)
  | glob (x : Str) (d : D)
  | bin (o : Op) (a b : P)
  | neg (a : P)
  | not (a : P)
  | and (a b : P)
  | or (a b : P)
  | cmp (o : Cm) (a b : P)
  | chain (o o' : Cm) (a b c : P)
  | ife (c a b : P)
  | tup (as : List P)
  | lst (as : List P)
  | idx (a i : P)
  | slice (a lo hi : P)
  | call (f : Nat) (as : List P)
  | blt (b : Blt) (as : List P)
  | inst (ts : List Ty) (a : P)
  | pop (x : Nat)
  | comp (src : P) (n : Nat) (is : List Nat) (one : Bool) (test : Option P) (elt : P)
  | rng (a b : P)
  | enm (a : P)
  | zip (a b : P)
  | rev (a : P)
  | compZ (i : Nat) (b : P) (n : Nat) (is : List Nat) (one : Bool) (test : Option P) (elt : P)
  deriving Inhabited
noncomputable abbrev lim : Nat := 16777216
noncomputable def opAdd : D → D → Option R
  | .int i, .int j => some (.val (.int (i + j)))
  | .lst xs, .lst ys => if xs.length + ys.length ≤ lim then some (.own (xs ++ ys)) else none
  | .tup xs, .tup ys => if xs.length + ys.length ≤ lim then some (.val (.tup (xs ++ ys))) else none
  | .str x, .str y => if x.length + y.length ≤ lim then some (.val (.str (x ++ y))) else none
  | _, _ => none
noncomputable def opMul : D → D → Option R
  | .int i, .int j => if ((-18446744073709551616 < i ∧ i < 18446744073709551616) ∨ (-18446744073709551616 < j ∧ j < 18446744073709551616)) then some (.val (.int (i * j))) else none
  | .lst xs, .int k => if 0 ≤ k ∧ 0 < xs.length ∧ xs.length * k.toNat ≤ lim then some (.own (List.replicate k.toNat xs).flatten) else none
  | .tup xs, .int k => if 0 ≤ k ∧ 0 < xs.length ∧ xs.length * k.toNat ≤ lim then some (.val (.tup (List.replicate k.toNat xs).flatten)) else none
  | _, _ => none
noncomputable def opSub : D → D → Option R
  | .int i, .int j => some (.val (.int (i - j)))
  | _, _ => none
noncomputable def opFdiv : D → D → Option R
  | .int i, .int j => if 0 < j ∧ j < 1606938044258990275541962092341162602522202993782792835301376 then some (.val (.int (i / j))) else none
  | _, _ => none
noncomputable def opMod : D → D → Option R
  | .int i, .int j => if 0 < j then some (.val (.int (i % j))) else none
  | _, _ => none
noncomputable def opPow : D → D → Option R
  | .int i, .int j => if 0 ≤ j ∧ j ≤ 1000 ∧ i.natAbs < 18446744073709551616 then some (.val (.int (i ^ j.toNat))) else none
  | _, _ => none
noncomputable def opShl : D → D → Option R
  | .int i, .int j => if 0 ≤ j ∧ j ≤ 1000 ∧ i.natAbs < 18446744073709551616 then some (.val (.int (i * 2 ^ j.toNat))) else none
  | _, _ => none
noncomputable def opShr : D → D → Option R
  | .int i, .int j => if 0 ≤ j then some (.val (.int (i / 2 ^ j.toNat))) else none
  | _, _ => none
noncomputable def opBand : D → D → Option R
  | .int i, .int j => some (.val (.int (Builtin.bitAnd i j)))
  | _, _ => none
noncomputable def op2 : Op → D → D → Option R
  | .add => opAdd
  | .mul => opMul
  | .sub => opSub
  | .fdiv => opFdiv
  | .mod => opMod
  | .pow => opPow
  | .shl => opShl
  | .shr => opShr
  | .band => opBand
noncomputable def flat : D → Bool
  | .tup _ => false | .lst _ => false | _ => true
noncomputable def items : D → Option (List D)
  | .lst ds => some ds
  | .tup ds => some ds
  | _ => none
noncomputable def itemsT : D → Option (List D)
  | .tup ds => some ds
  | _ => none
noncomputable def cmEq (x y : D) : Option Bool := if dle 8 x && dle 8 y then some (peq x y) else none
noncomputable def cmNe (x y : D) : Option Bool := if dle 8 x && dle 8 y then some (!peq x y) else none
noncomputable def cmI (f : Int → Int → Bool) : D → D → Option Bool
  | .int i, .int j => some (f i j)
  | _, _ => none
noncomputable def isNon : D → Bool
  | .non => true
  | _ => false
noncomputable def cmN (neg : Bool) (x : D) : D → Option Bool
  | .non => some (if neg then !isNon x else isNon x)
  | _ => none
noncomputable def cmIn (neg : Bool) (x y : D) : Option Bool := (items y).bind fun ys => if (flat x && ys.all flat) = true then some (if neg then !(ys.any fun y => peq y x) else ys.any fun y => peq y x) else none
noncomputable def cmT (neg : Bool) : D → D → Option Bool
  | .bl b, .bl true => some (if neg then !b else b)
  | _, _ => none
noncomputable def cm : Cm → D → D → Option Bool
  | .eq => cmEq
  | .ne => cmNe
  | .lt => cmI fun i j => decide (i < j)
  | .le => cmI fun i j => decide (i ≤ j)
  | .gt => cmI fun i j => decide (j < i)
  | .ge => cmI fun i j => decide (j ≤ i)
  | .isN => cmN false
  | .notN => cmN true
  | .inn => cmIn false
  | .notin => cmIn true
  | .isT => cmT false
  | .notT => cmT true
noncomputable def cmR (o : Cm) (x y : D) : Option R := (cm o x y).map fun k => .val (.bl k)
noncomputable def ixN (n : Nat) (i : Int) : Option Nat := if 0 ≤ i then (if i < n then some i.toNat else none) else if -(n : Int) ≤ i then some (i + n).toNat else none
noncomputable def at' {α : Type} (xs : List α) (i : Int) : Option α := (ixN xs.length i).bind fun j => xs[j]?
noncomputable def sIx (n d : Nat) : Option Int → Nat
  | none => d
  | some i => if 0 ≤ i then min i.toNat n else (i + n).toNat
noncomputable def cut {α : Type} (xs : List α) (lo hi : Option Int) : List α := (xs.drop (sIx xs.length 0 lo)).take (sIx xs.length xs.length hi - sIx xs.length 0 lo)
noncomputable def optI : D → Option (Option Int)
  | .non => some none
  | .int i => some (some i)
  | _ => none
noncomputable def asI : D → Option Int
  | .int i => some i
  | _ => none
noncomputable def asB : D → Option Bool
  | .bl b => some b
  | _ => none
noncomputable def ixR (x y : D) : Option R := (items x).bind fun ds => (asI y).bind fun i => (at' ds i).map .val
noncomputable def negR (x : D) : Option R := (asI x).map fun i => .val (.int (-i))
noncomputable def isNC : P → Bool
  | .con .non => true
  | _ => false
noncomputable def part (p : P) (d : D) : Option (Option Int) := if isNC p then some none else (asI d).map some
noncomputable def sl3 : D → Option (Option Int) → Option (Option Int) → Option R
  | .lst xs, some lo, some hi => some (.own (cut xs lo hi))
  | .tup xs, some lo, some hi => some (.val (.tup (cut xs lo hi)))
  | _, _, _ => none
noncomputable def isTy : Ty → D → Bool
  | .int, .int _ => true | .int, .bl _ => true | .bool, .bl _ => true | .str, .str _ => true | .tuple, .tup _ => true | .list, .lst _ => true | .none, .non => true
  | _, _ => false
noncomputable def dlt : D → D → Bool
  | .int i, .int j => decide (i < j)
  | .tup xs, .tup ys => lex xs ys
  | _, _ => false
where
  lex : List D → List D → Bool
  | [], _ :: _ => true
  | .int i :: xs, .int j :: ys => decide (i < j) || (i == j && lex xs ys)
  | _, _ => false
noncomputable def ordb : D → Bool
  | .int _ => true
  | _ => false
noncomputable def sortable (ds : List D) : Bool := ds.all ordb || ds.all fun d => match d with | .tup xs => xs.all ordb | _ => false
noncomputable def srt (ds : List D) : List D := ds.mergeSort fun a b => !dlt b a
noncomputable def itemsL : D → Option (List D)
  | .lst ds => some ds
  | _ => none
noncomputable def blt : Blt → List D → Option R
  | .len, [x] => (items x).map fun ds => .val (.int ds.length)
  | .list, [x] => (items x).map fun ds => .own ds
  | .tuple, [x] => (items x).map fun ds => .val (.tup ds)
  | .min2, [.int i, .int j] => some (.val (.int (if j < i then j else i)))
  | .max2, [.int i, .int j] => some (.val (.int (if i < j then j else i)))
  | .minL, [x] => ((items x).bind fun ds => ds.mapM asI).bind fun ns => ns.min?.map fun i => .val (.int i)
  | .maxL, [x] => ((items x).bind fun ds => ds.mapM asI).bind fun ns => ns.max?.map fun i => .val (.int i)
  | .sum, [x] => ((items x).bind fun ds => ds.mapM asI).map fun ns => .val (.int ns.sum)
  | .minN, [x] => ((items x).bind fun ds => ds.mapM asI).map fun ns => .val (match ns.min? with | some i => .int i | none => .non)
  | .maxN, [x] => ((items x).bind fun ds => ds.mapM asI).map fun ns => .val (match ns.max? with | some i => .int i | none => .non)
  | .all, [x] => ((itemsL x).bind fun ds => ds.mapM asB).map fun bs => .val (.bl (bs.all id))
  | .any, [x] => ((itemsL x).bind fun ds => ds.mapM asB).map fun bs => .val (.bl (bs.any id))
  | .sorted, [x] => (items x).bind fun ds => if sortable ds then some (.own (srt ds)) else none
  | .abs, [.int i] => some (.val (.int (if i < 0 then -i else i)))
  | .int, [.int i] => some (.val (.int i))
  | .int, [.bl b] => some (.val (.int (if b then 1 else 0)))
  | .listR, [.lst ds] => if ds.length ≤ 16777216 then some (.own ds) else none
  | .rvs, [.tup ds] => some (.val (.tup ds.reverse))
  | .revL, [.lst ds] => some (.own ds.reverse)
  | _, _ => none
noncomputable def pk (ρ : List Sl) (i : Nat) : Option D := match ρ[i]? with
  | some (.val _ d) => some d
  | some (.own _ ds) => some (.lst ds)
  | some (.lent ds) => some (.lst ds)
  | _ => none
noncomputable def pkL (ρ : List Sl) (i : Nat) : Option (List D) := match pk ρ i with
  | some (.lst ds) => some ds
  | _ => none
noncomputable abbrev Ev := List Sl → Res R
noncomputable def isVar : P → Option Nat
  | .var i => some i
  | _ => none
noncomputable def opd (i : Option Nat) (e : Ev) (ρ : List Sl) : Res D := match i with
  | some i => lift (pk ρ i) ρ
  | none => (e ρ).bind fun r ρ => .ok r.d ρ
noncomputable def opd2 (i : Option Nat) (e : Ev) (j : Option Nat) (f : Ev) (ρ : List Sl) : Res (D × D) := match i with
  | some i => (lift (pk ρ i) ρ).bind fun _ ρ => (opd j f ρ).bind fun y ρ => (lift (pk ρ i) ρ).bind fun x ρ => .ok (x, y) ρ
  | none => (opd none e ρ).bind fun x ρ => (opd j f ρ).bind fun y ρ => .ok (x, y) ρ
noncomputable def tru (e : Ev) (ρ : List Sl) : Res Bool := (e ρ).bind fun r ρ => lift (asB r.d) ρ
inductive Arg where
  | dat (d : D) | tmp (ds : List D) | nam (i : Nat)
noncomputable def argOf : R → Arg
  | .val d => .dat d
  | .own ds => .tmp ds
noncomputable def bindA (ρ : List Sl) : List Arg → List Nat → Option (List Sl)
  | [], _ => some []
  | .dat d :: r, used => (bindA ρ r used).map fun s => .val false d :: s
  | .tmp ds :: r, used => (bindA ρ r used).map fun s => .own false ds :: s
  | .nam i :: r, used => match ρ[i]? with
    | some (.val _ d) => (bindA ρ r used).map fun s => .val false d :: s
    | some (.own _ ds) => if used.contains i then none else (bindA ρ r (i :: used)).map fun s => .own true ds :: s
    | some (.lent ds) => if used.contains i then none else (bindA ρ r (i :: used)).map fun s => .lent ds :: s
    | _ => none
noncomputable def lookA (i : Nat) : List Arg → List Sl → Option Sl
  | .nam k :: as, s :: ss => if k = i then some s else lookA i as ss
  | .dat _ :: as, _ :: ss => lookA i as ss
  | .tmp _ :: as, _ :: ss => lookA i as ss
  | _, _ => none
noncomputable def backS : Sl → Option Sl → Sl
  | .own b _, some (.own _ ds) => .own b ds
  | .own b _, some (.val _ d) => .val b d
  | s, _ => s
noncomputable def backA (as : List Arg) (ss : List Sl) : Nat → List Sl → List Sl
  | _, [] => []
  | i, s :: ρ => backS s (lookA i as ss) :: backA as ss (i + 1) ρ
noncomputable abbrev Call := Nat → List Sl → Res R
noncomputable def doCall (c : Call) (f : Nat) (as : List Arg) (ρ : List Sl) : Res R := match bindA ρ as [] with
  | none => .stuck
  | some args => match c f args with
    | .ok r args' => .ok r (backA as args' 0 ρ)
    | .exc _ _ => .stuck
    | .stuck => .stuck
noncomputable def put (ρ : List Sl) (i : Nat) (s : Sl) : Option (List Sl) := match ρ[i]? with
  | some .unb => some (ρ.set i s)
  | some (.val false _) => some (ρ.set i s)
  | some (.own false _) => some (ρ.set i s)
  | _ => none
noncomputable def putAll (ρ : List Sl) : List Nat → List D → Option (List Sl)
  | [], [] => some ρ
  | i :: is, d :: ds => (put ρ i (.val false d)).bind fun ρ => putAll ρ is ds
  | _, _ => none
noncomputable def bindF (ρ : List Sl) (is : List Nat) (one : Bool) (d : D) : Option (List Sl) := match one, is, d with
  | true, [i], d => put ρ i (.val false d)
  | false, is, .tup ds => putAll ρ is ds
  | _, _, _ => none
noncomputable def srcOf (i : Option Nat) (e : Ev) (ρ : List Sl) : Res (List D) := match i with
  | some i => match ρ[i]? with
    | some (.val _ d) => lift (items d) ρ
    | some (.own _ ds) => .ok ds (ρ.set i (.lent ds))
    | some (.lent ds) => .ok ds ρ
    | _ => .stuck
  | none => (e ρ).bind fun r ρ => lift (items r.d) ρ
noncomputable def unlend (ρ₀ : List Sl) (i : Option Nat) (ρ : List Sl) : List Sl := match i with
  | some i => match ρ₀[i]? with
    | some (.own b ds) => ρ.set i (.own b ds)
    | _ => ρ
  | none => ρ
noncomputable def srcZ (i : Nat) (f : Ev) (ρ : List Sl) : Res (List D × List Sl) := (lift (pk ρ i) ρ).bind fun _ ρ => (f ρ).bind fun r ρb => (lift (items r.d) ρb).bind fun es ρb => match ρb[i]? with
  | some (.val _ d) => (lift (items d) ρb).bind fun ds ρb => .ok ((ds.zip es).map fun p => D.tup [p.1, p.2], ρb) ρb
  | some (.own _ ds) => .ok ((ds.zip es).map fun p => D.tup [p.1, p.2], ρb) (ρb.set i (.lent ds))
  | some (.lent ds) => .ok ((ds.zip es).map fun p => D.tup [p.1, p.2], ρb) ρb
  | _ => .stuck
noncomputable def turns (is : List Nat) (one : Bool) (test : List Sl → Res Bool) (elt : Ev) : List D → List D → List Sl → Res (List D)
  | [], acc, ρ => .ok acc ρ
  | d :: r, acc, ρ => match bindF ρ is one d with
    | none => .stuck
    | some ρ => (test ρ).bind fun b ρ => if b then (elt ρ).bind fun x ρ => turns is one test elt r (acc ++ [x.d]) ρ else turns is one test elt r acc ρ
mutual
noncomputable def ev (c : Call) : P → List Sl → Res R
  | .var i, ρ => match ρ[i]? with
    | some (.val _ d) => .ok (.val d) ρ
    | some (.own b ds) => .ok (.val (.lst ds)) (ρ.set i (.val b (.lst ds)))
    | _ => .stuck
  | .con d, ρ => .ok (.val d) ρ
  | .glob _ d, ρ => .ok (.val d) ρ
  | .bin o a b, ρ => (opd2 (isVar a) (ev c a) (isVar b) (ev c b) ρ).bind fun xy ρ => lift (op2 o xy.1 xy.2) ρ
  | .neg a, ρ => (opd (isVar a) (ev c a) ρ).bind fun x ρ => lift (negR x) ρ
  | .not a, ρ => (tru (ev c a) ρ).bind fun b ρ => .ok (.val (.bl (!b))) ρ
  | .and a b, ρ => (tru (ev c a) ρ).bind fun x ρ => if x then (tru (ev c b) ρ).bind fun y ρ => .ok (.val (.bl y)) ρ else .ok (.val (.bl false)) ρ
  | .or a b, ρ => (tru (ev c a) ρ).bind fun x ρ => if x then .ok (.val (.bl true)) ρ else (tru (ev c b) ρ).bind fun y ρ => .ok (.val (.bl y)) ρ
  | .cmp o a b, ρ => (opd2 (isVar a) (ev c a) (isVar b) (ev c b) ρ).bind fun xy ρ => lift (cmR o xy.1 xy.2) ρ
  | .chain o o' a b d, ρ => (opd2 (isVar a) (ev c a) (isVar b) (ev c b) ρ).bind fun xy ρ => (lift (if flat xy.2 = true then cm o xy.1 xy.2 else none) ρ).bind fun k ρ =>
      if k then (opd (isVar d) (ev c d) ρ).bind fun z ρ => lift (cmR o' xy.2 z) ρ else .ok (.val (.bl false)) ρ
  | .ife t a b, ρ => (tru (ev c t) ρ).bind fun k ρ => if k then (ev c a ρ).bind fun r ρ => .ok (.val r.d) ρ else (ev c b ρ).bind fun r ρ => .ok (.val r.d) ρ
  | .tup as, ρ => (evs c as ρ).bind fun ds ρ => .ok (.val (.tup ds)) ρ
  | .lst as, ρ => (evs c as ρ).bind fun ds ρ => .ok (.own ds) ρ
  | .idx a i, ρ => (opd2 (isVar a) (ev c a) (isVar i) (ev c i) ρ).bind fun xy ρ => lift (ixR xy.1 xy.2) ρ
  | .slice a l h, ρ => match isVar a with
    | some i => (lift (pk ρ i) ρ).bind fun _ ρ => (opd (isVar l) (ev c l) ρ).bind fun y ρ => (opd (isVar h) (ev c h) ρ).bind fun z ρ => (lift (pk ρ i) ρ).bind fun x ρ => lift (sl3 x (part l y) (part h z)) ρ
    | none => (opd none (ev c a) ρ).bind fun x ρ => (opd (isVar l) (ev c l) ρ).bind fun y ρ => (opd (isVar h) (ev c h) ρ).bind fun z ρ => lift (sl3 x (part l y) (part h z)) ρ
  | .call f as, ρ => (evA c as ρ).bind fun xs ρ => doCall c f xs ρ
  | .blt b [a], ρ => (opd (isVar a) (ev c a) ρ).bind fun x ρ => lift (blt b [x]) ρ
  | .blt b as, ρ => (evs c as ρ).bind fun ds ρ => lift (blt b ds) ρ
  | .inst ts a, ρ => (opd (isVar a) (ev c a) ρ).bind fun x ρ => .ok (.val (.bl (ts.any fun t => isTy t x))) ρ
  | .pop x, ρ => match ρ[x]? with
    | some (.own b ds) => lift (ds.getLast?.map .val) (ρ.set x (.own b ds.dropLast))
    | _ => .stuck
  | .comp src n is one test elt, ρ => (srcOf (isVar src) (ev c src) ρ).bind fun ds ρ₁ =>
      if ds.length ≤ lim then (turns is one (evT c test) (ev c elt) ds [] (ρ₁ ++ List.replicate n .unb)).bind fun xs ρ₂ => .ok (.own xs) (unlend ρ (isVar src) (ρ₂.take ρ₁.length)) else .stuck
  | .rng a b, ρ => (opd2 (isVar a) (ev c a) (isVar b) (ev c b) ρ).bind fun xy ρ => lift ((asI xy.1).bind fun i => (asI xy.2).bind fun j =>
      if -1000000 ≤ i ∧ i ≤ 1000000000 ∧ j ≤ 1000000000 ∧ -1000000000 ≤ j then some (.val (.lst ((List.range (j - i).toNat).map fun (k : Nat) => D.int (i + (k : Int))))) else none) ρ
  | .enm a, ρ => (ev c a ρ).bind fun r ρ => lift ((items r.d).map fun ds => .val (.lst (ds.mapIdx fun i d => D.tup [.int (i : Int), d]))) ρ
  | .zip a b, ρ => (ev c a ρ).bind fun x ρ => (ev c b ρ).bind fun y ρ => lift ((items x.d).bind fun ds => (items y.d).map fun es => .val (.lst ((ds.zip es).map fun p => D.tup [p.1, p.2]))) ρ
  | .rev a, ρ => (ev c a ρ).bind fun r ρ => lift ((itemsT r.d).map fun ds => .val (.lst ds.reverse)) ρ
  | .compZ i b n is one test elt, ρ => (srcZ i (ev c b) ρ).bind fun du ρ₁ =>
      if du.1.length ≤ lim then (turns is one (evT c test) (ev c elt) du.1 [] (ρ₁ ++ List.replicate n .unb)).bind fun xs ρ₂ => .ok (.own xs) (unlend du.2 (some i) (ρ₂.take ρ₁.length)) else .stuck
noncomputable def evs (c : Call) : List P → List Sl → Res (List D)
  | [], ρ => .ok [] ρ
  | a :: r, ρ => (ev c a ρ).bind fun x ρ => (evs c r ρ).bind fun xs ρ => .ok (x.d :: xs) ρ
noncomputable def evA (c : Call) : List P → List Sl → Res (List Arg)
  | [], ρ => .ok [] ρ
  | a :: r, ρ => match isVar a with
    | some i => (lift (pk ρ i) ρ).bind fun _ ρ => (evA c r ρ).bind fun xs ρ => .ok (.nam i :: xs) ρ
    | none => (ev c a ρ).bind fun x ρ => (evA c r ρ).bind fun xs ρ => .ok (argOf x :: xs) ρ
noncomputable def evT (c : Call) : Option P → List Sl → Res Bool
  | none, ρ => .ok true ρ
  | some t, ρ => tru (ev c t) ρ
end
inductive S where
  | pass | brk | cont | bad
  | expr (e : P)
  | asg (i : Nat) (e : P)
  | par (i j : Nat) (a b : P)
  | unp (i : List Nat) (e : P)
  | seti (x : Nat) (i e : P)
  | app (x : Nat) (e : P)
  | ext (x : Nat) (e : P)
  | ret (e : P) | retN
  | ifs (c : P) (a b : List S)
  | forr (src : P) (i : List Nat) (one : Bool) (body : List S)
  | whl (c : P) (body : List S)
  | popi (x : Nat) (i : P)
  | swp (x : Nat) (i : P) (y : Nat) (j : P) (a b : P)
  | aug (x : Nat) (sub : Bool) (e : P)
  | augi (x : Nat) (i : P) (sub : Bool) (e : P)
  | extO (x : Nat) (e : P)
  | rais (k : Nat)
  | tryR (body : List S) (k : Nat) (d : D)
  | tryE (body : List S) (x : Nat) (hs : List (List S))
  deriving Inhabited
inductive Fl where
  | next | brk | cont | ret (r : R)
  deriving Inhabited
noncomputable def slOf : R → Sl
  | .val d => .val false d
  | .own ds => .own false ds
noncomputable def forT (is : List Nat) (one : Bool) (body : List Sl → Res Fl) : List D → List Sl → Res Fl
  | [], ρ => .ok .next ρ
  | d :: r, ρ => match bindF ρ is one d with
    | none => .stuck
    | some ρ => (body ρ).bind fun fl ρ => match fl with
      | .next => forT is one body r ρ
      | .cont => forT is one body r ρ
      | .brk => .ok .next ρ
      | .ret r => .ok (.ret r) ρ
noncomputable def whlT (test : List Sl → Res Bool) (body : List Sl → Res Fl) : Nat → List Sl → Res Fl
  | 0, _ => .stuck
  | n + 1, ρ => (test ρ).bind fun b ρ => if b then (body ρ).bind fun fl ρ => match fl with
      | .next => whlT test body n ρ
      | .cont => whlT test body n ρ
      | .brk => .ok .next ρ
      | .ret r => .ok (.ret r) ρ
    else .ok .next ρ
noncomputable def forX (is : List Nat) (one : Bool) (body : List Sl → Res Fl) (bx : List Sl → Option (Nat × List Sl)) : List D → List Sl → Option (Nat × List Sl)
  | [], _ => none
  | d :: r, ρ => match bindF ρ is one d with
    | none => none
    | some ρ => match bx ρ with
      | some x => some x
      | none => match body ρ with
        | .ok .next ρ1 => forX is one body bx r ρ1
        | .ok .cont ρ1 => forX is one body bx r ρ1
        | _ => none
noncomputable def callOf : P → P
  | .idx a _ => a
  | e => e
noncomputable def unl : Sl → Bool
  | .unb => true
  | .val b _ => !b
  | .own b _ => !b
  | .lent _ => false
noncomputable def callX (c : Call) (e : P) (ρ : List Sl) : Option (Nat × List Sl) := match callOf e with
  | .call f as => match evA c as ρ with
    | .ok xs ρ1 => match bindA ρ1 xs [] with
      | some args => match c f args with
        | .exc k args' => some (k, backA xs args' 0 ρ1)
        | _ => none
      | none => none
    | _ => none
  | _ => none
mutual
noncomputable def ex (c : Call) (n : Nat) : S → List Sl → Res Fl
  | .pass, ρ => .ok .next ρ
  | .brk, ρ => .ok .brk ρ
  | .cont, ρ => .ok .cont ρ
  | .bad, _ => .stuck
  | .expr e, ρ => (ev c e ρ).bind fun _ ρ => .ok .next ρ
  | .asg i e, ρ => (ev c e ρ).bind fun r ρ => (lift (put ρ i (slOf r)) ρ).bind fun ρ' _ => .ok .next ρ'
  | .par i j a b, ρ => (ev c a ρ).bind fun x ρ => (ev c b ρ).bind fun y ρ => (lift ((put ρ i (.val false x.d)).bind fun ρ => put ρ j (.val false y.d)) ρ).bind fun ρ' _ => .ok .next ρ'
  | .unp is e, ρ => (ev c e ρ).bind fun r ρ => match r.d with
    | .tup ds => (lift (putAll ρ is ds) ρ).bind fun ρ' _ => .ok .next ρ'
    | _ => .stuck
  | .seti x i e, ρ => (ev c e ρ).bind fun r ρ => (lift (pk ρ x) ρ).bind fun _ ρ => (opd (isVar i) (ev c i) ρ).bind fun k ρ => match ρ[x]?, k with
    | some (.own b ds), .int k => match ixN ds.length k with
      | some j => .ok .next (ρ.set x (.own b (ds.set j r.d)))
      | none => .stuck
    | _, _ => .stuck
  | .app x e, ρ => (lift (pkL ρ x) ρ).bind fun _ ρ => (ev c e ρ).bind fun r ρ => match ρ[x]? with
    | some (.own b ds) => if ds.length < lim then .ok .next (ρ.set x (.own b (ds ++ [r.d]))) else .stuck
    | _ => .stuck
  | .ext x e, ρ => (lift (pkL ρ x) ρ).bind fun _ ρ => (ev c e ρ).bind fun r ρ => match ρ[x]?, r.d with
    | some (.own b ds), .lst es => if ds.length + es.length ≤ lim then .ok .next (ρ.set x (.own b (ds ++ es))) else .stuck
    | _, _ => .stuck
  | .ret e, ρ => match isVar e with
    | some i => match ρ[i]? with
      | some (.own false ds) => .ok (.ret (.own ds)) (ρ.set i .unb)
      | _ => (ev c e ρ).bind fun r ρ => .ok (.ret r) ρ
    | none => (ev c e ρ).bind fun r ρ => .ok (.ret r) ρ
  | .retN, ρ => .ok (.ret (.val .non)) ρ
  | .ifs t a b, ρ => (tru (ev c t) ρ).bind fun k ρ => if k then exs c n a ρ else exs c n b ρ
  | .forr src is one body, ρ => (srcOf (isVar src) (ev c src) ρ).bind fun ds ρ₁ => (forT is one (exs c n body) ds ρ₁).bind fun fl ρ₂ => .ok fl (unlend ρ (isVar src) ρ₂)
  | .whl t body, ρ => whlT (tru (ev c t)) (exs c n body) n ρ
  | .popi x i, ρ => (lift (pkL ρ x) ρ).bind fun _ ρ => (opd (isVar i) (ev c i) ρ).bind fun k ρ => match ρ[x]?, k with
    | some (.own b ds), .int k => match ixN ds.length k with
      | some j => if ds.length ≤ lim then .ok .next (ρ.set x (.own b (ds.eraseIdx j))) else .stuck
      | none => .stuck
    | _, _ => .stuck
  | .swp x i y j a b, ρ => (ev c a ρ).bind fun u ρ => (ev c b ρ).bind fun v ρ => (lift (pk ρ x) ρ).bind fun _ ρ => (opd (isVar i) (ev c i) ρ).bind fun k ρ => match ρ[x]?, k with
    | some (.own b ds), .int k => match ixN ds.length k with
      | some m => (lift (pk (ρ.set x (.own b (ds.set m u.d))) y) (ρ.set x (.own b (ds.set m u.d)))).bind fun _ ρ => (opd (isVar j) (ev c j) ρ).bind fun k ρ => match ρ[y]?, k with
        | some (.own b ds), .int k => match ixN ds.length k with
          | some m => .ok .next (ρ.set y (.own b (ds.set m v.d)))
          | none => .stuck
        | _, _ => .stuck
      | none => .stuck
    | _, _ => .stuck
  | .aug x sub e, ρ => (lift (pk ρ x) ρ).bind fun a ρ => (opd (isVar e) (ev c e) ρ).bind fun b ρ => match a, b with
    | .int i, .int j => (lift (put ρ x (.val false (.int (if sub then i - j else i + j)))) ρ).bind fun ρ' _ => .ok .next ρ'
    | _, _ => .stuck
  | .augi x i sub e, ρ => (lift (pk ρ x) ρ).bind fun _ ρ => (opd (isVar i) (ev c i) ρ).bind fun k ρ => (lift (pk ρ x) ρ).bind fun l ρ => (lift (ixR l k) ρ).bind fun a ρ => (opd (isVar e) (ev c e) ρ).bind fun b ρ => match a, b, ρ[x]?, k with
    | .val (.int u), .int v, some (.own bb ds), .int k => match ixN ds.length k with
      | some j => .ok .next (ρ.set x (.own bb (ds.set j (.int (if sub then u - v else u + v)))))
      | none => .stuck
    | _, _, _, _ => .stuck
  | .extO x e, ρ => (lift (pkL ρ x) ρ).bind fun _ ρ => (ev c e ρ).bind fun r ρ => match ρ[x]?, r with
    | some (.own b ds), .own es => if ds.length + es.length ≤ lim then .ok .next (ρ.set x (.own b (ds ++ es))) else .stuck
    | _, _ => .stuck
  | .rais _, _ => .stuck
  | .tryR body k d, ρ => match exs c n body ρ with
    | .ok fl ρ' => .ok fl ρ'
    | _ => match exsX c n body ρ with
      | some (k', ρ') => if k' = k then .ok (.ret (.val d)) ρ' else .stuck
      | none => .stuck
  | .tryE body x hs, ρ => match exs c n body ρ with
    | .ok fl ρ' => .ok fl ρ'
    | _ => match exsX c n body ρ with
      | some (k, _) => if ρ.all unl = true then match exh c n hs k (List.replicate ρ.length .unb) with
          | .ok .next ρ2 => match ρ2[x]? with
            | some .unb => .ok .next ρ2
            | _ => .stuck
          | _ => .stuck
        else .stuck
      | none => .stuck
noncomputable def exh (c : Call) (n : Nat) : List (List S) → Nat → List Sl → Res Fl
  | [], _, _ => .stuck
  | a :: _, 0, ρ => exs c n a ρ
  | _ :: r, k + 1, ρ => exh c n r k ρ
noncomputable def exs (c : Call) (n : Nat) : List S → List Sl → Res Fl
  | [], ρ => .ok .next ρ
  | s :: r, ρ => (ex c n s ρ).bind fun fl ρ => match fl with
    | .next => exs c n r ρ
    | fl => .ok fl ρ
noncomputable def exX (c : Call) (n : Nat) : S → List Sl → Option (Nat × List Sl)
  | .rais k, ρ => some (k, ρ)
  | .ifs t a b, ρ => match tru (ev c t) ρ with
    | .ok x ρ1 => if x then exsX c n a ρ1 else exsX c n b ρ1
    | _ => none
  | .forr src is one body, ρ => match srcOf (isVar src) (ev c src) ρ with
    | .ok ds ρ1 => (forX is one (exs c n body) (exsX c n body) ds ρ1).map fun x => (x.1, unlend ρ (isVar src) x.2)
    | _ => none
  | .asg _ e, ρ => callX c e ρ
  | .expr e, ρ => callX c e ρ
  | _, _ => none
noncomputable def exsX (c : Call) (n : Nat) : List S → List Sl → Option (Nat × List Sl)
  | [], _ => none
  | s :: r, ρ => match exX c n s ρ with
    | some x => some x
    | none => match ex c n s ρ with
      | .ok .next ρ1 => exsX c n r ρ1
      | _ => none
end
structure Fd where
  np : Nat
  nn : Nat
  body : List S
  deriving Inhabited
noncomputable abbrev Tab := Nat → Option Fd
noncomputable def enter (c : Call) (n : Nat) (d : Fd) (args : List Sl) : Res R :=
  if args.length = d.np ∧ d.np ≤ d.nn then match exs c n d.body (args ++ List.replicate (d.nn - d.np) .unb) with
    | .ok .next ρ => .ok (.val .non) (ρ.take d.np)
    | .ok (.ret r) ρ => .ok r (ρ.take d.np)
    | _ => match exsX c n d.body (args ++ List.replicate (d.nn - d.np) .unb) with
      | some (k, ρ) => .exc k (ρ.take d.np)
      | none => .stuck
  else .stuck
noncomputable def run (Γ : Tab) (w : Nat) : Nat → Call
  | 0, _, _ => .stuck
  | n + 1, f, args => match Γ f with
    | some d => enter (run Γ w n) w d args
    | none => .stuck
end HH
end
section
set_option linter.all false
set_option Elab.async false
namespace HH
open PySem L2
section
variable (K : PySem.W.Frag)
mutual
noncomputable def Rep (F : Hp) : V → D → Prop
  | v, .non => v = .non
  | v, .bl b => v = .bl b
  | v, .int i => v = .int i
  | v, .str x => v = .str x
  | v, .tup ds => ∃ a xs, v = .ref a ∧ SqT K F a xs ∧ Reps F xs ds
  | v, .lst ds => ∃ a xs, v = .ref a ∧ SqL K F a xs ∧ Reps F xs ds
noncomputable def Reps (F : Hp) : List V → List D → Prop
  | vs, [] => vs = []
  | vs, d :: ds => ∃ v r, vs = v :: r ∧ Rep F v d ∧ Reps F r ds
end
end
section
variable {K : PySem.W.Frag} {F F' H H' : Hp}
theorem Same.seqT {a : Addr} {xs : List V} (e : Same H H') (h : SqT K H a xs) : SqT K H' a xs := by
  rcases h with (h | ⟨o, h⟩) | h
  · exact .inl (.inl (e _ _ h))
  · exact .inl (.inr ⟨o, e _ _ h⟩)
  · exact .inr h
mutual
theorem Rep.mono (e : Same F F') : ∀ {d : D} {v : V}, Rep K F v d → Rep K F' v d
  | .non, _, h => by rw [Rep] at h ⊢; exact h
  | .bl _, _, h => by rw [Rep] at h ⊢; exact h
  | .int _, _, h => by rw [Rep] at h ⊢; exact h
  | .str _, _, h => by rw [Rep] at h ⊢; exact h
  | .tup ds, _, h => by
    rw [Rep] at h ⊢
    obtain ⟨a, xs, rfl, hs, r⟩ := h
    exact ⟨a, xs, rfl, Same.seqT e hs, Reps.mono e r⟩
  | .lst ds, _, h => by
    rw [Rep] at h ⊢
    obtain ⟨a, xs, rfl, hs, r⟩ := h
    exact ⟨a, xs, rfl, e.seq hs, Reps.mono e r⟩
theorem Reps.mono (e : Same F F') : ∀ {ds : List D} {vs : List V}, Reps K F vs ds → Reps K F' vs ds
  | [], _, h => by rw [Reps] at h ⊢; exact h
  | d :: ds, _, h => by
    rw [Reps] at h ⊢
    obtain ⟨v, r, rfl, h1, h2⟩ := h
    exact ⟨v, r, rfl, Rep.mono e h1, Reps.mono e h2⟩
end
theorem Reps.nil : Reps K F [] [] := by rw [Reps]
theorem Reps.cons {v : V} {d : D} {vs : List V} {ds : List D} (h : Rep K F v d) (t : Reps K F vs ds) : Reps K F (v :: vs) (d :: ds) := by
  rw [Reps]; exact ⟨v, vs, rfl, h, t⟩
theorem Reps.uncons {vs : List V} {d : D} {ds : List D} (h : Reps K F vs (d :: ds)) : ∃ v r, vs = v :: r ∧ Rep K F v d ∧ Reps K F r ds := by rw [Reps] at h; exact h
theorem Reps.unnil {vs : List V} (h : Reps K F vs []) : vs = [] := by rw [Reps] at h; exact h
theorem Reps.length : ∀ {ds : List D} {vs : List V}, Reps K F vs ds → vs.length = ds.length
  | [], _, h => by rw [h.unnil]; rfl
  | d :: ds, _, h => by
    obtain ⟨v, r, rfl, _, t⟩ := h.uncons
    simp [Reps.length t]
theorem Reps.get : ∀ {ds : List D} {vs : List V} {i : Nat} {d : D}, Reps K F vs ds → ds[i]? = some d → ∃ v, vs[i]? = some v ∧ Rep K F v d
  | [], _, _, _, h, e => by simp at e
  | d :: ds, _, 0, _, h, e => by
    obtain ⟨v, r, rfl, h1, t⟩ := h.uncons
    simp at e; subst e
    exact ⟨v, rfl, h1⟩
  | d :: ds, _, i + 1, _, h, e => by
    obtain ⟨v, r, rfl, _, t⟩ := h.uncons
    simp at e
    obtain ⟨w, e1, e2⟩ := t.get e
    exact ⟨w, by simpa using e1, e2⟩
theorem Reps.append : ∀ {ds es : List D} {vs us : List V}, Reps K F vs ds → Reps K F us es → Reps K F (vs ++ us) (ds ++ es)
  | [], _, _, _, h, h' => by rw [h.unnil]; exact h'
  | d :: ds, _, _, _, h, h' => by
    obtain ⟨v, r, rfl, h1, t⟩ := h.uncons
    exact .cons h1 (t.append h')
theorem Reps.set {v : V} {d : D} (hr : Rep K F v d) : ∀ {ds : List D} {vs : List V} (i : Nat), Reps K F vs ds → Reps K F (vs.set i v) (ds.set i d)
  | [], _, _, h => by rw [h.unnil]; exact .nil
  | _ :: _, _, 0, h => by
    obtain ⟨w, r, rfl, h1, t⟩ := h.uncons
    exact .cons hr t
  | _ :: _, _, i + 1, h => by
    obtain ⟨w, r, rfl, h1, t⟩ := h.uncons
    exact .cons h1 (Reps.set hr i t)
theorem Reps.take : ∀ {ds : List D} {vs : List V} (n : Nat), Reps K F vs ds → Reps K F (vs.take n) (ds.take n)
  | [], _, n, h => by rw [h.unnil]; simpa using Reps.nil
  | _ :: _, _, 0, h => .nil
  | _ :: _, _, n + 1, h => by
    obtain ⟨w, r, rfl, h1, t⟩ := h.uncons
    exact .cons h1 (t.take n)
theorem Reps.drop : ∀ {ds : List D} {vs : List V} (n : Nat), Reps K F vs ds → Reps K F (vs.drop n) (ds.drop n)
  | [], _, n, h => by rw [h.unnil]; simpa using Reps.nil
  | _ :: _, _, 0, h => h
  | _ :: _, _, n + 1, h => by
    obtain ⟨w, r, rfl, h1, t⟩ := h.uncons
    exact t.drop n
theorem Reps.rep {ds : List D} {vs : List V} (h : Reps K F vs ds) : ∀ n, Reps K F (List.replicate n vs).flatten (List.replicate n ds).flatten
  | 0 => by simpa using Reps.nil
  | n + 1 => by simpa [List.replicate_succ] using h.append (Reps.rep h n)
noncomputable def lst? : Sl → Option (List D)
  | .own _ ds => some ds
  | .lent ds => some ds
  | _ => none
noncomputable def OwnAt (ρ : List Sl) (σ : St) (i : Nat) (a : Addr) : Prop := (∃ s ds, ρ[i]? = some s ∧ lst? s = some ds) ∧ σ[i]? = some (some (V.ref a))
noncomputable def Own (ρ : List Sl) (σ : St) (a : Addr) : Prop := ∃ i, OwnAt ρ σ i a
structure GS (K : PySem.W.Frag) (F : Hp) (ρ : List Sl) (σ : St) (H : Hp) : Prop where
  sub : Same F H
  len : ρ.length = σ.length
  val : ∀ (i : Nat) (b : Bool) (d : D), ρ[i]? = some (Sl.val b d) → ∃ v : V, σ[i]? = some (some v) ∧ Rep K F v d
  own : ∀ (i : Nat) (s : Sl) (ds : List D), ρ[i]? = some s → lst? s = some ds → ∃ (a : Addr) (xs : List V), σ[i]? = some (some (V.ref a)) ∧ H a = some (.lst xs) ∧ F a = none ∧ Reps K F xs ds
  dis : ∀ (i j : Nat) (a : Addr), OwnAt ρ σ i a → OwnAt ρ σ j a → i = j
noncomputable def lkd : Sl → Bool
  | .val b _ => b
  | .own b _ => b
  | .lent _ => true
  | .unb => false
noncomputable def lkOk : Sl → Sl → Prop
  | .val true d, s => s = .val true d
  | .own true _, s => (∃ ds, s = .own true ds) ∨ ∃ d, s = .val true d
  | .lent ds, s => s = .lent ds
  | _, _ => True
theorem lkOk.refl (s : Sl) : lkOk s s := by
  unfold lkOk; split <;> first | rfl | exact .inl ⟨_, rfl⟩ | trivial
theorem lkOk.lkd {s s' : Sl} (h : lkOk s s') (l : lkd s = true) : HH.lkd s' = true := by
  cases s with
  | unb => cases l
  | val b d => cases b with
    | true => cases h; rfl
    | false => cases l
  | own b d => cases b with
    | true => rcases h with ⟨_, rfl⟩ | ⟨_, rfl⟩ <;> rfl
    | false => cases l
  | lent d => cases h; rfl
theorem lkOk.trans {s s' s'' : Sl} (l : HH.lkd s = true) (h : lkOk s s') (h' : lkOk s' s'') : lkOk s s'' := by
  cases s with
  | unb => cases l
  | val b d => cases b with
    | true => cases h; exact h'
    | false => cases l
  | own b d => cases b with
    | true => rcases h with ⟨_, rfl⟩ | ⟨d, rfl⟩
              · exact h'
              · exact .inr ⟨d, h'⟩
    | false => cases l
  | lent d => cases h; exact h'
structure Stp (K : PySem.W.Frag) (F : Hp) (ρ : List Sl) (σ : St) (H : Hp) (F' : Hp) (ρ' : List Sl) (σ' : St) (H' : Hp) : Prop where
  gs : GS K F' ρ' σ' H'
  fsub : Same F F'
  fgr : ∀ b, F b = none → F' b ≠ none → Own ρ σ b ∨ H b = none
  keep : ∀ b o, H b = some o → ¬ Own ρ σ b → H' b = some o
  ogr : ∀ b, Own ρ' σ' b → Own ρ σ b ∨ H b = none
  len : ρ'.length = ρ.length
  lk : ∀ (i : Nat) (s : Sl), ρ[i]? = some s → lkd s = true → σ'[i]? = σ[i]? ∧ ∃ s', ρ'[i]? = some s' ∧ lkOk s s'
theorem Stp.refl {ρ : List Sl} {σ : St} (g : GS K F ρ σ H) : Stp K F ρ σ H F ρ σ H :=
  ⟨g, Same.refl _, fun b h h' => absurd h h', fun _ _ h _ => h, fun _ h => .inl h, rfl, fun i s h _ => ⟨rfl, s, h, .refl s⟩⟩
theorem Stp.trans {F1 F2 H1 H2 : Hp} {ρ ρ1 ρ2 : List Sl} {σ σ1 σ2 : St} (a : Stp K F ρ σ H F1 ρ1 σ1 H1) (b : Stp K F1 ρ1 σ1 H1 F2 ρ2 σ2 H2) : Stp K F ρ σ H F2 ρ2 σ2 H2 := by
  have back : ∀ c, Own ρ1 σ1 c ∨ H1 c = none → Own ρ σ c ∨ H c = none := fun c h => by
    rcases h with h | h
    · exact a.ogr c h
    · by_cases ho : Own ρ σ c
      · exact .inl ho
      · right
        cases e : H c with
        | none => rfl
        | some o => rw [a.keep c o e ho] at h; cases h
  refine ⟨b.gs, a.fsub.trans b.fsub, fun c h h' => ?_, fun c o h n => ?_, fun c h => back c (b.ogr c h), b.len.trans a.len, fun i s h l => ?_⟩
  · by_cases e : F1 c = none
    · exact back c (b.fgr c e h')
    · exact a.fgr c h e
  · refine b.keep c o (a.keep c o h n) fun h' => ?_
    rcases a.ogr c h' with h' | h'
    · exact n h'
    · rw [h] at h'; cases h'
  · obtain ⟨e1, s1, h1, k1⟩ := a.lk i s h l
    obtain ⟨e2, s2, h2, k2⟩ := b.lk i s1 h1 (k1.lkd l)
    exact ⟨e2.trans e1, s2, h2, .trans l k1 k2⟩
noncomputable def PRep (K : PySem.W.Frag) (F H : Hp) (v : V) (d : D) : Prop := Rep K F v d ∨ ∃ a xs ds, v = .ref a ∧ H a = some (.lst xs) ∧ Reps K F xs ds ∧ d = .lst ds
noncomputable def RepR (K : PySem.W.Frag) (F' : Hp) (ρ' : List Sl) (σ' : St) (H' : Hp) (ρ : List Sl) (σ : St) (H : Hp) (v : V) : R → Prop
  | .val d => Rep K F' v d
  | .own ds => ∃ a xs, v = .ref a ∧ H' a = some (.lst xs) ∧ F' a = none ∧ Reps K F' xs ds ∧ ¬ Own ρ' σ' a ∧ (Own ρ σ a ∨ H a = none)
theorem Same.upd_none {F : Hp} {a : Addr} {o : HO} (h : F a = none) : Same F (upd F a o) := fun b u e => by
  have : b ≠ a := by rintro rfl; rw [h] at e; cases e
  rw [upd_ne this]; exact e
theorem Stp.frz {ρ ρ' : List Sl} {σ σ' : St} {v : V} {r : R} (s : Stp K F ρ σ H F' ρ' σ' H') (h : RepR K F' ρ' σ' H' ρ σ H v r) :
    ∃ F'', Stp K F ρ σ H F'' ρ' σ' H' ∧ Same F' F'' ∧ Rep K F'' v r.d := by
  cases r with
  | val d => exact ⟨F', s, .refl _, h⟩
  | own ds =>
    obtain ⟨a, xs, rfl, h1, h2, h3, h4, h5⟩ := h
    have sm : Same F' (upd F' a (.lst xs)) := Same.upd_none h2
    refine ⟨upd F' a (.lst xs), ⟨⟨fun b o e => ?_, s.gs.len, fun i b d e => ?_, fun i sl ds' e e' => ?_, s.gs.dis⟩, s.fsub.trans sm, fun b n n' => ?_, s.keep, s.ogr, s.len, s.lk⟩, sm, ?_⟩
    · by_cases hb : b = a
      · subst hb; rw [upd_same] at e; cases e; exact h1
      · rw [upd_ne hb] at e; exact s.gs.sub b o e
    · obtain ⟨v, e1, e2⟩ := s.gs.val i b d e
      exact ⟨v, e1, e2.mono sm⟩
    · obtain ⟨b, ys, e1, e2, e3, e4⟩ := s.gs.own i sl ds' e e'
      have hb : b ≠ a := by rintro rfl; exact h4 ⟨i, ⟨sl, ds', e, e'⟩, e1⟩
      exact ⟨b, ys, e1, e2, by rw [upd_ne hb]; exact e3, e4.mono sm⟩
    · by_cases hb : b = a
      · subst hb; exact h5
      · rw [upd_ne hb] at n'; exact s.fgr b n n'
    · show Rep K _ _ (.lst ds)
      rw [Rep]; exact ⟨a, xs, rfl, SqL.of upd_same, h3.mono sm⟩
theorem GS.pk {ρ : List Sl} {σ : St} {i : Nat} {d : D} (g : GS K F ρ σ H) (e : HH.pk ρ i = some d) : ∃ v : V, σ[i]? = some (some v) ∧ PRep K F H v d := by
  unfold HH.pk at e
  split at e
  · rename_i b d' h
    cases e
    obtain ⟨v, h1, h2⟩ := g.val i b d h
    exact ⟨v, h1, .inl h2⟩
  · rename_i b ds h
    cases e
    obtain ⟨a, xs, h1, h2, h3, h4⟩ := g.own i _ ds h rfl
    exact ⟨.ref a, h1, .inr ⟨a, xs, ds, rfl, h2, h4, rfl⟩⟩
  · rename_i ds h
    cases e
    obtain ⟨a, xs, h1, h2, h3, h4⟩ := g.own i _ ds h rfl
    exact ⟨.ref a, h1, .inr ⟨a, xs, ds, rfl, h2, h4, rfl⟩⟩
  · cases e
structure Ext (F H F' H' : Hp) : Prop where
  hs : Same H H'
  fs : Same F F'
  sub : Same F' H'
  gr : ∀ b, F b = none → F' b ≠ none → H b = none
theorem Ext.refl (h : Same F H) : Ext F H F H := ⟨.refl _, .refl _, h, fun _ a b => absurd a b⟩
theorem Ext.stp {ρ : List Sl} {σ : St} (g : GS K F ρ σ H) (e : Ext F H F' H') : Stp K F ρ σ H F' ρ σ H' := by
  refine ⟨⟨e.sub, g.len, fun i b d h => ?_, fun i s ds h h' => ?_, g.dis⟩, e.fs, fun b n n' => .inr (e.gr b n n'), fun b o h _ => e.hs b o h, fun _ h => .inl h, rfl, fun i s h _ => ⟨rfl, s, h, .refl s⟩⟩
  · obtain ⟨v, h1, h2⟩ := g.val i b d h
    exact ⟨v, h1, h2.mono e.fs⟩
  · obtain ⟨a, xs, h1, h2, h3, h4⟩ := g.own i s ds h h'
    refine ⟨a, xs, h1, e.hs _ _ h2, ?_, h4.mono e.fs⟩
    cases q : F' a with
    | none => rfl
    | some o => have := e.gr a h3 (by rw [q]; simp); rw [h2] at this; cases this
noncomputable def RepN (K : PySem.W.Frag) (F' H' H : Hp) (v : V) : R → Prop
  | .val d => Rep K F' v d
  | .own ds => ∃ a xs, v = .ref a ∧ H' a = some (.lst xs) ∧ F' a = none ∧ Reps K F' xs ds ∧ H a = none
theorem RepN.repR {ρ : List Sl} {σ : St} {v : V} {r : R} (g : GS K F ρ σ H) (h : RepN K F' H' H v r) : RepR K F' ρ σ H' ρ σ H v r := by
  cases r with
  | val d => exact h
  | own ds =>
    obtain ⟨a, xs, rfl, h1, h2, h3, h4⟩ := h
    refine ⟨a, xs, rfl, h1, h2, h3, ?_, .inr h4⟩
    rintro ⟨i, ⟨s, ds', e, e'⟩, e2⟩
    obtain ⟨b, ys, q1, q2, _⟩ := g.own i s ds' e e'
    rw [e2] at q1; cases q1
    rw [h4] at q2; cases q2
theorem RepR.later {F1 H1 F2 H2 : Hp} {ρ ρ1 ρ2 : List Sl} {σ σ1 σ2 : St} {v : V} {r : R} (a : Stp K F ρ σ H F1 ρ1 σ1 H1) (h : RepR K F2 ρ2 σ2 H2 ρ1 σ1 H1 v r) : RepR K F2 ρ2 σ2 H2 ρ σ H v r := by
  cases r with
  | val d => exact h
  | own ds =>
    obtain ⟨b, xs, rfl, h1, h2, h3, h4, h5⟩ := h
    refine ⟨b, xs, rfl, h1, h2, h3, h4, ?_⟩
    rcases h5 with h5 | h5
    · exact a.ogr b h5
    · by_cases ho : Own ρ σ b
      · exact .inl ho
      · right
        cases e : H b with
        | none => rfl
        | some o => rw [a.keep b o e ho] at h5; cases h5
end
end HH
end
section
set_option linter.all false
set_option Elab.async false
set_option maxRecDepth 10000
namespace HH
open PySem L2 PySem.Spec PyProof.Rows
theorem bind_ok {α β : Type} {x : Res α} {f : α → List Sl → Res β} {b : β} {ρ' : List Sl} (h : x.bind f = .ok b ρ') : ∃ a ρ, x = .ok a ρ ∧ f a ρ = .ok b ρ' := by
  cases x with
  | ok a ρ => exact ⟨a, ρ, rfl, h⟩
  | exc _ _ => cases h
  | stuck => cases h
theorem lift_ok {α : Type} {o : Option α} {ρ ρ' : List Sl} {a : α} (h : lift o ρ = .ok a ρ') : o = some a ∧ ρ = ρ' := by
  cases o with
  | none => cases h
  | some b => cases h; exact ⟨rfl, rfl⟩
theorem map_some {α β : Type} {o : Option α} {f : α → β} {b : β} (h : o.map f = some b) : ∃ a, o = some a ∧ f a = b := by
  cases o with
  | none => cases h
  | some a => cases h; exact ⟨a, rfl, rfl⟩
theorem bindO {α β : Type} {o : Option α} {f : α → Option β} {b : β} (h : o.bind f = some b) : ∃ a, o = some a ∧ f a = some b := by
  cases o with
  | none => cases h
  | some a => exact ⟨a, rfl, h⟩
theorem ite_some {α : Type} {c : Prop} [Decidable c] {a b : α} (h : (if c then some a else none) = some b) : c ∧ a = b := by
  split at h
  · rename_i hc; cases h; exact ⟨hc, rfl⟩
  · cases h
section
variable {X : Cx} {c : Call} {e a b : Expr} {p pa pb : P} {pos : Pos}
theorem peImp {t t' : TE} (h : PE X e t) (i : ∀ σ H Q, t' σ H Q → t σ H Q) : PE X e t' := fun pins s σ H Q I q => h pins s σ H Q I (i σ H Q q)
theorem ptImp {t t' : TT} (h : PT X e t) (i : ∀ σ H Q, t' σ H Q → t σ H Q) : PT X e t' := fun pins s σ H Q I q => h pins s σ H Q I (i σ H Q q)
theorem pwImp {t t' : TT} (h : PW X e t) (i : ∀ σ H Q, t' σ H Q → t σ H Q) : PW X e t' := fun wh pins s σ H Q I q => h wh pins s σ H Q I (i σ H Q q)
theorem paImp {es : List Expr} {t t' : TA} (h : PA X es t) (i : ∀ σ H Q, t' σ H Q → t σ H Q) : PA X es t' := fun pos pins s σ H Q I q => h pos pins s σ H Q I (i σ H Q q)
noncomputable def tEv (K : PySem.W.Frag) (f : Ev) : TE := fun σ H Q => ∃ F ρ r ρ', GS K F ρ σ H ∧ f ρ = .ok r ρ' ∧ ∀ v F' H', Stp K F ρ σ H F' ρ' σ H' → RepR K F' ρ' σ H' ρ σ H v r → Q v H'
noncomputable def tTr (K : PySem.W.Frag) (f : List Sl → Res Bool) : TT := fun σ H Q => ∃ F ρ k ρ', GS K F ρ σ H ∧ f ρ = .ok k ρ' ∧ ∀ F' H', Stp K F ρ σ H F' ρ' σ H' → Q k H'
noncomputable def tEvs (K : PySem.W.Frag) (f : List Sl → Res (List D)) : TA := fun σ H Q => ∃ F ρ ds ρ', GS K F ρ σ H ∧ f ρ = .ok ds ρ' ∧ ∀ vs F' H', Stp K F ρ σ H F' ρ' σ H' → Reps K F' vs ds → Q vs H'
structure SX (X : Cx) (c : Call) (e : Expr) (p : P) : Prop where
  ev : PE X e (tEv X.K (HH.ev c p))
  var : ∀ i, isVar p = some i → PE X e (tVar i)
noncomputable def SA (X : Cx) (c : Call) (es : List Expr) (ps : List P) : Prop := PA X es (tEvs X.K (evs c ps)) ∧ ps.length = es.length
theorem SX.opd (h : SX X c e p) : ∃ t, PE X e t ∧ ∀ {σ : L2.St} {H F : Hp} {ρ ρ' : List Sl} {d : D} {Q : VK}, GS X.K F ρ σ H → opd (isVar p) (HH.ev c p) ρ = .ok d ρ' →
    (∀ v F' H', Stp X.K F ρ σ H F' ρ' σ H' → PRep X.K F' H' v d → Q v H') → t σ H Q := by
  cases hv : isVar p with
  | none =>
    refine ⟨_, h.ev, fun {σ H F ρ ρ' d Q} g e k => ?_⟩
    obtain ⟨r, ρ1, e1, e2⟩ := bind_ok e
    cases e2
    refine ⟨F, ρ, r, _, g, e1, fun v F' H' s rr => ?_⟩
    obtain ⟨F'', s', _, rp⟩ := s.frz rr
    exact k v F'' H' s' (.inl rp)
  | some i =>
    refine ⟨_, h.var i hv, fun {σ H F ρ ρ' d Q} g e k => ?_⟩
    obtain ⟨e1, e2⟩ := lift_ok e
    subst e2
    obtain ⟨v, h1, h2⟩ := g.pk e1
    exact ⟨v, h1, k v F H (.refl g) h2⟩
theorem SX.opd2 (ha : SX X c a pa) (hb : SX X c b pb) : ∃ ta tb, PE X a ta ∧ PE X b tb ∧ ∀ {σ : L2.St} {H F : Hp} {ρ ρ' : List Sl} {xy : D × D} {R : V → V → Hp → Prop}, GS X.K F ρ σ H →
    opd2 (isVar pa) (HH.ev c pa) (isVar pb) (HH.ev c pb) ρ = .ok xy ρ' → (∀ v u F' H', Stp X.K F ρ σ H F' ρ' σ H' → PRep X.K F' H' v xy.1 → PRep X.K F' H' u xy.2 → R v u H') → ta σ H fun x H1 => tb σ H1 fun y H2 => R x y H2 := by
  obtain ⟨tb, hb1, hb2⟩ := hb.opd
  cases hv : isVar pa with
  | none =>
    refine ⟨_, tb, ha.ev, hb1, fun {σ H F ρ ρ' xy R} g e k => ?_⟩
    obtain ⟨x, ρ1, e1, e⟩ := bind_ok e
    obtain ⟨y, ρ2, e2, e⟩ := bind_ok e
    cases e
    obtain ⟨r, ρ1', e1, e0⟩ := bind_ok e1
    cases e0
    refine ⟨F, ρ, r, _, g, e1, fun v F' H' s rr => ?_⟩
    obtain ⟨F1, s1, _, rp⟩ := s.frz rr
    refine hb2 s1.gs e2 fun u F2 H2 s2 pu => ?_
    exact k v u F2 H2 (s1.trans s2) (.inl (rp.mono s2.fsub)) pu
  | some i =>
    refine ⟨_, tb, ha.var i hv, hb1, fun {σ H F ρ ρ' xy R} g e k => ?_⟩
    obtain ⟨x0, ρ0, e0, e⟩ := bind_ok e
    obtain ⟨e00, e01⟩ := lift_ok e0
    subst e01
    obtain ⟨y, ρ1, e1, e⟩ := bind_ok e
    obtain ⟨x, ρ2, e2, e⟩ := bind_ok e
    cases e
    have zz := lift_ok e2; clear e2; obtain ⟨e2, e3⟩ := zz
    subst e3
    obtain ⟨v, h1, _⟩ := g.pk e00
    refine ⟨v, h1, hb2 g e1 fun u F1 H1 s1 pu => ?_⟩
    obtain ⟨v', h1', pv⟩ := s1.gs.pk e2
    rw [h1] at h1'
    cases h1'
    exact k v u F1 H1 s1 pv pu
noncomputable def rD (K : PySem.W.Frag) (f : D → D → Option R) : R2 := fun x y H Q => ∃ F d e r, Same F H ∧ PRep K F H x d ∧ PRep K F H y e ∧ f d e = some r ∧ ∀ v F' H', Ext F H F' H' → RepN K F' H' H v r → Q v H'
noncomputable def rD1 (K : PySem.W.Frag) (f : D → Option R) : V → Hp → VK → Prop := fun x H Q => ∃ F d r, Same F H ∧ PRep K F H x d ∧ f d = some r ∧ ∀ v F' H', Ext F H F' H' → RepN K F' H' H v r → Q v H'
theorem sx_op2 {E : Expr} {f : D → D → Option R} {q : P} (hp : ∀ {ta tb}, PE X a ta → PE X b tb → PE X E (tOp (rD X.K f) ta tb)) (ha : SX X c a pa) (hb : SX X c b pb)
    (hq : ∀ ρ, HH.ev c q ρ = (HH.opd2 (isVar pa) (HH.ev c pa) (isVar pb) (HH.ev c pb) ρ).bind fun xy ρ => lift (f xy.1 xy.2) ρ) (hv : isVar q = none) : SX X c E q := by
  obtain ⟨ta, tb, h1, h2, h3⟩ := ha.opd2 hb
  refine ⟨peImp (hp h1 h2) ?_, fun i h => by rw [hv] at h; cases h⟩
  rintro σ H Q ⟨F, ρ, r, ρ', g, e, k⟩
  rw [hq] at e
  obtain ⟨xy, ρ1, e1, e2⟩ := bind_ok e
  have zz := lift_ok e2; clear e2; obtain ⟨e2, e3⟩ := zz
  subst e3
  refine h3 g e1 fun v u F' H' s pv pu => ⟨F', xy.1, xy.2, r, s.gs.sub, pv, pu, e2, fun w F2 H2 x rn => ?_⟩
  exact k w F2 H2 (s.trans (x.stp s.gs)) (.later s (rn.repR s.gs))
theorem sx_op1 {E : Expr} {f : D → Option R} {q : P} (hp : ∀ {ta}, PE X a ta → PE X E (tUn (rD1 X.K f) ta)) (ha : SX X c a pa)
    (hq : ∀ ρ, HH.ev c q ρ = (HH.opd (isVar pa) (HH.ev c pa) ρ).bind fun x ρ => lift (f x) ρ) (hv : isVar q = none) : SX X c E q := by
  obtain ⟨ta, h1, h3⟩ := ha.opd
  refine ⟨peImp (hp h1) ?_, fun i h => by rw [hv] at h; cases h⟩
  rintro σ H Q ⟨F, ρ, r, ρ', g, e, k⟩
  rw [hq] at e
  obtain ⟨x, ρ1, e1, e2⟩ := bind_ok e
  have zz := lift_ok e2; clear e2; obtain ⟨e2, e3⟩ := zz
  subst e3
  refine h3 g e1 fun v F' H' s pv => ⟨F', x, r, s.gs.sub, pv, e2, fun w F2 H2 x rn => ?_⟩
  exact k w F2 H2 (s.trans (x.stp s.gs)) (.later s (rn.repR s.gs))
theorem GS.freeze {K : PySem.W.Frag} {F H : Hp} {ρ : List Sl} {σ : L2.St} {i : Nat} {b : Bool} {ds : List D} (g : GS K F ρ σ H) (e : ρ[i]? = some (.own b ds)) :
    ∃ v F', σ[i]? = some (some v) ∧ Stp K F ρ σ H F' (ρ.set i (.val b (.lst ds))) σ H ∧ Rep K F' v (.lst ds) := by
  obtain ⟨a, xs, h1, h2, h3, h4⟩ := g.own i _ ds e rfl
  have hi : i < ρ.length := (List.getElem?_eq_some_iff.mp e).1
  have sm : Same F (upd F a (.lst xs)) := Same.upd_none h3
  have rp : Rep K (upd F a (.lst xs)) (.ref a) (.lst ds) := by rw [Rep]; exact ⟨a, xs, rfl, SqL.of upd_same, h4.mono sm⟩
  have oa : Own ρ σ a := ⟨i, ⟨_, ds, e, rfl⟩, h1⟩
  have old : ∀ j x, OwnAt (ρ.set i (.val b (.lst ds))) σ j x → OwnAt ρ σ j x ∧ j ≠ i := fun j x ⟨⟨s, ds', q1, q2⟩, q3⟩ => by
    by_cases hj : j = i
    · subst hj; rw [List.getElem?_set_self hi] at q1; cases q1; cases q2
    · rw [List.getElem?_set_ne (Ne.symm hj)] at q1; exact ⟨⟨⟨s, ds', q1, q2⟩, q3⟩, hj⟩
  refine ⟨.ref a, upd F a (.lst xs), h1, ⟨⟨fun x o q => ?_, by simpa using g.len, fun j b' d q => ?_, fun j s ds' q q' => ?_, fun j k x q q' => g.dis j k x (old j x q).1 (old k x q').1⟩, sm, fun x n n' => ?_, fun _ _ q _ => q, fun x ⟨j, q⟩ => .inl ⟨j, (old j x q).1⟩, by simp, fun j s q l => ⟨rfl, ?_⟩⟩, rp⟩
  · by_cases hx : x = a
    · subst hx; rw [upd_same] at q; cases q; exact h2
    · rw [upd_ne hx] at q; exact g.sub x o q
  · by_cases hj : j = i
    · subst hj; rw [List.getElem?_set_self hi] at q; cases q; exact ⟨_, h1, rp⟩
    · rw [List.getElem?_set_ne (Ne.symm hj)] at q
      obtain ⟨v, q1, q2⟩ := g.val j b' d q
      exact ⟨v, q1, q2.mono sm⟩
  · by_cases hj : j = i
    · subst hj; rw [List.getElem?_set_self hi] at q; cases q; cases q'
    · rw [List.getElem?_set_ne (Ne.symm hj)] at q
      obtain ⟨x, ys, q1, q2, q3, q4⟩ := g.own j s ds' q q'
      have hx : x ≠ a := by rintro rfl; exact hj (g.dis j i x ⟨⟨s, ds', q, q'⟩, q1⟩ ⟨⟨_, ds, e, rfl⟩, h1⟩)
      exact ⟨x, ys, q1, q2, by rw [upd_ne hx]; exact q3, q4.mono sm⟩
  · by_cases hx : x = a
    · subst hx; exact .inl oa
    · rw [upd_ne hx] at n'; exact absurd n n'
  · by_cases hj : j = i
    · subst hj
      rw [e] at q; cases q
      refine ⟨_, List.getElem?_set_self hi, ?_⟩
      cases b with
      | true => exact .inr ⟨_, rfl⟩
      | false => cases l
    · exact ⟨s, by rw [List.getElem?_set_ne (Ne.symm hj)]; exact q, .refl s⟩
theorem sx_var {i : Nat} {x : Str} (hN : X.N[i]? = some x) (hv : Vis X.env.scope x) (hd : (x == ("__debug__" : Str)) = false := by decide) (hcd : (x == ("__classdict__" : Str)) = false := by decide) : SX X c (.Name x pos) (.var i) := by
  have h := pe_var (X := X) (pos := pos) hN hv hd hcd
  refine ⟨peImp h ?_, fun j hj => by cases hj; exact h⟩
  rintro σ H Q ⟨F, ρ, r, ρ', g, e, k⟩
  rw [HH.ev] at e
  split at e
  · rename_i b d q
    cases e
    obtain ⟨v, h1, h2⟩ := g.val i b d q
    exact ⟨v, h1, k v F H (.refl g) h2⟩
  · rename_i b ds q
    cases e
    obtain ⟨v, F', h1, h2, h3⟩ := g.freeze q
    exact ⟨v, h1, k v F' H h2 h3⟩
  · cases e
theorem sx_con {d : D} {v : V} (h : PE X e (tC v)) (hr : ∀ F, Rep X.K F v d) : SX X c e (.con d) :=
  ⟨peImp h fun σ H Q ⟨F, ρ, r, ρ', g, e, k⟩ => by rw [HH.ev] at e; cases e; exact k v F H (.refl g) (hr F), fun i h => by cases h⟩
theorem sx_int {i j} : SX X c (.Constant (.int i) j pos) (.con (.int i)) := sx_con pe_int fun F => by rw [Rep]
theorem sx_bl {i j} : SX X c (.Constant (.bool i) j pos) (.con (.bl i)) := sx_con pe_bl fun F => by rw [Rep]
theorem sx_non {j} : SX X c (.Constant .none j pos) (.con .non) := sx_con pe_non fun F => by rw [Rep]
theorem PRep.int {K : PySem.W.Frag} {F H : Hp} {v : V} {i : Int} (h : PRep K F H v (.int i)) : v = .int i := by
  rcases h with h | ⟨_, _, _, _, _, _, h⟩
  · rw [Rep] at h; exact h
  · cases h
theorem PRep.bl {K : PySem.W.Frag} {F H : Hp} {v : V} {i : Bool} (h : PRep K F H v (.bl i)) : v = .bl i := by
  rcases h with h | ⟨_, _, _, _, _, _, h⟩
  · rw [Rep] at h; exact h
  · cases h
theorem PRep.str {K : PySem.W.Frag} {F H : Hp} {v : V} {i : Str} (h : PRep K F H v (.str i)) : v = .str i := by
  rcases h with h | ⟨_, _, _, _, _, _, h⟩
  · rw [Rep] at h; exact h
  · cases h
theorem PRep.non {K : PySem.W.Frag} {F H : Hp} {v : V} (h : PRep K F H v .non) : v = .non := by
  rcases h with h | ⟨_, _, _, _, _, _, h⟩
  · rw [Rep] at h; exact h
  · cases h
theorem PRep.tup {K : PySem.W.Frag} {F H : Hp} {v : V} {ds : List D} (s : Same F H) (h : PRep K F H v (.tup ds)) : ∃ a xs, v = .ref a ∧ SqT K H a xs ∧ Reps K F xs ds ∧ Rep K F v (.tup ds) := by
  rcases h with h | ⟨_, _, _, _, _, _, h⟩
  · have h' := h
    rw [Rep] at h
    obtain ⟨a, xs, rfl, h1, h2⟩ := h
    exact ⟨a, xs, rfl, Same.seqT s h1, h2, h'⟩
  · cases h
theorem PRep.lst {K : PySem.W.Frag} {F H : Hp} {v : V} {ds : List D} (s : Same F H) (h : PRep K F H v (.lst ds)) : ∃ a xs, v = .ref a ∧ SqL K H a xs ∧ Reps K F xs ds := by
  rcases h with h | ⟨a, xs, es, h1, h2, h3, h⟩
  · rw [Rep] at h
    obtain ⟨a, xs, rfl, h1, h2⟩ := h
    exact ⟨a, xs, rfl, s.seq h1, h2⟩
  · cases h
    exact ⟨a, xs, h1, SqL.of h2, h3⟩
theorem PRep.items {K : PySem.W.Frag} {F H : Hp} {v : V} {d : D} {ds : List D} (s : Same F H) (h : PRep K F H v d) (e : items d = some ds) : ∃ a xs, v = .ref a ∧ (SqL K H a xs ∨ SqT K H a xs) ∧ Reps K F xs ds := by
  cases d with
  | tup es => cases e; obtain ⟨a, xs, h1, h2, h3, _⟩ := h.tup s; exact ⟨a, xs, h1, .inr h2, h3⟩
  | lst es => cases e; obtain ⟨a, xs, h1, h2, h3⟩ := h.lst s; exact ⟨a, xs, h1, .inl h2, h3⟩
  | _ => cases e
theorem RepN.val0 {K : PySem.W.Frag} {F H : Hp} {Q : VK} {v : V} {d : D} (s : Same F H) (r : Rep K F v d) (k : ∀ v F' H', Ext F H F' H' → RepN K F' H' H v (.val d) → Q v H') : Q v H := k v F H (.refl s) r
theorem repInt {K : PySem.W.Frag} {F : Hp} (i : Int) : Rep K F (.int i) (.int i) := by rw [Rep]
theorem repBl {K : PySem.W.Frag} {F : Hp} (i : Bool) : Rep K F (.bl i) (.bl i) := by rw [Rep]
theorem repStr {K : PySem.W.Frag} {F : Hp} (i : Str) : Rep K F (.str i) (.str i) := by rw [Rep]
theorem repNon {K : PySem.W.Frag} {F : Hp} : Rep K F .non .non := by rw [Rep]
theorem newL {K : PySem.W.Frag} {F H : Hp} {Q : VK} {xs : List V} {ds : List D} {p : Addr} (s : Same F H) (r : Reps K F xs ds) (hp : H p = none) (k : ∀ v F' H', Ext F H F' H' → RepN K F' H' H v (.own ds) → Q v H') : Q (.ref p) (upd H p (.lst xs)) := by
  have fp : F p = none := by
    cases q : F p with
    | none => rfl
    | some o => rw [s p o q] at hp; cases hp
  exact k _ F _ ⟨Same.upd_none hp, .refl _, s.trans (Same.upd_none hp), fun _ a b => absurd a b⟩ ⟨p, xs, rfl, upd_same, fp, r, hp⟩
theorem newT {K : PySem.W.Frag} {F H : Hp} {Q : VK} {xs : List V} {ds : List D} {p : Addr} (s : Same F H) (r : Reps K F xs ds) (hp : H p = none) (k : ∀ v F' H', Ext F H F' H' → RepN K F' H' H v (.val (.tup ds)) → Q v H') : Q (.ref p) (upd H p (.tup xs)) := by
  have fp : F p = none := by
    cases q : F p with
    | none => rfl
    | some o => rw [s p o q] at hp; cases hp
  have sm : Same F (upd F p (.tup xs)) := Same.upd_none fp
  refine k _ (upd F p (.tup xs)) _ ⟨Same.upd_none hp, sm, fun b o e => ?_, fun b n n' => ?_⟩ ?_
  · by_cases hb : b = p
    · subst hb; rw [upd_same] at e ⊢; exact e
    · rw [upd_ne hb] at e ⊢; exact s b o e
  · by_cases hb : b = p
    · subst hb; exact hp
    · rw [upd_ne hb] at n'; exact absurd n n'
  · show Rep K _ _ (.tup ds)
    rw [Rep]; exact ⟨p, xs, rfl, SqT.of upd_same, r.mono sm⟩
end
end HH
end
section
set_option linter.all false
set_option Elab.async false
set_option maxRecDepth 10000
namespace HH
open PySem L2 PySem.Spec PyProof.Rows
theorem rmul_declines (k : Int) (t : Tok) (l : Addr) (its : Array Value) (n : Nat) (dd : Option Addr) (sl : Array (Option Value)) :
    Meets (Builtin.«int.__rmul__» ⟨[.int k t, .ref l], []⟩) (fun _ R s => s.heap.get? l = some ⟨.type "list", dd, .seq its n, sl⟩ ∧ R (.ok (.ret Value.notImplemented)) s) :=
  .of_wp fun prog w A R s h => by
    obtain ⟨hp, g, d, tk, os⟩ := s
    obtain ⟨hl, h⟩ := h
    wp_walk
    exact ⟨_, rfl, h⟩
theorem list_mulW (l : Addr) (its : Array Value) (n : Nat) (dd : Option Addr) (sl : Array (Option Value)) (k : Int) (t : Tok) (h0 : ¬(!Builtin.List.listFitsIndex k) = true) (h1 : ¬its.size * k.toNat > (2 ^ 63 - 1) / 8) (h2 : ¬Builtin.List.listTooLong (its.size * k.toNat) = true) :
    Meets (Builtin.«list.__mul__» ⟨[.ref l, .int k t], []⟩) (fun _ R s => s.heap.get? l = some ⟨.type "list", dd, .seq its n, sl⟩ ∧
      R (.ok (.ret (Value.ref s.heap.objs.size))) { s with heap := s.heap.push { cls := .type "list", data := .seq (List.foldl (· ++ ·) #[] (List.replicate (if its.isEmpty = true then 0 else k.toNat) its)) } }) :=
  .of_wp fun prog w A R s h => by
    obtain ⟨hp, g, d, tk, os⟩ := s
    obtain ⟨hl, h⟩ := h
    have hz := AutoListH.joined_fits h2
    wp_walk using wpAny_loadPart' hl
    refine wpAny_ite_false (decide_eq_false (Nat.not_lt.mpr hz)) ?_
    wp_walk
    exact ⟨_, rfl, h⟩
section
variable {X : Cx} {c : Call} {e a b d : Expr} {p pa pb pd : P} {pos : Pos}
theorem op_catL : OpR X (binaryOp .Add) (fun x y H Q => ∃ l b xs zs, x = .ref l ∧ y = .ref b ∧ SqL X.K H l xs ∧ SqL X.K H b zs ∧ xs.length + zs.length ≤ sizeLine ∧ ∀ p, H p = none → Q (.ref p) (upd H p (.lst (xs ++ zs)))) := by
  intro pins s σ H x y v u Q I rx ry h
  obtain ⟨l, b, xs, zs, rfl, rfl, hl, hb, hz, q⟩ := h
  cases rx
  cases ry
  obtain ⟨its, r, pl, _⟩ := I.list hl
  obtain ⟨its2, r2, pl2, _⟩ := I.list hb
  obtain ⟨⟨cls, dd, data, sl⟩, ho, hc, n, hd⟩ := id pl.isList
  obtain ⟨⟨cls2, dd2, data2, sl2⟩, ho2, hc2, n2, hd2⟩ := id pl2.isList
  simp only at hc hd hc2 hd2
  subst hc hd hc2 hd2
  have e : its.toArray ++ its2.toArray = (its ++ its2).toArray := by simp
  refine concat_meets ⟨_, ho, rfl⟩ ⟨_, ho2, rfl⟩ noFill_list_add seq_list_add PySem.F.slot_list_add PySem.F.entry_list_add (PySem.F.args_list_add_2 _ _) (list_addW l b its.toArray its2.toArray n n2 dd dd2 sl sl2 (by simp only [List.size_toArray]; rw [← r.length, ← r2.length]; exact hz)) ⟨ho, ho2, ?_⟩
  rw [e]
  exact ⟨.ref _, _, I.lnew (t' := s.toks) (r.append r2) (by rw [List.length_append]; exact hz), rfl, q _ I.fresh⟩
theorem op_catT0 : OpR X (binaryOp .Add) (fun x y H Q => ∃ a b ys, x = .ref a ∧ y = .ref b ∧ SqT X.K H a [] ∧ SqT X.K H b ys ∧ Q (.ref b) H) := by
  intro pins s σ H x y v u Q I rx ry h
  obtain ⟨a, b, ys, rfl, rfl, ha, hb, q⟩ := h
  cases rx
  cases ry
  obtain ⟨its, r1, p1, _⟩ := I.tuple ha
  obtain ⟨its2, r2, p2, _⟩ := I.tuple hb
  obtain ⟨⟨cls, dd, data, sl⟩, ho, hc, n, hd⟩ := id p1
  obtain ⟨⟨cls2, dd2, data2, sl2⟩, ho2, hc2, n2, hd2⟩ := id p2
  simp only at hc hd hc2 hd2
  subst hc hd hc2 hd2
  have e0 : its = [] := r1.nil_iff.mpr rfl
  subst e0
  exact concat_meets ⟨_, ho, rfl⟩ ⟨_, ho2, rfl⟩ noFill_tuple_add seq_tuple_add PySem.F.slot_tuple_add PySem.F.entry_tuple_add (PySem.F.args_tuple_add_2 _ _)
    (tuple_addW0 a b _ its2.toArray n n2 dd dd2 sl sl2 (by simp)) ⟨ho, ho2, ⟨.ref b, H, I, rfl, q⟩⟩
theorem op_addD : OpR X (binaryOp .Add) (rD X.K (op2 .add)) := by
  rintro pins s σ H x y v u Q I rx ry ⟨F, d, e, r, sm, px, py, he, k⟩
  replace he : opAdd d e = some r := he
  unfold opAdd at he
  split at he
  · cases he
    rw [px.int] at rx; rw [py.int] at ry
    exact op_add pins s σ H _ _ v u Q I rx ry ⟨_, _, rfl, rfl, RepN.val0 sm (repInt _) k⟩
  · rename_i xs ys
    obtain ⟨hl, he⟩ := ite_some he
    subst he
    obtain ⟨a, vs, rfl, ha, ra⟩ := px.lst sm
    obtain ⟨b, us, rfl, hb, rb⟩ := py.lst sm
    exact op_catL pins s σ H _ _ v u Q I rx ry ⟨a, b, vs, us, rfl, rfl, ha, hb, by rw [ra.length, rb.length]; exact hl, fun p hp => newL sm (ra.append rb) hp k⟩
  · rename_i xs ys
    obtain ⟨hl, he⟩ := ite_some he
    subst he
    obtain ⟨a, vs, rfl, ha, ra, ta⟩ := px.tup sm
    obtain ⟨b, us, rfl, hb, rb, tb⟩ := py.tup sm
    by_cases h0 : vs = []
    · subst h0
      have e0 : xs = [] := by have := ra.length; exact List.eq_nil_of_length_eq_zero this.symm
      subst e0
      exact op_catT0 pins s σ H _ _ v u Q I rx ry ⟨a, b, us, rfl, rfl, ha, hb, RepN.val0 sm tb k⟩
    · refine op_catT pins s σ H _ _ v u Q I rx ry ⟨a, b, vs, us, rfl, rfl, ha, hb, h0, by rw [ra.length, rb.length]; exact hl, fun e => ?_, fun _ p hp => newT sm (ra.append rb) hp k⟩
      subst e
      have e0 : ys = [] := by have := rb.length; exact List.eq_nil_of_length_eq_zero this.symm
      subst e0
      rw [List.append_nil] at k
      exact RepN.val0 sm ta k
  · rename_i x1 y1
    obtain ⟨hl, he⟩ := ite_some he
    subst he
    rw [px.str] at rx; rw [py.str] at ry
    exact op_add_str pins s σ H _ _ v u Q I rx ry ⟨_, _, rfl, rfl, hl, RepN.val0 sm (repStr _) k⟩
  · cases he
theorem op_subD : OpR X (binaryOp .Sub) (rD X.K (op2 .sub)) := by
  rintro pins s σ H x y v u Q I rx ry ⟨F, d, e, r, sm, px, py, he, k⟩
  replace he : opSub d e = some r := he
  unfold opSub at he
  split at he
  · cases he
    rw [px.int] at rx; rw [py.int] at ry
    exact op_sub pins s σ H _ _ v u Q I rx ry ⟨_, _, rfl, rfl, RepN.val0 sm (repInt _) k⟩
  · cases he
theorem op_repL : OpR X (binaryOp .Mult) (fun x y H Q => ∃ l k xs, x = .ref l ∧ y = .int k ∧ SqL X.K H l xs ∧ -(2 ^ 63) ≤ k ∧ k < 2 ^ 63 ∧ xs.length * k.toNat ≤ sizeLine ∧ ∀ p, H p = none → Q (.ref p) (upd H p (.lst (List.replicate k.toNat xs).flatten))) := by
  intro pins s σ H x y v u Q I rx ry h
  obtain ⟨l, k, xs, rfl, rfl, hl, h1, h2, hz, q⟩ := h
  cases rx
  obtain ⟨t, rfl⟩ := ry
  obtain ⟨its, r, pl, _⟩ := I.list hl
  obtain ⟨⟨cls, dd, data, sl⟩, ho, hc, n, hd⟩ := id pl.isList
  simp only at hc hd
  subst hc hd
  have hlen : its.toArray.size * k.toNat ≤ sizeLine := by rw [List.size_toArray, ← r.length]; exact hz
  have hcap : ¬ its.toArray.size * k.toNat > (2 ^ 63 - 1) / 8 := by
    have : (sizeLine : Nat) ≤ (2 ^ 63 - 1) / 8 := by decide
    omega
  have hnew : List.foldl (· ++ ·) #[] (List.replicate (if its.toArray.isEmpty = true then 0 else k.toNat) its.toArray) = (List.replicate k.toNat its).flatten.toArray := by
    have f0 : ∀ m : Nat, List.foldl (· ++ ·) #[] (List.replicate m its.toArray) = (List.replicate m its).flatten.toArray := fun m => by
      have := foldl_rep its m []
      rw [List.nil_append] at this
      exact this
    rw [f0]
    cases its with
    | nil => simp
    | cons a r' => rw [if_neg (by simp)]
  refine wpAny_binaryOp_repeat_ref (T := "list") (U := "int") (by decide) ⟨_, ho, rfl⟩ (fun s' => typeIs_int s' k t) noFill_list_mul F.fills_int_mul F.slot_int_rmul repeat_list F.slot_int_index.lookup ?_
  refine call_meets F.slot_int_rmul (typeIs_int s k t) F.entry_int_rmul (F.args_int_rmul_2 _ _) (rmul_declines k t l its.toArray n dd sl) ⟨ho, rfl, ⟨_, ho, rfl⟩, ?_⟩
  refine call_meets F.slot_list_mul ⟨_, ho, rfl⟩ F.entry_list_mul (F.args_list_mul_2 _ _) (list_mulW l its.toArray n dd sl k t (by rw [fitsIndex_both h1 h2]; exact Bool.false_ne_true) hcap (by rw [notLongL hlen]; exact Bool.false_ne_true)) ⟨ho, ?_⟩
  rw [hnew]
  exact ⟨.ref _, _, I.lnew (t' := s.toks) (r.rep k.toNat) (by rw [len_rep, Nat.mul_comm]; exact hz), rfl, q _ I.fresh⟩
theorem noFill_tuple_mul : fillsNumberSlot (.type "tuple") "mul" = pure false :=
  PySem.fillsNumberSlot_seq (id := "tuple.__mul__") (r := some (.builtin "tuple.__rmul__")) PySem.F.slot_tuple_mul.lookup (by decide +kernel) PySem.F.slot_tuple_rmul.lookup (by decide +kernel)
theorem repeat_tuple : seqRepeat? (.type "tuple") = pure (some (.builtin "tuple.__mul__")) := by
  unfold seqRepeat?
  rw [PySem.seqSlot_of (T := "tuple") (name := "__mul__") (id := "tuple.__mul__") PySem.F.slot_tuple_mul.lookup (by decide +kernel), PySem.seqSlot_of (T := "tuple") (name := "__rmul__") (id := "tuple.__rmul__") PySem.F.slot_tuple_rmul.lookup (by decide +kernel)]
  rfl
theorem rmul_declinesT (k : Int) (t : Tok) (l : Addr) (its : Array Value) (n : Nat) (dd : Option Addr) (sl : Array (Option Value)) :
    Meets (Builtin.«int.__rmul__» ⟨[.int k t, .ref l], []⟩) (fun _ R s => s.heap.get? l = some ⟨.type "tuple", dd, .seq its n, sl⟩ ∧ R (.ok (.ret Value.notImplemented)) s) :=
  .of_wp fun prog w A R s h => by
    obtain ⟨hp, g, d, tk, os⟩ := s
    obtain ⟨hl, h⟩ := h
    wp_walk
    exact ⟨_, rfl, h⟩
theorem tuple_mulW (l : Addr) (its : Array Value) (n : Nat) (dd : Option Addr) (sl : Array (Option Value)) (k : Int) (t : Tok) (h0 : 0 ≤ k) (h1 : k < 2 ^ 63) (hz : its.size * k.toNat ≤ sizeLine) (hne : 0 < its.size) :
    Meets (Builtin.«tuple.__mul__» ⟨[.ref l, .int k t], []⟩) (fun _ R s => s.heap.get? l = some ⟨.type "tuple", dd, .seq its n, sl⟩ ∧
      (k = 1 → R (.ok (.ret (Value.ref l))) s) ∧ (k ≠ 1 → R (.ok (.ret (Value.ref s.heap.objs.size))) { s with heap := s.heap.push { cls := .type "tuple", data := .seq (List.foldl (· ++ ·) #[] (List.replicate k.toNat its)) } })) :=
  .of_wp fun prog w A R s h => by
    obtain ⟨hp, g, d, tk, os⟩ := s
    obtain ⟨hl, q1, q2⟩ := h
    have hem : its.isEmpty = false := by cases e : its.isEmpty with | false => rfl | true => rw [Array.isEmpty_iff_size_eq_zero] at e; omega
    show wpAny _ _ (asIndex (.int k t) >>= _) _ _ _
    wp_walk using wpAny_loadPart' hl
    have hI : IsTup hp l its := ⟨_, hl, rfl, n, rfl⟩
    rw [if_neg (by simp; omega)]
    refine wpAny_bind (PyProof.Rows.tupleItemsOf_ hI ?_)
    try dsimp only
    by_cases e1 : k = 1
    · rw [if_pos (by simp [e1])]
      wp_walk using wpAny_loadPart' hl
      exact ⟨_, rfl, q1 e1⟩
    · have q := q2 e1
      rw [if_neg (by simp [hem, e1])]
      by_cases e0 : k = 0
      · subst e0
        rw [if_pos (by simp)]
        unfold Builtin.Tuple.tupleExact
        refine wpAny_bind (wpAny_newObj_type ?_)
        exact wpAny_pure ⟨_, rfl, q⟩
      · have hb : (its.size : Int) * k ≤ sizeLine := by
          have : ((its.size * k.toNat : Nat) : Int) ≤ (sizeLine : Nat) := by exact_mod_cast hz
          rw [Int.natCast_mul, show ((k.toNat : Nat) : Int) = k by omega] at this
          exact this
        have hs2 : (sizeLine : Int) ≤ (2 ^ 63 - 1) / 8 := by decide
        rw [if_neg (by simp [hem]; omega), if_neg (by omega), if_neg (by simp [Builtin.Tuple.tupleTooMany]; omega)]
        unfold Builtin.Tuple.tupleExact
        refine wpAny_bind (wpAny_newObj_type ?_ ?_)
        · exact wpAny_pure ⟨_, rfl, q⟩
        · have := foldl_rep its.toList k.toNat []
          rw [List.nil_append, show its.toList.toArray = its by simp] at this
          show (List.foldl (· ++ ·) #[] (List.replicate k.toNat its)).size ≤ sizeLine
          rw [show (#[] : Array Value) = ([] : List Value).toArray from rfl, this, List.size_toArray, len_rep, Array.length_toList, Nat.mul_comm]
          exact hz
theorem op_repT : OpR X (binaryOp .Mult) (fun x y H Q => ∃ l k xs, x = .ref l ∧ y = .int k ∧ SqT X.K H l xs ∧ 0 < xs.length ∧ 0 ≤ k ∧ k < 2 ^ 63 ∧ xs.length * k.toNat ≤ sizeLine ∧ (k = 1 → Q (.ref l) H) ∧ (k ≠ 1 → ∀ p, H p = none → Q (.ref p) (upd H p (.tup (List.replicate k.toNat xs).flatten)))) := by
  intro pins s σ H x y v u Q I rx ry h
  obtain ⟨l, k, xs, rfl, rfl, hl, hne, h1, h2, hz, qa, qb⟩ := h
  cases rx
  obtain ⟨t, rfl⟩ := ry
  obtain ⟨its, r, pl, _⟩ := I.tuple hl
  obtain ⟨⟨cls, dd, data, sl⟩, ho, hc, n, hd⟩ := id pl
  simp only at hc hd
  subst hc hd
  have hlen : its.toArray.size * k.toNat ≤ sizeLine := by rw [List.size_toArray, ← r.length]; exact hz
  have hnew : List.foldl (· ++ ·) #[] (List.replicate k.toNat its.toArray) = (List.replicate k.toNat its).flatten.toArray := by
    have := foldl_rep its k.toNat []
    rw [List.nil_append] at this
    exact this
  refine wpAny_binaryOp_repeat_ref (T := "tuple") (U := "int") (by decide) ⟨_, ho, rfl⟩ (fun s' => typeIs_int s' k t) noFill_tuple_mul F.fills_int_mul F.slot_int_rmul repeat_tuple F.slot_int_index.lookup ?_
  refine call_meets F.slot_int_rmul (typeIs_int s k t) F.entry_int_rmul (F.args_int_rmul_2 _ _) (rmul_declinesT k t l its.toArray n dd sl) ⟨ho, rfl, ⟨_, ho, rfl⟩, ?_⟩
  refine call_meets PySem.F.slot_tuple_mul ⟨_, ho, rfl⟩ PySem.F.entry_tuple_mul (PySem.F.args_tuple_mul_2 _ _) (tuple_mulW l its.toArray n dd sl k t h1 h2 hlen (by rw [List.size_toArray, ← r.length]; exact hne)) ⟨ho, fun e => ⟨.ref l, H, I, rfl, qa e⟩, fun e => ?_⟩
  rw [hnew]
  refine ⟨.ref s.heap.objs.size, _, I.laid (t' := s.toks) (o := .tup (List.replicate k.toNat xs).flatten) (fun b ob q => Heap.get?_push_of_some _ q) (Nat.le_refl _) ?_, rfl, qb e _ (I.hok.fresh (Nat.le_refl _))⟩
  exact ⟨by rw [len_rep, Nat.mul_comm]; exact hz, _, r.rep k.toNat, IsTup.new _ _⟩
theorem op_mulD : OpR X (binaryOp .Mult) (rD X.K (op2 .mul)) := by
  rintro pins s σ H x y v u Q I rx ry ⟨F, d, e, r, sm, px, py, he, k⟩
  replace he : opMul d e = some r := he
  unfold opMul at he
  split at he
  · obtain ⟨hc, he⟩ := ite_some he
    subst he
    rw [px.int] at rx; rw [py.int] at ry
    exact op_mul pins s σ H _ _ v u Q I rx ry ⟨_, _, rfl, rfl, hc, RepN.val0 sm (repInt _) k⟩
  · rename_i xs i
    obtain ⟨⟨h1, h2, h3⟩, he⟩ := ite_some he
    subst he
    obtain ⟨a, vs, rfl, ha, ra⟩ := px.lst sm
    rw [py.int] at ry
    have hk : i < 2 ^ 63 := by
      have h4 := Nat.le_mul_of_pos_left i.toNat h2
      have h5 : i.toNat ≤ 16777216 := Nat.le_trans h4 h3
      omega
    exact op_repL pins s σ H _ _ v u Q I rx ry ⟨a, i, vs, rfl, rfl, ha, by omega, hk, by rw [ra.length]; exact h3, fun p hp => newL sm (ra.rep i.toNat) hp k⟩
  · rename_i xs i
    obtain ⟨⟨h1, h2, h3⟩, he⟩ := ite_some he
    subst he
    obtain ⟨a, vs, rfl, ha, ra, rr⟩ := px.tup sm
    rw [py.int] at ry
    have hk : i < 2 ^ 63 := by
      have h4 := Nat.le_mul_of_pos_left i.toNat h2
      have h5 : i.toNat ≤ 16777216 := Nat.le_trans h4 h3
      omega
    refine op_repT pins s σ H _ _ v u Q I rx ry ⟨a, i, vs, rfl, rfl, ha, by rw [ra.length]; exact h2, h1, hk, by rw [ra.length]; exact h3, fun e => ?_, fun e p hp => newT sm (ra.rep i.toNat) hp k⟩
    subst e
    refine RepN.val0 sm ?_ k
    have e1 : (List.replicate (1 : Int).toNat xs).flatten = xs := by simp
    rw [e1]
    exact rr
  · cases he
theorem op_fdivD : OpR X (binaryOp .FloorDiv) (rD X.K (op2 .fdiv)) := by
  rintro pins s σ H x y v u Q I rx ry ⟨F, d, e, r, sm, px, py, he, k⟩
  replace he : opFdiv d e = some r := he
  unfold opFdiv at he
  split at he
  · rename_i i j
    obtain ⟨⟨h1, h2⟩, he⟩ := ite_some he
    subst he
    rw [px.int] at rx; rw [py.int] at ry
    obtain ⟨t, rfl⟩ := rx
    obtain ⟨t', rfl⟩ := ry
    have hl : j.natAbs.log2 < 9000 := by
      have : j.natAbs < 2 ^ 200 := by
        have : (2 : Nat) ^ 200 = 1606938044258990275541962092341162602522202993782792835301376 := by decide
        omega
      have h3 := (Nat.log2_lt (by omega)).mpr this
      omega
    exact floordiv_int (by omega) (by rw [Int.fdiv_eq_ediv_of_nonneg i (by omega)]; exact ⟨.int _, H, I.tok _, ⟨_, rfl⟩, RepN.val0 sm (repInt _) k⟩) (.inl (PyProof.noPylong_of_log2 hl))
  · cases he
theorem op_modD : OpR X (binaryOp .Mod) (rD X.K (op2 .mod)) := by
  rintro pins s σ H x y v u Q I rx ry ⟨F, d, e, r, sm, px, py, he, k⟩
  replace he : opMod d e = some r := he
  unfold opMod at he
  split at he
  · obtain ⟨h1, he⟩ := ite_some he
    subst he
    rw [px.int] at rx; rw [py.int] at ry
    exact op_mod pins s σ H _ _ v u Q I rx ry ⟨_, _, rfl, rfl, h1, RepN.val0 sm (repInt _) k⟩
  · cases he
theorem op_powD : OpR X (binaryOp .Pow) (rD X.K (op2 .pow)) := by
  rintro pins s σ H x y v u Q I rx ry ⟨F, d, e, r, sm, px, py, he, k⟩
  replace he : opPow d e = some r := he
  unfold opPow at he
  split at he
  · obtain ⟨⟨h1, h2, h3⟩, he⟩ := ite_some he
    subst he
    rw [px.int] at rx; rw [py.int] at ry
    exact op_pow pins s σ H _ _ v u Q I rx ry ⟨_, _, rfl, rfl, ⟨h1, by omega, h3⟩, RepN.val0 sm (repInt _) k⟩
  · cases he
theorem sx_bin {o : Op} {op : Operator} (ho : OpR X (binaryOp op) (rD X.K (op2 o))) (ha : SX X c a pa) (hb : SX X c b pb) : SX X c (.BinOp a op b pos) (.bin o pa pb) :=
  sx_op2 (fun h1 h2 => pe_op ho h1 h2) ha hb (fun ρ => by rw [HH.ev]) rfl
theorem sx_neg (ha : SX X c a pa) : SX X c (.UnaryOp .USub a pos) (.neg pa) := by
  refine sx_op1 (f := negR) (fun h1 => pe_un ?_ h1) ha (fun ρ => by rw [HH.ev]) rfl
  rintro pins s σ H x v Q I rx ⟨F, d, r, sm, px, he, k⟩
  unfold negR at he
  obtain ⟨i, e1, e2⟩ := map_some he
  subst e2
  cases d <;> cases e1
  rw [px.int] at rx
  exact un_neg pins s σ H _ v Q I rx ⟨_, rfl, RepN.val0 sm (repInt _) k⟩
theorem op_cmI {op : CmpOp} {f : Int → Int → Bool} (ho : OpR X (compareOp op) (rI0 fun i j => .bl (f i j))) {o : Cm} (hc : cm o = cmI f) : OpR X (compareOp op) (rD X.K (cmR o)) := by
  rintro pins s σ H x y v u Q I rx ry ⟨F, d, e, r, sm, px, py, he, k⟩
  unfold cmR at he
  rw [hc] at he
  obtain ⟨t, e1, e2⟩ := map_some he
  subst e2
  unfold cmI at e1
  split at e1
  · cases e1
    rw [px.int] at rx; rw [py.int] at ry
    exact ho pins s σ H _ _ v u Q I rx ry ⟨_, _, rfl, rfl, RepN.val0 sm (repBl _) k⟩
  · cases e1
theorem op_ltD : OpR X (compareOp .Lt) (rD X.K (cmR .lt)) := op_cmI op_lt rfl
theorem op_leD : OpR X (compareOp .LtE) (rD X.K (cmR .le)) := op_cmI op_le rfl
theorem op_gtD : OpR X (compareOp .Gt) (rD X.K (cmR .gt)) := op_cmI op_gt rfl
theorem op_geD : OpR X (compareOp .GtE) (rD X.K (cmR .ge)) := op_cmI op_ge rfl
theorem isNon_iff {K : PySem.W.Frag} {F H : Hp} {v : V} {d : D} (h : PRep K F H v d) : decide (v = .non) = isNon d := by
  cases d with
  | non => rw [h.non]; rfl
  | bl _ => rw [h.bl]; rfl
  | int _ => rw [h.int]; rfl
  | str _ => rw [h.str]; rfl
  | tup _ =>
    rcases h with h | ⟨a, _, _, rfl, _⟩
    · rw [Rep] at h; obtain ⟨a, _, rfl, _⟩ := h; rfl
    · rfl
  | lst _ =>
    rcases h with h | ⟨a, _, _, rfl, _⟩
    · rw [Rep] at h; obtain ⟨a, _, rfl, _⟩ := h; rfl
    · rfl
theorem op_isD : OpR X (compareOp .Is) (rD X.K (cmR .isN)) := by
  rintro pins s σ H x y v u Q I rx ry ⟨F, d, e, r, sm, px, py, he, k⟩
  obtain ⟨t, e1, e2⟩ := map_some (show (cmN false d e).map _ = some r from he)
  subst e2
  unfold cmN at e1
  split at e1
  · cases e1
    exact op_isN pins s σ H x y v u Q I rx ry ⟨py.non, by rw [isNon_iff px]; exact RepN.val0 sm (repBl _) k⟩
  · cases e1
theorem sx_cmp {o : Cm} {op : CmpOp} (ho : OpR X (compareOp op) (rD X.K (cmR o))) (ha : SX X c a pa) (hb : SX X c b pb) (hm : behindInMarks op b = false) : SX X c (.Compare a [op] [b] pos) (.cmp o pa pb) :=
  sx_op2 (fun h1 h2 => pe_cmpR ho h1 h2 hm) ha hb (fun ρ => by rw [HH.ev]) rfl
theorem sx_chain {o o' : Cm} {op op' : CmpOp} (ho : OpR X (compareOp op) (rD X.K (cmR o))) (ho' : OpR X (compareOp op') (rD X.K (cmR o'))) (ha : SX X c a pa) (hb : SX X c b pb) (hd : SX X c d pd)
    (hm : lastMarks [op, op'] [b, d] = false := by with_unfolding_all rfl) : SX X c (.Compare a [op, op'] [b, d] pos) (.chain o o' pa pb pd) := by
  obtain ⟨ta, tb, h1, h2, h3⟩ := ha.opd2 hb
  obtain ⟨td, h4, h5⟩ := hd.opd
  refine ⟨peImp (pe_chain ho ho' h1 h2 h4 hm) ?_, fun i h => by cases h⟩
  rintro σ H Q ⟨F, ρ, r, ρ', g, e, k⟩
  rw [HH.ev] at e
  obtain ⟨xy, ρ1, e1, e⟩ := bind_ok e
  obtain ⟨t, ρ2, e2, e⟩ := bind_ok e
  have zz := lift_ok e2; clear e2; obtain ⟨e2, e3⟩ := zz
  subst e3
  have hfl : flat xy.2 = true ∧ cm o xy.1 xy.2 = some t := by
    split at e2
    · rename_i hf; exact ⟨hf, e2⟩
    · cases e2
  obtain ⟨hfl, e2⟩ := hfl
  refine h3 g e1 fun v u F' H' s pv pu => ⟨F', xy.1, xy.2, .val (.bl t), s.gs.sub, pv, pu, by unfold cmR; rw [e2]; rfl, fun w F2 H2 x rn => ?_⟩
  have s2 := s.trans (x.stp s.gs)
  have rn : Rep X.K F2 w (.bl t) := rn
  rw [Rep] at rn
  subst rn
  refine ⟨t, rfl, ?_⟩
  cases t with
  | false =>
    rw [if_neg Bool.false_ne_true] at e ⊢
    cases e
    exact k _ F2 H2 s2 (show Rep X.K F2 _ _ from repBl _)
  | true =>
    rw [if_pos rfl] at e ⊢
    obtain ⟨z, ρ3, e3, e⟩ := bind_ok e
    obtain ⟨e4, e5⟩ := lift_ok e
    subst e5
    refine h5 s2.gs e3 fun w F3 H3 s3 pw => ⟨F3, xy.2, z, r, s3.gs.sub, ?_, pw, e4, fun w' F4 H4 x4 rn => ?_⟩
    · have x1 := x.fs
      have x2 := s3.fsub
      rcases pu with pu | ⟨_, _, _, _, _, _, h⟩
      · exact .inl ((pu.mono x1).mono x2)
      · rw [h] at hfl; cases hfl
    · have s4 := s2.trans s3
      exact k w' F4 H4 (s4.trans (x4.stp s4.gs)) (.later s4 (rn.repR s4.gs))
end
end HH
end
section
set_option linter.all false
set_option Elab.async false
set_option maxRecDepth 10000
namespace HH
open PySem L2 PySem.Spec PyProof.Rows
section
variable {X : Cx} {c : Call} {e a b d : Expr} {p pa pb pd : P} {pos : Pos} {rest : List Expr}
theorem asB_some {x : D} {k : Bool} (h : asB x = some k) : x = .bl k := by cases x <;> cases h; rfl
theorem asI_some {x : D} {k : Int} (h : asI x = some k) : x = .int k := by cases x <;> cases h; rfl
theorem RepR.bool {K : PySem.W.Frag} {F' H' H : Hp} {ρ' ρ : List Sl} {σ' σ : L2.St} {v : V} {r : R} {k : Bool} (h : RepR K F' ρ' σ' H' ρ σ H v r) (e : r.d = .bl k) : v = .bl k := by
  cases r with
  | val d => cases (show d = .bl k from e); have h : Rep K F' v (.bl k) := h; rw [Rep] at h; exact h
  | own ds => cases e
noncomputable def ST (X : Cx) (c : Call) (e : Expr) (p : P) : Prop := PT X e (tTr X.K (tru (HH.ev c p)))
noncomputable def SW (X : Cx) (c : Call) (e : Expr) (p : P) : Prop := PW X e (tTr X.K (tru (HH.ev c p)))
theorem SW.st (h : SW X c e p) : ST X c e p := PW.pt h
theorem tTr_of {t : TE} {Q : Bool → Hp → Prop} {σ : L2.St} {H : Hp} (hi : ∀ Q, tEv X.K (HH.ev c p) σ H Q → t σ H Q) (h : tTr X.K (tru (HH.ev c p)) σ H Q) : t σ H fun x H1 => ∃ k, x = .bl k ∧ Q k H1 := by
  obtain ⟨F, ρ, k, ρ', g, e, q⟩ := h
  obtain ⟨r, ρ1, e1, e2⟩ := bind_ok e
  have zz := lift_ok e2; clear e2; obtain ⟨e2, e3⟩ := zz
  subst e3
  exact hi _ ⟨F, ρ, r, ρ1, g, e1, fun v F' H' s rr => ⟨k, rr.bool (asB_some e2), q F' H' s⟩⟩
theorem st_val (h : SX X c e p) (he : ∀ whole, isTrue e X.env whole = (do let v ← whole; standAt e.pos; holding [v] (truthy v)) := by intro _; rfl) : ST X c e p :=
  ptImp (pt_val h.ev he) fun σ H Q q => tTr_of (fun _ z => z) q
theorem st_cmp {o : Cm} {op : CmpOp} (ho : OpR X (compareOp op) (rD X.K (cmR o))) (ha : SX X c a pa) (hb : SX X c b pb) (hm : behindInMarks op b = false) : ST X c (.Compare a [op] [b] pos) (.cmp o pa pb) := by
  obtain ⟨ta, tb, h1, h2, h3⟩ := ha.opd2 hb
  refine ptImp (pt_cmpR ho h1 h2 hm) fun σ H Q q => tTr_of (t := tOp (rD X.K (cmR o)) ta tb) (fun Q z => ?_) q
  obtain ⟨F, ρ, r, ρ', g, e, k⟩ := z
  rw [HH.ev] at e
  obtain ⟨xy, ρ1, e1, e2⟩ := bind_ok e
  have zz := lift_ok e2; clear e2; obtain ⟨e2, e3⟩ := zz
  subst e3
  refine h3 g e1 fun v u F' H' s pv pu => ⟨F', xy.1, xy.2, r, s.gs.sub, pv, pu, e2, fun w F2 H2 x rn => ?_⟩
  exact k w F2 H2 (s.trans (x.stp s.gs)) (.later s (rn.repR s.gs))
theorem st_not (ha : ST X c a pa) : ST X c (.UnaryOp .Not a pos) (.not pa) := by
  refine ptImp (pt_not ha) ?_
  rintro σ H Q ⟨F, ρ, k, ρ', g, e, q⟩
  unfold tru at e
  rw [HH.ev] at e
  obtain ⟨r, ρ1, e1, e2⟩ := bind_ok e
  obtain ⟨k', ρ2, e3, e4⟩ := bind_ok e1
  cases e4
  have zz := lift_ok e2; clear e2; obtain ⟨e2, e5⟩ := zz
  subst e5
  have e2 : (!k') = k := by cases e2; rfl
  exact ⟨F, ρ, k', _, g, e3, fun F' H' s => by show Q (!k') H'; rw [e2]; exact q F' H' s⟩
theorem tru_and (ρ : List Sl) : tru (HH.ev c (.and pa pb)) ρ = (tru (HH.ev c pa) ρ).bind fun x ρ => if x then tru (HH.ev c pb) ρ else .ok false ρ := by
  unfold tru
  rw [HH.ev]
  unfold tru
  cases HH.ev c pa ρ with
  | exc _ _ => rfl
  | stuck => rfl
  | ok r ρ1 =>
    simp only [Res.bind]
    cases h : asB r.d with
    | none => rfl
    | some k =>
      cases k with
      | false => rfl
      | true =>
        simp only [lift, if_true]
        cases HH.ev c pb ρ1 with
        | exc _ _ => rfl
        | stuck => rfl
        | ok r2 ρ2 =>
          simp only [Res.bind]
          cases h2 : asB r2.d with
          | none => rfl
          | some k2 => rfl
theorem tru_or (ρ : List Sl) : tru (HH.ev c (.or pa pb)) ρ = (tru (HH.ev c pa) ρ).bind fun x ρ => if x then .ok true ρ else tru (HH.ev c pb) ρ := by
  unfold tru
  rw [HH.ev]
  unfold tru
  cases HH.ev c pa ρ with
  | exc _ _ => rfl
  | stuck => rfl
  | ok r ρ1 =>
    simp only [Res.bind]
    cases h : asB r.d with
    | none => rfl
    | some k =>
      cases k with
      | true => rfl
      | false =>
        simp only [lift, Bool.false_eq_true, if_false]
        cases HH.ev c pb ρ1 with
        | exc _ _ => rfl
        | stuck => rfl
        | ok r2 ρ2 =>
          simp only [Res.bind]
          cases h2 : asB r2.d with
          | none => rfl
          | some k2 => rfl
theorem sw_and1 (ha : ST X c a pa) : SW X c (.BoolOp .And [a] pos) pa := pw_and1 ha
theorem sw_or1 (ha : ST X c a pa) : SW X c (.BoolOp .Or [a] pos) pa := pw_or1 ha
theorem sw_and (ha : ST X c a pa) (hb : SW X c (.BoolOp .And (b :: rest) pos) pb) : SW X c (.BoolOp .And (a :: b :: rest) pos) (.and pa pb) := by
  refine pwImp (pw_and ha hb) ?_
  rintro σ H Q ⟨F, ρ, k, ρ', g, e, q⟩
  rw [tru_and] at e
  obtain ⟨x, ρ1, e1, e⟩ := bind_ok e
  refine ⟨F, ρ, x, ρ1, g, e1, fun F1 H1 s1 => ?_⟩
  cases x with
  | true =>
    rw [if_pos rfl] at e ⊢
    exact ⟨F1, ρ1, k, ρ', s1.gs, e, fun F2 H2 s2 => q F2 H2 (s1.trans s2)⟩
  | false =>
    rw [if_neg Bool.false_ne_true] at e ⊢
    cases e
    exact q F1 H1 s1
theorem sw_or (ha : ST X c a pa) (hb : SW X c (.BoolOp .Or (b :: rest) pos) pb) : SW X c (.BoolOp .Or (a :: b :: rest) pos) (.or pa pb) := by
  refine pwImp (pw_or ha hb) ?_
  rintro σ H Q ⟨F, ρ, k, ρ', g, e, q⟩
  rw [tru_or] at e
  obtain ⟨x, ρ1, e1, e⟩ := bind_ok e
  refine ⟨F, ρ, x, ρ1, g, e1, fun F1 H1 s1 => ?_⟩
  cases x with
  | true =>
    rw [if_pos rfl] at e ⊢
    cases e
    exact q F1 H1 s1
  | false =>
    rw [if_neg Bool.false_ne_true] at e ⊢
    exact ⟨F1, ρ1, k, ρ', s1.gs, e, fun F2 H2 s2 => q F2 H2 (s1.trans s2)⟩
theorem sx_not (ha : SX X c a pa) : SX X c (.UnaryOp .Not a pos) (.not pa) := by
  refine ⟨peImp (pe_not ha.ev) ?_, fun i h => by cases h⟩
  rintro σ H Q ⟨F, ρ, r, ρ', g, e, k⟩
  rw [HH.ev] at e
  obtain ⟨x, ρ1, e1, e2⟩ := bind_ok e
  cases e2
  exact tTr_of (c := c) (fun _ z => z) ⟨F, ρ, x, _, g, e1, fun F' H' s => k _ F' H' s (show Rep X.K F' _ _ from repBl _)⟩
theorem sx_oneV {op} (ha : SX X c a pa) : PE X (.BoolOp op [a] pos) (tEv X.K (HH.ev c pa)) := pe_one ha.ev
theorem sx_and (ha : SX X c a pa) (hb : PE X (.BoolOp .And (b :: rest) pos) (tEv X.K (HH.ev c pb))) : SX X c (.BoolOp .And (a :: b :: rest) pos) (.and pa pb) := by
  refine ⟨peImp (pe_and ha.ev hb) ?_, fun i h => by cases h⟩
  rintro σ H Q ⟨F, ρ, r, ρ', g, e, k⟩
  rw [HH.ev] at e
  obtain ⟨x, ρ1, e1, e⟩ := bind_ok e
  refine tTr_of (c := c) (fun _ z => z) (Q := fun x H1 => if x = true then tEv X.K (HH.ev c pb) σ H1 Q else Q (.bl false) H1) ⟨F, ρ, x, ρ1, g, e1, fun F1 H1 s1 => ?_⟩
  cases x with
  | true =>
    rw [if_pos rfl] at e ⊢
    obtain ⟨y, ρ2, e2, e3⟩ := bind_ok e
    cases e3
    obtain ⟨r2, ρ3, e4, e5⟩ := bind_ok e2
    have zz := lift_ok e5; clear e5; obtain ⟨e5, e6⟩ := zz
    subst e6
    refine ⟨F1, ρ1, r2, _, s1.gs, e4, fun v F2 H2 s2 rr => ?_⟩
    rw [rr.bool (asB_some e5)]
    exact k _ F2 H2 (s1.trans s2) (show Rep X.K F2 _ _ from repBl _)
  | false =>
    rw [if_neg Bool.false_ne_true] at e ⊢
    cases e
    exact k _ F1 H1 s1 (show Rep X.K F1 _ _ from repBl _)
theorem evs_len : ∀ {ps : List P} {ρ ρ' : List Sl} {ds : List D}, evs c ps ρ = .ok ds ρ' → ds.length = ps.length
  | [], _, _, _, h => by rw [evs] at h; cases h; rfl
  | p :: ps, _, _, _, h => by
    rw [evs] at h
    obtain ⟨r, ρ1, _, h⟩ := bind_ok h
    obtain ⟨xs, ρ2, h2, h⟩ := bind_ok h
    cases h
    simp [evs_len h2]
theorem sa_nil : SA X c [] [] := ⟨paImp pa_nil fun σ H Q ⟨F, ρ, ds, ρ', g, e, k⟩ => by rw [evs] at e; cases e; exact k [] F H (.refl g) .nil, rfl⟩
theorem sa_cons {es : List Expr} {ps : List P} (ha : SX X c a pa) (hr : SA X c es ps) (hs : starEach (a :: es) X.env = (false, eval a X.env) :: starEach es X.env := by rfl) : SA X c (a :: es) (pa :: ps) := by
  refine ⟨paImp (pa_cons ha.ev hr.1 hs) ?_, by simp [hr.2]⟩
  rintro σ H Q ⟨F, ρ, ds, ρ', g, e, k⟩
  rw [evs] at e
  obtain ⟨r, ρ1, e1, e⟩ := bind_ok e
  obtain ⟨xs, ρ2, e2, e⟩ := bind_ok e
  cases e
  refine ⟨F, ρ, r, ρ1, g, e1, fun v F' H' s rr => ?_⟩
  obtain ⟨F1, s1, _, rp⟩ := s.frz rr
  refine ⟨F1, ρ1, xs, _, s1.gs, e2, fun vs F2 H2 s2 rs => ?_⟩
  exact k _ F2 H2 (s1.trans s2) (.cons (rp.mono s2.fsub) rs)
theorem Ext.rep_tup {K : PySem.W.Frag} {F H : Hp} {ρ ρ' : List Sl} {σ : L2.St} {H0 F0 : Hp} {Q : VK} {xs : List V} {ds : List D} (s : Stp K F0 ρ σ H0 F ρ' σ H) (r : Reps K F xs ds)
    (k : ∀ v F' H', Stp K F0 ρ σ H0 F' ρ' σ H' → RepR K F' ρ' σ H' ρ σ H0 v (.val (.tup ds)) → Q v H') (p : Addr) (hp : H p = none) : Q (.ref p) (upd H p (.tup xs)) :=
  newT s.gs.sub r hp fun v F' H' x rn => k v F' H' (s.trans (x.stp s.gs)) rn
theorem sx_tup {es : List Expr} {ps : List P} {x1} (h : SA X c es ps) (hz : ps.length ≤ sizeLine := by decide) : SX X c (.Tuple es x1 pos) (.tup ps) := by
  refine ⟨peImp (pe_tup h.1) ?_, fun i h => by cases h⟩
  rintro σ H Q ⟨F, ρ, r, ρ', g, e, k⟩
  rw [HH.ev] at e
  obtain ⟨ds, ρ1, e1, e⟩ := bind_ok e
  cases e
  exact ⟨F, ρ, ds, _, g, e1, fun vs F' H' s rs => ⟨by rw [rs.length, evs_len e1]; exact hz, fun p hp => Ext.rep_tup s rs k p hp⟩⟩
theorem sx_lst {es : List Expr} {ps : List P} (h : SA X c es ps) (hz : ps.length ≤ sizeLine := by decide) : SX X c (.List es pos) (.lst ps) := by
  refine ⟨peImp (pe_lst h.1) ?_, fun i h => by cases h⟩
  rintro σ H Q ⟨F, ρ, r, ρ', g, e, k⟩
  rw [HH.ev] at e
  obtain ⟨ds, ρ1, e1, e⟩ := bind_ok e
  cases e
  exact ⟨F, ρ, ds, _, g, e1, fun vs F' H' s rs => ⟨by rw [rs.length, evs_len e1]; exact hz, fun p hp => newL s.gs.sub rs hp fun v F2 H2 x rn => k v F2 H2 (s.trans (x.stp s.gs)) (.later s (rn.repR s.gs))⟩⟩
theorem at_get {ds : List D} {i : Int} {d : D} (h : at' ds i = some d) : ∃ j, L2.ixN ds.length i = some j ∧ ds[j]? = some d := bindO h
theorem ix_D : IxR X (rD X.K ixR) := by
  rintro value slice pins s σ H x y v u Q I rx ry ⟨F, d, e, r, sm, px, py, he, k⟩ hs
  unfold ixR at he
  obtain ⟨ds, e1, he⟩ := bindO he
  obtain ⟨i, e2, he⟩ := bindO he
  obtain ⟨z, e3, he⟩ := map_some he
  subst he
  cases asI_some e2
  rw [py.int] at ry
  obtain ⟨p, xs, rfl, hq, rs⟩ := px.items sm e1
  obtain ⟨j, h1, h2⟩ := at_get e3
  obtain ⟨w, h3, h4⟩ := rs.get h2
  have hat : atI xs i = some w := by unfold atI; rw [rs.length, h1]; exact h3
  rcases hq with hq | hq
  · exact ix_list value slice pins s σ H _ _ v u Q I rx ry ⟨p, xs, i, w, rfl, rfl, hq, hat, RepN.val0 sm h4 k⟩ hs
  · exact ix_tup value slice pins s σ H _ _ v u Q I rx ry ⟨p, xs, i, w, rfl, rfl, hq, hat, RepN.val0 sm h4 k⟩ hs
theorem sx_idx (ha : SX X c a pa) (hb : SX X c b pb) (hs : PlainIx b := by intro _ _; rfl) : SX X c (.Subscript a b pos) (.idx pa pb) :=
  sx_op2 (f := ixR) (fun h1 h2 => pe_ix ix_D h1 h2 hs) ha hb (fun ρ => by rw [HH.ev]) rfl
noncomputable def rB1 (K : PySem.W.Frag) (f : D → Option R) : List V → Hp → VK → Prop := fun xs H Q => ∃ x, xs = [x] ∧ rD1 K f x H Q
theorem sx_b1 {E : Expr} {f : D → Option R} {q : P} (hp : ∀ {t}, PA X [a] t → PE X E (tCB (rB1 X.K f) t)) (ha : SX X c a pa)
    (hq : ∀ ρ, HH.ev c q ρ = (HH.opd (isVar pa) (HH.ev c pa) ρ).bind fun x ρ => lift (f x) ρ) (hv : isVar q = none) (hs : starEach [a] X.env = (false, eval a X.env) :: starEach [] X.env := by rfl) : SX X c E q := by
  obtain ⟨ta, h1, h3⟩ := ha.opd
  refine ⟨peImp (hp (pa_cons h1 pa_nil hs)) ?_, fun i h => by rw [hv] at h; cases h⟩
  rintro σ H Q ⟨F, ρ, r, ρ', g, e, k⟩
  rw [hq] at e
  obtain ⟨x, ρ1, e1, e2⟩ := bind_ok e
  have zz := lift_ok e2; clear e2; obtain ⟨e2, e3⟩ := zz
  subst e3
  refine h3 g e1 fun v F' H' s pv => ⟨v, rfl, F', x, r, s.gs.sub, pv, e2, fun w F2 H2 x rn => ?_⟩
  exact k w F2 H2 (s.trans (x.stp s.gs)) (.later s (rn.repR s.gs))
theorem c_len : CallR X (.builtin "len") (rB1 X.K fun x => blt .len [x]) := by
  rintro pins s σ H xs us Q I r ⟨x, hx, F, d, r', sm, px, he, k⟩
  obtain ⟨ds, e1, he⟩ := map_some (show (items d).map _ = some r' from he)
  subst he
  obtain ⟨p, ys, rfl, hq, rs⟩ := px.items sm e1
  exact call_len_seq pins s σ H xs us Q I r ⟨p, ys, hx, hq, by rw [rs.length]; exact RepN.val0 sm (repInt _) k⟩
theorem c_list : CallR X (.type "list") (rB1 X.K fun x => blt .list [x]) := by
  rintro pins s σ H xs us Q I r ⟨x, hx, F, d, r', sm, px, he, k⟩
  obtain ⟨ds, e1, he⟩ := map_some (show (items d).map _ = some r' from he)
  subst he
  obtain ⟨p, ys, rfl, hq, rs⟩ := px.items sm e1
  exact call_list_of pins s σ H xs us Q I r ⟨p, ys, hx, hq, fun l hl => newL sm rs hl k⟩
theorem c_tuple : CallR X (.type "tuple") (rB1 X.K fun x => blt .tuple [x]) := by
  rintro pins s σ H xs us Q I r ⟨x, hx, F, d, r', sm, px, he, k⟩
  obtain ⟨ds, e1, he⟩ := map_some (show (items d).map _ = some r' from he)
  subst he
  cases d with
  | tup es =>
    cases e1
    obtain ⟨a, ys, rfl, hq, rs, rt⟩ := px.tup sm
    exact call_tuple_of pins s σ H xs us Q I r ⟨a, ys, hx, .inr ⟨hq, RepN.val0 sm rt k⟩⟩
  | lst es =>
    cases e1
    obtain ⟨a, ys, rfl, hq, rs⟩ := px.lst sm
    exact call_tuple_of pins s σ H xs us Q I r ⟨a, ys, hx, .inl ⟨hq, fun l hl => newT sm rs hl k⟩⟩
  | _ => cases e1
theorem sx_len {x : Str} {p' : Pos} (hx : x = "len") (hg : Gl X x) (hm : X.mg x = none) (ha : SX X c a pa) (hs : starEach [a] X.env = (false, eval a X.env) :: starEach [] X.env := by rfl) : SX X c (.Call (.Name x p') [a] [] pos) (.blt .len [pa]) := by
  subst hx; exact sx_b1 (fun h => pe_callB c_len hg hm PySem.boot_len h (he := hs)) ha (fun ρ => by rw [HH.ev]) rfl hs
theorem sx_list {x : Str} {p' : Pos} (hx : x = "list") (hg : Gl X x) (hm : X.mg x = none) (ha : SX X c a pa) (hs : starEach [a] X.env = (false, eval a X.env) :: starEach [] X.env := by rfl) : SX X c (.Call (.Name x p') [a] [] pos) (.blt .list [pa]) := by
  subst hx; exact sx_b1 (fun h => pe_callTy c_list hg hm (by decide +kernel) h (he := hs)) ha (fun ρ => by rw [HH.ev]) rfl hs
theorem sx_tuple {x : Str} {p' : Pos} (hx : x = "tuple") (hg : Gl X x) (hm : X.mg x = none) (ha : SX X c a pa) (hs : starEach [a] X.env = (false, eval a X.env) :: starEach [] X.env := by rfl) : SX X c (.Call (.Name x p') [a] [] pos) (.blt .tuple [pa]) := by
  subst hx; exact sx_b1 (fun h => pe_callTy c_tuple hg hm (by decide +kernel) h (he := hs)) ha (fun ρ => by rw [HH.ev]) rfl hs
end
end HH
end
section
set_option linter.all false
set_option Elab.async false
set_option maxRecDepth 10000
namespace HH
open PySem L2 PySem.Spec PyProof.Rows
noncomputable def spC (K : PySem.W.Frag) (np : Nat) (f : List Sl → Res R) : Sp := fun vs H Q _ => vs.length = np ∧ ∃ F args r args', GS K F args (vs.map some) H ∧ f args = .ok r args' ∧
  ∀ v F' σ' H', Stp K F args (vs.map some) H F' args' σ' H' → RepR K F' args' σ' H' args (vs.map some) H v r → Q v H'
section
variable {K : PySem.W.Frag}
noncomputable def AOne (K : PySem.W.Frag) (F : Hp) (ρ : List Sl) (σ : L2.St) (H : Hp) (ρ₀ : List Sl) (H₀ : Hp) (v : V) : Arg → Prop
  | .dat d => Rep K F v d
  | .tmp ds => ∃ x xs, v = .ref x ∧ H x = some (.lst xs) ∧ F x = none ∧ Reps K F xs ds ∧ ¬ Own ρ σ x ∧ (Own ρ₀ σ x ∨ H₀ x = none)
  | .nam i => σ[i]? = some (some v)
structure AOk (K : PySem.W.Frag) (F : Hp) (ρ : List Sl) (σ : L2.St) (H : Hp) (ρ₀ : List Sl) (H₀ : Hp) (as : List Arg) (vs : List V) : Prop where
  len : as.length = vs.length
  one : ∀ (j : Nat) (a : Arg) (v : V), as[j]? = some a → vs[j]? = some v → AOne K F ρ σ H ρ₀ H₀ v a
  dis : ∀ (j k : Nat) (ds es : List D) (x : Addr), as[j]? = some (.tmp ds) → as[k]? = some (.tmp es) → vs[j]? = some (.ref x) → vs[k]? = some (.ref x) → j = k
theorem AOne.later {F F' H H' H₀ : Hp} {ρ ρ' ρ₀ : List Sl} {σ : L2.St} {v : V} {a : Arg} (s : Stp K F ρ σ H F' ρ' σ H') (h : AOne K F ρ σ H ρ₀ H₀ v a) : AOne K F' ρ' σ H' ρ₀ H₀ v a := by
  cases a with
  | dat d => exact Rep.mono s.fsub h
  | nam i => exact h
  | tmp ds =>
    obtain ⟨x, xs, h1, h2, h3, h4, h5, h6⟩ := h
    refine ⟨x, xs, h1, s.keep x _ h2 h5, ?_, h4.mono s.fsub, fun o => ?_, h6⟩
    · cases q : F' x with
      | none => rfl
      | some o =>
        rcases s.fgr x h3 (by rw [q]; simp) with z | z
        · exact absurd z h5
        · rw [h2] at z; cases z
    · rcases s.ogr x o with z | z
      · exact h5 z
      · rw [h2] at z; cases z
theorem AOk.nil {F H H₀ : Hp} {ρ ρ₀ : List Sl} {σ : L2.St} : AOk K F ρ σ H ρ₀ H₀ [] [] := ⟨rfl, fun j a v h => by simp at h, fun j k ds es x h => by simp at h⟩
theorem AOk.cons {F H H₀ : Hp} {ρ ρ₀ : List Sl} {σ : L2.St} {a : Arg} {v : V} {as : List Arg} {vs : List V} (h : AOne K F ρ σ H ρ₀ H₀ v a) (t : AOk K F ρ σ H ρ₀ H₀ as vs)
    (hd : ∀ ds x, a = .tmp ds → v = .ref x → ∀ (k : Nat) es, as[k]? = some (.tmp es) → vs[k]? ≠ some (.ref x)) : AOk K F ρ σ H ρ₀ H₀ (a :: as) (v :: vs) := by
  refine ⟨by simp [t.len], fun j b u h1 h2 => ?_, fun j k ds es x h1 h2 h3 h4 => ?_⟩
  · cases j with
    | zero => simp at h1 h2; subst h1; subst h2; exact h
    | succ j => exact t.one j b u (by simpa using h1) (by simpa using h2)
  · cases j with
    | zero =>
      cases k with
      | zero => rfl
      | succ k => simp at h1 h3; exact absurd (by simpa using h4) (hd ds x h1 h3 k es (by simpa using h2))
    | succ j =>
      cases k with
      | zero => simp at h2 h4; exact absurd (by simpa using h3) (hd es x h2 h4 j ds (by simpa using h1))
      | succ k => rw [t.dis j k ds es x (by simpa using h1) (by simpa using h2) (by simpa using h3) (by simpa using h4)]
noncomputable def slotA (ρ : List Sl) : Arg → Sl → Prop
  | .dat d, s => s = .val false d
  | .tmp ds, s => s = .own false ds
  | .nam i, s => (∃ b d, ρ[i]? = some (.val b d) ∧ s = .val false d) ∨ (∃ b ds, ρ[i]? = some (.own b ds) ∧ s = .own true ds) ∨ ∃ ds, ρ[i]? = some (.lent ds) ∧ s = .lent ds
theorem bindA_ok {ρ : List Sl} : ∀ {as : List Arg} {used : List Nat} {args : List Sl}, bindA ρ as used = some args → args.length = as.length ∧
    (∀ (j : Nat) (a : Arg) (s : Sl), as[j]? = some a → args[j]? = some s → slotA ρ a s) ∧
    (∀ (j : Nat) (i : Nat) (s : Sl) ds, as[j]? = some (.nam i) → args[j]? = some s → lst? s = some ds → i ∉ used) ∧
    (∀ (j k : Nat) (i : Nat) (s t : Sl) ds es, as[j]? = some (.nam i) → as[k]? = some (.nam i) → args[j]? = some s → args[k]? = some t → lst? s = some ds → lst? t = some es → j = k)
  | [], used, args, h => by
    rw [bindA] at h; cases h
    exact ⟨rfl, fun j a s h => by simp at h, fun j i s ds h => by simp at h, fun j k i s t ds es h => by simp at h⟩
  | a :: as, used, args, h => by
    -- the head's slot, the tail's
    have key : ∃ s0 r used', args = s0 :: r ∧ bindA ρ as used' = some r ∧ slotA ρ a s0 ∧ ((∃ i ds, a = .nam i ∧ lst? s0 = some ds ∧ used' = i :: used ∧ i ∉ used) ∨ ((∀ i ds, a = .nam i → lst? s0 ≠ some ds) ∧ used' = used)) := by
      cases a with
      | dat d =>
        rw [bindA] at h
        obtain ⟨r, e1, e2⟩ := map_some h
        exact ⟨_, r, used, e2.symm, e1, rfl, .inr ⟨fun i ds z => (by cases z), rfl⟩⟩
      | tmp d =>
        rw [bindA] at h
        obtain ⟨r, e1, e2⟩ := map_some h
        exact ⟨_, r, used, e2.symm, e1, rfl, .inr ⟨fun i ds z => (by cases z), rfl⟩⟩
      | nam i =>
        rw [bindA] at h
        split at h
        · rename_i b d q
          obtain ⟨r, e1, e2⟩ := map_some h
          exact ⟨_, r, used, e2.symm, e1, .inl ⟨b, d, q, rfl⟩, .inr ⟨fun _ _ _ z => (by cases z), rfl⟩⟩
        · rename_i b ds q
          split at h
          · cases h
          · rename_i hu
            obtain ⟨r, e1, e2⟩ := map_some h
            exact ⟨_, r, _, e2.symm, e1, .inr (.inl ⟨b, ds, q, rfl⟩), .inl ⟨i, ds, rfl, rfl, rfl, by simpa using hu⟩⟩
        · rename_i ds q
          split at h
          · cases h
          · rename_i hu
            obtain ⟨r, e1, e2⟩ := map_some h
            exact ⟨_, r, _, e2.symm, e1, .inr (.inr ⟨ds, q, rfl⟩), .inl ⟨i, ds, rfl, rfl, rfl, by simpa using hu⟩⟩
        · cases h
    obtain ⟨s0, r, used', rfl, hr, hs0, hu⟩ := key
    obtain ⟨l1, l2, l3, l4⟩ := bindA_ok hr
    have sub : ∀ i, i ∉ used' → i ∉ used := fun i hi hm => by
      rcases hu with ⟨_, _, _, _, rfl, _⟩ | ⟨_, rfl⟩
      · exact hi (List.mem_cons_of_mem _ hm)
      · exact hi hm
    refine ⟨by simp [l1], fun j b s h1 h2 => ?_, fun j i s ds h1 h2 h3 => ?_, fun j k i s t ds es h1 h2 h3 h4 h5 h6 => ?_⟩
    · cases j with
      | zero => simp at h1 h2; subst h1; subst h2; exact hs0
      | succ j => exact l2 j b s (by simpa using h1) (by simpa using h2)
    · cases j with
      | zero =>
        simp at h1 h2; subst h1; subst h2
        rcases hu with ⟨i', _, e, _, _, hn⟩ | ⟨hn, _⟩
        · cases e; exact hn
        · exact absurd h3 (hn i ds rfl)
      | succ j => exact sub i (l3 j i s ds (by simpa using h1) (by simpa using h2) h3)
    · have z0 : ∀ (k : Nat) (t : Sl) es, a = .nam i → lst? s0 = some ds → (as[k]? = some (.nam i)) → r[k]? = some t → lst? t = some es → False := fun k t es ea e0 hk ht he => by
        rcases hu with ⟨i', _, e, _, rfl, hn⟩ | ⟨hn, _⟩
        · rw [ea] at e; cases e
          exact l3 k i t es hk ht he List.mem_cons_self
        · exact hn i ds ea e0
      have z1 : ∀ (k : Nat) (t : Sl) es, a = .nam i → lst? s0 = some es → (as[k]? = some (.nam i)) → r[k]? = some t → lst? t = some ds → False := fun k t es ea e0 hk ht he => by
        rcases hu with ⟨i', _, e, _, rfl, hn⟩ | ⟨hn, _⟩
        · rw [ea] at e; cases e
          exact l3 k i t ds hk ht he List.mem_cons_self
        · exact hn i es ea e0
      cases j with
      | zero =>
        cases k with
        | zero => rfl
        | succ k => simp at h1 h3; subst h3; exact (z0 k t es h1 h5 (by simpa using h2) (by simpa using h4) h6).elim
      | succ j =>
        cases k with
        | zero => simp at h2 h4; subst h4; exact (z1 j s es h2 h6 (by simpa using h1) (by simpa using h3) h5).elim
        | succ k => rw [l4 j k i s t ds es (by simpa using h1) (by simpa using h2) (by simpa using h3) (by simpa using h4) h5 h6]
theorem AOk.get {F H H₀ : Hp} {ρ ρ₀ : List Sl} {σ : L2.St} {as : List Arg} {vs : List V} (A : AOk K F ρ σ H ρ₀ H₀ as vs) {args : List Sl} {j : Nat} {s : Sl} (hl : args.length = as.length) (h : args[j]? = some s) :
    ∃ a v, as[j]? = some a ∧ vs[j]? = some v ∧ AOne K F ρ σ H ρ₀ H₀ v a := by
  have hj : j < args.length := (List.getElem?_eq_some_iff.mp h).1
  have h1 : j < as.length := by omega
  have h2 : j < vs.length := by rw [← A.len]; exact h1
  exact ⟨as[j], vs[j], by simp [h1], by simp [h2], A.one j _ _ (by simp [h1]) (by simp [h2])⟩
theorem args_gs {F H H₀ : Hp} {ρ ρ₀ : List Sl} {σ : L2.St} {as : List Arg} {vs : List V} {args : List Sl} (g : GS K F ρ σ H) (A : AOk K F ρ σ H ρ₀ H₀ as vs) (h : bindA ρ as [] = some args) : GS K F args (vs.map some) H := by
  obtain ⟨l1, l2, l3, l4⟩ := bindA_ok h
  have up : ∀ {j : Nat} {v : V}, vs[j]? = some v → (vs.map some)[j]? = some (some v) := fun e => by rw [List.getElem?_map, e]; rfl
  have dn : ∀ {j : Nat} {v : V}, (vs.map some)[j]? = some (some v) → vs[j]? = some v := fun {j v} e => by
    rw [List.getElem?_map] at e
    cases q : vs[j]? with
    | none => rw [q] at e; cases e
    | some w => rw [q] at e; cases e; rfl
  refine ⟨g.sub, by rw [l1, A.len, List.length_map], fun j b d e => ?_, fun j s ds e e' => ?_, fun j k x ⟨⟨s, ds, e1, e2⟩, e3⟩ ⟨⟨t, es, f1, f2⟩, f3⟩ => ?_⟩
  · obtain ⟨a, v, h1, h2, h3⟩ := A.get l1 e
    have h4 := l2 j a _ h1 e
    refine ⟨v, up h2, ?_⟩
    cases a with
    | dat d' => cases h4; exact h3
    | tmp ds => cases h4
    | nam i =>
      rcases h4 with ⟨b', d', q1, q2⟩ | ⟨_, _, _, q2⟩ | ⟨_, _, q2⟩
      · cases q2
        obtain ⟨w, q3, q4⟩ := g.val i b' d q1
        have h3 : σ[i]? = some (some v) := h3
        rw [h3] at q3; cases q3
        exact q4
      · cases q2
      · cases q2
  · obtain ⟨a, v, h1, h2, h3⟩ := A.get l1 e
    have h4 := l2 j a _ h1 e
    cases a with
    | dat d' => cases h4; cases e'
    | tmp es =>
      cases h4; cases e'
      obtain ⟨x, xs, rfl, q2, q3, q4, _⟩ := h3
      exact ⟨x, xs, up h2, q2, q3, q4⟩
    | nam i =>
      have h3 : σ[i]? = some (some v) := h3
      rcases h4 with ⟨b', d', q1, q2⟩ | ⟨b', es, q1, q2⟩ | ⟨es, q1, q2⟩
      · cases q2; cases e'
      · cases q2; cases e'
        obtain ⟨x, xs, q3, q4⟩ := g.own i _ ds q1 rfl
        rw [h3] at q3; cases q3
        exact ⟨x, xs, up h2, q4⟩
      · cases q2; cases e'
        obtain ⟨x, xs, q3, q4⟩ := g.own i _ ds q1 rfl
        rw [h3] at q3; cases q3
        exact ⟨x, xs, up h2, q4⟩
  · obtain ⟨a, v, h1, h2, h3⟩ := A.get l1 e1
    obtain ⟨a', v', h1', h2', h3'⟩ := A.get l1 f1
    have e3 := dn e3
    have f3 := dn f3
    rw [h2] at e3; cases e3
    rw [h2'] at f3; cases f3
    have s1 := l2 j a _ h1 e1
    have s2 := l2 k a' _ h1' f1
    have nm : ∀ {i : Nat} {s : Sl} {ds : List D}, lst? s = some ds → slotA ρ (.nam i) s → ∃ s' ds', ρ[i]? = some s' ∧ lst? s' = some ds' := fun {i s ds} l z => by
      rcases z with ⟨_, _, _, z⟩ | ⟨b, es, q, _⟩ | ⟨es, q, _⟩
      · subst z; cases l
      · exact ⟨_, es, q, rfl⟩
      · exact ⟨_, es, q, rfl⟩
    cases a with
    | dat d => cases s1; cases e2
    | tmp ds1 =>
      cases a' with
      | dat d => cases s2; cases f2
      | tmp ds2 => exact A.dis j k ds1 ds2 x h1 h1' h2 h2'
      | nam i =>
        obtain ⟨y, _, q1, _, _, _, q2, _⟩ := h3
        cases q1
        obtain ⟨s', ds', q3, q4⟩ := nm f2 s2
        exact absurd ⟨i, ⟨s', ds', q3, q4⟩, h3'⟩ q2
    | nam i =>
      obtain ⟨s', ds', q3, q4⟩ := nm e2 s1
      cases a' with
      | dat d => cases s2; cases f2
      | tmp ds2 =>
        obtain ⟨y, _, q1, _, _, _, q2, _⟩ := h3'
        cases q1
        exact absurd ⟨i, ⟨s', ds', q3, q4⟩, h3⟩ q2
      | nam i' =>
        obtain ⟨s'', ds'', q5, q6⟩ := nm f2 s2
        have := g.dis i i' x ⟨⟨s', ds', q3, q4⟩, h3⟩ ⟨⟨s'', ds'', q5, q6⟩, h3'⟩
        subst this
        exact l4 j k i s t ds es h1 h1' e1 f1 e2 f2
theorem backA_get {as : List Arg} {ss : List Sl} : ∀ (ρ : List Sl) (n i : Nat), (backA as ss n ρ)[i]? = (ρ[i]?).map fun s => backS s (lookA (n + i) as ss)
  | [], n, i => by simp [backA]
  | s :: ρ, n, 0 => by simp [backA]
  | s :: ρ, n, i + 1 => by
    rw [backA]
    simp only [List.getElem?_cons_succ]
    rw [backA_get ρ (n + 1) i]
    have : n + 1 + i = n + (i + 1) := by omega
    rw [this]
theorem backA_len {as : List Arg} {ss : List Sl} : ∀ (ρ : List Sl) (n : Nat), (backA as ss n ρ).length = ρ.length
  | [], n => rfl
  | s :: ρ, n => by rw [backA]; simp [backA_len ρ]
theorem lookA_some {i : Nat} : ∀ {as : List Arg} {ss : List Sl} {t : Sl}, lookA i as ss = some t → ∃ j : Nat, as[j]? = some (.nam i) ∧ ss[j]? = some t
  | [], _, _, h => by simp [lookA] at h
  | a :: as, [], _, h => by cases a <;> simp [lookA] at h
  | a :: as, s :: ss, t, h => by
    have tl : lookA i as ss = some t → ∃ j : Nat, (a :: as)[j]? = some (.nam i) ∧ (s :: ss)[j]? = some t := fun h => by
      obtain ⟨j, h1, h2⟩ := lookA_some h
      exact ⟨j + 1, by simpa using h1, by simpa using h2⟩
    cases a with
    | dat d => exact tl (by simpa [lookA] using h)
    | tmp d => exact tl (by simpa [lookA] using h)
    | nam k =>
      rw [lookA] at h
      split at h
      · rename_i hk; cases h; subst hk; exact ⟨0, rfl, rfl⟩
      · exact tl h
theorem lookA_none {i : Nat} : ∀ {as : List Arg} {ss : List Sl}, as.length = ss.length → lookA i as ss = none → ∀ j : Nat, as[j]? ≠ some (.nam i)
  | [], _, _, _ => fun j h => by simp at h
  | a :: as, [], hl, _ => by simp at hl
  | a :: as, s :: ss, hl, h => fun j hj => by
    have hl' : as.length = ss.length := by simpa using hl
    have tl : lookA i as ss = none ∧ a ≠ .nam i := by
      cases a with
      | dat d => exact ⟨by simpa [lookA] using h, by simp⟩
      | tmp d => exact ⟨by simpa [lookA] using h, by simp⟩
      | nam k =>
        rw [lookA] at h
        split at h
        · cases h
        · rename_i hk; exact ⟨h, fun e => hk (by cases e; rfl)⟩
    cases j with
    | zero => simp at hj; exact tl.2 hj
    | succ j => exact lookA_none hl' tl.1 j (by simpa using hj)
theorem call_stp {F₀ H₀ F H F' H' : Hp} {ρ₀ ρ args args' : List Sl} {σ σ' : L2.St} {as : List Arg} {vs : List V} (s0 : Stp K F₀ ρ₀ σ H₀ F ρ σ H) (A : AOk K F ρ σ H ρ₀ H₀ as vs) (hb : bindA ρ as [] = some args)
    (s : Stp K F args (vs.map some) H F' args' σ' H') :
    Stp K F₀ ρ₀ σ H₀ F' (backA as args' 0 ρ) σ H' ∧ ∀ v r, RepR K F' args' σ' H' args (vs.map some) H v r → RepR K F' (backA as args' 0 ρ) σ H' ρ₀ σ H₀ v r := by
  have g := s0.gs
  obtain ⟨l1, l2, l3, l4⟩ := bindA_ok hb
  have up : ∀ {j : Nat} {v : V}, vs[j]? = some v → (vs.map some)[j]? = some (some v) := fun e => by rw [List.getElem?_map, e]; rfl
  have dn : ∀ {j : Nat} {v : V}, (vs.map some)[j]? = some (some v) → vs[j]? = some v := fun {j v} e => by
    rw [List.getElem?_map] at e
    cases q : vs[j]? with
    | none => rw [q] at e; cases e
    | some w => rw [q] at e; cases e; rfl
  have la : as.length = args'.length := by rw [s.len, l1]
  -- whose are the lists that the callee holds
  have own : ∀ b, Own args (vs.map some) b → (∃ (j : Nat) (ds : List D), as[j]? = some (Arg.tmp ds) ∧ vs[j]? = some (V.ref b) ∧ ¬ Own ρ σ b ∧ (Own ρ₀ σ b ∨ H₀ b = none)) ∨ Own ρ σ b := fun b ⟨j, ⟨sl, ds, e1, e2⟩, e3⟩ => by
    obtain ⟨a, v, h1, h2, h3⟩ := A.get l1 e1
    have s1 := l2 j a _ h1 e1
    have e3 := dn e3
    rw [h2] at e3; cases e3
    cases a with
    | dat d => cases s1; cases e2
    | tmp es =>
      obtain ⟨x, _, q1, _, _, _, q2, q3⟩ := h3
      cases q1
      exact .inl ⟨j, es, h1, h2, q2, q3⟩
    | nam i =>
      right
      rcases s1 with ⟨_, _, _, z⟩ | ⟨b', es, q, _⟩ | ⟨es, q, _⟩
      · subst z; cases e2
      · exact ⟨i, ⟨_, es, q, rfl⟩, h3⟩
      · exact ⟨i, ⟨_, es, q, rfl⟩, h3⟩
  have back : ∀ b, Own ρ σ b ∨ H b = none → Own ρ₀ σ b ∨ H₀ b = none := fun b h => by
    rcases h with h | h
    · exact s0.ogr b h
    · by_cases ho : Own ρ₀ σ b
      · exact .inl ho
      · right
        cases e : H₀ b with
        | none => rfl
        | some o => rw [s0.keep b o e ho] at h; cases h
  have own' : ∀ b, Own args (vs.map some) b → Own ρ₀ σ b ∨ H₀ b = none := fun b h => by
    rcases own b h with ⟨_, _, _, _, _, z⟩ | z
    · exact z
    · exact back b (.inl z)
  -- a name's slot behind the call
  have slot : ∀ {i : Nat} {t : Sl}, (backA as args' 0 ρ)[i]? = some t → ∃ s1, ρ[i]? = some s1 ∧ t = backS s1 (lookA i as args') := fun {i t} h => by
    rw [backA_get] at h
    obtain ⟨s1, e1, e2⟩ := map_some h
    exact ⟨s1, e1, by rw [← e2, Nat.zero_add]⟩
  have slot' : ∀ {i : Nat} {s1 : Sl}, ρ[i]? = some s1 → (backA as args' 0 ρ)[i]? = some (backS s1 (lookA i as args')) := fun {i s1} h => by
    rw [backA_get, h, Nat.zero_add]; rfl
  -- what the callee left of a list that was lent to it
  have lent : ∀ {i j : Nat} {s1 t : Sl} {ds : List D}, ρ[i]? = some s1 → lst? s1 = some ds → as[j]? = some (.nam i) → args'[j]? = some t →
      ∃ v s2, σ[i]? = some (some v) ∧ σ'[j]? = some (some v) ∧ args[j]? = some s2 ∧ lkOk s2 t ∧ ((∃ b, s1 = .own b ds ∧ s2 = .own true ds) ∨ (s1 = .lent ds ∧ s2 = .lent ds)) := fun {i j s1 t ds} h1 h2 h3 h4 => by
    have hj : j < args.length := by rw [l1]; exact (List.getElem?_eq_some_iff.mp h3).1
    have e1 : args[j]? = some args[j] := by simp [hj]
    obtain ⟨a, v, q1, q2, q3⟩ := A.get l1 e1
    rw [h3] at q1; cases q1
    have q4 := l2 j _ _ h3 e1
    have kind : (∃ b, s1 = .own b ds ∧ args[j] = .own true ds) ∨ (s1 = .lent ds ∧ args[j] = .lent ds) := by
      rcases q4 with ⟨_, _, z, _⟩ | ⟨b, es, z, z'⟩ | ⟨es, z, z'⟩
      · rw [h1] at z; cases z; cases h2
      · rw [h1] at z; cases z; cases h2; exact .inl ⟨b, rfl, z'⟩
      · rw [h1] at z; cases z; cases h2; exact .inr ⟨rfl, z'⟩
    have lk : lkd args[j] = true := by rcases kind with ⟨_, _, z⟩ | ⟨_, z⟩ <;> rw [z] <;> rfl
    obtain ⟨z1, s', z2, z3⟩ := s.lk j _ e1 lk
    rw [h4] at z2; cases z2
    exact ⟨v, _, q3, by rw [z1]; exact up q2, e1, z3, kind⟩
  have ownB : ∀ {i : Nat} {x : Addr}, OwnAt (backA as args' 0 ρ) σ i x → OwnAt ρ σ i x := fun {i x} ⟨⟨t, ds, e1, e2⟩, e3⟩ => by
    obtain ⟨s1, q1, q2⟩ := slot e1
    refine ⟨?_, e3⟩
    cases s1 with
    | unb => subst q2; cases e2
    | val b d => subst q2; cases e2
    | own b es => exact ⟨_, es, q1, rfl⟩
    | lent es => exact ⟨_, es, q1, rfl⟩
  refine ⟨?_, fun v r h => ?_⟩
  rotate_left
  · cases r with
    | val d => exact h
    | own ds =>
      obtain ⟨x, xs, h1, h2, h3, h4, h5, h6⟩ := h
      refine ⟨x, xs, h1, h2, h3, h4, fun ⟨i, h⟩ => ?_, ?_⟩
      · have hO := ownB h
        obtain ⟨⟨s1, ds1, q1, q2⟩, q3⟩ := hO
        obtain ⟨x', xs', w1, w2, _⟩ := g.own i s1 ds1 q1 q2
        rw [q3] at w1; cases w1
        rcases h6 with h6 | h6
        · rcases own x h6 with ⟨_, _, _, _, z, _⟩ | _
          · exact z ⟨i, ⟨s1, ds1, q1, q2⟩, q3⟩
          · -- a name was lent
            obtain ⟨j, ⟨sl, es, w3, w4⟩, w5⟩ := h6
            obtain ⟨a', v', y1, y2, y3⟩ := A.get l1 w3
            have sa := l2 j a' _ y1 w3
            have w5 := dn w5
            rw [y2] at w5; cases w5
            cases a' with
            | dat d => cases sa; cases w4
            | tmp es' => obtain ⟨_, _, u1, _, _, _, u2, _⟩ := y3; cases u1; exact u2 ⟨i, ⟨s1, ds1, q1, q2⟩, q3⟩
            | nam i' =>
              have ex : ∃ s' ds', ρ[i']? = some s' ∧ lst? s' = some ds' := by
                rcases sa with ⟨_, _, _, z⟩ | ⟨b, es, q, _⟩ | ⟨es, q, _⟩
                · subst z; cases w4
                · exact ⟨_, es, q, rfl⟩
                · exact ⟨_, es, q, rfl⟩
              have := g.dis i i' x ⟨⟨s1, ds1, q1, q2⟩, q3⟩ ⟨ex, y3⟩
              subst this
              have hj : j < args'.length := by rw [← la]; exact (List.getElem?_eq_some_iff.mp y1).1
              have e' : args'[j]? = some args'[j] := by simp [hj]
              obtain ⟨v2, s2, u1, u2, u3, u4, u5⟩ := lent q1 q2 y1 e'
              rw [q3] at u1; cases u1
              -- the slot behind the call is a list's
              obtain ⟨⟨t, dt, t1, t2⟩, _⟩ := h
              obtain ⟨s3, t3, t4⟩ := slot t1
              rw [q1] at t3; cases t3
              have lo : ∃ t5, lookA i as args' = some t5 := by
                cases hl : lookA i as args' with
                | none => exact absurd y1 (lookA_none la hl j)
                | some t5 => exact ⟨t5, rfl⟩
              obtain ⟨t5, hl⟩ := lo
              obtain ⟨j2, t6, t7⟩ := lookA_some hl
              have hj2 : j2 < args.length := by rw [l1]; exact (List.getElem?_eq_some_iff.mp t6).1
              obtain ⟨_, s6, _, v2', v3', v4', v5'⟩ := lent q1 q2 t6 t7
              have l4' : j2 = j := by
                have a1 : lst? s6 = some ds1 := by rcases v5' with ⟨_, _, z⟩ | ⟨_, z⟩ <;> rw [z] <;> rfl
                have a2 : lst? s2 = some ds1 := by rcases u5 with ⟨_, _, z⟩ | ⟨_, z⟩ <;> rw [z] <;> rfl
                exact l4 j2 j i s6 s2 ds1 ds1 t6 y1 v3' u3 a1 a2
              subst l4'
              rw [e'] at t7; cases t7
              rw [hl] at t4
              refine h5 ⟨j2, ?_, u2⟩
              rcases u5 with ⟨b, z1, z2⟩ | ⟨z1, z2⟩
              · subst z1; subst z2
                rcases u4 with ⟨d2, z⟩ | ⟨d2, z⟩
                · exact ⟨_, d2, e', by rw [z]; rfl⟩
                · rw [z] at t4; subst t4; cases t2
              · subst z1; subst z2
                exact ⟨_, ds1, e', by rw [show args'[j2] = .lent ds1 from u4]; rfl⟩
        · rw [w2] at h6; cases h6
      · rcases h6 with h6 | h6
        · exact own' x h6
        · exact back x (.inr h6)
  refine ⟨⟨s.gs.sub, by rw [backA_len]; exact g.len, fun i b d e => ?_, fun i t ds e e' => ?_, fun i j x h1 h2 => g.dis i j x (ownB h1) (ownB h2)⟩, s0.fsub.trans s.fsub, fun b n n' => ?_, fun b o h n => ?_, fun b ⟨i, h⟩ => back b (.inl ⟨i, ownB h⟩), by rw [backA_len]; exact s0.len, fun i s1 h l => ?_⟩
  · -- data
    obtain ⟨s1, q1, q2⟩ := slot e
    cases s1 with
    | unb => cases q2
    | lent es => cases q2
    | val b' d' =>
      cases q2
      obtain ⟨v, z1, z2⟩ := g.val i b d q1
      exact ⟨v, z1, z2.mono s.fsub⟩
    | own b' es =>
      cases hl : lookA i as args' with
      | none => rw [hl] at q2; cases q2
      | some t =>
        rw [hl] at q2
        obtain ⟨j, z1, z2⟩ := lookA_some hl
        obtain ⟨v, s2, y1, y2, y3, y4, y5⟩ := lent q1 rfl z1 z2
        cases t with
        | unb => cases q2
        | own _ _ => cases q2
        | lent _ => cases q2
        | val b2 d2 =>
          cases q2
          obtain ⟨w, x1, x2⟩ := s.gs.val j b2 d z2
          rw [y2] at x1; cases x1
          exact ⟨v, y1, x2⟩
  · -- lists
    obtain ⟨s1, q1, q2⟩ := slot e
    -- a list that was not lent
    have stay : ∀ es, lst? s1 = some es → (∀ j : Nat, as[j]? ≠ some (.nam i)) → t = s1 → ∃ (a : Addr) (xs : List V), σ[i]? = some (some (V.ref a)) ∧ H' a = some (.lst xs) ∧ F' a = none ∧ Reps K F' xs ds := fun es he hn ht => by
      subst ht
      rw [he] at e'; cases e'
      obtain ⟨a, xs, z1, z2, z3, z4⟩ := g.own i _ ds q1 he
      have no : ¬ Own args (vs.map some) a := fun h => by
        obtain ⟨j, ⟨sl, es, w1, w2⟩, w3⟩ := h
        obtain ⟨a', v, h1, h2, h3⟩ := A.get l1 w1
        have sa := l2 j a' _ h1 w1
        have w3 := dn w3
        rw [h2] at w3; cases w3
        cases a' with
        | dat d => cases sa; cases w2
        | tmp es => obtain ⟨x, _, y1, _, _, _, y2, _⟩ := h3; cases y1; exact y2 ⟨i, ⟨_, ds, q1, he⟩, z1⟩
        | nam i' =>
          have : ∃ s' ds', ρ[i']? = some s' ∧ lst? s' = some ds' := by
            rcases sa with ⟨_, _, _, z⟩ | ⟨b, es, q, _⟩ | ⟨es, q, _⟩
            · subst z; cases w2
            · exact ⟨_, es, q, rfl⟩
            · exact ⟨_, es, q, rfl⟩
          have := g.dis i i' a ⟨⟨_, ds, q1, he⟩, z1⟩ ⟨this, h3⟩
          subst this
          exact hn j h1
      refine ⟨a, xs, z1, s.keep a _ z2 no, ?_, z4.mono s.fsub⟩
      cases q : F' a with
      | none => rfl
      | some o =>
        rcases s.fgr a z3 (by rw [q]; simp) with z | z
        · exact absurd z no
        · rw [z2] at z; cases z
    cases hl : lookA i as args' with
    | none =>
      have hn := lookA_none la hl
      rw [hl] at q2
      cases s1 with
      | unb => subst q2; cases e'
      | val b' d' => subst q2; cases e'
      | own b' es => exact stay es rfl hn q2
      | lent es => exact stay es rfl hn q2
    | some t2 =>
      rw [hl] at q2
      obtain ⟨j, z1, z2⟩ := lookA_some hl
      cases s1 with
      | unb => subst q2; cases e'
      | val b' d' => subst q2; cases e'
      | own b' es =>
        obtain ⟨v, s2, y1, y2, y3, y4, y5⟩ := lent q1 rfl z1 z2
        have : t2 ≠ .unb ∧ ∀ x, t2 ≠ .lent x := by
          rcases y5 with ⟨_, _, y5⟩ | ⟨y5, _⟩
          · subst y5; rcases y4 with ⟨_, rfl⟩ | ⟨_, rfl⟩ <;> simp
          · cases y5
        cases t2 with
        | unb => exact absurd rfl this.1
        | lent x => exact absurd rfl (this.2 x)
        | val b2 d2 => subst q2; cases e'
        | own b2 es2 =>
          subst q2; cases e'
          obtain ⟨a, xs, x1, x2⟩ := s.gs.own j _ ds z2 rfl
          rw [y2] at x1; cases x1
          exact ⟨a, xs, y1, x2⟩
      | lent es =>
        obtain ⟨v, s2, y1, y2, y3, y4, y5⟩ := lent q1 rfl z1 z2
        have ht : t = .lent es := by rw [q2]; cases t2 <;> rfl
        subst ht
        cases e'
        rcases y5 with ⟨_, y5, _⟩ | ⟨_, y5⟩
        · cases y5
        · subst y5
          cases (show t2 = .lent ds from y4)
          obtain ⟨a, xs, x1, x2⟩ := s.gs.own j _ ds z2 rfl
          rw [y2] at x1; cases x1
          exact ⟨a, xs, y1, x2⟩
  · by_cases q : F b = none
    · rcases s.fgr b q n' with z | z
      · exact own' b z
      · exact back b (.inr z)
    · exact s0.fgr b n q
  · refine s.keep b o (s0.keep b o h n) fun z => ?_
    rcases own' b z with z | z
    · exact n z
    · rw [h] at z; cases z
  · obtain ⟨e1, s2, h2, k2⟩ := s0.lk i s1 h l
    refine ⟨e1, _, slot' h2, ?_⟩
    have l2' := k2.lkd l
    refine lkOk.trans l k2 ?_
    cases s2 with
    | unb => cases l2'
    | val b d => exact lkOk.refl _
    | lent es =>
      cases lookA i as args' with
      | none => rfl
      | some t => cases t <;> rfl
    | own b es =>
      cases b with
      | false => cases l2'
      | true =>
        cases lookA i as args' with
        | none => exact .inl ⟨_, rfl⟩
        | some t =>
          cases t with
          | unb => exact .inl ⟨_, rfl⟩
          | lent _ => exact .inl ⟨_, rfl⟩
          | own _ ds => exact .inl ⟨_, rfl⟩
          | val _ d => exact .inr ⟨_, rfl⟩
theorem AOk.rebase {F1 H1 F2 H2 F H : Hp} {ρ ρ1 ρ2 : List Sl} {σ : L2.St} {as : List Arg} {vs : List V} (a : Stp K F ρ σ H F1 ρ1 σ H1) (A : AOk K F2 ρ2 σ H2 ρ1 H1 as vs) : AOk K F2 ρ2 σ H2 ρ H as vs := by
  refine ⟨A.len, fun j b v h1 h2 => ?_, A.dis⟩
  have h := A.one j b v h1 h2
  cases b with
  | dat d => exact h
  | nam i => exact h
  | tmp ds =>
    obtain ⟨x, xs, q1, q2, q3, q4, q5, q6⟩ := h
    refine ⟨x, xs, q1, q2, q3, q4, q5, ?_⟩
    rcases q6 with q6 | q6
    · exact a.ogr x q6
    · by_cases ho : Own ρ σ x
      · exact .inl ho
      · right
        cases e : H x with
        | none => rfl
        | some o => rw [a.keep x o e ho] at q6; cases q6
theorem AOk.consR {F1 H1 F2 H2 F H : Hp} {ρ ρ1 ρ2 : List Sl} {σ : L2.St} {as : List Arg} {vs : List V} {v : V} {r : R} (s1 : Stp K F ρ σ H F1 ρ1 σ H1) (rr : RepR K F1 ρ1 σ H1 ρ σ H v r) (s2 : Stp K F1 ρ1 σ H1 F2 ρ2 σ H2)
    (A : AOk K F2 ρ2 σ H2 ρ1 H1 as vs) : AOk K F2 ρ2 σ H2 ρ H (argOf r :: as) (v :: vs) := by
  have h1 : AOne K F1 ρ1 σ H1 ρ H v (argOf r) := by
    cases r with
    | val d => exact rr
    | own ds => exact rr
  refine .cons (h1.later s2) (A.rebase s1) fun ds x ea ev k es ek evk => ?_
  cases r with
  | val d => cases ea
  | own ds' =>
    obtain ⟨y, xs, q1, q2, q3, q4, q5, q6⟩ := rr
    rw [ev] at q1; cases q1
    have h := A.one k _ _ ek evk
    obtain ⟨z, zs, w1, _, _, _, _, w6⟩ := h
    cases w1
    rcases w6 with w6 | w6
    · exact q5 w6
    · rw [q2] at w6; cases w6
end
end HH
end
section
set_option linter.all false
set_option Elab.async false
set_option maxRecDepth 10000
namespace HH
open PySem L2 PySem.Spec PyProof.Rows
section
variable {K : PySem.W.Frag} {F F1 H H1 : Hp} {ρ ρ1 ρ2 : List Sl} {σ σ1 : L2.St}
theorem put_ok {i : Nat} {s : Sl} (h : put ρ i s = some ρ1) : ∃ s0, ρ[i]? = some s0 ∧ lkd s0 = false ∧ ρ1 = ρ.set i s := by
  unfold put at h
  split at h
  · rename_i q; cases h; exact ⟨_, q, rfl, rfl⟩
  · rename_i q; cases h; exact ⟨_, q, rfl, rfl⟩
  · rename_i q; cases h; exact ⟨_, q, rfl, rfl⟩
  · cases h
theorem Stp.put {i : Nat} {v : V} {r : R} (s : Stp K F ρ σ H F1 ρ1 σ1 H1) (rr : RepR K F1 ρ1 σ1 H1 ρ σ H v r) (h : HH.put ρ1 i (slOf r) = some ρ2) : Stp K F ρ σ H F1 ρ2 (σ1.set i (some v)) H1 := by
  obtain ⟨s0, h0, hl, rfl⟩ := put_ok h
  have hi : i < ρ1.length := (List.getElem?_eq_some_iff.mp h0).1
  have hi' : i < σ1.length := by rw [← s.gs.len]; exact hi
  have old : ∀ {j : Nat} {a : Addr}, j ≠ i → OwnAt (ρ1.set i (slOf r)) (σ1.set i (some v)) j a → OwnAt ρ1 σ1 j a := fun {j a} hj ⟨⟨t, ds, e1, e2⟩, e3⟩ => by
    rw [List.getElem?_set_ne (Ne.symm hj)] at e1 e3
    exact ⟨⟨t, ds, e1, e2⟩, e3⟩
  have new : ∀ {a : Addr}, OwnAt (ρ1.set i (slOf r)) (σ1.set i (some v)) i a → ¬ Own ρ1 σ1 a ∧ (Own ρ σ a ∨ H a = none) := fun {a} ⟨⟨t, ds, e1, e2⟩, e3⟩ => by
    rw [List.getElem?_set_self hi] at e1
    rw [List.getElem?_set_self hi'] at e3
    cases e1; cases e3
    cases r with
    | val d => cases e2
    | own es => obtain ⟨x, xs, q1, q2, q3, q4, q5, q6⟩ := rr; cases q1; exact ⟨q5, q6⟩
  refine ⟨⟨s.gs.sub, by simp [s.gs.len], fun j b d e => ?_, fun j t ds e e' => ?_, fun j k a h1 h2 => ?_⟩, s.fsub, s.fgr, s.keep, fun a ⟨j, hj⟩ => ?_, by simp [s.len], fun j t e l => ?_⟩
  · by_cases hj : j = i
    · subst hj
      rw [List.getElem?_set_self hi] at e
      cases r with
      | own es => cases e
      | val d' => cases e; exact ⟨v, List.getElem?_set_self hi', rr⟩
    · rw [List.getElem?_set_ne (Ne.symm hj)] at e ⊢
      exact s.gs.val j b d e
  · by_cases hj : j = i
    · subst hj
      rw [List.getElem?_set_self hi] at e
      cases r with
      | val d' => cases e; cases e'
      | own es =>
        cases e; cases e'
        obtain ⟨x, xs, rfl, q2, q3, q4, _⟩ := rr
        exact ⟨x, xs, List.getElem?_set_self hi', q2, q3, q4⟩
    · rw [List.getElem?_set_ne (Ne.symm hj)] at e ⊢
      exact s.gs.own j t ds e e'
  · by_cases hj : j = i
    · by_cases hk : k = i
      · rw [hj, hk]
      · subst hj; exact absurd ⟨k, old hk h2⟩ (new h1).1
    · by_cases hk : k = i
      · subst hk; exact absurd ⟨j, old hj h1⟩ (new h2).1
      · exact s.gs.dis j k a (old hj h1) (old hk h2)
  · by_cases hji : j = i
    · subst hji; exact (new hj).2
    · exact s.ogr a ⟨j, old hji hj⟩
  · obtain ⟨e1, t1, e2, e3⟩ := s.lk j t e l
    have hj : j ≠ i := by
      rintro rfl
      rw [h0] at e2; cases e2
      rw [e3.lkd l] at hl; cases hl
    exact ⟨by rw [List.getElem?_set_ne (Ne.symm hj)]; exact e1, t1, by rw [List.getElem?_set_ne (Ne.symm hj)]; exact e2, e3⟩
theorem GS.mut {x : Nat} {b : Bool} {ds es : List D} {a : Addr} {ys : List V} (g : GS K F ρ σ H) (e : ρ[x]? = some (.own b ds)) (hx : σ[x]? = some (some (.ref a))) (r : Reps K F ys es) :
    Stp K F ρ σ H F (ρ.set x (.own b es)) σ (upd H a (.lst ys)) := by
  have hi : x < ρ.length := (List.getElem?_eq_some_iff.mp e).1
  have oa : OwnAt ρ σ x a := ⟨⟨_, ds, e, rfl⟩, hx⟩
  obtain ⟨a', xs, h1, h2, h3, h4⟩ := g.own x _ ds e rfl
  rw [hx] at h1; cases h1
  have old : ∀ {j : Nat} {c : Addr}, OwnAt (ρ.set x (.own b es)) σ j c → OwnAt ρ σ j c := fun {j c} ⟨⟨t, dt, q1, q2⟩, q3⟩ => by
    by_cases hj : j = x
    · subst hj; exact ⟨⟨_, ds, e, rfl⟩, q3⟩
    · rw [List.getElem?_set_ne (Ne.symm hj)] at q1; exact ⟨⟨t, dt, q1, q2⟩, q3⟩
  refine ⟨⟨fun c o q => ?_, by simp [g.len], fun j b' d q => ?_, fun j t dt q q' => ?_, fun j k c q1 q2 => g.dis j k c (old q1) (old q2)⟩, .refl _, fun c n n' => absurd n n', fun c o q n => ?_, fun c ⟨j, q⟩ => .inl ⟨j, old q⟩, by simp, fun j t q l => ⟨rfl, ?_⟩⟩
  · have : c ≠ a := by rintro rfl; rw [h3] at q; cases q
    rw [upd_ne this]; exact g.sub c o q
  · by_cases hj : j = x
    · subst hj; rw [List.getElem?_set_self hi] at q; cases q
    · rw [List.getElem?_set_ne (Ne.symm hj)] at q; exact g.val j b' d q
  · by_cases hj : j = x
    · subst hj
      rw [List.getElem?_set_self hi] at q; cases q; cases q'
      exact ⟨a, ys, hx, upd_same, h3, r⟩
    · rw [List.getElem?_set_ne (Ne.symm hj)] at q
      obtain ⟨c, zs, w1, w2, w3, w4⟩ := g.own j t dt q q'
      have : c ≠ a := by rintro rfl; exact hj (g.dis j x c ⟨⟨t, dt, q, q'⟩, w1⟩ oa)
      exact ⟨c, zs, w1, by rw [upd_ne this]; exact w2, w3, w4⟩
  · have : c ≠ a := by rintro rfl; exact n ⟨x, oa⟩
    rw [upd_ne this]; exact q
  · by_cases hj : j = x
    · subst hj
      rw [e] at q; cases q
      refine ⟨_, List.getElem?_set_self hi, ?_⟩
      cases b with
      | true => exact .inl ⟨_, rfl⟩
      | false => cases l
    · exact ⟨t, by rw [List.getElem?_set_ne (Ne.symm hj)]; exact q, .refl t⟩
theorem GS.lend {i : Nat} {b : Bool} {ds : List D} (g : GS K F ρ σ H) (e : ρ[i]? = some (.own b ds)) : GS K F (ρ.set i (.lent ds)) σ H := by
  have hi : i < ρ.length := (List.getElem?_eq_some_iff.mp e).1
  have old : ∀ {j : Nat} {c : Addr}, OwnAt (ρ.set i (.lent ds)) σ j c → OwnAt ρ σ j c := fun {j c} ⟨⟨t, dt, q1, q2⟩, q3⟩ => by
    by_cases hj : j = i
    · subst hj; exact ⟨⟨_, ds, e, rfl⟩, q3⟩
    · rw [List.getElem?_set_ne (Ne.symm hj)] at q1; exact ⟨⟨t, dt, q1, q2⟩, q3⟩
  refine ⟨g.sub, by simp [g.len], fun j b' d q => ?_, fun j t dt q q' => ?_, fun j k c q1 q2 => g.dis j k c (old q1) (old q2)⟩
  · by_cases hj : j = i
    · subst hj; rw [List.getElem?_set_self hi] at q; cases q
    · rw [List.getElem?_set_ne (Ne.symm hj)] at q; exact g.val j b' d q
  · by_cases hj : j = i
    · subst hj; rw [List.getElem?_set_self hi] at q; cases q; cases q'; exact g.own j _ ds e rfl
    · rw [List.getElem?_set_ne (Ne.symm hj)] at q; exact g.own j t dt q q'
theorem Stp.unlend {i : Nat} {b : Bool} {ds : List D} (g : GS K F ρ σ H) (e : ρ[i]? = some (.own b ds)) (s : Stp K F (ρ.set i (.lent ds)) σ H F1 ρ1 σ1 H1) :
    Stp K F ρ σ H F1 (ρ1.set i (.own b ds)) σ1 H1 ∧ ∀ v r, RepR K F1 ρ1 σ1 H1 (ρ.set i (.lent ds)) σ H v r → RepR K F1 (ρ1.set i (.own b ds)) σ1 H1 ρ σ H v r := by
  have hi : i < ρ.length := (List.getElem?_eq_some_iff.mp e).1
  have h1 : (ρ.set i (.lent ds))[i]? = some (.lent ds) := List.getElem?_set_self hi
  obtain ⟨z1, s', z2, z3⟩ := s.lk i _ h1 rfl
  cases (show s' = .lent ds from z3)
  have hi1 : i < ρ1.length := (List.getElem?_eq_some_iff.mp z2).1
  have o1 : ∀ {j : Nat} {c : Addr}, OwnAt (ρ.set i (.lent ds)) σ j c → OwnAt ρ σ j c := fun {j c} ⟨⟨t, dt, q1, q2⟩, q3⟩ => by
    by_cases hj : j = i
    · subst hj; exact ⟨⟨_, ds, e, rfl⟩, q3⟩
    · rw [List.getElem?_set_ne (Ne.symm hj)] at q1; exact ⟨⟨t, dt, q1, q2⟩, q3⟩
  have o1' : ∀ {c : Addr}, Own ρ σ c → Own (ρ.set i (.lent ds)) σ c := fun {c} ⟨j, ⟨t, dt, q1, q2⟩, q3⟩ => by
    by_cases hj : j = i
    · subst hj; exact ⟨j, ⟨_, ds, h1, rfl⟩, q3⟩
    · exact ⟨j, ⟨t, dt, by rw [List.getElem?_set_ne (Ne.symm hj)]; exact q1, q2⟩, q3⟩
  have o2 : ∀ {j : Nat} {c : Addr}, OwnAt (ρ1.set i (.own b ds)) σ1 j c → OwnAt ρ1 σ1 j c := fun {j c} ⟨⟨t, dt, q1, q2⟩, q3⟩ => by
    by_cases hj : j = i
    · subst hj; exact ⟨⟨_, ds, z2, rfl⟩, q3⟩
    · rw [List.getElem?_set_ne (Ne.symm hj)] at q1; exact ⟨⟨t, dt, q1, q2⟩, q3⟩
  have w : ∀ {c : Addr} {h : Hp}, Own (ρ.set i (.lent ds)) σ c ∨ h c = none → Own ρ σ c ∨ h c = none := fun {c h} q => q.imp (fun ⟨j, q⟩ => ⟨j, o1 q⟩) id
  refine ⟨⟨⟨s.gs.sub, by simp [s.gs.len], fun j b' d q => ?_, fun j t dt q q' => ?_, fun j k c q1 q2 => s.gs.dis j k c (o2 q1) (o2 q2)⟩, s.fsub, fun c n n' => w (s.fgr c n n'), fun c o q n => s.keep c o q fun ⟨j, x⟩ => n ⟨j, o1 x⟩, fun c ⟨j, q⟩ => w (s.ogr c ⟨j, o2 q⟩), by simpa using s.len, fun j t q l => ?_⟩, fun v r h => ?_⟩
  · by_cases hj : j = i
    · subst hj; rw [List.getElem?_set_self hi1] at q; cases q
    · rw [List.getElem?_set_ne (Ne.symm hj)] at q; exact s.gs.val j b' d q
  · by_cases hj : j = i
    · subst hj; rw [List.getElem?_set_self hi1] at q; cases q; cases q'; exact s.gs.own j _ ds z2 rfl
    · rw [List.getElem?_set_ne (Ne.symm hj)] at q; exact s.gs.own j t dt q q'
  · by_cases hj : j = i
    · subst hj
      rw [e] at q; cases q
      refine ⟨z1, _, List.getElem?_set_self hi1, ?_⟩
      cases b with
      | true => exact .inl ⟨_, rfl⟩
      | false => cases l
    · obtain ⟨y1, t', y2, y3⟩ := s.lk j t (by rw [List.getElem?_set_ne (Ne.symm hj)]; exact q) l
      exact ⟨y1, t', by rw [List.getElem?_set_ne (Ne.symm hj)]; exact y2, y3⟩
  · cases r with
    | val d => exact h
    | own es =>
      obtain ⟨x, xs, q1, q2, q3, q4, q5, q6⟩ := h
      exact ⟨x, xs, q1, q2, q3, q4, fun ⟨j, q⟩ => q5 ⟨j, o2 q⟩, w q6⟩
theorem GS.give {i : Nat} {ds : List D} (g : GS K F ρ σ H) (e : ρ[i]? = some (.own false ds)) : ∃ v, σ[i]? = some (some v) ∧ Stp K F ρ σ H F (ρ.set i .unb) σ H ∧ RepR K F (ρ.set i .unb) σ H ρ σ H v (.own ds) := by
  have hi : i < ρ.length := (List.getElem?_eq_some_iff.mp e).1
  obtain ⟨a, xs, h1, h2, h3, h4⟩ := g.own i _ ds e rfl
  have old : ∀ {j : Nat} {c : Addr}, OwnAt (ρ.set i .unb) σ j c → OwnAt ρ σ j c ∧ j ≠ i := fun {j c} ⟨⟨t, dt, q1, q2⟩, q3⟩ => by
    by_cases hj : j = i
    · subst hj; rw [List.getElem?_set_self hi] at q1; cases q1; cases q2
    · rw [List.getElem?_set_ne (Ne.symm hj)] at q1; exact ⟨⟨⟨t, dt, q1, q2⟩, q3⟩, hj⟩
  have oa : OwnAt ρ σ i a := ⟨⟨_, ds, e, rfl⟩, h1⟩
  refine ⟨.ref a, h1, ⟨⟨g.sub, by simp [g.len], fun j b' d q => ?_, fun j t dt q q' => ?_, fun j k c q1 q2 => g.dis j k c (old q1).1 (old q2).1⟩, .refl _, fun c n n' => absurd n n', fun _ _ q _ => q, fun c ⟨j, q⟩ => .inl ⟨j, (old q).1⟩, by simp, fun j t q l => ⟨rfl, ?_⟩⟩, a, xs, rfl, h2, h3, h4, fun ⟨j, q⟩ => ?_, .inl ⟨i, oa⟩⟩
  · by_cases hj : j = i
    · subst hj; rw [List.getElem?_set_self hi] at q; cases q
    · rw [List.getElem?_set_ne (Ne.symm hj)] at q; exact g.val j b' d q
  · by_cases hj : j = i
    · subst hj; rw [List.getElem?_set_self hi] at q; cases q; cases q'
    · rw [List.getElem?_set_ne (Ne.symm hj)] at q; exact g.own j t dt q q'
  · by_cases hj : j = i
    · subst hj; rw [e] at q; cases q; cases l
    · exact ⟨t, by rw [List.getElem?_set_ne (Ne.symm hj)]; exact q, .refl t⟩
  · exact (old q).2 (g.dis j i a (old q).1 oa)
theorem GS.more {n : Nat} {τ : List (Option V)} (g : GS K F ρ σ H) (hn : τ.length = n) : GS K F (ρ ++ List.replicate n .unb) (σ ++ τ) H := by
  have get : ∀ {j : Nat} {t : Sl}, (ρ ++ List.replicate n Sl.unb)[j]? = some t → t ≠ .unb → ρ[j]? = some t ∧ j < ρ.length := fun {j t} q ne => by
    by_cases hj : j < ρ.length
    · rw [List.getElem?_append_left hj] at q; exact ⟨q, hj⟩
    · rw [List.getElem?_append_right (by omega), List.getElem?_replicate] at q
      split at q
      · cases q; exact absurd rfl ne
      · cases q
  have up : ∀ {j : Nat} {v : Option V}, j < ρ.length → (σ[j]? = some v ↔ (σ ++ τ)[j]? = some v) := fun {j v} hj => by rw [List.getElem?_append_left (by rw [← g.len]; exact hj)]
  have old : ∀ {j : Nat} {c : Addr}, OwnAt (ρ ++ List.replicate n .unb) (σ ++ τ) j c → OwnAt ρ σ j c := fun {j c} ⟨⟨t, dt, q1, q2⟩, q3⟩ => by
    obtain ⟨h1, h2⟩ := get q1 (by rintro rfl; cases q2)
    exact ⟨⟨t, dt, h1, q2⟩, (up h2).mpr q3⟩
  refine ⟨g.sub, by simp [g.len, hn], fun j b d q => ?_, fun j t dt q q' => ?_, fun j k c q1 q2 => g.dis j k c (old q1) (old q2)⟩
  · obtain ⟨h1, h2⟩ := get q (by simp)
    obtain ⟨v, e1, e2⟩ := g.val j b d h1
    exact ⟨v, (up h2).mp e1, e2⟩
  · obtain ⟨h1, h2⟩ := get q (by rintro rfl; cases q')
    obtain ⟨a, xs, e1, e2⟩ := g.own j t dt h1 q'
    exact ⟨a, xs, (up h2).mp e1, e2⟩
theorem Stp.less {n : Nat} {τ : List (Option V)} {m : Nat} (hm : m = ρ.length) (g : GS K F ρ σ H) (hn : τ.length = n) (s : Stp K F (ρ ++ List.replicate n .unb) (σ ++ τ) H F1 ρ1 σ1 H1) :
    Stp K F ρ σ H F1 (ρ1.take m) (σ1.take m) H1 ∧ ∀ v r, RepR K F1 ρ1 σ1 H1 (ρ ++ List.replicate n .unb) (σ ++ τ) H v r → RepR K F1 (ρ1.take m) (σ1.take m) H1 ρ σ H v r := by
  subst hm
  have l1 : ρ.length ≤ ρ1.length := by rw [s.len]; simp
  have l2 : ρ.length ≤ σ1.length := by rw [← s.gs.len]; exact l1
  have tk : ∀ {α : Type} {l : List α} {j : Nat} {x : α}, (l.take ρ.length)[j]? = some x → l[j]? = some x ∧ j < ρ.length := fun {α l j x} q => by
    rw [List.getElem?_take] at q
    split at q
    · exact ⟨q, by assumption⟩
    · cases q
  have kt : ∀ {α : Type} {l : List α} {j : Nat} {x : α}, j < ρ.length → l[j]? = some x → (l.take ρ.length)[j]? = some x := fun {α l j x} hj q => by rw [List.getElem?_take, if_pos hj]; exact q
  have oN : ∀ {c : Addr}, Own (ρ ++ List.replicate n .unb) (σ ++ τ) c → Own ρ σ c := fun {c} ⟨j, ⟨t, dt, q1, q2⟩, q3⟩ => by
    by_cases hj : j < ρ.length
    · rw [List.getElem?_append_left hj] at q1
      rw [List.getElem?_append_left (by rw [← g.len]; exact hj)] at q3
      exact ⟨j, ⟨t, dt, q1, q2⟩, q3⟩
    · rw [List.getElem?_append_right (by omega), List.getElem?_replicate] at q1
      split at q1
      · cases q1; cases q2
      · cases q1
  have oN' : ∀ {c : Addr}, Own ρ σ c → Own (ρ ++ List.replicate n .unb) (σ ++ τ) c := fun {c} ⟨j, ⟨t, dt, q1, q2⟩, q3⟩ => by
    have hj : j < ρ.length := (List.getElem?_eq_some_iff.mp q1).1
    exact ⟨j, ⟨t, dt, by rw [List.getElem?_append_left hj]; exact q1, q2⟩, by rw [List.getElem?_append_left (by rw [← g.len]; exact hj)]; exact q3⟩
  have o1 : ∀ {j : Nat} {c : Addr}, OwnAt (ρ1.take ρ.length) (σ1.take ρ.length) j c → OwnAt ρ1 σ1 j c := fun {j c} ⟨⟨t, dt, q1, q2⟩, q3⟩ => ⟨⟨t, dt, (tk q1).1, q2⟩, (tk q3).1⟩
  have w : ∀ {c : Addr} {h : Hp}, Own (ρ ++ List.replicate n .unb) (σ ++ τ) c ∨ h c = none → Own ρ σ c ∨ h c = none := fun {c h} q => q.imp oN id
  refine ⟨⟨⟨s.gs.sub, by simp only [List.length_take]; omega, fun j b d q => ?_, fun j t dt q q' => ?_, fun j k c q1 q2 => s.gs.dis j k c (o1 q1) (o1 q2)⟩, s.fsub, fun c a b => w (s.fgr c a b), fun c o q n => s.keep c o q fun x => n (oN x), fun c ⟨j, q⟩ => w (s.ogr c ⟨j, o1 q⟩), by simp only [List.length_take]; omega, fun j t q l => ?_⟩, fun v r h => ?_⟩
  · obtain ⟨h1, h2⟩ := tk q
    obtain ⟨v, e1, e2⟩ := s.gs.val j b d h1
    exact ⟨v, kt h2 e1, e2⟩
  · obtain ⟨h1, h2⟩ := tk q
    obtain ⟨a, xs, e1, e2⟩ := s.gs.own j t dt h1 q'
    exact ⟨a, xs, kt h2 e1, e2⟩
  · have hj : j < ρ.length := (List.getElem?_eq_some_iff.mp q).1
    obtain ⟨y1, t', y2, y3⟩ := s.lk j t (by rw [List.getElem?_append_left hj]; exact q) l
    rw [List.getElem?_append_left (by rw [← g.len]; exact hj)] at y1
    refine ⟨?_, t', kt hj y2, y3⟩
    rw [List.getElem?_take, if_pos hj]; exact y1
  · cases r with
    | val d => exact h
    | own es =>
      obtain ⟨x, xs, q1, q2, q3, q4, q5, q6⟩ := h
      exact ⟨x, xs, q1, q2, q3, q4, fun ⟨j, q⟩ => q5 ⟨j, o1 q⟩, w q6⟩
end
end HH
end
section
set_option linter.all false
set_option Elab.async false
set_option maxRecDepth 10000
namespace HH
open PySem L2 PySem.Spec PyProof.Rows
section
variable {X : Cx} {c : Call} {n : Nat} {e a b d : Expr} {p pa pb pd : P} {pos : Pos} {es : List Expr} {ps : List P}
noncomputable def tEvA (K : PySem.W.Frag) (f : List Sl → Res (List Arg)) : TA := fun σ H Q => ∃ F ρ as ρ', GS K F ρ σ H ∧ f ρ = .ok as ρ' ∧ ∀ vs F' H', Stp K F ρ σ H F' ρ' σ H' → AOk K F' ρ' σ H' ρ H as vs → Q vs H'
noncomputable def SG (X : Cx) (c : Call) (es : List Expr) (ps : List P) : Prop := PA X es (tEvA X.K (evA c ps))
theorem sg_nil : SG X c [] [] := paImp pa_nil fun σ H Q ⟨F, ρ, as, ρ', g, e, k⟩ => by rw [evA] at e; cases e; exact k [] F H (.refl g) .nil
theorem sg_cons (ha : SX X c a pa) (hr : SG X c es ps) (hs : starEach (a :: es) X.env = (false, eval a X.env) :: starEach es X.env := by rfl) : SG X c (a :: es) (pa :: ps) := by
  cases hv : isVar pa with
  | none =>
    refine paImp (pa_cons ha.ev hr hs) ?_
    rintro σ H Q ⟨F, ρ, as, ρ', g, e, k⟩
    rw [evA, hv] at e
    obtain ⟨r, ρ1, e1, e⟩ := bind_ok e
    obtain ⟨xs, ρ2, e2, e⟩ := bind_ok e
    cases e
    refine ⟨F, ρ, r, ρ1, g, e1, fun v F1 H1 s1 rr => ⟨F1, ρ1, xs, _, s1.gs, e2, fun vs F2 H2 s2 A => k _ F2 H2 (s1.trans s2) (AOk.consR s1 rr s2 A)⟩⟩
  | some i =>
    refine paImp (pa_cons (ha.var i hv) hr hs) ?_
    rintro σ H Q ⟨F, ρ, as, ρ', g, e, k⟩
    rw [evA, hv] at e
    obtain ⟨x0, ρ0, e0, e⟩ := bind_ok e
    obtain ⟨e00, e01⟩ := lift_ok e0
    subst e01
    obtain ⟨xs, ρ2, e2, e⟩ := bind_ok e
    cases e
    obtain ⟨v, h1, _⟩ := g.pk e00
    exact ⟨v, h1, F, ρ, xs, _, g, e2, fun vs F2 H2 s2 A => k _ F2 H2 s2 (.cons h1 A fun ds x z => by cases z)⟩
theorem sx_call {k f : Nat} {fa : Addr} {fd : FuncData} {qs : List Str} {x : Str} {p' : Pos} (Fn : FnOk X.prog X.w X.K X.mg X.base CX0 k fa fd qs (spC X.K qs.length (c f))) (hr : Room k X.A) (hg : Gl X x) (hm : X.mg x = some (.ref fa)) (hk : PySem.W.keepIn X.K (.ref fa) = true)
    (hb : Binds X.K fd qs []) (ha : SG X c (e :: es) ps) (hl : (e :: es).length = qs.length) (hdb : (x == ("__debug__" : Str)) = false := by decide) (he : starEach (e :: es) X.env = (false, eval e X.env) :: starEach es X.env := by rfl) (hpl : (backTo pos (starEach es X.env)).any (·.1) = false := by rfl)
    (hl2 : ps.length = (e :: es).length := by rfl) : SX X c (.Call (.Name x p') (e :: es) [] pos) (.call f ps) := by
  refine ⟨peImp (pe_call (E := E0) Fn hr hg hm hk hb .nil pass0 ha hdb he hpl) ?_, fun i h => by cases h⟩
  rintro σ H Q ⟨F, ρ, r, ρ', g, e, k⟩
  rw [HH.ev] at e
  obtain ⟨as, ρ1, e1, e⟩ := bind_ok e
  unfold doCall at e
  split at e
  · cases e
  · rename_i args hb'
    split at e
    · rename_i r' args' hc
      cases e
      refine ⟨F, ρ, as, ρ1, g, e1, fun vs F1 H1 s1 A => ?_⟩
      have hlen : vs.length = qs.length := by
        have : ∀ {ps : List P} {ρ ρ' : List Sl} {as : List Arg}, evA c ps ρ = .ok as ρ' → as.length = ps.length := by
          intro ps
          induction ps with
          | nil => intro ρ ρ' as h; rw [evA] at h; cases h; rfl
          | cons q qs ih =>
            intro ρ ρ' as h
            rw [evA] at h
            split at h
            · obtain ⟨_, _, _, h⟩ := bind_ok h
              obtain ⟨xs, ρ2, h2, h⟩ := bind_ok h
              cases h; simp [ih h2]
            · obtain ⟨_, _, _, h⟩ := bind_ok h
              obtain ⟨xs, ρ2, h2, h⟩ := bind_ok h
              cases h; simp [ih h2]
        rw [← A.len, this e1, hl2, hl]
      show spC X.K qs.length (c f) (vs ++ []) H1 Q E0
      rw [List.append_nil]
      refine ⟨hlen, F1, args, r, args', args_gs s1.gs A hb', hc, fun v F' σ' H' s rr => ?_⟩
      obtain ⟨z1, z2⟩ := call_stp s1 A hb' s
      exact k v F' H' z1 (z2 v r rr)
    · cases e
    · cases e
noncomputable def tEx (K : PySem.W.Frag) (f : List Sl → Res Fl) : TS := fun D σ H => ∃ F ρ fl ρ', GS K F ρ σ H ∧ f ρ = .ok fl ρ' ∧ ∀ F' σ' H', Stp K F ρ σ H F' ρ' σ' H' → (match fl with
  | .next => D.nx σ' H'
  | .brk => D.bk σ' H'
  | .cont => D.ct σ' H'
  | .ret r => ∀ v, RepR K F' ρ' σ' H' ρ σ H v r → D.rt v H')
noncomputable def SS (X : Cx) (c : Call) (n : Nat) (st : Stmt) (s : S) : Prop := PS X st (tEx X.K (ex c n s))
noncomputable def SB (X : Cx) (c : Call) (n : Nat) (st : List Stmt) (s : List S) : Prop := PSs X st (tEx X.K (exs c n s))
theorem psImp {st : Stmt} {t t' : TS} (h : PS X st t) (i : ∀ D σ H, t' D σ H → t D σ H) : PS X st t' := fun pins s σ H D I q => h pins s σ H D I (i D σ H q)
theorem pssImp {st : List Stmt} {t t' : TS} (h : PSs X st t) (i : ∀ D σ H, t' D σ H → t D σ H) : PSs X st t' := fun pins s σ H D I q => h pins s σ H D I (i D σ H q)
theorem sb_nil : SB X c n [] [] := pssImp pss_nil fun D σ H ⟨F, ρ, fl, ρ', g, e, k⟩ => by rw [exs] at e; cases e; exact k F σ H (.refl g)
theorem sb_cons {st : Stmt} {s : S} {sts : List Stmt} {ss : List S} (h1 : SS X c n st s) (h2 : SB X c n sts ss) : SB X c n (st :: sts) (s :: ss) := by
  refine pssImp (pss_cons h1 h2) ?_
  rintro D σ H ⟨F, ρ, fl, ρ', g, e, k⟩
  rw [exs] at e
  obtain ⟨f1, ρ1, e1, e⟩ := bind_ok e
  cases f1 with
  | next =>
    refine ⟨F, ρ, .next, ρ1, g, e1, fun F1 σ1 H1 s1 => ⟨F1, ρ1, fl, ρ', s1.gs, e, fun F2 σ2 H2 s2 => ?_⟩⟩
    have q := k F2 σ2 H2 (s1.trans s2)
    cases fl with
    | next => exact q
    | brk => exact q
    | cont => exact q
    | ret r => exact fun v rr => q v (rr.later s1)
  | brk => cases e; exact ⟨F, ρ, .brk, _, g, e1, k⟩
  | cont => cases e; exact ⟨F, ρ, .cont, _, g, e1, k⟩
  | ret r => cases e; exact ⟨F, ρ, .ret r, _, g, e1, k⟩
theorem ss_expr (he : SX X c e p) (hs : swapsWith e none pos.line X.env = pure false := by rfl) : SS X c n (.Expr e pos) (.expr p) := by
  refine psImp (ps_expr he.ev hs) ?_
  rintro D σ H ⟨F, ρ, fl, ρ', g, e, k⟩
  rw [ex] at e
  obtain ⟨r, ρ1, e1, e⟩ := bind_ok e
  cases e
  exact ⟨F, ρ, r, _, g, e1, fun v F1 H1 s1 rr => k F1 σ H1 s1⟩
theorem ss_ret (he : SX X c e p) : SS X c n (.Return (some e) pos) (.ret p) := by
  have plain : ∀ (D : Ends) (σ : L2.St) (H : Hp), (∃ F ρ fl ρ', GS X.K F ρ σ H ∧ ((HH.ev c p ρ).bind fun r ρ => .ok (Fl.ret r) ρ) = .ok fl ρ' ∧ ∀ F' σ' H', Stp X.K F ρ σ H F' ρ' σ' H' → (match fl with
      | .next => D.nx σ' H' | .brk => D.bk σ' H' | .cont => D.ct σ' H' | .ret r => ∀ v, RepR X.K F' ρ' σ' H' ρ σ H v r → D.rt v H')) → tEv X.K (HH.ev c p) σ H D.rt := fun D σ H ⟨F, ρ, fl, ρ', g, e, k⟩ => by
    obtain ⟨r, ρ1, e1, e⟩ := bind_ok e
    cases e
    exact ⟨F, ρ, r, _, g, e1, fun v F1 H1 s1 rr => k F1 σ H1 s1 v rr⟩
  cases hv : isVar p with
  | none =>
    refine psImp (ps_ret he.ev) fun D σ H ⟨F, ρ, fl, ρ', g, e, k⟩ => plain D σ H ⟨F, ρ, fl, ρ', g, ?_, k⟩
    rw [ex, hv] at e
    exact e
  | some i =>
    -- by the name itself: its own list is handed back, else its data
    have hp : p = .var i := by cases p <;> cases hv; rfl
    subst hp
    refine psImp (ps_ret (he.var i hv)) ?_
    rintro D σ H ⟨F, ρ, fl, ρ', g, e, k⟩
    rw [ex, hv] at e
    dsimp only at e
    split at e
    · rename_i ds q
      cases e
      obtain ⟨v, h1, h2, h3⟩ := g.give q
      exact ⟨v, h1, k F σ H h2 v h3⟩
    · obtain ⟨r, ρ1, e1, e⟩ := bind_ok e
      cases e
      rw [HH.ev] at e1
      split at e1
      · rename_i b d q
        cases e1
        obtain ⟨v, h1, h2⟩ := g.val i b d q
        exact ⟨v, h1, k F σ H (.refl g) v h2⟩
      · rename_i b ds q
        cases e1
        obtain ⟨v, F', h1, h2, h3⟩ := g.freeze q
        exact ⟨v, h1, k F' σ H h2 v h3⟩
      · cases e1
theorem ss_if {sa sb : List Stmt} {ta tb : List S} (hc : ST X c e p) (ha : SB X c n sa ta) (hb : SB X c n sb tb) : SS X c n (.If e sa sb pos) (.ifs p ta tb) := by
  refine psImp (ps_if hc ha hb) ?_
  rintro D σ H ⟨F, ρ, fl, ρ', g, e, k⟩
  rw [ex] at e
  obtain ⟨x, ρ1, e1, e⟩ := bind_ok e
  refine ⟨F, ρ, x, ρ1, g, e1, fun F1 H1 s1 => ?_⟩
  have go : ∀ {f : List Sl → Res Fl}, f ρ1 = .ok fl ρ' → tEx X.K f D σ H1 := fun {f} h => ⟨F1, ρ1, fl, ρ', s1.gs, h, fun F2 σ2 H2 s2 => by
    have q := k F2 σ2 H2 (s1.trans s2)
    cases fl with
    | next => exact q
    | brk => exact q
    | cont => exact q
    | ret r => exact fun v rr => q v (rr.later s1)⟩
  cases x with
  | true => rw [if_pos rfl] at e; exact go e
  | false => rw [if_neg Bool.false_ne_true] at e; exact go e
theorem ss_asg {i : Nat} {x : Str} {pos' : Pos} (hN : X.N.Nodup) (hi : X.N[i]? = some x) (hx : Loc X.env.scope x) (he : SX X c e p) (hs : swapsWith e (some (.Name x pos')) pos.line X.env = pure false := by rfl) (hf : X.fn x = true ∨ X.env.scope.names.lookup x = some .local := by first | exact .inl rfl | exact .inr rfl | assumption) :
    SS X c n (.Assign [.Name x pos'] e pos) (.asg i p) := by
  refine psImp (ps_set hN hi hx he.ev hs hf) ?_
  rintro D σ H ⟨F, ρ, fl, ρ', g, e, k⟩
  rw [ex] at e
  obtain ⟨r, ρ1, e1, e⟩ := bind_ok e
  obtain ⟨ρ2, ρ3, e2, e⟩ := bind_ok e
  cases e
  have zz := lift_ok e2; clear e2; obtain ⟨e2, e3⟩ := zz
  exact ⟨F, ρ, r, ρ1, g, e1, fun v F1 H1 s1 rr => k F1 _ H1 (s1.put rr e2)⟩
end
end HH
end
section
set_option linter.all false
set_option Elab.async false
set_option maxRecDepth 10000
namespace L2
open PySem PySem.Spec PyProof.Rows
noncomputable def cxC (X : Cx) (scope : Scope) (N' : List Str) (cl : List (Str × Addr)) (C : Addr) (s₀ : Shared) (H₀ : Hp) (ex : List Addr) : Cx :=
  { X with N := N', s₀ := s₀, H₀ := H₀, env := compEnvC scope cl C X.env, outer := X.stack, stack := X.stack, ex := ex, fn := fun x => scope.names.lookup x == some .cell, pn := [], xe := fun _ _ => False }
theorem closure_go {env : Env} (l : List (Str × NameKind)) : ∀ (cs : List (Str × Addr)), (∀ n, (n, NameKind.free) ∈ l → ∃ c, env.cells.lookup n = some c) → (∀ n c, cs.lookup n = some c → env.cells.lookup n = some c) →
    ∃ cl, (forIn l cs (fun (x : Str × NameKind) (r : List (Str × Addr)) => (if (x.2 == NameKind.free) = true then (do let a ← cellOf env x.1; pure (ForInStep.yield ((x.1, a) :: r))) else pure (ForInStep.yield r) : Sem (ForInStep (List (Str × Addr))))) : Sem (List (Str × Addr))) = pure cl ∧
      (∀ n c, cl.lookup n = some c → env.cells.lookup n = some c) ∧ (∀ n, ((n, NameKind.free) ∈ l ∨ (cs.lookup n).isSome) → (cl.lookup n).isSome) := by
  induction l with
  | nil => intro cs _ h; exact ⟨cs, rfl, h, fun n hn => by rcases hn with hn | hn; cases hn; exact hn⟩
  | cons y l ih =>
    obtain ⟨n, k⟩ := y
    intro cs hl hc
    rw [List.forIn_cons]
    by_cases hk : k = .free
    · subst hk
      obtain ⟨a, ha⟩ := hl n List.mem_cons_self
      obtain ⟨cl, e, h1, h2⟩ := ih ((n, a) :: cs) (fun m hm => hl m (List.mem_cons_of_mem _ hm)) fun m c hm => by
        rw [List.lookup_cons] at hm
        split at hm
        · rename_i q; have q := eq_of_beq q; subst q; cases hm; exact ha
        · exact hc m c hm
      refine ⟨cl, ?_, h1, fun m hm => h2 m ?_⟩
      · rw [← e]
        have : cellOf env n = pure a := by unfold cellOf; rw [ha]
        simp only [beq_self_eq_true, if_true, this]
        rfl
      · rcases hm with hm | hm
        · rcases List.mem_cons.mp hm with hm | hm
          · cases hm; right; simp [List.lookup_cons]
          · exact .inl hm
        · right
          rw [List.lookup_cons]
          split
          · rfl
          · exact hm
    · obtain ⟨cl, e, h1, h2⟩ := ih cs (fun m hm => hl m (List.mem_cons_of_mem _ hm)) hc
      refine ⟨cl, ?_, h1, fun m hm => h2 m ?_⟩
      · rw [← e]
        have : (k == NameKind.free) = false := by simpa using hk
        simp only [this, Bool.false_eq_true, if_false]
        rfl
      · rcases hm with hm | hm
        · rcases List.mem_cons.mp hm with hm | hm
          · cases hm; exact absurd rfl hk
          · exact .inl hm
        · exact .inr hm
theorem closure_ok {env : Env} {scope : Scope} (hl : ∀ n, (n, NameKind.free) ∈ scope.names → ∃ c, env.cells.lookup n = some c) :
    ∃ cl, closureFor scope env = pure cl ∧ (∀ n c, cl.lookup n = some c → env.cells.lookup n = some c) ∧ ∀ n, (n, NameKind.free) ∈ scope.names → (cl.lookup n).isSome := by
  obtain ⟨cl, e, h1, h2⟩ := closure_go (env := env) scope.names [] hl (by simp)
  refine ⟨cl, ?_, h1, fun n hn => h2 n (.inl hn)⟩
  unfold closureFor
  exact (congrArg (fun t => t >>= fun r => pure r) e).trans rfl
theorem relabel_lookup {env : Env} : ∀ (names : List (Str × NameKind)) (x : Str),
    (names.map fun (n, k) => if (k == NameKind.free && env.scope.kind == .function && env.kindOf n == some .cell) then (n, NameKind.cell) else (n, k)).lookup x =
      (names.lookup x).map fun k => if (k == NameKind.free && env.scope.kind == .function && env.kindOf x == some .cell) = true then NameKind.cell else k
  | [], x => rfl
  | (n, k) :: r, x => by
    have ih := relabel_lookup (env := env) r x
    show List.lookup x ((if (k == NameKind.free && env.scope.kind == .function && env.kindOf n == some .cell) = true then (n, NameKind.cell) else (n, k)) :: _) = _
    by_cases hc : (k == NameKind.free && env.scope.kind == .function && env.kindOf n == some .cell) = true
    · rw [if_pos hc, List.lookup_cons, List.lookup_cons]
      cases hx : x == n with
      | true =>
        have := eq_of_beq hx
        subst this
        show some NameKind.cell = some (if _ then _ else _)
        rw [if_pos hc]
      | false => exact ih
    · rw [if_neg hc, List.lookup_cons, List.lookup_cons]
      cases hx : x == n with
      | true =>
        have := eq_of_beq hx
        subst this
        show some k = some (if _ then _ else _)
        rw [if_neg hc]
      | false => exact ih
noncomputable def sameB (N N' : List Str) (sc : Scope) : Bool := (N.zip N').all fun p => (p.1 == p.2 && sc.names.lookup p.2 == some .free) || (sc.names.lookup p.2 != some .local && sc.names.lookup p.2 != some .cell && sc.names.lookup p.2 != some .free)
structure CompOk (X : Cx) (scope : Scope) (N' : List Str) (n : Nat) : Prop where
  kind : scope.kind = .function
  cons : ∀ y ∈ scope.names, scope.names.lookup y.1 = some y.2
  names : ∀ y ∈ scope.names, y.2 = .local → scope.names.lookup y.1 = some .local
  cap : ∀ y ∈ scope.names, y.2 = .free → X.env.scope.names.lookup y.1 = some .cell ∨ X.env.scope.names.lookup y.1 = some .free
  len : N'.length = X.N.length + n
  same : sameB X.N N' scope = true
theorem CompOk.get {X : Cx} {scope : Scope} {N' : List Str} {n : Nat} (c : CompOk X scope N' n) {i : Nat} {x : Str} (hi : i < X.N.length) (h : N'[i]? = some x) (hv : Vis (relabel scope X.env) x) : X.N[i]? = some x ∧ scope.names.lookup x = some .free := by
  have hz : (X.N.zip N')[i]? = some (X.N[i], x) := by
    rw [List.getElem?_zip_eq_some]
    exact ⟨by simp [hi], h⟩
  have := (List.all_eq_true.mp c.same) _ (List.mem_of_getElem? hz)
  simp only [Bool.or_eq_true, Bool.and_eq_true] at this
  rcases this with ⟨h1, h2⟩ | ⟨⟨h1, h2⟩, h3⟩
  · have h1 := eq_of_beq h1
    have h2 := eq_of_beq h2
    exact ⟨by simp [hi, h1], h2⟩
  · exfalso
    have h1 : scope.names.lookup x ≠ some .local := by simpa using h1
    have h2 : scope.names.lookup x ≠ some .cell := by simpa using h2
    have h3 : scope.names.lookup x ≠ some .free := by simpa using h3
    have e := relabel_lookup (env := X.env) scope.names x
    have hv : (relabel scope X.env).names.lookup x = some .local ∨ (relabel scope X.env).names.lookup x = some .cell ∨ (relabel scope X.env).names.lookup x = some .free := hv
    rw [show (relabel scope X.env).names.lookup x = _ from e] at hv
    cases q : scope.names.lookup x with
    | none => rw [q] at hv; simp at hv
    | some k =>
      rw [q] at hv h1 h2 h3
      have hk : (k == NameKind.free) = false := by
        cases k <;> first | rfl | exact absurd rfl h3
      simp only [Option.map_some, hk, Bool.false_and, Bool.false_eq_true, if_false, Option.some.injEq] at hv
      rcases hv with rfl | rfl | rfl
      · exact h1 rfl
      · exact h2 rfl
      · exact h3 rfl
end L2
namespace L2
open PySem PySem.Spec PyProof.Rows
structure CI (cl : List (Str × Addr)) (z : Nat) (h : Heap) (acc : List (Str × Addr)) : Prop where
  from' : ∀ n c, acc.lookup n = some c → cl.lookup n = some c ∨ (z ≤ c ∧ h.IsCell c none)
  inj : ∀ n n' c, acc.lookup n = some c → acc.lookup n' = some c → n = n'
theorem cf_ok {cl : List (Str × Addr)} {z : Nat} (hcl : ∀ n c, cl.lookup n = some c → c < z) : ∀ (names : List (Str × NameKind)) (h : Heap) (acc : List (Str × Addr)), z ≤ h.objs.size → CI cl z h acc →
    CI cl z (pushCells h names) (cellsFrom h.objs.size names acc) ∧ (∀ n, (acc.lookup n).isSome → ((cellsFrom h.objs.size names acc).lookup n).isSome) ∧
    (∀ n, ((∃ c, acc.lookup n = some c ∧ z ≤ c) ∨ (n, NameKind.cell) ∈ names) → ∃ c, (cellsFrom h.objs.size names acc).lookup n = some c ∧ z ≤ c) ∧
    (∀ n c, (n, NameKind.cell) ∉ names → (cellsFrom h.objs.size names acc).lookup n = some c → acc.lookup n = some c)
  | [], h, acc, hz, x => by
    refine ⟨x, fun _ q => q, fun n q => ?_, fun _ _ _ q => q⟩
    rcases q with q | q
    · exact q
    · cases q
  | (name, kind) :: r, h, acc, hz, x => by
    unfold pushCells cellsFrom
    by_cases hk : kind = .cell
    · subst hk
      rw [if_pos (by rfl), if_pos (by rfl)]
      have hx : CI cl z (h.push { cls := .type "cell", data := .cell none }) ((name, h.objs.size) :: acc) := by
        have lt : ∀ n c, acc.lookup n = some c → c < h.objs.size := fun n c e => by
          rcases x.from' n c e with q | q
          · exact Nat.lt_of_lt_of_le (hcl n c q) hz
          · exact q.2.lt
        refine ⟨fun n c e => ?_, fun n n' c e e' => ?_⟩
        · rw [List.lookup_cons] at e
          split at e
          · cases e; exact .inr ⟨hz, _, Heap.get?_push_size _ rfl, rfl⟩
          · rcases x.from' n c e with q | q
            · exact .inl q
            · exact .inr ⟨q.1, q.2.keeps fun b o e => Heap.get?_push_of_some _ e⟩
        · rw [List.lookup_cons] at e e'
          split at e <;> split at e'
          · rename_i _ a _ b; rw [eq_of_beq a, eq_of_beq b]
          · cases e; exact absurd (lt n' _ e') (Nat.lt_irrefl _)
          · cases e'; exact absurd (lt n _ e) (Nat.lt_irrefl _)
          · exact x.inj n n' c e e'
      have ih := cf_ok hcl r (h.push { cls := .type "cell", data := .cell none }) ((name, h.objs.size) :: acc) (by rw [Heap.size_push]; omega) hx
      rw [Heap.size_push] at ih
      refine ⟨ih.1, fun n q => ih.2.1 n ?_, fun n q => ih.2.2.1 n ?_, fun n c q e => ?_⟩
      · rw [List.lookup_cons]; split
        · rfl
        · exact q
      · rcases q with ⟨c, e, hc⟩ | q
        · left
          rw [List.lookup_cons]; split
          · exact ⟨_, rfl, hz⟩
          · exact ⟨c, e, hc⟩
        · rcases List.mem_cons.mp q with q | q
          · cases q; left; exact ⟨_, by simp [List.lookup_cons], hz⟩
          · exact .inr q
      · have := ih.2.2.2 n c (fun z => q (List.mem_cons_of_mem _ z)) e
        rw [List.lookup_cons] at this
        split at this
        · rename_i a; exact absurd (by rw [eq_of_beq a]; exact List.mem_cons_self) q
        · exact this
    · have hk' : (kind == NameKind.cell) = false := by simpa using hk
      rw [if_neg (by rw [hk']; decide), if_neg (by rw [hk']; decide)]
      have ih := cf_ok hcl r h acc hz x
      refine ⟨ih.1, ih.2.1, fun n q => ih.2.2.1 n ?_, fun n c q e => ih.2.2.2 n c (fun z => q (List.mem_cons_of_mem _ z)) e⟩
      rcases q with q | q
      · exact .inl q
      · rcases List.mem_cons.mp q with q | q
        · cases q; exact absurd rfl hk
        · exact .inr q
structure BlockC (X : Cx) (scope : Scope) (z : Nat) (h : Heap) (cs : List (Str × Addr)) : Prop where
  from' : ∀ n c, cs.lookup n = some c → X.env.cells.lookup n = some c ∨ (z < c ∧ h.IsCell c none)
  inj : ∀ n n' c, cs.lookup n = some c → cs.lookup n' = some c → n = n'
  has : ∀ n, (scope.names.lookup n = some .free ∨ scope.names.lookup n = some .cell) → ∃ c, cs.lookup n = some c
  fre : ∀ n c, scope.names.lookup n = some .free → cs.lookup n = some c → X.env.cells.lookup n = some c
  own : ∀ n c, scope.names.lookup n = some .cell → cs.lookup n = some c → z < c
theorem nfe_cells {M : Model} {A : Around} {E : Value → Shared → Prop} {X : Cx} {s : Shared} {scope : Scope} {N' : List Str} {n : Nat} {cl : List (Str × Addr)} {Q : Env → Shared → Prop} (ok : CompOk X scope N' n) (hlt : ∀ n c, X.env.cells.lookup n = some c → c < s.heap.objs.size)
    (hinj : ∀ x y c, X.env.cells.lookup x = some c → X.env.cells.lookup y = some c → x = y)
    (hcl : ∀ n c, cl.lookup n = some c → X.env.cells.lookup n = some c) (hcl2 : ∀ n, (n, NameKind.free) ∈ scope.names → (cl.lookup n).isSome)
    (hQ : ∀ cs h', h'.Ns s.heap.objs.size (fun _ => none) → (∀ b o, s.heap.get? b = some o → h'.get? b = some o) → BlockC X scope s.heap.objs.size h' cs →
      Q { scope := scope, locals := s.heap.objs.size, globals := X.env.globals, cells := cs, qual := X.env.qual, func := none, code := X.env.code, frame := X.env.frame, builtins := X.env.builtins } { s with heap := h' }) :
    wpAny M A (newFunctionEnv scope X.env.globals cl [] X.env.qual none .none (some X.env)) Q E s := by
  simp only [newFunctionEnv, Option.isSome_some, if_true]
  refine wpAny_bind (wpAny_alloc ?_)
  refine wpAny_bind (wpAny_layCells _ (fun name kind cells => by cases hkc : kind == NameKind.cell <;> simp [hkc]) _ _ _ _ ?_)
  have ck := cf_ok (cl := cl) (z := s.heap.objs.size + 1) (fun n c e => Nat.lt_succ_of_lt (hlt n c (hcl n c e))) scope.names (s.heap.push { cls := .type "dict", data := .dict #[] }) cl (by rw [Heap.size_push]; exact Nat.le_refl _)
    ⟨fun n c e => .inl e, fun n n' c e e' => hinj n n' c (hcl n c e) (hcl n' c e')⟩
  obtain ⟨c1, c2, c3, c4⟩ := ck
  rw [show ({ s with heap := s.heap.push { cls := .type "dict", data := .dict #[] } } : Shared).heap.objs.size = (s.heap.push { cls := .type "dict", data := .dict #[] }).objs.size from rfl]
  refine wpAny_bind ?_
  rw [List.forIn_nil]
  refine wpAny_pure (wpAny_pure (hQ _ _ ((Heap.Ns.new s.heap (.type "dict")).keeps (pushCells_keeps _ _)) (fun b o e => pushCells_keeps _ _ b o (Heap.get?_push_of_some _ e)) ⟨fun n c e => ?_, c1.inj, fun n q => ?_, fun n c q e => ?_, fun n c q e => ?_⟩))
  · rcases c1.from' n c e with z | z
    · exact .inl (hcl n c z)
    · exact .inr ⟨z.1, z.2⟩
  · rcases q with q | q
    · exact Option.isSome_iff_exists.mp (c2 n (hcl2 n (PySem.mem_of_lookup q)))
    · obtain ⟨c, e, _⟩ := c3 n (.inr (PySem.mem_of_lookup q))
      exact ⟨c, e⟩
  · refine hcl n c (c4 n c (fun z => ?_) e)
    have := ok.cons _ z
    rw [q] at this; cases this
  · obtain ⟨c', e', hc'⟩ := c3 n (.inr (PySem.mem_of_lookup q))
    rw [e] at e'; cases e'
    exact hc'
section
variable {X : Cx} {pins : List (Addr × Obj)} {σ : L2.St} {H : Hp} {s : Shared} {scope : Scope} {N' : List Str} {n : Nat} {fp : List Addr} {cl : List (Str × Addr)}
theorem inv_comp {h1 : Heap} {m : Str → Option Value} {t : Nat} {cs : List (Str × Addr)} (ok : CompOk X scope N' n) (I : Inv X pins σ H s) (hf : ∀ b ∈ fp, FpOk X pins H b ∧ b < s.heap.objs.size) (bc : BlockC X scope s.heap.objs.size h1 cs)
    (hn : h1.Ns s.heap.objs.size m) (old : ∀ b u, s.heap.get? b = some u → h1.get? b = some u) :
    Inv (cxC X scope N' cs s.heap.objs.size s H fp) [] (σ ++ List.replicate n none) H { s with heap := h1, toks := t } := by
  have kindC : ∀ x, scope.names.lookup x = some .free → (relabel scope X.env).names.lookup x = some .cell ∨ (relabel scope X.env).names.lookup x = some .free := fun x h => by
    have e := relabel_lookup (env := X.env) scope.names x
    rw [h] at e
    have e' : (relabel scope X.env).names.lookup x = _ := e
    rw [e']
    simp only [Option.map_some]
    split
    · exact .inl rfl
    · exact .inr rfl
  refine ⟨⟨I.ok.mod, ok.kind, I.ok.glob, I.ok.blt, Nat.le_refl _, fun x y c h1 h2 => bc.inj x y c h1 h2, fun x hx => ?_, fun x c h e => Nat.le_of_lt (bc.own x c (eq_of_beq (show (scope.names.lookup x == some NameKind.cell) = true from h)) e), I.ok.hd, I.ok.frames, .inl rfl, fun b hb => ?_, I.bs, Nat.le_trans I.ok.bsz I.sz, fun b u e hb => ?_, fun b hb hfs => ?_, I.stack, I.stkFree⟩,
    rfl, I.bare, Un.kept old, ⟨m, hn, fun i x v e1 e2 hv => ?_⟩, fun x c e => ?_, I.hok.fresh (Nat.le_refl _), fun x c e => ?_, fun p hp => (by cases hp), I.hok.kept old, ?_⟩
  · -- a captured name has its cell
    have hx : (relabel scope X.env).names.lookup x = some .cell ∨ (relabel scope X.env).names.lookup x = some .free := hx
    have e := relabel_lookup (env := X.env) scope.names x
    have e' : (relabel scope X.env).names.lookup x = _ := e
    rw [e'] at hx
    refine bc.has x ?_
    cases q : scope.names.lookup x with
    | none => rw [q] at hx; simp at hx
    | some k =>
      rw [q] at hx
      by_cases hk : k = .free
      · rw [hk]; exact .inl rfl
      · have hk' : (k == NameKind.free) = false := by simpa using hk
        simp only [Option.map_some, hk', Bool.false_and, Bool.false_eq_true, if_false, Option.some.injEq] at hx
        rcases hx with rfl | rfl
        · exact .inr rfl
        · exact absurd rfl hk
  · obtain ⟨f, lt⟩ := hf b hb
    refine ⟨Nat.ne_of_lt lt, fun x c e => ?_⟩
    rcases bc.from' x c e with e | e
    · exact f.2.2.2.2.1 x c e
    · rintro rfl; exact absurd (Nat.lt_trans e.1 lt) (Nat.lt_irrefl _)
  · obtain ⟨f, lt⟩ := hf b hb
    rcases f.2.2.2.1 with h | h
    · exact I.ok.noex b u e h
    · have this : b < X.base.objs.size := Heap.lt_size e
      exact absurd (Nat.lt_of_lt_of_le this (Nat.le_trans I.ok.bsz h)) (Nat.lt_irrefl _)
  · obtain ⟨f, lt⟩ := hf b hb
    rcases List.mem_cons.mp (I.stkSub b hfs) with h | h
    · exact f.2.1 h
    · exact f.2.2.1 h
  · -- the names
    have hi : i < σ.length := by
      by_cases hi : i < σ.length
      · exact hi
      · rw [List.getElem?_append_right (by omega), List.getElem?_replicate] at e2
        split at e2 <;> cases e2
    rw [List.getElem?_append_left hi] at e2
    obtain ⟨h1', h2'⟩ := ok.get (by rw [← I.len]; exact hi) e1 hv
    have hk := ok.cap (x, .free) (PySem.mem_of_lookup h2') rfl
    obtain ⟨m0, hn0, hl⟩ := I.loc
    obtain ⟨u, r, l⟩ := hl i x v h1' e2 (.inr hk)
    refine ⟨u, r, .inr ⟨kindC x h2', ?_⟩⟩
    rcases l with ⟨hk', _⟩ | ⟨_, c, hc, hcell⟩
    · have hk' : X.env.scope.names.lookup x = some .local := hk'
      rcases hk with hk | hk <;> (rw [hk'] at hk; cases hk)
    · obtain ⟨c', hc'⟩ := bc.has x (.inl h2')
      have := bc.fre x c' h2' hc'
      rw [hc] at this; cases this
      refine ⟨c, hc', ?_⟩
      obtain ⟨oc, e3, e4⟩ := hcell
      exact ⟨oc, old c oc e3, e4⟩
  · rcases bc.from' x c e with e | e
    · obtain ⟨v, oc, e3, e4⟩ := I.cell x c e
      exact ⟨v, oc, old c oc e3, e4⟩
    · exact ⟨_, e.2⟩
  · rcases bc.from' x c e with e | e
    · exact I.freeC x c e
    · exact I.hok.fresh (Nat.le_of_lt e.1)
  · show (σ ++ List.replicate n none).length = N'.length
    rw [List.length_append, List.length_replicate, I.len, ok.len]
theorem compLoop_any {prog : Program} {w : World} {A : Around} {R : Result → Shared → Prop} {elt target iter : Expr} {ifs : List Expr} {scope : Scope} {pos : Pos} {it acc : Value} {env : Env} (I : Nat → Shared → Prop)
    (turn : ∀ n s, I n s → wpAny (model prog w) A (pyNext it) (fun r s₁ => match r with
      | none => R (.ok .next) s₁
      | some v => wpAny (model prog w) A (letOwnedTupleGo target it v) (fun _ s₁ => wpAny (model prog w) A (assign target env v) (fun _ s₂ =>
          wpAny (model prog w) A (forIn ifs true fun c r => if r = true then do let ok ← isTrue c env (eval c env); pure (ForInStep.yield ok) else pure (ForInStep.yield r)) (fun ok s₃ =>
            if ok = true then wpAny (model prog w) A (eval elt env) (fun x s₄ =>
              wpAny (model prog w) A (call (.builtin "list.append") [acc, x]) (fun _ s₅ => ∃ m, m < n ∧ I m s₅) (notedBy (model prog w) A env fun e s' => R (.error e) s') s₄) (notedBy (model prog w) A env fun e s' => R (.error e) s') s₃
            else ∃ m, m < n ∧ I m s₃) (notedBy (model prog w) A env fun e s' => R (.error e) s') s₂) (notedBy (model prog w) A env fun e s' => R (.error e) s') s₁) (notedBy (model prog w) A env fun e s' => R (.error e) s') s₁) (notedBy (model prog w) A env fun e s' => R (.error e) s') s)
    (n : Nat) {s : Shared} (h : I n s) :
    codeAny (model prog w) A (.compLoop (.ListComp elt [⟨target, iter, ifs, 0⟩] scope pos) 0 it acc env) R s := by
  refine codeAny_loop rfl I (fun n s hI => ?_) n h
  show wpAny _ A ((compTurn (.ListComp elt [⟨target, iter, ifs, 0⟩] scope pos) 0 it acc env).onRaise (fun x => do noteFrame x env; theTreesLotGoes x)) _ _ s
  refine wpAny_noted ?_
  rw [compTurn_list]
  refine wpAny_bind (wpAny_standAt (wpAny_bind (wpAny_mono (turn n s hI) (fun r s₁ h₁ => ?_) fun _ _ h' => h')))
  cases r with
  | none => exact wpAny_pure h₁
  | some v =>
    refine wpAny_bind (wpAny_mono h₁ (fun _ s₁ h₁ => ?_) fun _ _ h' => h')
    refine wpAny_bind (wpAny_mono h₁ (fun _ s₂ h₂ => wpAny_bind (wpAny_mono h₂ (fun ok s₃ h₃ => ?_) fun _ _ h' => h')) fun _ _ h' => h')
    cases ok with
    | false => exact wpAny_pure ⟨rfl, h₃⟩
    | true =>
      exact wpAny_bind (wpAny_bind (wpAny_mono h₃ (fun x s₄ h₄ => wpAny_bind (wpAny_mono h₄ (fun _ s₅ h₅ => wpAny_pure (wpAny_pure ⟨rfl, h₅⟩)) fun _ _ h' => h')) fun _ _ h' => h'))
noncomputable def PTs (X : Cx) (ifs : List Expr) (t : TT) : Prop :=
  ∀ (pins : List (Addr × Obj)) (s : Shared) (σ : L2.St) (H : Hp) (Q : Bool → Hp → Prop), Inv X pins σ H s → t σ H Q →
    wpAny (model X.prog X.w) X.A (forIn ifs true fun c r => if r = true then do let ok ← isTrue c X.env (eval c X.env); pure (ForInStep.yield ok) else pure (ForInStep.yield r)) (TP X pins σ Q) X.xe s
theorem pts_nil {X : Cx} : PTs X [] (fun _ H Q => Q true H) := fun pins s σ H Q I h => wpAny_tests_nil ⟨H, I, h⟩
theorem pts_one {X : Cx} {c : Expr} {t : TT} (h : PT X c t) : PTs X [c] t := fun pins s σ H Q I q => wpAny_tests_one (h pins s σ H Q I q)
noncomputable def CompW (J : It) (g : TG) (tt : TT) (te : TE) (D : Addr) (Q : Hp → Prop) (W : Nat → Nat → List V → L2.St → Hp → Prop) : Prop :=
  ∀ i m ys σ H, W i m ys σ H → H D = some (.lst ys) ∧ ((J.stop i H ∧ Q H) ∨ (J.go i H ∧ ∀ x H2, J.yld i H x H2 → g x σ H2 fun σ3 H3 => tt σ3 H3 fun b H4 => if b = true then
    te σ3 H4 fun y H5 => H5 D = some (.lst ys) ∧ ys.length < sizeLine ∧ ∃ m', m' < m ∧ W (i + 1) m' (ys ++ [y]) σ3 (upd H5 D (.lst (ys ++ [y]))) else ∃ m', m' < m ∧ W (i + 1) m' ys σ3 H4))
theorem comp_core {E : Value → Shared → Prop} {elt target iter : Expr} {ifs : List Expr} {pos : Pos} {it : Addr} {tn : Nat → Heap → Prop} {J : It} {g : TG} {tt : TT} {te : TE} {Q : Addr → Hp → Prop} {RR : Value → Addr → Result → Shared → Prop}
    (hc : X.calm = true) (ok : CompOk X scope N' n) (I : Inv X pins σ H s) (hcl : ∀ n c, cl.lookup n = some c → X.env.cells.lookup n = some c) (hcl2 : ∀ n, (n, NameKind.free) ∈ scope.names → (cl.lookup n).isSome)
    (T : Turn X.prog X.w X.K target J fp it tn) (h0 : tn 0 s.heap) (hf : ∀ b ∈ fp, FpOk X pins H b)
    (hg : ∀ cl C s₀ H₀ ex, PG (cxC X scope N' cl C s₀ H₀ ex) target g) (ht : ∀ cl C s₀ H₀ ex, PTs (cxC X scope N' cl C s₀ H₀ ex) ifs tt) (he : ∀ cl C s₀ H₀ ex, PE (cxC X scope N' cl C s₀ H₀ ex) elt te)
    (hw : ∀ D, H D = none → ∃ W, (∃ m, W 0 m [] (σ ++ List.replicate n none) (upd H D (.lst []))) ∧ CompW J g tt te D (Q D) W)
    (hRR : ∀ D C s' H', Q D H' → (∃ m, s'.heap.Ns C m) → FpOk X pins H' C → Inv X pins σ H' s' → RR (.ref D) C (.ok .next) s') :
    wpAny (model X.prog X.w) X.A (newList []) (fun acc s₃ => wpAny (model X.prog X.w) X.A (newFunctionEnv scope X.env.globals cl [] X.env.qual none .none (some X.env)) (fun cenv s₄ =>
      codeAny (model X.prog X.w) X.A (.compStart (.ListComp elt [⟨target, iter, ifs, 0⟩] scope pos) 0 (.ref it) acc { cenv with scope := relabel scope X.env }) (RR acc cenv.locals) s₄) E s₃) E s := by
  refine wpAny_newObj_type (nfe_cells ok (fun x c e => ?lt) I.ok.inj hcl hcl2 (fun cs h₁ hns hold bc => ?_))
  case lt =>
    obtain ⟨v, z⟩ := I.cell x c e
    exact Nat.lt_of_lt_of_le z.lt (by show _ ≤ (s.heap.push _).objs.size; rw [Heap.size_push]; exact Nat.le_succ _)
  dsimp only at hns hold bc ⊢
  -- the new list, tracked
  have I3 : Inv X pins σ (upd H s.heap.objs.size (.lst [])) { s with heap := s.heap.push { cls := .type "list", data := .seq ([] : List Value).toArray } } := I.lnew (t' := s.toks) .nil (Nat.zero_le _)
  generalize hs3 : ({ s with heap := s.heap.push { cls := .type "list", data := .seq ([] : List Value).toArray } } : Shared) = s3 at I3
  have hsz : s3.heap.objs.size = s.heap.objs.size + 1 := by rw [← hs3]; exact Heap.size_push _ _
  have hheap : s3.heap = s.heap.push { cls := .type "list", data := .seq ([] : List Value).toArray } := by rw [← hs3]
  obtain ⟨W, ⟨m0, w0⟩, turn⟩ := hw s.heap.objs.size I.fresh
  have tnK : ∀ {h' : Heap}, (∀ b o, s.heap.get? b = some o → h'.get? b = some o) → tn 0 h' := fun k => T.keep _ _ _ h0 fun b hb o e => k b o e
  have fp3 : ∀ b ∈ fp, FpOk X pins (upd H s.heap.objs.size (.lst [])) b ∧ b < s3.heap.objs.size := fun b hb => by
    obtain ⟨o, e, _⟩ := T.obj 0 _ h0 b hb
    have lt := Heap.lt_size e
    obtain ⟨f1, f2⟩ := hf b hb
    exact ⟨⟨by rw [upd_ne (Nat.ne_of_lt lt)]; exact f1, f2⟩, by rw [hsz]; exact Nat.lt_succ_of_lt lt⟩
  rw [← hheap] at hns hold bc ⊢
  have I4 := inv_comp (t := s3.toks) ok I3 fp3 bc hns hold
  have old4 : ∀ b o, s.heap.get? b = some o → h₁.get? b = some o := fun b o e => hold b o (by rw [hheap]; exact Heap.get?_push_of_some _ e)
  generalize hX : cxC X scope N' cs s3.heap.objs.size s3 (upd H s.heap.objs.size (.lst [])) fp = X' at I4
  have hA : X'.A = X.A := by rw [← hX]; rfl
  have hpr : X'.prog = X.prog := by rw [← hX]; rfl
  have hwr : X'.w = X.w := by rw [← hX]; rfl
  have hKK : X'.K = X.K := by rw [← hX]; rfl
  have hcalm : X'.calm = true := by rw [← hX]; exact hc
  have hxe : X'.xe = fun _ _ => False := by rw [← hX]; rfl
  have henv : X'.env = compEnvC scope cs s3.heap.objs.size X.env := by rw [← hX]; rfl
  have hg' : PG X' target g := by rw [← hX]; exact hg _ _ _ _ _
  have ht' : PTs X' ifs tt := by rw [← hX]; exact ht _ _ _ _ _
  have he' : PE X' elt te := by rw [← hX]; exact he _ _ _ _ _
  have ff : ∀ {H' : Hp} {b : Addr}, b ∈ fp → H' b = none → FpOk X' [] H' b := fun {H' b} hb hn => by
    obtain ⟨f, lt⟩ := fp3 b hb
    rw [← hX]
    refine ⟨hn, Nat.ne_of_lt lt, fun hfs => ?_, .inl hb, fun x c e => ?_, fun p hp => by cases hp⟩
    · rcases List.mem_cons.mp (I3.stkSub b hfs) with h | h
      · exact f.2.1 h
      · exact f.2.2.1 h
    · rcases bc.from' x c e with e | e
      · exact f.2.2.2.2.1 x c e
      · rintro rfl; exact absurd (Nat.lt_trans e.1 lt) (Nat.lt_irrefl _)
  -- behind the block
  have fin : ∀ {σ' : L2.St} {H' : Hp} {s' : Shared}, Inv X' [] σ' H' s' → Q s.heap.objs.size H' → RR (.ref s.heap.objs.size) s3.heap.objs.size (.ok .next) s' := fun {σ' H' s'} J' q => by
    rw [← hX] at J'
    have hC : H' s3.heap.objs.size = none := J'.free
    obtain ⟨hh, gg, dd, tt', os'⟩ := s'
    have eos : os' = s3.os := J'.os
    subst eos
    refine hRR _ _ _ H' q (let ⟨m, hm, _⟩ := J'.loc; ⟨m, hm⟩) ?_ (I3.call (h' := hh) (g' := gg) (d' := dd) (t' := tt') (ch := fp) J'.base J'.hok J'.bare fun b hb => ?_)
    · exact I3.fpOk (Nat.le_refl _) hC
    · obtain ⟨f, lt⟩ := fp3 b hb
      exact ⟨f.2.2.2.1, f.2.1, f.2.2.2.2.1, f.2.2.2.2.2⟩
  have main : codeAny (model X.prog X.w) X.A (.compLoop (.ListComp elt [⟨target, iter, ifs, 0⟩] scope pos) 0 (.ref it) (.ref s.heap.objs.size) X'.env) (RR (.ref s.heap.objs.size) s3.heap.objs.size) { s3 with heap := h₁, toks := s3.toks } := by
    refine compLoop_any (fun k s' => ∃ i ys σ' H', Inv X' [] σ' H' s' ∧ tn i s'.heap ∧ (∀ b ∈ fp, H' b = none) ∧ W i k ys σ' H') (fun k s5 hI => ?_) m0 ⟨0, [], _, _, I4, tnK old4, fun b hb => (fp3 b hb).1.1, w0⟩
    obtain ⟨i, ys, σ5, H5, I5, t5, f5, w5⟩ := hI
    obtain ⟨hD, hturn⟩ := turn i k ys σ5 H5 w5
    have noE : ∀ {Z : Value → Shared → Prop}, ∀ (e : Value) (s' : Shared), X'.xe e s' → Z e s' := fun e s' z => by rw [hxe] at z; exact False.elim z
    rcases hturn with ⟨stop, q⟩ | ⟨go, step⟩
    · have z := T.done X' hpr hwr hKK hcalm i [] s5 σ5 H5 (fun _ _ => False) I5 (fun b hb => ff hb (f5 b hb)) t5 stop
      rw [hA] at z
      refine wpAny_mono z (?_) fun _ _ z => False.elim z
      rintro r s6 ⟨hr, I6⟩
      subst hr
      exact fin I6 q
    · have z := T.item X' hpr hwr hKK hcalm i [] s5 σ5 H5 (fun _ _ => False) I5 (fun b hb => ff hb (f5 b hb)) t5 go
      rw [hA] at z
      refine wpAny_mono z (?_) fun _ _ z => False.elim z
      rintro r s6 ⟨u, hr, z6⟩
      subst hr
      refine wpAny_mono z6 (?_) fun _ _ z => False.elim z
      rintro _ s7 ⟨x, H7, I7, r7, y7, t7, f7⟩
      have I7' := I7.pinned (fun b hb => ff hb (f7 b hb)) (T.obj _ _ t7)
      -- what the pins keep
      have back : ∀ {σ' : L2.St} {H' : Hp} {s' : Shared}, Inv X' ([] ++ pinsAt fp s7.heap) σ' H' s' → Inv X' [] σ' H' s' ∧ tn (i + 1) s'.heap ∧ ∀ b ∈ fp, H' b = none := fun {σ' H' s'} J' => by
        refine ⟨J'.unpinned, T.keep _ _ _ t7 fun b hb o e => (J'.pin (b, o) (List.mem_append_right _ (List.mem_append_right _ (mem_pinsAt hb e)))).1, fun b hb => ?_⟩
        obtain ⟨o, e, _⟩ := T.obj _ _ t7 b hb
        exact (J'.pin (b, o) (List.mem_append_right _ (List.mem_append_right _ (mem_pinsAt hb e)))).2.1
      have z7 := hg' _ s7 σ5 H7 x u _ I7' r7 (step x H7 y7)
      rw [hA, hpr, hwr] at z7
      refine wpAny_mono z7 (?_) noE
      rintro _ s8 ⟨σ8, H8, I8, q8⟩
      have z8 := ht' _ s8 σ8 H8 _ I8 q8
      rw [hA, hpr, hwr] at z8
      refine wpAny_mono z8 (?_) noE
      rintro b s9 ⟨H9, I9, q9⟩
      cases b with
      | false =>
        rw [if_neg Bool.false_ne_true] at q9 ⊢
        obtain ⟨m', hm, w'⟩ := q9
        obtain ⟨b1, b2, b3⟩ := back I9
        exact ⟨m', hm, i + 1, ys, σ8, H9, b1, b2, b3, w'⟩
      | true =>
        rw [if_pos rfl] at q9 ⊢
        have z9 := he' _ s9 σ8 H9 _ I9 q9
        rw [hA, hpr, hwr] at z9
        refine wpAny_mono z9 (?_) noE
        rintro y s10 ⟨yv, H10, I10, r10, hD10, hlen, m', hm, w'⟩
        have z10 := mt_append _ s10 σ8 H10 (.ref s.heap.objs.size) [yv] (.ref s.heap.objs.size) [y] (fun v H11 => H11 = upd H10 s.heap.objs.size (.lst (ys ++ [yv]))) I10 rfl (.cons r10 .nil) ⟨_, ys, yv, rfl, rfl, hD10, hlen, rfl⟩
        rw [hA, hpr, hwr] at z10
        refine wpAny_mono z10 (?_) noE
        rintro _ s11 ⟨_, H11, I11, _, e11⟩
        subst e11
        obtain ⟨b1, b2, b3⟩ := back I11
        exact ⟨m', hm, i + 1, ys ++ [yv], σ8, _, b1, b2, b3, w'⟩
  have e3 : ({ s3 with heap := h₁, toks := s3.toks } : Shared) = { s with heap := h₁ } := by rw [← hs3]
  rw [henv, e3] at main
  exact codeAny_compStart_list main (T.self _ 0 _ _ _ (tnK old4) main)
end
end L2
end
section
set_option linter.all false
set_option Elab.async false
set_option maxRecDepth 10000
namespace L2
open PySem PySem.Spec PyProof.Rows
section
variable {X : Cx} {elt target iter : Expr} {ifs : List Expr} {scope : Scope} {pos : Pos} {N' : List Str} {n : Nat} {wi : TI} {g : TG} {tt : TT} {te : TE}
noncomputable def tComp (n : Nat) (wi : TI) (g : TG) (tt : TT) (te : TE) : TE := fun σ H Q => wi σ H fun J H1 => ∀ D, H1 D = none → ∃ W, (∃ m, W 0 m [] (σ ++ List.replicate n none) (upd H1 D (.lst []))) ∧ CompW J g tt te D (fun H' => Q (.ref D) H') W
theorem comp_closure {pins : List (Addr × Obj)} {σ : L2.St} {H : Hp} {s : Shared} (I : Inv X pins σ H s) (ok : CompOk X scope N' n) :
    ∃ cl, closureFor scope X.env = pure cl ∧ (∀ n c, cl.lookup n = some c → X.env.cells.lookup n = some c) ∧ ∀ n, (n, NameKind.free) ∈ scope.names → (cl.lookup n).isSome :=
  closure_ok fun m hm => I.ok.has m (ok.cap (m, .free) hm rfl)
theorem pe_comp (hc : X.calm = true) (ok : CompOk X scope N' n) (hi : PI X target iter wi)
    (hg : ∀ cl C s₀ H₀ ex, PG (cxC X scope N' cl C s₀ H₀ ex) target g) (ht : ∀ cl C s₀ H₀ ex, PTs (cxC X scope N' cl C s₀ H₀ ex) ifs tt) (he : ∀ cl C s₀ H₀ ex, PE (cxC X scope N' cl C s₀ H₀ ex) elt te)
    (hs : ∀ x, foldedSetIterable iter X.env x = pure x := by intro _; rfl) : PE X (.ListComp elt [⟨target, iter, ifs, 0⟩] scope pos) (tComp n wi g tt te) := by
  intro pins s σ H Q I h
  obtain ⟨cl, hclos, hcl, hcl2⟩ := comp_closure I ok
  rw [eval_ListComp]
  refine wpAny_comprehension_free (use := none) rfl hs hclos ok.kind ok.names (thn (hi pins s σ H _ I h) fun v s1 h1 => thn h1 fun itv s2 h2 => ?_)
  obtain ⟨it, fp, tn, J, H2, rfl, I2, T, t0, f2, hw⟩ := h2
  refine comp_core (Q := fun D H' => Q (.ref D) H') (RR := fun acc C => compPost (model X.prog X.w) X.A X.xe none (EP X pins σ Q) acc C) hc ok I2 hcl hcl2 T t0 f2 hg ht he hw fun D C s' H' q hm fpC I' => ?_
  obtain ⟨m, hm⟩ := hm
  refine ⟨m, hm, fun h' hs' => ⟨.ref D, H', ?_, rfl, q⟩⟩
  exact I'.turned (t' := s'.toks) (fun b o hb e => hs'.extBut b o hb e) fpC.1 fpC.2.1 fpC.2.2.2.1 fpC.2.2.2.2.1 fpC.2.2.2.2.2
theorem ps_setC {i : Nat} {x : Str} {pos' spos : Pos} (hc : X.calm = true) (hN : X.N.Nodup) (hx0 : X.N[i]? = some x) (hx : Loc X.env.scope x) (ok : CompOk X scope N' n) (hi : PI X target iter wi)
    (hg : ∀ cl C s₀ H₀ ex, PG (cxC X scope N' cl C s₀ H₀ ex) target g) (ht : ∀ cl C s₀ H₀ ex, PTs (cxC X scope N' cl C s₀ H₀ ex) ifs tt) (he : ∀ cl C s₀ H₀ ex, PE (cxC X scope N' cl C s₀ H₀ ex) elt te)
    (hsw : swapsWith (.ListComp elt [⟨target, iter, ifs, 0⟩] scope pos) (some (.Name x pos')) spos.line X.env = pure true)
    (hs : ∀ x, foldedSetIterable iter X.env x = pure x := by intro _; rfl) (hf : X.fn x = true ∨ X.env.scope.names.lookup x = some .local := by first | exact .inl rfl | exact .inr rfl | assumption) :
    PS X (.Assign [.Name x pos'] (.ListComp elt [⟨target, iter, ifs, 0⟩] scope pos) spos) (tAsg (tComp n wi g tt te) (gName i)) := by
  intro pins s σ H D I h
  obtain ⟨cl, hclos, hcl, hcl2⟩ := comp_closure I ok
  rw [exec_Assign_Name_used _ _ _ _ hsw]
  refine wpAny_bind (wpAny_standAt (wpAny_bind ?_))
  show wpAny _ X.A (do let _ ← comprehension (.ListComp elt [⟨target, iter, ifs, 0⟩] scope pos) scope X.env _ (newList []) false (eval iter X.env) (some (assign (.Name x pos') X.env))) _ _ s
  refine wpAny_bind (wpAny_mono (wpAny_comprehension_free (use := some (assign (.Name x pos') X.env)) (Q := fun _ s' => SP X pins D .next s') rfl hs hclos ok.kind ok.names
    (thn (hi pins s σ H _ I h) fun v s1 h1 => thn h1 fun itv s2 h2 => ?_)) (fun _ s' hq => wpAny_pure (wpAny_pure hq)) fun _ _ e => e)
  obtain ⟨it, fp, tn, J, H2, rfl, I2, T, t0, f2, hw⟩ := h2
  refine comp_core (Q := fun Da H' => D.nx (σ.set i (some (.ref Da))) H') (RR := fun acc C => compPost (model X.prog X.w) X.A X.xe (some (assign (.Name x pos') X.env)) (fun _ s' => SP X pins D .next s') acc C) hc ok I2 hcl hcl2 T t0 f2 hg ht he hw fun Da C s' H' q hm fpC I' => ?_
  obtain ⟨m, hm⟩ := hm
  show wpAny _ X.A (assign (.Name x pos') X.env (.ref Da)) _ _ _
  refine wpAny_assign_Name (store_ok2 I' hN hx0 hx (show RelV (.ref Da) (.ref Da) from rfl) (?_) hf)
  rintro s'' I'' ⟨a, sb, ha⟩
  have hCa : C ≠ a := by
    rcases ha with rfl | ha
    · exact fpC.2.1
    · exact fun z => fpC.2.2.2.2.1 x a ha z.symm
  refine ⟨m, hm.sameBut sb hCa, fun h' hs' => ⟨_, H', ?_, q⟩⟩
  exact I''.turned (t' := s''.toks) (fun b o hb e => hs'.extBut b o hb e) fpC.1 fpC.2.1 fpC.2.2.2.1 fpC.2.2.2.2.1 fpC.2.2.2.2.2
noncomputable def iSeq (K : PySem.W.Frag) (tl : TE) : TI := fun σ H R => tl σ H fun x H1 => ∃ a, x = .ref a ∧ (((∃ xs, SqL K H1 a xs) ∧ R (Itl K a) H1) ∨ ((∃ xs, SqT K H1 a xs) ∧ R (Itt K a) H1))
theorem pi_seq {tg l : Expr} {tl : TE} (hl : PE X l tl) : PI X tg l (iSeq X.K tl) := by
  intro pins s σ H R I h
  refine thn (hl pins s σ H _ I h) ?_
  rintro v s1 ⟨x, H1, I1, r1, q1⟩
  obtain ⟨a, e, q1⟩ := q1
  subst e
  cases r1
  rcases q1 with ⟨⟨xs, hq⟩, q⟩ | ⟨⟨xs, hq⟩, q⟩
  · obtain ⟨its, rv, p, hz⟩ := I1.list hq
    refine wpAny_pyIter_list p.isList ?_
    refine ⟨s1.heap.objs.size, [s1.heap.objs.size], _, _, H1, rfl, I1.kept (t' := s1.toks) fun b o e => Heap.get?_push_of_some _ e, turn_list a _, ⟨_, Heap.get?_push_size _ rfl, rfl, rfl⟩, fun b hb => ?_, q⟩
    have e : b = s1.heap.objs.size := by simpa using hb
    subst e
    exact I1.fpOk (Nat.le_refl _) (I1.hok.fresh (Nat.le_refl _))
  · obtain ⟨its, rv, p, hz⟩ := I1.tuple hq
    refine wpAny_pyIter_tuple (show s1.heap.IsTuple a its.toArray from p) ?_
    refine ⟨s1.heap.objs.size, [s1.heap.objs.size], _, _, H1, rfl, I1.kept (t' := s1.toks) fun b o e => Heap.get?_push_of_some _ e, turn_tuple a _, ⟨_, Heap.get?_push_size _ rfl, rfl, rfl⟩, fun b hb => ?_, q⟩
    have e : b = s1.heap.objs.size := by simpa using hb
    subst e
    exact I1.fpOk (Nat.le_refl _) (I1.hok.fresh (Nat.le_refl _))
end
end L2
end
section
set_option linter.all false
set_option Elab.async false
set_option maxRecDepth 10000
namespace HH
open PySem L2 PySem.Spec PyProof.Rows
structure Walk (K : PySem.W.Frag) (F : Hp) (ρ : List Sl) (σ : L2.St) (H : Hp) (ul : List Sl → List Sl) (J : It) (ds : List D) (F1 : Hp) (ρ1 : List Sl) (H1 : Hp) : Prop where
  gs : GS K F1 ρ1 σ H1
  src : ∀ (n k : Nat) (F' : Hp) (ρ' : List Sl) (σ' : L2.St) (H' : Hp), Stp K F1 (ρ1 ++ List.replicate n .unb) (σ ++ List.replicate n none) H1 F' ρ' σ' H' →
    (∀ d, ds[k]? = some d → J.go k H' ∧ ∀ x H'', J.yld k H' x H'' → ∃ F'', Ext F' H' F'' H'' ∧ Rep K F'' x d) ∧ (ds.length ≤ k → J.stop k H')
  fin : ∀ F2 ρ2 σ2 H2, Stp K F1 ρ1 σ H1 F2 ρ2 σ2 H2 → Stp K F ρ σ H F2 (ul ρ2) σ2 H2 ∧ ∀ v r, RepR K F2 ρ2 σ2 H2 ρ1 σ H1 v r → RepR K F2 (ul ρ2) σ2 H2 ρ σ H v r
noncomputable def tIt (K : PySem.W.Frag) (iv : Option Nat) (f : Ev) : TI := fun σ H R => ∃ F ρ ds ρ1, GS K F ρ σ H ∧ srcOf iv f ρ = .ok ds ρ1 ∧ ∀ J F1 H1, Walk K F ρ σ H (unlend ρ iv) J ds F1 ρ1 H1 → R J H1
section
variable {K : PySem.W.Frag} {F F1 H H1 : Hp} {ρ ρ1 : List Sl} {σ : L2.St} {ds : List D} {a : Addr}
theorem itt_src {xs : List V} {F' H' : Hp} (hq : SqT K H' a xs) (r : Reps K F' xs ds) (s : Same F' H') (k : Nat) :
    (∀ d, ds[k]? = some d → (Itt K a).go k H' ∧ ∀ x H'', (Itt K a).yld k H' x H'' → ∃ F'', Ext F' H' F'' H'' ∧ Rep K F'' x d) ∧ (ds.length ≤ k → (Itt K a).stop k H') := by
  refine ⟨fun d hd => ?_, fun h => ⟨xs, hq, by rw [r.length]; exact h⟩⟩
  obtain ⟨w, h1, h2⟩ := r.get hd
  refine ⟨⟨xs, w, hq, h1⟩, ?_⟩
  rintro x H'' ⟨e, y⟩
  subst e
  have := y xs hq
  rw [h1] at this; cases this
  exact ⟨F', .refl s, h2⟩
theorem itl_src' {xs : List V} {F' H' : Hp} (hq : SqL K H' a xs) (r : Reps K F' xs ds) (s : Same F' H') (k : Nat) :
    (∀ d, ds[k]? = some d → (Itl K a).go k H' ∧ ∀ x H'', (Itl K a).yld k H' x H'' → ∃ F'', Ext F' H' F'' H'' ∧ Rep K F'' x d) ∧ (ds.length ≤ k → (Itl K a).stop k H') := by
  refine ⟨fun d hd => ?_, fun h => ⟨xs, hq, by rw [r.length]; exact h⟩⟩
  obtain ⟨w, h1, h2⟩ := r.get hd
  refine ⟨⟨xs, w, hq, h1⟩, ?_⟩
  rintro x H'' ⟨e, y⟩
  subst e
  have := y xs hq
  rw [h1] at this; cases this
  exact ⟨F', .refl s, h2⟩
theorem walk_dat {ul : List Sl → List Sl} {v : V} {d : D} (s : Stp K F ρ σ H F1 ρ1 σ H1) (r : Rep K F1 v d) (hi : items d = some ds)
    (fin : ∀ F2 ρ2 σ2 H2, Stp K F1 ρ1 σ H1 F2 ρ2 σ2 H2 → Stp K F ρ σ H F2 (ul ρ2) σ2 H2 ∧ ∀ v r, RepR K F2 ρ2 σ2 H2 ρ1 σ H1 v r → RepR K F2 (ul ρ2) σ2 H2 ρ σ H v r) :
    ∃ a, v = .ref a ∧ (((∃ xs, SqL K H1 a xs) ∧ Walk K F ρ σ H ul (Itl K a) ds F1 ρ1 H1) ∨ ((∃ xs, SqT K H1 a xs) ∧ Walk K F ρ σ H ul (Itt K a) ds F1 ρ1 H1)) := by
  cases d with
  | tup es =>
    cases hi
    rw [Rep] at r
    obtain ⟨a, xs, rfl, h1, h2⟩ := r
    exact ⟨a, rfl, .inr ⟨⟨xs, Same.seqT s.gs.sub h1⟩, s.gs, fun n k F' ρ' σ' H' s' => itt_src (Same.seqT s'.gs.sub (Same.seqT s'.fsub h1)) (h2.mono s'.fsub) s'.gs.sub k, fin⟩⟩
  | lst es =>
    cases hi
    rw [Rep] at r
    obtain ⟨a, xs, rfl, h1, h2⟩ := r
    exact ⟨a, rfl, .inl ⟨⟨xs, s.gs.sub.seq h1⟩, s.gs, fun n k F' ρ' σ' H' s' => itl_src' (s'.gs.sub.seq (s'.fsub.seq h1)) (h2.mono s'.fsub) s'.gs.sub k, fin⟩⟩
  | _ => cases hi
theorem walk_lent {i : Nat} {ul : List Sl → List Sl} (g : GS K F ρ1 σ H) (e : ρ1[i]? = some (.lent ds))
    (fin : ∀ F2 ρ2 σ2 H2, Stp K F ρ1 σ H F2 ρ2 σ2 H2 → Stp K F ρ σ H F2 (ul ρ2) σ2 H2 ∧ ∀ v r, RepR K F2 ρ2 σ2 H2 ρ1 σ H v r → RepR K F2 (ul ρ2) σ2 H2 ρ σ H v r) :
    ∃ a, σ[i]? = some (some (.ref a)) ∧ (∃ xs, SqL K H a xs) ∧ Walk K F ρ σ H ul (Itl K a) ds F ρ1 H := by
  obtain ⟨a, xs, h1, h2, h3, h4⟩ := g.own i _ ds e rfl
  have hi : i < ρ1.length := (List.getElem?_eq_some_iff.mp e).1
  refine ⟨a, h1, ⟨xs, SqL.of h2⟩, g, fun n k F' ρ' σ' H' s' => ?_, fin⟩
  obtain ⟨z1, t, z2, z3⟩ := s'.lk i _ (by rw [List.getElem?_append_left hi]; exact e) rfl
  cases (show t = .lent ds from z3)
  rw [List.getElem?_append_left (by rw [← g.len]; exact hi), h1] at z1
  obtain ⟨a', ys, w1, w2, w3, w4⟩ := s'.gs.own i _ ds z2 rfl
  rw [z1] at w1; cases w1
  exact itl_src' (SqL.of w2) w4 s'.gs.sub k
end
section
variable {X : Cx} {c : Call} {n : Nat} {e a b d tg : Expr} {p pa pb pd : P} {pos : Pos}
theorem piImp {t t' : TI} (h : PI X tg e t) (i : ∀ σ H R, t' σ H R → t σ H R) : PI X tg e t' := fun pins s σ H R I q => h pins s σ H R I (i σ H R q)
noncomputable def SI (X : Cx) (c : Call) (tg e : Expr) (p : P) : Prop := PI X tg e (tIt X.K (isVar p) (HH.ev c p))
theorem si_seq (h : SX X c e p) : SI X c tg e p := by
  unfold SI
  cases hv : isVar p with
  | none =>
    refine piImp (pi_seq h.ev) ?_
    rintro σ H R ⟨F, ρ, ds, ρ1, g, e, k⟩
    obtain ⟨r, ρ2, e1, e2⟩ := bind_ok e
    have zz := lift_ok e2; clear e2; obtain ⟨e2, e3⟩ := zz
    subst e3
    refine ⟨F, ρ, r, _, g, e1, fun v F' H' s rr => ?_⟩
    obtain ⟨F2, s2, _, rp⟩ := s.frz rr
    obtain ⟨a, ha, hw⟩ := walk_dat (ul := unlend ρ none) s2 rp e2 fun F3 ρ3 σ3 H3 s3 => ⟨s2.trans s3, fun v r rr => rr.later s2⟩
    exact ⟨a, ha, hw.imp (fun ⟨z, w⟩ => ⟨z, k _ _ _ w⟩) (fun ⟨z, w⟩ => ⟨z, k _ _ _ w⟩)⟩
  | some i =>
    refine piImp (pi_seq (h.var i hv)) ?_
    rintro σ H R ⟨F, ρ, ds, ρ1, g, e, k⟩
    unfold srcOf at e
    dsimp only at e
    split at e
    · rename_i b d q
      have zz := lift_ok e; clear e; obtain ⟨e2, e3⟩ := zz
      subst e3
      obtain ⟨v, h1, h2⟩ := g.val i b d q
      have fin : ∀ F2 ρ2 σ2 H2, Stp X.K F ρ σ H F2 ρ2 σ2 H2 → Stp X.K F ρ σ H F2 (unlend ρ (some i) ρ2) σ2 H2 ∧ ∀ v r, RepR X.K F2 ρ2 σ2 H2 ρ σ H v r → RepR X.K F2 (unlend ρ (some i) ρ2) σ2 H2 ρ σ H v r := fun F2 ρ2 σ2 H2 s => by
        unfold unlend; dsimp only; rw [q]; exact ⟨s, fun _ _ z => z⟩
      obtain ⟨a, ha, hw⟩ := walk_dat (ul := unlend ρ (some i)) (.refl g) h2 e2 fin
      exact ⟨v, h1, a, ha, hw.imp (fun ⟨z, w⟩ => ⟨z, k _ _ _ w⟩) (fun ⟨z, w⟩ => ⟨z, k _ _ _ w⟩)⟩
    · rename_i b ds' q
      cases e
      have hi : i < ρ.length := (List.getElem?_eq_some_iff.mp q).1
      have fin : ∀ F2 ρ2 σ2 H2, Stp X.K F (ρ.set i (.lent ds)) σ H F2 ρ2 σ2 H2 → Stp X.K F ρ σ H F2 (unlend ρ (some i) ρ2) σ2 H2 ∧ ∀ v r, RepR X.K F2 ρ2 σ2 H2 (ρ.set i (.lent ds)) σ H v r → RepR X.K F2 (unlend ρ (some i) ρ2) σ2 H2 ρ σ H v r := fun F2 ρ2 σ2 H2 s => by
        unfold unlend; dsimp only; rw [q]; exact Stp.unlend g q s
      obtain ⟨a, h1, hx, w⟩ := walk_lent (ul := unlend ρ (some i)) (g.lend q) (List.getElem?_set_self hi) fin
      exact ⟨_, h1, a, rfl, .inl ⟨hx, k _ _ _ w⟩⟩
    · rename_i ds' q
      cases e
      have fin : ∀ F2 ρ2 σ2 H2, Stp X.K F ρ σ H F2 ρ2 σ2 H2 → Stp X.K F ρ σ H F2 (unlend ρ (some i) ρ2) σ2 H2 ∧ ∀ v r, RepR X.K F2 ρ2 σ2 H2 ρ σ H v r → RepR X.K F2 (unlend ρ (some i) ρ2) σ2 H2 ρ σ H v r := fun F2 ρ2 σ2 H2 s => by
        unfold unlend; dsimp only; rw [q]; exact ⟨s, fun _ _ z => z⟩
      obtain ⟨a, h1, hx, w⟩ := walk_lent (ul := unlend ρ (some i)) g q fin
      exact ⟨_, h1, a, rfl, .inl ⟨hx, k _ _ _ w⟩⟩
    · cases e
theorem rng_walk {K : PySem.W.Frag} {F F1 H H1 : Hp} {ρ ρ1 : List Sl} {σ : L2.St} (s : Stp K F ρ σ H F1 ρ1 σ H1) (i j : Int) : Walk K F ρ σ H (unlend ρ none) (Itr i (j - i).toNat) ((List.range (j - i).toNat).map fun (k : Nat) => D.int (i + (k : Int))) F1 ρ1 H1 := by
  refine ⟨s.gs, fun n k F' ρ' σ' H' s' => ⟨fun d hd => ?_, fun h => ?_⟩, fun F3 ρ3 σ3 H3 s3 => ⟨s.trans s3, fun v r rr => rr.later s⟩⟩
  · rw [List.getElem?_map] at hd
    obtain ⟨m, e1, e2⟩ := map_some hd
    obtain ⟨h1, h2⟩ := List.getElem?_eq_some_iff.mp e1
    rw [List.getElem_range] at h2
    subst h2; subst e2
    rw [List.length_range] at h1
    refine ⟨h1, ?_⟩
    rintro x H'' ⟨q1, q2⟩
    subst q1; subst q2
    exact ⟨F', .refl s'.gs.sub, repInt _⟩
  · rw [List.length_map, List.length_range] at h; exact h
theorem si_rng1 {x : Str} {p' : Pos} (hx : x = "range") (hg : Gl X x) (hm : X.mg x = none) (ha : SX X c a pa) (hs : starEach [a] X.env = [(false, eval a X.env)] := by rfl) : SI X c tg (.Call (.Name x p') [a] [] pos) (.rng (.con (.int 0)) pa) := by
  subst hx
  obtain ⟨ta, h1, h2⟩ := ha.opd
  refine piImp (pi_range1 hg hm (pa_cons h1 pa_nil hs) hs) ?_
  rintro σ H R ⟨F, ρ, ds, ρ1, g, e, k⟩
  obtain ⟨r, ρ2, e1, e2⟩ := bind_ok e
  have zz := lift_ok e2; clear e2; obtain ⟨e2, e3⟩ := zz
  subst e3
  rw [HH.ev] at e1
  obtain ⟨xy, ρ3, e4, e5⟩ := bind_ok e1
  have zz := lift_ok e5; clear e5; obtain ⟨e5, e6⟩ := zz
  subst e6
  obtain ⟨y0, ρ5, e9, e10⟩ := bind_ok e4
  cases e10
  obtain ⟨i, f1, e5⟩ := bindO e5
  obtain ⟨j, f2, e5⟩ := bindO e5
  obtain ⟨⟨b1, b2, b3, b4⟩, e5⟩ := ite_some e5
  have f1 : i = 0 := by cases f1; rfl
  subst f1
  subst e5
  cases e2
  cases asI_some f2
  refine h2 g e9 fun v F' H' s pv => ⟨j, by rw [pv.int], by omega, by omega, ?_⟩
  have := rng_walk s 0 j
  rw [Int.sub_zero] at this
  refine k _ F' H' ?_
  rw [Int.sub_zero]
  exact this
theorem si_rng2 {x : Str} {p' : Pos} (hx : x = "range") (hg : Gl X x) (hm : X.mg x = none) (ha : SX X c a pa) (hb : SX X c b pb) (hs : starEach [a, b] X.env = [(false, eval a X.env), (false, eval b X.env)] := by rfl) (hs2 : starEach [b] X.env = [(false, eval b X.env)] := by rfl) :
    SI X c tg (.Call (.Name x p') [a, b] [] pos) (.rng pa pb) := by
  subst hx
  obtain ⟨ta, tb, h1, h2, h3⟩ := ha.opd2 hb
  refine piImp (pi_range2 hg hm (pa_cons h1 (pa_cons h2 pa_nil hs2) (by rw [hs, hs2])) hs hs2) ?_
  rintro σ H R ⟨F, ρ, ds, ρ1, g, e, k⟩
  obtain ⟨r, ρ2, e1, e2⟩ := bind_ok e
  have zz := lift_ok e2; clear e2; obtain ⟨e2, e3⟩ := zz
  subst e3
  rw [HH.ev] at e1
  obtain ⟨xy, ρ3, e4, e5⟩ := bind_ok e1
  have zz := lift_ok e5; clear e5; obtain ⟨e5, e6⟩ := zz
  subst e6
  obtain ⟨i, f1, e5⟩ := bindO e5
  obtain ⟨j, f2, e5⟩ := bindO e5
  obtain ⟨⟨b1, b2, b3, b4⟩, e5⟩ := ite_some e5
  subst e5
  cases e2
  refine h3 g e4 fun v u F' H' s pv pu => ⟨i, j, ?_, by omega, k _ F' H' (rng_walk s i j)⟩
  have e1 := asI_some f1
  have e2 := asI_some f2
  rw [e1] at pv; rw [e2] at pu
  rw [pv.int, pu.int]
end
end HH
end
section
set_option linter.all false
set_option Elab.async false
set_option maxRecDepth 10000
namespace HH
open PySem L2 PySem.Spec PyProof.Rows
section
variable {X : Cx} {c : Call} {n : Nat} {e a b d tg iter : Expr} {p pa pb pd : P} {pos : Pos} {body : List Stmt} {ss : List S}
noncomputable def TGok (K : PySem.W.Frag) (bd : List Sl → D → Option (List Sl)) (g : TG) : Prop := ∀ (x : V) (d : D) (F : Hp) (ρ ρ' : List Sl) (σ : L2.St) (H : Hp) (Q : L2.St → Hp → Prop), GS K F ρ σ H → Rep K F x d → bd ρ d = some ρ' →
  (∀ σ', Stp K F ρ σ H F ρ' σ' H → Q σ' H) → g x σ H Q
theorem tg_name {K : PySem.W.Frag} (i : Nat) : TGok K (fun ρ d => put ρ i (.val false d)) (gName i) := fun x d F ρ ρ' σ H Q g r h k =>
  k _ (Stp.put (r := .val d) (.refl g) r h)
theorem tgs_all {K : PySem.W.Frag} : ∀ (is : List Nat) (gs : TGs), (∀ (xs : List V) (ds : List D) (F : Hp) (ρ ρ' : List Sl) (σ : L2.St) (H : Hp) (Q : L2.St → Hp → Prop), GS K F ρ σ H → Reps K F xs ds → putAll ρ is ds = some ρ' → (∀ σ', Stp K F ρ σ H F ρ' σ' H → Q σ' H) → gs xs σ H Q) →
    ∀ i, ∀ (xs : List V) (ds : List D) (F : Hp) (ρ ρ' : List Sl) (σ : L2.St) (H : Hp) (Q : L2.St → Hp → Prop), GS K F ρ σ H → Reps K F xs ds → putAll ρ (i :: is) ds = some ρ' → (∀ σ', Stp K F ρ σ H F ρ' σ' H → Q σ' H) → gCons (gName i) gs xs σ H Q := by
  intro is gs ih i xs ds F ρ ρ' σ H Q g r h k
  cases ds with
  | nil => simp [putAll] at h
  | cons d ds =>
    obtain ⟨v, vs, rfl, h1, h2⟩ := r.uncons
    rw [putAll] at h
    obtain ⟨ρ1, e1, e2⟩ := bindO h
    have s1 := Stp.put (r := .val d) (.refl g) h1 e1
    refine ⟨v, vs, rfl, ih vs ds F ρ1 ρ' _ H _ s1.gs h2 e2 fun σ' s2 => k σ' (s1.trans s2)⟩
theorem tgs_nil {K : PySem.W.Frag} : ∀ (xs : List V) (ds : List D) (F : Hp) (ρ ρ' : List Sl) (σ : L2.St) (H : Hp) (Q : L2.St → Hp → Prop), GS K F ρ σ H → Reps K F xs ds → putAll ρ [] ds = some ρ' → (∀ σ', Stp K F ρ σ H F ρ' σ' H → Q σ' H) → gNil xs σ H Q := by
  intro xs ds F ρ ρ' σ H Q g r h k
  cases ds with
  | nil => rw [putAll] at h; cases h; exact ⟨r.unnil, k σ (.refl g)⟩
  | cons d ds => simp [putAll] at h
theorem putAll_len : ∀ {is : List Nat} {ds : List D} {ρ ρ' : List Sl}, putAll ρ is ds = some ρ' → ds.length = is.length
  | [], [], _, _, _ => rfl
  | [], _ :: _, _, _, h => by simp [putAll] at h
  | _ :: _, [], _, _, h => by simp [putAll] at h
  | i :: is, d :: ds, ρ, ρ', h => by
    rw [putAll] at h
    obtain ⟨ρ1, e1, e2⟩ := bindO h
    simp [putAll_len e2]
theorem tg_tup {K : PySem.W.Frag} {is : List Nat} {gs : TGs} {m : Nat} (hm : m = is.length) (h : ∀ (xs : List V) (ds : List D) (F : Hp) (ρ ρ' : List Sl) (σ : L2.St) (H : Hp) (Q : L2.St → Hp → Prop), GS K F ρ σ H → Reps K F xs ds → putAll ρ is ds = some ρ' → (∀ σ', Stp K F ρ σ H F ρ' σ' H → Q σ' H) → gs xs σ H Q) :
    TGok K (fun ρ d => bindF ρ is false d) (gTup K m gs) := by
  intro x d F ρ ρ' σ H Q g r hb k
  replace hb : bindF ρ is false d = some ρ' := hb
  cases d with
  | tup ds =>
    replace hb : putAll ρ is ds = some ρ' := hb
    rw [Rep] at r
    obtain ⟨a, xs, rfl, h1, h2⟩ := r
    exact ⟨a, xs, rfl, Same.seqT g.sub h1, by rw [h2.length, putAll_len hb, hm], h xs _ F ρ ρ' σ H Q g h2 hb k⟩
  | _ => cases hb
theorem ss_for {g : TG} {is : List Nat} {one : Bool} (hp : PassesOwn (model X.prog X.w) X.A X.env X.xe) (hc : X.calm = true) (hi : SI X c tg iter p) (hg : PG X tg g) (hgo : TGok X.K (fun ρ d => bindF ρ is one d) g) (hb : SB X c n body ss)
    (hs : ∀ x, foldedSetIterable iter X.env x = pure x := by intro _; rfl) : SS X c n (.For tg iter body [] pos) (.forr p is one ss) := by
  refine psImp (ps_for hp hc hi hg hb hs) ?_
  rintro D σ H ⟨F, ρ, fl, ρ', g0, e, k⟩
  rw [ex] at e
  obtain ⟨ds, ρ1, e1, e⟩ := bind_ok e
  obtain ⟨fl', ρ2, e2, e⟩ := bind_ok e
  cases e
  refine ⟨F, ρ, ds, ρ1, g0, e1, fun J F1 H1 w => ?_⟩
  have src : ∀ (i : Nat) (F' : Hp) (ρ' : List Sl) (σ' : L2.St) (H' : Hp), Stp X.K F1 ρ1 σ H1 F' ρ' σ' H' →
    (∀ d, ds[i]? = some d → J.go i H' ∧ ∀ x H'', J.yld i H' x H'' → ∃ F'', Ext F' H' F'' H'' ∧ Rep X.K F'' x d) ∧ (ds.length ≤ i → J.stop i H') := fun i F' ρ' σ' H' s => w.src 0 i F' ρ' σ' H' (by simpa using s)
  refine ⟨fun i m σi Hi => ∃ Fi ρi, Stp X.K F1 ρ1 σ H1 Fi ρi σi Hi ∧ m = ds.length - i ∧ i ≤ ds.length ∧ forT is one (exs c n ss) (ds.drop i) ρi = .ok fl ρ2, ⟨_, F1, ρ1, .refl w.gs, rfl, Nat.zero_le _, e2⟩, ?_⟩
  rintro i m σi Hi ⟨Fi, ρi, si, rfl, hle, ei⟩
  obtain ⟨s1, s2⟩ := src i Fi ρi σi Hi si
  by_cases hlt : i < ds.length
  · right
    have hd : ds[i]? = some ds[i] := by simp [hlt]
    obtain ⟨go, step⟩ := s1 _ hd
    refine ⟨go, fun σ' H' => ∃ m', m' < ds.length - i ∧ ∃ Fi ρi, Stp X.K F1 ρ1 σ H1 Fi ρi σ' H' ∧ m' = ds.length - (i + 1) ∧ i + 1 ≤ ds.length ∧ forT is one (exs c n ss) (ds.drop (i + 1)) ρi = .ok fl ρ2, fun σ' H' z => z, fun x H' y => ?_⟩
    obtain ⟨F2, ext, rx⟩ := step x H' y
    have si2 := si.trans (ext.stp si.gs)
    rw [List.drop_eq_getElem_cons hlt, forT] at ei
    cases hbd : bindF ρi is one ds[i] with
    | none => rw [hbd] at ei; cases ei
    | some ρb =>
      rw [hbd] at ei
      obtain ⟨flb, ρc, eb, ei⟩ := bind_ok ei
      refine hgo x _ F2 ρi ρb σi H' _ si2.gs rx hbd fun σ2 sb => ?_
      have si3 := si2.trans sb
      refine ⟨F2, ρb, flb, ρc, si3.gs, eb, fun F4 σ4 H4 s4 => ?_⟩
      have si4 := si3.trans s4
      cases flb with
      | next => exact ⟨_, by omega, F4, ρc, si4, rfl, hlt, ei⟩
      | cont => exact ⟨_, by omega, F4, ρc, si4, rfl, hlt, ei⟩
      | brk =>
        cases ei
        exact k F4 σ4 H4 (w.fin _ _ _ _ si4).1
      | ret r =>
        cases ei
        intro v rr
        obtain ⟨z1, z2⟩ := w.fin _ _ _ _ si4
        exact k F4 σ4 H4 z1 v (z2 v r (rr.later si3))
  · left
    have hdr : ds.drop i = [] := by rw [List.drop_eq_nil_iff]; omega
    rw [hdr, forT] at ei
    cases ei
    exact ⟨s2 (by omega), k Fi σi Hi (w.fin _ _ _ _ si).1⟩
theorem bindF_one (i : Nat) : (fun (ρ : List Sl) (d : D) => bindF ρ [i] true d) = fun ρ d => put ρ i (.val false d) := by funext ρ d; rfl
theorem ss_for1 {i : Nat} {x : Str} {pos' : Pos} (hp : PassesOwn (model X.prog X.w) X.A X.env X.xe) (hc : X.calm = true) (hN : X.N.Nodup) (hx0 : X.N[i]? = some x) (hx : Loc X.env.scope x) (hi : SI X c (.Name x pos') iter p) (hb : SB X c n body ss)
    (hs : ∀ x, foldedSetIterable iter X.env x = pure x := by intro _; rfl) (hf : X.fn x = true ∨ X.env.scope.names.lookup x = some .local := by first | exact .inl rfl | exact .inr rfl | assumption) : SS X c n (.For (.Name x pos') iter body [] pos) (.forr p [i] true ss) :=
  ss_for hp hc hi (pg_name hN hx0 hx hf) (by rw [bindF_one]; exact tg_name i) hb hs
end
end HH
end
section
set_option linter.all false
set_option Elab.async false
set_option maxRecDepth 10000
namespace HH
open PySem L2 PySem.Spec PyProof.Rows
section
variable {X : Cx} {c : Call} {n : Nat} {e elt tg iter : Expr} {p ps pe : P} {pos : Pos} {scope : Scope} {N' : List Str} {ifs : List Expr}
theorem peImpN {t t' : TE} (h : PE X e t) (i : ∀ σ H Q, σ.length = X.N.length → t' σ H Q → t σ H Q) : PE X e t' := fun pins s σ H Q I q => h pins s σ H Q I (i σ H Q I.len q)
theorem psImpN {st : Stmt} {t t' : TS} (h : PS X st t) (i : ∀ D σ H, σ.length = X.N.length → t' D σ H → t D σ H) : PS X st t' := fun pins s σ H D I q => h pins s σ H D I (i D σ H I.len q)
noncomputable def TGokC (K : PySem.W.Frag) (m : Nat) (is : List Nat) (one : Bool) (g : TG) : Prop := ∀ (x : V) (d : D) (F : Hp) (ρ ρ' : List Sl) (σ : L2.St) (H : Hp) (Q : L2.St → Hp → Prop), GS K F ρ σ H → Rep K F x d → bindF ρ is one d = some ρ' →
  (∀ σ', Stp K F ρ σ H F ρ' σ' H → σ'.take m = σ.take m → Q σ' H) → g x σ H Q
theorem take_set {α : Type} {l : List α} {i m : Nat} {a : α} (h : m ≤ i) : (l.set i a).take m = l.take m := by
  rw [List.take_set_of_le h]
theorem tgc_name {K : PySem.W.Frag} {i m : Nat} (h : m ≤ i) : TGokC K m [i] true (gName i) := fun x d F ρ ρ' σ H Q g r hb k =>
  k _ (Stp.put (r := .val d) (.refl g) r hb) (take_set h)
noncomputable def TGs2 (K : PySem.W.Frag) (m : Nat) (is : List Nat) (gs : TGs) : Prop := ∀ (xs : List V) (ds : List D) (F : Hp) (ρ ρ' : List Sl) (σ : L2.St) (H : Hp) (Q : L2.St → Hp → Prop), GS K F ρ σ H → Reps K F xs ds → putAll ρ is ds = some ρ' →
  (∀ σ', Stp K F ρ σ H F ρ' σ' H → σ'.take m = σ.take m → Q σ' H) → gs xs σ H Q
theorem tgc_cons {K : PySem.W.Frag} {m i : Nat} {is : List Nat} {gs : TGs} (hi : m ≤ i) (ih : TGs2 K m is gs) : TGs2 K m (i :: is) (gCons (gName i) gs) := by
  intro xs ds F ρ ρ' σ H Q g r h k
  cases ds with
  | nil => simp [putAll] at h
  | cons d ds =>
    obtain ⟨v, vs, rfl, h1, h2⟩ := r.uncons
    rw [putAll] at h
    obtain ⟨ρ1, e1, e2⟩ := bindO h
    have s1 := Stp.put (r := .val d) (.refl g) h1 e1
    exact ⟨v, vs, rfl, ih vs ds F ρ1 ρ' _ H _ s1.gs h2 e2 fun σ' s2 z => k σ' (s1.trans s2) (z.trans (take_set hi))⟩
theorem tgc_nil {K : PySem.W.Frag} {m : Nat} : TGs2 K m [] gNil := by
  intro xs ds F ρ ρ' σ H Q g r h k
  cases ds with
  | nil => rw [putAll] at h; cases h; exact ⟨r.unnil, k σ (.refl g) rfl⟩
  | cons d ds => simp [putAll] at h
theorem tgc_tup {K : PySem.W.Frag} {is : List Nat} {gs : TGs} {m l : Nat} (hm : l = is.length) (h : TGs2 K m is gs) : TGokC K m is false (gTup K l gs) := by
  intro x d F ρ ρ' σ H Q g r hb k
  cases d with
  | tup ds =>
    replace hb : putAll ρ is ds = some ρ' := hb
    rw [Rep] at r
    obtain ⟨a, xs, rfl, h1, h2⟩ := r
    exact ⟨a, xs, rfl, Same.seqT g.sub h1, by rw [h2.length, putAll_len hb, hm], h xs _ F ρ ρ' σ H Q g h2 hb k⟩
  | _ => cases hb
noncomputable def SQ (X : Cx) (c : Call) (ifs : List Expr) (t : Option P) : Prop := PTs X ifs (tTr X.K (evT c t))
theorem sq_none : SQ X c [] none := fun pins s σ H Q I ⟨F, ρ, k, ρ', g, e, q⟩ => by
  rw [evT] at e; cases e
  exact pts_nil pins s σ H Q I (q F H (.refl g))
theorem sq_some (h : ST X c e p) : SQ X c [e] (some p) := fun pins s σ H Q I ⟨F, ρ, k, ρ', g, e, q⟩ => by
  rw [evT] at e
  exact pts_one h pins s σ H Q I ⟨F, ρ, k, ρ', g, e, q⟩
theorem Stp.offD {K : PySem.W.Frag} {F H F1 H1 : Hp} {ρ ρ1 : List Sl} {σ σ1 : L2.St} {Da : Addr} {o : HO} (s : Stp K F ρ σ H F1 ρ1 σ1 H1) (h : H Da = none) (hf : F1 Da = none) (ho : ¬ Own ρ1 σ1 Da) : Stp K F ρ σ H F1 ρ1 σ1 (upd H1 Da o) := by
  refine ⟨⟨fun b u e => ?_, s.gs.len, s.gs.val, fun i t ds e e' => ?_, s.gs.dis⟩, s.fsub, s.fgr, fun b u e n => ?_, s.ogr, s.len, s.lk⟩
  · have : b ≠ Da := by rintro rfl; rw [hf] at e; cases e
    rw [upd_ne this]; exact s.gs.sub b u e
  · obtain ⟨a, xs, q1, q2, q3, q4⟩ := s.gs.own i t ds e e'
    have : a ≠ Da := by rintro rfl; exact ho ⟨i, ⟨t, ds, e, e'⟩, q1⟩
    exact ⟨a, xs, q1, by rw [upd_ne this]; exact q2, q3, q4⟩
  · have : b ≠ Da := by rintro rfl; rw [h] at e; cases e
    rw [upd_ne this]; exact s.keep b u e n
theorem comp_trA {K : PySem.W.Frag} {F H : Hp} {ρ ρ1 ρ2 : List Sl} {σ : L2.St} {ul : List Sl → List Sl} {ti : TI} {is : List Nat} {one : Bool} {test : List Sl → Res Bool} {el : Ev} {g : TG} {Q : VK} {ds xs : List D} {m : Nat}
    (hm : σ.length = m) (hgo : TGokC K m is one g) (hti : ∀ R : It → Hp → Prop, (∀ J F1 H1, Walk K F ρ σ H ul J ds F1 ρ1 H1 → R J H1) → ti σ H R) (hlim : ds.length ≤ lim)
    (e2 : turns is one test el ds [] (ρ1 ++ List.replicate n .unb) = .ok xs ρ2)
    (k : ∀ v F' H', Stp K F ρ σ H F' (ul (ρ2.take ρ1.length)) σ H' → RepR K F' (ul (ρ2.take ρ1.length)) σ H' ρ σ H v (.own xs) → Q v H') :
    tComp n ti g (tTr K test) (tEv K el) σ H Q := by
  refine hti _ fun J F1 H1 w Da hDa => ?_
  have hl1 : ρ1.length = σ.length := w.gs.len
  have gm := w.gs.more (n := n) (τ := List.replicate n none) (by simp)
  have fD : F1 Da = none := by
    cases q : F1 Da with
    | none => rfl
    | some o => rw [w.gs.sub Da o q] at hDa; cases hDa
  have nO : ¬ Own (ρ1 ++ List.replicate n .unb) (σ ++ List.replicate n none) Da := fun ⟨i, ⟨t, dt, q1, q2⟩, q3⟩ => by
    obtain ⟨a, ys, z1, z2, _⟩ := gm.own i t dt q1 q2
    rw [q3] at z1; cases z1
    rw [hDa] at z2; cases z2
  refine ⟨fun i mm ys σi Hi => ∃ Fi ρi acc, Stp K F1 (ρ1 ++ List.replicate n .unb) (σ ++ List.replicate n none) H1 Fi ρi σi Hi ∧ σi.take m = σ ∧ Hi Da = some (.lst ys) ∧ Fi Da = none ∧ ¬ Own ρi σi Da ∧ Reps K Fi ys acc ∧ acc.length ≤ i ∧ mm = ds.length - i ∧ i ≤ ds.length ∧
    turns is one test el (ds.drop i) acc ρi = .ok xs ρ2, ⟨_, F1, _, [], (Stp.refl gm).offD hDa fD nO, by rw [List.take_append_of_le_length (by omega), List.take_of_length_le (by omega)], upd_same, fD, nO, .nil, Nat.zero_le _, rfl, Nat.zero_le _, e2⟩, ?_⟩
  rintro i mm ys σi Hi ⟨Fi, ρi, acc, si, hσ, hD, hF, hO, rs, hacc, rfl, hle, ei⟩
  refine ⟨hD, ?_⟩
  -- what stays of the new list through a step
  have stay : ∀ {F2 H2 : Hp} {ρ3 : List Sl} {σ2 : L2.St}, Stp K Fi ρi σi Hi F2 ρ3 σ2 H2 → H2 Da = some (.lst ys) ∧ F2 Da = none ∧ ¬ Own ρ3 σ2 Da := fun {F2 H2 ρ3 σ2} s => by
    refine ⟨s.keep Da _ hD hO, ?_, fun o => ?_⟩
    · cases q : F2 Da with
      | none => rfl
      | some o =>
        rcases s.fgr Da hF (by rw [q]; simp) with z | z
        · exact absurd z hO
        · rw [hD] at z; cases z
    · rcases s.ogr Da o with z | z
      · exact hO z
      · rw [hD] at z; cases z
  obtain ⟨s1, s2⟩ := w.src n i Fi ρi σi Hi si
  by_cases hlt : i < ds.length
  · right
    have hd : ds[i]? = some ds[i] := by simp [hlt]
    obtain ⟨go, step⟩ := s1 _ hd
    refine ⟨go, fun x H2 y => ?_⟩
    obtain ⟨F2, ext, rx⟩ := step x H2 y
    have t2 := ext.stp si.gs
    rw [List.drop_eq_getElem_cons hlt, turns] at ei
    cases hbd : bindF ρi is one ds[i] with
    | none => rw [hbd] at ei; cases ei
    | some ρb =>
      rw [hbd] at ei
      obtain ⟨bb, ρc, eb, ei⟩ := bind_ok ei
      refine hgo x _ F2 ρi ρb σi H2 _ t2.gs rx hbd fun σ2 sb htk => ?_
      have t3 := t2.trans sb
      refine ⟨F2, ρb, bb, ρc, t3.gs, eb, fun F4 H4 s4 => ?_⟩
      have t4 := t3.trans s4
      cases bb with
      | false =>
        rw [if_neg Bool.false_ne_true] at ei
        obtain ⟨y1, y2, y3⟩ := stay t4
        exact ⟨_, by omega, F4, ρc, acc, si.trans t4, htk.trans hσ, y1, y2, y3, rs.mono t4.fsub, by omega, rfl, hlt, ei⟩
      | true =>
        rw [if_pos rfl] at ei
        obtain ⟨re, ρe, ee, ei⟩ := bind_ok ei
        refine (show tEv K el σ2 H4 _ from ⟨F4, ρc, re, ρe, t4.gs, ee, fun v F5 H5 s5 rr => ?_⟩)
        obtain ⟨F6, s6, _, rp⟩ := s5.frz rr
        have t6 := t4.trans s6
        obtain ⟨y1, y2, y3⟩ := stay t6
        have hlen : ys.length < sizeLine := by
          have h1 := rs.length
          have h2 : lim = sizeLine := rfl
          omega
        exact ⟨y1, hlen, _, by omega, F6, ρe, acc ++ [re.d], (si.trans t6).offD hDa y2 y3, htk.trans hσ, upd_same, y2, y3, (rs.mono t6.fsub).append (.cons rp .nil), by simp; omega, rfl, hlt, ei⟩
  · left
    have hdr : ds.drop i = [] := by rw [List.drop_eq_nil_iff]; omega
    rw [hdr, turns] at ei
    cases ei
    refine ⟨s2 (by omega), ?_⟩
    obtain ⟨l1, l2⟩ := Stp.less (m := ρ1.length) rfl w.gs (by simp) si
    have hst : σi.take ρ1.length = σ := by rw [hl1, hm]; exact hσ
    rw [hst] at l1
    have rr : RepR K Fi ρ2 σi Hi (ρ1 ++ List.replicate n .unb) (σ ++ List.replicate n none) H1 (.ref Da) (.own xs) := ⟨Da, ys, rfl, hD, hF, rs, hO, .inr hDa⟩
    have rr2 := l2 _ _ rr
    rw [hst] at rr2
    obtain ⟨z1, z2⟩ := w.fin _ _ _ _ l1
    exact k _ Fi Hi z1 (z2 _ _ rr2)
theorem comp_tr {K : PySem.W.Frag} {F H : Hp} {ρ : List Sl} {σ : L2.St} {iv : Option Nat} {f : Ev} {is : List Nat} {one : Bool} {test : List Sl → Res Bool} {el : Ev} {g : TG} {Q : VK} {r : R} {ρ' : List Sl} {m : Nat}
    (hm : σ.length = m) (hgo : TGokC K m is one g) (g0 : GS K F ρ σ H)
    (e : ((srcOf iv f ρ).bind fun ds ρ₁ => if ds.length ≤ lim then (turns is one test el ds [] (ρ₁ ++ List.replicate n .unb)).bind fun xs ρ₂ => Res.ok (R.own xs) (unlend ρ iv (ρ₂.take ρ₁.length)) else .stuck) = .ok r ρ')
    (k : ∀ v F' H', Stp K F ρ σ H F' ρ' σ H' → RepR K F' ρ' σ H' ρ σ H v r → Q v H') :
    tComp n (tIt K iv f) g (tTr K test) (tEv K el) σ H Q := by
  obtain ⟨ds, ρ1, e1, e⟩ := bind_ok e
  split at e
  · rename_i hlim
    obtain ⟨xs, ρ2, e2, e⟩ := bind_ok e
    cases e
    exact comp_trA hm hgo (fun R h => ⟨F, ρ, ds, ρ1, g0, e1, h⟩) hlim e2 k
  · cases e
theorem sx_comp {g : TG} {is : List Nat} {one : Bool} {t : Option P} (hc : X.calm = true) (ok : CompOk X scope N' n) (hi : SI X c tg iter ps) (hg : ∀ cl C s₀ H₀ ex, PG (cxC X scope N' cl C s₀ H₀ ex) tg g) (hgo : TGokC X.K X.N.length is one g)
    (ht : ∀ cl C s₀ H₀ ex, SQ (cxC X scope N' cl C s₀ H₀ ex) c ifs t) (he : ∀ cl C s₀ H₀ ex, SX (cxC X scope N' cl C s₀ H₀ ex) c elt pe)
    (hs : ∀ x, foldedSetIterable iter X.env x = pure x := by intro _; rfl) : SX X c (.ListComp elt [⟨tg, iter, ifs, 0⟩] scope pos) (.comp ps n is one t pe) := by
  refine ⟨peImpN (pe_comp (tt := tTr X.K (evT c t)) (te := tEv X.K (HH.ev c pe)) hc ok hi hg ht (fun cl C s₀ H₀ ex => (he cl C s₀ H₀ ex).ev) hs) ?_, fun i h => by cases h⟩
  rintro σ H Q hl ⟨F, ρ, r, ρ', g0, e, k⟩
  rw [HH.ev] at e
  exact comp_tr hl hgo g0 e k
theorem ss_asgC {i : Nat} {x : Str} {pos' spos : Pos} {nn : Nat} {g : TG} {is : List Nat} {one : Bool} {t : Option P} (hc : X.calm = true) (hN : X.N.Nodup) (hx0 : X.N[i]? = some x) (hx : Loc X.env.scope x) (ok : CompOk X scope N' n) (hi : SI X c tg iter ps)
    (hg : ∀ cl C s₀ H₀ ex, PG (cxC X scope N' cl C s₀ H₀ ex) tg g) (hgo : TGokC X.K X.N.length is one g)
    (ht : ∀ cl C s₀ H₀ ex, SQ (cxC X scope N' cl C s₀ H₀ ex) c ifs t) (he : ∀ cl C s₀ H₀ ex, SX (cxC X scope N' cl C s₀ H₀ ex) c elt pe)
    (hsw : swapsWith (.ListComp elt [⟨tg, iter, ifs, 0⟩] scope pos) (some (.Name x pos')) spos.line X.env = pure true := by rfl)
    (hs : ∀ x, foldedSetIterable iter X.env x = pure x := by intro _; rfl) (hf : X.fn x = true ∨ X.env.scope.names.lookup x = some .local := by first | exact .inl rfl | exact .inr rfl | assumption) :
    SS X c nn (.Assign [.Name x pos'] (.ListComp elt [⟨tg, iter, ifs, 0⟩] scope pos) spos) (.asg i (.comp ps n is one t pe)) := by
  refine psImpN (ps_setC (tt := tTr X.K (evT c t)) (te := tEv X.K (HH.ev c pe)) hc hN hx0 hx ok hi hg ht (fun cl C s₀ H₀ ex => (he cl C s₀ H₀ ex).ev) hsw hs hf) ?_
  rintro D σ H hl ⟨F, ρ, fl, ρ', g0, e, k⟩
  rw [ex] at e
  obtain ⟨r, ρ1, e1, e⟩ := bind_ok e
  obtain ⟨ρ2, ρ3, e2, e⟩ := bind_ok e
  cases e
  have zz := lift_ok e2; clear e2; obtain ⟨e2, e3⟩ := zz
  rw [HH.ev] at e1
  exact comp_tr hl hgo g0 e1 fun v F1 H1 s1 rr => k F1 _ H1 (s1.put rr e2)
end
end HH
end
section
set_option linter.all false
set_option Elab.async false
set_option maxRecDepth 10000
namespace HH
open PySem L2 PySem.Spec PyProof.Rows
section
variable {X : Cx} {c : Call} {n : Nat} {e a b d : Expr} {p pa pb pd : P} {pos : Pos} {es : List Expr} {ps : List P}
noncomputable def tyN : D → String
  | .non => "NoneType" | .bl _ => "bool" | .int _ => "int" | .str _ => "str" | .tup _ => "tuple" | .lst _ => "list"
noncomputable def tyS : Ty → String
  | .none => "NoneType" | .bool => "bool" | .int => "int" | .str => "str" | .tuple => "tuple" | .list => "list"
theorem kit_D (K : PySem.W.Frag) (t : Ty) (d : D) : PySem.W.kitOne K (.type (tyN d)) (.type (tyS t)) = some (isTy t d) := by
  cases t <;> cases d <;> rfl
theorem isi_D {pins : List (Addr × Obj)} {σ : L2.St} {H F : Hp} {s : Shared} {x : V} {u : Value} {dt : D} (I : L2.Inv X pins σ H s) (sm : Same F H) (px : PRep X.K F H x dt) (rx : RelV x u) :
    (∃ Hq, PySem.W.KitX X.K u (.type (tyN dt)) Hq ∧ Hq s.heap) ∧ u ≠ .builtin "__main__.__loader__#opaque" := by
  cases dt with
  | non => rw [px.non] at rx; cases rx; exact ⟨⟨_, PySem.W.kitx_none, trivial⟩, nofun⟩
  | bl y => rw [px.bl] at rx; cases rx; exact ⟨⟨_, PySem.W.kitx_bool, trivial⟩, nofun⟩
  | int i => rw [px.int] at rx; obtain ⟨t, rfl⟩ := rx; exact ⟨⟨_, PySem.W.kitx_int, trivial⟩, nofun⟩
  | str y => rw [px.str] at rx; obtain ⟨t, rfl⟩ := rx; exact ⟨⟨_, PySem.W.kitx_str, trivial⟩, nofun⟩
  | tup ds =>
    obtain ⟨q, xs, rfl, hq, _⟩ := px.tup sm
    cases rx
    obtain ⟨its, _, ⟨o, h1, h2, _⟩, _⟩ := I.tuple hq
    exact ⟨⟨_, PySem.W.kitx_tuple, ⟨o, h1, h2⟩⟩, nofun⟩
  | lst ds =>
    obtain ⟨q, xs, rfl, hq, _⟩ := px.lst sm
    cases rx
    obtain ⟨its, _, pl, _⟩ := I.list hq
    obtain ⟨o, h1, h2, _⟩ := pl.isList
    exact ⟨⟨_, PySem.W.kitx_list, ⟨o, h1, h2⟩⟩, nofun⟩
theorem c_inst (t : Ty) : CallR X (.builtin "isinstance") (fun xs H Q => ∃ x F dt, xs = [x, .ty (tyS t)] ∧ Same F H ∧ PRep X.K F H x dt ∧ Q (.bl (isTy t dt)) H) := by
  rintro pins s σ H xs us Q I r ⟨x, F, dt, hx, sm, px, q⟩
  subst hx
  obtain ⟨u, w', rfl, rx, rt⟩ := r.two
  cases (show w' = Value.type (tyS t) from rt)
  obtain ⟨⟨Hq, Z, hz⟩, hne⟩ := isi_D I sm px rx
  exact PySem.W.kia_one Z I.kIn hz (kit_D _ t dt) hne fun tk => ⟨.bl _, H, I.tok tk, rfl, q⟩
theorem boot_isi : bootBuiltins "isinstance" = some (.builtin "isinstance") := by decide +kernel
theorem sx_inst1 {x y : Str} {p' p2 : Pos} (t : Ty) (hx : x = "isinstance") (hg : Gl X x) (hm : X.mg x = none) (ha : SX X c a pa) (hgy : Gl X y) (hmy : X.mg y = none) (hy : bootBuiltins y = some (.type (tyS t)))
    (hny : y ≠ "__name__" := by decide) (hdy : (y == ("__debug__" : Str)) = false := by decide)
    (hs : starEach [a, .Name y p2] X.env = (false, eval a X.env) :: starEach [.Name y p2] X.env := by rfl) : SX X c (.Call (.Name x p') [a, .Name y p2] [] pos) (.inst [t] pa) := by
  subst hx
  obtain ⟨ta, h1, h2⟩ := ha.opd
  refine ⟨peImp (pe_callB (c_inst t) hg hm boot_isi (pa_cons h1 (pa_cons (pe_bltn (v := .ty (tyS t)) hgy hmy hy rfl hny hdy) pa_nil) hs) (he := hs)) ?_, fun i h => by cases h⟩
  rintro σ H Q ⟨F, ρ, r, ρ', g, e, k⟩
  rw [HH.ev] at e
  obtain ⟨dt, ρ1, e1, e⟩ := bind_ok e
  cases e
  refine h2 g e1 fun v F' H' s pv => ⟨v, F', dt, rfl, s.gs.sub, pv, k _ F' H' s ?_⟩
  show Rep X.K F' _ _
  rw [List.any_cons, List.any_nil, Bool.or_false]
  exact repBl _
noncomputable def rBn (K : PySem.W.Frag) (f : List D → Option R) : List V → Hp → VK → Prop := fun xs H Q => ∃ F ds r, Same F H ∧ Reps K F xs ds ∧ f ds = some r ∧ ∀ v F' H', Ext F H F' H' → RepN K F' H' H v r → Q v H'
theorem sx_bn {E : Expr} {f : List D → Option R} {q : P} (hp : ∀ {t}, PA X es t → PE X E (tCB (rBn X.K f) t)) (ha : SA X c es ps)
    (hq : ∀ ρ, HH.ev c q ρ = (evs c ps ρ).bind fun ds ρ => lift (f ds) ρ) (hv : isVar q = none) : SX X c E q := by
  refine ⟨peImp (hp ha.1) ?_, fun i h => by rw [hv] at h; cases h⟩
  rintro σ H Q ⟨F, ρ, r, ρ', g, e, k⟩
  rw [hq] at e
  obtain ⟨ds, ρ1, e1, e2⟩ := bind_ok e
  have zz := lift_ok e2; clear e2; obtain ⟨e2, e3⟩ := zz
  subst e3
  exact ⟨F, ρ, ds, ρ1, g, e1, fun vs F' H' s rs => ⟨F', ds, r, s.gs.sub, rs, e2, fun w F2 H2 x rn => k w F2 H2 (s.trans (x.stp s.gs)) (.later s (rn.repR s.gs))⟩⟩
theorem reps2 {K : PySem.W.Frag} {F : Hp} {xs : List V} {i j : Int} (h : Reps K F xs [.int i, .int j]) : xs = [.int i, .int j] := by
  obtain ⟨v, r, rfl, h1, h2⟩ := h.uncons
  obtain ⟨u, r2, rfl, h3, h4⟩ := h2.uncons
  rw [Rep] at h1 h3
  rw [h1, h3, h4.unnil]
theorem c_max2 (hc : X.calm = true) : CallR X (.builtin "max") (rBn X.K (blt .max2)) := by
  rintro pins s σ H xs us Q I r ⟨F, ds, r', sm, rs, he, k⟩
  unfold blt at he
  split at he <;> first | (cases he; done) | skip
  all_goals try (rename_i h; cases h; done)
  all_goals (cases he; rw [reps2 rs] at r; exact call_max2 hc pins s σ H _ us Q I r ⟨_, _, rfl, RepN.val0 sm (repInt _) k⟩)
theorem boot_max : bootBuiltins "max" = some (.builtin "max") := by decide +kernel
theorem sx_max2 {x : Str} {p' : Pos} (hx : x = "max") (hc : X.calm = true) (hg : Gl X x) (hm : X.mg x = none) (ha : SA X c [a, b] [pa, pb]) (hs : starEach [a, b] X.env = (false, eval a X.env) :: starEach [b] X.env := by rfl) (hpl : (backTo pos (starEach [b] X.env)).any (·.1) = false := by rfl) :
    SX X c (.Call (.Name x p') [a, b] [] pos) (.blt .max2 [pa, pb]) := by
  subst hx; exact sx_bn (fun h => pe_callB (c_max2 hc) hg hm boot_max h (he := hs) (hpl := hpl)) ha (fun ρ => by rw [HH.ev]; intro a h; cases h) rfl
end
end HH
end
section
set_option linter.all false
set_option Elab.async false
set_option maxRecDepth 10000
namespace HH
open PySem L2 PySem.Spec PyProof.Rows
section
variable {X : Cx} {c : Call} {n : Nat} {e a b d : Expr} {p pa pb pd : P} {pos : Pos} {es : List Expr} {ps : List P}
theorem pkL_get {K : PySem.W.Frag} {F H : Hp} {ρ : List Sl} {σ : L2.St} {i : Nat} {ds : List D} (g : GS K F ρ σ H) (h : pkL ρ i = some ds) : ∃ a xs, σ[i]? = some (some (V.ref a)) ∧ SqL K H a xs := by
  unfold pkL at h
  split at h
  · rename_i q
    cases h
    obtain ⟨v, h1, h2⟩ := g.pk q
    obtain ⟨a, xs, rfl, h3, _⟩ := h2.lst g.sub
    exact ⟨a, xs, h1, h3⟩
  · cases h
theorem ss_seti {x : Str} {k : Nat} {px tpos : Pos} (hN : X.N[k]? = some x) (hv : Vis X.env.scope x) (hi : SX X c b pb) (he : SX X c e p)
    (ha : ∀ v, assign (.Subscript (.Name x px) b tpos) X.env v = (do
      let ov ← holding [v] (eval (.Name x px) X.env)
      let iv ← holding [v, ov] (eval b X.env)
      standAt tpos
      holding [v, ov, iv] (setItem ov iv v)
      release [v, ov, iv] []) := by intro _; rfl)
    (hs : swapsWithSole [.Subscript (.Name x px) b tpos] e pos.line X.env = pure false := by rfl) (hw : swappedStores [.Subscript (.Name x px) b tpos] e X.env = pure none := by rfl)
    (h1 : (assignEach [.Subscript (.Name x px) b tpos] X.env).map (·.2) = [assign (.Subscript (.Name x px) b tpos) X.env] := by rfl) (hd : (x == ("__debug__" : Str)) = false := by decide) (hcd : (x == ("__classdict__" : Str)) = false := by decide) :
    SS X c n (.Assign [.Subscript (.Name x px) b tpos] e pos) (.seti k pb p) := by
  obtain ⟨ti, hi1, hi2⟩ := hi.opd
  refine psImp (ps_asg he.ev (pg_sub (pe_var hN hv hd hcd) hi1 set_list ha) hs hw h1) ?_
  rintro D σ H ⟨F, ρ, fl, ρ', g, e, kk⟩
  rw [ex] at e
  obtain ⟨r, ρ1, e1, e⟩ := bind_ok e
  obtain ⟨x0, ρ1', e0, e⟩ := bind_ok e
  have zz := lift_ok e0; clear e0; obtain ⟨e0, e01⟩ := zz
  subst e01
  obtain ⟨dk, ρ2, e2, e⟩ := bind_ok e
  refine ⟨F, ρ, r, ρ1, g, e1, fun v F1 H1 s1 rr => ?_⟩
  obtain ⟨F2, s2, _, rp⟩ := s1.frz rr
  obtain ⟨o, ho, _⟩ := s2.gs.pk e0
  refine ⟨o, ho, hi2 s2.gs e2 fun vi F3 H3 s3 pi => ?_⟩
  split at e
  · rename_i bb ds kk' q
    split at e
    · rename_i j hj
      cases e
      obtain ⟨ad, xs, q1, q2, q3, q4⟩ := s3.gs.own k _ ds q rfl
      rw [ho] at q1; cases q1
      refine ⟨ad, xs, kk', j, rfl, pi.int, q2, by rw [q4.length]; exact hj, ?_⟩
      exact kk F3 σ _ ((s2.trans s3).trans (s3.gs.mut q ho (q4.set (rp.mono s3.fsub) j)))
    · cases e
  · cases e
theorem sx_app_core {x : Str} {k : Nat} {px apos cpos : Pos} (hN : X.N[k]? = some x) (hv : Vis X.env.scope x) (he : SX X c e p) (hline : (apos.endLine == cpos.line) = true := by rfl) (hs : starEach [e] X.env = (false, eval e X.env) :: starEach [] X.env := by rfl)
    (hbase : attributeBase (.Name x px) "append" X.env (eval (.Name x px) X.env) = eval (.Name x px) X.env := by rfl)
    (hfew : ((backTo cpos (starEach [e] X.env)).all (fun x => !x.1) && (backToKw cpos (keywordEach [] X.env)).all (fun x => x.1.isSome)
      && decide ([e].length + ([] : List Keyword).length + (if ([] : List Keyword).isEmpty then 0 else 1) < 30)) = true := by rfl)
    (hsw : swapsWith (.Call (.Attribute (.Name x px) "append" apos) [e] [] cpos) none pos.line X.env = pure false := by rfl)
    (hd : (x == ("__debug__" : Str)) = false := by decide) (hcd : (x == ("__classdict__" : Str)) = false := by decide) : SS X c n (.Expr (.Call (.Attribute (.Name x px) "append" apos) [e] [] cpos) pos) (.app k p) := by
  refine psImp (ps_expr (pe_bm PySem.F.plainAttrs_list PySem.F.slot_list_append PySem.F.type_list_append mt_append (pe_var hN hv hd hcd) (pa_cons he.ev pa_nil hs) hbase hfew hline hs) hsw) ?_
  rintro D σ H ⟨F, ρ, fl, ρ', g, e, kk⟩
  rw [ex] at e
  obtain ⟨d0, ρ0, e0, e⟩ := bind_ok e
  have zz := lift_ok e0; clear e0; obtain ⟨e0, e01⟩ := zz
  subst e01
  obtain ⟨r, ρ1, e1, e⟩ := bind_ok e
  obtain ⟨a, xs, h1, h2⟩ := pkL_get g e0
  refine ⟨.ref a, h1, .inl ⟨rfl, xs, h2⟩, F, ρ, r, ρ1, g, e1, fun v F1 H1 s1 rr => ?_⟩
  obtain ⟨F2, s2, _, rp⟩ := s1.frz rr
  split at e
  · rename_i bb ds q
    split at e
    · rename_i hlt
      cases e
      obtain ⟨ad, ys, q1, q2, q3, q4⟩ := s2.gs.own k _ ds q rfl
      rw [h1] at q1; cases q1
      exact ⟨_, ys, v, rfl, rfl, q2, by rw [q4.length]; exact hlt, kk F2 σ _ (s2.trans (s2.gs.mut q h1 (q4.append (.cons rp .nil))))⟩
    · cases e
  · cases e
theorem ss_par {i j : Nat} {x y : Str} {px py pt : Pos} {kt k2 pt2} (hc : X.calm = true) (hN : X.N.Nodup) (hi : X.N[i]? = some x) (hj : X.N[j]? = some y) (hij : i ≠ j)
    (hx : X.env.scope.names.lookup x = some .local) (hy : X.env.scope.names.lookup y = some .local) (ha : SX X c a pa) (hb : SX X c b pb)
    (hw : swappedStores [.Tuple [.Name x px, .Name y py] kt pt] (.Tuple [a, b] k2 pt2) X.env = pure (some [x, y]) := by rfl)
    (hs : swapsWithSole [.Tuple [.Name x px, .Name y py] kt pt] (.Tuple [a, b] k2 pt2) pos.line X.env = pure false := by rfl)
    (h1 : starEach [a, b] X.env = (false, eval a X.env) :: starEach [b] X.env := by rfl) (h2 : starEach [b] X.env = (false, eval b X.env) :: starEach [] X.env := by rfl) :
    SS X c n (.Assign [.Tuple [.Name x px, .Name y py] kt pt] (.Tuple [a, b] k2 pt2) pos) (.par i j pa pb) := by
  refine psImp (L2.ps_par hc hN hi hj hij hx hy (pa_cons ha.ev (pa_cons hb.ev pa_nil h2) h1) hw hs) ?_
  rintro D σ H ⟨F, ρ, fl, ρ', g, e, k⟩
  rw [ex] at e
  obtain ⟨r, ρ1, e1, e⟩ := bind_ok e
  obtain ⟨r2, ρ2, e2, e⟩ := bind_ok e
  obtain ⟨ρ3, ρ4, e3, e⟩ := bind_ok e
  cases e
  have zz := lift_ok e3; clear e3; obtain ⟨e3, e4⟩ := zz
  obtain ⟨ρ5, e5, e6⟩ := bindO e3
  refine ⟨F, ρ, r, ρ1, g, e1, fun v F1 H1 s1 rr => ?_⟩
  obtain ⟨F2, s2, _, rp⟩ := s1.frz rr
  refine ⟨F2, ρ1, r2, ρ2, s2.gs, e2, fun u F3 H3 s3 rr3 => ?_⟩
  obtain ⟨F4, s4, _, rp4⟩ := s3.frz rr3
  refine ⟨v, u, rfl, ?_⟩
  have t4 := s2.trans s4
  have t5 := t4.put (r := .val r.d) (v := v) (rp.mono s4.fsub) e5
  exact k F4 _ H3 (t5.put (r := .val r2.d) (v := u) rp4 e6)
theorem mapM_asB {ds : List D} {bs : List Bool} (h : ds.mapM asB = some bs) : ds = bs.map D.bl := by
  induction ds generalizing bs with
  | nil => simp at h; subst h; rfl
  | cons d ds ih =>
    rw [List.mapM_cons] at h
    cases hd : asB d with
    | none => rw [hd] at h; cases h
    | some k =>
      rw [hd] at h
      cases hr : ds.mapM asB with
      | none => rw [hr] at h; cases h
      | some r => rw [hr] at h; cases h; rw [List.map_cons, ← ih hr, asB_some hd]
theorem reps_bl {K : PySem.W.Frag} {F : Hp} : ∀ {bs : List Bool} {xs : List V}, Reps K F xs (bs.map D.bl) → xs = bs.map V.bl
  | [], _, h => h.unnil
  | k :: bs, _, h => by
    obtain ⟨v, r, rfl, h1, h2⟩ := h.uncons
    rw [Rep] at h1
    rw [h1, reps_bl h2]; rfl
theorem vals_bl : ∀ {bs : List Bool} {us : List Value}, Vals (bs.map V.bl) us → us = bs.map Value.bool
  | [], _, h => h.zero
  | k :: bs, _, .cons r t => by rw [List.map_cons, ← vals_bl t, show _ = _ from r]
theorem c_quant {id : String} {f : List Bool → Bool} (hc : X.calm = true)
    (rule : ∀ {x : Value} {Q : Value → Shared → Prop} {s : Shared}, wpAny (model X.prog X.w) X.A.in1 (pyIter x) (fun it s₂ => ∃ I fp wr n P St tr, it = .ref I ∧ Walks X.prog X.w X.A.in1 I fp wr n P St ∧ St 0 s₂.heap ∧ TruthOf X.prog X.w X.A.in1 P tr ∧
      ∀ h' tk, (∀ b o, b ∉ wr → s₂.heap.get? b = some o → h'.get? b = some o) → Q (.bool (f ((List.range n).map tr))) { s₂ with heap := h', toks := tk }) X.xe s → wpAny (model X.prog X.w) X.A (call (.builtin id) [x]) Q X.xe s) :
    CallR X (.builtin id) (fun xs H Q => ∃ p ys bs, xs = [.ref p] ∧ SqL X.K H p ys ∧ ys = bs.map V.bl ∧ Q (.bl (f bs)) H) := by
  rintro pins s σ H xs us Q I r ⟨p, ys, bs, hx, hq, hy, k⟩
  subst hx; subst hy
  obtain ⟨u, rfl, rx⟩ := r.one
  cases rx
  obtain ⟨its, rv, pl, hz⟩ := I.list hq
  have hits := vals_bl rv
  subst hits
  refine rule (wpAny_pyIter_list pl.isList ?_)
  have hne : p ≠ s.heap.objs.size := by
    obtain ⟨o, h1, _⟩ := pl.isList
    exact Nat.ne_of_lt (Heap.lt_size h1)
  refine ⟨s.heap.objs.size, _, _, _, _, _, fun i => bs.getD i false, rfl, Walks.list (prog := X.prog) (w := X.w) (A := X.A.in1) (show X.A.in1.handled = none from I.ok.hd hc) s.heap.objs.size p hne (bs.map Value.bool).toArray, ⟨⟨_, Heap.get?_push_size _ rfl, rfl, rfl⟩, ?_⟩, ?_, fun h' tk kp => ?_⟩
  · obtain ⟨o, h1, h2⟩ := pl.isList
    exact ⟨o, Heap.get?_push_of_some _ h1, h2⟩
  · intro i v s' Q' E' hP hQ
    have hv : v = .bool (bs.getD i false) := by
      have hP : (bs.map Value.bool)[i]? = some v := by simpa using hP
      rw [List.getElem?_map] at hP
      obtain ⟨k', e1, e2⟩ := map_some hP
      rw [← e2, List.getD_eq_getElem?_getD, e1]; rfl
    subst hv
    exact wpAny_truthy_bool hQ
  · have e : f ((List.range (bs.map Value.bool).toArray.size).map fun i => bs.getD i false) = f bs := by
      congr 1
      apply List.ext_getElem
      · simp
      · intro i h1 h2
        simp at h1
        simp [h1]
    rw [e]
    exact ⟨.bl _, H, I.kept (fun b o z => kp b o (by simp; exact Nat.ne_of_lt (Heap.lt_size z)) (Heap.get?_push_of_some _ z)), rfl, k⟩
theorem c_all (hc : X.calm = true) : CallR X (.builtin "all") (rB1 X.K fun x => blt .all [x]) := by
  rintro pins s σ H xs us Q I r ⟨x, hx, F, d, r', sm, px, he, k⟩
  obtain ⟨bs, e1, he⟩ := map_some (show ((itemsL d).bind fun ds => ds.mapM asB).map _ = some r' from he)
  subst he
  obtain ⟨ds, e2, e3⟩ := bindO e1
  have e4 := mapM_asB e3
  cases d with
  | lst es =>
    cases e2
    obtain ⟨p, ys, rfl, hq, rs⟩ := px.lst sm
    rw [e4] at rs
    refine c_quant (f := fun bs => bs.all id) hc (fun h => call_all_walk (wpAny_mono h (fun it s₂ ⟨I, fp, wr, n, P, Sx, tr, h1, h2, h3, h4, h5⟩ => ⟨I, fp, wr, n, P, Sx, tr, h1, h2, h3, h4, fun h' tk kp => ?_⟩) fun _ _ z => z)) pins s σ H xs us Q I r ⟨p, ys, bs, hx, hq, reps_bl rs, RepN.val0 sm (repBl _) k⟩
    have z := h5 h' tk kp
    rw [List.all_map] at z
    exact z
  | _ => cases e2
theorem boot_all : bootBuiltins "all" = some (.builtin "all") := by decide +kernel
theorem sx_all {x : Str} {p' : Pos} (hx : x = "all") (hc : X.calm = true) (hg : Gl X x) (hm : X.mg x = none) (ha : SX X c a pa) (hs : starEach [a] X.env = (false, eval a X.env) :: starEach [] X.env := by rfl) : SX X c (.Call (.Name x p') [a] [] pos) (.blt .all [pa]) := by
  subst hx; exact sx_b1 (fun h => pe_callB (c_all hc) hg hm boot_all h (he := hs)) ha (fun ρ => by rw [HH.ev]) rfl hs
end
end HH
end
section
set_option linter.all false
set_option Elab.async false
set_option maxRecDepth 10000
namespace HH
open PySem L2 PySem.Spec PyProof.Rows
section
variable {K : PySem.W.Frag}
theorem peqs_len : ∀ {xs ys : List D}, xs.length ≠ ys.length → peqs xs ys = false
  | [], [], h => absurd rfl h
  | [], _ :: _, _ => by simp [peqs]
  | _ :: _, [], _ => by simp [peqs]
  | x :: xs, y :: ys, h => by
    rw [peqs, peqs_len (xs := xs) (ys := ys) (by simpa using h), Bool.and_false]
theorem peqs_range : ∀ {xs ys : List D}, xs.length = ys.length → peqs xs ys = (List.range xs.length).all fun j => peq (xs.getD j .non) (ys.getD j .non)
  | [], [], _ => by rw [peqs]; rfl
  | [], _ :: _, h => by simp at h
  | _ :: _, [], h => by simp at h
  | x :: xs, y :: ys, h => by
    rw [peqs, peqs_range (xs := xs) (ys := ys) (by simpa using h), List.length_cons, List.range_succ_eq_map, List.all_cons, List.all_map]
    rfl
mutual
theorem peq_refl : ∀ d : D, peq d d = true
  | .non => by rw [peq]
  | .bl _ => by rw [peq]; simp
  | .int _ => by rw [peq]; simp
  | .str _ => by rw [peq]; simp
  | .tup ds => by rw [peq]; exact peqs_refl ds
  | .lst ds => by rw [peq]; exact peqs_refl ds
theorem peqs_refl : ∀ ds : List D, peqs ds ds = true
  | [] => by rw [peqs]
  | d :: ds => by rw [peqs, peq_refl d, peqs_refl ds]; rfl
end
theorem flat_inj {F : Hp} {d e : D} {v : V} (hf : flat d = true) (h1 : Rep K F v d) (h2 : Rep K F v e) : d = e := by
  cases d with
  | tup _ => cases hf
  | lst _ => cases hf
  | non =>
    rw [Rep] at h1; subst h1
    cases e with
    | non => rfl
    | tup _ => rw [Rep] at h2; obtain ⟨_, _, q, _⟩ := h2; cases q
    | lst _ => rw [Rep] at h2; obtain ⟨_, _, q, _⟩ := h2; cases q
    | _ => rw [Rep] at h2; cases h2
  | bl k =>
    rw [Rep] at h1; subst h1
    cases e with
    | bl _ => rw [Rep] at h2; cases h2; rfl
    | tup _ => rw [Rep] at h2; obtain ⟨_, _, q, _⟩ := h2; cases q
    | lst _ => rw [Rep] at h2; obtain ⟨_, _, q, _⟩ := h2; cases q
    | _ => rw [Rep] at h2; cases h2
  | int k =>
    rw [Rep] at h1; subst h1
    cases e with
    | int _ => rw [Rep] at h2; cases h2; rfl
    | tup _ => rw [Rep] at h2; obtain ⟨_, _, q, _⟩ := h2; cases q
    | lst _ => rw [Rep] at h2; obtain ⟨_, _, q, _⟩ := h2; cases q
    | _ => rw [Rep] at h2; cases h2
  | str k =>
    rw [Rep] at h1; subst h1
    cases e with
    | str _ => rw [Rep] at h2; cases h2; rfl
    | tup _ => rw [Rep] at h2; obtain ⟨_, _, q, _⟩ := h2; cases q
    | lst _ => rw [Rep] at h2; obtain ⟨_, _, q, _⟩ := h2; cases q
    | _ => rw [Rep] at h2; cases h2
theorem rep_inj {X : Cx} {pins : List (Addr × Obj)} {σ : L2.St} {H F : Hp} {s : Shared} (I : L2.Inv X pins σ H s) (sm : Same F H) :
    ∀ n : Nat, (∀ d : D, dle n d = true → ∀ (v : V) (e : D), Rep X.K F v d → Rep X.K F v e → d = e) := by
  have tl : ∀ {a : Addr} {xs ys : List V}, SqT X.K F a xs → SqL X.K F a ys → False := fun {a xs ys} h1 h2 => by
    obtain ⟨_, _, ⟨o, q1, q2, _⟩, _⟩ := I.tuple (Same.seqT sm h1)
    obtain ⟨_, _, pl, _⟩ := I.list (sm.seq h2)
    obtain ⟨o', q3, q4, _⟩ := pl.isList
    rw [q1] at q3; cases q3
    rw [q2] at q4
    exact absurd q4 (by decide)
  intro n
  induction n with
  | zero =>
    intro d hd v e h1 h2
    cases d with
    | tup _ => simp [dle] at hd
    | lst _ => simp [dle] at hd
    | non => exact flat_inj rfl h1 h2
    | bl k => exact flat_inj rfl h1 h2
    | int k => exact flat_inj rfl h1 h2
    | str k => exact flat_inj rfl h1 h2
  | succ n ih =>
    have all : ∀ {xs : List V} {ds es : List D}, ds.all (dle n) = true → Reps X.K F xs ds → Reps X.K F xs es → ds = es := fun {xs ds} => by
      induction ds generalizing xs with
      | nil =>
        intro es _ h1 h2
        rw [h1.unnil] at h2
        have := h2.length
        exact (List.eq_nil_of_length_eq_zero this.symm).symm
      | cons d ds ih2 =>
        intro es ha h1 h2
        rw [List.all_cons, Bool.and_eq_true] at ha
        obtain ⟨v, r, rfl, q1, q2⟩ := h1.uncons
        cases es with
        | nil => cases h2.unnil
        | cons e es =>
          obtain ⟨v', r', q0, q3, q4⟩ := h2.uncons
          cases q0
          rw [ih d ha.1 v e q1 q3, ih2 ha.2 q2 q4]
    intro d hd v e h1 h2
    cases d with
    | tup ds =>
      have ha : ds.all (dle n) = true := by simpa [dle] using hd
      rw [Rep] at h1
      obtain ⟨a, xs, rfl, z1, z2⟩ := h1
      cases e with
      | tup es =>
        rw [Rep] at h2
        obtain ⟨a', ys, q, w1, w2⟩ := h2
        cases q
        have := I.tuple_inj (Same.seqT sm z1) (Same.seqT sm w1)
        subst this
        rw [all ha z2 w2]
      | lst es => rw [Rep] at h2; obtain ⟨a', ys, q, w1, w2⟩ := h2; cases q; exact (tl z1 w1).elim
      | _ => rw [Rep] at h2; cases h2
    | lst ds =>
      have ha : ds.all (dle n) = true := by simpa [dle] using hd
      rw [Rep] at h1
      obtain ⟨a, xs, rfl, z1, z2⟩ := h1
      cases e with
      | lst es =>
        rw [Rep] at h2
        obtain ⟨a', ys, q, w1, w2⟩ := h2
        cases q
        have := I.list_inj (sm.seq z1) (sm.seq w1)
        subst this
        rw [all ha z2 w2]
      | tup es => rw [Rep] at h2; obtain ⟨a', ys, q, w1, w2⟩ := h2; cases q; exact (tl w1 z1).elim
      | _ => rw [Rep] at h2; cases h2
    | non => exact flat_inj rfl h1 h2
    | bl k => exact flat_inj rfl h1 h2
    | int k => exact flat_inj rfl h1 h2
    | str k => exact flat_inj rfl h1 h2
theorem eq_flat {A : Around} {s : Shared} {F : Hp} {d e : D} {v u : V} {v' u' : Value} (hd : flat d = true) (he : flat e = true) (h1 : Rep K F v d) (h2 : Rep K F u e) (r1 : RelV v v') (r2 : RelV u u') : SeqAt.EqAt A s v' u' (peq d e) := by
  cases d with
  | tup _ => cases hd
  | lst _ => cases hd
  | non =>
    rw [Rep] at h1; subst h1; cases (show v' = .none from r1)
    cases e with
    | tup _ => cases he
    | lst _ => cases he
    | non => rw [Rep] at h2; subst h2; cases (show u' = .none from r2); rw [peq]; exact SeqAt.EqAt.same _
    | bl _ => rw [Rep] at h2; subst h2; cases (show u' = .bool _ from r2); simp only [peq]; exact SeqAt.EqAt.none_bool _
    | int _ => rw [Rep] at h2; subst h2; obtain ⟨t, rfl⟩ := r2; simp only [peq]; exact SeqAt.EqAt.none_int _ _
    | str _ => rw [Rep] at h2; subst h2; obtain ⟨t, rfl⟩ := r2; simp only [peq]; exact SeqAt.EqAt.none_str _ _
  | bl _ =>
    rw [Rep] at h1; subst h1; cases (show v' = .bool _ from r1)
    cases e with
    | tup _ => cases he
    | lst _ => cases he
    | non => rw [Rep] at h2; subst h2; cases (show u' = .none from r2); simp only [peq]; exact SeqAt.EqAt.bool_none _
    | bl _ => rw [Rep] at h2; subst h2; cases (show u' = .bool _ from r2); simp only [peq]; exact SeqAt.EqAt.bool_bool _ _
    | int _ => rw [Rep] at h2; subst h2; obtain ⟨t, rfl⟩ := r2; simp only [peq]; exact SeqAt.EqAt.bool_int _ _ _
    | str _ => rw [Rep] at h2; subst h2; obtain ⟨t, rfl⟩ := r2; simp only [peq]; exact SeqAt.EqAt.bool_str _ _ _
  | int _ =>
    rw [Rep] at h1; subst h1; obtain ⟨t0, rfl⟩ := r1
    cases e with
    | tup _ => cases he
    | lst _ => cases he
    | non => rw [Rep] at h2; subst h2; cases (show u' = .none from r2); simp only [peq]; exact SeqAt.EqAt.int_none _ _
    | bl _ => rw [Rep] at h2; subst h2; cases (show u' = .bool _ from r2); simp only [peq]; exact SeqAt.EqAt.int_bool _ _ _
    | int _ => rw [Rep] at h2; subst h2; obtain ⟨t, rfl⟩ := r2; simp only [peq]; exact SeqAt.EqAt.int_int _ _ _ _
    | str _ => rw [Rep] at h2; subst h2; obtain ⟨t, rfl⟩ := r2; simp only [peq]; exact SeqAt.EqAt.int_str _ _ _ _
  | str _ =>
    rw [Rep] at h1; subst h1; obtain ⟨t0, rfl⟩ := r1
    cases e with
    | tup _ => cases he
    | lst _ => cases he
    | non => rw [Rep] at h2; subst h2; cases (show u' = .none from r2); simp only [peq]; exact SeqAt.EqAt.str_none _ _
    | bl _ => rw [Rep] at h2; subst h2; cases (show u' = .bool _ from r2); simp only [peq]; exact SeqAt.EqAt.str_bool _ _ _
    | int _ => rw [Rep] at h2; subst h2; obtain ⟨t, rfl⟩ := r2; simp only [peq]; exact SeqAt.EqAt.str_int _ _ _ _
    | str _ => rw [Rep] at h2; subst h2; obtain ⟨t, rfl⟩ := r2; simp only [peq]; exact SeqAt.EqAt.str_str _ _ _ _
theorem eq_tupF {A : Around} {s : Shared} {F : Hp} {ds : List D} {e : D} {u : V} {u' : Value} {a : Addr} {its : Array Value} (ht : s.heap.IsTuple a its) (hu : A.units < cLine) (he : flat e = true) (h2 : Rep K F u e) (r2 : RelV u u') :
    SeqAt.EqAt A s (.ref a) u' (peq (.tup ds) e) ∧ SeqAt.EqAt A s u' (.ref a) (peq e (.tup ds)) := by
  cases e with
  | tup _ => cases he
  | lst _ => cases he
  | non => rw [Rep] at h2; subst h2; cases (show u' = .none from r2); simp only [peq]; exact ⟨SeqAt.EqAt.tuple_none ht hu, SeqAt.EqAt.none_tuple ht hu⟩
  | bl _ => rw [Rep] at h2; subst h2; cases (show u' = .bool _ from r2); simp only [peq]; exact ⟨SeqAt.EqAt.tuple_bool _ ht hu, SeqAt.EqAt.bool_tuple _ ht hu⟩
  | int _ => rw [Rep] at h2; subst h2; obtain ⟨t, rfl⟩ := r2; simp only [peq]; exact ⟨SeqAt.EqAt.tuple_int _ _ ht hu, SeqAt.EqAt.int_tuple _ _ ht hu⟩
  | str _ => rw [Rep] at h2; subst h2; obtain ⟨t, rfl⟩ := r2; simp only [peq]; exact ⟨SeqAt.EqAt.tuple_str _ _ ht hu, SeqAt.EqAt.str_tuple _ _ ht hu⟩
theorem eq_lstF {A : Around} {s : Shared} {F : Hp} {ds : List D} {e : D} {u : V} {u' : Value} {a : Addr} {its : Array Value} (ht : s.heap.IsList a its) (hu : A.units < cLine) (he : flat e = true) (h2 : Rep K F u e) (r2 : RelV u u') :
    SeqAt.EqAt A s (.ref a) u' (peq (.lst ds) e) ∧ SeqAt.EqAt A s u' (.ref a) (peq e (.lst ds)) := by
  cases e with
  | tup _ => cases he
  | lst _ => cases he
  | non => rw [Rep] at h2; subst h2; cases (show u' = .none from r2); simp only [peq]; exact ⟨SeqAt.EqAt.list_none ht hu, SeqAt.EqAt.none_list ht hu⟩
  | bl _ => rw [Rep] at h2; subst h2; cases (show u' = .bool _ from r2); simp only [peq]; exact ⟨SeqAt.EqAt.list_bool _ ht hu, SeqAt.EqAt.bool_list _ ht hu⟩
  | int _ => rw [Rep] at h2; subst h2; obtain ⟨t, rfl⟩ := r2; simp only [peq]; exact ⟨SeqAt.EqAt.list_int _ _ ht hu, SeqAt.EqAt.int_list _ _ ht hu⟩
  | str _ => rw [Rep] at h2; subst h2; obtain ⟨t, rfl⟩ := r2; simp only [peq]; exact ⟨SeqAt.EqAt.list_str _ _ ht hu, SeqAt.EqAt.str_list _ _ ht hu⟩
theorem flat_dle {n : Nat} {d : D} (h : dle n d = true) (h0 : n = 0) : flat d = true := by
  subst h0; cases d <;> first | rfl | simp [dle] at h
theorem eq_D {X : Cx} {pins : List (Addr × Obj)} {σ : L2.St} {H F : Hp} {s : Shared} (I : L2.Inv X pins σ H s) (sm : Same F H) : ∀ (n : Nat) (A : Around), A.units + n < cLine → ∀ (d e : D), dle n d = true → dle n e = true → ∀ (v u : V) (v' u' : Value),
    Rep X.K F v d → Rep X.K F u e → RelV v v' → RelV u u' → SeqAt.EqAt A s v' u' (peq d e) := by
  intro n
  induction n with
  | zero =>
    intro A hu d e hd he v u v' u' h1 h2 r1 r2
    exact eq_flat (flat_dle hd rfl) (flat_dle he rfl) h1 h2 r1 r2
  | succ n ih =>
    intro A hu d e hd he v u v' u' h1 h2 r1 r2
    have hu0 : A.units < cLine := by omega
    have hu1 : A.in1.units + n < cLine := by show A.units + 1 + n < cLine; omega
    -- items by place
    have at_ : ∀ {xs ys : List V} {us ws : List Value} {ds es : List D} {j : Nat} (k1 : j < us.toArray.size) (k2 : j < ws.toArray.size), ds.all (dle n) = true → es.all (dle n) = true → Vals xs us → Vals ys ws → Reps X.K F xs ds → Reps X.K F ys es →
        SeqAt.EqAt A.in1 s us.toArray[j] ws.toArray[j] (peq (ds.getD j .non) (es.getD j .non)) := fun {xs ys us ws ds es j} k1 k2 a1 a2 v1 v2 p1 p2 => by
      have k1 : j < us.length := by simpa using k1
      have k2 : j < ws.length := by simpa using k2
      have l1 : j < ds.length := by rw [← p1.length, v1.length]; exact k1
      have l2 : j < es.length := by rw [← p2.length, v2.length]; exact k2
      obtain ⟨x, g1, g2⟩ := p1.get (show ds[j]? = some ds[j] by simp [l1])
      obtain ⟨y, g3, g4⟩ := p2.get (show es[j]? = some es[j] by simp [l2])
      obtain ⟨x', g5, g6⟩ := v1.get g1
      obtain ⟨y', g7, g8⟩ := v2.get g3
      have e1 : us.toArray[j] = x' := by have := (List.getElem?_eq_some_iff.mp g5).2; simpa using this
      have e2 : ws.toArray[j] = y' := by have := (List.getElem?_eq_some_iff.mp g7).2; simpa using this
      have e3 : ds.getD j .non = ds[j] := by simp [List.getD, l1]
      have e4 : es.getD j .non = es[j] := by simp [List.getD, l2]
      rw [e1, e2, e3, e4]
      exact ih A.in1 hu1 _ _ (List.all_eq_true.mp a1 _ (List.getElem_mem l1)) (List.all_eq_true.mp a2 _ (List.getElem_mem l2)) x y x' y' g2 g4 g6 g8
    -- the same object
    have same : ∀ {a : Addr}, v = .ref a → u = .ref a → SeqAt.EqAt A s v' u' (peq d e) := fun {a} q1 q2 => by
      subst q1; subst q2
      have := rep_inj I sm (n + 1) d hd _ e h1 h2
      subst this
      rw [peq_refl]
      cases r1; cases r2
      exact SeqAt.EqAt.same _
    cases d with
    | tup ds =>
      have ha : ds.all (dle n) = true := by simpa [dle] using hd
      have h1' := h1
      rw [Rep] at h1'
      obtain ⟨a, xs, rfl, z1, z2⟩ := h1'
      cases r1
      obtain ⟨us, v1, p1, _⟩ := I.tuple (Same.seqT sm z1)
      cases e with
      | tup es =>
        have hb : es.all (dle n) = true := by simpa [dle] using he
        have h2' := h2
        rw [Rep] at h2'
        obtain ⟨b, ys, rfl, w1, w2⟩ := h2'
        by_cases hab : a = b
        · subst hab; exact same rfl rfl
        · cases r2
          obtain ⟨ws, v2, p2, _⟩ := I.tuple (Same.seqT sm w1)
          refine .of_refs hab ?_
          have z := SeqAt.RcAt.tuples (A := A) (e := fun j => peq (ds.getD j .non) (es.getD j .non)) p1 p2 hu0 fun j k1 k2 => at_ k1 k2 ha hb v1 v2 z2 w2
          have l1 : us.toArray.size = ds.length := by rw [List.size_toArray, ← v1.length, z2.length]
          have l2 : ws.toArray.size = es.length := by rw [List.size_toArray, ← v2.length, w2.length]
          rw [l1, l2] at z
          have e0 : peq (.tup ds) (.tup es) = ((List.range (min ds.length es.length)).all (fun j => peq (ds.getD j .non) (es.getD j .non)) && ds.length == es.length) := by
            rw [peq]
            by_cases hl : ds.length = es.length
            · rw [peqs_range hl, hl]; simp
            · rw [peqs_len hl]
              have : (ds.length == es.length) = false := by simpa using hl
              rw [this, Bool.and_false]
          rw [e0]
          exact z
      | lst es =>
        rw [Rep] at h2
        obtain ⟨b, ys, rfl, w1, w2⟩ := h2
        cases r2
        obtain ⟨ws, v2, p2, _⟩ := I.list (sm.seq w1)
        simp only [peq]
        exact SeqAt.EqAt.tuple_list p1 p2.isList hu0
      | non => exact (eq_tupF p1 hu0 rfl h2 r2).1
      | bl _ => exact (eq_tupF p1 hu0 rfl h2 r2).1
      | int _ => exact (eq_tupF p1 hu0 rfl h2 r2).1
      | str _ => exact (eq_tupF p1 hu0 rfl h2 r2).1
    | lst ds =>
      have ha : ds.all (dle n) = true := by simpa [dle] using hd
      have h1' := h1
      rw [Rep] at h1'
      obtain ⟨a, xs, rfl, z1, z2⟩ := h1'
      cases r1
      obtain ⟨us, v1, p1, _⟩ := I.list (sm.seq z1)
      cases e with
      | lst es =>
        have hb : es.all (dle n) = true := by simpa [dle] using he
        have h2' := h2
        rw [Rep] at h2'
        obtain ⟨b, ys, rfl, w1, w2⟩ := h2'
        by_cases hab : a = b
        · subst hab; exact same rfl rfl
        · cases r2
          obtain ⟨ws, v2, p2, _⟩ := I.list (sm.seq w1)
          refine .of_refs hab ?_
          have l1 : us.toArray.size = ds.length := by rw [List.size_toArray, ← v1.length, z2.length]
          have l2 : ws.toArray.size = es.length := by rw [List.size_toArray, ← v2.length, w2.length]
          rw [peq]
          by_cases hl : ds.length = es.length
          · have z := SeqAt.RcAt.lists (A := A) (e := fun j => peq (ds.getD j .non) (es.getD j .non)) p1.isList p2.isList (by rw [l1, l2, hl]) hu0 fun j k1 k2 => at_ k1 k2 ha hb v1 v2 z2 w2
            rw [l1] at z
            rw [peqs_range hl]
            exact z
          · rw [peqs_len hl]
            exact SeqAt.RcAt.lists_lengths p1.isList p2.isList (by rw [l1, l2]; simpa using hl) hu0
      | tup es =>
        rw [Rep] at h2
        obtain ⟨b, ys, rfl, w1, w2⟩ := h2
        cases r2
        obtain ⟨ws, v2, p2, _⟩ := I.tuple (Same.seqT sm w1)
        simp only [peq]
        exact SeqAt.EqAt.list_tuple p1.isList p2 hu0
      | non => exact (eq_lstF p1.isList hu0 rfl h2 r2).1
      | bl _ => exact (eq_lstF p1.isList hu0 rfl h2 r2).1
      | int _ => exact (eq_lstF p1.isList hu0 rfl h2 r2).1
      | str _ => exact (eq_lstF p1.isList hu0 rfl h2 r2).1
    | non | bl _ | int _ | str _ =>
      cases e with
      | tup es =>
        rw [Rep] at h2
        obtain ⟨b, ys, rfl, w1, w2⟩ := h2
        cases r2
        obtain ⟨ws, v2, p2, _⟩ := I.tuple (Same.seqT sm w1)
        exact (eq_tupF p2 hu0 rfl h1 r1).2
      | lst es =>
        rw [Rep] at h2
        obtain ⟨b, ys, rfl, w1, w2⟩ := h2
        cases r2
        obtain ⟨ws, v2, p2, _⟩ := I.list (sm.seq w1)
        exact (eq_lstF p2.isList hu0 rfl h1 r1).2
      | _ => exact eq_flat rfl rfl h1 h2 r1 r2
end
end HH
end
section
set_option linter.all false
set_option Elab.async false
set_option maxRecDepth 10000
namespace HH
open PySem L2 PySem.Spec PyProof.Rows
section
variable {X : Cx} {pins : List (Addr × Obj)} {σ : L2.St} {H F : Hp} {s : Shared} {A : Around}
noncomputable abbrev RC (A : Around) (s : Shared) (v u : Value) (k : Bool) : Prop := SeqAt.RcAt A s v u k ∧ SeqAt.RcNeAt A s v u (!k)
inductive Top (X : Cx) (F H : Hp) (s : Shared) : Value → D → Prop where
  | non : Top X F H s .none .non
  | bl (b : Bool) : Top X F H s (.bool b) (.bl b)
  | int (i : Int) (t : Tok) : Top X F H s (.int i t) (.int i)
  | str (x : Str) (t : Tok) : Top X F H s (.str x t) (.str x)
  | tup {a : Addr} {us : List Value} {xs : List V} {ds : List D} (ht : s.heap.IsTuple a us.toArray) (hv : Vals xs us) (hr : Reps X.K F xs ds) : Top X F H s (.ref a) (.tup ds)
  | lst {a : Addr} {us : List Value} {xs : List V} {ds : List D} (ht : s.heap.IsList a us.toArray) (hv : Vals xs us) (hr : Reps X.K F xs ds) : Top X F H s (.ref a) (.lst ds)
theorem top_of (I : L2.Inv X pins σ H s) (sm : Same F H) {v : V} {v' : Value} {d : D} (h : PRep X.K F H v d) (r : RelV v v') : Top X F H s v' d := by
  cases d with
  | non => rw [h.non] at r; cases r; exact .non
  | bl b => rw [h.bl] at r; cases r; exact .bl b
  | int i => rw [h.int] at r; obtain ⟨t, rfl⟩ := r; exact .int i t
  | str x => rw [h.str] at r; obtain ⟨t, rfl⟩ := r; exact .str x t
  | tup ds =>
    obtain ⟨a, xs, rfl, h1, h2, _⟩ := h.tup sm
    cases r
    obtain ⟨us, v1, p1, _⟩ := I.tuple h1
    exact .tup p1 v1 h2
  | lst ds =>
    obtain ⟨a, xs, rfl, h1, h2⟩ := h.lst sm
    cases r
    obtain ⟨us, v1, p1, _⟩ := I.list h1
    exact .lst p1.isList v1 h2
theorem rc_D (I : L2.Inv X pins σ H s) (sm : Same F H) {n : Nat} (hu : A.units + (n + 1) < cLine) {d e : D} (hd : dle (n + 1) d = true) (he : dle (n + 1) e = true) {v' u' : Value} (h1 : Top X F H s v' d) (h2 : Top X F H s u' e) : RC A s v' u' (peq d e) := by
  have hu0 : A.units < cLine := by omega
  have hu1 : A.in1.units + n < cLine := by show A.units + 1 + n < cLine; omega
  have at_ : ∀ {xs ys : List V} {us ws : List Value} {ds es : List D} {j : Nat} (k1 : j < us.toArray.size) (k2 : j < ws.toArray.size), ds.all (dle n) = true → es.all (dle n) = true → Vals xs us → Vals ys ws → Reps X.K F xs ds → Reps X.K F ys es →
      SeqAt.EqAt A.in1 s us.toArray[j] ws.toArray[j] (peq (ds.getD j .non) (es.getD j .non)) := fun {xs ys us ws ds es j} k1 k2 a1 a2 v1 v2 p1 p2 => by
    have k1 : j < us.length := by simpa using k1
    have k2 : j < ws.length := by simpa using k2
    have l1 : j < ds.length := by rw [← p1.length, v1.length]; exact k1
    have l2 : j < es.length := by rw [← p2.length, v2.length]; exact k2
    obtain ⟨x, g1, g2⟩ := p1.get (show ds[j]? = some ds[j] by simp [l1])
    obtain ⟨y, g3, g4⟩ := p2.get (show es[j]? = some es[j] by simp [l2])
    obtain ⟨x', g5, g6⟩ := v1.get g1
    obtain ⟨y', g7, g8⟩ := v2.get g3
    have e1 : us.toArray[j] = x' := by have := (List.getElem?_eq_some_iff.mp g5).2; simpa using this
    have e2 : ws.toArray[j] = y' := by have := (List.getElem?_eq_some_iff.mp g7).2; simpa using this
    have e3 : ds.getD j .non = ds[j] := by simp [List.getD, l1]
    have e4 : es.getD j .non = es[j] := by simp [List.getD, l2]
    rw [e1, e2, e3, e4]
    exact eq_D I sm n A.in1 hu1 _ _ (List.all_eq_true.mp a1 _ (List.getElem_mem l1)) (List.all_eq_true.mp a2 _ (List.getElem_mem l2)) x y x' y' g2 g4 g6 g8
  cases h1 with
  | non =>
    cases h2 with
    | non => simp only [peq]; exact ⟨SeqAt.RcAt.none_none, SeqAt.RcNeAt.none_none⟩
    | bl b => simp only [peq]; exact ⟨SeqAt.RcAt.none_bool _, SeqAt.RcNeAt.none_bool _⟩
    | int i t => simp only [peq]; exact ⟨SeqAt.RcAt.none_int _ _, SeqAt.RcNeAt.none_int _ _⟩
    | str i t => simp only [peq]; exact ⟨SeqAt.RcAt.none_str _ _, SeqAt.RcNeAt.none_str _ _⟩
    | tup ht _ _ => simp only [peq]; exact ⟨SeqAt.RcAt.none_tuple ht hu0, SeqAt.RcNeAt.none_tuple ht hu0⟩
    | lst ht _ _ => simp only [peq]; exact ⟨SeqAt.RcAt.none_list ht hu0, SeqAt.RcNeAt.none_list ht hu0⟩
  | bl b0 =>
    cases h2 with
    | non => simp only [peq]; exact ⟨SeqAt.RcAt.bool_none _, SeqAt.RcNeAt.bool_none _⟩
    | bl b => simp only [peq]; exact ⟨SeqAt.RcAt.bool_bool _ _, SeqAt.RcNeAt.bool_bool _ _⟩
    | int i t => simp only [peq]; exact ⟨SeqAt.RcAt.bool_int _ _ _, SeqAt.RcNeAt.bool_int _ _ _⟩
    | str i t => simp only [peq]; exact ⟨SeqAt.RcAt.bool_str _ _ _, SeqAt.RcNeAt.bool_str _ _ _⟩
    | tup ht _ _ => simp only [peq]; exact ⟨SeqAt.RcAt.bool_tuple _ ht hu0, SeqAt.RcNeAt.bool_tuple _ ht hu0⟩
    | lst ht _ _ => simp only [peq]; exact ⟨SeqAt.RcAt.bool_list _ ht hu0, SeqAt.RcNeAt.bool_list _ ht hu0⟩
  | int i0 t0 =>
    cases h2 with
    | non => simp only [peq]; exact ⟨SeqAt.RcAt.int_none _ _, SeqAt.RcNeAt.int_none _ _⟩
    | bl b => simp only [peq]; exact ⟨SeqAt.RcAt.int_bool _ _ _, SeqAt.RcNeAt.int_bool _ _ _⟩
    | int i t => simp only [peq]; exact ⟨SeqAt.RcAt.int_int _ _ _ _, SeqAt.RcNeAt.int_int _ _ _ _⟩
    | str i t => simp only [peq]; exact ⟨SeqAt.RcAt.int_str _ _ _ _, SeqAt.RcNeAt.int_str _ _ _ _⟩
    | tup ht _ _ => simp only [peq]; exact ⟨SeqAt.RcAt.int_tuple _ _ ht hu0, SeqAt.RcNeAt.int_tuple _ _ ht hu0⟩
    | lst ht _ _ => simp only [peq]; exact ⟨SeqAt.RcAt.int_list _ _ ht hu0, SeqAt.RcNeAt.int_list _ _ ht hu0⟩
  | str i0 t0 =>
    cases h2 with
    | non => simp only [peq]; exact ⟨SeqAt.RcAt.str_none _ _, SeqAt.RcNeAt.str_none _ _⟩
    | bl b => simp only [peq]; exact ⟨SeqAt.RcAt.str_bool _ _ _, SeqAt.RcNeAt.str_bool _ _ _⟩
    | int i t => simp only [peq]; exact ⟨SeqAt.RcAt.str_int _ _ _ _, SeqAt.RcNeAt.str_int _ _ _ _⟩
    | str i t => simp only [peq]; exact ⟨SeqAt.RcAt.str_str _ _ _ _, SeqAt.RcNeAt.str_str _ _ _ _⟩
    | tup ht _ _ => simp only [peq]; exact ⟨SeqAt.RcAt.str_tuple _ _ ht hu0, SeqAt.RcNeAt.str_tuple _ _ ht hu0⟩
    | lst ht _ _ => simp only [peq]; exact ⟨SeqAt.RcAt.str_list _ _ ht hu0, SeqAt.RcNeAt.str_list _ _ ht hu0⟩
  | @tup a us xs ds ht hv hr =>
    have ha : ds.all (dle n) = true := by simpa [dle] using hd
    cases h2 with
    | non => simp only [peq]; exact ⟨SeqAt.RcAt.tuple_none ht hu0, SeqAt.RcNeAt.tuple_none ht hu0⟩
    | bl b => simp only [peq]; exact ⟨SeqAt.RcAt.tuple_bool _ ht hu0, SeqAt.RcNeAt.tuple_bool _ ht hu0⟩
    | int i t => simp only [peq]; exact ⟨SeqAt.RcAt.tuple_int _ _ ht hu0, SeqAt.RcNeAt.tuple_int _ _ ht hu0⟩
    | str i t => simp only [peq]; exact ⟨SeqAt.RcAt.tuple_str _ _ ht hu0, SeqAt.RcNeAt.tuple_str _ _ ht hu0⟩
    | lst ht2 _ _ => simp only [peq]; exact ⟨SeqAt.RcAt.tuple_list ht ht2 hu0, SeqAt.RcNeAt.tuple_list ht ht2 hu0⟩
    | @tup b ws ys es ht2 hv2 hr2 =>
      have hb : es.all (dle n) = true := by simpa [dle] using he
      have l1 : us.toArray.size = ds.length := by rw [List.size_toArray, ← hv.length, hr.length]
      have l2 : ws.toArray.size = es.length := by rw [List.size_toArray, ← hv2.length, hr2.length]
      have z1 := SeqAt.RcAt.tuples (A := A) (e := fun j => peq (ds.getD j .non) (es.getD j .non)) ht ht2 hu0 fun j k1 k2 => at_ k1 k2 ha hb hv hv2 hr hr2
      have z2 := SeqAt.RcNeAt.tuples (A := A) (e := fun j => peq (ds.getD j .non) (es.getD j .non)) ht ht2 hu0 fun j k1 k2 => at_ k1 k2 ha hb hv hv2 hr hr2
      rw [l1, l2] at z1 z2
      have e0 : peq (.tup ds) (.tup es) = ((List.range (min ds.length es.length)).all (fun j => peq (ds.getD j .non) (es.getD j .non)) && ds.length == es.length) := by
        rw [peq]
        by_cases hl : ds.length = es.length
        · rw [peqs_range hl, hl]; simp
        · rw [peqs_len hl]
          have : (ds.length == es.length) = false := by simpa using hl
          rw [this, Bool.and_false]
      rw [e0]
      exact ⟨z1, z2⟩
  | @lst a us xs ds ht hv hr =>
    have ha : ds.all (dle n) = true := by simpa [dle] using hd
    cases h2 with
    | non => simp only [peq]; exact ⟨SeqAt.RcAt.list_none ht hu0, SeqAt.RcNeAt.list_none ht hu0⟩
    | bl b => simp only [peq]; exact ⟨SeqAt.RcAt.list_bool _ ht hu0, SeqAt.RcNeAt.list_bool _ ht hu0⟩
    | int i t => simp only [peq]; exact ⟨SeqAt.RcAt.list_int _ _ ht hu0, SeqAt.RcNeAt.list_int _ _ ht hu0⟩
    | str i t => simp only [peq]; exact ⟨SeqAt.RcAt.list_str _ _ ht hu0, SeqAt.RcNeAt.list_str _ _ ht hu0⟩
    | tup ht2 _ _ => simp only [peq]; exact ⟨SeqAt.RcAt.list_tuple ht ht2 hu0, SeqAt.RcNeAt.list_tuple ht ht2 hu0⟩
    | @lst b ws ys es ht2 hv2 hr2 =>
      have hb : es.all (dle n) = true := by simpa [dle] using he
      have l1 : us.toArray.size = ds.length := by rw [List.size_toArray, ← hv.length, hr.length]
      have l2 : ws.toArray.size = es.length := by rw [List.size_toArray, ← hv2.length, hr2.length]
      rw [show peq (.lst ds) (.lst es) = peqs ds es by rw [peq]]
      by_cases hl : ds.length = es.length
      · have z1 := SeqAt.RcAt.lists (A := A) (e := fun j => peq (ds.getD j .non) (es.getD j .non)) ht ht2 (by rw [l1, l2, hl]) hu0 fun j k1 k2 => at_ k1 k2 ha hb hv hv2 hr hr2
        have z2 := SeqAt.RcNeAt.lists (A := A) (e := fun j => peq (ds.getD j .non) (es.getD j .non)) ht ht2 (by rw [l1, l2, hl]) hu0 fun j k1 k2 => at_ k1 k2 ha hb hv hv2 hr hr2
        rw [l1] at z1 z2
        rw [peqs_range hl]
        exact ⟨z1, z2⟩
      · rw [peqs_len hl]
        exact ⟨SeqAt.RcAt.lists_lengths ht ht2 (by rw [l1, l2]; simpa using hl) hu0, SeqAt.RcNeAt.lists_lengths ht ht2 (by rw [l1, l2]; simpa using hl) hu0⟩
theorem op_eqD (hu : X.A.units + 8 < cLine) : OpR X (compareOp .Eq) (rD X.K (cmR .eq)) := by
  rintro pins s σ H x y v u Q I rx ry ⟨F, d, e, r, sm, px, py, he, k⟩
  obtain ⟨t, e1, e2⟩ := map_some (show (cmEq d e).map _ = some r from he)
  subst e2
  unfold cmEq at e1
  obtain ⟨hd, e1⟩ := ite_some e1
  rw [Bool.and_eq_true] at hd
  subst e1
  exact (rc_D I sm (n := 7) hu hd.1 hd.2 (top_of I sm px rx) (top_of I sm py ry)).1 _ _ _ _ ⟨.bl _, H, I, rfl, RepN.val0 sm (repBl _) k⟩
theorem op_neD (hu : X.A.units + 8 < cLine) : OpR X (compareOp .NotEq) (rD X.K (cmR .ne)) := by
  rintro pins s σ H x y v u Q I rx ry ⟨F, d, e, r, sm, px, py, he, k⟩
  obtain ⟨t, e1, e2⟩ := map_some (show (cmNe d e).map _ = some r from he)
  subst e2
  unfold cmNe at e1
  obtain ⟨hd, e1⟩ := ite_some e1
  rw [Bool.and_eq_true] at hd
  subst e1
  exact (rc_D I sm (n := 7) hu hd.1 hd.2 (top_of I sm px rx) (top_of I sm py ry)).2 _ _ _ _ ⟨.bl _, H, I, rfl, RepN.val0 sm (repBl _) k⟩
end
end HH
end
section
set_option linter.all false
set_option Elab.async false
set_option maxRecDepth 10000
namespace HH
open PySem L2 PySem.Spec PyProof.Rows
section
variable {Pg : Program} {w : World} {K : PySem.W.Frag} {mg : Str → Option Value} {base : Heap}
theorem fn_ok {x qual : Str} {st : Stmt} {f : Addr} {fd : FuncData} {N ps : List Str} {k n : Nat} {c : Call} {d : Fd} (Fu : Fun K x qual st f fd) (S : FnScope N ps (defScope st)) (h1 : d.np = ps.length) (h2 : d.nn = N.length)
    (hb : ∀ (cdv : Value) (A : Around) (outer : List Env) (s : Shared) (H : Hp) (E : XK), Room k (A.deeper (envOfC qual (defScope st) s.heap.objs.size f cdv)) → SB (cxOf CX0 Pg w K mg base N qual (defScope st) f cdv A outer s H E).nox c n (defBody st) d.body) :
    FnOk Pg w K mg base CX0 (k + 1) f fd ps (spC K ps.length (fun args => enter c n d args)) := by
  refine Fu.ok S (fun vs H Q E h => h.1) fun cdv A outer s H vs Q E hr h => ?_
  obtain ⟨hl, F, args, r, args', g, e, q⟩ := h
  refine ⟨_, hb cdv A outer s H E hr, ?_⟩
  replace e : enter c n d args = .ok r args' := e
  unfold enter at e
  split at e
  · rename_i hc
    obtain ⟨c1, c2⟩ := hc
    have hg := g.more (n := d.nn - d.np) (τ := List.replicate (N.length - vs.length) none) (by simp [h1, h2, hl])
    have hla : args.length = d.np := c1
    have go : ∀ {fl : Fl} {ρ' : List Sl}, exs c n d.body (args ++ List.replicate (d.nn - d.np) .unb) = .ok fl ρ' → (∀ F' σ' H', Stp K F (args ++ List.replicate (d.nn - d.np) .unb) (start N vs) H F' ρ' σ' H' → (match fl with
        | .next => Q .non H'
        | .brk => False
        | .cont => False
        | .ret r => ∀ v, RepR K F' ρ' σ' H' (args ++ List.replicate (d.nn - d.np) .unb) (start N vs) H v r → Q v H')) →
        tEx K (exs c n d.body) { nx := fun _ H' => Q .non H', rt := Q } (start N vs) H := fun {fl ρ'} z k => ⟨F, _, fl, ρ', hg, z, fun F' σ' H' s => by
      have := k F' σ' H' s
      cases fl <;> exact this⟩
    split at e
    · rename_i ρ' z
      cases e
      refine go z fun F' σ' H' s => ?_
      obtain ⟨z1, z2⟩ := Stp.less (m := d.np) hla.symm g (by simp [h1, h2, hl]) s
      exact q .non F' _ H' z1 (show Rep K F' _ _ from repNon)
    · rename_i r' ρ' z
      cases e
      refine go z fun F' σ' H' s v rr => ?_
      obtain ⟨z1, z2⟩ := Stp.less (m := d.np) hla.symm g (by simp [h1, h2, hl]) s
      exact q v F' _ H' z1 (z2 v r rr)
    · split at e <;> cases e
  · cases e
structure CallOk (Pg : Program) (w : World) (K : PySem.W.Frag) (mg : Str → Option Value) (base : Heap) (k : Nat) (c : Call) (i : Nat) (x : Str) (np : Nat) : Prop where
  ex : ∃ fa fd qs, FnOk Pg w K mg base CX0 k fa fd qs (spC K qs.length (c i)) ∧ mg x = some (.ref fa) ∧ PySem.W.keepIn K (.ref fa) = true ∧ Binds K fd qs [] ∧ qs.length = np
end
section
variable {X : Cx} {c : Call} {n k : Nat} {e a b : Expr} {es : List Expr} {p pa pb : P} {ps : List P} {pos : Pos}
theorem sv (i : Nat) {x : Str} (hN : X.N[i]? = some x := by rfl) (hv : Vis X.env.scope x := by first | exact Or.inl rfl | exact Or.inr (Or.inl rfl) | exact Or.inr (Or.inr rfl)) (hd : (x == ("__debug__" : Str)) = false := by rfl) (hcd : (x == ("__classdict__" : Str)) = false := by rfl) : SX X c (.Name x pos) (.var i) := sx_var hN hv hd hcd
theorem sxc {i np : Nat} {x : Str} {p' : Pos} (C : CallOk X.prog X.w X.K X.mg X.base k c i x np) (hr : Room k X.A) (ha : SG X c (e :: es) ps) (hg : Gl X x := by rfl) (hl : (e :: es).length = np := by rfl) (hdb : (x == ("__debug__" : Str)) = false := by rfl)
    (he : starEach (e :: es) X.env = (false, eval e X.env) :: starEach es X.env := by rfl) (hpl : (backTo pos (starEach es X.env)).any (·.1) = false := by rfl) (hl2 : ps.length = (e :: es).length := by rfl) : SX X c (.Call (.Name x p') (e :: es) [] pos) (.call i ps) := by
  obtain ⟨fa, fd, qs, h1, h2, h3, h4, h5⟩ := C.ex
  exact sx_call h1 hr hg h2 h3 h4 ha (hl.trans h5.symm) hdb he hpl hl2
noncomputable def compB (names outer : List (Str × NameKind)) (N N' : List Str) (n : Nat) : Bool :=
  (names.all fun y => names.lookup y.1 == some y.2) && (names.all fun y => y.2 != .local || names.lookup y.1 == some .local) && (names.all fun y => y.2 != .free || outer.lookup y.1 == some .cell || outer.lookup y.1 == some .free) && N'.length == N.length + n &&
  ((N.zip N').all fun p => (p.1 == p.2 && names.lookup p.2 == some .free) || (names.lookup p.2 != some .local && names.lookup p.2 != some .cell && names.lookup p.2 != some .free))
theorem cOk {scope : Scope} {N' : List Str} (hk : scope.kind = .function) (h : compB scope.names X.env.scope.names X.N N' n = true) : CompOk X scope N' n := by
  unfold compB at h
  simp only [Bool.and_eq_true] at h
  obtain ⟨⟨⟨⟨h1, h2⟩, h3⟩, h4⟩, h5⟩ := h
  refine ⟨hk, fun y hy => eq_of_beq (List.all_eq_true.mp h1 y hy), fun y hy e => ?_, fun y hy e => ?_, by simpa using h4, h5⟩
  · have := List.all_eq_true.mp h2 y hy
    rw [e] at this
    simpa using this
  · have := List.all_eq_true.mp h3 y hy
    rw [e] at this
    simp only [Bool.or_eq_true] at this
    rcases this with (z | z) | z
    · cases z
    · exact .inl (eq_of_beq z)
    · exact .inr (eq_of_beq z)
theorem room_u {A : Around} (h : Room k A) : A.units + 8 < cLine := by have := h.un; omega
end
end HH
end
section
set_option linter.all false
set_option Elab.async false
set_option maxRecDepth 100000
namespace PySem
open AutoSeq1 (wpAny_loadPart')
section
variable {prog : Program} {w : World} {A : Around} {E : Value → Shared → Prop} {s : Shared}
theorem nextOf_tuple_item {it l : Addr} {i : Nat} {items : Array Value} {x : Value} {Q : Value → Shared → Prop} (hit : s.heap.IsTupleIter it l i)
    (hl : s.heap.IsTuple l items) (hx : items[i]? = some x)
    (hQ : ∀ h', h'.IsTupleIter it l (i + 1) → Heap.SameBut it s.heap h' → Q x { s with heap := h' }) :
    wpAny (model prog w) A (Builtin.SmallTypes.nextOf (.ref it)) Q E s := by
  obtain ⟨o, ho, hc, hd⟩ := id hit
  obtain ⟨ol, hol, _, nl, hdl⟩ := hl
  unfold Builtin.SmallTypes.nextOf
  refine wpAny_bind (wpAny_callSpecial?_slot (name := Str.ofString "__next__") hit.typeIs F.slot_tuple_iterator_next
    (wpAny_call_entry F.slot_tuple_iterator_next hit.typeIs F.entry_tuple_iterator_next ?_ (F.args_tuple_iterator_next_1 _)))
  show wpAny _ _ (field (.ref it) 0 >>= _) _ _ s
  refine wpAny_bind (wpAny_field ho hd (x := .ref l) rfl ?_)
  show wpAny _ _ (if (Value.ref l == Value.none) = true then _ else _) _ _ s
  rw [if_neg (show ¬ ((Value.ref l == Value.none) = true) from Bool.false_ne_true)]
  show wpAny _ _ (field (.ref it) 1 >>= _) _ _ s
  refine wpAny_bind (wpAny_field ho hd (x := .int i 0) rfl ?_)
  show wpAny _ _ (seqItems? (.ref l) >>= _) _ _ s
  refine wpAny_bind (wpAny_seqItems hol hdl ?_)
  simp only [Int.toNat_natCast, hx]
  refine wpAny_bind (wpAny_setField ho hd (by simp) (wpAny_pure ⟨x, rfl, wpAny_pure (hQ _ ?_ (Heap.SameBut.update ..))⟩))
  exact ⟨_, Heap.get?_update_self _ ho (Obj.isFreed_of_fields (Obj.data_mapFields hd _)), (Obj.cls_mapFields ..).trans hc, by
    rw [Obj.data_mapFields hd]; simp [rawInt]⟩
theorem nextOf_tuple_end {it l : Addr} {i : Nat} {items : Array Value} {Q : Value → Shared → Prop} (hh : A.handled = none)
    (hit : s.heap.IsTupleIter it l i) (hl : s.heap.IsTuple l items) (hx : items[i]? = none)
    (hE : ∀ h' e, Heap.ExtBut it s.heap h' → (∃ o, h'.get? e = some o ∧ o.cls = .type "StopIteration") → E (.ref e) { s with heap := h' }) :
    wpAny (model prog w) A (Builtin.SmallTypes.nextOf (.ref it)) Q E s := by
  obtain ⟨o, ho, hc, hd⟩ := id hit
  obtain ⟨ol, hol, _, nl, hdl⟩ := hl
  unfold Builtin.SmallTypes.nextOf
  refine wpAny_bind (wpAny_callSpecial?_slot (name := Str.ofString "__next__") hit.typeIs F.slot_tuple_iterator_next
    (wpAny_call_entry F.slot_tuple_iterator_next hit.typeIs F.entry_tuple_iterator_next ?_ (F.args_tuple_iterator_next_1 _)))
  show wpAny _ _ (field (.ref it) 0 >>= _) _ _ s
  refine wpAny_bind (wpAny_field ho hd (x := .ref l) rfl ?_)
  show wpAny _ _ (if (Value.ref l == Value.none) = true then _ else _) _ _ s
  rw [if_neg (show ¬ ((Value.ref l == Value.none) = true) from Bool.false_ne_true)]
  show wpAny _ _ (field (.ref it) 1 >>= _) _ _ s
  refine wpAny_bind (wpAny_field ho hd (x := .int i 0) rfl ?_)
  show wpAny _ _ (seqItems? (.ref l) >>= _) _ _ s
  refine wpAny_bind (wpAny_seqItems hol hdl ?_)
  simp only [Int.toNat_natCast, hx]
  refine wpAny_bind (wpAny_rule (wpAny_bind (wpAny_setField ho hd (by simp) ?_)))
  show wpAny _ _ (newExc (.type "StopIteration") [] >>= _) _ _ _
  refine wpAny_bind ?_
  simp only [newExc, newTuple]
  refine wpAny_bind (wpAny_newObj_type ?_ (by size_fits))
  refine wpAny_bind (m := firstArgMember _ _) (wpAny_of_eq (a := Value.none) (by first | rfl | (simp only [firstArgMember]; rfl)) ?_)
  refine wpAny_newObj_type ?_ (by size_fits)
  simp only [raiseNew]
  refine wpAny_bind (wpAny_handled ?_)
  first | rw [show A.in1.handled = none from hh] | rw [hh]
  refine wpAny_bind (wpAny_pure (wpAny_throw ?_))
  exact hE _ _ (((Heap.SameBut.update ..).extBut.push _).push _) ⟨_, Heap.get?_push_size _ rfl, rfl⟩
end
section
variable {prog : Program} {w : World} {A : Around} {E : Value → Shared → Prop} {s : Shared}
end
end PySem
end
section
set_option linter.all false
set_option Elab.async false
set_option maxRecDepth 100000
namespace L2
open PySem PySem.Spec PyProof.Rows
section
variable {X : Cx} {pins : List (Addr × Obj)} {σ : L2.St} {H : Hp} {s : Shared}
theorem Inv.laidCh {ch : List Addr} {h' : Heap} {o : HO} {t' : Nat} (I : Inv X pins σ H s) (k : ∀ b u, b ∉ ch → s.heap.get? b = some u → h'.get? b = some u) (hl : ∀ b ∈ ch, ∃ u, h'.get? b = some u) (hf : ∀ b ∈ ch, FpOk X pins H b)
    (new : ObjOk X.prog X.w (upd H s.heap.objs.size o) h' s.heap.objs.size o) : Inv X pins σ (upd H s.heap.objs.size o) { s with heap := h', toks := t' } := by
  have fr : H s.heap.objs.size = none := I.hok.fresh (Nat.le_refl _)
  have nch : ∀ b u, H b = some u → b ∉ ch := fun b u e hb => by rw [(hf b hb).1] at e; cases e
  have up : ∀ b u, H b = some u → upd H s.heap.objs.size o b = some u := fun b u e => by
    have : b ≠ s.heap.objs.size := by rintro rfl; rw [fr] at e; cases e
    rw [upd_ne this]; exact e
  refine I.call (g' := s.gens) (d' := s.drawn) (ch := ch) ⟨fun b u e n _ hx => k b u hx e, fun b u e n _ hx => ⟨u.slots, k b u hx e⟩, fun b u e n hx => ?_, fun b u e hx => ⟨u, k b u hx e⟩, fun b xs e => up b _ e, fun b ob u e => up b _ e, fun b ps e => ⟨#[], by rw [up b _ e]; simp⟩⟩ ?_ I.bare
    fun b hb => ⟨(hf b hb).2.2.2.1, (hf b hb).2.1, (hf b hb).2.2.2.2.1, (hf b hb).2.2.2.2.2⟩
  · have : b ≠ s.heap.objs.size := Nat.ne_of_lt (Heap.lt_size e)
    rw [upd_ne this]; exact n
  · intro b u e
    by_cases hb : b = s.heap.objs.size
    · subst hb; rw [upd_same] at e; cases e; exact new
    · rw [upd_ne hb] at e
      refine (I.hok b u e).stay (fun c v hc q => k c v ?_ q) (fun c q => up c _ q) fun c xs q => up c _ q
      rcases hc with rfl | hc
      · exact nch _ _ e
      · exact nch _ _ hc
end
section
variable {X : Cx} {elts : List Expr} {x1 : Nat} {tp : Pos}
end
end L2
namespace HH
open PySem L2 PySem.Spec PyProof.Rows
section
variable {K : PySem.W.Frag} {F F1 H H1 : Hp} {ρ ρ1 : List Sl} {σ : L2.St} {ds : List D} {a : Addr}
theorem pair_new {F' H' : Hp} {T : Addr} {v w : V} {d1 d2 : D} (sm : Same F' H') (hT : H' T = none) (r1 : Rep K F' v d1) (r2 : Rep K F' w d2) : ∃ F'', Ext F' H' F'' (upd H' T (.tup [v, w])) ∧ Rep K F'' (.ref T) (.tup [d1, d2]) :=
  newT (Q := fun v H'' => ∃ F'', Ext F' H' F'' H'' ∧ Rep K F'' v (.tup [d1, d2])) sm (.cons r1 (.cons r2 .nil)) hT fun v F'' H'' x rn => ⟨F'', x, rn⟩
end
section
variable {X : Cx} {c : Call} {e a : Expr} {pa : P} {pos : Pos} {elts : List Expr} {x1 : Nat} {tp : Pos}
end
end HH
end
section
set_option linter.all false
set_option Elab.async false
set_option maxRecDepth 100000
namespace PySem
structure Nx (prog : Program) (w : World) (A : Around) (it src : Addr) (Sx : Nat → Heap → Prop) (get : Nat → Option Value) : Prop where
  obj : ∀ k h, Sx k h → ∃ o, h.get? it = some o ∧ ∀ v, o.data ≠ .cell v
  keep : ∀ k h h', Sx k h → (∀ o, h.get? it = some o → h'.get? it = some o) → (∀ o, h.get? src = some o → h'.get? src = some o) → Sx k h'
  item : ∀ k (s : Shared) (Q : Value → Shared → Prop) (E : Value → Shared → Prop) x, Sx k s.heap → get k = some x → (∀ h', Sx (k + 1) h' → Heap.SameBut it s.heap h' → Q x { s with heap := h' }) → wpAny (model prog w) A (Builtin.SmallTypes.nextOf (.ref it)) Q E s
  fin : ∀ k (s : Shared) (Q : Value → Shared → Prop) (E : Value → Shared → Prop), Sx k s.heap → get k = none →
    (∀ h' e, Heap.ExtBut it s.heap h' → (∃ o, h'.get? e = some o ∧ o.cls = .type "StopIteration") → E (.ref e) { s with heap := h' }) → wpAny (model prog w) A (Builtin.SmallTypes.nextOf (.ref it)) Q E s
section
variable {prog : Program} {w : World} {A : Around} {E : Value → Shared → Prop} {s : Shared}
theorem Nx.list (hh : A.handled = none) (it l : Addr) (hne : l ≠ it) (items : Array Value) : Nx prog w A it l (fun k h => h.IsListIter it l k ∧ h.IsList l items) (fun k => items[k]?) where
  obj := fun k h st => let ⟨o, h1, _, h3⟩ := st.1; ⟨o, h1, fun v z => by rw [h3] at z; cases z⟩
  keep := fun k h h' st a b => ⟨(let ⟨o, ho, r⟩ := st.1; ⟨o, a o ho, r⟩), (let ⟨o, ho, r⟩ := st.2; ⟨o, b o ho, r⟩)⟩
  item := fun k s Q E x st hx hQ => wpAny_nextOf_list_item st.1 st.2 hx fun h' hit hs => hQ h' ⟨hit, (let ⟨o, ho, r⟩ := st.2; ⟨o, hs.extBut l o hne ho, r⟩)⟩ hs
  fin := fun k s Q E st hx hE => wpAny_nextOf_list_end hh st.1 st.2 hx hE
theorem Nx.tuple (hh : A.handled = none) (it l : Addr) (hne : l ≠ it) (items : Array Value) : Nx prog w A it l (fun k h => h.IsTupleIter it l k ∧ h.IsTuple l items) (fun k => items[k]?) where
  obj := fun k h st => let ⟨o, h1, _, h3⟩ := st.1; ⟨o, h1, fun v z => by rw [h3] at z; cases z⟩
  keep := fun k h h' st a b => ⟨(let ⟨o, ho, r⟩ := st.1; ⟨o, a o ho, r⟩), (let ⟨o, ho, r⟩ := st.2; ⟨o, b o ho, r⟩)⟩
  item := fun k s Q E x st hx hQ => nextOf_tuple_item st.1 st.2 hx fun h' hit hs => hQ h' ⟨hit, (let ⟨o, ho, r⟩ := st.2; ⟨o, hs.extBut l o hne ho, r⟩)⟩ hs
  fin := fun k s Q E st hx hE => nextOf_tuple_end hh st.1 st.2 hx hE
variable {z TI TO i1 i2 l1 l2 : Addr} {k : Nat} {S1 S2 : Nat → Heap → Prop} {g1 g2 : Nat → Option Value} {a b : Value}
theorem zipN_item {x y : Value} {Q : Value → Shared → Prop} (D : ZipApart z TI TO i1 i2 l1 l2) (N1 : Nx prog w A i1 l1 S1 g1) (N2 : Nx prog w A i2 l2 S2 g2)
    (hz : IsZip s.heap z TI TO .none) (hTI : IsPair s.heap TI (.ref i1) (.ref i2)) (hTO : IsPair s.heap TO a b) (h1 : S1 k s.heap) (h2 : S2 k s.heap) (hx : g1 k = some x) (hy : g2 k = some y)
    (hQ : ∀ h', IsZip h' z TI TO (rawInt s.heap.objs.size) → IsPair h' TO x y → S1 (k + 1) h' → S2 (k + 1) h' → IsPair h' s.heap.objs.size x y → h'.objs.size = s.heap.objs.size + 1 →
      (∀ c o, c ≠ z → c ≠ TO → c ≠ i1 → c ≠ i2 → s.heap.get? c = some o → h'.get? c = some o) → Q (.ref s.heap.objs.size) { s with heap := h' }) :
    wpAny (model prog w) A (Builtin.«zip.__next__» ⟨[.ref z], []⟩) (fun fin s' => ∃ v, fin = .done (.ret v) ∧ Q v s') E s := by
  show wpAny _ _ (field (.ref z) 2 >>= _) _ _ _
  refine wpAny_bind (wpAny_field hz rfl (x := .bool false) rfl ?_)
  show wpAny _ _ (field (.ref z) 3 >>= _) _ _ _
  refine wpAny_bind (wpAny_field hz rfl (x := .ref TI) rfl (wpAny_bind (wpAny_seqItems hTI rfl ?_)))
  show wpAny _ _ (Builtin.SmallTypes.ownedTupleIsFree (.ref z) >>= _) _ _ _
  refine wpAny_bind ?_
  unfold Builtin.SmallTypes.ownedTupleIsFree
  refine wpAny_bind (wpAny_field hz rfl (x := .none) rfl (wpAny_pure ?_))
  simp only [if_true]
  refine wpAny_bind (wpAny_rule (wpAny_bind (wpAny_field hz rfl (x := .ref TO) rfl (wpAny_bind (wpAny_setField_rec hz (by simp) fun t1 z1 sb1 => ?_)))))
  have z1 : IsZip t1 z TI TO .ellipsis := z1
  refine wpAny_bind ?_
  simp only [List.zipIdx_cons, List.zipIdx_nil, List.forIn_cons, List.forIn_nil]
  refine wpAny_bind (wpAny_bind (wpAny_onRaise ?_))
  show wpAny _ _ (Builtin.SmallTypes.nextOf (.ref i1) >>= _) _ _ _
  have q1 : S1 k t1 := N1.keep _ _ _ h1 (fun o e => sb1.extBut _ _ D.i1z e) fun o e => sb1.extBut _ _ D.l1z e
  refine wpAny_bind (N1.item k _ _ _ x q1 hx fun t2 q2 sb2 => wpAny_pure ?_)
  have p2 : IsPair t2 TO a b := sb2.extBut _ _ D.TOi1 (sb1.extBut _ _ D.TOz hTO)
  refine wpAny_bind (wpAny_seqItems p2 rfl (wpAny_bind (wpAny_updateSeq_pair p2 fun t3 p3 sb3 => ?_)))
  have p3 : IsPair t3 TO x b := p3
  refine wpAny_bind (wpAny_letGo (wpAny_pure (wpAny_bind (wpAny_bind (wpAny_onRaise ?_)))))
  show wpAny _ _ (Builtin.SmallTypes.nextOf (.ref i2) >>= _) _ _ _
  have w3 : S2 k t3 := N2.keep _ _ _ h2 (fun o e => sb3.extBut _ _ D.TOi2.symm (sb2.extBut _ _ D.i12.symm (sb1.extBut _ _ D.i2z e))) fun o e => sb3.extBut _ _ D.l2TO (sb2.extBut _ _ D.l2i1 (sb1.extBut _ _ D.l2z e))
  refine wpAny_bind (N2.item k _ _ _ y w3 hy fun t4 w4 sb4 => wpAny_pure ?_)
  have p4 : IsPair t4 TO x b := sb4.extBut _ _ D.TOi2 p3
  refine wpAny_bind (wpAny_seqItems p4 rfl (wpAny_bind (wpAny_updateSeq_pair p4 fun t5 p5 sb5 => ?_)))
  have p5 : IsPair t5 TO x y := p5
  refine wpAny_bind (wpAny_letGo (wpAny_pure (wpAny_pure (wpAny_bind (wpAny_seqItems p5 rfl (wpAny_bind (wpAny_newTuple ?_)))))))
  have hsz : t5.objs.size = s.heap.objs.size := by rw [sb5.1, sb4.1, sb3.1, sb2.1, sb1.1]
  have z5 : IsZip t5 z TI TO .ellipsis := sb5.extBut _ _ D.TOz.symm (sb4.extBut _ _ D.i2z.symm (sb3.extBut _ _ D.TOz.symm (sb2.extBut _ _ D.i1z.symm z1)))
  have kp : ∀ c o, c ≠ z → c ≠ TO → c ≠ i1 → c ≠ i2 → s.heap.get? c = some o → t5.get? c = some o := fun c o c1 c2 c3 c4 e =>
    sb5.extBut _ _ c2 (sb4.extBut _ _ c4 (sb3.extBut _ _ c2 (sb2.extBut _ _ c3 (sb1.extBut _ _ c1 e))))
  have q5 : S1 (k + 1) t5 := N1.keep _ _ _ q2 (fun o e => sb5.extBut _ _ D.TOi1.symm (sb4.extBut _ _ D.i12 (sb3.extBut _ _ D.TOi1.symm e))) fun o e => sb5.extBut _ _ D.l1TO (sb4.extBut _ _ D.l1i2 (sb3.extBut _ _ D.l1TO e))
  have w5 : S2 (k + 1) t5 := N2.keep _ _ _ w4 (fun o e => sb5.extBut _ _ D.TOi2.symm e) fun o e => sb5.extBut _ _ D.l2TO e
  have zlt : z < t5.objs.size := Heap.lt_size z5
  show wpAny _ _ (Builtin.SmallTypes.ownedTupleHandOut (.ref z) (.ref t5.objs.size) >>= _) _ _ _
  refine wpAny_bind ?_
  unfold Builtin.SmallTypes.ownedTupleHandOut
  have z6 : IsZip (t5.push { cls := .type "tuple", data := .seq #[x, y] }) z TI TO .ellipsis := Heap.get?_push_of_some _ z5
  refine wpAny_bind (wpAny_setField_rec z6 (by simp) fun t7 z7 sb7 => ?_)
  have z7 : IsZip t7 z TI TO (rawInt t5.objs.size) := z7
  refine wpAny_setField_rec z7 (by simp) fun t8 z8 sb8 => ?_
  have z8 : IsZip t8 z TI TO (rawInt t5.objs.size) := z8
  have up : ∀ c o, c ≠ z → t5.get? c = some o → t8.get? c = some o := fun c o c1 e => sb8.extBut _ _ c1 (sb7.extBut _ _ c1 (Heap.get?_push_of_some _ e))
  have T8 : IsPair t8 t5.objs.size x y := sb8.extBut _ _ (Nat.ne_of_gt zlt) (sb7.extBut _ _ (Nat.ne_of_gt zlt) (Heap.get?_push_size _ rfl))
  have n8 : t8.objs.size = t5.objs.size + 1 := by rw [sb8.1, sb7.1, Heap.size_push]
  rw [hsz] at z8 T8 n8
  refine wpAny_pure ⟨_, rfl, ?_⟩
  show Q (.ref t5.objs.size) _
  rw [hsz]
  exact hQ t8 z8 (up _ _ D.TOz p5) (N1.keep _ _ _ q5 (fun o e => up _ o D.i1z e) fun o e => up _ o D.l1z e) (N2.keep _ _ _ w5 (fun o e => up _ o D.i2z e) fun o e => up _ o D.l2z e) T8 n8 fun c o c1 c2 c3 c4 e => up c o c1 (kp c o c1 c2 c3 c4 e)
theorem zipN_end {Q : Fin → Shared → Prop} (D : ZipApart z TI TO i1 i2 l1 l2) (N1 : Nx prog w A i1 l1 S1 g1) (N2 : Nx prog w A i2 l2 S2 g2)
    (hz : IsZip s.heap z TI TO .none) (hTI : IsPair s.heap TI (.ref i1) (.ref i2)) (hTO : IsPair s.heap TO a b) (h1 : S1 k s.heap) (h2 : S2 k s.heap) (hend : g1 k = none ∨ g2 k = none)
    (hE : ∀ h' e, (∀ c o, c ≠ z → c ≠ TO → c ≠ i1 → c ≠ i2 → s.heap.get? c = some o → h'.get? c = some o) → (∃ o, h'.get? e = some o ∧ o.cls = .type "StopIteration") → E (.ref e) { s with heap := h' }) :
    wpAny (model prog w) A (Builtin.«zip.__next__» ⟨[.ref z], []⟩) Q E s := by
  show wpAny _ _ (field (.ref z) 2 >>= _) _ _ _
  refine wpAny_bind (wpAny_field hz rfl (x := .bool false) rfl ?_)
  show wpAny _ _ (field (.ref z) 3 >>= _) _ _ _
  refine wpAny_bind (wpAny_field hz rfl (x := .ref TI) rfl (wpAny_bind (wpAny_seqItems hTI rfl ?_)))
  show wpAny _ _ (Builtin.SmallTypes.ownedTupleIsFree (.ref z) >>= _) _ _ _
  refine wpAny_bind ?_
  unfold Builtin.SmallTypes.ownedTupleIsFree
  refine wpAny_bind (wpAny_field hz rfl (x := .none) rfl (wpAny_pure ?_))
  simp only [if_true]
  refine wpAny_bind (wpAny_rule (wpAny_bind (wpAny_field hz rfl (x := .ref TO) rfl (wpAny_bind (wpAny_setField_rec hz (by simp) fun t1 z1 sb1 => ?_)))))
  have z1 : IsZip t1 z TI TO .ellipsis := z1
  refine wpAny_bind ?_
  simp only [List.zipIdx_cons, List.zipIdx_nil, List.forIn_cons, List.forIn_nil]
  refine wpAny_bind (wpAny_bind (wpAny_onRaise ?_))
  show wpAny _ _ (Builtin.SmallTypes.nextOf (.ref i1) >>= _) _ _ _
  have q1 : S1 k t1 := N1.keep _ _ _ h1 (fun o e => sb1.extBut _ _ D.i1z e) fun o e => sb1.extBut _ _ D.l1z e
  cases hx : g1 k with
  | none =>
    refine wpAny_bind (N1.fin k _ _ _ q1 hx fun t2 e sb2 he => ?_)
    obtain ⟨oe, hoe, hce⟩ := he
    have z2 : IsZip t2 z TI TO .ellipsis := sb2 _ _ D.i1z.symm z1
    have hez : e ≠ z := fun x => by subst x; rw [z2] at hoe; cases hoe; simp at hce
    exact wpAny_setField_rec z2 (by simp) fun t3 _ sb3 => hE t3 e (fun c o c1 _ c3 _ x => sb3.extBut _ _ c1 (sb2 _ _ c3 (sb1.extBut _ _ c1 x))) ⟨oe, sb3.extBut _ _ hez hoe, hce⟩
  | some x =>
    have hy : g2 k = none := by rcases hend with h | h; rw [hx] at h; cases h; exact h
    refine wpAny_bind (N1.item k _ _ _ x q1 hx fun t2 q2 sb2 => wpAny_pure ?_)
    have p2 : IsPair t2 TO a b := sb2.extBut _ _ D.TOi1 (sb1.extBut _ _ D.TOz hTO)
    refine wpAny_bind (wpAny_seqItems p2 rfl (wpAny_bind (wpAny_updateSeq_pair p2 fun t3 p3 sb3 => ?_)))
    refine wpAny_bind (wpAny_letGo (wpAny_pure (wpAny_bind (wpAny_bind (wpAny_onRaise ?_)))))
    show wpAny _ _ (Builtin.SmallTypes.nextOf (.ref i2) >>= _) _ _ _
    have w3 : S2 k t3 := N2.keep _ _ _ h2 (fun o e => sb3.extBut _ _ D.TOi2.symm (sb2.extBut _ _ D.i12.symm (sb1.extBut _ _ D.i2z e))) fun o e => sb3.extBut _ _ D.l2TO (sb2.extBut _ _ D.l2i1 (sb1.extBut _ _ D.l2z e))
    refine wpAny_bind (N2.fin k _ _ _ w3 hy fun t4 e sb4 he => ?_)
    obtain ⟨oe, hoe, hce⟩ := he
    have z4 : IsZip t4 z TI TO .ellipsis := sb4 _ _ D.i2z.symm (sb3.extBut _ _ D.TOz.symm (sb2.extBut _ _ D.i1z.symm z1))
    have hez : e ≠ z := fun x => by subst x; rw [z4] at hoe; cases hoe; simp at hce
    exact wpAny_setField_rec z4 (by simp) fun t5 _ sb5 => hE t5 e (fun c o c1 c2 c3 c4 x => sb5.extBut _ _ c1 (sb4 _ _ c4 (sb3.extBut _ _ c2 (sb2.extBut _ _ c3 (sb1.extBut _ _ c1 x))))) ⟨oe, sb5.extBut _ _ hez hoe, hce⟩
theorem pyNext_zipN_item {x y : Value} {Q : Option Value → Shared → Prop} (D : ZipApart z TI TO i1 i2 l1 l2) (N1 : Nx prog w A.in1 i1 l1 S1 g1) (N2 : Nx prog w A.in1 i2 l2 S2 g2)
    (hz : IsZip s.heap z TI TO .none) (hTI : IsPair s.heap TI (.ref i1) (.ref i2)) (hTO : IsPair s.heap TO a b) (h1 : S1 k s.heap) (h2 : S2 k s.heap) (hx : g1 k = some x) (hy : g2 k = some y)
    (hQ : ∀ h', IsZip h' z TI TO (rawInt s.heap.objs.size) → IsPair h' TO x y → S1 (k + 1) h' → S2 (k + 1) h' → IsPair h' s.heap.objs.size x y → h'.objs.size = s.heap.objs.size + 1 →
      (∀ c o, c ≠ z → c ≠ TO → c ≠ i1 → c ≠ i2 → s.heap.get? c = some o → h'.get? c = some o) → Q (some (.ref s.heap.objs.size)) { s with heap := h' }) : wpAny (model prog w) A (pyNext (.ref z)) Q E s := by
  have hT : s.TypeIs (.ref z) "zip" := ⟨_, hz, rfl⟩
  unfold pyNext
  exact wpAny_bind (wpAny_attempt (wpAny_callSpecial?_slot (name := Str.ofString "__next__") hT F.slot_zip_next
    (wpAny_call_entry F.slot_zip_next hT F.entry_zip_next (zipN_item D N1 N2 hz hTI hTO h1 h2 hx hy fun h' a1 a2 a3 a4 a5 a6 a7 => wpAny_pure (hQ h' a1 a2 a3 a4 a5 a6 a7)) (F.args_zip_next_1 _))))
theorem pyNext_zipN_end {Q : Option Value → Shared → Prop} (D : ZipApart z TI TO i1 i2 l1 l2) (N1 : Nx prog w A.in1 i1 l1 S1 g1) (N2 : Nx prog w A.in1 i2 l2 S2 g2)
    (hz : IsZip s.heap z TI TO .none) (hTI : IsPair s.heap TI (.ref i1) (.ref i2)) (hTO : IsPair s.heap TO a b) (h1 : S1 k s.heap) (h2 : S2 k s.heap) (hend : g1 k = none ∨ g2 k = none)
    (hQ : ∀ h', (∀ c o, c ≠ z → c ≠ TO → c ≠ i1 → c ≠ i2 → s.heap.get? c = some o → h'.get? c = some o) → Q none { s with heap := h' }) : wpAny (model prog w) A (pyNext (.ref z)) Q E s := by
  have hT : s.TypeIs (.ref z) "zip" := ⟨_, hz, rfl⟩
  unfold pyNext
  refine wpAny_bind (wpAny_attempt (wpAny_callSpecial?_slot (name := Str.ofString "__next__") hT F.slot_zip_next
    (wpAny_call_entry F.slot_zip_next hT F.entry_zip_next (zipN_end D N1 N2 hz hTI hTO h1 h2 hend fun h' e hk he => ?_) (F.args_zip_next_1 _))))
  obtain ⟨o, ho, hc⟩ := he
  exact wpAny_bind (wpAny_isInstance (T := "StopIteration") (b := true) ⟨o, ho, hc⟩ isSubtype_stop (wpAny_pure (hQ _ hk)))
end
theorem meets_zip_newLL (l1 l2 : Addr) (xs ys : Array Value) :
    Meets (Builtin.«zip.__new__» ⟨[.type "zip", .ref l1, .ref l2], []⟩) (fun _ R s => s.heap.IsList l1 xs ∧ s.heap.IsList l2 ys ∧
      R (.ok (.ret (.ref (s.heap.objs.size + 4)))) { s with heap := ((((s.heap.push { cls := .type "list_iterator", data := .fields #[.ref l1, .int 0 0] }).push { cls := .type "list_iterator", data := .fields #[.ref l2, .int 0 0] }).push { cls := .type "tuple", data := .seq #[.ref s.heap.objs.size, .ref (s.heap.objs.size + 1)] }).push { cls := .type "tuple", data := .seq #[.none, .none] }).push { cls := .type "zip", data := .fields #[.none, .bool false, .bool false, .ref (s.heap.objs.size + 2), .ref (s.heap.objs.size + 3)] } }) :=
  .of_wp fun prog w A R s h => by
    obtain ⟨hp, g, d, tk, os⟩ := s; obtain ⟨hl1, hl2, h⟩ := h
    have hsub := sub_zip
    have hL1 : Heap.IsList (Shared.heap ⟨hp, g, d, tk, os⟩) l1 xs := hl1
    have hL2 : Heap.IsList (Shared.heap ⟨hp.push { cls := .type "list_iterator", data := .fields #[.ref l1, .int 0 0] }, g, d, tk, os⟩) l2 ys := Heap.IsList.push hl2 _
    wp_walk using wpAny_pyIter_list hL1, wpAny_pyIter_list hL2
    simp only [Heap.size_push] at *
    exact ⟨_, rfl, h⟩
section
variable {prog : Program} {w : World} {A : Around} {E : Value → Shared → Prop} {s : Shared}
theorem call_zipLL {l1 l2 : Addr} {xs ys : Array Value} {Q : Value → Shared → Prop} (hl1 : s.heap.IsList l1 xs) (hl2 : s.heap.IsList l2 ys)
    (h : ∀ h', IsZip h' (s.heap.objs.size + 4) (s.heap.objs.size + 2) (s.heap.objs.size + 3) .none → IsPair h' (s.heap.objs.size + 2) (.ref s.heap.objs.size) (.ref (s.heap.objs.size + 1)) →
      IsPair h' (s.heap.objs.size + 3) .none .none → h'.IsListIter s.heap.objs.size l1 0 → h'.IsListIter (s.heap.objs.size + 1) l2 0 → (∀ c o, s.heap.get? c = some o → h'.get? c = some o) → Q (.ref (s.heap.objs.size + 4)) { s with heap := h' }) :
    wpAny (model prog w) A (call (.type "zip") [.ref l1, .ref l2]) Q E s := by
  refine callType_new F.called_zip (by decide) (F.typeCall_zip_2 _ _) (F.newCall_zip_2 _ _) (fun obj => F.args_object_init_3 obj _ _) F.entry_zip_new (meets_zip_newLL l1 l2 xs ys) ⟨hl1, hl2, ?_⟩
  generalize e1 : s.heap.push { cls := .type "list_iterator", data := .fields #[.ref l1, .int 0 0] } = t1
  have n1 : t1.objs.size = s.heap.objs.size + 1 := by rw [← e1, Heap.size_push]
  have a1 : t1.get? s.heap.objs.size = some { cls := .type "list_iterator", data := .fields #[.ref l1, .int 0 0] } := by rw [← e1]; exact Heap.get?_push_size _ rfl
  have k1 : ∀ c o, s.heap.get? c = some o → t1.get? c = some o := fun c o e => by rw [← e1]; exact Heap.get?_push_of_some _ e
  generalize e2 : t1.push { cls := .type "list_iterator", data := .fields #[.ref l2, .int 0 0] } = t2
  have n2 : t2.objs.size = s.heap.objs.size + 2 := by rw [← e2, Heap.size_push, n1]
  have a2 : t2.get? (s.heap.objs.size + 1) = some { cls := .type "list_iterator", data := .fields #[.ref l2, .int 0 0] } := by rw [← n1, ← e2]; exact Heap.get?_push_size _ rfl
  have k2 : ∀ c o, t1.get? c = some o → t2.get? c = some o := fun c o e => by rw [← e2]; exact Heap.get?_push_of_some _ e
  generalize e3 : t2.push { cls := .type "tuple", data := .seq #[.ref s.heap.objs.size, .ref (s.heap.objs.size + 1)] } = t3
  have n3 : t3.objs.size = s.heap.objs.size + 3 := by rw [← e3, Heap.size_push, n2]
  have a3 : t3.get? (s.heap.objs.size + 2) = some { cls := .type "tuple", data := .seq #[.ref s.heap.objs.size, .ref (s.heap.objs.size + 1)] } := by rw [← n2, ← e3]; exact Heap.get?_push_size _ rfl
  have k3 : ∀ c o, t2.get? c = some o → t3.get? c = some o := fun c o e => by rw [← e3]; exact Heap.get?_push_of_some _ e
  generalize e4 : t3.push { cls := .type "tuple", data := .seq #[.none, .none] } = t4
  have n4 : t4.objs.size = s.heap.objs.size + 4 := by rw [← e4, Heap.size_push, n3]
  have a4 : t4.get? (s.heap.objs.size + 3) = some { cls := .type "tuple", data := .seq #[.none, .none] } := by rw [← n3, ← e4]; exact Heap.get?_push_size _ rfl
  have k4 : ∀ c o, t3.get? c = some o → t4.get? c = some o := fun c o e => by rw [← e4]; exact Heap.get?_push_of_some _ e
  generalize e5 : t4.push { cls := .type "zip", data := .fields #[.none, .bool false, .bool false, .ref (s.heap.objs.size + 2), .ref (s.heap.objs.size + 3)] } = t5
  have a5 : t5.get? (s.heap.objs.size + 4) = some { cls := .type "zip", data := .fields #[.none, .bool false, .bool false, .ref (s.heap.objs.size + 2), .ref (s.heap.objs.size + 3)] } := by rw [← n4, ← e5]; exact Heap.get?_push_size _ rfl
  have k5 : ∀ c o, t4.get? c = some o → t5.get? c = some o := fun c o e => by rw [← e5]; exact Heap.get?_push_of_some _ e
  exact ⟨⟨_, a5, rfl⟩, h t5 a5 (k5 _ _ (k4 _ _ a3)) (k5 _ _ a4) ⟨_, k5 _ _ (k4 _ _ (k3 _ _ (k2 _ _ a1))), rfl, rfl⟩ ⟨_, k5 _ _ (k4 _ _ (k3 _ _ a2)), rfl, rfl⟩ fun c o e => k5 _ _ (k4 _ _ (k3 _ _ (k2 _ _ (k1 _ _ e))))⟩
end
theorem meets_zip_newLT (l1 l2 : Addr) (xs ys : Array Value) :
    Meets (Builtin.«zip.__new__» ⟨[.type "zip", .ref l1, .ref l2], []⟩) (fun _ R s => s.heap.IsList l1 xs ∧ s.heap.IsTuple l2 ys ∧
      R (.ok (.ret (.ref (s.heap.objs.size + 4)))) { s with heap := ((((s.heap.push { cls := .type "list_iterator", data := .fields #[.ref l1, .int 0 0] }).push { cls := .type "tuple_iterator", data := .fields #[.ref l2, .int 0 0] }).push { cls := .type "tuple", data := .seq #[.ref s.heap.objs.size, .ref (s.heap.objs.size + 1)] }).push { cls := .type "tuple", data := .seq #[.none, .none] }).push { cls := .type "zip", data := .fields #[.none, .bool false, .bool false, .ref (s.heap.objs.size + 2), .ref (s.heap.objs.size + 3)] } }) :=
  .of_wp fun prog w A R s h => by
    obtain ⟨hp, g, d, tk, os⟩ := s; obtain ⟨hl1, hl2, h⟩ := h
    have hsub := sub_zip
    have hL1 : Heap.IsList (Shared.heap ⟨hp, g, d, tk, os⟩) l1 xs := hl1
    have hL2 : Heap.IsTuple (Shared.heap ⟨hp.push { cls := .type "list_iterator", data := .fields #[.ref l1, .int 0 0] }, g, d, tk, os⟩) l2 ys := Heap.IsTuple.push hl2 _
    wp_walk using wpAny_pyIter_list hL1, wpAny_pyIter_tuple hL2
    simp only [Heap.size_push] at *
    exact ⟨_, rfl, h⟩
section
variable {prog : Program} {w : World} {A : Around} {E : Value → Shared → Prop} {s : Shared}
theorem call_zipLT {l1 l2 : Addr} {xs ys : Array Value} {Q : Value → Shared → Prop} (hl1 : s.heap.IsList l1 xs) (hl2 : s.heap.IsTuple l2 ys)
    (h : ∀ h', IsZip h' (s.heap.objs.size + 4) (s.heap.objs.size + 2) (s.heap.objs.size + 3) .none → IsPair h' (s.heap.objs.size + 2) (.ref s.heap.objs.size) (.ref (s.heap.objs.size + 1)) →
      IsPair h' (s.heap.objs.size + 3) .none .none → h'.IsListIter s.heap.objs.size l1 0 → h'.IsTupleIter (s.heap.objs.size + 1) l2 0 → (∀ c o, s.heap.get? c = some o → h'.get? c = some o) → Q (.ref (s.heap.objs.size + 4)) { s with heap := h' }) :
    wpAny (model prog w) A (call (.type "zip") [.ref l1, .ref l2]) Q E s := by
  refine callType_new F.called_zip (by decide) (F.typeCall_zip_2 _ _) (F.newCall_zip_2 _ _) (fun obj => F.args_object_init_3 obj _ _) F.entry_zip_new (meets_zip_newLT l1 l2 xs ys) ⟨hl1, hl2, ?_⟩
  generalize e1 : s.heap.push { cls := .type "list_iterator", data := .fields #[.ref l1, .int 0 0] } = t1
  have n1 : t1.objs.size = s.heap.objs.size + 1 := by rw [← e1, Heap.size_push]
  have a1 : t1.get? s.heap.objs.size = some { cls := .type "list_iterator", data := .fields #[.ref l1, .int 0 0] } := by rw [← e1]; exact Heap.get?_push_size _ rfl
  have k1 : ∀ c o, s.heap.get? c = some o → t1.get? c = some o := fun c o e => by rw [← e1]; exact Heap.get?_push_of_some _ e
  generalize e2 : t1.push { cls := .type "tuple_iterator", data := .fields #[.ref l2, .int 0 0] } = t2
  have n2 : t2.objs.size = s.heap.objs.size + 2 := by rw [← e2, Heap.size_push, n1]
  have a2 : t2.get? (s.heap.objs.size + 1) = some { cls := .type "tuple_iterator", data := .fields #[.ref l2, .int 0 0] } := by rw [← n1, ← e2]; exact Heap.get?_push_size _ rfl
  have k2 : ∀ c o, t1.get? c = some o → t2.get? c = some o := fun c o e => by rw [← e2]; exact Heap.get?_push_of_some _ e
  generalize e3 : t2.push { cls := .type "tuple", data := .seq #[.ref s.heap.objs.size, .ref (s.heap.objs.size + 1)] } = t3
  have n3 : t3.objs.size = s.heap.objs.size + 3 := by rw [← e3, Heap.size_push, n2]
  have a3 : t3.get? (s.heap.objs.size + 2) = some { cls := .type "tuple", data := .seq #[.ref s.heap.objs.size, .ref (s.heap.objs.size + 1)] } := by rw [← n2, ← e3]; exact Heap.get?_push_size _ rfl
  have k3 : ∀ c o, t2.get? c = some o → t3.get? c = some o := fun c o e => by rw [← e3]; exact Heap.get?_push_of_some _ e
  generalize e4 : t3.push { cls := .type "tuple", data := .seq #[.none, .none] } = t4
  have n4 : t4.objs.size = s.heap.objs.size + 4 := by rw [← e4, Heap.size_push, n3]
  have a4 : t4.get? (s.heap.objs.size + 3) = some { cls := .type "tuple", data := .seq #[.none, .none] } := by rw [← n3, ← e4]; exact Heap.get?_push_size _ rfl
  have k4 : ∀ c o, t3.get? c = some o → t4.get? c = some o := fun c o e => by rw [← e4]; exact Heap.get?_push_of_some _ e
  generalize e5 : t4.push { cls := .type "zip", data := .fields #[.none, .bool false, .bool false, .ref (s.heap.objs.size + 2), .ref (s.heap.objs.size + 3)] } = t5
  have a5 : t5.get? (s.heap.objs.size + 4) = some { cls := .type "zip", data := .fields #[.none, .bool false, .bool false, .ref (s.heap.objs.size + 2), .ref (s.heap.objs.size + 3)] } := by rw [← n4, ← e5]; exact Heap.get?_push_size _ rfl
  have k5 : ∀ c o, t4.get? c = some o → t5.get? c = some o := fun c o e => by rw [← e5]; exact Heap.get?_push_of_some _ e
  exact ⟨⟨_, a5, rfl⟩, h t5 a5 (k5 _ _ (k4 _ _ a3)) (k5 _ _ a4) ⟨_, k5 _ _ (k4 _ _ (k3 _ _ (k2 _ _ a1))), rfl, rfl⟩ ⟨_, k5 _ _ (k4 _ _ (k3 _ _ a2)), rfl, rfl⟩ fun c o e => k5 _ _ (k4 _ _ (k3 _ _ (k2 _ _ (k1 _ _ e))))⟩
end
theorem meets_zip_newTL (l1 l2 : Addr) (xs ys : Array Value) :
    Meets (Builtin.«zip.__new__» ⟨[.type "zip", .ref l1, .ref l2], []⟩) (fun _ R s => s.heap.IsTuple l1 xs ∧ s.heap.IsList l2 ys ∧
      R (.ok (.ret (.ref (s.heap.objs.size + 4)))) { s with heap := ((((s.heap.push { cls := .type "tuple_iterator", data := .fields #[.ref l1, .int 0 0] }).push { cls := .type "list_iterator", data := .fields #[.ref l2, .int 0 0] }).push { cls := .type "tuple", data := .seq #[.ref s.heap.objs.size, .ref (s.heap.objs.size + 1)] }).push { cls := .type "tuple", data := .seq #[.none, .none] }).push { cls := .type "zip", data := .fields #[.none, .bool false, .bool false, .ref (s.heap.objs.size + 2), .ref (s.heap.objs.size + 3)] } }) :=
  .of_wp fun prog w A R s h => by
    obtain ⟨hp, g, d, tk, os⟩ := s; obtain ⟨hl1, hl2, h⟩ := h
    have hsub := sub_zip
    have hL1 : Heap.IsTuple (Shared.heap ⟨hp, g, d, tk, os⟩) l1 xs := hl1
    have hL2 : Heap.IsList (Shared.heap ⟨hp.push { cls := .type "tuple_iterator", data := .fields #[.ref l1, .int 0 0] }, g, d, tk, os⟩) l2 ys := Heap.IsList.push hl2 _
    wp_walk using wpAny_pyIter_tuple hL1, wpAny_pyIter_list hL2
    simp only [Heap.size_push] at *
    exact ⟨_, rfl, h⟩
section
variable {prog : Program} {w : World} {A : Around} {E : Value → Shared → Prop} {s : Shared}
theorem call_zipTL {l1 l2 : Addr} {xs ys : Array Value} {Q : Value → Shared → Prop} (hl1 : s.heap.IsTuple l1 xs) (hl2 : s.heap.IsList l2 ys)
    (h : ∀ h', IsZip h' (s.heap.objs.size + 4) (s.heap.objs.size + 2) (s.heap.objs.size + 3) .none → IsPair h' (s.heap.objs.size + 2) (.ref s.heap.objs.size) (.ref (s.heap.objs.size + 1)) →
      IsPair h' (s.heap.objs.size + 3) .none .none → h'.IsTupleIter s.heap.objs.size l1 0 → h'.IsListIter (s.heap.objs.size + 1) l2 0 → (∀ c o, s.heap.get? c = some o → h'.get? c = some o) → Q (.ref (s.heap.objs.size + 4)) { s with heap := h' }) :
    wpAny (model prog w) A (call (.type "zip") [.ref l1, .ref l2]) Q E s := by
  refine callType_new F.called_zip (by decide) (F.typeCall_zip_2 _ _) (F.newCall_zip_2 _ _) (fun obj => F.args_object_init_3 obj _ _) F.entry_zip_new (meets_zip_newTL l1 l2 xs ys) ⟨hl1, hl2, ?_⟩
  generalize e1 : s.heap.push { cls := .type "tuple_iterator", data := .fields #[.ref l1, .int 0 0] } = t1
  have n1 : t1.objs.size = s.heap.objs.size + 1 := by rw [← e1, Heap.size_push]
  have a1 : t1.get? s.heap.objs.size = some { cls := .type "tuple_iterator", data := .fields #[.ref l1, .int 0 0] } := by rw [← e1]; exact Heap.get?_push_size _ rfl
  have k1 : ∀ c o, s.heap.get? c = some o → t1.get? c = some o := fun c o e => by rw [← e1]; exact Heap.get?_push_of_some _ e
  generalize e2 : t1.push { cls := .type "list_iterator", data := .fields #[.ref l2, .int 0 0] } = t2
  have n2 : t2.objs.size = s.heap.objs.size + 2 := by rw [← e2, Heap.size_push, n1]
  have a2 : t2.get? (s.heap.objs.size + 1) = some { cls := .type "list_iterator", data := .fields #[.ref l2, .int 0 0] } := by rw [← n1, ← e2]; exact Heap.get?_push_size _ rfl
  have k2 : ∀ c o, t1.get? c = some o → t2.get? c = some o := fun c o e => by rw [← e2]; exact Heap.get?_push_of_some _ e
  generalize e3 : t2.push { cls := .type "tuple", data := .seq #[.ref s.heap.objs.size, .ref (s.heap.objs.size + 1)] } = t3
  have n3 : t3.objs.size = s.heap.objs.size + 3 := by rw [← e3, Heap.size_push, n2]
  have a3 : t3.get? (s.heap.objs.size + 2) = some { cls := .type "tuple", data := .seq #[.ref s.heap.objs.size, .ref (s.heap.objs.size + 1)] } := by rw [← n2, ← e3]; exact Heap.get?_push_size _ rfl
  have k3 : ∀ c o, t2.get? c = some o → t3.get? c = some o := fun c o e => by rw [← e3]; exact Heap.get?_push_of_some _ e
  generalize e4 : t3.push { cls := .type "tuple", data := .seq #[.none, .none] } = t4
  have n4 : t4.objs.size = s.heap.objs.size + 4 := by rw [← e4, Heap.size_push, n3]
  have a4 : t4.get? (s.heap.objs.size + 3) = some { cls := .type "tuple", data := .seq #[.none, .none] } := by rw [← n3, ← e4]; exact Heap.get?_push_size _ rfl
  have k4 : ∀ c o, t3.get? c = some o → t4.get? c = some o := fun c o e => by rw [← e4]; exact Heap.get?_push_of_some _ e
  generalize e5 : t4.push { cls := .type "zip", data := .fields #[.none, .bool false, .bool false, .ref (s.heap.objs.size + 2), .ref (s.heap.objs.size + 3)] } = t5
  have a5 : t5.get? (s.heap.objs.size + 4) = some { cls := .type "zip", data := .fields #[.none, .bool false, .bool false, .ref (s.heap.objs.size + 2), .ref (s.heap.objs.size + 3)] } := by rw [← n4, ← e5]; exact Heap.get?_push_size _ rfl
  have k5 : ∀ c o, t4.get? c = some o → t5.get? c = some o := fun c o e => by rw [← e5]; exact Heap.get?_push_of_some _ e
  exact ⟨⟨_, a5, rfl⟩, h t5 a5 (k5 _ _ (k4 _ _ a3)) (k5 _ _ a4) ⟨_, k5 _ _ (k4 _ _ (k3 _ _ (k2 _ _ a1))), rfl, rfl⟩ ⟨_, k5 _ _ (k4 _ _ (k3 _ _ a2)), rfl, rfl⟩ fun c o e => k5 _ _ (k4 _ _ (k3 _ _ (k2 _ _ (k1 _ _ e))))⟩
end
theorem meets_zip_newTT (l1 l2 : Addr) (xs ys : Array Value) :
    Meets (Builtin.«zip.__new__» ⟨[.type "zip", .ref l1, .ref l2], []⟩) (fun _ R s => s.heap.IsTuple l1 xs ∧ s.heap.IsTuple l2 ys ∧
      R (.ok (.ret (.ref (s.heap.objs.size + 4)))) { s with heap := ((((s.heap.push { cls := .type "tuple_iterator", data := .fields #[.ref l1, .int 0 0] }).push { cls := .type "tuple_iterator", data := .fields #[.ref l2, .int 0 0] }).push { cls := .type "tuple", data := .seq #[.ref s.heap.objs.size, .ref (s.heap.objs.size + 1)] }).push { cls := .type "tuple", data := .seq #[.none, .none] }).push { cls := .type "zip", data := .fields #[.none, .bool false, .bool false, .ref (s.heap.objs.size + 2), .ref (s.heap.objs.size + 3)] } }) :=
  .of_wp fun prog w A R s h => by
    obtain ⟨hp, g, d, tk, os⟩ := s; obtain ⟨hl1, hl2, h⟩ := h
    have hsub := sub_zip
    have hL1 : Heap.IsTuple (Shared.heap ⟨hp, g, d, tk, os⟩) l1 xs := hl1
    have hL2 : Heap.IsTuple (Shared.heap ⟨hp.push { cls := .type "tuple_iterator", data := .fields #[.ref l1, .int 0 0] }, g, d, tk, os⟩) l2 ys := Heap.IsTuple.push hl2 _
    wp_walk using wpAny_pyIter_tuple hL1, wpAny_pyIter_tuple hL2
    simp only [Heap.size_push] at *
    exact ⟨_, rfl, h⟩
section
variable {prog : Program} {w : World} {A : Around} {E : Value → Shared → Prop} {s : Shared}
theorem call_zipTT {l1 l2 : Addr} {xs ys : Array Value} {Q : Value → Shared → Prop} (hl1 : s.heap.IsTuple l1 xs) (hl2 : s.heap.IsTuple l2 ys)
    (h : ∀ h', IsZip h' (s.heap.objs.size + 4) (s.heap.objs.size + 2) (s.heap.objs.size + 3) .none → IsPair h' (s.heap.objs.size + 2) (.ref s.heap.objs.size) (.ref (s.heap.objs.size + 1)) →
      IsPair h' (s.heap.objs.size + 3) .none .none → h'.IsTupleIter s.heap.objs.size l1 0 → h'.IsTupleIter (s.heap.objs.size + 1) l2 0 → (∀ c o, s.heap.get? c = some o → h'.get? c = some o) → Q (.ref (s.heap.objs.size + 4)) { s with heap := h' }) :
    wpAny (model prog w) A (call (.type "zip") [.ref l1, .ref l2]) Q E s := by
  refine callType_new F.called_zip (by decide) (F.typeCall_zip_2 _ _) (F.newCall_zip_2 _ _) (fun obj => F.args_object_init_3 obj _ _) F.entry_zip_new (meets_zip_newTT l1 l2 xs ys) ⟨hl1, hl2, ?_⟩
  generalize e1 : s.heap.push { cls := .type "tuple_iterator", data := .fields #[.ref l1, .int 0 0] } = t1
  have n1 : t1.objs.size = s.heap.objs.size + 1 := by rw [← e1, Heap.size_push]
  have a1 : t1.get? s.heap.objs.size = some { cls := .type "tuple_iterator", data := .fields #[.ref l1, .int 0 0] } := by rw [← e1]; exact Heap.get?_push_size _ rfl
  have k1 : ∀ c o, s.heap.get? c = some o → t1.get? c = some o := fun c o e => by rw [← e1]; exact Heap.get?_push_of_some _ e
  generalize e2 : t1.push { cls := .type "tuple_iterator", data := .fields #[.ref l2, .int 0 0] } = t2
  have n2 : t2.objs.size = s.heap.objs.size + 2 := by rw [← e2, Heap.size_push, n1]
  have a2 : t2.get? (s.heap.objs.size + 1) = some { cls := .type "tuple_iterator", data := .fields #[.ref l2, .int 0 0] } := by rw [← n1, ← e2]; exact Heap.get?_push_size _ rfl
  have k2 : ∀ c o, t1.get? c = some o → t2.get? c = some o := fun c o e => by rw [← e2]; exact Heap.get?_push_of_some _ e
  generalize e3 : t2.push { cls := .type "tuple", data := .seq #[.ref s.heap.objs.size, .ref (s.heap.objs.size + 1)] } = t3
  have n3 : t3.objs.size = s.heap.objs.size + 3 := by rw [← e3, Heap.size_push, n2]
  have a3 : t3.get? (s.heap.objs.size + 2) = some { cls := .type "tuple", data := .seq #[.ref s.heap.objs.size, .ref (s.heap.objs.size + 1)] } := by rw [← n2, ← e3]; exact Heap.get?_push_size _ rfl
  have k3 : ∀ c o, t2.get? c = some o → t3.get? c = some o := fun c o e => by rw [← e3]; exact Heap.get?_push_of_some _ e
  generalize e4 : t3.push { cls := .type "tuple", data := .seq #[.none, .none] } = t4
  have n4 : t4.objs.size = s.heap.objs.size + 4 := by rw [← e4, Heap.size_push, n3]
  have a4 : t4.get? (s.heap.objs.size + 3) = some { cls := .type "tuple", data := .seq #[.none, .none] } := by rw [← n3, ← e4]; exact Heap.get?_push_size _ rfl
  have k4 : ∀ c o, t3.get? c = some o → t4.get? c = some o := fun c o e => by rw [← e4]; exact Heap.get?_push_of_some _ e
  generalize e5 : t4.push { cls := .type "zip", data := .fields #[.none, .bool false, .bool false, .ref (s.heap.objs.size + 2), .ref (s.heap.objs.size + 3)] } = t5
  have a5 : t5.get? (s.heap.objs.size + 4) = some { cls := .type "zip", data := .fields #[.none, .bool false, .bool false, .ref (s.heap.objs.size + 2), .ref (s.heap.objs.size + 3)] } := by rw [← n4, ← e5]; exact Heap.get?_push_size _ rfl
  have k5 : ∀ c o, t4.get? c = some o → t5.get? c = some o := fun c o e => by rw [← e5]; exact Heap.get?_push_of_some _ e
  exact ⟨⟨_, a5, rfl⟩, h t5 a5 (k5 _ _ (k4 _ _ a3)) (k5 _ _ a4) ⟨_, k5 _ _ (k4 _ _ (k3 _ _ (k2 _ _ a1))), rfl, rfl⟩ ⟨_, k5 _ _ (k4 _ _ (k3 _ _ a2)), rfl, rfl⟩ fun c o e => k5 _ _ (k4 _ _ (k3 _ _ (k2 _ _ (k1 _ _ e))))⟩
end
end PySem
end
section
set_option linter.all false
set_option Elab.async false
set_option maxRecDepth 100000
namespace L2
open PySem PySem.Spec PyProof.Rows
noncomputable def Sq (t : Bool) (K : PySem.W.Frag) (H : Hp) (a : Addr) (xs : List V) : Prop := if t then SqT K H a xs else SqL K H a xs
noncomputable def IsS (t : Bool) (h : Heap) (a : Addr) (xs : Array Value) : Prop := if t then h.IsTuple a xs else h.IsList a xs
noncomputable def IsI (t : Bool) (h : Heap) (i a : Addr) (k : Nat) : Prop := if t then h.IsTupleIter i a k else h.IsListIter i a k
section
variable {X : Cx} {pins : List (Addr × Obj)} {σ : L2.St} {H : Hp} {s : Shared}
theorem Inv.sq {t : Bool} {a : Addr} {xs : List V} (I : Inv X pins σ H s) (h : Sq t X.K H a xs) : ∃ its : List Value, Vals xs its ∧ IsS t s.heap a its.toArray := by
  cases t with
  | true => obtain ⟨its, rv, pl, _⟩ := I.tuple h; exact ⟨its, rv, pl⟩
  | false => obtain ⟨its, rv, pl, _⟩ := I.list h; exact ⟨its, rv, pl.isList⟩
theorem Inv.sq_inj {t : Bool} {a : Addr} {xs ys : List V} (I : Inv X pins σ H s) (h : Sq t X.K H a xs) (h' : Sq t X.K H a ys) : xs = ys := by
  cases t with
  | true => exact I.tuple_inj h h'
  | false => exact I.list_inj h h'
theorem IsS.lt {t : Bool} {h : Heap} {a : Addr} {xs : Array Value} (q : IsS t h a xs) : a < h.objs.size := by
  cases t with
  | true => obtain ⟨o, e, _⟩ := id q; exact Heap.lt_size e
  | false => obtain ⟨o, e, _⟩ := id q; exact Heap.lt_size e
theorem IsI.obj {t : Bool} {h : Heap} {i a : Addr} {k : Nat} (q : IsI t h i a k) : ∃ o, h.get? i = some o ∧ ∀ v, o.data ≠ .cell v := by
  cases t with
  | true => obtain ⟨o, h2, h3, h4⟩ := id q; exact ⟨o, h2, fun v z => by rw [h4] at z; cases z⟩
  | false => obtain ⟨o, h2, h3, h4⟩ := id q; exact ⟨o, h2, fun v z => by rw [h4] at z; cases z⟩
theorem IsI.keep {t : Bool} {h h' : Heap} {i a : Addr} {k : Nat} (q : IsI t h i a k) (e : ∀ o, h.get? i = some o → h'.get? i = some o) : IsI t h' i a k := by
  cases t with
  | true => obtain ⟨o, h2, r⟩ := id q; exact ⟨o, e o h2, r⟩
  | false => obtain ⟨o, h2, r⟩ := id q; exact ⟨o, e o h2, r⟩
theorem nxOf (t : Bool) {prog : Program} {w : World} {A : Around} (hh : A.handled = none) (it l : Addr) (hne : l ≠ it) (items : Array Value) : Nx prog w A it l (fun k h => IsI t h it l k ∧ IsS t h l items) (fun k => items[k]?) := by
  cases t with
  | true => exact Nx.tuple hh it l hne items
  | false => exact Nx.list hh it l hne items
theorem Inv.turnedCh {ch : List Addr} {h' : Heap} (I : Inv X pins σ H s) (k : ∀ b u, b ∉ ch → s.heap.get? b = some u → h'.get? b = some u) (hf : ∀ b ∈ ch, FpOk X pins H b) :
    Inv X pins σ H { s with heap := h' } := by
  have nch : ∀ b u, H b = some u → b ∉ ch := fun b u e hb => by rw [(hf b hb).1] at e; cases e
  refine I.call (g' := s.gens) (d' := s.drawn) (t' := s.toks) (ch := ch) ⟨fun b u e n _ hx => k b u hx e, fun b u e n _ hx => ⟨u.slots, k b u hx e⟩, fun b u e n hx => n, fun b u e hx => ⟨u, k b u hx e⟩, fun b xs e => e, fun b ob u e => e, fun b ps e => ⟨#[], by rw [e]; simp⟩⟩ ?_ I.bare
    fun b hb => ⟨(hf b hb).2.2.2.1, (hf b hb).2.1, (hf b hb).2.2.2.2.1, (hf b hb).2.2.2.2.2⟩
  intro b u e
  refine (I.hok b u e).stay (fun c v hc q => k c v ?_ q) (fun c q => q) fun c xs q => q
  rcases hc with rfl | hc
  · exact nch _ _ e
  · exact nch _ _ hc
end
noncomputable def Itz (t1 t2 : Bool) (K : PySem.W.Frag) (a b : Addr) : It :=
  ⟨fun i H => ∃ xs ys x y, Sq t1 K H a xs ∧ Sq t2 K H b ys ∧ xs[i]? = some x ∧ ys[i]? = some y,
   fun i H x H' => ∃ T v w, H T = none ∧ x = .ref T ∧ H' = upd H T (.tup [v, w]) ∧ (∀ xs, Sq t1 K H a xs → xs[i]? = some v) ∧ ∀ ys, Sq t2 K H b ys → ys[i]? = some w,
   fun i H => ∃ xs ys, Sq t1 K H a xs ∧ Sq t2 K H b ys ∧ (xs.length ≤ i ∨ ys.length ≤ i)⟩
theorem turn_zip {P : Program} {w : World} {K : PySem.W.Frag} {elts : List Expr} {x1} {tp : Pos} (t1 t2 : Bool) {z TI TO i1 i2 l1 l2 : Addr} (D : ZipApart z TI TO i1 i2 l1 l2) :
    Turn P w K (.Tuple elts x1 tp) (Itz t1 t2 K l1 l2) [z, TI, TO, i1, i2] z (fun i h => IsZip h z TI TO .none ∧ IsPair h TI (.ref i1) (.ref i2) ∧ (∃ a b, IsPair h TO a b) ∧ IsI t1 h i1 l1 i ∧ IsI t2 h i2 l2 i) where
  mem := by simp
  obj := fun i h st b hb => by
    obtain ⟨h1, h2, ⟨u, v, h3⟩, h4, h5⟩ := st
    simp only [List.mem_cons, List.not_mem_nil, or_false] at hb
    rcases hb with rfl | rfl | rfl | rfl | rfl
    · exact ⟨_, h1, fun v z => by cases z⟩
    · exact ⟨_, h2, fun v z => by cases z⟩
    · exact ⟨_, h3, fun v z => by cases z⟩
    · exact h4.obj
    · exact h5.obj
  keep := fun i h h' st k => by
    obtain ⟨h1, h2, ⟨u, v, h3⟩, h4, h5⟩ := st
    exact ⟨k z (by simp) _ h1, k TI (by simp) _ h2, ⟨u, v, k TO (by simp) _ h3⟩, h4.keep (k i1 (by simp)), h5.keep (k i2 (by simp))⟩
  item := fun X hP hw hK hc i pins s σ H E I hf st go => by
    subst hP hw hK
    obtain ⟨h1, h2, ⟨u, v, h3⟩, h4, h5⟩ := st
    obtain ⟨xs, ys, x, y, hq1, hq2, hx, hy⟩ := go
    obtain ⟨its1, rv1, pl1⟩ := I.sq hq1
    obtain ⟨its2, rv2, pl2⟩ := I.sq hq2
    obtain ⟨ux, hu1, hu2⟩ := rv1.get hx
    obtain ⟨uy, hw1, hw2⟩ := rv2.get hy
    have hh : X.A.in1.handled = none := I.ok.hd hc
    refine pyNext_zipN_item D (nxOf t1 hh i1 l1 D.l1i1 its1.toArray) (nxOf t2 hh i2 l2 D.l2i2 its2.toArray) h1 h2 h3 (k := i) ⟨h4, pl1⟩ ⟨h5, pl2⟩ (x := ux) (y := uy) (by simpa using hu1) (by simpa using hw1) fun h' z1 p1 s1 s2 pT hsz kp => ?_
    refine ⟨_, rfl, wpAny_letOwnedTupleGo_zip z1 fun h'' z2 sb => ?_⟩
    have hlt : ∀ b ∈ [z, TI, TO, i1, i2], b ≠ s.heap.objs.size := fun b hb => by
      simp only [List.mem_cons, List.not_mem_nil, or_false] at hb
      rcases hb with rfl | rfl | rfl | rfl | rfl
      · exact Nat.ne_of_lt (Heap.lt_size h1)
      · exact Nat.ne_of_lt (Heap.lt_size h2)
      · exact Nat.ne_of_lt (Heap.lt_size h3)
      · exact Nat.ne_of_lt (Heap.lt_size h4.obj.choose_spec.1)
      · exact Nat.ne_of_lt (Heap.lt_size h5.obj.choose_spec.1)
    have kp2 : ∀ b o, b ∉ [z, TO, i1, i2] → s.heap.get? b = some o → h''.get? b = some o := fun b o hb q => by
      simp only [List.mem_cons, List.not_mem_nil, or_false, not_or] at hb
      exact sb.extBut b o hb.1 (kp b o hb.1 hb.2.1 hb.2.2.1 hb.2.2.2 q)
    have pT2 : IsPair h'' s.heap.objs.size ux uy := sb.extBut _ _ (hlt z (by simp)).symm pT
    have p2 : IsPair h'' TO ux uy := sb.extBut _ _ D.TOz p1
    have j1 : IsI t1 h'' i1 l1 (i + 1) := s1.1.keep fun o e => sb.extBut _ _ D.i1z e
    have j2 : IsI t2 h'' i2 l2 (i + 1) := s2.1.keep fun o e => sb.extBut _ _ D.i2z e
    refine ⟨.ref s.heap.objs.size, upd H s.heap.objs.size (.tup [x, y]), ?_, rfl, ⟨_, x, y, I.fresh, rfl, rfl, fun zs hz => ?_, fun zs hz => ?_⟩, ⟨z2, kp2 TI _ ?_ h2, ⟨_, _, p2⟩, j1, j2⟩, fun b hb => ?_⟩
    · refine I.laidCh (ch := [z, TO, i1, i2]) (t' := s.toks) kp2 (fun b hb => ?_) (fun b hb => hf b ?_) ⟨(by show 2 ≤ sizeLine; decide), [ux, uy], .cons hu2 (.cons hw2 .nil), ⟨_, pT2, rfl, _, rfl⟩⟩
      · simp only [List.mem_cons, List.not_mem_nil, or_false] at hb
        rcases hb with rfl | rfl | rfl | rfl
        · exact ⟨_, z2⟩
        · exact ⟨_, p2⟩
        · exact ⟨_, j1.obj.choose_spec.1⟩
        · exact ⟨_, j2.obj.choose_spec.1⟩
      · simp only [List.mem_cons, List.not_mem_nil, or_false] at hb ⊢
        rcases hb with h | h | h | h <;> simp [h]
    · rw [I.sq_inj hz hq1]; exact hx
    · rw [I.sq_inj hz hq2]; exact hy
    · simp [D.TIz, D.TITO, D.TIi1, D.TIi2]
    · rw [upd_ne (hlt b hb)]; exact (hf b hb).1
  done := fun X hP hw hK hc i pins s σ H E I hf st stop => by
    subst hP hw hK
    obtain ⟨h1, h2, ⟨u, v, h3⟩, h4, h5⟩ := st
    obtain ⟨xs, ys, hq1, hq2, hx⟩ := stop
    obtain ⟨its1, rv1, pl1⟩ := I.sq hq1
    obtain ⟨its2, rv2, pl2⟩ := I.sq hq2
    have hh : X.A.in1.handled = none := I.ok.hd hc
    refine pyNext_zipN_end D (nxOf t1 hh i1 l1 D.l1i1 its1.toArray) (nxOf t2 hh i2 l2 D.l2i2 its2.toArray) h1 h2 h3 (k := i) ⟨h4, pl1⟩ ⟨h5, pl2⟩ ?_ fun h' kp => ⟨rfl, ?_⟩
    · rcases hx with hx | hx
      · left; rw [rv1.length] at hx; simpa using hx
      · right; rw [rv2.length] at hx; simpa using hx
    · exact I.turnedCh (ch := [z, TO, i1, i2]) (fun b u hb q => by
        simp only [List.mem_cons, List.not_mem_nil, or_false, not_or] at hb
        exact kp b u hb.1 hb.2.1 hb.2.2.1 hb.2.2.2 q) fun b hb => hf b (by
        simp only [List.mem_cons, List.not_mem_nil, or_false] at hb ⊢
        rcases hb with h | h | h | h <;> simp [h])
  self := fun A i s Q E st q => wpAny_pyIter_zip st.1 q
section
variable {X : Cx} {elts : List Expr} {x1 : Nat} {tp : Pos}
theorem call_zipN {prog : Program} {w : World} {A : Around} {E : Value → Shared → Prop} {s : Shared} (t1 t2 : Bool) {l1 l2 : Addr} {xs ys : Array Value} {Q : Value → Shared → Prop} (hl1 : IsS t1 s.heap l1 xs) (hl2 : IsS t2 s.heap l2 ys)
    (h : ∀ h', IsZip h' (s.heap.objs.size + 4) (s.heap.objs.size + 2) (s.heap.objs.size + 3) .none → IsPair h' (s.heap.objs.size + 2) (.ref s.heap.objs.size) (.ref (s.heap.objs.size + 1)) →
      IsPair h' (s.heap.objs.size + 3) .none .none → IsI t1 h' s.heap.objs.size l1 0 → IsI t2 h' (s.heap.objs.size + 1) l2 0 → (∀ c o, s.heap.get? c = some o → h'.get? c = some o) → Q (.ref (s.heap.objs.size + 4)) { s with heap := h' }) :
    wpAny (model prog w) A (call (.type "zip") [.ref l1, .ref l2]) Q E s := by
  cases t1 <;> cases t2
  · exact call_zipLL hl1 hl2 h
  · exact call_zipLT hl1 hl2 h
  · exact call_zipTL hl1 hl2 h
  · exact call_zipTT hl1 hl2 h
theorem zapart {n l m : Nat} (h1 : l < n) (h2 : m < n) : ZipApart (n + 4) (n + 2) (n + 3) n (n + 1) l m := by
  constructor <;> exact fun h => absurd (show (_ : Nat) = _ from h) (by omega)
noncomputable def qZip (K : PySem.W.Frag) (R : It → Hp → Prop) (vs : List V) (H1 : Hp) : Prop := ∃ t1 t2 a b, vs = [.ref a, .ref b] ∧ (∃ xs, Sq t1 K H1 a xs) ∧ (∃ ys, Sq t2 K H1 b ys) ∧ R (Itz t1 t2 K a b) H1
noncomputable def iZip (K : PySem.W.Frag) (ta : TA) : TI := fun σ H R => ta σ H (qZip K R)
theorem boot_zip : bootBuiltins "zip" = some (.type "zip") := by decide +kernel
theorem pi_zip {a b : Expr} {ta : TA} {p pos : Pos} (hg : Gl X "zip") (hm : X.mg "zip" = none) (ha : PA X [a, b] ta) (hs : starEach [a, b] X.env = [(false, eval a X.env), (false, eval b X.env)] := by rfl) (hs2 : starEach [b] X.env = [(false, eval b X.env)] := by rfl) :
    PI X (.Tuple elts x1 tp) (.Call (.Name "zip" p) [a, b] [] pos) (iZip X.K ta) := by
  intro pins s σ H R I h
  refine Call_ (ld_blt I hg hm boot_zip (PyProof.Rows.callWith_type1 (thn (ha pos pins s σ H _ I h) ?_) (by rw [hs, hs2]) (by rw [hs2]; rfl)))
  rintro us s1 ⟨vs, H1, I1, r1, q1⟩
  obtain ⟨t1, t2, l1, l2, rfl, ⟨xs, hq1⟩, ⟨ys, hq2⟩, q⟩ := q1
  obtain ⟨u, v, rfl, ru, rv⟩ := r1.two
  cases ru; cases rv
  obtain ⟨its1, rv1, pl1⟩ := I1.sq hq1
  obtain ⟨its2, rv2, pl2⟩ := I1.sq hq2
  have b1 := pl1.lt
  have b2 := pl2.lt
  refine call_zipN t1 t2 pl1 pl2 fun h' z0 p0 o0 j1 j2 kp => ?_
  have D : ZipApart (s1.heap.objs.size + 4) (s1.heap.objs.size + 2) (s1.heap.objs.size + 3) s1.heap.objs.size (s1.heap.objs.size + 1) l1 l2 := zapart b1 b2
  refine wpAny_pyIter_zip z0 ⟨_, _, _, _, H1, rfl, I1.kept (t' := s1.toks) kp, turn_zip t1 t2 D, ⟨z0, p0, ⟨_, _, o0⟩, j1, j2⟩, fun b hb => ?_, q⟩
  have hb' : s1.heap.objs.size ≤ b := by
    simp only [List.mem_cons, List.not_mem_nil, or_false] at hb
    rcases hb with rfl | rfl | rfl | rfl | rfl <;> first | exact Nat.le_add_right _ _ | exact Nat.le_refl _
  exact I1.fpOk hb' (I1.hok.fresh hb')
end
end L2
namespace HH
open PySem L2 PySem.Spec PyProof.Rows
section
variable {K : PySem.W.Frag} {F F1 H H1 : Hp} {ρ ρ1 : List Sl} {σ : L2.St} {ds es : List D} {a b : Addr}
theorem Same.sq {t : Bool} {xs : List V} (e : Same F H) (h : Sq t K F a xs) : Sq t K H a xs := by
  cases t with
  | true => exact Same.seqT e h
  | false => exact e.seq h
theorem zip_src {t1 t2 : Bool} {xs ys : List V} {F' H' : Hp} (hq1 : Sq t1 K H' a xs) (hq2 : Sq t2 K H' b ys) (r1 : Reps K F' xs ds) (r2 : Reps K F' ys es) (s : Same F' H') (k : Nat) :
    (∀ d, ((ds.zip es).map fun p => D.tup [p.1, p.2])[k]? = some d → (Itz t1 t2 K a b).go k H' ∧ ∀ x H'', (Itz t1 t2 K a b).yld k H' x H'' → ∃ F'', Ext F' H' F'' H'' ∧ Rep K F'' x d) ∧ (((ds.zip es).map fun p => D.tup [p.1, p.2]).length ≤ k → (Itz t1 t2 K a b).stop k H') := by
  refine ⟨fun d hd => ?_, fun h => ⟨xs, ys, hq1, hq2, by rw [r1.length, r2.length]; rw [List.length_map, List.length_zip] at h; omega⟩⟩
  rw [List.getElem?_map] at hd
  obtain ⟨⟨d0, d1⟩, e1, e2⟩ := map_some hd
  subst e2
  obtain ⟨f1, f2⟩ := List.getElem?_zip_eq_some.mp e1
  obtain ⟨w, h1, h2⟩ := r1.get f1
  obtain ⟨w', h1', h2'⟩ := r2.get f2
  refine ⟨⟨xs, ys, w, w', hq1, hq2, h1, h1'⟩, ?_⟩
  rintro x H'' ⟨T, v, v', hT, hx, hH, y, y'⟩
  subst hx; subst hH
  have := y xs hq1
  rw [h1] at this; cases this
  have := y' ys hq2
  rw [h1'] at this; cases this
  exact pair_new s hT h2 h2'
theorem rep_sq {v : V} {d : D} {ds : List D} (h : Rep K F v d) (e : items d = some ds) : ∃ t a xs, v = .ref a ∧ Sq t K F a xs ∧ Reps K F xs ds := by
  cases d with
  | tup es =>
    cases e
    rw [Rep] at h
    obtain ⟨a, xs, rfl, h1, h2⟩ := h
    exact ⟨true, a, xs, rfl, h1, h2⟩
  | lst es =>
    cases e
    rw [Rep] at h
    obtain ⟨a, xs, rfl, h1, h2⟩ := h
    exact ⟨false, a, xs, rfl, h1, h2⟩
  | _ => cases e
end
section
variable {X : Cx} {c : Call} {e a b : Expr} {pa pb : P} {pos : Pos} {elts : List Expr} {x1 : Nat} {tp : Pos}
theorem si_zip {x : Str} {p' : Pos} (hx : x = "zip") (hg : Gl X x) (hm : X.mg x = none) (ha : SX X c a pa) (hb : SX X c b pb) (hs : starEach [a, b] X.env = [(false, eval a X.env), (false, eval b X.env)] := by rfl) (hs2 : starEach [b] X.env = [(false, eval b X.env)] := by rfl) :
    SI X c (.Tuple elts x1 tp) (.Call (.Name x p') [a, b] [] pos) (.zip pa pb) := by
  subst hx
  refine piImp (pi_zip hg hm (sa_cons ha (sa_cons hb sa_nil hs2) (by rw [hs, hs2])).1 hs hs2) ?_
  rintro σ H R ⟨F, ρ, ds, ρ1, g, e, k⟩
  obtain ⟨r, ρ2, e1, e2⟩ := bind_ok e
  have zz := lift_ok e2; clear e2; obtain ⟨e2, e3⟩ := zz
  subst e3
  rw [HH.ev] at e1
  obtain ⟨x0, ρ3, e4, e7⟩ := bind_ok e1
  obtain ⟨y0, ρ4, e5, e8⟩ := bind_ok e7
  have zz := lift_ok e8; clear e8; obtain ⟨e8, e6⟩ := zz
  subst e6
  obtain ⟨us, f1, e9⟩ := bindO e8
  obtain ⟨ws, f2, f3⟩ := map_some e9
  subst f3
  cases e2
  refine ⟨F, ρ, [x0.d, y0.d], _, g, by rw [evs, e4]; show (evs c [pb] ρ3).bind _ = _; rw [evs, e5]; rfl, fun vs F' H' s rr => ?_⟩
  obtain ⟨v, r', rfl, rv, rr⟩ := rr.uncons
  obtain ⟨u, r'', rfl, ru, rr⟩ := rr.uncons
  rw [rr.unnil]
  obtain ⟨t1, a1, xs, rfl, q1, r1⟩ := rep_sq rv f1
  obtain ⟨t2, a2, ys, rfl, q2, r2⟩ := rep_sq ru f2
  exact ⟨t1, t2, a1, a2, rfl, ⟨xs, Same.sq s.gs.sub q1⟩, ⟨ys, Same.sq s.gs.sub q2⟩, k _ _ _ ⟨s.gs, fun n k F' ρ' σ' H' s' => zip_src (Same.sq s'.gs.sub (Same.sq s'.fsub q1)) (Same.sq s'.gs.sub (Same.sq s'.fsub q2)) (r1.mono s'.fsub) (r2.mono s'.fsub) s'.gs.sub k, fun F3 ρ3 σ3 H3 s3 => ⟨s.trans s3, fun v r rr => rr.later s⟩⟩⟩
end
end HH
end
section
set_option linter.all false
set_option Elab.async false
set_option maxRecDepth 100000
namespace HH
open PySem L2 PySem.Spec PyProof.Rows
structure DefIn (K : PySem.W.Frag) (x : Str) (st : Stmt) : Prop where
  ex : ∃ f fd, PySem.W.nsIn K mainGlobals x = some (some (.ref f)) ∧ Fun K x x st f fd
section
variable {Pg : Program} {w : World} {K : PySem.W.Frag} {mg : Str → Option Value} {base h : Heap}
theorem def_in {x : Str} {st : Stmt} {f : Addr} {oc : Value} {od an : Option Addr} {osl : Array (Option Value)} {kV doc pm cdv ct : Value} (a : PySem.W.nsIn K mainGlobals x = some (some (.ref f)))
    (l : K.lookup f = some ⟨oc, od, .func (PySem.W.fnOf x x (defArgs st) (defBody st) (defScope st) .none kV doc pm an cdv ct), osl⟩)
    (c : PySem.W.codeIn K cdv x = true) (k : PySem.W.keepIn K (.ref f) = true) : DefIn K x st := ⟨_, _, a, fun_mk l c k⟩
theorem call0 {Γ : Tab} {wl i np : Nat} {x : Str} {st : Stmt} {ps : List Str} (X : K.In h) (G : h.Ns mainGlobals mg) (D : DefIn K x st) (hp : ps.length = np)
    (hb : ∀ (kV doc pm : Value) (an : Option Addr) (cdv ct : Value) (us : List Value), us.length = ps.length → bindArgs (PySem.W.fnOf x x (defArgs st) (defBody st) (defScope st) .none kV doc pm an cdv ct) ⟨us, []⟩ = pure (ps.zip us)) :
    CallOk Pg w K mg base 0 (run Γ wl 0) i x np := by
  obtain ⟨f, fd, a, F⟩ := D.ex
  exact ⟨f, fd, ps, ⟨fun vs H Q E s => s.1, fun A outer s H args us vs Q E hr e b v sp => by obtain ⟨_, F, as, r, as', _, z, _⟩ := sp; cases z⟩, PySem.W.mg_of X G a, F.kp, F.binds hb, hp⟩
theorem callS {Γ : Tab} {wl n i np : Nat} {x : Str} {st : Stmt} {ps : List Str} {d : Fd} (X : K.In h) (G : h.Ns mainGlobals mg) (D : DefIn K x st) (hp : ps.length = np) (hΓ : Γ i = some d)
    (hb : ∀ (kV doc pm : Value) (an : Option Addr) (cdv ct : Value) (us : List Value), us.length = ps.length → bindArgs (PySem.W.fnOf x x (defArgs st) (defBody st) (defScope st) .none kV doc pm an cdv ct) ⟨us, []⟩ = pure (ps.zip us))
    (ok : ∀ f fd, Fun K x x st f fd → FnOk Pg w K mg base CX0 (n + 1) f fd ps (spC K np (fun args => enter (run Γ wl n) wl d args))) :
    CallOk Pg w K mg base (n + 1) (run Γ wl (n + 1)) i x np := by
  obtain ⟨f, fd, a, F⟩ := D.ex
  refine ⟨f, fd, ps, ?_, PySem.W.mg_of X G a, F.kp, F.binds hb, hp⟩
  have e : run Γ wl (n + 1) i = fun args => enter (run Γ wl n) wl d args := by
    funext args
    show (match Γ i with | some d => enter (run Γ wl n) wl d args | none => .stuck) = _
    rw [hΓ]
  rw [e, hp]
  exact ok f fd F
theorem ints_reps {F : Hp} : ∀ ns : List Int, Reps K F (ns.map V.int) (ns.map D.int)
  | [] => .nil
  | n :: ns => .cons (repInt n) (ints_reps ns)
theorem script_ok {H : Hp} {a : Addr} {ns : List Int} {g : List Sl → Res R} {as : List Sl} (hS : SqL K H a (ns.map V.int)) (hr : g [.val false (.lst (ns.map D.int))] = .ok (.val (.bl true)) as) :
    spC K 1 g [.ref a] H (fun v _ => v = .bl true) fun _ _ _ => False := by
  refine ⟨rfl, H, _, _, as, ⟨.refl _, rfl, fun i b d e => ?_, fun i s ds e e' => ?_, fun i j c h => ?_⟩, hr, fun v F' σ' H' s rr => ?_⟩
  · match i, e with
    | 0, e =>
      cases e
      refine ⟨.ref a, rfl, ?_⟩
      rw [Rep]
      exact ⟨a, _, rfl, hS, ints_reps ns⟩
    | i + 1, e => simp at e
  · match i, e with
    | 0, e => cases e; cases e'
    | i + 1, e => simp at e
  · obtain ⟨⟨s, ds, e, e'⟩, _⟩ := h
    match i, e with
    | 0, e => cases e; cases e'
    | i + 1, e => simp at e
  · have rr : Rep K F' v (.bl true) := rr
    rw [Rep] at rr
    exact rr
end
end HH
end
section
set_option linter.all false
set_option Elab.async false
set_option maxRecDepth 100000
namespace HH
open PySem
noncomputable def Res.sat {α : Type} (x : Res α) (Q : α → List Sl → Prop) : Prop := match x with
  | .ok a ρ => Q a ρ
  | .exc _ _ => False
  | .stuck => False
section
variable {α β : Type} {Q Q' : α → List Sl → Prop}
@[simp] theorem sat_ok {a : α} {ρ : List Sl} : (Res.ok a ρ).sat Q = Q a ρ := rfl
@[simp] theorem sat_exc {k : Nat} {ρ : List Sl} : (Res.exc k ρ : Res α).sat Q = False := rfl
@[simp] theorem sat_stuck : (Res.stuck : Res α).sat Q = False := rfl
@[simp↓] theorem sat_bind {x : Res β} {f : β → List Sl → Res α} : (x.bind f).sat Q = x.sat fun a ρ => (f a ρ).sat Q := by cases x <;> rfl
@[simp] theorem sat_ite {p : Prop} [Decidable p] {x y : Res α} : (if p then x else y).sat Q = ((p → x.sat Q) ∧ (¬ p → y.sat Q)) := by
  by_cases h : p <;> simp [h]
@[simp] theorem sat_lift_some {a : α} {ρ : List Sl} : (lift (some a) ρ).sat Q = Q a ρ := rfl
@[simp] theorem sat_lift_none {ρ : List Sl} : (lift (none : Option α) ρ).sat Q = False := rfl
@[simp] theorem sat_lift_ite {p : Prop} [Decidable p] {a : α} {ρ : List Sl} : (lift (if p then some a else none) ρ).sat Q = (p ∧ Q a ρ) := by
  by_cases h : p <;> simp [h]
theorem Res.sat.imp {x : Res α} (h : x.sat Q) (k : ∀ a ρ, Q a ρ → Q' a ρ) : x.sat Q' := by
  cases x with
  | ok a ρ => exact k a ρ h
  | exc _ _ => exact h
  | stuck => exact h
theorem sat_iff {x : Res α} : x.sat Q ↔ ∃ a ρ, x = .ok a ρ ∧ Q a ρ := by
  cases x with
  | ok a ρ => exact ⟨fun h => ⟨a, ρ, rfl, h⟩, fun ⟨_, _, e, h⟩ => by cases e; exact h⟩
  | exc _ _ => exact ⟨fun h => h.elim, fun ⟨_, _, e, _⟩ => by cases e⟩
  | stuck => exact ⟨fun h => h.elim, fun ⟨_, _, e, _⟩ => by cases e⟩
end
noncomputable def fr : Sl → Bool
  | .unb => true
  | .val b _ => !b
  | .own b _ => !b
  | .lent _ => false
@[simp] theorem fr_unb : fr .unb = true := rfl
@[simp] theorem fr_val {b : Bool} {d : D} : fr (.val b d) = !b := rfl
@[simp] theorem fr_own {b : Bool} {d : List D} : fr (.own b d) = !b := rfl
@[simp] theorem fr_lent {d : List D} : fr (.lent d) = false := rfl
theorem put_eq (ρ : List Sl) (i : Nat) (s : Sl) : put ρ i s = match ρ[i]? with | some t => if fr t = true then some (ρ.set i s) else none | none => none := by
  unfold put
  cases h : ρ[i]? with
  | none => rfl
  | some t => cases t with
    | unb => rfl
    | val b d => cases b <;> rfl
    | own b d => cases b <;> rfl
    | lent d => rfl
theorem run_succ {Γ : Tab} {w n i : Nat} {d : Fd} {args : List Sl} (h : Γ i = some d) : run Γ w (n + 1) i args = enter (run Γ w n) w d args := by
  rw [run, h]
noncomputable def fin (np : Nat) : Fl → List Sl → Option (R × List Sl)
  | .next, ρ => some (.val .non, ρ.take np)
  | .ret r, ρ => some (r, ρ.take np)
  | _, _ => none
theorem sat_enter {c : Call} {n : Nat} {d : Fd} {args : List Sl} {Q : R → List Sl → Prop} (hl : args.length = d.np) (hd : d.np ≤ d.nn)
    (h : (exs c n d.body (args ++ List.replicate (d.nn - d.np) .unb)).sat fun fl ρ => match fl with | .next => Q (.val .non) (ρ.take d.np) | .ret r => Q r (ρ.take d.np) | _ => False) : (enter c n d args).sat Q := by
  unfold enter
  rw [if_pos ⟨hl, hd⟩]
  revert h
  cases exs c n d.body (args ++ List.replicate (d.nn - d.np) .unb) with
  | stuck => exact fun h => False.elim h
  | exc _ _ => exact fun h => False.elim h
  | ok fl ρ => cases fl <;> first | exact id | exact fun h => False.elim h
theorem sat_run {Γ : Tab} {w n i : Nat} {d : Fd} {args : List Sl} {Q : R → List Sl → Prop} (hΓ : Γ i = some d) (hl : args.length = d.np) (hd : d.np ≤ d.nn)
    (h : (exs (run Γ w n) w d.body (args ++ List.replicate (d.nn - d.np) .unb)).sat fun fl ρ => match fl with | .next => Q (.val .non) (ρ.take d.np) | .ret r => Q r (ρ.take d.np) | _ => False) : (run Γ w (n + 1) i args).sat Q := by
  rw [run_succ hΓ]; exact sat_enter hl hd h
theorem sat_cons {c : Call} {n : Nat} {s : S} {r : List S} {ρ : List Sl} {Q : Fl → List Sl → Prop} (h : (ex c n s ρ).sat fun fl ρ' => match fl with | .next => (exs c n r ρ').sat Q | fl => Q fl ρ') : (exs c n (s :: r) ρ).sat Q := by
  rw [exs, sat_bind]
  refine h.imp fun fl ρ' q => ?_
  cases fl <;> exact q
@[simp] theorem sat_nil {c : Call} {n : Nat} {ρ : List Sl} {Q : Fl → List Sl → Prop} : (exs c n [] ρ).sat Q = Q .next ρ := by rw [exs]; rfl
theorem sat_seq {c : Call} {n : Nat} {s : S} {r : List S} {ρ : List Sl} {Q : Fl → List Sl → Prop} (M : List Sl → Prop) (h : (ex c n s ρ).sat fun fl ρ' => fl = .next ∧ M ρ') (k : ∀ ρ', M ρ' → (exs c n r ρ').sat Q) : (exs c n (s :: r) ρ).sat Q :=
  sat_cons (h.imp fun fl ρ' ⟨e, q⟩ => by subst e; exact k ρ' q)
theorem sat_forT {is : List Nat} {one : Bool} {body : List Sl → Res Fl} (J : List D → List Sl → Prop) {Q : Fl → List Sl → Prop} (hb : ∀ d r ρ, J (d :: r) ρ → ∃ ρ1, bindF ρ is one d = some ρ1 ∧ (body ρ1).sat fun fl ρ2 => match fl with
      | .next => J r ρ2
      | .cont => J r ρ2
      | .brk => Q .next ρ2
      | .ret v => Q (.ret v) ρ2) (hq : ∀ ρ, J [] ρ → Q .next ρ) : ∀ {ds : List D} {ρ : List Sl}, J ds ρ → (forT is one body ds ρ).sat Q
  | [], ρ, j => hq ρ j
  | d :: r, ρ, j => by
    obtain ⟨ρ1, e, h⟩ := hb d r ρ j
    rw [forT, e]
    show ((body ρ1).bind _).sat Q
    rw [sat_bind]
    refine h.imp fun fl ρ2 q => ?_
    cases fl with
    | next => exact sat_forT J hb hq q
    | cont => exact sat_forT J hb hq q
    | brk => exact q
    | ret v => exact q
theorem sat_turns {is : List Nat} {one : Bool} {test : List Sl → Res Bool} {elt : Ev} (J : List Sl → Prop) (g : D → Option D) {Q : List D → List Sl → Prop} :
    ∀ {ds acc : List D} {ρ : List Sl}, J ρ → (∀ d, d ∈ ds → ∀ ρ, J ρ → ∃ ρ1, bindF ρ is one d = some ρ1 ∧ (test ρ1).sat fun b ρ2 => if b = true then (elt ρ2).sat fun r ρ3 => g d = some r.d ∧ J ρ3 else g d = none ∧ J ρ2) → (∀ ρ, J ρ → Q (acc ++ ds.filterMap g) ρ) →
      (turns is one test elt ds acc ρ).sat Q
  | [], acc, ρ, j, h, k => by rw [turns]; simpa using k ρ j
  | d :: r, acc, ρ, j, h, k => by
    obtain ⟨ρ1, e, h1⟩ := h d (by simp) ρ j
    rw [turns, e]
    show ((test ρ1).bind _).sat Q
    rw [sat_bind]
    refine h1.imp fun b ρ2 q => ?_
    cases b with
    | true =>
      rw [if_pos rfl] at q
      rw [if_pos rfl, sat_bind]
      refine q.imp fun x ρ3 ⟨e1, j3⟩ => ?_
      refine sat_turns J g j3 (fun d' hd' => h d' (by simp [hd'])) fun ρ' j' => ?_
      have := k ρ' j'
      rw [List.filterMap_cons, e1] at this
      rw [List.append_assoc]; exact this
    | false =>
      rw [if_neg (by simp)] at q
      rw [if_neg (by simp)]
      refine sat_turns J g q.2 (fun d' hd' => h d' (by simp [hd'])) fun ρ' j' => ?_
      have := k ρ' j'
      rw [List.filterMap_cons, q.1] at this
      exact this
theorem sat_turnsM {is : List Nat} {one : Bool} {elt : Ev} {c : Call} (J : List Sl → Prop) (g : D → D) {Q : List D → List Sl → Prop} {ds : List D} {ρ : List Sl} (j : J ρ) (h : ∀ d, d ∈ ds → ∀ ρ, J ρ → ∃ ρ1, bindF ρ is one d = some ρ1 ∧ (elt ρ1).sat fun r ρ3 => g d = r.d ∧ J ρ3)
    (k : ∀ ρ, J ρ → Q (ds.map g) ρ) : (turns is one (evT c none) elt ds [] ρ).sat Q :=
  sat_turns J (fun d => some (g d)) j (fun d hd ρ j => by
    obtain ⟨ρ1, e, h1⟩ := h d hd ρ j
    refine ⟨ρ1, e, ?_⟩
    rw [evT, sat_ok, if_pos rfl]
    exact h1.imp fun r ρ3 q => ⟨by rw [q.1], q.2⟩) fun ρ j => by simpa using k ρ j
section
variable {ρ l : List Sl} {a : Sl} {i j : Int} {k m : Nat} {b b' : Bool} {s : Str} {d : D} {ds es : List D} {e f : Ev} {x : Option Sl} {c : Call}
@[simp] theorem ty_int_non : isTy .int .non = false := rfl
@[simp] theorem ty_int_bl : isTy .int (.bl b) = true := rfl
@[simp] theorem ty_int_int : isTy .int (.int i) = true := rfl
@[simp] theorem ty_int_str : isTy .int (.str s) = false := rfl
@[simp] theorem ty_int_tup : isTy .int (.tup ds) = false := rfl
@[simp] theorem ty_int_lst : isTy .int (.lst ds) = false := rfl
@[simp] theorem ty_bool_non : isTy .bool .non = false := rfl
@[simp] theorem ty_bool_bl : isTy .bool (.bl b) = true := rfl
@[simp] theorem ty_bool_int : isTy .bool (.int i) = false := rfl
@[simp] theorem ty_bool_str : isTy .bool (.str s) = false := rfl
@[simp] theorem ty_bool_tup : isTy .bool (.tup ds) = false := rfl
@[simp] theorem ty_bool_lst : isTy .bool (.lst ds) = false := rfl
@[simp] theorem ty_str_non : isTy .str .non = false := rfl
@[simp] theorem ty_str_bl : isTy .str (.bl b) = false := rfl
@[simp] theorem ty_str_int : isTy .str (.int i) = false := rfl
@[simp] theorem ty_str_str : isTy .str (.str s) = true := rfl
@[simp] theorem ty_str_tup : isTy .str (.tup ds) = false := rfl
@[simp] theorem ty_str_lst : isTy .str (.lst ds) = false := rfl
@[simp] theorem ty_tuple_non : isTy .tuple .non = false := rfl
@[simp] theorem ty_tuple_bl : isTy .tuple (.bl b) = false := rfl
@[simp] theorem ty_tuple_int : isTy .tuple (.int i) = false := rfl
@[simp] theorem ty_tuple_str : isTy .tuple (.str s) = false := rfl
@[simp] theorem ty_tuple_tup : isTy .tuple (.tup ds) = true := rfl
@[simp] theorem ty_tuple_lst : isTy .tuple (.lst ds) = false := rfl
@[simp] theorem ty_list_non : isTy .list .non = false := rfl
@[simp] theorem ty_list_bl : isTy .list (.bl b) = false := rfl
@[simp] theorem ty_list_int : isTy .list (.int i) = false := rfl
@[simp] theorem ty_list_str : isTy .list (.str s) = false := rfl
@[simp] theorem ty_list_tup : isTy .list (.tup ds) = false := rfl
@[simp] theorem ty_list_lst : isTy .list (.lst ds) = true := rfl
@[simp] theorem ty_none_non : isTy .none .non = true := rfl
@[simp] theorem ty_none_bl : isTy .none (.bl b) = false := rfl
@[simp] theorem ty_none_int : isTy .none (.int i) = false := rfl
@[simp] theorem ty_none_str : isTy .none (.str s) = false := rfl
@[simp] theorem ty_none_tup : isTy .none (.tup ds) = false := rfl
@[simp] theorem ty_none_lst : isTy .none (.lst ds) = false := rfl
@[simp] theorem isNon_non : isNon .non = true := rfl
@[simp] theorem isNon_bl : isNon (.bl b) = false := rfl
@[simp] theorem isNon_int : isNon (.int i) = false := rfl
@[simp] theorem isNon_str : isNon (.str s) = false := rfl
@[simp] theorem isNon_tup : isNon (.tup ds) = false := rfl
@[simp] theorem isNon_lst : isNon (.lst ds) = false := rfl
@[simp] theorem flat_non : flat .non = true := rfl
@[simp] theorem flat_bl : flat (.bl b) = true := rfl
@[simp] theorem flat_int : flat (.int i) = true := rfl
@[simp] theorem flat_str : flat (.str s) = true := rfl
@[simp] theorem flat_tup : flat (.tup ds) = false := rfl
@[simp] theorem flat_lst : flat (.lst ds) = false := rfl
@[simp] theorem Rd_val : (R.val d).d = d := rfl
@[simp] theorem Rd_own : (R.own ds).d = .lst ds := rfl
@[simp] theorem slOf_val : slOf (.val d) = .val false d := rfl
@[simp] theorem slOf_own : slOf (.own ds) = .own false ds := rfl
@[simp] theorem argOf_val : argOf (.val d) = .dat d := rfl
@[simp] theorem argOf_own : argOf (.own ds) = .tmp ds := rfl
@[simp] theorem asI_int : asI (.int i) = some i := rfl
@[simp] theorem asB_bl : asB (.bl b) = some b := rfl
@[simp] theorem items_lst : items (.lst ds) = some ds := rfl
@[simp] theorem items_tup : items (.tup ds) = some ds := rfl
@[simp] theorem itemsT_tup : itemsT (.tup ds) = some ds := rfl
@[simp] theorem itemsL_lst : itemsL (.lst ds) = some ds := rfl
@[simp] theorem op2_add : op2 .add = opAdd := rfl
@[simp] theorem op2_sub : op2 .sub = opSub := rfl
@[simp] theorem op2_mul : op2 .mul = opMul := rfl
@[simp] theorem op2_fdiv : op2 .fdiv = opFdiv := rfl
@[simp] theorem op2_mod : op2 .mod = opMod := rfl
@[simp] theorem op2_pow : op2 .pow = opPow := rfl
@[simp] theorem opAdd_int : opAdd (.int i) (.int j) = some (.val (.int (i + j))) := rfl
@[simp] theorem opAdd_lst : opAdd (.lst ds) (.lst es) = if ds.length + es.length ≤ lim then some (.own (ds ++ es)) else none := rfl
@[simp] theorem opAdd_tup : opAdd (.tup ds) (.tup es) = if ds.length + es.length ≤ lim then some (.val (.tup (ds ++ es))) else none := rfl
@[simp] theorem opSub_int : opSub (.int i) (.int j) = some (.val (.int (i - j))) := rfl
@[simp] theorem opMul_int : opMul (.int i) (.int j) = if ((-18446744073709551616 < i ∧ i < 18446744073709551616) ∨ (-18446744073709551616 < j ∧ j < 18446744073709551616)) then some (.val (.int (i * j))) else none := rfl
@[simp] theorem opFdiv_int : opFdiv (.int i) (.int j) = if 0 < j ∧ j < 1606938044258990275541962092341162602522202993782792835301376 then some (.val (.int (i / j))) else none := rfl
@[simp] theorem opMod_int : opMod (.int i) (.int j) = if 0 < j then some (.val (.int (i % j))) else none := rfl
@[simp] theorem opPow_int : opPow (.int i) (.int j) = if 0 ≤ j ∧ j ≤ 1000 ∧ i.natAbs < 18446744073709551616 then some (.val (.int (i ^ j.toNat))) else none := rfl
@[simp] theorem ixR_lst : ixR (.lst ds) (.int i) = (at' ds i).map .val := rfl
@[simp] theorem ixR_tup : ixR (.tup ds) (.int i) = (at' ds i).map .val := rfl
@[simp] theorem negR_int : negR (.int i) = some (.val (.int (-i))) := rfl
@[simp] theorem cm_eq_int : cm .eq (.int i) (.int j) = some (i == j) := rfl
@[simp] theorem cm_ne_int : cm .ne (.int i) (.int j) = some (!(i == j)) := rfl
@[simp] theorem cm_eq_bl : cm .eq (.bl b) (.bl b') = some (b == b') := rfl
@[simp] theorem cm_ne_bl : cm .ne (.bl b) (.bl b') = some (!(b == b')) := rfl
@[simp] theorem cm_lt_int : cm .lt (.int i) (.int j) = some (decide (i < j)) := rfl
@[simp] theorem cm_le_int : cm .le (.int i) (.int j) = some (decide (i ≤ j)) := rfl
@[simp] theorem cm_gt_int : cm .gt (.int i) (.int j) = some (decide (j < i)) := rfl
@[simp] theorem cm_ge_int : cm .ge (.int i) (.int j) = some (decide (j ≤ i)) := rfl
@[simp] theorem cm_isN : cm .isN d .non = some (isNon d) := rfl
@[simp] theorem cm_notN : cm .notN d .non = some (!isNon d) := rfl
@[simp] theorem blt_len_lst : blt .len [.lst ds] = some (.val (.int ds.length)) := rfl
@[simp] theorem blt_len_tup : blt .len [.tup ds] = some (.val (.int ds.length)) := rfl
@[simp] theorem blt_listR : blt .listR [.lst ds] = if ds.length ≤ 16777216 then some (.own ds) else none := rfl
@[simp] theorem blt_list_lst : blt .list [.lst ds] = some (.own ds) := rfl
@[simp] theorem blt_list_tup : blt .list [.tup ds] = some (.own ds) := rfl
@[simp] theorem blt_tuple_lst : blt .tuple [.lst ds] = some (.val (.tup ds)) := rfl
@[simp] theorem blt_tuple_tup : blt .tuple [.tup ds] = some (.val (.tup ds)) := rfl
@[simp] theorem blt_min2 : blt .min2 [.int i, .int j] = some (.val (.int (if j < i then j else i))) := rfl
@[simp] theorem blt_max2 : blt .max2 [.int i, .int j] = some (.val (.int (if i < j then j else i))) := rfl
@[simp] theorem blt_all : blt .all [.lst ds] = (ds.mapM asB).map fun bs => .val (.bl (bs.all id)) := rfl
@[simp] theorem blt_any : blt .any [.lst ds] = (ds.mapM asB).map fun bs => .val (.bl (bs.any id)) := rfl
@[simp] theorem isVar_var : isVar (.var k) = some k := rfl
@[simp] theorem pk_cons : pk (a :: l) k = match (a :: l)[k]? with | some (.val _ d) => some d | some (.own _ ds) => some (.lst ds) | some (.lent ds) => some (.lst ds) | _ => none := rfl
@[simp] theorem pkL_cons : pkL (a :: l) k = match pk (a :: l) k with | some (.lst ds) => some ds | _ => none := rfl
@[simp] theorem opd_some : opd (some k) e ρ = lift (pk ρ k) ρ := rfl
@[simp] theorem opd_none : opd none e ρ = (e ρ).bind fun r ρ => .ok r.d ρ := rfl
@[simp] theorem opd2_some {y : Option Nat} : opd2 (some k) e y f ρ = (lift (pk ρ k) ρ).bind fun _ ρ => (opd y f ρ).bind fun y ρ => (lift (pk ρ k) ρ).bind fun x ρ => .ok (x, y) ρ := rfl
@[simp] theorem opd2_none {y : Option Nat} : opd2 none e y f ρ = (opd none e ρ).bind fun x ρ => (opd y f ρ).bind fun y ρ => .ok (x, y) ρ := rfl
@[simp] theorem backS_own {es : List D} : backS (.own b ds) (some (.own b' es)) = .own b es := rfl
@[simp] theorem backS_frz : backS (.own b ds) (some (.val b' d)) = .val b d := rfl
@[simp] theorem backS_no : backS a none = a := by cases a <;> rfl
@[simp] theorem backS_val : backS (.val b d) x = .val b d := by cases x <;> rfl
@[simp] theorem backS_unb : backS .unb x = .unb := by cases x <;> rfl
@[simp] theorem backS_lent : backS (.lent ds) x = .lent ds := by cases x <;> rfl
@[simp] theorem bindF_nm : bindF ρ [k] true d = put ρ k (.val false d) := rfl
@[simp] theorem bindF_tup {is : List Nat} : bindF ρ is false (.tup ds) = putAll ρ is ds := by cases is <;> rfl
@[simp] theorem srcOf_none : srcOf none e ρ = (e ρ).bind fun r ρ => lift (items r.d) ρ := rfl
@[simp] theorem srcOf_some : srcOf (some k) e (a :: l) = match (a :: l)[k]? with | some (.val _ d) => lift (items d) (a :: l) | some (.own _ ds) => .ok ds ((a :: l).set k (.lent ds)) | some (.lent ds) => .ok ds (a :: l) | _ => .stuck := rfl
@[simp] theorem unlend_none {ρ' : List Sl} : unlend ρ' none ρ = ρ := rfl
@[simp] theorem unlend_some : unlend (a :: l) (some k) ρ = match (a :: l)[k]? with | some (.own b ds) => ρ.set k (.own b ds) | _ => ρ := rfl
@[simp] theorem put_cons {s : Sl} : put (a :: l) k s = match (a :: l)[k]? with | some t => if fr t = true then some ((a :: l).set k s) else none | none => none := put_eq ..
@[simp] theorem putAll_nil : putAll ρ [] [] = some ρ := rfl
@[simp] theorem putAll_cons {is : List Nat} : putAll ρ (k :: is) (d :: ds) = (put ρ k (.val false d)).bind fun ρ => putAll ρ is ds := rfl
@[simp↓] theorem sat_doCall {as : List Arg} {Q : R → List Sl → Prop} : (doCall c k as ρ).sat Q = match bindA ρ as [] with | none => False | some args => (c k args).sat fun r args' => Q r (backA as args' 0 ρ) := by
  unfold doCall
  cases bindA ρ as [] with
  | none => rfl
  | some args => simp only; cases c k args <;> rfl
end
@[simp] theorem at_0 {α : Type} {a0 : α} {l : List α} : at' (a0 :: l) 0 = some a0 := by
  unfold at' ixN; rw [if_pos (by decide), if_pos (by simp only [List.length_cons]; omega)]; rfl
@[simp] theorem at_1 {α : Type} {a0 a1 : α} {l : List α} : at' (a0 :: a1 :: l) 1 = some a1 := by
  unfold at' ixN; rw [if_pos (by decide), if_pos (by simp only [List.length_cons]; omega)]; rfl
@[simp] theorem at_2 {α : Type} {a0 a1 a2 : α} {l : List α} : at' (a0 :: a1 :: a2 :: l) 2 = some a2 := by
  unfold at' ixN; rw [if_pos (by decide), if_pos (by simp only [List.length_cons]; omega)]; rfl
@[simp] theorem at_3 {α : Type} {a0 a1 a2 a3 : α} {l : List α} : at' (a0 :: a1 :: a2 :: a3 :: l) 3 = some a3 := by
  unfold at' ixN; rw [if_pos (by decide), if_pos (by simp only [List.length_cons]; omega)]; rfl
@[simp] theorem at_4 {α : Type} {a0 a1 a2 a3 a4 : α} {l : List α} : at' (a0 :: a1 :: a2 :: a3 :: a4 :: l) 4 = some a4 := by
  unfold at' ixN; rw [if_pos (by decide), if_pos (by simp only [List.length_cons]; omega)]; rfl
@[simp] theorem at_5 {α : Type} {a0 a1 a2 a3 a4 a5 : α} {l : List α} : at' (a0 :: a1 :: a2 :: a3 :: a4 :: a5 :: l) 5 = some a5 := by
  unfold at' ixN; rw [if_pos (by decide), if_pos (by simp only [List.length_cons]; omega)]; rfl
@[simp] theorem at_6 {α : Type} {a0 a1 a2 a3 a4 a5 a6 : α} {l : List α} : at' (a0 :: a1 :: a2 :: a3 :: a4 :: a5 :: a6 :: l) 6 = some a6 := by
  unfold at' ixN; rw [if_pos (by decide), if_pos (by simp only [List.length_cons]; omega)]; rfl
@[simp] theorem at_7 {α : Type} {a0 a1 a2 a3 a4 a5 a6 a7 : α} {l : List α} : at' (a0 :: a1 :: a2 :: a3 :: a4 :: a5 :: a6 :: a7 :: l) 7 = some a7 := by
  unfold at' ixN; rw [if_pos (by decide), if_pos (by simp only [List.length_cons]; omega)]; rfl
theorem at_nat {α : Type} {l : List α} {i : Int} (h : 0 ≤ i) (h' : i < l.length) : at' l i = l[i.toNat]? := by
  unfold at' ixN; rw [if_pos h, if_pos h']; rfl
theorem at_ofNat {α : Type} {l : List α} {k : Nat} (h' : k < l.length) : at' l (k : Int) = l[k]? := by
  rw [at_nat (by omega) (by omega)]; simp
theorem at_none {α : Type} {l : List α} {i : Int} (h : (l.length : Int) ≤ i) : at' l i = none := by
  unfold at' ixN; rw [if_pos (by omega), if_neg (by omega)]; rfl
theorem isVar_ne {p : P} (h : ∀ i, p ≠ .var i) : isVar p = none := by cases p <;> first | rfl | exact absurd rfl (h _)
@[simp] theorem isVar_con {d : D} : isVar (.con d) = none := rfl
@[simp] theorem isVar_glob {x : Str} {d : D} : isVar (.glob x d) = none := rfl
@[simp] theorem isVar_bin {o : Op} {p q : P} : isVar (.bin o p q) = none := rfl
@[simp] theorem isVar_neg {p : P} : isVar (.neg p) = none := rfl
@[simp] theorem isVar_not {p : P} : isVar (.not p) = none := rfl
@[simp] theorem isVar_and {p q : P} : isVar (.and p q) = none := rfl
@[simp] theorem isVar_or {p q : P} : isVar (.or p q) = none := rfl
@[simp] theorem isVar_cmp {o : Cm} {p q : P} : isVar (.cmp o p q) = none := rfl
@[simp] theorem isVar_chain {o o' : Cm} {p q r : P} : isVar (.chain o o' p q r) = none := rfl
@[simp] theorem isVar_ife {p q r : P} : isVar (.ife p q r) = none := rfl
@[simp] theorem isVar_tup {as : List P} : isVar (.tup as) = none := rfl
@[simp] theorem isVar_lst {as : List P} : isVar (.lst as) = none := rfl
@[simp] theorem isVar_idx {p q : P} : isVar (.idx p q) = none := rfl
@[simp] theorem isVar_slice {p q r : P} : isVar (.slice p q r) = none := rfl
@[simp] theorem isVar_call {f : Nat} {as : List P} : isVar (.call f as) = none := rfl
@[simp] theorem isVar_blt {b : Blt} {as : List P} : isVar (.blt b as) = none := rfl
@[simp] theorem isVar_inst {ts : List Ty} {p : P} : isVar (.inst ts p) = none := rfl
@[simp] theorem isVar_pop {x : Nat} : isVar (.pop x) = none := rfl
@[simp] theorem isVar_comp {p e : P} {n : Nat} {is : List Nat} {one : Bool} {t : Option P} : isVar (.comp p n is one t e) = none := rfl
@[simp] theorem isVar_rng {p q : P} : isVar (.rng p q) = none := rfl
@[simp] theorem isVar_enm {p : P} : isVar (.enm p) = none := rfl
@[simp] theorem isVar_zip {p q : P} : isVar (.zip p q) = none := rfl
@[simp] theorem isVar_rev {p : P} : isVar (.rev p) = none := rfl
noncomputable def compT (c : Call) (is : List Nat) (one : Bool) (test : Option P) (elt : P) (ds : List D) (ρ : List Sl) : Res (List D) := turns is one (evT c test) (ev c elt) ds [] ρ
@[simp] theorem ev_comp {c : Call} {src elt : P} {n : Nat} {is : List Nat} {one : Bool} {test : Option P} {ρ : List Sl} : ev c (.comp src n is one test elt) ρ = (srcOf (isVar src) (ev c src) ρ).bind fun ds ρ₁ =>
      if ds.length ≤ lim then (compT c is one test elt ds (ρ₁ ++ List.replicate n .unb)).bind fun xs ρ₂ => .ok (.own xs) (unlend ρ (isVar src) (ρ₂.take ρ₁.length)) else .stuck := by rw [ev]; rfl
noncomputable def whlC (c : Call) (n : Nat) (t : P) (body : List S) (k : Nat) (ρ : List Sl) : Res Fl := whlT (tru (ev c t)) (exs c n body) k ρ
@[simp] theorem ex_whl {c : Call} {n : Nat} {t : P} {body : List S} {ρ : List Sl} : ex c n (.whl t body) ρ = whlC c n t body n ρ := by rw [ex]; rfl
theorem sat_compM {c : Call} {is : List Nat} {one : Bool} {elt : P} (J : List Sl → Prop) (g : D → D) {Q : List D → List Sl → Prop} {ds : List D} {ρ : List Sl} (j : J ρ) (h : ∀ d, d ∈ ds → ∀ ρ, J ρ → ∃ ρ1, bindF ρ is one d = some ρ1 ∧ (ev c elt ρ1).sat fun r ρ3 => g d = r.d ∧ J ρ3)
    (k : ∀ ρ, J ρ → Q (ds.map g) ρ) : (compT c is one none elt ds ρ).sat Q := sat_turnsM J g j h k
theorem sat_compF {c : Call} {is : List Nat} {one : Bool} {elt t : P} (J : List Sl → Prop) (g : D → Option D) {Q : List D → List Sl → Prop} {ds : List D} {ρ : List Sl} (j : J ρ)
    (h : ∀ d, d ∈ ds → ∀ ρ, J ρ → ∃ ρ1, bindF ρ is one d = some ρ1 ∧ (ev c t ρ1).sat fun r ρ2 => ∃ b, r.d = .bl b ∧ if b = true then (ev c elt ρ2).sat fun r ρ3 => g d = some r.d ∧ J ρ3 else g d = none ∧ J ρ2) (k : ∀ ρ, J ρ → Q (ds.filterMap g) ρ) : (compT c is one (some t) elt ds ρ).sat Q :=
  sat_turns J g j (fun d hd ρ j => by
    obtain ⟨ρ1, e, h1⟩ := h d hd ρ j
    refine ⟨ρ1, e, ?_⟩
    rw [evT, tru, sat_bind]
    refine h1.imp fun r ρ2 ⟨b, e, q⟩ => ?_
    rw [e]
    exact q) fun ρ j => by simpa using k ρ j
theorem sat_whlC {c : Call} {n : Nat} {t : P} {body : List S} (J : Nat → List Sl → Prop) {Q : Fl → List Sl → Prop} (h : ∀ m ρ, J m ρ → (ev c t ρ).sat fun r ρ1 => ∃ b, r.d = .bl b ∧ if b = true then (exs c n body ρ1).sat fun fl ρ2 => match fl with
      | .next => ∃ m', m' < m ∧ J m' ρ2
      | .cont => ∃ m', m' < m ∧ J m' ρ2
      | .brk => Q .next ρ2
      | .ret v => Q (.ret v) ρ2 else Q .next ρ1) : ∀ {k m : Nat} {ρ : List Sl}, m < k → J m ρ → (whlC c n t body k ρ).sat Q
  | 0, m, ρ, hk, _ => absurd hk (Nat.not_lt_zero _)
  | k + 1, m, ρ, hk, j => by
    unfold whlC
    rw [whlT, sat_bind, tru, sat_bind]
    refine (h m ρ j).imp fun r ρ1 ⟨b, e, q⟩ => ?_
    rw [e]
    show (if b = true then _ else _ : Res Fl).sat Q
    cases b with
    | false =>
      rw [if_neg (by simp)] at q
      rw [if_neg (by simp)]; exact q
    | true =>
      rw [if_pos rfl] at q
      rw [if_pos rfl, sat_bind]
      refine q.imp fun fl ρ2 q => ?_
      cases fl with
      | next => obtain ⟨m', hm, j'⟩ := q; exact sat_whlC J h (Nat.lt_of_lt_of_le hm (Nat.lt_succ_iff.mp hk)) j'
      | cont => obtain ⟨m', hm, j'⟩ := q; exact sat_whlC J h (Nat.lt_of_lt_of_le hm (Nat.lt_succ_iff.mp hk)) j'
      | brk => exact q
      | ret v => exact q
@[simp] theorem q_ev1 : type_of% @HH.ev.eq_1 := @HH.ev.eq_1
@[simp] theorem q_ev2 : type_of% @HH.ev.eq_2 := @HH.ev.eq_2
@[simp] theorem q_ev3 : type_of% @HH.ev.eq_3 := @HH.ev.eq_3
@[simp] theorem q_ev4 : type_of% @HH.ev.eq_4 := @HH.ev.eq_4
@[simp] theorem q_ev5 : type_of% @HH.ev.eq_5 := @HH.ev.eq_5
@[simp] theorem q_ev6 : type_of% @HH.ev.eq_6 := @HH.ev.eq_6
@[simp] theorem q_ev7 : type_of% @HH.ev.eq_7 := @HH.ev.eq_7
@[simp] theorem q_ev8 : type_of% @HH.ev.eq_8 := @HH.ev.eq_8
@[simp] theorem q_ev9 : type_of% @HH.ev.eq_9 := @HH.ev.eq_9
@[simp] theorem q_ev10 : type_of% @HH.ev.eq_10 := @HH.ev.eq_10
@[simp] theorem q_ev11 : type_of% @HH.ev.eq_11 := @HH.ev.eq_11
@[simp] theorem q_ev12 : type_of% @HH.ev.eq_12 := @HH.ev.eq_12
@[simp] theorem q_ev13 : type_of% @HH.ev.eq_13 := @HH.ev.eq_13
@[simp] theorem q_ev14 : type_of% @HH.ev.eq_14 := @HH.ev.eq_14
@[simp] theorem q_ev15 : type_of% @HH.ev.eq_15 := @HH.ev.eq_15
@[simp] theorem q_ev16 : type_of% @HH.ev.eq_16 := @HH.ev.eq_16
@[simp] theorem q_ev17 : type_of% @HH.ev.eq_17 := @HH.ev.eq_17
@[simp] theorem q_ev18 : type_of% @HH.ev.eq_18 := @HH.ev.eq_18
@[simp] theorem q_ev19 : type_of% @HH.ev.eq_19 := @HH.ev.eq_19
@[simp] theorem q_ev20 : type_of% @HH.ev.eq_20 := @HH.ev.eq_20
@[simp] theorem q_ev22 : type_of% @HH.ev.eq_22 := @HH.ev.eq_22
@[simp] theorem q_ev23 : type_of% @HH.ev.eq_23 := @HH.ev.eq_23
@[simp] theorem q_ev24 : type_of% @HH.ev.eq_24 := @HH.ev.eq_24
@[simp] theorem q_ev25 : type_of% @HH.ev.eq_25 := @HH.ev.eq_25
@[simp] theorem q_ex1 : type_of% @HH.ex.eq_1 := @HH.ex.eq_1
@[simp] theorem q_ex2 : type_of% @HH.ex.eq_2 := @HH.ex.eq_2
@[simp] theorem q_ex3 : type_of% @HH.ex.eq_3 := @HH.ex.eq_3
@[simp] theorem q_ex4 : type_of% @HH.ex.eq_4 := @HH.ex.eq_4
@[simp] theorem q_ex5 : type_of% @HH.ex.eq_5 := @HH.ex.eq_5
@[simp] theorem q_ex6 : type_of% @HH.ex.eq_6 := @HH.ex.eq_6
@[simp] theorem q_ex7 : type_of% @HH.ex.eq_7 := @HH.ex.eq_7
@[simp] theorem q_ex8 : type_of% @HH.ex.eq_8 := @HH.ex.eq_8
@[simp] theorem q_ex9 : type_of% @HH.ex.eq_9 := @HH.ex.eq_9
@[simp] theorem q_ex10 : type_of% @HH.ex.eq_10 := @HH.ex.eq_10
@[simp] theorem q_ex11 : type_of% @HH.ex.eq_11 := @HH.ex.eq_11
@[simp] theorem q_ex12 : type_of% @HH.ex.eq_12 := @HH.ex.eq_12
@[simp] theorem q_ex13 : type_of% @HH.ex.eq_13 := @HH.ex.eq_13
@[simp] theorem q_ex14 : type_of% @HH.ex.eq_14 := @HH.ex.eq_14
@[simp] theorem q_ex15 : type_of% @HH.ex.eq_15 := @HH.ex.eq_15
@[simp] theorem q_tru1 : type_of% @HH.tru.eq_1 := @HH.tru.eq_1
@[simp] theorem q_evs1 : type_of% @HH.evs.eq_1 := @HH.evs.eq_1
@[simp] theorem q_evs2 : type_of% @HH.evs.eq_2 := @HH.evs.eq_2
@[simp] theorem q_evA1 : type_of% @HH.evA.eq_1 := @HH.evA.eq_1
@[simp] theorem q_evA2 : type_of% @HH.evA.eq_2 := @HH.evA.eq_2
@[simp] theorem q_evT1 : type_of% @HH.evT.eq_1 := @HH.evT.eq_1
@[simp] theorem q_evT2 : type_of% @HH.evT.eq_2 := @HH.evT.eq_2
@[simp] theorem q_cmR1 : type_of% @HH.cmR.eq_1 := @HH.cmR.eq_1
@[simp] theorem q_bindA1 : type_of% @HH.bindA.eq_1 := @HH.bindA.eq_1
@[simp] theorem q_bindA2 : type_of% @HH.bindA.eq_2 := @HH.bindA.eq_2
@[simp] theorem q_bindA3 : type_of% @HH.bindA.eq_3 := @HH.bindA.eq_3
@[simp] theorem q_bindA4 : type_of% @HH.bindA.eq_4 := @HH.bindA.eq_4
@[simp] theorem q_backA1 : type_of% @HH.backA.eq_1 := @HH.backA.eq_1
@[simp] theorem q_backA2 : type_of% @HH.backA.eq_2 := @HH.backA.eq_2
@[simp] theorem q_lookA1 : type_of% @HH.lookA.eq_1 := @HH.lookA.eq_1
@[simp] theorem q_lookA2 : type_of% @HH.lookA.eq_2 := @HH.lookA.eq_2
@[simp] theorem q_lookA3 : type_of% @HH.lookA.eq_3 := @HH.lookA.eq_3
@[simp] theorem q_lookA4 : type_of% @HH.lookA.eq_4 := @HH.lookA.eq_4
end HH
end
section
set_option linter.all false
set_option Elab.async false
set_option maxRecDepth 100000
namespace HH
open PySem L2 PySem.Spec PyProof.Rows
section
variable {X : Cx} {c : Call} {a b : Expr} {pa pb : P} {pos : Pos}
theorem mapM_asI : ∀ {ds : List D} {ns : List Int}, ds.mapM asI = some ns → ds = ns.map D.int
  | [], ns, h => by simp at h; subst h; rfl
  | d :: ds, ns, h => by
    simp [List.mapM_cons, Option.bind_eq_some_iff] at h
    obtain ⟨i, e1, ms, e2, rfl⟩ := h
    rw [asI_some e1, mapM_asI e2]; rfl
theorem reps_int {K : PySem.W.Frag} {F : Hp} : ∀ {ns : List Int} {ys : List V}, Reps K F ys (ns.map D.int) → ys = ns.map V.int
  | [], ys, h => by rw [h.unnil]; rfl
  | n :: ns, ys, h => by
    obtain ⟨v, r, rfl, h1, t⟩ := h.uncons
    rw [Rep] at h1
    rw [h1, reps_int t]; rfl
theorem vals_at {ns : List Int} {us : List Value} (h : Vals (ns.map V.int) us) {i : Nat} {v : Value} (e : us.toArray[i]? = some v) : ∃ t, v = .int (ns.getD i 0) t := by
  have e : us[i]? = some v := by simpa using e
  have hi : i < us.length := (List.getElem?_eq_some_iff.mp e).1
  have hl := h.length
  rw [List.length_map] at hl
  have g : (ns.map V.int)[i]? = some (.int (ns.getD i 0)) := by
    rw [List.getElem?_map, List.getElem?_eq_getElem (by omega)]
    simp [List.getD, show i < ns.length by omega]
  obtain ⟨w, g1, g2⟩ := h.get g
  rw [e] at g1
  cases g1
  exact g2
theorem walked {pins : List (Addr × Obj)} {σ : L2.St} {H : Hp} {s : Shared} {p : Addr} {ys : List V} (I : L2.Inv X pins σ H s) (hc : X.calm = true) (hq : SqL X.K H p ys ∨ SqT X.K H p ys) {Q : Value → Shared → Prop} {E : Value → Shared → Prop}
    (k : ∀ (it : Addr) (us : List Value) (s₂ : Shared) (St : Nat → Heap → Prop), Vals ys us → Walks X.prog X.w X.A.in1 it [it, p] [it] us.toArray.size (fun i v => us.toArray[i]? = some v) St → St 0 s₂.heap → (∀ b ∈ [it, p], b < s₂.heap.objs.size) →
      (∀ h' tk, (∀ b o, b ∉ [it] → s₂.heap.get? b = some o → h'.get? b = some o) → L2.Inv X pins σ H { s₂ with heap := h', toks := tk }) → Q (.ref it) s₂) : wpAny (model X.prog X.w) X.A.in1 (pyIter (.ref p)) Q E s := by
  have hh : X.A.in1.handled = none := I.ok.hd hc
  rcases hq with hq | hq
  · obtain ⟨us, rv, pl, hz⟩ := I.list hq
    have pl := pl.isList
    have hlt : p < s.heap.objs.size := by obtain ⟨o, h1, _⟩ := pl; exact Heap.lt_size h1
    refine wpAny_pyIter_list pl (k s.heap.objs.size us _ _ rv (Walks.list hh s.heap.objs.size p (Nat.ne_of_lt hlt) us.toArray) ⟨⟨_, Heap.get?_push_size _ rfl, rfl, rfl⟩, ?_⟩ ?_ fun h' tk kp => ?_)
    · obtain ⟨o, h1, h2⟩ := pl
      exact ⟨o, Heap.get?_push_of_some _ h1, h2⟩
    · intro b hb
      obtain ⟨o, h1, _⟩ := pl
      simp at hb
      rcases hb with rfl | rfl
      · exact Heap.lt_size (Heap.get?_push_size _ rfl)
      · exact Heap.lt_size (Heap.get?_push_of_some _ h1)
    · exact I.kept (fun b o z => kp b o (by simp; exact Nat.ne_of_lt (Heap.lt_size z)) (Heap.get?_push_of_some _ z))
  · obtain ⟨us, rv, pl, hz⟩ := I.tuple hq
    have hlt : p < s.heap.objs.size := by obtain ⟨o, h1, _⟩ := pl; exact Heap.lt_size h1
    refine wpAny_pyIter_tuple pl (k s.heap.objs.size us _ _ rv (Walks.tuple hh s.heap.objs.size p (Nat.ne_of_lt hlt) us.toArray) ⟨⟨_, Heap.get?_push_size _ rfl, rfl, rfl⟩, ?_⟩ ?_ fun h' tk kp => ?_)
    · obtain ⟨o, h1, h2⟩ := pl
      exact ⟨o, Heap.get?_push_of_some _ h1, h2⟩
    · intro b hb
      obtain ⟨o, h1, _⟩ := pl
      simp at hb
      rcases hb with rfl | rfl
      · exact Heap.lt_size (Heap.get?_push_size _ rfl)
      · exact Heap.lt_size (Heap.get?_push_of_some _ h1)
    · exact I.kept (fun b o z => kp b o (by simp; exact Nat.ne_of_lt (Heap.lt_size z)) (Heap.get?_push_of_some _ z))
theorem preSum_list (ns : List Int) : ∀ k, k ≤ ns.length → preSum (fun i => ns.getD i 0) k = (ns.take k).sum
  | 0, _ => by simp [preSum]
  | k + 1, h => by
    rw [preSum, preSum_list ns k (by omega), List.take_succ, List.sum_append]
    simp [List.getD, show k < ns.length by omega]
theorem c_sum (hc : X.calm = true) : CallR X (.builtin "sum") (rB1 X.K fun x => blt .sum [x]) := by
  rintro pins s σ H xs us Q I r ⟨x, hx, F, d, r', sm, px, he, k⟩
  obtain ⟨ns, e1, he⟩ := map_some (show ((items d).bind fun ds => ds.mapM asI).map _ = some r' from he)
  subst he
  obtain ⟨ds, e2, e3⟩ := bindO e1
  obtain ⟨p, ys, rfl, hq, rs⟩ := px.items sm e2
  rw [mapM_asI e3] at rs
  have ey := reps_int rs
  subst hx
  obtain ⟨u, rfl, rx⟩ := r.one
  cases rx
  refine call_sum_walkG (walked I hc hq fun it us s₂ St rv W h0 hl kp => ?_)
  subst ey
  have hlen : us.toArray.size = ns.length := by rw [List.size_toArray, ← rv.length, List.length_map]
  refine ⟨it, _, _, _, _, St, fun i => ns.getD i 0, rfl, W, h0, hl, fun i v e => vals_at rv e, fun h' tk t' kk => ?_⟩
  rw [hlen, preSum_list ns _ (Nat.le_refl _), List.take_length]
  exact ⟨.int _, H, kp h' tk kk, ⟨t', rfl⟩, RepN.val0 sm (repInt _) k⟩
theorem boot_sum : bootBuiltins "sum" = some (.builtin "sum") := by decide +kernel
theorem sx_sum {x : Str} {p' : Pos} (hx : x = "sum") (hc : X.calm = true) (hg : Gl X x) (hm : X.mg x = none) (ha : SX X c a pa) (hs : starEach [a] X.env = (false, eval a X.env) :: starEach [] X.env := by rfl) : SX X c (.Call (.Name x p') [a] [] pos) (.blt .sum [pa]) := by
  subst hx; exact sx_b1 (fun h => pe_callB (c_sum hc) hg hm boot_sum h (he := hs)) ha (fun ρ => by rw [HH.ev]) rfl hs
theorem flat_V {K : PySem.W.Frag} {F H : Hp} {v : V} {d : D} (h : PRep K F H v d) (f : flat d = true) : flatV v = true := by
  cases d with
  | non => rw [h.non]; rfl
  | bl _ => rw [h.bl]; rfl
  | int _ => rw [h.int]; rfl
  | str _ => rw [h.str]; rfl
  | tup _ => cases f
  | lst _ => cases f
theorem eq_V {K : PySem.W.Frag} {F H : Hp} {v u : V} {d e : D} (h : PRep K F H v d) (h' : PRep K F H u e) (f : flat d = true) (g : flat e = true) : eqV v u = peq d e := by
  cases d with
  | tup _ => cases f
  | lst _ => cases f
  | non => rw [h.non]; cases e with
    | tup _ => cases g
    | lst _ => cases g
    | non => rw [h'.non]; rfl
    | bl _ => rw [h'.bl]; rfl
    | int _ => rw [h'.int]; rfl
    | str _ => rw [h'.str]; rfl
  | bl _ => rw [h.bl]; cases e with
    | tup _ => cases g
    | lst _ => cases g
    | non => rw [h'.non]; rfl
    | bl _ => rw [h'.bl]; rfl
    | int _ => rw [h'.int]; rfl
    | str _ => rw [h'.str]; rfl
  | int _ => rw [h.int]; cases e with
    | tup _ => cases g
    | lst _ => cases g
    | non => rw [h'.non]; rfl
    | bl _ => rw [h'.bl]; rfl
    | int _ => rw [h'.int]; rfl
    | str _ => rw [h'.str]; rfl
  | str _ => rw [h.str]; cases e with
    | tup _ => cases g
    | lst _ => cases g
    | non => rw [h'.non]; rfl
    | bl _ => rw [h'.bl]; rfl
    | int _ => rw [h'.int]; rfl
    | str _ => rw [h'.str]; rfl
theorem in_V {K : PySem.W.Frag} {F H : Hp} {v : V} {d : D} (h : PRep K F H v d) (f : flat d = true) : ∀ {ds : List D} {vs : List V}, Reps K F vs ds → ds.all flat = true → vs.all flatV = true ∧ inV v vs = ds.any fun y => peq y d
  | [], vs, r, _ => by rw [r.unnil]; exact ⟨rfl, rfl⟩
  | e :: ds, vs, r, g => by
    obtain ⟨w, ws, rfl, h1, t⟩ := r.uncons
    rw [List.all_cons, Bool.and_eq_true] at g
    obtain ⟨i1, i2⟩ := in_V h f t g.2
    have q : PRep K F H w e := .inl h1
    refine ⟨by rw [List.all_cons, flat_V q g.1, i1]; rfl, ?_⟩
    unfold inV at i2 ⊢
    rw [List.any_cons, List.any_cons, i2, eq_V q h g.1 f]
theorem op_innD : OpR X (compareOp .In) (rD X.K (cmR .inn)) := by
  rintro pins s σ H x y v u Q I rx ry ⟨F, d, e, r, sm, px, py, he, k⟩
  obtain ⟨t, e1, e2⟩ := map_some (show (cmIn false d e).map _ = some r from he)
  subst e2
  obtain ⟨ds, e3, e4⟩ := bindO e1
  obtain ⟨hf, e5⟩ := ite_some e4
  rw [Bool.and_eq_true] at hf
  obtain ⟨p, xs, rfl, hq, rs⟩ := py.items sm e3
  obtain ⟨i1, i2⟩ := in_V px hf.1 rs hf.2
  subst e5
  refine op_in_seq pins s σ H x _ v u Q I rx ry ⟨p, xs, rfl, hq, flat_V px hf.1, i1, ?_⟩
  rw [i2]
  exact RepN.val0 sm (repBl _) k
end
end HH
end
section
set_option linter.all false
set_option Elab.async false
set_option maxRecDepth 100000
namespace HH
open PySem
section
variable {i j : Int} {ds es : List D} {d : D} {b b' : Bool}
@[simp] theorem op2_shl : op2 .shl = opShl := rfl
@[simp] theorem op2_shr : op2 .shr = opShr := rfl
@[simp] theorem op2_band : op2 .band = opBand := rfl
@[simp] theorem opShl_int : opShl (.int i) (.int j) = if 0 ≤ j ∧ j ≤ 1000 ∧ i.natAbs < 18446744073709551616 then some (.val (.int (i * 2 ^ j.toNat))) else none := rfl
@[simp] theorem opShr_int : opShr (.int i) (.int j) = if 0 ≤ j then some (.val (.int (i / 2 ^ j.toNat))) else none := rfl
@[simp] theorem opBand_int : opBand (.int i) (.int j) = some (.val (.int (Builtin.bitAnd i j))) := rfl
@[simp] theorem opMul_lst : opMul (.lst ds) (.int i) = if 0 ≤ i ∧ 0 < ds.length ∧ ds.length * i.toNat ≤ lim then some (.own (List.replicate i.toNat ds).flatten) else none := rfl
@[simp] theorem opMul_tup : opMul (.tup ds) (.int i) = if 0 ≤ i ∧ 0 < ds.length ∧ ds.length * i.toNat ≤ lim then some (.val (.tup (List.replicate i.toNat ds).flatten)) else none := rfl
@[simp] theorem cm_isT : cm .isT (.bl b) (.bl true) = some b := rfl
@[simp] theorem cm_notT : cm .notT (.bl b) (.bl true) = some (!b) := rfl
@[simp] theorem blt_sum : blt .sum [.lst ds] = (ds.mapM asI).map fun ns => .val (.int ns.sum) := rfl
@[simp] theorem blt_minL : blt .minL [.lst ds] = (ds.mapM asI).bind fun ns => ns.min?.map fun i => .val (.int i) := rfl
@[simp] theorem blt_maxL : blt .maxL [.lst ds] = (ds.mapM asI).bind fun ns => ns.max?.map fun i => .val (.int i) := rfl
end
@[simp] theorem q_ex17 : type_of% @HH.ex.eq_17 := @HH.ex.eq_17
@[simp] theorem q_ex18 : type_of% @HH.ex.eq_18 := @HH.ex.eq_18
@[simp] theorem q_ex19 : type_of% @HH.ex.eq_19 := @HH.ex.eq_19
@[simp] theorem q_ex20 : type_of% @HH.ex.eq_20 := @HH.ex.eq_20
@[simp] theorem q_ex21 : type_of% @HH.ex.eq_21 := @HH.ex.eq_21
theorem mapM_int {ns : List Int} : (ns.map D.int).mapM asI = some ns := by
  induction ns with
  | nil => rfl
  | cons n ns ih => simp [ih]
@[simp] theorem mapM_intc {ns : List Int} : ns.mapM (asI ∘ D.int) = some ns := by
  rw [← mapM_int (ns := ns), List.mapM_map]
@[simp] theorem mapM_blc {bs : List Bool} : bs.mapM (asB ∘ D.bl) = some bs := by
  induction bs with
  | nil => rfl
  | cons b bs ih => simp [ih]
theorem any_int {S : List Int} {i : Int} : ((S.map D.int).any fun y => peq y (.int i)) = S.contains i := by
  induction S with
  | nil => rfl
  | cons s S ih =>
    rw [List.map_cons, List.any_cons, List.contains_cons, ih, peq]
    rw [show (s == i) = (i == s) from Bool.eq_iff_iff.mpr ⟨fun h => by simp at h ⊢; exact h.symm, fun h => by simp at h ⊢; exact h.symm⟩]
theorem all_flat {S : List Int} : (S.map D.int).all flat = true := by
  rw [List.all_eq_true]; intro d hd; obtain ⟨i, _, rfl⟩ := List.mem_map.mp hd; rfl
theorem in_lst {S : List Int} {i : Int} : cm .inn (.int i) (.lst (S.map D.int)) = some (S.contains i) := by
  show cmIn false _ _ = _
  unfold cmIn
  simp only [items_lst, Option.bind_some, flat_int, all_flat, Bool.and_true, any_int]
  rfl
theorem in_tup {S : List Int} {i : Int} : cm .inn (.int i) (.tup (S.map D.int)) = some (S.contains i) := by
  show cmIn false _ _ = _
  unfold cmIn
  simp only [items_tup, Option.bind_some, flat_int, all_flat, Bool.and_true, any_int]
  rfl
theorem notin_lst {S : List Int} {i : Int} : cm .notin (.int i) (.lst (S.map D.int)) = some (!S.contains i) := by
  show cmIn true _ _ = _
  unfold cmIn
  simp only [items_lst, Option.bind_some, flat_int, all_flat, Bool.and_true, any_int]
  rfl
theorem notin_tup {S : List Int} {i : Int} : cm .notin (.int i) (.tup (S.map D.int)) = some (!S.contains i) := by
  show cmIn true _ _ = _
  unfold cmIn
  simp only [items_tup, Option.bind_some, flat_int, all_flat, Bool.and_true, any_int]
  rfl
theorem dle_int {n : Nat} {S : List Int} : dle (n + 1) (.lst (S.map D.int)) = true := by
  rw [dle, List.all_eq_true]; intro d hd; obtain ⟨i, _, rfl⟩ := List.mem_map.mp hd; cases n <;> rfl
theorem peqs_int : ∀ {S T : List Int}, peqs (S.map D.int) (T.map D.int) = (S == T)
  | [], [] => by simp [peqs]
  | [], _ :: _ => by simp [peqs]
  | _ :: _, [] => by simp [peqs]
  | s :: S, t :: T => by
    rw [List.map_cons, List.map_cons, peqs, peqs_int, peq]; rfl
theorem eq_ints {S T : List Int} : cm .eq (.lst (S.map D.int)) (.lst (T.map D.int)) = some (S == T) := by
  show cmEq _ _ = _
  unfold cmEq
  rw [dle_int, dle_int, peq, peqs_int]; rfl
theorem ne_ints {S T : List Int} : cm .ne (.lst (S.map D.int)) (.lst (T.map D.int)) = some (!(S == T)) := by
  show cmNe _ _ = _
  unfold cmNe
  rw [dle_int, dle_int, peq, peqs_int]; rfl
theorem eq_nilI {S : List Int} : cm .eq (.lst (S.map D.int)) (.lst []) = some S.isEmpty := by
  rw [show (.lst [] : D) = .lst (([] : List Int).map D.int) from rfl, eq_ints]
  cases S <;> rfl
theorem ne_nilI {S : List Int} : cm .ne (.lst (S.map D.int)) (.lst []) = some (!S.isEmpty) := by
  rw [show (.lst [] : D) = .lst (([] : List Int).map D.int) from rfl, ne_ints]
  cases S <;> rfl
theorem at_last {α : Type} {l : List α} {x : α} : at' (l ++ [x]) (-1) = some x := by
  unfold at' ixN
  rw [if_neg (by decide), if_pos (by simp only [List.length_append, List.length_singleton]; omega)]
  have : (-1 + ((l ++ [x]).length : Int)).toNat = l.length := by simp only [List.length_append, List.length_singleton]; omega
  rw [this]; simp
theorem at_map {α : Type} {l : List α} {f : α → D} {k : Nat} {x : α} (h : l[k]? = some x) : at' (l.map f) (k : Int) = some (f x) := by
  have hk := (List.getElem?_eq_some_iff.mp h).1
  rw [at_ofNat (by simpa using hk), List.getElem?_map, h]; rfl
theorem ix_nat {n k : Nat} (h : k < n) : ixN n (k : Int) = some k := by
  unfold ixN; rw [if_pos (by omega), if_pos (by omega)]; simp
theorem at_some {α : Type} {l : List α} {i : Int} (h : 0 ≤ i) (h' : i < l.length) : ∃ x, at' l i = some x ∧ x ∈ l := by
  rw [at_nat h h']
  have hk : i.toNat < l.length := by omega
  exact ⟨l[i.toNat], by simp [hk], List.getElem_mem hk⟩
theorem sat_forR {is : List Nat} {one : Bool} {body : List Sl → Res Fl} {g : Nat → D} {N : Nat} (J : Nat → List Sl → Prop) {Q : Fl → List Sl → Prop} (hb : ∀ i ρ, i < N → J i ρ → ∃ ρ1, bindF ρ is one (g i) = some ρ1 ∧ (body ρ1).sat fun fl ρ2 => match fl with
      | .next => J (i + 1) ρ2
      | .cont => J (i + 1) ρ2
      | .brk => Q .next ρ2
      | .ret v => Q (.ret v) ρ2) (hq : ∀ ρ, J N ρ → Q .next ρ) {ρ : List Sl} (h0 : J 0 ρ) : (forT is one body ((List.range N).map g) ρ).sat Q := by
  refine sat_forT (fun r ρ => ∃ i, i ≤ N ∧ r = ((List.range N).map g).drop i ∧ J i ρ) ?_ ?_ ⟨0, Nat.zero_le _, rfl, h0⟩
  · rintro d r ρ ⟨i, hi, e, j⟩
    have hlt : i < N := by
      rcases Nat.lt_or_ge i N with h | h
      · exact h
      · rw [List.drop_eq_nil_of_le (by simpa using h)] at e; cases e
    rw [List.drop_eq_getElem_cons (by simpa using hlt)] at e
    injection e with e1 e2
    simp at e1
    subst e1
    obtain ⟨ρ1, h1, h2⟩ := hb i ρ hlt j
    refine ⟨ρ1, h1, h2.imp fun fl ρ2 q => ?_⟩
    cases fl with
    | next => exact ⟨i + 1, hlt, e2, q⟩
    | cont => exact ⟨i + 1, hlt, e2, q⟩
    | brk => exact q
    | ret v => exact q
  · rintro ρ ⟨i, hi, e, j⟩
    have : i = N := by
      have hl := congrArg List.length e
      simp at hl
      omega
    subst this
    exact hq ρ j
theorem sat_compA {c : Call} {is : List Nat} {one : Bool} {elt : P} {t : Option P} (J : List Sl → Prop) (P : D → Prop) {Q : List D → List Sl → Prop} {ds : List D} {ρ : List Sl} (j : J ρ)
    (h : ∀ d, d ∈ ds → ∀ ρ, J ρ → ∃ ρ1, bindF ρ is one d = some ρ1 ∧ (evT c t ρ1).sat fun b ρ2 => if b = true then (ev c elt ρ2).sat fun r ρ3 => P r.d ∧ J ρ3 else J ρ2) (k : ∀ xs ρ, J ρ → xs.length ≤ ds.length → (∀ x ∈ xs, P x) → Q xs ρ) : (compT c is one t elt ds ρ).sat Q := by
  suffices hh : ∀ (ds : List D) (acc : List D) (ρ : List Sl), J ρ → (∀ x ∈ acc, P x) → (∀ d, d ∈ ds → ∀ ρ, J ρ → ∃ ρ1, bindF ρ is one d = some ρ1 ∧ (evT c t ρ1).sat fun b ρ2 => if b = true then (ev c elt ρ2).sat fun r ρ3 => P r.d ∧ J ρ3 else J ρ2) →
      (turns is one (evT c t) (ev c elt) ds acc ρ).sat fun xs ρ => J ρ ∧ (∀ x ∈ xs, P x) ∧ xs.length ≤ acc.length + ds.length from
    (hh ds [] ρ j (by simp) h).imp fun xs ρ ⟨q1, q2, q3⟩ => k xs ρ q1 (by simpa using q3) q2
  intro ds
  induction ds with
  | nil => intro acc ρ j ha _; rw [turns]; exact ⟨j, ha, by simp⟩
  | cons d r ih =>
    intro acc ρ j ha h
    obtain ⟨ρ1, e, h1⟩ := h d (by simp) ρ j
    rw [turns, e]
    show ((evT c t ρ1).bind _).sat _
    rw [sat_bind]
    refine h1.imp fun b ρ2 q => ?_
    cases b with
    | true =>
      rw [if_pos rfl] at q
      rw [if_pos rfl, sat_bind]
      refine q.imp fun x ρ3 ⟨p, j3⟩ => ?_
      refine (ih (acc ++ [x.d]) ρ3 j3 (fun y hy => ?_) fun d' hd' => h d' (by simp [hd'])).imp fun xs ρ ⟨q1, q2, q3⟩ => ⟨q1, q2, by simp at q3 ⊢; omega⟩
      rcases List.mem_append.mp hy with hy | hy
      · exact ha y hy
      · rw [List.mem_singleton.mp hy]; exact p
    | false =>
      rw [if_neg (by simp)] at q
      rw [if_neg (by simp)]
      exact (ih acc ρ2 q ha fun d' hd' => h d' (by simp [hd'])).imp fun xs ρ ⟨q1, q2, q3⟩ => ⟨q1, q2, by simp at q3 ⊢; omega⟩
theorem sat_compN {c : Call} {is : List Nat} {one : Bool} {elt : P} (J : List Sl → Prop) (P : D → Prop) {Q : List D → List Sl → Prop} {ds : List D} {ρ : List Sl} (j : J ρ)
    (h : ∀ d, d ∈ ds → ∀ ρ, J ρ → ∃ ρ1, bindF ρ is one d = some ρ1 ∧ (ev c elt ρ1).sat fun r ρ3 => P r.d ∧ J ρ3) (k : ∀ xs ρ, J ρ → xs.length = ds.length → (∀ x ∈ xs, P x) → Q xs ρ) : (compT c is one none elt ds ρ).sat Q := by
  suffices hh : ∀ (ds : List D) (acc : List D) (ρ : List Sl), J ρ → (∀ x ∈ acc, P x) → (∀ d, d ∈ ds → ∀ ρ, J ρ → ∃ ρ1, bindF ρ is one d = some ρ1 ∧ (ev c elt ρ1).sat fun r ρ3 => P r.d ∧ J ρ3) →
      (turns is one (evT c none) (ev c elt) ds acc ρ).sat fun xs ρ => J ρ ∧ (∀ x ∈ xs, P x) ∧ xs.length = acc.length + ds.length from
    (hh ds [] ρ j (by simp) h).imp fun xs ρ ⟨q1, q2, q3⟩ => k xs ρ q1 (by simpa using q3) q2
  intro ds
  induction ds with
  | nil => intro acc ρ j ha _; rw [turns]; exact ⟨j, ha, by simp⟩
  | cons d r ih =>
    intro acc ρ j ha h
    obtain ⟨ρ1, e, h1⟩ := h d (by simp) ρ j
    rw [turns, e]
    show ((evT c none ρ1).bind _).sat _
    rw [evT]
    show ((ev c elt ρ1).bind _).sat _
    rw [sat_bind]
    refine h1.imp fun x ρ3 ⟨p, j3⟩ => ?_
    refine (ih (acc ++ [x.d]) ρ3 j3 (fun y hy => ?_) fun d' hd' => h d' (by simp [hd'])).imp fun xs ρ ⟨q1, q2, q3⟩ => ⟨q1, q2, by simp at q3 ⊢; omega⟩
    rcases List.mem_append.mp hy with hy | hy
    · exact ha y hy
    · rw [List.mem_singleton.mp hy]; exact p
end HH
end
section
set_option linter.all false
set_option Elab.async false
set_option maxRecDepth 100000
namespace HH
open PySem L2 PySem.Spec PyProof.Rows
section
variable {X : Cx} {c : Call} {n : Nat} {e a b d tg : Expr} {p pa pb pd : P} {pos : Pos}
theorem ss_unp {g : TG} {is : List Nat} (he : SX X c e p) (hg : PG X tg g) (hgo : TGok X.K (fun ρ d => bindF ρ is false d) g) (hs : swapsWithSole [tg] e pos.line X.env = pure false := by rfl) (hw : swappedStores [tg] e X.env = pure none := by rfl)
    (h1 : (assignEach [tg] X.env).map (·.2) = [assign tg X.env] := by rfl) : SS X c n (.Assign [tg] e pos) (.unp is p) := by
  refine psImp (ps_asg he.ev hg hs hw h1) ?_
  rintro D σ H ⟨F, ρ, fl, ρ', g0, e, k⟩
  rw [ex] at e
  obtain ⟨r, ρ1, e1, e⟩ := bind_ok e
  refine ⟨F, ρ, r, ρ1, g0, e1, fun v F1 H1 s1 rr => ?_⟩
  obtain ⟨F2, s2, _, rp⟩ := s1.frz rr
  split at e
  · rename_i ds hd
    obtain ⟨ρ2, ρ3, e2, e⟩ := bind_ok e
    cases e
    have zz := lift_ok e2; clear e2; obtain ⟨e2, e3⟩ := zz
    rw [hd] at rp
    exact hgo v (.tup ds) F2 ρ1 _ σ H1 _ s2.gs rp (by show bindF ρ1 is false (.tup ds) = _; cases is <;> exact e2) fun σ' s3 => k F2 σ' H1 (s2.trans s3)
  · cases e
end
end HH
end
section
set_option linter.all false
set_option Elab.async false
set_option maxRecDepth 100000
namespace HH
open PySem L2 PySem.Spec PyProof.Rows
section
variable {X : Cx} {c : Call} {n : Nat} {e a b d elt tg : Expr} {p pa pb pe : P} {pos : Pos} {elts : List Expr} {x1 : Nat} {tp : Pos}
variable {scope : Scope} {N' : List Str} {ifs : List Expr} {iter : Expr}
end
end HH
end
section
set_option linter.all false
set_option Elab.async false
set_option maxRecDepth 100000
namespace HH
open PySem L2 PySem.Spec PyProof.Rows
section
variable {prog : Program} {w : World} {A : Around} {R : Result → Shared → Prop} {I : Addr} {fp wr : List Addr} {m : Nat} {P : Nat → Value → Prop} {Sx : Nat → Heap → Prop} {dv : Value}
end
section
variable {prog : Program} {w : World} {A : Around} {E : Value → Shared → Prop} {s : Shared}
end
section
variable {X : Cx} {c : Call} {n : Nat} {e a b : Expr} {p pa pb : P} {pos : Pos}
end
end HH
end
section
set_option linter.all false
set_option Elab.async false
set_option maxRecDepth 100000
namespace HT
open PySem PySem.Spec PyProof.Rows
section
variable {prog : Program} {w : World} {A : Around} {E : Value → Shared → Prop} {s : Shared}
theorem whole_tuple {t sl : Addr} {its : Array Value} {vl vu : Value} {lo hi : Option Int} {Q : Value → Shared → Prop} (ht : IsTup s.heap t its) (hs : s.heap.IsSliceOf sl vl vu .none) (pl : IsPart vl lo) (pu : IsPart vu hi)
    (h1 : sIx its.size 0 lo = 0) (h2 : sIx its.size its.size hi = its.size) (h : Q (.ref t) s) : wpAny (model prog w) A (getItem (.ref t) (.ref sl)) Q E s := by
  obtain ⟨os, hos, hcs, hds⟩ := id hs
  have hT : s.TypeIs (.ref sl) "slice" := ⟨os, hos, hcs⟩
  unfold getItem
  try with_reducible refine wpAny_holding ?_
  first | refine wpAny_bind (wpAny_pure ?_) | skip
  refine wpAny_bind (wpAny_sequenceKey ht.typeIs (by decide) (wpAny_bind (wpAny_callSpecial?_slot (name := Str.ofString "__getitem__") ht.typeIs slot_tuple_getitem (wpAny_call_entry slot_tuple_getitem ht.typeIs entry_tuple_getitem ?_ (args_tuple_getitem _ _)))))
  show wpAny _ _ (Builtin.Tuple.tupleItemsOf (.ref t) >>= _) _ _ s
  refine wpAny_bind (tupleItemsOf_ ht (wpAny_bind (wpAny_typeOf hT ?_)))
  rw [if_pos (by decide)]
  refine wpAny_bind (sliceApplied_gen hs pl pu ?_)
  have hyes : ((((sIx its.size 0 lo : Nat) : Int) == 0 && (1 : Int) == 1 && (sIx its.size its.size hi - sIx its.size 0 lo) == its.size) = true) := by rw [h1, h2]; simp
  show wpAny _ _ (if (((sIx its.size 0 lo : Nat) : Int) == 0 && (1 : Int) == 1 && (sIx its.size its.size hi - sIx its.size 0 lo) == its.size) = true then _ else _) _ _ s
  rw [if_pos hyes]
  unfold Builtin.Tuple.tupleIsExact
  refine wpAny_bind (wpAny_bind (wpAny_typeOf ht.typeIs (wpAny_pure ?_)))
  rw [if_pos (by decide)]
  exact wpAny_bind (wpAny_rule (wpAny_pure ⟨_, rfl, wpAny_pure h⟩))
end
end HT
namespace HH
open PySem L2 PySem.Spec PyProof.Rows
noncomputable def nst : Expr → Bool
  | .Starred _ _ => false
  | _ => true
theorem starEach_nst {e : Expr} {es : List Expr} {env : Env} (h : nst e = true) : starEach (e :: es) env = (false, eval e env) :: starEach es env := by
  cases e with
  | Starred a b => cases h
  | _ => rw [starEach]; (intro e p z; cases z)
noncomputable def dropInts : List Int → List Expr → Option (List Expr)
  | [], es => some es
  | i :: is, .Constant (.int j) _ _ :: es => if i = j then dropInts is es else none
  | _, _ => none
theorem sa_preI {X : L2.Cx} {c : Call} : ∀ (is : List Int) {es es' : List Expr} {ps' : List P}, dropInts is es = some es' → SA X c es' ps' → SA X c es (is.map (fun i => P.con (.int i)) ++ ps')
  | [], es, es', ps', h, r => by cases h; exact r
  | i :: is, [], es', ps', h, r => by cases h
  | i :: is, e :: es, es', ps', h, r => by
    cases e with
    | Constant v k p =>
      cases v with
      | int j =>
        rw [dropInts] at h
        split at h
        · rename_i hij
          subst hij
          exact sa_cons sx_int (sa_preI is h r) (starEach_nst rfl)
        · cases h
      | _ => cases h
    | _ => cases h
theorem sIx_eq {n d : Nat} {o : Option Int} : HT.sIx n d o = HH.sIx n d o := by
  cases o with
  | none => rfl
  | some v =>
    show (if v < 0 then (v + (n : Int)).toNat else min v.toNat n) = (if 0 ≤ v then min v.toNat n else (v + n).toNat)
    by_cases h : 0 ≤ v
    · rw [if_pos h, if_neg (by omega)]
    · rw [if_neg h, if_pos (by omega)]
theorem cut_eq {xs : List V} {lo hi : Option Int} : cutV xs lo hi = HH.cut xs lo hi := by
  unfold cutV HH.cut; rw [sIx_eq, sIx_eq]
theorem Reps.cut {K : PySem.W.Frag} {F : Hp} {ds : List D} {vs : List V} {lo hi : Option Int} (h : Reps K F vs ds) : Reps K F (HH.cut vs lo hi) (HH.cut ds lo hi) := by
  unfold HH.cut; rw [h.length]; exact (h.drop _).take _
section
variable {X : Cx} {c : Call} {n : Nat} {e a b : Expr} {p pa pb pl ph : P} {pos p2 : Pos} {lo hi : Option Expr}
noncomputable def rSlD (K : PySem.W.Frag) : V → Option Int → Option Int → Hp → VK → Prop := fun x lo hi H Q => ∃ F d r, Same F H ∧ PRep K F H x d ∧ sl3 d (some lo) (some hi) = some r ∧ ∀ v F' H', Ext F H F' H' → RepN K F' H' H v r → Q v H'
theorem sl_D : SlR X (rSlD X.K) := by
  rintro pins s σ H x v vl vu lo hi sl Q I rx hs pl pu ⟨F, d, r, sm, px, he, k⟩
  cases d with
  | lst ds =>
    cases he
    obtain ⟨a, xs, rfl, hq, rs⟩ := px.lst sm
    refine sl_list pins s σ H _ v vl vu lo hi sl Q I rx hs pl pu ⟨a, xs, rfl, hq, fun p hp => ?_⟩
    rw [cut_eq]
    exact newL sm rs.cut hp k
  | tup ds =>
    cases he
    obtain ⟨a, xs, rfl, hq, rs, rt⟩ := px.tup sm
    by_cases hw : HT.sIx xs.length 0 lo = 0 ∧ HT.sIx xs.length xs.length hi = xs.length
    · cases rx
      obtain ⟨its, rv, ht, hz⟩ := I.tuple hq
      have hlen : its.toArray.size = xs.length := by rw [List.size_toArray]; exact rv.length.symm
      refine ⟨"tuple", _, slot_tuple_getitem.lookup, ht.typeIs, HT.whole_tuple ht hs pl pu (by rw [hlen]; exact hw.1) (by rw [hlen]; exact hw.2) ⟨.ref a, H, I, rfl, ?_⟩⟩
      have hc : HH.cut ds lo hi = ds := by
        unfold HH.cut
        rw [← rs.length, ← sIx_eq, ← sIx_eq, hw.1, hw.2]; simp [rs.length]
      rw [hc] at k
      exact RepN.val0 sm rt k
    · refine sl_tup pins s σ H _ v vl vu lo hi sl Q I rx hs pl pu ⟨a, xs, rfl, hq, hw, fun p hp => ?_⟩
      rw [cut_eq]
      exact newT sm rs.cut hp k
  | _ => cases he
noncomputable def SO (X : Cx) (c : Call) (o : Option Expr) (p : P) : Prop := ∃ t, PO X o t ∧ ∀ {σ : L2.St} {H F : Hp} {ρ ρ' : List Sl} {d : D} {i : Option Int} {Q : Option Int → Hp → Prop}, GS X.K F ρ σ H → opd (isVar p) (HH.ev c p) ρ = .ok d ρ' → part p d = some i → (∀ F' H', Stp X.K F ρ σ H F' ρ' σ H' → Q i H') → t σ H Q
theorem so_none : SO X c none (.con .non) := by
  refine ⟨_, po_none, fun {σ H F ρ ρ' d i Q} g e h k => ?_⟩
  cases (show some none = some i from h)
  have e' : (HH.ev c (.con .non) ρ).bind (fun r ρ => .ok r.d ρ) = .ok d ρ' := e
  clear e
  rw [HH.ev] at e'
  cases e'
  exact k F H (.refl g)
theorem so_some (h : SX X c e p) (hn : isNC p = false := by rfl) : SO X c (some e) p := by
  obtain ⟨t, h1, h2⟩ := h.opd
  refine ⟨_, po_some h1, fun {σ H F ρ ρ' d i Q} g e hp k => ?_⟩
  unfold part at hp
  rw [hn, if_neg (by decide)] at hp
  obtain ⟨j, e1, e2⟩ := map_some hp
  cases asI_some e1
  subst e2
  exact h2 g e fun v F' H' s pv => ⟨j, pv.int, k F' H' s⟩
theorem sl3_some {d : D} {x y : Option (Option Int)} {r : R} (h : sl3 d x y = some r) : ∃ lo hi, x = some lo ∧ y = some hi := by
  cases x with
  | none => cases d <;> cases h
  | some lo => cases y with
    | none => cases d <;> cases h
    | some hi => exact ⟨lo, hi, rfl, rfl⟩
theorem sx_slice (ha : SX X c a pa) (hl : SO X c lo pl) (hh : SO X c hi ph) : SX X c (.Subscript a (.Slice lo hi none p2) pos) (.slice pa pl ph) := by
  obtain ⟨tl, l1, l2⟩ := hl
  obtain ⟨th, h1, h2⟩ := hh
  cases hv : isVar pa with
  | none =>
    refine ⟨peImp (pe_slice sl_D ha.ev l1 h1) ?_, fun i h => by cases h⟩
    rintro σ H Q ⟨F, ρ, r, ρ', g, e, k⟩
    rw [HH.ev, hv] at e
    obtain ⟨x, ρ1, e1', ea⟩ := bind_ok e; clear e
    have e1'' : (HH.ev c pa ρ).bind (fun r ρ => .ok r.d ρ) = .ok x ρ1 := e1'
    clear e1'
    obtain ⟨rx, ρ1', e1, e0⟩ := bind_ok e1''; clear e1''
    cases e0
    obtain ⟨y, ρ2, e2, eb⟩ := bind_ok ea; clear ea
    obtain ⟨z, ρ3, e3, ec⟩ := bind_ok eb; clear eb
    obtain ⟨e, e4⟩ := lift_ok ec; clear ec
    subst e4
    obtain ⟨lo', hi', q1, q2⟩ := sl3_some e
    rw [q1, q2] at e
    refine ⟨F, ρ, rx, _, g, e1, fun v F1 H1 s1 rr => ?_⟩
    obtain ⟨F2, s2, _, rp⟩ := s1.frz rr
    refine l2 s2.gs e2 q1 fun F3 H3 s3 => h2 s3.gs e3 q2 fun F4 H4 s4 => ?_
    have s5 := s2.trans (s3.trans s4)
    refine ⟨F4, _, r, s4.gs.sub, .inl ((rp.mono s3.fsub).mono s4.fsub), e, fun v F5 H5 x rn => ?_⟩
    exact k v F5 H5 (s5.trans (x.stp s5.gs)) (.later s5 (rn.repR s5.gs))
  | some i =>
    refine ⟨peImp (pe_slice sl_D (ha.var i hv) l1 h1) ?_, fun i h => by cases h⟩
    rintro σ H Q ⟨F, ρ, r, ρ', g, e, k⟩
    rw [HH.ev, hv] at e
    obtain ⟨x0, ρ0, e0', ea⟩ := bind_ok e; clear e
    obtain ⟨e0, e01⟩ := lift_ok e0'; clear e0'
    subst e01
    obtain ⟨y, ρ2, e2, eb⟩ := bind_ok ea; clear ea
    obtain ⟨z, ρ3, e3, ec⟩ := bind_ok eb; clear eb
    obtain ⟨x, ρ4, e5', ed⟩ := bind_ok ec; clear ec
    obtain ⟨e5, e6⟩ := lift_ok e5'; clear e5'
    subst e6
    obtain ⟨e, e4⟩ := lift_ok ed; clear ed
    subst e4
    obtain ⟨lo', hi', q1, q2⟩ := sl3_some e
    rw [q1, q2] at e
    obtain ⟨v, hv1, _⟩ := g.pk e0
    refine ⟨v, hv1, l2 g e2 q1 fun F3 H3 s3 => h2 s3.gs e3 q2 fun F4 H4 s4 => ?_⟩
    have s5 := s3.trans s4
    obtain ⟨v', hv2, pv⟩ := s5.gs.pk e5
    rw [hv1] at hv2; cases hv2
    refine ⟨F4, _, r, s4.gs.sub, pv, e, fun v F5 H5 x rn => ?_⟩
    exact k v F5 H5 (s5.trans (x.stp s5.gs)) (.later s5 (rn.repR s5.gs))
end
end HH
end
section
set_option linter.all false
set_option Elab.async false
set_option maxRecDepth 100000
namespace PySem
namespace F
end F
section
variable {prog : Program} {w : World} {A : Around} {E : Value → Shared → Prop} {s : Shared}
end
section
variable {prog : Program} {w : World} {A : Around} {E : Value → Shared → Prop} {s : Shared}
end
section
variable {prog : Program} {w : World} {A : Around} {E : Value → Shared → Prop} {s : Shared}
end
section
variable {prog : Program} {w : World} {A : Around} {E : Value → Shared → Prop} {s : Shared}
end
end PySem
end
section
set_option linter.all false
set_option Elab.async false
set_option maxRecDepth 100000
namespace L2
open PySem PySem.Spec PyProof.Rows
section
variable {X : Cx} {tg : Expr}
end
end L2
namespace HH
open PySem L2 PySem.Spec PyProof.Rows
section
variable {K : PySem.W.Frag} {F F1 H H1 : Hp} {ρ ρ1 : List Sl} {σ : L2.St} {ds : List D} {a : Addr}
end
section
variable {X : Cx} {c : Call} {e a tg : Expr} {pa : P} {pos : Pos}
end
section
variable {X : Cx} {c : Call} {a b d : Expr} {pa pb pd : P} {pos : Pos}
theorem st_chain {o o' : Cm} {op op' : CmpOp} (ho : OpR X (compareOp op) (rD X.K (cmR o))) (ho' : OpR X (compareOp op') (rD X.K (cmR o'))) (ha : SX X c a pa) (hb : SX X c b pb) (hd : SX X c d pd)
    (hm : lastMarks [op, op'] [b, d] = false := by with_unfolding_all rfl) : ST X c (.Compare a [op, op'] [b, d] pos) (.chain o o' pa pb pd) := by
  obtain ⟨ta, tb, h1, h2, h3⟩ := ha.opd2 hb
  obtain ⟨td, h4, h5⟩ := hd.opd
  refine ptImp (pt_chain ho ho' h1 h2 h4 hm) fun σ H Q q => tTr_of (t := tChain (rD X.K (cmR o)) (rD X.K (cmR o')) ta tb td) (fun Q z => ?_) q
  obtain ⟨F, ρ, r, ρ', g, e, k⟩ := z
  rw [HH.ev] at e
  obtain ⟨xy, ρ1, e1, e⟩ := bind_ok e
  obtain ⟨t, ρ2, e2, e⟩ := bind_ok e
  have zz := lift_ok e2; clear e2; obtain ⟨e2, e3⟩ := zz
  subst e3
  have hfl : flat xy.2 = true ∧ cm o xy.1 xy.2 = some t := by
    split at e2
    · rename_i hf; exact ⟨hf, e2⟩
    · cases e2
  obtain ⟨hfl, e2⟩ := hfl
  refine h3 g e1 fun v u F' H' s pv pu => ⟨F', xy.1, xy.2, .val (.bl t), s.gs.sub, pv, pu, by unfold cmR; rw [e2]; rfl, fun w F2 H2 x rn => ?_⟩
  have s2 := s.trans (x.stp s.gs)
  have rn : Rep X.K F2 w (.bl t) := rn
  rw [Rep] at rn
  subst rn
  refine ⟨t, rfl, ?_⟩
  cases t with
  | false =>
    rw [if_neg Bool.false_ne_true] at e ⊢
    cases e
    exact k _ F2 H2 s2 (show Rep X.K F2 _ _ from repBl _)
  | true =>
    rw [if_pos rfl] at e ⊢
    obtain ⟨z, ρ3, e3, e⟩ := bind_ok e
    obtain ⟨e4, e5⟩ := lift_ok e
    subst e5
    refine h5 s2.gs e3 fun w F3 H3 s3 pw => ⟨F3, xy.2, z, r, s3.gs.sub, ?_, pw, e4, fun w' F4 H4 x4 rn => ?_⟩
    · have x1 := x.fs
      have x2 := s3.fsub
      rcases pu with pu | ⟨_, _, _, _, _, _, h⟩
      · exact .inl ((pu.mono x1).mono x2)
      · rw [h] at hfl; cases hfl
    · have s4 := s2.trans s3
      exact k w' F4 H4 (s4.trans (x4.stp s4.gs)) (.later s4 (rn.repR s4.gs))
end
end HH
end
section
set_option linter.all false
set_option Elab.async false
set_option maxRecDepth 100000
namespace L2
open PySem PySem.Spec PyProof.Rows
noncomputable def ExcO (h : Heap) (e C : Addr) (tb : Value) : Prop := ∃ (o : Obj) (vs : Array Value), h.get? e = some o ∧ o.cls = .ref C ∧ o.data = .fields vs ∧ vs[1]? = some tb ∧ o.dict = none
theorem dict_mapF {f : Array Value → Array Value} {o : Obj} : (Obj.mapFields f o).dict = o.dict := by unfold Obj.mapFields; split <;> rfl
noncomputable def TbO (h : Heap) (T : Addr) (fl : Value) : Prop := ∃ (o : Obj) (ts : Array Value), h.get? T = some o ∧ o.data = .fields ts ∧ ts[3]? = some fl
noncomputable def tbL : Value → List Addr
  | .ref T => [T]
  | _ => []
structure But (fs ch : List Addr) (h h' : Heap) : Prop where
  keep : ∀ b o, h.get? b = some o → b ∉ ch → b ∉ fs → h'.get? b = some o
  slot : ∀ b o, h.get? b = some o → b ∉ ch → ∃ sl, h'.get? b = some { o with slots := sl }
theorem But.trans {fs ch : List Addr} {h h1 h2 : Heap} (a : But fs ch h h1) (b : But fs ch h1 h2) : But fs ch h h2 :=
  ⟨fun x o e n1 n2 => b.keep x o (a.keep x o e n1 n2) n1 n2, fun x o e n => by
    obtain ⟨sl, q⟩ := a.slot x o e n
    obtain ⟨sl', q'⟩ := b.slot x _ q n
    exact ⟨sl', q'⟩⟩
theorem But.more {fs ch ch' : List Addr} {h h' : Heap} (a : But fs ch h h') (s : ∀ b ∈ ch, b ∈ ch') : But fs ch' h h' :=
  ⟨fun x o e n => a.keep x o e fun z => n (s x z), fun x o e n => a.slot x o e fun z => n (s x z)⟩
theorem But.of_keep {fs ch : List Addr} {h h' : Heap} (k : ∀ b o, h.get? b = some o → b ∉ ch → h'.get? b = some o) : But fs ch h h' := ⟨fun b o e n _ => k b o e n, fun b o e n => ⟨o.slots, k b o e n⟩⟩
theorem But.set {fs : List Addr} (h : Heap) (a : Addr) (f : Obj → Obj) : But fs [a] h (h.update a f) := .of_keep fun b o e n => (Heap.get?_update_other _ _ (by simpa using Ne.symm (by simpa using n))).trans e
section
variable {M : Model} {A : Around} {E : Value → Shared → Prop} {s : Shared}
theorem ExcO.nofr {base : Heap} {l : List Env} {e C : Addr} {tb : Value} (hx : ExcO s.heap e C tb) (hl : s.heap.FunFrames base l) : e ∉ frs l := fun hm => by
  obtain ⟨o, vs, h1, _, h2, _⟩ := hx
  obtain ⟨_, o', h3, h4⟩ := hl.mem hm
  rw [h1] at h3; cases h3
  exact h4 vs h2
theorem entry_fine {base : Heap} {env : Env} {outer : List Env} {L e C : Addr} {tb head : Value} {hadNext : Bool} {Q : Unit → Shared → Prop} (hfr : A.frames = some (env :: outer)) (hl : s.heap.FunFrames base (env :: outer)) (hf : env.frame = some L) (hx : ExcO s.heap e C tb)
    (k : ∀ h' T, s.heap.objs.size ≤ T → T ≠ e → But (frs (env :: outer)) [e] s.heap h' → ExcO h' e C (.ref T) → TbO h' T (rawInt L) → Q () { s with heap := h' }) :
    wpAny M A (do let a ← frameOf env; let pl ← entryPlaceOf L hadNext; let b ← EntryCells.newEntry head a .none (rawInt L) .none pl; setField (.ref e) 1 b) Q E s := by
  have hne := hx.nofr hl
  obtain ⟨oe, vs, he, hcl, hd, h1, hdi⟩ := hx
  have hsz := (Array.getElem?_eq_some_iff.mp h1).1
  refine wpAny_bind (wpAny_frameOf_fun hfr hl hf fun h1' so => wpAny_bind (wpAny_entryPlaceOf fun pl hpl => ?_))
  unfold EntryCells.newEntry newFields
  refine wpAny_bind (wpAny_newObj_type ?_ (hpl.sizeOk5 _ _ _ _ _))
  have b1 : But (frs (env :: outer)) [e] s.heap h1' := ⟨fun b o q _ n => (so.2.1 b n).trans q, fun b o q _ => so.2.2 b o q⟩
  have he1 : h1'.get? e = some oe := (so.2.1 e hne).trans he
  generalize hO : ({ cls := .type "traceback", dict := none, data := .fields ([head, .ref L, .none, rawInt L, .none] ++ (if pl.isEmpty then List.replicate 6 Value.none else pl)).toArray } : Obj) = oT
  have he2 := Heap.get?_push_of_some (h := h1') oT he1
  refine wpAny_setField he2 hd hsz ?_
  have hTe : h1'.objs.size ≠ e := Nat.ne_of_gt (Heap.lt_size he1)
  have hd3 := Obj.data_mapFields hd (·.setIfInBounds 1 (Value.ref h1'.objs.size))
  have he3 := Heap.get?_update_self (Obj.mapFields (·.setIfInBounds 1 (Value.ref h1'.objs.size))) he2 (Obj.isFreed_of_fields hd3)
  have hT3 : ((h1'.push oT).update e (Obj.mapFields (·.setIfInBounds 1 (Value.ref h1'.objs.size)))).get? h1'.objs.size = some oT := by
    rw [Heap.get?_update_other _ _ (Ne.symm hTe)]
    exact Heap.get?_push_size h1' (by rw [← hO]; rfl)
  refine k _ h1'.objs.size ?_ hTe (b1.trans ((But.of_keep fun b o q _ => Heap.get?_push_of_some _ q).trans (But.set _ _ _))) ⟨_, _, he3, ?_, hd3, by simp [hsz], dict_mapF.trans hdi⟩ ⟨oT, _, hT3, by rw [← hO], ?_⟩
  · exact Nat.le_of_eq so.1.symm
  · rw [Obj.cls_mapFields]; exact hcl
  · first | (simp; done) | (rcases hpl with rfl | ⟨_, _, _, _, _, _, _, rfl⟩ <;> simp)
theorem note_fine {base : Heap} {env : Env} {outer : List Env} {L e C : Addr} {tb : Value} {Q : Unit → Shared → Prop} (hfr : A.frames = some (env :: outer)) (hl : s.heap.FunFrames base (env :: outer)) (hf : env.frame = some L) (hx : ExcO s.heap e C tb)
    (ht : tb = .none ∨ ∃ T, tb = .ref T ∧ T ≠ e ∧ TbO s.heap T .none)
    (k : ∀ h' T', s.heap.objs.size ≤ T' → T' ≠ e → But (frs (env :: outer)) (e :: tbL tb) s.heap h' → ExcO h' e C (.ref T') → TbO h' T' .none → Q () { s with heap := h' }) : wpAny M A (noteFrame (.ref e) env) (fun _ s2 => wpAny M A (setFlight (.ref e) none) Q E s2) E s := by
  have fin : ∀ (h2 : Heap) (T' : Addr), s.heap.objs.size ≤ T' → T' ≠ e → But (frs (env :: outer)) (e :: tbL tb) s.heap h2 → ExcO h2 e C (.ref T') → TbO h2 T' (rawInt L) → wpAny M A (setFlight (.ref e) none) Q E { s with heap := h2 } := by
    intro h2 T' n0 n2 b2 x2 t2
    have n1 : s.heap.get? T' = none := Heap.get?_none_of_le n0
    obtain ⟨o, vs, q1, q2, q3, q4, q5⟩ := x2
    obtain ⟨oT, ts, z1, z2, z3⟩ := t2
    unfold setFlight
    refine wpAny_bind (wpAny_field q1 q3 q4 ?_)
    rw [if_pos (show (Value.ref T' != Value.none) = true from by simp)]
    have hsz := (Array.getElem?_eq_some_iff.mp z3).1
    have hd := Obj.data_mapFields z2 (·.setIfInBounds 3 ((none : Option Addr).elim Value.none fun f => rawInt f))
    refine wpAny_setField z1 z2 hsz (k _ T' n0 n2 ⟨fun b o' e' n f => ?_, fun b o' e' n => ?_⟩ ⟨o, vs, ?_, q2, q3, q4, q5⟩ ⟨_, _, Heap.get?_update_self _ z1 (Obj.isFreed_of_fields hd), hd, by simp [hsz]⟩)
    · have : T' ≠ b := by rintro rfl; rw [n1] at e'; cases e'
      rw [Heap.get?_update_other _ _ this]; exact b2.keep b o' e' n f
    · have : T' ≠ b := by rintro rfl; rw [n1] at e'; cases e'
      obtain ⟨sl, q⟩ := b2.slot b o' e' n
      exact ⟨sl, by rw [Heap.get?_update_other _ _ this]; exact q⟩
    · rw [Heap.get?_update_other _ _ n2]; exact q1
  obtain ⟨o, vs, q1, q2, q3, q4, q5⟩ := id hx
  unfold noteFrame
  simp only [hf]
  refine wpAny_bind (wpAny_field q1 q3 q4 ?_)
  rcases ht with rfl | ⟨T, rfl, hTe, oT, ts, z1, z2, z3⟩
  · rw [if_neg (by decide)]
    exact entry_fine hfr hl hf hx fun h' T' n1 n2 b x t => fin h' T' n1 n2 b x t
  · rw [if_pos (show (Value.ref T != Value.none) = true from by simp)]
    refine wpAny_bind (wpAny_field z1 z2 z3 ?_)
    rw [if_neg (show ¬ ((Value.none == rawInt L) = true) from by simp [rawInt])]
    refine wpAny_bind (wpAny_setField z1 z2 (Array.getElem?_eq_some_iff.mp z3).1 ?_)
    have b0 : But (frs (env :: outer)) [T] s.heap (s.heap.update T (Obj.mapFields (·.setIfInBounds 3 Value.none))) := But.set _ _ _
    have hx' : ExcO (s.heap.update T (Obj.mapFields (·.setIfInBounds 3 Value.none))) e C (.ref T) := ⟨o, vs, by rw [Heap.get?_update_other _ _ hTe]; exact q1, q2, q3, q4, q5⟩
    have hl' : (s.heap.update T (Obj.mapFields (·.setIfInBounds 3 Value.none))).FunFrames base (env :: outer) := hl.of_keeps fun b o' e' nf => by
      have : T ≠ b := by rintro rfl; rw [z1] at e'; cases e'; exact nf ts z2
      exact ⟨o', by rw [Heap.get?_update_other _ _ this]; exact e', rfl⟩
    refine entry_fine (s := { s with heap := s.heap.update T (Obj.mapFields (·.setIfInBounds 3 Value.none)) }) hfr hl' hf hx' fun h' T' n1 n2 b x t => fin h' T' ?_ n2 ((b0.more (by simp [tbL])).trans (b.more (by simp))) x t
    exact Nat.le_trans (Nat.le_of_eq (Heap.size_update _ _ _).symm) n1
end
end L2
end
section
set_option linter.all false
set_option Elab.async false
set_option maxRecDepth 100000
namespace L2
open PySem PySem.Spec PyProof.Rows
structure Fly (old : Heap) (H : Hp) (C e : Addr) (h : Heap) : Prop where
  free : H e = none
  new : old.get? e = none
  ex : ∃ tb, ExcO h e C tb ∧ (tb = .none ∨ ∃ T, tb = .ref T ∧ T ≠ e ∧ TbO h T .none ∧ H T = none ∧ old.get? T = none)
noncomputable def CX1 (P : Program) (w : World) : CXT := fun outer H s E e s' => ∃ (H' : Hp) (C ea : Addr), e = .ref ea ∧ s'.os = s.os ∧ AllBare s'.gens ∧ Un (frs outer) [] H H' s.heap s'.heap ∧ HOk P w H' s'.heap ∧ Fly s.heap H' C ea s'.heap ∧ E e (some C) H'
theorem But.hok {P : Program} {w : World} {H : Hp} {h h' : Heap} {fs ch : List Addr} (b : But fs ch h h') (o : HOk P w H h) (h1 : ∀ c ∈ fs, H c = none) (h2 : ∀ c ∈ ch, H c = none) : HOk P w H h' := by
  intro a u e
  refine (o a u e).stay (fun c v hc q => b.keep c v q (fun z => ?_) fun z => ?_) (fun c q => q) fun c xs q => q
  · have := h2 c z
    rcases hc with rfl | hc
    · rw [e] at this; cases this
    · rw [hc] at this; cases this
  · have := h1 c z
    rcases hc with rfl | hc
    · rw [e] at this; cases this
    · rw [hc] at this; cases this
section
variable {X : Cx} {pins : List (Addr × Obj)} {σ : St} {H : Hp} {s : Shared}
theorem gone {h h' : Heap} {fs ex : List Addr} {H H' : Hp} (u : Un fs ex H H' h h') {b : Addr} (hb : b ∉ ex) (n : h'.get? b = none) : h.get? b = none := by
  cases q : h.get? b with
  | none => rfl
  | some o => obtain ⟨o', z⟩ := u.there b o q hb; rw [n] at z; cases z
theorem tbL_in {tb : Value} {b : Addr} (h : b ∈ tbL tb) : tb = .ref b := by
  cases tb with
  | ref T => simp [tbL] at h; rw [h]
  | _ => simp [tbL] at h
theorem leave_end {outer : List Env} {h' : Heap} {C e T' : Addr} {tb : Value} (I : Inv X pins σ H s) (hex : X.ex = []) (hstk : X.stack = X.env :: X.outer ∧ X.env.frame = some X.env.locals) (f : Fly X.s₀.heap H C e s.heap) (hx : ExcO s.heap e C tb) (ht : tb = .none ∨ ∃ T, tb = .ref T ∧ T ≠ e ∧ TbO s.heap T .none ∧ H T = none ∧ X.s₀.heap.get? T = none)
    (n0 : s.heap.objs.size ≤ T') (n2 : T' ≠ e) (b : But (frs X.stack) (e :: tbL tb) s.heap h') (x' : ExcO h' e C (.ref T')) (t' : TbO h' T' .none) :
    Un X.fs [] X.H₀ H X.s₀.heap h' ∧ HOk X.prog X.w H h' ∧ Fly X.s₀.heap H C e h' := by
  have nch : ∀ c ∈ e :: tbL tb, H c = none ∧ X.s₀.heap.get? c = none := fun c hc => by
    rcases List.mem_cons.mp hc with rfl | hc
    · exact ⟨f.free, f.new⟩
    · have := tbL_in hc
      subst this
      rcases ht with z | ⟨T, z, _, _, z1, z2⟩
      · cases z
      · cases z; exact ⟨z1, z2⟩
  have hfs : frs X.stack = X.env.locals :: X.fs := by rw [hstk.1]; simp [frs, hstk.2, Cx.fs]
  have hloc : X.s₀.heap.get? X.env.locals = none := Heap.get?_none_of_le I.ok.above
  have hT' : H T' = none := I.hok.fresh n0
  have n1 : s.heap.get? T' = none := Heap.get?_none_of_le n0
  have u := I.base
  rw [hex] at u
  refine ⟨⟨fun c o q n nf _ => ?_, fun c o q n hf _ => ?_, fun c o q n _ => u.free c o q n (by simp), fun c o q _ => ?_, u.tups, u.frzs, u.tbls⟩, b.hok I.hok I.stkFree fun c hc => (nch c hc).1, ⟨f.free, f.new, _, x', .inr ⟨T', rfl, n2, t', hT', gone u (by simp) n1⟩⟩⟩
  · refine b.keep c o (u.keep c o q n nf (by simp)) (fun z => ?_) (fun z => ?_)
    · rw [(nch c z).2] at q; cases q
    · rw [hfs] at z
      rcases List.mem_cons.mp z with rfl | z
      · rw [hloc] at q; cases q
      · exact nf z
  · obtain ⟨sl, q'⟩ := u.slot c o q n hf (by simp)
    obtain ⟨sl', q''⟩ := b.slot c _ q' fun z => by rw [(nch c z).2] at q; cases q
    exact ⟨sl', q''⟩
  · obtain ⟨o', q'⟩ := u.there c o q (by simp)
    obtain ⟨sl, q''⟩ := b.slot c _ q' fun z => by rw [(nch c z).2] at q; cases q
    exact ⟨_, q''⟩
theorem ObjOk.there {P : Program} {w : World} {H : Hp} {h : Heap} {a : Addr} {o : HO} (x : ObjOk P w H h a o) : ∃ u, h.get? a = some u := by
  cases o with
  | lst xs => obtain ⟨_, _, _, _, e⟩ := x; exact ⟨_, e⟩
  | tup xs => obtain ⟨_, _, _, _, e, _⟩ := x; exact ⟨_, e⟩
  | dK kvs => obtain ⟨_, _, _, _, o, _, _, e, _⟩ := x; exact ⟨_, e⟩
  | dT kvs => obtain ⟨_, _, _, _, o, _, _, e, _⟩ := x; exact ⟨_, e⟩
  | set S n => obtain ⟨o, _, _, _, e, _⟩ := x; exact ⟨_, e⟩
  | ins C dx fs => obtain ⟨_, _, _, e, _⟩ := x; exact ⟨_, e⟩
  | own y => obtain ⟨_, e⟩ := x; exact ⟨_, e⟩
  | xd fs => obtain ⟨_, ⟨_, _, _, e, _⟩, _⟩ := x; exact ⟨_, e⟩
  | rng lo hi => obtain ⟨_, _, _, e⟩ := x; exact ⟨_, e⟩
  | frz ob u => obtain ⟨e, _⟩ := x; exact ⟨_, e⟩
  | tbl ps => exact ⟨_, x⟩
  | met f y => exact ⟨_, x⟩
  | ext φ => obtain ⟨_, ⟨_, e⟩, _⟩ := x; exact ⟨_, e⟩
theorem HOk.none {P : Program} {w : World} {H : Hp} {h : Heap} {a : Addr} (o : HOk P w H h) (n : h.get? a = none) : H a = none := by
  cases q : H a with
  | none => rfl
  | some u => obtain ⟨v, z⟩ := (o a u q).there; rw [n] at z; cases z
noncomputable def Off (pn : List (Addr × Obj)) (e : Addr) (h : Heap) : Prop := ∀ p ∈ pn, p.1 ≠ e ∧ ∀ C tb, ExcO h e C tb → tb ≠ .ref p.1
noncomputable def XOk (X : Cx) (E : XK) : Prop := ∀ (pins : List (Addr × Obj)) (σ : St) (H : Hp) (s : Shared) (C e : Addr), Inv X pins σ H s → Fly X.s₀.heap H C e s.heap → Off X.pn e s.heap → E (.ref e) (some C) H → X.xe (.ref e) s
theorem leave_ok {P : Program} {w : World} {K : PySem.W.Frag} {mg : Str → Option Value} {base : Heap} {N : List Str} {qual : Str} {scope : Scope} {f : Addr} {cd : Value} {A : Around} {outer : List Env} {s0 : Shared} {H0 : Hp} {E : XK} :
    XOk (cxOf (CX1 P w) P w K mg base N qual scope f cd A outer s0 H0 E) E := by
  intro pins σ H s C e I fl _ q
  obtain ⟨tb, hx, ht⟩ := fl.ex
  show wpAny (model P w) (A.deeper (envOfC qual scope s0.heap.objs.size f cd)) (leaving (envOfC qual scope s0.heap.objs.size f cd) (.ref e)) (fun _ s'' => CX1 P w outer H0 s0 E (.ref e) s'') _ s
  unfold leaving
  refine wpAny_bind (note_fine (base := base) I.ok.frames I.stack rfl hx (ht.imp id fun ⟨T, a, b, c, _⟩ => ⟨T, a, b, c⟩) fun h' T' n1 n2 b x' t' => ?_)
  obtain ⟨u, ok, fl'⟩ := leave_end (outer := outer) I rfl ⟨rfl, rfl⟩ fl hx ht n1 n2 b x' t'
  exact ⟨H, C, e, rfl, I.os, I.bare, u, ok, fl', q⟩
theorem pass_own {P : Program} {w : World} {K : PySem.W.Frag} {mg : Str → Option Value} {base : Heap} {N : List Str} {qual : Str} {scope : Scope} {f : Addr} {cd : Value} {A : Around} {outer : List Env} {s0 : Shared} {H0 : Hp} {E : XK} :
    PassesOwn (model P w) (cxOf (CX1 P w) P w K mg base N qual scope f cd A outer s0 H0 E).A (cxOf (CX1 P w) P w K mg base N qual scope f cd A outer s0 H0 E).env (cxOf (CX1 P w) P w K mg base N qual scope f cd A outer s0 H0 E).xe := PassesOwn.leaving
theorem pass1 {E : XK} (hex : X.ex = []) (hX : XOk X E) : Passes (CX1 X.prog X.w) X E := by
  rintro pins σ H s e s' I ⟨H', C, ea, he, os, bare, un, ok, fl, q⟩
  subst he
  obtain ⟨hh, g, d, t, os'⟩ := s'
  obtain rfl : os' = s.os := os
  have I' : Inv X pins σ H' ⟨hh, g, d, t, s.os⟩ := I.call (h' := hh) (g' := g) (d' := d) (t' := t) (ch := []) un ok bare (fun b z => absurd z (by simp))
  have up : ∀ b, s.heap.get? b = none → X.s₀.heap.get? b = none := fun b n => by
    cases z : X.s₀.heap.get? b with
    | none => rfl
    | some o =>
      obtain ⟨o', z'⟩ := I.base.there b o z (by rw [hex]; simp)
      rw [n] at z'; cases z'
  obtain ⟨tb, hx, ht⟩ := fl.ex
  exact hX pins σ H' _ C ea I' ⟨fl.free, up _ fl.new, tb, hx, ht.imp id fun ⟨T, a, b, c, d', n⟩ => ⟨T, a, b, c, d', up _ n⟩⟩ (fun p hp => by
    have hq := (I.pin p (List.mem_append_left _ hp)).1
    refine ⟨fun z => ?_, fun C2 tb2 h2 z => ?_⟩
    · rw [z, fl.new] at hq; cases hq
    · obtain ⟨o, vs, q1, _, q3, q4, _⟩ := hx
      obtain ⟨o2, vs2, r1, _, r3, r4, _⟩ := h2
      rw [q1] at r1; cases r1
      rw [q3] at r3; cases r3
      rw [q4] at r4; cases r4
      rcases ht with t | ⟨T, t, _, _, _, n⟩
      · rw [t] at z; cases z
      · rw [t] at z; cases z; rw [n] at hq; cases hq) q
theorem ps_raise {x : Str} {C : Addr} {B newId initId : String} {bm : List Value} {txt : Str} {E : XK} {np cpos cp pos : Pos} {ck} (hc : X.calm = true) (hex : X.ex = []) (hg : Gl X x) (O : OwnCls x C bm newId X.mg X.base) (FB : ExcBaseFacts B newId initId bm) (hX : XOk X E) (hd : (x == ("__debug__" : Str)) = false := by decide)
    (he : starEach [.Constant (.str txt) ck cp] X.env = (false, eval (.Constant (.str txt) ck cp) X.env) :: starEach [] X.env := by rfl) (hpl : (backTo cpos (starEach [] X.env)).any (·.1) = false := by rfl) :
    PS X (.Raise (some (.Call (.Name x np) [.Constant (.str txt) ck cp] [] cpos)) none pos) (fun _ _ H => ∀ e, E (.ref e) (some C) H) := by
  intro pins s σ H D I h
  obtain ⟨tl, N, nm, q, bs, hdct, sn, sub, ab, col, dd, k0, k1, k2, k3, k5, mN, hC, hN, hni, T⟩ := O.obj
  refine wpAny_Raise_call_subT (C := C) (nm := nm) (q := q) (N := N) (bs := bs) (bm := tl) (hdct := hdct) (sn := sn) (sub := sub) (ab := ab) (col := col) (dd := dd) (k0 := k0) (k1 := k1) (k2 := k2) (k3 := k3) (k5 := k5) FB (mN := mN) (T.hasType FB.hasBase) (I.ok.hd hc) (by rw [he]; exact hpl) hni (ld_glob I hg O.bound ⟨rfl, ?_⟩ hd)
  rw [he]
  have I2 : Inv X pins σ H { s with toks := s.toks + 1 } := I.tok _
  refine Calls.evalArgs_plain (Calls.spliced_cons (Calls.Constant_str (k := ck) (pos := cp) (Calls.spliced_nil ⟨rfl, by show 1 ≤ sizeLine; decide, I2.bk _ _ hC, hN.keeps I2.bk, T.keeps I2.bk, fun h' e m => ?_⟩)))
  have I3 : Inv X pins σ H { s with heap := h', toks := s.toks + 1 } := I2.kept (t' := s.toks + 1) m.keeps
  obtain ⟨t, ht, _⟩ := m.there
  have up : X.s₀.heap.get? e = none := gone I.base (by rw [hex]; simp) m.new
  exact hX pins σ H _ C e I3 ⟨HOk.none I.hok m.new, up, .none, ⟨_, _, ht, rfl, rfl, rfl, rfl⟩, .inl rfl⟩ (fun p hp => by
    have hq := (I.pin p (List.mem_append_left _ hp)).1
    refine ⟨fun z => ?_, fun C2 tb2 h2 z => ?_⟩
    · rw [z, show s.heap.get? e = none from m.new] at hq; cases hq
    · obtain ⟨o2, vs2, r1, _, r3, r4, _⟩ := h2
      rw [ht] at r1; cases r1
      cases r3
      rw [z] at r4; cases r4) (h e)
end
end L2
end
section
set_option linter.all false
set_option Elab.async false
set_option maxRecDepth 100000
namespace L2
open PySem PySem.Spec PyProof.Rows
section
variable {M : Model} {A : Around} {E : Value → Shared → Prop}
theorem matches_above {h : Heap} {g : Array GenState} {d : Drawn} {t : Nat} {os : OsState} {e C C2 : Addr} {oe : Obj} {Q : Bool → Shared → Prop}
    {nm q : Str} {N : Addr} {bs bm : List Value} {hdct : Bool} {sn : List Str} {sub : List Value} {ab : Bool} {col : Option Bool} {dd : Option Addr} {k0 k1 k2 k3 k5 : Option Value} {newId : String}
    {nm' q' : Str} {N' : Addr} {bs' bm' : List Value} {hdct' : Bool} {sn' : List Str} {sub' : List Value} {ab' : Bool} {col' : Option Bool} {dd' : Option Addr} {k0' k1' k2' k3' k5' : Option Value} {newId' : String}
    (hC : h.get? C = some (excClassObj nm q C N bs bm hdct sn sub ab col dd k0 k1 k2 k3 k5 newId)) (hC2 : h.get? C2 = some (excClassObj nm' q' C2 N' bs' bm' hdct' sn' sub' ab' col' dd' k0' k1' k2' k3' k5' newId'))
    (he : h.get? e = some oe) (hcls : oe.cls = .ref C) (hbase : bm'.contains (.type "BaseException") = true) (hab : (Value.ref C :: bm).contains (.ref C2) = true)
    (hq : Q true ⟨h, g, d, t, os⟩) : wpAny M A (excMatches (.ref e) (.ref C2)) Q E ⟨h, g, d, t, os⟩ := by
  have hcB : (Value.ref C2 :: bm').contains (.type "BaseException") = true := by rw [List.contains_cons, hbase, Bool.or_true]
  have f := tc_notTuple
  unfold excMatches
  repeat (first | (with_reducible refine wpAny_loadPart_at he ?_; rw [hcls]) | with_reducible refine wpAny_loadPart_at hC2 ?_ | (with_reducible refine wpAny_isSubtype_exc hC2 ?_; rw [hcB]) | (with_reducible refine wpAny_isSubtype_exc hC ?_; rw [hab]) | wp_step)
  exact hq
end
noncomputable def Under (h : Heap) (C C2 : Addr) : Prop := ∃ nm q N bs bm hdct sn sub ab col dd k0 k1 k2 k3 k5 newId, h.get? C = some (excClassObj nm q C N bs bm hdct sn sub ab col dd k0 k1 k2 k3 k5 newId) ∧ (Value.ref C :: bm).contains (.ref C2) = true
theorem Under.keeps {h h' : Heap} {C C2 : Addr} (u : Under h C C2) (k : ∀ b o, h.get? b = some o → h'.get? b = some o) : Under h' C C2 := by
  obtain ⟨nm, q, N, bs, bm, hdct, sn, sub, ab, col, dd, k0, k1, k2, k3, k5, newId, hC, hin⟩ := u
  exact ⟨nm, q, N, bs, bm, hdct, sn, sub, ab, col, dd, k0, k1, k2, k3, k5, newId, k _ _ hC, hin⟩
theorem OwnCls.self {x : Str} {C : Addr} {bm : List Value} {newId : String} {mg : Str → Option Value} {h : Heap} (O : OwnCls x C bm newId mg h) : Under h C C := by
  obtain ⟨bm, N, nm, q, bs, hdct, sn, sub, ab, col, dd, k0, k1, k2, k3, k5, mN, hC, _⟩ := O.obj
  exact ⟨nm, q, N, bs, bm, hdct, sn, sub, ab, col, dd, k0, k1, k2, k3, k5, _, hC, by simp⟩
section
variable {prog : Program} {w : World} {A : Around} {E : Value → Shared → Prop} {s : Shared} {env : Env}
theorem handle_above {e C C2 : Addr} {x2 : Str} {bmB2 : List Value} {newId2 : String} {mg : Str → Option Value} {t : Expr} {b₀ : Stmt} {suite : List Stmt} {pos : Pos} {rest : List ExceptHandler} {Q : Flow → Shared → Prop}
    (hbase : bmB2.contains (.type "BaseException") = true)
    (h : wpAny (model prog w) (A.mark (some (.ref e))) (eval t env) (fun c s₁ => c = .ref C2 ∧ OwnCls x2 C2 bmB2 newId2 mg s₁.heap ∧ Under s₁.heap C C2 ∧ (∃ oe, s₁.heap.get? e = some oe ∧ oe.cls = .ref C) ∧
      wpAny (model prog w) (A.mark (some (.ref e))) (setFlight (.ref e) none) (fun _ s₂ => wpAny (model prog w) (A.mark (some (.ref e))) (execs (b₀ :: suite) env) Q (notedBy (model prog w) (A.mark (some (.ref e))) env (cameBackBy (model prog w) A env E)) s₂) (notedBy (model prog w) (A.mark (some (.ref e))) env (cameBackBy (model prog w) A env E)) s₁) (notedBy (model prog w) (A.mark (some (.ref e))) env (cameBackBy (model prog w) A env E)) s) :
    wpAny (model prog w) A (handleBy (.ref e) env (.ExceptHandler (some t) none (b₀ :: suite) pos :: rest)) Q E s := by
  refine wpAny_handleBy_cons (codeAny_handlers_test (wpAny_mono h (fun c s₁ h₁ => ?_) fun _ _ y => y)) (by intro q; cases q)
  obtain ⟨rfl, O, ⟨nm, q, N, bs, bm, hdct, sn, sub, ab, col, dd, k0, k1, k2, k3, k5, newId, hC, hin⟩, ⟨oe, he, hcls⟩, hk⟩ := h₁
  obtain ⟨bm2, N2, nm2, q2, bs2, hdct2, sn2, sub2, ab2, col2, dd2, l0, l1, l2, l3, l5, mN, hC2, hN, hq, T⟩ := O.obj
  obtain ⟨hh, g, d, tk, os⟩ := s₁
  exact matches_above hC hC2 he hcls (T.hasType hbase) hin (codeAny_handlers_suite hk)
end
end L2
end
section
set_option linter.all false
set_option Elab.async false
set_option maxRecDepth 100000
namespace L2
open PySem PySem.Spec PyProof.Rows
noncomputable def tryX (X : Cx) (pins : List (Addr × Obj)) (xe' : Value → Shared → Prop) : Cx := { X with pn := X.pn ++ pins, xe := xe' }
noncomputable def handX (X : Cx) (e : Addr) : Cx := { X with A := X.A.mark (some (.ref e)), calm := false }
section
variable {X : Cx} {pins pins' : List (Addr × Obj)} {σ : St} {H : Hp} {s : Shared} {xe' : Value → Shared → Prop} {e : Addr}
theorem ok_try : X.Ok ↔ (tryX X pins xe').Ok :=
  ⟨fun o => ⟨o.mod, o.kind, o.glob, o.blt, o.above, o.inj, o.has, o.cab, o.hd, o.frames, o.stk, o.exf, o.bs, o.bsz, o.noex, o.exfs, o.funs, o.frf⟩, fun o => ⟨o.mod, o.kind, o.glob, o.blt, o.above, o.inj, o.has, o.cab, o.hd, o.frames, o.stk, o.exf, o.bs, o.bsz, o.noex, o.exfs, o.funs, o.frf⟩⟩
theorem ok_hand : X.Ok → (handX X e).Ok :=
  fun o => ⟨o.mod, o.kind, o.glob, o.blt, o.above, o.inj, o.has, o.cab, (fun z => by cases z), o.frames, o.stk, o.exf, o.bs, o.bsz, o.noex, o.exfs, o.funs, o.frf⟩
theorem inv_try (I : Inv X pins σ H s) : Inv (tryX X pins xe') [] σ H s :=
  ⟨ok_try.mp I.ok, I.os, I.bare, I.base, I.loc, I.cell, I.free, I.freeC, fun p hp => I.pin p (by simpa [tryX] using hp), I.hok, I.len⟩
theorem try_inv (I : Inv (tryX X pins xe') pins' σ H s) : Inv X pins σ H s :=
  ⟨ok_try.mpr I.ok, I.os, I.bare, I.base, I.loc, I.cell, I.free, I.freeC, fun p hp => I.pin p (List.mem_append_left _ hp), I.hok, I.len⟩
theorem inv_hand (I : Inv X pins σ H s) : Inv (handX X e) pins σ H s :=
  ⟨ok_hand I.ok, I.os, I.bare, I.base, I.loc, I.cell, I.free, I.freeC, I.pin, I.hok, I.len⟩
theorem hand_inv (o : X.Ok) (I : Inv (handX X e) pins σ H s) : Inv X pins σ H s :=
  ⟨o, I.os, I.bare, I.base, I.loc, I.cell, I.free, I.freeC, I.pin, I.hok, I.len⟩
theorem Inv.but {h' : Heap} {ch : List Addr} (I : Inv X pins σ H s) (b : But (frs X.stack) ch s.heap h') (un : Un X.fs X.ex X.H₀ H X.s₀.heap h') (ok : HOk X.prog X.w H h') (nl : X.env.locals ∉ ch) (nc : ∀ x c, X.env.cells.lookup x = some c → c ∉ ch) (np : ∀ p ∈ X.pn ++ pins, p.1 ∉ ch) :
    Inv X pins σ H { s with heap := h' } := by
  have cel : ∀ x c v, X.env.cells.lookup x = some c → s.heap.IsCell c v → h'.IsCell c v := fun x c v hc ⟨o, ho, hd⟩ => by
    obtain ⟨sl, q⟩ := b.slot c o ho (nc x c hc)
    exact ⟨_, q, hd⟩
  refine ⟨I.ok, I.os, I.bare, un, ?_, fun x c hc => ?_, I.free, I.freeC, fun p hp => ?_, ok, I.len⟩
  · obtain ⟨m, ⟨o, es, ep, ho, r⟩, hv⟩ := I.loc
    obtain ⟨sl, hL⟩ := b.slot _ o ho nl
    refine ⟨m, ⟨_, es, ep, hL, r⟩, fun i x v h1 h2 h3 => ?_⟩
    obtain ⟨u, ru, lk⟩ := hv i x v h1 h2 h3
    exact ⟨u, ru, lk.imp id fun ⟨k, c, hc, ic⟩ => ⟨k, c, hc, cel x c _ hc ic⟩⟩
  · obtain ⟨v, hv⟩ := I.cell x c hc
    exact ⟨v, cel x c v hc hv⟩
  · obtain ⟨p1, p2, p3, p4, p5⟩ := I.pin p hp
    exact ⟨b.keep _ _ p1 (np p hp) fun z => (List.mem_cons.mp (I.stkSub _ z)).elim p3 p4, p2, p3, p4, p5⟩
theorem ExcO.nl {C : Addr} {tb : Value} (I : Inv X pins σ H s) (x : ExcO s.heap e C tb) : X.env.locals ≠ e ∧ ∀ y c, X.env.cells.lookup y = some c → c ≠ e := by
  obtain ⟨o, vs, h1, _, h2, _⟩ := x
  refine ⟨fun z => ?_, fun y c hc z => ?_⟩
  · obtain ⟨m, ⟨o', es, ep, ho, r, _⟩, _⟩ := I.loc
    rw [z, h1] at ho; cases ho; rw [h2] at r; cases r
  · obtain ⟨v, o', ho, r⟩ := I.cell y c hc
    rw [z, h1] at ho; cases ho; rw [h2] at r; cases r
theorem TbO.nl {T : Addr} {fl : Value} (I : Inv X pins σ H s) (x : TbO s.heap T fl) : X.env.locals ≠ T ∧ ∀ y c, X.env.cells.lookup y = some c → c ≠ T := by
  obtain ⟨o, vs, h1, h2, _⟩ := x
  refine ⟨fun z => ?_, fun y c hc z => ?_⟩
  · obtain ⟨m, ⟨o', es, ep, ho, r, _⟩, _⟩ := I.loc
    rw [z, h1] at ho; cases ho; rw [h2] at r; cases r
  · obtain ⟨v, o', ho, r⟩ := I.cell y c hc
    rw [z, h1] at ho; cases ho; rw [h2] at r; cases r
theorem ps_try {x : Str} {C : Addr} {bm : List Value} {newId : String} {E : XK} {body suite : List Stmt} {b0 : Stmt} {np hpos pos : Pos} {tb th : TS} (hg : Gl X x) (O : OwnCls x C bm newId X.mg X.base) (hbase : bm.contains (.type "BaseException") = true) (hex : X.ex = []) (hstk : X.stack = X.env :: X.outer ∧ X.env.frame = some X.env.locals)
    (hE : ∀ e, PassesOwnAt (model X.prog X.w) (X.A.mark (some (.ref e))) X.A X.env X.xe)
    (hb : ∀ pins xe', PassesOwn (model X.prog X.w) X.A X.env xe' → XOk (tryX X pins xe') E → PSs (tryX X pins xe') body tb)
    (hh : ∀ e, PSs (handX X e) (b0 :: suite) th) (hd : (x == ("__debug__" : Str)) = false := by decide) :
    PS X (.Try body [.ExceptHandler (some (.Name x np)) none (b0 :: suite) hpos] [] [] pos) (fun D σ H => tb D σ H ∧ ∀ σ' e C' H', σ'.length = X.N.length → E (.ref e) (some C') H' → Under X.base C' C ∧ th D σ' H') := by
  rintro pins s σ H D I ⟨h1, h2⟩
  refine wpAny_Try_except ?_
  generalize hxe : (fun (e : Value) (s₁ : Shared) => wpAny (model X.prog X.w) X.A (noteFrame e X.env) (fun _ s₂ => wpAny (model X.prog X.w) X.A (setFlight e none) (fun _ s₃ => wpAny (model X.prog X.w) X.A (handleBy e X.env [.ExceptHandler (some (.Name x np)) none (b0 :: suite) hpos]) (SP X pins D) X.xe s₃) X.xe s₂) X.xe s₁) = xe'
  have hp : PassesOwn (model X.prog X.w) X.A X.env xe' := by rw [← hxe]; exact PassesOwn.looking
  have hX : XOk (tryX X pins xe') E := by
    intro pins' σ' H' s' C' e I' fl off q
    obtain ⟨un, ht⟩ := h2 σ' e C' H' I'.len q
    obtain ⟨tbv, hx, htb⟩ := fl.ex
    have J : Inv X pins σ' H' s' := try_inv I'
    show xe' (.ref e) s'
    rw [← hxe]
    show wpAny (model X.prog X.w) X.A (noteFrame (.ref e) X.env) _ X.xe s'
    refine note_fine (base := X.base) (env := X.env) (outer := X.outer) (by rw [J.ok.frames, hstk.1]) (by rw [← hstk.1]; exact J.stack) hstk.2 hx (htb.imp id fun ⟨T, a, b, c, _⟩ => ⟨T, a, b, c⟩) fun h' T' n1 n2 b x' t' => ?_
    have b' : But (frs X.stack) (e :: tbL tbv) s'.heap h' := by rw [hstk.1]; exact b
    obtain ⟨u, ok, fl'⟩ := leave_end (X := X) (outer := X.outer) J hex hstk fl hx htb n1 n2 b' x' t'
    have nT : ∀ T, tbv = .ref T → TbO s'.heap T .none := fun T z => by
      rcases htb with y | ⟨T2, y, _, q, _⟩
      · rw [y] at z; cases z
      · rw [y] at z; cases z; exact q
    have I2 : Inv X pins σ' H' { s' with heap := h' } := J.but b' (by rw [hex]; exact u) ok (fun z => by
      rcases List.mem_cons.mp z with z | z
      · exact (hx.nl J).1 z
      · exact ((nT _ (tbL_in z)).nl J).1 rfl) (fun y c hc z => by
      rcases List.mem_cons.mp z with z | z
      · exact (hx.nl J).2 y c hc z
      · exact ((nT _ (tbL_in z)).nl J).2 y c hc rfl) (fun p hp z => by
      have o := off p hp
      rcases List.mem_cons.mp z with z | z
      · exact o.1 z
      · exact o.2 _ _ hx (tbL_in z))
    have I3 : Inv (handX X e) pins σ' H' { s' with heap := h' } := inv_hand I2
    obtain ⟨oe, vs, q1, q2, q3, q4, q5⟩ := id x'
    obtain ⟨oT, ts, z1, z2, z3⟩ := id t'
    refine handle_above hbase (ld_glob (X := handX X e) I3 hg O.bound ⟨rfl, O.keeps I2.bk, un.keeps I2.bk, ⟨oe, q1, q2⟩, ?_⟩ hd)
    unfold setFlight
    refine wpAny_bind (wpAny_field q1 q3 q4 ?_)
    rw [if_pos (show (Value.ref T' != Value.none) = true from by simp)]
    refine wpAny_setField z1 z2 (Array.getElem?_eq_some_iff.mp z3).1 ?_
    have hT' : H' T' = none := J.hok.fresh n1
    have nT' : s'.heap.get? T' = none := Heap.get?_none_of_le n1
    have b2 : But (frs X.stack) [T'] h' (h'.update T' (Obj.mapFields (·.setIfInBounds 3 ((none : Option Addr).elim Value.none fun f => rawInt f)))) := But.set _ _ _
    have old : ∀ c o, X.s₀.heap.get? c = some o → c ≠ T' := fun c o z y => by
      obtain ⟨o', w⟩ := J.base.there c o z (by rw [hex]; simp)
      rw [y, nT'] at w; cases w
    have I4 : Inv X pins σ' H' { s' with heap := h'.update T' (Obj.mapFields (·.setIfInBounds 3 ((none : Option Addr).elim Value.none fun f => rawInt f))) } := I2.but b2
      ⟨fun c o q n nf ne => by rw [Heap.get?_update_other _ _ (Ne.symm (old c o q))]; exact I2.base.keep c o q n nf ne, fun c o q n hf ne => by rw [Heap.get?_update_other _ _ (Ne.symm (old c o q))]; exact I2.base.slot c o q n hf ne, I2.base.free, fun c o q ne => by rw [Heap.get?_update_other _ _ (Ne.symm (old c o q))]; exact I2.base.there c o q ne, I2.base.tups, I2.base.frzs, I2.base.tbls⟩
      (b2.hok I2.hok I2.stkFree fun c hc => by rw [List.mem_singleton.mp hc]; exact hT')
      (fun z => (t'.nl I2).1 (List.mem_singleton.mp z)) (fun y c hc z => (t'.nl I2).2 y c hc (List.mem_singleton.mp z)) (fun p hp z => by
        have w := (J.pin p hp).1
        rw [List.mem_singleton.mp z, nT'] at w; cases w)
    refine wpAny_passesOwnAt (hE e) (thn (hh e pins _ σ' H' D (inv_hand I4) ht) fun f s5 y => ?_)
    cases f with
    | next => obtain ⟨a, b, c, d⟩ := y; exact ⟨a, b, hand_inv J.ok c, d⟩
    | brk => obtain ⟨a, b, c, d⟩ := y; exact ⟨a, b, hand_inv J.ok c, d⟩
    | cont => obtain ⟨a, b, c, d⟩ := y; exact ⟨a, b, hand_inv J.ok c, d⟩
    | ret u => obtain ⟨a, b, c, d, y⟩ := y; exact ⟨a, b, c, hand_inv J.ok d, y⟩
  have w := hb pins xe' hp hX [] s σ H D (inv_try I) h1
  refine wpAny_mono w (fun f s5 y => ?_) fun e s5 y => ?_
  · cases f with
    | next =>
      obtain ⟨a, b, c, d⟩ := y
      show wpAny (model X.prog X.w) X.A (execs [] X.env) _ _ s5
      exact wpAny_execs_nil ⟨a, b, try_inv c, d⟩
    | brk => obtain ⟨a, b, c, d⟩ := y; exact ⟨a, b, try_inv c, d⟩
    | cont => obtain ⟨a, b, c, d⟩ := y; exact ⟨a, b, try_inv c, d⟩
    | ret u => obtain ⟨a, b, c, d, y⟩ := y; exact ⟨a, b, c, try_inv d, y⟩
  · exact y
end
end L2
end
section
set_option linter.all false
set_option Elab.async false
set_option maxRecDepth 100000
namespace HH
open PySem L2 PySem.Spec PyProof.Rows
noncomputable def tX (K : PySem.W.Frag) (W : Nat → Hp → Prop) (g : List Sl → Option (Nat × List Sl)) : TS := fun _ σ H => ∃ F ρ k ρ', GS K F ρ σ H ∧ g ρ = some (k, ρ') ∧ ∀ F' σ' H', Stp K F ρ σ H F' ρ' σ' H' → W k H'
noncomputable def SSX (X : Cx) (c : Call) (n : Nat) (W : Nat → Hp → Prop) (st : Stmt) (s : S) : Prop := PS X st (tX X.K W (exX c n s))
noncomputable def SBX (X : Cx) (c : Call) (n : Nat) (W : Nat → Hp → Prop) (st : List Stmt) (s : List S) : Prop := PSs X st (tX X.K W (exsX c n s))
section
variable {X : Cx} {c : Call} {n : Nat} {W : Nat → Hp → Prop} {e a b tg iter : Expr} {p : P} {pos : Pos} {body : List Stmt} {ss : List S}
theorem ps_or {st : Stmt} {t u : TS} (h : PS X st t) (h' : PS X st u) : PS X st (fun D σ H => t D σ H ∨ u D σ H) := fun pins s σ H D I q => q.elim (h pins s σ H D I) (h' pins s σ H D I)
theorem pss_or {st : List Stmt} {t u : TS} (h : PSs X st t) (h' : PSs X st u) : PSs X st (fun D σ H => t D σ H ∨ u D σ H) := fun pins s σ H D I q => q.elim (h pins s σ H D I) (h' pins s σ H D I)
theorem ssx_none {st : Stmt} {s : S} (h : ∀ ρ, exX c n s ρ = none := by intro _; rfl) : SSX X c n W st s := psImp ps_never fun D σ H ⟨F, ρ, k, ρ', g, e, q⟩ => by rw [h] at e; cases e
theorem sbx_nil : SBX X c n W [] [] := pssImp pss_nil fun D σ H ⟨F, ρ, k, ρ', g, e, q⟩ => by rw [exsX] at e; cases e
theorem sbx_cons {st : Stmt} {s : S} {sts : List Stmt} {ss : List S} (h1 : SS X c n st s) (h1x : SSX X c n W st s) (h2 : SBX X c n W sts ss) : SBX X c n W (st :: sts) (s :: ss) := by
  refine pssImp (pss_cons (ps_or h1 h1x) h2) ?_
  rintro D σ H ⟨F, ρ, k, ρ', g, e, q⟩
  rw [exsX] at e
  cases hx : exX c n s ρ with
  | some x => rw [hx] at e; cases e; exact .inr ⟨F, ρ, k, ρ', g, hx, q⟩
  | none =>
    rw [hx] at e
    dsimp only at e
    cases he : ex c n s ρ with
    | stuck => rw [he] at e; cases e
    | exc _ _ => rw [he] at e; cases e
    | ok fl ρ1 =>
      rw [he] at e
      cases fl with
      | next => exact .inl ⟨F, ρ, .next, ρ1, g, he, fun F1 σ1 H1 s1 => ⟨F1, ρ1, k, ρ', s1.gs, e, fun F2 σ2 H2 s2 => q F2 σ2 H2 (s1.trans s2)⟩⟩
      | _ => cases e
theorem ssx_if {sa sb : List Stmt} {ta tb : List S} (hc : ST X c e p) (ha : SBX X c n W sa ta) (hb : SBX X c n W sb tb) : SSX X c n W (.If e sa sb pos) (.ifs p ta tb) := by
  refine psImp (ps_if hc ha hb) ?_
  rintro D σ H ⟨F, ρ, k, ρ', g, e, q⟩
  rw [exX] at e
  split at e
  · rename_i x ρ1 e1
    refine ⟨F, ρ, x, ρ1, g, e1, fun F1 H1 s1 => ?_⟩
    cases x with
    | true => exact ⟨F1, ρ1, k, ρ', s1.gs, by simpa using e, fun F2 σ2 H2 s2 => q F2 σ2 H2 (s1.trans s2)⟩
    | false => exact ⟨F1, ρ1, k, ρ', s1.gs, by simpa using e, fun F2 σ2 H2 s2 => q F2 σ2 H2 (s1.trans s2)⟩
  · cases e
theorem ssx_rais {x : Str} {C : Addr} {B newId initId : String} {bm : List Value} {txt : Str} {E : XK} {np cpos cp : Pos} {ck} {kk : Nat} (hc : X.calm = true) (hex : X.ex = []) (hg : Gl X x) (O : OwnCls x C bm newId X.mg X.base) (FB : ExcBaseFacts B newId initId bm) (hX : XOk X E) (hW : ∀ H, W kk H → ∀ e, E (.ref e) (some C) H)
    (hd : (x == ("__debug__" : Str)) = false := by rfl) :
    SSX X c n W (.Raise (some (.Call (.Name x np) [.Constant (.str txt) ck cp] [] cpos)) none pos) (.rais kk) := by
  refine psImp (ps_raise hc hex hg O FB hX hd (starEach_nst rfl) rfl) ?_
  rintro D σ H ⟨F, ρ, k, ρ', g, e, q⟩
  rw [exX] at e
  cases e
  exact hW H (q F σ H (.refl g))
theorem ssx_for {g : TG} {is : List Nat} {one : Bool} (hp : PassesOwn (model X.prog X.w) X.A X.env X.xe) (hc : X.calm = true) (hi : SI X c tg iter p) (hg : PG X tg g) (hgo : TGok X.K (fun ρ d => bindF ρ is one d) g) (hb : SB X c n body ss) (hbx : SBX X c n W body ss)
    (hs : ∀ x, foldedSetIterable iter X.env x = pure x := by intro _; rfl) : SSX X c n W (.For tg iter body [] pos) (.forr p is one ss) := by
  refine psImp (ps_for hp hc hi hg (pss_or hb hbx) hs) ?_
  rintro D σ H ⟨F, ρ, k, ρ', g0, e, q⟩
  rw [exX] at e
  split at e
  · rename_i ds ρ1 e1
    obtain ⟨⟨k', ρ2⟩, e2, e3⟩ := Option.map_eq_some_iff.mp e
    cases e3
    refine ⟨F, ρ, ds, ρ1, g0, e1, fun J F1 H1 w => ?_⟩
    have src : ∀ (i : Nat) (F' : Hp) (ρ' : List Sl) (σ' : L2.St) (H' : Hp), Stp X.K F1 ρ1 σ H1 F' ρ' σ' H' →
      (∀ d, ds[i]? = some d → J.go i H' ∧ ∀ x H'', J.yld i H' x H'' → ∃ F'', Ext F' H' F'' H'' ∧ Rep X.K F'' x d) ∧ (ds.length ≤ i → J.stop i H') := fun i F' ρ' σ' H' s => w.src 0 i F' ρ' σ' H' (by simpa using s)
    refine ⟨fun i m σi Hi => ∃ Fi ρi, Stp X.K F1 ρ1 σ H1 Fi ρi σi Hi ∧ m = ds.length - i ∧ i ≤ ds.length ∧ forX is one (exs c n ss) (exsX c n ss) (ds.drop i) ρi = some (k', ρ2), ⟨_, F1, ρ1, .refl w.gs, rfl, Nat.zero_le _, e2⟩, ?_⟩
    rintro i m σi Hi ⟨Fi, ρi, si, rfl, hle, ei⟩
    obtain ⟨s1, s2⟩ := src i Fi ρi σi Hi si
    by_cases hlt : i < ds.length
    · right
      have hd : ds[i]? = some ds[i] := by simp [hlt]
      obtain ⟨go, step⟩ := s1 _ hd
      refine ⟨go, fun σ' H' => ∃ m', m' < ds.length - i ∧ ∃ Fi ρi, Stp X.K F1 ρ1 σ H1 Fi ρi σ' H' ∧ m' = ds.length - (i + 1) ∧ i + 1 ≤ ds.length ∧ forX is one (exs c n ss) (exsX c n ss) (ds.drop (i + 1)) ρi = some (k', ρ2), fun σ' H' z => z, fun x H' y => ?_⟩
      obtain ⟨F2, ext, rx⟩ := step x H' y
      have si2 := si.trans (ext.stp si.gs)
      rw [List.drop_eq_getElem_cons hlt, forX] at ei
      cases hbd : bindF ρi is one ds[i] with
      | none => rw [hbd] at ei; cases ei
      | some ρb =>
        rw [hbd] at ei
        dsimp only at ei
        refine hgo x _ F2 ρi ρb σi H' _ si2.gs rx hbd fun σ2 sb => ?_
        have si3 := si2.trans sb
        cases hbx' : exsX c n ss ρb with
        | some y =>
          rw [hbx'] at ei
          cases ei
          exact .inr ⟨F2, ρb, k', ρ2, si3.gs, hbx', fun F4 σ4 H4 s4 => q F4 σ4 H4 (w.fin _ _ _ _ (si3.trans s4)).1⟩
        | none =>
          rw [hbx'] at ei
          dsimp only at ei
          cases eb : exs c n ss ρb with
          | stuck => rw [eb] at ei; cases ei
          | exc _ _ => rw [eb] at ei; cases ei
          | ok flb ρc =>
            rw [eb] at ei
            refine .inl ⟨F2, ρb, flb, ρc, si3.gs, eb, fun F4 σ4 H4 s4 => ?_⟩
            have si4 := si3.trans s4
            cases flb with
            | next => exact ⟨_, by omega, F4, ρc, si4, rfl, hlt, ei⟩
            | cont => exact ⟨_, by omega, F4, ρc, si4, rfl, hlt, ei⟩
            | brk => cases ei
            | ret r => cases ei
    · have hdr : ds.drop i = [] := by rw [List.drop_eq_nil_iff]; omega
      rw [hdr, forX] at ei
      cases ei
  · cases e
noncomputable def spX (K : PySem.W.Frag) (cl : Nat → Addr) (np : Nat) (f : List Sl → Res R) : Sp := fun vs H _ E => vs.length = np ∧ ∃ F args k args', GS K F args (vs.map some) H ∧ f args = .exc k args' ∧
  ∀ F' σ' H' e, Stp K F args (vs.map some) H F' args' σ' H' → E (.ref e) (some (cl k)) H'
noncomputable def EW (cl : Nat → Addr) (W : Nat → Hp → Prop) : XK := fun _ C H => ∃ k, C = some (cl k) ∧ W k H
structure CallX (Pg : Program) (w : World) (K : PySem.W.Frag) (mg : Str → Option Value) (base : Heap) (cl : Nat → Addr) (k : Nat) (c : Call) (i : Nat) (x : Str) (np : Nat) : Prop where
  ex : ∃ fa fd qs, FnOk Pg w K mg base (CX1 Pg w) k fa fd qs (spX K cl qs.length (c i)) ∧ mg x = some (.ref fa) ∧ PySem.W.keepIn K (.ref fa) = true ∧ Binds K fd qs [] ∧ qs.length = np
theorem evA_len {c : Call} : ∀ {ps : List P} {ρ ρ' : List Sl} {as : List Arg}, evA c ps ρ = .ok as ρ' → as.length = ps.length := by
  intro ps
  induction ps with
  | nil => intro ρ ρ' as h; rw [evA] at h; cases h; rfl
  | cons q qs ih =>
    intro ρ ρ' as h
    rw [evA] at h
    split at h
    · obtain ⟨_, _, _, h⟩ := bind_ok h
      obtain ⟨xs, ρ2, h2, h⟩ := bind_ok h
      cases h; simp [ih h2]
    · obtain ⟨_, _, _, h⟩ := bind_ok h
      obtain ⟨xs, ρ2, h2, h⟩ := bind_ok h
      cases h; simp [ih h2]
theorem ssx_asg {cl : Nat → Addr} {kk i fi np : Nat} {x y : Str} {p' pos' cpos : Pos} {es : List Expr} {ps : List P} (hex : X.ex = []) (hX : XOk X (EW cl W)) (Cf : CallX X.prog X.w X.K X.mg X.base cl kk c fi y np) (hr : Room kk X.A) (hN : X.N.Nodup) (hi : X.N[i]? = some x) (hx : Loc X.env.scope x) (ha : SG X c (e :: es) ps)
    (hg : Gl X y := by rfl) (hl : (e :: es).length = np := by rfl) (hdb : (y == ("__debug__" : Str)) = false := by rfl)
    (he : starEach (e :: es) X.env = (false, eval e X.env) :: starEach es X.env := by exact starEach_nst rfl) (hpl : (backTo cpos (starEach es X.env)).any (·.1) = false := by rfl) (hl2 : ps.length = (e :: es).length := by rfl)
    (hs : swapsWith (.Call (.Name y p') (e :: es) [] cpos) (some (.Name x pos')) pos.line X.env = pure false := by rfl) (hf : X.fn x = true ∨ X.env.scope.names.lookup x = some .local := by first | exact .inl rfl | exact .inr rfl | assumption) :
    SSX X c n W (.Assign [.Name x pos'] (.Call (.Name y p') (e :: es) [] cpos) pos) (.asg i (.call fi ps)) := by
  obtain ⟨fa, fd, qs, h1, h2, h3, h4, h5⟩ := Cf.ex
  have pe := pe_call (p := p') (pos := cpos) (E := EW cl W) h1 hr hg h2 h3 h4 .nil (pass1 hex hX) ha hdb he hpl
  refine psImp (ps_set hN hi hx pe hs hf) ?_
  rintro D σ H ⟨F, ρ, k, ρ', g, e0, q⟩
  rw [exX] at e0
  unfold callX callOf at e0
  dsimp only at e0
  split at e0
  · rename_i xs ρ1 e1
    split at e0
    · rename_i args hb'
      split at e0
      · rename_i k' args' hc
        cases e0
        refine ⟨F, ρ, xs, ρ1, g, e1, fun vs F1 H1 s1 A => ?_⟩
        have hlen : vs.length = qs.length := by rw [← A.len, evA_len e1, hl2, hl, h5]
        show spX X.K cl qs.length (c fi) (vs ++ []) H1 _ (EW cl W)
        rw [List.append_nil]
        refine ⟨hlen, F1, args, k, args', args_gs s1.gs A hb', hc, fun F' σ' H' e2 s => ⟨k, rfl, ?_⟩⟩
        obtain ⟨z1, _⟩ := call_stp s1 A hb' s
        exact q F' σ H' z1
      · cases e0
    · cases e0
  · cases e0
end
section
variable {Pg : Program} {w : World} {K : PySem.W.Frag} {mg : Str → Option Value} {base : Heap}
theorem fnx_ok {x qual : Str} {st : Stmt} {f : Addr} {fd : FuncData} {N ps : List Str} {k n : Nat} {c : Call} {d : Fd} {cl : Nat → Addr} (Fu : Fun K x qual st f fd) (S : FnScope N ps (defScope st)) (h1 : d.np = ps.length) (h2 : d.nn = N.length)
    (hb : ∀ (cdv : Value) (A : Around) (outer : List Env) (s : Shared) (H : Hp) (E : XK) (W : Nat → Hp → Prop), Room k (A.deeper (envOfC qual (defScope st) s.heap.objs.size f cdv)) → (∀ k H, W k H → ∀ e, E (.ref e) (some (cl k)) H) → SBX (cxOf (CX1 Pg w) Pg w K mg base N qual (defScope st) f cdv A outer s H E) c n W (defBody st) d.body) :
    FnOk Pg w K mg base (CX1 Pg w) (k + 1) f fd ps (spX K cl ps.length (fun args => enter c n d args)) := by
  obtain ⟨oc, od, kV, doc, pm, an, cdv, ct, osl, rfl, lk, hcd⟩ := Fu.ex
  refine fn_of lk hcd S (fun vs H Q E h => h.1) fun A outer s H vs Q E hr h => ?_
  obtain ⟨hl, F, args, kx, args', g, e, q⟩ := h
  refine ⟨_, hb cdv A outer s H E (fun k H' => ∀ e, E (.ref e) (some (cl k)) H') hr (fun k H' h => h), ?_⟩
  replace e : enter c n d args = .exc kx args' := e
  unfold enter at e
  split at e
  · rename_i hc
    obtain ⟨c1, c2⟩ := hc
    have hg := g.more (n := d.nn - d.np) (τ := List.replicate (N.length - vs.length) none) (by simp [h1, h2, hl])
    have hla : args.length = d.np := c1
    split at e
    · cases e
    · cases e
    · split at e
      · rename_i k' ρ' z
        cases e
        refine ⟨F, _, kx, ρ', hg, z, fun F' σ' H' s ee => ?_⟩
        obtain ⟨z1, _⟩ := Stp.less (m := d.np) hla.symm g (by simp [h1, h2, hl]) s
        exact q F' _ H' ee z1
      · cases e
  · cases e
end
section
variable {X : Cx} {c : Call} {n : Nat} {body : List Stmt} {ss : List S} {pos : Pos}
theorem ss_tryR {cl : Nat → Addr} {kk : Nat} {x : Str} {bm : List Value} {newId : String} {np hpos rpos cpos : Pos} {v : Bool} {j} (hg : Gl X x) (O : OwnCls x (cl kk) bm newId X.mg X.base) (hbase : bm.contains (.type "BaseException") = true) (hex : X.ex = []) (hstk : X.stack = X.env :: X.outer ∧ X.env.frame = some X.env.locals)
    (hE : ∀ e, PassesOwnAt (model X.prog X.w) (X.A.mark (some (.ref e))) X.A X.env X.xe)
    (hb : ∀ pins xe', PassesOwn (model X.prog X.w) X.A X.env xe' → SB (tryX X pins xe') c n body ss)
    (hbx : ∀ pins xe' W, PassesOwn (model X.prog X.w) X.A X.env xe' → XOk (tryX X pins xe') (EW cl W) → SBX (tryX X pins xe') c n W body ss) (hd : (x == ("__debug__" : Str)) = false := by rfl) :
    SS X c n (.Try body [.ExceptHandler (some (.Name x np)) none [.Return (some (.Constant (.bool v) j cpos)) rpos] hpos] [] [] pos) (.tryR ss kk (.bl v)) := by
  rintro pins s σ H D I ⟨F, ρ, fl, ρ', g, e, q⟩
  have hh : ∀ e, PSs (handX X e) [.Return (some (.Constant (.bool v) j cpos)) rpos] (fun D σ H => D.rt (.bl v) H) := fun e => pssImp (pss_one (ps_ret pe_bl)) fun D σ H h => h
  have hor : ∀ pins xe', PassesOwn (model X.prog X.w) X.A X.env xe' → XOk (tryX X pins xe') (EW cl (fun k H' => k = kk ∧ D.rt (.bl v) H')) → PSs (tryX X pins xe') body (fun D' σ H => tEx X.K (exs c n ss) D' σ H ∨ tX X.K (fun k H' => k = kk ∧ D.rt (.bl v) H') (exsX c n ss) D' σ H) := fun pins xe' hp hX => by
    have z1 := hb pins xe' hp
    have z2 := hbx pins xe' _ hp hX
    unfold SB at z1
    unfold SBX at z2
    exact pss_or z1 z2
  refine ps_try (E := EW cl (fun k H' => k = kk ∧ D.rt (.bl v) H')) hg O hbase hex hstk hE hor hh hd pins s σ H D I ⟨?_, fun σ' e' C' H' _ ⟨k, hC, hk, hr⟩ => ?_⟩
  · rw [ex] at e
    split at e
    · rename_i fl' ρ1 z
      cases e
      exact .inl ⟨F, ρ, fl, ρ', g, z, q⟩
    · split at e
      · rename_i k' ρ1 z
        split at e
        · rename_i hk
          subst hk
          cases e
          exact .inr ⟨F, ρ, _, ρ', g, z, fun F' σ' H' s => ⟨rfl, q F' σ' H' s (.bl v) (show Rep X.K F' _ _ from repBl _)⟩⟩
        · cases e
      · cases e
  · cases hC
    subst hk
    exact ⟨L2.OwnCls.self O, hr⟩
end
section
variable {X : Cx} {c : Call} {n : Nat}
theorem ss_rais {k : Nat} {st : Stmt} : SS X c n st (.rais k) := psImp ps_never fun D σ H ⟨F, ρ, fl, ρ', g, e, q⟩ => by rw [ex] at e; cases e
end
structure ClsIn (K : PySem.W.Frag) (x : Str) (C : Addr) : Prop where
  nm : PySem.W.nsIn K mainGlobals x = some (some (.ref C))
  is : PySem.W.excIn K C [.type "ValueError", .type "Exception", .type "BaseException", .type "object"] "ValueError.__new__" = true
section
variable {Pg : Program} {w : World} {K : PySem.W.Frag} {mg : Str → Option Value} {base h : Heap}
theorem own_cls {x : Str} {C : Addr} (k : K.In h) (ns : h.Ns mainGlobals mg) (z : ClsIn K x C) : OwnCls x C [.type "ValueError", .type "Exception", .type "BaseException", .type "object"] "ValueError.__new__" mg h := by
  have y := z.is
  unfold PySem.W.excIn at y
  split at y <;> try cases y
  rename_i d1 c1 s1 look
  split at y <;> try cases y
  rename_i D1 m1 a0 a1 a2 a3 b1 a5 hmro hlist
  simp only [Bool.and_eq_true, beq_iff_eq, Bool.not_eq_true'] at y
  obtain ⟨⟨⟨⟨⟨y1, y2⟩, y3⟩, y4⟩, y5⟩, y6⟩ := y
  subst y1
  subst y2
  cases c1 with
  | mk n1 bs1 mro1 ns1 q1 hd1 sn1 su1 ab1 co1 de1 =>
    cases s1 with
    | mk l1 =>
      simp only at hmro hlist y3 y5 y6
      subst hmro
      subst y3
      subst hlist
      exact ⟨PySem.W.mg_of k ns z.nm, m1, ns1, n1, q1, bs1, hd1, sn1, su1, ab1, co1, d1, a0, a1, a2, a3, a5, _, k _ _ look, .of_isNs (PySem.W.isNs_of_in k y5), PySem.W.nsMap_none_of_in k y5 y6, PySem.W.tail_of_in k y4⟩
theorem callX0 {Γ : Tab} {cl : Nat → Addr} {wl i np : Nat} {x : Str} {st : Stmt} {ps : List Str} (X : K.In h) (G : h.Ns mainGlobals mg) (D : DefIn K x st) (hp : ps.length = np)
    (hb : ∀ (kV doc pm : Value) (an : Option Addr) (cdv ct : Value) (us : List Value), us.length = ps.length → bindArgs (PySem.W.fnOf x x (defArgs st) (defBody st) (defScope st) .none kV doc pm an cdv ct) ⟨us, []⟩ = pure (ps.zip us)) :
    CallX Pg w K mg base cl 0 (run Γ wl 0) i x np := by
  obtain ⟨f, fd, a, F⟩ := D.ex
  exact ⟨f, fd, ps, ⟨fun vs H Q E s => s.1, fun A outer s H args us vs Q E hr e b v sp => by obtain ⟨_, F, as, r, as', _, z, _⟩ := sp; cases z⟩, PySem.W.mg_of X G a, F.kp, F.binds hb, hp⟩
theorem callXS {Γ : Tab} {cl : Nat → Addr} {wl n i np : Nat} {x : Str} {st : Stmt} {ps : List Str} {d : Fd} (X : K.In h) (G : h.Ns mainGlobals mg) (D : DefIn K x st) (hp : ps.length = np) (hΓ : Γ i = some d)
    (hb : ∀ (kV doc pm : Value) (an : Option Addr) (cdv ct : Value) (us : List Value), us.length = ps.length → bindArgs (PySem.W.fnOf x x (defArgs st) (defBody st) (defScope st) .none kV doc pm an cdv ct) ⟨us, []⟩ = pure (ps.zip us))
    (ok : ∀ f fd, Fun K x x st f fd → FnOk Pg w K mg base (CX1 Pg w) (n + 1) f fd ps (spX K cl np (fun args => enter (run Γ wl n) wl d args))) :
    CallX Pg w K mg base cl (n + 1) (run Γ wl (n + 1)) i x np := by
  obtain ⟨f, fd, a, F⟩ := D.ex
  refine ⟨f, fd, ps, ?_, PySem.W.mg_of X G a, F.kp, F.binds hb, hp⟩
  have e : run Γ wl (n + 1) i = fun args => enter (run Γ wl n) wl d args := by
    funext args
    show (match Γ i with | some d => enter (run Γ wl n) wl d args | none => .stuck) = _
    rw [hΓ]
  rw [e, hp]
  exact ok f fd F
end
end HH
namespace HH
open PySem L2 PySem.Spec PyProof.Rows
section
variable {X : Cx} {c : Call} {n : Nat} {W : Nat → Hp → Prop} {iter : Expr} {p : P} {pos : Pos} {body : List Stmt} {ss : List S}
theorem ssx_for1 {i : Nat} {x : Str} {pos' : Pos} (hp : PassesOwn (model X.prog X.w) X.A X.env X.xe) (hc : X.calm = true) (hN : X.N.Nodup) (hx0 : X.N[i]? = some x) (hx : Loc X.env.scope x) (hi : SI X c (.Name x pos') iter p) (hb : SB X c n body ss) (hbx : SBX X c n W body ss)
    (hs : ∀ x, foldedSetIterable iter X.env x = pure x := by intro _; rfl) (hf : X.fn x = true ∨ X.env.scope.names.lookup x = some .local := by first | exact .inl rfl | exact .inr rfl | assumption) : SSX X c n W (.For (.Name x pos') iter body [] pos) (.forr p [i] true ss) :=
  ssx_for hp hc hi (pg_name hN hx0 hx hf) (by rw [bindF_one]; exact tg_name i) hb hbx hs
end
end HH
namespace HH
open PySem L2 PySem.Spec PyProof.Rows
theorem cls_in {K : PySem.W.Frag} {x : Str} {C : Addr} (a : PySem.W.nsIn K mainGlobals x = some (some (.ref C))) (q : PySem.W.excIn K C [.type "ValueError", .type "Exception", .type "BaseException", .type "object"] "ValueError.__new__" = true) : ∃ C, ClsIn K x C := ⟨C, a, q⟩
end HH
end
section
set_option linter.all false
set_option Elab.async false
set_option maxRecDepth 100000
namespace L2
open PySem PySem.Spec PyProof.Rows
section
variable {prog : Program} {w : World} {A : Around} {E : Value → Shared → Prop} {s : Shared} {env : Env}
end
section
variable {X : Cx} {pins : List (Addr × Obj)} {σ : St} {H : Hp} {s : Shared} {e : Addr} {oe : Obj}
end
section
variable {X : Cx} {e C : Addr} {oe : Obj}
end
end L2
end
section
set_option linter.all false
set_option Elab.async false
set_option maxRecDepth 100000
namespace HH
open PySem L2 PySem.Spec PyProof.Rows
section
variable {K : PySem.W.Frag} {F H F1 H1 : Hp} {ρ ρ1 : List Sl} {σ σ1 : L2.St}
end
section
variable {X : Cx} {i : Nat} {e C : Addr} {oe : Obj} {pos : Pos}
variable {x : Expr} {b : Bool}
end
section
variable {X : Cx} {c : Call} {n i : Nat} {e C : Addr} {oe : Obj} {pos : Pos}
variable {cl : Nat → Addr} {kk : Nat} {st : List Stmt}
variable {body : List Stmt} {ss : List S}
end
section
variable {X : Cx} {c : Call} {n : Nat} {W : Nat → Hp → Prop} {e : Expr} {pos : Pos}
end
end HH
end
section
set_option linter.all false
set_option Elab.async false
set_option maxRecDepth 100000
namespace L2
open PySem PySem.Spec PyProof.Rows
section
variable {X : Cx} {pins : List (Addr × Obj)} {σ : St} {H : Hp} {s : Shared} {E : Value → Shared → Prop}
end
end L2
namespace HH
open PySem L2 PySem.Spec PyProof.Rows
section
variable {X : Cx} {c : Call} {a b : Expr} {pa pb : P} {pos : Pos}
end
end HH
namespace HH
open PySem L2 PySem.Spec PyProof.Rows
end HH
namespace HH
open PySem L2 PySem.Spec PyProof.Rows
end HH
end
section
set_option linter.all false
set_option Elab.async false
set_option maxRecDepth 100000
namespace HH
open PySem L2 PySem.Spec PyProof.Rows
section
variable {K : PySem.W.Frag} {x y : Str} {C C2 : Addr} {b : Bool} {T : String}
noncomputable def NsC (K : PySem.W.Frag) (x : Str) (C : Addr) : Prop := PySem.W.nsIn K mainGlobals x = some (some (.ref C))
theorem NsC.uniq (h : NsC K x C) (h2 : NsC K x C2) : C = C2 := by
  have := h.symm.trans h2
  cases this; rfl
theorem n_in (a : PySem.W.nsIn K mainGlobals x = some (some (.ref C))) : ∃ C, NsC K x C := ⟨C, a⟩
theorem o_at (h : ∃ C, ClsIn K x C) (n : NsC K x C) : ClsIn K x C := by
  obtain ⟨C', z⟩ := h
  have e : C' = C := NsC.uniq z.nm n
  subst e; exact z
end
end HH
end
section
set_option linter.all false
set_option Elab.async false
set_option maxRecDepth 100000
namespace HT
open PySem PySem.Spec PyProof.Rows
section
variable {prog : Program} {w : World} {A : Around} {E : Value → Shared → Prop} {s : Shared}
end
end HT
namespace HH
open PySem L2 PySem.Spec PyProof.Rows
section
variable {X : Cx} {c : Call} {e a : Expr} {te : TE} {pa : P} {pos p1 p2 p3 : Pos}
end
end HH
end
section
set_option linter.all false
set_option Elab.async false
set_option maxRecDepth 100000
set_option maxHeartbeats 4000000
namespace T
open PySem L2 PySem.Spec PyProof.Rows HH
noncomputable def top (i : Nat) : Stmt := PySem.Challenge.pw_hourhaul_k39_what_rounds_bring.main.body.getD i (.Pass ⟨0, 0, 0, 0⟩)
noncomputable abbrev s0 : Stmt := top 4
noncomputable def b0 : List S := [
    .asg 2 (.lst []), 
    .forr (.var 1) [3] true [.ifs (.or (.not (.chain .le .lt (.con (.int 0)) (.var 3) (.blt .len [.idx (.var 0) (.con (.int 1))]))) (.cmp .lt (.idx (.idx (.idx (.var 0) (.con (.int 1))) (.var 3)) (.con (.int 2))) (.con (.int 1)))) [.rais 1] [], .asg 4 (.idx (.idx (.var 0) (.con (.int 1))) (.var 3)), .ifs (.cmp .eq (.blt .len [.var 2]) (.con (.int 0))) [.app 2 (.idx (.var 4) (.con (.int 0)))] [], .ifs (.or (.cmp .ne (.idx (.var 4) (.con (.int 0))) (.idx (.var 2) (.neg (.con (.int 1))))) (.cmp .inn (.idx (.var 4) (.con (.int 1))) (.var 2))) [.rais 1] [], .app 2 (.idx (.var 4) (.con (.int 1)))], 
    .ret (.blt .tuple [.var 2])]
noncomputable def f0 : Fd := ⟨2, 5, b0⟩
theorem sc0 : FnScope ["net", "walk", "places", "number", "way"] ["net", "walk"] (defScope s0) := ⟨rfl, rfl, rfl, by decide +kernel, rfl, by decide +kernel, by decide +kernel⟩
theorem d0 {Pg : Program} {w : World} {K : PySem.W.Frag} {mg : Str → Option Value} {base : Heap} {f : Addr} {fd : FuncData} {k n : Nat} {c : Call} {cl : Nat → Addr} (Fu : Fun K "walk_places" "walk_places" s0 f fd) (B_len : mg "len" = none) (B_tuple : mg "tuple" = none) :
    FnOk Pg w K mg base CX0 (k + 1) f fd ["net", "walk"] (spC K 2 (fun args => enter c n f0 args)) := by
  refine fn_ok Fu sc0 rfl rfl fun cdv A outer s H E hr => ?_
  have nd := sc0.nd
  have hc : true = true := rfl
  refine sb_cons ?_ ?_
  · exact (by (first | with_reducible refine ss_asg (i := 2) ?q1_1 ?q1_2 ?q1_3 ?q1_4 ?q1_5 ?q1_6 | refine ss_asg (i := 2) ?q1_1 ?q1_2 ?q1_3 ?q1_4 ?q1_5 ?q1_6); (case q1_1 => exact nd); (case q1_2 => exact rfl); (case q1_3 => exact (Or.inl rfl)); (case q1_5 => exact (by rfl)); (case q1_6 => exact (Or.inl rfl)); (case q1_4 => exact (sx_lst sa_nil)))
  with_reducible refine sb_cons ?_ ?_
  · exact (by (first | with_reducible refine ss_for1 (i := 3) ?q14_1 ?q14_2 ?q14_3 ?q14_4 ?q14_5 ?q14_6 ?q14_7 ?q14_8 ?q14_9 | refine ss_for1 (i := 3) ?q14_1 ?q14_2 ?q14_3 ?q14_4 ?q14_5 ?q14_6 ?q14_7 ?q14_8 ?q14_9); (case q14_1 => exact PassesOwn.never); (case q14_2 => exact hc); (case q14_3 => exact nd); (case q14_4 => exact rfl); (case q14_5 => exact (Or.inl rfl)); (case q14_6 => exact (si_seq (sv 1))); (case q14_7 => exact (by (first | with_reducible refine sb_cons  ?q13_1 ?q13_2 | refine sb_cons  ?q13_1 ?q13_2); (case q13_1 => exact (by (first | with_reducible refine ss_if  ?q12_1 ?q12_2 ?q12_3 | refine ss_if  ?q12_1 ?q12_2 ?q12_3); (case q12_1 => exact (SW.st (sw_or (st_not (st_chain op_leD op_ltD sx_int (sv 3) (sx_len rfl (by rfl) B_len (sx_idx (sv 0) sx_int)))) (sw_or1 (st_cmp op_ltD (sx_idx (sx_idx (sx_idx (sv 0) sx_int) (sv 3)) sx_int) sx_int (nomark _)))))); (case q12_2 => exact (by (first | with_reducible refine sb_cons  ?q11_1 ?q11_2 | refine sb_cons  ?q11_1 ?q11_2); (case q11_1 => exact ss_rais); (case q11_2 => exact sb_nil))); (case q12_3 => exact sb_nil))); (case q13_2 => exact (by (first | with_reducible refine sb_cons  ?q10_1 ?q10_2 | refine sb_cons  ?q10_1 ?q10_2); (case q10_1 => exact (by (first | with_reducible refine ss_asg (i := 4) ?q9_1 ?q9_2 ?q9_3 ?q9_4 ?q9_5 ?q9_6 | refine ss_asg (i := 4) ?q9_1 ?q9_2 ?q9_3 ?q9_4 ?q9_5 ?q9_6); (case q9_1 => exact nd); (case q9_2 => exact rfl); (case q9_3 => exact (Or.inl rfl)); (case q9_5 => exact (by rfl)); (case q9_6 => exact (Or.inl rfl)); (case q9_4 => exact (sx_idx (sx_idx (sv 0) sx_int) (sv 3))))); (case q10_2 => exact (by (first | with_reducible refine sb_cons  ?q8_1 ?q8_2 | refine sb_cons  ?q8_1 ?q8_2); (case q8_1 => exact (by (first | with_reducible refine ss_if  ?q7_1 ?q7_2 ?q7_3 | refine ss_if  ?q7_1 ?q7_2 ?q7_3); (case q7_1 => exact (st_cmp (op_eqD (room_u hr)) (sx_len rfl (by rfl) B_len (sv 2)) sx_int (nomark _))); (case q7_2 => exact (by (first | with_reducible refine sb_cons  ?q6_1 ?q6_2 | refine sb_cons  ?q6_1 ?q6_2); (case q6_1 => exact (sx_app_core (k := 2) rfl (by first | exact Or.inl rfl | exact Or.inr (Or.inl rfl)) (sx_idx (sv 4) sx_int))); (case q6_2 => exact sb_nil))); (case q7_3 => exact sb_nil))); (case q8_2 => exact (by (first | with_reducible refine sb_cons  ?q5_1 ?q5_2 | refine sb_cons  ?q5_1 ?q5_2); (case q5_1 => exact (by (first | with_reducible refine ss_if  ?q4_1 ?q4_2 ?q4_3 | refine ss_if  ?q4_1 ?q4_2 ?q4_3); (case q4_1 => exact (SW.st (sw_or (st_cmp (op_neD (room_u hr)) (sx_idx (sv 4) sx_int) (sx_idx (sv 2) (sx_neg sx_int)) (nomark _)) (sw_or1 (st_cmp op_innD (sx_idx (sv 4) sx_int) (sv 2) (by with_unfolding_all rfl)))))); (case q4_2 => exact (by (first | with_reducible refine sb_cons  ?q3_1 ?q3_2 | refine sb_cons  ?q3_1 ?q3_2); (case q3_1 => exact ss_rais); (case q3_2 => exact sb_nil))); (case q4_3 => exact sb_nil))); (case q5_2 => exact (by (first | with_reducible refine sb_cons  ?q2_1 ?q2_2 | refine sb_cons  ?q2_1 ?q2_2); (case q2_1 => exact (sx_app_core (k := 2) rfl (by first | exact Or.inl rfl | exact Or.inr (Or.inl rfl)) (sx_idx (sv 4) sx_int))); (case q2_2 => exact sb_nil))))))))))); (case q14_8 => exact (by intro _; rfl)); (case q14_9 => exact (Or.inl rfl)))
  with_reducible refine sb_cons ?_ ?_
  · exact (by (first | with_reducible refine ss_ret  ?q15_1 | refine ss_ret  ?q15_1); (case q15_1 => exact (sx_tuple rfl (by rfl) B_tuple (sv 2))))
  exact sb_nil
theorem dx0 {Pg : Program} {w : World} {K : PySem.W.Frag} {mg : Str → Option Value} {base : Heap} {f : Addr} {fd : FuncData} {k n : Nat} {c : Call} {cl : Nat → Addr} (Fu : Fun K "walk_places" "walk_places" s0 f fd) (B_len : mg "len" = none) (B_tuple : mg "tuple" = none) (O_NoWalk : OwnCls "NoWalk" (cl 1) [.type "ValueError", .type "Exception", .type "BaseException", .type "object"] "ValueError.__new__" mg base) :
    FnOk Pg w K mg base (CX1 Pg w) (k + 1) f fd ["net", "walk"] (spX K cl 2 (fun args => enter c n f0 args)) := by
  refine fnx_ok Fu sc0 rfl rfl fun cdv A outer s H E W hr hW => ?_
  have nd := sc0.nd
  have hc : true = true := rfl
  have hX : XOk (cxOf (CX1 Pg w) Pg w K mg base ["net", "walk", "places", "number", "way"] "walk_places" (defScope s0) f cdv A outer s H E) E := leave_ok
  refine sbx_cons ?_ ?_ ?_
  · exact (by (first | with_reducible refine ss_asg (i := 2) ?q16_1 ?q16_2 ?q16_3 ?q16_4 ?q16_5 ?q16_6 | refine ss_asg (i := 2) ?q16_1 ?q16_2 ?q16_3 ?q16_4 ?q16_5 ?q16_6); (case q16_1 => exact nd); (case q16_2 => exact rfl); (case q16_3 => exact (Or.inl rfl)); (case q16_5 => exact (by rfl)); (case q16_6 => exact (Or.inl rfl)); (case q16_4 => exact (sx_lst sa_nil)))
  · exact (ssx_none (by intro _; rfl))
  with_reducible refine sbx_cons ?_ ?_ ?_
  · exact (by (first | with_reducible refine ss_for1 (i := 3) ?q29_1 ?q29_2 ?q29_3 ?q29_4 ?q29_5 ?q29_6 ?q29_7 ?q29_8 ?q29_9 | refine ss_for1 (i := 3) ?q29_1 ?q29_2 ?q29_3 ?q29_4 ?q29_5 ?q29_6 ?q29_7 ?q29_8 ?q29_9); (case q29_1 => exact pass_own); (case q29_2 => exact hc); (case q29_3 => exact nd); (case q29_4 => exact rfl); (case q29_5 => exact (Or.inl rfl)); (case q29_6 => exact (si_seq (sv 1))); (case q29_7 => exact (by (first | with_reducible refine sb_cons  ?q28_1 ?q28_2 | refine sb_cons  ?q28_1 ?q28_2); (case q28_1 => exact (by (first | with_reducible refine ss_if  ?q27_1 ?q27_2 ?q27_3 | refine ss_if  ?q27_1 ?q27_2 ?q27_3); (case q27_1 => exact (SW.st (sw_or (st_not (st_chain op_leD op_ltD sx_int (sv 3) (sx_len rfl (by rfl) B_len (sx_idx (sv 0) sx_int)))) (sw_or1 (st_cmp op_ltD (sx_idx (sx_idx (sx_idx (sv 0) sx_int) (sv 3)) sx_int) sx_int (nomark _)))))); (case q27_2 => exact (by (first | with_reducible refine sb_cons  ?q26_1 ?q26_2 | refine sb_cons  ?q26_1 ?q26_2); (case q26_1 => exact ss_rais); (case q26_2 => exact sb_nil))); (case q27_3 => exact sb_nil))); (case q28_2 => exact (by (first | with_reducible refine sb_cons  ?q25_1 ?q25_2 | refine sb_cons  ?q25_1 ?q25_2); (case q25_1 => exact (by (first | with_reducible refine ss_asg (i := 4) ?q24_1 ?q24_2 ?q24_3 ?q24_4 ?q24_5 ?q24_6 | refine ss_asg (i := 4) ?q24_1 ?q24_2 ?q24_3 ?q24_4 ?q24_5 ?q24_6); (case q24_1 => exact nd); (case q24_2 => exact rfl); (case q24_3 => exact (Or.inl rfl)); (case q24_5 => exact (by rfl)); (case q24_6 => exact (Or.inl rfl)); (case q24_4 => exact (sx_idx (sx_idx (sv 0) sx_int) (sv 3))))); (case q25_2 => exact (by (first | with_reducible refine sb_cons  ?q23_1 ?q23_2 | refine sb_cons  ?q23_1 ?q23_2); (case q23_1 => exact (by (first | with_reducible refine ss_if  ?q22_1 ?q22_2 ?q22_3 | refine ss_if  ?q22_1 ?q22_2 ?q22_3); (case q22_1 => exact (st_cmp (op_eqD (room_u hr)) (sx_len rfl (by rfl) B_len (sv 2)) sx_int (nomark _))); (case q22_2 => exact (by (first | with_reducible refine sb_cons  ?q21_1 ?q21_2 | refine sb_cons  ?q21_1 ?q21_2); (case q21_1 => exact (sx_app_core (k := 2) rfl (by first | exact Or.inl rfl | exact Or.inr (Or.inl rfl)) (sx_idx (sv 4) sx_int))); (case q21_2 => exact sb_nil))); (case q22_3 => exact sb_nil))); (case q23_2 => exact (by (first | with_reducible refine sb_cons  ?q20_1 ?q20_2 | refine sb_cons  ?q20_1 ?q20_2); (case q20_1 => exact (by (first | with_reducible refine ss_if  ?q19_1 ?q19_2 ?q19_3 | refine ss_if  ?q19_1 ?q19_2 ?q19_3); (case q19_1 => exact (SW.st (sw_or (st_cmp (op_neD (room_u hr)) (sx_idx (sv 4) sx_int) (sx_idx (sv 2) (sx_neg sx_int)) (nomark _)) (sw_or1 (st_cmp op_innD (sx_idx (sv 4) sx_int) (sv 2) (by with_unfolding_all rfl)))))); (case q19_2 => exact (by (first | with_reducible refine sb_cons  ?q18_1 ?q18_2 | refine sb_cons  ?q18_1 ?q18_2); (case q18_1 => exact ss_rais); (case q18_2 => exact sb_nil))); (case q19_3 => exact sb_nil))); (case q20_2 => exact (by (first | with_reducible refine sb_cons  ?q17_1 ?q17_2 | refine sb_cons  ?q17_1 ?q17_2); (case q17_1 => exact (sx_app_core (k := 2) rfl (by first | exact Or.inl rfl | exact Or.inr (Or.inl rfl)) (sx_idx (sv 4) sx_int))); (case q17_2 => exact sb_nil))))))))))); (case q29_8 => exact (by intro _; rfl)); (case q29_9 => exact (Or.inl rfl)))
  · exact (ssx_for1 pass_own hc nd (i := 3) rfl (Or.inl rfl) (si_seq (sv 1)) (by (first | with_reducible refine sb_cons  ?q41_1 ?q41_2 | refine sb_cons  ?q41_1 ?q41_2); (case q41_1 => exact (by (first | with_reducible refine ss_if  ?q40_1 ?q40_2 ?q40_3 | refine ss_if  ?q40_1 ?q40_2 ?q40_3); (case q40_1 => exact (SW.st (sw_or (st_not (st_chain op_leD op_ltD sx_int (sv 3) (sx_len rfl (by rfl) B_len (sx_idx (sv 0) sx_int)))) (sw_or1 (st_cmp op_ltD (sx_idx (sx_idx (sx_idx (sv 0) sx_int) (sv 3)) sx_int) sx_int (nomark _)))))); (case q40_2 => exact (by (first | with_reducible refine sb_cons  ?q39_1 ?q39_2 | refine sb_cons  ?q39_1 ?q39_2); (case q39_1 => exact ss_rais); (case q39_2 => exact sb_nil))); (case q40_3 => exact sb_nil))); (case q41_2 => exact (by (first | with_reducible refine sb_cons  ?q38_1 ?q38_2 | refine sb_cons  ?q38_1 ?q38_2); (case q38_1 => exact (by (first | with_reducible refine ss_asg (i := 4) ?q37_1 ?q37_2 ?q37_3 ?q37_4 ?q37_5 ?q37_6 | refine ss_asg (i := 4) ?q37_1 ?q37_2 ?q37_3 ?q37_4 ?q37_5 ?q37_6); (case q37_1 => exact nd); (case q37_2 => exact rfl); (case q37_3 => exact (Or.inl rfl)); (case q37_5 => exact (by rfl)); (case q37_6 => exact (Or.inl rfl)); (case q37_4 => exact (sx_idx (sx_idx (sv 0) sx_int) (sv 3))))); (case q38_2 => exact (by (first | with_reducible refine sb_cons  ?q36_1 ?q36_2 | refine sb_cons  ?q36_1 ?q36_2); (case q36_1 => exact (by (first | with_reducible refine ss_if  ?q35_1 ?q35_2 ?q35_3 | refine ss_if  ?q35_1 ?q35_2 ?q35_3); (case q35_1 => exact (st_cmp (op_eqD (room_u hr)) (sx_len rfl (by rfl) B_len (sv 2)) sx_int (nomark _))); (case q35_2 => exact (by (first | with_reducible refine sb_cons  ?q34_1 ?q34_2 | refine sb_cons  ?q34_1 ?q34_2); (case q34_1 => exact (sx_app_core (k := 2) rfl (by first | exact Or.inl rfl | exact Or.inr (Or.inl rfl)) (sx_idx (sv 4) sx_int))); (case q34_2 => exact sb_nil))); (case q35_3 => exact sb_nil))); (case q36_2 => exact (by (first | with_reducible refine sb_cons  ?q33_1 ?q33_2 | refine sb_cons  ?q33_1 ?q33_2); (case q33_1 => exact (by (first | with_reducible refine ss_if  ?q32_1 ?q32_2 ?q32_3 | refine ss_if  ?q32_1 ?q32_2 ?q32_3); (case q32_1 => exact (SW.st (sw_or (st_cmp (op_neD (room_u hr)) (sx_idx (sv 4) sx_int) (sx_idx (sv 2) (sx_neg sx_int)) (nomark _)) (sw_or1 (st_cmp op_innD (sx_idx (sv 4) sx_int) (sv 2) (by with_unfolding_all rfl)))))); (case q32_2 => exact (by (first | with_reducible refine sb_cons  ?q31_1 ?q31_2 | refine sb_cons  ?q31_1 ?q31_2); (case q31_1 => exact ss_rais); (case q31_2 => exact sb_nil))); (case q32_3 => exact sb_nil))); (case q33_2 => exact (by (first | with_reducible refine sb_cons  ?q30_1 ?q30_2 | refine sb_cons  ?q30_1 ?q30_2); (case q30_1 => exact (sx_app_core (k := 2) rfl (by first | exact Or.inl rfl | exact Or.inr (Or.inl rfl)) (sx_idx (sv 4) sx_int))); (case q30_2 => exact sb_nil)))))))))) (sbx_cons (by (first | with_reducible refine ss_if  ?q48_1 ?q48_2 ?q48_3 | refine ss_if  ?q48_1 ?q48_2 ?q48_3); (case q48_1 => exact (SW.st (sw_or (st_not (st_chain op_leD op_ltD sx_int (sv 3) (sx_len rfl (by rfl) B_len (sx_idx (sv 0) sx_int)))) (sw_or1 (st_cmp op_ltD (sx_idx (sx_idx (sx_idx (sv 0) sx_int) (sv 3)) sx_int) sx_int (nomark _)))))); (case q48_2 => exact (by (first | with_reducible refine sb_cons  ?q47_1 ?q47_2 | refine sb_cons  ?q47_1 ?q47_2); (case q47_1 => exact ss_rais); (case q47_2 => exact sb_nil))); (case q48_3 => exact sb_nil)) (ssx_if (SW.st (sw_or (st_not (st_chain op_leD op_ltD sx_int (sv 3) (sx_len rfl (by rfl) B_len (sx_idx (sv 0) sx_int)))) (sw_or1 (st_cmp op_ltD (sx_idx (sx_idx (sx_idx (sv 0) sx_int) (sv 3)) sx_int) sx_int (nomark _))))) (sbx_cons ss_rais (ssx_rais hc rfl (by rfl) O_NoWalk PySem.F.excBase_ValueError hX (fun H z => hW 1 H z))
      sbx_nil) sbx_nil)
      (sbx_cons (by (first | with_reducible refine ss_asg (i := 4) ?q46_1 ?q46_2 ?q46_3 ?q46_4 ?q46_5 ?q46_6 | refine ss_asg (i := 4) ?q46_1 ?q46_2 ?q46_3 ?q46_4 ?q46_5 ?q46_6); (case q46_1 => exact nd); (case q46_2 => exact rfl); (case q46_3 => exact (Or.inl rfl)); (case q46_5 => exact (by rfl)); (case q46_6 => exact (Or.inl rfl)); (case q46_4 => exact (sx_idx (sx_idx (sv 0) sx_int) (sv 3)))) (ssx_none (by intro _; rfl))
      (sbx_cons (by (first | with_reducible refine ss_if  ?q45_1 ?q45_2 ?q45_3 | refine ss_if  ?q45_1 ?q45_2 ?q45_3); (case q45_1 => exact (st_cmp (op_eqD (room_u hr)) (sx_len rfl (by rfl) B_len (sv 2)) sx_int (nomark _))); (case q45_2 => exact (by (first | with_reducible refine sb_cons  ?q44_1 ?q44_2 | refine sb_cons  ?q44_1 ?q44_2); (case q44_1 => exact (sx_app_core (k := 2) rfl (by first | exact Or.inl rfl | exact Or.inr (Or.inl rfl)) (sx_idx (sv 4) sx_int))); (case q44_2 => exact sb_nil))); (case q45_3 => exact sb_nil)) (ssx_if (st_cmp (op_eqD (room_u hr)) (sx_len rfl (by rfl) B_len (sv 2)) sx_int (nomark _)) (sbx_cons (sx_app_core (k := 2) rfl (by first | exact Or.inl rfl | exact Or.inr (Or.inl rfl)) (sx_idx (sv 4) sx_int)) ssx_none
      sbx_nil) sbx_nil)
      (sbx_cons (by (first | with_reducible refine ss_if  ?q43_1 ?q43_2 ?q43_3 | refine ss_if  ?q43_1 ?q43_2 ?q43_3); (case q43_1 => exact (SW.st (sw_or (st_cmp (op_neD (room_u hr)) (sx_idx (sv 4) sx_int) (sx_idx (sv 2) (sx_neg sx_int)) (nomark _)) (sw_or1 (st_cmp op_innD (sx_idx (sv 4) sx_int) (sv 2) (by with_unfolding_all rfl)))))); (case q43_2 => exact (by (first | with_reducible refine sb_cons  ?q42_1 ?q42_2 | refine sb_cons  ?q42_1 ?q42_2); (case q42_1 => exact ss_rais); (case q42_2 => exact sb_nil))); (case q43_3 => exact sb_nil)) (ssx_if (SW.st (sw_or (st_cmp (op_neD (room_u hr)) (sx_idx (sv 4) sx_int) (sx_idx (sv 2) (sx_neg sx_int)) (nomark _)) (sw_or1 (st_cmp op_innD (sx_idx (sv 4) sx_int) (sv 2) (by with_unfolding_all rfl))))) (sbx_cons ss_rais (ssx_rais hc rfl (by rfl) O_NoWalk PySem.F.excBase_ValueError hX (fun H z => hW 1 H z))
      sbx_nil) sbx_nil)
      (sbx_cons (sx_app_core (k := 2) rfl (by first | exact Or.inl rfl | exact Or.inr (Or.inl rfl)) (sx_idx (sv 4) sx_int)) ssx_none
      sbx_nil))))) (by intro _; rfl) (Or.inl rfl))
  with_reducible refine sbx_cons ?_ ?_ ?_
  · exact (by (first | with_reducible refine ss_ret  ?q49_1 | refine ss_ret  ?q49_1); (case q49_1 => exact (sx_tuple rfl (by rfl) B_tuple (sv 2))))
  · exact ssx_none
  exact sbx_nil
noncomputable abbrev s1 : Stmt := top 5
noncomputable def b1 : List S := [
    .expr (.call 0 [.var 0, .var 1]), 
    .ret (.blt .sum [.comp (.var 1) 1 [2] true none (.idx (.idx (.idx (.var 0) (.con (.int 1))) (.var 2)) (.con (.int 3)))])]
noncomputable def f1 : Fd := ⟨2, 2, b1⟩
theorem sc1 : FnScope ["net", "walk"] ["net", "walk"] (defScope s1) := ⟨rfl, rfl, rfl, by decide +kernel, rfl, by decide +kernel, by decide +kernel⟩
theorem d1 {Pg : Program} {w : World} {K : PySem.W.Frag} {mg : Str → Option Value} {base : Heap} {f : Addr} {fd : FuncData} {k n : Nat} {c : Call} {cl : Nat → Addr} (Fu : Fun K "walk_length" "walk_length" s1 f fd) (B_sum : mg "sum" = none) (C_walk_places : CallOk Pg w K mg base k c 0 "walk_places" 2) :
    FnOk Pg w K mg base CX0 (k + 1) f fd ["net", "walk"] (spC K 2 (fun args => enter c n f1 args)) := by
  refine fn_ok Fu sc1 rfl rfl fun cdv A outer s H E hr => ?_
  have nd := sc1.nd
  have hc : true = true := rfl
  refine sb_cons ?_ ?_
  · exact (ss_expr (sxc C_walk_places hr (sg_cons (sv 0) (sg_cons (sv 1) sg_nil (starEach_nst rfl)) (starEach_nst rfl))))
  with_reducible refine sb_cons ?_ ?_
  · exact (by (first | with_reducible refine ss_ret  ?q50_1 | refine ss_ret  ?q50_1); (case q50_1 => exact (sx_sum rfl hc (by rfl) B_sum (sx_comp (N' := ["net", "walk", "number"]) hc (cOk rfl (by rfl)) (si_seq (sv 1)) (fun _ _ _ _ _ => pg_name (i := 2) (show (["net", "walk", "number"] : List Str).Nodup by decide +kernel) rfl (Or.inl rfl) (Or.inr rfl)) (tgc_name (Nat.le_refl _)) (fun _ _ _ _ _ => sq_none) (fun _ _ _ _ _ => (sx_idx (sx_idx (sx_idx (sv 0) sx_int) (sv 2)) sx_int))))))
  exact sb_nil
noncomputable abbrev s2 : Stmt := top 7
noncomputable def b2 : List S := [
    .ret (.blt .all [.comp (.zip (.var 1) (.idx (.var 0) (.con (.int 1)))) 2 [2, 3] false none (.chain .le .le (.con (.int 0)) (.var 2) (.idx (.var 3) (.con (.int 2))))])]
noncomputable def f2 : Fd := ⟨2, 2, b2⟩
theorem sc2 : FnScope ["net", "stream"] ["net", "stream"] (defScope s2) := ⟨rfl, rfl, rfl, by decide +kernel, rfl, by decide +kernel, by decide +kernel⟩
theorem d2 {Pg : Program} {w : World} {K : PySem.W.Frag} {mg : Str → Option Value} {base : Heap} {f : Addr} {fd : FuncData} {k n : Nat} {c : Call} {cl : Nat → Addr} (Fu : Fun K "within_rooms" "within_rooms" s2 f fd) (B_all : mg "all" = none) (B_zip : mg "zip" = none) :
    FnOk Pg w K mg base CX0 (k + 1) f fd ["net", "stream"] (spC K 2 (fun args => enter c n f2 args)) := by
  refine fn_ok Fu sc2 rfl rfl fun cdv A outer s H E hr => ?_
  have nd := sc2.nd
  have hc : true = true := rfl
  refine sb_cons ?_ ?_
  · exact (by (first | with_reducible refine ss_ret  ?q51_1 | refine ss_ret  ?q51_1); (case q51_1 => exact (sx_all rfl hc (by rfl) B_all (sx_comp (N' := ["net", "stream", "loads", "way"]) hc (cOk rfl (by rfl)) (si_zip rfl (by rfl) B_zip (sv 1) (sx_idx (sv 0) sx_int)) (fun _ _ _ _ _ => pg_tup hc (pgs_cons (pg_name (i := 2) (show (["net", "stream", "loads", "way"] : List Str).Nodup by decide +kernel) rfl (Or.inl rfl) (Or.inr rfl)) (pgs_cons (pg_name (i := 3) (show (["net", "stream", "loads", "way"] : List Str).Nodup by decide +kernel) rfl (Or.inl rfl) (Or.inr rfl)) pgs_nil))) (tgc_tup rfl (tgc_cons (show 2 ≤ 2 by decide) (tgc_cons (show 2 ≤ 3 by decide) tgc_nil))) (fun _ _ _ _ _ => sq_none) (fun _ _ _ _ _ => (sx_chain op_leD op_leD sx_int (sv 2) (sx_idx (sv 3) sx_int)))))))
  exact sb_nil
noncomputable abbrev s3 : Stmt := top 8
noncomputable def b3 : List S := [
    .tryR [.asg 3 (.call 0 [.var 0, .var 1])] 1 (.bl false), 
    .ret (.and (.cmp .ge (.var 2) (.con (.int 1))) (.and (.cmp .eq (.slice (.var 3) (.con .non) (.con (.int 1))) (.tup [.con (.int 0)])) (.cmp .eq (.slice (.var 3) (.neg (.con (.int 1))) (.con .non)) (.tup [.bin .sub (.idx (.var 0) (.con (.int 0))) (.con (.int 1))]))))]
noncomputable def f3 : Fd := ⟨3, 4, b3⟩
theorem sc3 : FnScope ["net", "walk", "loads", "places"] ["net", "walk", "loads"] (defScope s3) := ⟨rfl, rfl, rfl, by decide +kernel, rfl, by decide +kernel, by decide +kernel⟩
theorem d3 {Pg : Program} {w : World} {K : PySem.W.Frag} {mg : Str → Option Value} {base : Heap} {f : Addr} {fd : FuncData} {k n : Nat} {c : Call} {cl : Nat → Addr} (Fu : Fun K "is_round" "is_round" s3 f fd) (C_walk_places : CallOk Pg w K mg base k c 0 "walk_places" 2) (O_NoWalk : OwnCls "NoWalk" (cl 1) [.type "ValueError", .type "Exception", .type "BaseException", .type "object"] "ValueError.__new__" mg base) (X_walk_places : CallX Pg w K mg base cl k c 0 "walk_places" 2) :
    FnOk Pg w K mg base CX0 (k + 1) f fd ["net", "walk", "loads"] (spC K 3 (fun args => enter c n f3 args)) := by
  refine fn_ok Fu sc3 rfl rfl fun cdv A outer s H E hr => ?_
  have nd := sc3.nd
  have hc : true = true := rfl
  refine sb_cons ?_ ?_
  · exact (ss_tryR (cl := cl) (kk := 1) (by rfl) O_NoWalk (by decide +kernel) rfl ⟨rfl, rfl⟩ (fun _ => PassesOwnAt.never) (fun _ _ hp => (by (first | with_reducible refine sb_cons  ?q53_1 ?q53_2 | refine sb_cons  ?q53_1 ?q53_2); (case q53_1 => exact (by (first | with_reducible refine ss_asg (i := 3) ?q52_1 ?q52_2 ?q52_3 ?q52_4 ?q52_5 ?q52_6 | refine ss_asg (i := 3) ?q52_1 ?q52_2 ?q52_3 ?q52_4 ?q52_5 ?q52_6); (case q52_1 => exact nd); (case q52_2 => exact rfl); (case q52_3 => exact (Or.inl rfl)); (case q52_5 => exact (by rfl)); (case q52_6 => exact (Or.inl rfl)); (case q52_4 => exact (sxc C_walk_places hr (sg_cons (sv 0) (sg_cons (sv 1) sg_nil (starEach_nst rfl)) (starEach_nst rfl)))))); (case q53_2 => exact sb_nil))) (fun _ _ W hp hX => (sbx_cons (by (first | with_reducible refine ss_asg (i := 3) ?q54_1 ?q54_2 ?q54_3 ?q54_4 ?q54_5 ?q54_6 | refine ss_asg (i := 3) ?q54_1 ?q54_2 ?q54_3 ?q54_4 ?q54_5 ?q54_6); (case q54_1 => exact nd); (case q54_2 => exact rfl); (case q54_3 => exact (Or.inl rfl)); (case q54_5 => exact (by rfl)); (case q54_6 => exact (Or.inl rfl)); (case q54_4 => exact (sxc C_walk_places hr (sg_cons (sv 0) (sg_cons (sv 1) sg_nil (starEach_nst rfl)) (starEach_nst rfl))))) (ssx_asg (i := 3) rfl hX X_walk_places hr nd rfl (Or.inl rfl) (sg_cons (sv 0) (sg_cons (sv 1) sg_nil (starEach_nst rfl)) (starEach_nst rfl)))
      sbx_nil)))
  with_reducible refine sb_cons ?_ ?_
  · exact (by (first | with_reducible refine ss_ret  ?q55_1 | refine ss_ret  ?q55_1); (case q55_1 => exact (sx_and (sx_cmp op_geD (sv 2) sx_int (nomark _)) (sx_and (sx_cmp (op_eqD (room_u hr)) (sx_slice (sv 3) so_none (so_some sx_int)) (sx_tup (sa_cons sx_int sa_nil (starEach_nst rfl))) (nomark _)) (sx_oneV (sx_cmp (op_eqD (room_u hr)) (sx_slice (sv 3) (so_some (sx_neg sx_int)) so_none) (sx_tup (sa_cons (sx_bin op_subD (sx_idx (sv 0) sx_int) sx_int) sa_nil (starEach_nst rfl))) (nomark _)))).ev)))
  exact sb_nil
noncomputable abbrev s4 : Stmt := top 9
noncomputable def b4 : List S := [
    .ret (.comp (.rng (.con (.int 0)) (.blt .len [.idx (.var 0) (.con (.int 1))])) 1 [2] true none (.blt .sum [.comp (.var 1) 2 [3, 4] false (some (.cmp .inn (.var 2) (.var 3))) (.var 4)]))]
noncomputable def f4 : Fd := ⟨2, 2, b4⟩
theorem sc4 : FnScope ["net", "rounds"] ["net", "rounds"] (defScope s4) := ⟨rfl, rfl, rfl, by decide +kernel, rfl, by decide +kernel, by decide +kernel⟩
theorem d4 {Pg : Program} {w : World} {K : PySem.W.Frag} {mg : Str → Option Value} {base : Heap} {f : Addr} {fd : FuncData} {k n : Nat} {c : Call} {cl : Nat → Addr} (Fu : Fun K "rounds_stream" "rounds_stream" s4 f fd) (B_len : mg "len" = none) (B_range : mg "range" = none) (B_sum : mg "sum" = none) :
    FnOk Pg w K mg base CX0 (k + 1) f fd ["net", "rounds"] (spC K 2 (fun args => enter c n f4 args)) := by
  refine fn_ok Fu sc4 rfl rfl fun cdv A outer s H E hr => ?_
  have nd := sc4.nd
  have hc : true = true := rfl
  refine sb_cons ?_ ?_
  · exact (by (first | with_reducible refine ss_ret  ?q56_1 | refine ss_ret  ?q56_1); (case q56_1 => exact (sx_comp (N' := ["net", "rounds", "number"]) hc (cOk rfl (by rfl)) (si_rng1 rfl (by rfl) B_range (sx_len rfl (by rfl) B_len (sx_idx (sv 0) sx_int))) (fun _ _ _ _ _ => pg_name (i := 2) (show (["net", "rounds", "number"] : List Str).Nodup by decide +kernel) rfl (Or.inr rfl) (Or.inl rfl)) (tgc_name (Nat.le_refl _)) (fun _ _ _ _ _ => sq_none) (fun _ _ _ _ _ => (sx_sum rfl hc (by rfl) B_sum (sx_comp (N' := ["net", "rounds", "number", "walk", "loads"]) hc (cOk rfl (by rfl)) (si_seq (sv 1)) (fun _ _ _ _ _ => pg_tup hc (pgs_cons (pg_name (i := 3) (show (["net", "rounds", "number", "walk", "loads"] : List Str).Nodup by decide +kernel) rfl (Or.inl rfl) (Or.inr rfl)) (pgs_cons (pg_name (i := 4) (show (["net", "rounds", "number", "walk", "loads"] : List Str).Nodup by decide +kernel) rfl (Or.inl rfl) (Or.inr rfl)) pgs_nil))) (tgc_tup rfl (tgc_cons (show 3 ≤ 3 by decide) (tgc_cons (show 3 ≤ 4 by decide) tgc_nil))) (fun _ _ _ _ _ => sq_some (st_cmp op_innD (sv 2) (sv 3) (by with_unfolding_all rfl))) (fun _ _ _ _ _ => (sv 4))))))))
  exact sb_nil
noncomputable abbrev s5 : Stmt := top 10
noncomputable def b5 : List S := [
    .ifs (.not (.blt .all [.comp (.var 1) 2 [2, 3] false none (.call 3 [.var 0, .var 2, .var 3])])) [.ret (.con (.bl false))] [], 
    .ret (.call 2 [.var 0, .call 4 [.var 0, .var 1]])]
noncomputable def f5 : Fd := ⟨2, 2, b5⟩
theorem sc5 : FnScope ["net", "rounds"] ["net", "rounds"] (defScope s5) := ⟨rfl, rfl, rfl, by decide +kernel, rfl, by decide +kernel, by decide +kernel⟩
theorem d5 {Pg : Program} {w : World} {K : PySem.W.Frag} {mg : Str → Option Value} {base : Heap} {f : Addr} {fd : FuncData} {k n : Nat} {c : Call} {cl : Nat → Addr} (Fu : Fun K "rounds_fit" "rounds_fit" s5 f fd) (B_all : mg "all" = none) (C_is_round : CallOk Pg w K mg base k c 3 "is_round" 3) (C_rounds_stream : CallOk Pg w K mg base k c 4 "rounds_stream" 2) (C_within_rooms : CallOk Pg w K mg base k c 2 "within_rooms" 2) :
    FnOk Pg w K mg base CX0 (k + 1) f fd ["net", "rounds"] (spC K 2 (fun args => enter c n f5 args)) := by
  refine fn_ok Fu sc5 rfl rfl fun cdv A outer s H E hr => ?_
  have nd := sc5.nd
  have hc : true = true := rfl
  refine sb_cons ?_ ?_
  · exact (by (first | with_reducible refine ss_if  ?q59_1 ?q59_2 ?q59_3 | refine ss_if  ?q59_1 ?q59_2 ?q59_3); (case q59_1 => exact (st_not (st_val (sx_all rfl hc (by rfl) B_all (sx_comp (N' := ["net", "rounds", "walk", "loads"]) hc (cOk rfl (by rfl)) (si_seq (sv 1)) (fun _ _ _ _ _ => pg_tup hc (pgs_cons (pg_name (i := 2) (show (["net", "rounds", "walk", "loads"] : List Str).Nodup by decide +kernel) rfl (Or.inl rfl) (Or.inr rfl)) (pgs_cons (pg_name (i := 3) (show (["net", "rounds", "walk", "loads"] : List Str).Nodup by decide +kernel) rfl (Or.inl rfl) (Or.inr rfl)) pgs_nil))) (tgc_tup rfl (tgc_cons (show 2 ≤ 2 by decide) (tgc_cons (show 2 ≤ 3 by decide) tgc_nil))) (fun _ _ _ _ _ => sq_none) (fun _ _ _ _ _ => (sxc C_is_round hr (sg_cons (sv 0) (sg_cons (sv 2) (sg_cons (sv 3) sg_nil (starEach_nst rfl)) (starEach_nst rfl)) (starEach_nst rfl))))))))); (case q59_2 => exact (by (first | with_reducible refine sb_cons  ?q58_1 ?q58_2 | refine sb_cons  ?q58_1 ?q58_2); (case q58_1 => exact (by (first | with_reducible refine ss_ret  ?q57_1 | refine ss_ret  ?q57_1); (case q57_1 => exact sx_bl))); (case q58_2 => exact sb_nil))); (case q59_3 => exact sb_nil))
  with_reducible refine sb_cons ?_ ?_
  · exact (by (first | with_reducible refine ss_ret  ?q60_1 | refine ss_ret  ?q60_1); (case q60_1 => exact (sxc C_within_rooms hr (sg_cons (sv 0) (sg_cons (sxc C_rounds_stream hr (sg_cons (sv 0) (sg_cons (sv 1) sg_nil (starEach_nst rfl)) (starEach_nst rfl))) sg_nil (starEach_nst rfl)) (starEach_nst rfl)))))
  exact sb_nil
noncomputable abbrev s6 : Stmt := top 12
noncomputable def b6 : List S := [
    .ret (.blt .max2 [.con (.int 0), .bin .add (.bin .sub (.var 0) (.var 1)) (.con (.int 1))])]
noncomputable def f6 : Fd := ⟨2, 2, b6⟩
theorem sc6 : FnScope ["last", "length"] ["last", "length"] (defScope s6) := ⟨rfl, rfl, rfl, by decide +kernel, rfl, by decide +kernel, by decide +kernel⟩
theorem d6 {Pg : Program} {w : World} {K : PySem.W.Frag} {mg : Str → Option Value} {base : Heap} {f : Addr} {fd : FuncData} {k n : Nat} {c : Call} {cl : Nat → Addr} (Fu : Fun K "times_gone" "times_gone" s6 f fd) (B_max : mg "max" = none) :
    FnOk Pg w K mg base CX0 (k + 1) f fd ["last", "length"] (spC K 2 (fun args => enter c n f6 args)) := by
  refine fn_ok Fu sc6 rfl rfl fun cdv A outer s H E hr => ?_
  have nd := sc6.nd
  have hc : true = true := rfl
  refine sb_cons ?_ ?_
  · exact (by (first | with_reducible refine ss_ret  ?q61_1 | refine ss_ret  ?q61_1); (case q61_1 => exact (sx_max2 rfl hc (by rfl) B_max (sa_cons sx_int (sa_cons (sx_bin op_addD (sx_bin op_subD (sv 0) (sv 1)) sx_int) sa_nil (starEach_nst rfl)) (starEach_nst rfl)))))
  exact sb_nil
noncomputable abbrev s7 : Stmt := top 14
noncomputable def b7 : List S := [
    .ifs (.not (.call 5 [.var 0, .var 2])) [.ret (.con .non)] [], 
    .ret (.blt .sum [.comp (.var 2) 2 [3, 4] false none (.bin .mul (.var 4) (.call 6 [.var 1, .call 1 [.var 0, .var 3]]))])]
noncomputable def f7 : Fd := ⟨3, 3, b7⟩
theorem sc7 : FnScope ["net", "last", "rounds"] ["net", "last", "rounds"] (defScope s7) := ⟨rfl, rfl, rfl, by decide +kernel, rfl, by decide +kernel, by decide +kernel⟩
theorem d7 {Pg : Program} {w : World} {K : PySem.W.Frag} {mg : Str → Option Value} {base : Heap} {f : Addr} {fd : FuncData} {k n : Nat} {c : Call} {cl : Nat → Addr} (Fu : Fun K "rounds_bring" "rounds_bring" s7 f fd) (B_sum : mg "sum" = none) (C_rounds_fit : CallOk Pg w K mg base k c 5 "rounds_fit" 2) (C_times_gone : CallOk Pg w K mg base k c 6 "times_gone" 2) (C_walk_length : CallOk Pg w K mg base k c 1 "walk_length" 2) :
    FnOk Pg w K mg base CX0 (k + 1) f fd ["net", "last", "rounds"] (spC K 3 (fun args => enter c n f7 args)) := by
  refine fn_ok Fu sc7 rfl rfl fun cdv A outer s H E hr => ?_
  have nd := sc7.nd
  have hc : true = true := rfl
  refine sb_cons ?_ ?_
  · exact (by (first | with_reducible refine ss_if  ?q64_1 ?q64_2 ?q64_3 | refine ss_if  ?q64_1 ?q64_2 ?q64_3); (case q64_1 => exact (st_not (st_val (sxc C_rounds_fit hr (sg_cons (sv 0) (sg_cons (sv 2) sg_nil (starEach_nst rfl)) (starEach_nst rfl)))))); (case q64_2 => exact (by (first | with_reducible refine sb_cons  ?q63_1 ?q63_2 | refine sb_cons  ?q63_1 ?q63_2); (case q63_1 => exact (by (first | with_reducible refine ss_ret  ?q62_1 | refine ss_ret  ?q62_1); (case q62_1 => exact sx_non))); (case q63_2 => exact sb_nil))); (case q64_3 => exact sb_nil))
  with_reducible refine sb_cons ?_ ?_
  · exact (by (first | with_reducible refine ss_ret  ?q65_1 | refine ss_ret  ?q65_1); (case q65_1 => exact (sx_sum rfl hc (by rfl) B_sum (sx_comp (N' := ["net", "last", "rounds", "walk", "loads"]) hc (cOk rfl (by rfl)) (si_seq (sv 2)) (fun _ _ _ _ _ => pg_tup hc (pgs_cons (pg_name (i := 3) (show (["net", "last", "rounds", "walk", "loads"] : List Str).Nodup by decide +kernel) rfl (Or.inl rfl) (Or.inr rfl)) (pgs_cons (pg_name (i := 4) (show (["net", "last", "rounds", "walk", "loads"] : List Str).Nodup by decide +kernel) rfl (Or.inl rfl) (Or.inr rfl)) pgs_nil))) (tgc_tup rfl (tgc_cons (show 3 ≤ 3 by decide) (tgc_cons (show 3 ≤ 4 by decide) tgc_nil))) (fun _ _ _ _ _ => sq_none) (fun _ _ _ _ _ => (sx_bin op_mulD (sv 4) (sxc C_times_gone hr (sg_cons (sv 1) (sg_cons (sxc C_walk_length hr (sg_cons (sv 0) (sg_cons (sv 3) sg_nil (starEach_nst rfl)) (starEach_nst rfl))) sg_nil (starEach_nst rfl)) (starEach_nst rfl)))))))))
  exact sb_nil
noncomputable abbrev s8 : Stmt := top 16
noncomputable def b8 : List S := [
    .ret (.lst [.blt .max2 [.con (.int 0), .bin .sub (.var 0) (.bin .pow (.con (.int 10)) (.con (.int 18)))], .bin .mod (.var 0) (.bin .pow (.con (.int 10)) (.con (.int 18))), .con (.int 0)])]
noncomputable def f8 : Fd := ⟨1, 1, b8⟩
theorem sc8 : FnScope ["cell"] ["cell"] (defScope s8) := ⟨rfl, rfl, rfl, by decide +kernel, rfl, by decide +kernel, by decide +kernel⟩
theorem d8 {Pg : Program} {w : World} {K : PySem.W.Frag} {mg : Str → Option Value} {base : Heap} {f : Addr} {fd : FuncData} {k n : Nat} {c : Call} {cl : Nat → Addr} (Fu : Fun K "_law_pool" "_law_pool" s8 f fd) (B_max : mg "max" = none) :
    FnOk Pg w K mg base CX0 (k + 1) f fd ["cell"] (spC K 1 (fun args => enter c n f8 args)) := by
  refine fn_ok Fu sc8 rfl rfl fun cdv A outer s H E hr => ?_
  have nd := sc8.nd
  have hc : true = true := rfl
  refine sb_cons ?_ ?_
  · exact (by (first | with_reducible refine ss_ret  ?q66_1 | refine ss_ret  ?q66_1); (case q66_1 => exact (sx_lst (sa_cons (sx_max2 rfl hc (by rfl) B_max (sa_cons sx_int (sa_cons (sx_bin op_subD (sv 0) (sx_bin op_powD sx_int sx_int)) sa_nil (starEach_nst rfl)) (starEach_nst rfl))) (sa_cons (sx_bin op_modD (sv 0) (sx_bin op_powD sx_int sx_int)) (sa_cons sx_int sa_nil (starEach_nst rfl)) (starEach_nst rfl)) (starEach_nst rfl)))))
  exact sb_nil
noncomputable abbrev s9 : Stmt := top 17
noncomputable def b9 : List S := [
    .ifs (.cmp .gt (.idx (.var 0) (.con (.int 0))) (.con (.int 0))) [.asg 2 (.bin .mod (.idx (.var 0) (.con (.int 0))) (.var 1)), .seti 0 (.con (.int 0)) (.bin .fdiv (.idx (.var 0) (.con (.int 0))) (.var 1)), .ret (.var 2)] [], 
    .seti 0 (.con (.int 2)) (.bin .add (.idx (.var 0) (.con (.int 2))) (.con (.int 1))), 
    .asg 3 (.bin .mod (.bin .add (.idx (.var 0) (.con (.int 1))) (.bin .mul (.con (.int 7919)) (.idx (.var 0) (.con (.int 2))))) (.con (.int 1000000007))), 
    .asg 4 (.bin .mod (.bin .mul (.bin .add (.var 3) (.con (.int 11))) (.bin .add (.var 3) (.con (.int 48271)))) (.con (.int 998244353))), 
    .ret (.bin .mod (.bin .fdiv (.bin .mod (.bin .mul (.var 4) (.var 4)) (.con (.int 2147483647))) (.con (.int 8))) (.var 1))]
noncomputable def f9 : Fd := ⟨2, 5, b9⟩
theorem sc9 : FnScope ["pool", "base", "digit", "mixed", "stir"] ["pool", "base"] (defScope s9) := ⟨rfl, rfl, rfl, by decide +kernel, rfl, by decide +kernel, by decide +kernel⟩
theorem d9 {Pg : Program} {w : World} {K : PySem.W.Frag} {mg : Str → Option Value} {base : Heap} {f : Addr} {fd : FuncData} {k n : Nat} {c : Call} {cl : Nat → Addr} (Fu : Fun K "_law_next" "_law_next" s9 f fd) :
    FnOk Pg w K mg base CX0 (k + 1) f fd ["pool", "base"] (spC K 2 (fun args => enter c n f9 args)) := by
  refine fn_ok Fu sc9 rfl rfl fun cdv A outer s H E hr => ?_
  have nd := sc9.nd
  have hc : true = true := rfl
  refine sb_cons ?_ ?_
  · exact (by (first | with_reducible refine ss_if  ?q72_1 ?q72_2 ?q72_3 | refine ss_if  ?q72_1 ?q72_2 ?q72_3); (case q72_1 => exact (st_cmp op_gtD (sx_idx (sv 0) sx_int) sx_int (nomark _))); (case q72_2 => exact (by (first | with_reducible refine sb_cons  ?q71_1 ?q71_2 | refine sb_cons  ?q71_1 ?q71_2); (case q71_1 => exact (by (first | with_reducible refine ss_asg (i := 2) ?q70_1 ?q70_2 ?q70_3 ?q70_4 ?q70_5 ?q70_6 | refine ss_asg (i := 2) ?q70_1 ?q70_2 ?q70_3 ?q70_4 ?q70_5 ?q70_6); (case q70_1 => exact nd); (case q70_2 => exact rfl); (case q70_3 => exact (Or.inl rfl)); (case q70_5 => exact (by rfl)); (case q70_6 => exact (Or.inl rfl)); (case q70_4 => exact (sx_bin op_modD (sx_idx (sv 0) sx_int) (sv 1))))); (case q71_2 => exact (by (first | with_reducible refine sb_cons  ?q69_1 ?q69_2 | refine sb_cons  ?q69_1 ?q69_2); (case q69_1 => exact (ss_seti (k := 0) rfl (by first | exact Or.inl rfl | exact Or.inr (Or.inl rfl)) sx_int (sx_bin op_fdivD (sx_idx (sv 0) sx_int) (sv 1)))); (case q69_2 => exact (by (first | with_reducible refine sb_cons  ?q68_1 ?q68_2 | refine sb_cons  ?q68_1 ?q68_2); (case q68_1 => exact (by (first | with_reducible refine ss_ret  ?q67_1 | refine ss_ret  ?q67_1); (case q67_1 => exact (sv 2)))); (case q68_2 => exact sb_nil))))))); (case q72_3 => exact sb_nil))
  with_reducible refine sb_cons ?_ ?_
  · exact (ss_seti (k := 0) rfl (by first | exact Or.inl rfl | exact Or.inr (Or.inl rfl)) sx_int (sx_bin op_addD (sx_idx (sv 0) sx_int) sx_int))
  with_reducible refine sb_cons ?_ ?_
  · exact (by (first | with_reducible refine ss_asg (i := 3) ?q73_1 ?q73_2 ?q73_3 ?q73_4 ?q73_5 ?q73_6 | refine ss_asg (i := 3) ?q73_1 ?q73_2 ?q73_3 ?q73_4 ?q73_5 ?q73_6); (case q73_1 => exact nd); (case q73_2 => exact rfl); (case q73_3 => exact (Or.inl rfl)); (case q73_5 => exact (by rfl)); (case q73_6 => exact (Or.inl rfl)); (case q73_4 => exact (sx_bin op_modD (sx_bin op_addD (sx_idx (sv 0) sx_int) (sx_bin op_mulD sx_int (sx_idx (sv 0) sx_int))) sx_int)))
  with_reducible refine sb_cons ?_ ?_
  · exact (by (first | with_reducible refine ss_asg (i := 4) ?q74_1 ?q74_2 ?q74_3 ?q74_4 ?q74_5 ?q74_6 | refine ss_asg (i := 4) ?q74_1 ?q74_2 ?q74_3 ?q74_4 ?q74_5 ?q74_6); (case q74_1 => exact nd); (case q74_2 => exact rfl); (case q74_3 => exact (Or.inl rfl)); (case q74_5 => exact (by rfl)); (case q74_6 => exact (Or.inl rfl)); (case q74_4 => exact (sx_bin op_modD (sx_bin op_mulD (sx_bin op_addD (sv 3) sx_int) (sx_bin op_addD (sv 3) sx_int)) sx_int)))
  with_reducible refine sb_cons ?_ ?_
  · exact (by (first | with_reducible refine ss_ret  ?q75_1 | refine ss_ret  ?q75_1); (case q75_1 => exact (sx_bin op_modD (sx_bin op_fdivD (sx_bin op_modD (sx_bin op_mulD (sv 4) (sv 4)) sx_int) sx_int) (sv 1))))
  exact sb_nil
noncomputable abbrev s10 : Stmt := top 18
noncomputable def b10 : List S := [
    .asg 2 (.blt .list [.slice (.var 0) (.con .non) (.var 1)]), 
    .forr (.rng (.var 1) (.blt .len [.var 0])) [3] true [.seti 2 (.bin .mod (.var 3) (.var 1)) (.bin .add (.bin .mul (.idx (.var 2) (.bin .mod (.var 3) (.var 1))) (.con (.int 31))) (.idx (.var 0) (.var 3)))], 
    .ret (.var 2)]
noncomputable def f10 : Fd := ⟨2, 4, b10⟩
theorem sc10 : FnScope ["script", "most", "cells", "k"] ["script", "most"] (defScope s10) := ⟨rfl, rfl, rfl, by decide +kernel, rfl, by decide +kernel, by decide +kernel⟩
theorem d10 {Pg : Program} {w : World} {K : PySem.W.Frag} {mg : Str → Option Value} {base : Heap} {f : Addr} {fd : FuncData} {k n : Nat} {c : Call} {cl : Nat → Addr} (Fu : Fun K "_law_cells" "_law_cells" s10 f fd) (B_len : mg "len" = none) (B_list : mg "list" = none) (B_range : mg "range" = none) :
    FnOk Pg w K mg base CX0 (k + 1) f fd ["script", "most"] (spC K 2 (fun args => enter c n f10 args)) := by
  refine fn_ok Fu sc10 rfl rfl fun cdv A outer s H E hr => ?_
  have nd := sc10.nd
  have hc : true = true := rfl
  refine sb_cons ?_ ?_
  · exact (by (first | with_reducible refine ss_asg (i := 2) ?q76_1 ?q76_2 ?q76_3 ?q76_4 ?q76_5 ?q76_6 | refine ss_asg (i := 2) ?q76_1 ?q76_2 ?q76_3 ?q76_4 ?q76_5 ?q76_6); (case q76_1 => exact nd); (case q76_2 => exact rfl); (case q76_3 => exact (Or.inl rfl)); (case q76_5 => exact (by rfl)); (case q76_6 => exact (Or.inl rfl)); (case q76_4 => exact (sx_list rfl (by rfl) B_list (sx_slice (sv 0) so_none (so_some (sv 1))))))
  with_reducible refine sb_cons ?_ ?_
  · exact (by (first | with_reducible refine ss_for1 (i := 3) ?q78_1 ?q78_2 ?q78_3 ?q78_4 ?q78_5 ?q78_6 ?q78_7 ?q78_8 ?q78_9 | refine ss_for1 (i := 3) ?q78_1 ?q78_2 ?q78_3 ?q78_4 ?q78_5 ?q78_6 ?q78_7 ?q78_8 ?q78_9); (case q78_1 => exact PassesOwn.never); (case q78_2 => exact hc); (case q78_3 => exact nd); (case q78_4 => exact rfl); (case q78_5 => exact (Or.inl rfl)); (case q78_6 => exact (si_rng2 rfl (by rfl) B_range (sv 1) (sx_len rfl (by rfl) B_len (sv 0)))); (case q78_7 => exact (by (first | with_reducible refine sb_cons  ?q77_1 ?q77_2 | refine sb_cons  ?q77_1 ?q77_2); (case q77_1 => exact (ss_seti (k := 2) rfl (by first | exact Or.inl rfl | exact Or.inr (Or.inl rfl)) (sx_bin op_modD (sv 3) (sv 1)) (sx_bin op_addD (sx_bin op_mulD (sx_idx (sv 2) (sx_bin op_modD (sv 3) (sv 1))) sx_int) (sx_idx (sv 0) (sv 3))))); (case q77_2 => exact sb_nil))); (case q78_8 => exact (by intro _; rfl)); (case q78_9 => exact (Or.inl rfl)))
  with_reducible refine sb_cons ?_ ?_
  · exact (by (first | with_reducible refine ss_ret  ?q79_1 | refine ss_ret  ?q79_1); (case q79_1 => exact (sv 2)))
  exact sb_nil
noncomputable abbrev s11 : Stmt := top 19
noncomputable def b11 : List S := [
    .asg 3 (.call 9 [.var 0, .var 1]), 
    .asg 4 (.bin .mod (.bin .add (.bin .add (.var 3) (.con (.int 1))) (.call 9 [.var 0, .bin .sub (.var 1) (.con (.int 1))])) (.var 1)), 
    .ifs (.and (.cmp .lt (.bin .add (.var 2) (.con (.int 1))) (.var 1)) (.cmp .gt (.call 9 [.var 0, .con (.int 3)]) (.con (.int 0)))) [.par 3 4 (.var 2) (.bin .add (.var 2) (.con (.int 1)))] [.ifs (.and (.cmp .gt (.var 3) (.var 4)) (.cmp .gt (.call 9 [.var 0, .con (.int 3)]) (.con (.int 0)))) [.par 3 4 (.var 4) (.var 3)] []], 
    .asg 5 (.idx (.lst [.con (.int 1), .con (.int 2), .con (.int 3), .con (.int 5), .con (.int 0), .con (.int 1), .con (.int 4), .bin .add (.con (.int 1)) (.call 9 [.var 0, .con (.int 9)])]) (.call 9 [.var 0, .con (.int 8)])), 
    .ret (.tup [.var 3, .var 4, .var 5, .idx (.lst [.con (.int 1), .con (.int 1), .con (.int 1), .con (.int 2), .con (.int 2), .con (.int 3), .con (.int 1), .con (.int 4)]) (.call 9 [.var 0, .con (.int 8)])])]
noncomputable def f11 : Fd := ⟨3, 6, b11⟩
theorem sc11 : FnScope ["pool", "many", "k", "begin", "end", "room"] ["pool", "many", "k"] (defScope s11) := ⟨rfl, rfl, rfl, by decide +kernel, rfl, by decide +kernel, by decide +kernel⟩
theorem d11 {Pg : Program} {w : World} {K : PySem.W.Frag} {mg : Str → Option Value} {base : Heap} {f : Addr} {fd : FuncData} {k n : Nat} {c : Call} {cl : Nat → Addr} (Fu : Fun K "_law_way" "_law_way" s11 f fd) (C__law_next : CallOk Pg w K mg base k c 9 "_law_next" 2) :
    FnOk Pg w K mg base CX0 (k + 1) f fd ["pool", "many", "k"] (spC K 3 (fun args => enter c n f11 args)) := by
  refine fn_ok Fu sc11 rfl rfl fun cdv A outer s H E hr => ?_
  have nd := sc11.nd
  have hc : true = true := rfl
  refine sb_cons ?_ ?_
  · exact (by (first | with_reducible refine ss_asg (i := 3) ?q80_1 ?q80_2 ?q80_3 ?q80_4 ?q80_5 ?q80_6 | refine ss_asg (i := 3) ?q80_1 ?q80_2 ?q80_3 ?q80_4 ?q80_5 ?q80_6); (case q80_1 => exact nd); (case q80_2 => exact rfl); (case q80_3 => exact (Or.inl rfl)); (case q80_5 => exact (by rfl)); (case q80_6 => exact (Or.inl rfl)); (case q80_4 => exact (sxc C__law_next hr (sg_cons (sv 0) (sg_cons (sv 1) sg_nil (starEach_nst rfl)) (starEach_nst rfl)))))
  with_reducible refine sb_cons ?_ ?_
  · exact (by (first | with_reducible refine ss_asg (i := 4) ?q81_1 ?q81_2 ?q81_3 ?q81_4 ?q81_5 ?q81_6 | refine ss_asg (i := 4) ?q81_1 ?q81_2 ?q81_3 ?q81_4 ?q81_5 ?q81_6); (case q81_1 => exact nd); (case q81_2 => exact rfl); (case q81_3 => exact (Or.inl rfl)); (case q81_5 => exact (by rfl)); (case q81_6 => exact (Or.inl rfl)); (case q81_4 => exact (sx_bin op_modD (sx_bin op_addD (sx_bin op_addD (sv 3) sx_int) (sxc C__law_next hr (sg_cons (sv 0) (sg_cons (sx_bin op_subD (sv 1) sx_int) sg_nil (starEach_nst rfl)) (starEach_nst rfl)))) (sv 1))))
  with_reducible refine sb_cons ?_ ?_
  · exact (by (first | with_reducible refine ss_if  ?q86_1 ?q86_2 ?q86_3 | refine ss_if  ?q86_1 ?q86_2 ?q86_3); (case q86_1 => exact (SW.st (sw_and (st_cmp op_ltD (sx_bin op_addD (sv 2) sx_int) (sv 1) (nomark _)) (sw_and1 (st_cmp op_gtD (sxc C__law_next hr (sg_cons (sv 0) (sg_cons sx_int sg_nil (starEach_nst rfl)) (starEach_nst rfl))) sx_int (nomark _)))))); (case q86_2 => exact (by (first | with_reducible refine sb_cons  ?q82_1 ?q82_2 | refine sb_cons  ?q82_1 ?q82_2); (case q82_1 => exact (ss_par (i := 3) (j := 4) hc nd rfl rfl (by decide) rfl rfl (sv 2) (sx_bin op_addD (sv 2) sx_int))); (case q82_2 => exact sb_nil))); (case q86_3 => exact (by (first | with_reducible refine sb_cons  ?q85_1 ?q85_2 | refine sb_cons  ?q85_1 ?q85_2); (case q85_1 => exact (by (first | with_reducible refine ss_if  ?q84_1 ?q84_2 ?q84_3 | refine ss_if  ?q84_1 ?q84_2 ?q84_3); (case q84_1 => exact (SW.st (sw_and (st_cmp op_gtD (sv 3) (sv 4) (nomark _)) (sw_and1 (st_cmp op_gtD (sxc C__law_next hr (sg_cons (sv 0) (sg_cons sx_int sg_nil (starEach_nst rfl)) (starEach_nst rfl))) sx_int (nomark _)))))); (case q84_2 => exact (by (first | with_reducible refine sb_cons  ?q83_1 ?q83_2 | refine sb_cons  ?q83_1 ?q83_2); (case q83_1 => exact (ss_par (i := 3) (j := 4) hc nd rfl rfl (by decide) rfl rfl (sv 4) (sv 3))); (case q83_2 => exact sb_nil))); (case q84_3 => exact sb_nil))); (case q85_2 => exact sb_nil))))
  with_reducible refine sb_cons ?_ ?_
  · exact (by (first | with_reducible refine ss_asg (i := 5) ?q87_1 ?q87_2 ?q87_3 ?q87_4 ?q87_5 ?q87_6 | refine ss_asg (i := 5) ?q87_1 ?q87_2 ?q87_3 ?q87_4 ?q87_5 ?q87_6); (case q87_1 => exact nd); (case q87_2 => exact rfl); (case q87_3 => exact (Or.inl rfl)); (case q87_5 => exact (by rfl)); (case q87_6 => exact (Or.inl rfl)); (case q87_4 => exact (sx_idx (sx_lst (sa_preI [1, 2, 3, 5, 0, 1, 4] rfl (sa_cons (sx_bin op_addD sx_int (sxc C__law_next hr (sg_cons (sv 0) (sg_cons sx_int sg_nil (starEach_nst rfl)) (starEach_nst rfl)))) sa_nil (starEach_nst rfl)))) (sxc C__law_next hr (sg_cons (sv 0) (sg_cons sx_int sg_nil (starEach_nst rfl)) (starEach_nst rfl))))))
  with_reducible refine sb_cons ?_ ?_
  · exact (by (first | with_reducible refine ss_ret  ?q88_1 | refine ss_ret  ?q88_1); (case q88_1 => exact (sx_tup (sa_cons (sv 3) (sa_cons (sv 4) (sa_cons (sv 5) (sa_cons (sx_idx (sx_lst (sa_preI [1, 1, 1, 2, 2, 3, 1, 4] rfl sa_nil)) (sxc C__law_next hr (sg_cons (sv 0) (sg_cons sx_int sg_nil (starEach_nst rfl)) (starEach_nst rfl)))) sa_nil (starEach_nst rfl)) (starEach_nst rfl)) (starEach_nst rfl)) (starEach_nst rfl)))))
  exact sb_nil
noncomputable abbrev s12 : Stmt := top 20
noncomputable def b12 : List S := [
    .asg 1 (.idx (.lst [.con (.int 3), .con (.int 4), .con (.int 3), .con (.int 4), .con (.int 2), .con (.int 5), .con (.int 6), .con (.int 4)]) (.call 9 [.var 0, .con (.int 8)])), 
    .asg 2 (.idx (.lst [.con (.int 5), .con (.int 3), .con (.int 4), .con (.int 6), .con (.int 2), .con (.int 7), .con (.int 8), .con (.int 10), .con (.int 12), .con (.int 1), .con (.int 0), .con (.int 5)]) (.call 9 [.var 0, .con (.int 12)])), 
    .ret (.tup [.var 1, .blt .tuple [.comp (.rng (.con (.int 0)) (.var 2)) 1 [3] true none (.call 11 [.var 0, .var 1, .var 3])]])]
noncomputable def f12 : Fd := ⟨1, 3, b12⟩
theorem sc12 : FnScope ["pool", "many", "count"] ["pool"] (defScope s12) := ⟨rfl, rfl, rfl, by decide +kernel, rfl, by decide +kernel, by decide +kernel⟩
theorem d12 {Pg : Program} {w : World} {K : PySem.W.Frag} {mg : Str → Option Value} {base : Heap} {f : Addr} {fd : FuncData} {k n : Nat} {c : Call} {cl : Nat → Addr} (Fu : Fun K "_law_net" "_law_net" s12 f fd) (B_range : mg "range" = none) (B_tuple : mg "tuple" = none) (C__law_next : CallOk Pg w K mg base k c 9 "_law_next" 2) (C__law_way : CallOk Pg w K mg base k c 11 "_law_way" 3) :
    FnOk Pg w K mg base CX0 (k + 1) f fd ["pool"] (spC K 1 (fun args => enter c n f12 args)) := by
  refine fn_ok Fu sc12 rfl rfl fun cdv A outer s H E hr => ?_
  have nd := sc12.nd
  have hc : true = true := rfl
  refine sb_cons ?_ ?_
  · exact (by (first | with_reducible refine ss_asg (i := 1) ?q89_1 ?q89_2 ?q89_3 ?q89_4 ?q89_5 ?q89_6 | refine ss_asg (i := 1) ?q89_1 ?q89_2 ?q89_3 ?q89_4 ?q89_5 ?q89_6); (case q89_1 => exact nd); (case q89_2 => exact rfl); (case q89_3 => exact (Or.inr rfl)); (case q89_5 => exact (by rfl)); (case q89_6 => exact (Or.inl rfl)); (case q89_4 => exact (sx_idx (sx_lst (sa_preI [3, 4, 3, 4, 2, 5, 6, 4] rfl sa_nil)) (sxc C__law_next hr (sg_cons (sv 0) (sg_cons sx_int sg_nil (starEach_nst rfl)) (starEach_nst rfl))))))
  with_reducible refine sb_cons ?_ ?_
  · exact (by (first | with_reducible refine ss_asg (i := 2) ?q90_1 ?q90_2 ?q90_3 ?q90_4 ?q90_5 ?q90_6 | refine ss_asg (i := 2) ?q90_1 ?q90_2 ?q90_3 ?q90_4 ?q90_5 ?q90_6); (case q90_1 => exact nd); (case q90_2 => exact rfl); (case q90_3 => exact (Or.inl rfl)); (case q90_5 => exact (by rfl)); (case q90_6 => exact (Or.inl rfl)); (case q90_4 => exact (sx_idx (sx_lst (sa_preI [5, 3, 4, 6, 2, 7, 8, 10, 12, 1, 0, 5] rfl sa_nil)) (sxc C__law_next hr (sg_cons (sv 0) (sg_cons sx_int sg_nil (starEach_nst rfl)) (starEach_nst rfl))))))
  with_reducible refine sb_cons ?_ ?_
  · exact (by (first | with_reducible refine ss_ret  ?q91_1 | refine ss_ret  ?q91_1); (case q91_1 => exact (sx_tup (sa_cons (sv 1) (sa_cons (sx_tuple rfl (by rfl) B_tuple (sx_comp (N' := ["pool", "many", "count", "k"]) hc (cOk rfl (by rfl)) (si_rng1 rfl (by rfl) B_range (sv 2)) (fun _ _ _ _ _ => pg_name (i := 3) (show (["pool", "many", "count", "k"] : List Str).Nodup by decide +kernel) rfl (Or.inl rfl) (Or.inr rfl)) (tgc_name (Nat.le_refl _)) (fun _ _ _ _ _ => sq_none) (fun _ _ _ _ _ => (sxc C__law_way hr (sg_cons (sv 0) (sg_cons (sv 1) (sg_cons (sv 3) sg_nil (starEach_nst rfl)) (starEach_nst rfl)) (starEach_nst rfl)))))) sa_nil (starEach_nst rfl)) (starEach_nst rfl)))))
  exact sb_nil
noncomputable abbrev s13 : Stmt := top 21
noncomputable def b13 : List S := [
    .asg 3 (.lst [.con (.int 0)]), 
    .forr (.var 1) [4] true [.ifs (.or (.cmp .lt (.var 4) (.con (.int 0))) (.or (.cmp .ge (.var 4) (.blt .len [.idx (.var 0) (.con (.int 1))])) (.cmp .ne (.idx (.idx (.idx (.var 0) (.con (.int 1))) (.var 4)) (.con (.int 0))) (.idx (.var 3) (.neg (.con (.int 1))))))) [.ret (.con (.bl false))] [], .ifs (.or (.cmp .eq (.idx (.idx (.idx (.var 0) (.con (.int 1))) (.var 4)) (.con (.int 2))) (.con (.int 0))) (.cmp .inn (.idx (.idx (.idx (.var 0) (.con (.int 1))) (.var 4)) (.con (.int 1))) (.var 3))) [.ret (.con (.bl false))] [], .app 3 (.idx (.idx (.idx (.var 0) (.con (.int 1))) (.var 4)) (.con (.int 1)))], 
    .ret (.cmp .eq (.idx (.var 3) (.neg (.con (.int 1)))) (.var 2))]
noncomputable def f13 : Fd := ⟨3, 5, b13⟩
theorem sc13 : FnScope ["net", "walk", "end", "places", "way"] ["net", "walk", "end"] (defScope s13) := ⟨rfl, rfl, rfl, by decide +kernel, rfl, by decide +kernel, by decide +kernel⟩
theorem d13 {Pg : Program} {w : World} {K : PySem.W.Frag} {mg : Str → Option Value} {base : Heap} {f : Addr} {fd : FuncData} {k n : Nat} {c : Call} {cl : Nat → Addr} (Fu : Fun K "_law_walk_to" "_law_walk_to" s13 f fd) (B_len : mg "len" = none) :
    FnOk Pg w K mg base CX0 (k + 1) f fd ["net", "walk", "end"] (spC K 3 (fun args => enter c n f13 args)) := by
  refine fn_ok Fu sc13 rfl rfl fun cdv A outer s H E hr => ?_
  have nd := sc13.nd
  have hc : true = true := rfl
  refine sb_cons ?_ ?_
  · exact (by (first | with_reducible refine ss_asg (i := 3) ?q92_1 ?q92_2 ?q92_3 ?q92_4 ?q92_5 ?q92_6 | refine ss_asg (i := 3) ?q92_1 ?q92_2 ?q92_3 ?q92_4 ?q92_5 ?q92_6); (case q92_1 => exact nd); (case q92_2 => exact rfl); (case q92_3 => exact (Or.inl rfl)); (case q92_5 => exact (by rfl)); (case q92_6 => exact (Or.inl rfl)); (case q92_4 => exact (sx_lst (sa_cons sx_int sa_nil (starEach_nst rfl)))))
  with_reducible refine sb_cons ?_ ?_
  · exact (by (first | with_reducible refine ss_for1 (i := 4) ?q102_1 ?q102_2 ?q102_3 ?q102_4 ?q102_5 ?q102_6 ?q102_7 ?q102_8 ?q102_9 | refine ss_for1 (i := 4) ?q102_1 ?q102_2 ?q102_3 ?q102_4 ?q102_5 ?q102_6 ?q102_7 ?q102_8 ?q102_9); (case q102_1 => exact PassesOwn.never); (case q102_2 => exact hc); (case q102_3 => exact nd); (case q102_4 => exact rfl); (case q102_5 => exact (Or.inl rfl)); (case q102_6 => exact (si_seq (sv 1))); (case q102_7 => exact (by (first | with_reducible refine sb_cons  ?q101_1 ?q101_2 | refine sb_cons  ?q101_1 ?q101_2); (case q101_1 => exact (by (first | with_reducible refine ss_if  ?q100_1 ?q100_2 ?q100_3 | refine ss_if  ?q100_1 ?q100_2 ?q100_3); (case q100_1 => exact (SW.st (sw_or (st_cmp op_ltD (sv 4) sx_int (nomark _)) (sw_or (st_cmp op_geD (sv 4) (sx_len rfl (by rfl) B_len (sx_idx (sv 0) sx_int)) (nomark _)) (sw_or1 (st_cmp (op_neD (room_u hr)) (sx_idx (sx_idx (sx_idx (sv 0) sx_int) (sv 4)) sx_int) (sx_idx (sv 3) (sx_neg sx_int)) (nomark _))))))); (case q100_2 => exact (by (first | with_reducible refine sb_cons  ?q99_1 ?q99_2 | refine sb_cons  ?q99_1 ?q99_2); (case q99_1 => exact (by (first | with_reducible refine ss_ret  ?q98_1 | refine ss_ret  ?q98_1); (case q98_1 => exact sx_bl))); (case q99_2 => exact sb_nil))); (case q100_3 => exact sb_nil))); (case q101_2 => exact (by (first | with_reducible refine sb_cons  ?q97_1 ?q97_2 | refine sb_cons  ?q97_1 ?q97_2); (case q97_1 => exact (by (first | with_reducible refine ss_if  ?q96_1 ?q96_2 ?q96_3 | refine ss_if  ?q96_1 ?q96_2 ?q96_3); (case q96_1 => exact (SW.st (sw_or (st_cmp (op_eqD (room_u hr)) (sx_idx (sx_idx (sx_idx (sv 0) sx_int) (sv 4)) sx_int) sx_int (nomark _)) (sw_or1 (st_cmp op_innD (sx_idx (sx_idx (sx_idx (sv 0) sx_int) (sv 4)) sx_int) (sv 3) (by with_unfolding_all rfl)))))); (case q96_2 => exact (by (first | with_reducible refine sb_cons  ?q95_1 ?q95_2 | refine sb_cons  ?q95_1 ?q95_2); (case q95_1 => exact (by (first | with_reducible refine ss_ret  ?q94_1 | refine ss_ret  ?q94_1); (case q94_1 => exact sx_bl))); (case q95_2 => exact sb_nil))); (case q96_3 => exact sb_nil))); (case q97_2 => exact (by (first | with_reducible refine sb_cons  ?q93_1 ?q93_2 | refine sb_cons  ?q93_1 ?q93_2); (case q93_1 => exact (sx_app_core (k := 3) rfl (by first | exact Or.inl rfl | exact Or.inr (Or.inl rfl)) (sx_idx (sx_idx (sx_idx (sv 0) sx_int) (sv 4)) sx_int))); (case q93_2 => exact sb_nil))))))); (case q102_8 => exact (by intro _; rfl)); (case q102_9 => exact (Or.inl rfl)))
  with_reducible refine sb_cons ?_ ?_
  · exact (by (first | with_reducible refine ss_ret  ?q103_1 | refine ss_ret  ?q103_1); (case q103_1 => exact (sx_cmp (op_eqD (room_u hr)) (sx_idx (sv 3) (sx_neg sx_int)) (sv 2) (nomark _))))
  exact sb_nil
noncomputable abbrev s14 : Stmt := top 22
noncomputable def b14 : List S := [
    .ret (.blt .sum [.comp (.var 1) 1 [2] true none (.idx (.idx (.idx (.var 0) (.con (.int 1))) (.var 2)) (.con (.int 3)))])]
noncomputable def f14 : Fd := ⟨2, 2, b14⟩
theorem sc14 : FnScope ["net", "walk"] ["net", "walk"] (defScope s14) := ⟨rfl, rfl, rfl, by decide +kernel, rfl, by decide +kernel, by decide +kernel⟩
theorem d14 {Pg : Program} {w : World} {K : PySem.W.Frag} {mg : Str → Option Value} {base : Heap} {f : Addr} {fd : FuncData} {k n : Nat} {c : Call} {cl : Nat → Addr} (Fu : Fun K "_law_length" "_law_length" s14 f fd) (B_sum : mg "sum" = none) :
    FnOk Pg w K mg base CX0 (k + 1) f fd ["net", "walk"] (spC K 2 (fun args => enter c n f14 args)) := by
  refine fn_ok Fu sc14 rfl rfl fun cdv A outer s H E hr => ?_
  have nd := sc14.nd
  have hc : true = true := rfl
  refine sb_cons ?_ ?_
  · exact (by (first | with_reducible refine ss_ret  ?q104_1 | refine ss_ret  ?q104_1); (case q104_1 => exact (sx_sum rfl hc (by rfl) B_sum (sx_comp (N' := ["net", "walk", "way"]) hc (cOk rfl (by rfl)) (si_seq (sv 1)) (fun _ _ _ _ _ => pg_name (i := 2) (show (["net", "walk", "way"] : List Str).Nodup by decide +kernel) rfl (Or.inl rfl) (Or.inr rfl)) (tgc_name (Nat.le_refl _)) (fun _ _ _ _ _ => sq_none) (fun _ _ _ _ _ => (sx_idx (sx_idx (sx_idx (sv 0) sx_int) (sv 2)) sx_int))))))
  exact sb_nil
noncomputable abbrev s15 : Stmt := top 23
noncomputable def b15 : List S := [
    .asg 2 (.bin .mul (.lst [.con (.int 0)]) (.blt .len [.idx (.var 0) (.con (.int 1))])), 
    .forr (.var 1) [3, 4] false [.ifs (.or (.cmp .lt (.var 4) (.con (.int 1))) (.not (.call 13 [.var 0, .var 3, .bin .sub (.idx (.var 0) (.con (.int 0))) (.con (.int 1))]))) [.ret (.con (.bl false))] [], .forr (.var 3) [5] true [.seti 2 (.var 5) (.bin .add (.idx (.var 2) (.var 5)) (.var 4))]], 
    .ret (.blt .all [.comp (.rng (.con (.int 0)) (.blt .len [.var 2])) 1 [6] true none (.cmp .le (.idx (.var 2) (.var 6)) (.idx (.idx (.idx (.var 0) (.con (.int 1))) (.var 6)) (.con (.int 2))))])]
noncomputable def f15 : Fd := ⟨2, 6, b15⟩
theorem sc15 : FnScope ["net", "rounds", "gone", "walk", "loads", "way"] ["net", "rounds"] (defScope s15) := ⟨rfl, rfl, rfl, by decide +kernel, rfl, by decide +kernel, by decide +kernel⟩
theorem d15 {Pg : Program} {w : World} {K : PySem.W.Frag} {mg : Str → Option Value} {base : Heap} {f : Addr} {fd : FuncData} {k n : Nat} {c : Call} {cl : Nat → Addr} (Fu : Fun K "_law_fit" "_law_fit" s15 f fd) (B_all : mg "all" = none) (B_len : mg "len" = none) (B_range : mg "range" = none) (C__law_walk_to : CallOk Pg w K mg base k c 13 "_law_walk_to" 3) :
    FnOk Pg w K mg base CX0 (k + 1) f fd ["net", "rounds"] (spC K 2 (fun args => enter c n f15 args)) := by
  refine fn_ok Fu sc15 rfl rfl fun cdv A outer s H E hr => ?_
  have nd := sc15.nd
  have hc : true = true := rfl
  refine sb_cons ?_ ?_
  · exact (by (first | with_reducible refine ss_asg (i := 2) ?q105_1 ?q105_2 ?q105_3 ?q105_4 ?q105_5 ?q105_6 | refine ss_asg (i := 2) ?q105_1 ?q105_2 ?q105_3 ?q105_4 ?q105_5 ?q105_6); (case q105_1 => exact nd); (case q105_2 => exact rfl); (case q105_3 => exact (Or.inr rfl)); (case q105_5 => exact (by rfl)); (case q105_6 => exact (Or.inl rfl)); (case q105_4 => exact (sx_bin op_mulD (sx_lst (sa_cons sx_int sa_nil (starEach_nst rfl))) (sx_len rfl (by rfl) B_len (sx_idx (sv 0) sx_int)))))
  with_reducible refine sb_cons ?_ ?_
  · exact (ss_for PassesOwn.never hc (si_seq (sv 1)) (pg_tup hc (pgs_cons (pg_name (i := 3) nd rfl (Or.inl rfl) (Or.inl rfl)) (pgs_cons (pg_name (i := 4) nd rfl (Or.inl rfl) (Or.inl rfl)) pgs_nil))) (tg_tup rfl (tgs_all _ _ (tgs_all _ _ tgs_nil 4) 3)) (by (first | with_reducible refine sb_cons  ?q112_1 ?q112_2 | refine sb_cons  ?q112_1 ?q112_2); (case q112_1 => exact (by (first | with_reducible refine ss_if  ?q111_1 ?q111_2 ?q111_3 | refine ss_if  ?q111_1 ?q111_2 ?q111_3); (case q111_1 => exact (SW.st (sw_or (st_cmp op_ltD (sv 4) sx_int (nomark _)) (sw_or1 (st_not (st_val (sxc C__law_walk_to hr (sg_cons (sv 0) (sg_cons (sv 3) (sg_cons (sx_bin op_subD (sx_idx (sv 0) sx_int) sx_int) sg_nil (starEach_nst rfl)) (starEach_nst rfl)) (starEach_nst rfl))))))))); (case q111_2 => exact (by (first | with_reducible refine sb_cons  ?q110_1 ?q110_2 | refine sb_cons  ?q110_1 ?q110_2); (case q110_1 => exact (by (first | with_reducible refine ss_ret  ?q109_1 | refine ss_ret  ?q109_1); (case q109_1 => exact sx_bl))); (case q110_2 => exact sb_nil))); (case q111_3 => exact sb_nil))); (case q112_2 => exact (by (first | with_reducible refine sb_cons  ?q108_1 ?q108_2 | refine sb_cons  ?q108_1 ?q108_2); (case q108_1 => exact (by (first | with_reducible refine ss_for1 (i := 5) ?q107_1 ?q107_2 ?q107_3 ?q107_4 ?q107_5 ?q107_6 ?q107_7 ?q107_8 ?q107_9 | refine ss_for1 (i := 5) ?q107_1 ?q107_2 ?q107_3 ?q107_4 ?q107_5 ?q107_6 ?q107_7 ?q107_8 ?q107_9); (case q107_1 => exact PassesOwn.never); (case q107_2 => exact hc); (case q107_3 => exact nd); (case q107_4 => exact rfl); (case q107_5 => exact (Or.inl rfl)); (case q107_6 => exact (si_seq (sv 3))); (case q107_7 => exact (by (first | with_reducible refine sb_cons  ?q106_1 ?q106_2 | refine sb_cons  ?q106_1 ?q106_2); (case q106_1 => exact (ss_seti (k := 2) rfl (by first | exact Or.inl rfl | exact Or.inr (Or.inl rfl)) (sv 5) (sx_bin op_addD (sx_idx (sv 2) (sv 5)) (sv 4)))); (case q106_2 => exact sb_nil))); (case q107_8 => exact (by intro _; rfl)); (case q107_9 => exact (Or.inl rfl)))); (case q108_2 => exact sb_nil)))))
  with_reducible refine sb_cons ?_ ?_
  · exact (by (first | with_reducible refine ss_ret  ?q113_1 | refine ss_ret  ?q113_1); (case q113_1 => exact (sx_all rfl hc (by rfl) B_all (sx_comp (N' := ["net", "rounds", "gone", "walk", "loads", "way#5", "way"]) hc (cOk rfl (by rfl)) (si_rng1 rfl (by rfl) B_range (sx_len rfl (by rfl) B_len (sv 2))) (fun _ _ _ _ _ => pg_name (i := 6) (show (["net", "rounds", "gone", "walk", "loads", "way#5", "way"] : List Str).Nodup by decide +kernel) rfl (Or.inl rfl) (Or.inr rfl)) (tgc_name (Nat.le_refl _)) (fun _ _ _ _ _ => sq_none) (fun _ _ _ _ _ => (sx_cmp op_leD (sx_idx (sv 2) (sv 6)) (sx_idx (sx_idx (sx_idx (sv 0) sx_int) (sv 6)) sx_int) (nomark _)))))))
  exact sb_nil
noncomputable abbrev s16 : Stmt := top 24
noncomputable def b16 : List S := [
    .asg 2 (.lst []), 
    .asg 3 (.con (.int 0)), 
    .forr (.rng (.con (.int 0)) (.con (.int 6))) [4] true [.asg 5 (.comp (.rng (.con (.int 0)) (.blt .len [.idx (.var 1) (.con (.int 1))])) 1 [7] true (some (.cmp .eq (.idx (.idx (.idx (.var 1) (.con (.int 1))) (.var 7)) (.con (.int 0))) (.var 3))) (.var 7)), .ifs (.and (.cmp .ne (.var 5) (.lst [])) (.cmp .lt (.var 3) (.bin .sub (.idx (.var 1) (.con (.int 0))) (.con (.int 1))))) [.asg 6 (.idx (.var 5) (.call 9 [.var 0, .blt .len [.var 5]])), .app 2 (.var 6), .asg 3 (.idx (.idx (.idx (.var 1) (.con (.int 1))) (.var 6)) (.con (.int 1)))] []], 
    .ret (.blt .tuple [.var 2])]
noncomputable def f16 : Fd := ⟨2, 7, b16⟩
theorem sc16 : FnScope ["pool", "net", "walk", "here", "turn", "some", "way"] ["pool", "net"] (defScope s16) := ⟨rfl, rfl, rfl, by decide +kernel, rfl, by decide +kernel, by decide +kernel⟩
theorem d16 {Pg : Program} {w : World} {K : PySem.W.Frag} {mg : Str → Option Value} {base : Heap} {f : Addr} {fd : FuncData} {k n : Nat} {c : Call} {cl : Nat → Addr} (Fu : Fun K "_law_some_walk" "_law_some_walk" s16 f fd) (B_len : mg "len" = none) (B_range : mg "range" = none) (B_tuple : mg "tuple" = none) (C__law_next : CallOk Pg w K mg base k c 9 "_law_next" 2) :
    FnOk Pg w K mg base CX0 (k + 1) f fd ["pool", "net"] (spC K 2 (fun args => enter c n f16 args)) := by
  refine fn_ok Fu sc16 rfl rfl fun cdv A outer s H E hr => ?_
  have nd := sc16.nd
  have hc : true = true := rfl
  refine sb_cons ?_ ?_
  · exact (by (first | with_reducible refine ss_asg (i := 2) ?q114_1 ?q114_2 ?q114_3 ?q114_4 ?q114_5 ?q114_6 | refine ss_asg (i := 2) ?q114_1 ?q114_2 ?q114_3 ?q114_4 ?q114_5 ?q114_6); (case q114_1 => exact nd); (case q114_2 => exact rfl); (case q114_3 => exact (Or.inl rfl)); (case q114_5 => exact (by rfl)); (case q114_6 => exact (Or.inl rfl)); (case q114_4 => exact (sx_lst sa_nil)))
  with_reducible refine sb_cons ?_ ?_
  · exact (by (first | with_reducible refine ss_asg (i := 3) ?q115_1 ?q115_2 ?q115_3 ?q115_4 ?q115_5 ?q115_6 | refine ss_asg (i := 3) ?q115_1 ?q115_2 ?q115_3 ?q115_4 ?q115_5 ?q115_6); (case q115_1 => exact nd); (case q115_2 => exact rfl); (case q115_3 => exact (Or.inr rfl)); (case q115_5 => exact (by rfl)); (case q115_6 => exact (Or.inl rfl)); (case q115_4 => exact sx_int))
  with_reducible refine sb_cons ?_ ?_
  · exact (by (first | with_reducible refine ss_for1 (i := 4) ?q124_1 ?q124_2 ?q124_3 ?q124_4 ?q124_5 ?q124_6 ?q124_7 ?q124_8 ?q124_9 | refine ss_for1 (i := 4) ?q124_1 ?q124_2 ?q124_3 ?q124_4 ?q124_5 ?q124_6 ?q124_7 ?q124_8 ?q124_9); (case q124_1 => exact PassesOwn.never); (case q124_2 => exact hc); (case q124_3 => exact nd); (case q124_4 => exact rfl); (case q124_5 => exact (Or.inl rfl)); (case q124_6 => exact (si_rng1 rfl (by rfl) B_range sx_int)); (case q124_7 => exact (by (first | with_reducible refine sb_cons  ?q123_1 ?q123_2 | refine sb_cons  ?q123_1 ?q123_2); (case q123_1 => exact (ss_asgC (i := 5) (N' := ["pool", "net", "walk", "here", "turn", "some", "way#6", "way"]) hc nd rfl (Or.inl rfl) (cOk rfl (by rfl)) (si_rng1 rfl (by rfl) B_range (sx_len rfl (by rfl) B_len (sx_idx (sv 1) sx_int))) (fun _ _ _ _ _ => pg_name (i := 7) (show (["pool", "net", "walk", "here", "turn", "some", "way#6", "way"] : List Str).Nodup by decide +kernel) rfl (Or.inl rfl) (Or.inr rfl)) (tgc_name (Nat.le_refl _)) (fun _ _ _ _ _ => sq_some (st_cmp (op_eqD (room_u hr)) (sx_idx (sx_idx (sx_idx (sv 1) sx_int) (sv 7)) sx_int) (sv 3) (nomark _))) (fun _ _ _ _ _ => (sv 7)) (by rfl) (by intro _; rfl) (Or.inl rfl))); (case q123_2 => exact (by (first | with_reducible refine sb_cons  ?q122_1 ?q122_2 | refine sb_cons  ?q122_1 ?q122_2); (case q122_1 => exact (by (first | with_reducible refine ss_if  ?q121_1 ?q121_2 ?q121_3 | refine ss_if  ?q121_1 ?q121_2 ?q121_3); (case q121_1 => exact (SW.st (sw_and (st_cmp (op_neD (room_u hr)) (sv 5) (sx_lst sa_nil) (nomark _)) (sw_and1 (st_cmp op_ltD (sv 3) (sx_bin op_subD (sx_idx (sv 1) sx_int) sx_int) (nomark _)))))); (case q121_2 => exact (by (first | with_reducible refine sb_cons  ?q120_1 ?q120_2 | refine sb_cons  ?q120_1 ?q120_2); (case q120_1 => exact (by (first | with_reducible refine ss_asg (i := 6) ?q119_1 ?q119_2 ?q119_3 ?q119_4 ?q119_5 ?q119_6 | refine ss_asg (i := 6) ?q119_1 ?q119_2 ?q119_3 ?q119_4 ?q119_5 ?q119_6); (case q119_1 => exact nd); (case q119_2 => exact rfl); (case q119_3 => exact (Or.inl rfl)); (case q119_5 => exact (by rfl)); (case q119_6 => exact (Or.inl rfl)); (case q119_4 => exact (sx_idx (sv 5) (sxc C__law_next hr (sg_cons (sv 0) (sg_cons (sx_len rfl (by rfl) B_len (sv 5)) sg_nil (starEach_nst rfl)) (starEach_nst rfl))))))); (case q120_2 => exact (by (first | with_reducible refine sb_cons  ?q118_1 ?q118_2 | refine sb_cons  ?q118_1 ?q118_2); (case q118_1 => exact (sx_app_core (k := 2) rfl (by first | exact Or.inl rfl | exact Or.inr (Or.inl rfl)) (sv 6))); (case q118_2 => exact (by (first | with_reducible refine sb_cons  ?q117_1 ?q117_2 | refine sb_cons  ?q117_1 ?q117_2); (case q117_1 => exact (by (first | with_reducible refine ss_asg (i := 3) ?q116_1 ?q116_2 ?q116_3 ?q116_4 ?q116_5 ?q116_6 | refine ss_asg (i := 3) ?q116_1 ?q116_2 ?q116_3 ?q116_4 ?q116_5 ?q116_6); (case q116_1 => exact nd); (case q116_2 => exact rfl); (case q116_3 => exact (Or.inr rfl)); (case q116_5 => exact (by rfl)); (case q116_6 => exact (Or.inl rfl)); (case q116_4 => exact (sx_idx (sx_idx (sx_idx (sv 1) sx_int) (sv 6)) sx_int)))); (case q117_2 => exact sb_nil))))))); (case q121_3 => exact sb_nil))); (case q122_2 => exact sb_nil))))); (case q124_8 => exact (by intro _; rfl)); (case q124_9 => exact (Or.inl rfl)))
  with_reducible refine sb_cons ?_ ?_
  · exact (by (first | with_reducible refine ss_ret  ?q125_1 | refine ss_ret  ?q125_1); (case q125_1 => exact (sx_tuple rfl (by rfl) B_tuple (sv 2))))
  exact sb_nil
noncomputable abbrev s17 : Stmt := top 25
noncomputable def b17 : List S := [
    .asg 2 (.lst []), 
    .forr (.rng (.con (.int 0)) (.call 9 [.var 0, .con (.int 6)])) [3] true [.asg 4 (.call 16 [.var 0, .var 1]), .forr (.lst [.bin .add (.con (.int 1)) (.call 9 [.var 0, .con (.int 4)]), .con (.int 1)]) [5] true [.ifs (.call 15 [.var 1, .bin .add (.var 2) (.lst [.tup [.var 4, .var 5]])]) [.app 2 (.tup [.var 4, .var 5])] []]], 
    .ret (.var 2)]
noncomputable def f17 : Fd := ⟨2, 6, b17⟩
theorem sc17 : FnScope ["pool", "net", "found", "turn", "walk", "loads"] ["pool", "net"] (defScope s17) := ⟨rfl, rfl, rfl, by decide +kernel, rfl, by decide +kernel, by decide +kernel⟩
theorem d17 {Pg : Program} {w : World} {K : PySem.W.Frag} {mg : Str → Option Value} {base : Heap} {f : Addr} {fd : FuncData} {k n : Nat} {c : Call} {cl : Nat → Addr} (Fu : Fun K "_law_rounds" "_law_rounds" s17 f fd) (B_range : mg "range" = none) (C__law_fit : CallOk Pg w K mg base k c 15 "_law_fit" 2) (C__law_next : CallOk Pg w K mg base k c 9 "_law_next" 2) (C__law_some_walk : CallOk Pg w K mg base k c 16 "_law_some_walk" 2) :
    FnOk Pg w K mg base CX0 (k + 1) f fd ["pool", "net"] (spC K 2 (fun args => enter c n f17 args)) := by
  refine fn_ok Fu sc17 rfl rfl fun cdv A outer s H E hr => ?_
  have nd := sc17.nd
  have hc : true = true := rfl
  refine sb_cons ?_ ?_
  · exact (by (first | with_reducible refine ss_asg (i := 2) ?q126_1 ?q126_2 ?q126_3 ?q126_4 ?q126_5 ?q126_6 | refine ss_asg (i := 2) ?q126_1 ?q126_2 ?q126_3 ?q126_4 ?q126_5 ?q126_6); (case q126_1 => exact nd); (case q126_2 => exact rfl); (case q126_3 => exact (Or.inl rfl)); (case q126_5 => exact (by rfl)); (case q126_6 => exact (Or.inl rfl)); (case q126_4 => exact (sx_lst sa_nil)))
  with_reducible refine sb_cons ?_ ?_
  · exact (by (first | with_reducible refine ss_for1 (i := 3) ?q134_1 ?q134_2 ?q134_3 ?q134_4 ?q134_5 ?q134_6 ?q134_7 ?q134_8 ?q134_9 | refine ss_for1 (i := 3) ?q134_1 ?q134_2 ?q134_3 ?q134_4 ?q134_5 ?q134_6 ?q134_7 ?q134_8 ?q134_9); (case q134_1 => exact PassesOwn.never); (case q134_2 => exact hc); (case q134_3 => exact nd); (case q134_4 => exact rfl); (case q134_5 => exact (Or.inl rfl)); (case q134_6 => exact (si_rng1 rfl (by rfl) B_range (sxc C__law_next hr (sg_cons (sv 0) (sg_cons sx_int sg_nil (starEach_nst rfl)) (starEach_nst rfl))))); (case q134_7 => exact (by (first | with_reducible refine sb_cons  ?q133_1 ?q133_2 | refine sb_cons  ?q133_1 ?q133_2); (case q133_1 => exact (by (first | with_reducible refine ss_asg (i := 4) ?q132_1 ?q132_2 ?q132_3 ?q132_4 ?q132_5 ?q132_6 | refine ss_asg (i := 4) ?q132_1 ?q132_2 ?q132_3 ?q132_4 ?q132_5 ?q132_6); (case q132_1 => exact nd); (case q132_2 => exact rfl); (case q132_3 => exact (Or.inl rfl)); (case q132_5 => exact (by rfl)); (case q132_6 => exact (Or.inl rfl)); (case q132_4 => exact (sxc C__law_some_walk hr (sg_cons (sv 0) (sg_cons (sv 1) sg_nil (starEach_nst rfl)) (starEach_nst rfl)))))); (case q133_2 => exact (by (first | with_reducible refine sb_cons  ?q131_1 ?q131_2 | refine sb_cons  ?q131_1 ?q131_2); (case q131_1 => exact (by (first | with_reducible refine ss_for1 (i := 5) ?q130_1 ?q130_2 ?q130_3 ?q130_4 ?q130_5 ?q130_6 ?q130_7 ?q130_8 ?q130_9 | refine ss_for1 (i := 5) ?q130_1 ?q130_2 ?q130_3 ?q130_4 ?q130_5 ?q130_6 ?q130_7 ?q130_8 ?q130_9); (case q130_1 => exact PassesOwn.never); (case q130_2 => exact hc); (case q130_3 => exact nd); (case q130_4 => exact rfl); (case q130_5 => exact (Or.inl rfl)); (case q130_6 => exact (si_seq (sx_lst (sa_cons (sx_bin op_addD sx_int (sxc C__law_next hr (sg_cons (sv 0) (sg_cons sx_int sg_nil (starEach_nst rfl)) (starEach_nst rfl)))) (sa_cons sx_int sa_nil (starEach_nst rfl)) (starEach_nst rfl))))); (case q130_7 => exact (by (first | with_reducible refine sb_cons  ?q129_1 ?q129_2 | refine sb_cons  ?q129_1 ?q129_2); (case q129_1 => exact (by (first | with_reducible refine ss_if  ?q128_1 ?q128_2 ?q128_3 | refine ss_if  ?q128_1 ?q128_2 ?q128_3); (case q128_1 => exact (st_val (sxc C__law_fit hr (sg_cons (sv 1) (sg_cons (sx_bin op_addD (sv 2) (sx_lst (sa_cons (sx_tup (sa_cons (sv 4) (sa_cons (sv 5) sa_nil (starEach_nst rfl)) (starEach_nst rfl))) sa_nil (starEach_nst rfl)))) sg_nil (starEach_nst rfl)) (starEach_nst rfl))))); (case q128_2 => exact (by (first | with_reducible refine sb_cons  ?q127_1 ?q127_2 | refine sb_cons  ?q127_1 ?q127_2); (case q127_1 => exact (sx_app_core (k := 2) rfl (by first | exact Or.inl rfl | exact Or.inr (Or.inl rfl)) (sx_tup (sa_cons (sv 4) (sa_cons (sv 5) sa_nil (starEach_nst rfl)) (starEach_nst rfl))))); (case q127_2 => exact sb_nil))); (case q128_3 => exact sb_nil))); (case q129_2 => exact sb_nil))); (case q130_8 => exact (by intro _; rfl)); (case q130_9 => exact (Or.inl rfl)))); (case q131_2 => exact sb_nil))))); (case q134_8 => exact (by intro _; rfl)); (case q134_9 => exact (Or.inl rfl)))
  with_reducible refine sb_cons ?_ ?_
  · exact (by (first | with_reducible refine ss_ret  ?q135_1 | refine ss_ret  ?q135_1); (case q135_1 => exact (sv 2)))
  exact sb_nil
noncomputable abbrev s18 : Stmt := top 26
noncomputable def b18 : List S := [
    .ifs (.cmp .gt (.call 9 [.var 0, .con (.int 3)]) (.con (.int 0))) [.ret (.var 1)] [], 
    .asg 2 (.bin .add (.con (.int 1)) (.call 9 [.var 0, .con (.int 249000)])), 
    .asg 3 (.bin .add (.con (.int 1)) (.call 9 [.var 0, .bin .pow (.con (.int 10)) (.con (.int 8))])), 
    .asg 4 (.lst []), 
    .forr (.idx (.var 1) (.con (.int 1))) [5, 6, 7, 8] false [.asg 7 (.bin .add (.bin .mul (.var 7) (.var 3)) (.call 9 [.var 0, .bin .add (.var 7) (.con (.int 1))])), .asg 8 (.bin .add (.bin .mul (.var 8) (.var 2)) (.call 9 [.var 0, .con (.int 1000)])), .app 4 (.tup [.var 5, .var 6, .var 7, .var 8])], 
    .ret (.tup [.idx (.var 1) (.con (.int 0)), .blt .tuple [.var 4]])]
noncomputable def f18 : Fd := ⟨2, 9, b18⟩
theorem sc18 : FnScope ["pool", "net", "by", "more", "ways", "begin", "end", "room", "hours"] ["pool", "net"] (defScope s18) := ⟨rfl, rfl, rfl, by decide +kernel, rfl, by decide +kernel, by decide +kernel⟩
theorem d18 {Pg : Program} {w : World} {K : PySem.W.Frag} {mg : Str → Option Value} {base : Heap} {f : Addr} {fd : FuncData} {k n : Nat} {c : Call} {cl : Nat → Addr} (Fu : Fun K "_law_widened" "_law_widened" s18 f fd) (B_tuple : mg "tuple" = none) (C__law_next : CallOk Pg w K mg base k c 9 "_law_next" 2) :
    FnOk Pg w K mg base CX0 (k + 1) f fd ["pool", "net"] (spC K 2 (fun args => enter c n f18 args)) := by
  refine fn_ok Fu sc18 rfl rfl fun cdv A outer s H E hr => ?_
  have nd := sc18.nd
  have hc : true = true := rfl
  refine sb_cons ?_ ?_
  · exact (by (first | with_reducible refine ss_if  ?q138_1 ?q138_2 ?q138_3 | refine ss_if  ?q138_1 ?q138_2 ?q138_3); (case q138_1 => exact (st_cmp op_gtD (sxc C__law_next hr (sg_cons (sv 0) (sg_cons sx_int sg_nil (starEach_nst rfl)) (starEach_nst rfl))) sx_int (nomark _))); (case q138_2 => exact (by (first | with_reducible refine sb_cons  ?q137_1 ?q137_2 | refine sb_cons  ?q137_1 ?q137_2); (case q137_1 => exact (by (first | with_reducible refine ss_ret  ?q136_1 | refine ss_ret  ?q136_1); (case q136_1 => exact (sv 1)))); (case q137_2 => exact sb_nil))); (case q138_3 => exact sb_nil))
  with_reducible refine sb_cons ?_ ?_
  · exact (by (first | with_reducible refine ss_asg (i := 2) ?q139_1 ?q139_2 ?q139_3 ?q139_4 ?q139_5 ?q139_6 | refine ss_asg (i := 2) ?q139_1 ?q139_2 ?q139_3 ?q139_4 ?q139_5 ?q139_6); (case q139_1 => exact nd); (case q139_2 => exact rfl); (case q139_3 => exact (Or.inl rfl)); (case q139_5 => exact (by rfl)); (case q139_6 => exact (Or.inl rfl)); (case q139_4 => exact (sx_bin op_addD sx_int (sxc C__law_next hr (sg_cons (sv 0) (sg_cons sx_int sg_nil (starEach_nst rfl)) (starEach_nst rfl))))))
  with_reducible refine sb_cons ?_ ?_
  · exact (by (first | with_reducible refine ss_asg (i := 3) ?q140_1 ?q140_2 ?q140_3 ?q140_4 ?q140_5 ?q140_6 | refine ss_asg (i := 3) ?q140_1 ?q140_2 ?q140_3 ?q140_4 ?q140_5 ?q140_6); (case q140_1 => exact nd); (case q140_2 => exact rfl); (case q140_3 => exact (Or.inl rfl)); (case q140_5 => exact (by rfl)); (case q140_6 => exact (Or.inl rfl)); (case q140_4 => exact (sx_bin op_addD sx_int (sxc C__law_next hr (sg_cons (sv 0) (sg_cons (sx_bin op_powD sx_int sx_int) sg_nil (starEach_nst rfl)) (starEach_nst rfl))))))
  with_reducible refine sb_cons ?_ ?_
  · exact (by (first | with_reducible refine ss_asg (i := 4) ?q141_1 ?q141_2 ?q141_3 ?q141_4 ?q141_5 ?q141_6 | refine ss_asg (i := 4) ?q141_1 ?q141_2 ?q141_3 ?q141_4 ?q141_5 ?q141_6); (case q141_1 => exact nd); (case q141_2 => exact rfl); (case q141_3 => exact (Or.inl rfl)); (case q141_5 => exact (by rfl)); (case q141_6 => exact (Or.inl rfl)); (case q141_4 => exact (sx_lst sa_nil)))
  with_reducible refine sb_cons ?_ ?_
  · exact (ss_for PassesOwn.never hc (si_seq (sx_idx (sv 1) sx_int)) (pg_tup hc (pgs_cons (pg_name (i := 5) nd rfl (Or.inl rfl) (Or.inl rfl)) (pgs_cons (pg_name (i := 6) nd rfl (Or.inl rfl) (Or.inl rfl)) (pgs_cons (pg_name (i := 7) nd rfl (Or.inl rfl) (Or.inl rfl)) (pgs_cons (pg_name (i := 8) nd rfl (Or.inl rfl) (Or.inl rfl)) pgs_nil))))) (tg_tup rfl (tgs_all _ _ (tgs_all _ _ (tgs_all _ _ (tgs_all _ _ tgs_nil 8) 7) 6) 5)) (by (first | with_reducible refine sb_cons  ?q146_1 ?q146_2 | refine sb_cons  ?q146_1 ?q146_2); (case q146_1 => exact (by (first | with_reducible refine ss_asg (i := 7) ?q145_1 ?q145_2 ?q145_3 ?q145_4 ?q145_5 ?q145_6 | refine ss_asg (i := 7) ?q145_1 ?q145_2 ?q145_3 ?q145_4 ?q145_5 ?q145_6); (case q145_1 => exact nd); (case q145_2 => exact rfl); (case q145_3 => exact (Or.inl rfl)); (case q145_5 => exact (by rfl)); (case q145_6 => exact (Or.inl rfl)); (case q145_4 => exact (sx_bin op_addD (sx_bin op_mulD (sv 7) (sv 3)) (sxc C__law_next hr (sg_cons (sv 0) (sg_cons (sx_bin op_addD (sv 7) sx_int) sg_nil (starEach_nst rfl)) (starEach_nst rfl))))))); (case q146_2 => exact (by (first | with_reducible refine sb_cons  ?q144_1 ?q144_2 | refine sb_cons  ?q144_1 ?q144_2); (case q144_1 => exact (by (first | with_reducible refine ss_asg (i := 8) ?q143_1 ?q143_2 ?q143_3 ?q143_4 ?q143_5 ?q143_6 | refine ss_asg (i := 8) ?q143_1 ?q143_2 ?q143_3 ?q143_4 ?q143_5 ?q143_6); (case q143_1 => exact nd); (case q143_2 => exact rfl); (case q143_3 => exact (Or.inl rfl)); (case q143_5 => exact (by rfl)); (case q143_6 => exact (Or.inl rfl)); (case q143_4 => exact (sx_bin op_addD (sx_bin op_mulD (sv 8) (sv 2)) (sxc C__law_next hr (sg_cons (sv 0) (sg_cons sx_int sg_nil (starEach_nst rfl)) (starEach_nst rfl))))))); (case q144_2 => exact (by (first | with_reducible refine sb_cons  ?q142_1 ?q142_2 | refine sb_cons  ?q142_1 ?q142_2); (case q142_1 => exact (sx_app_core (k := 4) rfl (by first | exact Or.inl rfl | exact Or.inr (Or.inl rfl)) (sx_tup (sa_cons (sv 5) (sa_cons (sv 6) (sa_cons (sv 7) (sa_cons (sv 8) sa_nil (starEach_nst rfl)) (starEach_nst rfl)) (starEach_nst rfl)) (starEach_nst rfl))))); (case q142_2 => exact sb_nil)))))))
  with_reducible refine sb_cons ?_ ?_
  · exact (by (first | with_reducible refine ss_ret  ?q147_1 | refine ss_ret  ?q147_1); (case q147_1 => exact (sx_tup (sa_cons (sx_idx (sv 1) sx_int) (sa_cons (sx_tuple rfl (by rfl) B_tuple (sv 4)) sa_nil (starEach_nst rfl)) (starEach_nst rfl)))))
  exact sb_nil
noncomputable abbrev s19 : Stmt := top 27
noncomputable def b19 : List S := [
    .ret (.and (.inst [.int] (.var 0)) (.and (.not (.inst [.bool] (.var 0))) (.cmp .eq (.var 0) (.var 1))))]
noncomputable def f19 : Fd := ⟨2, 2, b19⟩
theorem sc19 : FnScope ["found", "due"] ["found", "due"] (defScope s19) := ⟨rfl, rfl, rfl, by decide +kernel, rfl, by decide +kernel, by decide +kernel⟩
theorem d19 {Pg : Program} {w : World} {K : PySem.W.Frag} {mg : Str → Option Value} {base : Heap} {f : Addr} {fd : FuncData} {k n : Nat} {c : Call} {cl : Nat → Addr} (Fu : Fun K "_law_number_like" "_law_number_like" s19 f fd) (B_bool : mg "bool" = none) (B_int : mg "int" = none) (B_isinstance : mg "isinstance" = none) :
    FnOk Pg w K mg base CX0 (k + 1) f fd ["found", "due"] (spC K 2 (fun args => enter c n f19 args)) := by
  refine fn_ok Fu sc19 rfl rfl fun cdv A outer s H E hr => ?_
  have nd := sc19.nd
  have hc : true = true := rfl
  refine sb_cons ?_ ?_
  · exact (by (first | with_reducible refine ss_ret  ?q148_1 | refine ss_ret  ?q148_1); (case q148_1 => exact (sx_and (sx_inst1 .int rfl (by rfl) B_isinstance (sv 0) (by rfl) B_int (by kernel_rfl) (by decide) (by rfl)) (sx_and (sx_not (sx_inst1 .bool rfl (by rfl) B_isinstance (sv 0) (by rfl) B_bool (by kernel_rfl) (by decide) (by rfl))) (sx_oneV (sx_cmp (op_eqD (room_u hr)) (sv 0) (sv 1) (nomark _)))).ev)))
  exact sb_nil
noncomputable abbrev s20 : Stmt := top 28
noncomputable def b20 : List S := [
    .asg 3 (.blt .list [.var 2]), 
    .ifs (.cmp .eq (.var 3) (.lst [])) [.asg 3 (.lst [.tup [.call 16 [.var 0, .var 1], .bin .add (.con (.int 1)) (.call 9 [.var 0, .con (.int 10)])]])] [], 
    .asg 4 (.call 9 [.var 0, .blt .len [.var 3]]), 
    .unp [5, 6] (.idx (.var 3) (.var 4)), 
    .asg 7 (.call 9 [.var 0, .con (.int 6)]), 
    .ifs (.cmp .lt (.var 7) (.con (.int 2))) [.asg 6 (.idx (.lst [.con (.int 0), .neg (.con (.int 1)), .bin .add (.var 6) (.con (.int 1)), .bin .add (.var 6) (.bin .pow (.con (.int 10)) (.con (.int 9))), .bin .mul (.var 6) (.con (.int 2)), .con (.int 1)]) (.call 9 [.var 0, .con (.int 6)]))] [.ifs (.cmp .eq (.var 7) (.con (.int 2))) [.asg 5 (.slice (.var 5) (.con (.int 1)) (.con .non))] [.ifs (.cmp .eq (.var 7) (.con (.int 3))) [.asg 5 (.bin .add (.var 5) (.slice (.var 5) (.neg (.con (.int 1))) (.con .non)))] [.ifs (.cmp .eq (.var 7) (.con (.int 4))) [.asg 8 (.idx (.bin .add (.var 5) (.tup [.con (.int 0)])) (.blt .max2 [.con (.int 0), .bin .sub (.blt .len [.var 5]) (.con (.int 1))])), .asg 9 (.lst [.bin .sub (.var 8) (.blt .len [.idx (.var 1) (.con (.int 1))]), .neg (.con (.int 1)), .blt .len [.idx (.var 1) (.con (.int 1))], .call 9 [.var 0, .con (.int 12)]]), .asg 5 (.bin .add (.slice (.var 5) (.con .non) (.neg (.con (.int 1)))) (.tup [.idx (.var 9) (.call 9 [.var 0, .con (.int 4)])]))] [.app 3 (.idx (.var 3) (.var 4))]]]], 
    .seti 3 (.var 4) (.tup [.var 5, .var 6]), 
    .ret (.var 3)]
noncomputable def f20 : Fd := ⟨3, 10, b20⟩
theorem sc20 : FnScope ["pool", "net", "rounds", "found", "at", "walk", "loads", "kind", "last", "ways"] ["pool", "net", "rounds"] (defScope s20) := ⟨rfl, rfl, rfl, by decide +kernel, rfl, by decide +kernel, by decide +kernel⟩
theorem d20 {Pg : Program} {w : World} {K : PySem.W.Frag} {mg : Str → Option Value} {base : Heap} {f : Addr} {fd : FuncData} {k n : Nat} {c : Call} {cl : Nat → Addr} (Fu : Fun K "_law_otherwise" "_law_otherwise" s20 f fd) (B_len : mg "len" = none) (B_list : mg "list" = none) (B_max : mg "max" = none) (C__law_next : CallOk Pg w K mg base k c 9 "_law_next" 2) (C__law_some_walk : CallOk Pg w K mg base k c 16 "_law_some_walk" 2) :
    FnOk Pg w K mg base CX0 (k + 1) f fd ["pool", "net", "rounds"] (spC K 3 (fun args => enter c n f20 args)) := by
  refine fn_ok Fu sc20 rfl rfl fun cdv A outer s H E hr => ?_
  have nd := sc20.nd
  have hc : true = true := rfl
  refine sb_cons ?_ ?_
  · exact (by (first | with_reducible refine ss_asg (i := 3) ?q149_1 ?q149_2 ?q149_3 ?q149_4 ?q149_5 ?q149_6 | refine ss_asg (i := 3) ?q149_1 ?q149_2 ?q149_3 ?q149_4 ?q149_5 ?q149_6); (case q149_1 => exact nd); (case q149_2 => exact rfl); (case q149_3 => exact (Or.inl rfl)); (case q149_5 => exact (by rfl)); (case q149_6 => exact (Or.inl rfl)); (case q149_4 => exact (sx_list rfl (by rfl) B_list (sv 2))))
  with_reducible refine sb_cons ?_ ?_
  · exact (by (first | with_reducible refine ss_if  ?q152_1 ?q152_2 ?q152_3 | refine ss_if  ?q152_1 ?q152_2 ?q152_3); (case q152_1 => exact (st_cmp (op_eqD (room_u hr)) (sv 3) (sx_lst sa_nil) (nomark _))); (case q152_2 => exact (by (first | with_reducible refine sb_cons  ?q151_1 ?q151_2 | refine sb_cons  ?q151_1 ?q151_2); (case q151_1 => exact (by (first | with_reducible refine ss_asg (i := 3) ?q150_1 ?q150_2 ?q150_3 ?q150_4 ?q150_5 ?q150_6 | refine ss_asg (i := 3) ?q150_1 ?q150_2 ?q150_3 ?q150_4 ?q150_5 ?q150_6); (case q150_1 => exact nd); (case q150_2 => exact rfl); (case q150_3 => exact (Or.inl rfl)); (case q150_5 => exact (by rfl)); (case q150_6 => exact (Or.inl rfl)); (case q150_4 => exact (sx_lst (sa_cons (sx_tup (sa_cons (sxc C__law_some_walk hr (sg_cons (sv 0) (sg_cons (sv 1) sg_nil (starEach_nst rfl)) (starEach_nst rfl))) (sa_cons (sx_bin op_addD sx_int (sxc C__law_next hr (sg_cons (sv 0) (sg_cons sx_int sg_nil (starEach_nst rfl)) (starEach_nst rfl)))) sa_nil (starEach_nst rfl)) (starEach_nst rfl))) sa_nil (starEach_nst rfl)))))); (case q151_2 => exact sb_nil))); (case q152_3 => exact sb_nil))
  with_reducible refine sb_cons ?_ ?_
  · exact (by (first | with_reducible refine ss_asg (i := 4) ?q153_1 ?q153_2 ?q153_3 ?q153_4 ?q153_5 ?q153_6 | refine ss_asg (i := 4) ?q153_1 ?q153_2 ?q153_3 ?q153_4 ?q153_5 ?q153_6); (case q153_1 => exact nd); (case q153_2 => exact rfl); (case q153_3 => exact (Or.inl rfl)); (case q153_5 => exact (by rfl)); (case q153_6 => exact (Or.inl rfl)); (case q153_4 => exact (sxc C__law_next hr (sg_cons (sv 0) (sg_cons (sx_len rfl (by rfl) B_len (sv 3)) sg_nil (starEach_nst rfl)) (starEach_nst rfl)))))
  with_reducible refine sb_cons ?_ ?_
  · exact (ss_unp (sx_idx (sv 3) (sv 4)) (pg_tup hc (pgs_cons (pg_name (i := 5) nd rfl (Or.inl rfl) (Or.inl rfl)) (pgs_cons (pg_name (i := 6) nd rfl (Or.inl rfl) (Or.inl rfl)) pgs_nil))) (tg_tup rfl (tgs_all _ _ (tgs_all _ _ tgs_nil 6) 5)))
  with_reducible refine sb_cons ?_ ?_
  · exact (by (first | with_reducible refine ss_asg (i := 7) ?q154_1 ?q154_2 ?q154_3 ?q154_4 ?q154_5 ?q154_6 | refine ss_asg (i := 7) ?q154_1 ?q154_2 ?q154_3 ?q154_4 ?q154_5 ?q154_6); (case q154_1 => exact nd); (case q154_2 => exact rfl); (case q154_3 => exact (Or.inl rfl)); (case q154_5 => exact (by rfl)); (case q154_6 => exact (Or.inl rfl)); (case q154_4 => exact (sxc C__law_next hr (sg_cons (sv 0) (sg_cons sx_int sg_nil (starEach_nst rfl)) (starEach_nst rfl)))))
  with_reducible refine sb_cons ?_ ?_
  · exact (by (first | with_reducible refine ss_if  ?q174_1 ?q174_2 ?q174_3 | refine ss_if  ?q174_1 ?q174_2 ?q174_3); (case q174_1 => exact (st_cmp op_ltD (sv 7) sx_int (nomark _))); (case q174_2 => exact (by (first | with_reducible refine sb_cons  ?q156_1 ?q156_2 | refine sb_cons  ?q156_1 ?q156_2); (case q156_1 => exact (by (first | with_reducible refine ss_asg (i := 6) ?q155_1 ?q155_2 ?q155_3 ?q155_4 ?q155_5 ?q155_6 | refine ss_asg (i := 6) ?q155_1 ?q155_2 ?q155_3 ?q155_4 ?q155_5 ?q155_6); (case q155_1 => exact nd); (case q155_2 => exact rfl); (case q155_3 => exact (Or.inl rfl)); (case q155_5 => exact (by rfl)); (case q155_6 => exact (Or.inl rfl)); (case q155_4 => exact (sx_idx (sx_lst (sa_cons sx_int (sa_cons (sx_neg sx_int) (sa_cons (sx_bin op_addD (sv 6) sx_int) (sa_cons (sx_bin op_addD (sv 6) (sx_bin op_powD sx_int sx_int)) (sa_cons (sx_bin op_mulD (sv 6) sx_int) (sa_cons sx_int sa_nil (starEach_nst rfl)) (starEach_nst rfl)) (starEach_nst rfl)) (starEach_nst rfl)) (starEach_nst rfl)) (starEach_nst rfl))) (sxc C__law_next hr (sg_cons (sv 0) (sg_cons sx_int sg_nil (starEach_nst rfl)) (starEach_nst rfl))))))); (case q156_2 => exact sb_nil))); (case q174_3 => exact (by (first | with_reducible refine sb_cons  ?q173_1 ?q173_2 | refine sb_cons  ?q173_1 ?q173_2); (case q173_1 => exact (by (first | with_reducible refine ss_if  ?q172_1 ?q172_2 ?q172_3 | refine ss_if  ?q172_1 ?q172_2 ?q172_3); (case q172_1 => exact (st_cmp (op_eqD (room_u hr)) (sv 7) sx_int (nomark _))); (case q172_2 => exact (by (first | with_reducible refine sb_cons  ?q158_1 ?q158_2 | refine sb_cons  ?q158_1 ?q158_2); (case q158_1 => exact (by (first | with_reducible refine ss_asg (i := 5) ?q157_1 ?q157_2 ?q157_3 ?q157_4 ?q157_5 ?q157_6 | refine ss_asg (i := 5) ?q157_1 ?q157_2 ?q157_3 ?q157_4 ?q157_5 ?q157_6); (case q157_1 => exact nd); (case q157_2 => exact rfl); (case q157_3 => exact (Or.inl rfl)); (case q157_5 => exact (by rfl)); (case q157_6 => exact (Or.inl rfl)); (case q157_4 => exact (sx_slice (sv 5) (so_some sx_int) so_none)))); (case q158_2 => exact sb_nil))); (case q172_3 => exact (by (first | with_reducible refine sb_cons  ?q171_1 ?q171_2 | refine sb_cons  ?q171_1 ?q171_2); (case q171_1 => exact (by (first | with_reducible refine ss_if  ?q170_1 ?q170_2 ?q170_3 | refine ss_if  ?q170_1 ?q170_2 ?q170_3); (case q170_1 => exact (st_cmp (op_eqD (room_u hr)) (sv 7) sx_int (nomark _))); (case q170_2 => exact (by (first | with_reducible refine sb_cons  ?q160_1 ?q160_2 | refine sb_cons  ?q160_1 ?q160_2); (case q160_1 => exact (by (first | with_reducible refine ss_asg (i := 5) ?q159_1 ?q159_2 ?q159_3 ?q159_4 ?q159_5 ?q159_6 | refine ss_asg (i := 5) ?q159_1 ?q159_2 ?q159_3 ?q159_4 ?q159_5 ?q159_6); (case q159_1 => exact nd); (case q159_2 => exact rfl); (case q159_3 => exact (Or.inl rfl)); (case q159_5 => exact (by rfl)); (case q159_6 => exact (Or.inl rfl)); (case q159_4 => exact (sx_bin op_addD (sv 5) (sx_slice (sv 5) (so_some (sx_neg sx_int)) so_none))))); (case q160_2 => exact sb_nil))); (case q170_3 => exact (by (first | with_reducible refine sb_cons  ?q169_1 ?q169_2 | refine sb_cons  ?q169_1 ?q169_2); (case q169_1 => exact (by (first | with_reducible refine ss_if  ?q168_1 ?q168_2 ?q168_3 | refine ss_if  ?q168_1 ?q168_2 ?q168_3); (case q168_1 => exact (st_cmp (op_eqD (room_u hr)) (sv 7) sx_int (nomark _))); (case q168_2 => exact (by (first | with_reducible refine sb_cons  ?q166_1 ?q166_2 | refine sb_cons  ?q166_1 ?q166_2); (case q166_1 => exact (by (first | with_reducible refine ss_asg (i := 8) ?q165_1 ?q165_2 ?q165_3 ?q165_4 ?q165_5 ?q165_6 | refine ss_asg (i := 8) ?q165_1 ?q165_2 ?q165_3 ?q165_4 ?q165_5 ?q165_6); (case q165_1 => exact nd); (case q165_2 => exact rfl); (case q165_3 => exact (Or.inl rfl)); (case q165_5 => exact (by rfl)); (case q165_6 => exact (Or.inl rfl)); (case q165_4 => exact (sx_idx (sx_bin op_addD (sv 5) (sx_tup (sa_cons sx_int sa_nil (starEach_nst rfl)))) (sx_max2 rfl hc (by rfl) B_max (sa_cons sx_int (sa_cons (sx_bin op_subD (sx_len rfl (by rfl) B_len (sv 5)) sx_int) sa_nil (starEach_nst rfl)) (starEach_nst rfl))))))); (case q166_2 => exact (by (first | with_reducible refine sb_cons  ?q164_1 ?q164_2 | refine sb_cons  ?q164_1 ?q164_2); (case q164_1 => exact (by (first | with_reducible refine ss_asg (i := 9) ?q163_1 ?q163_2 ?q163_3 ?q163_4 ?q163_5 ?q163_6 | refine ss_asg (i := 9) ?q163_1 ?q163_2 ?q163_3 ?q163_4 ?q163_5 ?q163_6); (case q163_1 => exact nd); (case q163_2 => exact rfl); (case q163_3 => exact (Or.inl rfl)); (case q163_5 => exact (by rfl)); (case q163_6 => exact (Or.inl rfl)); (case q163_4 => exact (sx_lst (sa_cons (sx_bin op_subD (sv 8) (sx_len rfl (by rfl) B_len (sx_idx (sv 1) sx_int))) (sa_cons (sx_neg sx_int) (sa_cons (sx_len rfl (by rfl) B_len (sx_idx (sv 1) sx_int)) (sa_cons (sxc C__law_next hr (sg_cons (sv 0) (sg_cons sx_int sg_nil (starEach_nst rfl)) (starEach_nst rfl))) sa_nil (starEach_nst rfl)) (starEach_nst rfl)) (starEach_nst rfl)) (starEach_nst rfl)))))); (case q164_2 => exact (by (first | with_reducible refine sb_cons  ?q162_1 ?q162_2 | refine sb_cons  ?q162_1 ?q162_2); (case q162_1 => exact (by (first | with_reducible refine ss_asg (i := 5) ?q161_1 ?q161_2 ?q161_3 ?q161_4 ?q161_5 ?q161_6 | refine ss_asg (i := 5) ?q161_1 ?q161_2 ?q161_3 ?q161_4 ?q161_5 ?q161_6); (case q161_1 => exact nd); (case q161_2 => exact rfl); (case q161_3 => exact (Or.inl rfl)); (case q161_5 => exact (by rfl)); (case q161_6 => exact (Or.inl rfl)); (case q161_4 => exact (sx_bin op_addD (sx_slice (sv 5) so_none (so_some (sx_neg sx_int))) (sx_tup (sa_cons (sx_idx (sv 9) (sxc C__law_next hr (sg_cons (sv 0) (sg_cons sx_int sg_nil (starEach_nst rfl)) (starEach_nst rfl)))) sa_nil (starEach_nst rfl))))))); (case q162_2 => exact sb_nil))))))); (case q168_3 => exact (by (first | with_reducible refine sb_cons  ?q167_1 ?q167_2 | refine sb_cons  ?q167_1 ?q167_2); (case q167_1 => exact (sx_app_core (k := 3) rfl (by first | exact Or.inl rfl | exact Or.inr (Or.inl rfl)) (sx_idx (sv 3) (sv 4)))); (case q167_2 => exact sb_nil))))); (case q169_2 => exact sb_nil))))); (case q171_2 => exact sb_nil))))); (case q173_2 => exact sb_nil))))
  with_reducible refine sb_cons ?_ ?_
  · exact (ss_seti (k := 3) rfl (by first | exact Or.inl rfl | exact Or.inr (Or.inl rfl)) (sv 4) (sx_tup (sa_cons (sv 5) (sa_cons (sv 6) sa_nil (starEach_nst rfl)) (starEach_nst rfl))))
  with_reducible refine sb_cons ?_ ?_
  · exact (by (first | with_reducible refine ss_ret  ?q175_1 | refine ss_ret  ?q175_1); (case q175_1 => exact (sv 3)))
  exact sb_nil
noncomputable abbrev s21 : Stmt := top 29
noncomputable def b21 : List S := [
    .asg 3 (.con .non), 
    .ifs (.call 15 [.var 0, .var 2]) [.asg 3 (.con (.int 0)), .forr (.var 2) [4, 5] false [.asg 3 (.bin .add (.var 3) (.bin .mul (.var 5) (.blt .max2 [.con (.int 0), .bin .add (.bin .sub (.var 1) (.call 14 [.var 0, .var 4])) (.con (.int 1))])))]] [], 
    .asg 6 (.blt .list [.var 2]), 
    .asg 7 (.call 7 [.var 0, .var 1, .var 6]), 
    .ifs (.or (.cmp .ne (.var 6) (.var 2)) (.cmp .ne (.call 7 [.var 0, .var 1, .var 6]) (.var 7))) [.ret (.con (.bl false))] [], 
    .ifs (.cmp .isN (.var 3) (.con .non)) [.ret (.cmp .isN (.var 7) (.con .non))] [], 
    .ret (.call 19 [.var 7, .var 3])]
noncomputable def f21 : Fd := ⟨3, 8, b21⟩
theorem sc21 : FnScope ["net", "last", "rounds", "due", "walk", "loads", "handed", "found"] ["net", "last", "rounds"] (defScope s21) := ⟨rfl, rfl, rfl, by decide +kernel, rfl, by decide +kernel, by decide +kernel⟩
theorem d21 {Pg : Program} {w : World} {K : PySem.W.Frag} {mg : Str → Option Value} {base : Heap} {f : Addr} {fd : FuncData} {k n : Nat} {c : Call} {cl : Nat → Addr} (Fu : Fun K "_law_told" "_law_told" s21 f fd) (B_list : mg "list" = none) (B_max : mg "max" = none) (C__law_fit : CallOk Pg w K mg base k c 15 "_law_fit" 2) (C__law_length : CallOk Pg w K mg base k c 14 "_law_length" 2) (C__law_number_like : CallOk Pg w K mg base k c 19 "_law_number_like" 2) (C_rounds_bring : CallOk Pg w K mg base k c 7 "rounds_bring" 3) :
    FnOk Pg w K mg base CX0 (k + 1) f fd ["net", "last", "rounds"] (spC K 3 (fun args => enter c n f21 args)) := by
  refine fn_ok Fu sc21 rfl rfl fun cdv A outer s H E hr => ?_
  have nd := sc21.nd
  have hc : true = true := rfl
  refine sb_cons ?_ ?_
  · exact (by (first | with_reducible refine ss_asg (i := 3) ?q176_1 ?q176_2 ?q176_3 ?q176_4 ?q176_5 ?q176_6 | refine ss_asg (i := 3) ?q176_1 ?q176_2 ?q176_3 ?q176_4 ?q176_5 ?q176_6); (case q176_1 => exact nd); (case q176_2 => exact rfl); (case q176_3 => exact (Or.inl rfl)); (case q176_5 => exact (by rfl)); (case q176_6 => exact (Or.inl rfl)); (case q176_4 => exact sx_non))
  with_reducible refine sb_cons ?_ ?_
  · exact (by (first | with_reducible refine ss_if  ?q182_1 ?q182_2 ?q182_3 | refine ss_if  ?q182_1 ?q182_2 ?q182_3); (case q182_1 => exact (st_val (sxc C__law_fit hr (sg_cons (sv 0) (sg_cons (sv 2) sg_nil (starEach_nst rfl)) (starEach_nst rfl))))); (case q182_2 => exact (by (first | with_reducible refine sb_cons  ?q181_1 ?q181_2 | refine sb_cons  ?q181_1 ?q181_2); (case q181_1 => exact (by (first | with_reducible refine ss_asg (i := 3) ?q180_1 ?q180_2 ?q180_3 ?q180_4 ?q180_5 ?q180_6 | refine ss_asg (i := 3) ?q180_1 ?q180_2 ?q180_3 ?q180_4 ?q180_5 ?q180_6); (case q180_1 => exact nd); (case q180_2 => exact rfl); (case q180_3 => exact (Or.inl rfl)); (case q180_5 => exact (by rfl)); (case q180_6 => exact (Or.inl rfl)); (case q180_4 => exact sx_int))); (case q181_2 => exact (by (first | with_reducible refine sb_cons  ?q179_1 ?q179_2 | refine sb_cons  ?q179_1 ?q179_2); (case q179_1 => exact (ss_for PassesOwn.never hc (si_seq (sv 2)) (pg_tup hc (pgs_cons (pg_name (i := 4) nd rfl (Or.inl rfl) (Or.inl rfl)) (pgs_cons (pg_name (i := 5) nd rfl (Or.inl rfl) (Or.inl rfl)) pgs_nil))) (tg_tup rfl (tgs_all _ _ (tgs_all _ _ tgs_nil 5) 4)) (by (first | with_reducible refine sb_cons  ?q178_1 ?q178_2 | refine sb_cons  ?q178_1 ?q178_2); (case q178_1 => exact (by (first | with_reducible refine ss_asg (i := 3) ?q177_1 ?q177_2 ?q177_3 ?q177_4 ?q177_5 ?q177_6 | refine ss_asg (i := 3) ?q177_1 ?q177_2 ?q177_3 ?q177_4 ?q177_5 ?q177_6); (case q177_1 => exact nd); (case q177_2 => exact rfl); (case q177_3 => exact (Or.inl rfl)); (case q177_5 => exact (by rfl)); (case q177_6 => exact (Or.inl rfl)); (case q177_4 => exact (sx_bin op_addD (sv 3) (sx_bin op_mulD (sv 5) (sx_max2 rfl hc (by rfl) B_max (sa_cons sx_int (sa_cons (sx_bin op_addD (sx_bin op_subD (sv 1) (sxc C__law_length hr (sg_cons (sv 0) (sg_cons (sv 4) sg_nil (starEach_nst rfl)) (starEach_nst rfl)))) sx_int) sa_nil (starEach_nst rfl)) (starEach_nst rfl)))))))); (case q178_2 => exact sb_nil)))); (case q179_2 => exact sb_nil))))); (case q182_3 => exact sb_nil))
  with_reducible refine sb_cons ?_ ?_
  · exact (by (first | with_reducible refine ss_asg (i := 6) ?q183_1 ?q183_2 ?q183_3 ?q183_4 ?q183_5 ?q183_6 | refine ss_asg (i := 6) ?q183_1 ?q183_2 ?q183_3 ?q183_4 ?q183_5 ?q183_6); (case q183_1 => exact nd); (case q183_2 => exact rfl); (case q183_3 => exact (Or.inl rfl)); (case q183_5 => exact (by rfl)); (case q183_6 => exact (Or.inl rfl)); (case q183_4 => exact (sx_list rfl (by rfl) B_list (sv 2))))
  with_reducible refine sb_cons ?_ ?_
  · exact (by (first | with_reducible refine ss_asg (i := 7) ?q184_1 ?q184_2 ?q184_3 ?q184_4 ?q184_5 ?q184_6 | refine ss_asg (i := 7) ?q184_1 ?q184_2 ?q184_3 ?q184_4 ?q184_5 ?q184_6); (case q184_1 => exact nd); (case q184_2 => exact rfl); (case q184_3 => exact (Or.inl rfl)); (case q184_5 => exact (by rfl)); (case q184_6 => exact (Or.inl rfl)); (case q184_4 => exact (sxc C_rounds_bring hr (sg_cons (sv 0) (sg_cons (sv 1) (sg_cons (sv 6) sg_nil (starEach_nst rfl)) (starEach_nst rfl)) (starEach_nst rfl)))))
  with_reducible refine sb_cons ?_ ?_
  · exact (by (first | with_reducible refine ss_if  ?q187_1 ?q187_2 ?q187_3 | refine ss_if  ?q187_1 ?q187_2 ?q187_3); (case q187_1 => exact (SW.st (sw_or (st_cmp (op_neD (room_u hr)) (sv 6) (sv 2) (nomark _)) (sw_or1 (st_cmp (op_neD (room_u hr)) (sxc C_rounds_bring hr (sg_cons (sv 0) (sg_cons (sv 1) (sg_cons (sv 6) sg_nil (starEach_nst rfl)) (starEach_nst rfl)) (starEach_nst rfl))) (sv 7) (nomark _)))))); (case q187_2 => exact (by (first | with_reducible refine sb_cons  ?q186_1 ?q186_2 | refine sb_cons  ?q186_1 ?q186_2); (case q186_1 => exact (by (first | with_reducible refine ss_ret  ?q185_1 | refine ss_ret  ?q185_1); (case q185_1 => exact sx_bl))); (case q186_2 => exact sb_nil))); (case q187_3 => exact sb_nil))
  with_reducible refine sb_cons ?_ ?_
  · exact (by (first | with_reducible refine ss_if  ?q190_1 ?q190_2 ?q190_3 | refine ss_if  ?q190_1 ?q190_2 ?q190_3); (case q190_1 => exact (st_cmp op_isD (sv 3) sx_non (nomark _))); (case q190_2 => exact (by (first | with_reducible refine sb_cons  ?q189_1 ?q189_2 | refine sb_cons  ?q189_1 ?q189_2); (case q189_1 => exact (by (first | with_reducible refine ss_ret  ?q188_1 | refine ss_ret  ?q188_1); (case q188_1 => exact (sx_cmp op_isD (sv 7) sx_non (nomark _))))); (case q189_2 => exact sb_nil))); (case q190_3 => exact sb_nil))
  with_reducible refine sb_cons ?_ ?_
  · exact (by (first | with_reducible refine ss_ret  ?q191_1 | refine ss_ret  ?q191_1); (case q191_1 => exact (sxc C__law_number_like hr (sg_cons (sv 7) (sg_cons (sv 3) sg_nil (starEach_nst rfl)) (starEach_nst rfl)))))
  exact sb_nil
noncomputable abbrev s22 : Stmt := top 30
noncomputable def b22 : List S := [
    .forr (.bin .add (.lst [.con (.int 0)]) (.call 10 [.var 0, .con (.int 12)])) [1] true [.asg 2 (.call 8 [.var 1]), .asg 3 (.call 18 [.var 2, .call 12 [.var 2]]), .asg 4 (.call 17 [.var 2, .var 3]), .forr (.lst [.con (.int 13), .bin .pow (.con (.int 10)) (.con (.int 7)), .bin .pow (.con (.int 10)) (.con (.int 18))]) [5] true [.asg 6 (.call 9 [.var 2, .var 5]), .ifs (.not (.call 21 [.var 3, .var 6, .var 4])) [.ret (.con (.bl false))] [], .ifs (.not (.call 21 [.var 3, .var 6, .call 20 [.var 2, .var 3, .var 4]])) [.ret (.con (.bl false))] []]], 
    .ret (.con (.bl true))]
noncomputable def f22 : Fd := ⟨1, 7, b22⟩
theorem sc22 : FnScope ["script", "cell", "pool", "net", "rounds", "hours", "last"] ["script"] (defScope s22) := ⟨rfl, rfl, rfl, by decide +kernel, rfl, by decide +kernel, by decide +kernel⟩
theorem d22 {Pg : Program} {w : World} {K : PySem.W.Frag} {mg : Str → Option Value} {base : Heap} {f : Addr} {fd : FuncData} {k n : Nat} {c : Call} {cl : Nat → Addr} (Fu : Fun K "law" "law" s22 f fd) (C__law_cells : CallOk Pg w K mg base k c 10 "_law_cells" 2) (C__law_net : CallOk Pg w K mg base k c 12 "_law_net" 1) (C__law_next : CallOk Pg w K mg base k c 9 "_law_next" 2) (C__law_otherwise : CallOk Pg w K mg base k c 20 "_law_otherwise" 3) (C__law_pool : CallOk Pg w K mg base k c 8 "_law_pool" 1) (C__law_rounds : CallOk Pg w K mg base k c 17 "_law_rounds" 2) (C__law_told : CallOk Pg w K mg base k c 21 "_law_told" 3) (C__law_widened : CallOk Pg w K mg base k c 18 "_law_widened" 2) :
    FnOk Pg w K mg base CX0 (k + 1) f fd ["script"] (spC K 1 (fun args => enter c n f22 args)) := by
  refine fn_ok Fu sc22 rfl rfl fun cdv A outer s H E hr => ?_
  have nd := sc22.nd
  have hc : true = true := rfl
  refine sb_cons ?_ ?_
  · exact (by (first | with_reducible refine ss_for1 (i := 1) ?q210_1 ?q210_2 ?q210_3 ?q210_4 ?q210_5 ?q210_6 ?q210_7 ?q210_8 ?q210_9 | refine ss_for1 (i := 1) ?q210_1 ?q210_2 ?q210_3 ?q210_4 ?q210_5 ?q210_6 ?q210_7 ?q210_8 ?q210_9); (case q210_1 => exact PassesOwn.never); (case q210_2 => exact hc); (case q210_3 => exact nd); (case q210_4 => exact rfl); (case q210_5 => exact (Or.inl rfl)); (case q210_6 => exact (si_seq (sx_bin op_addD (sx_lst (sa_cons sx_int sa_nil (starEach_nst rfl))) (sxc C__law_cells hr (sg_cons (sv 0) (sg_cons sx_int sg_nil (starEach_nst rfl)) (starEach_nst rfl)))))); (case q210_7 => exact (by (first | with_reducible refine sb_cons  ?q209_1 ?q209_2 | refine sb_cons  ?q209_1 ?q209_2); (case q209_1 => exact (by (first | with_reducible refine ss_asg (i := 2) ?q208_1 ?q208_2 ?q208_3 ?q208_4 ?q208_5 ?q208_6 | refine ss_asg (i := 2) ?q208_1 ?q208_2 ?q208_3 ?q208_4 ?q208_5 ?q208_6); (case q208_1 => exact nd); (case q208_2 => exact rfl); (case q208_3 => exact (Or.inl rfl)); (case q208_5 => exact (by rfl)); (case q208_6 => exact (Or.inl rfl)); (case q208_4 => exact (sxc C__law_pool hr (sg_cons (sv 1) sg_nil (starEach_nst rfl)))))); (case q209_2 => exact (by (first | with_reducible refine sb_cons  ?q207_1 ?q207_2 | refine sb_cons  ?q207_1 ?q207_2); (case q207_1 => exact (by (first | with_reducible refine ss_asg (i := 3) ?q206_1 ?q206_2 ?q206_3 ?q206_4 ?q206_5 ?q206_6 | refine ss_asg (i := 3) ?q206_1 ?q206_2 ?q206_3 ?q206_4 ?q206_5 ?q206_6); (case q206_1 => exact nd); (case q206_2 => exact rfl); (case q206_3 => exact (Or.inl rfl)); (case q206_5 => exact (by rfl)); (case q206_6 => exact (Or.inl rfl)); (case q206_4 => exact (sxc C__law_widened hr (sg_cons (sv 2) (sg_cons (sxc C__law_net hr (sg_cons (sv 2) sg_nil (starEach_nst rfl))) sg_nil (starEach_nst rfl)) (starEach_nst rfl)))))); (case q207_2 => exact (by (first | with_reducible refine sb_cons  ?q205_1 ?q205_2 | refine sb_cons  ?q205_1 ?q205_2); (case q205_1 => exact (by (first | with_reducible refine ss_asg (i := 4) ?q204_1 ?q204_2 ?q204_3 ?q204_4 ?q204_5 ?q204_6 | refine ss_asg (i := 4) ?q204_1 ?q204_2 ?q204_3 ?q204_4 ?q204_5 ?q204_6); (case q204_1 => exact nd); (case q204_2 => exact rfl); (case q204_3 => exact (Or.inl rfl)); (case q204_5 => exact (by rfl)); (case q204_6 => exact (Or.inl rfl)); (case q204_4 => exact (sxc C__law_rounds hr (sg_cons (sv 2) (sg_cons (sv 3) sg_nil (starEach_nst rfl)) (starEach_nst rfl)))))); (case q205_2 => exact (by (first | with_reducible refine sb_cons  ?q203_1 ?q203_2 | refine sb_cons  ?q203_1 ?q203_2); (case q203_1 => exact (by (first | with_reducible refine ss_for1 (i := 5) ?q202_1 ?q202_2 ?q202_3 ?q202_4 ?q202_5 ?q202_6 ?q202_7 ?q202_8 ?q202_9 | refine ss_for1 (i := 5) ?q202_1 ?q202_2 ?q202_3 ?q202_4 ?q202_5 ?q202_6 ?q202_7 ?q202_8 ?q202_9); (case q202_1 => exact PassesOwn.never); (case q202_2 => exact hc); (case q202_3 => exact nd); (case q202_4 => exact rfl); (case q202_5 => exact (Or.inl rfl)); (case q202_6 => exact (si_seq (sx_lst (sa_cons sx_int (sa_cons (sx_bin op_powD sx_int sx_int) (sa_cons (sx_bin op_powD sx_int sx_int) sa_nil (starEach_nst rfl)) (starEach_nst rfl)) (starEach_nst rfl))))); (case q202_7 => exact (by (first | with_reducible refine sb_cons  ?q201_1 ?q201_2 | refine sb_cons  ?q201_1 ?q201_2); (case q201_1 => exact (by (first | with_reducible refine ss_asg (i := 6) ?q200_1 ?q200_2 ?q200_3 ?q200_4 ?q200_5 ?q200_6 | refine ss_asg (i := 6) ?q200_1 ?q200_2 ?q200_3 ?q200_4 ?q200_5 ?q200_6); (case q200_1 => exact nd); (case q200_2 => exact rfl); (case q200_3 => exact (Or.inl rfl)); (case q200_5 => exact (by rfl)); (case q200_6 => exact (Or.inl rfl)); (case q200_4 => exact (sxc C__law_next hr (sg_cons (sv 2) (sg_cons (sv 5) sg_nil (starEach_nst rfl)) (starEach_nst rfl)))))); (case q201_2 => exact (by (first | with_reducible refine sb_cons  ?q199_1 ?q199_2 | refine sb_cons  ?q199_1 ?q199_2); (case q199_1 => exact (by (first | with_reducible refine ss_if  ?q198_1 ?q198_2 ?q198_3 | refine ss_if  ?q198_1 ?q198_2 ?q198_3); (case q198_1 => exact (st_not (st_val (sxc C__law_told hr (sg_cons (sv 3) (sg_cons (sv 6) (sg_cons (sv 4) sg_nil (starEach_nst rfl)) (starEach_nst rfl)) (starEach_nst rfl)))))); (case q198_2 => exact (by (first | with_reducible refine sb_cons  ?q197_1 ?q197_2 | refine sb_cons  ?q197_1 ?q197_2); (case q197_1 => exact (by (first | with_reducible refine ss_ret  ?q196_1 | refine ss_ret  ?q196_1); (case q196_1 => exact sx_bl))); (case q197_2 => exact sb_nil))); (case q198_3 => exact sb_nil))); (case q199_2 => exact (by (first | with_reducible refine sb_cons  ?q195_1 ?q195_2 | refine sb_cons  ?q195_1 ?q195_2); (case q195_1 => exact (by (first | with_reducible refine ss_if  ?q194_1 ?q194_2 ?q194_3 | refine ss_if  ?q194_1 ?q194_2 ?q194_3); (case q194_1 => exact (st_not (st_val (sxc C__law_told hr (sg_cons (sv 3) (sg_cons (sv 6) (sg_cons (sxc C__law_otherwise hr (sg_cons (sv 2) (sg_cons (sv 3) (sg_cons (sv 4) sg_nil (starEach_nst rfl)) (starEach_nst rfl)) (starEach_nst rfl))) sg_nil (starEach_nst rfl)) (starEach_nst rfl)) (starEach_nst rfl)))))); (case q194_2 => exact (by (first | with_reducible refine sb_cons  ?q193_1 ?q193_2 | refine sb_cons  ?q193_1 ?q193_2); (case q193_1 => exact (by (first | with_reducible refine ss_ret  ?q192_1 | refine ss_ret  ?q192_1); (case q192_1 => exact sx_bl))); (case q193_2 => exact sb_nil))); (case q194_3 => exact sb_nil))); (case q195_2 => exact sb_nil))))))); (case q202_8 => exact (by intro _; rfl)); (case q202_9 => exact (Or.inl rfl)))); (case q203_2 => exact sb_nil))))))))); (case q210_8 => exact (by intro _; rfl)); (case q210_9 => exact (Or.inl rfl)))
  with_reducible refine sb_cons ?_ ?_
  · exact (by (first | with_reducible refine ss_ret  ?q211_1 | refine ss_ret  ?q211_1); (case q211_1 => exact sx_bl))
  exact sb_nil
end T
end
section
namespace T
open PySem L2 PySem.Spec PyProof.Rows HH
noncomputable def Γ : Tab := fun i => [f0, f1, f2, f3, f4, f5, f6, f7, f8, f9, f10, f11, f12, f13, f14, f15, f16, f17, f18, f19, f20, f21, f22][i]?
end T
end
section
set_option Elab.async false
set_option linter.all false
set_option maxRecDepth 100000
namespace T
open HH
noncomputable abbrev big : Int := 1606938044258990275541962092341162602522202993782792835301376
theorem next_sat {w n : Nat} {x y z m : Int} {Q : R → List Sl → Prop} (h0 : 0 < m) (h2 : m < big) (k : ∀ d x z : Int, 0 ≤ d → d < m → Q (.val (.int d)) [.own true [.int x, .int y, .int z], .val false (.int m)]) :
    (run Γ w (n + 1) 9 [.own true [.int x, .int y, .int z], .val false (.int m)]).sat Q := by
  have h3 : m < 1606938044258990275541962092341162602522202993782792835301376 := h2
  refine sat_run (d := f9) rfl rfl (by decide) ?_
  refine sat_cons ?_
  simp [f9]
  constructor
  · intro _
    refine sat_cons ?_
    simp [h0]
    refine sat_cons ?_
    simp [h0, h3, ixN]
    refine sat_cons ?_
    simp
    exact k _ _ _ (Int.emod_nonneg _ (by omega)) (Int.emod_lt_of_pos _ h0)
  · intro _
    refine sat_cons ?_
    simp [ixN]
    refine sat_cons ?_
    simp
    generalize hq : (y + 7919 * (z + 1)) % 1000000007 = q
    have q0 : 0 ≤ q ∧ q < 1000000007 := by omega
    have q1 : -18446744073709551616 < q + 11 ∧ q + 11 < 18446744073709551616 := by omega
    refine sat_cons ?_
    simp [q1]
    generalize hs : (q + 11) * (q + 48271) % 998244353 = st
    have q2 : -18446744073709551616 < st ∧ st < 18446744073709551616 := by omega
    refine sat_cons ?_
    simp [q2, h0]
    exact k _ _ _ (Int.emod_nonneg _ (by omega)) (Int.emod_lt_of_pos _ h0)
theorem pool_sat {w n : Nat} {x : Int} {Q : R → List Sl → Prop} (k : ∀ a b c : Int, Q (.own [.int a, .int b, .int c]) [.val false (.int x)]) : (run Γ w (n + 1) 8 [.val false (.int x)]).sat Q := by
  refine sat_run (d := f8) rfl rfl (by decide) ?_
  refine sat_cons ?_
  simp [f8]
  exact k _ _ _
end T
end
section
set_option Elab.async false
set_option linter.all false
set_option maxRecDepth 100000
namespace T
open HH
theorem cells_step {cs : List Int} {k m : Nat} {x : Int} (hm : 0 < m) (hl : cs.length = m) : ∃ c : Int, at' (cs.map D.int) ((k : Int) % (m : Int)) = some (.int c) ∧ ixN (cs.map D.int).length ((k : Int) % (m : Int)) = some (k % m) := by
  have h : k % m < cs.length := by rw [hl]; exact Nat.mod_lt _ hm
  rw [show (k : Int) % (m : Int) = ((k % m : Nat) : Int) by simp]
  exact ⟨cs[k % m], at_map (by simp [h]), ix_nat (by simpa using h)⟩
noncomputable def JC (ns : List Int) (m : Nat) (_ : Nat) (ρ : List Sl) : Prop := ∃ (cs : List Int) (s : Sl), ρ = [.val false (.lst (ns.map D.int)), .val false (.int m), .own false (cs.map D.int), s] ∧ fr s = true ∧ cs.length = min m ns.length
theorem cells_sat {w n m : Nat} {ns : List Int} {Q : R → List Sl → Prop} (hm : 0 < m) (hm2 : m ≤ 63) (hn : ns.length ≤ 63) (k : ∀ cs : List Int, cs.length ≤ m → Q (.own (cs.map D.int)) [.val false (.lst (ns.map D.int)), .val false (.int m)]) :
    (run Γ w (n + 1) 10 [.val false (.lst (ns.map D.int)), .val false (.int m)]).sat Q := by
  refine sat_run (d := f10) rfl rfl (by decide) ?_
  refine sat_cons ?_
  simp [f10, sl3, part, isNC]
  refine sat_cons ?_
  simp
  refine ⟨by omega, ?_⟩
  refine sat_forR (JC ns m) ?_ ?_ ⟨ns.take m, .unb, ?_, rfl, by simp⟩
  · rintro i _ hi ⟨cs, s, rfl, hs, hl⟩
    have hl2 : cs.length = m := by omega
    obtain ⟨c, e1, e2⟩ := cells_step (cs := cs) (k := i) (x := 0) hm hl2
    obtain ⟨x, hx⟩ : ∃ x : Int, at' (ns.map D.int) ((m : Int) + (i : Int)) = some (.int x) := by
      rw [show (m : Int) + (i : Int) = ((m + i : Nat) : Int) by simp]
      exact ⟨ns[m + i]'(by omega), at_map (by simp)⟩
    simp [hs]
    refine sat_cons ?_
    rw [List.length_map] at e2
    simp [hm, e1, e2, hx]
    exact ⟨cs.set (i % m) (c * 31 + x), .val false (.int (m + i)), by simp, rfl, by simpa using hl⟩
  · rintro _ ⟨cs, s, rfl, hs, hl⟩
    refine sat_cons ?_
    simp
    exact k cs (by omega)
  · simp [cut, sIx, List.map_take]
theorem cells_satI {w n m : Nat} {M : Int} {ns : List Int} {Q : R → List Sl → Prop} (hM : M = (m : Int)) (hm : 0 < m) (hm2 : m ≤ 63) (hn : ns.length ≤ 63) (k : ∀ cs : List Int, cs.length ≤ m → Q (.own (cs.map D.int)) [.val false (.lst (ns.map D.int)), .val false (.int M)]) :
    (run Γ w (n + 1) 10 [.val false (.lst (ns.map D.int)), .val false (.int M)]).sat Q := by
  subst hM; exact cells_sat hm hm2 hn k
end T
end
section
set_option Elab.async false
set_option linter.all false
set_option maxRecDepth 100000
namespace T
open HH
structure Wy where
  (s t r h : Int)
noncomputable def Wy.d (w : Wy) : D := .tup [.int w.s, .int w.t, .int w.r, .int w.h]
structure Wy.Ok (m : Int) (w : Wy) : Prop where
  s0 : 0 ≤ w.s
  s1 : w.s < m
  t0 : 0 ≤ w.t
  t1 : w.t < m
  ne : w.s ≠ w.t
  r0 : 0 ≤ w.r
  r1 : w.r ≤ 1000000000
  h0 : 1 ≤ w.h
  h1 : w.h ≤ 1000000
theorem other {a b m : Int} (h1 : 0 ≤ a) (h2 : a < m) (h3 : 0 ≤ b) (h4 : b < m - 1) : 0 ≤ (a + 1 + b) % m ∧ (a + 1 + b) % m < m ∧ (a + 1 + b) % m ≠ a := by
  by_cases h : a + 1 + b < m
  · rw [Int.emod_eq_of_lt (by omega) h]; omega
  · have e : (a + 1 + b) % m = a + 1 + b - m := by
      rw [← Int.sub_emod_right, Int.emod_eq_of_lt (by omega) (by omega)]
    rw [e]; omega
theorem wy_dle (w : Wy) : dle 7 w.d = true := rfl
theorem dle_all {ds : List D} {k : Nat} (h : ∀ d ∈ ds, dle k d = true) : dle (k + 1) (.lst ds) = true := by rw [dle]; exact List.all_eq_true.mpr h
theorem dle_allT {ds : List D} {k : Nat} (h : ∀ d ∈ ds, dle k d = true) : dle (k + 1) (.tup ds) = true := by rw [dle]; exact List.all_eq_true.mpr h
noncomputable def netD (m : Int) (ws : List Wy) : D := .tup [.int m, .tup (ws.map Wy.d)]
structure NetOk (m : Int) (ws : List Wy) : Prop where
  m0 : 2 ≤ m
  m1 : m ≤ 6
  len : ws.length ≤ 12
  ok : ∀ w ∈ ws, w.Ok m
@[simp] theorem net_0 {m : Int} {ws : List Wy} : ixR (netD m ws) (.int 0) = some (.val (.int m)) := rfl
@[simp] theorem net_1 {m : Int} {ws : List Wy} : ixR (netD m ws) (.int 1) = some (.val (.tup (ws.map Wy.d))) := rfl
end T
end
section
set_option Elab.async false
set_option linter.all false
set_option maxRecDepth 100000
namespace T
open HH
theorem pickN {ns : List Int} {i lo hi : Int} (h0 : 0 ≤ i) (h1 : i < (ns.length : Int)) (k : ∀ x ∈ ns, lo ≤ x ∧ x ≤ hi) : ∃ r, at' (ns.map D.int) i = some (.int r) ∧ lo ≤ r ∧ r ≤ hi := by
  have hk : i.toNat < ns.length := by omega
  refine ⟨ns[i.toNat], ?_, k _ (List.getElem_mem hk)⟩
  rw [at_nat h0 (by simpa using h1)]
  simp [hk]
theorem lt_big {a : Int} (h : a ≤ 1000000000000000000000) : a < big := by show _ < (1606938044258990275541962092341162602522202993782792835301376 : Int); omega
noncomputable abbrev Po (b : Bool) (x y z : Int) : Sl := .own b [.int x, .int y, .int z]
theorem way_sat {w n : Nat} {x y z m p : Int} {Q : R → List Sl → Prop} (h0 : 2 ≤ m) (h2 : m ≤ 6) (p0 : 0 ≤ p)
    (k : ∀ (v : Wy) (x z : Int), v.Ok m → v.r ≤ 9 → v.h ≤ 4 → Q (.val v.d) [.own true [.int x, .int y, .int z], .val false (.int m), .val false (.int p)]) :
    (run Γ w (n + 2) 11 [.own true [.int x, .int y, .int z], .val false (.int m), .val false (.int p)]).sat Q := by
  refine sat_run (d := f11) rfl rfl (by decide) ?_
  refine sat_cons ?_
  simp [f11]
  refine next_sat (by omega) (lt_big (by omega)) fun a x z ha1 ha2 => ?_
  simp
  refine sat_cons ?_
  simp
  refine next_sat (by omega) (lt_big (by omega)) fun b x z hb1 hb2 => ?_
  obtain ⟨t0, t1, tn⟩ := other ha1 ha2 hb1 hb2
  simp [show 0 < m by omega]
  generalize (a + 1 + b) % m = t at *
  refine sat_seq (fun ρ => ∃ x z s t, ρ = [.own true [.int x, .int y, .int z], .val false (.int m), .val false (.int p), .val false (.int s), .val false (.int t), .unb] ∧ 0 ≤ s ∧ s < m ∧ 0 ≤ t ∧ t < m ∧ s ≠ t) ?_ ?_
  · by_cases hp : p + 1 < m
    · simp [hp]
      refine next_sat (by decide) (by decide) fun c x z _ _ => ?_
      simp
      refine ⟨fun _ => ?_, fun _ => ?_⟩
      · refine sat_cons ?_
        simp
        exact ⟨_, _, _, _, ⟨⟨rfl, rfl⟩, rfl, rfl⟩, by omega⟩
      · refine sat_cons ?_
        by_cases hab : t < a
        · simp [hab]
          refine next_sat (by decide) (by decide) fun c x z _ _ => ?_
          simp
          refine ⟨fun _ => ?_, fun _ => ?_⟩
          · refine sat_cons ?_
            simp
            exact ⟨_, _, _, _, ⟨⟨rfl, rfl⟩, rfl, rfl⟩, by omega⟩
          · exact ⟨_, _, _, _, ⟨⟨rfl, rfl⟩, rfl, rfl⟩, by omega⟩
        · simp [hab]
          exact ⟨_, _, _, _, ⟨⟨rfl, rfl⟩, rfl, rfl⟩, by omega⟩
    · simp [hp]
      refine sat_cons ?_
      by_cases hab : t < a
      · simp [hab]
        refine next_sat (by decide) (by decide) fun c x z _ _ => ?_
        simp
        refine ⟨fun _ => ?_, fun _ => ?_⟩
        · refine sat_cons ?_
          simp
          exact ⟨_, _, _, _, ⟨⟨rfl, rfl⟩, rfl, rfl⟩, by omega⟩
        · exact ⟨_, _, _, _, ⟨⟨rfl, rfl⟩, rfl, rfl⟩, by omega⟩
      · simp [hab]
        exact ⟨_, _, _, _, ⟨⟨rfl, rfl⟩, rfl, rfl⟩, by omega⟩
  rintro _ ⟨x, z, s, t, rfl, s0, s1, t0, t1, ne⟩
  refine sat_cons ?_
  simp
  refine next_sat (by decide) (by decide) fun c x z c0 c1 => ?_
  simp
  refine next_sat (by decide) (by decide) fun d x z d0 d1 => ?_
  obtain ⟨r, e, r0, r1⟩ := pickN (ns := [1, 2, 3, 5, 0, 1, 4, 1 + c]) (lo := 0) (hi := 9) d0 (by simpa using d1) (by simp; omega)
  simp only [List.map_cons, List.map_nil] at e
  simp [e]
  refine sat_cons ?_
  simp
  refine next_sat (by decide) (by decide) fun d x z d0 d1 => ?_
  obtain ⟨h, e, h0', h1⟩ := pickN (ns := [1, 1, 1, 2, 2, 3, 1, 4]) (lo := 1) (hi := 4) d0 (by simpa using d1) (by simp)
  simp only [List.map_cons, List.map_nil] at e
  simp [e]
  exact k ⟨s, t, r, h⟩ x z ⟨s0, s1, t0, t1, ne, r0, by show r ≤ _; omega, h0', by show h ≤ _; omega⟩ r1 h1
noncomputable def FN (y m c : Int) (ρ : List Sl) : Prop := ∃ (x z : Int) (s : Sl), ρ = [.own true [.int x, .int y, .int z], .val false (.int m), .val false (.int c), s] ∧ fr s = true
noncomputable def WyP (m : Int) (d : D) : Prop := ∃ v : Wy, d = v.d ∧ v.Ok m ∧ v.r ≤ 9 ∧ v.h ≤ 4
theorem wys {m : Int} : ∀ {xs : List D}, (∀ x ∈ xs, WyP m x) → ∃ ws : List Wy, xs = ws.map Wy.d ∧ ∀ v ∈ ws, v.Ok m ∧ v.r ≤ 9 ∧ v.h ≤ 4
  | [], _ => ⟨[], rfl, by simp⟩
  | x :: xs, h => by
    obtain ⟨v, rfl, h1⟩ := h x (by simp)
    obtain ⟨ws, rfl, h2⟩ := wys (m := m) (xs := xs) fun y hy => h y (by simp [hy])
    exact ⟨v :: ws, rfl, fun u hu => by
      rcases List.mem_cons.mp hu with rfl | hu
      · exact h1
      · exact h2 u hu⟩
theorem net_sat {w n : Nat} {x y z : Int} {Q : R → List Sl → Prop} (k : ∀ (m : Int) (ws : List Wy) (x z : Int), NetOk m ws → (∀ v ∈ ws, v.r ≤ 9 ∧ v.h ≤ 4) → Q (.val (netD m ws)) [.own true [.int x, .int y, .int z]]) :
    (run Γ w (n + 3) 12 [.own true [.int x, .int y, .int z]]).sat Q := by
  refine sat_run (d := f12) rfl rfl (by decide) ?_
  refine sat_cons ?_
  simp [f12]
  refine next_sat (by decide) (by decide) fun d x z d0 d1 => ?_
  obtain ⟨m, e, m0, m1⟩ := pickN (ns := [3, 4, 3, 4, 2, 5, 6, 4]) (lo := 2) (hi := 6) d0 (by simpa using d1) (by simp)
  simp only [List.map_cons, List.map_nil] at e
  simp [e]
  refine sat_cons ?_
  simp
  refine next_sat (by decide) (by decide) fun d x z d0 d1 => ?_
  obtain ⟨c, e, c0, c1⟩ := pickN (ns := [5, 3, 4, 6, 2, 7, 8, 10, 12, 1, 0, 5]) (lo := 0) (hi := 12) d0 (by simpa using d1) (by simp)
  simp only [List.map_cons, List.map_nil] at e
  simp [e]
  refine sat_cons ?_
  simp
  refine ⟨by omega, fun _ => ?_, by show _ ≤ 16777216; omega⟩
  refine sat_compN (FN y m c) (WyP m) ⟨x, z, .unb, rfl, rfl⟩ ?_ ?_
  · rintro d hd _ ⟨x, z, s, rfl, hs⟩
    obtain ⟨j, _, rfl⟩ := List.mem_map.mp hd
    simp [hs]
    refine way_sat m0 m1 (by omega) fun v x z hv hr hh => ?_
    simp
    exact ⟨⟨v, rfl, hv, hr, hh⟩, _, _, _, rfl, rfl⟩
  · rintro xs _ ⟨x, z, s, rfl, hs⟩ hl hx
    obtain ⟨ws, rfl, hw⟩ := wys hx
    simp at hl
    simp
    exact k m ws x z ⟨m0, m1, by omega, fun v hv => (hw v hv).1⟩ fun v hv => (hw v hv).2
end T
end
section
set_option Elab.async false
set_option linter.all false
set_option maxRecDepth 100000
namespace T
open HH
noncomputable def JWd (y m by' more : Int) (net : Sl) (r : List D) (ρ : List Sl) : Prop := ∃ (x z : Int) (us vs : List Wy) (s5 s6 s7 s8 : Sl), ρ = [.own true [.int x, .int y, .int z], net, .val false (.int by'), .val false (.int more), .own false (vs.map Wy.d), s5, s6, s7, s8] ∧ (fr s5 = true ∧ fr s6 = true ∧ fr s7 = true ∧ fr s8 = true) ∧ r = us.map Wy.d ∧ (∀ v ∈ us, v.Ok m ∧ v.r ≤ 9 ∧ v.h ≤ 4) ∧ (∀ v ∈ vs, v.Ok m) ∧ us.length + vs.length ≤ 12
theorem widened_sat {w n : Nat} {x y z m : Int} {ws : List Wy} {Q : R → List Sl → Prop} (h : NetOk m ws) (hs : ∀ v ∈ ws, v.r ≤ 9 ∧ v.h ≤ 4) (k : ∀ (vs : List Wy) (x z : Int), NetOk m vs → Q (.val (netD m vs)) [.own true [.int x, .int y, .int z], .val false (netD m ws)]) :
    (run Γ w (n + 2) 18 [.own true [.int x, .int y, .int z], .val false (netD m ws)]).sat Q := by
  have hlen := h.len
  refine sat_run (d := f18) rfl rfl (by decide) ?_
  refine sat_cons ?_
  simp [f18]
  refine next_sat (by decide) (by decide) fun d x z d0 d1 => ?_
  simp
  refine ⟨fun _ => ?_, fun _ => ?_⟩
  · refine sat_cons ?_
    simp
    exact k ws x z h
  refine sat_cons ?_
  simp
  refine next_sat (by decide) (by decide) fun b x z b0 b1 => ?_
  simp
  refine sat_cons ?_
  simp
  refine next_sat (by decide) (by decide) fun c x z c0 c1 => ?_
  simp
  refine sat_cons ?_
  simp
  refine sat_cons ?_
  simp
  obtain ⟨by', hb, b2, b3⟩ : ∃ q, q = 1 + b ∧ 1 ≤ q ∧ q ≤ 249000 := ⟨_, rfl, by omega, by omega⟩
  obtain ⟨more, hc, c2, c3⟩ : ∃ q, q = 1 + c ∧ 1 ≤ q ∧ q ≤ 100000000 := ⟨_, rfl, by omega, by omega⟩
  rw [← hb, ← hc]
  refine sat_forT (JWd y m by' more _) ?_ ?_ ⟨x, z, ws, [], .unb, .unb, .unb, .unb, rfl, ⟨rfl, rfl, rfl, rfl⟩, rfl, fun v hv => ⟨h.ok v hv, hs v hv⟩, by simp, by simpa using hlen⟩
  · rintro d r _ ⟨x, z, us, vs, s5, s6, s7, s8, rfl, ⟨h5, h6, h7, h8⟩, hr, hu, hv, hl⟩
    cases us with
    | nil => cases hr
    | cons v us =>
      obtain ⟨rfl, rfl⟩ : d = v.d ∧ r = us.map Wy.d := by simpa using hr
      have hv1 := hu v (by simp)
      have hok := hv1.1
      have hr9 := hv1.2.1
      have hh4 := hv1.2.2
      have r0 := hok.r0
      have h0 := hok.h0
      have e1 : v.r * more ≤ 9 * more := Int.mul_le_mul_of_nonneg_right hr9 (by omega)
      have e2 : 0 ≤ v.r * more := Int.mul_nonneg r0 (by omega)
      have e3 : v.h * by' ≤ 4 * by' := Int.mul_le_mul_of_nonneg_right hh4 (by omega)
      have e4 : 1 * by' ≤ v.h * by' := Int.mul_le_mul_of_nonneg_right h0 (by omega)
      simp [h5, h6, h7, h8, Wy.d]
      refine sat_cons ?_
      simp [show v.r < 18446744073709551616 by omega, show -18446744073709551616 < v.r by omega]
      refine next_sat (by omega) (lt_big (by omega)) fun d x z d0 d1 => ?_
      simp
      refine sat_cons ?_
      simp [show v.h < 18446744073709551616 by omega, show -18446744073709551616 < v.h by omega]
      refine next_sat (by decide) (by decide) fun g x z g0 g1 => ?_
      simp
      refine sat_cons ?_
      simp at hl
      simp [show vs.length < lim by show _ < 16777216; omega]
      refine ⟨x, z, us, vs ++ [⟨v.s, v.t, v.r * more + d, v.h * by' + g⟩], .val false (.int v.s), .val false (.int v.t), .val false (.int (v.r * more + d)), .val false (.int (v.h * by' + g)), by simp [Wy.d], ⟨rfl, rfl, rfl, rfl⟩, rfl, fun u hu' => hu u (by simp [hu']), fun u hu' => ?_, by simp; omega⟩
      rcases List.mem_append.mp hu' with hu' | hu'
      · exact hv u hu'
      · rw [List.mem_singleton.mp hu']
        exact ⟨hok.s0, hok.s1, hok.t0, hok.t1, hok.ne, by show 0 ≤ v.r * more + d; omega, by show v.r * more + d ≤ _; omega, by show 1 ≤ v.h * by' + g; omega, by show v.h * by' + g ≤ _; omega⟩
  · rintro _ ⟨x, z, us, vs, s5, s6, s7, s8, rfl, ⟨h5, h6, h7, h8⟩, hr, hu, hv, hl⟩
    refine sat_cons ?_
    simp
    exact k vs x z ⟨h.m0, h.m1, by omega, hv⟩
end T
end
section
set_option Elab.async false
set_option linter.all false
set_option maxRecDepth 100000
namespace T
open HH
@[simp] theorem rb_ok {α β : Type} {a : α} {ρ : List Sl} {f : α → List Sl → Res β} : (Res.ok a ρ).bind f = f a ρ := rfl
@[simp] theorem rb_stuck {α β : Type} {f : α → List Sl → Res β} : (Res.stuck : Res α).bind f = .stuck := rfl
@[simp] theorem lf_some {α : Type} {a : α} {ρ : List Sl} : lift (some a) ρ = .ok a ρ := rfl
@[simp] theorem ex_rais {c : Call} {n k : Nat} {ρ : List Sl} : ex c n (.rais k) ρ = .stuck := by rw [ex]
theorem wy_at {ws : List Wy} {k : Int} (h0 : 0 ≤ k) (h1 : k < (ws.length : Int)) : ∃ v, ws[k.toNat]? = some v ∧ v ∈ ws ∧ at' (ws.map Wy.d) k = some v.d := by
  have hk : k.toNat < ws.length := by omega
  refine ⟨ws[k.toNat], by simp [hk], List.getElem_mem hk, ?_⟩
  rw [at_nat h0 (by simpa using h1)]; simp [hk]
theorem wd_0 {v : Wy} : ixR v.d (.int 0) = some (.val (.int v.s)) := by simp [Wy.d]
theorem wd_1 {v : Wy} : ixR v.d (.int 1) = some (.val (.int v.t)) := by simp [Wy.d]
theorem wd_2 {v : Wy} : ixR v.d (.int 2) = some (.val (.int v.r)) := by simp [Wy.d]
theorem wd_3 {v : Wy} : ixR v.d (.int 3) = some (.val (.int v.h)) := by simp [Wy.d]
end T
end
section
set_option Elab.async false
set_option linter.all false
set_option maxRecDepth 100000
namespace T
open HH
noncomputable def stepW (ws : List Wy) (ps : List Int) (k : Int) : Option (List Int) :=
  if 0 ≤ k ∧ k < ws.length then match ws[k.toNat]? with
    | some v => if v.r < 1 then none else
      if ps = [] then (if v.t = v.s then none else some [v.s, v.t])
      else if ps.getLast? = some v.s ∧ v.t ∉ ps then some (ps ++ [v.t]) else none
    | none => none
  else none
noncomputable def turnB : List S := match b0 with
  | _ :: .forr _ _ _ b :: _ => b
  | _ => []
noncomputable abbrev WF (m : Int) (ws : List Wy) (s1 : Sl) (ps : List Int) (k : Int) (s4 : Sl) : List Sl := [.val false (netD m ws), s1, .own false (ps.map D.int), .val false (.int k), s4]
theorem turn_out {c : Call} {n : Nat} {m k : Int} {ws : List Wy} {ps : List Int} {s1 s4 : Sl} (e : ¬ (0 ≤ k ∧ k < (ws.length : Int))) :
    exs c n turnB (WF m ws s1 ps k s4) = .stuck ∧ ∃ ρ', exsX c n turnB (WF m ws s1 ps k s4) = some (1, ρ') := by
  by_cases e1 : 0 ≤ k
  · have e2 : ¬ k < (ws.length : Int) := fun z => e ⟨e1, z⟩
    constructor
    · simp [turnB, b0, exs, e1, e2]
    · simp [turnB, b0, exsX, exX, e1, e2]
  · constructor
    · simp [turnB, b0, exs, e1]
    · simp [turnB, b0, exsX, exX, e1]
theorem turn_shut {c : Call} {n : Nat} {m k : Int} {ws : List Wy} {ps : List Int} {s1 s4 : Sl} {v : Wy} (e1 : 0 ≤ k) (e2 : k < (ws.length : Int)) (ev : at' (ws.map Wy.d) k = some v.d) (hr : v.r < 1) :
    exs c n turnB (WF m ws s1 ps k s4) = .stuck ∧ ∃ ρ', exsX c n turnB (WF m ws s1 ps k s4) = some (1, ρ') := by
  constructor
  · simp [turnB, b0, exs, e1, e2, ev, wd_2, hr]
  · simp [turnB, b0, exsX, exX, e1, e2, ev, wd_2, hr]
theorem turn_first {c : Call} {n : Nat} {m k : Int} {ws : List Wy} {s1 s4 : Sl} {v : Wy} (h4 : fr s4 = true) (e1 : 0 ≤ k) (e2 : k < (ws.length : Int)) (ev : at' (ws.map Wy.d) k = some v.d) (hr : ¬ v.r < 1) (hne : v.s ≠ v.t) :
    exs c n turnB (WF m ws s1 [] k s4) = .ok .next (WF m ws s1 [v.s, v.t] k (.val false v.d)) ∧ exsX c n turnB (WF m ws s1 [] k s4) = none := by
  have hin : cm .inn (.int v.t) (.lst [.int v.s]) = some false := by
    have := in_lst (S := [v.s]) (i := v.t)
    simpa [Ne.symm hne] using this
  have hl : at' [D.int v.s] (-1) = some (.int v.s) := at_last (l := [])
  have l0 : 0 < lim := by show 0 < 16777216; omega
  have l1 : 1 < lim := by show 1 < 16777216; omega
  constructor
  · simp [turnB, b0, exs, e1, e2, ev, wd_0, wd_1, wd_2, hr, h4, hin, hl, l0, l1]
  · simp [turnB, b0, exs, exsX, exX, e1, e2, ev, wd_0, wd_1, wd_2, hr, h4, hin, hl, l0, l1, callX, callOf]
theorem turn_on {c : Call} {n : Nat} {m k z : Int} {ws : List Wy} {ps : List Int} {s1 s4 : Sl} {v : Wy} (h4 : fr s4 = true) (hps : ps.length ≤ 1000) (e1 : 0 ≤ k) (e2 : k < (ws.length : Int)) (ev : at' (ws.map Wy.d) k = some v.d) (hr : ¬ v.r < 1) (hz : ps.getLast? = some z) :
    (v.s = z → v.t ∉ ps → exs c n turnB (WF m ws s1 ps k s4) = .ok .next (WF m ws s1 (ps ++ [v.t]) k (.val false v.d)) ∧ exsX c n turnB (WF m ws s1 ps k s4) = none) ∧
    ((v.s ≠ z ∨ v.t ∈ ps) → exs c n turnB (WF m ws s1 ps k s4) = .stuck ∧ ∃ ρ', exsX c n turnB (WF m ws s1 ps k s4) = some (1, ρ')) := by
  have hne : ps ≠ [] := by rintro rfl; simp at hz
  have hlen : ¬ (ps.length : Int) = 0 := by
    have : 0 < ps.length := List.length_pos_iff.mpr hne
    omega
  have hl : at' (ps.map D.int) (-1) = some (.int z) := by
    obtain ⟨l, x, rfl⟩ : ∃ l x, ps = l ++ [x] := ⟨ps.dropLast, ps.getLast hne, (List.dropLast_concat_getLast hne).symm⟩
    rw [List.map_append, List.map_singleton, at_last]
    simpa using hz
  have l1 : ps.length < lim := by show _ < 16777216; omega
  refine ⟨fun hs ht => ?_, fun hst => ?_⟩
  · have hin : cm .inn (.int v.t) (.lst (ps.map D.int)) = some false := by rw [in_lst]; simp [ht]
    constructor
    · simp [turnB, b0, exs, e1, e2, ev, wd_0, wd_1, wd_2, hr, h4, hin, hl, l1, hne, hs]
    · simp [turnB, b0, exs, exsX, exX, e1, e2, ev, wd_0, wd_1, wd_2, hr, h4, hin, hl, l1, hne, hs, callX, callOf]
  · by_cases hs : v.s = z
    · have ht : v.t ∈ ps := hst.resolve_left (fun q => q hs)
      have hin : cm .inn (.int v.t) (.lst (ps.map D.int)) = some true := by rw [in_lst]; simp [ht]
      constructor
      · simp [turnB, b0, exs, e1, e2, ev, wd_0, wd_1, wd_2, hr, h4, hin, hl, l1, hne, hs]
      · simp [turnB, b0, exs, exsX, exX, e1, e2, ev, wd_0, wd_1, wd_2, hr, h4, hin, hl, l1, hne, hs, callX, callOf]
    · constructor
      · simp [turnB, b0, exs, e1, e2, ev, wd_0, wd_1, wd_2, hr, h4, hl, l1, hne, hs]
      · simp [turnB, b0, exs, exsX, exX, e1, e2, ev, wd_0, wd_1, wd_2, hr, h4, hl, l1, hne, hs, callX, callOf]
end T
end
section
set_option Elab.async false
set_option linter.all false
set_option maxRecDepth 100000
namespace T
open HH
noncomputable def goW (ws : List Wy) : List Int → List Int → Option (List Int)
  | [], ps => some ps
  | k :: r, ps => match stepW ws ps k with
    | some qs => goW ws r qs
    | none => none
noncomputable def hh (ws : List Wy) (k : Int) : Int := match ws[k.toNat]? with
  | some v => v.h
  | none => 0
noncomputable def tot (ws : List Wy) (l : List Int) : Int := (l.map (hh ws)).sum
theorem step_ok {ws : List Wy} {ps qs : List Int} {k : Int} (h : stepW ws ps k = some qs) : 0 ≤ k ∧ k < (ws.length : Int) ∧ qs.length ≤ ps.length + 2 ∧ qs ≠ [] := by
  unfold stepW at h
  by_cases e : 0 ≤ k ∧ k < (ws.length : Int)
  · rw [if_pos e] at h
    refine ⟨e.1, e.2, ?_⟩
    split at h
    · split at h
      · cases h
      · split at h
        · split at h
          · cases h
          · cases h; rename_i z _; rw [z]; simp
        · split at h
          · cases h; simp
          · cases h
    · cases h
  · rw [if_neg e] at h; cases h
theorem goW_ok {ws : List Wy} : ∀ {l ps qs : List Int}, goW ws l ps = some qs → ∀ k ∈ l, 0 ≤ k ∧ k < (ws.length : Int)
  | [], _, _, _, k, hk => by cases hk
  | a :: l, ps, qs, h, k, hk => by
    rw [goW] at h
    cases e : stepW ws ps a with
    | none => rw [e] at h; cases h
    | some rs =>
      rw [e] at h
      rcases List.mem_cons.mp hk with rfl | hk
      · exact ⟨(step_ok e).1, (step_ok e).2.1⟩
      · exact goW_ok h k hk
theorem goW_len {ws : List Wy} : ∀ {l ps qs : List Int}, goW ws l ps = some qs → qs.length ≤ ps.length + 2 * l.length
  | [], _, _, h => by rw [goW] at h; cases h; simp
  | a :: l, ps, qs, h => by
    rw [goW] at h
    cases e : stepW ws ps a with
    | none => rw [e] at h; cases h
    | some rs =>
      rw [e] at h
      have := goW_len h
      have := (step_ok e).2.2.1
      simp; omega
theorem turn_ok {c : Call} {n : Nat} {m k : Int} {ws : List Wy} {ps : List Int} {s1 s4 : Sl} (hk : NetOk m ws) (h4 : fr s4 = true) (hps : ps.length ≤ 1000) : match stepW ws ps k with
    | some qs => ∃ s4', fr s4' = true ∧ exs c n turnB (WF m ws s1 ps k s4) = .ok .next (WF m ws s1 qs k s4') ∧ exsX c n turnB (WF m ws s1 ps k s4) = none
    | none => exs c n turnB (WF m ws s1 ps k s4) = .stuck ∧ ∃ ρ', exsX c n turnB (WF m ws s1 ps k s4) = some (1, ρ') := by
  by_cases e : 0 ≤ k ∧ k < (ws.length : Int)
  · obtain ⟨v, hv, hm, ha⟩ := wy_at e.1 e.2
    have vo := hk.ok v hm
    have e0 : stepW ws ps k = (if v.r < 1 then none else if ps = [] then (if v.t = v.s then none else some [v.s, v.t]) else if ps.getLast? = some v.s ∧ v.t ∉ ps then some (ps ++ [v.t]) else none) := by
      unfold stepW; rw [if_pos e, hv]
    rw [e0]
    by_cases hr : v.r < 1
    · rw [if_pos hr]
      exact turn_shut e.1 e.2 ha hr
    · rw [if_neg hr]
      by_cases hp : ps = []
      · rw [if_pos hp, if_neg (fun z => vo.ne z.symm)]
        subst hp
        have := turn_first (c := c) (n := n) (m := m) (s1 := s1) h4 e.1 e.2 ha hr vo.ne
        exact ⟨_, rfl, this.1, this.2⟩
      · rw [if_neg hp]
        obtain ⟨z, hz⟩ : ∃ z, ps.getLast? = some z := ⟨_, List.getLast?_eq_some_getLast hp⟩
        have := turn_on (c := c) (n := n) (m := m) (s1 := s1) h4 hps e.1 e.2 ha hr hz
        by_cases h2 : ps.getLast? = some v.s ∧ v.t ∉ ps
        · rw [if_pos h2]
          have hzs : v.s = z := by have := h2.1; rw [hz] at this; cases this; rfl
          exact ⟨_, rfl, this.1 hzs h2.2⟩
        · rw [if_neg h2]
          refine this.2 ?_
          by_cases hzs : v.s = z
          · right
            exact Decidable.byContradiction fun q => h2 ⟨by rw [hz, hzs], q⟩
          · exact .inl hzs
  · have e0 : stepW ws ps k = none := by unfold stepW; rw [if_neg e]
    rw [e0]
    exact turn_out e
theorem loop_ok {c : Call} {n : Nat} {m : Int} {ws : List Wy} {s1 : Sl} (hk : NetOk m ws) : ∀ (l ps : List Int) (s3 s4 : Sl), fr s3 = true → fr s4 = true → ps.length + 2 * l.length ≤ 1000 → match goW ws l ps with
    | some qs => ∃ s3' s4', forT [3] true (exs c n turnB) (l.map D.int) [.val false (netD m ws), s1, .own false (ps.map D.int), s3, s4] = .ok .next [.val false (netD m ws), s1, .own false (qs.map D.int), s3', s4'] ∧ forX [3] true (exs c n turnB) (exsX c n turnB) (l.map D.int) [.val false (netD m ws), s1, .own false (ps.map D.int), s3, s4] = none
    | none => forT [3] true (exs c n turnB) (l.map D.int) [.val false (netD m ws), s1, .own false (ps.map D.int), s3, s4] = .stuck ∧ ∃ ρ', forX [3] true (exs c n turnB) (exsX c n turnB) (l.map D.int) [.val false (netD m ws), s1, .own false (ps.map D.int), s3, s4] = some (1, ρ') := by
  intro l
  induction l with
  | nil => intro ps s3 s4 _ _ _; exact ⟨_, _, rfl, rfl⟩
  | cons k l ih =>
    intro ps s3 s4 h3 h4 hl
    simp only [List.length_cons] at hl
    have hb : bindF [.val false (netD m ws), s1, .own false (ps.map D.int), s3, s4] [3] true (.int k) = some (WF m ws s1 ps k s4) := by simp [h3, WF]
    have ht := turn_ok (c := c) (n := n) (k := k) (s1 := s1) hk h4 (ps := ps) (by omega)
    rw [goW]
    cases e : stepW ws ps k with
    | none =>
      rw [e] at ht
      obtain ⟨t1, ρ', t2⟩ := ht
      refine ⟨?_, ρ', ?_⟩
      · rw [List.map_cons, forT, hb]; simp only [t1]; rfl
      · rw [List.map_cons, forX, hb]; simp only [t2]
    | some qs =>
      rw [e] at ht
      obtain ⟨s4', f4, t1, t2⟩ := ht
      have := (step_ok e).2.2.1
      have hi := ih qs (.val false (.int k)) s4' rfl f4 (by omega)
      have g1 : forT [3] true (exs c n turnB) ((k :: l).map D.int) [.val false (netD m ws), s1, .own false (ps.map D.int), s3, s4] = forT [3] true (exs c n turnB) (l.map D.int) (WF m ws s1 qs k s4') := by
        rw [List.map_cons, forT, hb]; simp only [t1]; rfl
      have g2 : forX [3] true (exs c n turnB) (exsX c n turnB) ((k :: l).map D.int) [.val false (netD m ws), s1, .own false (ps.map D.int), s3, s4] = forX [3] true (exs c n turnB) (exsX c n turnB) (l.map D.int) (WF m ws s1 qs k s4') := by
        rw [List.map_cons, forX, hb]; simp only [t1, t2]
      simp only []
      rw [g1, g2]
      exact hi
noncomputable abbrev A2 (m : Int) (ws : List Wy) (l : List Int) : List Sl := [.val false (netD m ws), .val false (.tup (l.map D.int))]
theorem places_ok {w n : Nat} {m : Int} {ws : List Wy} {l qs : List Int} (hk : NetOk m ws) (hl : l.length ≤ 100) (h : goW ws l [] = some qs) : run Γ w (n + 1) 0 (A2 m ws l) = .ok (.val (.tup (qs.map D.int))) (A2 m ws l) := by
  have z := loop_ok (c := run Γ w n) (n := w) (s1 := .val false (.tup (l.map D.int))) hk l [] .unb .unb rfl rfl (by simp; omega)
  rw [h] at z
  obtain ⟨s3, s4, z, _⟩ := z
  rw [run_succ (d := ⟨2, 5, [.asg 2 (.lst []), .forr (.var 1) [3] true turnB, .ret (.blt .tuple [.var 2])]⟩) rfl]
  generalize turnB = B at z ⊢
  unfold enter
  rw [List.map_nil] at z
  simp [exs, z]
theorem places_no {w n : Nat} {m : Int} {ws : List Wy} {l : List Int} (hk : NetOk m ws) (hl : l.length ≤ 100) (h : goW ws l [] = none) : ∃ args, run Γ w (n + 1) 0 (A2 m ws l) = .exc 1 args := by
  have z := loop_ok (c := run Γ w n) (n := w) (s1 := .val false (.tup (l.map D.int))) hk l [] .unb .unb rfl rfl (by simp; omega)
  rw [h] at z
  obtain ⟨z, ρ', z2⟩ := z
  rw [run_succ (d := ⟨2, 5, [.asg 2 (.lst []), .forr (.var 1) [3] true turnB, .ret (.blt .tuple [.var 2])]⟩) rfl]
  generalize turnB = B at z z2 ⊢
  unfold enter
  rw [List.map_nil] at z z2
  simp [exs, exsX, exX, callX, callOf, z, z2]
noncomputable def F2c (a b : Sl) (ρ : List Sl) : Prop := ∃ s, ρ = [a, b, s] ∧ fr s = true
theorem hh_at {ws : List Wy} {k : Int} (h0 : 0 ≤ k) (h1 : k < (ws.length : Int)) : ∃ v : Wy, at' (ws.map Wy.d) k = some v.d ∧ v.h = hh ws k := by
  obtain ⟨v, hv, _, ha⟩ := wy_at h0 h1
  exact ⟨v, ha, by unfold hh; rw [hv]⟩
noncomputable def gH (ws : List Wy) : D → D
  | .int k => .int (hh ws k)
  | d => d
theorem length_ok {w n : Nat} {m : Int} {ws : List Wy} {l qs : List Int} {Q : R → List Sl → Prop} (hk : NetOk m ws) (hl : l.length ≤ 100) (h : goW ws l [] = some qs) (q : Q (.val (.int (tot ws l))) (A2 m ws l)) : (run Γ w (n + 2) 1 (A2 m ws l)).sat Q := by
  refine sat_run (d := f1) rfl rfl (by decide) ?_
  refine sat_cons ?_
  simp [f1, places_ok hk hl h]
  refine sat_cons ?_
  have hlim : l.length ≤ lim := by show _ ≤ 16777216; omega
  simp [hlim]
  refine sat_compM (F2c _ _) (gH ws) ⟨.unb, rfl, rfl⟩ ?_ ?_
  · rintro d hd _ ⟨s, rfl, hs⟩
    obtain ⟨k, hk', rfl⟩ := List.mem_map.mp hd
    obtain ⟨k0, k1⟩ := goW_ok h k hk'
    obtain ⟨v, ha, hv⟩ := hh_at k0 k1
    simp [hs, ha, wd_3, gH, hv]
    exact ⟨_, rfl, rfl⟩
  rintro _ ⟨s, rfl, hs⟩
  have e1 : (l.map D.int).map (gH ws) = (l.map (hh ws)).map D.int := by simp [gH]
  rw [e1, mapM_int]
  simp
  exact q
end T
end
section
set_option Elab.async false
set_option linter.all false
set_option maxRecDepth 100000
namespace T
open HH
noncomputable def gd : Nat → D → Bool
  | _, .non => true
  | _, .int _ => true
  | k + 1, .tup ds => decide (ds.length ≤ 1000) && ds.all (gd k)
  | k + 1, .lst ds => decide (ds.length ≤ 1000) && ds.all (gd k)
  | _, _ => false
theorem mapM_bl {α : Type} {l : List α} : (l.map fun _ => D.bl true).mapM asB = some (l.map fun _ => true) := by
  induction l with
  | nil => rfl
  | cons a l ih => simp [ih]
theorem all_true {α : Type} {l : List α} : (l.map fun _ => true).all id = true := by simp
theorem peq_refl : ∀ (k : Nat) (d : D), gd k d = true → peq d d = true := by
  have seq : ∀ (k : Nat), (∀ d, gd k d = true → peq d d = true) → ∀ ds : List D, ds.all (gd k) = true → peqs ds ds = true := by
    intro k ih ds
    induction ds with
    | nil => intro _; rw [peqs]
    | cons d ds ihd =>
      intro h
      rw [List.all_cons, Bool.and_eq_true] at h
      rw [peqs, ih d h.1, ihd h.2]; rfl
  intro k
  induction k with
  | zero => intro d g; cases d with
    | non => rw [peq]
    | int i => rw [peq]; simp
    | bl b => cases g
    | str s => cases g
    | tup ds => cases g
    | lst ds => cases g
  | succ k ih => intro d g; cases d with
    | non => rw [peq]
    | int i => rw [peq]; simp
    | bl b => cases g
    | str s => cases g
    | tup ds => rw [gd, Bool.and_eq_true] at g; rw [peq]; exact seq k ih ds g.2
    | lst ds => rw [gd, Bool.and_eq_true] at g; rw [peq]; exact seq k ih ds g.2
theorem gd_dle : ∀ (k j : Nat) (d : D), k ≤ j → gd k d = true → dle j d = true := by
  intro k
  induction k with
  | zero => intro j d _ g; cases d with
    | non => rw [dle]
    | int i => rw [dle]
    | bl b => cases g
    | str s => cases g
    | tup ds => cases g
    | lst ds => cases g
  | succ k ih => intro j d hj g; cases d with
    | non => rw [dle]
    | int i => rw [dle]
    | bl b => cases g
    | str s => cases g
    | tup ds =>
      rw [gd, Bool.and_eq_true] at g
      obtain ⟨j, rfl⟩ : ∃ i, j = i + 1 := ⟨j - 1, by omega⟩
      exact dle_allT fun d hd => ih j d (by omega) (List.all_eq_true.mp g.2 d hd)
    | lst ds =>
      rw [gd, Bool.and_eq_true] at g
      obtain ⟨j, rfl⟩ : ∃ i, j = i + 1 := ⟨j - 1, by omega⟩
      exact dle_all fun d hd => ih j d (by omega) (List.all_eq_true.mp g.2 d hd)
theorem ne_self {k : Nat} {d : D} (hk : k ≤ 8) (h : gd k d = true) : cm .ne d d = some false := by
  show cmNe d d = _
  unfold cmNe
  rw [gd_dle k 8 d hk h, peq_refl k d h]; rfl
theorem eq_self {k : Nat} {d : D} (hk : k ≤ 8) (h : gd k d = true) : cm .eq d d = some true := by
  show cmEq d d = _
  unfold cmEq
  rw [gd_dle k 8 d hk h, peq_refl k d h]; rfl
end T
end
section
set_option Elab.async false
set_option linter.all false
set_option maxRecDepth 100000
namespace T
open HH
noncomputable abbrev Rd := List Int × Int
noncomputable def RD (r : Rd) : D := .tup [.tup (r.1.map D.int), .int r.2]
theorem dle_intT {n : Nat} {S : List Int} : dle (n + 1) (.tup (S.map D.int)) = true := by
  rw [dle, List.all_eq_true]; intro d hd; obtain ⟨i, _, rfl⟩ := List.mem_map.mp hd; cases n <;> rfl
theorem eq_intsT {S T : List Int} : cm .eq (.tup (S.map D.int)) (.tup (T.map D.int)) = some (S == T) := by
  show cmEq _ _ = _
  unfold cmEq
  rw [dle_intT, dle_intT, peq, peqs_int]; rfl
theorem cut_int {cs : List Int} {a b : Option Int} : cut (cs.map D.int) a b = (cut cs a b).map D.int := by
  unfold cut; simp
theorem cut_len {α : Type} {cs : List α} {a b : Option Int} : (cut cs a b).length ≤ cs.length := by
  unfold cut; simp; omega
noncomputable def isRd (m : Int) (ws : List Wy) (r : Rd) : Bool := match goW ws r.1 [] with
  | some ps => decide (1 ≤ r.2) && (cut ps none (some 1) == [0]) && (cut ps (some (-1)) none == [m - 1])
  | none => false
theorem isround_sat {w n : Nat} {m : Int} {ws : List Wy} {r : Rd} {Q : R → List Sl → Prop} (hk : NetOk m ws) (hl : r.1.length ≤ 100) (q : ∀ a b c, Q (.val (.bl (isRd m ws r))) [a, b, c]) :
    (run Γ w (n + 2) 3 [.val false (netD m ws), .val false (.tup (r.1.map D.int)), .val false (.int r.2)]).sat Q := by
  refine sat_run (d := f3) rfl rfl (by decide) ?_
  refine sat_cons ?_
  simp [f3]
  unfold isRd at q
  cases e : goW ws r.1 [] with
  | none =>
    rw [e] at q
    obtain ⟨args, e1⟩ := places_no (w := w) (n := n) hk hl e
    rw [ex]
    simp [exs, exsX, exX, callX, callOf, doCall, bindA, backA, backS, lookA, e1]
    simpa using q _ _ _
  | some ps =>
    rw [e] at q
    have e1 := places_ok (w := w) (n := n) hk hl e
    rw [ex]
    simp [exs, doCall, bindA, backA, backS, lookA, e1]
    have e2 := eq_intsT (S := cut ps none (some 1)) (T := [0])
    have e3 := eq_intsT (S := cut ps (some (-1)) none) (T := [m - 1])
    simp only [List.map_cons, List.map_nil] at e2 e3
    have q' := q (.val false (netD m ws)) (.val false (.tup (r.1.map D.int))) (.val false (.int r.2))
    clear q
    by_cases h1 : 1 ≤ r.2
    · simp only [h1, decide_true, Bool.true_and] at q'
      cases h2 : cut ps none (some 1) == [0] with
      | false =>
        rw [h2] at q' e2
        simp [h1, sl3, part, isNC, cut_int, e2]
        exact ⟨by simpa using q', fun z => absurd h1 (by omega)⟩
      | true =>
        rw [h2] at q' e2
        simp [h1, sl3, part, isNC, cut_int, e2, e3]
        exact ⟨by simpa using q', fun z => absurd h1 (by omega)⟩
    · simp only [h1, decide_false, Bool.false_and] at q'
      simp [h1]
      exact fun _ => q'
noncomputable def sumIn (rs : List Rd) (k : Int) : Int := (rs.filterMap fun r => if k ∈ r.1 then some r.2 else none).sum
noncomputable def strm (ws : List Wy) (rs : List Rd) : List Int := (List.range ws.length).map fun (k : Nat) => sumIn rs (k : Int)
noncomputable def gS (k : Int) : D → Option D
  | .tup [.tup ds, d] => if (ds.any fun y => peq y (.int k)) = true then some d else none
  | _ => none
theorem gS_d {k x : Int} {l : List Int} : gS k (.tup [.tup (l.map D.int), .int x]) = if k ∈ l then some (.int x) else none := by
  show (if ((l.map D.int).any fun y => peq y (.int k)) = true then some (D.int x) else none) = _
  rw [any_int]
  by_cases h : k ∈ l <;> simp [h]
theorem gS_map {k : Int} (rs : List Rd) : (rs.map RD).filterMap (gS k) = (rs.filterMap fun r => if k ∈ r.1 then some r.2 else none).map D.int := by
  induction rs with
  | nil => rfl
  | cons r rs ih =>
    rw [List.map_cons, List.filterMap_cons, List.filterMap_cons, ih]
    have e : gS k (RD r) = if k ∈ r.1 then some (.int r.2) else none := gS_d
    rw [e]
    by_cases h : k ∈ r.1 <;> simp [h]
noncomputable def FS1 (a b : Sl) (ρ : List Sl) : Prop := ∃ s, ρ = [a, b, s] ∧ fr s = true
noncomputable def FS2 (a b : Sl) (ρ : List Sl) : Prop := ∃ s t, ρ = [a, b, s, t] ∧ fr s = true ∧ fr t = true
noncomputable def FS3 (a b c : Sl) (ρ : List Sl) : Prop := ∃ s t, ρ = [a, b, c, s, t] ∧ fr s = true ∧ fr t = true
noncomputable def gN (rs : List Rd) : D → D
  | .int k => .int (sumIn rs k)
  | d => d
theorem rng_mem0 {n : Nat} {d : D} (h : d ∈ (List.range n).map fun (k : Nat) => D.int (k : Int)) : ∃ i : Int, d = .int i ∧ 0 ≤ i ∧ i < (n : Int) := by
  rw [List.mem_map] at h
  obtain ⟨k, h1, rfl⟩ := h
  rw [List.mem_range] at h1
  exact ⟨k, rfl, by omega, by omega⟩
theorem stream_sat {w n : Nat} {b : Bool} {m : Int} {ws : List Wy} {rs : List Rd} {Q : R → List Sl → Prop} (hk : NetOk m ws) (hl : rs.length ≤ 100) (q : Q (.own ((strm ws rs).map D.int)) [.val false (netD m ws), .own b (rs.map RD)]) :
    (run Γ w (n + 1) 4 [.val false (netD m ws), .own b (rs.map RD)]).sat Q := by
  have hlen := hk.len
  refine sat_run (d := f4) rfl rfl (by decide) ?_
  refine sat_cons ?_
  simp [f4]
  refine ⟨by omega, fun _ => ?_, by show _ ≤ 16777216; omega⟩
  refine sat_compM (FS1 _ _) (gN rs) ⟨.unb, rfl, rfl⟩ ?_ ?_
  · rintro d hd _ ⟨s, rfl, hs⟩
    obtain ⟨k, rfl, k0, k1⟩ := rng_mem0 hd
    simp [hs]
    refine ⟨fun _ => ?_, by show _ ≤ 16777216; omega⟩
    refine sat_compF (FS3 _ _ _) (gS k) ⟨.unb, .unb, rfl, rfl, rfl⟩ ?_ ?_
    · rintro d hd _ ⟨s, t, rfl, hs, ht⟩
      obtain ⟨r, hr, rfl⟩ := List.mem_map.mp hd
      by_cases h : k ∈ r.1
      · simp [hs, ht, RD, gS_d, in_tup, h]
        exact ⟨_, _, rfl, rfl, rfl⟩
      · simp [hs, ht, RD, gS_d, in_tup, h]
        exact ⟨_, _, rfl, rfl, rfl⟩
    rintro _ ⟨s, t, rfl, hs, ht⟩
    rw [gS_map]
    simp [mapM_int]
    exact ⟨rfl, _, rfl, rfl⟩
  rintro _ ⟨s, rfl, hs⟩
  have e : ((List.range ws.length).map fun (k : Nat) => D.int (k : Int)).map (gN rs) = (strm ws rs).map D.int := by simp [strm, gN]
  rw [e]
  simpa using q
noncomputable def within (ws : List Wy) (fs : List Int) : Bool := (fs.zip ws).all fun p => decide (0 ≤ p.1) && decide (p.1 ≤ p.2.r)
noncomputable def gW : D → D
  | .tup [.int l, .tup [_, _, .int r, _]] => .bl (decide (0 ≤ l) && decide (l ≤ r))
  | d => d
theorem zipW {ws : List Wy} : ∀ {fs : List Int}, ((fs.map D.int).zip (ws.map Wy.d)).map (fun p => D.tup [p.1, p.2]) = (fs.zip ws).map fun p => D.tup [.int p.1, p.2.d] := by
  intro fs
  rw [List.zip_map, List.map_map]; rfl
theorem mapM_bls {bs : List Bool} : (bs.map D.bl).mapM asB = some bs := by
  induction bs with
  | nil => rfl
  | cons b bs ih => simp [ih]
theorem within_sat {w n : Nat} {m : Int} {ws : List Wy} {fs : List Int} {Q : R → List Sl → Prop} (hk : NetOk m ws) (hl : fs.length ≤ 100) (q : ∀ a b, Q (.val (.bl (within ws fs))) [a, b]) :
    (run Γ w (n + 1) 2 [.val false (netD m ws), .own false (fs.map D.int)]).sat Q := by
  have hlen := hk.len
  refine sat_run (d := f2) rfl rfl (by decide) ?_
  refine sat_cons ?_
  simp [f2]
  rw [zipW]
  refine ⟨fun _ => ?_, by show _ ≤ 16777216; omega⟩
  refine sat_compM (FS2 _ _) gW ⟨.unb, .unb, rfl, rfl, rfl⟩ ?_ ?_
  · rintro d hd _ ⟨s, t, rfl, hs, ht⟩
    obtain ⟨p, hp, rfl⟩ := List.mem_map.mp hd
    by_cases h : 0 ≤ p.1
    · simp [hs, ht, h, Wy.d, gW]
      exact ⟨_, _, rfl, rfl, rfl⟩
    · simp [hs, ht, h, Wy.d, gW]
      exact ⟨_, _, rfl, rfl, rfl⟩
  rintro _ ⟨s, t, rfl, hs, ht⟩
  have e : ((fs.zip ws).map fun p => D.tup [.int p.1, p.2.d]).map gW = ((fs.zip ws).map fun p => decide (0 ≤ p.1) && decide (p.1 ≤ p.2.r)).map D.bl := by
    rw [List.map_map, List.map_map]; rfl
  rw [e, mapM_bls]
  simp
  have := q (.val false (netD m ws)) (.val false (.lst (fs.map D.int)))
  unfold within at this
  simpa using this
noncomputable def fit (m : Int) (ws : List Wy) (rs : List Rd) : Bool := rs.all (isRd m ws) && within ws (strm ws rs)
theorem asI_ints {l : List Int} : (l.map D.int).filterMap asI = l := by
  rw [List.filterMap_map]
  induction l with
  | nil => rfl
  | cons a l ih => simp [ih]
noncomputable def gRd (m : Int) (ws : List Wy) : D → D
  | .tup [.tup ds, .int l] => .bl (isRd m ws (ds.filterMap asI, l))
  | d => d
theorem gRd_d {m : Int} {ws : List Wy} {r : Rd} : gRd m ws (RD r) = .bl (isRd m ws r) := by
  show D.bl (isRd m ws ((r.1.map D.int).filterMap asI, r.2)) = _
  rw [asI_ints]
noncomputable def RdsOk (rs : List Rd) : Prop := rs.length ≤ 100 ∧ ∀ r ∈ rs, r.1.length ≤ 100
theorem strm_len {ws : List Wy} {rs : List Rd} : (strm ws rs).length = ws.length := by simp [strm]
theorem fit_sat {w n : Nat} {b : Bool} {m : Int} {ws : List Wy} {rs : List Rd} {Q : R → List Sl → Prop} (hk : NetOk m ws) (hr : RdsOk rs) (q : Q (.val (.bl (fit m ws rs))) [.val false (netD m ws), .own b (rs.map RD)]) :
    (run Γ w (n + 3) 5 [.val false (netD m ws), .own b (rs.map RD)]).sat Q := by
  have hlen := hk.len
  have hrl := hr.1
  refine sat_run (d := f5) rfl rfl (by decide) ?_
  refine sat_cons ?_
  simp [f5]
  refine ⟨fun _ => ?_, by show _ ≤ 16777216; omega⟩
  refine sat_compM (FS2 _ _) (gRd m ws) ⟨.unb, .unb, rfl, rfl, rfl⟩ ?_ ?_
  · rintro d hd _ ⟨s, t, rfl, hs, ht⟩
    obtain ⟨r, hrm, rfl⟩ := List.mem_map.mp hd
    simp [hs, ht, RD]
    refine isround_sat hk (hr.2 r hrm) fun a b c => ?_
    simp [backA, backS]
    rw [show D.tup [.tup (r.1.map D.int), .int r.2] = RD r from rfl, gRd_d]
    exact ⟨rfl, _, _, rfl, rfl, rfl⟩
  rintro _ ⟨s, t, rfl, hs, ht⟩
  have e : (rs.map RD).map (gRd m ws) = (rs.map (isRd m ws)).map D.bl := by simp [gRd_d]
  rw [e, mapM_bls]
  unfold fit at q
  by_cases h : rs.all (isRd m ws) = true
  · rw [h] at q
    have h' : ∀ a b, (a, b) ∈ rs → isRd m ws (a, b) = true := fun a b z => List.all_eq_true.mp h (a, b) z
    simp at h
    simp
    refine ⟨fun x y z hz => absurd (h' x y z) (by simpa using hz), fun _ => ?_⟩
    refine sat_cons ?_
    simp
    refine stream_sat hk hrl ?_
    simp
    refine within_sat hk (by rw [strm_len]; omega) fun a b => ?_
    simpa [backA, backS] using q
  · have h2 : rs.all (isRd m ws) = false := by simpa using h
    rw [h2] at q
    have h3 : ∃ a b, (a, b) ∈ rs ∧ isRd m ws (a, b) = false := by
      simp at h2
      exact h2
    simp
    refine ⟨fun x y z hz => ?_, fun z => ?_⟩
    · refine sat_cons ?_
      simpa using q
    · obtain ⟨a, b, h4, h5⟩ := h3
      rw [z a b h4] at h5; cases h5
noncomputable def islw (m : Int) (ws : List Wy) (l : List Int) : Bool := match goW ws l [0] with
  | some ps => ps.getLast? == some (m - 1)
  | none => false
theorem goW_pre {ws : List Wy} : ∀ {l ps qs : List Int}, ps ≠ [] → goW ws l ps = some qs → ∃ r, qs = ps ++ r
  | [], ps, qs, _, h => by rw [goW] at h; cases h; exact ⟨[], by simp⟩
  | k :: l, ps, qs, hp, h => by
    rw [goW] at h
    cases e : stepW ws ps k with
    | none => rw [e] at h; cases h
    | some rs =>
      rw [e] at h
      have he : ∃ x, rs = ps ++ [x] := by
        unfold stepW at e
        simp only [if_neg hp] at e
        split at e
        · split at e
          · split at e
            · cases e
            · split at e
              · cases e; exact ⟨_, rfl⟩
              · cases e
          · cases e
        · cases e
      obtain ⟨x, rfl⟩ := he
      obtain ⟨r, rfl⟩ := goW_pre (by simp) h
      exact ⟨x :: r, by simp⟩
theorem cut_1 {a : Int} {l : List Int} : cut (a :: l) none (some 1) = [a] := by
  unfold cut sIx; simp
theorem cut_last {l : List Int} {x : Int} : cut (l ++ [x]) (some (-1)) none = [x] := by
  have e : (-1 + ((l.length : Int) + 1)).toNat = l.length := by omega
  unfold cut sIx
  simp [e]
theorem cut_lastB {ps : List Int} {z : Int} (h : ps ≠ []) : (cut ps (some (-1)) none == [z]) = (ps.getLast? == some z) := by
  obtain ⟨l, x, rfl⟩ : ∃ l x, ps = l ++ [x] := ⟨_, _, (List.dropLast_concat_getLast h).symm⟩
  rw [cut_last]; simp
theorem isRd_lw {m : Int} {ws : List Wy} {r : Rd} (hk : NetOk m ws) : isRd m ws r = (decide (1 ≤ r.2) && islw m ws r.1) := by
  have m0 := hk.m0
  unfold isRd islw
  cases hl : r.1 with
  | nil =>
    have : ¬ (0 : Int) = m - 1 := by omega
    simp [goW, this, cut]
  | cons k l =>
    rw [goW, goW]
    unfold stepW
    by_cases e : 0 ≤ k ∧ k < (ws.length : Int)
    · obtain ⟨v, hv, hm, ha⟩ := wy_at e.1 e.2
      have vo := hk.ok v hm
      simp only [if_pos e, hv]
      by_cases hr : v.r < 1
      · simp [hr]
      · have hts : ¬ v.t = v.s := fun z => vo.ne z.symm
        simp only [if_neg hr, if_pos rfl, if_neg hts]
        rw [if_neg (by simp : ¬ ([0] : List Int) = [])]
        by_cases h0 : v.s = 0
        · have ht0 : ¬ v.t = 0 := fun z => hts (by rw [z, h0])
          have hc : ([0] : List Int).getLast? = some v.s ∧ v.t ∉ ([0] : List Int) := ⟨by rw [h0]; rfl, by simpa using ht0⟩
          rw [if_pos hc, h0]
          show (match goW ws l [0, v.t] with | some ps => _ | none => _) = (_ && match goW ws l ([0] ++ [v.t]) with | some ps => _ | none => _)
          rw [show ([0] : List Int) ++ [v.t] = [0, v.t] from rfl]
          cases hg : goW ws l [0, v.t] with
          | none => simp
          | some ps =>
            obtain ⟨x, hx⟩ := goW_pre (by simp) hg
            have hne : ps ≠ [] := by rw [hx]; simp
            have h1 : cut ps none (some 1) = [0] := by rw [hx]; exact cut_1
            simp only [h1, cut_lastB hne]; simp
        · have hc : ¬ (([0] : List Int).getLast? = some v.s ∧ v.t ∉ ([0] : List Int)) := fun z => h0 (by have := z.1; simp at this; exact this.symm)
          rw [if_neg hc]
          show (match goW ws l [v.s, v.t] with | some ps => _ | none => _) = _
          cases hg : goW ws l [v.s, v.t] with
          | none => simp
          | some ps =>
            obtain ⟨x, hx⟩ := goW_pre (by simp) hg
            have h1 : cut ps none (some 1) = [v.s] := by rw [hx]; exact cut_1
            simp [h1, h0]
    · simp only [if_neg e]; simp
end T
end
section
set_option Elab.async false
set_option linter.all false
set_option maxRecDepth 100000
namespace T
open HH
noncomputable def JK (m : Int) (ws : List Wy) (l : List Int) (r : List D) (ρ : List Sl) : Prop := ∃ (rest ps : List Int) (s3 : Sl), r = rest.map D.int ∧ ρ = [.val false (netD m ws), .val false (.tup (l.map D.int)), .val false (.int (m - 1)), .own false (ps.map D.int), s3] ∧ fr s3 = true ∧ ps ≠ [] ∧ goW ws rest ps = goW ws l [0] ∧ ps.length + 2 * rest.length ≤ 1000
theorem lwalk_sat {w n : Nat} {m : Int} {ws : List Wy} {l : List Int} {Q : R → List Sl → Prop} (hk : NetOk m ws) (hl : l.length ≤ 100) (q : Q (.val (.bl (islw m ws l))) [.val false (netD m ws), .val false (.tup (l.map D.int)), .val false (.int (m - 1))]) :
    (run Γ w (n + 1) 13 [.val false (netD m ws), .val false (.tup (l.map D.int)), .val false (.int (m - 1))]).sat Q := by
  refine sat_run (d := f13) rfl rfl (by decide) ?_
  refine sat_cons ?_
  simp [f13]
  refine sat_cons ?_
  simp
  refine sat_forT (JK m ws l) ?_ ?_ ⟨l, [0], .unb, rfl, rfl, rfl, by simp, rfl, by simp; omega⟩
  · rintro d r _ ⟨rest, ps, s3, er, rfl, h3, hp, hg, hlen⟩
    cases rest with
    | nil => cases er
    | cons k rest =>
      cases er
      simp only [List.length_cons] at hlen
      simp [h3]
      have no : stepW ws ps k = none → islw m ws l = false := fun e => by
        unfold islw; rw [← hg, goW, e]
      obtain ⟨z, hz⟩ : ∃ z, ps.getLast? = some z := ⟨_, List.getLast?_eq_some_getLast hp⟩
      have hl' : at' (ps.map D.int) (-1) = some (.int z) := by
        obtain ⟨l, x, rfl⟩ : ∃ l x, ps = l ++ [x] := ⟨ps.dropLast, ps.getLast hp, (List.dropLast_concat_getLast hp).symm⟩
        rw [List.map_append, List.map_singleton, at_last]
        simpa using hz
      refine sat_cons ?_
      by_cases e : 0 ≤ k ∧ k < (ws.length : Int)
      · obtain ⟨v, hv, hm, ha⟩ := wy_at e.1 e.2
        have vo := hk.ok v hm
        have r0 := vo.r0
        have k1 : ¬ k < 0 := by omega
        have k2 : ¬ (ws.length : Int) ≤ k := by omega
        have e0 : stepW ws ps k = (if v.r < 1 then none else if ps.getLast? = some v.s ∧ v.t ∉ ps then some (ps ++ [v.t]) else none) := by
          unfold stepW; rw [if_pos e, hv]; simp only [if_neg hp]
        have l1 : ps.length < lim := by show _ < 16777216; omega
        by_cases hzs : v.s = z
        · simp [k1, k2, ha, wd_0, hl', hzs]
          refine sat_cons ?_
          by_cases hr : v.r = 0
          · simp [ha, wd_2, hr]
            refine sat_cons ?_
            simp
            rw [no (by rw [e0, if_pos (by omega)])] at q
            exact q
          · by_cases ht : v.t ∈ ps
            · simp [ha, wd_1, wd_2, hr, in_lst, ht]
              refine sat_cons ?_
              simp
              rw [no (by rw [e0]; split <;> simp [ht])] at q
              exact q
            · simp [ha, wd_1, wd_2, hr, in_lst, ht]
              refine sat_cons ?_
              simp [ha, wd_1, l1]
              rw [if_neg (by omega), if_pos ⟨by rw [hz, hzs], ht⟩] at e0
              rw [goW, e0] at hg
              exact ⟨rest, ps ++ [v.t], .val false (.int k), rfl, by simp, rfl, by simp, hg, by simp; omega⟩
        · simp [k1, k2, ha, wd_0, hl', hzs]
          refine sat_cons ?_
          simp
          rw [no (by rw [e0, hz]; split <;> simp [Ne.symm hzs])] at q
          exact q
      · have e0 : stepW ws ps k = none := by unfold stepW; rw [if_neg e]
        rw [no e0] at q
        by_cases k1 : k < 0
        · simp [k1]
          refine sat_cons ?_
          simp
          exact q
        · have k2 : (ws.length : Int) ≤ k := by omega
          simp [k1, k2]
          refine sat_cons ?_
          simp
          exact q
  · rintro _ ⟨rest, ps, s3, er, rfl, h3, hp, hg, hlen⟩
    cases rest with
    | cons _ _ => cases er
    | nil =>
      rw [goW] at hg
      obtain ⟨z, hz⟩ : ∃ z, ps.getLast? = some z := ⟨_, List.getLast?_eq_some_getLast hp⟩
      have hl' : at' (ps.map D.int) (-1) = some (.int z) := by
        obtain ⟨l, x, rfl⟩ : ∃ l x, ps = l ++ [x] := ⟨ps.dropLast, ps.getLast hp, (List.dropLast_concat_getLast hp).symm⟩
        rw [List.map_append, List.map_singleton, at_last]
        simpa using hz
      refine sat_cons ?_
      simp [hl']
      unfold islw at q
      rw [← hg] at q
      simp only [hz] at q
      have : (some z == some (m - 1)) = (z == m - 1) := rfl
      rw [this] at q
      exact q
theorem goW_new {ws : List Wy} {m : Int} (hk : NetOk m ws) : ∀ {l ps qs : List Int}, ps ≠ [] → goW ws l ps = some qs → l.Nodup ∧ ∀ k ∈ l, ∀ v, ws[k.toNat]? = some v → v.t ∉ ps
  | [], ps, qs, _, h => ⟨List.nodup_nil, by simp⟩
  | k :: l, ps, qs, hp, h => by
    rw [goW] at h
    cases e : stepW ws ps k with
    | none => rw [e] at h; cases h
    | some rs =>
      rw [e] at h
      have k01 := step_ok e
      obtain ⟨v, hv, hm, ha⟩ := wy_at k01.1 k01.2.1
      have he : rs = ps ++ [v.t] ∧ v.t ∉ ps := by
        unfold stepW at e
        rw [if_pos ⟨k01.1, k01.2.1⟩, hv] at e
        simp only [if_neg hp] at e
        split at e
        · cases e
        · split at e
          · rename_i hc; cases e; exact ⟨rfl, hc.2⟩
          · cases e
      obtain ⟨h1, h2⟩ := goW_new hk (l := l) (ps := rs) (by rw [he.1]; simp) h
      refine ⟨List.nodup_cons.mpr ⟨fun hkl => ?_, h1⟩, fun j hj u hu => ?_⟩
      · have := h2 k hkl v hv
        rw [he.1] at this
        exact this (by simp)
      · rcases List.mem_cons.mp hj with rfl | hj
        · rw [hv] at hu; cases hu; exact he.2
        · have := h2 j hj u hu
          rw [he.1] at this
          exact fun z => this (by simp [z])
theorem islw_ok {m : Int} {ws : List Wy} {l : List Int} (hk : NetOk m ws) (h : islw m ws l = true) : l.Nodup ∧ ∀ k ∈ l, 0 ≤ k ∧ k < (ws.length : Int) := by
  unfold islw at h
  cases e : goW ws l [0] with
  | none => rw [e] at h; cases h
  | some ps => exact ⟨(goW_new hk (by simp) e).1, goW_ok e⟩
noncomputable def accF (n : Nat) (f : Int → Int) : List Int := (List.range n).map fun (k : Nat) => f (k : Int)
theorem accF_set {n : Nat} {f : Int → Int} {k x : Int} (h0 : 0 ≤ k) : (accF n f).set k.toNat x = accF n (fun j => if j = k then x else f j) := by
  apply List.ext_getElem
  · simp [accF]
  · intro i h1 h2
    simp [accF] at h1 ⊢
    rw [List.getElem_set]
    by_cases h : k.toNat = i
    · rw [if_pos h, if_pos (by omega)]
    · rw [if_neg h, if_neg (by omega)]
      simp
theorem accF_at {n : Nat} {f : Int → Int} {k : Int} (h0 : 0 ≤ k) (h1 : k < (n : Int)) : at' ((accF n f).map D.int) k = some (.int (f k)) := by
  have : k.toNat < n := by omega
  rw [at_nat h0 (by simp [accF]; omega)]
  simp [accF, this]
  congr 1; omega
theorem sumIn_snoc {rs : List Rd} {r : Rd} {k : Int} : sumIn (rs ++ [r]) k = sumIn rs k + if k ∈ r.1 then r.2 else 0 := by
  unfold sumIn
  rw [List.filterMap_append, List.sum_append]
  by_cases h : k ∈ r.1 <;> simp [h]
theorem ixN_at {n : Nat} {k : Int} (h0 : 0 ≤ k) (h1 : k < (n : Int)) : ixN n k = some k.toNat := by unfold ixN; simp [h0, h1]
noncomputable def JX (m : Int) (ws : List Wy) (a1 : Sl) (rs : List Rd) (r : List D) (ρ : List Sl) : Prop := ∃ (done rest : List Rd) (s3 s4 s5 : Sl), rs = done ++ rest ∧ r = rest.map RD ∧ ρ = [.val false (netD m ws), a1, .own false ((accF ws.length (sumIn done)).map D.int), s3, s4, s5] ∧ fr s3 = true ∧ fr s4 = true ∧ fr s5 = true ∧ ∀ r ∈ done, 1 ≤ r.2 ∧ islw m ws r.1 = true
noncomputable def JM2 (a0 a1 a3 a4 : Sl) (ws : List Wy) (f : Int → Int) (l : List Int) (x : Int) (r : List D) (ρ : List Sl) : Prop := ∃ (done rest : List Int) (s5 : Sl), l = done ++ rest ∧ r = rest.map D.int ∧ ρ = [a0, a1, .own false ((accF ws.length (fun k => f k + if k ∈ done then x else 0)).map D.int), a3, a4, s5] ∧ fr s5 = true
theorem sumIn_nn {rs : List Rd} {k : Int} (h : ∀ r ∈ rs, 1 ≤ r.2) : 0 ≤ sumIn rs k := by
  induction rs with
  | nil => simp [sumIn]
  | cons r rs ih =>
    have h1 := h r (by simp)
    have h2 := ih fun x hx => h x (List.mem_cons_of_mem _ hx)
    unfold sumIn at h2 ⊢
    rw [List.filterMap_cons]
    by_cases e : k ∈ r.1
    · simp only [if_pos e, List.sum_cons]; omega
    · simp only [if_neg e]; exact h2
noncomputable def lfit (m : Int) (ws : List Wy) (rs : List Rd) : Bool := (rs.all fun r => decide (1 ≤ r.2) && islw m ws r.1) && ((List.range ws.length).all fun (k : Nat) => match ws[k]? with | some v => decide (sumIn rs (k : Int) ≤ v.r) | none => true)
theorem zip_all {ws : List Wy} {f : Nat → Int} (h : ∀ k, 0 ≤ f k) : (((List.range ws.length).map f).zip ws).all (fun p => decide (0 ≤ p.1) && decide (p.1 ≤ p.2.r)) = ((List.range ws.length).all fun (k : Nat) => match ws[k]? with | some v => decide (f k ≤ v.r) | none => true) := by
  rw [Bool.eq_iff_iff, List.all_eq_true, List.all_eq_true]
  constructor
  · intro z k hk
    have hk' : k < ws.length := by simpa using hk
    rw [List.getElem?_eq_getElem hk']
    have hz : k < (((List.range ws.length).map f).zip ws).length := by simp; omega
    have := z _ (List.getElem_mem hz)
    rw [List.getElem_zip] at this
    simp at this ⊢
    exact this.2
  · intro z p hp
    obtain ⟨k, hk, e⟩ := List.getElem_of_mem hp
    rw [List.getElem_zip] at e
    have hk' : k < ws.length := by simp at hk; omega
    have := z k (by simpa using hk')
    rw [List.getElem?_eq_getElem hk'] at this
    subst e
    simp at this ⊢
    exact ⟨h k, this⟩
theorem fit_lfit {m : Int} {ws : List Wy} {rs : List Rd} (hk : NetOk m ws) : fit m ws rs = lfit m ws rs := by
  unfold fit lfit
  have e1 : rs.all (isRd m ws) = rs.all fun r => decide (1 ≤ r.2) && islw m ws r.1 := by
    congr 1; funext r; exact isRd_lw hk
  rw [e1]
  cases h : rs.all fun r => decide (1 ≤ r.2) && islw m ws r.1 with
  | false => rfl
  | true =>
    have h1 : ∀ r ∈ rs, 1 ≤ r.2 := fun r hr => by
      have := List.all_eq_true.mp h r hr
      simp at this; exact this.1
    rw [Bool.true_and, Bool.true_and]
    exact zip_all (f := fun (k : Nat) => sumIn rs (k : Int)) fun k => sumIn_nn h1
noncomputable def FX (a b c d e f : Sl) (ρ : List Sl) : Prop := ∃ s, ρ = [a, b, c, d, e, f, s] ∧ fr s = true
noncomputable def gL (ws : List Wy) (rs : List Rd) : D → D
  | .int k => match ws[k.toNat]? with
    | some v => .bl (decide (sumIn rs k ≤ v.r))
    | none => .bl true
  | d => d
theorem strm_at {ws : List Wy} {rs : List Rd} {k : Int} (h0 : 0 ≤ k) (h1 : k < (ws.length : Int)) : at' ((strm ws rs).map D.int) k = some (.int (sumIn rs k)) := accF_at (f := sumIn rs) h0 h1
theorem lfit_sat {w n : Nat} {b : Bool} {m : Int} {ws : List Wy} {rs : List Rd} {Q : R → List Sl → Prop} (hk : NetOk m ws) (hr : RdsOk rs) (q : Q (.val (.bl (fit m ws rs))) [.val false (netD m ws), .own b (rs.map RD)]) :
    (run Γ w (n + 2) 15 [.val false (netD m ws), .own b (rs.map RD)]).sat Q := by
  rw [fit_lfit hk] at q
  have hlen := hk.len
  refine sat_run (d := f15) rfl rfl (by decide) ?_
  refine sat_cons ?_
  simp [f15]
  refine ⟨by show _ ≤ 16777216; omega, ?_⟩
  refine sat_cons ?_
  simp
  have e0 : List.replicate ws.length (D.int 0) = (accF ws.length (sumIn [])).map D.int := by
    unfold accF sumIn
    apply List.ext_getElem
    · simp
    · intro i h1 h2; simp
  rw [e0]
  refine sat_forT (JX m ws (.lent (rs.map RD)) rs) ?_ ?_ ⟨[], rs, .unb, .unb, .unb, rfl, rfl, rfl, rfl, rfl, rfl, by simp⟩
  · rintro d r _ ⟨done, rest, s3, s4, s5, e1, er, rfl, h3, h4, h5, hd⟩
    cases rest with
    | nil => cases er
    | cons rd rest =>
      cases er
      have hrm : rd ∈ rs := by rw [e1]; simp
      have no : (decide (1 ≤ rd.2) && islw m ws rd.1) = false → lfit m ws rs = false := fun z => by
        unfold lfit
        have : (rs.all fun r => decide (1 ≤ r.2) && islw m ws r.1) = false := by
          rw [List.all_eq_false]; exact ⟨rd, hrm, by simpa using z⟩
        rw [this]; rfl
      simp [h3, h4, RD]
      refine sat_cons ?_
      by_cases hl : rd.2 < 1
      · simp [hl]
        refine sat_cons ?_
        simp
        rw [no (by simp; intro z; omega)] at q
        exact q
      · simp [hl]
        refine lwalk_sat hk (hr.2 rd hrm) ?_
        simp
        cases hw : islw m ws rd.1 with
        | false =>
          simp
          refine sat_cons ?_
          simp
          rw [no (by simp [hw])] at q
          exact q
        | true =>
          have hrd := islw_ok hk hw
          simp
          refine sat_cons ?_
          simp
          refine sat_forT (JM2 (.val false (netD m ws)) (.lent (rs.map RD)) (.val false (.tup (rd.1.map D.int))) (.val false (.int rd.2)) ws (sumIn done) rd.1 rd.2) ?_ ?_ ⟨[], rd.1, s5, rfl, rfl, by simp, h5⟩
          · rintro d r _ ⟨done2, rest2, s5, e2, er2, rfl, h5⟩
            cases rest2 with
            | nil => cases er2
            | cons k rest2 =>
              cases er2
              obtain ⟨k0, k1⟩ := hrd.2 k (by rw [e2]; simp)
              have hkn : k ∉ done2 := by
                have hn := hrd.1
                rw [e2, List.nodup_append] at hn
                exact fun z => hn.2.2 k z k (by simp) rfl
              simp [h5]
              refine sat_cons ?_
              have ea := accF_at (n := ws.length) (f := fun k => sumIn done k + if k ∈ done2 then rd.2 else 0) k0 k1
              have ex := ixN_at (n := (accF ws.length fun k => sumIn done k + if k ∈ done2 then rd.2 else 0).length) k0 (by simp [accF]; exact k1)
              simp [ea, ex, hkn]
              refine ⟨done2 ++ [k], rest2, .val false (.int k), by rw [e2]; simp, rfl, ?_, rfl⟩
              have es := accF_set (n := ws.length) (f := fun k => sumIn done k + if k ∈ done2 then rd.2 else 0) (k := k) (x := sumIn done k + rd.2) k0
              rw [← List.map_set, es]
              congr 6
              funext j
              by_cases hj : j = k
              · simp [hj]
              · simp [hj]
          · rintro _ ⟨done2, rest2, s5, e2, er2, rfl, h5⟩
            cases rest2 with
            | cons _ _ => cases er2
            | nil =>
              rw [List.append_nil] at e2
              subst e2
              simp
              refine ⟨done ++ [rd], rest, .val false (.tup (rd.1.map D.int)), .val false (.int rd.2), s5, by rw [e1]; simp, rfl, ?_, rfl, rfl, h5, fun r hr => ?_⟩
              · congr 6
                funext k
                rw [sumIn_snoc]
              · rcases List.mem_append.mp hr with hr | hr
                · exact hd r hr
                · rw [List.mem_singleton.mp hr]; exact ⟨by omega, hw⟩
  · rintro _ ⟨done, rest, s3, s4, s5, e1, er, rfl, h3, h4, h5, hd⟩
    cases rest with
    | cons _ _ => cases er
    | nil =>
      rw [List.append_nil] at e1
      subst e1
      simp
      refine sat_cons ?_
      have hsl : (accF ws.length (sumIn rs)).length = ws.length := by simp [accF]
      simp [hsl]
      refine ⟨by omega, fun _ => ?_, by show _ ≤ 16777216; omega⟩
      refine sat_compM (FX _ _ _ _ _ _) (gL ws rs) ⟨.unb, rfl, rfl⟩ ?_ ?_
      · rintro d hd' _ ⟨s, rfl, hs⟩
        obtain ⟨k, rfl, k0, k1⟩ := rng_mem0 hd'
        obtain ⟨v, hv, hm, ha⟩ := wy_at k0 k1
        simp [hs, accF_at k0 k1, ha, wd_2, gL, hv]
        exact ⟨_, rfl, rfl⟩
      rintro _ ⟨s, rfl, hs⟩
      have e : ((List.range ws.length).map fun (k : Nat) => D.int (k : Int)).map (gL ws rs) = ((List.range ws.length).map fun (k : Nat) => match ws[k]? with | some v => decide (sumIn rs (k : Int) ≤ v.r) | none => true).map D.bl := by
        rw [List.map_map, List.map_map]
        apply List.map_congr_left
        intro k _
        simp only [Function.comp, gL, Int.toNat_natCast]
        cases ws[k]? <;> rfl
      rw [e, mapM_bls]
      unfold lfit at q
      have h1 : (rs.all fun r => decide (1 ≤ r.2) && islw m ws r.1) = true := by
        rw [List.all_eq_true]; intro r hr
        have := hd r hr
        simp [this.1, this.2]
      rw [h1, Bool.true_and] at q
      simp
      have q2 := q
      rw [show ((List.range ws.length).all fun (k : Nat) => match ws[k]? with | some v => decide (sumIn rs (k : Int) ≤ v.r) | none => true) = (((List.range ws.length).map fun (k : Nat) => match ws[k]? with | some v => decide (sumIn rs (k : Int) ≤ v.r) | none => true).all id) by rw [List.all_map]; rfl] at q2
      simpa using q2
end T
end
section
set_option Elab.async false
set_option linter.all false
set_option maxRecDepth 100000
namespace T
open HH
theorem tot_nn {m : Int} {ws : List Wy} {l : List Int} (hk : NetOk m ws) : 0 ≤ tot ws l := by
  have hh0 : ∀ k, 0 ≤ hh ws k := fun k => by
    unfold hh
    cases e : ws[k.toNat]? with
    | none => exact Int.le_refl _
    | some v => have := (hk.ok v (List.mem_of_getElem? e)).h0; simp only; omega
  induction l with
  | nil => exact Int.le_refl _
  | cons a l ih =>
    have := hh0 a
    simp only [tot, List.map_cons, List.sum_cons] at ih ⊢
    omega
noncomputable def tms (ws : List Wy) (last : Int) (l : List Int) : Int := if 0 < last - tot ws l + 1 then last - tot ws l + 1 else 0
noncomputable def brg (ws : List Wy) (last : Int) (rs : List Rd) : Int := (rs.map fun r => r.2 * tms ws last r.1).sum
theorem tms_b {m last : Int} {ws : List Wy} {l : List Int} (hk : NetOk m ws) (hl : last ≤ 1000000000000000000) : -18446744073709551616 < tms ws last l ∧ tms ws last l < 18446744073709551616 := by
  have := tot_nn (l := l) hk
  unfold tms; split <;> omega
theorem times_sat {w n : Nat} {a b : Int} {Q : R → List Sl → Prop} (q : Q (.val (.int (if 0 < a - b + 1 then a - b + 1 else 0))) [.val false (.int a), .val false (.int b)]) : (run Γ w (n + 1) 6 [.val false (.int a), .val false (.int b)]).sat Q := by
  refine sat_run (d := f6) rfl rfl (by decide) ?_
  refine sat_cons ?_
  simp [f6]
  exact q
theorem isRd_go {m : Int} {ws : List Wy} {r : Rd} (h : isRd m ws r = true) : ∃ qs, goW ws r.1 [] = some qs := by
  unfold isRd at h
  cases e : goW ws r.1 [] with
  | none => rw [e] at h; cases h
  | some qs => exact ⟨qs, rfl⟩
noncomputable def fdD (m : Int) (ws : List Wy) (last : Int) (rs : List Rd) : D := if fit m ws rs = true then .int (brg ws last rs) else .non
noncomputable def gB (ws : List Wy) (last : Int) : D → D
  | .tup [.tup ds, .int l] => .int (l * tms ws last (ds.filterMap asI))
  | d => d
theorem gB_d {ws : List Wy} {last : Int} {r : Rd} : gB ws last (RD r) = .int (r.2 * tms ws last r.1) := by
  show D.int (r.2 * tms ws last ((r.1.map D.int).filterMap asI)) = _
  rw [asI_ints]
theorem bring_sat {w n : Nat} {b : Bool} {m last : Int} {ws : List Wy} {rs : List Rd} {Q : R → List Sl → Prop} (hk : NetOk m ws) (hl : last ≤ 1000000000000000000) (hr : RdsOk rs) (q : Q (.val (fdD m ws last rs)) [.val false (netD m ws), .val false (.int last), .own b (rs.map RD)]) :
    (run Γ w (n + 4) 7 [.val false (netD m ws), .val false (.int last), .own b (rs.map RD)]).sat Q := by
  have hrl := hr.1
  refine sat_run (d := f7) rfl rfl (by decide) ?_
  refine sat_cons ?_
  simp [f7]
  refine fit_sat hk hr ?_
  simp
  unfold fdD at q
  cases hf : fit m ws rs with
  | false =>
    rw [hf] at q
    simp
    refine sat_cons ?_
    simpa using q
  | true =>
    rw [hf] at q
    have hgo : ∀ r ∈ rs, ∃ qs, goW ws r.1 [] = some qs := fun r hrm => by
      unfold fit at hf
      rw [Bool.and_eq_true] at hf
      exact isRd_go (List.all_eq_true.mp hf.1 r hrm)
    simp
    refine sat_cons ?_
    simp
    refine ⟨fun _ => ?_, by show _ ≤ 16777216; omega⟩
    refine sat_compM (FS3 _ _ _) (gB ws last) ⟨.unb, .unb, rfl, rfl, rfl⟩ ?_ ?_
    · rintro d hd _ ⟨s, t, rfl, hs, ht⟩
      obtain ⟨r, hrm, rfl⟩ := List.mem_map.mp hd
      obtain ⟨qs, hg⟩ := hgo r hrm
      have tb := tms_b (l := r.1) hk hl
      simp [hs, ht, RD]
      refine length_ok hk (hr.2 r hrm) hg ?_
      simp
      refine times_sat ?_
      rw [show (if 0 < last - tot ws r.1 + 1 then last - tot ws r.1 + 1 else 0) = tms ws last r.1 from rfl]
      simp [tb]
      rw [show D.tup [.tup (r.1.map D.int), .int r.2] = RD r from rfl, gB_d]
      exact ⟨rfl, _, _, rfl, rfl, rfl⟩
    rintro _ ⟨s, t, rfl, hs, ht⟩
    have e : (rs.map RD).map (gB ws last) = (rs.map fun r => r.2 * tms ws last r.1).map D.int := by simp [gB_d]
    rw [e, mapM_int]
    simp
    simpa [brg] using q
theorem llen_sat {w n : Nat} {m : Int} {ws : List Wy} {l : List Int} {Q : R → List Sl → Prop} (hl : l.length ≤ 100) (h : ∀ k ∈ l, 0 ≤ k ∧ k < (ws.length : Int)) (q : Q (.val (.int (tot ws l))) (A2 m ws l)) : (run Γ w (n + 1) 14 (A2 m ws l)).sat Q := by
  refine sat_run (d := f14) rfl rfl (by decide) ?_
  refine sat_cons ?_
  have hlim : l.length ≤ lim := by show _ ≤ 16777216; omega
  simp [f14, hlim]
  refine sat_compM (F2c _ _) (gH ws) ⟨.unb, rfl, rfl⟩ ?_ ?_
  · rintro d hd _ ⟨s, rfl, hs⟩
    obtain ⟨k, hk', rfl⟩ := List.mem_map.mp hd
    obtain ⟨k0, k1⟩ := h k hk'
    obtain ⟨v, ha, hv⟩ := hh_at k0 k1
    simp [hs, ha, wd_3, gH, hv]
    exact ⟨_, rfl, rfl⟩
  rintro _ ⟨s, rfl, hs⟩
  have e1 : (l.map D.int).map (gH ws) = (l.map (hh ws)).map D.int := by simp [gH]
  rw [e1, mapM_int]
  simp
  exact q
theorem rd_gd {rs : List Rd} (h : RdsOk rs) : gd 3 (.lst (rs.map RD)) = true := by
  rw [gd, Bool.and_eq_true, decide_eq_true_eq]
  refine ⟨by simp; exact Nat.le_trans h.1 (by decide), List.all_eq_true.mpr fun d hd => ?_⟩
  obtain ⟨r, hr, rfl⟩ := List.mem_map.mp hd
  have h1 := h.2 r hr
  have h2 : r.1.length ≤ 1000 := by omega
  simp [RD, gd, h2]
theorem brg_snoc {ws : List Wy} {last : Int} {rs : List Rd} {r : Rd} : brg ws last (rs ++ [r]) = brg ws last rs + r.2 * tms ws last r.1 := by simp [brg]
theorem number_sat {w n : Nat} {i : Int} {Q : R → List Sl → Prop} (q : Q (.val (.bl true)) [.val false (.int i), .val false (.int i)]) : (run Γ w (n + 1) 19 [.val false (.int i), .val false (.int i)]).sat Q := by
  refine sat_run (d := f19) rfl rfl (by decide) ?_
  refine sat_cons ?_
  simp [f19]
  exact q
noncomputable def JTd (a0 a1 a2 a6 a7 : Sl) (ws : List Wy) (last : Int) (rs : List Rd) (r : List D) (ρ : List Sl) : Prop := ∃ (done rest : List Rd) (s4 s5 : Sl), rs = done ++ rest ∧ r = rest.map RD ∧ ρ = [a0, a1, a2, .val false (.int (brg ws last done)), s4, s5, a6, a7] ∧ fr s4 = true ∧ fr s5 = true
theorem ne_non : cm .ne .non .non = some false := rfl
theorem told_sat {w n : Nat} {b : Bool} {m last : Int} {ws : List Wy} {rs : List Rd} {Q : R → List Sl → Prop} (hk : NetOk m ws) (hl : last ≤ 1000000000000000000) (hr : RdsOk rs) (q : Q (.val (.bl true)) [.val false (netD m ws), .val false (.int last), .own b (rs.map RD)]) :
    (run Γ w (n + 5) 21 [.val false (netD m ws), .val false (.int last), .own b (rs.map RD)]).sat Q := by
  have hne := ne_self (k := 3) (by decide) (rd_gd hr)
  refine sat_run (d := f21) rfl rfl (by decide) ?_
  refine sat_cons ?_
  simp [f21]
  refine sat_seq (fun ρ => ∃ s4 s5, ρ = [.val false (netD m ws), .val false (.int last), .own b (rs.map RD), .val false (fdD m ws last rs), s4, s5, .unb, .unb] ∧ fr s4 = true ∧ fr s5 = true) ?_ ?_
  · simp
    refine lfit_sat hk hr ?_
    simp
    unfold fdD
    cases hf : fit m ws rs with
    | false =>
      simp
      exact ⟨_, _, ⟨rfl, rfl⟩, rfl, rfl⟩
    | true =>
      have hpl : ∀ r ∈ rs, ∀ k ∈ r.1, 0 ≤ k ∧ k < (ws.length : Int) := fun r hrm => by
        rw [fit_lfit hk] at hf
        unfold lfit at hf
        rw [Bool.and_eq_true] at hf
        have := List.all_eq_true.mp hf.1 r hrm
        rw [Bool.and_eq_true] at this
        exact (islw_ok hk this.2).2
      simp
      refine sat_cons ?_
      simp
      refine sat_cons ?_
      simp
      refine sat_forT (JTd (.val false (netD m ws)) (.val false (.int last)) (.lent (rs.map RD)) .unb .unb ws last rs) ?_ ?_ ⟨[], rs, .unb, .unb, rfl, rfl, rfl, rfl, rfl⟩
      · rintro d r _ ⟨done, rest, s4, s5, e1, er, rfl, h4, h5⟩
        cases rest with
        | nil => cases er
        | cons rd rest =>
          cases er
          have hrm : rd ∈ rs := by rw [e1]; simp
          have tb := tms_b (l := rd.1) hk hl
          simp [h4, h5, RD]
          refine sat_cons ?_
          simp
          refine llen_sat (hr.2 rd hrm) (hpl rd hrm) ?_
          simp
          rw [show (if 0 < last - tot ws rd.1 + 1 then last - tot ws rd.1 + 1 else 0) = tms ws last rd.1 from rfl]
          simp [tb]
          refine ⟨done ++ [rd], rest, .val false (.tup (rd.1.map D.int)), .val false (.int rd.2), by rw [e1]; simp, rfl, by rw [brg_snoc], rfl, rfl⟩
      · rintro _ ⟨done, rest, s4, s5, e1, er, rfl, h4, h5⟩
        cases rest with
        | cons _ _ => cases er
        | nil =>
          rw [List.append_nil] at e1
          subst e1
          simp
          exact ⟨_, _, ⟨rfl, rfl⟩, h4, h5⟩
  rintro _ ⟨s4, s5, rfl, h4, h5⟩
  refine sat_cons ?_
  simp
  refine sat_cons ?_
  simp
  refine bring_sat hk hl hr ?_
  simp
  refine sat_cons ?_
  simp [hne]
  refine bring_sat hk hl hr ?_
  simp
  unfold fdD
  cases hf : fit m ws rs with
  | false =>
    simp [ne_non]
    refine sat_cons ?_
    simp
    refine sat_cons ?_
    simp
    exact q
  | true =>
    simp
    refine sat_cons ?_
    simp
    refine sat_cons ?_
    simp
    refine number_sat ?_
    simp
    exact q
end T
end
section
set_option Elab.async false
set_option linter.all false
set_option maxRecDepth 100000
namespace T
open HH
theorem ints_of {xs : List D} (h : ∀ x ∈ xs, ∃ i, x = D.int i) : ∃ l : List Int, xs = l.map D.int := by
  induction xs with
  | nil => exact ⟨[], rfl⟩
  | cons x xs ih =>
    obtain ⟨i, rfl⟩ := h x (by simp)
    obtain ⟨l, rfl⟩ := ih fun y hy => h y (List.mem_cons_of_mem _ hy)
    exact ⟨i :: l, rfl⟩
noncomputable def Nos (ws : List Wy) (l : List Int) : Prop := ∀ k ∈ l, 0 ≤ k ∧ k < (ws.length : Int)
theorem nos_of {ws : List Wy} {xs : List D} (h : ∀ x ∈ xs, ∃ i : Int, x = D.int i ∧ 0 ≤ i ∧ i < (ws.length : Int)) : ∃ l : List Int, xs = l.map D.int ∧ Nos ws l := by
  obtain ⟨l, rfl⟩ := ints_of fun x hx => by obtain ⟨i, e, _⟩ := h x hx; exact ⟨i, e⟩
  refine ⟨l, rfl, fun k hk => ?_⟩
  obtain ⟨i, e, h1⟩ := h (.int k) (List.mem_map.mpr ⟨k, hk, rfl⟩)
  cases e; exact h1
theorem ne_nilI {ps : List Int} : cm .ne (.lst (ps.map D.int)) (.lst []) = some (!(ps == [])) := ne_ints (T := [])
noncomputable def ROk (r : Rd) : Prop := r.1.length ≤ 20
theorem cut_mem {α : Type} {l : List α} {a b : Option Int} {x : α} (h : x ∈ cut l a b) : x ∈ l := List.mem_of_mem_drop (List.mem_of_mem_take h)
theorem cutR {rs : List Rd} {a b : Option Int} : cut (rs.map RD) a b = (cut rs a b).map RD := by
  unfold cut; simp
theorem setR {rs : List Rd} {k : Nat} {r : Rd} (hr : ∀ r ∈ rs, ROk r) (h : ROk r) : ∀ r' ∈ rs.set k r, ROk r' := fun r' hr' => by
  rcases List.mem_or_eq_of_mem_set hr' with z | rfl
  · exact hr r' z
  · exact h
theorem eq_nilR {rs : List Rd} (h : RdsOk rs) : cm .eq (.lst (rs.map RD)) (.lst []) = some rs.isEmpty := by
  show cmEq _ _ = _
  unfold cmEq
  rw [gd_dle 3 8 _ (by decide) (rd_gd h)]
  cases rs <;> simp [peq, peqs, dle]
theorem ixc {us : List Rd} {a : Int} (h0 : 0 ≤ a) (h : a < (us.length : Int)) : ixN us.length a = some a.toNat := ixN_at h0 h
noncomputable def JRow (y : Int) (m : Int) (ws : List Wy) (k : Nat) (ρ : List Sl) : Prop := ∃ (x z h : Int) (l : List Int) (s4 s5 s6 : Sl), ρ = [.own true [.int x, .int y, .int z], .val false (netD m ws), .own false (l.map D.int), .val false (.int h), s4, s5, s6] ∧ fr s4 = true ∧ fr s5 = true ∧ fr s6 = true ∧ Nos ws l ∧ l.length ≤ k
noncomputable def FRow (a0 a1 a2 a3 a4 a5 a6 : Sl) (ρ : List Sl) : Prop := ∃ s, ρ = [a0, a1, a2, a3, a4, a5, a6, s] ∧ fr s = true
theorem row_sat {w n : Nat} {x y z m : Int} {ws : List Wy} {Q : R → List Sl → Prop} (hk : NetOk m ws) (q : ∀ (x z : Int) (l : List Int), Nos ws l → l.length ≤ 6 → Q (.val (.tup (l.map D.int))) [.own true [.int x, .int y, .int z], .val false (netD m ws)]) :
    (run Γ w (n + 2) 16 [.own true [.int x, .int y, .int z], .val false (netD m ws)]).sat Q := by
  have hlen := hk.len
  refine sat_run (d := f16) rfl rfl (by decide) ?_
  refine sat_cons ?_
  simp [f16]
  refine sat_cons ?_
  simp
  refine sat_cons ?_
  simp
  refine sat_forR (N := 6) (g := fun (k : Nat) => D.int (k : Int)) (JRow y m ws) ?_ ?_ ⟨x, z, 0, [], .unb, .unb, .unb, rfl, rfl, rfl, rfl, by simp [Nos], by simp⟩
  · rintro i _ hi ⟨x, z, h, l, s4, s5, s6, rfl, h4, h5, h6, hl, hll⟩
    simp [h4]
    refine sat_cons ?_
    simp
    refine ⟨by omega, fun _ => ?_, by show _ ≤ 16777216; omega⟩
    refine sat_compA (FRow _ _ _ _ _ _ _) (fun d => ∃ i : Int, d = .int i ∧ 0 ≤ i ∧ i < (ws.length : Int)) ⟨.unb, rfl, rfl⟩ ?_ ?_
    · rintro d hd _ ⟨s, rfl, hs⟩
      obtain ⟨k, rfl, k0, k1⟩ := rng_mem0 hd
      obtain ⟨v, hv, hm, ha⟩ := wy_at k0 k1
      by_cases c1 : v.s = h
      · simp [hs, ha, wd_0, c1]
        exact ⟨⟨k0, k1⟩, _, rfl, rfl⟩
      · simp [hs, ha, wd_0, c1]
        exact ⟨_, rfl, rfl⟩
    rintro xs _ ⟨s, rfl, hs⟩ hxl hx
    obtain ⟨os, rfl, hos⟩ := nos_of hx
    have hol : os.length ≤ 12 := by simp at hxl; omega
    simp [h5]
    refine sat_cons ?_
    cases hoe : os == [] with
    | true =>
      have hoe' : os = [] := eq_of_beq hoe
      subst hoe'
      have := ne_nilI (ps := [])
      simp at this
      simp [this]
      exact ⟨x, z, h, l, _, _, _, rfl, rfl, rfl, h6, hl, by omega⟩
    | false =>
      have ho1 : 0 < os.length := by cases os with | nil => cases hoe | cons _ _ => simp
      by_cases hpm : h < m - 1
      · simp [ne_nilI, hoe, hpm]
        refine sat_cons ?_
        simp
        refine next_sat (by omega) (by show _ < (1606938044258990275541962092341162602522202993782792835301376 : Int); omega) fun d x z hd1 hd2 => ?_
        have hdn : d.toNat < os.length := by omega
        have ha : at' (os.map D.int) d = some (.int os[d.toNat]) := by rw [at_nat hd1 (by simpa using hd2)]; simp [hdn]
        obtain ⟨k, hke⟩ : ∃ k, os[d.toNat] = k := ⟨_, rfl⟩
        obtain ⟨k0, k1⟩ : 0 ≤ k ∧ k < (ws.length : Int) := hos k (by rw [← hke]; exact List.getElem_mem hdn)
        rw [hke] at ha
        obtain ⟨v, hv, hm, hav⟩ := wy_at k0 k1
        have l1 : l.length < lim := by show _ < 16777216; omega
        simp [ha, h6]
        refine sat_cons ?_
        simp [l1]
        refine sat_cons ?_
        simp [hav, wd_1]
        refine ⟨x, z, v.t, l ++ [k], .val false (.int i), .own false (os.map D.int), .val false (.int k), by simp, rfl, rfl, rfl, fun j hj => ?_, by simp; omega⟩
        rcases List.mem_append.mp hj with hj | hj
        · exact hl j hj
        · rw [List.mem_singleton.mp hj]; exact ⟨k0, k1⟩
      · simp [ne_nilI, hoe, hpm]
        exact ⟨x, z, h, l, _, _, _, rfl, rfl, rfl, h6, hl, by omega⟩
  · rintro _ ⟨x, z, h, l, s4, s5, s6, rfl, h4, h5, h6, hl, hll⟩
    refine sat_cons ?_
    simp
    exact q x z l hl hll
noncomputable def RsOk (k : Nat) (rs : List Rd) : Prop := rs.length ≤ k ∧ ∀ r ∈ rs, r.1.length ≤ 6
noncomputable def JRs (y : Int) (m : Int) (ws : List Wy) (k : Nat) (ρ : List Sl) : Prop := ∃ (x z : Int) (rs : List Rd) (s3 s4 s5 : Sl), ρ = [.own true [.int x, .int y, .int z], .val false (netD m ws), .own false (rs.map RD), s3, s4, s5] ∧ fr s3 = true ∧ fr s4 = true ∧ fr s5 = true ∧ RsOk (2 * k) rs
noncomputable def JLd (a0 a1 a3 : Sl) (l : List Int) (k : Nat) (r : List D) (ρ : List Sl) : Prop := ∃ (rs : List Rd) (s5 : Sl), ρ = [a0, a1, .own false (rs.map RD), a3, .val false (.tup (l.map D.int)), s5] ∧ fr s5 = true ∧ RsOk k rs ∧ rs.length + r.length ≤ k ∧ ∀ d ∈ r, ∃ i, d = D.int i
theorem rounds_sat {w n : Nat} {x y z m : Int} {ws : List Wy} {Q : R → List Sl → Prop} (hk : NetOk m ws) (q : ∀ (x z : Int) (rs : List Rd), RsOk 10 rs → Q (.own (rs.map RD)) [.own true [.int x, .int y, .int z], .val false (netD m ws)]) :
    (run Γ w (n + 3) 17 [.own true [.int x, .int y, .int z], .val false (netD m ws)]).sat Q := by
  refine sat_run (d := f17) rfl rfl (by decide) ?_
  refine sat_cons ?_
  simp [f17]
  refine sat_cons ?_
  simp
  refine next_sat (by decide) (by decide) fun c x z hc1 hc2 => ?_
  simp
  obtain ⟨N, hN⟩ : ∃ N : Nat, (N : Int) = c := ⟨c.toNat, by omega⟩
  rw [← hN, Int.toNat_natCast]
  have hN5 : N ≤ 5 := by omega
  refine ⟨by omega, ?_⟩
  refine sat_forR (g := fun (k : Nat) => D.int (k : Int)) (JRs y m ws) ?_ ?_ ⟨x, z, [], .unb, .unb, .unb, rfl, rfl, rfl, rfl, by simp [RsOk]⟩
  · rintro i _ hi ⟨x, z, rs, s3, s4, s5, rfl, h3, h4, h5, hr⟩
    have hrl := hr.1
    simp [h3]
    refine sat_cons ?_
    simp
    refine row_sat hk fun x z l hl hll => ?_
    simp [h4]
    refine sat_cons ?_
    simp
    refine next_sat (by decide) (by decide) fun d1 x z hd1 hd2 => ?_
    simp
    refine sat_forT (JLd (.own true [.int x, .int y, .int z]) (.val false (netD m ws)) (.val false (.int i)) l (2 * (i + 1))) ?_ ?_ ⟨rs, s5, rfl, h5, ⟨by omega, hr.2⟩, by simp; omega, fun d hd => ?_⟩
    · rintro d r _ ⟨us, s5, rfl, h5, hu, hul, hd⟩
      obtain ⟨ld, rfl⟩ := hd d (by simp)
      simp only [List.length_cons] at hul
      have l0 : us.length + 1 ≤ lim := by show _ ≤ 16777216; omega
      have l1 : us.length < lim := by show _ < 16777216; omega
      simp [h5]
      refine sat_cons ?_
      simp [l0]
      have eapp : us.map RD ++ [D.tup [.tup (l.map D.int), .int ld]] = (us ++ [(l, ld)]).map RD := by simp [RD]
      have hu2 : ∀ r ∈ us ++ [(l, ld)], r.1.length ≤ 6 := fun r h => by
        rcases List.mem_append.mp h with h | h
        · exact hu.2 r h
        · rw [List.mem_singleton.mp h]; exact hll
      rw [eapp]
      refine lfit_sat hk ⟨by simp; omega, fun r h => Nat.le_trans (hu2 r h) (by decide)⟩ ?_
      simp
      constructor
      · intro _
        refine sat_cons ?_
        simp [l1]
        exact ⟨us ++ [(l, ld)], .val false (.int ld), by simp [RD], rfl, ⟨by simp; omega, hu2⟩, by simp; omega, fun d h => hd d (List.mem_cons_of_mem _ h)⟩
      · intro _
        exact ⟨us, _, rfl, rfl, hu, by omega, fun d h => hd d (List.mem_cons_of_mem _ h)⟩
    · rintro _ ⟨us, s5, rfl, h5, hu, hul, hd⟩
      simp
      exact ⟨x, z, us, _, _, s5, rfl, rfl, rfl, h5, hu⟩
    · simp at hd
      rcases hd with rfl | rfl <;> exact ⟨_, rfl⟩
  · rintro _ ⟨x, z, rs, s3, s4, s5, rfl, h3, h4, h5, hr⟩
    refine sat_cons ?_
    simp
    exact q x z rs ⟨Nat.le_trans hr.1 (by omega), hr.2⟩
end T
end
section
set_option Elab.async false
set_option linter.all false
set_option maxRecDepth 100000
namespace T
open HH
noncomputable def SpQ (y : Int) (m : Int) (ws : List Wy) (a2 : Sl) (at0 kd : Int) (ρ : List Sl) : Prop := ∃ (x z : Int) (us : List Rd) (l : List Int) (ld : Int) (s8 s9 : Sl), ρ = [.own true [.int x, .int y, .int z], .val false (netD m ws), a2, .own false (us.map RD), .val false (.int at0), .val false (.tup (l.map D.int)), .val false (.int ld), .val false (.int kd), s8, s9] ∧ us.length ≤ 11 ∧ at0 < (us.length : Int) ∧ l.length ≤ 20 ∧ ∀ r ∈ us, ROk r
theorem max_ix {l : List Int} : ∃ c : Int, at' (l.map D.int ++ [D.int 0]) (if 0 < (l.length : Int) - 1 then (l.length : Int) - 1 else 0) = some (.int c) := by
  have e : l.map D.int ++ [D.int 0] = (l ++ [0]).map D.int := by simp
  rw [e]
  have h0 : 0 ≤ (if 0 < (l.length : Int) - 1 then (l.length : Int) - 1 else 0) := by split <;> omega
  have h1 : (if 0 < (l.length : Int) - 1 then (l.length : Int) - 1 else 0) < ((l ++ [0]).length : Int) := by simp; split <;> omega
  generalize (if 0 < (l.length : Int) - 1 then (l.length : Int) - 1 else 0) = i at h0 h1
  have hi : i.toNat < (l ++ [0]).length := by omega
  exact ⟨(l ++ [0])[i.toNat], by rw [at_nat h0 (by simpa using h1), List.getElem?_map, List.getElem?_eq_getElem hi]; rfl⟩
theorem otherwise_sat {w n : Nat} {b : Bool} {x y z m : Int} {ws : List Wy} {rs : List Rd} {Q : R → List Sl → Prop} (hk : NetOk m ws) (hr : RsOk 10 rs)
    (q : ∀ (x z : Int) (us : List Rd), RdsOk us → Q (.own (us.map RD)) [.own true [.int x, .int y, .int z], .val false (netD m ws), .own b (rs.map RD)]) :
    (run Γ w (n + 3) 20 [.own true [.int x, .int y, .int z], .val false (netD m ws), .own b (rs.map RD)]).sat Q := by
  have hlen := hk.len
  have hrl := hr.1
  have hr0 : RdsOk rs := ⟨by omega, fun r h => by have := hr.2 r h; omega⟩
  refine sat_run (d := f20) rfl rfl (by decide) ?_
  refine sat_cons ?_
  simp [f20]
  refine sat_seq (fun ρ => ∃ (x z : Int) (us : List Rd), ρ = [.own true [.int x, .int y, .int z], .val false (netD m ws), .own b (rs.map RD), .own false (us.map RD), .unb, .unb, .unb, .unb, .unb, .unb] ∧ us.length ≤ 10 ∧ 0 < us.length ∧ ∀ r ∈ us, r.1.length ≤ 6) ?_ ?_
  · simp [eq_nilR hr0]
    constructor
    · intro he
      refine sat_cons ?_
      simp
      refine row_sat hk fun x z l hl hll => ?_
      simp
      refine next_sat (by decide) (by decide) fun d x z hd1 hd2 => ?_
      simp
      refine ⟨x, z, [(l, 1 + d)], ?_⟩
      simp [RD, hll]
    · intro hne
      have hl0 : 0 < rs.length := by cases rs with | nil => exact absurd rfl hne | cons _ _ => simp
      exact ⟨x, z, rs, by simp, hrl, hl0, fun a b h => hr.2 (a, b) h⟩
  rintro _ ⟨x, z, us, rfl, u1, u2, u3⟩
  refine sat_cons ?_
  simp
  refine next_sat (by omega) (by show _ < (1606938044258990275541962092341162602522202993782792835301376 : Int); omega) fun a x z ha1 ha2 => ?_
  have han : a.toNat < us.length := by omega
  have hat : at' (us.map RD) a = some (RD us[a.toNat]) := by rw [at_nat ha1 (by simpa using ha2)]; simp [han]
  obtain ⟨⟨l, ld⟩, hrd⟩ : ∃ r, us[a.toNat] = r := ⟨_, rfl⟩
  have hll : l.length ≤ 6 := u3 (l, ld) (by rw [← hrd]; exact List.getElem_mem han)
  rw [hrd] at hat
  have u3' : ∀ r ∈ us, ROk r := fun r h => by have := u3 r h; show _ ≤ 20; omega
  simp
  refine sat_cons ?_
  simp [hat, RD]
  refine sat_cons ?_
  simp
  refine next_sat (by decide) (by decide) fun kd x z ht1 ht2 => ?_
  simp
  refine sat_seq (SpQ y m ws (.own b (rs.map RD)) a kd) ?_ ?_
  · by_cases t0 : kd < 2
    · simp [t0]
      refine sat_cons ?_
      simp
      refine next_sat (by decide) (by decide) fun d x z hd1 hd2 => ?_
      obtain ⟨c, hc⟩ : ∃ c : Int, at' [D.int 0, D.int (-1), D.int (ld + 1), D.int (ld + 1000000000), D.int (ld * 2), D.int 1] d = some (.int c) := by
        have : d = 0 ∨ d = 1 ∨ d = 2 ∨ d = 3 ∨ d = 4 ∨ d = 5 := by omega
        rcases this with rfl | rfl | rfl | rfl | rfl | rfl
        · exact ⟨_, at_0⟩
        · exact ⟨_, at_1⟩
        · exact ⟨_, at_2⟩
        · exact ⟨_, at_3⟩
        · exact ⟨_, at_4⟩
        · exact ⟨_, at_5⟩
      simp [hc]
      exact ⟨x, z, us, l, c, _, _, rfl, by omega, ha2, by omega, u3'⟩
    · simp [t0]
      by_cases t2 : kd = 2
      · simp [t2]
        refine sat_cons ?_
        simp
        refine sat_cons ?_
        have c1 : (cut l (some 1) none).length ≤ 6 := Nat.le_trans cut_len hll
        simp [sl3, part, isNC, cut_int]
        exact ⟨x, z, us, cut l (some 1) none, ld, _, _, rfl, by omega, ha2, by omega, u3'⟩
      · refine sat_cons ?_
        simp [t2]
        refine sat_cons ?_
        by_cases t3 : kd = 3
        · have c1 : (cut l (some (-1)) none).length ≤ 6 := Nat.le_trans cut_len hll
          have l1 : l.length + (cut l (some (-1)) none).length ≤ lim := by show _ ≤ 16777216; omega
          simp [t3]
          refine sat_cons ?_
          simp [sl3, part, isNC, cut_int, l1]
          exact ⟨x, z, us, l ++ cut l (some (-1)) none, ld, .unb, .unb, by simp, by omega, ha2, by simp; omega, u3'⟩
        · simp [t3]
          refine sat_cons ?_
          by_cases t4 : kd = 4
          · have l1 : l.length + 1 ≤ lim := by show _ ≤ 16777216; omega
            obtain ⟨c, hc⟩ := max_ix (l := l)
            simp [t4]
            refine sat_cons ?_
            simp [l1]
            simp at hc
            simp [hc]
            refine sat_cons ?_
            simp
            refine next_sat (by decide) (by decide) fun d x z hd1 hd2 => ?_
            simp
            refine sat_cons ?_
            simp [sl3, part, isNC, cut_int]
            refine next_sat (by decide) (by decide) fun d2 x z hd3 hd4 => ?_
            obtain ⟨e, he⟩ : ∃ e : Int, at' [D.int (c - (ws.length : Int)), D.int (-1), D.int (ws.length : Int), D.int d] d2 = some (.int e) := by
              have : d2 = 0 ∨ d2 = 1 ∨ d2 = 2 ∨ d2 = 3 := by omega
              rcases this with rfl | rfl | rfl | rfl
              · exact ⟨_, at_0⟩
              · exact ⟨_, at_1⟩
              · exact ⟨_, at_2⟩
              · exact ⟨_, at_3⟩
            have c1 : (cut l none (some (-1))).length ≤ 6 := Nat.le_trans cut_len hll
            have l2 : (cut l none (some (-1))).length + 1 ≤ lim := by show _ ≤ 16777216; omega
            simp [he, l2]
            exact ⟨x, z, us, cut l none (some (-1)) ++ [e], ld, .val false (.int c), .own false [.int (c - (ws.length : Int)), .int (-1), .int (ws.length : Int), .int d], by simp, by omega, ha2, by simp; omega, u3'⟩
          · have l1 : us.length < lim := by show _ < 16777216; omega
            simp [t4]
            refine sat_cons ?_
            simp [hat, l1]
            refine ⟨x, z, us ++ [(l, ld)], l, ld, .unb, .unb, by simp [RD], by simp; omega, by simp; omega, by omega, fun r h => ?_⟩
            rcases List.mem_append.mp h with h | h
            · exact u3' r h
            · rw [List.mem_singleton.mp h]; show l.length ≤ 20; omega
  rintro _ ⟨x, z, vs, l', ld', s8, s9, rfl, v1, v2, v3, v4⟩
  refine sat_cons ?_
  simp [ixc ha1 v2]
  refine sat_cons ?_
  simp
  have e : (vs.map RD).set a.toNat (.tup [.tup (l'.map D.int), .int ld']) = (vs.set a.toNat (l', ld')).map RD := by rw [List.map_set]; rfl
  rw [e]
  exact q x z _ ⟨by simp; omega, fun r h => by have := setR v4 (r := (l', ld')) v3 r h; unfold ROk at this; omega⟩
noncomputable def JL (v : Sl) (r : List D) (ρ : List Sl) : Prop := ∃ s1 s2 s3 s4 s5 s6, ρ = [v, s1, s2, s3, s4, s5, s6] ∧ (fr s1 = true ∧ fr s2 = true ∧ fr s3 = true ∧ fr s4 = true ∧ fr s5 = true ∧ fr s6 = true) ∧ ∀ d ∈ r, ∃ i, d = D.int i
noncomputable def JS3 (a0 a1 a3 a4 : Sl) (y : Int) (r : List D) (ρ : List Sl) : Prop := ∃ x z s5 s6, ρ = [a0, a1, .own false [.int x, .int y, .int z], a3, a4, s5, s6] ∧ fr s5 = true ∧ fr s6 = true ∧ ∀ d ∈ r, ∃ i : Int, d = D.int i ∧ 0 < i ∧ i ≤ 1000000000000000000
theorem law_run (ns : List Int) (hn : ns.length ≤ 63) : ∃ as, run Γ 1000 40 22 [.val false (.lst (ns.map D.int))] = .ok (.val (.bl true)) as := by
  suffices h : ∀ w, (run Γ w 40 22 [.val false (.lst (ns.map D.int))]).sat fun r _ => r = .val (.bl true) by
    obtain ⟨a, ρ, e, rfl⟩ := sat_iff.mp (h 1000)
    exact ⟨ρ, e⟩
  intro w
  refine sat_run (d := f22) rfl rfl (by decide) ?_
  refine sat_cons ?_
  simp [f22]
  refine cells_satI (m := 12) (by rfl) (by decide) (by decide) hn fun cs hcl => ?_
  have hl : 1 + cs.length ≤ lim := by show _ ≤ 16777216; omega
  simp [hl]
  refine sat_forT (JL (.val false (.lst (ns.map D.int)))) ?_ ?_ ?_
  · rintro d r _ ⟨s1, s2, s3, s4, s5, s6, rfl, ⟨h1, h2, h3, h4, h5, h6⟩, hd⟩
    obtain ⟨x, rfl⟩ := hd d (by simp)
    simp [h1]
    refine sat_cons ?_
    simp
    refine pool_sat fun a b c => ?_
    simp [h2]
    refine sat_cons ?_
    simp
    refine net_sat fun m ws x z hk0 hsm => ?_
    simp
    refine widened_sat hk0 hsm fun vs x z hk => ?_
    simp [h3]
    refine sat_cons ?_
    simp
    refine rounds_sat hk fun x z rs hr => ?_
    simp [h4]
    have hr0 : RdsOk rs := ⟨Nat.le_trans hr.1 (by decide), fun r h => Nat.le_trans (hr.2 r h) (by decide)⟩
    refine sat_cons ?_
    simp
    refine sat_forT (JS3 _ _ _ _ b) ?_ ?_ ⟨x, z, s5, s6, rfl, h5, h6, fun d hd => ?_⟩
    · rintro d r' _ ⟨x, z, s5, s6, rfl, h5, h6, hr'⟩
      obtain ⟨hrs, rfl, h0, hb⟩ := hr' d (by simp)
      simp [h5]
      refine sat_cons ?_
      simp
      refine next_sat h0 (by show _ < (1606938044258990275541962092341162602522202993782792835301376 : Int); omega) fun last x z hl1 hl2 => ?_
      simp [h6]
      refine sat_cons ?_
      simp
      refine told_sat hk (by omega) hr0 ?_
      simp
      refine sat_cons ?_
      simp
      refine otherwise_sat hk hr fun x z us hus => ?_
      simp
      refine told_sat hk (by omega) hus ?_
      simp
      exact ⟨_, _, _, _, rfl, rfl, rfl, fun d h => hr' d (List.mem_cons_of_mem _ h)⟩
    · rintro _ ⟨x, z, s5, s6, rfl, h5, h6, hr'⟩
      simp
      exact ⟨_, _, _, _, _, _, rfl, ⟨rfl, rfl, rfl, rfl, h5, h6⟩, fun d h => hd d (List.mem_cons_of_mem _ h)⟩
    · simp at hd
      rcases hd with rfl | rfl | rfl
      · exact ⟨_, rfl, by decide, by decide⟩
      · exact ⟨_, rfl, by decide, by decide⟩
      · exact ⟨_, rfl, by decide, by decide⟩
  · rintro _ ⟨s1, s2, s3, s4, s5, s6, rfl, _, hd⟩
    refine sat_cons ?_
    simp
  · refine ⟨_, _, _, _, _, _, rfl, ⟨rfl, rfl, rfl, rfl, rfl, rfl⟩, fun d hd => ?_⟩
    simp at hd
    rcases hd with rfl | ⟨i, _, rfl⟩
    · exact ⟨_, rfl⟩
    · exact ⟨_, rfl⟩
end T
end
namespace T
open PySem L2 PySem.Spec PyProof.Rows HH
structure Txt (K : PySem.W.Frag) : Prop where
  D0 : DefIn K "walk_places" s0
  D1 : DefIn K "walk_length" s1
  D2 : DefIn K "within_rooms" s2
  D3 : DefIn K "is_round" s3
  D4 : DefIn K "rounds_stream" s4
  D5 : DefIn K "rounds_fit" s5
  D6 : DefIn K "times_gone" s6
  D7 : DefIn K "rounds_bring" s7
  D8 : DefIn K "_law_pool" s8
  D9 : DefIn K "_law_next" s9
  D10 : DefIn K "_law_cells" s10
  D11 : DefIn K "_law_way" s11
  D12 : DefIn K "_law_net" s12
  D13 : DefIn K "_law_walk_to" s13
  D14 : DefIn K "_law_length" s14
  D15 : DefIn K "_law_fit" s15
  D16 : DefIn K "_law_some_walk" s16
  D17 : DefIn K "_law_rounds" s17
  D18 : DefIn K "_law_widened" s18
  D19 : DefIn K "_law_number_like" s19
  D20 : DefIn K "_law_otherwise" s20
  D21 : DefIn K "_law_told" s21
  D22 : DefIn K "law" s22
  B_all : PySem.W.nsIn K mainGlobals "all" = some none
  B_bool : PySem.W.nsIn K mainGlobals "bool" = some none
  B_int : PySem.W.nsIn K mainGlobals "int" = some none
  B_isinstance : PySem.W.nsIn K mainGlobals "isinstance" = some none
  B_len : PySem.W.nsIn K mainGlobals "len" = some none
  B_list : PySem.W.nsIn K mainGlobals "list" = some none
  B_max : PySem.W.nsIn K mainGlobals "max" = some none
  B_range : PySem.W.nsIn K mainGlobals "range" = some none
  B_sum : PySem.W.nsIn K mainGlobals "sum" = some none
  B_tuple : PySem.W.nsIn K mainGlobals "tuple" = some none
  B_zip : PySem.W.nsIn K mainGlobals "zip" = some none
  N_NoWalk : ∃ C, NsC K "NoWalk" C
  O_NoWalk : ∃ C, ClsIn K "NoWalk" C
noncomputable def clT {K : PySem.W.Frag} (T : Txt K) : Nat → Addr := fun k => if k = 1 then T.N_NoWalk.choose else 0
structure Oks (Pg : Program) (w : World) (K : PySem.W.Frag) (mg : Str → Option Value) (base : Heap) (cl : Nat → Addr) (n : Nat) : Prop where
  c0 : CallOk Pg w K mg base n (run Γ 1000 n) 0 "walk_places" 2
  c1 : CallOk Pg w K mg base n (run Γ 1000 n) 1 "walk_length" 2
  c2 : CallOk Pg w K mg base n (run Γ 1000 n) 2 "within_rooms" 2
  c3 : CallOk Pg w K mg base n (run Γ 1000 n) 3 "is_round" 3
  c4 : CallOk Pg w K mg base n (run Γ 1000 n) 4 "rounds_stream" 2
  c5 : CallOk Pg w K mg base n (run Γ 1000 n) 5 "rounds_fit" 2
  c6 : CallOk Pg w K mg base n (run Γ 1000 n) 6 "times_gone" 2
  c7 : CallOk Pg w K mg base n (run Γ 1000 n) 7 "rounds_bring" 3
  c8 : CallOk Pg w K mg base n (run Γ 1000 n) 8 "_law_pool" 1
  c9 : CallOk Pg w K mg base n (run Γ 1000 n) 9 "_law_next" 2
  c10 : CallOk Pg w K mg base n (run Γ 1000 n) 10 "_law_cells" 2
  c11 : CallOk Pg w K mg base n (run Γ 1000 n) 11 "_law_way" 3
  c12 : CallOk Pg w K mg base n (run Γ 1000 n) 12 "_law_net" 1
  c13 : CallOk Pg w K mg base n (run Γ 1000 n) 13 "_law_walk_to" 3
  c14 : CallOk Pg w K mg base n (run Γ 1000 n) 14 "_law_length" 2
  c15 : CallOk Pg w K mg base n (run Γ 1000 n) 15 "_law_fit" 2
  c16 : CallOk Pg w K mg base n (run Γ 1000 n) 16 "_law_some_walk" 2
  c17 : CallOk Pg w K mg base n (run Γ 1000 n) 17 "_law_rounds" 2
  c18 : CallOk Pg w K mg base n (run Γ 1000 n) 18 "_law_widened" 2
  c19 : CallOk Pg w K mg base n (run Γ 1000 n) 19 "_law_number_like" 2
  c20 : CallOk Pg w K mg base n (run Γ 1000 n) 20 "_law_otherwise" 3
  c21 : CallOk Pg w K mg base n (run Γ 1000 n) 21 "_law_told" 3
  c22 : CallOk Pg w K mg base n (run Γ 1000 n) 22 "law" 1
  x0 : CallX Pg w K mg base cl n (run Γ 1000 n) 0 "walk_places" 2
set_option maxHeartbeats 0 in
theorem all_ok {Pg : Program} {w : World} {K : PySem.W.Frag} {mg : Str → Option Value} {base : Heap} (T : Txt K) (X : K.In base) (G : base.Ns mainGlobals mg) : ∀ n, Oks Pg w K mg base (clT T) n
  | 0 => {
    c0 := call0 (ps := ["net", "walk"]) X G T.D0 rfl (fun _ _ _ _ _ _ us hl => match us, hl with | [_, _], _ => rfl)
    c1 := call0 (ps := ["net", "walk"]) X G T.D1 rfl (fun _ _ _ _ _ _ us hl => match us, hl with | [_, _], _ => rfl)
    c2 := call0 (ps := ["net", "stream"]) X G T.D2 rfl (fun _ _ _ _ _ _ us hl => match us, hl with | [_, _], _ => rfl)
    c3 := call0 (ps := ["net", "walk", "loads"]) X G T.D3 rfl (fun _ _ _ _ _ _ us hl => match us, hl with | [_, _, _], _ => rfl)
    c4 := call0 (ps := ["net", "rounds"]) X G T.D4 rfl (fun _ _ _ _ _ _ us hl => match us, hl with | [_, _], _ => rfl)
    c5 := call0 (ps := ["net", "rounds"]) X G T.D5 rfl (fun _ _ _ _ _ _ us hl => match us, hl with | [_, _], _ => rfl)
    c6 := call0 (ps := ["last", "length"]) X G T.D6 rfl (fun _ _ _ _ _ _ us hl => match us, hl with | [_, _], _ => rfl)
    c7 := call0 (ps := ["net", "last", "rounds"]) X G T.D7 rfl (fun _ _ _ _ _ _ us hl => match us, hl with | [_, _, _], _ => rfl)
    c8 := call0 (ps := ["cell"]) X G T.D8 rfl (fun _ _ _ _ _ _ us hl => match us, hl with | [_], _ => rfl)
    c9 := call0 (ps := ["pool", "base"]) X G T.D9 rfl (fun _ _ _ _ _ _ us hl => match us, hl with | [_, _], _ => rfl)
    c10 := call0 (ps := ["script", "most"]) X G T.D10 rfl (fun _ _ _ _ _ _ us hl => match us, hl with | [_, _], _ => rfl)
    c11 := call0 (ps := ["pool", "many", "k"]) X G T.D11 rfl (fun _ _ _ _ _ _ us hl => match us, hl with | [_, _, _], _ => rfl)
    c12 := call0 (ps := ["pool"]) X G T.D12 rfl (fun _ _ _ _ _ _ us hl => match us, hl with | [_], _ => rfl)
    c13 := call0 (ps := ["net", "walk", "end"]) X G T.D13 rfl (fun _ _ _ _ _ _ us hl => match us, hl with | [_, _, _], _ => rfl)
    c14 := call0 (ps := ["net", "walk"]) X G T.D14 rfl (fun _ _ _ _ _ _ us hl => match us, hl with | [_, _], _ => rfl)
    c15 := call0 (ps := ["net", "rounds"]) X G T.D15 rfl (fun _ _ _ _ _ _ us hl => match us, hl with | [_, _], _ => rfl)
    c16 := call0 (ps := ["pool", "net"]) X G T.D16 rfl (fun _ _ _ _ _ _ us hl => match us, hl with | [_, _], _ => rfl)
    c17 := call0 (ps := ["pool", "net"]) X G T.D17 rfl (fun _ _ _ _ _ _ us hl => match us, hl with | [_, _], _ => rfl)
    c18 := call0 (ps := ["pool", "net"]) X G T.D18 rfl (fun _ _ _ _ _ _ us hl => match us, hl with | [_, _], _ => rfl)
    c19 := call0 (ps := ["found", "due"]) X G T.D19 rfl (fun _ _ _ _ _ _ us hl => match us, hl with | [_, _], _ => rfl)
    c20 := call0 (ps := ["pool", "net", "rounds"]) X G T.D20 rfl (fun _ _ _ _ _ _ us hl => match us, hl with | [_, _, _], _ => rfl)
    c21 := call0 (ps := ["net", "last", "rounds"]) X G T.D21 rfl (fun _ _ _ _ _ _ us hl => match us, hl with | [_, _, _], _ => rfl)
    c22 := call0 (ps := ["script"]) X G T.D22 rfl (fun _ _ _ _ _ _ us hl => match us, hl with | [_], _ => rfl)
    x0 := callX0 (ps := ["net", "walk"]) X G T.D0 rfl (fun _ _ _ _ _ _ us hl => match us, hl with | [_, _], _ => rfl)
  }
  | n + 1 =>
    have ih := all_ok (Pg := Pg) (w := w) (base := base) T X G n
    {
      c0 := callS (ps := ["net", "walk"]) X G T.D0 rfl rfl (fun _ _ _ _ _ _ us hl => match us, hl with | [_, _], _ => rfl) fun _ _ F => d0 (cl := clT T) F (PySem.W.mg_none_of X G T.B_len) (PySem.W.mg_none_of X G T.B_tuple)
      c1 := callS (ps := ["net", "walk"]) X G T.D1 rfl rfl (fun _ _ _ _ _ _ us hl => match us, hl with | [_, _], _ => rfl) fun _ _ F => d1 (cl := clT T) F (PySem.W.mg_none_of X G T.B_sum) ih.c0
      c2 := callS (ps := ["net", "stream"]) X G T.D2 rfl rfl (fun _ _ _ _ _ _ us hl => match us, hl with | [_, _], _ => rfl) fun _ _ F => d2 (cl := clT T) F (PySem.W.mg_none_of X G T.B_all) (PySem.W.mg_none_of X G T.B_zip)
      c3 := callS (ps := ["net", "walk", "loads"]) X G T.D3 rfl rfl (fun _ _ _ _ _ _ us hl => match us, hl with | [_, _, _], _ => rfl) fun _ _ F => d3 (cl := clT T) F ih.c0 (own_cls X G (o_at T.O_NoWalk T.N_NoWalk.choose_spec)) ih.x0
      c4 := callS (ps := ["net", "rounds"]) X G T.D4 rfl rfl (fun _ _ _ _ _ _ us hl => match us, hl with | [_, _], _ => rfl) fun _ _ F => d4 (cl := clT T) F (PySem.W.mg_none_of X G T.B_len) (PySem.W.mg_none_of X G T.B_range) (PySem.W.mg_none_of X G T.B_sum)
      c5 := callS (ps := ["net", "rounds"]) X G T.D5 rfl rfl (fun _ _ _ _ _ _ us hl => match us, hl with | [_, _], _ => rfl) fun _ _ F => d5 (cl := clT T) F (PySem.W.mg_none_of X G T.B_all) ih.c3 ih.c4 ih.c2
      c6 := callS (ps := ["last", "length"]) X G T.D6 rfl rfl (fun _ _ _ _ _ _ us hl => match us, hl with | [_, _], _ => rfl) fun _ _ F => d6 (cl := clT T) F (PySem.W.mg_none_of X G T.B_max)
      c7 := callS (ps := ["net", "last", "rounds"]) X G T.D7 rfl rfl (fun _ _ _ _ _ _ us hl => match us, hl with | [_, _, _], _ => rfl) fun _ _ F => d7 (cl := clT T) F (PySem.W.mg_none_of X G T.B_sum) ih.c5 ih.c6 ih.c1
      c8 := callS (ps := ["cell"]) X G T.D8 rfl rfl (fun _ _ _ _ _ _ us hl => match us, hl with | [_], _ => rfl) fun _ _ F => d8 (cl := clT T) F (PySem.W.mg_none_of X G T.B_max)
      c9 := callS (ps := ["pool", "base"]) X G T.D9 rfl rfl (fun _ _ _ _ _ _ us hl => match us, hl with | [_, _], _ => rfl) fun _ _ F => d9 (cl := clT T) F
      c10 := callS (ps := ["script", "most"]) X G T.D10 rfl rfl (fun _ _ _ _ _ _ us hl => match us, hl with | [_, _], _ => rfl) fun _ _ F => d10 (cl := clT T) F (PySem.W.mg_none_of X G T.B_len) (PySem.W.mg_none_of X G T.B_list) (PySem.W.mg_none_of X G T.B_range)
      c11 := callS (ps := ["pool", "many", "k"]) X G T.D11 rfl rfl (fun _ _ _ _ _ _ us hl => match us, hl with | [_, _, _], _ => rfl) fun _ _ F => d11 (cl := clT T) F ih.c9
      c12 := callS (ps := ["pool"]) X G T.D12 rfl rfl (fun _ _ _ _ _ _ us hl => match us, hl with | [_], _ => rfl) fun _ _ F => d12 (cl := clT T) F (PySem.W.mg_none_of X G T.B_range) (PySem.W.mg_none_of X G T.B_tuple) ih.c9 ih.c11
      c13 := callS (ps := ["net", "walk", "end"]) X G T.D13 rfl rfl (fun _ _ _ _ _ _ us hl => match us, hl with | [_, _, _], _ => rfl) fun _ _ F => d13 (cl := clT T) F (PySem.W.mg_none_of X G T.B_len)
      c14 := callS (ps := ["net", "walk"]) X G T.D14 rfl rfl (fun _ _ _ _ _ _ us hl => match us, hl with | [_, _], _ => rfl) fun _ _ F => d14 (cl := clT T) F (PySem.W.mg_none_of X G T.B_sum)
      c15 := callS (ps := ["net", "rounds"]) X G T.D15 rfl rfl (fun _ _ _ _ _ _ us hl => match us, hl with | [_, _], _ => rfl) fun _ _ F => d15 (cl := clT T) F (PySem.W.mg_none_of X G T.B_all) (PySem.W.mg_none_of X G T.B_len) (PySem.W.mg_none_of X G T.B_range) ih.c13
      c16 := callS (ps := ["pool", "net"]) X G T.D16 rfl rfl (fun _ _ _ _ _ _ us hl => match us, hl with | [_, _], _ => rfl) fun _ _ F => d16 (cl := clT T) F (PySem.W.mg_none_of X G T.B_len) (PySem.W.mg_none_of X G T.B_range) (PySem.W.mg_none_of X G T.B_tuple) ih.c9
      c17 := callS (ps := ["pool", "net"]) X G T.D17 rfl rfl (fun _ _ _ _ _ _ us hl => match us, hl with | [_, _], _ => rfl) fun _ _ F => d17 (cl := clT T) F (PySem.W.mg_none_of X G T.B_range) ih.c15 ih.c9 ih.c16
      c18 := callS (ps := ["pool", "net"]) X G T.D18 rfl rfl (fun _ _ _ _ _ _ us hl => match us, hl with | [_, _], _ => rfl) fun _ _ F => d18 (cl := clT T) F (PySem.W.mg_none_of X G T.B_tuple) ih.c9
      c19 := callS (ps := ["found", "due"]) X G T.D19 rfl rfl (fun _ _ _ _ _ _ us hl => match us, hl with | [_, _], _ => rfl) fun _ _ F => d19 (cl := clT T) F (PySem.W.mg_none_of X G T.B_bool) (PySem.W.mg_none_of X G T.B_int) (PySem.W.mg_none_of X G T.B_isinstance)
      c20 := callS (ps := ["pool", "net", "rounds"]) X G T.D20 rfl rfl (fun _ _ _ _ _ _ us hl => match us, hl with | [_, _, _], _ => rfl) fun _ _ F => d20 (cl := clT T) F (PySem.W.mg_none_of X G T.B_len) (PySem.W.mg_none_of X G T.B_list) (PySem.W.mg_none_of X G T.B_max) ih.c9 ih.c16
      c21 := callS (ps := ["net", "last", "rounds"]) X G T.D21 rfl rfl (fun _ _ _ _ _ _ us hl => match us, hl with | [_, _, _], _ => rfl) fun _ _ F => d21 (cl := clT T) F (PySem.W.mg_none_of X G T.B_list) (PySem.W.mg_none_of X G T.B_max) ih.c15 ih.c14 ih.c19 ih.c7
      c22 := callS (ps := ["script"]) X G T.D22 rfl rfl (fun _ _ _ _ _ _ us hl => match us, hl with | [_], _ => rfl) fun _ _ F => d22 (cl := clT T) F ih.c10 ih.c12 ih.c9 ih.c20 ih.c8 ih.c17 ih.c21 ih.c18
      x0 := callXS (ps := ["net", "walk"]) X G T.D0 rfl rfl (fun _ _ _ _ _ _ us hl => match us, hl with | [_, _], _ => rfl) fun _ _ F => dx0 (cl := clT T) F (PySem.W.mg_none_of X G T.B_len) (PySem.W.mg_none_of X G T.B_tuple) (own_cls X G (o_at T.O_NoWalk T.N_NoWalk.choose_spec))
    }
theorem gin {K : PySem.W.Frag} {x : Str} {i : Int} {t : Tok} (a : PySem.W.nsIn K mainGlobals x = some (some (Value.int i t))) : ∃ t, PySem.W.nsIn K mainGlobals x = some (some (Value.int i t)) := ⟨t, a⟩
set_option maxHeartbeats 0 in
theorem law_fn {Pg : Program} {w : World} {K : PySem.W.Frag} {mg : Str → Option Value} {h : Heap} {fa : Addr} (T : Txt K) (X : K.In h) (G : h.Ns mainGlobals mg) (hmg : mg "law" = some (.ref fa)) :
    ∃ fd : FuncData, (∀ (s : Shared) (u : Value), BindsTo s fd ⟨[u], []⟩ [("script", u)]) ∧ ∀ base : Heap, K.In base → base.Ns mainGlobals mg → FnOk Pg w K mg base CX0 40 fa fd ["script"] (spC K 1 (run Γ 1000 40 22)) := by
  obtain ⟨f, fd, a, F⟩ := T.D22.ex
  have e := hmg.symm.trans (PySem.W.mg_of X G a)
  cases e
  refine ⟨fd, fun s u => ?_, fun base kb nb => ?_⟩
  · obtain ⟨oc, od, kV, doc, pm, an, cdv, ct, osl, rfl, lk, hcd⟩ := F.ex
    exact .of_eq rfl
  · have ih := all_ok (Pg := Pg) (w := w) (base := base) T kb nb 39
    exact d22 (cl := clT T) (k := 39) (n := 1000) (c := run Γ 1000 39) F ih.c10 ih.c12 ih.c9 ih.c20 ih.c8 ih.c17 ih.c21 ih.c18
end T
open PySem PySem.W PyProof.Rows
set_option maxRecDepth 100000 in
set_option maxHeartbeats 0 in
theorem PySem.Challenge.cw_hourhaul_k39_what_rounds_bring_holds : PySem.Challenge.rw_hourhaul_k39_what_rounds_bring.Holds := by
  w_on; o_law; k_head; (case hw => w_witness2)
  k_fill
  refine L2.walk_ofK (l := PySem.Challenge.rw_hourhaul_k39_what_rounds_bring) (n := 63) (k := 40) (x := "script") (CX := L2.CX0) (sp := fun K => HH.spC K 1 (HH.run T.Γ 1000 40 22)) rfl (by decide) rfl ⟨rfl, by decide, by decide⟩ (fun w h Y => PySem.W.kIn_of Y) ?F ?S ?C
  case F =>
    intro w mg fa h KX G hmg
    refine T.law_fn ?T KX G hmg
    constructor
    · (refine' HH.def_in ?a ?l ?c ?k); (case a => k_is); (case l => k_is); (case c => k_is); (case k => k_is)
    · (refine' HH.def_in ?a ?l ?c ?k); (case a => k_is); (case l => k_is); (case c => k_is); (case k => k_is)
    · (refine' HH.def_in ?a ?l ?c ?k); (case a => k_is); (case l => k_is); (case c => k_is); (case k => k_is)
    · (refine' HH.def_in ?a ?l ?c ?k); (case a => k_is); (case l => k_is); (case c => k_is); (case k => k_is)
    · (refine' HH.def_in ?a ?l ?c ?k); (case a => k_is); (case l => k_is); (case c => k_is); (case k => k_is)
    · (refine' HH.def_in ?a ?l ?c ?k); (case a => k_is); (case l => k_is); (case c => k_is); (case k => k_is)
    · (refine' HH.def_in ?a ?l ?c ?k); (case a => k_is); (case l => k_is); (case c => k_is); (case k => k_is)
    · (refine' HH.def_in ?a ?l ?c ?k); (case a => k_is); (case l => k_is); (case c => k_is); (case k => k_is)
    · (refine' HH.def_in ?a ?l ?c ?k); (case a => k_is); (case l => k_is); (case c => k_is); (case k => k_is)
    · (refine' HH.def_in ?a ?l ?c ?k); (case a => k_is); (case l => k_is); (case c => k_is); (case k => k_is)
    · (refine' HH.def_in ?a ?l ?c ?k); (case a => k_is); (case l => k_is); (case c => k_is); (case k => k_is)
    · (refine' HH.def_in ?a ?l ?c ?k); (case a => k_is); (case l => k_is); (case c => k_is); (case k => k_is)
    · (refine' HH.def_in ?a ?l ?c ?k); (case a => k_is); (case l => k_is); (case c => k_is); (case k => k_is)
    · (refine' HH.def_in ?a ?l ?c ?k); (case a => k_is); (case l => k_is); (case c => k_is); (case k => k_is)
    · (refine' HH.def_in ?a ?l ?c ?k); (case a => k_is); (case l => k_is); (case c => k_is); (case k => k_is)
    · (refine' HH.def_in ?a ?l ?c ?k); (case a => k_is); (case l => k_is); (case c => k_is); (case k => k_is)
    · (refine' HH.def_in ?a ?l ?c ?k); (case a => k_is); (case l => k_is); (case c => k_is); (case k => k_is)
    · (refine' HH.def_in ?a ?l ?c ?k); (case a => k_is); (case l => k_is); (case c => k_is); (case k => k_is)
    · (refine' HH.def_in ?a ?l ?c ?k); (case a => k_is); (case l => k_is); (case c => k_is); (case k => k_is)
    · (refine' HH.def_in ?a ?l ?c ?k); (case a => k_is); (case l => k_is); (case c => k_is); (case k => k_is)
    · (refine' HH.def_in ?a ?l ?c ?k); (case a => k_is); (case l => k_is); (case c => k_is); (case k => k_is)
    · (refine' HH.def_in ?a ?l ?c ?k); (case a => k_is); (case l => k_is); (case c => k_is); (case k => k_is)
    · (refine' HH.def_in ?a ?l ?c ?k); (case a => k_is); (case l => k_is); (case c => k_is); (case k => k_is)
    · k_is
    · k_is
    · k_is
    · k_is
    · k_is
    · k_is
    · k_is
    · k_is
    · k_is
    · k_is
    · k_is
    · (refine' HH.n_in ?a); (case a => k_is)
    · (refine' HH.cls_in ?ca ?cq); (case ca => k_is); (case cq => k_exc)
  case S =>
    intro K H a ns hl hO hS
    obtain ⟨as, e⟩ := T.law_run ns hl
    exact HH.script_ok hS e
  case C => exact fun H s e s' z => z
