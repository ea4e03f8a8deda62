import PyProof.Rows.All
import Wide.All
import OpenK.AllK
import Wide.FinOn
import Lean
import PyProof.EqAt
import PyProof.EqKinds
import PyProof.TupleCall
import PySem.Str
import PySem.Builtin.Int.W1All
import PyProof.NeKinds
import PyProof.ZipIter
import PyProof.SumWalkG
import PyProof.MinMaxWalk
import PyProof.WalksMore
import PyProof.SeqI3
import PyProof.WalkInts
import PyProof.Rows.CallKwBuiltin
import PyProof.Rows.Tup
import PyProof.CollectIter
import PyProof.EnumMake
import PyProof.TupleOfSeq
import PyProof.ListNew
import PyProof.ReprLoop
import PyProof.StationsW
import PyProof.ExcClass3
import PyProof.Rows.CatchBare
import OpenK.KOwn
import KE.KIsAll
import PyProof.NsDelKeeps
import PyProof.RulesAs
import PyProof.ExcArgsOwn
import PyProof.ListRange
import KE.RegKIsAll
import KE.KRevIter
import PyProof.ExcBaseAll.ValueError
import PySem.Challenge.RW_hourhaul_k12_whole_a_way_more
set_option Elab.async false
set_option linter.all false
set_option maxRecDepth 100000
section
set_option Elab.async false
set_option linter.all false
set_option maxRecDepth 100000
namespace L2
open PySem PySem.Spec PyProof.Rows
noncomputable abbrev Key := Sum Int Str
noncomputable def keyIs : Key → Value → Bool
  | .inl k, v => Value.isInt k v
  | .inr x, v => Value.isStrOf x v
noncomputable def keyH (w : World) : Key → Int
  | .inl k => hashInt k
  | .inr x => hashStr w x
theorem keyIs_shape : ∀ {k : Key} {v : Value}, keyIs k v = true → (∃ i t, k = Sum.inl i ∧ v = Value.int i t) ∨ (∃ x t, k = Sum.inr x ∧ v = Value.str x t)
  | .inl i, v, h => by
    obtain ⟨t, e⟩ := Value.isInt_shape (k := i) (v := v) h
    exact .inl ⟨i, t, rfl, e⟩
  | .inr x, v, h => by
    obtain ⟨t, e⟩ := Value.isStrOf_shape (x := x) (v := v) h
    exact .inr ⟨x, t, rfl, e⟩
theorem key_ll (a b : Int) : decide ((Sum.inl a : Key) = Sum.inl b) = (a == b) := by
  by_cases e : a = b
  · subst e; simp
  · have h : ¬ (Sum.inl a : Key) = Sum.inl b := fun q => e (Sum.inl.inj q)
    rw [decide_eq_false h]
    exact (beq_eq_false_iff_ne.mpr e).symm
theorem key_rr (a b : Str) : decide ((Sum.inr a : Key) = Sum.inr b) = decide (a = b) := by
  by_cases e : a = b
  · subst e; simp
  · have h : ¬ (Sum.inr a : Key) = Sum.inr b := fun q => e (Sum.inr.inj q)
    rw [decide_eq_false h, decide_eq_false e]
theorem key_lr (a : Int) (b : Str) : decide ((Sum.inl a : Key) = Sum.inr b) = false := decide_eq_false (fun q => nomatch q)
theorem key_rl (a : Str) (b : Int) : decide ((Sum.inr a : Key) = Sum.inl b) = false := decide_eq_false (fun q => nomatch q)
noncomputable def mixKind (prog : Program) (w : World) : PySem.KeyKind prog w Key where
  is := keyIs
  hash := keyH w
  inj := fun v a b ha hb => by
    rcases keyIs_shape ha with ⟨i, t, rfl, rfl⟩ | ⟨x, t, rfl, rfl⟩
    · rcases keyIs_shape hb with ⟨j, u, rfl, e⟩ | ⟨y, u, rfl, e⟩
      · injection e with e1 _; rw [e1]
      · exact nomatch e
    · rcases keyIs_shape hb with ⟨j, u, rfl, e⟩ | ⟨y, u, rfl, e⟩
      · exact nomatch e
      · injection e with e1 _; rw [e1]
  byValue := fun k v h => by
    rcases keyIs_shape h with ⟨i, t, rfl, rfl⟩ | ⟨x, t, rfl, rfl⟩ <;> rfl
  pyHash := fun hv h => by
    rcases keyIs_shape hv with ⟨i, t, rfl, rfl⟩ | ⟨x, t, rfl, rfl⟩
    · exact wpAny_pyHash_int h
    · exact wpAny_pyHash_str h
  eqBool := fun hu hv h => by
    rcases keyIs_shape hu with ⟨i, t, rfl, rfl⟩ | ⟨x, t, rfl, rfl⟩
    · rcases keyIs_shape hv with ⟨j, u, rfl, rfl⟩ | ⟨y, u, rfl, rfl⟩
      · rw [key_ll] at h; exact wpAny_eqBool_int h
      · rw [key_lr] at h; exact SeqAt.EqAt.int_str i t y u _ _ _ _ h
    · rcases keyIs_shape hv with ⟨j, u, rfl, rfl⟩ | ⟨y, u, rfl, rfl⟩
      · rw [key_rl] at h; exact SeqAt.EqAt.str_int x t j u _ _ _ _ h
      · rw [key_rr] at h; exact wpAny_eqBool_str h
  «strs» := fun k x t v h => by
    rcases keyIs_shape h with ⟨i, u, rfl, e⟩ | ⟨y, u, rfl, e⟩
    · exact nomatch e
    · injection e with e1 _
      subst e1
      cases v <;> rfl
end L2
namespace L2
open PySem PySem.Spec PyProof.Rows
inductive V where
  | non | bl (b : Bool) | int (i : Int) | str (x : Str) | byt (b : Array UInt8) | flt (b : UInt64) | ref (a : Addr) | ty (n : String)
  deriving DecidableEq
noncomputable def RelV : V → Value → Prop
  | .non, u => u = Value.none
  | .bl b, u => u = Value.bool b
  | .int i, u => ∃ t, u = Value.int i t
  | .str x, u => ∃ t, u = Value.str x t
  | .byt b, u => ∃ t, u = Value.bytes b t
  | .flt b, u => ∃ t, u = Value.float b t
  | .ref a, u => u = Value.ref a
  | .ty n, u => u = Value.type n
noncomputable abbrev Vals : List V → List Value → Prop := Paired RelV
theorem Vals.length {xs : List V} {us : List Value} (r : Vals xs us) : xs.length = us.length := Paired.length r
theorem Vals.get : ∀ {xs : List V} {us : List Value} {i : Nat} {x : V}, Vals xs us → xs[i]? = some x → ∃ u, us[i]? = some u ∧ RelV x u
  | _, _, _, _, .nil, e => by simp at e
  | _, _, 0, _, .cons r _, e => by simp at e; subst e; exact ⟨_, rfl, r⟩
  | _, _, i + 1, x, .cons _ t, e => by
    obtain ⟨u, h1, h2⟩ := Vals.get (i := i) (x := x) t (by simpa using e)
    exact ⟨u, by simpa using h1, h2⟩
theorem Vals.set {x : V} {u : Value} (r : RelV x u) : ∀ {xs : List V} {us : List Value} (i : Nat), Vals xs us → Vals (xs.set i x) (us.set i u)
  | _, _, _, .nil => .nil
  | _, _, 0, .cons _ t => .cons r t
  | _, _, i + 1, .cons q t => .cons q (Vals.set r i t)
theorem Vals.append : ∀ {xs ys : List V} {us ws : List Value}, Vals xs us → Vals ys ws → Vals (xs ++ ys) (us ++ ws)
  | _, _, _, _, .nil, s => s
  | _, _, _, _, .cons r t, s => .cons r (Vals.append t s)
theorem Vals.take : ∀ {xs : List V} {us : List Value} (n : Nat), Vals xs us → Vals (xs.take n) (us.take n)
  | _, _, 0, _ => .nil
  | _, _, _ + 1, .nil => .nil
  | _, _, n + 1, .cons r t => .cons r (Vals.take n t)
theorem Vals.drop : ∀ {xs : List V} {us : List Value} (n : Nat), Vals xs us → Vals (xs.drop n) (us.drop n)
  | _, _, 0, r => r
  | _, _, _ + 1, .nil => .nil
  | _, _, n + 1, .cons _ t => Vals.drop n t
noncomputable def RelO : Option V → Option Value → Prop
  | some v, some u => RelV v u
  | none, none => True
  | _, _ => False
noncomputable def KV {κ : Type} : List (κ × V) → List (κ × Value) → Prop := Paired fun (p : κ × V) (q : κ × Value) => p.1 = q.1 ∧ RelV p.2 q.2
noncomputable def kV : Key → V
  | .inl i => .int i
  | .inr x => .str x
inductive HO where
  /-- a list -/
  | lst (xs : List V)
  /-- a tuple (never changes) -/
  | tup (xs : List V)
  /-- a dict whose keys are ints and texts; one whose keys are tuples of ints and texts (the empty one is both) -/
  | dK (kvs : List (Key × V)) | dT (kvs : List (List Key × V))
  /-- a set of ints: its members, its size -/
  | set (S : Int → Bool) (n : Nat)
  /-- an instance of the class at C, its dict at dx, its attributes -/
  | ins (C dx : Addr) (fs : List (Str × V))
  /-- the dict of the instance at x -/
  | own (x : Addr)
  /-- the dict of an exception -/
  | xd (fs : List (Str × V))
  /-- a bound method, f of x -/
  | met (f x : Addr)
  /-- a range object lo, lo + 1, .. below hi -/
  | rng (lo hi : Int)
  /-- a thing that is known to the object (the script; a dict while a loop walks it): read, never written while it is so -/
  | frz (o : Obj) (u : HO)
  /-- a code object's table -/
  | tbl (ps : Array Value)
  /-- any other thing, by what is true of its one object (a def of one's own: SetO a S n := HO.ext fun h => ..) -/
  | ext (φ : Heap → Prop)
noncomputable abbrev Hp := Addr → Option HO
noncomputable def upd (H : Hp) (a : Addr) (o : HO) : Hp := fun b => if b = a then some o else H b
theorem upd_same {H : Hp} {a : Addr} {o : HO} : upd H a o a = some o := by unfold upd; rw [if_pos rfl]
theorem upd_ne {H : Hp} {a b : Addr} {o : HO} (h : b ≠ a) : upd H a o b = H b := by unfold upd; rw [if_neg h]
theorem ne_of_none {H : Hp} {a b : Addr} {o : HO} (h : H a = some o) (h' : H b = none) : a ≠ b := by
  intro e; subst e; rw [h] at h'; cases h'
section
variable (P : Program) (w : World)
noncomputable def ObjOk (H : Hp) (h : Heap) (a : Addr) : HO → Prop
  | .lst xs => xs.length ≤ sizeLine ∧ ∃ (its : List Value) (n : Nat), Vals xs its ∧ h.get? a = some { cls := .type "list", data := .seq its.toArray n }
  | .tup xs => xs.length ≤ sizeLine ∧ ∃ its : List Value, Vals xs its ∧ IsTup h a its.toArray
  | .dK kvs => kvs.length ≤ sizeLine ∧ (a == sysModules) = false ∧ ∃ vs, KV kvs vs ∧ h.DictOf (mixKind P w) a vs
  | .dT kvs => kvs.length ≤ sizeLine ∧ (a == sysModules) = false ∧ ∃ xs : List (List Key × Addr × Value),
      Paired (fun (p : List Key × V) (q : List Key × Addr × Value) => p.1 = q.1 ∧ H q.2.1 = some (.tup (p.1.map kV)) ∧ RelV p.2 q.2.2) kvs xs ∧
      ∃ o es ep, h.get? a = some o ∧ o.ExactDict ∧ o.data = .dict es ep ∧ es.toList = xs.map (entryOfKey (tupleKind (mixKind P w))) ∧ (xs.map (·.1)).Nodup
  | .set S n => h.SetOf (intKind P w) a S n
  | .ins C dx fs => H dx = some (.own a) ∧ fs.length ≤ 1000 ∧ dx ≠ a ∧ h.get? a = some (PySem.W.instObj C dx) ∧
      ∃ mA, h.Ns1 dx mA ∧ (∀ f, RelO (fs.lookup f) (mA f)) ∧ PySem.Within mA (fs.map (·.1))
  | .own _ => ∃ o, h.get? a = some o
  | .xd fs => ∃ mA, h.Ns1 a mA ∧ ∀ f, RelO (fs.lookup f) (mA f)
  | .rng lo hi => ∃ t u v, h.get? a = some { cls := .type "range", data := .fields #[.int lo t, .int hi u, .int 1 v] }
  | .frz o u => h.get? a = some o ∧ ObjOk H h a u
  | .tbl ps => h.get? a = some { cls := .none, data := .fields ps }
  | .met f x => h.get? a = some (PySem.W.methodObj (.ref f) (.ref x))
  | .ext φ => φ h ∧ (∃ o, h.get? a = some o) ∧ ∀ h1 h2 : Heap, φ h1 → (∀ o, h1.get? a = some o → h2.get? a = some o) → φ h2
noncomputable def HOk (H : Hp) (h : Heap) : Prop := ∀ a o, H a = some o → ObjOk P w H h a o
end
section
variable {P : Program} {w : World} {H H' : Hp} {h h' : Heap} {a : Addr} {o : HO}
theorem ObjOk.lt (x : ObjOk P w H h a o) : a < h.objs.size := by
  cases o with
  | lst xs => obtain ⟨_, _, _, _, e⟩ := x; exact Heap.lt_size e
  | tup xs => obtain ⟨_, _, _, p⟩ := x; exact p.lt
  | dK kvs => obtain ⟨_, _, _, _, o, _, _, e, _⟩ := x; exact Heap.lt_size e
  | dT kvs => obtain ⟨_, _, _, _, o, _, _, e, _⟩ := x; exact Heap.lt_size e
  | set S n => obtain ⟨o, _, _, _, e, _⟩ := x; exact Heap.lt_size e
  | ins C dx fs => obtain ⟨_, _, _, e, _⟩ := x; exact Heap.lt_size e
  | own y => obtain ⟨_, e⟩ := x; exact Heap.lt_size e
  | xd fs => obtain ⟨_, ⟨_, _, _, e, _⟩, _⟩ := x; exact Heap.lt_size e
  | rng lo hi => obtain ⟨_, _, _, e⟩ := x; exact Heap.lt_size e
  | frz ob u => obtain ⟨e, _⟩ := x; exact Heap.lt_size e
  | tbl ps => exact Heap.lt_size (show h.get? a = some _ from x)
  | met f y => exact Heap.lt_size (show h.get? a = some _ from x)
  | ext φ => obtain ⟨_, ⟨_, e⟩, _⟩ := x; exact Heap.lt_size e
theorem Paired.mapP {α β : Type} {F G : α → β → Prop} : ∀ {l₁ : List α} {l₂ : List β}, Paired F l₁ l₂ → (∀ a b, F a b → G a b) → Paired G l₁ l₂
  | _, _, .nil, _ => .nil
  | _, _, .cons r t, f => .cons (f _ _ r) (Paired.mapP t f)
theorem ObjOk.stay (x : ObjOk P w H h a o) (k : ∀ b u, (b = a ∨ H b = some (.own a)) → h.get? b = some u → h'.get? b = some u)
    (ho : ∀ b, H b = some (.own a) → H' b = some (.own a)) (ht : ∀ b xs, H b = some (.tup xs) → H' b = some (.tup xs)) : ObjOk P w H' h' a o := by
  induction o with
  | lst xs => obtain ⟨z, its, n, r, e⟩ := x; exact ⟨z, its, n, r, k _ _ (.inl rfl) e⟩
  | tup xs => obtain ⟨z, its, r, ob, e, c⟩ := x; exact ⟨z, its, r, ob, k _ _ (.inl rfl) e, c⟩
  | dK kvs => obtain ⟨z, y, vs, r, ob, es, ep, e, c⟩ := x; exact ⟨z, y, vs, r, ob, es, ep, k _ _ (.inl rfl) e, c⟩
  | dT kvs =>
    obtain ⟨z, y, xs, r, ob, es, ep, e, c⟩ := x
    exact ⟨z, y, xs, Paired.mapP r fun p q z => ⟨z.1, ht _ _ z.2.1, z.2.2⟩, ob, es, ep, k _ _ (.inl rfl) e, c⟩
  | set S n => obtain ⟨ob, es, ep, t, e, c⟩ := x; exact ⟨ob, es, ep, t, k _ _ (.inl rfl) e, c⟩
  | ins C dx fs =>
    obtain ⟨d, z, ne, e, mA, ⟨od, es, ep, e2, c⟩, r⟩ := x
    exact ⟨ho _ d, z, ne, k _ _ (.inl rfl) e, mA, ⟨od, es, ep, k _ _ (.inr d) e2, c⟩, r⟩
  | own y => obtain ⟨ob, e⟩ := x; exact ⟨ob, k _ _ (.inl rfl) e⟩
  | xd fs => obtain ⟨mA, ⟨od, es, ep, e, c⟩, r⟩ := x; exact ⟨mA, ⟨od, es, ep, k _ _ (.inl rfl) e, c⟩, r⟩
  | rng lo hi => obtain ⟨t, u, v, e⟩ := x; exact ⟨t, u, v, k _ _ (.inl rfl) e⟩
  | frz ob u ih => obtain ⟨e, q⟩ := x; exact ⟨k _ _ (.inl rfl) e, ih q⟩
  | tbl ps =>
    have e : h.get? a = some { cls := .none, data := .fields ps } := x
    show h'.get? a = some { cls := .none, data := .fields ps }
    exact k a _ (.inl rfl) e
  | met f y =>
    have e : h.get? a = some (PySem.W.methodObj (.ref f) (.ref y)) := x
    show h'.get? a = some (PySem.W.methodObj (.ref f) (.ref y))
    exact k a _ (.inl rfl) e
  | ext φ => obtain ⟨p, ⟨o, e⟩, st⟩ := x; exact ⟨st _ _ p fun o q => k _ _ (.inl rfl) q, ⟨o, k _ _ (.inl rfl) e⟩, st⟩
theorem HOk.lt (x : HOk P w H h) (e : H a = some o) : a < h.objs.size := (x a o e).lt
theorem HOk.fresh (x : HOk P w H h) (e : h.objs.size ≤ a) : H a = none := by
  cases q : H a with
  | none => rfl
  | some u => exact absurd (Nat.lt_of_lt_of_le (x.lt q) e) (Nat.lt_irrefl _)
theorem HOk.kept (x : HOk P w H h) (k : ∀ b u, h.get? b = some u → h'.get? b = some u) : HOk P w H h' := fun a o e =>
  (x a o e).stay (fun b u _ q => k b u q) (fun _ q => q) fun _ _ q => q
theorem HOk.laid (x : HOk P w H h) (k : ∀ b u, h.get? b = some u → h'.get? b = some u) (hp : h.objs.size ≤ a) (new : ObjOk P w (upd H a o) h' a o) : HOk P w (upd H a o) h' := fun b u e => by
  have hn := x.fresh hp
  by_cases hb : b = a
  · subst hb; rw [upd_same] at e; cases e; exact new
  · rw [upd_ne hb] at e
    exact (x b u e).stay (fun c v _ q => k c v q) (fun c q => by rw [upd_ne (ne_of_none q hn)]; exact q) fun c xs q => by rw [upd_ne (ne_of_none q hn)]; exact q
end
noncomputable def Rd (H : Hp) (a : Addr) (u : HO) : Prop := H a = some u ∨ ∃ o, H a = some (.frz o u)
theorem Rd.ok {P : Program} {w : World} {H : Hp} {h : Heap} {a : Addr} {u : HO} (r : Rd H a u) (x : HOk P w H h) : ObjOk P w H h a u := by
  rcases r with r | ⟨o, r⟩
  · exact x a u r
  · obtain ⟨_, q⟩ := x a _ r
    exact q
noncomputable def Mut : Option HO → Prop
  | some (.lst _) => True
  | some (.dK _) => True
  | some (.dT _) => True
  | some (.set _ _) => True
  | some (.ins _ _ _) => True
  | some (.ext _) => True
  | _ => False
section
variable {P : Program} {w : World} {H : Hp} {h h' : Heap} {x e : Addr} {o' : HO}
theorem HOk.write (ok : HOk P w H h) (mu : Mut (H x)) (he : e = x ∨ H e = some (.own x)) (k : ∀ b u, b ≠ e → h.get? b = some u → h'.get? b = some u) (heo : ∃ u, h'.get? e = some u)
    (new : ObjOk P w (upd H x o') h' x o') : HOk P w (upd H x o') h' := fun b u q => by
  have nown : ∀ c y, H c = some (.own y) → c ≠ x := fun c y r z => by subst z; rw [r] at mu; exact mu
  have ntup : ∀ c xs, H c = some (.tup xs) → c ≠ x := fun c xs r z => by subst z; rw [r] at mu; exact mu
  by_cases hb : b = x
  · subst hb; rw [upd_same] at q; cases q; exact new
  · rw [upd_ne hb] at q
    by_cases hbe : b = e
    · have q' : H b = some (.own x) := by
        rcases he with z | z
        · exact absurd (hbe.trans z) hb
        · rw [hbe]; exact z
      rw [q] at q'; cases q'
      obtain ⟨v, hv⟩ := heo
      exact ⟨v, by rw [hbe]; exact hv⟩
    · refine (ok b u q).stay (fun c v hc r => k c v ?_ r) (fun c r => by rw [upd_ne (nown c b r)]; exact r) fun c xs r => by rw [upd_ne (ntup c xs r)]; exact r
      rcases hc with rfl | hc
      · exact hbe
      · rintro rfl
        rcases he with z | z
        · exact nown c b hc z
        · rw [hc] at z; cases z; exact hb rfl
end
structure Un (fs ex : List Addr) (H H' : Hp) (h h' : Heap) : Prop where
  keep : ∀ b o, h.get? b = some o → H b = none → b ∉ fs → b ∉ ex → h'.get? b = some o
  slot : ∀ b o, h.get? b = some o → H b = none → b ∈ fs → b ∉ ex → ∃ sl, h'.get? b = some { o with slots := sl }
  free : ∀ b o, h.get? b = some o → H b = none → b ∉ ex → H' b = none
  there : ∀ b o, h.get? b = some o → b ∉ ex → ∃ o', h'.get? b = some o'
  tups : ∀ b xs, H b = some (.tup xs) → H' b = some (.tup xs)
  frzs : ∀ b o u, H b = some (.frz o u) → H' b = some (.frz o u)
  tbls : ∀ b ps, H b = some (.tbl ps) → ∃ more, H' b = some (.tbl (ps ++ more))
section
variable {fs fs' ex ex' : List Addr} {H H1 H2 : Hp} {h h1 h2 h' : Heap} {a x e : Addr} {o : HO}
theorem Un.any (u : Un fs ex H H1 h h1) {b : Addr} {ob : Obj} (q : h.get? b = some ob) (n : H b = none) (hx : b ∉ ex) : ∃ sl, h1.get? b = some { ob with slots := sl } := by
  by_cases hb : b ∈ fs
  · exact u.slot b ob q n hb hx
  · exact ⟨ob.slots, u.keep b ob q n hb hx⟩
theorem Un.kept (k : ∀ b u, h.get? b = some u → h'.get? b = some u) : Un fs ex H H h h' :=
  ⟨fun b ob q _ _ _ => k b ob q, fun b ob q _ _ _ => ⟨ob.slots, k b ob q⟩, fun _ _ _ n _ => n, fun b ob q _ => ⟨ob, k b ob q⟩, fun _ _ q => q, fun _ _ _ q => q, fun _ ps q => ⟨#[], by rw [q]; simp⟩⟩
theorem Un.refl : Un fs ex H H h h := Un.kept fun _ _ q => q
theorem Un.laid (k : ∀ b u, h.get? b = some u → h'.get? b = some u) (hp : h.objs.size ≤ a) (hn : H a = none) : Un fs ex H (upd H a o) h h' where
  keep := fun b u q _ _ _ => k b u q
  slot := fun b u q _ _ _ => ⟨u.slots, k b u q⟩
  free := fun b u q n _ => by rw [upd_ne (Nat.ne_of_lt (Nat.lt_of_lt_of_le (Heap.lt_size q) hp))]; exact n
  there := fun b u q _ => ⟨u, k b u q⟩
  tups := fun b xs q => by rw [upd_ne (ne_of_none q hn)]; exact q
  frzs := fun b u xs q => by rw [upd_ne (ne_of_none q hn)]; exact q
  tbls := fun b ps q => ⟨#[], by rw [upd_ne (ne_of_none q hn), q]; simp⟩
theorem Un.write (mu : Mut (H x)) (he : e = x ∨ H e = some (.own x)) (k : ∀ b u, b ≠ e → h.get? b = some u → h'.get? b = some u) (heo : ∃ u, h'.get? e = some u) : Un fs ex H (upd H x o) h h' := by
  have hx : ∀ b, H b = none → b ≠ x := fun b n z => by subst z; rw [n] at mu; exact mu
  have hb : ∀ b, H b = none → b ≠ e := fun b n z => by
    subst z
    rcases he with r | r
    · exact hx b n r
    · rw [n] at r; cases r
  have hm : ∀ b u, H b = some u → ¬ Mut (some u) → b ≠ x := fun b u q nm z => by subst z; rw [q] at mu; exact nm mu
  refine ⟨fun b u q n _ _ => k b u (hb b n) q, fun b u q n _ _ => ⟨u.slots, k b u (hb b n) q⟩, fun b u q n _ => by rw [upd_ne (hx b n)]; exact n, fun b u q _ => ?_,
    fun b xs q => by rw [upd_ne (hm b _ q fun z => z)]; exact q, fun b u xs q => by rw [upd_ne (hm b _ q fun z => z)]; exact q, fun b ps q => ⟨#[], by rw [upd_ne (hm b _ q fun z => z), q]; simp⟩⟩
  by_cases hbe : b = e
  · subst hbe; exact heo
  · exact ⟨u, k b u hbe q⟩
end
noncomputable def trk (h : Heap) (H : Hp) : List Addr := (List.range h.objs.size).filter fun a => (H a).isSome
noncomputable def hidT (h : Heap) (H : Hp) : Heap := PySem.W.hideAll h (trk h H)
theorem hidT_size (h : Heap) (H : Hp) : (hidT h H).objs.size = h.objs.size := PySem.W.hideAll_size _ _
theorem hidT_get {h : Heap} {H : Hp} {b : Addr} {o : Obj} (e : h.get? b = some o) (n : H b = none) : (hidT h H).get? b = some o :=
  PySem.W.hideAll_get _ e fun hm => by
    have q : (H b).isSome = true := (List.mem_filter.mp hm).2
    rw [n] at q; simp at q
theorem of_hidT {h : Heap} {H : Hp} {b : Addr} {o : Obj} (e : (hidT h H).get? b = some o) : h.get? b = some o ∧ H b = none := by
  have e' : h.get? b = some o := PySem.W.of_hideAll (trk h H) e
  refine ⟨e', ?_⟩
  cases q : H b with
  | none => rfl
  | some x =>
    have hm : b ∈ trk h H := List.mem_filter.mpr ⟨List.mem_range.mpr (Heap.lt_size e'), by simp [q]⟩
    have z : (hidT h H).get? b = none := PySem.W.hideAll_none (trk h H) hm
    rw [z] at e; cases e
end L2
namespace L2
open PySem PySem.Spec PyProof.Rows
structure Mod (K : PySem.W.Frag) (mg : Str → Option Value) (base : Heap) : Prop where
  kin : K.In base
  glob : base.Ns mainGlobals mg
  blt : ∃ mb, base.Ns builtinsNs mb ∧ ∀ x : Str, x ≠ "__name__" → mb x = bootBuiltins x
  nolimit : base.NoLimit
structure Cx where
  prog : Program
  w : World
  K : PySem.W.Frag
  mg : Str → Option Value
  base : Heap
  A : Around
  N : List Str
  s₀ : Shared
  H₀ : Hp
  env : Env
  outer : List Env
  stack : List Env
  ex : List Addr
  fn : Str → Bool
  calm : Bool
  pn : List (Addr × Obj)
  xe : Value → Shared → Prop
noncomputable def frs (l : List Env) : List Addr := l.filterMap (·.frame)
noncomputable abbrev Cx.fs (X : Cx) : List Addr := frs X.outer
noncomputable def Vis (sc : Scope) (x : Str) : Prop := sc.names.lookup x = some .local ∨ sc.names.lookup x = some .cell ∨ sc.names.lookup x = some .free
noncomputable def Loc (sc : Scope) (x : Str) : Prop := sc.names.lookup x = some .local ∨ sc.names.lookup x = some .cell
noncomputable def Look (env : Env) (h : Heap) (m : Str → Option Value) (x : Str) (u : Value) : Prop :=
  (env.kindOf x = some .local ∧ m x = some u) ∨ ((env.kindOf x = some .cell ∨ env.kindOf x = some .free) ∧ ∃ c, env.cells.lookup x = some c ∧ h.IsCell c (some u))
structure Cx.Ok (X : Cx) : Prop where
  mod : Mod X.K X.mg X.base
  kind : X.env.scope.kind = .function
  glob : X.env.globals = mainGlobals
  blt : X.env.builtins = builtinsNs
  above : X.s₀.heap.objs.size ≤ X.env.locals
  inj : ∀ x y c, X.env.cells.lookup x = some c → X.env.cells.lookup y = some c → x = y
  has : ∀ x, (X.env.kindOf x = some .cell ∨ X.env.kindOf x = some .free) → ∃ c, X.env.cells.lookup x = some c
  cab : ∀ x c, X.fn x = true → X.env.cells.lookup x = some c → X.s₀.heap.objs.size ≤ c
  hd : X.calm = true → X.A.handled = none
  frames : X.A.frames = some X.stack
  stk : X.stack = X.outer ∨ (X.stack = X.env :: X.outer ∧ X.env.frame = some X.env.locals)
  exf : ∀ b ∈ X.ex, b ≠ X.env.locals ∧ ∀ x c, X.env.cells.lookup x = some c → c ≠ b
  bs : ∀ b o, X.base.get? b = some o → X.s₀.heap.get? b = some o ∧ X.H₀ b = none
  bsz : X.base.objs.size ≤ X.s₀.heap.objs.size
  noex : ∀ b o, X.base.get? b = some o → b ∉ X.ex
  exfs : ∀ b ∈ X.ex, b ∉ X.fs
  funs : X.s₀.heap.FunFrames X.base X.outer
  frf : ∀ b ∈ X.fs, X.H₀ b = none
structure Inv (X : Cx) (pins : List (Addr × Obj)) (σ : List (Option V)) (H : Hp) (s : Shared) : Prop where
  ok : X.Ok
  os : s.os = X.s₀.os
  bare : AllBare s.gens
  base : Un X.fs X.ex X.H₀ H X.s₀.heap s.heap
  loc : ∃ m, s.heap.Ns X.env.locals m ∧ ∀ (i : Nat) (x : Str) (v : V), X.N[i]? = some x → σ[i]? = some (some v) → Vis X.env.scope x → ∃ u, RelV v u ∧ Look X.env s.heap m x u
  cell : ∀ x c, X.env.cells.lookup x = some c → ∃ v, s.heap.IsCell c v
  free : H X.env.locals = none
  freeC : ∀ x c, X.env.cells.lookup x = some c → H c = none
  pin : ∀ p ∈ X.pn ++ pins, s.heap.get? p.1 = some p.2 ∧ H p.1 = none ∧ p.1 ≠ X.env.locals ∧ p.1 ∉ X.fs ∧ ∀ v, p.2.data ≠ .cell v
  hok : HOk X.prog X.w H s.heap
  len : σ.length = X.N.length
section
variable {X : Cx} {pins : List (Addr × Obj)} {σ : List (Option V)} {H H' : Hp} {s : Shared} {h' : Heap}
theorem Cx.Ok.nofr (ok : X.Ok) {b : Addr} {o : Obj} (e : X.base.get? b = some o) : b ∉ X.fs := fun hb => by
  have := (ok.funs.mem hb).1
  rw [e] at this; cases this
theorem Inv.bs (I : Inv X pins σ H s) : ∀ b o, X.base.get? b = some o → s.heap.get? b = some o ∧ H b = none := fun b o e =>
  ⟨I.base.keep b o (I.ok.bs b o e).1 (I.ok.bs b o e).2 (I.ok.nofr e) (I.ok.noex b o e), I.base.free b o (I.ok.bs b o e).1 (I.ok.bs b o e).2 (I.ok.noex b o e)⟩
theorem Inv.bk (I : Inv X pins σ H s) : ∀ b o, X.base.get? b = some o → s.heap.get? b = some o := fun b o e => (I.bs b o e).1
theorem Inv.mod (I : Inv X pins σ H s) : Mod X.K X.mg X.base := I.ok.mod
theorem Inv.kIn (I : Inv X pins σ H s) : X.K.In s.heap := I.ok.mod.kin.keeps I.bk
theorem Inv.lt (I : Inv X pins σ H s) : X.env.locals < s.heap.objs.size := let ⟨_, hn, _⟩ := I.loc; hn.lt
theorem Inv.sz (I : Inv X pins σ H s) : X.s₀.heap.objs.size ≤ s.heap.objs.size := Nat.le_trans I.ok.above (Nat.le_of_lt I.lt)
theorem Inv.nofs (I : Inv X pins σ H s) {a : Addr} (h : s.heap.objs.size ≤ a) : a ∉ X.fs := fun hb => by
  obtain ⟨_, o, ho, _⟩ := I.ok.funs.mem hb
  exact absurd (Nat.lt_of_lt_of_le (Heap.lt_size ho) (Nat.le_trans I.sz h)) (Nat.lt_irrefl _)
theorem Inv.cne (I : Inv X pins σ H s) : ∀ x c, X.env.cells.lookup x = some c → c ≠ X.env.locals := fun x c e z => by
  obtain ⟨v, o, ho, hd⟩ := I.cell x c e
  obtain ⟨m, ⟨o', es, ep, ho', hd', _⟩, _⟩ := I.loc
  rw [z, ho'] at ho; cases ho; rw [hd'] at hd; cases hd
theorem Inv.funs (I : Inv X pins σ H s) : s.heap.FunFrames X.base X.outer := by
  have all : ∀ (l : List Env), (∀ b ∈ frs l, b ∈ X.fs) → X.s₀.heap.FunFrames X.base l → s.heap.FunFrames X.base l := by
    intro l
    induction l with
    | nil => intro _ _; trivial
    | cons env r ih =>
      intro hs hl
      obtain ⟨hk, ⟨L, o, hf, hn, ho, hd⟩, hr⟩ := hl
      have hL : L ∈ X.fs := hs L (by unfold frs; rw [List.filterMap_cons, hf]; exact List.mem_cons_self)
      obtain ⟨sl, e⟩ := I.base.slot L o ho (I.ok.frf L hL) hL fun z => I.ok.exfs L z hL
      exact ⟨hk, ⟨L, _, hf, hn, e, hd⟩, ih (fun b hb => hs b (by unfold frs; rw [List.filterMap_cons, hf]; exact List.mem_cons_of_mem _ hb)) hr⟩
  exact all X.outer (fun _ hb => hb) I.ok.funs
theorem Inv.stack (I : Inv X pins σ H s) : s.heap.FunFrames X.base X.stack := by
  rcases I.ok.stk with e | ⟨e, hf⟩
  · rw [e]; exact I.funs
  · rw [e]
    obtain ⟨m, hn, _⟩ := I.loc
    refine .cons (by rw [I.ok.kind]; decide) hf hn ?_ I.funs
    exact Heap.get?_none_of_le (Nat.le_trans I.ok.bsz I.ok.above)
theorem Inv.stkSub (I : Inv X pins σ H s) : ∀ b ∈ frs X.stack, b ∈ X.env.locals :: X.fs := fun b hb => by
  rcases I.ok.stk with e | ⟨e, hf⟩
  · rw [e] at hb; exact List.mem_cons_of_mem _ hb
  · rw [e] at hb
    unfold frs at hb
    rw [List.filterMap_cons, hf] at hb
    exact hb
theorem Inv.stkFree (I : Inv X pins σ H s) : ∀ b ∈ frs X.stack, H b = none := fun b hb => by
  rcases List.mem_cons.mp (I.stkSub b hb) with e | hb
  · rw [e]; exact I.free
  · obtain ⟨_, o, ho, _⟩ := I.ok.funs.mem hb
    exact I.base.free b o ho (I.ok.frf b hb) fun z => I.ok.exfs b z hb
theorem Inv.step {g' : Array GenState} {t' : Nat} {d' : Drawn} {ch : List Addr} (I : Inv X pins σ H s)
    (hch : ∀ b ∈ ch, (b ∈ X.ex ∨ X.s₀.heap.objs.size ≤ b) ∧ b ≠ X.env.locals ∧ (∀ x c, X.env.cells.lookup x = some c → c ≠ b) ∧ ∀ p ∈ X.pn ++ pins, p.1 ≠ b)
    (keep : ∀ b o, b ≠ X.env.locals → b ∉ X.fs → b ∉ ch → s.heap.get? b = some o → H b = none → h'.get? b = some o)
    (slot : ∀ b o, b ≠ X.env.locals → b ∈ X.fs → b ∉ ch → s.heap.get? b = some o → H b = none → ∃ sl, h'.get? b = some { o with slots := sl }) (free : ∀ b o, b ∉ ch → s.heap.get? b = some o → H b = none → H' b = none)
    (there : ∀ b o, b ∉ ch → s.heap.get? b = some o → ∃ o', h'.get? b = some o')
    (tups : ∀ b xs, H b = some (.tup xs) → H' b = some (.tup xs)) (frzs : ∀ b o u, H b = some (.frz o u) → H' b = some (.frz o u)) (tbls : ∀ b ps, H b = some (.tbl ps) → ∃ more, H' b = some (.tbl (ps ++ more)))
    (ns : ∀ m, s.heap.Ns X.env.locals m → h'.Ns X.env.locals m) (hok : HOk X.prog X.w H' h') (hg : AllBare g') :
    Inv X pins σ H' { s with heap := h', gens := g', drawn := d', toks := t' } := by
  have neL : ∀ b o, X.s₀.heap.get? b = some o → b ≠ X.env.locals := fun b o e => Nat.ne_of_lt (Nat.lt_of_lt_of_le (Heap.lt_size e) I.ok.above)
  have neC : ∀ b o, X.s₀.heap.get? b = some o → b ∉ X.ex → b ∉ ch := fun b o e hx hb => by
    rcases (hch b hb).1 with z | z
    · exact hx z
    · exact absurd (Nat.lt_of_lt_of_le (Heap.lt_size e) z) (Nat.lt_irrefl _)
  have cellK : ∀ x c, X.env.cells.lookup x = some c → ∀ v, s.heap.IsCell c v → h'.IsCell c v := fun x c e v ⟨o, ho, hd⟩ => by
    have nch : c ∉ ch := fun z => (hch c z).2.2.1 x c e rfl
    by_cases hc : c ∈ X.fs
    · obtain ⟨sl, q⟩ := slot c o (I.cne x c e) hc nch ho (I.freeC x c e)
      exact ⟨_, q, hd⟩
    · exact ⟨o, keep c o (I.cne x c e) hc nch ho (I.freeC x c e), hd⟩
  refine ⟨I.ok, I.os, hg, ⟨fun b o e n hb hx => ?_, fun b o e n hb hx => ?_, fun b o e n hx => ?_, fun b o e hx => ?_, fun b xs e => tups b xs (I.base.tups b xs e), fun b o xs e => frzs b o xs (I.base.frzs b o xs e), fun b ps e => ?_⟩, ?_, fun x c e => ?_, ?_, fun x c e => ?_, fun p hp => ?_, hok, I.len⟩
  · exact keep b o (neL b o e) hb (neC b o e hx) (I.base.keep b o e n hb hx) (I.base.free b o e n hx)
  · obtain ⟨sl, e1⟩ := I.base.slot b o e n hb hx
    obtain ⟨sl', e2⟩ := slot b _ (neL b o e) hb (neC b o e hx) e1 (I.base.free b o e n hx)
    exact ⟨sl', e2⟩
  · obtain ⟨o', e1⟩ := I.base.there b o e hx
    exact free b o' (neC b o e hx) e1 (I.base.free b o e n hx)
  · obtain ⟨o', e1⟩ := I.base.there b o e hx
    exact there b o' (neC b o e hx) e1
  · obtain ⟨m1, e1⟩ := I.base.tbls b ps e
    obtain ⟨m2, e2⟩ := tbls b _ e1
    exact ⟨m1 ++ m2, by rw [e2, Array.append_assoc]⟩
  · obtain ⟨m, hn, hl⟩ := I.loc
    refine ⟨m, ns m hn, fun i x v e1 e2 e3 => ?_⟩
    obtain ⟨u, r, l⟩ := hl i x v e1 e2 e3
    refine ⟨u, r, ?_⟩
    rcases l with l | ⟨k, c, e, z⟩
    · exact .inl l
    · exact .inr ⟨k, c, e, cellK x c e _ z⟩
  · obtain ⟨v, z⟩ := I.cell x c e
    exact ⟨v, cellK x c e v z⟩
  · obtain ⟨m, ⟨o, _, _, ho, _⟩, _⟩ := I.loc
    exact free _ o (fun z => (hch _ z).2.1 rfl) ho I.free
  · obtain ⟨v, o, ho, hd⟩ := I.cell x c e
    exact free c o (fun z => (hch c z).2.2.1 x c e rfl) ho (I.freeC x c e)
  · obtain ⟨e, n, ne, nf, d⟩ := I.pin p hp
    have nch : p.1 ∉ ch := fun z => (hch p.1 z).2.2.2 p hp rfl
    exact ⟨keep p.1 p.2 ne nf nch e n, free p.1 p.2 nch e n, ne, nf, d⟩
theorem Inv.un {t' : Nat} (I : Inv X pins σ H s) (u : Un X.fs [] H H' s.heap h') (hok : HOk X.prog X.w H' h') : Inv X pins σ H' { s with heap := h', toks := t' } := by
  obtain ⟨m, ⟨o, es, ep, ho, r⟩, _⟩ := id I.loc
  obtain ⟨sl, hL⟩ := u.any ho I.free (by simp)
  exact I.step (g' := s.gens) (d' := s.drawn) (ch := []) (fun _ z => nomatch z) (fun b o _ hb _ e n => u.keep b o e n hb (by simp)) (fun b o _ hb _ e n => u.slot b o e n hb (by simp)) (fun b o _ e n => u.free b o e n (by simp)) (fun b o _ e => u.there b o e (by simp)) u.tups u.frzs u.tbls (fun m' hm => by
    obtain ⟨o', es', ep', ho', r'⟩ := hm
    rw [ho] at ho'; cases ho'
    exact ⟨_, es', ep', hL, r'⟩) hok I.bare
theorem Inv.call {g' : Array GenState} {t' : Nat} {d' : Drawn} {ch : List Addr} (I : Inv X pins σ H s) (u : Un (frs X.stack) ch H H' s.heap h') (hok : HOk X.prog X.w H' h') (hg : AllBare g')
    (hch : ∀ b ∈ ch, (b ∈ X.ex ∨ X.s₀.heap.objs.size ≤ b) ∧ b ≠ X.env.locals ∧ (∀ x c, X.env.cells.lookup x = some c → c ≠ b) ∧ ∀ p ∈ X.pn ++ pins, p.1 ≠ b) :
    Inv X pins σ H' { s with heap := h', gens := g', drawn := d', toks := t' } := by
  obtain ⟨m, ⟨o, es, ep, ho, r⟩, _⟩ := id I.loc
  obtain ⟨sl, hL⟩ := u.any ho I.free fun z => (hch _ z).2.1 rfl
  exact I.step (ch := ch) hch (fun b o hL hb hc e n => u.keep b o e n (fun z => (List.mem_cons.mp (I.stkSub b z)).elim hL hb) hc) (fun b o _ _ hc e n => u.any e n hc) (fun b o hc e n => u.free b o e n hc) (fun b o hc e => u.there b o e hc) u.tups u.frzs u.tbls (fun m' hm => by
    obtain ⟨o', es', ep', ho', r'⟩ := hm
    rw [ho] at ho'; cases ho'
    exact ⟨_, es', ep', hL, r'⟩) hok hg
theorem Inv.turned {t' : Nat} {it : Addr} (I : Inv X pins σ H s) (k : ∀ b o, b ≠ it → s.heap.get? b = some o → h'.get? b = some o) (hn : H it = none) (hL : it ≠ X.env.locals)
    (h1 : it ∈ X.ex ∨ X.s₀.heap.objs.size ≤ it) (h2 : ∀ x c, X.env.cells.lookup x = some c → c ≠ it) (h3 : ∀ p ∈ X.pn ++ pins, p.1 ≠ it) : Inv X pins σ H { s with heap := h', toks := t' } := by
  have nit : ∀ b u, H b = some u → b ≠ it := fun b u e z => by rw [z, hn] at e; cases e
  refine I.step (g' := s.gens) (d' := s.drawn) (ch := [it]) (fun b hb => ?_) (fun b o _ _ hc e _ => k b o (fun z => hc (by simp [z])) e) (fun b o _ _ hc e _ => ⟨o.slots, k b o (fun z => hc (by simp [z])) e⟩) (fun _ _ _ _ n => n)
    (fun b o hc e => ⟨o, k b o (fun z => hc (by simp [z])) e⟩) (fun _ _ e => e) (fun _ _ _ e => e) (fun b ps e => ⟨#[], by rw [e]; simp⟩) (fun m hm => ?_) (fun b u e => ?_) I.bare
  · have e : b = it := by simpa using hb
    subst e
    exact ⟨h1, hL, h2, h3⟩
  · obtain ⟨o, es, ep, ho, r⟩ := hm
    exact ⟨o, es, ep, k _ o (Ne.symm hL) ho, r⟩
  · refine (I.hok b u e).stay (fun c v hc q => k c v ?_ q) (fun _ q => q) fun _ _ q => q
    rcases hc with z | z
    · rw [z]; exact nit b u e
    · exact nit c _ z
theorem Inv.tok (I : Inv X pins σ H s) (t : Nat) : Inv X pins σ H { s with toks := t } := I.un (h' := s.heap) (t' := t) Un.refl I.hok
theorem Inv.kept {t' : Nat} (I : Inv X pins σ H s) (k : ∀ b u, s.heap.get? b = some u → h'.get? b = some u) : Inv X pins σ H { s with heap := h', toks := t' } := I.un (Un.kept k) (I.hok.kept k)
theorem Inv.laid {a : Addr} {o : HO} {t' : Nat} (I : Inv X pins σ H s) (k : ∀ b u, s.heap.get? b = some u → h'.get? b = some u) (hp : s.heap.objs.size ≤ a) (new : ObjOk X.prog X.w (upd H a o) h' a o) :
    Inv X pins σ (upd H a o) { s with heap := h', toks := t' } := I.un (Un.laid k hp (I.hok.fresh hp)) (I.hok.laid k hp new)
theorem Inv.write {x e : Addr} {o : HO} {t' : Nat} (I : Inv X pins σ H s) (mu : Mut (H x)) (he : e = x ∨ H e = some (.own x)) (k : ∀ b u, b ≠ e → s.heap.get? b = some u → h'.get? b = some u) (heo : ∃ u, h'.get? e = some u)
    (new : ObjOk X.prog X.w (upd H x o) h' x o) : Inv X pins σ (upd H x o) { s with heap := h', toks := t' } := I.un (Un.write mu he k heo) (I.hok.write mu he k heo new)
theorem Inv.pins_of {pins' : List (Addr × Obj)} (I : Inv X pins σ H s) (h : ∀ p ∈ pins', s.heap.get? p.1 = some p.2 ∧ H p.1 = none ∧ p.1 ≠ X.env.locals ∧ p.1 ∉ X.fs ∧ ∀ v, p.2.data ≠ .cell v) : Inv X pins' σ H s :=
  ⟨I.ok, I.os, I.bare, I.base, I.loc, I.cell, I.free, I.freeC, fun p hp => (List.mem_append.mp hp).elim (fun z => I.pin p (List.mem_append_left _ z)) (h p), I.hok, I.len⟩
theorem nodup_ix {N : List Str} (hN : N.Nodup) {i j : Nat} {x : Str} (a : N[i]? = some x) (b : N[j]? = some x) : i = j := by
  obtain ⟨h1, e1⟩ := List.getElem?_eq_some_iff.mp a
  obtain ⟨h2, e2⟩ := List.getElem?_eq_some_iff.mp b
  exact (List.getElem_inj hN).mp (e1.trans e2.symm)
theorem store_ok2 {M : Model} {A : Around} {E : Value → Shared → Prop} {i : Nat} {x : Str} {v : V} {u : Value} {Q : Unit → Shared → Prop} (I : Inv X pins σ H s) (hN : X.N.Nodup) (hi : X.N[i]? = some x) (hx : Loc X.env.scope x) (r : RelV v u)
    (h : ∀ s', Inv X pins (σ.set i (some v)) H s' → (∃ a, Heap.SameBut a s.heap s'.heap ∧ (a = X.env.locals ∨ X.env.cells.lookup x = some a)) → Q () s') (hf : X.fn x = true ∨ X.env.scope.names.lookup x = some .local := by first | exact .inl rfl | exact .inr rfl | assumption) : wpAny M A (storeName X.env x u) Q E s := by
  obtain ⟨m, hn, hl⟩ := id I.loc
  have hcls : (X.env.scope.kind == .class || (X.env.scope.kind == .module && X.env.locals != X.env.globals)) = false := by rw [I.ok.kind]; rfl
  have hiσ : i < σ.length := by rw [I.len]; exact (List.getElem?_eq_some_iff.mp hi).1
  have cne := I.cne
  have tracked : ∀ {a : Addr} {h' : Heap}, (∃ o, s.heap.get? a = some o ∧ H a = none) → Heap.SameBut a s.heap h' → HOk X.prog X.w H h' := fun {a h'} ha hs b ob e => by
    obtain ⟨_, _, hfree⟩ := ha
    refine (I.hok b ob e).stay (fun c w' hc q => (hs.2 c ?_).trans q) (fun _ q => q) fun _ _ q => q
    rintro rfl
    rcases hc with rfl | hc
    · rw [hfree] at e; cases e
    · rw [hfree] at hc; cases hc
  rcases hx with hk | hk
  · refine wpAny_storeName_local hk hn (fun h' hn' hs => ?_) hcls
    obtain ⟨oL, _, _, hoL, _⟩ := id hn
    refine h _ ⟨I.ok, I.os, I.bare, ⟨fun b o e n hb hx => ?_, fun b o e n hb hx => ?_, I.base.free, fun b o e hx => ?_, I.base.tups, I.base.frzs, I.base.tbls⟩, ⟨_, hn', fun j y v' e1 e2 e3 => ?_⟩, fun y c e => ?_, I.free, I.freeC, fun p hp => ?_, tracked ⟨oL, hoL, I.free⟩ hs, by simpa using I.len⟩ ⟨_, hs, .inl rfl⟩
    · exact (hs.2 b (Nat.ne_of_lt (Nat.lt_of_lt_of_le (Heap.lt_size e) I.ok.above))).trans (I.base.keep b o e n hb hx)
    · obtain ⟨sl, e1⟩ := I.base.slot b o e n hb hx
      exact ⟨sl, (hs.2 b (Nat.ne_of_lt (Nat.lt_of_lt_of_le (Heap.lt_size e) I.ok.above))).trans e1⟩
    · obtain ⟨o', e1⟩ := I.base.there b o e hx
      exact ⟨o', (hs.2 b (Nat.ne_of_lt (Nat.lt_of_lt_of_le (Heap.lt_size e) I.ok.above))).trans e1⟩
    · by_cases hj : j = i
      · subst hj
        rw [hi] at e1; cases e1
        rw [List.getElem?_set_self hiσ] at e2
        cases e2
        exact ⟨u, r, .inl ⟨hk, by simp⟩⟩
      · rw [List.getElem?_set_ne (Ne.symm hj)] at e2
        obtain ⟨u', r', q⟩ := hl j y v' e1 e2 e3
        refine ⟨u', r', ?_⟩
        rcases q with ⟨k, e⟩ | ⟨k, c, e, z⟩
        · refine .inl ⟨k, ?_⟩
          have : y ≠ x := fun e => hj (nodup_ix hN e1 (e ▸ hi))
          simp [this, e]
        · exact .inr ⟨k, c, e, z.sameBut hs (cne y c e)⟩
    · obtain ⟨w', z⟩ := I.cell y c e
      exact ⟨w', z.sameBut hs (cne y c e)⟩
    · obtain ⟨e, n, ne, nf, d⟩ := I.pin p hp
      exact ⟨(hs.2 p.1 ne).trans e, n, ne, nf, d⟩
  · have hfn : X.fn x = true := by
      rcases hf with z | z
      · exact z
      · rw [z] at hk; cases hk
    obtain ⟨c, hc⟩ := I.ok.has x (.inl hk)
    obtain ⟨w', z⟩ := I.cell x c hc
    refine wpAny_storeName_cell I.ok.kind hk hc z (fun h' hc' hs => ?_)
    obtain ⟨oc, hoc, hocd⟩ := id z
    refine h { s with heap := h' } ⟨I.ok, I.os, I.bare, ⟨fun b o e n hb hx => ?_, fun b o e n hb hx => ?_, I.base.free, fun b o e hx => ?_, I.base.tups, I.base.frzs, I.base.tbls⟩, ⟨m, hn.sameBut hs (Ne.symm (cne x c hc)), fun j y v' e1 e2 e3 => ?_⟩, fun y c' e => ?_, I.free, I.freeC, fun p hp => ?_, tracked ⟨oc, hoc, I.freeC x c hc⟩ hs, by simpa using I.len⟩ ⟨c, hs, .inr hc⟩
    · exact (hs.2 b (Nat.ne_of_lt (Nat.lt_of_lt_of_le (Heap.lt_size e) (I.ok.cab x c hfn hc)))).trans (I.base.keep b o e n hb hx)
    · obtain ⟨sl, e1⟩ := I.base.slot b o e n hb hx
      exact ⟨sl, (hs.2 b (Nat.ne_of_lt (Nat.lt_of_lt_of_le (Heap.lt_size e) (I.ok.cab x c hfn hc)))).trans e1⟩
    · obtain ⟨o', e1⟩ := I.base.there b o e hx
      exact ⟨o', (hs.2 b (Nat.ne_of_lt (Nat.lt_of_lt_of_le (Heap.lt_size e) (I.ok.cab x c hfn hc)))).trans e1⟩
    · by_cases hj : j = i
      · subst hj
        rw [hi] at e1; cases e1
        rw [List.getElem?_set_self hiσ] at e2
        cases e2
        exact ⟨u, r, .inr ⟨.inl hk, c, hc, hc'⟩⟩
      · rw [List.getElem?_set_ne (Ne.symm hj)] at e2
        obtain ⟨u', r', q⟩ := hl j y v' e1 e2 e3
        refine ⟨u', r', ?_⟩
        rcases q with q | ⟨k, c', e, z'⟩
        · exact .inl q
        · refine .inr ⟨k, c', e, z'.sameBut hs ?_⟩
          rintro rfl
          exact hj (nodup_ix hN e1 (I.ok.inj _ _ _ e hc ▸ hi))
    · by_cases hcc : c' = c
      · subst hcc; exact ⟨_, hc'⟩
      · obtain ⟨w2, z2⟩ := I.cell y c' e
        exact ⟨w2, z2.sameBut hs hcc⟩
    · obtain ⟨e, n, ne, nf, d⟩ := I.pin p hp
      refine ⟨(hs.2 p.1 ?_).trans e, n, ne, nf, d⟩
      intro q
      rw [q, hoc] at e
      have q' : oc = p.2 := Option.some.inj e
      exact d w' (by rw [← q']; exact hocd)
theorem store_ok {M : Model} {A : Around} {E : Value → Shared → Prop} {i : Nat} {x : Str} {v : V} {u : Value} {Q : Unit → Shared → Prop} (I : Inv X pins σ H s) (hN : X.N.Nodup) (hi : X.N[i]? = some x) (hx : Loc X.env.scope x) (r : RelV v u)
    (h : ∀ s', Inv X pins (σ.set i (some v)) H s' → Q () s') (hf : X.fn x = true ∨ X.env.scope.names.lookup x = some .local := by first | exact .inl rfl | exact .inr rfl | assumption) : wpAny M A (storeName X.env x u) Q E s :=
  store_ok2 I hN hi hx r (fun s' I' _ => h s' I') hf
end
noncomputable abbrev XK := Value → Option Addr → Hp → Prop
noncomputable abbrev St := List (Option V)
noncomputable abbrev VK := V → Hp → Prop
noncomputable abbrev TE := St → Hp → VK → Prop
noncomputable abbrev TT := St → Hp → (Bool → Hp → Prop) → Prop
noncomputable abbrev TA := St → Hp → (List V → Hp → Prop) → Prop
structure Ends where
  nx : St → Hp → Prop
  rt : VK
  bk : St → Hp → Prop := fun _ _ => False
  ct : St → Hp → Prop := fun _ _ => False
noncomputable abbrev TS := Ends → St → Hp → Prop
noncomputable def EP (X : Cx) (pins : List (Addr × Obj)) (σ : St) (Q : VK) (u : Value) (s' : Shared) : Prop := ∃ v H', Inv X pins σ H' s' ∧ RelV v u ∧ Q v H'
noncomputable def TP (X : Cx) (pins : List (Addr × Obj)) (σ : St) (Q : Bool → Hp → Prop) (b : Bool) (s' : Shared) : Prop := ∃ H', Inv X pins σ H' s' ∧ Q b H'
noncomputable def AP (X : Cx) (pins : List (Addr × Obj)) (σ : St) (Q : List V → Hp → Prop) (us : List Value) (s' : Shared) : Prop := ∃ vs H', Inv X pins σ H' s' ∧ Vals vs us ∧ Q vs H'
noncomputable def SP (X : Cx) (pins : List (Addr × Obj)) (D : Ends) (f : Flow) (s' : Shared) : Prop :=
  match f with
  | .next => ∃ σ' H', Inv X pins σ' H' s' ∧ D.nx σ' H'
  | .brk => ∃ σ' H', Inv X pins σ' H' s' ∧ D.bk σ' H'
  | .cont => ∃ σ' H', Inv X pins σ' H' s' ∧ D.ct σ' H'
  | .ret u => ∃ v σ' H', Inv X pins σ' H' s' ∧ RelV v u ∧ D.rt v H'
noncomputable def PE (X : Cx) (e : Expr) (t : TE) : Prop :=
  ∀ (pins : List (Addr × Obj)) (s : Shared) (σ : St) (H : Hp) (Q : VK), Inv X pins σ H s → t σ H Q → wpAny (model X.prog X.w) X.A (eval e X.env) (EP X pins σ Q) X.xe s
noncomputable def PT (X : Cx) (e : Expr) (t : TT) : Prop :=
  ∀ (pins : List (Addr × Obj)) (s : Shared) (σ : St) (H : Hp) (Q : Bool → Hp → Prop), Inv X pins σ H s → t σ H Q → wpAny (model X.prog X.w) X.A (isTrue e X.env (eval e X.env)) (TP X pins σ Q) X.xe s
noncomputable def PW (X : Cx) (e : Expr) (t : TT) : Prop :=
  ∀ (whole : Sem Value) (pins : List (Addr × Obj)) (s : Shared) (σ : St) (H : Hp) (Q : Bool → Hp → Prop), Inv X pins σ H s → t σ H Q → wpAny (model X.prog X.w) X.A (isTrue e X.env whole) (TP X pins σ Q) X.xe s
theorem PW.pt {X : Cx} {e : Expr} {t : TT} (h : PW X e t) : PT X e t := h _
noncomputable def PA (X : Cx) (es : List Expr) (t : TA) : Prop :=
  ∀ (pos : Pos) (pins : List (Addr × Obj)) (s : Shared) (σ : St) (H : Hp) (Q : List V → Hp → Prop), Inv X pins σ H s → t σ H Q → wpAny (model X.prog X.w) X.A (spliced (backTo pos (starEach es X.env))) (AP X pins σ Q) X.xe s
noncomputable def PS (X : Cx) (st : Stmt) (t : TS) : Prop :=
  ∀ (pins : List (Addr × Obj)) (s : Shared) (σ : St) (H : Hp) (D : Ends), Inv X pins σ H s → t D σ H → wpAny (model X.prog X.w) X.A (exec st X.env) (SP X pins D) X.xe s
noncomputable def PSs (X : Cx) (st : List Stmt) (t : TS) : Prop :=
  ∀ (pins : List (Addr × Obj)) (s : Shared) (σ : St) (H : Hp) (D : Ends), Inv X pins σ H s → t D σ H → wpAny (model X.prog X.w) X.A (execs st X.env) (SP X pins D) X.xe s
theorem thn {α : Type} {t : Sem α} {Q Q' : α → Shared → Prop} {M : Model} {A : Around} {E : Value → Shared → Prop} {s : Shared} (h : wpAny M A t Q E s) (hQ : ∀ a s, Q a s → Q' a s) : wpAny M A t Q' E s := wpAny_mono h hQ fun _ _ x => x
end L2
namespace L2
open PySem PySem.Spec PyProof.Rows
section
variable {X : Cx}
noncomputable def tVar (i : Nat) : TE := fun σ H Q => ∃ v, σ[i]? = some (some v) ∧ Q v H
noncomputable def tC (v : V) : TE := fun _ H Q => Q v H
theorem pe_var {i : Nat} {x : Str} {pos : Pos} (hN : X.N[i]? = some x) (hv : Vis X.env.scope x) (hd : (x == ("__debug__" : Str)) = false := by decide) (hcd : (x == ("__classdict__" : Str)) = false := by decide) : PE X (.Name x pos) (tVar i) := by
  intro pins s σ H Q I h
  obtain ⟨v, e, h⟩ := h
  obtain ⟨m, hn, hl⟩ := I.loc
  obtain ⟨u, r, l⟩ := hl i x v hN e hv
  have fin : EP X pins σ Q u s := ⟨v, H, I, r, h⟩
  rcases l with ⟨hk, hm⟩ | ⟨hk, c, hc, hcell⟩
  · exact wpAny_Name (wpAny_loadName_local I.ok.kind hk hn hm fin) hd
  · rcases hk with hk | hk
    · exact wpAny_Name (wpAny_loadName_cell I.ok.kind hk hc hcell fin) hd
    · exact wpAny_Name (wpAny_loadName_free I.ok.kind hk hc hcell fin hcd) hd
theorem pe_int {i j pos} : PE X (.Constant (.int i) j pos) (tC (.int i)) := fun _ _ _ H _ I h => wpAny_Constant_int ⟨.int i, H, I.tok _, ⟨_, rfl⟩, h⟩
theorem pe_bl {b j pos} : PE X (.Constant (.bool b) j pos) (tC (.bl b)) := fun _ _ _ H _ I h => Constant_bool ⟨.bl b, H, I, rfl, h⟩
theorem pe_non {j pos} : PE X (.Constant .none j pos) (tC .non) := fun _ _ _ H _ I h => Constant_none ⟨.non, H, I, rfl, h⟩
noncomputable def Gl (X : Cx) (x : Str) : Prop := X.env.kindOf x = some .globalImplicit
theorem ld_glob {E : Value → Shared → Prop} {pins : List (Addr × Obj)} {s : Shared} {σ : St} {H : Hp} {x : Str} {u : Value} {pos : Pos} {Q : Value → Shared → Prop} (I : Inv X pins σ H s) (hg : Gl X x) (hm : X.mg x = some u) (h : Q u s)
    (hd : (x == ("__debug__" : Str)) = false := by decide) : wpAny (model X.prog X.w) X.A (eval (.Name x pos) X.env) Q E s :=
  Calls.Name_function_global I.ok.kind hg (Calls.loadGlobal_global (by rw [I.ok.glob]; exact I.mod.glob.keeps I.bk) hm h) hd
theorem ld_blt {E : Value → Shared → Prop} {pins : List (Addr × Obj)} {s : Shared} {σ : St} {H : Hp} {x : Str} {u : Value} {pos : Pos} {Q : Value → Shared → Prop} (I : Inv X pins σ H s) (hg : Gl X x) (hm : X.mg x = none) (hv : bootBuiltins x = some u) (h : Q u s)
    (hn : x ≠ "__name__" := by decide) (hd : (x == ("__debug__" : Str)) = false := by decide) : wpAny (model X.prog X.w) X.A (eval (.Name x pos) X.env) Q E s := by
  obtain ⟨mb, h1, h2⟩ := I.mod.blt
  exact Calls.Name_function_global I.ok.kind hg (Calls.loadGlobal_builtin (by rw [I.ok.glob]; exact I.mod.glob.keeps I.bk) hm (by rw [I.ok.blt]; exact h1.keeps I.bk) ((h2 x hn).trans hv) h) hd
theorem pe_glob {x : Str} {v : V} {u : Value} {pos : Pos} (hg : Gl X x) (hm : X.mg x = some u) (r : RelV v u) (hd : (x == ("__debug__" : Str)) = false := by decide) : PE X (.Name x pos) (tC v) :=
  fun _ _ _ H _ I h => ld_glob I hg hm ⟨v, H, I, r, h⟩ hd
variable {a b : Expr} {ta tb : TE} {pos : Pos}
noncomputable def tB (t : TE) : TT := fun σ H Q => t σ H fun x H1 => ∃ c, x = .bl c ∧ Q c H1
theorem pt_val {e : Expr} {t : TE} (h : PE X e t) (he : ∀ whole, isTrue e X.env whole = (do let v ← whole; standAt e.pos; holding [v] (truthy v)) := by intro _; rfl) : PT X e (tB t) := by
  intro pins s σ H Q I hw
  refine isTrue_plain (thn (h pins s σ H _ I hw) ?_) (he _)
  rintro v s1 ⟨x, H1, I1, r1, q1⟩
  obtain ⟨d, rfl, q⟩ := q1
  cases r1
  exact wpAny_truthy_bool ⟨H1, I1, q⟩
variable {tA tB' : TT} {rest : List Expr}
noncomputable def tAnd (t u : TT) : TT := fun σ H Q => t σ H fun c H1 => if c = true then u σ H1 Q else Q false H1
noncomputable def tOr (t u : TT) : TT := fun σ H Q => t σ H fun c H1 => if c = true then Q true H1 else u σ H1 Q
noncomputable def tNot (t : TT) : TT := fun σ H Q => t σ H fun c H1 => Q (!c) H1
theorem pw_and1 (ha : PT X a tA) : PW X (.BoolOp .And [a] pos) tA := by
  intro wh pins s σ H Q I h
  refine isTrue_and (thn (ha pins s σ H Q I h) fun c s1 e => ?_)
  cases c with
  | true => exact isTrue_and_nil e
  | false => exact e
theorem pw_or1 (ha : PT X a tA) : PW X (.BoolOp .Or [a] pos) tA := by
  intro wh pins s σ H Q I h
  refine isTrue_or (thn (ha pins s σ H Q I h) fun c s1 e => ?_)
  cases c with
  | false => exact isTrue_or_nil e
  | true => exact e
theorem pw_and (ha : PT X a tA) (hb : PW X (.BoolOp .And (b :: rest) pos) tB') : PW X (.BoolOp .And (a :: b :: rest) pos) (tAnd tA tB') := by
  intro wh pins s σ H Q I h
  refine isTrue_and (thn (ha pins s σ H _ I h) ?_)
  rintro c s1 ⟨H1, I1, q1⟩
  cases c with
  | true => exact hb wh pins s1 σ H1 Q I1 q1
  | false => exact ⟨H1, I1, q1⟩
theorem pw_or (ha : PT X a tA) (hb : PW X (.BoolOp .Or (b :: rest) pos) tB') : PW X (.BoolOp .Or (a :: b :: rest) pos) (tOr tA tB') := by
  intro wh pins s σ H Q I h
  refine isTrue_or (thn (ha pins s σ H _ I h) ?_)
  rintro c s1 ⟨H1, I1, q1⟩
  cases c with
  | true => exact ⟨H1, I1, q1⟩
  | false => exact hb wh pins s1 σ H1 Q I1 q1
theorem pt_not (ha : PT X a tA) : PT X (.UnaryOp .Not a pos) (tNot tA) := by
  intro pins s σ H Q I h
  exact isTrue_not (ha pins s σ H (fun c H1 => Q (!c) H1) I h)
noncomputable def tAndV (ta tb : TE) : TE := fun σ H Q => ta σ H fun x H1 => ∃ c, x = .bl c ∧ if c = true then tb σ H1 Q else Q (.bl false) H1
theorem pe_one {op} {t : TE} (h : PE X a t) : PE X (.BoolOp op [a] pos) t := fun pins s σ H Q I hw => BoolOp_one (h pins s σ H Q I hw)
theorem pe_and (ha : PE X a ta) (hb : PE X (.BoolOp .And (b :: rest) pos) tb) : PE X (.BoolOp .And (a :: b :: rest) pos) (tAndV ta tb) := by
  intro pins s σ H Q I h
  refine BoolOp_and (thn (ha pins s σ H _ I h) ?_)
  rintro v s1 ⟨x, H1, I1, r1, q1⟩
  obtain ⟨c, rfl, q1⟩ := q1
  cases r1
  refine wpAny_truthy_bool ?_
  cases c with
  | true => exact hb pins s1 σ H1 Q I1 q1
  | false => exact ⟨.bl false, H1, I1, rfl, q1⟩
end
end L2
namespace L2
open PySem PySem.Spec PyProof.Rows
noncomputable def SqL (K : PySem.W.Frag) (H : Hp) (a : Addr) (xs : List V) : Prop :=
  Rd H a (.lst xs) ∨
    ∃ (o : Obj) (its : Array Value) (n : Nat), K.lookup a = some o ∧ o.cls = .type "list" ∧ o.dict = none ∧ o.data = .seq its n ∧ its.size ≤ sizeLine ∧ Vals xs its.toList
noncomputable def SqT (K : PySem.W.Frag) (H : Hp) (a : Addr) (xs : List V) : Prop :=
  Rd H a (.tup xs) ∨
    ∃ (o : Obj) (its : Array Value) (n : Nat), K.lookup a = some o ∧ o.cls = .type "tuple" ∧ o.data = .seq its n ∧ its.size ≤ sizeLine ∧ Vals xs its.toList
noncomputable def absV : Value → Option V
  | .none => some .non
  | .bool b => some (.bl b)
  | .int i _ => some (.int i)
  | .str x _ => some (.str x)
  | .bytes b _ => some (.byt b)
  | .float b _ => some (.flt b)
  | .ref a => some (.ref a)
  | .type n => some (.ty n)
  | _ => none
theorem RelV.abs {x : V} {u : Value} (r : RelV x u) : absV u = some x := by
  cases x with
  | non => cases r; rfl
  | bl _ => cases r; rfl
  | int _ => obtain ⟨t, rfl⟩ := r; rfl
  | str _ => obtain ⟨t, rfl⟩ := r; rfl
  | byt _ => obtain ⟨t, rfl⟩ := r; rfl
  | flt _ => obtain ⟨t, rfl⟩ := r; rfl
  | ref _ => cases r; rfl
  | ty _ => cases r; rfl
theorem RelV.inj {x y : V} {u : Value} (r : RelV x u) (q : RelV y u) : x = y := Option.some.inj (r.abs.symm.trans q.abs)
theorem Vals.inj : ∀ {xs ys : List V} {us : List Value}, Vals xs us → Vals ys us → xs = ys
  | _, _, _, .nil, .nil => rfl
  | _, _, _, .cons r t, .cons r' t' => by rw [r.inj r', Vals.inj t t']
section
variable {X : Cx} {pins : List (Addr × Obj)} {σ : St} {H : Hp} {s : Shared} {a : Addr} {xs ys : List V}
theorem SqL.of {K : PySem.W.Frag} (h : H a = some (.lst xs)) : SqL K H a xs := .inl (.inl h)
theorem SqT.of {K : PySem.W.Frag} (h : H a = some (.tup xs)) : SqT K H a xs := .inl (.inl h)
theorem Inv.list (I : Inv X pins σ H s) (h : SqL X.K H a xs) : ∃ its : List Value, Vals xs its ∧ PlainL s.heap a its.toArray ∧ xs.length ≤ sizeLine := by
  rcases h with h | ⟨o, its, n, hk, hc, hd, hs, hz, r⟩
  · obtain ⟨z, its, n, r, e⟩ := h.ok I.hok
    exact ⟨its, r, ⟨_, n, e, rfl, rfl, rfl⟩, z⟩
  · refine ⟨its.toList, r, ⟨o, n, I.kIn a o hk, hc, hd, by simpa using hs⟩, ?_⟩
    have e := r.length
    simp only [Array.length_toList] at e
    omega
theorem Inv.tuple (I : Inv X pins σ H s) (h : SqT X.K H a xs) : ∃ its : List Value, Vals xs its ∧ IsTup s.heap a its.toArray ∧ xs.length ≤ sizeLine := by
  rcases h with h | ⟨o, its, n, hk, hc, hs, hz, r⟩
  · obtain ⟨z, its, r, p⟩ := h.ok I.hok
    exact ⟨its, r, p, z⟩
  · refine ⟨its.toList, r, ⟨o, I.kIn a o hk, hc, n, by simpa using hs⟩, ?_⟩
    have e := r.length
    simp only [Array.length_toList] at e
    omega
theorem Inv.list_inj (I : Inv X pins σ H s) (h : SqL X.K H a xs) (h' : SqL X.K H a ys) : xs = ys := by
  obtain ⟨its, r, ⟨o, n, e, _, _, d⟩, _⟩ := I.list h
  obtain ⟨its', r', ⟨o', n', e', _, _, d'⟩, _⟩ := I.list h'
  rw [e] at e'; cases e'
  rw [d] at d'
  injection d' with d1 _
  have : its = its' := by simpa using congrArg Array.toList d1
  subst this
  exact r.inj r'
theorem Inv.tuple_inj (I : Inv X pins σ H s) (h : SqT X.K H a xs) (h' : SqT X.K H a ys) : xs = ys := by
  obtain ⟨its, r, ⟨o, e, _, n, d⟩, _⟩ := I.tuple h
  obtain ⟨its', r', ⟨o', e', _, n', d'⟩, _⟩ := I.tuple h'
  rw [e] at e'; cases e'
  rw [d] at d'
  injection d' with d1 _
  have : its = its' := by simpa using congrArg Array.toList d1
  subst this
  exact r.inj r'
end
noncomputable abbrev Cx.wish (X : Cx) (E : Value → Shared → Prop) : Cx := { X with xe := E }
noncomputable abbrev Cx.nox (X : Cx) : Cx := X.wish fun _ _ => False
theorem Cx.Ok.wish {X : Cx} (ok : X.Ok) (E : Value → Shared → Prop) : (X.wish E).Ok :=
  ⟨ok.mod, ok.kind, ok.glob, ok.blt, ok.above, ok.inj, ok.has, ok.cab, ok.hd, ok.frames, ok.stk, ok.exf, ok.bs, ok.bsz, ok.noex, ok.exfs, ok.funs, ok.frf⟩
theorem Cx.Ok.unwish {X : Cx} {E : Value → Shared → Prop} (ok : (X.wish E).Ok) : X.Ok :=
  ⟨ok.mod, ok.kind, ok.glob, ok.blt, ok.above, ok.inj, ok.has, ok.cab, ok.hd, ok.frames, ok.stk, ok.exf, ok.bs, ok.bsz, ok.noex, ok.exfs, ok.funs, ok.frf⟩
section
variable {X : Cx} {pins : List (Addr × Obj)} {σ : St} {H : Hp} {s : Shared} {E : Value → Shared → Prop}
theorem Inv.wish (I : Inv X pins σ H s) (E : Value → Shared → Prop) : Inv (X.wish E) pins σ H s := ⟨I.ok.wish E, I.os, I.bare, I.base, I.loc, I.cell, I.free, I.freeC, I.pin, I.hok, I.len⟩
theorem Inv.unwish (I : Inv (X.wish E) pins σ H s) : Inv X pins σ H s := ⟨I.ok.unwish, I.os, I.bare, I.base, I.loc, I.cell, I.free, I.freeC, I.pin, I.hok, I.len⟩
theorem SP.unwish {D : Ends} {f : Flow} {s' : Shared} (h : SP (X.wish E) pins D f s') : SP X pins D f s' := by
  cases f with
  | next => obtain ⟨σ', H', I, q⟩ := h; exact ⟨σ', H', I.unwish, q⟩
  | brk => obtain ⟨σ', H', I, q⟩ := h; exact ⟨σ', H', I.unwish, q⟩
  | cont => obtain ⟨σ', H', I, q⟩ := h; exact ⟨σ', H', I.unwish, q⟩
  | ret u => obtain ⟨v, σ', H', I, r, q⟩ := h; exact ⟨v, σ', H', I.unwish, r, q⟩
theorem PSs.nox {st : List Stmt} {t : TS} (h : PSs X.nox st t) : PSs X st t := fun pins s σ H D I hw =>
  wpAny_mono (h pins s σ H D (I.wish _) hw) (fun _ _ q => q.unwish) fun _ _ z => False.elim z
end
section
variable {X : Cx} {st : Stmt} {rest : List Stmt} {t u : TS} {e : Expr} {te : TE} {pos : Pos}
noncomputable def tNext : TS := fun D σ H => D.nx σ H
noncomputable def tSeq (t u : TS) : TS := fun D σ H => t { D with nx := u D } σ H
theorem pss_nil : PSs X [] tNext := fun _ _ σ H _ I h => wpAny_execs_nil ⟨σ, H, I, h⟩
theorem pss_cons (h1 : PS X st t) (h2 : PSs X rest u) : PSs X (st :: rest) (tSeq t u) := by
  intro pins s σ H D I h
  refine wpAny_execs_cons (thn (h1 pins s σ H { D with nx := u D } I h) fun f s1 q => ?_)
  cases f with
  | next =>
    obtain ⟨σ', H', I', q⟩ := q
    exact h2 pins s1 σ' H' D I' q
  | ret v => exact q
  | brk => exact q
  | cont => exact q
theorem Inv.quiet {pins : List (Addr × Obj)} {σ : St} {H : Hp} {s : Shared} (I : Inv X pins σ H s) : interactive X.env = false := by simp [interactive, I.ok.kind]
noncomputable def tDrop (te : TE) : TS := fun D σ H => te σ H fun _ H1 => D.nx σ H1
theorem ps_expr (he : PE X e te) (hs : swapsWith e none pos.line X.env = pure false := by rfl) : PS X (.Expr e pos) (tDrop te) := by
  intro pins s σ H D I h
  exact wpAny_Expr_any (thn (he pins s σ H _ I h) fun v s1 ⟨x, H1, I1, r1, q1⟩ => ⟨σ, H1, I1, q1⟩) I.quiet hs
noncomputable def tRet (te : TE) : TS := fun D σ H => te σ H D.rt
theorem ps_ret (he : PE X e te) : PS X (.Return (some e) pos) (tRet te) := by
  intro pins s σ H D I h
  exact wpAny_Return_some (thn (he pins s σ H _ I h) fun v s1 ⟨x, H1, I1, r1, q1⟩ => ⟨x, σ, H1, I1, r1, q1⟩)
noncomputable def tIfS (c : TT) (t u : TS) : TS := fun D σ H => c σ H fun b H1 => if b = true then t D σ H1 else u D σ H1
theorem ps_if {c : Expr} {a b : List Stmt} {tc : TT} (hc : PT X c tc) (ha : PSs X a t) (hb : PSs X b u) : PS X (.If c a b pos) (tIfS tc t u) := by
  intro pins s σ H D I h
  refine wpAny_If (thn (hc pins s σ H _ I h) ?_)
  rintro d s1 ⟨H1, I1, q1⟩
  cases d with
  | true => exact ha pins s1 σ H1 D I1 q1
  | false => exact hb pins s1 σ H1 D I1 q1
noncomputable def tNever : TS := fun _ _ _ => False
theorem ps_never : PS X st tNever := fun _ _ _ _ _ _ h => h.elim
end
noncomputable abbrev TG := V → St → Hp → (St → Hp → Prop) → Prop
noncomputable abbrev TGs := List V → St → Hp → (St → Hp → Prop) → Prop
noncomputable def PG (X : Cx) (target : Expr) (t : TG) : Prop :=
  ∀ (pins : List (Addr × Obj)) (s : Shared) (σ : St) (H : Hp) (v : V) (u : Value) (Q : St → Hp → Prop), Inv X pins σ H s → RelV v u → t v σ H Q →
    wpAny (model X.prog X.w) X.A (assign target X.env u) (fun _ s' => ∃ σ' H', Inv X pins σ' H' s' ∧ Q σ' H') X.xe s
noncomputable def PGs (X : Cx) (ts : List Expr) (t : TGs) : Prop :=
  ∀ (pins : List (Addr × Obj)) (s : Shared) (σ : St) (H : Hp) (vs : List V) (us : List Value) (Q : St → Hp → Prop), Inv X pins σ H s → Vals vs us → t vs σ H Q →
    wpAny (model X.prog X.w) X.A (assignInOrder ((assignEach ts X.env).map (·.2)) us) (fun _ s' => ∃ σ' H', Inv X pins σ' H' s' ∧ Q σ' H') X.xe s
noncomputable abbrev TSet := V → V → V → Hp → (Hp → Prop) → Prop
noncomputable def PSet (X : Cx) (t : TSet) : Prop :=
  ∀ (pins : List (Addr × Obj)) (s : Shared) (σ : St) (H : Hp) (o i v : V) (ov iv u : Value) (Q : Hp → Prop), Inv X pins σ H s → RelV o ov → RelV i iv → RelV v u → t o i v H Q →
    wpAny (model X.prog X.w) X.A (setItem ov iv u) (fun _ s' => ∃ H', Inv X pins σ H' s' ∧ Q H') X.xe s
section
variable {X : Cx} {pos : Pos}
noncomputable def gName (i : Nat) : TG := fun v σ H Q => Q (σ.set i (some v)) H
theorem pg_name {i : Nat} {x : Str} (hN : X.N.Nodup) (hi : X.N[i]? = some x) (hx : Loc X.env.scope x) (hf : X.fn x = true ∨ X.env.scope.names.lookup x = some .local := by first | exact .inl rfl | exact .inr rfl | assumption) : PG X (.Name x pos) (gName i) := by
  intro pins s σ H v u Q I r h
  exact wpAny_assign_Name (store_ok I hN hi hx r (fun s' I' => ⟨_, H, I', h⟩) hf)
noncomputable def gNil : TGs := fun vs σ H Q => vs = [] ∧ Q σ H
noncomputable def gCons (t : TG) (u : TGs) : TGs := fun vs σ H Q => ∃ v r, vs = v :: r ∧ t v σ H fun σ' H' => u r σ' H' Q
theorem pgs_nil : PGs X [] gNil := by
  intro pins s σ H vs us Q I r h
  obtain ⟨e, h⟩ := h
  subst e
  cases r
  exact assignInOrder_nil ⟨σ, H, I, h⟩
theorem pgs_cons {e : Expr} {es : List Expr} {t : TG} {u : TGs} (h1 : PG X e t) (h2 : PGs X es u)
    (hs : (assignEach (e :: es) X.env).map (·.2) = assign e X.env :: (assignEach es X.env).map (·.2) := by rfl) : PGs X (e :: es) (gCons t u) := by
  intro pins s σ H vs us Q I r h
  obtain ⟨v, vr, e1, h⟩ := h
  subst e1
  cases r with
  | cons r rr =>
    rw [hs]
    refine assignInOrder_cons (thn (h1 pins s σ H _ _ _ I r h) ?_)
    rintro _ s1 ⟨σ1, H1, I1, q1⟩
    exact h2 pins s1 σ1 H1 _ _ Q I1 rr q1
noncomputable def gTup (K : PySem.W.Frag) (n : Nat) (t : TGs) : TG := fun v σ H Q => ∃ a xs, v = .ref a ∧ SqT K H a xs ∧ xs.length = n ∧ t xs σ H Q
theorem pg_tup {es : List Expr} {k : Nat} {t : TGs} {n : Nat} (hc : X.calm = true) (h : PGs X es t)
    (hn : (assignEach es X.env).length = n := by rfl) (hst : (assignEach es X.env).findIdx? (·.1) = none := by rfl) : PG X (.Tuple es k pos) (gTup X.K n t) := by
  intro pins s σ H v u Q I r hw
  obtain ⟨a, xs, e1, hq, hl, hw⟩ := hw
  subst e1
  cases r
  obtain ⟨its, rv, ht, hz⟩ := I.tuple hq
  refine assign_Tuple_tuple (I.ok.hd hc) ht (by simp [hn, ← hl, rv.length]) hst fun h' hx => ?_
  have I1 : Inv X pins σ H { s with heap := h' } := I.kept (t' := s.toks) fun b o e => hx b o (Nat.ne_of_lt (Heap.lt_size e)) e
  exact h pins _ σ H xs _ Q I1 (by simpa using rv) hw
noncomputable def gSub (to ti : TE) (t : TSet) : TG := fun v σ H Q => to σ H fun o H1 => ti σ H1 fun i H2 => t o i v H2 fun H3 => Q σ H3
theorem pg_sub {o i : Expr} {to ti : TE} {t : TSet} (ho : PE X o to) (hi : PE X i ti) (hs : PSet X t)
    (ha : ∀ v, assign (.Subscript o i pos) X.env v = (do
      let ov ← holding [v] (eval o X.env)
      let iv ← holding [v, ov] (eval i X.env)
      standAt pos
      holding [v, ov, iv] (setItem ov iv v)
      release [v, ov, iv] []) := by intro _; rfl) : PG X (.Subscript o i pos) (gSub to ti t) := by
  intro pins s σ H v u Q I r h
  rw [ha]
  refine wpAny_bind (wpAny_holding (thn (ho pins s σ H _ I h) ?_))
  rintro ov s1 ⟨x, H1, I1, r1, q1⟩
  refine wpAny_bind (wpAny_holding (thn (hi pins s1 σ H1 _ I1 q1) ?_))
  rintro iv s2 ⟨y, H2, I2, r2, q2⟩
  refine wpAny_bind (wpAny_standAt (wpAny_bind (wpAny_holding (thn (hs pins s2 σ H2 x y v ov iv u _ I2 r1 r2 r q2) ?_))))
  rintro _ s3 ⟨H3, I3, q3⟩
  exact wpAny_release ⟨σ, H3, I3, q3⟩
noncomputable def tAsg (te : TE) (g : TG) : TS := fun D σ H => te σ H fun x H1 => g x σ H1 D.nx
theorem ps_asg {tg e : Expr} {te : TE} {g : TG} (he : PE X e te) (hg : PG X tg g) (hs : swapsWithSole [tg] e pos.line X.env = pure false := by rfl) (hw : swappedStores [tg] e X.env = pure none := by rfl)
    (h1 : (assignEach [tg] X.env).map (·.2) = [assign tg X.env] := by rfl) : PS X (.Assign [tg] e pos) (tAsg te g) := by
  intro pins s σ H D I h
  refine wpAny_Assign_stores (thn (he pins s σ H _ I h) ?_) hs hw
  rintro v s1 ⟨x, H1, I1, r1, q1⟩
  rw [h1]
  exact thn (hg pins s1 σ H1 x v _ I1 r1 q1) fun _ s2 q => q
theorem ps_set {i : Nat} {x : Str} {e : Expr} {te : TE} {pos' : Pos} (hN : X.N.Nodup) (hi : X.N[i]? = some x) (hx : Loc X.env.scope x) (he : PE X e te) (hs : swapsWith e (some (.Name x pos')) pos.line X.env = pure false := by rfl) (hf : X.fn x = true ∨ X.env.scope.names.lookup x = some .local := by first | exact .inl rfl | exact .inr rfl | assumption) :
    PS X (.Assign [.Name x pos'] e pos) (tAsg te (gName i)) := by
  intro pins s σ H D I h
  refine wpAny_Assign_Name (thn (he pins s σ H _ I h) ?_) hs
  rintro v s1 ⟨y, H1, I1, r1, q1⟩
  exact store_ok I1 hN hi hx r1 (fun s2 I2 => ⟨_, H1, I2, q1⟩) hf
noncomputable def tPar (i j : Nat) (ta : TA) : TS := fun D σ H => ta σ H fun vs H1 => ∃ v w, vs = [v, w] ∧ D.nx ((σ.set i (some v)).set j (some w)) H1
theorem ps_par {i j : Nat} {x y : Str} {a b : Expr} {ta : TA} {px py pt : Pos} {kt k2 pt2} (hc : X.calm = true) (hN : X.N.Nodup) (hi : X.N[i]? = some x) (hj : X.N[j]? = some y) (hij : i ≠ j)
    (hx : X.env.scope.names.lookup x = some .local) (hy : X.env.scope.names.lookup y = some .local) (ha : PA X [a, b] ta)
    (hw : swappedStores [.Tuple [.Name x px, .Name y py] kt pt] (.Tuple [a, b] k2 pt2) X.env = pure (some [x, y]))
    (hs : swapsWithSole [.Tuple [.Name x px, .Name y py] kt pt] (.Tuple [a, b] k2 pt2) pos.line X.env = pure false := by rfl) :
    PS X (.Assign [.Tuple [.Name x px, .Name y py] kt pt] (.Tuple [a, b] k2 pt2) pos) (tPar i j ta) := by
  intro pins s σ H D I h
  rw [exec_Assign_arm]
  refine wpAny_bind (wpAny_standAt ?_)
  rw [hs]
  refine wpAny_bind (wpAny_pure ?_)
  rw [if_neg (by decide)]
  refine wpAny_bind (Tuple_ (thn (ha _ pins s σ H _ I h) ?_))
  rintro us s1 ⟨vs, H1, I1, r1, q1⟩
  obtain ⟨v, w, e1, q1⟩ := q1
  subst e1
  obtain ⟨u1, u2, rfl, rv, rw'⟩ : ∃ u1 u2, us = [u1, u2] ∧ RelV v u1 ∧ RelV w u2 := by
    cases r1 with
    | cons p q =>
      cases q with
      | cons p' q' =>
        cases q'
        exact ⟨_, _, rfl, p, p'⟩
  refine wpAny_newObj_type ?_ (by show 2 ≤ sizeLine; decide)
  have I2 : Inv X pins σ H1 { s1 with heap := s1.heap.push { cls := .type "tuple", data := .seq [u1, u2].toArray } } := I1.kept (t' := s1.toks) fun b o e => Heap.get?_push_of_some _ e
  rw [hw]
  refine wpAny_bind (wpAny_pure ?_)
  show wpAny (model X.prog X.w) X.A (do rule "assign.swapped-stores"; let items ← unpackItems (.ref s1.heap.objs.size) 2 none; assignInOrder [fun v => bindName X.env y v, fun v => bindName X.env x v] items.reverse; pure Flow.next) _ _ _
  refine wpAny_bind (wpAny_rule (wpAny_bind (unpackItems_tuple (items := #[u1, u2]) (I.ok.hd hc) (IsTup.new s1.heap _) fun h' hx' => ?_)))
  have I3 := I2.kept (h' := h') (t' := s1.toks) fun b o e => hx' b o (Nat.ne_of_lt (Heap.lt_size e)) e
  show wpAny _ _ (assignInOrder [fun v => bindName X.env y v, fun v => bindName X.env x v] [u2, u1] >>= fun _ => pure Flow.next) _ _ _
  refine wpAny_bind (assignInOrder_cons (wpAny_bindName (store_ok I3 hN hj (.inl hy) rw' (fun s2 I4 => ?_) (.inr hy))))
  refine assignInOrder_cons (wpAny_bindName (store_ok I4 hN hi (.inl hx) rv (fun s3 I5 => assignInOrder_nil (wpAny_pure ?_)) (.inr hx)))
  rw [List.set_comm _ _ (Ne.symm hij)] at I5
  exact ⟨_, H1, I5, q1⟩
end
section
variable {X : Cx} {pos : Pos}
noncomputable def tWhile (c : TT) (tb : TS) : TS := fun D σ H => ∃ W : Nat → St → Hp → Prop, (∃ m, W m σ H) ∧ ∀ m σ H, W m σ H →
  c σ H fun b H1 => if b = true then ∃ N : St → Hp → Prop, (∀ σ' H', N σ' H' → ∃ m', m' < m ∧ W m' σ' H') ∧ tb { D with nx := N, ct := N, bk := D.nx } σ H1 else D.nx σ H1
theorem ps_while {c : Expr} {body : List Stmt} {tc : TT} {tb : TS} (hp : PassesOwn (model X.prog X.w) X.A X.env X.xe) (hc : PT X c tc) (hb : PSs X body tb) : PS X (.While c body [] pos) (tWhile tc tb) := by
  intro pins s σ H D I h
  obtain ⟨W, ⟨m0, w0⟩, turn⟩ := h
  refine wpAny_While (codeAny_whileLoop (fun n s' => ∃ σ' H', Inv X pins σ' H' s' ∧ W n σ' H') ?_ m0 ⟨σ, H, I, w0⟩)
  rintro n s1 ⟨σ1, H1, I1, w1⟩
  refine wpAny_passesOwn hp (thn (hc pins s1 σ1 H1 _ I1 (turn n σ1 H1 w1)) ?_)
  rintro b s2 ⟨H2, I2, q2⟩
  cases b with
  | true =>
    obtain ⟨N, hN, q2⟩ := q2
    rw [if_pos rfl]
    refine wpAny_passesOwn hp (thn (hb pins s2 σ1 H2 _ I2 q2) fun f s3 q3 => ?_)
    cases f with
    | next =>
      obtain ⟨σ3, H3, I3, n3⟩ := q3
      obtain ⟨m', hm, w3⟩ := hN σ3 H3 n3
      exact ⟨m', hm, σ3, H3, I3, w3⟩
    | cont =>
      obtain ⟨σ3, H3, I3, n3⟩ := q3
      obtain ⟨m', hm, w3⟩ := hN σ3 H3 n3
      exact ⟨m', hm, σ3, H3, I3, w3⟩
    | brk => exact q3
    | ret v => exact q3
  | false =>
    rw [if_neg Bool.false_ne_true]
    exact wpAny_execs_nil ⟨σ1, H2, I2, q2⟩
end
structure It where
  go : Nat → Hp → Prop
  yld : Nat → Hp → V → Hp → Prop
  stop : Nat → Hp → Prop
noncomputable def FpOk (X : Cx) (pins : List (Addr × Obj)) (H : Hp) (b : Addr) : Prop :=
  H b = none ∧ b ≠ X.env.locals ∧ b ∉ X.fs ∧ (b ∈ X.ex ∨ X.s₀.heap.objs.size ≤ b) ∧ (∀ x c, X.env.cells.lookup x = some c → c ≠ b) ∧ ∀ p ∈ X.pn ++ pins, p.1 ≠ b
theorem Inv.fpOk {X : Cx} {pins : List (Addr × Obj)} {σ : St} {H H' : Hp} {s : Shared} {b : Addr} (I : Inv X pins σ H s) (hb : s.heap.objs.size ≤ b) (hn : H' b = none) : FpOk X pins H' b := by
  refine ⟨hn, Nat.ne_of_gt (Nat.lt_of_lt_of_le I.lt hb), I.nofs hb, .inr (Nat.le_trans I.sz hb), fun x c e z => ?_, fun p hp z => ?_⟩
  · obtain ⟨v, q⟩ := I.cell x c e
    exact absurd (Nat.lt_of_lt_of_le q.lt (by rw [z]; exact hb)) (Nat.lt_irrefl _)
  · exact absurd (Nat.lt_of_lt_of_le (Heap.lt_size (I.pin p hp).1) (by rw [z]; exact hb)) (Nat.lt_irrefl _)
structure Turn (P : Program) (w : World) (K : PySem.W.Frag) (tg : Expr) (J : It) (fp : List Addr) (it : Addr) (tn : Nat → Heap → Prop) : Prop where
  mem : it ∈ fp
  obj : ∀ i h, tn i h → ∀ b ∈ fp, ∃ o, h.get? b = some o ∧ ∀ v, o.data ≠ .cell v
  keep : ∀ i h h', tn i h → (∀ b ∈ fp, ∀ o, h.get? b = some o → h'.get? b = some o) → tn i h'
  item : ∀ (X : Cx), X.prog = P → X.w = w → X.K = K → X.calm = true → ∀ (i : Nat) (pins : List (Addr × Obj)) (s : Shared) (σ : St) (H : Hp) (E : Value → Shared → Prop), Inv X pins σ H s → (∀ b ∈ fp, FpOk X pins H b) → tn i s.heap → J.go i H →
    wpAny (model P w) X.A (pyNext (.ref it)) (fun r s1 => ∃ u, r = some u ∧
      wpAny (model P w) X.A (letOwnedTupleGo tg (.ref it) u) (fun _ s2 => ∃ x H', Inv X pins σ H' s2 ∧ RelV x u ∧ J.yld i H x H' ∧ tn (i + 1) s2.heap ∧ ∀ b ∈ fp, H' b = none) E s1) E s
  done : ∀ (X : Cx), X.prog = P → X.w = w → X.K = K → X.calm = true → ∀ (i : Nat) (pins : List (Addr × Obj)) (s : Shared) (σ : St) (H : Hp) (E : Value → Shared → Prop), Inv X pins σ H s → (∀ b ∈ fp, FpOk X pins H b) → tn i s.heap → J.stop i H →
    wpAny (model P w) X.A (pyNext (.ref it)) (fun r s1 => r = none ∧ Inv X pins σ H s1) E s
  self : ∀ (A : Around) (i : Nat) (s : Shared) (Q : Value → Shared → Prop) (E : Value → Shared → Prop), tn i s.heap → Q (.ref it) s → wpAny (model P w) A (pyIter (.ref it)) Q E s
noncomputable abbrev TI := St → Hp → (It → Hp → Prop) → Prop
noncomputable def PIE (X : Cx) (pins : List (Addr × Obj)) (σ : St) (tg : Expr) (R : It → Hp → Prop) (itv : Value) (s2 : Shared) : Prop :=
  ∃ (it : Addr) (fp : List Addr) (tn : Nat → Heap → Prop) (J : It) (H' : Hp), itv = .ref it ∧ Inv X pins σ H' s2 ∧ Turn X.prog X.w X.K tg J fp it tn ∧ tn 0 s2.heap ∧ (∀ b ∈ fp, FpOk X pins H' b) ∧ R J H'
noncomputable def PI (X : Cx) (tg iter : Expr) (wi : TI) : Prop :=
  ∀ (pins : List (Addr × Obj)) (s : Shared) (σ : St) (H : Hp) (R : It → Hp → Prop), Inv X pins σ H s → wi σ H R →
    wpAny (model X.prog X.w) X.A (eval iter X.env) (fun v s1 => wpAny (model X.prog X.w) X.A (pyIter v) (PIE X pins σ tg R) X.xe s1) X.xe s
theorem go_of {M : Model} {A : Around} {E : Value → Shared → Prop} {s : Shared} {tg : Expr} {it : Addr} {u : Value} {o : Obj} {n : String} {vs : Array Value} {Q : Unit → Shared → Prop} (ho : s.heap.get? it = some o) (hc : o.cls = .type n) (hd : o.data = .fields vs)
    (hn : ["enumerate", "zip", "dict_itemiterator", "dict_reverseitemiterator", "odict_iterator", "itertools.zip_longest", "itertools.pairwise"].contains n = false) (hQ : Q () s) : wpAny M A (letOwnedTupleGo tg (.ref it) u) Q E s := by
  unfold letOwnedTupleGo
  cases tg <;> first
    | exact wpAny_pure hQ
    | (cases u <;> first
        | exact wpAny_pure hQ
        | (refine wpAny_bind (wpAny_load ho ?_)
           rw [hc, hd]
           show wpAny M A (if (["enumerate", "zip", "dict_itemiterator", "dict_reverseitemiterator", "odict_iterator", "itertools.zip_longest", "itertools.pairwise"].contains n && vs[0]? == some (rawInt _)) = true then _ else _) Q E s
           rw [if_neg (by intro h; rw [hn, Bool.false_and] at h; cases h)]
           exact wpAny_pure hQ))
noncomputable def Itl (K : PySem.W.Frag) (a : Addr) : It :=
  ⟨fun i H => ∃ xs x, SqL K H a xs ∧ xs[i]? = some x, fun i H x H' => H' = H ∧ ∀ xs, SqL K H a xs → xs[i]? = some x, fun i H => ∃ xs, SqL K H a xs ∧ xs.length ≤ i⟩
noncomputable def Itt (K : PySem.W.Frag) (a : Addr) : It :=
  ⟨fun i H => ∃ xs x, SqT K H a xs ∧ xs[i]? = some x, fun i H x H' => H' = H ∧ ∀ xs, SqT K H a xs → xs[i]? = some x, fun i H => ∃ xs, SqT K H a xs ∧ xs.length ≤ i⟩
noncomputable def Itr (lo : Int) (n : Nat) : It := ⟨fun i _ => i < n, fun i H x H' => H' = H ∧ x = .int (lo + i), fun i _ => n ≤ i⟩
theorem turn_list {P : Program} {w : World} {K : PySem.W.Frag} {tg : Expr} (a it : Addr) : Turn P w K tg (Itl K a) [it] it (fun i h => h.IsListIter it a i) where
  mem := by simp
  obj := fun i h st b hb => by
    have e : b = it := by simpa using hb
    subst e
    obtain ⟨o, e, c, d⟩ := st
    exact ⟨o, e, fun v z => by rw [d] at z; cases z⟩
  keep := fun i h h' st k => st.at fun o e => k it (by simp) o e
  item := by
    intro X hP hw hK hc i pins s σ H E I hf st hg
    subst hP hw hK
    obtain ⟨xs, x, hq, hx⟩ := hg
    obtain ⟨its, rv, p, hz⟩ := I.list hq
    obtain ⟨u, hu, ru⟩ := rv.get hx
    obtain ⟨f0, f1, f2, f3, f4, f5⟩ := hf it (by simp)
    refine wpAny_pyNext_list_item st p.isList (x := u) (by simpa using hu) fun h' st' sb => ?_
    have I1 : Inv X pins σ H { s with heap := h' } := I.turned (t' := s.toks) (fun b o hb e => (sb.2 b hb).trans e) f0 f1 f3 f4 f5
    obtain ⟨o, e, c, d⟩ := id st'
    exact ⟨u, rfl, go_of (s := { s with heap := h' }) e c d (by decide) ⟨x, H, I1, ru, ⟨rfl, fun ys hy => by rw [I.list_inj hy hq]; exact hx⟩, st', fun b hb => (hf b hb).1⟩⟩
  done := by
    intro X hP hw hK hc i pins s σ H E I hf st hg
    subst hP hw hK
    obtain ⟨xs, hq, hx⟩ := hg
    obtain ⟨its, rv, p, hz⟩ := I.list hq
    obtain ⟨f0, f1, f2, f3, f4, f5⟩ := hf it (by simp)
    have hl := rv.length
    exact wpAny_pyNext_list_end (I.ok.hd hc) st p.isList (by simp; omega) fun h' eb => ⟨rfl, I.turned (t' := s.toks) (fun b o hb e => eb b o hb e) f0 f1 f3 f4 f5⟩
  self := fun _ _ _ _ _ st h => wpAny_pyIter_listiter st h
theorem turn_tuple {P : Program} {w : World} {K : PySem.W.Frag} {tg : Expr} (a it : Addr) : Turn P w K tg (Itt K a) [it] it (fun i h => h.IsTupleIter it a i) where
  mem := by simp
  obj := fun i h st b hb => by
    have e : b = it := by simpa using hb
    subst e
    obtain ⟨o, e, c, d⟩ := st
    exact ⟨o, e, fun v z => by rw [d] at z; cases z⟩
  keep := fun i h h' st k => st.at fun o e => k it (by simp) o e
  item := by
    intro X hP hw hK hc i pins s σ H E I hf st hg
    subst hP hw hK
    obtain ⟨xs, x, hq, hx⟩ := hg
    obtain ⟨its, rv, p, hz⟩ := I.tuple hq
    obtain ⟨u, hu, ru⟩ := rv.get hx
    obtain ⟨f0, f1, f2, f3, f4, f5⟩ := hf it (by simp)
    refine wpAny_pyNext_tuple_item st (show s.heap.IsTuple a its.toArray from p) (x := u) (by simpa using hu) fun h' st' sb => ?_
    have I1 : Inv X pins σ H { s with heap := h' } := I.turned (t' := s.toks) (fun b o hb e => (sb.2 b hb).trans e) f0 f1 f3 f4 f5
    obtain ⟨o, e, c, d⟩ := id st'
    exact ⟨u, rfl, go_of (s := { s with heap := h' }) e c d (by decide) ⟨x, H, I1, ru, ⟨rfl, fun ys hy => by rw [I.tuple_inj hy hq]; exact hx⟩, st', fun b hb => (hf b hb).1⟩⟩
  done := by
    intro X hP hw hK hc i pins s σ H E I hf st hg
    subst hP hw hK
    obtain ⟨xs, hq, hx⟩ := hg
    obtain ⟨its, rv, p, hz⟩ := I.tuple hq
    obtain ⟨f0, f1, f2, f3, f4, f5⟩ := hf it (by simp)
    have hl := rv.length
    exact wpAny_pyNext_tuple_end (I.ok.hd hc) st (show s.heap.IsTuple a its.toArray from p) (by simp; omega) fun h' eb => ⟨rfl, I.turned (t' := s.toks) (fun b o hb e => eb b o hb e) f0 f1 f3 f4 f5⟩
  self := fun _ _ _ _ _ st h => wpAny_pyIter_tupleiter st h
theorem turn_range {P : Program} {w : World} {K : PySem.W.Frag} {tg : Expr} (it : Addr) (lo : Int) (n : Nat) : Turn P w K tg (Itr lo n) [it] it (fun i h => IsRangeIter h it (lo + (i : Nat) * 1) ((n : Int) - (i : Nat)) 1) where
  mem := by simp
  obj := fun i h st b hb => by
    have e : b = it := by simpa using hb
    subst e
    exact ⟨_, st, fun v z => by
      have z' : Data.fields _ = Data.cell v := z
      cases z'⟩
  keep := fun i h h' st k => k it (by simp) _ st
  item := by
    intro X hP hw hK hc i pins s σ H E I hf st hg
    subst hP hw hK
    obtain ⟨f0, f1, f2, f3, f4, f5⟩ := hf it (by simp)
    have W := Walks.range (prog := X.prog) (w := X.w) (I.ok.hd hc) it lo 1 n
    refine W.item i s _ _ hg st fun v h' tk hv st' kk => ?_
    obtain ⟨t, rfl⟩ := hv
    have I1 : Inv X pins σ H { s with heap := h', toks := tk } := I.turned (fun b o hb e => kk b o (by simpa using hb) e) f0 f1 f3 f4 f5
    refine ⟨_, rfl, go_of (s := { s with heap := h', toks := tk }) (n := "range_iterator") st' rfl rfl (by decide) ⟨.int (lo + i), H, I1, ⟨t, ?_⟩, ⟨rfl, rfl⟩, st', fun b hb => (hf b hb).1⟩⟩
    rw [Int.mul_one]
  done := by
    intro X hP hw hK hc i pins s σ H E I hf st hg
    subst hP hw hK
    obtain ⟨f0, f1, f2, f3, f4, f5⟩ := hf it (by simp)
    exact wpAny_pyNext_range_end (I.ok.hd hc) st (by have : n ≤ i := hg; omega) fun h' eb => ⟨rfl, I.turned (t' := s.toks) (fun b o hb e => eb b o hb e) f0 f1 f3 f4 f5⟩
  self := fun _ _ _ _ _ st h => wpAny_pyIter_rangeiter st h
end L2
namespace L2
open PySem PySem.Spec PyProof.Rows
section
variable {X : Cx} {tg : Expr}
theorem range_it {pins : List (Addr × Obj)} {σ : St} {H : Hp} {s : Shared} {R : It → Hp → Prop} {E : Value → Shared → Prop} {lo hi : Int} {t u v : Tok} {tk : Nat} (I : Inv X pins σ H s) (h1 : -(2 ^ 62) ≤ lo) (h2 : lo < 2 ^ 62) (h3 : -(2 ^ 62) ≤ hi) (h4 : hi < 2 ^ 62)
    (q : R (Itr lo (hi - lo).toNat) H) : wpAny (model X.prog X.w) X.A (pyIter (.ref s.heap.objs.size)) (PIE X pins σ tg R) E { s with heap := s.heap.push { cls := .type "range", data := .fields #[.int lo t, .int hi u, .int 1 v] }, toks := tk } := by
  refine wpAny_pyIter_range (IsRange.new ..) (small_one h1 h2 h3 h4) ?_
  have I1 : Inv X pins σ H { s with heap := s.heap.push { cls := .type "range", data := .fields #[.int lo t, .int hi u, .int 1 v] }, toks := tk } := I.kept fun b o e => Heap.get?_push_of_some _ e
  refine ⟨(s.heap.push { cls := .type "range", data := .fields #[.int lo t, .int hi u, .int 1 v] }).objs.size, [(s.heap.push { cls := .type "range", data := .fields #[.int lo t, .int hi u, .int 1 v] }).objs.size], _, _, H, rfl,
    I1.kept (t' := tk) fun b o e => Heap.get?_push_of_some _ e, turn_range _ lo (hi - lo).toNat, ?_, fun b hb => ?_, q⟩
  · have e1 : lo + ((0 : Nat) : Int) * 1 = lo := by simp
    have e2 : (((hi - lo).toNat : Nat) : Int) - ((0 : Nat) : Int) = Builtin.Range.rangeSize lo hi 1 := by rw [rangeSize_one]; split <;> omega
    show IsRangeIter _ _ (lo + ((0 : Nat) : Int) * 1) ((((hi - lo).toNat : Nat) : Int) - ((0 : Nat) : Int)) 1
    rw [e1, e2]
    exact Heap.get?_push_size _ rfl
  · have e : b = (s.heap.push { cls := .type "range", data := .fields #[.int lo t, .int hi u, .int 1 v] }).objs.size := by simpa using hb
    subst e
    exact I1.fpOk (Nat.le_refl _) (I1.hok.fresh (Nat.le_refl _))
noncomputable def iRng1 (ta : TA) : TI := fun σ H R => ta σ H fun vs H1 => ∃ j : Int, vs = [.int j] ∧ -(2 ^ 62) ≤ j ∧ j < 2 ^ 62 ∧ R (Itr 0 j.toNat) H1
theorem pi_range1 {a : Expr} {ta : TA} {p pos : Pos} (hg : Gl X "range") (hm : X.mg "range" = none) (ha : PA X [a] ta) (hs : starEach [a] X.env = [(false, eval a X.env)] := by rfl) : PI X tg (.Call (.Name "range" p) [a] [] pos) (iRng1 ta) := by
  intro pins s σ H R I h
  refine Call_ (ld_blt I hg hm boot_range (PyProof.Rows.callWith_type1 (thn (ha pos pins s σ H _ I h) ?_) hs rfl))
  rintro us s1 ⟨vs, H1, I1, r1, q1⟩
  obtain ⟨j, e, q1, q2, q⟩ := q1
  subst e
  cases r1 with
  | cons r rr =>
    cases rr
    obtain ⟨t, rfl⟩ := r
    exact call_range_1 (range_it I1 (by omega) (by omega) q1 q2 (by simpa using q))
noncomputable def tFor (wi : TI) (g : TG) (tb : TS) : TS := fun D σ H => wi σ H fun J H1 => ∃ W : Nat → Nat → St → Hp → Prop, (∃ m, W 0 m σ H1) ∧ ∀ i m σ H, W i m σ H →
  (J.stop i H ∧ D.nx σ H) ∨ (J.go i H ∧ ∃ N : St → Hp → Prop, (∀ σ' H', N σ' H' → ∃ m', m' < m ∧ W (i + 1) m' σ' H') ∧ ∀ x H', J.yld i H x H' → g x σ H' fun σ2 H2 => tb { D with nx := N, ct := N, bk := D.nx } σ2 H2)
noncomputable def pinsAt (fp : List Addr) (h : Heap) : List (Addr × Obj) := fp.filterMap fun b => (h.get? b).map fun o => (b, o)
theorem mem_pinsAt {fp : List Addr} {h : Heap} {b : Addr} {o : Obj} (hb : b ∈ fp) (e : h.get? b = some o) : (b, o) ∈ pinsAt fp h := List.mem_filterMap.mpr ⟨b, hb, by rw [e]; rfl⟩
theorem of_pinsAt {fp : List Addr} {h : Heap} {p : Addr × Obj} (hp : p ∈ pinsAt fp h) : p.1 ∈ fp ∧ h.get? p.1 = some p.2 := by
  obtain ⟨b, hb, e⟩ := List.mem_filterMap.mp hp
  cases q : h.get? b with
  | none => rw [q] at e; cases e
  | some o =>
    rw [q] at e
    have e' : (b, o) = p := Option.some.inj e
    subst e'
    exact ⟨hb, q⟩
theorem Inv.pinned {pins : List (Addr × Obj)} {σ : St} {H : Hp} {s : Shared} {fp : List Addr} (I : Inv X pins σ H s) (hf : ∀ b ∈ fp, FpOk X pins H b) (ho : ∀ b ∈ fp, ∃ o, s.heap.get? b = some o ∧ ∀ v, o.data ≠ .cell v) : Inv X (pins ++ pinsAt fp s.heap) σ H s :=
  I.pins_of fun p hp => (List.mem_append.mp hp).elim (fun z => I.pin p (List.mem_append_right _ z)) fun z => by
    obtain ⟨hb, e⟩ := of_pinsAt z
    obtain ⟨f0, f1, f2, _⟩ := hf p.1 hb
    obtain ⟨o, e', d⟩ := ho p.1 hb
    rw [e] at e'; cases e'
    exact ⟨e, f0, f1, f2, d⟩
theorem Inv.unpinned {pins pl : List (Addr × Obj)} {σ : St} {H : Hp} {s : Shared} (I : Inv X (pins ++ pl) σ H s) : Inv X pins σ H s := I.pins_of fun p hp => I.pin p (List.mem_append_right _ (List.mem_append_left _ hp))
theorem ps_for {iter : Expr} {body : List Stmt} {wi : TI} {g : TG} {tb : TS} {pos : Pos} (hp : PassesOwn (model X.prog X.w) X.A X.env X.xe) (hc : X.calm = true) (hi : PI X tg iter wi) (hg : PG X tg g) (hb : PSs X body tb)
    (hs : ∀ x, foldedSetIterable iter X.env x = pure x := by intro _; rfl) : PS X (.For tg iter body [] pos) (tFor wi g tb) := by
  intro pins s σ H D I h
  refine wpAny_For (thn (hi pins s σ H _ I h) fun v s1 h1 => thn h1 fun itv s2 h2 => ?_) hs
  obtain ⟨it, fp, tn, J, H2, e, I2, T, st2, f2, W, ⟨m0, w0⟩, turn⟩ := h2
  subst e
  -- what stays true of the iterator's objects through the loop
  have stat : ∀ {H' : Hp}, (∀ b ∈ fp, H' b = none) → ∀ b ∈ fp, FpOk X pins H' b := fun hn b hb => ⟨hn b hb, (f2 b hb).2⟩
  refine codeAny_forLoop_any (fun n s' => ∃ i σ' H', Inv X pins σ' H' s' ∧ tn i s'.heap ∧ (∀ b ∈ fp, H' b = none) ∧ W i n σ' H') ?_ m0 ⟨0, σ, H2, I2, st2, fun b hb => (f2 b hb).1, w0⟩
  rintro n s3 ⟨i, σ3, H3, I3, st3, fr3, w3⟩
  rcases turn i n σ3 H3 w3 with ⟨stop, qn⟩ | ⟨go, N, hN, step⟩
  · refine wpAny_passesOwn hp (thn (T.done X rfl rfl rfl hc i pins s3 σ3 H3 X.xe I3 (stat fr3) st3 stop) ?_)
    rintro r s4 ⟨hr, I4⟩
    subst hr
    exact wpAny_execs_nil ⟨σ3, H3, I4, qn⟩
  · refine wpAny_passesOwn hp (thn (T.item X rfl rfl rfl hc i pins s3 σ3 H3 X.xe I3 (stat fr3) st3 go) ?_)
    rintro r s4 ⟨u, hr, h4⟩
    subst hr
    refine wpAny_passesOwn hp (thn h4 ?_)
    rintro _ s5 ⟨x, H5, I5, r5, y5, st5, fr5⟩
    have I5' := I5.pinned (stat fr5) (T.obj _ _ st5)
    refine wpAny_passesOwn hp (thn (hg _ s5 σ3 H5 x u _ I5' r5 (step x H5 y5)) ?_)
    rintro _ s6 ⟨σ6, H6, I6, q6⟩
    refine wpAny_passesOwn hp (thn (hb _ s6 σ6 H6 _ I6 q6) fun f s7 q7 => ?_)
    have again : ∀ {σ7 : St} {H7 : Hp}, Inv X (pins ++ pinsAt fp s5.heap) σ7 H7 s7 → N σ7 H7 → ∃ m, m < n ∧ ∃ i σ' H', Inv X pins σ' H' s7 ∧ tn i s7.heap ∧ (∀ b ∈ fp, H' b = none) ∧ W i m σ' H' := fun {σ7 H7} I7 n7 => by
      obtain ⟨m', hm, w7⟩ := hN σ7 H7 n7
      refine ⟨m', hm, i + 1, σ7, H7, I7.unpinned, T.keep _ _ _ st5 fun b hb o e => (I7.pin (b, o) (List.mem_append_right _ (List.mem_append_right _ (mem_pinsAt hb e)))).1, fun b hb => ?_, w7⟩
      obtain ⟨o, e, d⟩ := T.obj _ _ st5 b hb
      exact (I7.pin (b, o) (List.mem_append_right _ (List.mem_append_right _ (mem_pinsAt hb e)))).2.1
    cases f with
    | next => obtain ⟨σ7, H7, I7, n7⟩ := q7; exact again I7 n7
    | cont => obtain ⟨σ7, H7, I7, n7⟩ := q7; exact again I7 n7
    | brk => obtain ⟨σ7, H7, I7, q7⟩ := q7; exact ⟨σ7, H7, I7.unpinned, q7⟩
    | ret v => obtain ⟨x7, σ7, H7, I7, r7, q7⟩ := q7; exact ⟨x7, σ7, H7, I7.unpinned, r7, q7⟩
end
end L2
namespace L2
open PySem PySem.Spec PyProof.Rows
noncomputable abbrev R2 := V → V → Hp → VK → Prop
noncomputable def OpR (X : Cx) (f : Value → Value → Sem Value) (r : R2) : Prop :=
  ∀ (pins : List (Addr × Obj)) (s : Shared) (σ : St) (H : Hp) (x y : V) (v u : Value) (Q : VK), Inv X pins σ H s → RelV x v → RelV y u → r x y H Q →
    wpAny (model X.prog X.w) X.A (f v u) (EP X pins σ Q) X.xe s
noncomputable def UnR (X : Cx) (f : Value → Sem Value) (r : V → Hp → VK → Prop) : Prop :=
  ∀ (pins : List (Addr × Obj)) (s : Shared) (σ : St) (H : Hp) (x : V) (v : Value) (Q : VK), Inv X pins σ H s → RelV x v → r x H Q →
    wpAny (model X.prog X.w) X.A (f v) (EP X pins σ Q) X.xe s
noncomputable def CallR (X : Cx) (f : Value) (r : List V → Hp → VK → Prop) : Prop :=
  ∀ (pins : List (Addr × Obj)) (s : Shared) (σ : St) (H : Hp) (xs : List V) (us : List Value) (Q : VK), Inv X pins σ H s → Vals xs us → r xs H Q →
    wpAny (model X.prog X.w) X.A (call f us) (EP X pins σ Q) X.xe s
noncomputable def tOp (r : R2) (ta tb : TE) : TE := fun σ H Q => ta σ H fun x H1 => tb σ H1 fun y H2 => r x y H2 Q
noncomputable def tUn (r : V → Hp → VK → Prop) (ta : TE) : TE := fun σ H Q => ta σ H fun x H1 => r x H1 Q
noncomputable def rI (C : Int → Int → Prop) (g : Int → Int → V) : R2 := fun x y H Q => ∃ i j, x = .int i ∧ y = .int j ∧ C i j ∧ Q (g i j) H
noncomputable def rI0 (g : Int → Int → V) : R2 := fun x y H Q => ∃ i j, x = .int i ∧ y = .int j ∧ Q (g i j) H
noncomputable def rU (g : Int → V) : V → Hp → VK → Prop := fun x H Q => ∃ i, x = .int i ∧ Q (g i) H
section
variable {X : Cx} {a b c : Expr} {ta tb tc : TE} {pos : Pos}
theorem binT (ha : PE X a ta) (hb : PE X b tb) {pins : List (Addr × Obj)} {s : Shared} {σ : St} {H : Hp} {R : V → V → Hp → Prop} (I : Inv X pins σ H s)
    (h : ta σ H fun x H1 => tb σ H1 fun y H2 => R x y H2) {Q : Value → Shared → Prop} {f : Value → Value → Sem Value}
    (hf : ∀ v u s2 x y H2, Inv X pins σ H2 s2 → RelV x v → RelV y u → R x y H2 → wpAny (model X.prog X.w) X.A (f v u) Q X.xe s2) :
    wpAny (model X.prog X.w) X.A (eval a X.env) (fun v s₁ => wpAny (model X.prog X.w) X.A (eval b X.env) (fun u s₂ => wpAny (model X.prog X.w) X.A (f v u) Q X.xe s₂) X.xe s₁) X.xe s := by
  refine thn (ha pins s σ H _ I h) ?_
  rintro v s1 ⟨x, H1, I1, r1, q1⟩
  refine thn (hb pins s1 σ H1 _ I1 q1) ?_
  rintro u s2 ⟨y, H2, I2, r2, q2⟩
  exact hf v u s2 x y H2 I2 r1 r2 q2
theorem pe_op {op : Operator} {r : R2} (ho : OpR X (binaryOp op) r) (ha : PE X a ta) (hb : PE X b tb) : PE X (.BinOp a op b pos) (tOp r ta tb) := by
  intro pins s σ H Q I h
  exact wpAny_BinOp (binT ha hb I h fun v u s2 x y H2 I2 rx ry q => ho pins s2 σ H2 x y v u Q I2 rx ry q)
theorem pe_un {op : UnaryOp} {r : V → Hp → VK → Prop} (ho : UnR X (unaryOp op) r) (ha : PE X a ta) : PE X (.UnaryOp op a pos) (tUn r ta) := by
  intro pins s σ H Q I h
  exact UnaryOp_ (thn (ha pins s σ H _ I h) fun v s1 ⟨x, H1, I1, r1, q1⟩ => ho pins s1 σ H1 x v Q I1 r1 q1)
theorem opI {f : Value → Value → Sem Value} {C : Int → Int → Prop} {g : Int → Int → Int}
    (rule : ∀ (i j : Int) (t u : Tok) (s : Shared) (Q : Value → Shared → Prop) (E : Value → Shared → Prop), C i j → Q (.int (g i j) s.toks) { s with toks := s.toks + 1 } → wpAny (model X.prog X.w) X.A (f (.int i t) (.int j u)) Q E s) :
    OpR X f (rI C fun i j => .int (g i j)) := by
  intro pins s σ H x y v u Q I rx ry h
  obtain ⟨i, j, rfl, rfl, hc, q⟩ := h
  obtain ⟨t, rfl⟩ := rx
  obtain ⟨t', rfl⟩ := ry
  exact rule i j t t' s _ _ hc ⟨.int (g i j), H, I.tok _, ⟨_, rfl⟩, q⟩
theorem opI0 {f : Value → Value → Sem Value} {g : Int → Int → Int}
    (rule : ∀ (i j : Int) (t u : Tok) (s : Shared) (Q : Value → Shared → Prop) (E : Value → Shared → Prop), Q (.int (g i j) s.toks) { s with toks := s.toks + 1 } → wpAny (model X.prog X.w) X.A (f (.int i t) (.int j u)) Q E s) :
    OpR X f (rI0 fun i j => .int (g i j)) := by
  intro pins s σ H x y v u Q I rx ry h
  obtain ⟨i, j, rfl, rfl, q⟩ := h
  obtain ⟨t, rfl⟩ := rx
  obtain ⟨t', rfl⟩ := ry
  exact rule i j t t' s _ _ ⟨.int (g i j), H, I.tok _, ⟨_, rfl⟩, q⟩
theorem opB0 {f : Value → Value → Sem Value} {g : Int → Int → Bool}
    (rule : ∀ (i j : Int) (t u : Tok) (s : Shared) (Q : Value → Shared → Prop) (E : Value → Shared → Prop), Q (.bool (g i j)) s → wpAny (model X.prog X.w) X.A (f (.int i t) (.int j u)) Q E s) :
    OpR X f (rI0 fun i j => .bl (g i j)) := by
  intro pins s σ H x y v u Q I rx ry h
  obtain ⟨i, j, rfl, rfl, q⟩ := h
  obtain ⟨t, rfl⟩ := rx
  obtain ⟨t', rfl⟩ := ry
  exact rule i j t t' s _ _ ⟨.bl (g i j), H, I, rfl, q⟩
noncomputable def CPow (i j : Int) : Prop := 0 ≤ j ∧ j ≤ 1000000 ∧ i.natAbs < 2 ^ 64
noncomputable def CMul (i j : Int) : Prop := (-(2 ^ 64) < i ∧ i < 2 ^ 64) ∨ (-(2 ^ 64) < j ∧ j < 2 ^ 64)
theorem CMul.ok {i j : Int} (h : CMul i j) : IntMulOk i j := by
  rcases h with ⟨h1, h2⟩ | ⟨h1, h2⟩
  · exact .of_left (intBits_le_64 h1 h2)
  · exact .of_right (intBits_le_64 h1 h2)
theorem op_add : OpR X (binaryOp .Add) (rI0 fun i j => .int (i + j)) := opI0 fun _ _ _ _ _ _ _ q => add_int q
theorem op_sub : OpR X (binaryOp .Sub) (rI0 fun i j => .int (i - j)) := opI0 fun _ _ _ _ _ _ _ q => sub_int q
theorem op_mul : OpR X (binaryOp .Mult) (rI CMul fun i j => .int (i * j)) := opI fun _ _ _ _ _ _ _ hc q => mul_int q hc.ok
theorem op_mod : OpR X (binaryOp .Mod) (rI (fun _ j => 0 < j) fun i j => .int (i % j)) := opI fun i j _ _ _ _ _ hc q => by
  have h1 : (0 : Int) < j := hc
  exact mod_int' (by omega) (by rw [Int.fmod_eq_emod_of_nonneg i (by omega)]; exact q)
theorem op_pow : OpR X (binaryOp .Pow) (rI CPow fun i j => .int (i ^ j.toNat)) := opI fun _ _ _ _ _ _ _ hc q => pow_int_small hc.1 hc.2.1 hc.2.2 q
theorem unI {f : Value → Sem Value} {g : Int → Int}
    (rule : ∀ (i : Int) (t : Tok) (s : Shared) (Q : Value → Shared → Prop) (E : Value → Shared → Prop), Q (.int (g i) s.toks) { s with toks := s.toks + 1 } → wpAny (model X.prog X.w) X.A (f (.int i t)) Q E s) :
    UnR X f (rU fun i => .int (g i)) := by
  intro pins s σ H x v Q I rx h
  obtain ⟨i, rfl, q⟩ := h
  obtain ⟨t, rfl⟩ := rx
  exact rule i t s _ _ ⟨.int (g i), H, I.tok _, ⟨_, rfl⟩, q⟩
theorem un_neg : UnR X (unaryOp .USub) (rU fun i => .int (-i)) := unI fun _ _ _ _ _ q => neg_int q
end
section
variable {X : Cx} {a b c : Expr} {ta tb tc : TE} {pos : Pos}
theorem fin_bl {pins : List (Addr × Obj)} {σ : St} {H : Hp} {s : Shared} {Q : VK} {k k' : Bool} (I : Inv X pins σ H s) (q : Q (.bl k) H) (e : k = k') : EP X pins σ Q (.bool k') s := by
  subst e
  exact ⟨.bl k, H, I, rfl, q⟩
theorem op_lt : OpR X (compareOp .Lt) (rI0 fun i j => .bl (decide (i < j))) := opB0 fun _ _ _ _ _ _ _ q => lt_int q
theorem op_le : OpR X (compareOp .LtE) (rI0 fun i j => .bl (decide (i ≤ j))) := opB0 fun _ _ _ _ _ _ _ q => le_int q
theorem op_gt : OpR X (compareOp .Gt) (rI0 fun i j => .bl (decide (j < i))) := opB0 fun _ _ _ _ _ _ _ q => gt_int q
theorem op_ge : OpR X (compareOp .GtE) (rI0 fun i j => .bl (decide (j ≤ i))) := opB0 fun _ _ _ _ _ _ _ q => ge_int q
theorem op_isN : OpR X (compareOp .Is) (fun x y H Q => y = .non ∧ Q (.bl (decide (x = .non))) H) := by
  intro pins s σ H x y v u Q I rx ry h
  obtain ⟨rfl, q⟩ := h
  cases ry
  refine is_none_gen (fin_bl I q ?_)
  cases x <;> first
    | (cases rx; rfl)
    | (obtain ⟨t, rfl⟩ := rx; rfl)
theorem op_notN : OpR X (compareOp .IsNot) (fun x y H Q => y = .non ∧ Q (.bl (!decide (x = .non))) H) := by
  intro pins s σ H x y v u Q I rx ry h
  obtain ⟨rfl, q⟩ := h
  cases ry
  refine isnot_none_gen (fin_bl I q ?_)
  cases x <;> first
    | (cases rx; rfl)
    | (obtain ⟨t, rfl⟩ := rx; rfl)
theorem nomark (b : Expr) {op : CmpOp} (h : op ≠ .In := by decide) (h2 : op ≠ .NotIn := by decide) : behindInMarks op b = false := by
  have e1 : (op == CmpOp.In) = false := by cases op <;> first | rfl | exact absurd rfl h
  have e2 : (op == CmpOp.NotIn) = false := by cases op <;> first | rfl | exact absurd rfl h2
  cases b <;> simp [behindInMarks, e1, e2]
theorem pe_cmpR {op : CmpOp} {r : R2} (ho : OpR X (compareOp op) r) (ha : PE X a ta) (hb : PE X b tb) (hm : behindInMarks op b = false) : PE X (.Compare a [op] [b] pos) (tOp r ta tb) := by
  intro pins s σ H Q I h
  exact wpAny_Compare1 (binT ha hb I h fun v u s2 x y H2 I2 rx ry q => ho pins s2 σ H2 x y v u Q I2 rx ry q) hm
noncomputable def tTest (t : TE) : TT := fun σ H Q => t σ H fun x H' => ∃ k, x = .bl k ∧ Q k H'
theorem pt_cmpR {op : CmpOp} {r : R2} (ho : OpR X (compareOp op) r) (ha : PE X a ta) (hb : PE X b tb) (hm : behindInMarks op b = false) : PT X (.Compare a [op] [b] pos) (tTest (tOp r ta tb)) := by
  intro pins s σ H Q I h
  refine wpAny_isTrue_Compare1 (thn (ha pins s σ H _ I h) fun v s1 ⟨x, H1, I1, r1, q1⟩ => thn (hb pins s1 σ H1 _ I1 q1) fun u s2 ⟨y, H2, I2, r2, q2⟩ =>
    thn (ho pins s2 σ H2 x y v u _ I2 r1 r2 q2) fun c s3 ⟨z, H3, I3, r3, k, e, q3⟩ => ?_) hm
  subst e
  cases r3
  exact wpAny_truthy_bool ⟨H3, I3, q3⟩
noncomputable def tChain (r r' : R2) (ta tb tc : TE) : TE := fun σ H Q => ta σ H fun x H1 => tb σ H1 fun y H2 => r x y H2 fun z H3 => ∃ k, z = .bl k ∧
  (if k = true then tc σ H3 fun w' H4 => r' y w' H4 Q else Q (.bl false) H3)
theorem pt_chain {op op' : CmpOp} {r r' : R2} (ho : OpR X (compareOp op) r) (ho' : OpR X (compareOp op') r') (ha : PE X a ta) (hb : PE X b tb) (hc : PE X c tc)
    (hm : lastMarks [op, op'] [b, c] = false := by with_unfolding_all rfl) : PT X (.Compare a [op, op'] [b, c] pos) (tTest (tChain r r' ta tb tc)) := by
  intro pins s σ H Q I h
  refine isTrue_chain (thn (ha pins s σ H _ I h) fun v s1 ⟨x, H1, I1, r1, q1⟩ => test_link (thn (hb pins s1 σ H1 _ I1 q1) fun u s2 ⟨y, H2, I2, r2, q2⟩ =>
    thn (ho pins s2 σ H2 x y v u _ I2 r1 r2 q2) fun d s3 ⟨z, H3, I3, r3, k, e, q3⟩ => ?_)) hm
  subst e
  cases r3
  refine wpAny_truthy_bool ?_
  cases k with
  | false =>
    obtain ⟨k', e', q'⟩ := q3
    cases e'
    exact ite_ff ⟨H3, I3, q'⟩
  | true =>
    refine ite_tt (test_last (thn (hc pins s3 σ H3 _ I3 q3) fun w' s4 ⟨z', H4, I4, r4, q4⟩ => thn (ho' pins s4 σ H4 y z' u w' _ I4 r2 r4 q4) ?_))
    rintro d' s5 ⟨z2, H5, I5, r5, k2, e2, q5⟩
    subst e2
    cases r5
    exact wpAny_truthy_bool ⟨H5, I5, q5⟩
theorem line63 : (sizeLine : Nat) < 2 ^ 63 := by rw [sizeLine_eq]; decide
theorem op_add_str : OpR X (binaryOp .Add) (fun x y H Q => ∃ i j, x = .str i ∧ y = .str j ∧ i.length + j.length ≤ sizeLine ∧ Q (.str (i ++ j)) H) := by
  intro pins s σ H x y v u Q I rx ry h
  obtain ⟨i, j, rfl, rfl, hz, q⟩ := h
  obtain ⟨t, rfl⟩ := rx
  obtain ⟨t', rfl⟩ := ry
  exact add_str (fun t' tk => ⟨.str (i ++ j), H, I.tok _, ⟨_, rfl⟩, q⟩) hz
theorem vals1 {x : V} {us : List Value} (r : Vals [x] us) : ∃ u, us = [u] ∧ RelV x u := by
  cases r with
  | cons r1 r2 => cases r2; exact ⟨_, rfl, r1⟩
theorem vals2 {x y : V} {us : List Value} (r : Vals [x, y] us) : ∃ u w', us = [u, w'] ∧ RelV x u ∧ RelV y w' := by
  cases r with
  | cons r1 r2 =>
    cases r2 with
    | cons r3 r4 => cases r4; exact ⟨_, _, rfl, r1, r3⟩
theorem call_max2 (hc : X.calm = true) : CallR X (.builtin "max") (fun xs H Q => ∃ i j, xs = [.int i, .int j] ∧ Q (.int (if j > i then j else i)) H) := by
  intro pins s σ H xs us Q I r h
  obtain ⟨i, j, rfl, q⟩ := h
  obtain ⟨u, w', rfl, ⟨t, rfl⟩, ⟨t', rfl⟩⟩ := vals2 r
  refine max_two_ints (I.ok.hd hc) fun h' tk k => ⟨_, H, I.kept k, ?_, q⟩
  by_cases hj : j > i
  · rw [if_pos hj, if_pos hj]; exact ⟨_, rfl⟩
  · rw [if_neg hj, if_neg hj]; exact ⟨_, rfl⟩
theorem call_min2 (hc : X.calm = true) : CallR X (.builtin "min") (fun xs H Q => ∃ i j, xs = [.int i, .int j] ∧ Q (.int (if j < i then j else i)) H) := by
  intro pins s σ H xs us Q I r h
  obtain ⟨i, j, rfl, q⟩ := h
  obtain ⟨u, w', rfl, ⟨t, rfl⟩, ⟨t', rfl⟩⟩ := vals2 r
  refine min_two_ints (I.ok.hd hc) fun h' tk k => ⟨_, H, I.kept k, ?_, q⟩
  by_cases hj : j < i
  · rw [if_pos hj, if_pos hj]; exact ⟨_, rfl⟩
  · rw [if_neg hj, if_neg hj]; exact ⟨_, rfl⟩
theorem call_int1 : CallR X (.type "int") (fun xs H Q => (∃ i, xs = [.int i] ∧ Q (.int i) H) ∨ ∃ k, xs = [.bl k] ∧ Q (.int (if k then 1 else 0)) H) := by
  intro pins s σ H xs us Q I r h
  rcases h with ⟨i, rfl, q⟩ | ⟨k, rfl, q⟩
  · obtain ⟨u, rfl, t, rfl⟩ := vals1 r
    exact call_int_int ⟨.int i, H, I, ⟨_, rfl⟩, q⟩
  · obtain ⟨u, rfl, r1⟩ := vals1 r
    cases r1
    exact call_int_bool ⟨.int (if k then 1 else 0), H, I.tok _, ⟨_, rfl⟩, q⟩
end
end L2
namespace L2
open PySem PySem.Spec PyProof.Rows
section
variable {prog : Program} {w : World} {A : Around} {E : Value → Shared → Prop} {s : Shared} {K : PySem.W.Frag} {x dx C f : Addr} {mA : Str → Option Value} {name : Str} {v : Value}
end
section
variable {P : Program} {w : World} {H H' : Hp} {h h' : Heap} {a C dx : Addr} {fs fs' : List (Str × V)}
end
section
variable {X : Cx} {pins : List (Addr × Obj)} {σ : St} {H : Hp} {s : Shared} {a C dx : Addr} {fs : List (Str × V)} {f : Str} {v : V} {A : Around} {E : Value → Shared → Prop}
end
section
variable {X : Cx} {o e value : Expr} {f : Str} {pos pos' tpos : Pos} {ta tv : TE}
end
section
variable {X : Cx} {pins : List (Addr × Obj)} {σ : St} {H : Hp} {s : Shared} {A : Around} {E : Value → Shared → Prop} {Q : Value → Shared → Prop} {c : Value} {b : Bool}
end
end L2
namespace L2
open PySem PySem.Spec PyProof.Rows
structure Room (k : Nat) (A : Around) : Prop where
  hd : A.handled = none
  dp : A.depth + 3 * k + 5 < recursionLimit
  un : A.units + 16 * k + 200 < cLine
theorem Room.deeper {k : Nat} {A : Around} (r : Room (k + 1) A) (env : Env) : Room k (A.deeper env) :=
  ⟨r.hd, by have := r.dp; show A.depth + 1 + 3 * k + 5 < _; omega, by have := r.un; show A.units + 3 + 16 * k + 200 < _; omega⟩
theorem Room.depth {k : Nat} {A : Around} (r : Room k A) : A.depth < recursionLimit := by have := r.dp; omega
noncomputable def tNil : TA := fun _ H Q => Q [] H
noncomputable def tCons (ta : TE) (tr : TA) : TA := fun σ H Q => ta σ H fun x H1 => tr σ H1 fun xs H2 => Q (x :: xs) H2
section
variable {X : Cx} {e : Expr} {es : List Expr} {te : TE} {t : TA} {pos : Pos}
theorem pa_nil : PA X [] tNil := fun _ _ _ _ H Q I h => Calls.spliced_nil ⟨[], H, I, .nil, h⟩
theorem pa_cons (ha : PE X e te) (hr : PA X es t) (hs : starEach (e :: es) X.env = (false, eval e X.env) :: starEach es X.env := by rfl) : PA X (e :: es) (tCons te t) := by
  intro pos pins s σ H Q I h
  rw [hs]
  show wpAny _ _ (spliced ((false, eval e X.env) :: backTo pos (starEach es X.env))) _ _ s
  refine Calls.spliced_cons (thn (ha pins s σ H _ I h) ?_)
  rintro u s1 ⟨x, H1, I1, r1, q1⟩
  exact thn (hr pos pins s1 σ H1 _ I1 q1) fun us s2 ⟨xs, H2, I2, r2, q2⟩ => ⟨x :: xs, H2, I2, .cons r1 r2, q2⟩
noncomputable def tTup (t : TA) : TE := fun σ H Q => t σ H fun xs H1 => xs.length ≤ sizeLine ∧ ∀ p, H1 p = none → Q (.ref p) (upd H1 p (.tup xs))
noncomputable def tLst (t : TA) : TE := fun σ H Q => t σ H fun xs H1 => xs.length ≤ sizeLine ∧ ∀ p, H1 p = none → Q (.ref p) (upd H1 p (.lst xs))
theorem pe_tup {x1} (h : PA X es t) : PE X (.Tuple es x1 pos) (tTup t) := by
  intro pins s σ H Q I hq
  refine wpAny_Tuple_spliced (thn (h pos pins s σ H _ I hq) fun us s1 ⟨xs, H1, I1, r, z, q⟩ => ⟨by rw [← r.length]; exact z, ?_⟩)
  have hf : H1 s1.heap.objs.size = none := I1.hok.fresh (Nat.le_refl _)
  refine ⟨.ref s1.heap.objs.size, upd H1 s1.heap.objs.size (.tup xs), I1.laid (t' := s1.toks) (fun b u e => Heap.get?_push_of_some _ e) (Nat.le_refl _) ?_, rfl, q _ hf⟩
  exact ⟨z, us, r, ⟨_, Heap.get?_push_size _ rfl, rfl, _, rfl⟩⟩
theorem pe_lst (h : PA X es t) : PE X (.List es pos) (tLst t) := by
  intro pins s σ H Q I hq
  refine wpAny_List_spliced (thn (h pos pins s σ H _ I hq) fun us s1 ⟨xs, H1, I1, r, z, q⟩ => ⟨by rw [← r.length]; exact z, ?_⟩)
  have hf : H1 s1.heap.objs.size = none := I1.hok.fresh (Nat.le_refl _)
  refine ⟨.ref s1.heap.objs.size, upd H1 s1.heap.objs.size (.lst xs), I1.laid (t' := s1.toks) (fun b u e => Heap.get?_push_of_some _ e) (Nat.le_refl _) ?_, rfl, q _ hf⟩
  exact ⟨z, us, 0, r, Heap.get?_push_size _ rfl⟩
end
noncomputable abbrev Sp := List V → Hp → VK → XK → Prop
noncomputable abbrev CXT := List Env → Hp → Shared → XK → Value → Shared → Prop
structure Env0 (P : Program) (w : World) (K : PySem.W.Frag) (mg : Str → Option Value) (base : Heap) (A : Around) (outer : List Env) (s : Shared) (H : Hp) : Prop where
  frames : A.frames = some outer
  mod : Mod K mg base
  bs : ∀ b o, base.get? b = some o → s.heap.get? b = some o ∧ H b = none
  bsz : base.objs.size ≤ s.heap.objs.size
  funs : s.heap.FunFrames base outer
  frf : ∀ b ∈ frs outer, H b = none
  hok : HOk P w H s.heap
  bare : AllBare s.gens
noncomputable def CE (outer : List Env) (P : Program) (w : World) (H : Hp) (s : Shared) (Q : VK) (u : Value) (s' : Shared) : Prop :=
  ∃ v H', s'.os = s.os ∧ AllBare s'.gens ∧ Un (frs outer) [] H H' s.heap s'.heap ∧ HOk P w H' s'.heap ∧ RelV v u ∧ Q v H'
noncomputable def CR (CX : CXT) (outer : List Env) (P : Program) (w : World) (H : Hp) (s : Shared) (Q : VK) (E : XK) (r : Result) (s' : Shared) : Prop :=
  match r with
  | .ok (.ret u) => CE outer P w H s Q u s'
  | .ok _ => False
  | .error e => CX outer H s E e s'
structure FnOk (P : Program) (w : World) (K : PySem.W.Frag) (mg : Str → Option Value) (base : Heap) (CX : CXT) (k : Nat) (f : Addr) (fd : FuncData) (ps : List Str) (sp : Sp) : Prop where
  len : ∀ vs H Q E, sp vs H Q E → vs.length = ps.length
  run : ∀ (A : Around) (outer : List Env) (s : Shared) (H : Hp) (args : Args) (us : List Value) (vs : List V) (Q : VK) (E : XK), Room k A → Env0 P w K mg base A outer s H → BindsTo s fd args (ps.zip us) → Vals vs us → sp vs H Q E →
    codeAny (model P w) A (.call (.ref f) args) (CR CX outer P w H s Q E) s
section
variable {X : Cx} {pins : List (Addr × Obj)} {σ : St} {H : Hp} {s s' : Shared}
theorem Inv.env0 (I : Inv X pins σ H s) : Env0 X.prog X.w X.K X.mg X.base X.A X.stack s H :=
  ⟨I.ok.frames, I.ok.mod, I.bs, Nat.le_trans I.ok.bsz I.sz, I.stack, I.stkFree, I.hok, I.bare⟩
theorem Inv.after {Q : VK} {u : Value} (I : Inv X pins σ H s) (h : CE X.stack X.prog X.w H s Q u s') : EP X pins σ Q u s' := by
  obtain ⟨v, H', os, bare, un, hok, r, q⟩ := h
  obtain ⟨hh, g, d, t, os'⟩ := s'
  obtain rfl : os' = s.os := os
  exact ⟨v, H', I.call (h' := hh) (g' := g) (d' := d) (t' := t) (ch := []) un hok bare (fun b z => absurd z (by simp)), r, q⟩
end
noncomputable def tCall (sp : Sp) (dvs : List V) (E : XK) (t : TA) : TE := fun σ H Q => t σ H fun vs H1 => sp (vs ++ dvs) H1 Q E
noncomputable def Binds (K : PySem.W.Frag) (fd : FuncData) (ps : List Str) (ds : List Value) : Prop :=
  ∀ (s : Shared) (us : List Value), K.In s.heap → (us ++ ds).length = ps.length → BindsTo s fd ⟨us, []⟩ (ps.zip (us ++ ds))
theorem Binds.all {K : PySem.W.Frag} {fd : FuncData} {ps : List Str} (h : ∀ us : List Value, us.length = ps.length → bindArgs fd ⟨us, []⟩ = pure (ps.zip us)) : Binds K fd ps [] := fun s us _ hl => by
  rw [List.append_nil] at hl ⊢
  exact .of_eq (h us hl)
noncomputable def Passes (CX : CXT) (X : Cx) (E : XK) : Prop := ∀ (pins : List (Addr × Obj)) (σ : St) (H : Hp) (s : Shared) (e : Value) (s' : Shared), Inv X pins σ H s → CX X.stack H s E e s' → X.xe e s'
section
variable {X : Cx} {CX : CXT} {k : Nat} {f C : Addr} {fd : FuncData} {ps : List Str} {sp : Sp} {dvs : List V} {ds : List Value} {E : XK} {x m : Str} {p pos apos : Pos} {e o : Expr} {es : List Expr} {ta : TE} {t : TA}
theorem run_fn {pins : List (Addr × Obj)} {σ : St} {H : Hp} {s : Shared} {Q : VK} {us : List Value} {vs : List V} (F : FnOk X.prog X.w X.K X.mg X.base CX k f fd ps sp) (hr : Room k X.A) (hb : Binds X.K fd ps ds) (hd : Vals dvs ds) (hx : Passes CX X E)
    (I : Inv X pins σ H s) (r : Vals vs us) (h : sp (vs ++ dvs) H Q E) : wpAny (model X.prog X.w) X.A (call (.ref f) us) (EP X pins σ Q) X.xe s := by
  have r2 : Vals (vs ++ dvs) (us ++ ds) := r.append hd
  have hl : (us ++ ds).length = ps.length := by rw [← r2.length]; exact F.len _ _ _ _ h
  refine wpAny_call (codeAny_mono (F.run X.A X.stack s H ⟨us, []⟩ (us ++ ds) (vs ++ dvs) Q E hr I.env0 (hb s us I.kIn hl) r2 h) fun r s' hq => ?_)
  cases r with
  | error e => exact hx pins σ H s e s' I hq
  | ok fl =>
    cases fl with
    | ret u => exact I.after hq
    | next => exact False.elim hq
    | brk => exact False.elim hq
    | cont => exact False.elim hq
theorem pe_call (F : FnOk X.prog X.w X.K X.mg X.base CX k f fd ps sp) (hr : Room k X.A) (hg : Gl X x) (hm : X.mg x = some (.ref f)) (hk : PySem.W.keepIn X.K (.ref f) = true) (hb : Binds X.K fd ps ds) (hd : Vals dvs ds) (hx : Passes CX X E)
    (ha : PA X (e :: es) t) (hdb : (x == ("__debug__" : Str)) = false := by decide) (he : starEach (e :: es) X.env = (false, eval e X.env) :: starEach es X.env := by rfl) (hpl : (backTo pos (starEach es X.env)).any (·.1) = false := by rfl) :
    PE X (.Call (.Name x p) (e :: es) [] pos) (tCall sp dvs E t) := by
  intro pins s σ H Q I h
  refine wpAny_Call_Name_kw (ld_glob I hg hm ?_ hdb)
  refine PySem.W.callWith_K (h₀ := X.base) I.ok.mod.kin hk (thn (ha pos pins s σ H _ I h) fun us s1 ⟨vs, H1, I1, r, q⟩ => ⟨I1.kIn, ?_⟩) he hpl
  exact run_fn F hr hb hd hx I1 r q
end
section
variable {X : Cx} {CX : CXT} {k : Nat} {f C : Addr} {fd : FuncData} {ps ks : List Str} {sp : Sp} {E : XK} {x m : Str} {p pos apos kpos : Pos} {e o : Expr} {es : List Expr} {kws : List Keyword} {te ta : TE} {t tk : TA} {nm : Option Str}
variable {g : List Value → List Value → List Value} {gV : List V → List V → List V}
end
structure FnScope (N P : List Str) (sc : Scope) : Prop where
  kind : sc.kind = .function
  co : sc.isCoroutine = false
  gen : sc.isGenerator = false
  nd : N.Nodup
  pre : N.take P.length = P
  par : ∀ x ∈ P, sc.names.lookup x = some .local ∨ sc.names.lookup x = some .cell
  nofree : ∀ y ∈ sc.names, y.2 ≠ .free
theorem bindL_out {kindOf : Str → Option NameKind} {x : Str} : ∀ {binds : List (Str × Value)} {m : Str → Option Value}, (∀ v, (x, v) ∉ binds) → bindL kindOf binds m x = m x
  | [], _, _ => rfl
  | (n, v) :: r, m, h => by
    unfold bindL
    rw [bindL_out fun w hw => h w (List.mem_cons_of_mem _ hw)]
    split
    · have : x ≠ n := by rintro rfl; exact h v List.mem_cons_self
      simp [this]
    · rfl
theorem bindC_out {kindOf : Str → Option NameKind} {x : Str} : ∀ {binds : List (Str × Value)} {m : Str → Option Value}, (∀ v, (x, v) ∉ binds) → bindC kindOf binds m x = m x
  | [], _, _ => rfl
  | (n, v) :: r, m, h => by
    unfold bindC
    rw [bindC_out fun w hw => h w (List.mem_cons_of_mem _ hw)]
    split
    · rfl
    · have : x ≠ n := by rintro rfl; exact h v List.mem_cons_self
      simp [this]
theorem bindL_get {kindOf : Str → Option NameKind} {x : Str} {v : Value} : ∀ {P : List Str} {vs : List Value} {i : Nat} {m : Str → Option Value}, P.Nodup → P[i]? = some x → vs[i]? = some v → kindOf x = some .local →
    bindL kindOf (P.zip vs) m x = some v
  | [], _, _, _, _, h, _, _ => by simp at h
  | _ :: _, [], _, _, _, _, h, _ => by simp at h
  | p :: P, w :: vs, 0, m, nd, h1, h2, hk => by
    simp at h1 h2; subst h1; subst h2
    show bindL kindOf ((p, w) :: P.zip vs) m p = _
    unfold bindL
    rw [bindL_out fun v hv => (List.nodup_cons.mp nd).1 (List.of_mem_zip hv).1, if_pos hk]
    simp
  | p :: P, w :: vs, i + 1, m, nd, h1, h2, hk => by
    show bindL kindOf ((p, w) :: P.zip vs) m x = _
    unfold bindL
    exact bindL_get (i := i) (List.nodup_cons.mp nd).2 (by simpa using h1) (by simpa using h2) hk
theorem bindC_get {kindOf : Str → Option NameKind} {x : Str} {v : Value} : ∀ {P : List Str} {vs : List Value} {i : Nat} {m : Str → Option Value}, P.Nodup → P[i]? = some x → vs[i]? = some v → kindOf x ≠ some .local →
    bindC kindOf (P.zip vs) m x = some v
  | [], _, _, _, _, h, _, _ => by simp at h
  | _ :: _, [], _, _, _, _, h, _ => by simp at h
  | p :: P, w :: vs, 0, m, nd, h1, h2, hk => by
    simp at h1 h2; subst h1; subst h2
    show bindC kindOf ((p, w) :: P.zip vs) m p = _
    unfold bindC
    rw [bindC_out fun v hv => (List.nodup_cons.mp nd).1 (List.of_mem_zip hv).1, if_neg hk]
    simp
  | p :: P, w :: vs, i + 1, m, nd, h1, h2, hk => by
    show bindC kindOf ((p, w) :: P.zip vs) m x = _
    unfold bindC
    exact bindC_get (i := i) (List.nodup_cons.mp nd).2 (by simpa using h1) (by simpa using h2) hk
noncomputable def start (N : List Str) (vs : List V) : St := vs.map some ++ List.replicate (N.length - vs.length) none
noncomputable def cxOf (CX : CXT) (P : Program) (w : World) (K : PySem.W.Frag) (mg : Str → Option Value) (base : Heap) (N : List Str) (qual : Str) (scope : Scope) (f : Addr) (cd : Value) (A : Around) (outer : List Env) (s : Shared) (H : Hp) (E : XK) : Cx where
  prog := P
  w := w
  K := K
  mg := mg
  base := base
  A := A.deeper (envOfC qual scope s.heap.objs.size f cd)
  N := N
  s₀ := s
  H₀ := H
  env := envOfC qual scope s.heap.objs.size f cd
  outer := outer
  stack := envOfC qual scope s.heap.objs.size f cd :: outer
  ex := []
  calm := true
  fn := fun _ => true
  pn := []
  xe := fun e s' => wpAny (model P w) (A.deeper (envOfC qual scope s.heap.objs.size f cd)) (leaving (envOfC qual scope s.heap.objs.size f cd) e) (fun _ s'' => CX outer H s E e s'') (fun e' s'' => CX outer H s E e' s'') s'
theorem cell_has {sc : Scope} {n : Nat} {x : Str} (h : sc.names.lookup x = some .cell) : ∃ c, (cellsFrom n sc.names []).lookup x = some c := by
  have q := PySem.W.cellsFrom_some sc.names n [] (.inl h)
  exact Option.isSome_iff_exists.mp q
theorem inv_start {CX : CXT} {P : Program} {w : World} {K : PySem.W.Frag} {mg : Str → Option Value} {base : Heap} {N ps : List Str} {qual : Str} {scope : Scope} {f : Addr} {cd : Value} {A : Around} {outer : List Env} {s s1 : Shared} {H : Hp} {E : XK} {us : List Value} {vs : List V}
    (S : FnScope N ps scope) (hd : A.handled = none) (e0 : Env0 P w K mg base A outer s H) (hl : vs.length = ps.length) (r : Vals vs us)
    (x : InCallC s s.heap.objs.size (bindL (envOfC qual scope s.heap.objs.size f cd).kindOf (ps.zip us) fun _ => none) (cellsFrom (s.heap.objs.size + 1) scope.names []) (bindC (envOfC qual scope s.heap.objs.size f cd).kindOf (ps.zip us) fun _ => none) s1) :
    Inv (cxOf CX P w K mg base N qual scope f cd A outer s H E) [] (start N vs) H s1 := by
  have hpl : ps.length ≤ N.length := by have := congrArg List.length S.pre; rw [List.length_take] at this; omega
  obtain ⟨h1, tk, rfl, hk⟩ := x.done
  have noA : ∀ b : Addr, b ∉ (cxOf CX P w K mg base N qual scope f cd A outer s H E).ex := fun b z => absurd (show b ∈ ([] : List Addr) from z) (by simp)
  refine ⟨⟨e0.mod, S.kind, rfl, rfl, Nat.le_refl _, fun y z c h1 h2 => ?_, fun y hy => ?_, fun y c _ h => ?_, fun _ => hd, Around.frames_deeper e0.frames, .inr ⟨rfl, rfl⟩, fun b z => absurd z (noA b), e0.bs, e0.bsz, fun b _ _ => noA b, fun b z => absurd z (noA b), e0.funs, e0.frf⟩,
    rfl, e0.bare, Un.kept hk, ⟨_, x.toInCall.ns, fun i y v h1 h2 h3 => ?_⟩, fun y c h => ⟨_, x.cell y c h⟩, e0.hok.fresh (Nat.le_refl _), fun y c h => ?_, fun p hp => absurd (show p ∈ ([] : List (Addr × Obj)) from hp) (by simp), e0.hok.kept hk, ?_⟩
  · exact name_of_addr x.apart (PySem.mem_of_lookup h1) (PySem.mem_of_lookup h2)
  · have hy : scope.names.lookup y = some .cell ∨ scope.names.lookup y = some .free := hy
    rcases hy with hy | hy
    · exact cell_has hy
    · exact absurd rfl (S.nofree _ (PySem.mem_of_lookup hy))
  · exact Nat.le_of_lt (x.above y c (PySem.mem_of_lookup h))
  · have hi : i < vs.length := by
      unfold start at h2
      by_cases hi : i < vs.length
      · exact hi
      · rw [List.getElem?_append_right (by simpa using hi)] at h2
        rw [List.getElem?_replicate] at h2
        split at h2 <;> cases h2
    have ha : vs[i]? = some v := by
      unfold start at h2
      rw [List.getElem?_append_left (by simpa using hi), List.getElem?_map] at h2
      cases e : vs[i]? with
      | none => rw [e] at h2; cases h2
      | some a => rw [e] at h2; cases h2; rfl
    obtain ⟨u, hu, rv⟩ := r.get ha
    have hp : ps[i]? = some y := by
      rw [← S.pre, List.getElem?_take_of_lt (by omega)]; exact h1
    have ndP : ps.Nodup := by rw [← S.pre]; exact S.nd.sublist (List.take_sublist _ _)
    refine ⟨u, rv, ?_⟩
    rcases S.par y (List.mem_of_getElem? hp) with k | k
    · exact .inl ⟨k, bindL_get ndP hp hu k⟩
    · obtain ⟨c, e⟩ := cell_has (n := s.heap.objs.size + 1) k
      refine .inr ⟨.inl k, c, e, ?_⟩
      have q := x.cell y c e
      rw [bindC_get ndP hp hu (by show scope.names.lookup y ≠ _; rw [k]; decide)] at q
      exact q
  · exact e0.hok.fresh (Nat.le_of_lt (x.above y c (PySem.mem_of_lookup h)))
  · unfold start
    show _ = N.length
    rw [List.length_append, List.length_map, List.length_replicate]
    omega
theorem fn_of {CX : CXT} {P : Program} {w : World} {K : PySem.W.Frag} {mg : Str → Option Value} {base : Heap} {k : Nat} {f : Addr} {name qual : Str} {params : Arguments} {body : List Stmt} {scope : Scope} {dV kV doc pm cdv ct oc : Value} {an od : Option Addr}
    {osl : Array (Option Value)} {N ps : List Str} {sp : Sp} (lk : K.lookup f = some ⟨oc, od, .func (PySem.W.fnOf name qual params body scope dV kV doc pm an cdv ct), osl⟩) (hcd : PySem.W.codeIn K cdv qual = true) (S : FnScope N ps scope)
    (len : ∀ vs H Q E, sp vs H Q E → vs.length = ps.length)
    (hbody : ∀ (A : Around) (outer : List Env) (s : Shared) (H : Hp) (vs : List V) (Q : VK) (E : XK), Room k (A.deeper (envOfC qual scope s.heap.objs.size f cdv)) → sp vs H Q E →
      ∃ t, PSs (cxOf CX P w K mg base N qual scope f cdv A outer s H E) body t ∧ t { nx := fun _ H' => Q .non H', rt := Q } (start N vs) H) :
    FnOk P w K mg base CX (k + 1) f (PySem.W.fnOf name qual params body scope dV kV doc pm an cdv ct) ps sp := by
  refine ⟨len, fun A outer s H args us vs Q E hr e0 hb r hsp => ?_⟩
  have hl := len _ _ _ _ hsp
  have KX : K.In s.heap := e0.mod.kin.keeps fun b o e => (e0.bs b o e).1
  have lim : s.heap.NoLimit := e0.mod.nolimit.keeps fun b o e => (e0.bs b o e).1
  have hkind : ∀ y ∈ ps.zip us, scope.names.lookup y.1 = some .local ∨ (scope.names.lookup y.1 = some .cell ∧ ((cellsFrom (s.heap.objs.size + 1) scope.names []).lookup y.1).isSome = true) := fun ⟨n, v⟩ hy => by
    rcases S.par n (List.of_mem_zip hy).1 with q | q
    · exact .inl q
    · exact .inr ⟨q, PySem.W.cellsFrom_some _ _ _ (.inl q)⟩
  refine codeAny_call_function hr.depth (KX _ _ lk) rfl S.co S.gen rfl (PySem.W.codeRec_of KX hcd) (hb _ _ _ _ ?_)
  refine wpAny_newFunctionEnv_cells S.kind hkind fun env he s1 x => ?_
  subst he
  refine ⟨lim.keeps x.toInCall.keep, codeAny_func ?_⟩
  obtain ⟨t, ht, hq⟩ := hbody A outer s H vs Q E (hr.deeper _) hsp
  have I : Inv (cxOf CX P w K mg base N qual scope f cdv A outer s H E) [] (start N vs) H s1 := inv_start S hr.hd e0 hl r x
  refine wpAny_mono (ht [] s1 (start N vs) H _ I hq) (fun fl s' hs => ?_) fun e s' hs => hs
  have fin : ∀ {σ' : St} {H' : Hp} {v : V} {u : Value}, Inv (cxOf CX P w K mg base N qual scope f cdv A outer s H E) [] σ' H' s' → RelV v u → Q v H' → CE outer P w H s Q u s' :=
    fun {σ' H' v u} J rv q => ⟨v, H', J.os, J.bare, J.base, J.hok, rv, q⟩
  cases fl with
  | ret u =>
    obtain ⟨v, σ', H', J, rv, q⟩ := hs
    exact fin J rv q
  | next =>
    obtain ⟨σ', H', J, q⟩ := hs
    exact fin (v := V.non) (u := Value.none) J rfl q
  | brk =>
    obtain ⟨_, _, _, q⟩ := hs
    exact False.elim q
  | cont =>
    obtain ⟨_, _, _, q⟩ := hs
    exact False.elim q
end L2
namespace L2
open PySem PySem.Spec PyProof.Rows
section
variable {X : Cx} {x : Str} {p pos : Pos} {e : Expr} {es : List Expr} {t : TA} {id T : String} {r : List V → Hp → VK → Prop}
noncomputable def tCB (r : List V → Hp → VK → Prop) (t : TA) : TE := fun σ H Q => t σ H fun vs H1 => r vs H1 Q
theorem pe_callB (hc : CallR X (.builtin id) r) (hg : Gl X x) (hm : X.mg x = none) (hv : bootBuiltins x = some (.builtin id)) (ha : PA X (e :: es) t) (hn : x ≠ "__name__" := by decide) (hdb : (x == ("__debug__" : Str)) = false := by decide)
    (he : starEach (e :: es) X.env = (false, eval e X.env) :: starEach es X.env := by rfl) (hpl : (backTo pos (starEach es X.env)).any (·.1) = false := by rfl) : PE X (.Call (.Name x p) (e :: es) [] pos) (tCB r t) := by
  intro pins s σ H Q I h
  refine wpAny_Call_Name_kw (ld_blt I hg hm hv ?_ hn hdb)
  exact PyProof.Rows.callWith_builtin1 (thn (ha pos pins s σ H _ I h) fun us s1 ⟨vs, H1, I1, r1, q1⟩ => hc pins s1 σ H1 vs us Q I1 r1 q1) he hpl
theorem pe_callTy (hc : CallR X (.type T) r) (hg : Gl X x) (hm : X.mg x = none) (hv : bootBuiltins x = some (.type T)) (ha : PA X (e :: es) t) (hn : x ≠ "__name__" := by decide) (hdb : (x == ("__debug__" : Str)) = false := by decide)
    (he : starEach (e :: es) X.env = (false, eval e X.env) :: starEach es X.env := by rfl) (hpl : (backTo pos (starEach es X.env)).any (·.1) = false := by rfl) : PE X (.Call (.Name x p) (e :: es) [] pos) (tCB r t) := by
  intro pins s σ H Q I h
  refine wpAny_Call_Name_kw (ld_blt I hg hm hv ?_ hn hdb)
  exact PyProof.Rows.callWith_type1 (thn (ha pos pins s σ H _ I h) fun us s1 ⟨vs, H1, I1, r1, q1⟩ => hc pins s1 σ H1 vs us Q I1 r1 q1) he hpl
end
end L2
namespace HT
open PySem PyProof.Rows
section
open PySem.SeqAt
open PySem.AutoSeq1 (wpAny_loadPart')
open PySem.MeetsSeq PySem.MeetsSeq2 PySem.MeetsSeq3
end
section
variable {prog : Program} {w : World} {A : Around} {E : Value → Shared → Prop} {s : Shared}
theorem cat_tup {t b : Addr} {vs ws : List Value} {Q : Value → Shared → Prop} (ht : IsTup s.heap t vs.toArray) (hb : IsTup s.heap b ws.toArray) (hv : vs ≠ [])
    (h1 : ws = [] → Q (.ref t) s) (h2 : ws ≠ [] → Q (.ref s.heap.objs.size) { s with heap := s.heap.push { cls := .type "tuple", data := .seq (vs ++ ws).toArray } })
    (hsz : vs.length + ws.length ≤ sizeLine) : wpAny (model prog w) A (binaryOp .Add (.ref t) (.ref b)) Q E s := by
  obtain ⟨⟨cls, dd, data, sl⟩, ho, hc, n, hd⟩ := id ht
  obtain ⟨⟨cls2, dd2, data2, sl2⟩, ho2, hc2, n2, hd2⟩ := id hb
  simp only at hc hd hc2 hd2
  subst hc hd hc2 hd2
  have e : vs.toArray ++ ws.toArray = (vs ++ ws).toArray := by simp
  by_cases hw : ws = []
  · exact concat_meets ⟨_, ho, rfl⟩ ⟨_, ho2, rfl⟩ noFill_tuple_add seq_tuple_add PySem.F.slot_tuple_add PySem.F.entry_tuple_add (PySem.F.args_tuple_add_2 _ _)
      (tuple_addW1 t b vs.toArray ws.toArray n n2 dd dd2 sl sl2 (by simpa using hv) (by simp [hw])) ⟨ho, ho2, h1 hw⟩
  · refine concat_meets ⟨_, ho, rfl⟩ ⟨_, ho2, rfl⟩ noFill_tuple_add seq_tuple_add PySem.F.slot_tuple_add PySem.F.entry_tuple_add (PySem.F.args_tuple_add_2 _ _)
      (tuple_addW2 t b vs.toArray ws.toArray n n2 dd dd2 sl sl2 (by simpa using hv) (by simpa using hw) (by rw [List.size_toArray, List.size_toArray]; exact hsz)) ⟨ho, ho2, ?_⟩
    rw [e]
    exact h2 hw
noncomputable def sIx (n d : Nat) : Option Int → Nat
  | none => d
  | some v => if v < 0 then (v + (n : Int)).toNat else min v.toNat n
theorem sIx_le (n d : Nat) (hd : d ≤ n) (o : Option Int) : sIx n d o ≤ n := by
  cases o with
  | none => exact hd
  | some v =>
    show (if v < 0 then (v + (n : Int)).toNat else min v.toNat n) ≤ n
    by_cases hv : v < 0
    · rw [if_pos hv]; omega
    · rw [if_neg hv]; exact Nat.min_le_right _ _
theorem clip_eq (v : Int) (n d : Nat) : (if v < 0 then max (v + (n : Int)) 0 else min v (n : Int)) = ((sIx n d (some v) : Nat) : Int) := by
  show (if v < 0 then max (v + (n : Int)) 0 else min v (n : Int)) = (((if v < 0 then (v + (n : Int)).toNat else min v.toNat n) : Nat) : Int)
  by_cases hv : v < 0
  · simp only [if_pos hv]; omega
  · simp only [if_neg hv]; omega
theorem adjust_gen (lo hi : Option Int) (n : Nat) : Builtin.Slice.sliceAdjust lo hi 1 (n : Int) = (((sIx n 0 lo : Nat) : Int), ((sIx n n hi : Nat) : Int)) := by
  have h1 : ¬ ((1 : Int) < 0) := by omega
  unfold Builtin.Slice.sliceAdjust
  simp only [h1, if_false]
  refine Prod.ext ?_ ?_
  · cases lo with
    | none => rfl
    | some v => exact clip_eq v n 0
  · cases hi with
    | none => rfl
    | some v => exact clip_eq v n n
theorem places_gen (i j : Nat) : Builtin.Slice.slicePlaces (i : Int) (j : Int) 1 = j - i := by
  unfold Builtin.Slice.slicePlaces
  have h1 : (1 : Int) > 0 := by omega
  simp only [h1, if_true, Int.ediv_one]
  split <;> omega
theorem slicePart_ {v : Value} {o : Option Int} {Q : Option Int → Shared → Prop} (p : IsPart v o) (h : Q o s) : wpAny (model prog w) A (Builtin.Slice.slicePartIndex v) Q E s := by
  cases p with
  | none => exact slicePart_none h
  | int i t => exact slicePart_int h
theorem sliceApplied_gen {sl : Addr} {vl vu : Value} {lo hi : Option Int} {n : Nat} {Q : Int × Int × Nat → Shared → Prop} (hs : s.heap.IsSliceOf sl vl vu .none) (pl : IsPart vl lo) (pu : IsPart vu hi)
    (h : Q (((sIx n 0 lo : Nat) : Int), 1, sIx n n hi - sIx n 0 lo) s) : wpAny (model prog w) A (Builtin.Slice.sliceApplied (.ref sl) (pure (n : Int))) Q E s := by
  obtain ⟨os, hos, hcs, hds⟩ := id hs
  unfold Builtin.Slice.sliceApplied Builtin.Slice.sliceFields
  refine wpAny_bind (wpAny_bind (wpAny_field hos hds (x := vl) rfl (wpAny_bind (wpAny_field hos hds (x := vu) rfl (wpAny_bind (wpAny_field hos hds (x := .none) rfl (wpAny_pure ?_)))))))
  refine wpAny_bind (slicePart_none ?_)
  show wpAny _ _ (if ((1 : Int) == 0) = true then _ else _) _ _ s
  rw [if_neg (by decide)]
  refine wpAny_bind (slicePart_ pl (wpAny_bind (slicePart_ pu (wpAny_bind (wpAny_pure ?_)))))
  show wpAny _ _ (match Builtin.Slice.sliceAdjust lo hi 1 (n : Int) with | (lo, hi) => pure (lo, (1 : Int), Builtin.Slice.slicePlaces lo hi 1)) _ _ s
  rw [adjust_gen lo hi n]
  show wpAny _ _ (pure (((sIx n 0 lo : Nat) : Int), (1 : Int), Builtin.Slice.slicePlaces ((sIx n 0 lo : Nat) : Int) ((sIx n n hi : Nat) : Int) 1)) _ _ s
  rw [places_gen]
  exact wpAny_pure h
theorem pick_gen (xs : Array Value) (i k : Nat) : ((List.range k).filterMap fun (m : Nat) => xs[((i : Int) + (m : Int) * 1).toNat]?).toArray = ((xs.toList.drop i).take k).toArray := by
  have e : (fun (m : Nat) => xs[((i : Int) + (m : Int) * 1).toNat]?) = fun m => xs[i + m]? := by
    funext m
    have : ((i : Int) + (m : Int) * 1).toNat = i + m := by omega
    rw [this]
  rw [e]
  have := pick_run xs i k
  rw [List.filterMap_map] at this
  have e2 : ((fun x => xs[x]?) ∘ fun x => i + x) = fun m => xs[i + m]? := rfl
  rw [e2] at this
  rw [this]
theorem getItem_tuple_cut {t sl : Addr} {items : Array Value} {vl vu : Value} {lo hi : Option Int} {Q : Value → Shared → Prop} (ht : IsTup s.heap t items) (hs : s.heap.IsSliceOf sl vl vu .none) (pl : IsPart vl lo) (pu : IsPart vu hi)
    (hw : ¬ (sIx items.size 0 lo = 0 ∧ sIx items.size items.size hi = items.size))
    (h : Q (.ref s.heap.objs.size) { s with heap := s.heap.push { cls := .type "tuple", data := .seq ((items.toList.drop (sIx items.size 0 lo)).take (sIx items.size items.size hi - sIx items.size 0 lo)).toArray } })
    (hsz : items.size ≤ sizeLine) : wpAny (model prog w) A (getItem (.ref t) (.ref sl)) Q E s := by
  have htake : sizeOk (.seq ((items.toList.drop (sIx items.size 0 lo)).take (sIx items.size items.size hi - sIx items.size 0 lo)).toArray) := by
    show ((items.toList.drop (sIx items.size 0 lo)).take (sIx items.size items.size hi - sIx items.size 0 lo)).toArray.size ≤ sizeLine
    rw [List.size_toArray, List.length_take, List.length_drop, Array.length_toList]
    omega
  have hj : sIx items.size items.size hi ≤ items.size := sIx_le _ _ (Nat.le_refl _) hi
  obtain ⟨os, hos, hcs, hds⟩ := id hs
  have hTs : s.TypeIs (.ref sl) "slice" := ⟨os, hos, hcs⟩
  unfold getItem
  try with_reducible refine wpAny_holding ?_
  first | refine wpAny_bind (wpAny_pure ?_) | skip
  refine wpAny_bind (wpAny_sequenceKey ht.typeIs (by decide) ?_)
  refine wpAny_bind (wpAny_callSpecial?_slot (name := Str.ofString "__getitem__") ht.typeIs PyProof.Rows.slot_tuple_getitem
    (wpAny_call_entry PyProof.Rows.slot_tuple_getitem ht.typeIs entry_tuple_getitem ?_ (args_tuple_getitem _ _)))
  show wpAny _ _ (Builtin.Tuple.tupleItemsOf (.ref t) >>= _) _ _ s
  refine wpAny_bind (tupleItemsOf_ ht ?_)
  refine wpAny_bind (wpAny_typeOf hTs ?_)
  rw [if_pos (by decide)]
  refine wpAny_bind (sliceApplied_gen hs pl pu ?_)
  have hno : ¬ ((((sIx items.size 0 lo : Nat) : Int) == 0 && (1 : Int) == 1 && (sIx items.size items.size hi - sIx items.size 0 lo) == items.size) = true) := by
    intro q
    rw [Bool.and_eq_true, Bool.and_eq_true] at q
    have q1 : ((sIx items.size 0 lo : Nat) : Int) = 0 := eq_of_beq q.1.1
    have q2 : sIx items.size items.size hi - sIx items.size 0 lo = items.size := eq_of_beq q.2
    exact hw ⟨by omega, by omega⟩
  show wpAny _ _ (if (((sIx items.size 0 lo : Nat) : Int) == 0 && (1 : Int) == 1 && (sIx items.size items.size hi - sIx items.size 0 lo) == items.size) = true then _ else _) _ _ s
  rw [if_neg hno, pick_gen]
  first
    | exact wpAny_bind (m := Builtin.Tuple.tupleExact _) (wpAny_newObj_type (wpAny_pure ⟨_, rfl, wpAny_pure h⟩) htake)
    | exact wpAny_bind (m := Builtin.Tuple.tupleExact _) (wpAny_newObj_type (wpAny_bind (wpAny_pure (wpAny_pure ⟨_, rfl, wpAny_pure h⟩))) htake)
    | exact wpAny_bind (wpAny_bind (m := Builtin.Tuple.tupleExact _) (wpAny_newObj_type (wpAny_pure (wpAny_pure ⟨_, rfl, wpAny_pure h⟩)) htake))
    | exact wpAny_bind (wpAny_bind (m := Builtin.Tuple.tupleExact _) (wpAny_newObj_type (wpAny_pure ⟨_, rfl, wpAny_pure h⟩) htake))
end
end HT
namespace L2
open PySem PySem.Spec PyProof.Rows
noncomputable abbrev TO := St → Hp → (Option Int → Hp → Prop) → Prop
noncomputable def PO (X : Cx) (e : Option Expr) (t : TO) : Prop :=
  ∀ (pins : List (Addr × Obj)) (s : Shared) (σ : St) (H : Hp) (Q : Option Int → Hp → Prop), Inv X pins σ H s → t σ H Q →
    wpAny (model X.prog X.w) X.A (evalPart e X.env) (fun u s' => ∃ o H', Inv X pins σ H' s' ∧ IsPart u o ∧ Q o H') X.xe s
noncomputable def tNoPart : TO := fun _ H Q => Q none H
noncomputable def tPart (t : TE) : TO := fun σ H Q => t σ H fun x H1 => ∃ i, x = .int i ∧ Q (some i) H1
section
variable {X : Cx} {e : Expr} {te : TE} {lo hi : Option Expr} {tl th : TO} {pos p2 : Pos}
theorem po_none : PO X none tNoPart := by
  intro pins s σ H Q I h
  rw [evalPart_none]
  exact wpAny_pure ⟨none, H, I, .none, h⟩
theorem po_some (h : PE X e te) : PO X (some e) (tPart te) := by
  intro pins s σ H Q I hw
  rw [evalPart_some]
  refine thn (h pins s σ H _ I hw) ?_
  rintro u s1 ⟨x, H1, I1, r1, q1⟩
  obtain ⟨i, rfl, q⟩ := q1
  obtain ⟨t, rfl⟩ := r1
  exact ⟨some i, H1, I1, .int i t, q⟩
noncomputable def SlR (X : Cx) (r : V → Option Int → Option Int → Hp → VK → Prop) : Prop :=
  ∀ (pins : List (Addr × Obj)) (s : Shared) (σ : St) (H : Hp) (x : V) (v vl vu : Value) (lo hi : Option Int) (sl : Addr) (Q : VK), Inv X pins σ H s → RelV x v → s.heap.IsSliceOf sl vl vu .none → IsPart vl lo → IsPart vu hi → r x lo hi H Q →
    ∃ T id, typeLookup (.type T) "__getitem__" = pure (some (.builtin id)) ∧ s.TypeIs v T ∧ wpAny (model X.prog X.w) X.A (getItem v (.ref sl)) (EP X pins σ Q) X.xe s
noncomputable def tSl (r : V → Option Int → Option Int → Hp → VK → Prop) (te : TE) (tl th : TO) : TE := fun σ H Q => te σ H fun x H1 => tl σ H1 fun l H2 => th σ H2 fun u H3 => r x l u H3 Q
theorem pe_slice {r : V → Option Int → Option Int → Hp → VK → Prop} (hr : SlR X r) (he : PE X e te) (hl : PO X lo tl) (hu : PO X hi th) : PE X (.Subscript e (.Slice lo hi none p2) pos) (tSl r te tl th) := by
  intro pins s σ H Q I h
  refine Subscript_ (thn (he pins s σ H _ I h) ?_)
  rintro v s1 ⟨x, H1, I1, r1, q1⟩
  refine wpAny_Slice (thn (hl pins s1 σ H1 _ I1 q1) fun vl s2 ⟨l, H2, I2, pl, q2⟩ => thn (hu pins s2 σ H2 _ I2 q2) ?_)
  rintro vu s3 ⟨u, H3, I3, pu, q3⟩
  rw [evalPart_none]
  refine wpAny_pure ?_
  have I4 : Inv X pins σ H3 { s3 with heap := s3.heap.push { cls := .type "slice", data := .fields #[vl, vu, .none] } } := I3.kept (t' := s3.toks) fun b ob q => Heap.get?_push_of_some _ q
  obtain ⟨T, id, hT, ht, hg⟩ := hr pins { s3 with heap := s3.heap.push { cls := .type "slice", data := .fields #[vl, vu, .none] } } σ H3 x v vl vu l u s3.heap.objs.size Q I4 r1 (Heap.IsSliceOf.new ..) pl pu q3
  show wpAny (model X.prog X.w) X.A (subscriptTail e (.Slice lo hi none p2) v (.ref s3.heap.objs.size)) (EP X pins σ Q) X.xe { s3 with heap := s3.heap.push { cls := .type "slice", data := .fields #[vl, vu, .none] } }
  exact tail_any (ops := [.ref s3.heap.objs.size, v]) ht hT hg (by with_unfolding_all rfl)
noncomputable def cutV (xs : List V) (lo hi : Option Int) : List V := (xs.drop (HT.sIx xs.length 0 lo)).take (HT.sIx xs.length xs.length hi - HT.sIx xs.length 0 lo)
theorem cutV_length (xs : List V) (lo hi : Option Int) : (cutV xs lo hi).length ≤ xs.length := by
  unfold cutV
  rw [List.length_take, List.length_drop]
  omega
noncomputable def rSlT (K : PySem.W.Frag) : V → Option Int → Option Int → Hp → VK → Prop := fun x lo hi H Q => ∃ a xs, x = .ref a ∧ SqT K H a xs ∧
  ¬ (HT.sIx xs.length 0 lo = 0 ∧ HT.sIx xs.length xs.length hi = xs.length) ∧ ∀ p, H p = none → Q (.ref p) (upd H p (.tup (cutV xs lo hi)))
theorem sl_tup : SlR X (rSlT X.K) := by
  intro pins s σ H x v vl vu lo hi sl Q I rx hs pl pu h
  obtain ⟨a, xs, rfl, hx, hw, q⟩ := h
  cases rx
  obtain ⟨its, r, ht, hz⟩ := I.tuple hx
  have hlen : its.toArray.size = xs.length := by rw [List.size_toArray]; exact r.length.symm
  refine ⟨"tuple", _, PyProof.Rows.slot_tuple_getitem.lookup, ht.typeIs, ?_⟩
  refine HT.getItem_tuple_cut ht hs pl pu (by rw [hlen]; exact hw) ?_ (by rw [hlen]; exact hz)
  rw [hlen]
  refine ⟨.ref s.heap.objs.size, _, I.laid (t' := s.toks) (o := .tup (cutV xs lo hi)) (fun b ob q => Heap.get?_push_of_some _ q) (Nat.le_refl _) ?_, rfl, q _ (I.hok.fresh (Nat.le_refl _))⟩
  exact ⟨Nat.le_trans (cutV_length xs lo hi) hz, _, (r.drop (HT.sIx xs.length 0 lo)).take (HT.sIx xs.length xs.length hi - HT.sIx xs.length 0 lo), IsTup.new _ _⟩
noncomputable def rCatT (K : PySem.W.Frag) : R2 := fun x y H Q => ∃ a b xs ys, x = .ref a ∧ y = .ref b ∧ SqT K H a xs ∧ SqT K H b ys ∧ xs ≠ [] ∧ xs.length + ys.length ≤ sizeLine ∧
  (ys = [] → Q (.ref a) H) ∧ (ys ≠ [] → ∀ p, H p = none → Q (.ref p) (upd H p (.tup (xs ++ ys))))
theorem Vals.nil_iff {xs : List V} {us : List Value} (r : Vals xs us) : us = [] ↔ xs = [] := by
  cases r with
  | nil => simp
  | cons _ _ => simp
theorem op_catT : OpR X (binaryOp .Add) (rCatT X.K) := by
  intro pins s σ H x y v u Q I rx ry h
  obtain ⟨a, b, xs, ys, rfl, rfl, ha, hb, hx, hz, q1, q2⟩ := h
  cases rx
  cases ry
  obtain ⟨its, r1, p1, _⟩ := I.tuple ha
  obtain ⟨its2, r2, p2, _⟩ := I.tuple hb
  refine HT.cat_tup p1 p2 (fun z => hx (r1.nil_iff.mp z)) (fun z => ⟨.ref a, H, I, rfl, q1 (r2.nil_iff.mp z)⟩) (fun z => ?_) (by rw [← r1.length, ← r2.length]; exact hz)
  refine ⟨.ref s.heap.objs.size, _, I.laid (t' := s.toks) (o := .tup (xs ++ ys)) (fun b ob q => Heap.get?_push_of_some _ q) (Nat.le_refl _) ?_, rfl, q2 (fun w => z (r2.nil_iff.mpr w)) _ (I.hok.fresh (Nat.le_refl _))⟩
  exact ⟨by rw [List.length_append]; exact hz, _, r1.append r2, IsTup.new _ _⟩
end
end L2
namespace L2
open PySem PySem.Spec PyProof.Rows
noncomputable def ixN (n : Nat) (i : Int) : Option Nat := if 0 ≤ i then (if i < n then some i.toNat else none) else if -(n : Int) ≤ i then some (i + n).toNat else none
noncomputable def atI {α : Type} (xs : List α) (i : Int) : Option α := (ixN xs.length i).bind fun j => xs[j]?
theorem ixN_seq {n : Nat} {i : Int} {j : Nat} (h : ixN n i = some j) : seqIndex? i n = some j ∧ j < n ∧ -(n : Int) ≤ i ∧ i < n := by
  unfold ixN at h
  by_cases h0 : 0 ≤ i
  · rw [if_pos h0] at h
    by_cases h1 : i < n
    · rw [if_pos h1] at h
      have e : i.toNat = j := Option.some.inj h
      exact ⟨by rw [seqIndex_of h0 h1, e], by omega, by omega, h1⟩
    · rw [if_neg h1] at h; cases h
  · rw [if_neg h0] at h
    by_cases h1 : -(n : Int) ≤ i
    · rw [if_pos h1] at h
      have e : (i + n).toNat = j := Option.some.inj h
      exact ⟨by rw [seqIndex_neg (by omega) h1, e], by omega, h1, by omega⟩
    · rw [if_neg h1] at h; cases h
theorem atI_get {α : Type} {xs : List α} {i : Int} {v : α} (h : atI xs i = some v) : ∃ j, seqIndex? i xs.length = some j ∧ xs[j]? = some v ∧ j < xs.length ∧ -(xs.length : Int) ≤ i ∧ i < xs.length := by
  unfold atI at h
  cases e : ixN xs.length i with
  | none => rw [e] at h; cases h
  | some j =>
    rw [e] at h
    obtain ⟨h1, h2, h3, h4⟩ := ixN_seq e
    exact ⟨j, h1, h, h2, h3, h4⟩
noncomputable def PlainIx (b : Expr) : Prop := ∀ o i, subscripted b false o i = operate [o, i] (getItem o i)
noncomputable def IxR (X : Cx) (r : R2) : Prop :=
  ∀ (value slice : Expr) (pins : List (Addr × Obj)) (s : Shared) (σ : St) (H : Hp) (x y : V) (v u : Value) (Q : VK), Inv X pins σ H s → RelV x v → RelV y u → r x y H Q →
    subscripted slice false v u = operate [v, u] (getItem v u) → wpAny (model X.prog X.w) X.A (subscriptTail value slice v u) (EP X pins σ Q) X.xe s
noncomputable def MtR (X : Cx) (id : String) (r : V → List V → Hp → VK → Prop) : Prop :=
  ∀ (pins : List (Addr × Obj)) (s : Shared) (σ : St) (H : Hp) (x : V) (xs : List V) (v : Value) (us : List Value) (Q : VK), Inv X pins σ H s → RelV x v → Vals xs us → r x xs H Q →
    wpAny (model X.prog X.w) X.A (call (.builtin id) (v :: us)) (EP X pins σ Q) X.xe s
section
variable {X : Cx} {a b : Expr} {ta tb : TE} {pos : Pos}
theorem pe_ix {r : R2} (hr : IxR X r) (ha : PE X a ta) (hb : PE X b tb) (hs : PlainIx b) : PE X (.Subscript a b pos) (tOp r ta tb) := by
  intro pins s σ H Q I h
  exact Subscript_ (binT ha hb I h fun v u s2 x y H2 I2 rx ry q => hr a b pins s2 σ H2 x y v u Q I2 rx ry q (hs _ _))
noncomputable def rIxL (K : PySem.W.Frag) : R2 := fun x y H Q => ∃ p xs i v, x = .ref p ∧ y = .int i ∧ SqL K H p xs ∧ atI xs i = some v ∧ Q v H
noncomputable def rIxT (K : PySem.W.Frag) : R2 := fun x y H Q => ∃ p xs i v, x = .ref p ∧ y = .int i ∧ SqT K H p xs ∧ atI xs i = some v ∧ Q v H
theorem ix_list : IxR X (rIxL X.K) := by
  intro value slice pins s σ H x y v u Q I rx ry h hs
  obtain ⟨p, xs, i, z, rfl, rfl, hq, he, q⟩ := h
  cases rx
  obtain ⟨t, rfl⟩ := ry
  obtain ⟨its, r, pl, hz⟩ := I.list hq
  obtain ⟨j, h1, h2, h3, h4, h5⟩ := atI_get he
  obtain ⟨w, ew, rw'⟩ := r.get h2
  have hl := r.length
  have hn := line63
  have fin : EP X pins σ Q w s := ⟨z, H, I, rw', q⟩
  by_cases h0 : 0 ≤ i
  · have hj : i.toNat = j := by
      rw [seqIndex_of h0 h5] at h1
      exact Option.some.inj h1
    exact item_listR pl.isList h0 (by omega) (by rw [hj]; simpa using ew) fin hs
  · have hj : (i + (its.toArray.size : Int)).toNat = j := by
      rw [seqIndex_neg (by omega) h4] at h1
      rw [List.size_toArray, ← hl]
      exact Option.some.inj h1
    exact subscriptTail_builtinR (x := w) pl.isList.typeIs slot_list_getitem.lookup
      (wpAny_getItem_list_neg (Q := fun r s' => r = w ∧ EP X pins σ Q r s') pl.isList (by omega) (by rw [List.size_toArray] <;> omega) (by omega) (by rw [hj]; simpa using ew) ⟨rfl, fin⟩) hs
theorem ix_tup : IxR X (rIxT X.K) := by
  intro value slice pins s σ H x y v u Q I rx ry h hs
  obtain ⟨p, xs, i, z, rfl, rfl, hq, he, q⟩ := h
  cases rx
  obtain ⟨t, rfl⟩ := ry
  obtain ⟨its, r, pl, hz⟩ := I.tuple hq
  obtain ⟨j, h1, h2, h3, h4, h5⟩ := atI_get he
  obtain ⟨w, ew, rw'⟩ := r.get h2
  have hl := r.length
  have hn := line63
  have fin : EP X pins σ Q w s := ⟨z, H, I, rw', q⟩
  exact subscriptTail_builtinR (x := w) pl.typeIs slot_tuple_getitem.lookup
    (getItem_tuple (j := j) (Q := fun r s' => r = w ∧ EP X pins σ Q r s') pl (by omega) (by omega) (by rw [List.size_toArray, ← hl]; exact h1) (by simpa using ew) ⟨rfl, fin⟩) hs
theorem mapSeq_set (its : List Value) (n j : Nat) (u : Value) : Obj.mapSeq (·.setIfInBounds j u) { cls := .type "list", data := .seq its.toArray n } = { cls := .type "list", data := .seq (its.set j u).toArray n } := by
  simp [Obj.mapSeq]
theorem Inv.lst {pins : List (Addr × Obj)} {σ : St} {H : Hp} {s : Shared} {p : Addr} {xs : List V} (I : Inv X pins σ H s) (h : H p = some (.lst xs)) :
    ∃ (its : List Value) (n : Nat), Vals xs its ∧ s.heap.get? p = some { cls := .type "list", data := .seq its.toArray n } ∧ xs.length ≤ sizeLine := by
  obtain ⟨z, its, n, r, e⟩ := I.hok p _ h
  exact ⟨its, n, r, e, z⟩
theorem Inv.lstUpd {pins : List (Addr × Obj)} {σ : St} {H : Hp} {s : Shared} {p : Addr} {xs ys : List V} {its its' : List Value} {n n' : Nat} {f : Obj → Obj} (I : Inv X pins σ H s) (h : H p = some (.lst xs))
    (ho : s.heap.get? p = some { cls := .type "list", data := .seq its.toArray n }) (hf : f { cls := .type "list", data := .seq its.toArray n } = { cls := .type "list", data := .seq its'.toArray n' }) (r : Vals ys its') (hz : ys.length ≤ sizeLine) (t : Nat) :
    Inv X pins σ (upd H p (.lst ys)) { s with heap := s.heap.update p f, toks := t } := by
  have e : (s.heap.update p f).get? p = some { cls := .type "list", data := .seq its'.toArray n' } := by
    rw [Heap.get?_update_self f ho (by rw [hf] <;> rfl), hf]
  refine I.write (x := p) (e := p) (by rw [h]; trivial) (.inl rfl) (fun b u hb q => (Heap.get?_update_other _ _ (Ne.symm hb)).trans q) ⟨_, e⟩ ?_
  exact ⟨hz, its', n', r, e⟩
noncomputable def rSetL : V → V → V → Hp → (Hp → Prop) → Prop := fun o i v H Q => ∃ p xs k j, o = .ref p ∧ i = .int k ∧ H p = some (.lst xs) ∧ ixN xs.length k = some j ∧ Q (upd H p (.lst (xs.set j v)))
theorem set_list : PSet X rSetL := by
  intro pins s σ H o i v ov iv u Q I ro ri rv h
  obtain ⟨p, xs, k, j, rfl, rfl, hp, hj, q⟩ := h
  cases ro
  obtain ⟨t, rfl⟩ := ri
  obtain ⟨its, n, r, ho, hz⟩ := I.lst hp
  obtain ⟨h1, h2, h3, h4⟩ := ixN_seq hj
  have hl := r.length
  have hn := line63
  have I' : Inv X pins σ (upd H p (.lst (xs.set j v))) { s with heap := s.heap.update p (Obj.mapSeq (·.setIfInBounds j u)) } :=
    I.lstUpd hp ho (mapSeq_set its n j u) (r.set rv j) (by rw [List.length_set]; exact hz) s.toks
  by_cases h0 : 0 ≤ k
  · have hk : k.toNat = j := by
      rw [seqIndex_of h0 h4] at h1
      exact Option.some.inj h1
    exact PySem.W.ki_setAt ho h0 (by omega) (by rw [List.size_toArray, ← hl]; exact h4) (by rw [hk]; exact ⟨_, I', q⟩)
  · have hk : (k + (its.toArray.size : Int)).toNat = j := by
      rw [seqIndex_neg (by omega) h3] at h1
      rw [List.size_toArray, ← hl]
      exact Option.some.inj h1
    exact PySem.W.ki_setBack ho (by omega) (by rw [List.size_toArray, ← hl]; exact h3) (by omega) (by rw [hk]; exact ⟨_, I', q⟩)
theorem slice_bounds (lo hi : Option Int) (n : Nat) : (sliceBounds lo hi none n).1 = ((HT.sIx n 0 lo : Nat) : Int) ∧ (sliceBounds lo hi none n).2.1 = ((HT.sIx n n hi : Nat) : Int) ∧ (sliceBounds lo hi none n).2.2 = 1 := by
  refine ⟨?_, ?_, rfl⟩
  · cases lo with
    | none => simp [sliceBounds, HT.sIx]
    | some i =>
      simp only [sliceBounds, HT.sIx, Option.getD_none, show (1 : Int) > 0 by decide, if_true]
      by_cases h : i < 0
      · simp only [h, if_true] <;> omega
      · simp only [h, if_false] <;> omega
  · cases hi with
    | none => simp [sliceBounds, HT.sIx]
    | some i =>
      simp only [sliceBounds, HT.sIx, Option.getD_none, show (1 : Int) > 0 by decide, if_true]
      by_cases h : i < 0
      · simp only [h, if_true] <;> omega
      · simp only [h, if_false] <;> omega
theorem slicePick_cut (its : List Value) (lo hi : Option Int) : slicePick its.toArray lo hi none = ((its.drop (HT.sIx its.length 0 lo)).take (HT.sIx its.length its.length hi - HT.sIx its.length 0 lo)).toArray := by
  obtain ⟨h1, h2, h3⟩ := slice_bounds lo hi its.toArray.size
  unfold slicePick
  rw [h1, h2, h3]
  simp only [sliceRange_one, pick_run, List.size_toArray] <;> rfl
noncomputable def rSlL (K : PySem.W.Frag) : V → Option Int → Option Int → Hp → VK → Prop := fun x lo hi H Q => ∃ a xs, x = .ref a ∧ SqL K H a xs ∧ ∀ p, H p = none → Q (.ref p) (upd H p (.lst (cutV xs lo hi)))
theorem sl_list : SlR X (rSlL X.K) := by
  intro pins s σ H x v vl vu lo hi sl Q I rx hs pl pu h
  obtain ⟨a, xs, rfl, hx, q⟩ := h
  cases rx
  obtain ⟨its, r, ht, hz⟩ := I.list hx
  have hlen := r.length
  refine ⟨"list", _, slot_list_getitem.lookup, ht.isList.typeIs, ?_⟩
  refine wpAny_getItem_list_slice ht.isList hs pl pu .none (by simp) ?_ (by rw [List.size_toArray] <;> omega)
  rw [slicePick_cut, ← hlen]
  refine ⟨.ref s.heap.objs.size, _, I.laid (t' := s.toks) (o := .lst (cutV xs lo hi)) (fun b ob q => Heap.get?_push_of_some _ q) (Nat.le_refl _) ?_, rfl, q _ (I.hok.fresh (Nat.le_refl _))⟩
  exact ⟨Nat.le_trans (cutV_length xs lo hi) hz, _, 0, (r.drop (HT.sIx xs.length 0 lo)).take (HT.sIx xs.length xs.length hi - HT.sIx xs.length 0 lo), Heap.get?_push_size _ rfl⟩
noncomputable def flatV : V → Bool
  | .non => true
  | .bl _ => true
  | .int _ => true
  | .str _ => true
  | _ => false
noncomputable def eqV : V → V → Bool
  | .non, .non => true
  | .bl a, .bl b => a == b
  | .bl a, .int b => (if a then 1 else 0) == b
  | .int a, .bl b => a == (if b then 1 else 0)
  | .int a, .int b => a == b
  | .str a, .str b => a == b
  | _, _ => false
theorem eqAt_V {A : Around} {s : Shared} {y x : V} {u v : Value} (ry : RelV y u) (rx : RelV x v) (fy : flatV y = true) (fx : flatV x = true) : SeqAt.EqAt A s u v (eqV y x) := by
  cases y with
  | non =>
    cases ry
    cases x with
    | non => cases rx; exact SeqAt.EqAt.same _
    | bl b => cases rx; exact SeqAt.EqAt.none_bool b
    | int b => obtain ⟨t, rfl⟩ := rx; exact SeqAt.EqAt.none_int b t
    | str b => obtain ⟨t, rfl⟩ := rx; exact SeqAt.EqAt.none_str b t
    | _ => exact absurd (show false = true from fx) Bool.false_ne_true
  | bl a =>
    cases ry
    cases x with
    | non => cases rx; exact SeqAt.EqAt.bool_none a
    | bl b => cases rx; exact SeqAt.EqAt.bool_bool a b
    | int b => obtain ⟨t, rfl⟩ := rx; exact SeqAt.EqAt.bool_int a b t
    | str b => obtain ⟨t, rfl⟩ := rx; exact SeqAt.EqAt.bool_str a b t
    | _ => exact absurd (show false = true from fx) Bool.false_ne_true
  | int a =>
    obtain ⟨t', rfl⟩ := ry
    cases x with
    | non => cases rx; exact SeqAt.EqAt.int_none a t'
    | bl b => cases rx; exact SeqAt.EqAt.int_bool a t' b
    | int b => obtain ⟨t, rfl⟩ := rx; exact SeqAt.EqAt.int_int a t' b t
    | str b => obtain ⟨t, rfl⟩ := rx; exact SeqAt.EqAt.int_str a t' b t
    | _ => exact absurd (show false = true from fx) Bool.false_ne_true
  | str a =>
    obtain ⟨t', rfl⟩ := ry
    cases x with
    | non => cases rx; exact SeqAt.EqAt.str_none a t'
    | bl b => cases rx; exact SeqAt.EqAt.str_bool a t' b
    | int b => obtain ⟨t, rfl⟩ := rx; exact SeqAt.EqAt.str_int a t' b t
    | str b => obtain ⟨t, rfl⟩ := rx; exact SeqAt.EqAt.str_str a t' b t
    | _ => exact absurd (show false = true from fx) Bool.false_ne_true
  | _ => exact absurd (show false = true from fy) Bool.false_ne_true
noncomputable def eqU (x : V) (u : Value) : Bool := match u with
  | .none => eqV .non x
  | .bool b => eqV (.bl b) x
  | .int i _ => eqV (.int i) x
  | .str z _ => eqV (.str z) x
  | _ => false
theorem eqU_of {x y : V} {u : Value} (r : RelV y u) (f : flatV y = true) : eqU x u = eqV y x := by
  cases y with
  | non => cases r; rfl
  | bl b => cases r; rfl
  | int i => obtain ⟨t, rfl⟩ := r; rfl
  | str z => obtain ⟨t, rfl⟩ := r; rfl
  | _ => exact absurd (show false = true from f) Bool.false_ne_true
theorem any_eqU {x : V} : ∀ {xs : List V} {us : List Value}, Vals xs us → xs.all flatV = true → us.any (eqU x) = xs.any fun y => eqV y x
  | _, _, .nil, _ => rfl
  | y :: xs, u :: us, .cons r t, f => by
    rw [List.all_cons, Bool.and_eq_true] at f
    rw [List.any_cons, List.any_cons, eqU_of r f.1, any_eqU t f.2]
theorem mem_eqAt {A : Around} {s : Shared} {x : V} {v : Value} (rx : RelV x v) (fx : flatV x = true) : ∀ {xs : List V} {us : List Value}, Vals xs us → xs.all flatV = true → ∀ u ∈ us, SeqAt.EqAt A s u v (eqU x u)
  | _, _, .nil, _ => fun u hu => by cases hu
  | y :: xs, u :: us, .cons r t, f => fun u' hu => by
    rw [List.all_cons, Bool.and_eq_true] at f
    rcases List.mem_cons.mp hu with rfl | hu
    · rw [eqU_of r f.1]; exact eqAt_V r rx f.1 fx
    · exact mem_eqAt rx fx t f.2 u' hu
noncomputable def inV (x : V) (xs : List V) : Bool := xs.any fun y => eqV y x
noncomputable def rIn (K : PySem.W.Frag) (neg : Bool) : R2 := fun x y H Q => ∃ p xs, y = .ref p ∧ (SqL K H p xs ∨ SqT K H p xs) ∧ flatV x = true ∧ xs.all flatV = true ∧ Q (.bl (if neg then !inV x xs else inV x xs)) H
theorem op_in_seq : OpR X (compareOp .In) (rIn X.K false) := by
  intro pins s σ H x y v u Q I rx ry h
  obtain ⟨p, xs, rfl, hq, fx, fs, q⟩ := h
  cases ry
  rcases hq with hq | hq
  · obtain ⟨its, r, pl, hz⟩ := I.list hq
    refine SeqAt.in_listAt (eqU x) pl.isList (fun w hw => mem_eqAt rx fx r fs w (by simpa using hw)) ⟨.bl _, H, I, rfl, ?_⟩
    rw [show its.toArray.any (eqU x) = its.any (eqU x) by simp, any_eqU r fs]
    exact q
  · obtain ⟨its, r, pl, hz⟩ := I.tuple hq
    refine SeqAt.in_tupleAt (eqU x) pl (fun w hw => mem_eqAt rx fx r fs w (by simpa using hw)) ⟨.bl _, H, I, rfl, ?_⟩
    rw [show its.toArray.any (eqU x) = its.any (eqU x) by simp, any_eqU r fs]
    exact q
theorem call_len_seq : CallR X (.builtin "len") (fun xs H Q => ∃ p ys, xs = [.ref p] ∧ (SqL X.K H p ys ∨ SqT X.K H p ys) ∧ Q (.int ys.length) H) := by
  intro pins s σ H xs us Q I r h
  obtain ⟨p, ys, rfl, hq, q⟩ := h
  obtain ⟨u, rfl, rx⟩ := vals1 r
  cases rx
  have hn := line63
  rcases hq with hq | hq
  · obtain ⟨its, r', pl, hz⟩ := I.list hq
    have hlen := r'.length
    exact Calls.call_len_list pl.isList (by simp only [List.size_toArray] <;> omega) ⟨.int ys.length, H, I.tok _, ⟨s.toks + 1, by rw [List.size_toArray, hlen]⟩, q⟩
  · obtain ⟨its, r', pl, hz⟩ := I.tuple hq
    have hlen := r'.length
    exact len_tuple pl (by simp only [List.size_toArray] <;> omega) ⟨.int ys.length, H, I.tok _, ⟨s.toks + 1, by rw [List.size_toArray, hlen]⟩, q⟩
theorem call_tuple_of : CallR X (.type "tuple") (fun xs H Q => ∃ p ys, xs = [.ref p] ∧ ((SqL X.K H p ys ∧ ∀ l, H l = none → Q (.ref l) (upd H l (.tup ys))) ∨ (SqT X.K H p ys ∧ Q (.ref p) H))) := by
  intro pins s σ H xs us Q I r h
  obtain ⟨p, ys, rfl, h⟩ := h
  obtain ⟨u, rfl, rx⟩ := vals1 r
  cases rx
  rcases h with ⟨hq, q⟩ | ⟨hq, q⟩
  · obtain ⟨its, r', pl, hz⟩ := I.list hq
    have hlen := r'.length
    refine call_tuple_list pl.isList (fun h' kp => ?_) (by simp only [List.size_toArray] <;> omega)
    have I1 : Inv X pins σ H { s with heap := h' } := I.kept (t' := s.toks) kp
    have I2 : Inv X pins σ (upd H h'.objs.size (.tup ys)) { s with heap := h'.push { cls := .type "tuple", data := .seq its.toArray } } :=
      I1.laid (t' := s.toks) (fun b o e => Heap.get?_push_of_some _ e) (Nat.le_refl _) (show ObjOk X.prog X.w _ _ _ (.tup ys) from ⟨hz, its, r', IsTup.new _ _⟩)
    exact ⟨.ref h'.objs.size, _, I2, rfl, q _ (I1.hok.fresh (Nat.le_refl _))⟩
  · obtain ⟨its, r', pl, hz⟩ := I.tuple hq
    exact call_tuple_same pl ⟨.ref p, H, I, rfl, q⟩
noncomputable def tyV (K : PySem.W.Frag) (T : String) (x : V) (H : Hp) : Prop := match x with
  | .str _ => T = "str"
  | .int _ => T = "int"
  | .ref p => (T = "list" ∧ ∃ xs, SqL K H p xs) ∨ (T = "tuple" ∧ ∃ o, K.lookup p = some o ∧ o.cls = .type "tuple" ∧ o.dict = none) ∨
      (T = "dict" ∧ ((∃ kvs, H p = some (.dK kvs)) ∨ ∃ kvs, H p = some (.dT kvs))) ∨ (T = "set" ∧ ∃ S n, H p = some (.set S n))
  | _ => False
theorem tyV_is {pins : List (Addr × Obj)} {σ : St} {H : Hp} {s : Shared} {T : String} {x : V} {v : Value} (I : Inv X pins σ H s) (r : RelV x v) (ty : tyV X.K T x H) :
    s.TypeIs v T ∧ ∀ a, v = .ref a → ∃ ob, s.heap.get? a = some ob ∧ ob.dict = none := by
  cases x with
  | str z =>
    obtain ⟨t, rfl⟩ := r
    cases (show T = "str" from ty)
    exact ⟨typeIs_str s z t, fun _ e => nomatch e⟩
  | int i =>
    obtain ⟨t, rfl⟩ := r
    cases (show T = "int" from ty)
    exact ⟨typeIs_int s i t, fun _ e => nomatch e⟩
  | ref p =>
    cases r
    rcases ty with ⟨rfl, xs, hq⟩ | ⟨rfl, o, hk, hc, hd⟩ | ⟨rfl, hk⟩ | ⟨rfl, S, n, hk⟩
    · obtain ⟨its, _, pl, _⟩ := I.list hq
      refine ⟨pl.isList.typeIs, fun a e => ?_⟩
      cases e
      obtain ⟨o, n, e, c, hd, _⟩ := pl
      exact ⟨o, e, hd⟩
    · refine ⟨⟨o, I.kIn p o hk, hc⟩, fun a e => ?_⟩
      cases e
      exact ⟨o, I.kIn _ o hk, hd⟩
    · have z : ∃ o, s.heap.get? p = some o ∧ o.ExactDict := by
        rcases hk with ⟨kvs, hk⟩ | ⟨kvs, hk⟩
        · obtain ⟨_, _, _, _, o, _, _, e, ex, _⟩ := I.hok p _ hk
          exact ⟨o, e, ex⟩
        · obtain ⟨_, _, _, _, o, _, _, e, ex, _⟩ := I.hok p _ hk
          exact ⟨o, e, ex⟩
      obtain ⟨o, e, ex⟩ := z
      refine ⟨⟨o, e, ex.1⟩, fun a e2 => ?_⟩
      cases e2
      exact ⟨o, e, ex.2.1⟩
    · obtain ⟨o, _, _, _, e, ex, _⟩ := I.hok p _ hk
      refine ⟨⟨o, e, ex.1⟩, fun a e2 => ?_⟩
      cases e2
      exact ⟨o, e, ex.2.1⟩
  | _ => exact False.elim ty
noncomputable def tBM (K : PySem.W.Frag) (T : String) (r : V → List V → Hp → VK → Prop) (to : TE) (t : TA) : TE := fun σ H Q => to σ H fun x H1 => tyV K T x H1 ∧ t σ H1 fun xs H2 => r x xs H2 Q
variable {o e : Expr} {es : List Expr} {to : TE} {t : TA} {name : Str} {apos cpos : Pos} {T id : String} {r : V → List V → Hp → VK → Prop}
theorem pe_bm (pa : PlainAttrs T) (slot : Slot T name id) (hty : typeOf (.builtin id) = pure (.type "method_descriptor")) (hm : MtR X id r) (ho : PE X o to) (ha : PA X (e :: es) t)
    (hbase : attributeBase o name X.env (eval o X.env) = eval o X.env := by rfl)
    (hfew : ((backTo cpos (starEach (e :: es) X.env)).all (fun x => !x.1) && (backToKw cpos (keywordEach [] X.env)).all (fun x => x.1.isSome)
      && decide ((e :: es).length + ([] : List Keyword).length + (if ([] : List Keyword).isEmpty then 0 else 1) < 30)) = true := by rfl)
    (hline : (apos.endLine == cpos.line) = true := by rfl) (hs : starEach (e :: es) X.env = (false, eval e X.env) :: starEach es X.env := by rfl) (hplain : (backTo cpos (starEach es X.env)).any (·.1) = false := by rfl) :
    PE X (.Call (.Attribute o name apos) (e :: es) [] cpos) (tBM X.K T r to t) := by
  intro pins s σ H Q I h
  refine wpAny_Call_method_late hbase hfew hline rfl (thn (ho pins s σ H _ I h) ?_)
  rintro v s1 ⟨x, H1, I1, r1, ty, q1⟩
  obtain ⟨h1, h2⟩ := tyV_is I1 r1 ty
  refine ⟨T, id, pa, slot, hty, h1, h2, ?_⟩
  have hA := ha cpos pins s1 σ H1 _ I1 q1
  rw [hs] at hA ⊢
  refine Calls.callWith_builtin (by show (false || (backTo cpos (starEach es X.env)).any (·.1)) = false; rw [hplain] <;> rfl) (Calls.evalArgs_plain ?_)
  exact thn hA fun us s2 ⟨vs, H2, I2, r2, q2⟩ => hm pins s2 σ H2 x vs v us Q I2 r1 r2 q2
/- xs.append(e), list.index on a module's tuple .. are MtR facts of 06m -/
end
end L2
namespace L2
open PySem PySem.Spec PyProof.Rows
noncomputable def MtM (X : Cx) (id : String) (r : V → List V → Hp → VK → Prop) : Prop :=
  ∀ (pins : List (Addr × Obj)) (s : Shared) (σ : St) (H : Hp) (x : V) (xs : List V) (v : Value) (us : List Value) (Q : VK), Inv X pins σ H s → RelV x v → Vals xs us → r x xs H Q →
    wpAny (model X.prog X.w) X.A (call (.builtin id) (v :: us)) (EP X pins σ Q) X.xe s
theorem Vals.one : ∀ {x : V} {us : List Value}, Vals [x] us → ∃ u, us = [u] ∧ RelV x u
  | _, _, .cons r .nil => ⟨_, rfl, r⟩
theorem Vals.zero : ∀ {us : List Value}, Vals [] us → us = []
  | _, .nil => rfl
theorem Vals.rep {xs : List V} {us : List Value} (h : Vals xs us) : ∀ k : Nat, Vals (List.replicate k xs).flatten (List.replicate k us).flatten
  | 0 => .nil
  | k + 1 => by
    rw [List.replicate_succ, List.replicate_succ, List.flatten_cons, List.flatten_cons]
    exact Vals.append h (Vals.rep h k)
theorem foldl_rep (its : List Value) : ∀ (k : Nat) (acc : List Value),
    List.foldl (fun x1 x2 => x1 ++ x2) acc.toArray (List.replicate k its.toArray) = (acc ++ (List.replicate k its).flatten).toArray
  | 0, acc => by simp
  | k + 1, acc => by
    have e : acc.toArray ++ its.toArray = (acc ++ its).toArray := by simp
    have e2 : (acc ++ its) ++ (List.replicate k its).flatten = acc ++ (List.replicate (k + 1) its).flatten := by
      rw [List.replicate_succ, List.flatten_cons, List.append_assoc]
    rw [← e2, ← foldl_rep its k (acc ++ its), ← e, List.replicate_succ, List.foldl_cons]
section
variable {X : Cx} {pins : List (Addr × Obj)} {σ : St} {H : Hp} {s : Shared} {l b : Addr} {xs ys zs : List V}
theorem Inv.lset {its its' : List Value} {n : Nat} {f : Array Value → Array Value} {t' : Nat} (I : Inv X pins σ H s) (hH : H l = some (.lst xs))
    (e : s.heap.get? l = some { cls := .type "list", data := .seq its.toArray n }) (hf : f its.toArray = its'.toArray) (hv : Vals ys its') (hz : ys.length ≤ sizeLine) :
    Inv X pins σ (upd H l (.lst ys)) { s with heap := s.heap.update l (Obj.mapSeq f), toks := t' } := by
  have q := PySem.IsL.update e f
  rw [hf] at q
  refine I.write (x := l) (e := l) (by rw [hH]; exact trivial) (.inl rfl) (fun b' u hb hu => (Heap.get?_update_other s.heap (Obj.mapSeq f) (Ne.symm hb)).trans hu) ⟨_, q⟩ ?_
  exact ⟨hz, its', _, hv, q⟩
theorem Inv.lnew {its : List Value} {t' : Nat} (I : Inv X pins σ H s) (hv : Vals ys its) (hz : ys.length ≤ sizeLine) :
    Inv X pins σ (upd H s.heap.objs.size (.lst ys)) { s with heap := s.heap.push { cls := .type "list", data := .seq its.toArray }, toks := t' } :=
  I.laid (fun _ _ q => Heap.get?_push_of_some _ q) (Nat.le_refl _) ⟨hz, its, 0, hv, Heap.get?_push_size _ rfl⟩
theorem Inv.fresh (I : Inv X pins σ H s) : H s.heap.objs.size = none := I.hok.fresh (Nat.le_refl _)
theorem Inv.lstM (I : Inv X pins σ H s) (hH : H l = some (.lst xs)) : xs.length ≤ sizeLine ∧ ∃ (its : List Value) (n : Nat), Vals xs its ∧ xs.length = its.length ∧ s.heap.get? l = some { cls := .type "list", data := .seq its.toArray n } := by
  obtain ⟨z, its, n, r, e⟩ := I.hok l _ hH
  exact ⟨z, its, n, r, r.length, e⟩
theorem notLongL {n : Nat} (h : n ≤ sizeLine) : Builtin.List.listTooLong n = false := by
  unfold Builtin.List.listTooLong
  exact decide_eq_false (by omega)
end
section
variable {X : Cx}
noncomputable def rAppend : V → List V → Hp → VK → Prop := fun x vs H Q => ∃ l xs y, x = .ref l ∧ vs = [y] ∧ H l = some (.lst xs) ∧ xs.length < sizeLine ∧ Q .non (upd H l (.lst (xs ++ [y])))
theorem mt_append : MtM X "list.append" rAppend := by
  intro pins s σ H x vs v us Q I rx rv h
  obtain ⟨l, xs, y, rfl, rfl, hH, hz, q⟩ := h
  cases rx
  obtain ⟨u, rfl, ru⟩ := rv.one
  obtain ⟨z, its, n, r, hl, e⟩ := I.lstM hH
  refine call_meets F.slot_list_append ⟨_, e, rfl⟩ F.entry_list_append (F.args_list_append_2 _ _) (PySem.list_append l its.toArray n u (by rw [List.size_toArray]; omega)) ⟨e, ?_⟩
  refine ⟨.non, _, I.lset (its' := its ++ [u]) hH e (by simp) (r.append (.cons ru .nil)) ?_, rfl, q⟩
  rw [List.length_append, List.length_singleton]
  omega
theorem len_rep {α : Type} (xs : List α) (k : Nat) : (List.replicate k xs).flatten.length = k * xs.length := by
  induction k with
  | zero => simp
  | succ k ih => rw [List.replicate_succ, List.flatten_cons, List.length_append, ih, Nat.succ_mul, Nat.add_comm]
end
section
variable {prog : Program} {w : World} {A : Around} {E : Value → Shared → Prop} {s : Shared}
set_option maxRecDepth 100000 in
end
section
variable {X : Cx}
end
end L2
namespace Att
open PySem PySem.W PySem.Calls PyProof.Rows
theorem ints_of_wellAll {P : Params} {h : Heap} : ∀ (ns : List Int) (vs : List Value), WellAll P h vs (ns.map WData.int) → IntsAre vs ns := by
  intro ns
  induction ns with
  | nil =>
    intro vs w
    rw [List.map_nil] at w
    cases w
    exact .nil
  | cons n ns ih =>
    intro vs w
    rw [List.map_cons] at w
    cases w with
    | cons a b =>
      cases a
      exact .cons _ _ (ih _ b)
theorem script_of {l : OpenLaw} {n : Nat} (hn : l.most = some n) {P : Params} {h : Heap} {args : List WData} {vals : List Value}
    (hpre : l.row.toRowW.claim.pre args = true) (hwl : WellAll P h vals args) :
    ∃ a vs ns, vals = [Value.ref a] ∧ args = [WData.list (ns.map WData.int)] ∧ h.get? a = some { cls := .type "list", data := .seq vs.toArray } ∧ IntsAre vs ns ∧ ns.length ≤ n := by
  have hsh : WShape.hasAll [] args [.list .int] = true := (pre_splitW hpre).1
  have hc : l.pre.holds [] { args := args } = true := (pre_splitW hpre).2
  obtain ⟨d, r, rfl, h1, h2⟩ := hasAllW_cons hsh
  obtain rfl := hasAllW_nil h2
  obtain ⟨xs, rfl, h3⟩ := hasW_list h1
  obtain ⟨ns, rfl⟩ := items_int h3
  have hlen : ns.length ≤ n := by
    unfold OpenLaw.pre at hc
    have h4 : (WTm.not (.lt (.lit (.int (n : Int))) (.len (.arg 0)))).holds [] { args := [.list (ns.map .int)] } = true := by
      have h4 := (holds_andW hc).1
      rw [hn] at h4
      exact h4
    have h5 := condW_of h4 (w_not (w_lt w_lit (w_len_list (w_arg rfl))))
    rw [List.length_map] at h5
    refine Nat.le_of_not_lt fun q => ?_
    have q' : (n : Int) < ((ns.length : Nat) : Int) := by omega
    first
      | (rw [decide_eq_true q'] at h5; exact absurd h5 (by decide))
      | (simp at h5; omega)
  cases hwl with
  | cons w1 w2 =>
    cases w2
    cases w1 with
    | list ho hall => exact ⟨_, _, ns, rfl, rfl, ho, ints_of_wellAll ns _ hall, hlen⟩
theorem post_true (l : OpenLaw) (args : List WData) : l.row.toRowW.claim.post args (.bool true) args = true :=
  postW_of (r := l.row.toRowW) (X := (true == true))
    (show WShape.has [] (.bool true) .bool = true by first | rfl | decide | simp [WShape.has, WShape.arms, WShape.armsAll])
    (show (WTm.eq .res (.lit (.bool true))).value [] { args := args, res := some (.bool true), after := args } = some (.bool (true == true)) from w_eq_bool (w_res rfl) w_lit) rfl
theorem attach_call {l : OpenLaw} {n : Nat} {q : Program} {loose : List Str} {XP : (Str → Option Value) → Heap → Prop} {YP : World → Heap → Prop} {d : DefRec}
    (hn : l.most = some n) (hdf : d.params.defaults = [])
    (call : ∀ (w : World) (s₀ s₁ : Shared) (mg mb : Str → Option Value) (fa : Addr) (o : Obj) (pm cd doc : Value) (a : Addr) (vs : List Value) (ns : List Int),
      Ground q loose [] XP w s₀ mg mb s₁.heap → YP w s₁.heap →
      s₁.heap.get? fa = some o → o.data = .func (docDef d.name d.params d.body d.scope pm cd doc) → s₁.heap.CodeRec cd d.name → mg d.name = some (.ref fa) →
      s₁.heap.get? a = some { cls := .type "list", data := .seq vs.toArray } → IntsAre vs ns → ns.length ≤ n → s₁.gens = #[] →
      codeAny (model l.prog w) callerA (.call (.ref fa) ⟨[.ref a], []⟩) (fun r s' => r = .ok (.ret (.bool true)) ∧ OldK s₁.heap s'.heap ∧ s'.os = s₁.os ∧ AllBare s'.gens) s₁) :
    WalkO q loose XP YP l.row.toRowW d [] (fun f vs => PySem.call f vs) := by
  intro w s₀ s₁ mg mb G Y fa o pm cd doc dV kV ho hd hcd hD hmg hg args vals as hpre hlay hrd hwl hlo
  obtain rfl : dV = .none := Dflts.none hD hdf
  obtain rfl : kV = .none := Dflts.noKw hD
  obtain ⟨a, vs, ns, rfl, rfl, hobj, hints, hlen⟩ := script_of hn hpre hwl
  refine enter_call (codeAny_mono (call w s₀ s₁ mg mb fa o pm cd doc a vs ns G Y ho (fd_plain hd) hcd hmg hobj hints hlen hg) fun r s' hq => ?_)
  obtain ⟨rfl, h2, h3, h4⟩ := hq
  exact ⟨.inl ⟨.bool true, .bool true, [], rfl, fun _ => rfl, .bool true, post_true l _, fun _ => ⟨List.Pairwise.nil, fun _ hm => (nomatch hm)⟩⟩, h2, h3, h4⟩
section
variable {prog : Program} {w : World} {A : Around} {E : Value → Shared → Prop} {s : Shared} {K : Frag}
end
end Att
namespace L2
open PySem PySem.Spec PyProof.Rows
theorem vals_ints : ∀ {vs : List Value} {ns : List Int}, IntsAre vs ns → Vals (ns.map V.int) vs
  | _, _, .nil => .nil
  | _, _, .cons n t h => .cons ⟨t, rfl⟩ (vals_ints h)
noncomputable def Only (H : Hp) : Prop := ∀ b, H b = none ∨ ∃ o xs, H b = some (.frz o (.lst xs))
theorem law_call {P : Program} {w : World} {K : PySem.W.Frag} {mg mb : Str → Option Value} {CX : CXT} {k : Nat} {fa a : Addr} {fd : FuncData} {x : Str} {sp : Sp} {s₁ : Shared} {vs : List Value} {ns : List Int}
    (KX : K.In s₁.heap) (hns : s₁.heap.Ns mainGlobals mg) (hb : s₁.heap.Ns builtinsNs mb) (hbb : ∀ x : Str, x ≠ "__name__" → mb x = bootBuiltins x) (hlim : s₁.heap.NoLimit) (hg : s₁.gens = #[])
    (ha : s₁.heap.get? a = some { cls := .type "list", data := .seq vs.toArray }) (hi : IntsAre vs ns) (hl : ns.length ≤ sizeLine) (hr : Room k callerA)
    (F : ∀ base : Heap, K.In base → base.Ns mainGlobals mg → FnOk P w K mg base CX k fa fd [x] sp) (hbind : ∀ (s : Shared) (u : Value), BindsTo s fd ⟨[u], []⟩ [(x, u)])
    (hsp : ∀ H : Hp, Only H → SqL K H a (ns.map V.int) → sp [.ref a] H (fun v _ => v = .bl true) fun _ _ _ => False)
    (hCX : ∀ H e s', CX [] H s₁ (fun _ _ _ => False) e s' → False) :
    codeAny (model P w) callerA (.call (.ref fa) ⟨[.ref a], []⟩) (fun r s' => r = .ok (.ret (.bool true)) ∧ OldK s₁.heap s'.heap ∧ s'.os = s₁.os ∧ AllBare s'.gens) s₁ := by
  have rv := vals_ints hi
  have lenV := hi.length
  -- from an abstract heap in which nothing but the script may be tracked
  have core : ∀ H : Hp, Only H → SqL K H a (ns.map V.int) → HOk P w H s₁.heap → (∀ b, H b ≠ none → b = a) → (H a ≠ none → K.lookup a = none) →
      codeAny (model P w) callerA (.call (.ref fa) ⟨[.ref a], []⟩) (fun r s' => r = .ok (.ret (.bool true)) ∧ OldK s₁.heap s'.heap ∧ s'.os = s₁.os ∧ AllBare s'.gens) s₁ := by
    intro H hO hS hok hA hK
    have base_of : ∀ {b : Addr} {o : Obj}, s₁.heap.get? b = some o → H b = none → (hidT s₁.heap H).get? b = some o := fun e n => hidT_get e n
    have noA : ∀ {b : Addr} {o : Obj} {es : Array DictEntry} {ep : Nat}, s₁.heap.get? b = some o → o.data = .dict es ep → H b = none := fun {b o es ep} e d => by
      cases q : H b with
      | none => rfl
      | some u =>
        have e' : b = a := hA b (by rw [q]; simp)
        subst e'
        rw [ha] at e; cases e
        have d' : Data.seq vs.toArray _ = Data.dict es ep := d
        cases d'
    have nsK : ∀ {b : Addr} {m : Str → Option Value}, s₁.heap.Ns b m → (hidT s₁.heap H).Ns b m := fun {b m} ⟨o, es, ep, e, d, r⟩ => ⟨o, es, ep, base_of e (noA e d), d, r⟩
    have hKb : K.In (hidT s₁.heap H) := fun b o e => base_of (KX b o e) (by
      cases q : H b with
      | none => rfl
      | some u =>
        have e' : b = a := hA b (by rw [q]; simp)
        subst e'
        rw [hK (by rw [q]; simp)] at e; cases e)
    have hM : Mod K mg (hidT s₁.heap H) := ⟨hKb, nsK hns, ⟨mb, nsK hb, hbb⟩, let ⟨mc, h1, h2⟩ := hlim; ⟨mc, nsK h1, h2⟩⟩
    have e0 : Env0 P w K mg (hidT s₁.heap H) callerA [] s₁ H := ⟨rfl, hM, fun b o e => of_hidT e, Nat.le_of_eq (hidT_size _ _), trivial, fun b hb => absurd (show b ∈ ([] : List Addr) from hb) (by simp), hok, .of_eq hg⟩
    refine codeAny_mono ((F _ hKb (nsK hns)).run callerA [] s₁ H ⟨[.ref a], []⟩ [.ref a] [.ref a] _ _ hr e0 (hbind s₁ (.ref a)) (.cons rfl .nil) (hsp H hO hS)) fun r s' h => ?_
    cases r with
    | error e => exact (hCX H e s' h).elim
    | ok fl =>
      cases fl with
      | next => exact False.elim h
      | brk => exact False.elim h
      | cont => exact False.elim h
      | ret u =>
        obtain ⟨v, H', os, bare, un, hok', r', q⟩ := h
        have q' : v = .bl true := q
        subst q'
        obtain rfl : u = Value.bool true := r'
        refine ⟨rfl, OldK.of_keep fun b o e => ?_, os, bare⟩
        cases q : H b with
        | none => exact un.keep b o e q (by intro z; exact absurd (show b ∈ ([] : List Addr) from z) (by simp)) (by simp)
        | some u =>
          rcases hO b with z | ⟨ob, xs, z⟩
          · rw [q] at z; cases z
          · have z2 := un.frzs b ob _ z
            obtain ⟨e1, _⟩ := hok b _ z
            obtain ⟨e2, _⟩ := hok' b _ z2
            rw [e] at e1; cases e1
            exact e2
  cases hk : K.lookup a with
  | some o =>
    -- the script is one of the module's own objects
    have e := KX a o hk
    rw [ha] at e
    cases e
    refine core (fun _ => none) (fun _ => .inl rfl) (.inr ⟨_, vs.toArray, _, hk, rfl, rfl, rfl, by rw [List.size_toArray, lenV]; exact hl, by simpa using rv⟩) (fun b u z => by have z' : (none : Option HO) = some u := z; cases z') (fun b z => absurd rfl z) fun z => absurd rfl z
  | none =>
    refine core (fun b => if b = a then some (.frz { cls := .type "list", data := .seq vs.toArray } (.lst (ns.map V.int))) else none) (fun b => ?_) (.inl (.inr ⟨{ cls := .type "list", data := .seq vs.toArray }, if_pos rfl⟩)) (fun b u z => ?_) (fun b z => ?_) fun _ => hk
    · by_cases hb : b = a
      · exact .inr ⟨_, _, if_pos hb⟩
      · exact .inl (if_neg hb)
    · by_cases hb : b = a
      · have z' := (if_pos hb).symm.trans z
        cases z'
        subst hb
        exact ⟨ha, by rw [List.length_map]; exact hl, vs, _, rv, ha⟩
      · have z' := (if_neg hb).symm.trans z
        cases z'
    · by_cases hb : b = a
      · exact hb
      · exact absurd (if_neg hb) z
end L2
namespace L2
open PySem PySem.Spec PyProof.Rows
theorem walk_of {l : PySem.W.OpenLaw} {n k : Nat} {q : Program} {loose : List Str} {XP : (Str → Option Value) → Heap → Prop} {YP : World → Heap → Prop} {d : DefRec} {K : Params → PySem.W.Frag} {CX : World → CXT} {sp : World → Sp} {x : Str}
    (hn : l.most = some n) (hn2 : n ≤ sizeLine) (hdf : d.params.defaults = []) (hr : Room k callerA)
    (hY : ∀ (w : World) (h : Heap), YP w h → (K w.params).In h)
    (F : ∀ (w : World) (mg : Str → Option Value) (fa : Addr) (h : Heap), (K w.params).In h → h.Ns mainGlobals mg → mg d.name = some (.ref fa) →
      ∃ fd : FuncData, (∀ (s : Shared) (u : Value), BindsTo s fd ⟨[u], []⟩ [(x, u)]) ∧
        ∀ base : Heap, (K w.params).In base → base.Ns mainGlobals mg → FnOk l.prog w (K w.params) mg base (CX w) k fa fd [x] (sp w))
    (hsp : ∀ (w : World) (H : Hp) (a : Addr) (ns : List Int), ns.length ≤ n → Only H → SqL (K w.params) H a (ns.map V.int) → sp w [.ref a] H (fun v _ => v = .bl true) fun _ _ _ => False)
    (hCX : ∀ (w : World) (H : Hp) (s : Shared) (e : Value) (s' : Shared), CX w [] H s (fun _ _ _ => False) e s' → False) :
    PySem.W.WalkO q loose XP YP l.row.toRowW d [] (fun f vs => PySem.call f vs) := by
  refine Att.attach_call hn hdf fun w s₀ s₁ mg mb fa o pm cd doc a vs ns G Y ho hd hcd hmg hobj hints hlen hg => ?_
  have KX := hY w _ Y
  obtain ⟨fd, hb, hF⟩ := F w mg fa _ KX G.T.g hmg
  exact law_call KX G.T.g G.T.b G.T.builtins G.T.nolimit hg hobj hints (Nat.le_trans hlen hn2) hr hF hb (fun H hO hS => hsp w H a ns hlen hO hS) fun H e s' => hCX w H s₁ e s'
theorem walk_ofK {l : PySem.W.OpenLaw} {n k : Nat} {q : Program} {loose : List Str} {XP : (Str → Option Value) → Heap → Prop} {YP : World → Heap → Prop} {d : DefRec} {K : Params → PySem.W.Frag} {CX : CXT} {sp : PySem.W.Frag → Sp} {x : Str}
    (hn : l.most = some n) (hn2 : n ≤ sizeLine) (hdf : d.params.defaults = []) (hr : Room k callerA)
    (hY : ∀ (w : World) (h : Heap), YP w h → (K w.params).In h)
    (F : ∀ (w : World) (mg : Str → Option Value) (fa : Addr) (h : Heap), (K w.params).In h → h.Ns mainGlobals mg → mg d.name = some (.ref fa) →
      ∃ fd : FuncData, (∀ (s : Shared) (u : Value), BindsTo s fd ⟨[u], []⟩ [(x, u)]) ∧
        ∀ base : Heap, (K w.params).In base → base.Ns mainGlobals mg → FnOk l.prog w (K w.params) mg base CX k fa fd [x] (sp (K w.params)))
    (hsp : ∀ (K : PySem.W.Frag) (H : Hp) (a : Addr) (ns : List Int), ns.length ≤ n → Only H → SqL K H a (ns.map V.int) → sp K [.ref a] H (fun v _ => v = .bl true) fun _ _ _ => False)
    (hCX : ∀ (H : Hp) (s : Shared) (e : Value) (s' : Shared), CX [] H s (fun _ _ _ => False) e s' → False) :
    PySem.W.WalkO q loose XP YP l.row.toRowW d [] (fun f vs => PySem.call f vs) :=
  walk_of (K := K) (CX := fun _ => CX) (sp := fun w => sp (K w.params)) hn hn2 hdf hr hY F (fun w H a ns h1 h2 h3 => hsp (K w.params) H a ns h1 h2 h3) fun _ H s e s' => hCX H s e s'
end L2
/- THE LAST THEOREM (shape; LID, My.* are yours):
   My.Adr: a structure of the addresses that your layer names (classes, functions); My.Txt K t: a structure (Prop) of the equations over K;
   My.txt_mk : {K} {implicit addresses ..} (e1 : nsIn K mainGlobals "law" = some (some (.ref f))) (e2 : K.lookup f = some ⟨oc, od, .func (fnOf "law" "law" params body scope dV kV doc pm an cdv ct), sl⟩) (e3 : codeIn K cdv "law" = true) .. : ∃ t, My.Txt K t
set_option maxRecDepth 100000 in
set_option maxHeartbeats 0 in
(the tactic k_is has no namespace: write k_is) -/
namespace L2
open PySem PySem.Spec PyProof.Rows
noncomputable def defArgs (s : Stmt) : Arguments := match s with
  | .FunctionDef _ a _ _ _ _ _ _ _ _ => a
  | _ => { posonlyargs := [], args := [], vararg := none, kwonlyargs := [], kw_defaults := [], kwarg := none, defaults := [] }
noncomputable def defBody (s : Stmt) : List Stmt := match s with
  | .FunctionDef _ _ b _ _ _ _ _ _ _ => b
  | _ => []
noncomputable def defScope (s : Stmt) : Scope := match s with
  | .FunctionDef _ _ _ _ _ _ sc _ _ _ => sc
  | _ => { kind := .function, names := [], isGenerator := false, isCoroutine := false }
noncomputable abbrev CX0 : CXT := fun _ _ _ _ _ _ => False
noncomputable abbrev E0 : XK := fun _ _ _ => False
theorem pass0 {X : Cx} : Passes CX0 X E0 := fun _ _ _ _ _ _ _ h => h.elim
structure Fun (K : PySem.W.Frag) (x qual : Str) (st : Stmt) (f : Addr) (fd : FuncData) : Prop where
  ex : ∃ (oc : Value) (od : Option Addr) (kV doc pm : Value) (an : Option Addr) (cdv ct : Value) (osl : Array (Option Value)),
    fd = PySem.W.fnOf x qual (defArgs st) (defBody st) (defScope st) .none kV doc pm an cdv ct ∧ K.lookup f = some ⟨oc, od, .func fd, osl⟩ ∧ PySem.W.codeIn K cdv qual = true
  kp : PySem.W.keepIn K (.ref f) = true
section
variable {P : Program} {w : World} {K : PySem.W.Frag} {mg : Str → Option Value} {base : Heap}
theorem Fun.ok {x qual : Str} {st : Stmt} {f : Addr} {fd : FuncData} {N ps : List Str} {k : Nat} {sp : Sp} (F : Fun K x qual st f fd) (S : FnScope N ps (defScope st)) (len : ∀ vs H Q E, sp vs H Q E → vs.length = ps.length)
    (hbody : ∀ (cdv : Value) (A : Around) (outer : List Env) (s : Shared) (H : Hp) (vs : List V) (Q : VK) (E : XK), Room k (A.deeper (envOfC qual (defScope st) s.heap.objs.size f cdv)) → sp vs H Q E →
      ∃ t, PSs (cxOf CX0 P w K mg base N qual (defScope st) f cdv A outer s H E).nox (defBody st) t ∧ t { nx := fun _ H' => Q .non H', rt := Q } (start N vs) H) : FnOk P w K mg base CX0 (k + 1) f fd ps sp := by
  obtain ⟨oc, od, kV, doc, pm, an, cdv, ct, osl, rfl, lk, hcd⟩ := F.ex
  refine fn_of lk hcd S len fun A outer s H vs Q E hr hsp => ?_
  obtain ⟨t, h, q⟩ := hbody cdv A outer s H vs Q E hr hsp
  exact ⟨t, h.nox, q⟩
theorem Fun.binds {x qual : Str} {st : Stmt} {f : Addr} {fd : FuncData} {ps : List Str} (F : Fun K x qual st f fd)
    (h : ∀ (kV doc pm : Value) (an : Option Addr) (cdv ct : Value) (us : List Value), us.length = ps.length → bindArgs (PySem.W.fnOf x qual (defArgs st) (defBody st) (defScope st) .none kV doc pm an cdv ct) ⟨us, []⟩ = pure (ps.zip us)) : Binds K fd ps [] := by
  obtain ⟨oc, od, kV, doc, pm, an, cdv, ct, osl, rfl, lk, hcd⟩ := F.ex
  exact .all (h kV doc pm an cdv ct)
theorem fun_mk {x qual : Str} {st : Stmt} {f : Addr} {oc : Value} {od an : Option Addr} {osl : Array (Option Value)} {kV doc pm cdv ct : Value} (l : K.lookup f = some ⟨oc, od, .func (PySem.W.fnOf x qual (defArgs st) (defBody st) (defScope st) .none kV doc pm an cdv ct), osl⟩)
    (c : PySem.W.codeIn K cdv qual = true) (k : PySem.W.keepIn K (.ref f) = true) : Fun K x qual st f (PySem.W.fnOf x qual (defArgs st) (defBody st) (defScope st) .none kV doc pm an cdv ct) := ⟨⟨oc, od, kV, doc, pm, an, cdv, ct, osl, rfl, l, c⟩, k⟩
end
section
variable {X : Cx}
end
noncomputable def Same (H H' : Hp) : Prop := ∀ b o, H b = some o → H' b = some o
theorem Same.refl (H : Hp) : Same H H := fun _ _ h => h
theorem Same.trans {H H1 H2 : Hp} (a : Same H H1) (b : Same H1 H2) : Same H H2 := fun c o h => b c o (a c o h)
theorem Same.seq {K : PySem.W.Frag} {H H' : Hp} {a : Addr} {xs : List V} (e : Same H H') (h : SqL K H a xs) : SqL K H' a xs := by
  rcases h with (h | ⟨o, h⟩) | h
  · exact .inl (.inl (e _ _ h))
  · exact .inl (.inr ⟨o, e _ _ h⟩)
  · exact .inr h
end L2
end
section
set_option linter.all false
namespace HH
open PySem
inductive D where
  | non | bl (b : Bool) | int (i : Int) | str (s : Str) | tup (ds : List D) | lst (ds : List D)
  deriving Inhabited
mutual
noncomputable def peq : D → D → Bool
  | .non, .non => true
  | .bl a, .bl b => a == b
  | .bl a, .int i => (if a then (1 : Int) else 0) == i
  | .int i, .bl a => i == (if a then (1 : Int) else 0)
  | .int i, .int j => i == j
  | .str a, .str b => a == b
  | .tup xs, .tup ys => peqs xs ys
  | .lst xs, .lst ys => peqs xs ys
  | _, _ => false
noncomputable def peqs : List D → List D → Bool
  | [], [] => true
  | x :: xs, y :: ys => peq x y && peqs xs ys
  | _, _ => false
end
noncomputable def dle : Nat → D → Bool
  | _, .non => true | _, .bl _ => true | _, .int _ => true | _, .str _ => true
  | 0, .tup _ => false | 0, .lst _ => false
  | n + 1, .tup ds => ds.all (dle n)
  | n + 1, .lst ds => ds.all (dle n)
inductive Sl where
  | unb | val (b : Bool) (d : D) | own (b : Bool) (ds : List D) | lent (ds : List D)
  deriving Inhabited
inductive R where
  | val (d : D) | own (ds : List D)
  deriving Inhabited
noncomputable def R.d : R → D
  | .val d => d
  | .own ds => .lst ds
inductive Res (α : Type) where
  | ok (a : α) (ρ : List Sl) | exc (k : Nat) (ρ : List Sl) | stuck
  deriving Inhabited
noncomputable def Res.bind {α β : Type} : Res α → (α → List Sl → Res β) → Res β
  | .ok a ρ, f => f a ρ
  | .exc _ _, _ => .stuck
  | .stuck, _ => .stuck
noncomputable def lift {α : Type} (o : Option α) (ρ : List Sl) : Res α := match o with
  | some a => .ok a ρ
  | none => .stuck
inductive Op where | add | sub | mul | fdiv | mod | pow | shl | shr | band
  deriving DecidableEq
inductive Cm where | eq | ne | lt | le | gt | ge | isN | notN | inn | notin | isT | notT
  deriving DecidableEq
inductive Ty where | int | bool | str | tuple | list | none
  deriving DecidableEq
inductive Blt where | len | list | tuple | min2 | max2 | minL | maxL | sum | all | any | sorted | abs | int | minN | maxN | listR | rvs | revL
  deriving DecidableEq
inductive P where
  | var (i : Nat)
  | con (d : D)
  | glob (x : Str) (d : D)
  | bin (o : Op) (a b : P)
  | neg (a : P)
  | not (a : P)
  | and (a b : P)
  | or (a b : P)
  | cmp (o : Cm) (a b : P)
  | chain (o o' : Cm) (a b c : P)
  | ife (c a b : P)
  | tup (as : List P)
  | lst (as : List P)
  | idx (a i : P)
  | slice (a lo hi : P)
  | call (f : Nat) (as : List P)
  | blt (b : Blt) (as : List P)
  | inst (ts : List Ty) (a : P)
  | pop (x : Nat)
  | comp (src : P) (n : Nat) (is : List Nat) (one : Bool) (test : Option P) (elt : P)
  | rng (a b : P)
  | enm (a : P)
  | zip (a b : P)
  | rev (a : P)
  | compZ (i : Nat) (b : P) (n : Nat) (is : List Nat) (one : Bool) (test : Option P) (elt : P)
  deriving Inhabited
noncomputable abbrev lim : Nat := 16777216
noncomputable def opAdd : D → D → Option R
  | .int i, .int j => some (.val (.int (i + j)))
  | .lst xs, .lst ys => if xs.length + ys.length ≤ lim then some (.own (xs ++ ys)) else none
  | .tup xs, .tup ys => if xs.length + ys.length ≤ lim then some (.val (.tup (xs ++ ys))) else none
  | .str x, .str y => if x.length + y.length ≤ lim then some (.val (.str (x ++ y))) else none
  | _, _ => none
noncomputable def opMul : D → D → Option R
  | .int i, .int j => if ((-18446744073709551616 < i ∧ i < 18446744073709551616) ∨ (-18446744073709551616 < j ∧ j < 18446744073709551616)) then some (.val (.int (i * j))) else none
  | .lst xs, .int k => if 0 ≤ k ∧ 0 < xs.length ∧ xs.length * k.toNat ≤ lim then some (.own (List.replicate k.toNat xs).flatten) else none
  | .tup xs, .int k => if 0 ≤ k ∧ 0 < xs.length ∧ xs.length * k.toNat ≤ lim then some (.val (.tup (List.replicate k.toNat xs).flatten)) else none
  | _, _ => none
noncomputable def opSub : D → D → Option R
  | .int i, .int j => some (.val (.int (i - j)))
  | _, _ => none
noncomputable def opFdiv : D → D → Option R
  | .int i, .int j => if 0 < j ∧ j < 1606938044258990275541962092341162602522202993782792835301376 then some (.val (.int (i / j))) else none
  | _, _ => none
noncomputable def opMod : D → D → Option R
  | .int i, .int j => if 0 < j then some (.val (.int (i % j))) else none
  | _, _ => none
noncomputable def opPow : D → D → Option R
  | .int i, .int j => if 0 ≤ j ∧ j ≤ 1000 ∧ i.natAbs < 18446744073709551616 then some (.val (.int (i ^ j.toNat))) else none
  | _, _ => none
noncomputable def opShl : D → D → Option R
  | .int i, .int j => if 0 ≤ j ∧ j ≤ 1000 ∧ i.natAbs < 18446744073709551616 then some (.val (.int (i * 2 ^ j.toNat))) else none
  | _, _ => none
noncomputable def opShr : D → D → Option R
  | .int i, .int j => if 0 ≤ j then some (.val (.int (i / 2 ^ j.toNat))) else none
  | _, _ => none
noncomputable def opBand : D → D → Option R
  | .int i, .int j => some (.val (.int (Builtin.bitAnd i j)))
  | _, _ => none
noncomputable def op2 : Op → D → D → Option R
  | .add => opAdd
  | .mul => opMul
  | .sub => opSub
  | .fdiv => opFdiv
  | .mod => opMod
  | .pow => opPow
  | .shl => opShl
  | .shr => opShr
  | .band => opBand
noncomputable def flat : D → Bool
  | .tup _ => false | .lst _ => false | _ => true
noncomputable def items : D → Option (List D)
  | .lst ds => some ds
  | .tup ds => some ds
  | _ => none
noncomputable def itemsT : D → Option (List D)
  | .tup ds => some ds
  | _ => none
noncomputable def cmEq (x y : D) : Option Bool := if dle 8 x && dle 8 y then some (peq x y) else none
noncomputable def cmNe (x y : D) : Option Bool := if dle 8 x && dle 8 y then some (!peq x y) else none
noncomputable def cmI (f : Int → Int → Bool) : D → D → Option Bool
  | .int i, .int j => some (f i j)
  | _, _ => none
noncomputable def isNon : D → Bool
  | .non => true
  | _ => false
noncomputable def cmN (neg : Bool) (x : D) : D → Option Bool
  | .non => some (if neg then !isNon x else isNon x)
  | _ => none
noncomputable def cmIn (neg : Bool) (x y : D) : Option Bool := (items y).bind fun ys => if (flat x && ys.all flat) = true then some (if neg then !(ys.any fun y => peq y x) else ys.any fun y => peq y x) else none
noncomputable def cmT (neg : Bool) : D → D → Option Bool
  | .bl b, .bl true => some (if neg then !b else b)
  | _, _ => none
noncomputable def cm : Cm → D → D → Option Bool
  | .eq => cmEq
  | .ne => cmNe
  | .lt => cmI fun i j => decide (i < j)
  | .le => cmI fun i j => decide (i ≤ j)
  | .gt => cmI fun i j => decide (j < i)
  | .ge => cmI fun i j => decide (j ≤ i)
  | .isN => cmN false
  | .notN => cmN true
  | .inn => cmIn false
  | .notin => cmIn true
  | .isT => cmT false
  | .notT => cmT true
noncomputable def cmR (o : Cm) (x y : D) : Option R := (cm o x y).map fun k => .val (.bl k)
noncomputable def ixN (n : Nat) (i : Int) : Option Nat := if 0 ≤ i then (if i < n then some i.toNat else none) else if -(n : Int) ≤ i then some (i + n).toNat else none
noncomputable def at' {α : Type} (xs : List α) (i : Int) : Option α := (ixN xs.length i).bind fun j => xs[j]?
noncomputable def sIx (n d : Nat) : Option Int → Nat
  | none => d
  | some i => if 0 ≤ i then min i.toNat n else (i + n).toNat
noncomputable def cut {α : Type} (xs : List α) (lo hi : Option Int) : List α := (xs.drop (sIx xs.length 0 lo)).take (sIx xs.length xs.length hi - sIx xs.length 0 lo)
noncomputable def optI : D → Option (Option Int)
  | .non => some none
  | .int i => some (some i)
  | _ => none
noncomputable def asI : D → Option Int
  | .int i => some i
  | _ => none
noncomputable def asB : D → Option Bool
  | .bl b => some b
  | _ => none
noncomputable def ixR (x y : D) : Option R := (items x).bind fun ds => (asI y).bind fun i => (at' ds i).map .val
noncomputable def negR (x : D) : Option R := (asI x).map fun i => .val (.int (-i))
noncomputable def isNC : P → Bool
  | .con .non => true
  | _ => false
noncomputable def part (p : P) (d : D) : Option (Option Int) := if isNC p then some none else (asI d).map some
noncomputable def sl3 : D → Option (Option Int) → Option (Option Int) → Option R
  | .lst xs, some lo, some hi => some (.own (cut xs lo hi))
  | .tup xs, some lo, some hi => some (.val (.tup (cut xs lo hi)))
  | _, _, _ => none
noncomputable def isTy : Ty → D → Bool
  | .int, .int _ => true | .int, .bl _ => true | .bool, .bl _ => true | .str, .str _ => true | .tuple, .tup _ => true | .list, .lst _ => true | .none, .non => true
  | _, _ => false
noncomputable def dlt : D → D → Bool
  | .int i, .int j => decide (i < j)
  | .tup xs, .tup ys => lex xs ys
  | _, _ => false
where
  lex : List D → List D → Bool
  | [], _ :: _ => true
  | .int i :: xs, .int j :: ys => decide (i < j) || (i == j && lex xs ys)
  | _, _ => false
noncomputable def ordb : D → Bool
  | .int _ => true
  | _ => false
noncomputable def sortable (ds : List D) : Bool := ds.all ordb || ds.all fun d => match d with | .tup xs => xs.all ordb | _ => false
noncomputable def srt (ds : List D) : List D := ds.mergeSort fun a b => !dlt b a
noncomputable def itemsL : D → Option (List D)
  | .lst ds => some ds
  | _ => none
noncomputable def blt : Blt → List D → Option R
  | .len, [x] => (items x).map fun ds => .val (.int ds.length)
  | .list, [x] => (items x).map fun ds => .own ds
  | .tuple, [x] => (items x).map fun ds => .val (.tup ds)
  | .min2, [.int i, .int j] => some (.val (.int (if j < i then j else i)))
  | .max2, [.int i, .int j] => some (.val (.int (if i < j then j else i)))
  | .minL, [x] => ((items x).bind fun ds => ds.mapM asI).bind fun ns => ns.min?.map fun i => .val (.int i)
  | .maxL, [x] => ((items x).bind fun ds => ds.mapM asI).bind fun ns => ns.max?.map fun i => .val (.int i)
  | .sum, [x] => ((items x).bind fun ds => ds.mapM asI).map fun ns => .val (.int ns.sum)
  | .minN, [x] => ((items x).bind fun ds => ds.mapM asI).map fun ns => .val (match ns.min? with | some i => .int i | none => .non)
  | .maxN, [x] => ((items x).bind fun ds => ds.mapM asI).map fun ns => .val (match ns.max? with | some i => .int i | none => .non)
  | .all, [x] => ((itemsL x).bind fun ds => ds.mapM asB).map fun bs => .val (.bl (bs.all id))
  | .any, [x] => ((itemsL x).bind fun ds => ds.mapM asB).map fun bs => .val (.bl (bs.any id))
  | .sorted, [x] => (items x).bind fun ds => if sortable ds then some (.own (srt ds)) else none
  | .abs, [.int i] => some (.val (.int (if i < 0 then -i else i)))
  | .int, [.int i] => some (.val (.int i))
  | .int, [.bl b] => some (.val (.int (if b then 1 else 0)))
  | .listR, [.lst ds] => if ds.length ≤ 16777216 then some (.own ds) else none
  | .rvs, [.tup ds] => some (.val (.tup ds.reverse))
  | .revL, [.lst ds] => some (.own ds.reverse)
  | _, _ => none
noncomputable def pk (ρ : List Sl) (i : Nat) : Option D := match ρ[i]? with
  | some (.val _ d) => some d
  | some (.own _ ds) => some (.lst ds)
  | some (.lent ds) => some (.lst ds)
  | _ => none
noncomputable def pkL (ρ : List Sl) (i : Nat) : Option (List D) := match pk ρ i with
  | some (.lst ds) => some ds
  | _ => none
noncomputable abbrev Ev := List Sl → Res R
noncomputable def isVar : P → Option Nat
  | .var i => some i
  | _ => none
noncomputable def opd (i : Option Nat) (e : Ev) (ρ : List Sl) : Res D := match i with
  | some i => lift (pk ρ i) ρ
  | none => (e ρ).bind fun r ρ => .ok r.d ρ
noncomputable def opd2 (i : Option Nat) (e : Ev) (j : Option Nat) (f : Ev) (ρ : List Sl) : Res (D × D) := match i with
  | some i => (lift (pk ρ i) ρ).bind fun _ ρ => (opd j f ρ).bind fun y ρ => (lift (pk ρ i) ρ).bind fun x ρ => .ok (x, y) ρ
  | none => (opd none e ρ).bind fun x ρ => (opd j f ρ).bind fun y ρ => .ok (x, y) ρ
noncomputable def tru (e : Ev) (ρ : List Sl) : Res Bool := (e ρ).bind fun r ρ => lift (asB r.d) ρ
inductive Arg where
  | dat (d : D) | tmp (ds : List D) | nam (i : Nat)
noncomputable def argOf : R → Arg
  | .val d => .dat d
  | .own ds => .tmp ds
noncomputable def bindA (ρ : List Sl) : List Arg → List Nat → Option (List Sl)
  | [], _ => some []
  | .dat d :: r, used => (bindA ρ r used).map fun s => .val false d :: s
  | .tmp ds :: r, used => (bindA ρ r used).map fun s => .own false ds :: s
  | .nam i :: r, used => match ρ[i]? with
    | some (.val _ d) => (bindA ρ r used).map fun s => .val false d :: s
    | some (.own _ ds) => if used.contains i then none else (bindA ρ r (i :: used)).map fun s => .own true ds :: s
    | some (.lent ds) => if used.contains i then none else (bindA ρ r (i :: used)).map fun s => .lent ds :: s
    | _ => none
noncomputable def lookA (i : Nat) : List Arg → List Sl → Option Sl
  | .nam k :: as, s :: ss => if k = i then some s else lookA i as ss
  | .dat _ :: as, _ :: ss => lookA i as ss
  | .tmp _ :: as, _ :: ss => lookA i as ss
  | _, _ => none
noncomputable def backS : Sl → Option Sl → Sl
  | .own b _, some (.own _ ds) => .own b ds
  | .own b _, some (.val _ d) => .val b d
  | s, _ => s
noncomputable def backA (as : List Arg) (ss : List Sl) : Nat → List Sl → List Sl
  | _, [] => []
  | i, s :: ρ => backS s (lookA i as ss) :: backA as ss (i + 1) ρ
noncomputable abbrev Call := Nat → List Sl → Res R
noncomputable def doCall (c : Call) (f : Nat) (as : List Arg) (ρ : List Sl) : Res R := match bindA ρ as [] with
  | none => .stuck
  | some args => match c f args with
    | .ok r args' => .ok r (backA as args' 0 ρ)
    | .exc _ _ => .stuck
    | .stuck => .stuck
noncomputable def put (ρ : List Sl) (i : Nat) (s : Sl) : Option (List Sl) := match ρ[i]? with
  | some .unb => some (ρ.set i s)
  | some (.val false _) => some (ρ.set i s)
  | some (.own false _) => some (ρ.set i s)
  | _ => none
noncomputable def putAll (ρ : List Sl) : List Nat → List D → Option (List Sl)
  | [], [] => some ρ
  | i :: is, d :: ds => (put ρ i (.val false d)).bind fun ρ => putAll ρ is ds
  | _, _ => none
noncomputable def bindF (ρ : List Sl) (is : List Nat) (one : Bool) (d : D) : Option (List Sl) := match one, is, d with
  | true, [i], d => put ρ i (.val false d)
  | false, is, .tup ds => putAll ρ is ds
  | _, _, _ => none
noncomputable def srcOf (i : Option Nat) (e : Ev) (ρ : List Sl) : Res (List D) := match i with
  | some i => match ρ[i]? with
    | some (.val _ d) => lift (items d) ρ
    | some (.own _ ds) => .ok ds (ρ.set i (.lent ds))
    | some (.lent ds) => .ok ds ρ
    | _ => .stuck
  | none => (e ρ).bind fun r ρ => lift (items r.d) ρ
noncomputable def unlend (ρ₀ : List Sl) (i : Option Nat) (ρ : List Sl) : List Sl := match i with
  | some i => match ρ₀[i]? with
    | some (.own b ds) => ρ.set i (.own b ds)
    | _ => ρ
  | none => ρ
noncomputable def srcZ (i : Nat) (f : Ev) (ρ : List Sl) : Res (List D × List Sl) := (lift (pk ρ i) ρ).bind fun _ ρ => (f ρ).bind fun r ρb => (lift (items r.d) ρb).bind fun es ρb => match ρb[i]? with
  | some (.val _ d) => (lift (items d) ρb).bind fun ds ρb => .ok ((ds.zip es).map fun p => D.tup [p.1, p.2], ρb) ρb
  | some (.own _ ds) => .ok ((ds.zip es).map fun p => D.tup [p.1, p.2], ρb) (ρb.set i (.lent ds))
  | some (.lent ds) => .ok ((ds.zip es).map fun p => D.tup [p.1, p.2], ρb) ρb
  | _ => .stuck
noncomputable def turns (is : List Nat) (one : Bool) (test : List Sl → Res Bool) (elt : Ev) : List D → List D → List Sl → Res (List D)
  | [], acc, ρ => .ok acc ρ
  | d :: r, acc, ρ => match bindF ρ is one d with
    | none => .stuck
    | some ρ => (test ρ).bind fun b ρ => if b then (elt ρ).bind fun x ρ => turns is one test elt r (acc ++ [x.d]) ρ else turns is one test elt r acc ρ
mutual
noncomputable def ev (c : Call) : P → List Sl → Res R
  | .var i, ρ => match ρ[i]? with
    | some (.val _ d) => .ok (.val d) ρ
    | some (.own b ds) => .ok (.val (.lst ds)) (ρ.set i (.val b (.lst ds)))
    | _ => .stuck
  | .con d, ρ => .ok (.val d) ρ
  | .glob _ d, ρ => .ok (.val d) ρ
  | .bin o a b, ρ => (opd2 (isVar a) (ev c a) (isVar b) (ev c b) ρ).bind fun xy ρ => lift (op2 o xy.1 xy.2) ρ
  | .neg a, ρ => (opd (isVar a) (ev c a) ρ).bind fun x ρ => lift (negR x) ρ
  | .not a, ρ => (tru (ev c a) ρ).bind fun b ρ => .ok (.val (.bl (!b))) ρ
  | .and a b, ρ => (tru (ev c a) ρ).bind fun x ρ => if x then (tru (ev c b) ρ).bind fun y ρ => .ok (.val (.bl y)) ρ else .ok (.val (.bl false)) ρ
  | .or a b, ρ => (tru (ev c a) ρ).bind fun x ρ => if x then .ok (.val (.bl true)) ρ else (tru (ev c b) ρ).bind fun y ρ => .ok (.val (.bl y)) ρ
  | .cmp o a b, ρ => (opd2 (isVar a) (ev c a) (isVar b) (ev c b) ρ).bind fun xy ρ => lift (cmR o xy.1 xy.2) ρ
  | .chain o o' a b d, ρ => (opd2 (isVar a) (ev c a) (isVar b) (ev c b) ρ).bind fun xy ρ => (lift (if flat xy.2 = true then cm o xy.1 xy.2 else none) ρ).bind fun k ρ =>
      if k then (opd (isVar d) (ev c d) ρ).bind fun z ρ => lift (cmR o' xy.2 z) ρ else .ok (.val (.bl false)) ρ
  | .ife t a b, ρ => (tru (ev c t) ρ).bind fun k ρ => if k then (ev c a ρ).bind fun r ρ => .ok (.val r.d) ρ else (ev c b ρ).bind fun r ρ => .ok (.val r.d) ρ
  | .tup as, ρ => (evs c as ρ).bind fun ds ρ => .ok (.val (.tup ds)) ρ
  | .lst as, ρ => (evs c as ρ).bind fun ds ρ => .ok (.own ds) ρ
  | .idx a i, ρ => (opd2 (isVar a) (ev c a) (isVar i) (ev c i) ρ).bind fun xy ρ => lift (ixR xy.1 xy.2) ρ
  | .slice a l h, ρ => match isVar a with
    | some i => (lift (pk ρ i) ρ).bind fun _ ρ => (opd (isVar l) (ev c l) ρ).bind fun y ρ => (opd (isVar h) (ev c h) ρ).bind fun z ρ => (lift (pk ρ i) ρ).bind fun x ρ => lift (sl3 x (part l y) (part h z)) ρ
    | none => (opd none (ev c a) ρ).bind fun x ρ => (opd (isVar l) (ev c l) ρ).bind fun y ρ => (opd (isVar h) (ev c h) ρ).bind fun z ρ => lift (sl3 x (part l y) (part h z)) ρ
  | .call f as, ρ => (evA c as ρ).bind fun xs ρ => doCall c f xs ρ
  | .blt b [a], ρ => (opd (isVar a) (ev c a) ρ).bind fun x ρ => lift (blt b [x]) ρ
  | .blt b as, ρ => (evs c as ρ).bind fun ds ρ => lift (blt b ds) ρ
  | .inst ts a, ρ => (opd (isVar a) (ev c a) ρ).bind fun x ρ => .ok (.val (.bl (ts.any fun t => isTy t x))) ρ
  | .pop x, ρ => match ρ[x]? with
    | some (.own b ds) => lift (ds.getLast?.map .val) (ρ.set x (.own b ds.dropLast))
    | _ => .stuck
  | .comp src n is one test elt, ρ => (srcOf (isVar src) (ev c src) ρ).bind fun ds ρ₁ =>
      if ds.length ≤ lim then (turns is one (evT c test) (ev c elt) ds [] (ρ₁ ++ List.replicate n .unb)).bind fun xs ρ₂ => .ok (.own xs) (unlend ρ (isVar src) (ρ₂.take ρ₁.length)) else .stuck
  | .rng a b, ρ => (opd2 (isVar a) (ev c a) (isVar b) (ev c b) ρ).bind fun xy ρ => lift ((asI xy.1).bind fun i => (asI xy.2).bind fun j =>
      if -1000000 ≤ i ∧ i ≤ 1000000000 ∧ j ≤ 1000000000 ∧ -1000000000 ≤ j then some (.val (.lst ((List.range (j - i).toNat).map fun (k : Nat) => D.int (i + (k : Int))))) else none) ρ
  | .enm a, ρ => (ev c a ρ).bind fun r ρ => lift ((items r.d).map fun ds => .val (.lst (ds.mapIdx fun i d => D.tup [.int (i : Int), d]))) ρ
  | .zip a b, ρ => (ev c a ρ).bind fun x ρ => (ev c b ρ).bind fun y ρ => lift ((items x.d).bind fun ds => (items y.d).map fun es => .val (.lst ((ds.zip es).map fun p => D.tup [p.1, p.2]))) ρ
  | .rev a, ρ => (ev c a ρ).bind fun r ρ => lift ((itemsT r.d).map fun ds => .val (.lst ds.reverse)) ρ
  | .compZ i b n is one test elt, ρ => (srcZ i (ev c b) ρ).bind fun du ρ₁ =>
      if du.1.length ≤ lim then (turns is one (evT c test) (ev c elt) du.1 [] (ρ₁ ++ List.replicate n .unb)).bind fun xs ρ₂ => .ok (.own xs) (unlend du.2 (some i) (ρ₂.take ρ₁.length)) else .stuck
noncomputable def evs (c : Call) : List P → List Sl → Res (List D)
  | [], ρ => .ok [] ρ
  | a :: r, ρ => (ev c a ρ).bind fun x ρ => (evs c r ρ).bind fun xs ρ => .ok (x.d :: xs) ρ
noncomputable def evA (c : Call) : List P → List Sl → Res (List Arg)
  | [], ρ => .ok [] ρ
  | a :: r, ρ => match isVar a with
    | some i => (lift (pk ρ i) ρ).bind fun _ ρ => (evA c r ρ).bind fun xs ρ => .ok (.nam i :: xs) ρ
    | none => (ev c a ρ).bind fun x ρ => (evA c r ρ).bind fun xs ρ => .ok (argOf x :: xs) ρ
noncomputable def evT (c : Call) : Option P → List Sl → Res Bool
  | none, ρ => .ok true ρ
  | some t, ρ => tru (ev c t) ρ
end
inductive S where
  | pass | brk | cont | bad
  | expr (e : P)
  | asg (i : Nat) (e : P)
  | par (i j : Nat) (a b : P)
  | unp (i : List Nat) (e : P)
  | seti (x : Nat) (i e : P)
  | app (x : Nat) (e : P)
  | ext (x : Nat) (e : P)
  | ret (e : P) | retN
  | ifs (c : P) (a b : List S)
  | forr (src : P) (i : List Nat) (one : Bool) (body : List S)
  | whl (c : P) (body : List S)
  | popi (x : Nat) (i : P)
  | swp (x : Nat) (i : P) (y : Nat) (j : P) (a b : P)
  | aug (x : Nat) (sub : Bool) (e : P)
  | augi (x : Nat) (i : P) (sub : Bool) (e : P)
  | extO (x : Nat) (e : P)
  | rais (k : Nat)
  | tryR (body : List S) (k : Nat) (d : D)
  | tryE (body : List S) (x : Nat) (hs : List (List S))
  deriving Inhabited
inductive Fl where
  | next | brk | cont | ret (r : R)
  deriving Inhabited
noncomputable def slOf : R → Sl
  | .val d => .val false d
  | .own ds => .own false ds
noncomputable def forT (is : List Nat) (one : Bool) (body : List Sl → Res Fl) : List D → List Sl → Res Fl
  | [], ρ => .ok .next ρ
  | d :: r, ρ => match bindF ρ is one d with
    | none => .stuck
    | some ρ => (body ρ).bind fun fl ρ => match fl with
      | .next => forT is one body r ρ
      | .cont => forT is one body r ρ
      | .brk => .ok .next ρ
      | .ret r => .ok (.ret r) ρ
noncomputable def whlT (test : List Sl → Res Bool) (body : List Sl → Res Fl) : Nat → List Sl → Res Fl
  | 0, _ => .stuck
  | n + 1, ρ => (test ρ).bind fun b ρ => if b then (body ρ).bind fun fl ρ => match fl with
      | .next => whlT test body n ρ
      | .cont => whlT test body n ρ
      | .brk => .ok .next ρ
      | .ret r => .ok (.ret r) ρ
    else .ok .next ρ
noncomputable def forX (is : List Nat) (one : Bool) (body : List Sl → Res Fl) (bx : List Sl → Option (Nat × List Sl)) : List D → List Sl → Option (Nat × List Sl)
  | [], _ => none
  | d :: r, ρ => match bindF ρ is one d with
    | none => none
    | some ρ => match bx ρ with
      | some x => some x
      | none => match body ρ with
        | .ok .next ρ1 => forX is one body bx r ρ1
        | .ok .cont ρ1 => forX is one body bx r ρ1
        | _ => none
noncomputable def callOf : P → P
  | .idx a _ => a
  | e => e
noncomputable def unl : Sl → Bool
  | .unb => true
  | .val b _ => !b
  | .own b _ => !b
  | .lent _ => false
noncomputable def callX (c : Call) (e : P) (ρ : List Sl) : Option (Nat × List Sl) := match callOf e with
  | .call f as => match evA c as ρ with
    | .ok xs ρ1 => match bindA ρ1 xs [] with
      | some args => match c f args with
        | .exc k args' => some (k, backA xs args' 0 ρ1)
        | _ => none
      | none => none
    | _ => none
  | _ => none
mutual
noncomputable def ex (c : Call) (n : Nat) : S → List Sl → Res Fl
  | .pass, ρ => .ok .next ρ
  | .brk, ρ => .ok .brk ρ
  | .cont, ρ => .ok .cont ρ
  | .bad, _ => .stuck
  | .expr e, ρ => (ev c e ρ).bind fun _ ρ => .ok .next ρ
  | .asg i e, ρ => (ev c e ρ).bind fun r ρ => (lift (put ρ i (slOf r)) ρ).bind fun ρ' _ => .ok .next ρ'
  | .par i j a b, ρ => (ev c a ρ).bind fun x ρ => (ev c b ρ).bind fun y ρ => (lift ((put ρ i (.val false x.d)).bind fun ρ => put ρ j (.val false y.d)) ρ).bind fun ρ' _ => .ok .next ρ'
  | .unp is e, ρ => (ev c e ρ).bind fun r ρ => match r.d with
    | .tup ds => (lift (putAll ρ is ds) ρ).bind fun ρ' _ => .ok .next ρ'
    | _ => .stuck
  | .seti x i e, ρ => (ev c e ρ).bind fun r ρ => (lift (pk ρ x) ρ).bind fun _ ρ => (opd (isVar i) (ev c i) ρ).bind fun k ρ => match ρ[x]?, k with
    | some (.own b ds), .int k => match ixN ds.length k with
      | some j => .ok .next (ρ.set x (.own b (ds.set j r.d)))
      | none => .stuck
    | _, _ => .stuck
  | .app x e, ρ => (lift (pkL ρ x) ρ).bind fun _ ρ => (ev c e ρ).bind fun r ρ => match ρ[x]? with
    | some (.own b ds) => if ds.length < lim then .ok .next (ρ.set x (.own b (ds ++ [r.d]))) else .stuck
    | _ => .stuck
  | .ext x e, ρ => (lift (pkL ρ x) ρ).bind fun _ ρ => (ev c e ρ).bind fun r ρ => match ρ[x]?, r.d with
    | some (.own b ds), .lst es => if ds.length + es.length ≤ lim then .ok .next (ρ.set x (.own b (ds ++ es))) else .stuck
    | _, _ => .stuck
  | .ret e, ρ => match isVar e with
    | some i => match ρ[i]? with
      | some (.own false ds) => .ok (.ret (.own ds)) (ρ.set i .unb)
      | _ => (ev c e ρ).bind fun r ρ => .ok (.ret r) ρ
    | none => (ev c e ρ).bind fun r ρ => .ok (.ret r) ρ
  | .retN, ρ => .ok (.ret (.val .non)) ρ
  | .ifs t a b, ρ => (tru (ev c t) ρ).bind fun k ρ => if k then exs c n a ρ else exs c n b ρ
  | .forr src is one body, ρ => (srcOf (isVar src) (ev c src) ρ).bind fun ds ρ₁ => (forT is one (exs c n body) ds ρ₁).bind fun fl ρ₂ => .ok fl (unlend ρ (isVar src) ρ₂)
  | .whl t body, ρ => whlT (tru (ev c t)) (exs c n body) n ρ
  | .popi x i, ρ => (lift (pkL ρ x) ρ).bind fun _ ρ => (opd (isVar i) (ev c i) ρ).bind fun k ρ => match ρ[x]?, k with
    | some (.own b ds), .int k => match ixN ds.length k with
      | some j => if ds.length ≤ lim then .ok .next (ρ.set x (.own b (ds.eraseIdx j))) else .stuck
      | none => .stuck
    | _, _ => .stuck
  | .swp x i y j a b, ρ => (ev c a ρ).bind fun u ρ => (ev c b ρ).bind fun v ρ => (lift (pk ρ x) ρ).bind fun _ ρ => (opd (isVar i) (ev c i) ρ).bind fun k ρ => match ρ[x]?, k with
    | some (.own b ds), .int k => match ixN ds.length k with
      | some m => (lift (pk (ρ.set x (.own b (ds.set m u.d))) y) (ρ.set x (.own b (ds.set m u.d)))).bind fun _ ρ => (opd (isVar j) (ev c j) ρ).bind fun k ρ => match ρ[y]?, k with
        | some (.own b ds), .int k => match ixN ds.length k with
          | some m => .ok .next (ρ.set y (.own b (ds.set m v.d)))
          | none => .stuck
        | _, _ => .stuck
      | none => .stuck
    | _, _ => .stuck
  | .aug x sub e, ρ => (lift (pk ρ x) ρ).bind fun a ρ => (opd (isVar e) (ev c e) ρ).bind fun b ρ => match a, b with
    | .int i, .int j => (lift (put ρ x (.val false (.int (if sub then i - j else i + j)))) ρ).bind fun ρ' _ => .ok .next ρ'
    | _, _ => .stuck
  | .augi x i sub e, ρ => (lift (pk ρ x) ρ).bind fun _ ρ => (opd (isVar i) (ev c i) ρ).bind fun k ρ => (lift (pk ρ x) ρ).bind fun l ρ => (lift (ixR l k) ρ).bind fun a ρ => (opd (isVar e) (ev c e) ρ).bind fun b ρ => match a, b, ρ[x]?, k with
    | .val (.int u), .int v, some (.own bb ds), .int k => match ixN ds.length k with
      | some j => .ok .next (ρ.set x (.own bb (ds.set j (.int (if sub then u - v else u + v)))))
      | none => .stuck
    | _, _, _, _ => .stuck
  | .extO x e, ρ => (lift (pkL ρ x) ρ).bind fun _ ρ => (ev c e ρ).bind fun r ρ => match ρ[x]?, r with
    | some (.own b ds), .own es => if ds.length + es.length ≤ lim then .ok .next (ρ.set x (.own b (ds ++ es))) else .stuck
    | _, _ => .stuck
  | .rais _, _ => .stuck
  | .tryR body k d, ρ => match exs c n body ρ with
    | .ok fl ρ' => .ok fl ρ'
    | _ => match exsX c n body ρ with
      | some (k', ρ') => if k' = k then .ok (.ret (.val d)) ρ' else .stuck
      | none => .stuck
  | .tryE body x hs, ρ => match exs c n body ρ with
    | .ok fl ρ' => .ok fl ρ'
    | _ => match exsX c n body ρ with
      | some (k, _) => if ρ.all unl = true then match exh c n hs k (List.replicate ρ.length .unb) with
          | .ok .next ρ2 => match ρ2[x]? with
            | some .unb => .ok .next ρ2
            | _ => .stuck
          | _ => .stuck
        else .stuck
      | none => .stuck
noncomputable def exh (c : Call) (n : Nat) : List (List S) → Nat → List Sl → Res Fl
  | [], _, _ => .stuck
  | a :: _, 0, ρ => exs c n a ρ
  | _ :: r, k + 1, ρ => exh c n r k ρ
noncomputable def exs (c : Call) (n : Nat) : List S → List Sl → Res Fl
  | [], ρ => .ok .next ρ
  | s :: r, ρ => (ex c n s ρ).bind fun fl ρ => match fl with
    | .next => exs c n r ρ
    | fl => .ok fl ρ
noncomputable def exX (c : Call) (n : Nat) : S → List Sl → Option (Nat × List Sl)
  | .rais k, ρ => some (k, ρ)
  | .ifs t a b, ρ => match tru (ev c t) ρ with
    | .ok x ρ1 => if x then exsX c n a ρ1 else exsX c n b ρ1
    | _ => none
  | .forr src is one body, ρ => match srcOf (isVar src) (ev c src) ρ with
    | .ok ds ρ1 => (forX is one (exs c n body) (exsX c n body) ds ρ1).map fun x => (x.1, unlend ρ (isVar src) x.2)
    | _ => none
  | .asg _ e, ρ => callX c e ρ
  | .expr e, ρ => callX c e ρ
  | _, _ => none
noncomputable def exsX (c : Call) (n : Nat) : List S → List Sl → Option (Nat × List Sl)
  | [], _ => none
  | s :: r, ρ => match exX c n s ρ with
    | some x => some x
    | none => match ex c n s ρ with
      | .ok .next ρ1 => exsX c n r ρ1
      | _ => none
end
structure Fd where
  np : Nat
  nn : Nat
  body : List S
  deriving Inhabited
noncomputable abbrev Tab := Nat → Option Fd
noncomputable def enter (c : Call) (n : Nat) (d : Fd) (args : List Sl) : Res R :=
  if args.length = d.np ∧ d.np ≤ d.nn then match exs c n d.body (args ++ List.replicate (d.nn - d.np) .unb) with
    | .ok .next ρ => .ok (.val .non) (ρ.take d.np)
    | .ok (.ret r) ρ => .ok r (ρ.take d.np)
    | _ => match exsX c n d.body (args ++ List.replicate (d.nn - d.np) .unb) with
      | some (k, ρ) => .exc k (ρ.take d.np)
      | none => .stuck
  else .stuck
noncomputable def run (Γ : Tab) (w : Nat) : Nat → Call
  | 0, _, _ => .stuck
  | n + 1, f, args => match Γ f with
    | some d => enter (run Γ w n) w d args
    | none => .stuck
end HH
end
section
set_option linter.all false
set_option Elab.async false
namespace HH
open PySem L2
section
variable (K : PySem.W.Frag)
mutual
noncomputable def Rep (F : Hp) : V → D → Prop
  | v, .non => v = .non
  | v, .bl b => v = .bl b
  | v, .int i => v = .int i
  | v, .str x => v = .str x
  | v, .tup ds => ∃ a xs, v = .ref a ∧ SqT K F a xs ∧ Reps F xs ds
  | v, .lst ds => ∃ a xs, v = .ref a ∧ SqL K F a xs ∧ Reps F xs ds
noncomputable def Reps (F : Hp) : List V → List D → Prop
  | vs, [] => vs = []
  | vs, d :: ds => ∃ v r, vs = v :: r ∧ Rep F v d ∧ Reps F r ds
end
end
section
variable {K : PySem.W.Frag} {F F' H H' : Hp}
theorem Same.seqT {a : Addr} {xs : List V} (e : Same H H') (h : SqT K H a xs) : SqT K H' a xs := by
  rcases h with (h | ⟨o, h⟩) | h
  · exact .inl (.inl (e _ _ h))
  · exact .inl (.inr ⟨o, e _ _ h⟩)
  · exact .inr h
mutual
theorem Rep.mono (e : Same F F') : ∀ {d : D} {v : V}, Rep K F v d → Rep K F' v d
  | .non, _, h => by rw [Rep] at h ⊢; exact h
  | .bl _, _, h => by rw [Rep] at h ⊢; exact h
  | .int _, _, h => by rw [Rep] at h ⊢; exact h
  | .str _, _, h => by rw [Rep] at h ⊢; exact h
  | .tup ds, _, h => by
    rw [Rep] at h ⊢
    obtain ⟨a, xs, rfl, hs, r⟩ := h
    exact ⟨a, xs, rfl, Same.seqT e hs, Reps.mono e r⟩
  | .lst ds, _, h => by
    rw [Rep] at h ⊢
    obtain ⟨a, xs, rfl, hs, r⟩ := h
    exact ⟨a, xs, rfl, e.seq hs, Reps.mono e r⟩
theorem Reps.mono (e : Same F F') : ∀ {ds : List D} {vs : List V}, Reps K F vs ds → Reps K F' vs ds
  | [], _, h => by rw [Reps] at h ⊢; exact h
  | d :: ds, _, h => by
    rw [Reps] at h ⊢
    obtain ⟨v, r, rfl, h1, h2⟩ := h
    exact ⟨v, r, rfl, Rep.mono e h1, Reps.mono e h2⟩
end
theorem Reps.nil : Reps K F [] [] := by rw [Reps]
theorem Reps.cons {v : V} {d : D} {vs : List V} {ds : List D} (h : Rep K F v d) (t : Reps K F vs ds) : Reps K F (v :: vs) (d :: ds) := by
  rw [Reps]; exact ⟨v, vs, rfl, h, t⟩
theorem Reps.uncons {vs : List V} {d : D} {ds : List D} (h : Reps K F vs (d :: ds)) : ∃ v r, vs = v :: r ∧ Rep K F v d ∧ Reps K F r ds := by rw [Reps] at h; exact h
theorem Reps.unnil {vs : List V} (h : Reps K F vs []) : vs = [] := by rw [Reps] at h; exact h
theorem Reps.length : ∀ {ds : List D} {vs : List V}, Reps K F vs ds → vs.length = ds.length
  | [], _, h => by rw [h.unnil]; rfl
  | d :: ds, _, h => by
    obtain ⟨v, r, rfl, _, t⟩ := h.uncons
    simp [Reps.length t]
theorem Reps.get : ∀ {ds : List D} {vs : List V} {i : Nat} {d : D}, Reps K F vs ds → ds[i]? = some d → ∃ v, vs[i]? = some v ∧ Rep K F v d
  | [], _, _, _, h, e => by simp at e
  | d :: ds, _, 0, _, h, e => by
    obtain ⟨v, r, rfl, h1, t⟩ := h.uncons
    simp at e; subst e
    exact ⟨v, rfl, h1⟩
  | d :: ds, _, i + 1, _, h, e => by
    obtain ⟨v, r, rfl, _, t⟩ := h.uncons
    simp at e
    obtain ⟨w, e1, e2⟩ := t.get e
    exact ⟨w, by simpa using e1, e2⟩
theorem Reps.append : ∀ {ds es : List D} {vs us : List V}, Reps K F vs ds → Reps K F us es → Reps K F (vs ++ us) (ds ++ es)
  | [], _, _, _, h, h' => by rw [h.unnil]; exact h'
  | d :: ds, _, _, _, h, h' => by
    obtain ⟨v, r, rfl, h1, t⟩ := h.uncons
    exact .cons h1 (t.append h')
theorem Reps.set {v : V} {d : D} (hr : Rep K F v d) : ∀ {ds : List D} {vs : List V} (i : Nat), Reps K F vs ds → Reps K F (vs.set i v) (ds.set i d)
  | [], _, _, h => by rw [h.unnil]; exact .nil
  | _ :: _, _, 0, h => by
    obtain ⟨w, r, rfl, h1, t⟩ := h.uncons
    exact .cons hr t
  | _ :: _, _, i + 1, h => by
    obtain ⟨w, r, rfl, h1, t⟩ := h.uncons
    exact .cons h1 (Reps.set hr i t)
theorem Reps.take : ∀ {ds : List D} {vs : List V} (n : Nat), Reps K F vs ds → Reps K F (vs.take n) (ds.take n)
  | [], _, n, h => by rw [h.unnil]; simpa using Reps.nil
  | _ :: _, _, 0, h => .nil
  | _ :: _, _, n + 1, h => by
    obtain ⟨w, r, rfl, h1, t⟩ := h.uncons
    exact .cons h1 (t.take n)
theorem Reps.drop : ∀ {ds : List D} {vs : List V} (n : Nat), Reps K F vs ds → Reps K F (vs.drop n) (ds.drop n)
  | [], _, n, h => by rw [h.unnil]; simpa using Reps.nil
  | _ :: _, _, 0, h => h
  | _ :: _, _, n + 1, h => by
    obtain ⟨w, r, rfl, h1, t⟩ := h.uncons
    exact t.drop n
theorem Reps.rep {ds : List D} {vs : List V} (h : Reps K F vs ds) : ∀ n, Reps K F (List.replicate n vs).flatten (List.replicate n ds).flatten
  | 0 => by simpa using Reps.nil
  | n + 1 => by simpa [List.replicate_succ] using h.append (Reps.rep h n)
noncomputable def lst? : Sl → Option (List D)
  | .own _ ds => some ds
  | .lent ds => some ds
  | _ => none
noncomputable def OwnAt (ρ : List Sl) (σ : St) (i : Nat) (a : Addr) : Prop := (∃ s ds, ρ[i]? = some s ∧ lst? s = some ds) ∧ σ[i]? = some (some (V.ref a))
noncomputable def Own (ρ : List Sl) (σ : St) (a : Addr) : Prop := ∃ i, OwnAt ρ σ i a
structure GS (K : PySem.W.Frag) (F : Hp) (ρ : List Sl) (σ : St) (H : Hp) : Prop where
  sub : Same F H
  len : ρ.length = σ.length
  val : ∀ (i : Nat) (b : Bool) (d : D), ρ[i]? = some (Sl.val b d) → ∃ v : V, σ[i]? = some (some v) ∧ Rep K F v d
  own : ∀ (i : Nat) (s : Sl) (ds : List D), ρ[i]? = some s → lst? s = some ds → ∃ (a : Addr) (xs : List V), σ[i]? = some (some (V.ref a)) ∧ H a = some (.lst xs) ∧ F a = none ∧ Reps K F xs ds
  dis : ∀ (i j : Nat) (a : Addr), OwnAt ρ σ i a → OwnAt ρ σ j a → i = j
noncomputable def lkd : Sl → Bool
  | .val b _ => b
  | .own b _ => b
  | .lent _ => true
  | .unb => false
noncomputable def lkOk : Sl → Sl → Prop
  | .val true d, s => s = .val true d
  | .own true _, s => (∃ ds, s = .own true ds) ∨ ∃ d, s = .val true d
  | .lent ds, s => s = .lent ds
  | _, _ => True
theorem lkOk.refl (s : Sl) : lkOk s s := by
  unfold lkOk; split <;> first | rfl | exact .inl ⟨_, rfl⟩ | trivial
theorem lkOk.lkd {s s' : Sl} (h : lkOk s s') (l : lkd s = true) : HH.lkd s' = true := by
  cases s with
  | unb => cases l
  | val b d => cases b with
    | true => cases h; rfl
    | false => cases l
  | own b d => cases b with
    | true => rcases h with ⟨_, rfl⟩ | ⟨_, rfl⟩ <;> rfl
    | false => cases l
  | lent d => cases h; rfl
theorem lkOk.trans {s s' s'' : Sl} (l : HH.lkd s = true) (h : lkOk s s') (h' : lkOk s' s'') : lkOk s s'' := by
  cases s with
  | unb => cases l
  | val b d => cases b with
    | true => cases h; exact h'
    | false => cases l
  | own b d => cases b with
    | true => rcases h with ⟨_, rfl⟩ | ⟨d, rfl⟩
              · exact h'
              · exact .inr ⟨d, h'⟩
    | false => cases l
  | lent d => cases h; exact h'
structure Stp (K : PySem.W.Frag) (F : Hp) (ρ : List Sl) (σ : St) (H : Hp) (F' : Hp) (ρ' : List Sl) (σ' : St) (H' : Hp) : Prop where
  gs : GS K F' ρ' σ' H'
  fsub : Same F F'
  fgr : ∀ b, F b = none → F' b ≠ none → Own ρ σ b ∨ H b = none
  keep : ∀ b o, H b = some o → ¬ Own ρ σ b → H' b = some o
  ogr : ∀ b, Own ρ' σ' b → Own ρ σ b ∨ H b = none
  len : ρ'.length = ρ.length
  lk : ∀ (i : Nat) (s : Sl), ρ[i]? = some s → lkd s = true → σ'[i]? = σ[i]? ∧ ∃ s', ρ'[i]? = some s' ∧ lkOk s s'
theorem Stp.refl {ρ : List Sl} {σ : St} (g : GS K F ρ σ H) : Stp K F ρ σ H F ρ σ H :=
  ⟨g, Same.refl _, fun b h h' => absurd h h', fun _ _ h _ => h, fun _ h => .inl h, rfl, fun i s h _ => ⟨rfl, s, h, .refl s⟩⟩
theorem Stp.trans {F1 F2 H1 H2 : Hp} {ρ ρ1 ρ2 : List Sl} {σ σ1 σ2 : St} (a : Stp K F ρ σ H F1 ρ1 σ1 H1) (b : Stp K F1 ρ1 σ1 H1 F2 ρ2 σ2 H2) : Stp K F ρ σ H F2 ρ2 σ2 H2 := by
  have back : ∀ c, Own ρ1 σ1 c ∨ H1 c = none → Own ρ σ c ∨ H c = none := fun c h => by
    rcases h with h | h
    · exact a.ogr c h
    · by_cases ho : Own ρ σ c
      · exact .inl ho
      · right
        cases e : H c with
        | none => rfl
        | some o => rw [a.keep c o e ho] at h; cases h
  refine ⟨b.gs, a.fsub.trans b.fsub, fun c h h' => ?_, fun c o h n => ?_, fun c h => back c (b.ogr c h), b.len.trans a.len, fun i s h l => ?_⟩
  · by_cases e : F1 c = none
    · exact back c (b.fgr c e h')
    · exact a.fgr c h e
  · refine b.keep c o (a.keep c o h n) fun h' => ?_
    rcases a.ogr c h' with h' | h'
    · exact n h'
    · rw [h] at h'; cases h'
  · obtain ⟨e1, s1, h1, k1⟩ := a.lk i s h l
    obtain ⟨e2, s2, h2, k2⟩ := b.lk i s1 h1 (k1.lkd l)
    exact ⟨e2.trans e1, s2, h2, .trans l k1 k2⟩
noncomputable def PRep (K : PySem.W.Frag) (F H : Hp) (v : V) (d : D) : Prop := Rep K F v d ∨ ∃ a xs ds, v = .ref a ∧ H a = some (.lst xs) ∧ Reps K F xs ds ∧ d = .lst ds
noncomputable def RepR (K : PySem.W.Frag) (F' : Hp) (ρ' : List Sl) (σ' : St) (H' : Hp) (ρ : List Sl) (σ : St) (H : Hp) (v : V) : R → Prop
  | .val d => Rep K F' v d
  | .own ds => ∃ a xs, v = .ref a ∧ H' a = some (.lst xs) ∧ F' a = none ∧ Reps K F' xs ds ∧ ¬ Own ρ' σ' a ∧ (Own ρ σ a ∨ H a = none)
theorem Same.upd_none {F : Hp} {a : Addr} {o : HO} (h : F a = none) : Same F (upd F a o) := fun b u e => by
  have : b ≠ a := by rintro rfl; rw [h] at e; cases e
  rw [upd_ne this]; exact e
theorem Stp.frz {ρ ρ' : List Sl} {σ σ' : St} {v : V} {r : R} (s : Stp K F ρ σ H F' ρ' σ' H') (h : RepR K F' ρ' σ' H' ρ σ H v r) :
    ∃ F'', Stp K F ρ σ H F'' ρ' σ' H' ∧ Same F' F'' ∧ Rep K F'' v r.d := by
  cases r with
  | val d => exact ⟨F', s, .refl _, h⟩
  | own ds =>
    obtain ⟨a, xs, rfl, h1, h2, h3, h4, h5⟩ := h
    have sm : Same F' (upd F' a (.lst xs)) := Same.upd_none h2
    refine ⟨upd F' a (.lst xs), ⟨⟨fun b o e => ?_, s.gs.len, fun i b d e => ?_, fun i sl ds' e e' => ?_, s.gs.dis⟩, s.fsub.trans sm, fun b n n' => ?_, s.keep, s.ogr, s.len, s.lk⟩, sm, ?_⟩
    · by_cases hb : b = a
      · subst hb; rw [upd_same] at e; cases e; exact h1
      · rw [upd_ne hb] at e; exact s.gs.sub b o e
    · obtain ⟨v, e1, e2⟩ := s.gs.val i b d e
      exact ⟨v, e1, e2.mono sm⟩
    · obtain ⟨b, ys, e1, e2, e3, e4⟩ := s.gs.own i sl ds' e e'
      have hb : b ≠ a := by rintro rfl; exact h4 ⟨i, ⟨sl, ds', e, e'⟩, e1⟩
      exact ⟨b, ys, e1, e2, by rw [upd_ne hb]; exact e3, e4.mono sm⟩
    · by_cases hb : b = a
      · subst hb; exact h5
      · rw [upd_ne hb] at n'; exact s.fgr b n n'
    · show Rep K _ _ (.lst ds)
      rw [Rep]; exact ⟨a, xs, rfl, SqL.of upd_same, h3.mono sm⟩
theorem GS.pk {ρ : List Sl} {σ : St} {i : Nat} {d : D} (g : GS K F ρ σ H) (e : HH.pk ρ i = some d) : ∃ v : V, σ[i]? = some (some v) ∧ PRep K F H v d := by
  unfold HH.pk at e
  split at e
  · rename_i b d' h
    cases e
    obtain ⟨v, h1, h2⟩ := g.val i b d h
    exact ⟨v, h1, .inl h2⟩
  · rename_i b ds h
    cases e
    obtain ⟨a, xs, h1, h2, h3, h4⟩ := g.own i _ ds h rfl
    exact ⟨.ref a, h1, .inr ⟨a, xs, ds, rfl, h2, h4, rfl⟩⟩
  · rename_i ds h
    cases e
    obtain ⟨a, xs, h1, h2, h3, h4⟩ := g.own i _ ds h rfl
    exact ⟨.ref a, h1, .inr ⟨a, xs, ds, rfl, h2, h4, rfl⟩⟩
  · cases e
structure Ext (F H F' H' : Hp) : Prop where
  hs : Same H H'
  fs : Same F F'
  sub : Same F' H'
  gr : ∀ b, F b = none → F' b ≠ none → H b = none
theorem Ext.refl (h : Same F H) : Ext F H F H := ⟨.refl _, .refl _, h, fun _ a b => absurd a b⟩
theorem Ext.stp {ρ : List Sl} {σ : St} (g : GS K F ρ σ H) (e : Ext F H F' H') : Stp K F ρ σ H F' ρ σ H' := by
  refine ⟨⟨e.sub, g.len, fun i b d h => ?_, fun i s ds h h' => ?_, g.dis⟩, e.fs, fun b n n' => .inr (e.gr b n n'), fun b o h _ => e.hs b o h, fun _ h => .inl h, rfl, fun i s h _ => ⟨rfl, s, h, .refl s⟩⟩
  · obtain ⟨v, h1, h2⟩ := g.val i b d h
    exact ⟨v, h1, h2.mono e.fs⟩
  · obtain ⟨a, xs, h1, h2, h3, h4⟩ := g.own i s ds h h'
    refine ⟨a, xs, h1, e.hs _ _ h2, ?_, h4.mono e.fs⟩
    cases q : F' a with
    | none => rfl
    | some o => have := e.gr a h3 (by rw [q]; simp); rw [h2] at this; cases this
noncomputable def RepN (K : PySem.W.Frag) (F' H' H : Hp) (v : V) : R → Prop
  | .val d => Rep K F' v d
  | .own ds => ∃ a xs, v = .ref a ∧ H' a = some (.lst xs) ∧ F' a = none ∧ Reps K F' xs ds ∧ H a = none
theorem RepN.repR {ρ : List Sl} {σ : St} {v : V} {r : R} (g : GS K F ρ σ H) (h : RepN K F' H' H v r) : RepR K F' ρ σ H' ρ σ H v r := by
  cases r with
  | val d => exact h
  | own ds =>
    obtain ⟨a, xs, rfl, h1, h2, h3, h4⟩ := h
    refine ⟨a, xs, rfl, h1, h2, h3, ?_, .inr h4⟩
    rintro ⟨i, ⟨s, ds', e, e'⟩, e2⟩
    obtain ⟨b, ys, q1, q2, _⟩ := g.own i s ds' e e'
    rw [e2] at q1; cases q1
    rw [h4] at q2; cases q2
theorem RepR.later {F1 H1 F2 H2 : Hp} {ρ ρ1 ρ2 : List Sl} {σ σ1 σ2 : St} {v : V} {r : R} (a : Stp K F ρ σ H F1 ρ1 σ1 H1) (h : RepR K F2 ρ2 σ2 H2 ρ1 σ1 H1 v r) : RepR K F2 ρ2 σ2 H2 ρ σ H v r := by
  cases r with
  | val d => exact h
  | own ds =>
    obtain ⟨b, xs, rfl, h1, h2, h3, h4, h5⟩ := h
    refine ⟨b, xs, rfl, h1, h2, h3, h4, ?_⟩
    rcases h5 with h5 | h5
    · exact a.ogr b h5
    · by_cases ho : Own ρ σ b
      · exact .inl ho
      · right
        cases e : H b with
        | none => rfl
        | some o => rw [a.keep b o e ho] at h5; cases h5
end
end HH
end
section
set_option linter.all false
set_option Elab.async false
set_option maxRecDepth 10000
namespace HH
open PySem L2 PySem.Spec PyProof.Rows
theorem bind_ok {α β : Type} {x : Res α} {f : α → List Sl → Res β} {b : β} {ρ' : List Sl} (h : x.bind f = .ok b ρ') : ∃ a ρ, x = .ok a ρ ∧ f a ρ = .ok b ρ' := by
  cases x with
  | ok a ρ => exact ⟨a, ρ, rfl, h⟩
  | exc _ _ => cases h
  | stuck => cases h
theorem lift_ok {α : Type} {o : Option α} {ρ ρ' : List Sl} {a : α} (h : lift o ρ = .ok a ρ') : o = some a ∧ ρ = ρ' := by
  cases o with
  | none => cases h
  | some b => cases h; exact ⟨rfl, rfl⟩
theorem map_some {α β : Type} {o : Option α} {f : α → β} {b : β} (h : o.map f = some b) : ∃ a, o = some a ∧ f a = b := by
  cases o with
  | none => cases h
  | some a => cases h; exact ⟨a, rfl, rfl⟩
theorem bindO {α β : Type} {o : Option α} {f : α → Option β} {b : β} (h : o.bind f = some b) : ∃ a, o = some a ∧ f a = some b := by
  cases o with
  | none => cases h
  | some a => exact ⟨a, rfl, h⟩
theorem ite_some {α : Type} {c : Prop} [Decidable c] {a b : α} (h : (if c then some a else none) = some b) : c ∧ a = b := by
  split at h
  · rename_i hc; cases h; exact ⟨hc, rfl⟩
  · cases h
section
variable {X : Cx} {c : Call} {e a b : Expr} {p pa pb : P} {pos : Pos}
theorem peImp {t t' : TE} (h : PE X e t) (i : ∀ σ H Q, t' σ H Q → t σ H Q) : PE X e t' := fun pins s σ H Q I q => h pins s σ H Q I (i σ H Q q)
theorem ptImp {t t' : TT} (h : PT X e t) (i : ∀ σ H Q, t' σ H Q → t σ H Q) : PT X e t' := fun pins s σ H Q I q => h pins s σ H Q I (i σ H Q q)
theorem pwImp {t t' : TT} (h : PW X e t) (i : ∀ σ H Q, t' σ H Q → t σ H Q) : PW X e t' := fun wh pins s σ H Q I q => h wh pins s σ H Q I (i σ H Q q)
theorem paImp {es : List Expr} {t t' : TA} (h : PA X es t) (i : ∀ σ H Q, t' σ H Q → t σ H Q) : PA X es t' := fun pos pins s σ H Q I q => h pos pins s σ H Q I (i σ H Q q)
noncomputable def tEv (K : PySem.W.Frag) (f : Ev) : TE := fun σ H Q => ∃ F ρ r ρ', GS K F ρ σ H ∧ f ρ = .ok r ρ' ∧ ∀ v F' H', Stp K F ρ σ H F' ρ' σ H' → RepR K F' ρ' σ H' ρ σ H v r → Q v H'
noncomputable def tTr (K : PySem.W.Frag) (f : List Sl → Res Bool) : TT := fun σ H Q => ∃ F ρ k ρ', GS K F ρ σ H ∧ f ρ = .ok k ρ' ∧ ∀ F' H', Stp K F ρ σ H F' ρ' σ H' → Q k H'
noncomputable def tEvs (K : PySem.W.Frag) (f : List Sl → Res (List D)) : TA := fun σ H Q => ∃ F ρ ds ρ', GS K F ρ σ H ∧ f ρ = .ok ds ρ' ∧ ∀ vs F' H', Stp K F ρ σ H F' ρ' σ H' → Reps K F' vs ds → Q vs H'
structure SX (X : Cx) (c : Call) (e : Expr) (p : P) : Prop where
  ev : PE X e (tEv X.K (HH.ev c p))
  var : ∀ i, isVar p = some i → PE X e (tVar i)
noncomputable def SA (X : Cx) (c : Call) (es : List Expr) (ps : List P) : Prop := PA X es (tEvs X.K (evs c ps)) ∧ ps.length = es.length
theorem SX.opd (h : SX X c e p) : ∃ t, PE X e t ∧ ∀ {σ : L2.St} {H F : Hp} {ρ ρ' : List Sl} {d : D} {Q : VK}, GS X.K F ρ σ H → opd (isVar p) (HH.ev c p) ρ = .ok d ρ' →
    (∀ v F' H', Stp X.K F ρ σ H F' ρ' σ H' → PRep X.K F' H' v d → Q v H') → t σ H Q := by
  cases hv : isVar p with
  | none =>
    refine ⟨_, h.ev, fun {σ H F ρ ρ' d Q} g e k => ?_⟩
    obtain ⟨r, ρ1, e1, e2⟩ := bind_ok e
    cases e2
    refine ⟨F, ρ, r, _, g, e1, fun v F' H' s rr => ?_⟩
    obtain ⟨F'', s', _, rp⟩ := s.frz rr
    exact k v F'' H' s' (.inl rp)
  | some i =>
    refine ⟨_, h.var i hv, fun {σ H F ρ ρ' d Q} g e k => ?_⟩
    obtain ⟨e1, e2⟩ := lift_ok e
    subst e2
    obtain ⟨v, h1, h2⟩ := g.pk e1
    exact ⟨v, h1, k v F H (.refl g) h2⟩
theorem SX.opd2 (ha : SX X c a pa) (hb : SX X c b pb) : ∃ ta tb, PE X a ta ∧ PE X b tb ∧ ∀ {σ : L2.St} {H F : Hp} {ρ ρ' : List Sl} {xy : D × D} {R : V → V → Hp → Prop}, GS X.K F ρ σ H →
    opd2 (isVar pa) (HH.ev c pa) (isVar pb) (HH.ev c pb) ρ = .ok xy ρ' → (∀ v u F' H', Stp X.K F ρ σ H F' ρ' σ H' → PRep X.K F' H' v xy.1 → PRep X.K F' H' u xy.2 → R v u H') → ta σ H fun x H1 => tb σ H1 fun y H2 => R x y H2 := by
  obtain ⟨tb, hb1, hb2⟩ := hb.opd
  cases hv : isVar pa with
  | none =>
    refine ⟨_, tb, ha.ev, hb1, fun {σ H F ρ ρ' xy R} g e k => ?_⟩
    obtain ⟨x, ρ1, e1, e⟩ := bind_ok e
    obtain ⟨y, ρ2, e2, e⟩ := bind_ok e
    cases e
    obtain ⟨r, ρ1', e1, e0⟩ := bind_ok e1
    cases e0
    refine ⟨F, ρ, r, _, g, e1, fun v F' H' s rr => ?_⟩
    obtain ⟨F1, s1, _, rp⟩ := s.frz rr
    refine hb2 s1.gs e2 fun u F2 H2 s2 pu => ?_
    exact k v u F2 H2 (s1.trans s2) (.inl (rp.mono s2.fsub)) pu
  | some i =>
    refine ⟨_, tb, ha.var i hv, hb1, fun {σ H F ρ ρ' xy R} g e k => ?_⟩
    obtain ⟨x0, ρ0, e0, e⟩ := bind_ok e
    obtain ⟨e00, e01⟩ := lift_ok e0
    subst e01
    obtain ⟨y, ρ1, e1, e⟩ := bind_ok e
    obtain ⟨x, ρ2, e2, e⟩ := bind_ok e
    cases e
    have zz := lift_ok e2; clear e2; obtain ⟨e2, e3⟩ := zz
    subst e3
    obtain ⟨v, h1, _⟩ := g.pk e00
    refine ⟨v, h1, hb2 g e1 fun u F1 H1 s1 pu => ?_⟩
    obtain ⟨v', h1', pv⟩ := s1.gs.pk e2
    rw [h1] at h1'
    cases h1'
    exact k v u F1 H1 s1 pv pu
noncomputable def rD (K : PySem.W.Frag) (f : D → D → Option R) : R2 := fun x y H Q => ∃ F d e r, Same F H ∧ PRep K F H x d ∧ PRep K F H y e ∧ f d e = some r ∧ ∀ v F' H', Ext F H F' H' → RepN K F' H' H v r → Q v H'
noncomputable def rD1 (K : PySem.W.Frag) (f : D → Option R) : V → Hp → VK → Prop := fun x H Q => ∃ F d r, Same F H ∧ PRep K F H x d ∧ f d = some r ∧ ∀ v F' H', Ext F H F' H' → RepN K F' H' H v r → Q v H'
theorem sx_op2 {E : Expr} {f : D → D → Option R} {q : P} (hp : ∀ {ta tb}, PE X a ta → PE X b tb → PE X E (tOp (rD X.K f) ta tb)) (ha : SX X c a pa) (hb : SX X c b pb)
    (hq : ∀ ρ, HH.ev c q ρ = (HH.opd2 (isVar pa) (HH.ev c pa) (isVar pb) (HH.ev c pb) ρ).bind fun xy ρ => lift (f xy.1 xy.2) ρ) (hv : isVar q = none) : SX X c E q := by
  obtain ⟨ta, tb, h1, h2, h3⟩ := ha.opd2 hb
  refine ⟨peImp (hp h1 h2) ?_, fun i h => by rw [hv] at h; cases h⟩
  rintro σ H Q ⟨F, ρ, r, ρ', g, e, k⟩
  rw [hq] at e
  obtain ⟨xy, ρ1, e1, e2⟩ := bind_ok e
  have zz := lift_ok e2; clear e2; obtain ⟨e2, e3⟩ := zz
  subst e3
  refine h3 g e1 fun v u F' H' s pv pu => ⟨F', xy.1, xy.2, r, s.gs.sub, pv, pu, e2, fun w F2 H2 x rn => ?_⟩
  exact k w F2 H2 (s.trans (x.stp s.gs)) (.later s (rn.repR s.gs))
theorem sx_op1 {E : Expr} {f : D → Option R} {q : P} (hp : ∀ {ta}, PE X a ta → PE X E (tUn (rD1 X.K f) ta)) (ha : SX X c a pa)
    (hq : ∀ ρ, HH.ev c q ρ = (HH.opd (isVar pa) (HH.ev c pa) ρ).bind fun x ρ => lift (f x) ρ) (hv : isVar q = none) : SX X c E q := by
  obtain ⟨ta, h1, h3⟩ := ha.opd
  refine ⟨peImp (hp h1) ?_, fun i h => by rw [hv] at h; cases h⟩
  rintro σ H Q ⟨F, ρ, r, ρ', g, e, k⟩
  rw [hq] at e
  obtain ⟨x, ρ1, e1, e2⟩ := bind_ok e
  have zz := lift_ok e2; clear e2; obtain ⟨e2, e3⟩ := zz
  subst e3
  refine h3 g e1 fun v F' H' s pv => ⟨F', x, r, s.gs.sub, pv, e2, fun w F2 H2 x rn => ?_⟩
  exact k w F2 H2 (s.trans (x.stp s.gs)) (.later s (rn.repR s.gs))
theorem GS.freeze {K : PySem.W.Frag} {F H : Hp} {ρ : List Sl} {σ : L2.St} {i : Nat} {b : Bool} {ds : List D} (g : GS K F ρ σ H) (e : ρ[i]? = some (.own b ds)) :
    ∃ v F', σ[i]? = some (some v) ∧ Stp K F ρ σ H F' (ρ.set i (.val b (.lst ds))) σ H ∧ Rep K F' v (.lst ds) := by
  obtain ⟨a, xs, h1, h2, h3, h4⟩ := g.own i _ ds e rfl
  have hi : i < ρ.length := (List.getElem?_eq_some_iff.mp e).1
  have sm : Same F (upd F a (.lst xs)) := Same.upd_none h3
  have rp : Rep K (upd F a (.lst xs)) (.ref a) (.lst ds) := by rw [Rep]; exact ⟨a, xs, rfl, SqL.of upd_same, h4.mono sm⟩
  have oa : Own ρ σ a := ⟨i, ⟨_, ds, e, rfl⟩, h1⟩
  have old : ∀ j x, OwnAt (ρ.set i (.val b (.lst ds))) σ j x → OwnAt ρ σ j x ∧ j ≠ i := fun j x ⟨⟨s, ds', q1, q2⟩, q3⟩ => by
    by_cases hj : j = i
    · subst hj; rw [List.getElem?_set_self hi] at q1; cases q1; cases q2
    · rw [List.getElem?_set_ne (Ne.symm hj)] at q1; exact ⟨⟨⟨s, ds', q1, q2⟩, q3⟩, hj⟩
  refine ⟨.ref a, upd F a (.lst xs), h1, ⟨⟨fun x o q => ?_, by simpa using g.len, fun j b' d q => ?_, fun j s ds' q q' => ?_, fun j k x q q' => g.dis j k x (old j x q).1 (old k x q').1⟩, sm, fun x n n' => ?_, fun _ _ q _ => q, fun x ⟨j, q⟩ => .inl ⟨j, (old j x q).1⟩, by simp, fun j s q l => ⟨rfl, ?_⟩⟩, rp⟩
  · by_cases hx : x = a
    · subst hx; rw [upd_same] at q; cases q; exact h2
    · rw [upd_ne hx] at q; exact g.sub x o q
  · by_cases hj : j = i
    · subst hj; rw [List.getElem?_set_self hi] at q; cases q; exact ⟨_, h1, rp⟩
    · rw [List.getElem?_set_ne (Ne.symm hj)] at q
      obtain ⟨v, q1, q2⟩ := g.val j b' d q
      exact ⟨v, q1, q2.mono sm⟩
  · by_cases hj : j = i
    · subst hj; rw [List.getElem?_set_self hi] at q; cases q; cases q'
    · rw [List.getElem?_set_ne (Ne.symm hj)] at q
      obtain ⟨x, ys, q1, q2, q3, q4⟩ := g.own j s ds' q q'
      have hx : x ≠ a := by rintro rfl; exact hj (g.dis j i x ⟨⟨s, ds', q, q'⟩, q1⟩ ⟨⟨_, ds, e, rfl⟩, h1⟩)
      exact ⟨x, ys, q1, q2, by rw [upd_ne hx]; exact q3, q4.mono sm⟩
  · by_cases hx : x = a
    · subst hx; exact .inl oa
    · rw [upd_ne hx] at n'; exact absurd n n'
  · by_cases hj : j = i
    · subst hj
      rw [e] at q; cases q
      refine ⟨_, List.getElem?_set_self hi, ?_⟩
      cases b with
      | true => exact .inr ⟨_, rfl⟩
      | false => cases l
    · exact ⟨s, by rw [List.getElem?_set_ne (Ne.symm hj)]; exact q, .refl s⟩
theorem sx_var {i : Nat} {x : Str} (hN : X.N[i]? = some x) (hv : Vis X.env.scope x) (hd : (x == ("__debug__" : Str)) = false := by decide) (hcd : (x == ("__classdict__" : Str)) = false := by decide) : SX X c (.Name x pos) (.var i) := by
  have h := pe_var (X := X) (pos := pos) hN hv hd hcd
  refine ⟨peImp h ?_, fun j hj => by cases hj; exact h⟩
  rintro σ H Q ⟨F, ρ, r, ρ', g, e, k⟩
  rw [HH.ev] at e
  split at e
  · rename_i b d q
    cases e
    obtain ⟨v, h1, h2⟩ := g.val i b d q
    exact ⟨v, h1, k v F H (.refl g) h2⟩
  · rename_i b ds q
    cases e
    obtain ⟨v, F', h1, h2, h3⟩ := g.freeze q
    exact ⟨v, h1, k v F' H h2 h3⟩
  · cases e
theorem sx_con {d : D} {v : V} (h : PE X e (tC v)) (hr : ∀ F, Rep X.K F v d) : SX X c e (.con d) :=
  ⟨peImp h fun σ H Q ⟨F, ρ, r, ρ', g, e, k⟩ => by rw [HH.ev] at e; cases e; exact k v F H (.refl g) (hr F), fun i h => by cases h⟩
theorem sx_int {i j} : SX X c (.Constant (.int i) j pos) (.con (.int i)) := sx_con pe_int fun F => by rw [Rep]
theorem sx_bl {i j} : SX X c (.Constant (.bool i) j pos) (.con (.bl i)) := sx_con pe_bl fun F => by rw [Rep]
theorem sx_non {j} : SX X c (.Constant .none j pos) (.con .non) := sx_con pe_non fun F => by rw [Rep]
theorem sx_globI {x : Str} {i : Int} {t : Tok} (hg : Gl X x) (hm : X.mg x = some (.int i t)) (hd : (x == ("__debug__" : Str)) = false := by decide) : SX X c (.Name x pos) (.glob x (.int i)) :=
  ⟨peImp (pe_glob (v := .int i) hg hm ⟨t, rfl⟩ hd) fun σ H Q ⟨F, ρ, r, ρ', g, e, k⟩ => by rw [HH.ev] at e; cases e; exact k (.int i) F H (.refl g) (show Rep X.K F (.int i) (.int i) by rw [Rep]), fun i h => by cases h⟩
theorem PRep.int {K : PySem.W.Frag} {F H : Hp} {v : V} {i : Int} (h : PRep K F H v (.int i)) : v = .int i := by
  rcases h with h | ⟨_, _, _, _, _, _, h⟩
  · rw [Rep] at h; exact h
  · cases h
theorem PRep.bl {K : PySem.W.Frag} {F H : Hp} {v : V} {i : Bool} (h : PRep K F H v (.bl i)) : v = .bl i := by
  rcases h with h | ⟨_, _, _, _, _, _, h⟩
  · rw [Rep] at h; exact h
  · cases h
theorem PRep.str {K : PySem.W.Frag} {F H : Hp} {v : V} {i : Str} (h : PRep K F H v (.str i)) : v = .str i := by
  rcases h with h | ⟨_, _, _, _, _, _, h⟩
  · rw [Rep] at h; exact h
  · cases h
theorem PRep.non {K : PySem.W.Frag} {F H : Hp} {v : V} (h : PRep K F H v .non) : v = .non := by
  rcases h with h | ⟨_, _, _, _, _, _, h⟩
  · rw [Rep] at h; exact h
  · cases h
theorem PRep.tup {K : PySem.W.Frag} {F H : Hp} {v : V} {ds : List D} (s : Same F H) (h : PRep K F H v (.tup ds)) : ∃ a xs, v = .ref a ∧ SqT K H a xs ∧ Reps K F xs ds ∧ Rep K F v (.tup ds) := by
  rcases h with h | ⟨_, _, _, _, _, _, h⟩
  · have h' := h
    rw [Rep] at h
    obtain ⟨a, xs, rfl, h1, h2⟩ := h
    exact ⟨a, xs, rfl, Same.seqT s h1, h2, h'⟩
  · cases h
theorem PRep.lst {K : PySem.W.Frag} {F H : Hp} {v : V} {ds : List D} (s : Same F H) (h : PRep K F H v (.lst ds)) : ∃ a xs, v = .ref a ∧ SqL K H a xs ∧ Reps K F xs ds := by
  rcases h with h | ⟨a, xs, es, h1, h2, h3, h⟩
  · rw [Rep] at h
    obtain ⟨a, xs, rfl, h1, h2⟩ := h
    exact ⟨a, xs, rfl, s.seq h1, h2⟩
  · cases h
    exact ⟨a, xs, h1, SqL.of h2, h3⟩
theorem PRep.items {K : PySem.W.Frag} {F H : Hp} {v : V} {d : D} {ds : List D} (s : Same F H) (h : PRep K F H v d) (e : items d = some ds) : ∃ a xs, v = .ref a ∧ (SqL K H a xs ∨ SqT K H a xs) ∧ Reps K F xs ds := by
  cases d with
  | tup es => cases e; obtain ⟨a, xs, h1, h2, h3, _⟩ := h.tup s; exact ⟨a, xs, h1, .inr h2, h3⟩
  | lst es => cases e; obtain ⟨a, xs, h1, h2, h3⟩ := h.lst s; exact ⟨a, xs, h1, .inl h2, h3⟩
  | _ => cases e
theorem RepN.val0 {K : PySem.W.Frag} {F H : Hp} {Q : VK} {v : V} {d : D} (s : Same F H) (r : Rep K F v d) (k : ∀ v F' H', Ext F H F' H' → RepN K F' H' H v (.val d) → Q v H') : Q v H := k v F H (.refl s) r
theorem repInt {K : PySem.W.Frag} {F : Hp} (i : Int) : Rep K F (.int i) (.int i) := by rw [Rep]
theorem repBl {K : PySem.W.Frag} {F : Hp} (i : Bool) : Rep K F (.bl i) (.bl i) := by rw [Rep]
theorem repStr {K : PySem.W.Frag} {F : Hp} (i : Str) : Rep K F (.str i) (.str i) := by rw [Rep]
theorem repNon {K : PySem.W.Frag} {F : Hp} : Rep K F .non .non := by rw [Rep]
theorem newL {K : PySem.W.Frag} {F H : Hp} {Q : VK} {xs : List V} {ds : List D} {p : Addr} (s : Same F H) (r : Reps K F xs ds) (hp : H p = none) (k : ∀ v F' H', Ext F H F' H' → RepN K F' H' H v (.own ds) → Q v H') : Q (.ref p) (upd H p (.lst xs)) := by
  have fp : F p = none := by
    cases q : F p with
    | none => rfl
    | some o => rw [s p o q] at hp; cases hp
  exact k _ F _ ⟨Same.upd_none hp, .refl _, s.trans (Same.upd_none hp), fun _ a b => absurd a b⟩ ⟨p, xs, rfl, upd_same, fp, r, hp⟩
theorem newT {K : PySem.W.Frag} {F H : Hp} {Q : VK} {xs : List V} {ds : List D} {p : Addr} (s : Same F H) (r : Reps K F xs ds) (hp : H p = none) (k : ∀ v F' H', Ext F H F' H' → RepN K F' H' H v (.val (.tup ds)) → Q v H') : Q (.ref p) (upd H p (.tup xs)) := by
  have fp : F p = none := by
    cases q : F p with
    | none => rfl
    | some o => rw [s p o q] at hp; cases hp
  have sm : Same F (upd F p (.tup xs)) := Same.upd_none fp
  refine k _ (upd F p (.tup xs)) _ ⟨Same.upd_none hp, sm, fun b o e => ?_, fun b n n' => ?_⟩ ?_
  · by_cases hb : b = p
    · subst hb; rw [upd_same] at e ⊢; exact e
    · rw [upd_ne hb] at e ⊢; exact s b o e
  · by_cases hb : b = p
    · subst hb; exact hp
    · rw [upd_ne hb] at n'; exact absurd n n'
  · show Rep K _ _ (.tup ds)
    rw [Rep]; exact ⟨p, xs, rfl, SqT.of upd_same, r.mono sm⟩
end
end HH
end
section
set_option linter.all false
set_option Elab.async false
set_option maxRecDepth 10000
namespace HH
open PySem L2 PySem.Spec PyProof.Rows
theorem rmul_declines (k : Int) (t : Tok) (l : Addr) (its : Array Value) (n : Nat) (dd : Option Addr) (sl : Array (Option Value)) :
    Meets (Builtin.«int.__rmul__» ⟨[.int k t, .ref l], []⟩) (fun _ R s => s.heap.get? l = some ⟨.type "list", dd, .seq its n, sl⟩ ∧ R (.ok (.ret Value.notImplemented)) s) :=
  .of_wp fun prog w A R s h => by
    obtain ⟨hp, g, d, tk, os⟩ := s
    obtain ⟨hl, h⟩ := h
    wp_walk
    exact ⟨_, rfl, h⟩
theorem list_mulW (l : Addr) (its : Array Value) (n : Nat) (dd : Option Addr) (sl : Array (Option Value)) (k : Int) (t : Tok) (h0 : ¬(!Builtin.List.listFitsIndex k) = true) (h1 : ¬its.size * k.toNat > (2 ^ 63 - 1) / 8) (h2 : ¬Builtin.List.listTooLong (its.size * k.toNat) = true) :
    Meets (Builtin.«list.__mul__» ⟨[.ref l, .int k t], []⟩) (fun _ R s => s.heap.get? l = some ⟨.type "list", dd, .seq its n, sl⟩ ∧
      R (.ok (.ret (Value.ref s.heap.objs.size))) { s with heap := s.heap.push { cls := .type "list", data := .seq (List.foldl (· ++ ·) #[] (List.replicate (if its.isEmpty = true then 0 else k.toNat) its)) } }) :=
  .of_wp fun prog w A R s h => by
    obtain ⟨hp, g, d, tk, os⟩ := s
    obtain ⟨hl, h⟩ := h
    have hz := AutoListH.joined_fits h2
    wp_walk using wpAny_loadPart' hl
    refine wpAny_ite_false (decide_eq_false (Nat.not_lt.mpr hz)) ?_
    wp_walk
    exact ⟨_, rfl, h⟩
section
variable {X : Cx} {c : Call} {e a b d : Expr} {p pa pb pd : P} {pos : Pos}
theorem op_catL : OpR X (binaryOp .Add) (fun x y H Q => ∃ l b xs zs, x = .ref l ∧ y = .ref b ∧ SqL X.K H l xs ∧ SqL X.K H b zs ∧ xs.length + zs.length ≤ sizeLine ∧ ∀ p, H p = none → Q (.ref p) (upd H p (.lst (xs ++ zs)))) := by
  intro pins s σ H x y v u Q I rx ry h
  obtain ⟨l, b, xs, zs, rfl, rfl, hl, hb, hz, q⟩ := h
  cases rx
  cases ry
  obtain ⟨its, r, pl, _⟩ := I.list hl
  obtain ⟨its2, r2, pl2, _⟩ := I.list hb
  obtain ⟨⟨cls, dd, data, sl⟩, ho, hc, n, hd⟩ := id pl.isList
  obtain ⟨⟨cls2, dd2, data2, sl2⟩, ho2, hc2, n2, hd2⟩ := id pl2.isList
  simp only at hc hd hc2 hd2
  subst hc hd hc2 hd2
  have e : its.toArray ++ its2.toArray = (its ++ its2).toArray := by simp
  refine concat_meets ⟨_, ho, rfl⟩ ⟨_, ho2, rfl⟩ noFill_list_add seq_list_add PySem.F.slot_list_add PySem.F.entry_list_add (PySem.F.args_list_add_2 _ _) (list_addW l b its.toArray its2.toArray n n2 dd dd2 sl sl2 (by simp only [List.size_toArray]; rw [← r.length, ← r2.length]; exact hz)) ⟨ho, ho2, ?_⟩
  rw [e]
  exact ⟨.ref _, _, I.lnew (t' := s.toks) (r.append r2) (by rw [List.length_append]; exact hz), rfl, q _ I.fresh⟩
theorem op_catT0 : OpR X (binaryOp .Add) (fun x y H Q => ∃ a b ys, x = .ref a ∧ y = .ref b ∧ SqT X.K H a [] ∧ SqT X.K H b ys ∧ Q (.ref b) H) := by
  intro pins s σ H x y v u Q I rx ry h
  obtain ⟨a, b, ys, rfl, rfl, ha, hb, q⟩ := h
  cases rx
  cases ry
  obtain ⟨its, r1, p1, _⟩ := I.tuple ha
  obtain ⟨its2, r2, p2, _⟩ := I.tuple hb
  obtain ⟨⟨cls, dd, data, sl⟩, ho, hc, n, hd⟩ := id p1
  obtain ⟨⟨cls2, dd2, data2, sl2⟩, ho2, hc2, n2, hd2⟩ := id p2
  simp only at hc hd hc2 hd2
  subst hc hd hc2 hd2
  have e0 : its = [] := r1.nil_iff.mpr rfl
  subst e0
  exact concat_meets ⟨_, ho, rfl⟩ ⟨_, ho2, rfl⟩ noFill_tuple_add seq_tuple_add PySem.F.slot_tuple_add PySem.F.entry_tuple_add (PySem.F.args_tuple_add_2 _ _)
    (tuple_addW0 a b _ its2.toArray n n2 dd dd2 sl sl2 (by simp)) ⟨ho, ho2, ⟨.ref b, H, I, rfl, q⟩⟩
theorem op_addD : OpR X (binaryOp .Add) (rD X.K (op2 .add)) := by
  rintro pins s σ H x y v u Q I rx ry ⟨F, d, e, r, sm, px, py, he, k⟩
  replace he : opAdd d e = some r := he
  unfold opAdd at he
  split at he
  · cases he
    rw [px.int] at rx; rw [py.int] at ry
    exact op_add pins s σ H _ _ v u Q I rx ry ⟨_, _, rfl, rfl, RepN.val0 sm (repInt _) k⟩
  · rename_i xs ys
    obtain ⟨hl, he⟩ := ite_some he
    subst he
    obtain ⟨a, vs, rfl, ha, ra⟩ := px.lst sm
    obtain ⟨b, us, rfl, hb, rb⟩ := py.lst sm
    exact op_catL pins s σ H _ _ v u Q I rx ry ⟨a, b, vs, us, rfl, rfl, ha, hb, by rw [ra.length, rb.length]; exact hl, fun p hp => newL sm (ra.append rb) hp k⟩
  · rename_i xs ys
    obtain ⟨hl, he⟩ := ite_some he
    subst he
    obtain ⟨a, vs, rfl, ha, ra, ta⟩ := px.tup sm
    obtain ⟨b, us, rfl, hb, rb, tb⟩ := py.tup sm
    by_cases h0 : vs = []
    · subst h0
      have e0 : xs = [] := by have := ra.length; exact List.eq_nil_of_length_eq_zero this.symm
      subst e0
      exact op_catT0 pins s σ H _ _ v u Q I rx ry ⟨a, b, us, rfl, rfl, ha, hb, RepN.val0 sm tb k⟩
    · refine op_catT pins s σ H _ _ v u Q I rx ry ⟨a, b, vs, us, rfl, rfl, ha, hb, h0, by rw [ra.length, rb.length]; exact hl, fun e => ?_, fun _ p hp => newT sm (ra.append rb) hp k⟩
      subst e
      have e0 : ys = [] := by have := rb.length; exact List.eq_nil_of_length_eq_zero this.symm
      subst e0
      rw [List.append_nil] at k
      exact RepN.val0 sm ta k
  · rename_i x1 y1
    obtain ⟨hl, he⟩ := ite_some he
    subst he
    rw [px.str] at rx; rw [py.str] at ry
    exact op_add_str pins s σ H _ _ v u Q I rx ry ⟨_, _, rfl, rfl, hl, RepN.val0 sm (repStr _) k⟩
  · cases he
theorem op_subD : OpR X (binaryOp .Sub) (rD X.K (op2 .sub)) := by
  rintro pins s σ H x y v u Q I rx ry ⟨F, d, e, r, sm, px, py, he, k⟩
  replace he : opSub d e = some r := he
  unfold opSub at he
  split at he
  · cases he
    rw [px.int] at rx; rw [py.int] at ry
    exact op_sub pins s σ H _ _ v u Q I rx ry ⟨_, _, rfl, rfl, RepN.val0 sm (repInt _) k⟩
  · cases he
theorem op_repL : OpR X (binaryOp .Mult) (fun x y H Q => ∃ l k xs, x = .ref l ∧ y = .int k ∧ SqL X.K H l xs ∧ -(2 ^ 63) ≤ k ∧ k < 2 ^ 63 ∧ xs.length * k.toNat ≤ sizeLine ∧ ∀ p, H p = none → Q (.ref p) (upd H p (.lst (List.replicate k.toNat xs).flatten))) := by
  intro pins s σ H x y v u Q I rx ry h
  obtain ⟨l, k, xs, rfl, rfl, hl, h1, h2, hz, q⟩ := h
  cases rx
  obtain ⟨t, rfl⟩ := ry
  obtain ⟨its, r, pl, _⟩ := I.list hl
  obtain ⟨⟨cls, dd, data, sl⟩, ho, hc, n, hd⟩ := id pl.isList
  simp only at hc hd
  subst hc hd
  have hlen : its.toArray.size * k.toNat ≤ sizeLine := by rw [List.size_toArray, ← r.length]; exact hz
  have hcap : ¬ its.toArray.size * k.toNat > (2 ^ 63 - 1) / 8 := by
    have : (sizeLine : Nat) ≤ (2 ^ 63 - 1) / 8 := by decide
    omega
  have hnew : List.foldl (· ++ ·) #[] (List.replicate (if its.toArray.isEmpty = true then 0 else k.toNat) its.toArray) = (List.replicate k.toNat its).flatten.toArray := by
    have f0 : ∀ m : Nat, List.foldl (· ++ ·) #[] (List.replicate m its.toArray) = (List.replicate m its).flatten.toArray := fun m => by
      have := foldl_rep its m []
      rw [List.nil_append] at this
      exact this
    rw [f0]
    cases its with
    | nil => simp
    | cons a r' => rw [if_neg (by simp)]
  refine wpAny_binaryOp_repeat_ref (T := "list") (U := "int") (by decide) ⟨_, ho, rfl⟩ (fun s' => typeIs_int s' k t) noFill_list_mul F.fills_int_mul F.slot_int_rmul repeat_list F.slot_int_index.lookup ?_
  refine call_meets F.slot_int_rmul (typeIs_int s k t) F.entry_int_rmul (F.args_int_rmul_2 _ _) (rmul_declines k t l its.toArray n dd sl) ⟨ho, rfl, ⟨_, ho, rfl⟩, ?_⟩
  refine call_meets F.slot_list_mul ⟨_, ho, rfl⟩ F.entry_list_mul (F.args_list_mul_2 _ _) (list_mulW l its.toArray n dd sl k t (by rw [fitsIndex_both h1 h2]; exact Bool.false_ne_true) hcap (by rw [notLongL hlen]; exact Bool.false_ne_true)) ⟨ho, ?_⟩
  rw [hnew]
  exact ⟨.ref _, _, I.lnew (t' := s.toks) (r.rep k.toNat) (by rw [len_rep, Nat.mul_comm]; exact hz), rfl, q _ I.fresh⟩
theorem noFill_tuple_mul : fillsNumberSlot (.type "tuple") "mul" = pure false :=
  PySem.fillsNumberSlot_seq (id := "tuple.__mul__") (r := some (.builtin "tuple.__rmul__")) PySem.F.slot_tuple_mul.lookup (by decide +kernel) PySem.F.slot_tuple_rmul.lookup (by decide +kernel)
theorem repeat_tuple : seqRepeat? (.type "tuple") = pure (some (.builtin "tuple.__mul__")) := by
  unfold seqRepeat?
  rw [PySem.seqSlot_of (T := "tuple") (name := "__mul__") (id := "tuple.__mul__") PySem.F.slot_tuple_mul.lookup (by decide +kernel), PySem.seqSlot_of (T := "tuple") (name := "__rmul__") (id := "tuple.__rmul__") PySem.F.slot_tuple_rmul.lookup (by decide +kernel)]
  rfl
theorem rmul_declinesT (k : Int) (t : Tok) (l : Addr) (its : Array Value) (n : Nat) (dd : Option Addr) (sl : Array (Option Value)) :
    Meets (Builtin.«int.__rmul__» ⟨[.int k t, .ref l], []⟩) (fun _ R s => s.heap.get? l = some ⟨.type "tuple", dd, .seq its n, sl⟩ ∧ R (.ok (.ret Value.notImplemented)) s) :=
  .of_wp fun prog w A R s h => by
    obtain ⟨hp, g, d, tk, os⟩ := s
    obtain ⟨hl, h⟩ := h
    wp_walk
    exact ⟨_, rfl, h⟩
theorem tuple_mulW (l : Addr) (its : Array Value) (n : Nat) (dd : Option Addr) (sl : Array (Option Value)) (k : Int) (t : Tok) (h0 : 0 ≤ k) (h1 : k < 2 ^ 63) (hz : its.size * k.toNat ≤ sizeLine) (hne : 0 < its.size) :
    Meets (Builtin.«tuple.__mul__» ⟨[.ref l, .int k t], []⟩) (fun _ R s => s.heap.get? l = some ⟨.type "tuple", dd, .seq its n, sl⟩ ∧
      (k = 1 → R (.ok (.ret (Value.ref l))) s) ∧ (k ≠ 1 → R (.ok (.ret (Value.ref s.heap.objs.size))) { s with heap := s.heap.push { cls := .type "tuple", data := .seq (List.foldl (· ++ ·) #[] (List.replicate k.toNat its)) } })) :=
  .of_wp fun prog w A R s h => by
    obtain ⟨hp, g, d, tk, os⟩ := s
    obtain ⟨hl, q1, q2⟩ := h
    have hem : its.isEmpty = false := by cases e : its.isEmpty with | false => rfl | true => rw [Array.isEmpty_iff_size_eq_zero] at e; omega
    show wpAny _ _ (asIndex (.int k t) >>= _) _ _ _
    wp_walk using wpAny_loadPart' hl
    have hI : IsTup hp l its := ⟨_, hl, rfl, n, rfl⟩
    rw [if_neg (by simp; omega)]
    refine wpAny_bind (PyProof.Rows.tupleItemsOf_ hI ?_)
    try dsimp only
    by_cases e1 : k = 1
    · rw [if_pos (by simp [e1])]
      wp_walk using wpAny_loadPart' hl
      exact ⟨_, rfl, q1 e1⟩
    · have q := q2 e1
      rw [if_neg (by simp [hem, e1])]
      by_cases e0 : k = 0
      · subst e0
        rw [if_pos (by simp)]
        unfold Builtin.Tuple.tupleExact
        refine wpAny_bind (wpAny_newObj_type ?_)
        exact wpAny_pure ⟨_, rfl, q⟩
      · have hb : (its.size : Int) * k ≤ sizeLine := by
          have : ((its.size * k.toNat : Nat) : Int) ≤ (sizeLine : Nat) := by exact_mod_cast hz
          rw [Int.natCast_mul, show ((k.toNat : Nat) : Int) = k by omega] at this
          exact this
        have hs2 : (sizeLine : Int) ≤ (2 ^ 63 - 1) / 8 := by decide
        rw [if_neg (by simp [hem]; omega), if_neg (by omega), if_neg (by simp [Builtin.Tuple.tupleTooMany]; omega)]
        unfold Builtin.Tuple.tupleExact
        refine wpAny_bind (wpAny_newObj_type ?_ ?_)
        · exact wpAny_pure ⟨_, rfl, q⟩
        · have := foldl_rep its.toList k.toNat []
          rw [List.nil_append, show its.toList.toArray = its by simp] at this
          show (List.foldl (· ++ ·) #[] (List.replicate k.toNat its)).size ≤ sizeLine
          rw [show (#[] : Array Value) = ([] : List Value).toArray from rfl, this, List.size_toArray, len_rep, Array.length_toList, Nat.mul_comm]
          exact hz
theorem op_repT : OpR X (binaryOp .Mult) (fun x y H Q => ∃ l k xs, x = .ref l ∧ y = .int k ∧ SqT X.K H l xs ∧ 0 < xs.length ∧ 0 ≤ k ∧ k < 2 ^ 63 ∧ xs.length * k.toNat ≤ sizeLine ∧ (k = 1 → Q (.ref l) H) ∧ (k ≠ 1 → ∀ p, H p = none → Q (.ref p) (upd H p (.tup (List.replicate k.toNat xs).flatten)))) := by
  intro pins s σ H x y v u Q I rx ry h
  obtain ⟨l, k, xs, rfl, rfl, hl, hne, h1, h2, hz, qa, qb⟩ := h
  cases rx
  obtain ⟨t, rfl⟩ := ry
  obtain ⟨its, r, pl, _⟩ := I.tuple hl
  obtain ⟨⟨cls, dd, data, sl⟩, ho, hc, n, hd⟩ := id pl
  simp only at hc hd
  subst hc hd
  have hlen : its.toArray.size * k.toNat ≤ sizeLine := by rw [List.size_toArray, ← r.length]; exact hz
  have hnew : List.foldl (· ++ ·) #[] (List.replicate k.toNat its.toArray) = (List.replicate k.toNat its).flatten.toArray := by
    have := foldl_rep its k.toNat []
    rw [List.nil_append] at this
    exact this
  refine wpAny_binaryOp_repeat_ref (T := "tuple") (U := "int") (by decide) ⟨_, ho, rfl⟩ (fun s' => typeIs_int s' k t) noFill_tuple_mul F.fills_int_mul F.slot_int_rmul repeat_tuple F.slot_int_index.lookup ?_
  refine call_meets F.slot_int_rmul (typeIs_int s k t) F.entry_int_rmul (F.args_int_rmul_2 _ _) (rmul_declinesT k t l its.toArray n dd sl) ⟨ho, rfl, ⟨_, ho, rfl⟩, ?_⟩
  refine call_meets PySem.F.slot_tuple_mul ⟨_, ho, rfl⟩ PySem.F.entry_tuple_mul (PySem.F.args_tuple_mul_2 _ _) (tuple_mulW l its.toArray n dd sl k t h1 h2 hlen (by rw [List.size_toArray, ← r.length]; exact hne)) ⟨ho, fun e => ⟨.ref l, H, I, rfl, qa e⟩, fun e => ?_⟩
  rw [hnew]
  refine ⟨.ref s.heap.objs.size, _, I.laid (t' := s.toks) (o := .tup (List.replicate k.toNat xs).flatten) (fun b ob q => Heap.get?_push_of_some _ q) (Nat.le_refl _) ?_, rfl, qb e _ (I.hok.fresh (Nat.le_refl _))⟩
  exact ⟨by rw [len_rep, Nat.mul_comm]; exact hz, _, r.rep k.toNat, IsTup.new _ _⟩
theorem op_mulD : OpR X (binaryOp .Mult) (rD X.K (op2 .mul)) := by
  rintro pins s σ H x y v u Q I rx ry ⟨F, d, e, r, sm, px, py, he, k⟩
  replace he : opMul d e = some r := he
  unfold opMul at he
  split at he
  · obtain ⟨hc, he⟩ := ite_some he
    subst he
    rw [px.int] at rx; rw [py.int] at ry
    exact op_mul pins s σ H _ _ v u Q I rx ry ⟨_, _, rfl, rfl, hc, RepN.val0 sm (repInt _) k⟩
  · rename_i xs i
    obtain ⟨⟨h1, h2, h3⟩, he⟩ := ite_some he
    subst he
    obtain ⟨a, vs, rfl, ha, ra⟩ := px.lst sm
    rw [py.int] at ry
    have hk : i < 2 ^ 63 := by
      have h4 := Nat.le_mul_of_pos_left i.toNat h2
      have h5 : i.toNat ≤ 16777216 := Nat.le_trans h4 h3
      omega
    exact op_repL pins s σ H _ _ v u Q I rx ry ⟨a, i, vs, rfl, rfl, ha, by omega, hk, by rw [ra.length]; exact h3, fun p hp => newL sm (ra.rep i.toNat) hp k⟩
  · rename_i xs i
    obtain ⟨⟨h1, h2, h3⟩, he⟩ := ite_some he
    subst he
    obtain ⟨a, vs, rfl, ha, ra, rr⟩ := px.tup sm
    rw [py.int] at ry
    have hk : i < 2 ^ 63 := by
      have h4 := Nat.le_mul_of_pos_left i.toNat h2
      have h5 : i.toNat ≤ 16777216 := Nat.le_trans h4 h3
      omega
    refine op_repT pins s σ H _ _ v u Q I rx ry ⟨a, i, vs, rfl, rfl, ha, by rw [ra.length]; exact h2, h1, hk, by rw [ra.length]; exact h3, fun e => ?_, fun e p hp => newT sm (ra.rep i.toNat) hp k⟩
    subst e
    refine RepN.val0 sm ?_ k
    have e1 : (List.replicate (1 : Int).toNat xs).flatten = xs := by simp
    rw [e1]
    exact rr
  · cases he
theorem op_fdivD : OpR X (binaryOp .FloorDiv) (rD X.K (op2 .fdiv)) := by
  rintro pins s σ H x y v u Q I rx ry ⟨F, d, e, r, sm, px, py, he, k⟩
  replace he : opFdiv d e = some r := he
  unfold opFdiv at he
  split at he
  · rename_i i j
    obtain ⟨⟨h1, h2⟩, he⟩ := ite_some he
    subst he
    rw [px.int] at rx; rw [py.int] at ry
    obtain ⟨t, rfl⟩ := rx
    obtain ⟨t', rfl⟩ := ry
    have hl : j.natAbs.log2 < 9000 := by
      have : j.natAbs < 2 ^ 200 := by
        have : (2 : Nat) ^ 200 = 1606938044258990275541962092341162602522202993782792835301376 := by decide
        omega
      have h3 := (Nat.log2_lt (by omega)).mpr this
      omega
    exact floordiv_int (by omega) (by rw [Int.fdiv_eq_ediv_of_nonneg i (by omega)]; exact ⟨.int _, H, I.tok _, ⟨_, rfl⟩, RepN.val0 sm (repInt _) k⟩) (.inl (PyProof.noPylong_of_log2 hl))
  · cases he
theorem op_modD : OpR X (binaryOp .Mod) (rD X.K (op2 .mod)) := by
  rintro pins s σ H x y v u Q I rx ry ⟨F, d, e, r, sm, px, py, he, k⟩
  replace he : opMod d e = some r := he
  unfold opMod at he
  split at he
  · obtain ⟨h1, he⟩ := ite_some he
    subst he
    rw [px.int] at rx; rw [py.int] at ry
    exact op_mod pins s σ H _ _ v u Q I rx ry ⟨_, _, rfl, rfl, h1, RepN.val0 sm (repInt _) k⟩
  · cases he
theorem op_powD : OpR X (binaryOp .Pow) (rD X.K (op2 .pow)) := by
  rintro pins s σ H x y v u Q I rx ry ⟨F, d, e, r, sm, px, py, he, k⟩
  replace he : opPow d e = some r := he
  unfold opPow at he
  split at he
  · obtain ⟨⟨h1, h2, h3⟩, he⟩ := ite_some he
    subst he
    rw [px.int] at rx; rw [py.int] at ry
    exact op_pow pins s σ H _ _ v u Q I rx ry ⟨_, _, rfl, rfl, ⟨h1, by omega, h3⟩, RepN.val0 sm (repInt _) k⟩
  · cases he
theorem sx_bin {o : Op} {op : Operator} (ho : OpR X (binaryOp op) (rD X.K (op2 o))) (ha : SX X c a pa) (hb : SX X c b pb) : SX X c (.BinOp a op b pos) (.bin o pa pb) :=
  sx_op2 (fun h1 h2 => pe_op ho h1 h2) ha hb (fun ρ => by rw [HH.ev]) rfl
theorem sx_neg (ha : SX X c a pa) : SX X c (.UnaryOp .USub a pos) (.neg pa) := by
  refine sx_op1 (f := negR) (fun h1 => pe_un ?_ h1) ha (fun ρ => by rw [HH.ev]) rfl
  rintro pins s σ H x v Q I rx ⟨F, d, r, sm, px, he, k⟩
  unfold negR at he
  obtain ⟨i, e1, e2⟩ := map_some he
  subst e2
  cases d <;> cases e1
  rw [px.int] at rx
  exact un_neg pins s σ H _ v Q I rx ⟨_, rfl, RepN.val0 sm (repInt _) k⟩
theorem op_cmI {op : CmpOp} {f : Int → Int → Bool} (ho : OpR X (compareOp op) (rI0 fun i j => .bl (f i j))) {o : Cm} (hc : cm o = cmI f) : OpR X (compareOp op) (rD X.K (cmR o)) := by
  rintro pins s σ H x y v u Q I rx ry ⟨F, d, e, r, sm, px, py, he, k⟩
  unfold cmR at he
  rw [hc] at he
  obtain ⟨t, e1, e2⟩ := map_some he
  subst e2
  unfold cmI at e1
  split at e1
  · cases e1
    rw [px.int] at rx; rw [py.int] at ry
    exact ho pins s σ H _ _ v u Q I rx ry ⟨_, _, rfl, rfl, RepN.val0 sm (repBl _) k⟩
  · cases e1
theorem op_ltD : OpR X (compareOp .Lt) (rD X.K (cmR .lt)) := op_cmI op_lt rfl
theorem op_leD : OpR X (compareOp .LtE) (rD X.K (cmR .le)) := op_cmI op_le rfl
theorem op_gtD : OpR X (compareOp .Gt) (rD X.K (cmR .gt)) := op_cmI op_gt rfl
theorem op_geD : OpR X (compareOp .GtE) (rD X.K (cmR .ge)) := op_cmI op_ge rfl
theorem isNon_iff {K : PySem.W.Frag} {F H : Hp} {v : V} {d : D} (h : PRep K F H v d) : decide (v = .non) = isNon d := by
  cases d with
  | non => rw [h.non]; rfl
  | bl _ => rw [h.bl]; rfl
  | int _ => rw [h.int]; rfl
  | str _ => rw [h.str]; rfl
  | tup _ =>
    rcases h with h | ⟨a, _, _, rfl, _⟩
    · rw [Rep] at h; obtain ⟨a, _, rfl, _⟩ := h; rfl
    · rfl
  | lst _ =>
    rcases h with h | ⟨a, _, _, rfl, _⟩
    · rw [Rep] at h; obtain ⟨a, _, rfl, _⟩ := h; rfl
    · rfl
theorem op_isD : OpR X (compareOp .Is) (rD X.K (cmR .isN)) := by
  rintro pins s σ H x y v u Q I rx ry ⟨F, d, e, r, sm, px, py, he, k⟩
  obtain ⟨t, e1, e2⟩ := map_some (show (cmN false d e).map _ = some r from he)
  subst e2
  unfold cmN at e1
  split at e1
  · cases e1
    exact op_isN pins s σ H x y v u Q I rx ry ⟨py.non, by rw [isNon_iff px]; exact RepN.val0 sm (repBl _) k⟩
  · cases e1
theorem op_notD : OpR X (compareOp .IsNot) (rD X.K (cmR .notN)) := by
  rintro pins s σ H x y v u Q I rx ry ⟨F, d, e, r, sm, px, py, he, k⟩
  obtain ⟨t, e1, e2⟩ := map_some (show (cmN true d e).map _ = some r from he)
  subst e2
  unfold cmN at e1
  split at e1
  · cases e1
    exact op_notN pins s σ H x y v u Q I rx ry ⟨py.non, by rw [isNon_iff px]; exact RepN.val0 sm (repBl _) k⟩
  · cases e1
theorem sx_cmp {o : Cm} {op : CmpOp} (ho : OpR X (compareOp op) (rD X.K (cmR o))) (ha : SX X c a pa) (hb : SX X c b pb) (hm : behindInMarks op b = false) : SX X c (.Compare a [op] [b] pos) (.cmp o pa pb) :=
  sx_op2 (fun h1 h2 => pe_cmpR ho h1 h2 hm) ha hb (fun ρ => by rw [HH.ev]) rfl
end
end HH
end
section
set_option linter.all false
set_option Elab.async false
set_option maxRecDepth 10000
namespace HH
open PySem L2 PySem.Spec PyProof.Rows
section
variable {X : Cx} {c : Call} {e a b d : Expr} {p pa pb pd : P} {pos : Pos} {rest : List Expr}
theorem asB_some {x : D} {k : Bool} (h : asB x = some k) : x = .bl k := by cases x <;> cases h; rfl
theorem asI_some {x : D} {k : Int} (h : asI x = some k) : x = .int k := by cases x <;> cases h; rfl
theorem RepR.bool {K : PySem.W.Frag} {F' H' H : Hp} {ρ' ρ : List Sl} {σ' σ : L2.St} {v : V} {r : R} {k : Bool} (h : RepR K F' ρ' σ' H' ρ σ H v r) (e : r.d = .bl k) : v = .bl k := by
  cases r with
  | val d => cases (show d = .bl k from e); have h : Rep K F' v (.bl k) := h; rw [Rep] at h; exact h
  | own ds => cases e
noncomputable def ST (X : Cx) (c : Call) (e : Expr) (p : P) : Prop := PT X e (tTr X.K (tru (HH.ev c p)))
noncomputable def SW (X : Cx) (c : Call) (e : Expr) (p : P) : Prop := PW X e (tTr X.K (tru (HH.ev c p)))
theorem SW.st (h : SW X c e p) : ST X c e p := PW.pt h
theorem tTr_of {t : TE} {Q : Bool → Hp → Prop} {σ : L2.St} {H : Hp} (hi : ∀ Q, tEv X.K (HH.ev c p) σ H Q → t σ H Q) (h : tTr X.K (tru (HH.ev c p)) σ H Q) : t σ H fun x H1 => ∃ k, x = .bl k ∧ Q k H1 := by
  obtain ⟨F, ρ, k, ρ', g, e, q⟩ := h
  obtain ⟨r, ρ1, e1, e2⟩ := bind_ok e
  have zz := lift_ok e2; clear e2; obtain ⟨e2, e3⟩ := zz
  subst e3
  exact hi _ ⟨F, ρ, r, ρ1, g, e1, fun v F' H' s rr => ⟨k, rr.bool (asB_some e2), q F' H' s⟩⟩
theorem st_val (h : SX X c e p) (he : ∀ whole, isTrue e X.env whole = (do let v ← whole; standAt e.pos; holding [v] (truthy v)) := by intro _; rfl) : ST X c e p :=
  ptImp (pt_val h.ev he) fun σ H Q q => tTr_of (fun _ z => z) q
theorem st_cmp {o : Cm} {op : CmpOp} (ho : OpR X (compareOp op) (rD X.K (cmR o))) (ha : SX X c a pa) (hb : SX X c b pb) (hm : behindInMarks op b = false) : ST X c (.Compare a [op] [b] pos) (.cmp o pa pb) := by
  obtain ⟨ta, tb, h1, h2, h3⟩ := ha.opd2 hb
  refine ptImp (pt_cmpR ho h1 h2 hm) fun σ H Q q => tTr_of (t := tOp (rD X.K (cmR o)) ta tb) (fun Q z => ?_) q
  obtain ⟨F, ρ, r, ρ', g, e, k⟩ := z
  rw [HH.ev] at e
  obtain ⟨xy, ρ1, e1, e2⟩ := bind_ok e
  have zz := lift_ok e2; clear e2; obtain ⟨e2, e3⟩ := zz
  subst e3
  refine h3 g e1 fun v u F' H' s pv pu => ⟨F', xy.1, xy.2, r, s.gs.sub, pv, pu, e2, fun w F2 H2 x rn => ?_⟩
  exact k w F2 H2 (s.trans (x.stp s.gs)) (.later s (rn.repR s.gs))
theorem st_not (ha : ST X c a pa) : ST X c (.UnaryOp .Not a pos) (.not pa) := by
  refine ptImp (pt_not ha) ?_
  rintro σ H Q ⟨F, ρ, k, ρ', g, e, q⟩
  unfold tru at e
  rw [HH.ev] at e
  obtain ⟨r, ρ1, e1, e2⟩ := bind_ok e
  obtain ⟨k', ρ2, e3, e4⟩ := bind_ok e1
  cases e4
  have zz := lift_ok e2; clear e2; obtain ⟨e2, e5⟩ := zz
  subst e5
  have e2 : (!k') = k := by cases e2; rfl
  exact ⟨F, ρ, k', _, g, e3, fun F' H' s => by show Q (!k') H'; rw [e2]; exact q F' H' s⟩
theorem tru_and (ρ : List Sl) : tru (HH.ev c (.and pa pb)) ρ = (tru (HH.ev c pa) ρ).bind fun x ρ => if x then tru (HH.ev c pb) ρ else .ok false ρ := by
  unfold tru
  rw [HH.ev]
  unfold tru
  cases HH.ev c pa ρ with
  | exc _ _ => rfl
  | stuck => rfl
  | ok r ρ1 =>
    simp only [Res.bind]
    cases h : asB r.d with
    | none => rfl
    | some k =>
      cases k with
      | false => rfl
      | true =>
        simp only [lift, if_true]
        cases HH.ev c pb ρ1 with
        | exc _ _ => rfl
        | stuck => rfl
        | ok r2 ρ2 =>
          simp only [Res.bind]
          cases h2 : asB r2.d with
          | none => rfl
          | some k2 => rfl
theorem tru_or (ρ : List Sl) : tru (HH.ev c (.or pa pb)) ρ = (tru (HH.ev c pa) ρ).bind fun x ρ => if x then .ok true ρ else tru (HH.ev c pb) ρ := by
  unfold tru
  rw [HH.ev]
  unfold tru
  cases HH.ev c pa ρ with
  | exc _ _ => rfl
  | stuck => rfl
  | ok r ρ1 =>
    simp only [Res.bind]
    cases h : asB r.d with
    | none => rfl
    | some k =>
      cases k with
      | true => rfl
      | false =>
        simp only [lift, Bool.false_eq_true, if_false]
        cases HH.ev c pb ρ1 with
        | exc _ _ => rfl
        | stuck => rfl
        | ok r2 ρ2 =>
          simp only [Res.bind]
          cases h2 : asB r2.d with
          | none => rfl
          | some k2 => rfl
theorem sw_and1 (ha : ST X c a pa) : SW X c (.BoolOp .And [a] pos) pa := pw_and1 ha
theorem sw_or1 (ha : ST X c a pa) : SW X c (.BoolOp .Or [a] pos) pa := pw_or1 ha
theorem sw_and (ha : ST X c a pa) (hb : SW X c (.BoolOp .And (b :: rest) pos) pb) : SW X c (.BoolOp .And (a :: b :: rest) pos) (.and pa pb) := by
  refine pwImp (pw_and ha hb) ?_
  rintro σ H Q ⟨F, ρ, k, ρ', g, e, q⟩
  rw [tru_and] at e
  obtain ⟨x, ρ1, e1, e⟩ := bind_ok e
  refine ⟨F, ρ, x, ρ1, g, e1, fun F1 H1 s1 => ?_⟩
  cases x with
  | true =>
    rw [if_pos rfl] at e ⊢
    exact ⟨F1, ρ1, k, ρ', s1.gs, e, fun F2 H2 s2 => q F2 H2 (s1.trans s2)⟩
  | false =>
    rw [if_neg Bool.false_ne_true] at e ⊢
    cases e
    exact q F1 H1 s1
theorem sw_or (ha : ST X c a pa) (hb : SW X c (.BoolOp .Or (b :: rest) pos) pb) : SW X c (.BoolOp .Or (a :: b :: rest) pos) (.or pa pb) := by
  refine pwImp (pw_or ha hb) ?_
  rintro σ H Q ⟨F, ρ, k, ρ', g, e, q⟩
  rw [tru_or] at e
  obtain ⟨x, ρ1, e1, e⟩ := bind_ok e
  refine ⟨F, ρ, x, ρ1, g, e1, fun F1 H1 s1 => ?_⟩
  cases x with
  | true =>
    rw [if_pos rfl] at e ⊢
    cases e
    exact q F1 H1 s1
  | false =>
    rw [if_neg Bool.false_ne_true] at e ⊢
    exact ⟨F1, ρ1, k, ρ', s1.gs, e, fun F2 H2 s2 => q F2 H2 (s1.trans s2)⟩
theorem sx_oneV {op} (ha : SX X c a pa) : PE X (.BoolOp op [a] pos) (tEv X.K (HH.ev c pa)) := pe_one ha.ev
theorem sx_and (ha : SX X c a pa) (hb : PE X (.BoolOp .And (b :: rest) pos) (tEv X.K (HH.ev c pb))) : SX X c (.BoolOp .And (a :: b :: rest) pos) (.and pa pb) := by
  refine ⟨peImp (pe_and ha.ev hb) ?_, fun i h => by cases h⟩
  rintro σ H Q ⟨F, ρ, r, ρ', g, e, k⟩
  rw [HH.ev] at e
  obtain ⟨x, ρ1, e1, e⟩ := bind_ok e
  refine tTr_of (c := c) (fun _ z => z) (Q := fun x H1 => if x = true then tEv X.K (HH.ev c pb) σ H1 Q else Q (.bl false) H1) ⟨F, ρ, x, ρ1, g, e1, fun F1 H1 s1 => ?_⟩
  cases x with
  | true =>
    rw [if_pos rfl] at e ⊢
    obtain ⟨y, ρ2, e2, e3⟩ := bind_ok e
    cases e3
    obtain ⟨r2, ρ3, e4, e5⟩ := bind_ok e2
    have zz := lift_ok e5; clear e5; obtain ⟨e5, e6⟩ := zz
    subst e6
    refine ⟨F1, ρ1, r2, _, s1.gs, e4, fun v F2 H2 s2 rr => ?_⟩
    rw [rr.bool (asB_some e5)]
    exact k _ F2 H2 (s1.trans s2) (show Rep X.K F2 _ _ from repBl _)
  | false =>
    rw [if_neg Bool.false_ne_true] at e ⊢
    cases e
    exact k _ F1 H1 s1 (show Rep X.K F1 _ _ from repBl _)
theorem evs_len : ∀ {ps : List P} {ρ ρ' : List Sl} {ds : List D}, evs c ps ρ = .ok ds ρ' → ds.length = ps.length
  | [], _, _, _, h => by rw [evs] at h; cases h; rfl
  | p :: ps, _, _, _, h => by
    rw [evs] at h
    obtain ⟨r, ρ1, _, h⟩ := bind_ok h
    obtain ⟨xs, ρ2, h2, h⟩ := bind_ok h
    cases h
    simp [evs_len h2]
theorem sa_nil : SA X c [] [] := ⟨paImp pa_nil fun σ H Q ⟨F, ρ, ds, ρ', g, e, k⟩ => by rw [evs] at e; cases e; exact k [] F H (.refl g) .nil, rfl⟩
theorem sa_cons {es : List Expr} {ps : List P} (ha : SX X c a pa) (hr : SA X c es ps) (hs : starEach (a :: es) X.env = (false, eval a X.env) :: starEach es X.env := by rfl) : SA X c (a :: es) (pa :: ps) := by
  refine ⟨paImp (pa_cons ha.ev hr.1 hs) ?_, by simp [hr.2]⟩
  rintro σ H Q ⟨F, ρ, ds, ρ', g, e, k⟩
  rw [evs] at e
  obtain ⟨r, ρ1, e1, e⟩ := bind_ok e
  obtain ⟨xs, ρ2, e2, e⟩ := bind_ok e
  cases e
  refine ⟨F, ρ, r, ρ1, g, e1, fun v F' H' s rr => ?_⟩
  obtain ⟨F1, s1, _, rp⟩ := s.frz rr
  refine ⟨F1, ρ1, xs, _, s1.gs, e2, fun vs F2 H2 s2 rs => ?_⟩
  exact k _ F2 H2 (s1.trans s2) (.cons (rp.mono s2.fsub) rs)
theorem Ext.rep_tup {K : PySem.W.Frag} {F H : Hp} {ρ ρ' : List Sl} {σ : L2.St} {H0 F0 : Hp} {Q : VK} {xs : List V} {ds : List D} (s : Stp K F0 ρ σ H0 F ρ' σ H) (r : Reps K F xs ds)
    (k : ∀ v F' H', Stp K F0 ρ σ H0 F' ρ' σ H' → RepR K F' ρ' σ H' ρ σ H0 v (.val (.tup ds)) → Q v H') (p : Addr) (hp : H p = none) : Q (.ref p) (upd H p (.tup xs)) :=
  newT s.gs.sub r hp fun v F' H' x rn => k v F' H' (s.trans (x.stp s.gs)) rn
theorem sx_tup {es : List Expr} {ps : List P} {x1} (h : SA X c es ps) (hz : ps.length ≤ sizeLine := by decide) : SX X c (.Tuple es x1 pos) (.tup ps) := by
  refine ⟨peImp (pe_tup h.1) ?_, fun i h => by cases h⟩
  rintro σ H Q ⟨F, ρ, r, ρ', g, e, k⟩
  rw [HH.ev] at e
  obtain ⟨ds, ρ1, e1, e⟩ := bind_ok e
  cases e
  exact ⟨F, ρ, ds, _, g, e1, fun vs F' H' s rs => ⟨by rw [rs.length, evs_len e1]; exact hz, fun p hp => Ext.rep_tup s rs k p hp⟩⟩
theorem sx_lst {es : List Expr} {ps : List P} (h : SA X c es ps) (hz : ps.length ≤ sizeLine := by decide) : SX X c (.List es pos) (.lst ps) := by
  refine ⟨peImp (pe_lst h.1) ?_, fun i h => by cases h⟩
  rintro σ H Q ⟨F, ρ, r, ρ', g, e, k⟩
  rw [HH.ev] at e
  obtain ⟨ds, ρ1, e1, e⟩ := bind_ok e
  cases e
  exact ⟨F, ρ, ds, _, g, e1, fun vs F' H' s rs => ⟨by rw [rs.length, evs_len e1]; exact hz, fun p hp => newL s.gs.sub rs hp fun v F2 H2 x rn => k v F2 H2 (s.trans (x.stp s.gs)) (.later s (rn.repR s.gs))⟩⟩
theorem at_get {ds : List D} {i : Int} {d : D} (h : at' ds i = some d) : ∃ j, L2.ixN ds.length i = some j ∧ ds[j]? = some d := bindO h
theorem ix_D : IxR X (rD X.K ixR) := by
  rintro value slice pins s σ H x y v u Q I rx ry ⟨F, d, e, r, sm, px, py, he, k⟩ hs
  unfold ixR at he
  obtain ⟨ds, e1, he⟩ := bindO he
  obtain ⟨i, e2, he⟩ := bindO he
  obtain ⟨z, e3, he⟩ := map_some he
  subst he
  cases asI_some e2
  rw [py.int] at ry
  obtain ⟨p, xs, rfl, hq, rs⟩ := px.items sm e1
  obtain ⟨j, h1, h2⟩ := at_get e3
  obtain ⟨w, h3, h4⟩ := rs.get h2
  have hat : atI xs i = some w := by unfold atI; rw [rs.length, h1]; exact h3
  rcases hq with hq | hq
  · exact ix_list value slice pins s σ H _ _ v u Q I rx ry ⟨p, xs, i, w, rfl, rfl, hq, hat, RepN.val0 sm h4 k⟩ hs
  · exact ix_tup value slice pins s σ H _ _ v u Q I rx ry ⟨p, xs, i, w, rfl, rfl, hq, hat, RepN.val0 sm h4 k⟩ hs
theorem sx_idx (ha : SX X c a pa) (hb : SX X c b pb) (hs : PlainIx b := by intro _ _; rfl) : SX X c (.Subscript a b pos) (.idx pa pb) :=
  sx_op2 (f := ixR) (fun h1 h2 => pe_ix ix_D h1 h2 hs) ha hb (fun ρ => by rw [HH.ev]) rfl
noncomputable def rB1 (K : PySem.W.Frag) (f : D → Option R) : List V → Hp → VK → Prop := fun xs H Q => ∃ x, xs = [x] ∧ rD1 K f x H Q
theorem sx_b1 {E : Expr} {f : D → Option R} {q : P} (hp : ∀ {t}, PA X [a] t → PE X E (tCB (rB1 X.K f) t)) (ha : SX X c a pa)
    (hq : ∀ ρ, HH.ev c q ρ = (HH.opd (isVar pa) (HH.ev c pa) ρ).bind fun x ρ => lift (f x) ρ) (hv : isVar q = none) (hs : starEach [a] X.env = (false, eval a X.env) :: starEach [] X.env := by rfl) : SX X c E q := by
  obtain ⟨ta, h1, h3⟩ := ha.opd
  refine ⟨peImp (hp (pa_cons h1 pa_nil hs)) ?_, fun i h => by rw [hv] at h; cases h⟩
  rintro σ H Q ⟨F, ρ, r, ρ', g, e, k⟩
  rw [hq] at e
  obtain ⟨x, ρ1, e1, e2⟩ := bind_ok e
  have zz := lift_ok e2; clear e2; obtain ⟨e2, e3⟩ := zz
  subst e3
  refine h3 g e1 fun v F' H' s pv => ⟨v, rfl, F', x, r, s.gs.sub, pv, e2, fun w F2 H2 x rn => ?_⟩
  exact k w F2 H2 (s.trans (x.stp s.gs)) (.later s (rn.repR s.gs))
theorem c_len : CallR X (.builtin "len") (rB1 X.K fun x => blt .len [x]) := by
  rintro pins s σ H xs us Q I r ⟨x, hx, F, d, r', sm, px, he, k⟩
  obtain ⟨ds, e1, he⟩ := map_some (show (items d).map _ = some r' from he)
  subst he
  obtain ⟨p, ys, rfl, hq, rs⟩ := px.items sm e1
  exact call_len_seq pins s σ H xs us Q I r ⟨p, ys, hx, hq, by rw [rs.length]; exact RepN.val0 sm (repInt _) k⟩
theorem c_tuple : CallR X (.type "tuple") (rB1 X.K fun x => blt .tuple [x]) := by
  rintro pins s σ H xs us Q I r ⟨x, hx, F, d, r', sm, px, he, k⟩
  obtain ⟨ds, e1, he⟩ := map_some (show (items d).map _ = some r' from he)
  subst he
  cases d with
  | tup es =>
    cases e1
    obtain ⟨a, ys, rfl, hq, rs, rt⟩ := px.tup sm
    exact call_tuple_of pins s σ H xs us Q I r ⟨a, ys, hx, .inr ⟨hq, RepN.val0 sm rt k⟩⟩
  | lst es =>
    cases e1
    obtain ⟨a, ys, rfl, hq, rs⟩ := px.lst sm
    exact call_tuple_of pins s σ H xs us Q I r ⟨a, ys, hx, .inl ⟨hq, fun l hl => newT sm rs hl k⟩⟩
  | _ => cases e1
theorem sx_len {x : Str} {p' : Pos} (hx : x = "len") (hg : Gl X x) (hm : X.mg x = none) (ha : SX X c a pa) (hs : starEach [a] X.env = (false, eval a X.env) :: starEach [] X.env := by rfl) : SX X c (.Call (.Name x p') [a] [] pos) (.blt .len [pa]) := by
  subst hx; exact sx_b1 (fun h => pe_callB c_len hg hm PySem.boot_len h (he := hs)) ha (fun ρ => by rw [HH.ev]) rfl hs
theorem sx_tuple {x : Str} {p' : Pos} (hx : x = "tuple") (hg : Gl X x) (hm : X.mg x = none) (ha : SX X c a pa) (hs : starEach [a] X.env = (false, eval a X.env) :: starEach [] X.env := by rfl) : SX X c (.Call (.Name x p') [a] [] pos) (.blt .tuple [pa]) := by
  subst hx; exact sx_b1 (fun h => pe_callTy c_tuple hg hm (by decide +kernel) h (he := hs)) ha (fun ρ => by rw [HH.ev]) rfl hs
end
end HH
end
section
set_option linter.all false
set_option Elab.async false
set_option maxRecDepth 10000
namespace HH
open PySem L2 PySem.Spec PyProof.Rows
noncomputable def spC (K : PySem.W.Frag) (np : Nat) (f : List Sl → Res R) : Sp := fun vs H Q _ => vs.length = np ∧ ∃ F args r args', GS K F args (vs.map some) H ∧ f args = .ok r args' ∧
  ∀ v F' σ' H', Stp K F args (vs.map some) H F' args' σ' H' → RepR K F' args' σ' H' args (vs.map some) H v r → Q v H'
section
variable {K : PySem.W.Frag}
noncomputable def AOne (K : PySem.W.Frag) (F : Hp) (ρ : List Sl) (σ : L2.St) (H : Hp) (ρ₀ : List Sl) (H₀ : Hp) (v : V) : Arg → Prop
  | .dat d => Rep K F v d
  | .tmp ds => ∃ x xs, v = .ref x ∧ H x = some (.lst xs) ∧ F x = none ∧ Reps K F xs ds ∧ ¬ Own ρ σ x ∧ (Own ρ₀ σ x ∨ H₀ x = none)
  | .nam i => σ[i]? = some (some v)
structure AOk (K : PySem.W.Frag) (F : Hp) (ρ : List Sl) (σ : L2.St) (H : Hp) (ρ₀ : List Sl) (H₀ : Hp) (as : List Arg) (vs : List V) : Prop where
  len : as.length = vs.length
  one : ∀ (j : Nat) (a : Arg) (v : V), as[j]? = some a → vs[j]? = some v → AOne K F ρ σ H ρ₀ H₀ v a
  dis : ∀ (j k : Nat) (ds es : List D) (x : Addr), as[j]? = some (.tmp ds) → as[k]? = some (.tmp es) → vs[j]? = some (.ref x) → vs[k]? = some (.ref x) → j = k
theorem AOne.later {F F' H H' H₀ : Hp} {ρ ρ' ρ₀ : List Sl} {σ : L2.St} {v : V} {a : Arg} (s : Stp K F ρ σ H F' ρ' σ H') (h : AOne K F ρ σ H ρ₀ H₀ v a) : AOne K F' ρ' σ H' ρ₀ H₀ v a := by
  cases a with
  | dat d => exact Rep.mono s.fsub h
  | nam i => exact h
  | tmp ds =>
    obtain ⟨x, xs, h1, h2, h3, h4, h5, h6⟩ := h
    refine ⟨x, xs, h1, s.keep x _ h2 h5, ?_, h4.mono s.fsub, fun o => ?_, h6⟩
    · cases q : F' x with
      | none => rfl
      | some o =>
        rcases s.fgr x h3 (by rw [q]; simp) with z | z
        · exact absurd z h5
        · rw [h2] at z; cases z
    · rcases s.ogr x o with z | z
      · exact h5 z
      · rw [h2] at z; cases z
theorem AOk.nil {F H H₀ : Hp} {ρ ρ₀ : List Sl} {σ : L2.St} : AOk K F ρ σ H ρ₀ H₀ [] [] := ⟨rfl, fun j a v h => by simp at h, fun j k ds es x h => by simp at h⟩
theorem AOk.cons {F H H₀ : Hp} {ρ ρ₀ : List Sl} {σ : L2.St} {a : Arg} {v : V} {as : List Arg} {vs : List V} (h : AOne K F ρ σ H ρ₀ H₀ v a) (t : AOk K F ρ σ H ρ₀ H₀ as vs)
    (hd : ∀ ds x, a = .tmp ds → v = .ref x → ∀ (k : Nat) es, as[k]? = some (.tmp es) → vs[k]? ≠ some (.ref x)) : AOk K F ρ σ H ρ₀ H₀ (a :: as) (v :: vs) := by
  refine ⟨by simp [t.len], fun j b u h1 h2 => ?_, fun j k ds es x h1 h2 h3 h4 => ?_⟩
  · cases j with
    | zero => simp at h1 h2; subst h1; subst h2; exact h
    | succ j => exact t.one j b u (by simpa using h1) (by simpa using h2)
  · cases j with
    | zero =>
      cases k with
      | zero => rfl
      | succ k => simp at h1 h3; exact absurd (by simpa using h4) (hd ds x h1 h3 k es (by simpa using h2))
    | succ j =>
      cases k with
      | zero => simp at h2 h4; exact absurd (by simpa using h3) (hd es x h2 h4 j ds (by simpa using h1))
      | succ k => rw [t.dis j k ds es x (by simpa using h1) (by simpa using h2) (by simpa using h3) (by simpa using h4)]
noncomputable def slotA (ρ : List Sl) : Arg → Sl → Prop
  | .dat d, s => s = .val false d
  | .tmp ds, s => s = .own false ds
  | .nam i, s => (∃ b d, ρ[i]? = some (.val b d) ∧ s = .val false d) ∨ (∃ b ds, ρ[i]? = some (.own b ds) ∧ s = .own true ds) ∨ ∃ ds, ρ[i]? = some (.lent ds) ∧ s = .lent ds
theorem bindA_ok {ρ : List Sl} : ∀ {as : List Arg} {used : List Nat} {args : List Sl}, bindA ρ as used = some args → args.length = as.length ∧
    (∀ (j : Nat) (a : Arg) (s : Sl), as[j]? = some a → args[j]? = some s → slotA ρ a s) ∧
    (∀ (j : Nat) (i : Nat) (s : Sl) ds, as[j]? = some (.nam i) → args[j]? = some s → lst? s = some ds → i ∉ used) ∧
    (∀ (j k : Nat) (i : Nat) (s t : Sl) ds es, as[j]? = some (.nam i) → as[k]? = some (.nam i) → args[j]? = some s → args[k]? = some t → lst? s = some ds → lst? t = some es → j = k)
  | [], used, args, h => by
    rw [bindA] at h; cases h
    exact ⟨rfl, fun j a s h => by simp at h, fun j i s ds h => by simp at h, fun j k i s t ds es h => by simp at h⟩
  | a :: as, used, args, h => by
    -- the head's slot, the tail's
    have key : ∃ s0 r used', args = s0 :: r ∧ bindA ρ as used' = some r ∧ slotA ρ a s0 ∧ ((∃ i ds, a = .nam i ∧ lst? s0 = some ds ∧ used' = i :: used ∧ i ∉ used) ∨ ((∀ i ds, a = .nam i → lst? s0 ≠ some ds) ∧ used' = used)) := by
      cases a with
      | dat d =>
        rw [bindA] at h
        obtain ⟨r, e1, e2⟩ := map_some h
        exact ⟨_, r, used, e2.symm, e1, rfl, .inr ⟨fun i ds z => (by cases z), rfl⟩⟩
      | tmp d =>
        rw [bindA] at h
        obtain ⟨r, e1, e2⟩ := map_some h
        exact ⟨_, r, used, e2.symm, e1, rfl, .inr ⟨fun i ds z => (by cases z), rfl⟩⟩
      | nam i =>
        rw [bindA] at h
        split at h
        · rename_i b d q
          obtain ⟨r, e1, e2⟩ := map_some h
          exact ⟨_, r, used, e2.symm, e1, .inl ⟨b, d, q, rfl⟩, .inr ⟨fun _ _ _ z => (by cases z), rfl⟩⟩
        · rename_i b ds q
          split at h
          · cases h
          · rename_i hu
            obtain ⟨r, e1, e2⟩ := map_some h
            exact ⟨_, r, _, e2.symm, e1, .inr (.inl ⟨b, ds, q, rfl⟩), .inl ⟨i, ds, rfl, rfl, rfl, by simpa using hu⟩⟩
        · rename_i ds q
          split at h
          · cases h
          · rename_i hu
            obtain ⟨r, e1, e2⟩ := map_some h
            exact ⟨_, r, _, e2.symm, e1, .inr (.inr ⟨ds, q, rfl⟩), .inl ⟨i, ds, rfl, rfl, rfl, by simpa using hu⟩⟩
        · cases h
    obtain ⟨s0, r, used', rfl, hr, hs0, hu⟩ := key
    obtain ⟨l1, l2, l3, l4⟩ := bindA_ok hr
    have sub : ∀ i, i ∉ used' → i ∉ used := fun i hi hm => by
      rcases hu with ⟨_, _, _, _, rfl, _⟩ | ⟨_, rfl⟩
      · exact hi (List.mem_cons_of_mem _ hm)
      · exact hi hm
    refine ⟨by simp [l1], fun j b s h1 h2 => ?_, fun j i s ds h1 h2 h3 => ?_, fun j k i s t ds es h1 h2 h3 h4 h5 h6 => ?_⟩
    · cases j with
      | zero => simp at h1 h2; subst h1; subst h2; exact hs0
      | succ j => exact l2 j b s (by simpa using h1) (by simpa using h2)
    · cases j with
      | zero =>
        simp at h1 h2; subst h1; subst h2
        rcases hu with ⟨i', _, e, _, _, hn⟩ | ⟨hn, _⟩
        · cases e; exact hn
        · exact absurd h3 (hn i ds rfl)
      | succ j => exact sub i (l3 j i s ds (by simpa using h1) (by simpa using h2) h3)
    · have z0 : ∀ (k : Nat) (t : Sl) es, a = .nam i → lst? s0 = some ds → (as[k]? = some (.nam i)) → r[k]? = some t → lst? t = some es → False := fun k t es ea e0 hk ht he => by
        rcases hu with ⟨i', _, e, _, rfl, hn⟩ | ⟨hn, _⟩
        · rw [ea] at e; cases e
          exact l3 k i t es hk ht he List.mem_cons_self
        · exact hn i ds ea e0
      have z1 : ∀ (k : Nat) (t : Sl) es, a = .nam i → lst? s0 = some es → (as[k]? = some (.nam i)) → r[k]? = some t → lst? t = some ds → False := fun k t es ea e0 hk ht he => by
        rcases hu with ⟨i', _, e, _, rfl, hn⟩ | ⟨hn, _⟩
        · rw [ea] at e; cases e
          exact l3 k i t ds hk ht he List.mem_cons_self
        · exact hn i es ea e0
      cases j with
      | zero =>
        cases k with
        | zero => rfl
        | succ k => simp at h1 h3; subst h3; exact (z0 k t es h1 h5 (by simpa using h2) (by simpa using h4) h6).elim
      | succ j =>
        cases k with
        | zero => simp at h2 h4; subst h4; exact (z1 j s es h2 h6 (by simpa using h1) (by simpa using h3) h5).elim
        | succ k => rw [l4 j k i s t ds es (by simpa using h1) (by simpa using h2) (by simpa using h3) (by simpa using h4) h5 h6]
theorem AOk.get {F H H₀ : Hp} {ρ ρ₀ : List Sl} {σ : L2.St} {as : List Arg} {vs : List V} (A : AOk K F ρ σ H ρ₀ H₀ as vs) {args : List Sl} {j : Nat} {s : Sl} (hl : args.length = as.length) (h : args[j]? = some s) :
    ∃ a v, as[j]? = some a ∧ vs[j]? = some v ∧ AOne K F ρ σ H ρ₀ H₀ v a := by
  have hj : j < args.length := (List.getElem?_eq_some_iff.mp h).1
  have h1 : j < as.length := by omega
  have h2 : j < vs.length := by rw [← A.len]; exact h1
  exact ⟨as[j], vs[j], by simp [h1], by simp [h2], A.one j _ _ (by simp [h1]) (by simp [h2])⟩
theorem args_gs {F H H₀ : Hp} {ρ ρ₀ : List Sl} {σ : L2.St} {as : List Arg} {vs : List V} {args : List Sl} (g : GS K F ρ σ H) (A : AOk K F ρ σ H ρ₀ H₀ as vs) (h : bindA ρ as [] = some args) : GS K F args (vs.map some) H := by
  obtain ⟨l1, l2, l3, l4⟩ := bindA_ok h
  have up : ∀ {j : Nat} {v : V}, vs[j]? = some v → (vs.map some)[j]? = some (some v) := fun e => by rw [List.getElem?_map, e]; rfl
  have dn : ∀ {j : Nat} {v : V}, (vs.map some)[j]? = some (some v) → vs[j]? = some v := fun {j v} e => by
    rw [List.getElem?_map] at e
    cases q : vs[j]? with
    | none => rw [q] at e; cases e
    | some w => rw [q] at e; cases e; rfl
  refine ⟨g.sub, by rw [l1, A.len, List.length_map], fun j b d e => ?_, fun j s ds e e' => ?_, fun j k x ⟨⟨s, ds, e1, e2⟩, e3⟩ ⟨⟨t, es, f1, f2⟩, f3⟩ => ?_⟩
  · obtain ⟨a, v, h1, h2, h3⟩ := A.get l1 e
    have h4 := l2 j a _ h1 e
    refine ⟨v, up h2, ?_⟩
    cases a with
    | dat d' => cases h4; exact h3
    | tmp ds => cases h4
    | nam i =>
      rcases h4 with ⟨b', d', q1, q2⟩ | ⟨_, _, _, q2⟩ | ⟨_, _, q2⟩
      · cases q2
        obtain ⟨w, q3, q4⟩ := g.val i b' d q1
        have h3 : σ[i]? = some (some v) := h3
        rw [h3] at q3; cases q3
        exact q4
      · cases q2
      · cases q2
  · obtain ⟨a, v, h1, h2, h3⟩ := A.get l1 e
    have h4 := l2 j a _ h1 e
    cases a with
    | dat d' => cases h4; cases e'
    | tmp es =>
      cases h4; cases e'
      obtain ⟨x, xs, rfl, q2, q3, q4, _⟩ := h3
      exact ⟨x, xs, up h2, q2, q3, q4⟩
    | nam i =>
      have h3 : σ[i]? = some (some v) := h3
      rcases h4 with ⟨b', d', q1, q2⟩ | ⟨b', es, q1, q2⟩ | ⟨es, q1, q2⟩
      · cases q2; cases e'
      · cases q2; cases e'
        obtain ⟨x, xs, q3, q4⟩ := g.own i _ ds q1 rfl
        rw [h3] at q3; cases q3
        exact ⟨x, xs, up h2, q4⟩
      · cases q2; cases e'
        obtain ⟨x, xs, q3, q4⟩ := g.own i _ ds q1 rfl
        rw [h3] at q3; cases q3
        exact ⟨x, xs, up h2, q4⟩
  · obtain ⟨a, v, h1, h2, h3⟩ := A.get l1 e1
    obtain ⟨a', v', h1', h2', h3'⟩ := A.get l1 f1
    have e3 := dn e3
    have f3 := dn f3
    rw [h2] at e3; cases e3
    rw [h2'] at f3; cases f3
    have s1 := l2 j a _ h1 e1
    have s2 := l2 k a' _ h1' f1
    have nm : ∀ {i : Nat} {s : Sl} {ds : List D}, lst? s = some ds → slotA ρ (.nam i) s → ∃ s' ds', ρ[i]? = some s' ∧ lst? s' = some ds' := fun {i s ds} l z => by
      rcases z with ⟨_, _, _, z⟩ | ⟨b, es, q, _⟩ | ⟨es, q, _⟩
      · subst z; cases l
      · exact ⟨_, es, q, rfl⟩
      · exact ⟨_, es, q, rfl⟩
    cases a with
    | dat d => cases s1; cases e2
    | tmp ds1 =>
      cases a' with
      | dat d => cases s2; cases f2
      | tmp ds2 => exact A.dis j k ds1 ds2 x h1 h1' h2 h2'
      | nam i =>
        obtain ⟨y, _, q1, _, _, _, q2, _⟩ := h3
        cases q1
        obtain ⟨s', ds', q3, q4⟩ := nm f2 s2
        exact absurd ⟨i, ⟨s', ds', q3, q4⟩, h3'⟩ q2
    | nam i =>
      obtain ⟨s', ds', q3, q4⟩ := nm e2 s1
      cases a' with
      | dat d => cases s2; cases f2
      | tmp ds2 =>
        obtain ⟨y, _, q1, _, _, _, q2, _⟩ := h3'
        cases q1
        exact absurd ⟨i, ⟨s', ds', q3, q4⟩, h3⟩ q2
      | nam i' =>
        obtain ⟨s'', ds'', q5, q6⟩ := nm f2 s2
        have := g.dis i i' x ⟨⟨s', ds', q3, q4⟩, h3⟩ ⟨⟨s'', ds'', q5, q6⟩, h3'⟩
        subst this
        exact l4 j k i s t ds es h1 h1' e1 f1 e2 f2
theorem backA_get {as : List Arg} {ss : List Sl} : ∀ (ρ : List Sl) (n i : Nat), (backA as ss n ρ)[i]? = (ρ[i]?).map fun s => backS s (lookA (n + i) as ss)
  | [], n, i => by simp [backA]
  | s :: ρ, n, 0 => by simp [backA]
  | s :: ρ, n, i + 1 => by
    rw [backA]
    simp only [List.getElem?_cons_succ]
    rw [backA_get ρ (n + 1) i]
    have : n + 1 + i = n + (i + 1) := by omega
    rw [this]
theorem backA_len {as : List Arg} {ss : List Sl} : ∀ (ρ : List Sl) (n : Nat), (backA as ss n ρ).length = ρ.length
  | [], n => rfl
  | s :: ρ, n => by rw [backA]; simp [backA_len ρ]
theorem lookA_some {i : Nat} : ∀ {as : List Arg} {ss : List Sl} {t : Sl}, lookA i as ss = some t → ∃ j : Nat, as[j]? = some (.nam i) ∧ ss[j]? = some t
  | [], _, _, h => by simp [lookA] at h
  | a :: as, [], _, h => by cases a <;> simp [lookA] at h
  | a :: as, s :: ss, t, h => by
    have tl : lookA i as ss = some t → ∃ j : Nat, (a :: as)[j]? = some (.nam i) ∧ (s :: ss)[j]? = some t := fun h => by
      obtain ⟨j, h1, h2⟩ := lookA_some h
      exact ⟨j + 1, by simpa using h1, by simpa using h2⟩
    cases a with
    | dat d => exact tl (by simpa [lookA] using h)
    | tmp d => exact tl (by simpa [lookA] using h)
    | nam k =>
      rw [lookA] at h
      split at h
      · rename_i hk; cases h; subst hk; exact ⟨0, rfl, rfl⟩
      · exact tl h
theorem lookA_none {i : Nat} : ∀ {as : List Arg} {ss : List Sl}, as.length = ss.length → lookA i as ss = none → ∀ j : Nat, as[j]? ≠ some (.nam i)
  | [], _, _, _ => fun j h => by simp at h
  | a :: as, [], hl, _ => by simp at hl
  | a :: as, s :: ss, hl, h => fun j hj => by
    have hl' : as.length = ss.length := by simpa using hl
    have tl : lookA i as ss = none ∧ a ≠ .nam i := by
      cases a with
      | dat d => exact ⟨by simpa [lookA] using h, by simp⟩
      | tmp d => exact ⟨by simpa [lookA] using h, by simp⟩
      | nam k =>
        rw [lookA] at h
        split at h
        · cases h
        · rename_i hk; exact ⟨h, fun e => hk (by cases e; rfl)⟩
    cases j with
    | zero => simp at hj; exact tl.2 hj
    | succ j => exact lookA_none hl' tl.1 j (by simpa using hj)
theorem call_stp {F₀ H₀ F H F' H' : Hp} {ρ₀ ρ args args' : List Sl} {σ σ' : L2.St} {as : List Arg} {vs : List V} (s0 : Stp K F₀ ρ₀ σ H₀ F ρ σ H) (A : AOk K F ρ σ H ρ₀ H₀ as vs) (hb : bindA ρ as [] = some args)
    (s : Stp K F args (vs.map some) H F' args' σ' H') :
    Stp K F₀ ρ₀ σ H₀ F' (backA as args' 0 ρ) σ H' ∧ ∀ v r, RepR K F' args' σ' H' args (vs.map some) H v r → RepR K F' (backA as args' 0 ρ) σ H' ρ₀ σ H₀ v r := by
  have g := s0.gs
  obtain ⟨l1, l2, l3, l4⟩ := bindA_ok hb
  have up : ∀ {j : Nat} {v : V}, vs[j]? = some v → (vs.map some)[j]? = some (some v) := fun e => by rw [List.getElem?_map, e]; rfl
  have dn : ∀ {j : Nat} {v : V}, (vs.map some)[j]? = some (some v) → vs[j]? = some v := fun {j v} e => by
    rw [List.getElem?_map] at e
    cases q : vs[j]? with
    | none => rw [q] at e; cases e
    | some w => rw [q] at e; cases e; rfl
  have la : as.length = args'.length := by rw [s.len, l1]
  -- whose are the lists that the callee holds
  have own : ∀ b, Own args (vs.map some) b → (∃ (j : Nat) (ds : List D), as[j]? = some (Arg.tmp ds) ∧ vs[j]? = some (V.ref b) ∧ ¬ Own ρ σ b ∧ (Own ρ₀ σ b ∨ H₀ b = none)) ∨ Own ρ σ b := fun b ⟨j, ⟨sl, ds, e1, e2⟩, e3⟩ => by
    obtain ⟨a, v, h1, h2, h3⟩ := A.get l1 e1
    have s1 := l2 j a _ h1 e1
    have e3 := dn e3
    rw [h2] at e3; cases e3
    cases a with
    | dat d => cases s1; cases e2
    | tmp es =>
      obtain ⟨x, _, q1, _, _, _, q2, q3⟩ := h3
      cases q1
      exact .inl ⟨j, es, h1, h2, q2, q3⟩
    | nam i =>
      right
      rcases s1 with ⟨_, _, _, z⟩ | ⟨b', es, q, _⟩ | ⟨es, q, _⟩
      · subst z; cases e2
      · exact ⟨i, ⟨_, es, q, rfl⟩, h3⟩
      · exact ⟨i, ⟨_, es, q, rfl⟩, h3⟩
  have back : ∀ b, Own ρ σ b ∨ H b = none → Own ρ₀ σ b ∨ H₀ b = none := fun b h => by
    rcases h with h | h
    · exact s0.ogr b h
    · by_cases ho : Own ρ₀ σ b
      · exact .inl ho
      · right
        cases e : H₀ b with
        | none => rfl
        | some o => rw [s0.keep b o e ho] at h; cases h
  have own' : ∀ b, Own args (vs.map some) b → Own ρ₀ σ b ∨ H₀ b = none := fun b h => by
    rcases own b h with ⟨_, _, _, _, _, z⟩ | z
    · exact z
    · exact back b (.inl z)
  -- a name's slot behind the call
  have slot : ∀ {i : Nat} {t : Sl}, (backA as args' 0 ρ)[i]? = some t → ∃ s1, ρ[i]? = some s1 ∧ t = backS s1 (lookA i as args') := fun {i t} h => by
    rw [backA_get] at h
    obtain ⟨s1, e1, e2⟩ := map_some h
    exact ⟨s1, e1, by rw [← e2, Nat.zero_add]⟩
  have slot' : ∀ {i : Nat} {s1 : Sl}, ρ[i]? = some s1 → (backA as args' 0 ρ)[i]? = some (backS s1 (lookA i as args')) := fun {i s1} h => by
    rw [backA_get, h, Nat.zero_add]; rfl
  -- what the callee left of a list that was lent to it
  have lent : ∀ {i j : Nat} {s1 t : Sl} {ds : List D}, ρ[i]? = some s1 → lst? s1 = some ds → as[j]? = some (.nam i) → args'[j]? = some t →
      ∃ v s2, σ[i]? = some (some v) ∧ σ'[j]? = some (some v) ∧ args[j]? = some s2 ∧ lkOk s2 t ∧ ((∃ b, s1 = .own b ds ∧ s2 = .own true ds) ∨ (s1 = .lent ds ∧ s2 = .lent ds)) := fun {i j s1 t ds} h1 h2 h3 h4 => by
    have hj : j < args.length := by rw [l1]; exact (List.getElem?_eq_some_iff.mp h3).1
    have e1 : args[j]? = some args[j] := by simp [hj]
    obtain ⟨a, v, q1, q2, q3⟩ := A.get l1 e1
    rw [h3] at q1; cases q1
    have q4 := l2 j _ _ h3 e1
    have kind : (∃ b, s1 = .own b ds ∧ args[j] = .own true ds) ∨ (s1 = .lent ds ∧ args[j] = .lent ds) := by
      rcases q4 with ⟨_, _, z, _⟩ | ⟨b, es, z, z'⟩ | ⟨es, z, z'⟩
      · rw [h1] at z; cases z; cases h2
      · rw [h1] at z; cases z; cases h2; exact .inl ⟨b, rfl, z'⟩
      · rw [h1] at z; cases z; cases h2; exact .inr ⟨rfl, z'⟩
    have lk : lkd args[j] = true := by rcases kind with ⟨_, _, z⟩ | ⟨_, z⟩ <;> rw [z] <;> rfl
    obtain ⟨z1, s', z2, z3⟩ := s.lk j _ e1 lk
    rw [h4] at z2; cases z2
    exact ⟨v, _, q3, by rw [z1]; exact up q2, e1, z3, kind⟩
  have ownB : ∀ {i : Nat} {x : Addr}, OwnAt (backA as args' 0 ρ) σ i x → OwnAt ρ σ i x := fun {i x} ⟨⟨t, ds, e1, e2⟩, e3⟩ => by
    obtain ⟨s1, q1, q2⟩ := slot e1
    refine ⟨?_, e3⟩
    cases s1 with
    | unb => subst q2; cases e2
    | val b d => subst q2; cases e2
    | own b es => exact ⟨_, es, q1, rfl⟩
    | lent es => exact ⟨_, es, q1, rfl⟩
  refine ⟨?_, fun v r h => ?_⟩
  rotate_left
  · cases r with
    | val d => exact h
    | own ds =>
      obtain ⟨x, xs, h1, h2, h3, h4, h5, h6⟩ := h
      refine ⟨x, xs, h1, h2, h3, h4, fun ⟨i, h⟩ => ?_, ?_⟩
      · have hO := ownB h
        obtain ⟨⟨s1, ds1, q1, q2⟩, q3⟩ := hO
        obtain ⟨x', xs', w1, w2, _⟩ := g.own i s1 ds1 q1 q2
        rw [q3] at w1; cases w1
        rcases h6 with h6 | h6
        · rcases own x h6 with ⟨_, _, _, _, z, _⟩ | _
          · exact z ⟨i, ⟨s1, ds1, q1, q2⟩, q3⟩
          · -- a name was lent
            obtain ⟨j, ⟨sl, es, w3, w4⟩, w5⟩ := h6
            obtain ⟨a', v', y1, y2, y3⟩ := A.get l1 w3
            have sa := l2 j a' _ y1 w3
            have w5 := dn w5
            rw [y2] at w5; cases w5
            cases a' with
            | dat d => cases sa; cases w4
            | tmp es' => obtain ⟨_, _, u1, _, _, _, u2, _⟩ := y3; cases u1; exact u2 ⟨i, ⟨s1, ds1, q1, q2⟩, q3⟩
            | nam i' =>
              have ex : ∃ s' ds', ρ[i']? = some s' ∧ lst? s' = some ds' := by
                rcases sa with ⟨_, _, _, z⟩ | ⟨b, es, q, _⟩ | ⟨es, q, _⟩
                · subst z; cases w4
                · exact ⟨_, es, q, rfl⟩
                · exact ⟨_, es, q, rfl⟩
              have := g.dis i i' x ⟨⟨s1, ds1, q1, q2⟩, q3⟩ ⟨ex, y3⟩
              subst this
              have hj : j < args'.length := by rw [← la]; exact (List.getElem?_eq_some_iff.mp y1).1
              have e' : args'[j]? = some args'[j] := by simp [hj]
              obtain ⟨v2, s2, u1, u2, u3, u4, u5⟩ := lent q1 q2 y1 e'
              rw [q3] at u1; cases u1
              -- the slot behind the call is a list's
              obtain ⟨⟨t, dt, t1, t2⟩, _⟩ := h
              obtain ⟨s3, t3, t4⟩ := slot t1
              rw [q1] at t3; cases t3
              have lo : ∃ t5, lookA i as args' = some t5 := by
                cases hl : lookA i as args' with
                | none => exact absurd y1 (lookA_none la hl j)
                | some t5 => exact ⟨t5, rfl⟩
              obtain ⟨t5, hl⟩ := lo
              obtain ⟨j2, t6, t7⟩ := lookA_some hl
              have hj2 : j2 < args.length := by rw [l1]; exact (List.getElem?_eq_some_iff.mp t6).1
              obtain ⟨_, s6, _, v2', v3', v4', v5'⟩ := lent q1 q2 t6 t7
              have l4' : j2 = j := by
                have a1 : lst? s6 = some ds1 := by rcases v5' with ⟨_, _, z⟩ | ⟨_, z⟩ <;> rw [z] <;> rfl
                have a2 : lst? s2 = some ds1 := by rcases u5 with ⟨_, _, z⟩ | ⟨_, z⟩ <;> rw [z] <;> rfl
                exact l4 j2 j i s6 s2 ds1 ds1 t6 y1 v3' u3 a1 a2
              subst l4'
              rw [e'] at t7; cases t7
              rw [hl] at t4
              refine h5 ⟨j2, ?_, u2⟩
              rcases u5 with ⟨b, z1, z2⟩ | ⟨z1, z2⟩
              · subst z1; subst z2
                rcases u4 with ⟨d2, z⟩ | ⟨d2, z⟩
                · exact ⟨_, d2, e', by rw [z]; rfl⟩
                · rw [z] at t4; subst t4; cases t2
              · subst z1; subst z2
                exact ⟨_, ds1, e', by rw [show args'[j2] = .lent ds1 from u4]; rfl⟩
        · rw [w2] at h6; cases h6
      · rcases h6 with h6 | h6
        · exact own' x h6
        · exact back x (.inr h6)
  refine ⟨⟨s.gs.sub, by rw [backA_len]; exact g.len, fun i b d e => ?_, fun i t ds e e' => ?_, fun i j x h1 h2 => g.dis i j x (ownB h1) (ownB h2)⟩, s0.fsub.trans s.fsub, fun b n n' => ?_, fun b o h n => ?_, fun b ⟨i, h⟩ => back b (.inl ⟨i, ownB h⟩), by rw [backA_len]; exact s0.len, fun i s1 h l => ?_⟩
  · -- data
    obtain ⟨s1, q1, q2⟩ := slot e
    cases s1 with
    | unb => cases q2
    | lent es => cases q2
    | val b' d' =>
      cases q2
      obtain ⟨v, z1, z2⟩ := g.val i b d q1
      exact ⟨v, z1, z2.mono s.fsub⟩
    | own b' es =>
      cases hl : lookA i as args' with
      | none => rw [hl] at q2; cases q2
      | some t =>
        rw [hl] at q2
        obtain ⟨j, z1, z2⟩ := lookA_some hl
        obtain ⟨v, s2, y1, y2, y3, y4, y5⟩ := lent q1 rfl z1 z2
        cases t with
        | unb => cases q2
        | own _ _ => cases q2
        | lent _ => cases q2
        | val b2 d2 =>
          cases q2
          obtain ⟨w, x1, x2⟩ := s.gs.val j b2 d z2
          rw [y2] at x1; cases x1
          exact ⟨v, y1, x2⟩
  · -- lists
    obtain ⟨s1, q1, q2⟩ := slot e
    -- a list that was not lent
    have stay : ∀ es, lst? s1 = some es → (∀ j : Nat, as[j]? ≠ some (.nam i)) → t = s1 → ∃ (a : Addr) (xs : List V), σ[i]? = some (some (V.ref a)) ∧ H' a = some (.lst xs) ∧ F' a = none ∧ Reps K F' xs ds := fun es he hn ht => by
      subst ht
      rw [he] at e'; cases e'
      obtain ⟨a, xs, z1, z2, z3, z4⟩ := g.own i _ ds q1 he
      have no : ¬ Own args (vs.map some) a := fun h => by
        obtain ⟨j, ⟨sl, es, w1, w2⟩, w3⟩ := h
        obtain ⟨a', v, h1, h2, h3⟩ := A.get l1 w1
        have sa := l2 j a' _ h1 w1
        have w3 := dn w3
        rw [h2] at w3; cases w3
        cases a' with
        | dat d => cases sa; cases w2
        | tmp es => obtain ⟨x, _, y1, _, _, _, y2, _⟩ := h3; cases y1; exact y2 ⟨i, ⟨_, ds, q1, he⟩, z1⟩
        | nam i' =>
          have : ∃ s' ds', ρ[i']? = some s' ∧ lst? s' = some ds' := by
            rcases sa with ⟨_, _, _, z⟩ | ⟨b, es, q, _⟩ | ⟨es, q, _⟩
            · subst z; cases w2
            · exact ⟨_, es, q, rfl⟩
            · exact ⟨_, es, q, rfl⟩
          have := g.dis i i' a ⟨⟨_, ds, q1, he⟩, z1⟩ ⟨this, h3⟩
          subst this
          exact hn j h1
      refine ⟨a, xs, z1, s.keep a _ z2 no, ?_, z4.mono s.fsub⟩
      cases q : F' a with
      | none => rfl
      | some o =>
        rcases s.fgr a z3 (by rw [q]; simp) with z | z
        · exact absurd z no
        · rw [z2] at z; cases z
    cases hl : lookA i as args' with
    | none =>
      have hn := lookA_none la hl
      rw [hl] at q2
      cases s1 with
      | unb => subst q2; cases e'
      | val b' d' => subst q2; cases e'
      | own b' es => exact stay es rfl hn q2
      | lent es => exact stay es rfl hn q2
    | some t2 =>
      rw [hl] at q2
      obtain ⟨j, z1, z2⟩ := lookA_some hl
      cases s1 with
      | unb => subst q2; cases e'
      | val b' d' => subst q2; cases e'
      | own b' es =>
        obtain ⟨v, s2, y1, y2, y3, y4, y5⟩ := lent q1 rfl z1 z2
        have : t2 ≠ .unb ∧ ∀ x, t2 ≠ .lent x := by
          rcases y5 with ⟨_, _, y5⟩ | ⟨y5, _⟩
          · subst y5; rcases y4 with ⟨_, rfl⟩ | ⟨_, rfl⟩ <;> simp
          · cases y5
        cases t2 with
        | unb => exact absurd rfl this.1
        | lent x => exact absurd rfl (this.2 x)
        | val b2 d2 => subst q2; cases e'
        | own b2 es2 =>
          subst q2; cases e'
          obtain ⟨a, xs, x1, x2⟩ := s.gs.own j _ ds z2 rfl
          rw [y2] at x1; cases x1
          exact ⟨a, xs, y1, x2⟩
      | lent es =>
        obtain ⟨v, s2, y1, y2, y3, y4, y5⟩ := lent q1 rfl z1 z2
        have ht : t = .lent es := by rw [q2]; cases t2 <;> rfl
        subst ht
        cases e'
        rcases y5 with ⟨_, y5, _⟩ | ⟨_, y5⟩
        · cases y5
        · subst y5
          cases (show t2 = .lent ds from y4)
          obtain ⟨a, xs, x1, x2⟩ := s.gs.own j _ ds z2 rfl
          rw [y2] at x1; cases x1
          exact ⟨a, xs, y1, x2⟩
  · by_cases q : F b = none
    · rcases s.fgr b q n' with z | z
      · exact own' b z
      · exact back b (.inr z)
    · exact s0.fgr b n q
  · refine s.keep b o (s0.keep b o h n) fun z => ?_
    rcases own' b z with z | z
    · exact n z
    · rw [h] at z; cases z
  · obtain ⟨e1, s2, h2, k2⟩ := s0.lk i s1 h l
    refine ⟨e1, _, slot' h2, ?_⟩
    have l2' := k2.lkd l
    refine lkOk.trans l k2 ?_
    cases s2 with
    | unb => cases l2'
    | val b d => exact lkOk.refl _
    | lent es =>
      cases lookA i as args' with
      | none => rfl
      | some t => cases t <;> rfl
    | own b es =>
      cases b with
      | false => cases l2'
      | true =>
        cases lookA i as args' with
        | none => exact .inl ⟨_, rfl⟩
        | some t =>
          cases t with
          | unb => exact .inl ⟨_, rfl⟩
          | lent _ => exact .inl ⟨_, rfl⟩
          | own _ ds => exact .inl ⟨_, rfl⟩
          | val _ d => exact .inr ⟨_, rfl⟩
theorem AOk.rebase {F1 H1 F2 H2 F H : Hp} {ρ ρ1 ρ2 : List Sl} {σ : L2.St} {as : List Arg} {vs : List V} (a : Stp K F ρ σ H F1 ρ1 σ H1) (A : AOk K F2 ρ2 σ H2 ρ1 H1 as vs) : AOk K F2 ρ2 σ H2 ρ H as vs := by
  refine ⟨A.len, fun j b v h1 h2 => ?_, A.dis⟩
  have h := A.one j b v h1 h2
  cases b with
  | dat d => exact h
  | nam i => exact h
  | tmp ds =>
    obtain ⟨x, xs, q1, q2, q3, q4, q5, q6⟩ := h
    refine ⟨x, xs, q1, q2, q3, q4, q5, ?_⟩
    rcases q6 with q6 | q6
    · exact a.ogr x q6
    · by_cases ho : Own ρ σ x
      · exact .inl ho
      · right
        cases e : H x with
        | none => rfl
        | some o => rw [a.keep x o e ho] at q6; cases q6
theorem AOk.consR {F1 H1 F2 H2 F H : Hp} {ρ ρ1 ρ2 : List Sl} {σ : L2.St} {as : List Arg} {vs : List V} {v : V} {r : R} (s1 : Stp K F ρ σ H F1 ρ1 σ H1) (rr : RepR K F1 ρ1 σ H1 ρ σ H v r) (s2 : Stp K F1 ρ1 σ H1 F2 ρ2 σ H2)
    (A : AOk K F2 ρ2 σ H2 ρ1 H1 as vs) : AOk K F2 ρ2 σ H2 ρ H (argOf r :: as) (v :: vs) := by
  have h1 : AOne K F1 ρ1 σ H1 ρ H v (argOf r) := by
    cases r with
    | val d => exact rr
    | own ds => exact rr
  refine .cons (h1.later s2) (A.rebase s1) fun ds x ea ev k es ek evk => ?_
  cases r with
  | val d => cases ea
  | own ds' =>
    obtain ⟨y, xs, q1, q2, q3, q4, q5, q6⟩ := rr
    rw [ev] at q1; cases q1
    have h := A.one k _ _ ek evk
    obtain ⟨z, zs, w1, _, _, _, _, w6⟩ := h
    cases w1
    rcases w6 with w6 | w6
    · exact q5 w6
    · rw [q2] at w6; cases w6
end
end HH
end
section
set_option linter.all false
set_option Elab.async false
set_option maxRecDepth 10000
namespace HH
open PySem L2 PySem.Spec PyProof.Rows
section
variable {K : PySem.W.Frag} {F F1 H H1 : Hp} {ρ ρ1 ρ2 : List Sl} {σ σ1 : L2.St}
theorem put_ok {i : Nat} {s : Sl} (h : put ρ i s = some ρ1) : ∃ s0, ρ[i]? = some s0 ∧ lkd s0 = false ∧ ρ1 = ρ.set i s := by
  unfold put at h
  split at h
  · rename_i q; cases h; exact ⟨_, q, rfl, rfl⟩
  · rename_i q; cases h; exact ⟨_, q, rfl, rfl⟩
  · rename_i q; cases h; exact ⟨_, q, rfl, rfl⟩
  · cases h
theorem Stp.put {i : Nat} {v : V} {r : R} (s : Stp K F ρ σ H F1 ρ1 σ1 H1) (rr : RepR K F1 ρ1 σ1 H1 ρ σ H v r) (h : HH.put ρ1 i (slOf r) = some ρ2) : Stp K F ρ σ H F1 ρ2 (σ1.set i (some v)) H1 := by
  obtain ⟨s0, h0, hl, rfl⟩ := put_ok h
  have hi : i < ρ1.length := (List.getElem?_eq_some_iff.mp h0).1
  have hi' : i < σ1.length := by rw [← s.gs.len]; exact hi
  have old : ∀ {j : Nat} {a : Addr}, j ≠ i → OwnAt (ρ1.set i (slOf r)) (σ1.set i (some v)) j a → OwnAt ρ1 σ1 j a := fun {j a} hj ⟨⟨t, ds, e1, e2⟩, e3⟩ => by
    rw [List.getElem?_set_ne (Ne.symm hj)] at e1 e3
    exact ⟨⟨t, ds, e1, e2⟩, e3⟩
  have new : ∀ {a : Addr}, OwnAt (ρ1.set i (slOf r)) (σ1.set i (some v)) i a → ¬ Own ρ1 σ1 a ∧ (Own ρ σ a ∨ H a = none) := fun {a} ⟨⟨t, ds, e1, e2⟩, e3⟩ => by
    rw [List.getElem?_set_self hi] at e1
    rw [List.getElem?_set_self hi'] at e3
    cases e1; cases e3
    cases r with
    | val d => cases e2
    | own es => obtain ⟨x, xs, q1, q2, q3, q4, q5, q6⟩ := rr; cases q1; exact ⟨q5, q6⟩
  refine ⟨⟨s.gs.sub, by simp [s.gs.len], fun j b d e => ?_, fun j t ds e e' => ?_, fun j k a h1 h2 => ?_⟩, s.fsub, s.fgr, s.keep, fun a ⟨j, hj⟩ => ?_, by simp [s.len], fun j t e l => ?_⟩
  · by_cases hj : j = i
    · subst hj
      rw [List.getElem?_set_self hi] at e
      cases r with
      | own es => cases e
      | val d' => cases e; exact ⟨v, List.getElem?_set_self hi', rr⟩
    · rw [List.getElem?_set_ne (Ne.symm hj)] at e ⊢
      exact s.gs.val j b d e
  · by_cases hj : j = i
    · subst hj
      rw [List.getElem?_set_self hi] at e
      cases r with
      | val d' => cases e; cases e'
      | own es =>
        cases e; cases e'
        obtain ⟨x, xs, rfl, q2, q3, q4, _⟩ := rr
        exact ⟨x, xs, List.getElem?_set_self hi', q2, q3, q4⟩
    · rw [List.getElem?_set_ne (Ne.symm hj)] at e ⊢
      exact s.gs.own j t ds e e'
  · by_cases hj : j = i
    · by_cases hk : k = i
      · rw [hj, hk]
      · subst hj; exact absurd ⟨k, old hk h2⟩ (new h1).1
    · by_cases hk : k = i
      · subst hk; exact absurd ⟨j, old hj h1⟩ (new h2).1
      · exact s.gs.dis j k a (old hj h1) (old hk h2)
  · by_cases hji : j = i
    · subst hji; exact (new hj).2
    · exact s.ogr a ⟨j, old hji hj⟩
  · obtain ⟨e1, t1, e2, e3⟩ := s.lk j t e l
    have hj : j ≠ i := by
      rintro rfl
      rw [h0] at e2; cases e2
      rw [e3.lkd l] at hl; cases hl
    exact ⟨by rw [List.getElem?_set_ne (Ne.symm hj)]; exact e1, t1, by rw [List.getElem?_set_ne (Ne.symm hj)]; exact e2, e3⟩
theorem GS.mut {x : Nat} {b : Bool} {ds es : List D} {a : Addr} {ys : List V} (g : GS K F ρ σ H) (e : ρ[x]? = some (.own b ds)) (hx : σ[x]? = some (some (.ref a))) (r : Reps K F ys es) :
    Stp K F ρ σ H F (ρ.set x (.own b es)) σ (upd H a (.lst ys)) := by
  have hi : x < ρ.length := (List.getElem?_eq_some_iff.mp e).1
  have oa : OwnAt ρ σ x a := ⟨⟨_, ds, e, rfl⟩, hx⟩
  obtain ⟨a', xs, h1, h2, h3, h4⟩ := g.own x _ ds e rfl
  rw [hx] at h1; cases h1
  have old : ∀ {j : Nat} {c : Addr}, OwnAt (ρ.set x (.own b es)) σ j c → OwnAt ρ σ j c := fun {j c} ⟨⟨t, dt, q1, q2⟩, q3⟩ => by
    by_cases hj : j = x
    · subst hj; exact ⟨⟨_, ds, e, rfl⟩, q3⟩
    · rw [List.getElem?_set_ne (Ne.symm hj)] at q1; exact ⟨⟨t, dt, q1, q2⟩, q3⟩
  refine ⟨⟨fun c o q => ?_, by simp [g.len], fun j b' d q => ?_, fun j t dt q q' => ?_, fun j k c q1 q2 => g.dis j k c (old q1) (old q2)⟩, .refl _, fun c n n' => absurd n n', fun c o q n => ?_, fun c ⟨j, q⟩ => .inl ⟨j, old q⟩, by simp, fun j t q l => ⟨rfl, ?_⟩⟩
  · have : c ≠ a := by rintro rfl; rw [h3] at q; cases q
    rw [upd_ne this]; exact g.sub c o q
  · by_cases hj : j = x
    · subst hj; rw [List.getElem?_set_self hi] at q; cases q
    · rw [List.getElem?_set_ne (Ne.symm hj)] at q; exact g.val j b' d q
  · by_cases hj : j = x
    · subst hj
      rw [List.getElem?_set_self hi] at q; cases q; cases q'
      exact ⟨a, ys, hx, upd_same, h3, r⟩
    · rw [List.getElem?_set_ne (Ne.symm hj)] at q
      obtain ⟨c, zs, w1, w2, w3, w4⟩ := g.own j t dt q q'
      have : c ≠ a := by rintro rfl; exact hj (g.dis j x c ⟨⟨t, dt, q, q'⟩, w1⟩ oa)
      exact ⟨c, zs, w1, by rw [upd_ne this]; exact w2, w3, w4⟩
  · have : c ≠ a := by rintro rfl; exact n ⟨x, oa⟩
    rw [upd_ne this]; exact q
  · by_cases hj : j = x
    · subst hj
      rw [e] at q; cases q
      refine ⟨_, List.getElem?_set_self hi, ?_⟩
      cases b with
      | true => exact .inl ⟨_, rfl⟩
      | false => cases l
    · exact ⟨t, by rw [List.getElem?_set_ne (Ne.symm hj)]; exact q, .refl t⟩
theorem GS.lend {i : Nat} {b : Bool} {ds : List D} (g : GS K F ρ σ H) (e : ρ[i]? = some (.own b ds)) : GS K F (ρ.set i (.lent ds)) σ H := by
  have hi : i < ρ.length := (List.getElem?_eq_some_iff.mp e).1
  have old : ∀ {j : Nat} {c : Addr}, OwnAt (ρ.set i (.lent ds)) σ j c → OwnAt ρ σ j c := fun {j c} ⟨⟨t, dt, q1, q2⟩, q3⟩ => by
    by_cases hj : j = i
    · subst hj; exact ⟨⟨_, ds, e, rfl⟩, q3⟩
    · rw [List.getElem?_set_ne (Ne.symm hj)] at q1; exact ⟨⟨t, dt, q1, q2⟩, q3⟩
  refine ⟨g.sub, by simp [g.len], fun j b' d q => ?_, fun j t dt q q' => ?_, fun j k c q1 q2 => g.dis j k c (old q1) (old q2)⟩
  · by_cases hj : j = i
    · subst hj; rw [List.getElem?_set_self hi] at q; cases q
    · rw [List.getElem?_set_ne (Ne.symm hj)] at q; exact g.val j b' d q
  · by_cases hj : j = i
    · subst hj; rw [List.getElem?_set_self hi] at q; cases q; cases q'; exact g.own j _ ds e rfl
    · rw [List.getElem?_set_ne (Ne.symm hj)] at q; exact g.own j t dt q q'
theorem Stp.unlend {i : Nat} {b : Bool} {ds : List D} (g : GS K F ρ σ H) (e : ρ[i]? = some (.own b ds)) (s : Stp K F (ρ.set i (.lent ds)) σ H F1 ρ1 σ1 H1) :
    Stp K F ρ σ H F1 (ρ1.set i (.own b ds)) σ1 H1 ∧ ∀ v r, RepR K F1 ρ1 σ1 H1 (ρ.set i (.lent ds)) σ H v r → RepR K F1 (ρ1.set i (.own b ds)) σ1 H1 ρ σ H v r := by
  have hi : i < ρ.length := (List.getElem?_eq_some_iff.mp e).1
  have h1 : (ρ.set i (.lent ds))[i]? = some (.lent ds) := List.getElem?_set_self hi
  obtain ⟨z1, s', z2, z3⟩ := s.lk i _ h1 rfl
  cases (show s' = .lent ds from z3)
  have hi1 : i < ρ1.length := (List.getElem?_eq_some_iff.mp z2).1
  have o1 : ∀ {j : Nat} {c : Addr}, OwnAt (ρ.set i (.lent ds)) σ j c → OwnAt ρ σ j c := fun {j c} ⟨⟨t, dt, q1, q2⟩, q3⟩ => by
    by_cases hj : j = i
    · subst hj; exact ⟨⟨_, ds, e, rfl⟩, q3⟩
    · rw [List.getElem?_set_ne (Ne.symm hj)] at q1; exact ⟨⟨t, dt, q1, q2⟩, q3⟩
  have o1' : ∀ {c : Addr}, Own ρ σ c → Own (ρ.set i (.lent ds)) σ c := fun {c} ⟨j, ⟨t, dt, q1, q2⟩, q3⟩ => by
    by_cases hj : j = i
    · subst hj; exact ⟨j, ⟨_, ds, h1, rfl⟩, q3⟩
    · exact ⟨j, ⟨t, dt, by rw [List.getElem?_set_ne (Ne.symm hj)]; exact q1, q2⟩, q3⟩
  have o2 : ∀ {j : Nat} {c : Addr}, OwnAt (ρ1.set i (.own b ds)) σ1 j c → OwnAt ρ1 σ1 j c := fun {j c} ⟨⟨t, dt, q1, q2⟩, q3⟩ => by
    by_cases hj : j = i
    · subst hj; exact ⟨⟨_, ds, z2, rfl⟩, q3⟩
    · rw [List.getElem?_set_ne (Ne.symm hj)] at q1; exact ⟨⟨t, dt, q1, q2⟩, q3⟩
  have w : ∀ {c : Addr} {h : Hp}, Own (ρ.set i (.lent ds)) σ c ∨ h c = none → Own ρ σ c ∨ h c = none := fun {c h} q => q.imp (fun ⟨j, q⟩ => ⟨j, o1 q⟩) id
  refine ⟨⟨⟨s.gs.sub, by simp [s.gs.len], fun j b' d q => ?_, fun j t dt q q' => ?_, fun j k c q1 q2 => s.gs.dis j k c (o2 q1) (o2 q2)⟩, s.fsub, fun c n n' => w (s.fgr c n n'), fun c o q n => s.keep c o q fun ⟨j, x⟩ => n ⟨j, o1 x⟩, fun c ⟨j, q⟩ => w (s.ogr c ⟨j, o2 q⟩), by simpa using s.len, fun j t q l => ?_⟩, fun v r h => ?_⟩
  · by_cases hj : j = i
    · subst hj; rw [List.getElem?_set_self hi1] at q; cases q
    · rw [List.getElem?_set_ne (Ne.symm hj)] at q; exact s.gs.val j b' d q
  · by_cases hj : j = i
    · subst hj; rw [List.getElem?_set_self hi1] at q; cases q; cases q'; exact s.gs.own j _ ds z2 rfl
    · rw [List.getElem?_set_ne (Ne.symm hj)] at q; exact s.gs.own j t dt q q'
  · by_cases hj : j = i
    · subst hj
      rw [e] at q; cases q
      refine ⟨z1, _, List.getElem?_set_self hi1, ?_⟩
      cases b with
      | true => exact .inl ⟨_, rfl⟩
      | false => cases l
    · obtain ⟨y1, t', y2, y3⟩ := s.lk j t (by rw [List.getElem?_set_ne (Ne.symm hj)]; exact q) l
      exact ⟨y1, t', by rw [List.getElem?_set_ne (Ne.symm hj)]; exact y2, y3⟩
  · cases r with
    | val d => exact h
    | own es =>
      obtain ⟨x, xs, q1, q2, q3, q4, q5, q6⟩ := h
      exact ⟨x, xs, q1, q2, q3, q4, fun ⟨j, q⟩ => q5 ⟨j, o2 q⟩, w q6⟩
theorem GS.give {i : Nat} {ds : List D} (g : GS K F ρ σ H) (e : ρ[i]? = some (.own false ds)) : ∃ v, σ[i]? = some (some v) ∧ Stp K F ρ σ H F (ρ.set i .unb) σ H ∧ RepR K F (ρ.set i .unb) σ H ρ σ H v (.own ds) := by
  have hi : i < ρ.length := (List.getElem?_eq_some_iff.mp e).1
  obtain ⟨a, xs, h1, h2, h3, h4⟩ := g.own i _ ds e rfl
  have old : ∀ {j : Nat} {c : Addr}, OwnAt (ρ.set i .unb) σ j c → OwnAt ρ σ j c ∧ j ≠ i := fun {j c} ⟨⟨t, dt, q1, q2⟩, q3⟩ => by
    by_cases hj : j = i
    · subst hj; rw [List.getElem?_set_self hi] at q1; cases q1; cases q2
    · rw [List.getElem?_set_ne (Ne.symm hj)] at q1; exact ⟨⟨⟨t, dt, q1, q2⟩, q3⟩, hj⟩
  have oa : OwnAt ρ σ i a := ⟨⟨_, ds, e, rfl⟩, h1⟩
  refine ⟨.ref a, h1, ⟨⟨g.sub, by simp [g.len], fun j b' d q => ?_, fun j t dt q q' => ?_, fun j k c q1 q2 => g.dis j k c (old q1).1 (old q2).1⟩, .refl _, fun c n n' => absurd n n', fun _ _ q _ => q, fun c ⟨j, q⟩ => .inl ⟨j, (old q).1⟩, by simp, fun j t q l => ⟨rfl, ?_⟩⟩, a, xs, rfl, h2, h3, h4, fun ⟨j, q⟩ => ?_, .inl ⟨i, oa⟩⟩
  · by_cases hj : j = i
    · subst hj; rw [List.getElem?_set_self hi] at q; cases q
    · rw [List.getElem?_set_ne (Ne.symm hj)] at q; exact g.val j b' d q
  · by_cases hj : j = i
    · subst hj; rw [List.getElem?_set_self hi] at q; cases q; cases q'
    · rw [List.getElem?_set_ne (Ne.symm hj)] at q; exact g.own j t dt q q'
  · by_cases hj : j = i
    · subst hj; rw [e] at q; cases q; cases l
    · exact ⟨t, by rw [List.getElem?_set_ne (Ne.symm hj)]; exact q, .refl t⟩
  · exact (old q).2 (g.dis j i a (old q).1 oa)
theorem GS.more {n : Nat} {τ : List (Option V)} (g : GS K F ρ σ H) (hn : τ.length = n) : GS K F (ρ ++ List.replicate n .unb) (σ ++ τ) H := by
  have get : ∀ {j : Nat} {t : Sl}, (ρ ++ List.replicate n Sl.unb)[j]? = some t → t ≠ .unb → ρ[j]? = some t ∧ j < ρ.length := fun {j t} q ne => by
    by_cases hj : j < ρ.length
    · rw [List.getElem?_append_left hj] at q; exact ⟨q, hj⟩
    · rw [List.getElem?_append_right (by omega), List.getElem?_replicate] at q
      split at q
      · cases q; exact absurd rfl ne
      · cases q
  have up : ∀ {j : Nat} {v : Option V}, j < ρ.length → (σ[j]? = some v ↔ (σ ++ τ)[j]? = some v) := fun {j v} hj => by rw [List.getElem?_append_left (by rw [← g.len]; exact hj)]
  have old : ∀ {j : Nat} {c : Addr}, OwnAt (ρ ++ List.replicate n .unb) (σ ++ τ) j c → OwnAt ρ σ j c := fun {j c} ⟨⟨t, dt, q1, q2⟩, q3⟩ => by
    obtain ⟨h1, h2⟩ := get q1 (by rintro rfl; cases q2)
    exact ⟨⟨t, dt, h1, q2⟩, (up h2).mpr q3⟩
  refine ⟨g.sub, by simp [g.len, hn], fun j b d q => ?_, fun j t dt q q' => ?_, fun j k c q1 q2 => g.dis j k c (old q1) (old q2)⟩
  · obtain ⟨h1, h2⟩ := get q (by simp)
    obtain ⟨v, e1, e2⟩ := g.val j b d h1
    exact ⟨v, (up h2).mp e1, e2⟩
  · obtain ⟨h1, h2⟩ := get q (by rintro rfl; cases q')
    obtain ⟨a, xs, e1, e2⟩ := g.own j t dt h1 q'
    exact ⟨a, xs, (up h2).mp e1, e2⟩
theorem Stp.less {n : Nat} {τ : List (Option V)} {m : Nat} (hm : m = ρ.length) (g : GS K F ρ σ H) (hn : τ.length = n) (s : Stp K F (ρ ++ List.replicate n .unb) (σ ++ τ) H F1 ρ1 σ1 H1) :
    Stp K F ρ σ H F1 (ρ1.take m) (σ1.take m) H1 ∧ ∀ v r, RepR K F1 ρ1 σ1 H1 (ρ ++ List.replicate n .unb) (σ ++ τ) H v r → RepR K F1 (ρ1.take m) (σ1.take m) H1 ρ σ H v r := by
  subst hm
  have l1 : ρ.length ≤ ρ1.length := by rw [s.len]; simp
  have l2 : ρ.length ≤ σ1.length := by rw [← s.gs.len]; exact l1
  have tk : ∀ {α : Type} {l : List α} {j : Nat} {x : α}, (l.take ρ.length)[j]? = some x → l[j]? = some x ∧ j < ρ.length := fun {α l j x} q => by
    rw [List.getElem?_take] at q
    split at q
    · exact ⟨q, by assumption⟩
    · cases q
  have kt : ∀ {α : Type} {l : List α} {j : Nat} {x : α}, j < ρ.length → l[j]? = some x → (l.take ρ.length)[j]? = some x := fun {α l j x} hj q => by rw [List.getElem?_take, if_pos hj]; exact q
  have oN : ∀ {c : Addr}, Own (ρ ++ List.replicate n .unb) (σ ++ τ) c → Own ρ σ c := fun {c} ⟨j, ⟨t, dt, q1, q2⟩, q3⟩ => by
    by_cases hj : j < ρ.length
    · rw [List.getElem?_append_left hj] at q1
      rw [List.getElem?_append_left (by rw [← g.len]; exact hj)] at q3
      exact ⟨j, ⟨t, dt, q1, q2⟩, q3⟩
    · rw [List.getElem?_append_right (by omega), List.getElem?_replicate] at q1
      split at q1
      · cases q1; cases q2
      · cases q1
  have oN' : ∀ {c : Addr}, Own ρ σ c → Own (ρ ++ List.replicate n .unb) (σ ++ τ) c := fun {c} ⟨j, ⟨t, dt, q1, q2⟩, q3⟩ => by
    have hj : j < ρ.length := (List.getElem?_eq_some_iff.mp q1).1
    exact ⟨j, ⟨t, dt, by rw [List.getElem?_append_left hj]; exact q1, q2⟩, by rw [List.getElem?_append_left (by rw [← g.len]; exact hj)]; exact q3⟩
  have o1 : ∀ {j : Nat} {c : Addr}, OwnAt (ρ1.take ρ.length) (σ1.take ρ.length) j c → OwnAt ρ1 σ1 j c := fun {j c} ⟨⟨t, dt, q1, q2⟩, q3⟩ => ⟨⟨t, dt, (tk q1).1, q2⟩, (tk q3).1⟩
  have w : ∀ {c : Addr} {h : Hp}, Own (ρ ++ List.replicate n .unb) (σ ++ τ) c ∨ h c = none → Own ρ σ c ∨ h c = none := fun {c h} q => q.imp oN id
  refine ⟨⟨⟨s.gs.sub, by simp only [List.length_take]; omega, fun j b d q => ?_, fun j t dt q q' => ?_, fun j k c q1 q2 => s.gs.dis j k c (o1 q1) (o1 q2)⟩, s.fsub, fun c a b => w (s.fgr c a b), fun c o q n => s.keep c o q fun x => n (oN x), fun c ⟨j, q⟩ => w (s.ogr c ⟨j, o1 q⟩), by simp only [List.length_take]; omega, fun j t q l => ?_⟩, fun v r h => ?_⟩
  · obtain ⟨h1, h2⟩ := tk q
    obtain ⟨v, e1, e2⟩ := s.gs.val j b d h1
    exact ⟨v, kt h2 e1, e2⟩
  · obtain ⟨h1, h2⟩ := tk q
    obtain ⟨a, xs, e1, e2⟩ := s.gs.own j t dt h1 q'
    exact ⟨a, xs, kt h2 e1, e2⟩
  · have hj : j < ρ.length := (List.getElem?_eq_some_iff.mp q).1
    obtain ⟨y1, t', y2, y3⟩ := s.lk j t (by rw [List.getElem?_append_left hj]; exact q) l
    rw [List.getElem?_append_left (by rw [← g.len]; exact hj)] at y1
    refine ⟨?_, t', kt hj y2, y3⟩
    rw [List.getElem?_take, if_pos hj]; exact y1
  · cases r with
    | val d => exact h
    | own es =>
      obtain ⟨x, xs, q1, q2, q3, q4, q5, q6⟩ := h
      exact ⟨x, xs, q1, q2, q3, q4, fun ⟨j, q⟩ => q5 ⟨j, o1 q⟩, w q6⟩
end
end HH
end
section
set_option linter.all false
set_option Elab.async false
set_option maxRecDepth 10000
namespace HH
open PySem L2 PySem.Spec PyProof.Rows
section
variable {X : Cx} {c : Call} {n : Nat} {e a b d : Expr} {p pa pb pd : P} {pos : Pos} {es : List Expr} {ps : List P}
noncomputable def tEvA (K : PySem.W.Frag) (f : List Sl → Res (List Arg)) : TA := fun σ H Q => ∃ F ρ as ρ', GS K F ρ σ H ∧ f ρ = .ok as ρ' ∧ ∀ vs F' H', Stp K F ρ σ H F' ρ' σ H' → AOk K F' ρ' σ H' ρ H as vs → Q vs H'
noncomputable def SG (X : Cx) (c : Call) (es : List Expr) (ps : List P) : Prop := PA X es (tEvA X.K (evA c ps))
theorem sg_nil : SG X c [] [] := paImp pa_nil fun σ H Q ⟨F, ρ, as, ρ', g, e, k⟩ => by rw [evA] at e; cases e; exact k [] F H (.refl g) .nil
theorem sg_cons (ha : SX X c a pa) (hr : SG X c es ps) (hs : starEach (a :: es) X.env = (false, eval a X.env) :: starEach es X.env := by rfl) : SG X c (a :: es) (pa :: ps) := by
  cases hv : isVar pa with
  | none =>
    refine paImp (pa_cons ha.ev hr hs) ?_
    rintro σ H Q ⟨F, ρ, as, ρ', g, e, k⟩
    rw [evA, hv] at e
    obtain ⟨r, ρ1, e1, e⟩ := bind_ok e
    obtain ⟨xs, ρ2, e2, e⟩ := bind_ok e
    cases e
    refine ⟨F, ρ, r, ρ1, g, e1, fun v F1 H1 s1 rr => ⟨F1, ρ1, xs, _, s1.gs, e2, fun vs F2 H2 s2 A => k _ F2 H2 (s1.trans s2) (AOk.consR s1 rr s2 A)⟩⟩
  | some i =>
    refine paImp (pa_cons (ha.var i hv) hr hs) ?_
    rintro σ H Q ⟨F, ρ, as, ρ', g, e, k⟩
    rw [evA, hv] at e
    obtain ⟨x0, ρ0, e0, e⟩ := bind_ok e
    obtain ⟨e00, e01⟩ := lift_ok e0
    subst e01
    obtain ⟨xs, ρ2, e2, e⟩ := bind_ok e
    cases e
    obtain ⟨v, h1, _⟩ := g.pk e00
    exact ⟨v, h1, F, ρ, xs, _, g, e2, fun vs F2 H2 s2 A => k _ F2 H2 s2 (.cons h1 A fun ds x z => by cases z)⟩
theorem sx_call {k f : Nat} {fa : Addr} {fd : FuncData} {qs : List Str} {x : Str} {p' : Pos} (Fn : FnOk X.prog X.w X.K X.mg X.base CX0 k fa fd qs (spC X.K qs.length (c f))) (hr : Room k X.A) (hg : Gl X x) (hm : X.mg x = some (.ref fa)) (hk : PySem.W.keepIn X.K (.ref fa) = true)
    (hb : Binds X.K fd qs []) (ha : SG X c (e :: es) ps) (hl : (e :: es).length = qs.length) (hdb : (x == ("__debug__" : Str)) = false := by decide) (he : starEach (e :: es) X.env = (false, eval e X.env) :: starEach es X.env := by rfl) (hpl : (backTo pos (starEach es X.env)).any (·.1) = false := by rfl)
    (hl2 : ps.length = (e :: es).length := by rfl) : SX X c (.Call (.Name x p') (e :: es) [] pos) (.call f ps) := by
  refine ⟨peImp (pe_call (E := E0) Fn hr hg hm hk hb .nil pass0 ha hdb he hpl) ?_, fun i h => by cases h⟩
  rintro σ H Q ⟨F, ρ, r, ρ', g, e, k⟩
  rw [HH.ev] at e
  obtain ⟨as, ρ1, e1, e⟩ := bind_ok e
  unfold doCall at e
  split at e
  · cases e
  · rename_i args hb'
    split at e
    · rename_i r' args' hc
      cases e
      refine ⟨F, ρ, as, ρ1, g, e1, fun vs F1 H1 s1 A => ?_⟩
      have hlen : vs.length = qs.length := by
        have : ∀ {ps : List P} {ρ ρ' : List Sl} {as : List Arg}, evA c ps ρ = .ok as ρ' → as.length = ps.length := by
          intro ps
          induction ps with
          | nil => intro ρ ρ' as h; rw [evA] at h; cases h; rfl
          | cons q qs ih =>
            intro ρ ρ' as h
            rw [evA] at h
            split at h
            · obtain ⟨_, _, _, h⟩ := bind_ok h
              obtain ⟨xs, ρ2, h2, h⟩ := bind_ok h
              cases h; simp [ih h2]
            · obtain ⟨_, _, _, h⟩ := bind_ok h
              obtain ⟨xs, ρ2, h2, h⟩ := bind_ok h
              cases h; simp [ih h2]
        rw [← A.len, this e1, hl2, hl]
      show spC X.K qs.length (c f) (vs ++ []) H1 Q E0
      rw [List.append_nil]
      refine ⟨hlen, F1, args, r, args', args_gs s1.gs A hb', hc, fun v F' σ' H' s rr => ?_⟩
      obtain ⟨z1, z2⟩ := call_stp s1 A hb' s
      exact k v F' H' z1 (z2 v r rr)
    · cases e
    · cases e
noncomputable def tEx (K : PySem.W.Frag) (f : List Sl → Res Fl) : TS := fun D σ H => ∃ F ρ fl ρ', GS K F ρ σ H ∧ f ρ = .ok fl ρ' ∧ ∀ F' σ' H', Stp K F ρ σ H F' ρ' σ' H' → (match fl with
  | .next => D.nx σ' H'
  | .brk => D.bk σ' H'
  | .cont => D.ct σ' H'
  | .ret r => ∀ v, RepR K F' ρ' σ' H' ρ σ H v r → D.rt v H')
noncomputable def SS (X : Cx) (c : Call) (n : Nat) (st : Stmt) (s : S) : Prop := PS X st (tEx X.K (ex c n s))
noncomputable def SB (X : Cx) (c : Call) (n : Nat) (st : List Stmt) (s : List S) : Prop := PSs X st (tEx X.K (exs c n s))
theorem psImp {st : Stmt} {t t' : TS} (h : PS X st t) (i : ∀ D σ H, t' D σ H → t D σ H) : PS X st t' := fun pins s σ H D I q => h pins s σ H D I (i D σ H q)
theorem pssImp {st : List Stmt} {t t' : TS} (h : PSs X st t) (i : ∀ D σ H, t' D σ H → t D σ H) : PSs X st t' := fun pins s σ H D I q => h pins s σ H D I (i D σ H q)
theorem sb_nil : SB X c n [] [] := pssImp pss_nil fun D σ H ⟨F, ρ, fl, ρ', g, e, k⟩ => by rw [exs] at e; cases e; exact k F σ H (.refl g)
theorem sb_cons {st : Stmt} {s : S} {sts : List Stmt} {ss : List S} (h1 : SS X c n st s) (h2 : SB X c n sts ss) : SB X c n (st :: sts) (s :: ss) := by
  refine pssImp (pss_cons h1 h2) ?_
  rintro D σ H ⟨F, ρ, fl, ρ', g, e, k⟩
  rw [exs] at e
  obtain ⟨f1, ρ1, e1, e⟩ := bind_ok e
  cases f1 with
  | next =>
    refine ⟨F, ρ, .next, ρ1, g, e1, fun F1 σ1 H1 s1 => ⟨F1, ρ1, fl, ρ', s1.gs, e, fun F2 σ2 H2 s2 => ?_⟩⟩
    have q := k F2 σ2 H2 (s1.trans s2)
    cases fl with
    | next => exact q
    | brk => exact q
    | cont => exact q
    | ret r => exact fun v rr => q v (rr.later s1)
  | brk => cases e; exact ⟨F, ρ, .brk, _, g, e1, k⟩
  | cont => cases e; exact ⟨F, ρ, .cont, _, g, e1, k⟩
  | ret r => cases e; exact ⟨F, ρ, .ret r, _, g, e1, k⟩
theorem ss_expr (he : SX X c e p) (hs : swapsWith e none pos.line X.env = pure false := by rfl) : SS X c n (.Expr e pos) (.expr p) := by
  refine psImp (ps_expr he.ev hs) ?_
  rintro D σ H ⟨F, ρ, fl, ρ', g, e, k⟩
  rw [ex] at e
  obtain ⟨r, ρ1, e1, e⟩ := bind_ok e
  cases e
  exact ⟨F, ρ, r, _, g, e1, fun v F1 H1 s1 rr => k F1 σ H1 s1⟩
theorem ss_ret (he : SX X c e p) : SS X c n (.Return (some e) pos) (.ret p) := by
  have plain : ∀ (D : Ends) (σ : L2.St) (H : Hp), (∃ F ρ fl ρ', GS X.K F ρ σ H ∧ ((HH.ev c p ρ).bind fun r ρ => .ok (Fl.ret r) ρ) = .ok fl ρ' ∧ ∀ F' σ' H', Stp X.K F ρ σ H F' ρ' σ' H' → (match fl with
      | .next => D.nx σ' H' | .brk => D.bk σ' H' | .cont => D.ct σ' H' | .ret r => ∀ v, RepR X.K F' ρ' σ' H' ρ σ H v r → D.rt v H')) → tEv X.K (HH.ev c p) σ H D.rt := fun D σ H ⟨F, ρ, fl, ρ', g, e, k⟩ => by
    obtain ⟨r, ρ1, e1, e⟩ := bind_ok e
    cases e
    exact ⟨F, ρ, r, _, g, e1, fun v F1 H1 s1 rr => k F1 σ H1 s1 v rr⟩
  cases hv : isVar p with
  | none =>
    refine psImp (ps_ret he.ev) fun D σ H ⟨F, ρ, fl, ρ', g, e, k⟩ => plain D σ H ⟨F, ρ, fl, ρ', g, ?_, k⟩
    rw [ex, hv] at e
    exact e
  | some i =>
    -- by the name itself: its own list is handed back, else its data
    have hp : p = .var i := by cases p <;> cases hv; rfl
    subst hp
    refine psImp (ps_ret (he.var i hv)) ?_
    rintro D σ H ⟨F, ρ, fl, ρ', g, e, k⟩
    rw [ex, hv] at e
    dsimp only at e
    split at e
    · rename_i ds q
      cases e
      obtain ⟨v, h1, h2, h3⟩ := g.give q
      exact ⟨v, h1, k F σ H h2 v h3⟩
    · obtain ⟨r, ρ1, e1, e⟩ := bind_ok e
      cases e
      rw [HH.ev] at e1
      split at e1
      · rename_i b d q
        cases e1
        obtain ⟨v, h1, h2⟩ := g.val i b d q
        exact ⟨v, h1, k F σ H (.refl g) v h2⟩
      · rename_i b ds q
        cases e1
        obtain ⟨v, F', h1, h2, h3⟩ := g.freeze q
        exact ⟨v, h1, k F' σ H h2 v h3⟩
      · cases e1
theorem ss_if {sa sb : List Stmt} {ta tb : List S} (hc : ST X c e p) (ha : SB X c n sa ta) (hb : SB X c n sb tb) : SS X c n (.If e sa sb pos) (.ifs p ta tb) := by
  refine psImp (ps_if hc ha hb) ?_
  rintro D σ H ⟨F, ρ, fl, ρ', g, e, k⟩
  rw [ex] at e
  obtain ⟨x, ρ1, e1, e⟩ := bind_ok e
  refine ⟨F, ρ, x, ρ1, g, e1, fun F1 H1 s1 => ?_⟩
  have go : ∀ {f : List Sl → Res Fl}, f ρ1 = .ok fl ρ' → tEx X.K f D σ H1 := fun {f} h => ⟨F1, ρ1, fl, ρ', s1.gs, h, fun F2 σ2 H2 s2 => by
    have q := k F2 σ2 H2 (s1.trans s2)
    cases fl with
    | next => exact q
    | brk => exact q
    | cont => exact q
    | ret r => exact fun v rr => q v (rr.later s1)⟩
  cases x with
  | true => rw [if_pos rfl] at e; exact go e
  | false => rw [if_neg Bool.false_ne_true] at e; exact go e
theorem ss_asg {i : Nat} {x : Str} {pos' : Pos} (hN : X.N.Nodup) (hi : X.N[i]? = some x) (hx : Loc X.env.scope x) (he : SX X c e p) (hs : swapsWith e (some (.Name x pos')) pos.line X.env = pure false := by rfl) (hf : X.fn x = true ∨ X.env.scope.names.lookup x = some .local := by first | exact .inl rfl | exact .inr rfl | assumption) :
    SS X c n (.Assign [.Name x pos'] e pos) (.asg i p) := by
  refine psImp (ps_set hN hi hx he.ev hs hf) ?_
  rintro D σ H ⟨F, ρ, fl, ρ', g, e, k⟩
  rw [ex] at e
  obtain ⟨r, ρ1, e1, e⟩ := bind_ok e
  obtain ⟨ρ2, ρ3, e2, e⟩ := bind_ok e
  cases e
  have zz := lift_ok e2; clear e2; obtain ⟨e2, e3⟩ := zz
  exact ⟨F, ρ, r, ρ1, g, e1, fun v F1 H1 s1 rr => k F1 _ H1 (s1.put rr e2)⟩
end
end HH
end
section
set_option linter.all false
set_option Elab.async false
set_option maxRecDepth 10000
namespace L2
open PySem PySem.Spec PyProof.Rows
noncomputable def cxC (X : Cx) (scope : Scope) (N' : List Str) (cl : List (Str × Addr)) (C : Addr) (s₀ : Shared) (H₀ : Hp) (ex : List Addr) : Cx :=
  { X with N := N', s₀ := s₀, H₀ := H₀, env := compEnvC scope cl C X.env, outer := X.stack, stack := X.stack, ex := ex, fn := fun x => scope.names.lookup x == some .cell, pn := [], xe := fun _ _ => False }
theorem closure_go {env : Env} (l : List (Str × NameKind)) : ∀ (cs : List (Str × Addr)), (∀ n, (n, NameKind.free) ∈ l → ∃ c, env.cells.lookup n = some c) → (∀ n c, cs.lookup n = some c → env.cells.lookup n = some c) →
    ∃ cl, (forIn l cs (fun (x : Str × NameKind) (r : List (Str × Addr)) => (if (x.2 == NameKind.free) = true then (do let a ← cellOf env x.1; pure (ForInStep.yield ((x.1, a) :: r))) else pure (ForInStep.yield r) : Sem (ForInStep (List (Str × Addr))))) : Sem (List (Str × Addr))) = pure cl ∧
      (∀ n c, cl.lookup n = some c → env.cells.lookup n = some c) ∧ (∀ n, ((n, NameKind.free) ∈ l ∨ (cs.lookup n).isSome) → (cl.lookup n).isSome) := by
  induction l with
  | nil => intro cs _ h; exact ⟨cs, rfl, h, fun n hn => by rcases hn with hn | hn; cases hn; exact hn⟩
  | cons y l ih =>
    obtain ⟨n, k⟩ := y
    intro cs hl hc
    rw [List.forIn_cons]
    by_cases hk : k = .free
    · subst hk
      obtain ⟨a, ha⟩ := hl n List.mem_cons_self
      obtain ⟨cl, e, h1, h2⟩ := ih ((n, a) :: cs) (fun m hm => hl m (List.mem_cons_of_mem _ hm)) fun m c hm => by
        rw [List.lookup_cons] at hm
        split at hm
        · rename_i q; have q := eq_of_beq q; subst q; cases hm; exact ha
        · exact hc m c hm
      refine ⟨cl, ?_, h1, fun m hm => h2 m ?_⟩
      · rw [← e]
        have : cellOf env n = pure a := by unfold cellOf; rw [ha]
        simp only [beq_self_eq_true, if_true, this]
        rfl
      · rcases hm with hm | hm
        · rcases List.mem_cons.mp hm with hm | hm
          · cases hm; right; simp [List.lookup_cons]
          · exact .inl hm
        · right
          rw [List.lookup_cons]
          split
          · rfl
          · exact hm
    · obtain ⟨cl, e, h1, h2⟩ := ih cs (fun m hm => hl m (List.mem_cons_of_mem _ hm)) hc
      refine ⟨cl, ?_, h1, fun m hm => h2 m ?_⟩
      · rw [← e]
        have : (k == NameKind.free) = false := by simpa using hk
        simp only [this, Bool.false_eq_true, if_false]
        rfl
      · rcases hm with hm | hm
        · rcases List.mem_cons.mp hm with hm | hm
          · cases hm; exact absurd rfl hk
          · exact .inl hm
        · exact .inr hm
theorem closure_ok {env : Env} {scope : Scope} (hl : ∀ n, (n, NameKind.free) ∈ scope.names → ∃ c, env.cells.lookup n = some c) :
    ∃ cl, closureFor scope env = pure cl ∧ (∀ n c, cl.lookup n = some c → env.cells.lookup n = some c) ∧ ∀ n, (n, NameKind.free) ∈ scope.names → (cl.lookup n).isSome := by
  obtain ⟨cl, e, h1, h2⟩ := closure_go (env := env) scope.names [] hl (by simp)
  refine ⟨cl, ?_, h1, fun n hn => h2 n (.inl hn)⟩
  unfold closureFor
  exact (congrArg (fun t => t >>= fun r => pure r) e).trans rfl
theorem relabel_lookup {env : Env} : ∀ (names : List (Str × NameKind)) (x : Str),
    (names.map fun (n, k) => if (k == NameKind.free && env.scope.kind == .function && env.kindOf n == some .cell) then (n, NameKind.cell) else (n, k)).lookup x =
      (names.lookup x).map fun k => if (k == NameKind.free && env.scope.kind == .function && env.kindOf x == some .cell) = true then NameKind.cell else k
  | [], x => rfl
  | (n, k) :: r, x => by
    have ih := relabel_lookup (env := env) r x
    show List.lookup x ((if (k == NameKind.free && env.scope.kind == .function && env.kindOf n == some .cell) = true then (n, NameKind.cell) else (n, k)) :: _) = _
    by_cases hc : (k == NameKind.free && env.scope.kind == .function && env.kindOf n == some .cell) = true
    · rw [if_pos hc, List.lookup_cons, List.lookup_cons]
      cases hx : x == n with
      | true =>
        have := eq_of_beq hx
        subst this
        show some NameKind.cell = some (if _ then _ else _)
        rw [if_pos hc]
      | false => exact ih
    · rw [if_neg hc, List.lookup_cons, List.lookup_cons]
      cases hx : x == n with
      | true =>
        have := eq_of_beq hx
        subst this
        show some k = some (if _ then _ else _)
        rw [if_neg hc]
      | false => exact ih
noncomputable def sameB (N N' : List Str) (sc : Scope) : Bool := (N.zip N').all fun p => (p.1 == p.2 && sc.names.lookup p.2 == some .free) || (sc.names.lookup p.2 != some .local && sc.names.lookup p.2 != some .cell && sc.names.lookup p.2 != some .free)
structure CompOk (X : Cx) (scope : Scope) (N' : List Str) (n : Nat) : Prop where
  kind : scope.kind = .function
  cons : ∀ y ∈ scope.names, scope.names.lookup y.1 = some y.2
  names : ∀ y ∈ scope.names, y.2 = .local → scope.names.lookup y.1 = some .local
  cap : ∀ y ∈ scope.names, y.2 = .free → X.env.scope.names.lookup y.1 = some .cell ∨ X.env.scope.names.lookup y.1 = some .free
  len : N'.length = X.N.length + n
  same : sameB X.N N' scope = true
theorem CompOk.get {X : Cx} {scope : Scope} {N' : List Str} {n : Nat} (c : CompOk X scope N' n) {i : Nat} {x : Str} (hi : i < X.N.length) (h : N'[i]? = some x) (hv : Vis (relabel scope X.env) x) : X.N[i]? = some x ∧ scope.names.lookup x = some .free := by
  have hz : (X.N.zip N')[i]? = some (X.N[i], x) := by
    rw [List.getElem?_zip_eq_some]
    exact ⟨by simp [hi], h⟩
  have := (List.all_eq_true.mp c.same) _ (List.mem_of_getElem? hz)
  simp only [Bool.or_eq_true, Bool.and_eq_true] at this
  rcases this with ⟨h1, h2⟩ | ⟨⟨h1, h2⟩, h3⟩
  · have h1 := eq_of_beq h1
    have h2 := eq_of_beq h2
    exact ⟨by simp [hi, h1], h2⟩
  · exfalso
    have h1 : scope.names.lookup x ≠ some .local := by simpa using h1
    have h2 : scope.names.lookup x ≠ some .cell := by simpa using h2
    have h3 : scope.names.lookup x ≠ some .free := by simpa using h3
    have e := relabel_lookup (env := X.env) scope.names x
    have hv : (relabel scope X.env).names.lookup x = some .local ∨ (relabel scope X.env).names.lookup x = some .cell ∨ (relabel scope X.env).names.lookup x = some .free := hv
    rw [show (relabel scope X.env).names.lookup x = _ from e] at hv
    cases q : scope.names.lookup x with
    | none => rw [q] at hv; simp at hv
    | some k =>
      rw [q] at hv h1 h2 h3
      have hk : (k == NameKind.free) = false := by
        cases k <;> first | rfl | exact absurd rfl h3
      simp only [Option.map_some, hk, Bool.false_and, Bool.false_eq_true, if_false, Option.some.injEq] at hv
      rcases hv with rfl | rfl | rfl
      · exact h1 rfl
      · exact h2 rfl
      · exact h3 rfl
end L2
namespace L2
open PySem PySem.Spec PyProof.Rows
structure CI (cl : List (Str × Addr)) (z : Nat) (h : Heap) (acc : List (Str × Addr)) : Prop where
  from' : ∀ n c, acc.lookup n = some c → cl.lookup n = some c ∨ (z ≤ c ∧ h.IsCell c none)
  inj : ∀ n n' c, acc.lookup n = some c → acc.lookup n' = some c → n = n'
theorem cf_ok {cl : List (Str × Addr)} {z : Nat} (hcl : ∀ n c, cl.lookup n = some c → c < z) : ∀ (names : List (Str × NameKind)) (h : Heap) (acc : List (Str × Addr)), z ≤ h.objs.size → CI cl z h acc →
    CI cl z (pushCells h names) (cellsFrom h.objs.size names acc) ∧ (∀ n, (acc.lookup n).isSome → ((cellsFrom h.objs.size names acc).lookup n).isSome) ∧
    (∀ n, ((∃ c, acc.lookup n = some c ∧ z ≤ c) ∨ (n, NameKind.cell) ∈ names) → ∃ c, (cellsFrom h.objs.size names acc).lookup n = some c ∧ z ≤ c) ∧
    (∀ n c, (n, NameKind.cell) ∉ names → (cellsFrom h.objs.size names acc).lookup n = some c → acc.lookup n = some c)
  | [], h, acc, hz, x => by
    refine ⟨x, fun _ q => q, fun n q => ?_, fun _ _ _ q => q⟩
    rcases q with q | q
    · exact q
    · cases q
  | (name, kind) :: r, h, acc, hz, x => by
    unfold pushCells cellsFrom
    by_cases hk : kind = .cell
    · subst hk
      rw [if_pos (by rfl), if_pos (by rfl)]
      have hx : CI cl z (h.push { cls := .type "cell", data := .cell none }) ((name, h.objs.size) :: acc) := by
        have lt : ∀ n c, acc.lookup n = some c → c < h.objs.size := fun n c e => by
          rcases x.from' n c e with q | q
          · exact Nat.lt_of_lt_of_le (hcl n c q) hz
          · exact q.2.lt
        refine ⟨fun n c e => ?_, fun n n' c e e' => ?_⟩
        · rw [List.lookup_cons] at e
          split at e
          · cases e; exact .inr ⟨hz, _, Heap.get?_push_size _ rfl, rfl⟩
          · rcases x.from' n c e with q | q
            · exact .inl q
            · exact .inr ⟨q.1, q.2.keeps fun b o e => Heap.get?_push_of_some _ e⟩
        · rw [List.lookup_cons] at e e'
          split at e <;> split at e'
          · rename_i _ a _ b; rw [eq_of_beq a, eq_of_beq b]
          · cases e; exact absurd (lt n' _ e') (Nat.lt_irrefl _)
          · cases e'; exact absurd (lt n _ e) (Nat.lt_irrefl _)
          · exact x.inj n n' c e e'
      have ih := cf_ok hcl r (h.push { cls := .type "cell", data := .cell none }) ((name, h.objs.size) :: acc) (by rw [Heap.size_push]; omega) hx
      rw [Heap.size_push] at ih
      refine ⟨ih.1, fun n q => ih.2.1 n ?_, fun n q => ih.2.2.1 n ?_, fun n c q e => ?_⟩
      · rw [List.lookup_cons]; split
        · rfl
        · exact q
      · rcases q with ⟨c, e, hc⟩ | q
        · left
          rw [List.lookup_cons]; split
          · exact ⟨_, rfl, hz⟩
          · exact ⟨c, e, hc⟩
        · rcases List.mem_cons.mp q with q | q
          · cases q; left; exact ⟨_, by simp [List.lookup_cons], hz⟩
          · exact .inr q
      · have := ih.2.2.2 n c (fun z => q (List.mem_cons_of_mem _ z)) e
        rw [List.lookup_cons] at this
        split at this
        · rename_i a; exact absurd (by rw [eq_of_beq a]; exact List.mem_cons_self) q
        · exact this
    · have hk' : (kind == NameKind.cell) = false := by simpa using hk
      rw [if_neg (by rw [hk']; decide), if_neg (by rw [hk']; decide)]
      have ih := cf_ok hcl r h acc hz x
      refine ⟨ih.1, ih.2.1, fun n q => ih.2.2.1 n ?_, fun n c q e => ih.2.2.2 n c (fun z => q (List.mem_cons_of_mem _ z)) e⟩
      rcases q with q | q
      · exact .inl q
      · rcases List.mem_cons.mp q with q | q
        · cases q; exact absurd rfl hk
        · exact .inr q
structure BlockC (X : Cx) (scope : Scope) (z : Nat) (h : Heap) (cs : List (Str × Addr)) : Prop where
  from' : ∀ n c, cs.lookup n = some c → X.env.cells.lookup n = some c ∨ (z < c ∧ h.IsCell c none)
  inj : ∀ n n' c, cs.lookup n = some c → cs.lookup n' = some c → n = n'
  has : ∀ n, (scope.names.lookup n = some .free ∨ scope.names.lookup n = some .cell) → ∃ c, cs.lookup n = some c
  fre : ∀ n c, scope.names.lookup n = some .free → cs.lookup n = some c → X.env.cells.lookup n = some c
  own : ∀ n c, scope.names.lookup n = some .cell → cs.lookup n = some c → z < c
theorem nfe_cells {M : Model} {A : Around} {E : Value → Shared → Prop} {X : Cx} {s : Shared} {scope : Scope} {N' : List Str} {n : Nat} {cl : List (Str × Addr)} {Q : Env → Shared → Prop} (ok : CompOk X scope N' n) (hlt : ∀ n c, X.env.cells.lookup n = some c → c < s.heap.objs.size)
    (hinj : ∀ x y c, X.env.cells.lookup x = some c → X.env.cells.lookup y = some c → x = y)
    (hcl : ∀ n c, cl.lookup n = some c → X.env.cells.lookup n = some c) (hcl2 : ∀ n, (n, NameKind.free) ∈ scope.names → (cl.lookup n).isSome)
    (hQ : ∀ cs h', h'.Ns s.heap.objs.size (fun _ => none) → (∀ b o, s.heap.get? b = some o → h'.get? b = some o) → BlockC X scope s.heap.objs.size h' cs →
      Q { scope := scope, locals := s.heap.objs.size, globals := X.env.globals, cells := cs, qual := X.env.qual, func := none, code := X.env.code, frame := X.env.frame, builtins := X.env.builtins } { s with heap := h' }) :
    wpAny M A (newFunctionEnv scope X.env.globals cl [] X.env.qual none .none (some X.env)) Q E s := by
  simp only [newFunctionEnv, Option.isSome_some, if_true]
  refine wpAny_bind (wpAny_alloc ?_)
  refine wpAny_bind (wpAny_layCells _ (fun name kind cells => by cases hkc : kind == NameKind.cell <;> simp [hkc]) _ _ _ _ ?_)
  have ck := cf_ok (cl := cl) (z := s.heap.objs.size + 1) (fun n c e => Nat.lt_succ_of_lt (hlt n c (hcl n c e))) scope.names (s.heap.push { cls := .type "dict", data := .dict #[] }) cl (by rw [Heap.size_push]; exact Nat.le_refl _)
    ⟨fun n c e => .inl e, fun n n' c e e' => hinj n n' c (hcl n c e) (hcl n' c e')⟩
  obtain ⟨c1, c2, c3, c4⟩ := ck
  rw [show ({ s with heap := s.heap.push { cls := .type "dict", data := .dict #[] } } : Shared).heap.objs.size = (s.heap.push { cls := .type "dict", data := .dict #[] }).objs.size from rfl]
  refine wpAny_bind ?_
  rw [List.forIn_nil]
  refine wpAny_pure (wpAny_pure (hQ _ _ ((Heap.Ns.new s.heap (.type "dict")).keeps (pushCells_keeps _ _)) (fun b o e => pushCells_keeps _ _ b o (Heap.get?_push_of_some _ e)) ⟨fun n c e => ?_, c1.inj, fun n q => ?_, fun n c q e => ?_, fun n c q e => ?_⟩))
  · rcases c1.from' n c e with z | z
    · exact .inl (hcl n c z)
    · exact .inr ⟨z.1, z.2⟩
  · rcases q with q | q
    · exact Option.isSome_iff_exists.mp (c2 n (hcl2 n (PySem.mem_of_lookup q)))
    · obtain ⟨c, e, _⟩ := c3 n (.inr (PySem.mem_of_lookup q))
      exact ⟨c, e⟩
  · refine hcl n c (c4 n c (fun z => ?_) e)
    have := ok.cons _ z
    rw [q] at this; cases this
  · obtain ⟨c', e', hc'⟩ := c3 n (.inr (PySem.mem_of_lookup q))
    rw [e] at e'; cases e'
    exact hc'
section
variable {X : Cx} {pins : List (Addr × Obj)} {σ : L2.St} {H : Hp} {s : Shared} {scope : Scope} {N' : List Str} {n : Nat} {fp : List Addr} {cl : List (Str × Addr)}
theorem inv_comp {h1 : Heap} {m : Str → Option Value} {t : Nat} {cs : List (Str × Addr)} (ok : CompOk X scope N' n) (I : Inv X pins σ H s) (hf : ∀ b ∈ fp, FpOk X pins H b ∧ b < s.heap.objs.size) (bc : BlockC X scope s.heap.objs.size h1 cs)
    (hn : h1.Ns s.heap.objs.size m) (old : ∀ b u, s.heap.get? b = some u → h1.get? b = some u) :
    Inv (cxC X scope N' cs s.heap.objs.size s H fp) [] (σ ++ List.replicate n none) H { s with heap := h1, toks := t } := by
  have kindC : ∀ x, scope.names.lookup x = some .free → (relabel scope X.env).names.lookup x = some .cell ∨ (relabel scope X.env).names.lookup x = some .free := fun x h => by
    have e := relabel_lookup (env := X.env) scope.names x
    rw [h] at e
    have e' : (relabel scope X.env).names.lookup x = _ := e
    rw [e']
    simp only [Option.map_some]
    split
    · exact .inl rfl
    · exact .inr rfl
  refine ⟨⟨I.ok.mod, ok.kind, I.ok.glob, I.ok.blt, Nat.le_refl _, fun x y c h1 h2 => bc.inj x y c h1 h2, fun x hx => ?_, fun x c h e => Nat.le_of_lt (bc.own x c (eq_of_beq (show (scope.names.lookup x == some NameKind.cell) = true from h)) e), I.ok.hd, I.ok.frames, .inl rfl, fun b hb => ?_, I.bs, Nat.le_trans I.ok.bsz I.sz, fun b u e hb => ?_, fun b hb hfs => ?_, I.stack, I.stkFree⟩,
    rfl, I.bare, Un.kept old, ⟨m, hn, fun i x v e1 e2 hv => ?_⟩, fun x c e => ?_, I.hok.fresh (Nat.le_refl _), fun x c e => ?_, fun p hp => (by cases hp), I.hok.kept old, ?_⟩
  · -- a captured name has its cell
    have hx : (relabel scope X.env).names.lookup x = some .cell ∨ (relabel scope X.env).names.lookup x = some .free := hx
    have e := relabel_lookup (env := X.env) scope.names x
    have e' : (relabel scope X.env).names.lookup x = _ := e
    rw [e'] at hx
    refine bc.has x ?_
    cases q : scope.names.lookup x with
    | none => rw [q] at hx; simp at hx
    | some k =>
      rw [q] at hx
      by_cases hk : k = .free
      · rw [hk]; exact .inl rfl
      · have hk' : (k == NameKind.free) = false := by simpa using hk
        simp only [Option.map_some, hk', Bool.false_and, Bool.false_eq_true, if_false, Option.some.injEq] at hx
        rcases hx with rfl | rfl
        · exact .inr rfl
        · exact absurd rfl hk
  · obtain ⟨f, lt⟩ := hf b hb
    refine ⟨Nat.ne_of_lt lt, fun x c e => ?_⟩
    rcases bc.from' x c e with e | e
    · exact f.2.2.2.2.1 x c e
    · rintro rfl; exact absurd (Nat.lt_trans e.1 lt) (Nat.lt_irrefl _)
  · obtain ⟨f, lt⟩ := hf b hb
    rcases f.2.2.2.1 with h | h
    · exact I.ok.noex b u e h
    · have this : b < X.base.objs.size := Heap.lt_size e
      exact absurd (Nat.lt_of_lt_of_le this (Nat.le_trans I.ok.bsz h)) (Nat.lt_irrefl _)
  · obtain ⟨f, lt⟩ := hf b hb
    rcases List.mem_cons.mp (I.stkSub b hfs) with h | h
    · exact f.2.1 h
    · exact f.2.2.1 h
  · -- the names
    have hi : i < σ.length := by
      by_cases hi : i < σ.length
      · exact hi
      · rw [List.getElem?_append_right (by omega), List.getElem?_replicate] at e2
        split at e2 <;> cases e2
    rw [List.getElem?_append_left hi] at e2
    obtain ⟨h1', h2'⟩ := ok.get (by rw [← I.len]; exact hi) e1 hv
    have hk := ok.cap (x, .free) (PySem.mem_of_lookup h2') rfl
    obtain ⟨m0, hn0, hl⟩ := I.loc
    obtain ⟨u, r, l⟩ := hl i x v h1' e2 (.inr hk)
    refine ⟨u, r, .inr ⟨kindC x h2', ?_⟩⟩
    rcases l with ⟨hk', _⟩ | ⟨_, c, hc, hcell⟩
    · have hk' : X.env.scope.names.lookup x = some .local := hk'
      rcases hk with hk | hk <;> (rw [hk'] at hk; cases hk)
    · obtain ⟨c', hc'⟩ := bc.has x (.inl h2')
      have := bc.fre x c' h2' hc'
      rw [hc] at this; cases this
      refine ⟨c, hc', ?_⟩
      obtain ⟨oc, e3, e4⟩ := hcell
      exact ⟨oc, old c oc e3, e4⟩
  · rcases bc.from' x c e with e | e
    · obtain ⟨v, oc, e3, e4⟩ := I.cell x c e
      exact ⟨v, oc, old c oc e3, e4⟩
    · exact ⟨_, e.2⟩
  · rcases bc.from' x c e with e | e
    · exact I.freeC x c e
    · exact I.hok.fresh (Nat.le_of_lt e.1)
  · show (σ ++ List.replicate n none).length = N'.length
    rw [List.length_append, List.length_replicate, I.len, ok.len]
theorem compLoop_any {prog : Program} {w : World} {A : Around} {R : Result → Shared → Prop} {elt target iter : Expr} {ifs : List Expr} {scope : Scope} {pos : Pos} {it acc : Value} {env : Env} (I : Nat → Shared → Prop)
    (turn : ∀ n s, I n s → wpAny (model prog w) A (pyNext it) (fun r s₁ => match r with
      | none => R (.ok .next) s₁
      | some v => wpAny (model prog w) A (letOwnedTupleGo target it v) (fun _ s₁ => wpAny (model prog w) A (assign target env v) (fun _ s₂ =>
          wpAny (model prog w) A (forIn ifs true fun c r => if r = true then do let ok ← isTrue c env (eval c env); pure (ForInStep.yield ok) else pure (ForInStep.yield r)) (fun ok s₃ =>
            if ok = true then wpAny (model prog w) A (eval elt env) (fun x s₄ =>
              wpAny (model prog w) A (call (.builtin "list.append") [acc, x]) (fun _ s₅ => ∃ m, m < n ∧ I m s₅) (notedBy (model prog w) A env fun e s' => R (.error e) s') s₄) (notedBy (model prog w) A env fun e s' => R (.error e) s') s₃
            else ∃ m, m < n ∧ I m s₃) (notedBy (model prog w) A env fun e s' => R (.error e) s') s₂) (notedBy (model prog w) A env fun e s' => R (.error e) s') s₁) (notedBy (model prog w) A env fun e s' => R (.error e) s') s₁) (notedBy (model prog w) A env fun e s' => R (.error e) s') s)
    (n : Nat) {s : Shared} (h : I n s) :
    codeAny (model prog w) A (.compLoop (.ListComp elt [⟨target, iter, ifs, 0⟩] scope pos) 0 it acc env) R s := by
  refine codeAny_loop rfl I (fun n s hI => ?_) n h
  show wpAny _ A ((compTurn (.ListComp elt [⟨target, iter, ifs, 0⟩] scope pos) 0 it acc env).onRaise (fun x => do noteFrame x env; theTreesLotGoes x)) _ _ s
  refine wpAny_noted ?_
  rw [compTurn_list]
  refine wpAny_bind (wpAny_standAt (wpAny_bind (wpAny_mono (turn n s hI) (fun r s₁ h₁ => ?_) fun _ _ h' => h')))
  cases r with
  | none => exact wpAny_pure h₁
  | some v =>
    refine wpAny_bind (wpAny_mono h₁ (fun _ s₁ h₁ => ?_) fun _ _ h' => h')
    refine wpAny_bind (wpAny_mono h₁ (fun _ s₂ h₂ => wpAny_bind (wpAny_mono h₂ (fun ok s₃ h₃ => ?_) fun _ _ h' => h')) fun _ _ h' => h')
    cases ok with
    | false => exact wpAny_pure ⟨rfl, h₃⟩
    | true =>
      exact wpAny_bind (wpAny_bind (wpAny_mono h₃ (fun x s₄ h₄ => wpAny_bind (wpAny_mono h₄ (fun _ s₅ h₅ => wpAny_pure (wpAny_pure ⟨rfl, h₅⟩)) fun _ _ h' => h')) fun _ _ h' => h'))
noncomputable def PTs (X : Cx) (ifs : List Expr) (t : TT) : Prop :=
  ∀ (pins : List (Addr × Obj)) (s : Shared) (σ : L2.St) (H : Hp) (Q : Bool → Hp → Prop), Inv X pins σ H s → t σ H Q →
    wpAny (model X.prog X.w) X.A (forIn ifs true fun c r => if r = true then do let ok ← isTrue c X.env (eval c X.env); pure (ForInStep.yield ok) else pure (ForInStep.yield r)) (TP X pins σ Q) X.xe s
theorem pts_nil {X : Cx} : PTs X [] (fun _ H Q => Q true H) := fun pins s σ H Q I h => wpAny_tests_nil ⟨H, I, h⟩
theorem pts_one {X : Cx} {c : Expr} {t : TT} (h : PT X c t) : PTs X [c] t := fun pins s σ H Q I q => wpAny_tests_one (h pins s σ H Q I q)
noncomputable def CompW (J : It) (g : TG) (tt : TT) (te : TE) (D : Addr) (Q : Hp → Prop) (W : Nat → Nat → List V → L2.St → Hp → Prop) : Prop :=
  ∀ i m ys σ H, W i m ys σ H → H D = some (.lst ys) ∧ ((J.stop i H ∧ Q H) ∨ (J.go i H ∧ ∀ x H2, J.yld i H x H2 → g x σ H2 fun σ3 H3 => tt σ3 H3 fun b H4 => if b = true then
    te σ3 H4 fun y H5 => H5 D = some (.lst ys) ∧ ys.length < sizeLine ∧ ∃ m', m' < m ∧ W (i + 1) m' (ys ++ [y]) σ3 (upd H5 D (.lst (ys ++ [y]))) else ∃ m', m' < m ∧ W (i + 1) m' ys σ3 H4))
theorem comp_core {E : Value → Shared → Prop} {elt target iter : Expr} {ifs : List Expr} {pos : Pos} {it : Addr} {tn : Nat → Heap → Prop} {J : It} {g : TG} {tt : TT} {te : TE} {Q : Addr → Hp → Prop} {RR : Value → Addr → Result → Shared → Prop}
    (hc : X.calm = true) (ok : CompOk X scope N' n) (I : Inv X pins σ H s) (hcl : ∀ n c, cl.lookup n = some c → X.env.cells.lookup n = some c) (hcl2 : ∀ n, (n, NameKind.free) ∈ scope.names → (cl.lookup n).isSome)
    (T : Turn X.prog X.w X.K target J fp it tn) (h0 : tn 0 s.heap) (hf : ∀ b ∈ fp, FpOk X pins H b)
    (hg : ∀ cl C s₀ H₀ ex, PG (cxC X scope N' cl C s₀ H₀ ex) target g) (ht : ∀ cl C s₀ H₀ ex, PTs (cxC X scope N' cl C s₀ H₀ ex) ifs tt) (he : ∀ cl C s₀ H₀ ex, PE (cxC X scope N' cl C s₀ H₀ ex) elt te)
    (hw : ∀ D, H D = none → ∃ W, (∃ m, W 0 m [] (σ ++ List.replicate n none) (upd H D (.lst []))) ∧ CompW J g tt te D (Q D) W)
    (hRR : ∀ D C s' H', Q D H' → (∃ m, s'.heap.Ns C m) → FpOk X pins H' C → Inv X pins σ H' s' → RR (.ref D) C (.ok .next) s') :
    wpAny (model X.prog X.w) X.A (newList []) (fun acc s₃ => wpAny (model X.prog X.w) X.A (newFunctionEnv scope X.env.globals cl [] X.env.qual none .none (some X.env)) (fun cenv s₄ =>
      codeAny (model X.prog X.w) X.A (.compStart (.ListComp elt [⟨target, iter, ifs, 0⟩] scope pos) 0 (.ref it) acc { cenv with scope := relabel scope X.env }) (RR acc cenv.locals) s₄) E s₃) E s := by
  refine wpAny_newObj_type (nfe_cells ok (fun x c e => ?lt) I.ok.inj hcl hcl2 (fun cs h₁ hns hold bc => ?_))
  case lt =>
    obtain ⟨v, z⟩ := I.cell x c e
    exact Nat.lt_of_lt_of_le z.lt (by show _ ≤ (s.heap.push _).objs.size; rw [Heap.size_push]; exact Nat.le_succ _)
  dsimp only at hns hold bc ⊢
  -- the new list, tracked
  have I3 : Inv X pins σ (upd H s.heap.objs.size (.lst [])) { s with heap := s.heap.push { cls := .type "list", data := .seq ([] : List Value).toArray } } := I.lnew (t' := s.toks) .nil (Nat.zero_le _)
  generalize hs3 : ({ s with heap := s.heap.push { cls := .type "list", data := .seq ([] : List Value).toArray } } : Shared) = s3 at I3
  have hsz : s3.heap.objs.size = s.heap.objs.size + 1 := by rw [← hs3]; exact Heap.size_push _ _
  have hheap : s3.heap = s.heap.push { cls := .type "list", data := .seq ([] : List Value).toArray } := by rw [← hs3]
  obtain ⟨W, ⟨m0, w0⟩, turn⟩ := hw s.heap.objs.size I.fresh
  have tnK : ∀ {h' : Heap}, (∀ b o, s.heap.get? b = some o → h'.get? b = some o) → tn 0 h' := fun k => T.keep _ _ _ h0 fun b hb o e => k b o e
  have fp3 : ∀ b ∈ fp, FpOk X pins (upd H s.heap.objs.size (.lst [])) b ∧ b < s3.heap.objs.size := fun b hb => by
    obtain ⟨o, e, _⟩ := T.obj 0 _ h0 b hb
    have lt := Heap.lt_size e
    obtain ⟨f1, f2⟩ := hf b hb
    exact ⟨⟨by rw [upd_ne (Nat.ne_of_lt lt)]; exact f1, f2⟩, by rw [hsz]; exact Nat.lt_succ_of_lt lt⟩
  rw [← hheap] at hns hold bc ⊢
  have I4 := inv_comp (t := s3.toks) ok I3 fp3 bc hns hold
  have old4 : ∀ b o, s.heap.get? b = some o → h₁.get? b = some o := fun b o e => hold b o (by rw [hheap]; exact Heap.get?_push_of_some _ e)
  generalize hX : cxC X scope N' cs s3.heap.objs.size s3 (upd H s.heap.objs.size (.lst [])) fp = X' at I4
  have hA : X'.A = X.A := by rw [← hX]; rfl
  have hpr : X'.prog = X.prog := by rw [← hX]; rfl
  have hwr : X'.w = X.w := by rw [← hX]; rfl
  have hKK : X'.K = X.K := by rw [← hX]; rfl
  have hcalm : X'.calm = true := by rw [← hX]; exact hc
  have hxe : X'.xe = fun _ _ => False := by rw [← hX]; rfl
  have henv : X'.env = compEnvC scope cs s3.heap.objs.size X.env := by rw [← hX]; rfl
  have hg' : PG X' target g := by rw [← hX]; exact hg _ _ _ _ _
  have ht' : PTs X' ifs tt := by rw [← hX]; exact ht _ _ _ _ _
  have he' : PE X' elt te := by rw [← hX]; exact he _ _ _ _ _
  have ff : ∀ {H' : Hp} {b : Addr}, b ∈ fp → H' b = none → FpOk X' [] H' b := fun {H' b} hb hn => by
    obtain ⟨f, lt⟩ := fp3 b hb
    rw [← hX]
    refine ⟨hn, Nat.ne_of_lt lt, fun hfs => ?_, .inl hb, fun x c e => ?_, fun p hp => by cases hp⟩
    · rcases List.mem_cons.mp (I3.stkSub b hfs) with h | h
      · exact f.2.1 h
      · exact f.2.2.1 h
    · rcases bc.from' x c e with e | e
      · exact f.2.2.2.2.1 x c e
      · rintro rfl; exact absurd (Nat.lt_trans e.1 lt) (Nat.lt_irrefl _)
  -- behind the block
  have fin : ∀ {σ' : L2.St} {H' : Hp} {s' : Shared}, Inv X' [] σ' H' s' → Q s.heap.objs.size H' → RR (.ref s.heap.objs.size) s3.heap.objs.size (.ok .next) s' := fun {σ' H' s'} J' q => by
    rw [← hX] at J'
    have hC : H' s3.heap.objs.size = none := J'.free
    obtain ⟨hh, gg, dd, tt', os'⟩ := s'
    have eos : os' = s3.os := J'.os
    subst eos
    refine hRR _ _ _ H' q (let ⟨m, hm, _⟩ := J'.loc; ⟨m, hm⟩) ?_ (I3.call (h' := hh) (g' := gg) (d' := dd) (t' := tt') (ch := fp) J'.base J'.hok J'.bare fun b hb => ?_)
    · exact I3.fpOk (Nat.le_refl _) hC
    · obtain ⟨f, lt⟩ := fp3 b hb
      exact ⟨f.2.2.2.1, f.2.1, f.2.2.2.2.1, f.2.2.2.2.2⟩
  have main : codeAny (model X.prog X.w) X.A (.compLoop (.ListComp elt [⟨target, iter, ifs, 0⟩] scope pos) 0 (.ref it) (.ref s.heap.objs.size) X'.env) (RR (.ref s.heap.objs.size) s3.heap.objs.size) { s3 with heap := h₁, toks := s3.toks } := by
    refine compLoop_any (fun k s' => ∃ i ys σ' H', Inv X' [] σ' H' s' ∧ tn i s'.heap ∧ (∀ b ∈ fp, H' b = none) ∧ W i k ys σ' H') (fun k s5 hI => ?_) m0 ⟨0, [], _, _, I4, tnK old4, fun b hb => (fp3 b hb).1.1, w0⟩
    obtain ⟨i, ys, σ5, H5, I5, t5, f5, w5⟩ := hI
    obtain ⟨hD, hturn⟩ := turn i k ys σ5 H5 w5
    have noE : ∀ {Z : Value → Shared → Prop}, ∀ (e : Value) (s' : Shared), X'.xe e s' → Z e s' := fun e s' z => by rw [hxe] at z; exact False.elim z
    rcases hturn with ⟨stop, q⟩ | ⟨go, step⟩
    · have z := T.done X' hpr hwr hKK hcalm i [] s5 σ5 H5 (fun _ _ => False) I5 (fun b hb => ff hb (f5 b hb)) t5 stop
      rw [hA] at z
      refine wpAny_mono z (?_) fun _ _ z => False.elim z
      rintro r s6 ⟨hr, I6⟩
      subst hr
      exact fin I6 q
    · have z := T.item X' hpr hwr hKK hcalm i [] s5 σ5 H5 (fun _ _ => False) I5 (fun b hb => ff hb (f5 b hb)) t5 go
      rw [hA] at z
      refine wpAny_mono z (?_) fun _ _ z => False.elim z
      rintro r s6 ⟨u, hr, z6⟩
      subst hr
      refine wpAny_mono z6 (?_) fun _ _ z => False.elim z
      rintro _ s7 ⟨x, H7, I7, r7, y7, t7, f7⟩
      have I7' := I7.pinned (fun b hb => ff hb (f7 b hb)) (T.obj _ _ t7)
      -- what the pins keep
      have back : ∀ {σ' : L2.St} {H' : Hp} {s' : Shared}, Inv X' ([] ++ pinsAt fp s7.heap) σ' H' s' → Inv X' [] σ' H' s' ∧ tn (i + 1) s'.heap ∧ ∀ b ∈ fp, H' b = none := fun {σ' H' s'} J' => by
        refine ⟨J'.unpinned, T.keep _ _ _ t7 fun b hb o e => (J'.pin (b, o) (List.mem_append_right _ (List.mem_append_right _ (mem_pinsAt hb e)))).1, fun b hb => ?_⟩
        obtain ⟨o, e, _⟩ := T.obj _ _ t7 b hb
        exact (J'.pin (b, o) (List.mem_append_right _ (List.mem_append_right _ (mem_pinsAt hb e)))).2.1
      have z7 := hg' _ s7 σ5 H7 x u _ I7' r7 (step x H7 y7)
      rw [hA, hpr, hwr] at z7
      refine wpAny_mono z7 (?_) noE
      rintro _ s8 ⟨σ8, H8, I8, q8⟩
      have z8 := ht' _ s8 σ8 H8 _ I8 q8
      rw [hA, hpr, hwr] at z8
      refine wpAny_mono z8 (?_) noE
      rintro b s9 ⟨H9, I9, q9⟩
      cases b with
      | false =>
        rw [if_neg Bool.false_ne_true] at q9 ⊢
        obtain ⟨m', hm, w'⟩ := q9
        obtain ⟨b1, b2, b3⟩ := back I9
        exact ⟨m', hm, i + 1, ys, σ8, H9, b1, b2, b3, w'⟩
      | true =>
        rw [if_pos rfl] at q9 ⊢
        have z9 := he' _ s9 σ8 H9 _ I9 q9
        rw [hA, hpr, hwr] at z9
        refine wpAny_mono z9 (?_) noE
        rintro y s10 ⟨yv, H10, I10, r10, hD10, hlen, m', hm, w'⟩
        have z10 := mt_append _ s10 σ8 H10 (.ref s.heap.objs.size) [yv] (.ref s.heap.objs.size) [y] (fun v H11 => H11 = upd H10 s.heap.objs.size (.lst (ys ++ [yv]))) I10 rfl (.cons r10 .nil) ⟨_, ys, yv, rfl, rfl, hD10, hlen, rfl⟩
        rw [hA, hpr, hwr] at z10
        refine wpAny_mono z10 (?_) noE
        rintro _ s11 ⟨_, H11, I11, _, e11⟩
        subst e11
        obtain ⟨b1, b2, b3⟩ := back I11
        exact ⟨m', hm, i + 1, ys ++ [yv], σ8, _, b1, b2, b3, w'⟩
  have e3 : ({ s3 with heap := h₁, toks := s3.toks } : Shared) = { s with heap := h₁ } := by rw [← hs3]
  rw [henv, e3] at main
  exact codeAny_compStart_list main (T.self _ 0 _ _ _ (tnK old4) main)
end
end L2
end
section
set_option linter.all false
set_option Elab.async false
set_option maxRecDepth 10000
namespace L2
open PySem PySem.Spec PyProof.Rows
section
variable {X : Cx} {elt target iter : Expr} {ifs : List Expr} {scope : Scope} {pos : Pos} {N' : List Str} {n : Nat} {wi : TI} {g : TG} {tt : TT} {te : TE}
noncomputable def tComp (n : Nat) (wi : TI) (g : TG) (tt : TT) (te : TE) : TE := fun σ H Q => wi σ H fun J H1 => ∀ D, H1 D = none → ∃ W, (∃ m, W 0 m [] (σ ++ List.replicate n none) (upd H1 D (.lst []))) ∧ CompW J g tt te D (fun H' => Q (.ref D) H') W
theorem comp_closure {pins : List (Addr × Obj)} {σ : L2.St} {H : Hp} {s : Shared} (I : Inv X pins σ H s) (ok : CompOk X scope N' n) :
    ∃ cl, closureFor scope X.env = pure cl ∧ (∀ n c, cl.lookup n = some c → X.env.cells.lookup n = some c) ∧ ∀ n, (n, NameKind.free) ∈ scope.names → (cl.lookup n).isSome :=
  closure_ok fun m hm => I.ok.has m (ok.cap (m, .free) hm rfl)
theorem pe_comp (hc : X.calm = true) (ok : CompOk X scope N' n) (hi : PI X target iter wi)
    (hg : ∀ cl C s₀ H₀ ex, PG (cxC X scope N' cl C s₀ H₀ ex) target g) (ht : ∀ cl C s₀ H₀ ex, PTs (cxC X scope N' cl C s₀ H₀ ex) ifs tt) (he : ∀ cl C s₀ H₀ ex, PE (cxC X scope N' cl C s₀ H₀ ex) elt te)
    (hs : ∀ x, foldedSetIterable iter X.env x = pure x := by intro _; rfl) : PE X (.ListComp elt [⟨target, iter, ifs, 0⟩] scope pos) (tComp n wi g tt te) := by
  intro pins s σ H Q I h
  obtain ⟨cl, hclos, hcl, hcl2⟩ := comp_closure I ok
  rw [eval_ListComp]
  refine wpAny_comprehension_free (use := none) rfl hs hclos ok.kind ok.names (thn (hi pins s σ H _ I h) fun v s1 h1 => thn h1 fun itv s2 h2 => ?_)
  obtain ⟨it, fp, tn, J, H2, rfl, I2, T, t0, f2, hw⟩ := h2
  refine comp_core (Q := fun D H' => Q (.ref D) H') (RR := fun acc C => compPost (model X.prog X.w) X.A X.xe none (EP X pins σ Q) acc C) hc ok I2 hcl hcl2 T t0 f2 hg ht he hw fun D C s' H' q hm fpC I' => ?_
  obtain ⟨m, hm⟩ := hm
  refine ⟨m, hm, fun h' hs' => ⟨.ref D, H', ?_, rfl, q⟩⟩
  exact I'.turned (t' := s'.toks) (fun b o hb e => hs'.extBut b o hb e) fpC.1 fpC.2.1 fpC.2.2.2.1 fpC.2.2.2.2.1 fpC.2.2.2.2.2
theorem ps_setC {i : Nat} {x : Str} {pos' spos : Pos} (hc : X.calm = true) (hN : X.N.Nodup) (hx0 : X.N[i]? = some x) (hx : Loc X.env.scope x) (ok : CompOk X scope N' n) (hi : PI X target iter wi)
    (hg : ∀ cl C s₀ H₀ ex, PG (cxC X scope N' cl C s₀ H₀ ex) target g) (ht : ∀ cl C s₀ H₀ ex, PTs (cxC X scope N' cl C s₀ H₀ ex) ifs tt) (he : ∀ cl C s₀ H₀ ex, PE (cxC X scope N' cl C s₀ H₀ ex) elt te)
    (hsw : swapsWith (.ListComp elt [⟨target, iter, ifs, 0⟩] scope pos) (some (.Name x pos')) spos.line X.env = pure true)
    (hs : ∀ x, foldedSetIterable iter X.env x = pure x := by intro _; rfl) (hf : X.fn x = true ∨ X.env.scope.names.lookup x = some .local := by first | exact .inl rfl | exact .inr rfl | assumption) :
    PS X (.Assign [.Name x pos'] (.ListComp elt [⟨target, iter, ifs, 0⟩] scope pos) spos) (tAsg (tComp n wi g tt te) (gName i)) := by
  intro pins s σ H D I h
  obtain ⟨cl, hclos, hcl, hcl2⟩ := comp_closure I ok
  rw [exec_Assign_Name_used _ _ _ _ hsw]
  refine wpAny_bind (wpAny_standAt (wpAny_bind ?_))
  show wpAny _ X.A (do let _ ← comprehension (.ListComp elt [⟨target, iter, ifs, 0⟩] scope pos) scope X.env _ (newList []) false (eval iter X.env) (some (assign (.Name x pos') X.env))) _ _ s
  refine wpAny_bind (wpAny_mono (wpAny_comprehension_free (use := some (assign (.Name x pos') X.env)) (Q := fun _ s' => SP X pins D .next s') rfl hs hclos ok.kind ok.names
    (thn (hi pins s σ H _ I h) fun v s1 h1 => thn h1 fun itv s2 h2 => ?_)) (fun _ s' hq => wpAny_pure (wpAny_pure hq)) fun _ _ e => e)
  obtain ⟨it, fp, tn, J, H2, rfl, I2, T, t0, f2, hw⟩ := h2
  refine comp_core (Q := fun Da H' => D.nx (σ.set i (some (.ref Da))) H') (RR := fun acc C => compPost (model X.prog X.w) X.A X.xe (some (assign (.Name x pos') X.env)) (fun _ s' => SP X pins D .next s') acc C) hc ok I2 hcl hcl2 T t0 f2 hg ht he hw fun Da C s' H' q hm fpC I' => ?_
  obtain ⟨m, hm⟩ := hm
  show wpAny _ X.A (assign (.Name x pos') X.env (.ref Da)) _ _ _
  refine wpAny_assign_Name (store_ok2 I' hN hx0 hx (show RelV (.ref Da) (.ref Da) from rfl) (?_) hf)
  rintro s'' I'' ⟨a, sb, ha⟩
  have hCa : C ≠ a := by
    rcases ha with rfl | ha
    · exact fpC.2.1
    · exact fun z => fpC.2.2.2.2.1 x a ha z.symm
  refine ⟨m, hm.sameBut sb hCa, fun h' hs' => ⟨_, H', ?_, q⟩⟩
  exact I''.turned (t' := s''.toks) (fun b o hb e => hs'.extBut b o hb e) fpC.1 fpC.2.1 fpC.2.2.2.1 fpC.2.2.2.2.1 fpC.2.2.2.2.2
noncomputable def iSeq (K : PySem.W.Frag) (tl : TE) : TI := fun σ H R => tl σ H fun x H1 => ∃ a, x = .ref a ∧ (((∃ xs, SqL K H1 a xs) ∧ R (Itl K a) H1) ∨ ((∃ xs, SqT K H1 a xs) ∧ R (Itt K a) H1))
theorem pi_seq {tg l : Expr} {tl : TE} (hl : PE X l tl) : PI X tg l (iSeq X.K tl) := by
  intro pins s σ H R I h
  refine thn (hl pins s σ H _ I h) ?_
  rintro v s1 ⟨x, H1, I1, r1, q1⟩
  obtain ⟨a, e, q1⟩ := q1
  subst e
  cases r1
  rcases q1 with ⟨⟨xs, hq⟩, q⟩ | ⟨⟨xs, hq⟩, q⟩
  · obtain ⟨its, rv, p, hz⟩ := I1.list hq
    refine wpAny_pyIter_list p.isList ?_
    refine ⟨s1.heap.objs.size, [s1.heap.objs.size], _, _, H1, rfl, I1.kept (t' := s1.toks) fun b o e => Heap.get?_push_of_some _ e, turn_list a _, ⟨_, Heap.get?_push_size _ rfl, rfl, rfl⟩, fun b hb => ?_, q⟩
    have e : b = s1.heap.objs.size := by simpa using hb
    subst e
    exact I1.fpOk (Nat.le_refl _) (I1.hok.fresh (Nat.le_refl _))
  · obtain ⟨its, rv, p, hz⟩ := I1.tuple hq
    refine wpAny_pyIter_tuple (show s1.heap.IsTuple a its.toArray from p) ?_
    refine ⟨s1.heap.objs.size, [s1.heap.objs.size], _, _, H1, rfl, I1.kept (t' := s1.toks) fun b o e => Heap.get?_push_of_some _ e, turn_tuple a _, ⟨_, Heap.get?_push_size _ rfl, rfl, rfl⟩, fun b hb => ?_, q⟩
    have e : b = s1.heap.objs.size := by simpa using hb
    subst e
    exact I1.fpOk (Nat.le_refl _) (I1.hok.fresh (Nat.le_refl _))
end
end L2
end
section
set_option linter.all false
set_option Elab.async false
set_option maxRecDepth 10000
namespace HH
open PySem L2 PySem.Spec PyProof.Rows
structure Walk (K : PySem.W.Frag) (F : Hp) (ρ : List Sl) (σ : L2.St) (H : Hp) (ul : List Sl → List Sl) (J : It) (ds : List D) (F1 : Hp) (ρ1 : List Sl) (H1 : Hp) : Prop where
  gs : GS K F1 ρ1 σ H1
  src : ∀ (n k : Nat) (F' : Hp) (ρ' : List Sl) (σ' : L2.St) (H' : Hp), Stp K F1 (ρ1 ++ List.replicate n .unb) (σ ++ List.replicate n none) H1 F' ρ' σ' H' →
    (∀ d, ds[k]? = some d → J.go k H' ∧ ∀ x H'', J.yld k H' x H'' → ∃ F'', Ext F' H' F'' H'' ∧ Rep K F'' x d) ∧ (ds.length ≤ k → J.stop k H')
  fin : ∀ F2 ρ2 σ2 H2, Stp K F1 ρ1 σ H1 F2 ρ2 σ2 H2 → Stp K F ρ σ H F2 (ul ρ2) σ2 H2 ∧ ∀ v r, RepR K F2 ρ2 σ2 H2 ρ1 σ H1 v r → RepR K F2 (ul ρ2) σ2 H2 ρ σ H v r
noncomputable def tIt (K : PySem.W.Frag) (iv : Option Nat) (f : Ev) : TI := fun σ H R => ∃ F ρ ds ρ1, GS K F ρ σ H ∧ srcOf iv f ρ = .ok ds ρ1 ∧ ∀ J F1 H1, Walk K F ρ σ H (unlend ρ iv) J ds F1 ρ1 H1 → R J H1
section
variable {K : PySem.W.Frag} {F F1 H H1 : Hp} {ρ ρ1 : List Sl} {σ : L2.St} {ds : List D} {a : Addr}
theorem itt_src {xs : List V} {F' H' : Hp} (hq : SqT K H' a xs) (r : Reps K F' xs ds) (s : Same F' H') (k : Nat) :
    (∀ d, ds[k]? = some d → (Itt K a).go k H' ∧ ∀ x H'', (Itt K a).yld k H' x H'' → ∃ F'', Ext F' H' F'' H'' ∧ Rep K F'' x d) ∧ (ds.length ≤ k → (Itt K a).stop k H') := by
  refine ⟨fun d hd => ?_, fun h => ⟨xs, hq, by rw [r.length]; exact h⟩⟩
  obtain ⟨w, h1, h2⟩ := r.get hd
  refine ⟨⟨xs, w, hq, h1⟩, ?_⟩
  rintro x H'' ⟨e, y⟩
  subst e
  have := y xs hq
  rw [h1] at this; cases this
  exact ⟨F', .refl s, h2⟩
theorem itl_src' {xs : List V} {F' H' : Hp} (hq : SqL K H' a xs) (r : Reps K F' xs ds) (s : Same F' H') (k : Nat) :
    (∀ d, ds[k]? = some d → (Itl K a).go k H' ∧ ∀ x H'', (Itl K a).yld k H' x H'' → ∃ F'', Ext F' H' F'' H'' ∧ Rep K F'' x d) ∧ (ds.length ≤ k → (Itl K a).stop k H') := by
  refine ⟨fun d hd => ?_, fun h => ⟨xs, hq, by rw [r.length]; exact h⟩⟩
  obtain ⟨w, h1, h2⟩ := r.get hd
  refine ⟨⟨xs, w, hq, h1⟩, ?_⟩
  rintro x H'' ⟨e, y⟩
  subst e
  have := y xs hq
  rw [h1] at this; cases this
  exact ⟨F', .refl s, h2⟩
theorem walk_dat {ul : List Sl → List Sl} {v : V} {d : D} (s : Stp K F ρ σ H F1 ρ1 σ H1) (r : Rep K F1 v d) (hi : items d = some ds)
    (fin : ∀ F2 ρ2 σ2 H2, Stp K F1 ρ1 σ H1 F2 ρ2 σ2 H2 → Stp K F ρ σ H F2 (ul ρ2) σ2 H2 ∧ ∀ v r, RepR K F2 ρ2 σ2 H2 ρ1 σ H1 v r → RepR K F2 (ul ρ2) σ2 H2 ρ σ H v r) :
    ∃ a, v = .ref a ∧ (((∃ xs, SqL K H1 a xs) ∧ Walk K F ρ σ H ul (Itl K a) ds F1 ρ1 H1) ∨ ((∃ xs, SqT K H1 a xs) ∧ Walk K F ρ σ H ul (Itt K a) ds F1 ρ1 H1)) := by
  cases d with
  | tup es =>
    cases hi
    rw [Rep] at r
    obtain ⟨a, xs, rfl, h1, h2⟩ := r
    exact ⟨a, rfl, .inr ⟨⟨xs, Same.seqT s.gs.sub h1⟩, s.gs, fun n k F' ρ' σ' H' s' => itt_src (Same.seqT s'.gs.sub (Same.seqT s'.fsub h1)) (h2.mono s'.fsub) s'.gs.sub k, fin⟩⟩
  | lst es =>
    cases hi
    rw [Rep] at r
    obtain ⟨a, xs, rfl, h1, h2⟩ := r
    exact ⟨a, rfl, .inl ⟨⟨xs, s.gs.sub.seq h1⟩, s.gs, fun n k F' ρ' σ' H' s' => itl_src' (s'.gs.sub.seq (s'.fsub.seq h1)) (h2.mono s'.fsub) s'.gs.sub k, fin⟩⟩
  | _ => cases hi
theorem walk_lent {i : Nat} {ul : List Sl → List Sl} (g : GS K F ρ1 σ H) (e : ρ1[i]? = some (.lent ds))
    (fin : ∀ F2 ρ2 σ2 H2, Stp K F ρ1 σ H F2 ρ2 σ2 H2 → Stp K F ρ σ H F2 (ul ρ2) σ2 H2 ∧ ∀ v r, RepR K F2 ρ2 σ2 H2 ρ1 σ H v r → RepR K F2 (ul ρ2) σ2 H2 ρ σ H v r) :
    ∃ a, σ[i]? = some (some (.ref a)) ∧ (∃ xs, SqL K H a xs) ∧ Walk K F ρ σ H ul (Itl K a) ds F ρ1 H := by
  obtain ⟨a, xs, h1, h2, h3, h4⟩ := g.own i _ ds e rfl
  have hi : i < ρ1.length := (List.getElem?_eq_some_iff.mp e).1
  refine ⟨a, h1, ⟨xs, SqL.of h2⟩, g, fun n k F' ρ' σ' H' s' => ?_, fin⟩
  obtain ⟨z1, t, z2, z3⟩ := s'.lk i _ (by rw [List.getElem?_append_left hi]; exact e) rfl
  cases (show t = .lent ds from z3)
  rw [List.getElem?_append_left (by rw [← g.len]; exact hi), h1] at z1
  obtain ⟨a', ys, w1, w2, w3, w4⟩ := s'.gs.own i _ ds z2 rfl
  rw [z1] at w1; cases w1
  exact itl_src' (SqL.of w2) w4 s'.gs.sub k
end
section
variable {X : Cx} {c : Call} {n : Nat} {e a b d tg : Expr} {p pa pb pd : P} {pos : Pos}
theorem piImp {t t' : TI} (h : PI X tg e t) (i : ∀ σ H R, t' σ H R → t σ H R) : PI X tg e t' := fun pins s σ H R I q => h pins s σ H R I (i σ H R q)
noncomputable def SI (X : Cx) (c : Call) (tg e : Expr) (p : P) : Prop := PI X tg e (tIt X.K (isVar p) (HH.ev c p))
theorem si_seq (h : SX X c e p) : SI X c tg e p := by
  unfold SI
  cases hv : isVar p with
  | none =>
    refine piImp (pi_seq h.ev) ?_
    rintro σ H R ⟨F, ρ, ds, ρ1, g, e, k⟩
    obtain ⟨r, ρ2, e1, e2⟩ := bind_ok e
    have zz := lift_ok e2; clear e2; obtain ⟨e2, e3⟩ := zz
    subst e3
    refine ⟨F, ρ, r, _, g, e1, fun v F' H' s rr => ?_⟩
    obtain ⟨F2, s2, _, rp⟩ := s.frz rr
    obtain ⟨a, ha, hw⟩ := walk_dat (ul := unlend ρ none) s2 rp e2 fun F3 ρ3 σ3 H3 s3 => ⟨s2.trans s3, fun v r rr => rr.later s2⟩
    exact ⟨a, ha, hw.imp (fun ⟨z, w⟩ => ⟨z, k _ _ _ w⟩) (fun ⟨z, w⟩ => ⟨z, k _ _ _ w⟩)⟩
  | some i =>
    refine piImp (pi_seq (h.var i hv)) ?_
    rintro σ H R ⟨F, ρ, ds, ρ1, g, e, k⟩
    unfold srcOf at e
    dsimp only at e
    split at e
    · rename_i b d q
      have zz := lift_ok e; clear e; obtain ⟨e2, e3⟩ := zz
      subst e3
      obtain ⟨v, h1, h2⟩ := g.val i b d q
      have fin : ∀ F2 ρ2 σ2 H2, Stp X.K F ρ σ H F2 ρ2 σ2 H2 → Stp X.K F ρ σ H F2 (unlend ρ (some i) ρ2) σ2 H2 ∧ ∀ v r, RepR X.K F2 ρ2 σ2 H2 ρ σ H v r → RepR X.K F2 (unlend ρ (some i) ρ2) σ2 H2 ρ σ H v r := fun F2 ρ2 σ2 H2 s => by
        unfold unlend; dsimp only; rw [q]; exact ⟨s, fun _ _ z => z⟩
      obtain ⟨a, ha, hw⟩ := walk_dat (ul := unlend ρ (some i)) (.refl g) h2 e2 fin
      exact ⟨v, h1, a, ha, hw.imp (fun ⟨z, w⟩ => ⟨z, k _ _ _ w⟩) (fun ⟨z, w⟩ => ⟨z, k _ _ _ w⟩)⟩
    · rename_i b ds' q
      cases e
      have hi : i < ρ.length := (List.getElem?_eq_some_iff.mp q).1
      have fin : ∀ F2 ρ2 σ2 H2, Stp X.K F (ρ.set i (.lent ds)) σ H F2 ρ2 σ2 H2 → Stp X.K F ρ σ H F2 (unlend ρ (some i) ρ2) σ2 H2 ∧ ∀ v r, RepR X.K F2 ρ2 σ2 H2 (ρ.set i (.lent ds)) σ H v r → RepR X.K F2 (unlend ρ (some i) ρ2) σ2 H2 ρ σ H v r := fun F2 ρ2 σ2 H2 s => by
        unfold unlend; dsimp only; rw [q]; exact Stp.unlend g q s
      obtain ⟨a, h1, hx, w⟩ := walk_lent (ul := unlend ρ (some i)) (g.lend q) (List.getElem?_set_self hi) fin
      exact ⟨_, h1, a, rfl, .inl ⟨hx, k _ _ _ w⟩⟩
    · rename_i ds' q
      cases e
      have fin : ∀ F2 ρ2 σ2 H2, Stp X.K F ρ σ H F2 ρ2 σ2 H2 → Stp X.K F ρ σ H F2 (unlend ρ (some i) ρ2) σ2 H2 ∧ ∀ v r, RepR X.K F2 ρ2 σ2 H2 ρ σ H v r → RepR X.K F2 (unlend ρ (some i) ρ2) σ2 H2 ρ σ H v r := fun F2 ρ2 σ2 H2 s => by
        unfold unlend; dsimp only; rw [q]; exact ⟨s, fun _ _ z => z⟩
      obtain ⟨a, h1, hx, w⟩ := walk_lent (ul := unlend ρ (some i)) g q fin
      exact ⟨_, h1, a, rfl, .inl ⟨hx, k _ _ _ w⟩⟩
    · cases e
theorem rng_walk {K : PySem.W.Frag} {F F1 H H1 : Hp} {ρ ρ1 : List Sl} {σ : L2.St} (s : Stp K F ρ σ H F1 ρ1 σ H1) (i j : Int) : Walk K F ρ σ H (unlend ρ none) (Itr i (j - i).toNat) ((List.range (j - i).toNat).map fun (k : Nat) => D.int (i + (k : Int))) F1 ρ1 H1 := by
  refine ⟨s.gs, fun n k F' ρ' σ' H' s' => ⟨fun d hd => ?_, fun h => ?_⟩, fun F3 ρ3 σ3 H3 s3 => ⟨s.trans s3, fun v r rr => rr.later s⟩⟩
  · rw [List.getElem?_map] at hd
    obtain ⟨m, e1, e2⟩ := map_some hd
    obtain ⟨h1, h2⟩ := List.getElem?_eq_some_iff.mp e1
    rw [List.getElem_range] at h2
    subst h2; subst e2
    rw [List.length_range] at h1
    refine ⟨h1, ?_⟩
    rintro x H'' ⟨q1, q2⟩
    subst q1; subst q2
    exact ⟨F', .refl s'.gs.sub, repInt _⟩
  · rw [List.length_map, List.length_range] at h; exact h
theorem si_rng1 {x : Str} {p' : Pos} (hx : x = "range") (hg : Gl X x) (hm : X.mg x = none) (ha : SX X c a pa) (hs : starEach [a] X.env = [(false, eval a X.env)] := by rfl) : SI X c tg (.Call (.Name x p') [a] [] pos) (.rng (.con (.int 0)) pa) := by
  subst hx
  obtain ⟨ta, h1, h2⟩ := ha.opd
  refine piImp (pi_range1 hg hm (pa_cons h1 pa_nil hs) hs) ?_
  rintro σ H R ⟨F, ρ, ds, ρ1, g, e, k⟩
  obtain ⟨r, ρ2, e1, e2⟩ := bind_ok e
  have zz := lift_ok e2; clear e2; obtain ⟨e2, e3⟩ := zz
  subst e3
  rw [HH.ev] at e1
  obtain ⟨xy, ρ3, e4, e5⟩ := bind_ok e1
  have zz := lift_ok e5; clear e5; obtain ⟨e5, e6⟩ := zz
  subst e6
  obtain ⟨y0, ρ5, e9, e10⟩ := bind_ok e4
  cases e10
  obtain ⟨i, f1, e5⟩ := bindO e5
  obtain ⟨j, f2, e5⟩ := bindO e5
  obtain ⟨⟨b1, b2, b3, b4⟩, e5⟩ := ite_some e5
  have f1 : i = 0 := by cases f1; rfl
  subst f1
  subst e5
  cases e2
  cases asI_some f2
  refine h2 g e9 fun v F' H' s pv => ⟨j, by rw [pv.int], by omega, by omega, ?_⟩
  have := rng_walk s 0 j
  rw [Int.sub_zero] at this
  refine k _ F' H' ?_
  rw [Int.sub_zero]
  exact this
end
end HH
end
section
set_option linter.all false
set_option Elab.async false
set_option maxRecDepth 10000
namespace HH
open PySem L2 PySem.Spec PyProof.Rows
section
variable {X : Cx} {c : Call} {n : Nat} {e a b d tg iter : Expr} {p pa pb pd : P} {pos : Pos} {body : List Stmt} {ss : List S}
noncomputable def TGok (K : PySem.W.Frag) (bd : List Sl → D → Option (List Sl)) (g : TG) : Prop := ∀ (x : V) (d : D) (F : Hp) (ρ ρ' : List Sl) (σ : L2.St) (H : Hp) (Q : L2.St → Hp → Prop), GS K F ρ σ H → Rep K F x d → bd ρ d = some ρ' →
  (∀ σ', Stp K F ρ σ H F ρ' σ' H → Q σ' H) → g x σ H Q
theorem tg_name {K : PySem.W.Frag} (i : Nat) : TGok K (fun ρ d => put ρ i (.val false d)) (gName i) := fun x d F ρ ρ' σ H Q g r h k =>
  k _ (Stp.put (r := .val d) (.refl g) r h)
theorem putAll_len : ∀ {is : List Nat} {ds : List D} {ρ ρ' : List Sl}, putAll ρ is ds = some ρ' → ds.length = is.length
  | [], [], _, _, _ => rfl
  | [], _ :: _, _, _, h => by simp [putAll] at h
  | _ :: _, [], _, _, h => by simp [putAll] at h
  | i :: is, d :: ds, ρ, ρ', h => by
    rw [putAll] at h
    obtain ⟨ρ1, e1, e2⟩ := bindO h
    simp [putAll_len e2]
theorem ss_for {g : TG} {is : List Nat} {one : Bool} (hp : PassesOwn (model X.prog X.w) X.A X.env X.xe) (hc : X.calm = true) (hi : SI X c tg iter p) (hg : PG X tg g) (hgo : TGok X.K (fun ρ d => bindF ρ is one d) g) (hb : SB X c n body ss)
    (hs : ∀ x, foldedSetIterable iter X.env x = pure x := by intro _; rfl) : SS X c n (.For tg iter body [] pos) (.forr p is one ss) := by
  refine psImp (ps_for hp hc hi hg hb hs) ?_
  rintro D σ H ⟨F, ρ, fl, ρ', g0, e, k⟩
  rw [ex] at e
  obtain ⟨ds, ρ1, e1, e⟩ := bind_ok e
  obtain ⟨fl', ρ2, e2, e⟩ := bind_ok e
  cases e
  refine ⟨F, ρ, ds, ρ1, g0, e1, fun J F1 H1 w => ?_⟩
  have src : ∀ (i : Nat) (F' : Hp) (ρ' : List Sl) (σ' : L2.St) (H' : Hp), Stp X.K F1 ρ1 σ H1 F' ρ' σ' H' →
    (∀ d, ds[i]? = some d → J.go i H' ∧ ∀ x H'', J.yld i H' x H'' → ∃ F'', Ext F' H' F'' H'' ∧ Rep X.K F'' x d) ∧ (ds.length ≤ i → J.stop i H') := fun i F' ρ' σ' H' s => w.src 0 i F' ρ' σ' H' (by simpa using s)
  refine ⟨fun i m σi Hi => ∃ Fi ρi, Stp X.K F1 ρ1 σ H1 Fi ρi σi Hi ∧ m = ds.length - i ∧ i ≤ ds.length ∧ forT is one (exs c n ss) (ds.drop i) ρi = .ok fl ρ2, ⟨_, F1, ρ1, .refl w.gs, rfl, Nat.zero_le _, e2⟩, ?_⟩
  rintro i m σi Hi ⟨Fi, ρi, si, rfl, hle, ei⟩
  obtain ⟨s1, s2⟩ := src i Fi ρi σi Hi si
  by_cases hlt : i < ds.length
  · right
    have hd : ds[i]? = some ds[i] := by simp [hlt]
    obtain ⟨go, step⟩ := s1 _ hd
    refine ⟨go, fun σ' H' => ∃ m', m' < ds.length - i ∧ ∃ Fi ρi, Stp X.K F1 ρ1 σ H1 Fi ρi σ' H' ∧ m' = ds.length - (i + 1) ∧ i + 1 ≤ ds.length ∧ forT is one (exs c n ss) (ds.drop (i + 1)) ρi = .ok fl ρ2, fun σ' H' z => z, fun x H' y => ?_⟩
    obtain ⟨F2, ext, rx⟩ := step x H' y
    have si2 := si.trans (ext.stp si.gs)
    rw [List.drop_eq_getElem_cons hlt, forT] at ei
    cases hbd : bindF ρi is one ds[i] with
    | none => rw [hbd] at ei; cases ei
    | some ρb =>
      rw [hbd] at ei
      obtain ⟨flb, ρc, eb, ei⟩ := bind_ok ei
      refine hgo x _ F2 ρi ρb σi H' _ si2.gs rx hbd fun σ2 sb => ?_
      have si3 := si2.trans sb
      refine ⟨F2, ρb, flb, ρc, si3.gs, eb, fun F4 σ4 H4 s4 => ?_⟩
      have si4 := si3.trans s4
      cases flb with
      | next => exact ⟨_, by omega, F4, ρc, si4, rfl, hlt, ei⟩
      | cont => exact ⟨_, by omega, F4, ρc, si4, rfl, hlt, ei⟩
      | brk =>
        cases ei
        exact k F4 σ4 H4 (w.fin _ _ _ _ si4).1
      | ret r =>
        cases ei
        intro v rr
        obtain ⟨z1, z2⟩ := w.fin _ _ _ _ si4
        exact k F4 σ4 H4 z1 v (z2 v r (rr.later si3))
  · left
    have hdr : ds.drop i = [] := by rw [List.drop_eq_nil_iff]; omega
    rw [hdr, forT] at ei
    cases ei
    exact ⟨s2 (by omega), k Fi σi Hi (w.fin _ _ _ _ si).1⟩
theorem bindF_one (i : Nat) : (fun (ρ : List Sl) (d : D) => bindF ρ [i] true d) = fun ρ d => put ρ i (.val false d) := by funext ρ d; rfl
theorem ss_for1 {i : Nat} {x : Str} {pos' : Pos} (hp : PassesOwn (model X.prog X.w) X.A X.env X.xe) (hc : X.calm = true) (hN : X.N.Nodup) (hx0 : X.N[i]? = some x) (hx : Loc X.env.scope x) (hi : SI X c (.Name x pos') iter p) (hb : SB X c n body ss)
    (hs : ∀ x, foldedSetIterable iter X.env x = pure x := by intro _; rfl) (hf : X.fn x = true ∨ X.env.scope.names.lookup x = some .local := by first | exact .inl rfl | exact .inr rfl | assumption) : SS X c n (.For (.Name x pos') iter body [] pos) (.forr p [i] true ss) :=
  ss_for hp hc hi (pg_name hN hx0 hx hf) (by rw [bindF_one]; exact tg_name i) hb hs
theorem ss_whl (hp : PassesOwn (model X.prog X.w) X.A X.env X.xe) (ht : ST X c e p) (hb : SB X c n body ss) : SS X c n (.While e body [] pos) (.whl p ss) := by
  refine psImp (ps_while hp ht hb) ?_
  rintro D σ H ⟨F, ρ, fl, ρ', g, e, k⟩
  rw [ex] at e
  refine ⟨fun m σi Hi => ∃ Fi ρi, Stp X.K F ρ σ H Fi ρi σi Hi ∧ whlT (tru (HH.ev c p)) (exs c n ss) m ρi = .ok fl ρ', ⟨n, F, ρ, .refl g, e⟩, ?_⟩
  rintro m σi Hi ⟨Fi, ρi, si, ei⟩
  cases m with
  | zero => rw [whlT] at ei; cases ei
  | succ m =>
    rw [whlT] at ei
    obtain ⟨b, ρ1, e1, ei⟩ := bind_ok ei
    refine ⟨Fi, ρi, b, ρ1, si.gs, e1, fun F1 H1 s1 => ?_⟩
    have s2 := si.trans s1
    cases b with
    | false =>
      rw [if_neg Bool.false_ne_true] at ei
      cases ei
      exact k F1 σi H1 s2
    | true =>
      rw [if_pos rfl] at ei
      obtain ⟨flb, ρc, eb, ei⟩ := bind_ok ei
      refine (show ∃ N : L2.St → Hp → Prop, _ ∧ _ from ⟨fun σ' H' => ∃ m', m' < m + 1 ∧ ∃ Fi ρi, Stp X.K F ρ σ H Fi ρi σ' H' ∧ whlT (tru (HH.ev c p)) (exs c n ss) m' ρi = .ok fl ρ', fun σ' H' z => z, F1, ρ1, flb, ρc, s2.gs, eb, fun F4 σ4 H4 s4 => ?_⟩)
      have s5 := s2.trans s4
      cases flb with
      | next => exact ⟨m, by omega, F4, ρc, s5, ei⟩
      | cont => exact ⟨m, by omega, F4, ρc, s5, ei⟩
      | brk => cases ei; exact k F4 σ4 H4 s5
      | ret r => cases ei; exact fun v rr => k F4 σ4 H4 s5 v (rr.later s2)
end
end HH
end
section
set_option linter.all false
set_option Elab.async false
set_option maxRecDepth 10000
namespace HH
open PySem L2 PySem.Spec PyProof.Rows
section
variable {X : Cx} {c : Call} {n : Nat} {e elt tg iter : Expr} {p ps pe : P} {pos : Pos} {scope : Scope} {N' : List Str} {ifs : List Expr}
theorem peImpN {t t' : TE} (h : PE X e t) (i : ∀ σ H Q, σ.length = X.N.length → t' σ H Q → t σ H Q) : PE X e t' := fun pins s σ H Q I q => h pins s σ H Q I (i σ H Q I.len q)
theorem psImpN {st : Stmt} {t t' : TS} (h : PS X st t) (i : ∀ D σ H, σ.length = X.N.length → t' D σ H → t D σ H) : PS X st t' := fun pins s σ H D I q => h pins s σ H D I (i D σ H I.len q)
noncomputable def TGokC (K : PySem.W.Frag) (m : Nat) (is : List Nat) (one : Bool) (g : TG) : Prop := ∀ (x : V) (d : D) (F : Hp) (ρ ρ' : List Sl) (σ : L2.St) (H : Hp) (Q : L2.St → Hp → Prop), GS K F ρ σ H → Rep K F x d → bindF ρ is one d = some ρ' →
  (∀ σ', Stp K F ρ σ H F ρ' σ' H → σ'.take m = σ.take m → Q σ' H) → g x σ H Q
theorem take_set {α : Type} {l : List α} {i m : Nat} {a : α} (h : m ≤ i) : (l.set i a).take m = l.take m := by
  rw [List.take_set_of_le h]
theorem tgc_name {K : PySem.W.Frag} {i m : Nat} (h : m ≤ i) : TGokC K m [i] true (gName i) := fun x d F ρ ρ' σ H Q g r hb k =>
  k _ (Stp.put (r := .val d) (.refl g) r hb) (take_set h)
noncomputable def TGs2 (K : PySem.W.Frag) (m : Nat) (is : List Nat) (gs : TGs) : Prop := ∀ (xs : List V) (ds : List D) (F : Hp) (ρ ρ' : List Sl) (σ : L2.St) (H : Hp) (Q : L2.St → Hp → Prop), GS K F ρ σ H → Reps K F xs ds → putAll ρ is ds = some ρ' →
  (∀ σ', Stp K F ρ σ H F ρ' σ' H → σ'.take m = σ.take m → Q σ' H) → gs xs σ H Q
theorem tgc_cons {K : PySem.W.Frag} {m i : Nat} {is : List Nat} {gs : TGs} (hi : m ≤ i) (ih : TGs2 K m is gs) : TGs2 K m (i :: is) (gCons (gName i) gs) := by
  intro xs ds F ρ ρ' σ H Q g r h k
  cases ds with
  | nil => simp [putAll] at h
  | cons d ds =>
    obtain ⟨v, vs, rfl, h1, h2⟩ := r.uncons
    rw [putAll] at h
    obtain ⟨ρ1, e1, e2⟩ := bindO h
    have s1 := Stp.put (r := .val d) (.refl g) h1 e1
    exact ⟨v, vs, rfl, ih vs ds F ρ1 ρ' _ H _ s1.gs h2 e2 fun σ' s2 z => k σ' (s1.trans s2) (z.trans (take_set hi))⟩
theorem tgc_nil {K : PySem.W.Frag} {m : Nat} : TGs2 K m [] gNil := by
  intro xs ds F ρ ρ' σ H Q g r h k
  cases ds with
  | nil => rw [putAll] at h; cases h; exact ⟨r.unnil, k σ (.refl g) rfl⟩
  | cons d ds => simp [putAll] at h
theorem tgc_tup {K : PySem.W.Frag} {is : List Nat} {gs : TGs} {m l : Nat} (hm : l = is.length) (h : TGs2 K m is gs) : TGokC K m is false (gTup K l gs) := by
  intro x d F ρ ρ' σ H Q g r hb k
  cases d with
  | tup ds =>
    replace hb : putAll ρ is ds = some ρ' := hb
    rw [Rep] at r
    obtain ⟨a, xs, rfl, h1, h2⟩ := r
    exact ⟨a, xs, rfl, Same.seqT g.sub h1, by rw [h2.length, putAll_len hb, hm], h xs _ F ρ ρ' σ H Q g h2 hb k⟩
  | _ => cases hb
noncomputable def SQ (X : Cx) (c : Call) (ifs : List Expr) (t : Option P) : Prop := PTs X ifs (tTr X.K (evT c t))
theorem sq_none : SQ X c [] none := fun pins s σ H Q I ⟨F, ρ, k, ρ', g, e, q⟩ => by
  rw [evT] at e; cases e
  exact pts_nil pins s σ H Q I (q F H (.refl g))
theorem sq_some (h : ST X c e p) : SQ X c [e] (some p) := fun pins s σ H Q I ⟨F, ρ, k, ρ', g, e, q⟩ => by
  rw [evT] at e
  exact pts_one h pins s σ H Q I ⟨F, ρ, k, ρ', g, e, q⟩
theorem Stp.offD {K : PySem.W.Frag} {F H F1 H1 : Hp} {ρ ρ1 : List Sl} {σ σ1 : L2.St} {Da : Addr} {o : HO} (s : Stp K F ρ σ H F1 ρ1 σ1 H1) (h : H Da = none) (hf : F1 Da = none) (ho : ¬ Own ρ1 σ1 Da) : Stp K F ρ σ H F1 ρ1 σ1 (upd H1 Da o) := by
  refine ⟨⟨fun b u e => ?_, s.gs.len, s.gs.val, fun i t ds e e' => ?_, s.gs.dis⟩, s.fsub, s.fgr, fun b u e n => ?_, s.ogr, s.len, s.lk⟩
  · have : b ≠ Da := by rintro rfl; rw [hf] at e; cases e
    rw [upd_ne this]; exact s.gs.sub b u e
  · obtain ⟨a, xs, q1, q2, q3, q4⟩ := s.gs.own i t ds e e'
    have : a ≠ Da := by rintro rfl; exact ho ⟨i, ⟨t, ds, e, e'⟩, q1⟩
    exact ⟨a, xs, q1, by rw [upd_ne this]; exact q2, q3, q4⟩
  · have : b ≠ Da := by rintro rfl; rw [h] at e; cases e
    rw [upd_ne this]; exact s.keep b u e n
theorem comp_trA {K : PySem.W.Frag} {F H : Hp} {ρ ρ1 ρ2 : List Sl} {σ : L2.St} {ul : List Sl → List Sl} {ti : TI} {is : List Nat} {one : Bool} {test : List Sl → Res Bool} {el : Ev} {g : TG} {Q : VK} {ds xs : List D} {m : Nat}
    (hm : σ.length = m) (hgo : TGokC K m is one g) (hti : ∀ R : It → Hp → Prop, (∀ J F1 H1, Walk K F ρ σ H ul J ds F1 ρ1 H1 → R J H1) → ti σ H R) (hlim : ds.length ≤ lim)
    (e2 : turns is one test el ds [] (ρ1 ++ List.replicate n .unb) = .ok xs ρ2)
    (k : ∀ v F' H', Stp K F ρ σ H F' (ul (ρ2.take ρ1.length)) σ H' → RepR K F' (ul (ρ2.take ρ1.length)) σ H' ρ σ H v (.own xs) → Q v H') :
    tComp n ti g (tTr K test) (tEv K el) σ H Q := by
  refine hti _ fun J F1 H1 w Da hDa => ?_
  have hl1 : ρ1.length = σ.length := w.gs.len
  have gm := w.gs.more (n := n) (τ := List.replicate n none) (by simp)
  have fD : F1 Da = none := by
    cases q : F1 Da with
    | none => rfl
    | some o => rw [w.gs.sub Da o q] at hDa; cases hDa
  have nO : ¬ Own (ρ1 ++ List.replicate n .unb) (σ ++ List.replicate n none) Da := fun ⟨i, ⟨t, dt, q1, q2⟩, q3⟩ => by
    obtain ⟨a, ys, z1, z2, _⟩ := gm.own i t dt q1 q2
    rw [q3] at z1; cases z1
    rw [hDa] at z2; cases z2
  refine ⟨fun i mm ys σi Hi => ∃ Fi ρi acc, Stp K F1 (ρ1 ++ List.replicate n .unb) (σ ++ List.replicate n none) H1 Fi ρi σi Hi ∧ σi.take m = σ ∧ Hi Da = some (.lst ys) ∧ Fi Da = none ∧ ¬ Own ρi σi Da ∧ Reps K Fi ys acc ∧ acc.length ≤ i ∧ mm = ds.length - i ∧ i ≤ ds.length ∧
    turns is one test el (ds.drop i) acc ρi = .ok xs ρ2, ⟨_, F1, _, [], (Stp.refl gm).offD hDa fD nO, by rw [List.take_append_of_le_length (by omega), List.take_of_length_le (by omega)], upd_same, fD, nO, .nil, Nat.zero_le _, rfl, Nat.zero_le _, e2⟩, ?_⟩
  rintro i mm ys σi Hi ⟨Fi, ρi, acc, si, hσ, hD, hF, hO, rs, hacc, rfl, hle, ei⟩
  refine ⟨hD, ?_⟩
  -- what stays of the new list through a step
  have stay : ∀ {F2 H2 : Hp} {ρ3 : List Sl} {σ2 : L2.St}, Stp K Fi ρi σi Hi F2 ρ3 σ2 H2 → H2 Da = some (.lst ys) ∧ F2 Da = none ∧ ¬ Own ρ3 σ2 Da := fun {F2 H2 ρ3 σ2} s => by
    refine ⟨s.keep Da _ hD hO, ?_, fun o => ?_⟩
    · cases q : F2 Da with
      | none => rfl
      | some o =>
        rcases s.fgr Da hF (by rw [q]; simp) with z | z
        · exact absurd z hO
        · rw [hD] at z; cases z
    · rcases s.ogr Da o with z | z
      · exact hO z
      · rw [hD] at z; cases z
  obtain ⟨s1, s2⟩ := w.src n i Fi ρi σi Hi si
  by_cases hlt : i < ds.length
  · right
    have hd : ds[i]? = some ds[i] := by simp [hlt]
    obtain ⟨go, step⟩ := s1 _ hd
    refine ⟨go, fun x H2 y => ?_⟩
    obtain ⟨F2, ext, rx⟩ := step x H2 y
    have t2 := ext.stp si.gs
    rw [List.drop_eq_getElem_cons hlt, turns] at ei
    cases hbd : bindF ρi is one ds[i] with
    | none => rw [hbd] at ei; cases ei
    | some ρb =>
      rw [hbd] at ei
      obtain ⟨bb, ρc, eb, ei⟩ := bind_ok ei
      refine hgo x _ F2 ρi ρb σi H2 _ t2.gs rx hbd fun σ2 sb htk => ?_
      have t3 := t2.trans sb
      refine ⟨F2, ρb, bb, ρc, t3.gs, eb, fun F4 H4 s4 => ?_⟩
      have t4 := t3.trans s4
      cases bb with
      | false =>
        rw [if_neg Bool.false_ne_true] at ei
        obtain ⟨y1, y2, y3⟩ := stay t4
        exact ⟨_, by omega, F4, ρc, acc, si.trans t4, htk.trans hσ, y1, y2, y3, rs.mono t4.fsub, by omega, rfl, hlt, ei⟩
      | true =>
        rw [if_pos rfl] at ei
        obtain ⟨re, ρe, ee, ei⟩ := bind_ok ei
        refine (show tEv K el σ2 H4 _ from ⟨F4, ρc, re, ρe, t4.gs, ee, fun v F5 H5 s5 rr => ?_⟩)
        obtain ⟨F6, s6, _, rp⟩ := s5.frz rr
        have t6 := t4.trans s6
        obtain ⟨y1, y2, y3⟩ := stay t6
        have hlen : ys.length < sizeLine := by
          have h1 := rs.length
          have h2 : lim = sizeLine := rfl
          omega
        exact ⟨y1, hlen, _, by omega, F6, ρe, acc ++ [re.d], (si.trans t6).offD hDa y2 y3, htk.trans hσ, upd_same, y2, y3, (rs.mono t6.fsub).append (.cons rp .nil), by simp; omega, rfl, hlt, ei⟩
  · left
    have hdr : ds.drop i = [] := by rw [List.drop_eq_nil_iff]; omega
    rw [hdr, turns] at ei
    cases ei
    refine ⟨s2 (by omega), ?_⟩
    obtain ⟨l1, l2⟩ := Stp.less (m := ρ1.length) rfl w.gs (by simp) si
    have hst : σi.take ρ1.length = σ := by rw [hl1, hm]; exact hσ
    rw [hst] at l1
    have rr : RepR K Fi ρ2 σi Hi (ρ1 ++ List.replicate n .unb) (σ ++ List.replicate n none) H1 (.ref Da) (.own xs) := ⟨Da, ys, rfl, hD, hF, rs, hO, .inr hDa⟩
    have rr2 := l2 _ _ rr
    rw [hst] at rr2
    obtain ⟨z1, z2⟩ := w.fin _ _ _ _ l1
    exact k _ Fi Hi z1 (z2 _ _ rr2)
theorem comp_tr {K : PySem.W.Frag} {F H : Hp} {ρ : List Sl} {σ : L2.St} {iv : Option Nat} {f : Ev} {is : List Nat} {one : Bool} {test : List Sl → Res Bool} {el : Ev} {g : TG} {Q : VK} {r : R} {ρ' : List Sl} {m : Nat}
    (hm : σ.length = m) (hgo : TGokC K m is one g) (g0 : GS K F ρ σ H)
    (e : ((srcOf iv f ρ).bind fun ds ρ₁ => if ds.length ≤ lim then (turns is one test el ds [] (ρ₁ ++ List.replicate n .unb)).bind fun xs ρ₂ => Res.ok (R.own xs) (unlend ρ iv (ρ₂.take ρ₁.length)) else .stuck) = .ok r ρ')
    (k : ∀ v F' H', Stp K F ρ σ H F' ρ' σ H' → RepR K F' ρ' σ H' ρ σ H v r → Q v H') :
    tComp n (tIt K iv f) g (tTr K test) (tEv K el) σ H Q := by
  obtain ⟨ds, ρ1, e1, e⟩ := bind_ok e
  split at e
  · rename_i hlim
    obtain ⟨xs, ρ2, e2, e⟩ := bind_ok e
    cases e
    exact comp_trA hm hgo (fun R h => ⟨F, ρ, ds, ρ1, g0, e1, h⟩) hlim e2 k
  · cases e
theorem sx_comp {g : TG} {is : List Nat} {one : Bool} {t : Option P} (hc : X.calm = true) (ok : CompOk X scope N' n) (hi : SI X c tg iter ps) (hg : ∀ cl C s₀ H₀ ex, PG (cxC X scope N' cl C s₀ H₀ ex) tg g) (hgo : TGokC X.K X.N.length is one g)
    (ht : ∀ cl C s₀ H₀ ex, SQ (cxC X scope N' cl C s₀ H₀ ex) c ifs t) (he : ∀ cl C s₀ H₀ ex, SX (cxC X scope N' cl C s₀ H₀ ex) c elt pe)
    (hs : ∀ x, foldedSetIterable iter X.env x = pure x := by intro _; rfl) : SX X c (.ListComp elt [⟨tg, iter, ifs, 0⟩] scope pos) (.comp ps n is one t pe) := by
  refine ⟨peImpN (pe_comp (tt := tTr X.K (evT c t)) (te := tEv X.K (HH.ev c pe)) hc ok hi hg ht (fun cl C s₀ H₀ ex => (he cl C s₀ H₀ ex).ev) hs) ?_, fun i h => by cases h⟩
  rintro σ H Q hl ⟨F, ρ, r, ρ', g0, e, k⟩
  rw [HH.ev] at e
  exact comp_tr hl hgo g0 e k
theorem ss_asgC {i : Nat} {x : Str} {pos' spos : Pos} {nn : Nat} {g : TG} {is : List Nat} {one : Bool} {t : Option P} (hc : X.calm = true) (hN : X.N.Nodup) (hx0 : X.N[i]? = some x) (hx : Loc X.env.scope x) (ok : CompOk X scope N' n) (hi : SI X c tg iter ps)
    (hg : ∀ cl C s₀ H₀ ex, PG (cxC X scope N' cl C s₀ H₀ ex) tg g) (hgo : TGokC X.K X.N.length is one g)
    (ht : ∀ cl C s₀ H₀ ex, SQ (cxC X scope N' cl C s₀ H₀ ex) c ifs t) (he : ∀ cl C s₀ H₀ ex, SX (cxC X scope N' cl C s₀ H₀ ex) c elt pe)
    (hsw : swapsWith (.ListComp elt [⟨tg, iter, ifs, 0⟩] scope pos) (some (.Name x pos')) spos.line X.env = pure true := by rfl)
    (hs : ∀ x, foldedSetIterable iter X.env x = pure x := by intro _; rfl) (hf : X.fn x = true ∨ X.env.scope.names.lookup x = some .local := by first | exact .inl rfl | exact .inr rfl | assumption) :
    SS X c nn (.Assign [.Name x pos'] (.ListComp elt [⟨tg, iter, ifs, 0⟩] scope pos) spos) (.asg i (.comp ps n is one t pe)) := by
  refine psImpN (ps_setC (tt := tTr X.K (evT c t)) (te := tEv X.K (HH.ev c pe)) hc hN hx0 hx ok hi hg ht (fun cl C s₀ H₀ ex => (he cl C s₀ H₀ ex).ev) hsw hs hf) ?_
  rintro D σ H hl ⟨F, ρ, fl, ρ', g0, e, k⟩
  rw [ex] at e
  obtain ⟨r, ρ1, e1, e⟩ := bind_ok e
  obtain ⟨ρ2, ρ3, e2, e⟩ := bind_ok e
  cases e
  have zz := lift_ok e2; clear e2; obtain ⟨e2, e3⟩ := zz
  rw [HH.ev] at e1
  exact comp_tr hl hgo g0 e1 fun v F1 H1 s1 rr => k F1 _ H1 (s1.put rr e2)
end
end HH
end
section
set_option linter.all false
set_option Elab.async false
set_option maxRecDepth 10000
namespace HH
open PySem L2 PySem.Spec PyProof.Rows
section
variable {X : Cx} {c : Call} {n : Nat} {e a b d : Expr} {p pa pb pd : P} {pos : Pos} {es : List Expr} {ps : List P}
noncomputable def rBn (K : PySem.W.Frag) (f : List D → Option R) : List V → Hp → VK → Prop := fun xs H Q => ∃ F ds r, Same F H ∧ Reps K F xs ds ∧ f ds = some r ∧ ∀ v F' H', Ext F H F' H' → RepN K F' H' H v r → Q v H'
theorem sx_bn {E : Expr} {f : List D → Option R} {q : P} (hp : ∀ {t}, PA X es t → PE X E (tCB (rBn X.K f) t)) (ha : SA X c es ps)
    (hq : ∀ ρ, HH.ev c q ρ = (evs c ps ρ).bind fun ds ρ => lift (f ds) ρ) (hv : isVar q = none) : SX X c E q := by
  refine ⟨peImp (hp ha.1) ?_, fun i h => by rw [hv] at h; cases h⟩
  rintro σ H Q ⟨F, ρ, r, ρ', g, e, k⟩
  rw [hq] at e
  obtain ⟨ds, ρ1, e1, e2⟩ := bind_ok e
  have zz := lift_ok e2; clear e2; obtain ⟨e2, e3⟩ := zz
  subst e3
  exact ⟨F, ρ, ds, ρ1, g, e1, fun vs F' H' s rs => ⟨F', ds, r, s.gs.sub, rs, e2, fun w F2 H2 x rn => k w F2 H2 (s.trans (x.stp s.gs)) (.later s (rn.repR s.gs))⟩⟩
theorem reps2 {K : PySem.W.Frag} {F : Hp} {xs : List V} {i j : Int} (h : Reps K F xs [.int i, .int j]) : xs = [.int i, .int j] := by
  obtain ⟨v, r, rfl, h1, h2⟩ := h.uncons
  obtain ⟨u, r2, rfl, h3, h4⟩ := h2.uncons
  rw [Rep] at h1 h3
  rw [h1, h3, h4.unnil]
theorem c_min2 (hc : X.calm = true) : CallR X (.builtin "min") (rBn X.K (blt .min2)) := by
  rintro pins s σ H xs us Q I r ⟨F, ds, r', sm, rs, he, k⟩
  unfold blt at he
  split at he <;> first | (cases he; done) | skip
  all_goals try (rename_i h; cases h; done)
  all_goals (cases he; rw [reps2 rs] at r; exact call_min2 hc pins s σ H _ us Q I r ⟨_, _, rfl, RepN.val0 sm (repInt _) k⟩)
theorem c_max2 (hc : X.calm = true) : CallR X (.builtin "max") (rBn X.K (blt .max2)) := by
  rintro pins s σ H xs us Q I r ⟨F, ds, r', sm, rs, he, k⟩
  unfold blt at he
  split at he <;> first | (cases he; done) | skip
  all_goals try (rename_i h; cases h; done)
  all_goals (cases he; rw [reps2 rs] at r; exact call_max2 hc pins s σ H _ us Q I r ⟨_, _, rfl, RepN.val0 sm (repInt _) k⟩)
theorem boot_min : bootBuiltins "min" = some (.builtin "min") := by decide +kernel
theorem boot_max : bootBuiltins "max" = some (.builtin "max") := by decide +kernel
theorem sx_min2 {x : Str} {p' : Pos} (hx : x = "min") (hc : X.calm = true) (hg : Gl X x) (hm : X.mg x = none) (ha : SA X c [a, b] [pa, pb]) (hs : starEach [a, b] X.env = (false, eval a X.env) :: starEach [b] X.env := by rfl) (hpl : (backTo pos (starEach [b] X.env)).any (·.1) = false := by rfl) :
    SX X c (.Call (.Name x p') [a, b] [] pos) (.blt .min2 [pa, pb]) := by
  subst hx; exact sx_bn (fun h => pe_callB (c_min2 hc) hg hm boot_min h (he := hs) (hpl := hpl)) ha (fun ρ => by rw [HH.ev]; intro a h; cases h) rfl
theorem sx_max2 {x : Str} {p' : Pos} (hx : x = "max") (hc : X.calm = true) (hg : Gl X x) (hm : X.mg x = none) (ha : SA X c [a, b] [pa, pb]) (hs : starEach [a, b] X.env = (false, eval a X.env) :: starEach [b] X.env := by rfl) (hpl : (backTo pos (starEach [b] X.env)).any (·.1) = false := by rfl) :
    SX X c (.Call (.Name x p') [a, b] [] pos) (.blt .max2 [pa, pb]) := by
  subst hx; exact sx_bn (fun h => pe_callB (c_max2 hc) hg hm boot_max h (he := hs) (hpl := hpl)) ha (fun ρ => by rw [HH.ev]; intro a h; cases h) rfl
end
end HH
end
section
set_option linter.all false
set_option Elab.async false
set_option maxRecDepth 10000
namespace HH
open PySem L2 PySem.Spec PyProof.Rows
section
variable {X : Cx} {c : Call} {n : Nat} {e a b d : Expr} {p pa pb pd : P} {pos : Pos} {es : List Expr} {ps : List P}
theorem pkL_get {K : PySem.W.Frag} {F H : Hp} {ρ : List Sl} {σ : L2.St} {i : Nat} {ds : List D} (g : GS K F ρ σ H) (h : pkL ρ i = some ds) : ∃ a xs, σ[i]? = some (some (V.ref a)) ∧ SqL K H a xs := by
  unfold pkL at h
  split at h
  · rename_i q
    cases h
    obtain ⟨v, h1, h2⟩ := g.pk q
    obtain ⟨a, xs, rfl, h3, _⟩ := h2.lst g.sub
    exact ⟨a, xs, h1, h3⟩
  · cases h
theorem ss_seti {x : Str} {k : Nat} {px tpos : Pos} (hN : X.N[k]? = some x) (hv : Vis X.env.scope x) (hi : SX X c b pb) (he : SX X c e p)
    (ha : ∀ v, assign (.Subscript (.Name x px) b tpos) X.env v = (do
      let ov ← holding [v] (eval (.Name x px) X.env)
      let iv ← holding [v, ov] (eval b X.env)
      standAt tpos
      holding [v, ov, iv] (setItem ov iv v)
      release [v, ov, iv] []) := by intro _; rfl)
    (hs : swapsWithSole [.Subscript (.Name x px) b tpos] e pos.line X.env = pure false := by rfl) (hw : swappedStores [.Subscript (.Name x px) b tpos] e X.env = pure none := by rfl)
    (h1 : (assignEach [.Subscript (.Name x px) b tpos] X.env).map (·.2) = [assign (.Subscript (.Name x px) b tpos) X.env] := by rfl) (hd : (x == ("__debug__" : Str)) = false := by decide) (hcd : (x == ("__classdict__" : Str)) = false := by decide) :
    SS X c n (.Assign [.Subscript (.Name x px) b tpos] e pos) (.seti k pb p) := by
  obtain ⟨ti, hi1, hi2⟩ := hi.opd
  refine psImp (ps_asg he.ev (pg_sub (pe_var hN hv hd hcd) hi1 set_list ha) hs hw h1) ?_
  rintro D σ H ⟨F, ρ, fl, ρ', g, e, kk⟩
  rw [ex] at e
  obtain ⟨r, ρ1, e1, e⟩ := bind_ok e
  obtain ⟨x0, ρ1', e0, e⟩ := bind_ok e
  have zz := lift_ok e0; clear e0; obtain ⟨e0, e01⟩ := zz
  subst e01
  obtain ⟨dk, ρ2, e2, e⟩ := bind_ok e
  refine ⟨F, ρ, r, ρ1, g, e1, fun v F1 H1 s1 rr => ?_⟩
  obtain ⟨F2, s2, _, rp⟩ := s1.frz rr
  obtain ⟨o, ho, _⟩ := s2.gs.pk e0
  refine ⟨o, ho, hi2 s2.gs e2 fun vi F3 H3 s3 pi => ?_⟩
  split at e
  · rename_i bb ds kk' q
    split at e
    · rename_i j hj
      cases e
      obtain ⟨ad, xs, q1, q2, q3, q4⟩ := s3.gs.own k _ ds q rfl
      rw [ho] at q1; cases q1
      refine ⟨ad, xs, kk', j, rfl, pi.int, q2, by rw [q4.length]; exact hj, ?_⟩
      exact kk F3 σ _ ((s2.trans s3).trans (s3.gs.mut q ho (q4.set (rp.mono s3.fsub) j)))
    · cases e
  · cases e
theorem sx_app_core {x : Str} {k : Nat} {px apos cpos : Pos} (hN : X.N[k]? = some x) (hv : Vis X.env.scope x) (he : SX X c e p) (hline : (apos.endLine == cpos.line) = true := by rfl) (hs : starEach [e] X.env = (false, eval e X.env) :: starEach [] X.env := by rfl)
    (hbase : attributeBase (.Name x px) "append" X.env (eval (.Name x px) X.env) = eval (.Name x px) X.env := by rfl)
    (hfew : ((backTo cpos (starEach [e] X.env)).all (fun x => !x.1) && (backToKw cpos (keywordEach [] X.env)).all (fun x => x.1.isSome)
      && decide ([e].length + ([] : List Keyword).length + (if ([] : List Keyword).isEmpty then 0 else 1) < 30)) = true := by rfl)
    (hsw : swapsWith (.Call (.Attribute (.Name x px) "append" apos) [e] [] cpos) none pos.line X.env = pure false := by rfl)
    (hd : (x == ("__debug__" : Str)) = false := by decide) (hcd : (x == ("__classdict__" : Str)) = false := by decide) : SS X c n (.Expr (.Call (.Attribute (.Name x px) "append" apos) [e] [] cpos) pos) (.app k p) := by
  refine psImp (ps_expr (pe_bm PySem.F.plainAttrs_list PySem.F.slot_list_append PySem.F.type_list_append mt_append (pe_var hN hv hd hcd) (pa_cons he.ev pa_nil hs) hbase hfew hline hs) hsw) ?_
  rintro D σ H ⟨F, ρ, fl, ρ', g, e, kk⟩
  rw [ex] at e
  obtain ⟨d0, ρ0, e0, e⟩ := bind_ok e
  have zz := lift_ok e0; clear e0; obtain ⟨e0, e01⟩ := zz
  subst e01
  obtain ⟨r, ρ1, e1, e⟩ := bind_ok e
  obtain ⟨a, xs, h1, h2⟩ := pkL_get g e0
  refine ⟨.ref a, h1, .inl ⟨rfl, xs, h2⟩, F, ρ, r, ρ1, g, e1, fun v F1 H1 s1 rr => ?_⟩
  obtain ⟨F2, s2, _, rp⟩ := s1.frz rr
  split at e
  · rename_i bb ds q
    split at e
    · rename_i hlt
      cases e
      obtain ⟨ad, ys, q1, q2, q3, q4⟩ := s2.gs.own k _ ds q rfl
      rw [h1] at q1; cases q1
      exact ⟨_, ys, v, rfl, rfl, q2, by rw [q4.length]; exact hlt, kk F2 σ _ (s2.trans (s2.gs.mut q h1 (q4.append (.cons rp .nil))))⟩
    · cases e
  · cases e
theorem ss_par {i j : Nat} {x y : Str} {px py pt : Pos} {kt k2 pt2} (hc : X.calm = true) (hN : X.N.Nodup) (hi : X.N[i]? = some x) (hj : X.N[j]? = some y) (hij : i ≠ j)
    (hx : X.env.scope.names.lookup x = some .local) (hy : X.env.scope.names.lookup y = some .local) (ha : SX X c a pa) (hb : SX X c b pb)
    (hw : swappedStores [.Tuple [.Name x px, .Name y py] kt pt] (.Tuple [a, b] k2 pt2) X.env = pure (some [x, y]) := by rfl)
    (hs : swapsWithSole [.Tuple [.Name x px, .Name y py] kt pt] (.Tuple [a, b] k2 pt2) pos.line X.env = pure false := by rfl)
    (h1 : starEach [a, b] X.env = (false, eval a X.env) :: starEach [b] X.env := by rfl) (h2 : starEach [b] X.env = (false, eval b X.env) :: starEach [] X.env := by rfl) :
    SS X c n (.Assign [.Tuple [.Name x px, .Name y py] kt pt] (.Tuple [a, b] k2 pt2) pos) (.par i j pa pb) := by
  refine psImp (L2.ps_par hc hN hi hj hij hx hy (pa_cons ha.ev (pa_cons hb.ev pa_nil h2) h1) hw hs) ?_
  rintro D σ H ⟨F, ρ, fl, ρ', g, e, k⟩
  rw [ex] at e
  obtain ⟨r, ρ1, e1, e⟩ := bind_ok e
  obtain ⟨r2, ρ2, e2, e⟩ := bind_ok e
  obtain ⟨ρ3, ρ4, e3, e⟩ := bind_ok e
  cases e
  have zz := lift_ok e3; clear e3; obtain ⟨e3, e4⟩ := zz
  obtain ⟨ρ5, e5, e6⟩ := bindO e3
  refine ⟨F, ρ, r, ρ1, g, e1, fun v F1 H1 s1 rr => ?_⟩
  obtain ⟨F2, s2, _, rp⟩ := s1.frz rr
  refine ⟨F2, ρ1, r2, ρ2, s2.gs, e2, fun u F3 H3 s3 rr3 => ?_⟩
  obtain ⟨F4, s4, _, rp4⟩ := s3.frz rr3
  refine ⟨v, u, rfl, ?_⟩
  have t4 := s2.trans s4
  have t5 := t4.put (r := .val r.d) (v := v) (rp.mono s4.fsub) e5
  exact k F4 _ H3 (t5.put (r := .val r2.d) (v := u) rp4 e6)
theorem mapM_asB {ds : List D} {bs : List Bool} (h : ds.mapM asB = some bs) : ds = bs.map D.bl := by
  induction ds generalizing bs with
  | nil => simp at h; subst h; rfl
  | cons d ds ih =>
    rw [List.mapM_cons] at h
    cases hd : asB d with
    | none => rw [hd] at h; cases h
    | some k =>
      rw [hd] at h
      cases hr : ds.mapM asB with
      | none => rw [hr] at h; cases h
      | some r => rw [hr] at h; cases h; rw [List.map_cons, ← ih hr, asB_some hd]
theorem reps_bl {K : PySem.W.Frag} {F : Hp} : ∀ {bs : List Bool} {xs : List V}, Reps K F xs (bs.map D.bl) → xs = bs.map V.bl
  | [], _, h => h.unnil
  | k :: bs, _, h => by
    obtain ⟨v, r, rfl, h1, h2⟩ := h.uncons
    rw [Rep] at h1
    rw [h1, reps_bl h2]; rfl
theorem vals_bl : ∀ {bs : List Bool} {us : List Value}, Vals (bs.map V.bl) us → us = bs.map Value.bool
  | [], _, h => h.zero
  | k :: bs, _, .cons r t => by rw [List.map_cons, ← vals_bl t, show _ = _ from r]
theorem c_quant {id : String} {f : List Bool → Bool} (hc : X.calm = true)
    (rule : ∀ {x : Value} {Q : Value → Shared → Prop} {s : Shared}, wpAny (model X.prog X.w) X.A.in1 (pyIter x) (fun it s₂ => ∃ I fp wr n P St tr, it = .ref I ∧ Walks X.prog X.w X.A.in1 I fp wr n P St ∧ St 0 s₂.heap ∧ TruthOf X.prog X.w X.A.in1 P tr ∧
      ∀ h' tk, (∀ b o, b ∉ wr → s₂.heap.get? b = some o → h'.get? b = some o) → Q (.bool (f ((List.range n).map tr))) { s₂ with heap := h', toks := tk }) X.xe s → wpAny (model X.prog X.w) X.A (call (.builtin id) [x]) Q X.xe s) :
    CallR X (.builtin id) (fun xs H Q => ∃ p ys bs, xs = [.ref p] ∧ SqL X.K H p ys ∧ ys = bs.map V.bl ∧ Q (.bl (f bs)) H) := by
  rintro pins s σ H xs us Q I r ⟨p, ys, bs, hx, hq, hy, k⟩
  subst hx; subst hy
  obtain ⟨u, rfl, rx⟩ := r.one
  cases rx
  obtain ⟨its, rv, pl, hz⟩ := I.list hq
  have hits := vals_bl rv
  subst hits
  refine rule (wpAny_pyIter_list pl.isList ?_)
  have hne : p ≠ s.heap.objs.size := by
    obtain ⟨o, h1, _⟩ := pl.isList
    exact Nat.ne_of_lt (Heap.lt_size h1)
  refine ⟨s.heap.objs.size, _, _, _, _, _, fun i => bs.getD i false, rfl, Walks.list (prog := X.prog) (w := X.w) (A := X.A.in1) (show X.A.in1.handled = none from I.ok.hd hc) s.heap.objs.size p hne (bs.map Value.bool).toArray, ⟨⟨_, Heap.get?_push_size _ rfl, rfl, rfl⟩, ?_⟩, ?_, fun h' tk kp => ?_⟩
  · obtain ⟨o, h1, h2⟩ := pl.isList
    exact ⟨o, Heap.get?_push_of_some _ h1, h2⟩
  · intro i v s' Q' E' hP hQ
    have hv : v = .bool (bs.getD i false) := by
      have hP : (bs.map Value.bool)[i]? = some v := by simpa using hP
      rw [List.getElem?_map] at hP
      obtain ⟨k', e1, e2⟩ := map_some hP
      rw [← e2, List.getD_eq_getElem?_getD, e1]; rfl
    subst hv
    exact wpAny_truthy_bool hQ
  · have e : f ((List.range (bs.map Value.bool).toArray.size).map fun i => bs.getD i false) = f bs := by
      congr 1
      apply List.ext_getElem
      · simp
      · intro i h1 h2
        simp at h1
        simp [h1]
    rw [e]
    exact ⟨.bl _, H, I.kept (fun b o z => kp b o (by simp; exact Nat.ne_of_lt (Heap.lt_size z)) (Heap.get?_push_of_some _ z)), rfl, k⟩
theorem c_all (hc : X.calm = true) : CallR X (.builtin "all") (rB1 X.K fun x => blt .all [x]) := by
  rintro pins s σ H xs us Q I r ⟨x, hx, F, d, r', sm, px, he, k⟩
  obtain ⟨bs, e1, he⟩ := map_some (show ((itemsL d).bind fun ds => ds.mapM asB).map _ = some r' from he)
  subst he
  obtain ⟨ds, e2, e3⟩ := bindO e1
  have e4 := mapM_asB e3
  cases d with
  | lst es =>
    cases e2
    obtain ⟨p, ys, rfl, hq, rs⟩ := px.lst sm
    rw [e4] at rs
    refine c_quant (f := fun bs => bs.all id) hc (fun h => call_all_walk (wpAny_mono h (fun it s₂ ⟨I, fp, wr, n, P, Sx, tr, h1, h2, h3, h4, h5⟩ => ⟨I, fp, wr, n, P, Sx, tr, h1, h2, h3, h4, fun h' tk kp => ?_⟩) fun _ _ z => z)) pins s σ H xs us Q I r ⟨p, ys, bs, hx, hq, reps_bl rs, RepN.val0 sm (repBl _) k⟩
    have z := h5 h' tk kp
    rw [List.all_map] at z
    exact z
  | _ => cases e2
theorem boot_all : bootBuiltins "all" = some (.builtin "all") := by decide +kernel
theorem sx_all {x : Str} {p' : Pos} (hx : x = "all") (hc : X.calm = true) (hg : Gl X x) (hm : X.mg x = none) (ha : SX X c a pa) (hs : starEach [a] X.env = (false, eval a X.env) :: starEach [] X.env := by rfl) : SX X c (.Call (.Name x p') [a] [] pos) (.blt .all [pa]) := by
  subst hx; exact sx_b1 (fun h => pe_callB (c_all hc) hg hm boot_all h (he := hs)) ha (fun ρ => by rw [HH.ev]) rfl hs
end
end HH
end
section
set_option linter.all false
set_option Elab.async false
set_option maxRecDepth 10000
namespace HH
open PySem L2 PySem.Spec PyProof.Rows
section
variable {K : PySem.W.Frag}
theorem peqs_len : ∀ {xs ys : List D}, xs.length ≠ ys.length → peqs xs ys = false
  | [], [], h => absurd rfl h
  | [], _ :: _, _ => by simp [peqs]
  | _ :: _, [], _ => by simp [peqs]
  | x :: xs, y :: ys, h => by
    rw [peqs, peqs_len (xs := xs) (ys := ys) (by simpa using h), Bool.and_false]
theorem peqs_range : ∀ {xs ys : List D}, xs.length = ys.length → peqs xs ys = (List.range xs.length).all fun j => peq (xs.getD j .non) (ys.getD j .non)
  | [], [], _ => by rw [peqs]; rfl
  | [], _ :: _, h => by simp at h
  | _ :: _, [], h => by simp at h
  | x :: xs, y :: ys, h => by
    rw [peqs, peqs_range (xs := xs) (ys := ys) (by simpa using h), List.length_cons, List.range_succ_eq_map, List.all_cons, List.all_map]
    rfl
mutual
theorem peq_refl : ∀ d : D, peq d d = true
  | .non => by rw [peq]
  | .bl _ => by rw [peq]; simp
  | .int _ => by rw [peq]; simp
  | .str _ => by rw [peq]; simp
  | .tup ds => by rw [peq]; exact peqs_refl ds
  | .lst ds => by rw [peq]; exact peqs_refl ds
theorem peqs_refl : ∀ ds : List D, peqs ds ds = true
  | [] => by rw [peqs]
  | d :: ds => by rw [peqs, peq_refl d, peqs_refl ds]; rfl
end
theorem flat_inj {F : Hp} {d e : D} {v : V} (hf : flat d = true) (h1 : Rep K F v d) (h2 : Rep K F v e) : d = e := by
  cases d with
  | tup _ => cases hf
  | lst _ => cases hf
  | non =>
    rw [Rep] at h1; subst h1
    cases e with
    | non => rfl
    | tup _ => rw [Rep] at h2; obtain ⟨_, _, q, _⟩ := h2; cases q
    | lst _ => rw [Rep] at h2; obtain ⟨_, _, q, _⟩ := h2; cases q
    | _ => rw [Rep] at h2; cases h2
  | bl k =>
    rw [Rep] at h1; subst h1
    cases e with
    | bl _ => rw [Rep] at h2; cases h2; rfl
    | tup _ => rw [Rep] at h2; obtain ⟨_, _, q, _⟩ := h2; cases q
    | lst _ => rw [Rep] at h2; obtain ⟨_, _, q, _⟩ := h2; cases q
    | _ => rw [Rep] at h2; cases h2
  | int k =>
    rw [Rep] at h1; subst h1
    cases e with
    | int _ => rw [Rep] at h2; cases h2; rfl
    | tup _ => rw [Rep] at h2; obtain ⟨_, _, q, _⟩ := h2; cases q
    | lst _ => rw [Rep] at h2; obtain ⟨_, _, q, _⟩ := h2; cases q
    | _ => rw [Rep] at h2; cases h2
  | str k =>
    rw [Rep] at h1; subst h1
    cases e with
    | str _ => rw [Rep] at h2; cases h2; rfl
    | tup _ => rw [Rep] at h2; obtain ⟨_, _, q, _⟩ := h2; cases q
    | lst _ => rw [Rep] at h2; obtain ⟨_, _, q, _⟩ := h2; cases q
    | _ => rw [Rep] at h2; cases h2
theorem rep_inj {X : Cx} {pins : List (Addr × Obj)} {σ : L2.St} {H F : Hp} {s : Shared} (I : L2.Inv X pins σ H s) (sm : Same F H) :
    ∀ n : Nat, (∀ d : D, dle n d = true → ∀ (v : V) (e : D), Rep X.K F v d → Rep X.K F v e → d = e) := by
  have tl : ∀ {a : Addr} {xs ys : List V}, SqT X.K F a xs → SqL X.K F a ys → False := fun {a xs ys} h1 h2 => by
    obtain ⟨_, _, ⟨o, q1, q2, _⟩, _⟩ := I.tuple (Same.seqT sm h1)
    obtain ⟨_, _, pl, _⟩ := I.list (sm.seq h2)
    obtain ⟨o', q3, q4, _⟩ := pl.isList
    rw [q1] at q3; cases q3
    rw [q2] at q4
    exact absurd q4 (by decide)
  intro n
  induction n with
  | zero =>
    intro d hd v e h1 h2
    cases d with
    | tup _ => simp [dle] at hd
    | lst _ => simp [dle] at hd
    | non => exact flat_inj rfl h1 h2
    | bl k => exact flat_inj rfl h1 h2
    | int k => exact flat_inj rfl h1 h2
    | str k => exact flat_inj rfl h1 h2
  | succ n ih =>
    have all : ∀ {xs : List V} {ds es : List D}, ds.all (dle n) = true → Reps X.K F xs ds → Reps X.K F xs es → ds = es := fun {xs ds} => by
      induction ds generalizing xs with
      | nil =>
        intro es _ h1 h2
        rw [h1.unnil] at h2
        have := h2.length
        exact (List.eq_nil_of_length_eq_zero this.symm).symm
      | cons d ds ih2 =>
        intro es ha h1 h2
        rw [List.all_cons, Bool.and_eq_true] at ha
        obtain ⟨v, r, rfl, q1, q2⟩ := h1.uncons
        cases es with
        | nil => cases h2.unnil
        | cons e es =>
          obtain ⟨v', r', q0, q3, q4⟩ := h2.uncons
          cases q0
          rw [ih d ha.1 v e q1 q3, ih2 ha.2 q2 q4]
    intro d hd v e h1 h2
    cases d with
    | tup ds =>
      have ha : ds.all (dle n) = true := by simpa [dle] using hd
      rw [Rep] at h1
      obtain ⟨a, xs, rfl, z1, z2⟩ := h1
      cases e with
      | tup es =>
        rw [Rep] at h2
        obtain ⟨a', ys, q, w1, w2⟩ := h2
        cases q
        have := I.tuple_inj (Same.seqT sm z1) (Same.seqT sm w1)
        subst this
        rw [all ha z2 w2]
      | lst es => rw [Rep] at h2; obtain ⟨a', ys, q, w1, w2⟩ := h2; cases q; exact (tl z1 w1).elim
      | _ => rw [Rep] at h2; cases h2
    | lst ds =>
      have ha : ds.all (dle n) = true := by simpa [dle] using hd
      rw [Rep] at h1
      obtain ⟨a, xs, rfl, z1, z2⟩ := h1
      cases e with
      | lst es =>
        rw [Rep] at h2
        obtain ⟨a', ys, q, w1, w2⟩ := h2
        cases q
        have := I.list_inj (sm.seq z1) (sm.seq w1)
        subst this
        rw [all ha z2 w2]
      | tup es => rw [Rep] at h2; obtain ⟨a', ys, q, w1, w2⟩ := h2; cases q; exact (tl w1 z1).elim
      | _ => rw [Rep] at h2; cases h2
    | non => exact flat_inj rfl h1 h2
    | bl k => exact flat_inj rfl h1 h2
    | int k => exact flat_inj rfl h1 h2
    | str k => exact flat_inj rfl h1 h2
theorem eq_flat {A : Around} {s : Shared} {F : Hp} {d e : D} {v u : V} {v' u' : Value} (hd : flat d = true) (he : flat e = true) (h1 : Rep K F v d) (h2 : Rep K F u e) (r1 : RelV v v') (r2 : RelV u u') : SeqAt.EqAt A s v' u' (peq d e) := by
  cases d with
  | tup _ => cases hd
  | lst _ => cases hd
  | non =>
    rw [Rep] at h1; subst h1; cases (show v' = .none from r1)
    cases e with
    | tup _ => cases he
    | lst _ => cases he
    | non => rw [Rep] at h2; subst h2; cases (show u' = .none from r2); rw [peq]; exact SeqAt.EqAt.same _
    | bl _ => rw [Rep] at h2; subst h2; cases (show u' = .bool _ from r2); simp only [peq]; exact SeqAt.EqAt.none_bool _
    | int _ => rw [Rep] at h2; subst h2; obtain ⟨t, rfl⟩ := r2; simp only [peq]; exact SeqAt.EqAt.none_int _ _
    | str _ => rw [Rep] at h2; subst h2; obtain ⟨t, rfl⟩ := r2; simp only [peq]; exact SeqAt.EqAt.none_str _ _
  | bl _ =>
    rw [Rep] at h1; subst h1; cases (show v' = .bool _ from r1)
    cases e with
    | tup _ => cases he
    | lst _ => cases he
    | non => rw [Rep] at h2; subst h2; cases (show u' = .none from r2); simp only [peq]; exact SeqAt.EqAt.bool_none _
    | bl _ => rw [Rep] at h2; subst h2; cases (show u' = .bool _ from r2); simp only [peq]; exact SeqAt.EqAt.bool_bool _ _
    | int _ => rw [Rep] at h2; subst h2; obtain ⟨t, rfl⟩ := r2; simp only [peq]; exact SeqAt.EqAt.bool_int _ _ _
    | str _ => rw [Rep] at h2; subst h2; obtain ⟨t, rfl⟩ := r2; simp only [peq]; exact SeqAt.EqAt.bool_str _ _ _
  | int _ =>
    rw [Rep] at h1; subst h1; obtain ⟨t0, rfl⟩ := r1
    cases e with
    | tup _ => cases he
    | lst _ => cases he
    | non => rw [Rep] at h2; subst h2; cases (show u' = .none from r2); simp only [peq]; exact SeqAt.EqAt.int_none _ _
    | bl _ => rw [Rep] at h2; subst h2; cases (show u' = .bool _ from r2); simp only [peq]; exact SeqAt.EqAt.int_bool _ _ _
    | int _ => rw [Rep] at h2; subst h2; obtain ⟨t, rfl⟩ := r2; simp only [peq]; exact SeqAt.EqAt.int_int _ _ _ _
    | str _ => rw [Rep] at h2; subst h2; obtain ⟨t, rfl⟩ := r2; simp only [peq]; exact SeqAt.EqAt.int_str _ _ _ _
  | str _ =>
    rw [Rep] at h1; subst h1; obtain ⟨t0, rfl⟩ := r1
    cases e with
    | tup _ => cases he
    | lst _ => cases he
    | non => rw [Rep] at h2; subst h2; cases (show u' = .none from r2); simp only [peq]; exact SeqAt.EqAt.str_none _ _
    | bl _ => rw [Rep] at h2; subst h2; cases (show u' = .bool _ from r2); simp only [peq]; exact SeqAt.EqAt.str_bool _ _ _
    | int _ => rw [Rep] at h2; subst h2; obtain ⟨t, rfl⟩ := r2; simp only [peq]; exact SeqAt.EqAt.str_int _ _ _ _
    | str _ => rw [Rep] at h2; subst h2; obtain ⟨t, rfl⟩ := r2; simp only [peq]; exact SeqAt.EqAt.str_str _ _ _ _
theorem eq_tupF {A : Around} {s : Shared} {F : Hp} {ds : List D} {e : D} {u : V} {u' : Value} {a : Addr} {its : Array Value} (ht : s.heap.IsTuple a its) (hu : A.units < cLine) (he : flat e = true) (h2 : Rep K F u e) (r2 : RelV u u') :
    SeqAt.EqAt A s (.ref a) u' (peq (.tup ds) e) ∧ SeqAt.EqAt A s u' (.ref a) (peq e (.tup ds)) := by
  cases e with
  | tup _ => cases he
  | lst _ => cases he
  | non => rw [Rep] at h2; subst h2; cases (show u' = .none from r2); simp only [peq]; exact ⟨SeqAt.EqAt.tuple_none ht hu, SeqAt.EqAt.none_tuple ht hu⟩
  | bl _ => rw [Rep] at h2; subst h2; cases (show u' = .bool _ from r2); simp only [peq]; exact ⟨SeqAt.EqAt.tuple_bool _ ht hu, SeqAt.EqAt.bool_tuple _ ht hu⟩
  | int _ => rw [Rep] at h2; subst h2; obtain ⟨t, rfl⟩ := r2; simp only [peq]; exact ⟨SeqAt.EqAt.tuple_int _ _ ht hu, SeqAt.EqAt.int_tuple _ _ ht hu⟩
  | str _ => rw [Rep] at h2; subst h2; obtain ⟨t, rfl⟩ := r2; simp only [peq]; exact ⟨SeqAt.EqAt.tuple_str _ _ ht hu, SeqAt.EqAt.str_tuple _ _ ht hu⟩
theorem eq_lstF {A : Around} {s : Shared} {F : Hp} {ds : List D} {e : D} {u : V} {u' : Value} {a : Addr} {its : Array Value} (ht : s.heap.IsList a its) (hu : A.units < cLine) (he : flat e = true) (h2 : Rep K F u e) (r2 : RelV u u') :
    SeqAt.EqAt A s (.ref a) u' (peq (.lst ds) e) ∧ SeqAt.EqAt A s u' (.ref a) (peq e (.lst ds)) := by
  cases e with
  | tup _ => cases he
  | lst _ => cases he
  | non => rw [Rep] at h2; subst h2; cases (show u' = .none from r2); simp only [peq]; exact ⟨SeqAt.EqAt.list_none ht hu, SeqAt.EqAt.none_list ht hu⟩
  | bl _ => rw [Rep] at h2; subst h2; cases (show u' = .bool _ from r2); simp only [peq]; exact ⟨SeqAt.EqAt.list_bool _ ht hu, SeqAt.EqAt.bool_list _ ht hu⟩
  | int _ => rw [Rep] at h2; subst h2; obtain ⟨t, rfl⟩ := r2; simp only [peq]; exact ⟨SeqAt.EqAt.list_int _ _ ht hu, SeqAt.EqAt.int_list _ _ ht hu⟩
  | str _ => rw [Rep] at h2; subst h2; obtain ⟨t, rfl⟩ := r2; simp only [peq]; exact ⟨SeqAt.EqAt.list_str _ _ ht hu, SeqAt.EqAt.str_list _ _ ht hu⟩
theorem flat_dle {n : Nat} {d : D} (h : dle n d = true) (h0 : n = 0) : flat d = true := by
  subst h0; cases d <;> first | rfl | simp [dle] at h
theorem eq_D {X : Cx} {pins : List (Addr × Obj)} {σ : L2.St} {H F : Hp} {s : Shared} (I : L2.Inv X pins σ H s) (sm : Same F H) : ∀ (n : Nat) (A : Around), A.units + n < cLine → ∀ (d e : D), dle n d = true → dle n e = true → ∀ (v u : V) (v' u' : Value),
    Rep X.K F v d → Rep X.K F u e → RelV v v' → RelV u u' → SeqAt.EqAt A s v' u' (peq d e) := by
  intro n
  induction n with
  | zero =>
    intro A hu d e hd he v u v' u' h1 h2 r1 r2
    exact eq_flat (flat_dle hd rfl) (flat_dle he rfl) h1 h2 r1 r2
  | succ n ih =>
    intro A hu d e hd he v u v' u' h1 h2 r1 r2
    have hu0 : A.units < cLine := by omega
    have hu1 : A.in1.units + n < cLine := by show A.units + 1 + n < cLine; omega
    -- items by place
    have at_ : ∀ {xs ys : List V} {us ws : List Value} {ds es : List D} {j : Nat} (k1 : j < us.toArray.size) (k2 : j < ws.toArray.size), ds.all (dle n) = true → es.all (dle n) = true → Vals xs us → Vals ys ws → Reps X.K F xs ds → Reps X.K F ys es →
        SeqAt.EqAt A.in1 s us.toArray[j] ws.toArray[j] (peq (ds.getD j .non) (es.getD j .non)) := fun {xs ys us ws ds es j} k1 k2 a1 a2 v1 v2 p1 p2 => by
      have k1 : j < us.length := by simpa using k1
      have k2 : j < ws.length := by simpa using k2
      have l1 : j < ds.length := by rw [← p1.length, v1.length]; exact k1
      have l2 : j < es.length := by rw [← p2.length, v2.length]; exact k2
      obtain ⟨x, g1, g2⟩ := p1.get (show ds[j]? = some ds[j] by simp [l1])
      obtain ⟨y, g3, g4⟩ := p2.get (show es[j]? = some es[j] by simp [l2])
      obtain ⟨x', g5, g6⟩ := v1.get g1
      obtain ⟨y', g7, g8⟩ := v2.get g3
      have e1 : us.toArray[j] = x' := by have := (List.getElem?_eq_some_iff.mp g5).2; simpa using this
      have e2 : ws.toArray[j] = y' := by have := (List.getElem?_eq_some_iff.mp g7).2; simpa using this
      have e3 : ds.getD j .non = ds[j] := by simp [List.getD, l1]
      have e4 : es.getD j .non = es[j] := by simp [List.getD, l2]
      rw [e1, e2, e3, e4]
      exact ih A.in1 hu1 _ _ (List.all_eq_true.mp a1 _ (List.getElem_mem l1)) (List.all_eq_true.mp a2 _ (List.getElem_mem l2)) x y x' y' g2 g4 g6 g8
    -- the same object
    have same : ∀ {a : Addr}, v = .ref a → u = .ref a → SeqAt.EqAt A s v' u' (peq d e) := fun {a} q1 q2 => by
      subst q1; subst q2
      have := rep_inj I sm (n + 1) d hd _ e h1 h2
      subst this
      rw [peq_refl]
      cases r1; cases r2
      exact SeqAt.EqAt.same _
    cases d with
    | tup ds =>
      have ha : ds.all (dle n) = true := by simpa [dle] using hd
      have h1' := h1
      rw [Rep] at h1'
      obtain ⟨a, xs, rfl, z1, z2⟩ := h1'
      cases r1
      obtain ⟨us, v1, p1, _⟩ := I.tuple (Same.seqT sm z1)
      cases e with
      | tup es =>
        have hb : es.all (dle n) = true := by simpa [dle] using he
        have h2' := h2
        rw [Rep] at h2'
        obtain ⟨b, ys, rfl, w1, w2⟩ := h2'
        by_cases hab : a = b
        · subst hab; exact same rfl rfl
        · cases r2
          obtain ⟨ws, v2, p2, _⟩ := I.tuple (Same.seqT sm w1)
          refine .of_refs hab ?_
          have z := SeqAt.RcAt.tuples (A := A) (e := fun j => peq (ds.getD j .non) (es.getD j .non)) p1 p2 hu0 fun j k1 k2 => at_ k1 k2 ha hb v1 v2 z2 w2
          have l1 : us.toArray.size = ds.length := by rw [List.size_toArray, ← v1.length, z2.length]
          have l2 : ws.toArray.size = es.length := by rw [List.size_toArray, ← v2.length, w2.length]
          rw [l1, l2] at z
          have e0 : peq (.tup ds) (.tup es) = ((List.range (min ds.length es.length)).all (fun j => peq (ds.getD j .non) (es.getD j .non)) && ds.length == es.length) := by
            rw [peq]
            by_cases hl : ds.length = es.length
            · rw [peqs_range hl, hl]; simp
            · rw [peqs_len hl]
              have : (ds.length == es.length) = false := by simpa using hl
              rw [this, Bool.and_false]
          rw [e0]
          exact z
      | lst es =>
        rw [Rep] at h2
        obtain ⟨b, ys, rfl, w1, w2⟩ := h2
        cases r2
        obtain ⟨ws, v2, p2, _⟩ := I.list (sm.seq w1)
        simp only [peq]
        exact SeqAt.EqAt.tuple_list p1 p2.isList hu0
      | non => exact (eq_tupF p1 hu0 rfl h2 r2).1
      | bl _ => exact (eq_tupF p1 hu0 rfl h2 r2).1
      | int _ => exact (eq_tupF p1 hu0 rfl h2 r2).1
      | str _ => exact (eq_tupF p1 hu0 rfl h2 r2).1
    | lst ds =>
      have ha : ds.all (dle n) = true := by simpa [dle] using hd
      have h1' := h1
      rw [Rep] at h1'
      obtain ⟨a, xs, rfl, z1, z2⟩ := h1'
      cases r1
      obtain ⟨us, v1, p1, _⟩ := I.list (sm.seq z1)
      cases e with
      | lst es =>
        have hb : es.all (dle n) = true := by simpa [dle] using he
        have h2' := h2
        rw [Rep] at h2'
        obtain ⟨b, ys, rfl, w1, w2⟩ := h2'
        by_cases hab : a = b
        · subst hab; exact same rfl rfl
        · cases r2
          obtain ⟨ws, v2, p2, _⟩ := I.list (sm.seq w1)
          refine .of_refs hab ?_
          have l1 : us.toArray.size = ds.length := by rw [List.size_toArray, ← v1.length, z2.length]
          have l2 : ws.toArray.size = es.length := by rw [List.size_toArray, ← v2.length, w2.length]
          rw [peq]
          by_cases hl : ds.length = es.length
          · have z := SeqAt.RcAt.lists (A := A) (e := fun j => peq (ds.getD j .non) (es.getD j .non)) p1.isList p2.isList (by rw [l1, l2, hl]) hu0 fun j k1 k2 => at_ k1 k2 ha hb v1 v2 z2 w2
            rw [l1] at z
            rw [peqs_range hl]
            exact z
          · rw [peqs_len hl]
            exact SeqAt.RcAt.lists_lengths p1.isList p2.isList (by rw [l1, l2]; simpa using hl) hu0
      | tup es =>
        rw [Rep] at h2
        obtain ⟨b, ys, rfl, w1, w2⟩ := h2
        cases r2
        obtain ⟨ws, v2, p2, _⟩ := I.tuple (Same.seqT sm w1)
        simp only [peq]
        exact SeqAt.EqAt.list_tuple p1.isList p2 hu0
      | non => exact (eq_lstF p1.isList hu0 rfl h2 r2).1
      | bl _ => exact (eq_lstF p1.isList hu0 rfl h2 r2).1
      | int _ => exact (eq_lstF p1.isList hu0 rfl h2 r2).1
      | str _ => exact (eq_lstF p1.isList hu0 rfl h2 r2).1
    | non | bl _ | int _ | str _ =>
      cases e with
      | tup es =>
        rw [Rep] at h2
        obtain ⟨b, ys, rfl, w1, w2⟩ := h2
        cases r2
        obtain ⟨ws, v2, p2, _⟩ := I.tuple (Same.seqT sm w1)
        exact (eq_tupF p2 hu0 rfl h1 r1).2
      | lst es =>
        rw [Rep] at h2
        obtain ⟨b, ys, rfl, w1, w2⟩ := h2
        cases r2
        obtain ⟨ws, v2, p2, _⟩ := I.list (sm.seq w1)
        exact (eq_lstF p2.isList hu0 rfl h1 r1).2
      | _ => exact eq_flat rfl rfl h1 h2 r1 r2
end
end HH
end
section
set_option linter.all false
set_option Elab.async false
set_option maxRecDepth 10000
namespace HH
open PySem L2 PySem.Spec PyProof.Rows
section
variable {X : Cx} {pins : List (Addr × Obj)} {σ : L2.St} {H F : Hp} {s : Shared} {A : Around}
noncomputable abbrev RC (A : Around) (s : Shared) (v u : Value) (k : Bool) : Prop := SeqAt.RcAt A s v u k ∧ SeqAt.RcNeAt A s v u (!k)
inductive Top (X : Cx) (F H : Hp) (s : Shared) : Value → D → Prop where
  | non : Top X F H s .none .non
  | bl (b : Bool) : Top X F H s (.bool b) (.bl b)
  | int (i : Int) (t : Tok) : Top X F H s (.int i t) (.int i)
  | str (x : Str) (t : Tok) : Top X F H s (.str x t) (.str x)
  | tup {a : Addr} {us : List Value} {xs : List V} {ds : List D} (ht : s.heap.IsTuple a us.toArray) (hv : Vals xs us) (hr : Reps X.K F xs ds) : Top X F H s (.ref a) (.tup ds)
  | lst {a : Addr} {us : List Value} {xs : List V} {ds : List D} (ht : s.heap.IsList a us.toArray) (hv : Vals xs us) (hr : Reps X.K F xs ds) : Top X F H s (.ref a) (.lst ds)
theorem top_of (I : L2.Inv X pins σ H s) (sm : Same F H) {v : V} {v' : Value} {d : D} (h : PRep X.K F H v d) (r : RelV v v') : Top X F H s v' d := by
  cases d with
  | non => rw [h.non] at r; cases r; exact .non
  | bl b => rw [h.bl] at r; cases r; exact .bl b
  | int i => rw [h.int] at r; obtain ⟨t, rfl⟩ := r; exact .int i t
  | str x => rw [h.str] at r; obtain ⟨t, rfl⟩ := r; exact .str x t
  | tup ds =>
    obtain ⟨a, xs, rfl, h1, h2, _⟩ := h.tup sm
    cases r
    obtain ⟨us, v1, p1, _⟩ := I.tuple h1
    exact .tup p1 v1 h2
  | lst ds =>
    obtain ⟨a, xs, rfl, h1, h2⟩ := h.lst sm
    cases r
    obtain ⟨us, v1, p1, _⟩ := I.list h1
    exact .lst p1.isList v1 h2
theorem rc_D (I : L2.Inv X pins σ H s) (sm : Same F H) {n : Nat} (hu : A.units + (n + 1) < cLine) {d e : D} (hd : dle (n + 1) d = true) (he : dle (n + 1) e = true) {v' u' : Value} (h1 : Top X F H s v' d) (h2 : Top X F H s u' e) : RC A s v' u' (peq d e) := by
  have hu0 : A.units < cLine := by omega
  have hu1 : A.in1.units + n < cLine := by show A.units + 1 + n < cLine; omega
  have at_ : ∀ {xs ys : List V} {us ws : List Value} {ds es : List D} {j : Nat} (k1 : j < us.toArray.size) (k2 : j < ws.toArray.size), ds.all (dle n) = true → es.all (dle n) = true → Vals xs us → Vals ys ws → Reps X.K F xs ds → Reps X.K F ys es →
      SeqAt.EqAt A.in1 s us.toArray[j] ws.toArray[j] (peq (ds.getD j .non) (es.getD j .non)) := fun {xs ys us ws ds es j} k1 k2 a1 a2 v1 v2 p1 p2 => by
    have k1 : j < us.length := by simpa using k1
    have k2 : j < ws.length := by simpa using k2
    have l1 : j < ds.length := by rw [← p1.length, v1.length]; exact k1
    have l2 : j < es.length := by rw [← p2.length, v2.length]; exact k2
    obtain ⟨x, g1, g2⟩ := p1.get (show ds[j]? = some ds[j] by simp [l1])
    obtain ⟨y, g3, g4⟩ := p2.get (show es[j]? = some es[j] by simp [l2])
    obtain ⟨x', g5, g6⟩ := v1.get g1
    obtain ⟨y', g7, g8⟩ := v2.get g3
    have e1 : us.toArray[j] = x' := by have := (List.getElem?_eq_some_iff.mp g5).2; simpa using this
    have e2 : ws.toArray[j] = y' := by have := (List.getElem?_eq_some_iff.mp g7).2; simpa using this
    have e3 : ds.getD j .non = ds[j] := by simp [List.getD, l1]
    have e4 : es.getD j .non = es[j] := by simp [List.getD, l2]
    rw [e1, e2, e3, e4]
    exact eq_D I sm n A.in1 hu1 _ _ (List.all_eq_true.mp a1 _ (List.getElem_mem l1)) (List.all_eq_true.mp a2 _ (List.getElem_mem l2)) x y x' y' g2 g4 g6 g8
  cases h1 with
  | non =>
    cases h2 with
    | non => simp only [peq]; exact ⟨SeqAt.RcAt.none_none, SeqAt.RcNeAt.none_none⟩
    | bl b => simp only [peq]; exact ⟨SeqAt.RcAt.none_bool _, SeqAt.RcNeAt.none_bool _⟩
    | int i t => simp only [peq]; exact ⟨SeqAt.RcAt.none_int _ _, SeqAt.RcNeAt.none_int _ _⟩
    | str i t => simp only [peq]; exact ⟨SeqAt.RcAt.none_str _ _, SeqAt.RcNeAt.none_str _ _⟩
    | tup ht _ _ => simp only [peq]; exact ⟨SeqAt.RcAt.none_tuple ht hu0, SeqAt.RcNeAt.none_tuple ht hu0⟩
    | lst ht _ _ => simp only [peq]; exact ⟨SeqAt.RcAt.none_list ht hu0, SeqAt.RcNeAt.none_list ht hu0⟩
  | bl b0 =>
    cases h2 with
    | non => simp only [peq]; exact ⟨SeqAt.RcAt.bool_none _, SeqAt.RcNeAt.bool_none _⟩
    | bl b => simp only [peq]; exact ⟨SeqAt.RcAt.bool_bool _ _, SeqAt.RcNeAt.bool_bool _ _⟩
    | int i t => simp only [peq]; exact ⟨SeqAt.RcAt.bool_int _ _ _, SeqAt.RcNeAt.bool_int _ _ _⟩
    | str i t => simp only [peq]; exact ⟨SeqAt.RcAt.bool_str _ _ _, SeqAt.RcNeAt.bool_str _ _ _⟩
    | tup ht _ _ => simp only [peq]; exact ⟨SeqAt.RcAt.bool_tuple _ ht hu0, SeqAt.RcNeAt.bool_tuple _ ht hu0⟩
    | lst ht _ _ => simp only [peq]; exact ⟨SeqAt.RcAt.bool_list _ ht hu0, SeqAt.RcNeAt.bool_list _ ht hu0⟩
  | int i0 t0 =>
    cases h2 with
    | non => simp only [peq]; exact ⟨SeqAt.RcAt.int_none _ _, SeqAt.RcNeAt.int_none _ _⟩
    | bl b => simp only [peq]; exact ⟨SeqAt.RcAt.int_bool _ _ _, SeqAt.RcNeAt.int_bool _ _ _⟩
    | int i t => simp only [peq]; exact ⟨SeqAt.RcAt.int_int _ _ _ _, SeqAt.RcNeAt.int_int _ _ _ _⟩
    | str i t => simp only [peq]; exact ⟨SeqAt.RcAt.int_str _ _ _ _, SeqAt.RcNeAt.int_str _ _ _ _⟩
    | tup ht _ _ => simp only [peq]; exact ⟨SeqAt.RcAt.int_tuple _ _ ht hu0, SeqAt.RcNeAt.int_tuple _ _ ht hu0⟩
    | lst ht _ _ => simp only [peq]; exact ⟨SeqAt.RcAt.int_list _ _ ht hu0, SeqAt.RcNeAt.int_list _ _ ht hu0⟩
  | str i0 t0 =>
    cases h2 with
    | non => simp only [peq]; exact ⟨SeqAt.RcAt.str_none _ _, SeqAt.RcNeAt.str_none _ _⟩
    | bl b => simp only [peq]; exact ⟨SeqAt.RcAt.str_bool _ _ _, SeqAt.RcNeAt.str_bool _ _ _⟩
    | int i t => simp only [peq]; exact ⟨SeqAt.RcAt.str_int _ _ _ _, SeqAt.RcNeAt.str_int _ _ _ _⟩
    | str i t => simp only [peq]; exact ⟨SeqAt.RcAt.str_str _ _ _ _, SeqAt.RcNeAt.str_str _ _ _ _⟩
    | tup ht _ _ => simp only [peq]; exact ⟨SeqAt.RcAt.str_tuple _ _ ht hu0, SeqAt.RcNeAt.str_tuple _ _ ht hu0⟩
    | lst ht _ _ => simp only [peq]; exact ⟨SeqAt.RcAt.str_list _ _ ht hu0, SeqAt.RcNeAt.str_list _ _ ht hu0⟩
  | @tup a us xs ds ht hv hr =>
    have ha : ds.all (dle n) = true := by simpa [dle] using hd
    cases h2 with
    | non => simp only [peq]; exact ⟨SeqAt.RcAt.tuple_none ht hu0, SeqAt.RcNeAt.tuple_none ht hu0⟩
    | bl b => simp only [peq]; exact ⟨SeqAt.RcAt.tuple_bool _ ht hu0, SeqAt.RcNeAt.tuple_bool _ ht hu0⟩
    | int i t => simp only [peq]; exact ⟨SeqAt.RcAt.tuple_int _ _ ht hu0, SeqAt.RcNeAt.tuple_int _ _ ht hu0⟩
    | str i t => simp only [peq]; exact ⟨SeqAt.RcAt.tuple_str _ _ ht hu0, SeqAt.RcNeAt.tuple_str _ _ ht hu0⟩
    | lst ht2 _ _ => simp only [peq]; exact ⟨SeqAt.RcAt.tuple_list ht ht2 hu0, SeqAt.RcNeAt.tuple_list ht ht2 hu0⟩
    | @tup b ws ys es ht2 hv2 hr2 =>
      have hb : es.all (dle n) = true := by simpa [dle] using he
      have l1 : us.toArray.size = ds.length := by rw [List.size_toArray, ← hv.length, hr.length]
      have l2 : ws.toArray.size = es.length := by rw [List.size_toArray, ← hv2.length, hr2.length]
      have z1 := SeqAt.RcAt.tuples (A := A) (e := fun j => peq (ds.getD j .non) (es.getD j .non)) ht ht2 hu0 fun j k1 k2 => at_ k1 k2 ha hb hv hv2 hr hr2
      have z2 := SeqAt.RcNeAt.tuples (A := A) (e := fun j => peq (ds.getD j .non) (es.getD j .non)) ht ht2 hu0 fun j k1 k2 => at_ k1 k2 ha hb hv hv2 hr hr2
      rw [l1, l2] at z1 z2
      have e0 : peq (.tup ds) (.tup es) = ((List.range (min ds.length es.length)).all (fun j => peq (ds.getD j .non) (es.getD j .non)) && ds.length == es.length) := by
        rw [peq]
        by_cases hl : ds.length = es.length
        · rw [peqs_range hl, hl]; simp
        · rw [peqs_len hl]
          have : (ds.length == es.length) = false := by simpa using hl
          rw [this, Bool.and_false]
      rw [e0]
      exact ⟨z1, z2⟩
  | @lst a us xs ds ht hv hr =>
    have ha : ds.all (dle n) = true := by simpa [dle] using hd
    cases h2 with
    | non => simp only [peq]; exact ⟨SeqAt.RcAt.list_none ht hu0, SeqAt.RcNeAt.list_none ht hu0⟩
    | bl b => simp only [peq]; exact ⟨SeqAt.RcAt.list_bool _ ht hu0, SeqAt.RcNeAt.list_bool _ ht hu0⟩
    | int i t => simp only [peq]; exact ⟨SeqAt.RcAt.list_int _ _ ht hu0, SeqAt.RcNeAt.list_int _ _ ht hu0⟩
    | str i t => simp only [peq]; exact ⟨SeqAt.RcAt.list_str _ _ ht hu0, SeqAt.RcNeAt.list_str _ _ ht hu0⟩
    | tup ht2 _ _ => simp only [peq]; exact ⟨SeqAt.RcAt.list_tuple ht ht2 hu0, SeqAt.RcNeAt.list_tuple ht ht2 hu0⟩
    | @lst b ws ys es ht2 hv2 hr2 =>
      have hb : es.all (dle n) = true := by simpa [dle] using he
      have l1 : us.toArray.size = ds.length := by rw [List.size_toArray, ← hv.length, hr.length]
      have l2 : ws.toArray.size = es.length := by rw [List.size_toArray, ← hv2.length, hr2.length]
      rw [show peq (.lst ds) (.lst es) = peqs ds es by rw [peq]]
      by_cases hl : ds.length = es.length
      · have z1 := SeqAt.RcAt.lists (A := A) (e := fun j => peq (ds.getD j .non) (es.getD j .non)) ht ht2 (by rw [l1, l2, hl]) hu0 fun j k1 k2 => at_ k1 k2 ha hb hv hv2 hr hr2
        have z2 := SeqAt.RcNeAt.lists (A := A) (e := fun j => peq (ds.getD j .non) (es.getD j .non)) ht ht2 (by rw [l1, l2, hl]) hu0 fun j k1 k2 => at_ k1 k2 ha hb hv hv2 hr hr2
        rw [l1] at z1 z2
        rw [peqs_range hl]
        exact ⟨z1, z2⟩
      · rw [peqs_len hl]
        exact ⟨SeqAt.RcAt.lists_lengths ht ht2 (by rw [l1, l2]; simpa using hl) hu0, SeqAt.RcNeAt.lists_lengths ht ht2 (by rw [l1, l2]; simpa using hl) hu0⟩
theorem op_eqD (hu : X.A.units + 8 < cLine) : OpR X (compareOp .Eq) (rD X.K (cmR .eq)) := by
  rintro pins s σ H x y v u Q I rx ry ⟨F, d, e, r, sm, px, py, he, k⟩
  obtain ⟨t, e1, e2⟩ := map_some (show (cmEq d e).map _ = some r from he)
  subst e2
  unfold cmEq at e1
  obtain ⟨hd, e1⟩ := ite_some e1
  rw [Bool.and_eq_true] at hd
  subst e1
  exact (rc_D I sm (n := 7) hu hd.1 hd.2 (top_of I sm px rx) (top_of I sm py ry)).1 _ _ _ _ ⟨.bl _, H, I, rfl, RepN.val0 sm (repBl _) k⟩
theorem op_neD (hu : X.A.units + 8 < cLine) : OpR X (compareOp .NotEq) (rD X.K (cmR .ne)) := by
  rintro pins s σ H x y v u Q I rx ry ⟨F, d, e, r, sm, px, py, he, k⟩
  obtain ⟨t, e1, e2⟩ := map_some (show (cmNe d e).map _ = some r from he)
  subst e2
  unfold cmNe at e1
  obtain ⟨hd, e1⟩ := ite_some e1
  rw [Bool.and_eq_true] at hd
  subst e1
  exact (rc_D I sm (n := 7) hu hd.1 hd.2 (top_of I sm px rx) (top_of I sm py ry)).2 _ _ _ _ ⟨.bl _, H, I, rfl, RepN.val0 sm (repBl _) k⟩
end
end HH
end
section
set_option linter.all false
set_option Elab.async false
set_option maxRecDepth 10000
namespace HH
open PySem L2 PySem.Spec PyProof.Rows
section
variable {Pg : Program} {w : World} {K : PySem.W.Frag} {mg : Str → Option Value} {base : Heap}
theorem fn_ok {x qual : Str} {st : Stmt} {f : Addr} {fd : FuncData} {N ps : List Str} {k n : Nat} {c : Call} {d : Fd} (Fu : Fun K x qual st f fd) (S : FnScope N ps (defScope st)) (h1 : d.np = ps.length) (h2 : d.nn = N.length)
    (hb : ∀ (cdv : Value) (A : Around) (outer : List Env) (s : Shared) (H : Hp) (E : XK), Room k (A.deeper (envOfC qual (defScope st) s.heap.objs.size f cdv)) → SB (cxOf CX0 Pg w K mg base N qual (defScope st) f cdv A outer s H E).nox c n (defBody st) d.body) :
    FnOk Pg w K mg base CX0 (k + 1) f fd ps (spC K ps.length (fun args => enter c n d args)) := by
  refine Fu.ok S (fun vs H Q E h => h.1) fun cdv A outer s H vs Q E hr h => ?_
  obtain ⟨hl, F, args, r, args', g, e, q⟩ := h
  refine ⟨_, hb cdv A outer s H E hr, ?_⟩
  replace e : enter c n d args = .ok r args' := e
  unfold enter at e
  split at e
  · rename_i hc
    obtain ⟨c1, c2⟩ := hc
    have hg := g.more (n := d.nn - d.np) (τ := List.replicate (N.length - vs.length) none) (by simp [h1, h2, hl])
    have hla : args.length = d.np := c1
    have go : ∀ {fl : Fl} {ρ' : List Sl}, exs c n d.body (args ++ List.replicate (d.nn - d.np) .unb) = .ok fl ρ' → (∀ F' σ' H', Stp K F (args ++ List.replicate (d.nn - d.np) .unb) (start N vs) H F' ρ' σ' H' → (match fl with
        | .next => Q .non H'
        | .brk => False
        | .cont => False
        | .ret r => ∀ v, RepR K F' ρ' σ' H' (args ++ List.replicate (d.nn - d.np) .unb) (start N vs) H v r → Q v H')) →
        tEx K (exs c n d.body) { nx := fun _ H' => Q .non H', rt := Q } (start N vs) H := fun {fl ρ'} z k => ⟨F, _, fl, ρ', hg, z, fun F' σ' H' s => by
      have := k F' σ' H' s
      cases fl <;> exact this⟩
    split at e
    · rename_i ρ' z
      cases e
      refine go z fun F' σ' H' s => ?_
      obtain ⟨z1, z2⟩ := Stp.less (m := d.np) hla.symm g (by simp [h1, h2, hl]) s
      exact q .non F' _ H' z1 (show Rep K F' _ _ from repNon)
    · rename_i r' ρ' z
      cases e
      refine go z fun F' σ' H' s v rr => ?_
      obtain ⟨z1, z2⟩ := Stp.less (m := d.np) hla.symm g (by simp [h1, h2, hl]) s
      exact q v F' _ H' z1 (z2 v r rr)
    · split at e <;> cases e
  · cases e
structure CallOk (Pg : Program) (w : World) (K : PySem.W.Frag) (mg : Str → Option Value) (base : Heap) (k : Nat) (c : Call) (i : Nat) (x : Str) (np : Nat) : Prop where
  ex : ∃ fa fd qs, FnOk Pg w K mg base CX0 k fa fd qs (spC K qs.length (c i)) ∧ mg x = some (.ref fa) ∧ PySem.W.keepIn K (.ref fa) = true ∧ Binds K fd qs [] ∧ qs.length = np
end
section
variable {X : Cx} {c : Call} {n k : Nat} {e a b : Expr} {es : List Expr} {p pa pb : P} {ps : List P} {pos : Pos}
theorem sv (i : Nat) {x : Str} (hN : X.N[i]? = some x := by rfl) (hv : Vis X.env.scope x := by first | exact Or.inl rfl | exact Or.inr (Or.inl rfl) | exact Or.inr (Or.inr rfl)) (hd : (x == ("__debug__" : Str)) = false := by rfl) (hcd : (x == ("__classdict__" : Str)) = false := by rfl) : SX X c (.Name x pos) (.var i) := sx_var hN hv hd hcd
theorem sxc {i np : Nat} {x : Str} {p' : Pos} (C : CallOk X.prog X.w X.K X.mg X.base k c i x np) (hr : Room k X.A) (ha : SG X c (e :: es) ps) (hg : Gl X x := by rfl) (hl : (e :: es).length = np := by rfl) (hdb : (x == ("__debug__" : Str)) = false := by rfl)
    (he : starEach (e :: es) X.env = (false, eval e X.env) :: starEach es X.env := by rfl) (hpl : (backTo pos (starEach es X.env)).any (·.1) = false := by rfl) (hl2 : ps.length = (e :: es).length := by rfl) : SX X c (.Call (.Name x p') (e :: es) [] pos) (.call i ps) := by
  obtain ⟨fa, fd, qs, h1, h2, h3, h4, h5⟩ := C.ex
  exact sx_call h1 hr hg h2 h3 h4 ha (hl.trans h5.symm) hdb he hpl hl2
noncomputable def compB (names outer : List (Str × NameKind)) (N N' : List Str) (n : Nat) : Bool :=
  (names.all fun y => names.lookup y.1 == some y.2) && (names.all fun y => y.2 != .local || names.lookup y.1 == some .local) && (names.all fun y => y.2 != .free || outer.lookup y.1 == some .cell || outer.lookup y.1 == some .free) && N'.length == N.length + n &&
  ((N.zip N').all fun p => (p.1 == p.2 && names.lookup p.2 == some .free) || (names.lookup p.2 != some .local && names.lookup p.2 != some .cell && names.lookup p.2 != some .free))
theorem cOk {scope : Scope} {N' : List Str} (hk : scope.kind = .function) (h : compB scope.names X.env.scope.names X.N N' n = true) : CompOk X scope N' n := by
  unfold compB at h
  simp only [Bool.and_eq_true] at h
  obtain ⟨⟨⟨⟨h1, h2⟩, h3⟩, h4⟩, h5⟩ := h
  refine ⟨hk, fun y hy => eq_of_beq (List.all_eq_true.mp h1 y hy), fun y hy e => ?_, fun y hy e => ?_, by simpa using h4, h5⟩
  · have := List.all_eq_true.mp h2 y hy
    rw [e] at this
    simpa using this
  · have := List.all_eq_true.mp h3 y hy
    rw [e] at this
    simp only [Bool.or_eq_true] at this
    rcases this with (z | z) | z
    · cases z
    · exact .inl (eq_of_beq z)
    · exact .inr (eq_of_beq z)
theorem room_u {A : Around} (h : Room k A) : A.units + 8 < cLine := by have := h.un; omega
end
end HH
end
section
set_option linter.all false
set_option Elab.async false
set_option maxRecDepth 100000
namespace PySem
open AutoSeq1 (wpAny_loadPart')
section
variable {prog : Program} {w : World} {A : Around} {E : Value → Shared → Prop} {s : Shared}
theorem nextOf_tuple_item {it l : Addr} {i : Nat} {items : Array Value} {x : Value} {Q : Value → Shared → Prop} (hit : s.heap.IsTupleIter it l i)
    (hl : s.heap.IsTuple l items) (hx : items[i]? = some x)
    (hQ : ∀ h', h'.IsTupleIter it l (i + 1) → Heap.SameBut it s.heap h' → Q x { s with heap := h' }) :
    wpAny (model prog w) A (Builtin.SmallTypes.nextOf (.ref it)) Q E s := by
  obtain ⟨o, ho, hc, hd⟩ := id hit
  obtain ⟨ol, hol, _, nl, hdl⟩ := hl
  unfold Builtin.SmallTypes.nextOf
  refine wpAny_bind (wpAny_callSpecial?_slot (name := Str.ofString "__next__") hit.typeIs F.slot_tuple_iterator_next
    (wpAny_call_entry F.slot_tuple_iterator_next hit.typeIs F.entry_tuple_iterator_next ?_ (F.args_tuple_iterator_next_1 _)))
  show wpAny _ _ (field (.ref it) 0 >>= _) _ _ s
  refine wpAny_bind (wpAny_field ho hd (x := .ref l) rfl ?_)
  show wpAny _ _ (if (Value.ref l == Value.none) = true then _ else _) _ _ s
  rw [if_neg (show ¬ ((Value.ref l == Value.none) = true) from Bool.false_ne_true)]
  show wpAny _ _ (field (.ref it) 1 >>= _) _ _ s
  refine wpAny_bind (wpAny_field ho hd (x := .int i 0) rfl ?_)
  show wpAny _ _ (seqItems? (.ref l) >>= _) _ _ s
  refine wpAny_bind (wpAny_seqItems hol hdl ?_)
  simp only [Int.toNat_natCast, hx]
  refine wpAny_bind (wpAny_setField ho hd (by simp) (wpAny_pure ⟨x, rfl, wpAny_pure (hQ _ ?_ (Heap.SameBut.update ..))⟩))
  exact ⟨_, Heap.get?_update_self _ ho (Obj.isFreed_of_fields (Obj.data_mapFields hd _)), (Obj.cls_mapFields ..).trans hc, by
    rw [Obj.data_mapFields hd]; simp [rawInt]⟩
theorem nextOf_tuple_end {it l : Addr} {i : Nat} {items : Array Value} {Q : Value → Shared → Prop} (hh : A.handled = none)
    (hit : s.heap.IsTupleIter it l i) (hl : s.heap.IsTuple l items) (hx : items[i]? = none)
    (hE : ∀ h' e, Heap.ExtBut it s.heap h' → (∃ o, h'.get? e = some o ∧ o.cls = .type "StopIteration") → E (.ref e) { s with heap := h' }) :
    wpAny (model prog w) A (Builtin.SmallTypes.nextOf (.ref it)) Q E s := by
  obtain ⟨o, ho, hc, hd⟩ := id hit
  obtain ⟨ol, hol, _, nl, hdl⟩ := hl
  unfold Builtin.SmallTypes.nextOf
  refine wpAny_bind (wpAny_callSpecial?_slot (name := Str.ofString "__next__") hit.typeIs F.slot_tuple_iterator_next
    (wpAny_call_entry F.slot_tuple_iterator_next hit.typeIs F.entry_tuple_iterator_next ?_ (F.args_tuple_iterator_next_1 _)))
  show wpAny _ _ (field (.ref it) 0 >>= _) _ _ s
  refine wpAny_bind (wpAny_field ho hd (x := .ref l) rfl ?_)
  show wpAny _ _ (if (Value.ref l == Value.none) = true then _ else _) _ _ s
  rw [if_neg (show ¬ ((Value.ref l == Value.none) = true) from Bool.false_ne_true)]
  show wpAny _ _ (field (.ref it) 1 >>= _) _ _ s
  refine wpAny_bind (wpAny_field ho hd (x := .int i 0) rfl ?_)
  show wpAny _ _ (seqItems? (.ref l) >>= _) _ _ s
  refine wpAny_bind (wpAny_seqItems hol hdl ?_)
  simp only [Int.toNat_natCast, hx]
  refine wpAny_bind (wpAny_rule (wpAny_bind (wpAny_setField ho hd (by simp) ?_)))
  show wpAny _ _ (newExc (.type "StopIteration") [] >>= _) _ _ _
  refine wpAny_bind ?_
  simp only [newExc, newTuple]
  refine wpAny_bind (wpAny_newObj_type ?_ (by size_fits))
  refine wpAny_bind (m := firstArgMember _ _) (wpAny_of_eq (a := Value.none) (by first | rfl | (simp only [firstArgMember]; rfl)) ?_)
  refine wpAny_newObj_type ?_ (by size_fits)
  simp only [raiseNew]
  refine wpAny_bind (wpAny_handled ?_)
  first | rw [show A.in1.handled = none from hh] | rw [hh]
  refine wpAny_bind (wpAny_pure (wpAny_throw ?_))
  exact hE _ _ (((Heap.SameBut.update ..).extBut.push _).push _) ⟨_, Heap.get?_push_size _ rfl, rfl⟩
end
theorem meets_enumerate_newT (l : Addr) (items : Array Value) (n : Nat) (dct : Option Addr) (sl : Array (Option Value)) :
    Meets (Builtin.«enumerate.__new__» ⟨[.type "enumerate", .ref l], []⟩) (fun _ R s => s.heap.get? l = some { cls := .type "tuple", dict := dct, data := .seq items n, slots := sl } ∧
      R (.ok (.ret (.ref (s.heap.push { cls := .type "tuple_iterator", data := .fields #[.ref l, .int 0 0] }).objs.size)))
        { s with heap := (s.heap.push { cls := .type "tuple_iterator", data := .fields #[.ref l, .int 0 0] }).push { cls := .type "enumerate", data := .fields #[.none, .bool false, .ref s.heap.objs.size, rawInt 0, .none, .none] } }) :=
  .of_wp fun prog w A R s h => by
    obtain ⟨hp, g, d, tk, os⟩ := s; obtain ⟨hl, h⟩ := h
    have hsub := sub_enumerate
    have hL : Heap.IsTuple (Shared.heap ⟨hp, g, d, tk, os⟩) l items := ⟨_, hl, rfl, n, rfl⟩
    wp_walk using wpAny_loadPart' hl
    refine wpAny_stack_any fun st => wpAny_pure ?_
    split
    · rename_i c _ _ _ _ _
      cases (c == Value.type "enumerate")
      · wp_walk using wpAny_loadPart' hl, wpAny_pyIter_tuple hL
        exact ⟨_, rfl, h⟩
      · wp_walk using wpAny_loadPart' hl, wpAny_pyIter_tuple hL
        exact ⟨_, rfl, h⟩
    · wp_walk using wpAny_loadPart' hl, wpAny_pyIter_tuple hL
      exact ⟨_, rfl, h⟩
section
variable {prog : Program} {w : World} {A : Around} {E : Value → Shared → Prop} {s : Shared}
theorem call_enumerate_tuple {l : Addr} {items : Array Value} {Q : Value → Shared → Prop} (hL : s.heap.IsTuple l items)
    (h : ∀ h', IsEnum h' (s.heap.objs.size + 1) s.heap.objs.size 0 .none → h'.IsTupleIter s.heap.objs.size l 0 → h'.objs.size = s.heap.objs.size + 2 →
      (∀ b o, s.heap.get? b = some o → h'.get? b = some o) → Q (.ref (s.heap.objs.size + 1)) { s with heap := h' }) :
    wpAny (model prog w) A (call (.type "enumerate") [.ref l]) Q E s := by
  obtain ⟨⟨c, dct, dt, sl⟩, hl, hc, n, hd⟩ := hL
  replace hc : c = .type "tuple" := hc
  replace hd : dt = .seq items n := hd
  subst hc hd
  refine callType_new F.called_enumerate (by decide) (F.typeCall_enumerate_1 _) (F.newCall_enumerate_1 _) (fun obj => F.args_object_init_2 obj _) F.entry_enumerate_new
    (meets_enumerate_newT l items n dct sl) ⟨hl, ?_⟩
  have hz : (s.heap.push { cls := .type "tuple_iterator", data := .fields #[.ref l, .int 0 0] }).objs.size = s.heap.objs.size + 1 := Heap.size_push ..
  show _ ∧ _
  rw [hz]
  have he : IsEnum ((s.heap.push { cls := .type "tuple_iterator", data := .fields #[.ref l, .int 0 0] }).push
      { cls := .type "enumerate", data := .fields #[.none, .bool false, .ref s.heap.objs.size, rawInt 0, .none, .none] }) (s.heap.objs.size + 1) s.heap.objs.size 0 .none := by
    have := Heap.get?_push_size (s.heap.push { cls := .type "tuple_iterator", data := .fields #[.ref l, .int 0 0] })
      (o := { cls := .type "enumerate", data := .fields #[.none, .bool false, .ref s.heap.objs.size, rawInt 0, .none, .none] }) rfl
    rw [hz] at this; exact this
  refine ⟨⟨_, he, rfl⟩, h _ he ⟨_, Heap.get?_push_of_some _ (Heap.get?_push_size _ rfl), rfl, rfl⟩ (by rw [Heap.size_push, hz]) fun b o x => Heap.get?_push_of_some _ (Heap.get?_push_of_some _ x)⟩
end
end PySem
end
section
set_option linter.all false
set_option Elab.async false
set_option maxRecDepth 100000
namespace L2
open PySem PySem.Spec PyProof.Rows
section
variable {X : Cx} {pins : List (Addr × Obj)} {σ : L2.St} {H : Hp} {s : Shared}
theorem Inv.laidCh {ch : List Addr} {h' : Heap} {o : HO} {t' : Nat} (I : Inv X pins σ H s) (k : ∀ b u, b ∉ ch → s.heap.get? b = some u → h'.get? b = some u) (hl : ∀ b ∈ ch, ∃ u, h'.get? b = some u) (hf : ∀ b ∈ ch, FpOk X pins H b)
    (new : ObjOk X.prog X.w (upd H s.heap.objs.size o) h' s.heap.objs.size o) : Inv X pins σ (upd H s.heap.objs.size o) { s with heap := h', toks := t' } := by
  have fr : H s.heap.objs.size = none := I.hok.fresh (Nat.le_refl _)
  have nch : ∀ b u, H b = some u → b ∉ ch := fun b u e hb => by rw [(hf b hb).1] at e; cases e
  have up : ∀ b u, H b = some u → upd H s.heap.objs.size o b = some u := fun b u e => by
    have : b ≠ s.heap.objs.size := by rintro rfl; rw [fr] at e; cases e
    rw [upd_ne this]; exact e
  refine I.call (g' := s.gens) (d' := s.drawn) (ch := ch) ⟨fun b u e n _ hx => k b u hx e, fun b u e n _ hx => ⟨u.slots, k b u hx e⟩, fun b u e n hx => ?_, fun b u e hx => ⟨u, k b u hx e⟩, fun b xs e => up b _ e, fun b ob u e => up b _ e, fun b ps e => ⟨#[], by rw [up b _ e]; simp⟩⟩ ?_ I.bare
    fun b hb => ⟨(hf b hb).2.2.2.1, (hf b hb).2.1, (hf b hb).2.2.2.2.1, (hf b hb).2.2.2.2.2⟩
  · have : b ≠ s.heap.objs.size := Nat.ne_of_lt (Heap.lt_size e)
    rw [upd_ne this]; exact n
  · intro b u e
    by_cases hb : b = s.heap.objs.size
    · subst hb; rw [upd_same] at e; cases e; exact new
    · rw [upd_ne hb] at e
      refine (I.hok b u e).stay (fun c v hc q => k c v ?_ q) (fun c q => up c _ q) fun c xs q => up c _ q
      rcases hc with rfl | hc
      · exact nch _ _ e
      · exact nch _ _ hc
end
noncomputable def IteL (K : PySem.W.Frag) (a : Addr) : It :=
  ⟨fun i H => ∃ xs x, SqL K H a xs ∧ xs[i]? = some x, fun i H x H' => ∃ T v, H T = none ∧ x = .ref T ∧ H' = upd H T (.tup [.int (i : Int), v]) ∧ ∀ xs, SqL K H a xs → xs[i]? = some v, fun i H => ∃ xs, SqL K H a xs ∧ xs.length ≤ i⟩
theorem drawsL {prog : Program} {w : World} {A : Around} (hh : A.handled = none) (it l : Addr) (hne : l ≠ it) (items : Array Value) :
    Draws prog w A it [it, l] items.size (fun i v => items[i]? = some v) (fun i h => h.IsListIter it l i ∧ h.IsList l items) where
  live := fun _ _ st => let ⟨o, ho, _⟩ := st.1; ⟨o, ho⟩
  frame := fun _ _ _ st hk => ⟨(let ⟨o, ho, r⟩ := st.1; ⟨o, hk it (by simp) o ho, r⟩), (let ⟨o, ho, r⟩ := st.2; ⟨o, hk l (by simp) o ho, r⟩)⟩
  item := fun i s Q E hi st hQ => by
    refine wpAny_nextOf_list_item st.1 st.2 (x := items[i]) (by simp [hi]) fun h' hit' hs' => ?_
    exact hQ _ h' s.toks (by simp [hi]) ⟨hit', (let ⟨o, ho, r⟩ := st.2; ⟨o, hs'.extBut l o hne ho, r⟩)⟩ hs'
  done := fun s Q E st hE => wpAny_nextOf_list_end hh st.1 st.2 (by simp) hE
theorem drawsEndL {prog : Program} {w : World} {A : Around} (hh : A.handled = none) (it l : Addr) (items : Array Value) (n : Nat) (hn : items.size ≤ n) :
    Draws prog w A it [it, l] n (fun _ _ => True) (fun i h => i = n ∧ h.IsListIter it l i ∧ h.IsList l items) where
  live := fun _ _ st => let ⟨o, ho, _⟩ := st.2.1; ⟨o, ho⟩
  frame := fun _ _ _ st hk => ⟨st.1, (let ⟨o, ho, r⟩ := st.2.1; ⟨o, hk it (by simp) o ho, r⟩), (let ⟨o, ho, r⟩ := st.2.2; ⟨o, hk l (by simp) o ho, r⟩)⟩
  item := fun i s Q E hi st hQ => absurd st.1 (Nat.ne_of_lt hi)
  done := fun s Q E st hE => wpAny_nextOf_list_end hh st.2.1 st.2.2 (by simp; exact hn) hE
theorem turn_enmL {P : Program} {w : World} {K : PySem.W.Frag} {elts : List Expr} {x1} {tp : Pos} (a it e : Addr) (hei : e ≠ it) :
    Turn P w K (.Tuple elts x1 tp) (IteL K a) [e, it] e (fun i h => (∃ old, IsEnum h e it (i : Int) old) ∧ h.IsListIter it a i) where
  mem := by simp
  obj := fun i h st b hb => by
    obtain ⟨⟨old, h1⟩, o, h2, h3, h4⟩ := st
    rcases List.mem_cons.mp hb with rfl | hb
    · exact ⟨_, h1, fun v z => by cases z⟩
    · have : b = it := by simpa using hb
      subst this
      exact ⟨o, h2, fun v z => by rw [h4] at z; cases z⟩
  keep := fun i h h' st k => by
    obtain ⟨⟨old, h1⟩, o, h2, h3⟩ := st
    exact ⟨⟨old, k e (by simp) _ h1⟩, o, k it (by simp) _ h2, h3⟩
  item := fun X hP hw hK hc i pins s σ H E I hf st go => by
    subst hP hw hK
    obtain ⟨⟨old, he⟩, hit⟩ := st
    obtain ⟨xs, x, hq, hx⟩ := go
    obtain ⟨its, rv, pl, hz⟩ := I.list hq
    have hL : s.heap.IsList a its.toArray := pl.isList
    obtain ⟨oa, ha, hca, _⟩ := id hL
    have hea : e ≠ a := by rintro rfl; rw [he] at ha; cases ha; exact absurd (show Value.type "enumerate" = Value.type _ from hca) (by decide)
    have hia : a ≠ it := by
      rintro rfl
      obtain ⟨o, h2, h3, _⟩ := id hit
      rw [h2] at ha; cases ha
      rw [h3] at hca
      exact absurd hca (by decide)
    have hlt : i < its.toArray.size := by
      rw [List.size_toArray, ← rv.length]
      exact (List.getElem?_eq_some_iff.mp hx).1
    refine wpAny_pyNext_enum_itemD (drawsL (show X.A.in1.handled = none from I.ok.hd hc) it a hia its.toArray) he ⟨hit, hL⟩ hlt hei (by simp [hei, hea]) fun y h' tk hy heo hst ht hsz kp => ?_
    refine ⟨_, rfl, wpAny_letOwnedTupleGo_enum heo fun h'' he'' sb => ?_⟩
    obtain ⟨u, hu1, hu2⟩ := rv.get hx
    have hyu : y = u := by
      have hy : its[i]? = some y := by simpa using hy
      rw [hu1] at hy; cases hy; rfl
    subst hyu
    have hT : ∀ b ∈ [e, it], b ≠ s.heap.objs.size := fun b hb => by
      rcases List.mem_cons.mp hb with rfl | hb
      · exact Nat.ne_of_lt (Heap.lt_size he)
      · have : b = it := by simpa using hb
        subst this
        obtain ⟨o, h2, _⟩ := id hit
        exact Nat.ne_of_lt (Heap.lt_size h2)
    have hTe : s.heap.objs.size ≠ e := (hT e (by simp)).symm
    have kp2 : ∀ b o, b ∉ [e, it] → s.heap.get? b = some o → h''.get? b = some o := fun b o hb q => by
      have h1 : b ≠ e := fun z => hb (by simp [z])
      have h2 : b ≠ it := fun z => hb (by simp [z])
      exact sb.extBut b o h1 (kp b o h1 h2 q)
    have ht2 : h''.get? s.heap.objs.size = some { cls := .type "tuple", data := .seq #[.int i tk, y] } := sb.extBut _ _ hTe ht
    refine ⟨.ref s.heap.objs.size, upd H s.heap.objs.size (.tup [.int (i : Int), x]), ?_, rfl, ⟨_, x, I.fresh, rfl, rfl, fun ys hys => ?_⟩, ⟨⟨_, he''⟩, ?_⟩, fun b hb => ?_⟩
    · refine I.laidCh (ch := [e, it]) (t' := tk + 1) kp2 (fun b hb => ?_) (fun b hb => (hf b hb)) ⟨(by show 2 ≤ sizeLine; decide), [.int i tk, y], .cons ⟨_, rfl⟩ (.cons hu2 .nil), ⟨_, ht2, rfl, _, rfl⟩⟩
      rcases List.mem_cons.mp hb with rfl | hb
      · exact ⟨_, he''⟩
      · have : b = it := by simpa using hb
        subst this
        obtain ⟨o, h2, _⟩ := id hst.1
        exact ⟨o, sb.extBut _ _ (Ne.symm hei) h2⟩
    · rw [I.list_inj hys hq]; exact hx
    · obtain ⟨o, h2, r⟩ := hst.1
      exact ⟨o, sb.extBut _ _ (Ne.symm hei) h2, r⟩
    · rw [upd_ne (hT b hb)]; exact (hf b hb).1
  done := fun X hP hw hK hc i pins s σ H E I hf st stop => by
    subst hP hw hK
    obtain ⟨⟨old, he⟩, hit⟩ := st
    obtain ⟨xs, hq, hx⟩ := stop
    obtain ⟨its, rv, pl, hz⟩ := I.list hq
    have hL : s.heap.IsList a its.toArray := pl.isList
    refine wpAny_pyNext_enum_endD (drawsEndL (show X.A.in1.handled = none from I.ok.hd hc) it a its.toArray i (by rw [List.size_toArray, ← rv.length]; exact hx)) he ⟨rfl, hit, hL⟩ fun h' hs => ⟨rfl, ?_⟩
    have f := hf it (by simp)
    exact I.turned (t' := s.toks) (fun b o hb q => hs b o hb q) f.1 f.2.1 f.2.2.2.1 f.2.2.2.2.1 f.2.2.2.2.2
  self := fun A i s Q E st q => wpAny_pyIter_enum st.1.choose_spec q
noncomputable def IteT (K : PySem.W.Frag) (a : Addr) : It :=
  ⟨fun i H => ∃ xs x, SqT K H a xs ∧ xs[i]? = some x, fun i H x H' => ∃ T v, H T = none ∧ x = .ref T ∧ H' = upd H T (.tup [.int (i : Int), v]) ∧ ∀ xs, SqT K H a xs → xs[i]? = some v, fun i H => ∃ xs, SqT K H a xs ∧ xs.length ≤ i⟩
theorem drawsT {prog : Program} {w : World} {A : Around} (hh : A.handled = none) (it l : Addr) (hne : l ≠ it) (items : Array Value) :
    Draws prog w A it [it, l] items.size (fun i v => items[i]? = some v) (fun i h => h.IsTupleIter it l i ∧ h.IsTuple l items) where
  live := fun _ _ st => let ⟨o, ho, _⟩ := st.1; ⟨o, ho⟩
  frame := fun _ _ _ st hk => ⟨(let ⟨o, ho, r⟩ := st.1; ⟨o, hk it (by simp) o ho, r⟩), (let ⟨o, ho, r⟩ := st.2; ⟨o, hk l (by simp) o ho, r⟩)⟩
  item := fun i s Q E hi st hQ => by
    refine nextOf_tuple_item st.1 st.2 (x := items[i]) (by simp [hi]) fun h' hit' hs' => ?_
    exact hQ _ h' s.toks (by simp [hi]) ⟨hit', (let ⟨o, ho, r⟩ := st.2; ⟨o, hs'.extBut l o hne ho, r⟩)⟩ hs'
  done := fun s Q E st hE => nextOf_tuple_end hh st.1 st.2 (by simp) hE
theorem drawsEndT {prog : Program} {w : World} {A : Around} (hh : A.handled = none) (it l : Addr) (items : Array Value) (n : Nat) (hn : items.size ≤ n) :
    Draws prog w A it [it, l] n (fun _ _ => True) (fun i h => i = n ∧ h.IsTupleIter it l i ∧ h.IsTuple l items) where
  live := fun _ _ st => let ⟨o, ho, _⟩ := st.2.1; ⟨o, ho⟩
  frame := fun _ _ _ st hk => ⟨st.1, (let ⟨o, ho, r⟩ := st.2.1; ⟨o, hk it (by simp) o ho, r⟩), (let ⟨o, ho, r⟩ := st.2.2; ⟨o, hk l (by simp) o ho, r⟩)⟩
  item := fun i s Q E hi st hQ => absurd st.1 (Nat.ne_of_lt hi)
  done := fun s Q E st hE => nextOf_tuple_end hh st.2.1 st.2.2 (by simp; exact hn) hE
theorem turn_enmT {P : Program} {w : World} {K : PySem.W.Frag} {elts : List Expr} {x1} {tp : Pos} (a it e : Addr) (hei : e ≠ it) :
    Turn P w K (.Tuple elts x1 tp) (IteT K a) [e, it] e (fun i h => (∃ old, IsEnum h e it (i : Int) old) ∧ h.IsTupleIter it a i) where
  mem := by simp
  obj := fun i h st b hb => by
    obtain ⟨⟨old, h1⟩, o, h2, h3, h4⟩ := st
    rcases List.mem_cons.mp hb with rfl | hb
    · exact ⟨_, h1, fun v z => by cases z⟩
    · have : b = it := by simpa using hb
      subst this
      exact ⟨o, h2, fun v z => by rw [h4] at z; cases z⟩
  keep := fun i h h' st k => by
    obtain ⟨⟨old, h1⟩, o, h2, h3⟩ := st
    exact ⟨⟨old, k e (by simp) _ h1⟩, o, k it (by simp) _ h2, h3⟩
  item := fun X hP hw hK hc i pins s σ H E I hf st go => by
    subst hP hw hK
    obtain ⟨⟨old, he⟩, hit⟩ := st
    obtain ⟨xs, x, hq, hx⟩ := go
    obtain ⟨its, rv, pl, hz⟩ := I.tuple hq
    have hL : s.heap.IsTuple a its.toArray := pl
    obtain ⟨oa, ha, hca, _⟩ := id hL
    have hea : e ≠ a := by rintro rfl; rw [he] at ha; cases ha; exact absurd (show Value.type "enumerate" = Value.type _ from hca) (by decide)
    have hia : a ≠ it := by
      rintro rfl
      obtain ⟨o, h2, h3, _⟩ := id hit
      rw [h2] at ha; cases ha
      rw [h3] at hca
      exact absurd hca (by decide)
    have hlt : i < its.toArray.size := by
      rw [List.size_toArray, ← rv.length]
      exact (List.getElem?_eq_some_iff.mp hx).1
    refine wpAny_pyNext_enum_itemD (drawsT (show X.A.in1.handled = none from I.ok.hd hc) it a hia its.toArray) he ⟨hit, hL⟩ hlt hei (by simp [hei, hea]) fun y h' tk hy heo hst ht hsz kp => ?_
    refine ⟨_, rfl, wpAny_letOwnedTupleGo_enum heo fun h'' he'' sb => ?_⟩
    obtain ⟨u, hu1, hu2⟩ := rv.get hx
    have hyu : y = u := by
      have hy : its[i]? = some y := by simpa using hy
      rw [hu1] at hy; cases hy; rfl
    subst hyu
    have hT : ∀ b ∈ [e, it], b ≠ s.heap.objs.size := fun b hb => by
      rcases List.mem_cons.mp hb with rfl | hb
      · exact Nat.ne_of_lt (Heap.lt_size he)
      · have : b = it := by simpa using hb
        subst this
        obtain ⟨o, h2, _⟩ := id hit
        exact Nat.ne_of_lt (Heap.lt_size h2)
    have hTe : s.heap.objs.size ≠ e := (hT e (by simp)).symm
    have kp2 : ∀ b o, b ∉ [e, it] → s.heap.get? b = some o → h''.get? b = some o := fun b o hb q => by
      have h1 : b ≠ e := fun z => hb (by simp [z])
      have h2 : b ≠ it := fun z => hb (by simp [z])
      exact sb.extBut b o h1 (kp b o h1 h2 q)
    have ht2 : h''.get? s.heap.objs.size = some { cls := .type "tuple", data := .seq #[.int i tk, y] } := sb.extBut _ _ hTe ht
    refine ⟨.ref s.heap.objs.size, upd H s.heap.objs.size (.tup [.int (i : Int), x]), ?_, rfl, ⟨_, x, I.fresh, rfl, rfl, fun ys hys => ?_⟩, ⟨⟨_, he''⟩, ?_⟩, fun b hb => ?_⟩
    · refine I.laidCh (ch := [e, it]) (t' := tk + 1) kp2 (fun b hb => ?_) (fun b hb => (hf b hb)) ⟨(by show 2 ≤ sizeLine; decide), [.int i tk, y], .cons ⟨_, rfl⟩ (.cons hu2 .nil), ⟨_, ht2, rfl, _, rfl⟩⟩
      rcases List.mem_cons.mp hb with rfl | hb
      · exact ⟨_, he''⟩
      · have : b = it := by simpa using hb
        subst this
        obtain ⟨o, h2, _⟩ := id hst.1
        exact ⟨o, sb.extBut _ _ (Ne.symm hei) h2⟩
    · rw [I.tuple_inj hys hq]; exact hx
    · obtain ⟨o, h2, r⟩ := hst.1
      exact ⟨o, sb.extBut _ _ (Ne.symm hei) h2, r⟩
    · rw [upd_ne (hT b hb)]; exact (hf b hb).1
  done := fun X hP hw hK hc i pins s σ H E I hf st stop => by
    subst hP hw hK
    obtain ⟨⟨old, he⟩, hit⟩ := st
    obtain ⟨xs, hq, hx⟩ := stop
    obtain ⟨its, rv, pl, hz⟩ := I.tuple hq
    have hL : s.heap.IsTuple a its.toArray := pl
    refine wpAny_pyNext_enum_endD (drawsEndT (show X.A.in1.handled = none from I.ok.hd hc) it a its.toArray i (by rw [List.size_toArray, ← rv.length]; exact hx)) he ⟨rfl, hit, hL⟩ fun h' hs => ⟨rfl, ?_⟩
    have f := hf it (by simp)
    exact I.turned (t' := s.toks) (fun b o hb q => hs b o hb q) f.1 f.2.1 f.2.2.2.1 f.2.2.2.2.1 f.2.2.2.2.2
  self := fun A i s Q E st q => wpAny_pyIter_enum st.1.choose_spec q
section
variable {X : Cx} {elts : List Expr} {x1 : Nat} {tp : Pos}
noncomputable def iEnm (K : PySem.W.Frag) (tl : TE) : TI := fun σ H R => tl σ H fun x H1 => ∃ a, x = .ref a ∧ (((∃ xs, SqL K H1 a xs) ∧ R (IteL K a) H1) ∨ ((∃ xs, SqT K H1 a xs) ∧ R (IteT K a) H1))
theorem boot_enumerate : bootBuiltins "enumerate" = some (.type "enumerate") := by decide +kernel
theorem pi_enm {a : Expr} {ta : TE} {p pos : Pos} (hg : Gl X "enumerate") (hm : X.mg "enumerate" = none) (ha : PE X a ta) (hs : starEach [a] X.env = [(false, eval a X.env)] := by rfl) :
    PI X (.Tuple elts x1 tp) (.Call (.Name "enumerate" p) [a] [] pos) (iEnm X.K ta) := by
  intro pins s σ H R I h
  refine Call_ (ld_blt I hg hm boot_enumerate (PyProof.Rows.callWith_type1 (thn ((pa_cons ha pa_nil hs) pos pins s σ H (fun vs H1 => match vs with | [x] => ∃ a, x = .ref a ∧ (((∃ xs, SqL X.K H1 a xs) ∧ R (IteL X.K a) H1) ∨ ((∃ xs, SqT X.K H1 a xs) ∧ R (IteT X.K a) H1)) | _ => False) I h) ?_) hs rfl))
  rintro us s1 ⟨vs, H1, I1, r1, q1⟩
  · obtain ⟨ad, q, vs1⟩ : ∃ ad, (((∃ xs, SqL X.K H1 ad xs) ∧ R (IteL X.K ad) H1) ∨ ((∃ xs, SqT X.K H1 ad xs) ∧ R (IteT X.K ad) H1)) ∧ vs = [.ref ad] := by
      cases vs with
      | nil => cases q1
      | cons x r =>
        cases r with
        | nil => obtain ⟨ad, rfl, q⟩ := q1; exact ⟨ad, q, rfl⟩
        | cons _ _ => cases q1
    subst vs1
    obtain ⟨u, rfl, ru⟩ := r1.one
    cases ru
    have fin : ∀ (h' : Heap) (tn : Nat → Heap → Prop) (J : It), Turn X.prog X.w X.K (.Tuple elts x1 tp) J [s1.heap.objs.size + 1, s1.heap.objs.size] (s1.heap.objs.size + 1) tn → tn 0 h' → IsEnum h' (s1.heap.objs.size + 1) s1.heap.objs.size 0 .none → (∀ b o, s1.heap.get? b = some o → h'.get? b = some o) → R J H1 →
        wpAny (model X.prog X.w) X.A (pyIter (.ref (s1.heap.objs.size + 1))) (PIE X pins σ (.Tuple elts x1 tp) R) X.xe { s1 with heap := h' } := fun h' tn J T t0 he kp q => by
      refine wpAny_pyIter_enum he ⟨_, _, tn, J, H1, rfl, I1.kept (t' := s1.toks) kp, T, t0, fun b hb => ?_, q⟩
      have hb' : s1.heap.objs.size ≤ b := by
        rcases List.mem_cons.mp hb with rfl | hb
        · exact Nat.le_succ _
        · have : b = s1.heap.objs.size := by simpa using hb
          rw [this]; exact Nat.le_refl _
      exact I1.fpOk hb' (I1.hok.fresh hb')
    rcases q with ⟨⟨xs, hq⟩, q⟩ | ⟨⟨xs, hq⟩, q⟩
    · obtain ⟨its, rv, pl, hz⟩ := I1.list hq
      exact call_enumerate_list pl.isList fun h' he hi hsz kp => fin h' _ _ (turn_enmL ad s1.heap.objs.size (s1.heap.objs.size + 1) (Nat.succ_ne_self _)) ⟨⟨_, he⟩, hi⟩ he kp q
    · obtain ⟨its, rv, pl, hz⟩ := I1.tuple hq
      exact call_enumerate_tuple pl fun h' he hi hsz kp => fin h' _ _ (turn_enmT ad s1.heap.objs.size (s1.heap.objs.size + 1) (Nat.succ_ne_self _)) ⟨⟨_, he⟩, hi⟩ he kp q
end
end L2
namespace HH
open PySem L2 PySem.Spec PyProof.Rows
section
variable {K : PySem.W.Frag} {F F1 H H1 : Hp} {ρ ρ1 : List Sl} {σ : L2.St} {ds : List D} {a : Addr}
theorem pair_new {F' H' : Hp} {T : Addr} {v w : V} {d1 d2 : D} (sm : Same F' H') (hT : H' T = none) (r1 : Rep K F' v d1) (r2 : Rep K F' w d2) : ∃ F'', Ext F' H' F'' (upd H' T (.tup [v, w])) ∧ Rep K F'' (.ref T) (.tup [d1, d2]) :=
  newT (Q := fun v H'' => ∃ F'', Ext F' H' F'' H'' ∧ Rep K F'' v (.tup [d1, d2])) sm (.cons r1 (.cons r2 .nil)) hT fun v F'' H'' x rn => ⟨F'', x, rn⟩
theorem enmL_src {xs : List V} {F' H' : Hp} (hq : SqL K H' a xs) (r : Reps K F' xs ds) (s : Same F' H') (k : Nat) :
    (∀ d, (ds.mapIdx fun i d => D.tup [.int (i : Int), d])[k]? = some d → (IteL K a).go k H' ∧ ∀ x H'', (IteL K a).yld k H' x H'' → ∃ F'', Ext F' H' F'' H'' ∧ Rep K F'' x d) ∧ ((ds.mapIdx fun i d => D.tup [.int (i : Int), d]).length ≤ k → (IteL K a).stop k H') := by
  refine ⟨fun d hd => ?_, fun h => ⟨xs, hq, by rw [r.length]; simpa using h⟩⟩
  rw [List.getElem?_mapIdx] at hd
  obtain ⟨d0, e1, e2⟩ := map_some hd
  subst e2
  obtain ⟨w, h1, h2⟩ := r.get e1
  refine ⟨⟨xs, w, hq, h1⟩, ?_⟩
  rintro x H'' ⟨T, v, hT, hx, hH, y⟩
  subst hx; subst hH
  have := y xs hq
  rw [h1] at this; cases this
  exact pair_new s hT (repInt _) h2
theorem enmT_src {xs : List V} {F' H' : Hp} (hq : SqT K H' a xs) (r : Reps K F' xs ds) (s : Same F' H') (k : Nat) :
    (∀ d, (ds.mapIdx fun i d => D.tup [.int (i : Int), d])[k]? = some d → (IteT K a).go k H' ∧ ∀ x H'', (IteT K a).yld k H' x H'' → ∃ F'', Ext F' H' F'' H'' ∧ Rep K F'' x d) ∧ ((ds.mapIdx fun i d => D.tup [.int (i : Int), d]).length ≤ k → (IteT K a).stop k H') := by
  refine ⟨fun d hd => ?_, fun h => ⟨xs, hq, by rw [r.length]; simpa using h⟩⟩
  rw [List.getElem?_mapIdx] at hd
  obtain ⟨d0, e1, e2⟩ := map_some hd
  subst e2
  obtain ⟨w, h1, h2⟩ := r.get e1
  refine ⟨⟨xs, w, hq, h1⟩, ?_⟩
  rintro x H'' ⟨T, v, hT, hx, hH, y⟩
  subst hx; subst hH
  have := y xs hq
  rw [h1] at this; cases this
  exact pair_new s hT (repInt _) h2
end
section
variable {X : Cx} {c : Call} {e a : Expr} {pa : P} {pos : Pos} {elts : List Expr} {x1 : Nat} {tp : Pos}
theorem si_enm {x : Str} {p' : Pos} (hx : x = "enumerate") (hg : Gl X x) (hm : X.mg x = none) (ha : SX X c a pa) (hs : starEach [a] X.env = [(false, eval a X.env)] := by rfl) : SI X c (.Tuple elts x1 tp) (.Call (.Name x p') [a] [] pos) (.enm pa) := by
  subst hx
  refine piImp (pi_enm hg hm ha.ev hs) ?_
  rintro σ H R ⟨F, ρ, ds, ρ1, g, e, k⟩
  obtain ⟨r, ρ2, e1, e2⟩ := bind_ok e
  have zz := lift_ok e2; clear e2; obtain ⟨e2, e3⟩ := zz
  subst e3
  rw [HH.ev] at e1
  obtain ⟨r0, ρ3, e4, e5⟩ := bind_ok e1
  have zz := lift_ok e5; clear e5; obtain ⟨e5, e6⟩ := zz
  subst e6
  obtain ⟨es, f1, f2⟩ := map_some e5
  subst f2
  cases e2
  refine ⟨F, ρ, r0, _, g, e4, fun v F' H' s rr => ?_⟩
  obtain ⟨F2, s2, _, rp⟩ := s.frz rr
  cases hd : r0.d with
  | tup es' =>
    rw [hd] at f1 rp
    cases f1
    rw [Rep] at rp
    obtain ⟨ad, xs, rfl, h1, h2⟩ := rp
    exact ⟨ad, rfl, .inr ⟨⟨xs, Same.seqT s2.gs.sub h1⟩, k _ _ _ ⟨s2.gs, fun n k F' ρ' σ' H' s' => enmT_src (Same.seqT s'.gs.sub (Same.seqT s'.fsub h1)) (h2.mono s'.fsub) s'.gs.sub k, fun F3 ρ3 σ3 H3 s3 => ⟨s2.trans s3, fun v r rr => rr.later s2⟩⟩⟩⟩
  | lst es' =>
    rw [hd] at f1 rp
    cases f1
    rw [Rep] at rp
    obtain ⟨ad, xs, rfl, h1, h2⟩ := rp
    exact ⟨ad, rfl, .inl ⟨⟨xs, s2.gs.sub.seq h1⟩, k _ _ _ ⟨s2.gs, fun n k F' ρ' σ' H' s' => enmL_src (s'.gs.sub.seq (s'.fsub.seq h1)) (h2.mono s'.fsub) s'.gs.sub k, fun F3 ρ3 σ3 H3 s3 => ⟨s2.trans s3, fun v r rr => rr.later s2⟩⟩⟩⟩
  | _ => rw [hd] at f1; cases f1
end
end HH
end
section
set_option linter.all false
set_option Elab.async false
set_option maxRecDepth 100000
namespace PySem
section
variable {prog : Program} {w : World} {A : Around} {E : Value → Shared → Prop} {s : Shared}
variable {z TI TO i1 i2 l1 l2 : Addr} {k : Nat} {S1 S2 : Nat → Heap → Prop} {g1 g2 : Nat → Option Value} {a b : Value}
end
section
variable {prog : Program} {w : World} {A : Around} {E : Value → Shared → Prop} {s : Shared}
end
section
variable {prog : Program} {w : World} {A : Around} {E : Value → Shared → Prop} {s : Shared}
end
section
variable {prog : Program} {w : World} {A : Around} {E : Value → Shared → Prop} {s : Shared}
end
section
variable {prog : Program} {w : World} {A : Around} {E : Value → Shared → Prop} {s : Shared}
end
end PySem
end
section
set_option linter.all false
set_option Elab.async false
set_option maxRecDepth 100000
namespace L2
open PySem PySem.Spec PyProof.Rows
section
variable {X : Cx} {pins : List (Addr × Obj)} {σ : L2.St} {H : Hp} {s : Shared}
end
section
variable {X : Cx} {elts : List Expr} {x1 : Nat} {tp : Pos}
end
end L2
namespace HH
open PySem L2 PySem.Spec PyProof.Rows
section
variable {K : PySem.W.Frag} {F F1 H H1 : Hp} {ρ ρ1 : List Sl} {σ : L2.St} {ds es : List D} {a b : Addr}
end
section
variable {X : Cx} {c : Call} {e a b : Expr} {pa pb : P} {pos : Pos} {elts : List Expr} {x1 : Nat} {tp : Pos}
end
end HH
end
section
set_option linter.all false
set_option Elab.async false
set_option maxRecDepth 100000
namespace HH
open PySem L2 PySem.Spec PyProof.Rows
structure DefIn (K : PySem.W.Frag) (x : Str) (st : Stmt) : Prop where
  ex : ∃ f fd, PySem.W.nsIn K mainGlobals x = some (some (.ref f)) ∧ Fun K x x st f fd
section
variable {Pg : Program} {w : World} {K : PySem.W.Frag} {mg : Str → Option Value} {base h : Heap}
theorem def_in {x : Str} {st : Stmt} {f : Addr} {oc : Value} {od an : Option Addr} {osl : Array (Option Value)} {kV doc pm cdv ct : Value} (a : PySem.W.nsIn K mainGlobals x = some (some (.ref f)))
    (l : K.lookup f = some ⟨oc, od, .func (PySem.W.fnOf x x (defArgs st) (defBody st) (defScope st) .none kV doc pm an cdv ct), osl⟩)
    (c : PySem.W.codeIn K cdv x = true) (k : PySem.W.keepIn K (.ref f) = true) : DefIn K x st := ⟨_, _, a, fun_mk l c k⟩
theorem call0 {Γ : Tab} {wl i np : Nat} {x : Str} {st : Stmt} {ps : List Str} (X : K.In h) (G : h.Ns mainGlobals mg) (D : DefIn K x st) (hp : ps.length = np)
    (hb : ∀ (kV doc pm : Value) (an : Option Addr) (cdv ct : Value) (us : List Value), us.length = ps.length → bindArgs (PySem.W.fnOf x x (defArgs st) (defBody st) (defScope st) .none kV doc pm an cdv ct) ⟨us, []⟩ = pure (ps.zip us)) :
    CallOk Pg w K mg base 0 (run Γ wl 0) i x np := by
  obtain ⟨f, fd, a, F⟩ := D.ex
  exact ⟨f, fd, ps, ⟨fun vs H Q E s => s.1, fun A outer s H args us vs Q E hr e b v sp => by obtain ⟨_, F, as, r, as', _, z, _⟩ := sp; cases z⟩, PySem.W.mg_of X G a, F.kp, F.binds hb, hp⟩
theorem callS {Γ : Tab} {wl n i np : Nat} {x : Str} {st : Stmt} {ps : List Str} {d : Fd} (X : K.In h) (G : h.Ns mainGlobals mg) (D : DefIn K x st) (hp : ps.length = np) (hΓ : Γ i = some d)
    (hb : ∀ (kV doc pm : Value) (an : Option Addr) (cdv ct : Value) (us : List Value), us.length = ps.length → bindArgs (PySem.W.fnOf x x (defArgs st) (defBody st) (defScope st) .none kV doc pm an cdv ct) ⟨us, []⟩ = pure (ps.zip us))
    (ok : ∀ f fd, Fun K x x st f fd → FnOk Pg w K mg base CX0 (n + 1) f fd ps (spC K np (fun args => enter (run Γ wl n) wl d args))) :
    CallOk Pg w K mg base (n + 1) (run Γ wl (n + 1)) i x np := by
  obtain ⟨f, fd, a, F⟩ := D.ex
  refine ⟨f, fd, ps, ?_, PySem.W.mg_of X G a, F.kp, F.binds hb, hp⟩
  have e : run Γ wl (n + 1) i = fun args => enter (run Γ wl n) wl d args := by
    funext args
    show (match Γ i with | some d => enter (run Γ wl n) wl d args | none => .stuck) = _
    rw [hΓ]
  rw [e, hp]
  exact ok f fd F
theorem ints_reps {F : Hp} : ∀ ns : List Int, Reps K F (ns.map V.int) (ns.map D.int)
  | [] => .nil
  | n :: ns => .cons (repInt n) (ints_reps ns)
theorem script_ok {H : Hp} {a : Addr} {ns : List Int} {g : List Sl → Res R} {as : List Sl} (hS : SqL K H a (ns.map V.int)) (hr : g [.val false (.lst (ns.map D.int))] = .ok (.val (.bl true)) as) :
    spC K 1 g [.ref a] H (fun v _ => v = .bl true) fun _ _ _ => False := by
  refine ⟨rfl, H, _, _, as, ⟨.refl _, rfl, fun i b d e => ?_, fun i s ds e e' => ?_, fun i j c h => ?_⟩, hr, fun v F' σ' H' s rr => ?_⟩
  · match i, e with
    | 0, e =>
      cases e
      refine ⟨.ref a, rfl, ?_⟩
      rw [Rep]
      exact ⟨a, _, rfl, hS, ints_reps ns⟩
    | i + 1, e => simp at e
  · match i, e with
    | 0, e => cases e; cases e'
    | i + 1, e => simp at e
  · obtain ⟨⟨s, ds, e, e'⟩, _⟩ := h
    match i, e with
    | 0, e => cases e; cases e'
    | i + 1, e => simp at e
  · have rr : Rep K F' v (.bl true) := rr
    rw [Rep] at rr
    exact rr
end
end HH
end
section
set_option linter.all false
set_option Elab.async false
set_option maxRecDepth 100000
namespace HH
open PySem
noncomputable def Res.sat {α : Type} (x : Res α) (Q : α → List Sl → Prop) : Prop := match x with
  | .ok a ρ => Q a ρ
  | .exc _ _ => False
  | .stuck => False
section
variable {α β : Type} {Q Q' : α → List Sl → Prop}
@[simp] theorem sat_ok {a : α} {ρ : List Sl} : (Res.ok a ρ).sat Q = Q a ρ := rfl
@[simp] theorem sat_exc {k : Nat} {ρ : List Sl} : (Res.exc k ρ : Res α).sat Q = False := rfl
@[simp] theorem sat_stuck : (Res.stuck : Res α).sat Q = False := rfl
@[simp↓] theorem sat_bind {x : Res β} {f : β → List Sl → Res α} : (x.bind f).sat Q = x.sat fun a ρ => (f a ρ).sat Q := by cases x <;> rfl
@[simp] theorem sat_ite {p : Prop} [Decidable p] {x y : Res α} : (if p then x else y).sat Q = ((p → x.sat Q) ∧ (¬ p → y.sat Q)) := by
  by_cases h : p <;> simp [h]
@[simp] theorem sat_lift_some {a : α} {ρ : List Sl} : (lift (some a) ρ).sat Q = Q a ρ := rfl
@[simp] theorem sat_lift_none {ρ : List Sl} : (lift (none : Option α) ρ).sat Q = False := rfl
@[simp] theorem sat_lift_ite {p : Prop} [Decidable p] {a : α} {ρ : List Sl} : (lift (if p then some a else none) ρ).sat Q = (p ∧ Q a ρ) := by
  by_cases h : p <;> simp [h]
theorem Res.sat.imp {x : Res α} (h : x.sat Q) (k : ∀ a ρ, Q a ρ → Q' a ρ) : x.sat Q' := by
  cases x with
  | ok a ρ => exact k a ρ h
  | exc _ _ => exact h
  | stuck => exact h
theorem sat_iff {x : Res α} : x.sat Q ↔ ∃ a ρ, x = .ok a ρ ∧ Q a ρ := by
  cases x with
  | ok a ρ => exact ⟨fun h => ⟨a, ρ, rfl, h⟩, fun ⟨_, _, e, h⟩ => by cases e; exact h⟩
  | exc _ _ => exact ⟨fun h => h.elim, fun ⟨_, _, e, _⟩ => by cases e⟩
  | stuck => exact ⟨fun h => h.elim, fun ⟨_, _, e, _⟩ => by cases e⟩
end
noncomputable def fr : Sl → Bool
  | .unb => true
  | .val b _ => !b
  | .own b _ => !b
  | .lent _ => false
@[simp] theorem fr_unb : fr .unb = true := rfl
@[simp] theorem fr_val {b : Bool} {d : D} : fr (.val b d) = !b := rfl
@[simp] theorem fr_own {b : Bool} {d : List D} : fr (.own b d) = !b := rfl
@[simp] theorem fr_lent {d : List D} : fr (.lent d) = false := rfl
theorem put_eq (ρ : List Sl) (i : Nat) (s : Sl) : put ρ i s = match ρ[i]? with | some t => if fr t = true then some (ρ.set i s) else none | none => none := by
  unfold put
  cases h : ρ[i]? with
  | none => rfl
  | some t => cases t with
    | unb => rfl
    | val b d => cases b <;> rfl
    | own b d => cases b <;> rfl
    | lent d => rfl
theorem run_succ {Γ : Tab} {w n i : Nat} {d : Fd} {args : List Sl} (h : Γ i = some d) : run Γ w (n + 1) i args = enter (run Γ w n) w d args := by
  rw [run, h]
noncomputable def fin (np : Nat) : Fl → List Sl → Option (R × List Sl)
  | .next, ρ => some (.val .non, ρ.take np)
  | .ret r, ρ => some (r, ρ.take np)
  | _, _ => none
theorem sat_enter {c : Call} {n : Nat} {d : Fd} {args : List Sl} {Q : R → List Sl → Prop} (hl : args.length = d.np) (hd : d.np ≤ d.nn)
    (h : (exs c n d.body (args ++ List.replicate (d.nn - d.np) .unb)).sat fun fl ρ => match fl with | .next => Q (.val .non) (ρ.take d.np) | .ret r => Q r (ρ.take d.np) | _ => False) : (enter c n d args).sat Q := by
  unfold enter
  rw [if_pos ⟨hl, hd⟩]
  revert h
  cases exs c n d.body (args ++ List.replicate (d.nn - d.np) .unb) with
  | stuck => exact fun h => False.elim h
  | exc _ _ => exact fun h => False.elim h
  | ok fl ρ => cases fl <;> first | exact id | exact fun h => False.elim h
theorem sat_run {Γ : Tab} {w n i : Nat} {d : Fd} {args : List Sl} {Q : R → List Sl → Prop} (hΓ : Γ i = some d) (hl : args.length = d.np) (hd : d.np ≤ d.nn)
    (h : (exs (run Γ w n) w d.body (args ++ List.replicate (d.nn - d.np) .unb)).sat fun fl ρ => match fl with | .next => Q (.val .non) (ρ.take d.np) | .ret r => Q r (ρ.take d.np) | _ => False) : (run Γ w (n + 1) i args).sat Q := by
  rw [run_succ hΓ]; exact sat_enter hl hd h
theorem sat_cons {c : Call} {n : Nat} {s : S} {r : List S} {ρ : List Sl} {Q : Fl → List Sl → Prop} (h : (ex c n s ρ).sat fun fl ρ' => match fl with | .next => (exs c n r ρ').sat Q | fl => Q fl ρ') : (exs c n (s :: r) ρ).sat Q := by
  rw [exs, sat_bind]
  refine h.imp fun fl ρ' q => ?_
  cases fl <;> exact q
@[simp] theorem sat_nil {c : Call} {n : Nat} {ρ : List Sl} {Q : Fl → List Sl → Prop} : (exs c n [] ρ).sat Q = Q .next ρ := by rw [exs]; rfl
theorem sat_seq {c : Call} {n : Nat} {s : S} {r : List S} {ρ : List Sl} {Q : Fl → List Sl → Prop} (M : List Sl → Prop) (h : (ex c n s ρ).sat fun fl ρ' => fl = .next ∧ M ρ') (k : ∀ ρ', M ρ' → (exs c n r ρ').sat Q) : (exs c n (s :: r) ρ).sat Q :=
  sat_cons (h.imp fun fl ρ' ⟨e, q⟩ => by subst e; exact k ρ' q)
theorem sat_forT {is : List Nat} {one : Bool} {body : List Sl → Res Fl} (J : List D → List Sl → Prop) {Q : Fl → List Sl → Prop} (hb : ∀ d r ρ, J (d :: r) ρ → ∃ ρ1, bindF ρ is one d = some ρ1 ∧ (body ρ1).sat fun fl ρ2 => match fl with
      | .next => J r ρ2
      | .cont => J r ρ2
      | .brk => Q .next ρ2
      | .ret v => Q (.ret v) ρ2) (hq : ∀ ρ, J [] ρ → Q .next ρ) : ∀ {ds : List D} {ρ : List Sl}, J ds ρ → (forT is one body ds ρ).sat Q
  | [], ρ, j => hq ρ j
  | d :: r, ρ, j => by
    obtain ⟨ρ1, e, h⟩ := hb d r ρ j
    rw [forT, e]
    show ((body ρ1).bind _).sat Q
    rw [sat_bind]
    refine h.imp fun fl ρ2 q => ?_
    cases fl with
    | next => exact sat_forT J hb hq q
    | cont => exact sat_forT J hb hq q
    | brk => exact q
    | ret v => exact q
theorem sat_turns {is : List Nat} {one : Bool} {test : List Sl → Res Bool} {elt : Ev} (J : List Sl → Prop) (g : D → Option D) {Q : List D → List Sl → Prop} :
    ∀ {ds acc : List D} {ρ : List Sl}, J ρ → (∀ d, d ∈ ds → ∀ ρ, J ρ → ∃ ρ1, bindF ρ is one d = some ρ1 ∧ (test ρ1).sat fun b ρ2 => if b = true then (elt ρ2).sat fun r ρ3 => g d = some r.d ∧ J ρ3 else g d = none ∧ J ρ2) → (∀ ρ, J ρ → Q (acc ++ ds.filterMap g) ρ) →
      (turns is one test elt ds acc ρ).sat Q
  | [], acc, ρ, j, h, k => by rw [turns]; simpa using k ρ j
  | d :: r, acc, ρ, j, h, k => by
    obtain ⟨ρ1, e, h1⟩ := h d (by simp) ρ j
    rw [turns, e]
    show ((test ρ1).bind _).sat Q
    rw [sat_bind]
    refine h1.imp fun b ρ2 q => ?_
    cases b with
    | true =>
      rw [if_pos rfl] at q
      rw [if_pos rfl, sat_bind]
      refine q.imp fun x ρ3 ⟨e1, j3⟩ => ?_
      refine sat_turns J g j3 (fun d' hd' => h d' (by simp [hd'])) fun ρ' j' => ?_
      have := k ρ' j'
      rw [List.filterMap_cons, e1] at this
      rw [List.append_assoc]; exact this
    | false =>
      rw [if_neg (by simp)] at q
      rw [if_neg (by simp)]
      refine sat_turns J g q.2 (fun d' hd' => h d' (by simp [hd'])) fun ρ' j' => ?_
      have := k ρ' j'
      rw [List.filterMap_cons, q.1] at this
      exact this
theorem sat_turnsM {is : List Nat} {one : Bool} {elt : Ev} {c : Call} (J : List Sl → Prop) (g : D → D) {Q : List D → List Sl → Prop} {ds : List D} {ρ : List Sl} (j : J ρ) (h : ∀ d, d ∈ ds → ∀ ρ, J ρ → ∃ ρ1, bindF ρ is one d = some ρ1 ∧ (elt ρ1).sat fun r ρ3 => g d = r.d ∧ J ρ3)
    (k : ∀ ρ, J ρ → Q (ds.map g) ρ) : (turns is one (evT c none) elt ds [] ρ).sat Q :=
  sat_turns J (fun d => some (g d)) j (fun d hd ρ j => by
    obtain ⟨ρ1, e, h1⟩ := h d hd ρ j
    refine ⟨ρ1, e, ?_⟩
    rw [evT, sat_ok, if_pos rfl]
    exact h1.imp fun r ρ3 q => ⟨by rw [q.1], q.2⟩) fun ρ j => by simpa using k ρ j
section
variable {ρ l : List Sl} {a : Sl} {i j : Int} {k m : Nat} {b b' : Bool} {s : Str} {d : D} {ds es : List D} {e f : Ev} {x : Option Sl} {c : Call}
@[simp] theorem ty_int_non : isTy .int .non = false := rfl
@[simp] theorem ty_int_bl : isTy .int (.bl b) = true := rfl
@[simp] theorem ty_int_int : isTy .int (.int i) = true := rfl
@[simp] theorem ty_int_str : isTy .int (.str s) = false := rfl
@[simp] theorem ty_int_tup : isTy .int (.tup ds) = false := rfl
@[simp] theorem ty_int_lst : isTy .int (.lst ds) = false := rfl
@[simp] theorem ty_bool_non : isTy .bool .non = false := rfl
@[simp] theorem ty_bool_bl : isTy .bool (.bl b) = true := rfl
@[simp] theorem ty_bool_int : isTy .bool (.int i) = false := rfl
@[simp] theorem ty_bool_str : isTy .bool (.str s) = false := rfl
@[simp] theorem ty_bool_tup : isTy .bool (.tup ds) = false := rfl
@[simp] theorem ty_bool_lst : isTy .bool (.lst ds) = false := rfl
@[simp] theorem ty_str_non : isTy .str .non = false := rfl
@[simp] theorem ty_str_bl : isTy .str (.bl b) = false := rfl
@[simp] theorem ty_str_int : isTy .str (.int i) = false := rfl
@[simp] theorem ty_str_str : isTy .str (.str s) = true := rfl
@[simp] theorem ty_str_tup : isTy .str (.tup ds) = false := rfl
@[simp] theorem ty_str_lst : isTy .str (.lst ds) = false := rfl
@[simp] theorem ty_tuple_non : isTy .tuple .non = false := rfl
@[simp] theorem ty_tuple_bl : isTy .tuple (.bl b) = false := rfl
@[simp] theorem ty_tuple_int : isTy .tuple (.int i) = false := rfl
@[simp] theorem ty_tuple_str : isTy .tuple (.str s) = false := rfl
@[simp] theorem ty_tuple_tup : isTy .tuple (.tup ds) = true := rfl
@[simp] theorem ty_tuple_lst : isTy .tuple (.lst ds) = false := rfl
@[simp] theorem ty_list_non : isTy .list .non = false := rfl
@[simp] theorem ty_list_bl : isTy .list (.bl b) = false := rfl
@[simp] theorem ty_list_int : isTy .list (.int i) = false := rfl
@[simp] theorem ty_list_str : isTy .list (.str s) = false := rfl
@[simp] theorem ty_list_tup : isTy .list (.tup ds) = false := rfl
@[simp] theorem ty_list_lst : isTy .list (.lst ds) = true := rfl
@[simp] theorem ty_none_non : isTy .none .non = true := rfl
@[simp] theorem ty_none_bl : isTy .none (.bl b) = false := rfl
@[simp] theorem ty_none_int : isTy .none (.int i) = false := rfl
@[simp] theorem ty_none_str : isTy .none (.str s) = false := rfl
@[simp] theorem ty_none_tup : isTy .none (.tup ds) = false := rfl
@[simp] theorem ty_none_lst : isTy .none (.lst ds) = false := rfl
@[simp] theorem isNon_non : isNon .non = true := rfl
@[simp] theorem isNon_bl : isNon (.bl b) = false := rfl
@[simp] theorem isNon_int : isNon (.int i) = false := rfl
@[simp] theorem isNon_str : isNon (.str s) = false := rfl
@[simp] theorem isNon_tup : isNon (.tup ds) = false := rfl
@[simp] theorem isNon_lst : isNon (.lst ds) = false := rfl
@[simp] theorem flat_non : flat .non = true := rfl
@[simp] theorem flat_bl : flat (.bl b) = true := rfl
@[simp] theorem flat_int : flat (.int i) = true := rfl
@[simp] theorem flat_str : flat (.str s) = true := rfl
@[simp] theorem flat_tup : flat (.tup ds) = false := rfl
@[simp] theorem flat_lst : flat (.lst ds) = false := rfl
@[simp] theorem Rd_val : (R.val d).d = d := rfl
@[simp] theorem Rd_own : (R.own ds).d = .lst ds := rfl
@[simp] theorem slOf_val : slOf (.val d) = .val false d := rfl
@[simp] theorem slOf_own : slOf (.own ds) = .own false ds := rfl
@[simp] theorem argOf_val : argOf (.val d) = .dat d := rfl
@[simp] theorem argOf_own : argOf (.own ds) = .tmp ds := rfl
@[simp] theorem asI_int : asI (.int i) = some i := rfl
@[simp] theorem asB_bl : asB (.bl b) = some b := rfl
@[simp] theorem items_lst : items (.lst ds) = some ds := rfl
@[simp] theorem items_tup : items (.tup ds) = some ds := rfl
@[simp] theorem itemsT_tup : itemsT (.tup ds) = some ds := rfl
@[simp] theorem itemsL_lst : itemsL (.lst ds) = some ds := rfl
@[simp] theorem op2_add : op2 .add = opAdd := rfl
@[simp] theorem op2_sub : op2 .sub = opSub := rfl
@[simp] theorem op2_mul : op2 .mul = opMul := rfl
@[simp] theorem op2_fdiv : op2 .fdiv = opFdiv := rfl
@[simp] theorem op2_mod : op2 .mod = opMod := rfl
@[simp] theorem op2_pow : op2 .pow = opPow := rfl
@[simp] theorem opAdd_int : opAdd (.int i) (.int j) = some (.val (.int (i + j))) := rfl
@[simp] theorem opAdd_lst : opAdd (.lst ds) (.lst es) = if ds.length + es.length ≤ lim then some (.own (ds ++ es)) else none := rfl
@[simp] theorem opAdd_tup : opAdd (.tup ds) (.tup es) = if ds.length + es.length ≤ lim then some (.val (.tup (ds ++ es))) else none := rfl
@[simp] theorem opSub_int : opSub (.int i) (.int j) = some (.val (.int (i - j))) := rfl
@[simp] theorem opMul_int : opMul (.int i) (.int j) = if ((-18446744073709551616 < i ∧ i < 18446744073709551616) ∨ (-18446744073709551616 < j ∧ j < 18446744073709551616)) then some (.val (.int (i * j))) else none := rfl
@[simp] theorem opFdiv_int : opFdiv (.int i) (.int j) = if 0 < j ∧ j < 1606938044258990275541962092341162602522202993782792835301376 then some (.val (.int (i / j))) else none := rfl
@[simp] theorem opMod_int : opMod (.int i) (.int j) = if 0 < j then some (.val (.int (i % j))) else none := rfl
@[simp] theorem opPow_int : opPow (.int i) (.int j) = if 0 ≤ j ∧ j ≤ 1000 ∧ i.natAbs < 18446744073709551616 then some (.val (.int (i ^ j.toNat))) else none := rfl
@[simp] theorem ixR_lst : ixR (.lst ds) (.int i) = (at' ds i).map .val := rfl
@[simp] theorem ixR_tup : ixR (.tup ds) (.int i) = (at' ds i).map .val := rfl
@[simp] theorem negR_int : negR (.int i) = some (.val (.int (-i))) := rfl
@[simp] theorem cm_eq_int : cm .eq (.int i) (.int j) = some (i == j) := rfl
@[simp] theorem cm_ne_int : cm .ne (.int i) (.int j) = some (!(i == j)) := rfl
@[simp] theorem cm_eq_bl : cm .eq (.bl b) (.bl b') = some (b == b') := rfl
@[simp] theorem cm_ne_bl : cm .ne (.bl b) (.bl b') = some (!(b == b')) := rfl
@[simp] theorem cm_lt_int : cm .lt (.int i) (.int j) = some (decide (i < j)) := rfl
@[simp] theorem cm_le_int : cm .le (.int i) (.int j) = some (decide (i ≤ j)) := rfl
@[simp] theorem cm_gt_int : cm .gt (.int i) (.int j) = some (decide (j < i)) := rfl
@[simp] theorem cm_ge_int : cm .ge (.int i) (.int j) = some (decide (j ≤ i)) := rfl
@[simp] theorem cm_isN : cm .isN d .non = some (isNon d) := rfl
@[simp] theorem cm_notN : cm .notN d .non = some (!isNon d) := rfl
@[simp] theorem blt_len_lst : blt .len [.lst ds] = some (.val (.int ds.length)) := rfl
@[simp] theorem blt_len_tup : blt .len [.tup ds] = some (.val (.int ds.length)) := rfl
@[simp] theorem blt_listR : blt .listR [.lst ds] = if ds.length ≤ 16777216 then some (.own ds) else none := rfl
@[simp] theorem blt_list_lst : blt .list [.lst ds] = some (.own ds) := rfl
@[simp] theorem blt_list_tup : blt .list [.tup ds] = some (.own ds) := rfl
@[simp] theorem blt_tuple_lst : blt .tuple [.lst ds] = some (.val (.tup ds)) := rfl
@[simp] theorem blt_tuple_tup : blt .tuple [.tup ds] = some (.val (.tup ds)) := rfl
@[simp] theorem blt_min2 : blt .min2 [.int i, .int j] = some (.val (.int (if j < i then j else i))) := rfl
@[simp] theorem blt_max2 : blt .max2 [.int i, .int j] = some (.val (.int (if i < j then j else i))) := rfl
@[simp] theorem blt_all : blt .all [.lst ds] = (ds.mapM asB).map fun bs => .val (.bl (bs.all id)) := rfl
@[simp] theorem blt_any : blt .any [.lst ds] = (ds.mapM asB).map fun bs => .val (.bl (bs.any id)) := rfl
@[simp] theorem isVar_var : isVar (.var k) = some k := rfl
@[simp] theorem pk_cons : pk (a :: l) k = match (a :: l)[k]? with | some (.val _ d) => some d | some (.own _ ds) => some (.lst ds) | some (.lent ds) => some (.lst ds) | _ => none := rfl
@[simp] theorem pkL_cons : pkL (a :: l) k = match pk (a :: l) k with | some (.lst ds) => some ds | _ => none := rfl
@[simp] theorem opd_some : opd (some k) e ρ = lift (pk ρ k) ρ := rfl
@[simp] theorem opd_none : opd none e ρ = (e ρ).bind fun r ρ => .ok r.d ρ := rfl
@[simp] theorem opd2_some {y : Option Nat} : opd2 (some k) e y f ρ = (lift (pk ρ k) ρ).bind fun _ ρ => (opd y f ρ).bind fun y ρ => (lift (pk ρ k) ρ).bind fun x ρ => .ok (x, y) ρ := rfl
@[simp] theorem opd2_none {y : Option Nat} : opd2 none e y f ρ = (opd none e ρ).bind fun x ρ => (opd y f ρ).bind fun y ρ => .ok (x, y) ρ := rfl
@[simp] theorem backS_own {es : List D} : backS (.own b ds) (some (.own b' es)) = .own b es := rfl
@[simp] theorem backS_frz : backS (.own b ds) (some (.val b' d)) = .val b d := rfl
@[simp] theorem backS_no : backS a none = a := by cases a <;> rfl
@[simp] theorem backS_val : backS (.val b d) x = .val b d := by cases x <;> rfl
@[simp] theorem backS_unb : backS .unb x = .unb := by cases x <;> rfl
@[simp] theorem backS_lent : backS (.lent ds) x = .lent ds := by cases x <;> rfl
@[simp] theorem bindF_nm : bindF ρ [k] true d = put ρ k (.val false d) := rfl
@[simp] theorem bindF_tup {is : List Nat} : bindF ρ is false (.tup ds) = putAll ρ is ds := by cases is <;> rfl
@[simp] theorem srcOf_none : srcOf none e ρ = (e ρ).bind fun r ρ => lift (items r.d) ρ := rfl
@[simp] theorem srcOf_some : srcOf (some k) e (a :: l) = match (a :: l)[k]? with | some (.val _ d) => lift (items d) (a :: l) | some (.own _ ds) => .ok ds ((a :: l).set k (.lent ds)) | some (.lent ds) => .ok ds (a :: l) | _ => .stuck := rfl
@[simp] theorem unlend_none {ρ' : List Sl} : unlend ρ' none ρ = ρ := rfl
@[simp] theorem unlend_some : unlend (a :: l) (some k) ρ = match (a :: l)[k]? with | some (.own b ds) => ρ.set k (.own b ds) | _ => ρ := rfl
@[simp] theorem put_cons {s : Sl} : put (a :: l) k s = match (a :: l)[k]? with | some t => if fr t = true then some ((a :: l).set k s) else none | none => none := put_eq ..
@[simp] theorem putAll_nil : putAll ρ [] [] = some ρ := rfl
@[simp] theorem putAll_cons {is : List Nat} : putAll ρ (k :: is) (d :: ds) = (put ρ k (.val false d)).bind fun ρ => putAll ρ is ds := rfl
@[simp↓] theorem sat_doCall {as : List Arg} {Q : R → List Sl → Prop} : (doCall c k as ρ).sat Q = match bindA ρ as [] with | none => False | some args => (c k args).sat fun r args' => Q r (backA as args' 0 ρ) := by
  unfold doCall
  cases bindA ρ as [] with
  | none => rfl
  | some args => simp only; cases c k args <;> rfl
end
@[simp] theorem at_0 {α : Type} {a0 : α} {l : List α} : at' (a0 :: l) 0 = some a0 := by
  unfold at' ixN; rw [if_pos (by decide), if_pos (by simp only [List.length_cons]; omega)]; rfl
@[simp] theorem at_1 {α : Type} {a0 a1 : α} {l : List α} : at' (a0 :: a1 :: l) 1 = some a1 := by
  unfold at' ixN; rw [if_pos (by decide), if_pos (by simp only [List.length_cons]; omega)]; rfl
@[simp] theorem at_2 {α : Type} {a0 a1 a2 : α} {l : List α} : at' (a0 :: a1 :: a2 :: l) 2 = some a2 := by
  unfold at' ixN; rw [if_pos (by decide), if_pos (by simp only [List.length_cons]; omega)]; rfl
@[simp] theorem at_3 {α : Type} {a0 a1 a2 a3 : α} {l : List α} : at' (a0 :: a1 :: a2 :: a3 :: l) 3 = some a3 := by
  unfold at' ixN; rw [if_pos (by decide), if_pos (by simp only [List.length_cons]; omega)]; rfl
@[simp] theorem at_4 {α : Type} {a0 a1 a2 a3 a4 : α} {l : List α} : at' (a0 :: a1 :: a2 :: a3 :: a4 :: l) 4 = some a4 := by
  unfold at' ixN; rw [if_pos (by decide), if_pos (by simp only [List.length_cons]; omega)]; rfl
@[simp] theorem at_5 {α : Type} {a0 a1 a2 a3 a4 a5 : α} {l : List α} : at' (a0 :: a1 :: a2 :: a3 :: a4 :: a5 :: l) 5 = some a5 := by
  unfold at' ixN; rw [if_pos (by decide), if_pos (by simp only [List.length_cons]; omega)]; rfl
@[simp] theorem at_6 {α : Type} {a0 a1 a2 a3 a4 a5 a6 : α} {l : List α} : at' (a0 :: a1 :: a2 :: a3 :: a4 :: a5 :: a6 :: l) 6 = some a6 := by
  unfold at' ixN; rw [if_pos (by decide), if_pos (by simp only [List.length_cons]; omega)]; rfl
@[simp] theorem at_7 {α : Type} {a0 a1 a2 a3 a4 a5 a6 a7 : α} {l : List α} : at' (a0 :: a1 :: a2 :: a3 :: a4 :: a5 :: a6 :: a7 :: l) 7 = some a7 := by
  unfold at' ixN; rw [if_pos (by decide), if_pos (by simp only [List.length_cons]; omega)]; rfl
theorem at_nat {α : Type} {l : List α} {i : Int} (h : 0 ≤ i) (h' : i < l.length) : at' l i = l[i.toNat]? := by
  unfold at' ixN; rw [if_pos h, if_pos h']; rfl
theorem at_ofNat {α : Type} {l : List α} {k : Nat} (h' : k < l.length) : at' l (k : Int) = l[k]? := by
  rw [at_nat (by omega) (by omega)]; simp
theorem at_none {α : Type} {l : List α} {i : Int} (h : (l.length : Int) ≤ i) : at' l i = none := by
  unfold at' ixN; rw [if_pos (by omega), if_neg (by omega)]; rfl
theorem isVar_ne {p : P} (h : ∀ i, p ≠ .var i) : isVar p = none := by cases p <;> first | rfl | exact absurd rfl (h _)
@[simp] theorem isVar_con {d : D} : isVar (.con d) = none := rfl
@[simp] theorem isVar_glob {x : Str} {d : D} : isVar (.glob x d) = none := rfl
@[simp] theorem isVar_bin {o : Op} {p q : P} : isVar (.bin o p q) = none := rfl
@[simp] theorem isVar_neg {p : P} : isVar (.neg p) = none := rfl
@[simp] theorem isVar_not {p : P} : isVar (.not p) = none := rfl
@[simp] theorem isVar_and {p q : P} : isVar (.and p q) = none := rfl
@[simp] theorem isVar_or {p q : P} : isVar (.or p q) = none := rfl
@[simp] theorem isVar_cmp {o : Cm} {p q : P} : isVar (.cmp o p q) = none := rfl
@[simp] theorem isVar_chain {o o' : Cm} {p q r : P} : isVar (.chain o o' p q r) = none := rfl
@[simp] theorem isVar_ife {p q r : P} : isVar (.ife p q r) = none := rfl
@[simp] theorem isVar_tup {as : List P} : isVar (.tup as) = none := rfl
@[simp] theorem isVar_lst {as : List P} : isVar (.lst as) = none := rfl
@[simp] theorem isVar_idx {p q : P} : isVar (.idx p q) = none := rfl
@[simp] theorem isVar_slice {p q r : P} : isVar (.slice p q r) = none := rfl
@[simp] theorem isVar_call {f : Nat} {as : List P} : isVar (.call f as) = none := rfl
@[simp] theorem isVar_blt {b : Blt} {as : List P} : isVar (.blt b as) = none := rfl
@[simp] theorem isVar_inst {ts : List Ty} {p : P} : isVar (.inst ts p) = none := rfl
@[simp] theorem isVar_pop {x : Nat} : isVar (.pop x) = none := rfl
@[simp] theorem isVar_comp {p e : P} {n : Nat} {is : List Nat} {one : Bool} {t : Option P} : isVar (.comp p n is one t e) = none := rfl
@[simp] theorem isVar_rng {p q : P} : isVar (.rng p q) = none := rfl
@[simp] theorem isVar_enm {p : P} : isVar (.enm p) = none := rfl
@[simp] theorem isVar_zip {p q : P} : isVar (.zip p q) = none := rfl
@[simp] theorem isVar_rev {p : P} : isVar (.rev p) = none := rfl
noncomputable def compT (c : Call) (is : List Nat) (one : Bool) (test : Option P) (elt : P) (ds : List D) (ρ : List Sl) : Res (List D) := turns is one (evT c test) (ev c elt) ds [] ρ
@[simp] theorem ev_comp {c : Call} {src elt : P} {n : Nat} {is : List Nat} {one : Bool} {test : Option P} {ρ : List Sl} : ev c (.comp src n is one test elt) ρ = (srcOf (isVar src) (ev c src) ρ).bind fun ds ρ₁ =>
      if ds.length ≤ lim then (compT c is one test elt ds (ρ₁ ++ List.replicate n .unb)).bind fun xs ρ₂ => .ok (.own xs) (unlend ρ (isVar src) (ρ₂.take ρ₁.length)) else .stuck := by rw [ev]; rfl
noncomputable def whlC (c : Call) (n : Nat) (t : P) (body : List S) (k : Nat) (ρ : List Sl) : Res Fl := whlT (tru (ev c t)) (exs c n body) k ρ
@[simp] theorem ex_whl {c : Call} {n : Nat} {t : P} {body : List S} {ρ : List Sl} : ex c n (.whl t body) ρ = whlC c n t body n ρ := by rw [ex]; rfl
theorem sat_compM {c : Call} {is : List Nat} {one : Bool} {elt : P} (J : List Sl → Prop) (g : D → D) {Q : List D → List Sl → Prop} {ds : List D} {ρ : List Sl} (j : J ρ) (h : ∀ d, d ∈ ds → ∀ ρ, J ρ → ∃ ρ1, bindF ρ is one d = some ρ1 ∧ (ev c elt ρ1).sat fun r ρ3 => g d = r.d ∧ J ρ3)
    (k : ∀ ρ, J ρ → Q (ds.map g) ρ) : (compT c is one none elt ds ρ).sat Q := sat_turnsM J g j h k
theorem sat_compF {c : Call} {is : List Nat} {one : Bool} {elt t : P} (J : List Sl → Prop) (g : D → Option D) {Q : List D → List Sl → Prop} {ds : List D} {ρ : List Sl} (j : J ρ)
    (h : ∀ d, d ∈ ds → ∀ ρ, J ρ → ∃ ρ1, bindF ρ is one d = some ρ1 ∧ (ev c t ρ1).sat fun r ρ2 => ∃ b, r.d = .bl b ∧ if b = true then (ev c elt ρ2).sat fun r ρ3 => g d = some r.d ∧ J ρ3 else g d = none ∧ J ρ2) (k : ∀ ρ, J ρ → Q (ds.filterMap g) ρ) : (compT c is one (some t) elt ds ρ).sat Q :=
  sat_turns J g j (fun d hd ρ j => by
    obtain ⟨ρ1, e, h1⟩ := h d hd ρ j
    refine ⟨ρ1, e, ?_⟩
    rw [evT, tru, sat_bind]
    refine h1.imp fun r ρ2 ⟨b, e, q⟩ => ?_
    rw [e]
    exact q) fun ρ j => by simpa using k ρ j
theorem sat_whlC {c : Call} {n : Nat} {t : P} {body : List S} (J : Nat → List Sl → Prop) {Q : Fl → List Sl → Prop} (h : ∀ m ρ, J m ρ → (ev c t ρ).sat fun r ρ1 => ∃ b, r.d = .bl b ∧ if b = true then (exs c n body ρ1).sat fun fl ρ2 => match fl with
      | .next => ∃ m', m' < m ∧ J m' ρ2
      | .cont => ∃ m', m' < m ∧ J m' ρ2
      | .brk => Q .next ρ2
      | .ret v => Q (.ret v) ρ2 else Q .next ρ1) : ∀ {k m : Nat} {ρ : List Sl}, m < k → J m ρ → (whlC c n t body k ρ).sat Q
  | 0, m, ρ, hk, _ => absurd hk (Nat.not_lt_zero _)
  | k + 1, m, ρ, hk, j => by
    unfold whlC
    rw [whlT, sat_bind, tru, sat_bind]
    refine (h m ρ j).imp fun r ρ1 ⟨b, e, q⟩ => ?_
    rw [e]
    show (if b = true then _ else _ : Res Fl).sat Q
    cases b with
    | false =>
      rw [if_neg (by simp)] at q
      rw [if_neg (by simp)]; exact q
    | true =>
      rw [if_pos rfl] at q
      rw [if_pos rfl, sat_bind]
      refine q.imp fun fl ρ2 q => ?_
      cases fl with
      | next => obtain ⟨m', hm, j'⟩ := q; exact sat_whlC J h (Nat.lt_of_lt_of_le hm (Nat.lt_succ_iff.mp hk)) j'
      | cont => obtain ⟨m', hm, j'⟩ := q; exact sat_whlC J h (Nat.lt_of_lt_of_le hm (Nat.lt_succ_iff.mp hk)) j'
      | brk => exact q
      | ret v => exact q
@[simp] theorem q_ev1 : type_of% @HH.ev.eq_1 := @HH.ev.eq_1
@[simp] theorem q_ev2 : type_of% @HH.ev.eq_2 := @HH.ev.eq_2
@[simp] theorem q_ev3 : type_of% @HH.ev.eq_3 := @HH.ev.eq_3
@[simp] theorem q_ev4 : type_of% @HH.ev.eq_4 := @HH.ev.eq_4
@[simp] theorem q_ev5 : type_of% @HH.ev.eq_5 := @HH.ev.eq_5
@[simp] theorem q_ev6 : type_of% @HH.ev.eq_6 := @HH.ev.eq_6
@[simp] theorem q_ev7 : type_of% @HH.ev.eq_7 := @HH.ev.eq_7
@[simp] theorem q_ev8 : type_of% @HH.ev.eq_8 := @HH.ev.eq_8
@[simp] theorem q_ev9 : type_of% @HH.ev.eq_9 := @HH.ev.eq_9
@[simp] theorem q_ev10 : type_of% @HH.ev.eq_10 := @HH.ev.eq_10
@[simp] theorem q_ev11 : type_of% @HH.ev.eq_11 := @HH.ev.eq_11
@[simp] theorem q_ev12 : type_of% @HH.ev.eq_12 := @HH.ev.eq_12
@[simp] theorem q_ev13 : type_of% @HH.ev.eq_13 := @HH.ev.eq_13
@[simp] theorem q_ev14 : type_of% @HH.ev.eq_14 := @HH.ev.eq_14
@[simp] theorem q_ev15 : type_of% @HH.ev.eq_15 := @HH.ev.eq_15
@[simp] theorem q_ev16 : type_of% @HH.ev.eq_16 := @HH.ev.eq_16
@[simp] theorem q_ev17 : type_of% @HH.ev.eq_17 := @HH.ev.eq_17
@[simp] theorem q_ev18 : type_of% @HH.ev.eq_18 := @HH.ev.eq_18
@[simp] theorem q_ev19 : type_of% @HH.ev.eq_19 := @HH.ev.eq_19
@[simp] theorem q_ev20 : type_of% @HH.ev.eq_20 := @HH.ev.eq_20
@[simp] theorem q_ev22 : type_of% @HH.ev.eq_22 := @HH.ev.eq_22
@[simp] theorem q_ev23 : type_of% @HH.ev.eq_23 := @HH.ev.eq_23
@[simp] theorem q_ev24 : type_of% @HH.ev.eq_24 := @HH.ev.eq_24
@[simp] theorem q_ev25 : type_of% @HH.ev.eq_25 := @HH.ev.eq_25
@[simp] theorem q_ex1 : type_of% @HH.ex.eq_1 := @HH.ex.eq_1
@[simp] theorem q_ex2 : type_of% @HH.ex.eq_2 := @HH.ex.eq_2
@[simp] theorem q_ex3 : type_of% @HH.ex.eq_3 := @HH.ex.eq_3
@[simp] theorem q_ex4 : type_of% @HH.ex.eq_4 := @HH.ex.eq_4
@[simp] theorem q_ex5 : type_of% @HH.ex.eq_5 := @HH.ex.eq_5
@[simp] theorem q_ex6 : type_of% @HH.ex.eq_6 := @HH.ex.eq_6
@[simp] theorem q_ex7 : type_of% @HH.ex.eq_7 := @HH.ex.eq_7
@[simp] theorem q_ex8 : type_of% @HH.ex.eq_8 := @HH.ex.eq_8
@[simp] theorem q_ex9 : type_of% @HH.ex.eq_9 := @HH.ex.eq_9
@[simp] theorem q_ex10 : type_of% @HH.ex.eq_10 := @HH.ex.eq_10
@[simp] theorem q_ex11 : type_of% @HH.ex.eq_11 := @HH.ex.eq_11
@[simp] theorem q_ex12 : type_of% @HH.ex.eq_12 := @HH.ex.eq_12
@[simp] theorem q_ex13 : type_of% @HH.ex.eq_13 := @HH.ex.eq_13
@[simp] theorem q_ex14 : type_of% @HH.ex.eq_14 := @HH.ex.eq_14
@[simp] theorem q_ex15 : type_of% @HH.ex.eq_15 := @HH.ex.eq_15
@[simp] theorem q_tru1 : type_of% @HH.tru.eq_1 := @HH.tru.eq_1
@[simp] theorem q_evs1 : type_of% @HH.evs.eq_1 := @HH.evs.eq_1
@[simp] theorem q_evs2 : type_of% @HH.evs.eq_2 := @HH.evs.eq_2
@[simp] theorem q_evA1 : type_of% @HH.evA.eq_1 := @HH.evA.eq_1
@[simp] theorem q_evA2 : type_of% @HH.evA.eq_2 := @HH.evA.eq_2
@[simp] theorem q_evT1 : type_of% @HH.evT.eq_1 := @HH.evT.eq_1
@[simp] theorem q_evT2 : type_of% @HH.evT.eq_2 := @HH.evT.eq_2
@[simp] theorem q_cmR1 : type_of% @HH.cmR.eq_1 := @HH.cmR.eq_1
@[simp] theorem q_bindA1 : type_of% @HH.bindA.eq_1 := @HH.bindA.eq_1
@[simp] theorem q_bindA2 : type_of% @HH.bindA.eq_2 := @HH.bindA.eq_2
@[simp] theorem q_bindA3 : type_of% @HH.bindA.eq_3 := @HH.bindA.eq_3
@[simp] theorem q_bindA4 : type_of% @HH.bindA.eq_4 := @HH.bindA.eq_4
@[simp] theorem q_backA1 : type_of% @HH.backA.eq_1 := @HH.backA.eq_1
@[simp] theorem q_backA2 : type_of% @HH.backA.eq_2 := @HH.backA.eq_2
@[simp] theorem q_lookA1 : type_of% @HH.lookA.eq_1 := @HH.lookA.eq_1
@[simp] theorem q_lookA2 : type_of% @HH.lookA.eq_2 := @HH.lookA.eq_2
@[simp] theorem q_lookA3 : type_of% @HH.lookA.eq_3 := @HH.lookA.eq_3
@[simp] theorem q_lookA4 : type_of% @HH.lookA.eq_4 := @HH.lookA.eq_4
end HH
end
section
set_option linter.all false
set_option Elab.async false
set_option maxRecDepth 100000
namespace HH
open PySem L2 PySem.Spec PyProof.Rows
section
variable {X : Cx} {c : Call} {a b : Expr} {pa pb : P} {pos : Pos}
theorem mapM_asI : ∀ {ds : List D} {ns : List Int}, ds.mapM asI = some ns → ds = ns.map D.int
  | [], ns, h => by simp at h; subst h; rfl
  | d :: ds, ns, h => by
    simp [List.mapM_cons, Option.bind_eq_some_iff] at h
    obtain ⟨i, e1, ms, e2, rfl⟩ := h
    rw [asI_some e1, mapM_asI e2]; rfl
theorem reps_int {K : PySem.W.Frag} {F : Hp} : ∀ {ns : List Int} {ys : List V}, Reps K F ys (ns.map D.int) → ys = ns.map V.int
  | [], ys, h => by rw [h.unnil]; rfl
  | n :: ns, ys, h => by
    obtain ⟨v, r, rfl, h1, t⟩ := h.uncons
    rw [Rep] at h1
    rw [h1, reps_int t]; rfl
theorem vals_at {ns : List Int} {us : List Value} (h : Vals (ns.map V.int) us) {i : Nat} {v : Value} (e : us.toArray[i]? = some v) : ∃ t, v = .int (ns.getD i 0) t := by
  have e : us[i]? = some v := by simpa using e
  have hi : i < us.length := (List.getElem?_eq_some_iff.mp e).1
  have hl := h.length
  rw [List.length_map] at hl
  have g : (ns.map V.int)[i]? = some (.int (ns.getD i 0)) := by
    rw [List.getElem?_map, List.getElem?_eq_getElem (by omega)]
    simp [List.getD, show i < ns.length by omega]
  obtain ⟨w, g1, g2⟩ := h.get g
  rw [e] at g1
  cases g1
  exact g2
theorem walked {pins : List (Addr × Obj)} {σ : L2.St} {H : Hp} {s : Shared} {p : Addr} {ys : List V} (I : L2.Inv X pins σ H s) (hc : X.calm = true) (hq : SqL X.K H p ys ∨ SqT X.K H p ys) {Q : Value → Shared → Prop} {E : Value → Shared → Prop}
    (k : ∀ (it : Addr) (us : List Value) (s₂ : Shared) (St : Nat → Heap → Prop), Vals ys us → Walks X.prog X.w X.A.in1 it [it, p] [it] us.toArray.size (fun i v => us.toArray[i]? = some v) St → St 0 s₂.heap → (∀ b ∈ [it, p], b < s₂.heap.objs.size) →
      (∀ h' tk, (∀ b o, b ∉ [it] → s₂.heap.get? b = some o → h'.get? b = some o) → L2.Inv X pins σ H { s₂ with heap := h', toks := tk }) → Q (.ref it) s₂) : wpAny (model X.prog X.w) X.A.in1 (pyIter (.ref p)) Q E s := by
  have hh : X.A.in1.handled = none := I.ok.hd hc
  rcases hq with hq | hq
  · obtain ⟨us, rv, pl, hz⟩ := I.list hq
    have pl := pl.isList
    have hlt : p < s.heap.objs.size := by obtain ⟨o, h1, _⟩ := pl; exact Heap.lt_size h1
    refine wpAny_pyIter_list pl (k s.heap.objs.size us _ _ rv (Walks.list hh s.heap.objs.size p (Nat.ne_of_lt hlt) us.toArray) ⟨⟨_, Heap.get?_push_size _ rfl, rfl, rfl⟩, ?_⟩ ?_ fun h' tk kp => ?_)
    · obtain ⟨o, h1, h2⟩ := pl
      exact ⟨o, Heap.get?_push_of_some _ h1, h2⟩
    · intro b hb
      obtain ⟨o, h1, _⟩ := pl
      simp at hb
      rcases hb with rfl | rfl
      · exact Heap.lt_size (Heap.get?_push_size _ rfl)
      · exact Heap.lt_size (Heap.get?_push_of_some _ h1)
    · exact I.kept (fun b o z => kp b o (by simp; exact Nat.ne_of_lt (Heap.lt_size z)) (Heap.get?_push_of_some _ z))
  · obtain ⟨us, rv, pl, hz⟩ := I.tuple hq
    have hlt : p < s.heap.objs.size := by obtain ⟨o, h1, _⟩ := pl; exact Heap.lt_size h1
    refine wpAny_pyIter_tuple pl (k s.heap.objs.size us _ _ rv (Walks.tuple hh s.heap.objs.size p (Nat.ne_of_lt hlt) us.toArray) ⟨⟨_, Heap.get?_push_size _ rfl, rfl, rfl⟩, ?_⟩ ?_ fun h' tk kp => ?_)
    · obtain ⟨o, h1, h2⟩ := pl
      exact ⟨o, Heap.get?_push_of_some _ h1, h2⟩
    · intro b hb
      obtain ⟨o, h1, _⟩ := pl
      simp at hb
      rcases hb with rfl | rfl
      · exact Heap.lt_size (Heap.get?_push_size _ rfl)
      · exact Heap.lt_size (Heap.get?_push_of_some _ h1)
    · exact I.kept (fun b o z => kp b o (by simp; exact Nat.ne_of_lt (Heap.lt_size z)) (Heap.get?_push_of_some _ z))
theorem preSum_list (ns : List Int) : ∀ k, k ≤ ns.length → preSum (fun i => ns.getD i 0) k = (ns.take k).sum
  | 0, _ => by simp [preSum]
  | k + 1, h => by
    rw [preSum, preSum_list ns k (by omega), List.take_succ, List.sum_append]
    simp [List.getD, show k < ns.length by omega]
theorem c_sum (hc : X.calm = true) : CallR X (.builtin "sum") (rB1 X.K fun x => blt .sum [x]) := by
  rintro pins s σ H xs us Q I r ⟨x, hx, F, d, r', sm, px, he, k⟩
  obtain ⟨ns, e1, he⟩ := map_some (show ((items d).bind fun ds => ds.mapM asI).map _ = some r' from he)
  subst he
  obtain ⟨ds, e2, e3⟩ := bindO e1
  obtain ⟨p, ys, rfl, hq, rs⟩ := px.items sm e2
  rw [mapM_asI e3] at rs
  have ey := reps_int rs
  subst hx
  obtain ⟨u, rfl, rx⟩ := r.one
  cases rx
  refine call_sum_walkG (walked I hc hq fun it us s₂ St rv W h0 hl kp => ?_)
  subst ey
  have hlen : us.toArray.size = ns.length := by rw [List.size_toArray, ← rv.length, List.length_map]
  refine ⟨it, _, _, _, _, St, fun i => ns.getD i 0, rfl, W, h0, hl, fun i v e => vals_at rv e, fun h' tk t' kk => ?_⟩
  rw [hlen, preSum_list ns _ (Nat.le_refl _), List.take_length]
  exact ⟨.int _, H, kp h' tk kk, ⟨t', rfl⟩, RepN.val0 sm (repInt _) k⟩
theorem best_min {ns : List Int} {m : Int} (hm : ns.min? = some m) : ns.getD (argBest (fun i j => decide (ns.getD i 0 < ns.getD j 0)) (ns.length - 1)) 0 = m := by
  have hne : ns ≠ [] := by rintro rfl; simp at hm
  have hl : 0 < ns.length := List.length_pos_iff.mpr hne
  obtain ⟨h1, h2⟩ := argBest_lt (fun i => ns.getD i 0) (ns.length - 1)
  have hb := List.min?_eq_some_iff.mp hm
  generalize argBest (fun i j => decide (ns.getD i 0 < ns.getD j 0)) (ns.length - 1) = j at *
  have hj : j < ns.length := by omega
  have hmem : ns.getD j 0 ∈ ns := by simp [List.getD, hj]
  obtain ⟨q, hq, e⟩ := List.getElem_of_mem hb.1
  have h3 := h2 q (by omega)
  simp only [List.getD, List.getElem?_eq_getElem hq, Option.getD_some] at h3
  rw [e] at h3
  have h4 := hb.2 _ hmem
  have h3 : ns.getD j 0 ≤ m := h3
  omega
theorem c_minL (hc : X.calm = true) : CallR X (.builtin "min") (rB1 X.K fun x => blt .minL [x]) := by
  rintro pins s σ H xs us Q I r ⟨x, hx, F, d, r', sm, px, he, k⟩
  obtain ⟨ns, e1, he⟩ := bindO (show ((items d).bind fun ds => ds.mapM asI).bind _ = some r' from he)
  obtain ⟨m, hm, he⟩ := map_some he
  subst he
  obtain ⟨ds, e2, e3⟩ := bindO e1
  obtain ⟨p, ys, rfl, hq, rs⟩ := px.items sm e2
  rw [mapM_asI e3] at rs
  have ey := reps_int rs
  subst hx
  obtain ⟨u, rfl, rx⟩ := r.one
  cases rx
  refine call_min_walk (walked I hc hq fun it us s₂ St rv W h0 hl kp => ?_)
  subst ey
  have hlen : us.toArray.size = ns.length := by rw [List.size_toArray, ← rv.length, List.length_map]
  have hpos : 0 < ns.length := by cases ns with | nil => simp at hm | cons _ _ => simp
  refine ⟨it, _, _, _, _, St, _, rfl, W, h0, hl, by rw [hlen]; exact hpos, CmpOf.ints_lt (fun i => ns.getD i 0) (fun i v e => vals_at rv e), fun v h' tk hv kk => ?_⟩
  rw [hlen] at hv
  obtain ⟨t, rfl⟩ := vals_at rv hv
  rw [best_min hm]
  exact ⟨.int _, H, kp h' tk kk, ⟨t, rfl⟩, RepN.val0 sm (repInt _) k⟩
theorem boot_sum : bootBuiltins "sum" = some (.builtin "sum") := by decide +kernel
theorem sx_sum {x : Str} {p' : Pos} (hx : x = "sum") (hc : X.calm = true) (hg : Gl X x) (hm : X.mg x = none) (ha : SX X c a pa) (hs : starEach [a] X.env = (false, eval a X.env) :: starEach [] X.env := by rfl) : SX X c (.Call (.Name x p') [a] [] pos) (.blt .sum [pa]) := by
  subst hx; exact sx_b1 (fun h => pe_callB (c_sum hc) hg hm boot_sum h (he := hs)) ha (fun ρ => by rw [HH.ev]) rfl hs
theorem sx_minL {x : Str} {p' : Pos} (hx : x = "min") (hc : X.calm = true) (hg : Gl X x) (hm : X.mg x = none) (ha : SX X c a pa) (hs : starEach [a] X.env = (false, eval a X.env) :: starEach [] X.env := by rfl) : SX X c (.Call (.Name x p') [a] [] pos) (.blt .minL [pa]) := by
  subst hx; exact sx_b1 (fun h => pe_callB (c_minL hc) hg hm boot_min h (he := hs)) ha (fun ρ => by rw [HH.ev]) rfl hs
theorem flat_V {K : PySem.W.Frag} {F H : Hp} {v : V} {d : D} (h : PRep K F H v d) (f : flat d = true) : flatV v = true := by
  cases d with
  | non => rw [h.non]; rfl
  | bl _ => rw [h.bl]; rfl
  | int _ => rw [h.int]; rfl
  | str _ => rw [h.str]; rfl
  | tup _ => cases f
  | lst _ => cases f
theorem eq_V {K : PySem.W.Frag} {F H : Hp} {v u : V} {d e : D} (h : PRep K F H v d) (h' : PRep K F H u e) (f : flat d = true) (g : flat e = true) : eqV v u = peq d e := by
  cases d with
  | tup _ => cases f
  | lst _ => cases f
  | non => rw [h.non]; cases e with
    | tup _ => cases g
    | lst _ => cases g
    | non => rw [h'.non]; rfl
    | bl _ => rw [h'.bl]; rfl
    | int _ => rw [h'.int]; rfl
    | str _ => rw [h'.str]; rfl
  | bl _ => rw [h.bl]; cases e with
    | tup _ => cases g
    | lst _ => cases g
    | non => rw [h'.non]; rfl
    | bl _ => rw [h'.bl]; rfl
    | int _ => rw [h'.int]; rfl
    | str _ => rw [h'.str]; rfl
  | int _ => rw [h.int]; cases e with
    | tup _ => cases g
    | lst _ => cases g
    | non => rw [h'.non]; rfl
    | bl _ => rw [h'.bl]; rfl
    | int _ => rw [h'.int]; rfl
    | str _ => rw [h'.str]; rfl
  | str _ => rw [h.str]; cases e with
    | tup _ => cases g
    | lst _ => cases g
    | non => rw [h'.non]; rfl
    | bl _ => rw [h'.bl]; rfl
    | int _ => rw [h'.int]; rfl
    | str _ => rw [h'.str]; rfl
theorem in_V {K : PySem.W.Frag} {F H : Hp} {v : V} {d : D} (h : PRep K F H v d) (f : flat d = true) : ∀ {ds : List D} {vs : List V}, Reps K F vs ds → ds.all flat = true → vs.all flatV = true ∧ inV v vs = ds.any fun y => peq y d
  | [], vs, r, _ => by rw [r.unnil]; exact ⟨rfl, rfl⟩
  | e :: ds, vs, r, g => by
    obtain ⟨w, ws, rfl, h1, t⟩ := r.uncons
    rw [List.all_cons, Bool.and_eq_true] at g
    obtain ⟨i1, i2⟩ := in_V h f t g.2
    have q : PRep K F H w e := .inl h1
    refine ⟨by rw [List.all_cons, flat_V q g.1, i1]; rfl, ?_⟩
    unfold inV at i2 ⊢
    rw [List.any_cons, List.any_cons, i2, eq_V q h g.1 f]
theorem op_innD : OpR X (compareOp .In) (rD X.K (cmR .inn)) := by
  rintro pins s σ H x y v u Q I rx ry ⟨F, d, e, r, sm, px, py, he, k⟩
  obtain ⟨t, e1, e2⟩ := map_some (show (cmIn false d e).map _ = some r from he)
  subst e2
  obtain ⟨ds, e3, e4⟩ := bindO e1
  obtain ⟨hf, e5⟩ := ite_some e4
  rw [Bool.and_eq_true] at hf
  obtain ⟨p, xs, rfl, hq, rs⟩ := py.items sm e3
  obtain ⟨i1, i2⟩ := in_V px hf.1 rs hf.2
  subst e5
  refine op_in_seq pins s σ H x _ v u Q I rx ry ⟨p, xs, rfl, hq, flat_V px hf.1, i1, ?_⟩
  rw [i2]
  exact RepN.val0 sm (repBl _) k
end
end HH
end
section
set_option linter.all false
set_option Elab.async false
set_option maxRecDepth 100000
namespace HH
open PySem
section
variable {i j : Int} {ds es : List D} {d : D} {b b' : Bool}
@[simp] theorem op2_shl : op2 .shl = opShl := rfl
@[simp] theorem op2_shr : op2 .shr = opShr := rfl
@[simp] theorem op2_band : op2 .band = opBand := rfl
@[simp] theorem opShl_int : opShl (.int i) (.int j) = if 0 ≤ j ∧ j ≤ 1000 ∧ i.natAbs < 18446744073709551616 then some (.val (.int (i * 2 ^ j.toNat))) else none := rfl
@[simp] theorem opShr_int : opShr (.int i) (.int j) = if 0 ≤ j then some (.val (.int (i / 2 ^ j.toNat))) else none := rfl
@[simp] theorem opBand_int : opBand (.int i) (.int j) = some (.val (.int (Builtin.bitAnd i j))) := rfl
@[simp] theorem opMul_lst : opMul (.lst ds) (.int i) = if 0 ≤ i ∧ 0 < ds.length ∧ ds.length * i.toNat ≤ lim then some (.own (List.replicate i.toNat ds).flatten) else none := rfl
@[simp] theorem opMul_tup : opMul (.tup ds) (.int i) = if 0 ≤ i ∧ 0 < ds.length ∧ ds.length * i.toNat ≤ lim then some (.val (.tup (List.replicate i.toNat ds).flatten)) else none := rfl
@[simp] theorem cm_isT : cm .isT (.bl b) (.bl true) = some b := rfl
@[simp] theorem cm_notT : cm .notT (.bl b) (.bl true) = some (!b) := rfl
@[simp] theorem blt_sum : blt .sum [.lst ds] = (ds.mapM asI).map fun ns => .val (.int ns.sum) := rfl
@[simp] theorem blt_minL : blt .minL [.lst ds] = (ds.mapM asI).bind fun ns => ns.min?.map fun i => .val (.int i) := rfl
@[simp] theorem blt_maxL : blt .maxL [.lst ds] = (ds.mapM asI).bind fun ns => ns.max?.map fun i => .val (.int i) := rfl
end
@[simp] theorem q_ex17 : type_of% @HH.ex.eq_17 := @HH.ex.eq_17
@[simp] theorem q_ex18 : type_of% @HH.ex.eq_18 := @HH.ex.eq_18
@[simp] theorem q_ex19 : type_of% @HH.ex.eq_19 := @HH.ex.eq_19
@[simp] theorem q_ex20 : type_of% @HH.ex.eq_20 := @HH.ex.eq_20
@[simp] theorem q_ex21 : type_of% @HH.ex.eq_21 := @HH.ex.eq_21
theorem mapM_int {ns : List Int} : (ns.map D.int).mapM asI = some ns := by
  induction ns with
  | nil => rfl
  | cons n ns ih => simp [ih]
@[simp] theorem mapM_intc {ns : List Int} : ns.mapM (asI ∘ D.int) = some ns := by
  rw [← mapM_int (ns := ns), List.mapM_map]
@[simp] theorem mapM_blc {bs : List Bool} : bs.mapM (asB ∘ D.bl) = some bs := by
  induction bs with
  | nil => rfl
  | cons b bs ih => simp [ih]
theorem any_int {S : List Int} {i : Int} : ((S.map D.int).any fun y => peq y (.int i)) = S.contains i := by
  induction S with
  | nil => rfl
  | cons s S ih =>
    rw [List.map_cons, List.any_cons, List.contains_cons, ih, peq]
    rw [show (s == i) = (i == s) from Bool.eq_iff_iff.mpr ⟨fun h => by simp at h ⊢; exact h.symm, fun h => by simp at h ⊢; exact h.symm⟩]
theorem all_flat {S : List Int} : (S.map D.int).all flat = true := by
  rw [List.all_eq_true]; intro d hd; obtain ⟨i, _, rfl⟩ := List.mem_map.mp hd; rfl
theorem in_lst {S : List Int} {i : Int} : cm .inn (.int i) (.lst (S.map D.int)) = some (S.contains i) := by
  show cmIn false _ _ = _
  unfold cmIn
  simp only [items_lst, Option.bind_some, flat_int, all_flat, Bool.and_true, any_int]
  rfl
theorem in_tup {S : List Int} {i : Int} : cm .inn (.int i) (.tup (S.map D.int)) = some (S.contains i) := by
  show cmIn false _ _ = _
  unfold cmIn
  simp only [items_tup, Option.bind_some, flat_int, all_flat, Bool.and_true, any_int]
  rfl
theorem notin_lst {S : List Int} {i : Int} : cm .notin (.int i) (.lst (S.map D.int)) = some (!S.contains i) := by
  show cmIn true _ _ = _
  unfold cmIn
  simp only [items_lst, Option.bind_some, flat_int, all_flat, Bool.and_true, any_int]
  rfl
theorem notin_tup {S : List Int} {i : Int} : cm .notin (.int i) (.tup (S.map D.int)) = some (!S.contains i) := by
  show cmIn true _ _ = _
  unfold cmIn
  simp only [items_tup, Option.bind_some, flat_int, all_flat, Bool.and_true, any_int]
  rfl
theorem dle_int {n : Nat} {S : List Int} : dle (n + 1) (.lst (S.map D.int)) = true := by
  rw [dle, List.all_eq_true]; intro d hd; obtain ⟨i, _, rfl⟩ := List.mem_map.mp hd; cases n <;> rfl
theorem peqs_int : ∀ {S T : List Int}, peqs (S.map D.int) (T.map D.int) = (S == T)
  | [], [] => by simp [peqs]
  | [], _ :: _ => by simp [peqs]
  | _ :: _, [] => by simp [peqs]
  | s :: S, t :: T => by
    rw [List.map_cons, List.map_cons, peqs, peqs_int, peq]; rfl
theorem eq_ints {S T : List Int} : cm .eq (.lst (S.map D.int)) (.lst (T.map D.int)) = some (S == T) := by
  show cmEq _ _ = _
  unfold cmEq
  rw [dle_int, dle_int, peq, peqs_int]; rfl
theorem ne_ints {S T : List Int} : cm .ne (.lst (S.map D.int)) (.lst (T.map D.int)) = some (!(S == T)) := by
  show cmNe _ _ = _
  unfold cmNe
  rw [dle_int, dle_int, peq, peqs_int]; rfl
theorem eq_nilI {S : List Int} : cm .eq (.lst (S.map D.int)) (.lst []) = some S.isEmpty := by
  rw [show (.lst [] : D) = .lst (([] : List Int).map D.int) from rfl, eq_ints]
  cases S <;> rfl
theorem ne_nilI {S : List Int} : cm .ne (.lst (S.map D.int)) (.lst []) = some (!S.isEmpty) := by
  rw [show (.lst [] : D) = .lst (([] : List Int).map D.int) from rfl, ne_ints]
  cases S <;> rfl
theorem at_last {α : Type} {l : List α} {x : α} : at' (l ++ [x]) (-1) = some x := by
  unfold at' ixN
  rw [if_neg (by decide), if_pos (by simp only [List.length_append, List.length_singleton]; omega)]
  have : (-1 + ((l ++ [x]).length : Int)).toNat = l.length := by simp only [List.length_append, List.length_singleton]; omega
  rw [this]; simp
theorem at_map {α : Type} {l : List α} {f : α → D} {k : Nat} {x : α} (h : l[k]? = some x) : at' (l.map f) (k : Int) = some (f x) := by
  have hk := (List.getElem?_eq_some_iff.mp h).1
  rw [at_ofNat (by simpa using hk), List.getElem?_map, h]; rfl
theorem ix_nat {n k : Nat} (h : k < n) : ixN n (k : Int) = some k := by
  unfold ixN; rw [if_pos (by omega), if_pos (by omega)]; simp
theorem at_some {α : Type} {l : List α} {i : Int} (h : 0 ≤ i) (h' : i < l.length) : ∃ x, at' l i = some x ∧ x ∈ l := by
  rw [at_nat h h']
  have hk : i.toNat < l.length := by omega
  exact ⟨l[i.toNat], by simp [hk], List.getElem_mem hk⟩
theorem sat_forR {is : List Nat} {one : Bool} {body : List Sl → Res Fl} {g : Nat → D} {N : Nat} (J : Nat → List Sl → Prop) {Q : Fl → List Sl → Prop} (hb : ∀ i ρ, i < N → J i ρ → ∃ ρ1, bindF ρ is one (g i) = some ρ1 ∧ (body ρ1).sat fun fl ρ2 => match fl with
      | .next => J (i + 1) ρ2
      | .cont => J (i + 1) ρ2
      | .brk => Q .next ρ2
      | .ret v => Q (.ret v) ρ2) (hq : ∀ ρ, J N ρ → Q .next ρ) {ρ : List Sl} (h0 : J 0 ρ) : (forT is one body ((List.range N).map g) ρ).sat Q := by
  refine sat_forT (fun r ρ => ∃ i, i ≤ N ∧ r = ((List.range N).map g).drop i ∧ J i ρ) ?_ ?_ ⟨0, Nat.zero_le _, rfl, h0⟩
  · rintro d r ρ ⟨i, hi, e, j⟩
    have hlt : i < N := by
      rcases Nat.lt_or_ge i N with h | h
      · exact h
      · rw [List.drop_eq_nil_of_le (by simpa using h)] at e; cases e
    rw [List.drop_eq_getElem_cons (by simpa using hlt)] at e
    injection e with e1 e2
    simp at e1
    subst e1
    obtain ⟨ρ1, h1, h2⟩ := hb i ρ hlt j
    refine ⟨ρ1, h1, h2.imp fun fl ρ2 q => ?_⟩
    cases fl with
    | next => exact ⟨i + 1, hlt, e2, q⟩
    | cont => exact ⟨i + 1, hlt, e2, q⟩
    | brk => exact q
    | ret v => exact q
  · rintro ρ ⟨i, hi, e, j⟩
    have : i = N := by
      have hl := congrArg List.length e
      simp at hl
      omega
    subst this
    exact hq ρ j
theorem sat_compA {c : Call} {is : List Nat} {one : Bool} {elt : P} {t : Option P} (J : List Sl → Prop) (P : D → Prop) {Q : List D → List Sl → Prop} {ds : List D} {ρ : List Sl} (j : J ρ)
    (h : ∀ d, d ∈ ds → ∀ ρ, J ρ → ∃ ρ1, bindF ρ is one d = some ρ1 ∧ (evT c t ρ1).sat fun b ρ2 => if b = true then (ev c elt ρ2).sat fun r ρ3 => P r.d ∧ J ρ3 else J ρ2) (k : ∀ xs ρ, J ρ → xs.length ≤ ds.length → (∀ x ∈ xs, P x) → Q xs ρ) : (compT c is one t elt ds ρ).sat Q := by
  suffices hh : ∀ (ds : List D) (acc : List D) (ρ : List Sl), J ρ → (∀ x ∈ acc, P x) → (∀ d, d ∈ ds → ∀ ρ, J ρ → ∃ ρ1, bindF ρ is one d = some ρ1 ∧ (evT c t ρ1).sat fun b ρ2 => if b = true then (ev c elt ρ2).sat fun r ρ3 => P r.d ∧ J ρ3 else J ρ2) →
      (turns is one (evT c t) (ev c elt) ds acc ρ).sat fun xs ρ => J ρ ∧ (∀ x ∈ xs, P x) ∧ xs.length ≤ acc.length + ds.length from
    (hh ds [] ρ j (by simp) h).imp fun xs ρ ⟨q1, q2, q3⟩ => k xs ρ q1 (by simpa using q3) q2
  intro ds
  induction ds with
  | nil => intro acc ρ j ha _; rw [turns]; exact ⟨j, ha, by simp⟩
  | cons d r ih =>
    intro acc ρ j ha h
    obtain ⟨ρ1, e, h1⟩ := h d (by simp) ρ j
    rw [turns, e]
    show ((evT c t ρ1).bind _).sat _
    rw [sat_bind]
    refine h1.imp fun b ρ2 q => ?_
    cases b with
    | true =>
      rw [if_pos rfl] at q
      rw [if_pos rfl, sat_bind]
      refine q.imp fun x ρ3 ⟨p, j3⟩ => ?_
      refine (ih (acc ++ [x.d]) ρ3 j3 (fun y hy => ?_) fun d' hd' => h d' (by simp [hd'])).imp fun xs ρ ⟨q1, q2, q3⟩ => ⟨q1, q2, by simp at q3 ⊢; omega⟩
      rcases List.mem_append.mp hy with hy | hy
      · exact ha y hy
      · rw [List.mem_singleton.mp hy]; exact p
    | false =>
      rw [if_neg (by simp)] at q
      rw [if_neg (by simp)]
      exact (ih acc ρ2 q ha fun d' hd' => h d' (by simp [hd'])).imp fun xs ρ ⟨q1, q2, q3⟩ => ⟨q1, q2, by simp at q3 ⊢; omega⟩
theorem sat_compN {c : Call} {is : List Nat} {one : Bool} {elt : P} (J : List Sl → Prop) (P : D → Prop) {Q : List D → List Sl → Prop} {ds : List D} {ρ : List Sl} (j : J ρ)
    (h : ∀ d, d ∈ ds → ∀ ρ, J ρ → ∃ ρ1, bindF ρ is one d = some ρ1 ∧ (ev c elt ρ1).sat fun r ρ3 => P r.d ∧ J ρ3) (k : ∀ xs ρ, J ρ → xs.length = ds.length → (∀ x ∈ xs, P x) → Q xs ρ) : (compT c is one none elt ds ρ).sat Q := by
  suffices hh : ∀ (ds : List D) (acc : List D) (ρ : List Sl), J ρ → (∀ x ∈ acc, P x) → (∀ d, d ∈ ds → ∀ ρ, J ρ → ∃ ρ1, bindF ρ is one d = some ρ1 ∧ (ev c elt ρ1).sat fun r ρ3 => P r.d ∧ J ρ3) →
      (turns is one (evT c none) (ev c elt) ds acc ρ).sat fun xs ρ => J ρ ∧ (∀ x ∈ xs, P x) ∧ xs.length = acc.length + ds.length from
    (hh ds [] ρ j (by simp) h).imp fun xs ρ ⟨q1, q2, q3⟩ => k xs ρ q1 (by simpa using q3) q2
  intro ds
  induction ds with
  | nil => intro acc ρ j ha _; rw [turns]; exact ⟨j, ha, by simp⟩
  | cons d r ih =>
    intro acc ρ j ha h
    obtain ⟨ρ1, e, h1⟩ := h d (by simp) ρ j
    rw [turns, e]
    show ((evT c none ρ1).bind _).sat _
    rw [evT]
    show ((ev c elt ρ1).bind _).sat _
    rw [sat_bind]
    refine h1.imp fun x ρ3 ⟨p, j3⟩ => ?_
    refine (ih (acc ++ [x.d]) ρ3 j3 (fun y hy => ?_) fun d' hd' => h d' (by simp [hd'])).imp fun xs ρ ⟨q1, q2, q3⟩ => ⟨q1, q2, by simp at q3 ⊢; omega⟩
    rcases List.mem_append.mp hy with hy | hy
    · exact ha y hy
    · rw [List.mem_singleton.mp hy]; exact p
end HH
end
section
set_option linter.all false
set_option Elab.async false
set_option maxRecDepth 100000
namespace HH
open PySem L2 PySem.Spec PyProof.Rows
section
variable {X : Cx} {c : Call} {n : Nat} {e a b d tg : Expr} {p pa pb pd : P} {pos : Pos}
theorem ss_swp {x y : Str} {k l : Nat} {i j : Expr} {pi pj : P} {px py t1 t2 pt pt2 : Pos} {kt k2} (hc : X.calm = true) (hN : X.N[k]? = some x) (hv : Vis X.env.scope x) (hN2 : X.N[l]? = some y) (hv2 : Vis X.env.scope y) (hi : SX X c i pi) (hj : SX X c j pj) (ha : SA X c [a, b] [pa, pb])
    (ha1 : ∀ v, assign (.Subscript (.Name x px) i t1) X.env v = (do
      let ov ← holding [v] (eval (.Name x px) X.env)
      let iv ← holding [v, ov] (eval i X.env)
      standAt t1
      holding [v, ov, iv] (setItem ov iv v)
      release [v, ov, iv] []) := by intro _; rfl)
    (ha2 : ∀ v, assign (.Subscript (.Name y py) j t2) X.env v = (do
      let ov ← holding [v] (eval (.Name y py) X.env)
      let iv ← holding [v, ov] (eval j X.env)
      standAt t2
      holding [v, ov, iv] (setItem ov iv v)
      release [v, ov, iv] []) := by intro _; rfl)
    (hs : swapsWithSole [.Tuple [.Subscript (.Name x px) i t1, .Subscript (.Name y py) j t2] kt pt] (.Tuple [a, b] k2 pt2) pos.line X.env = pure false := by rfl)
    (hw : swappedStores [.Tuple [.Subscript (.Name x px) i t1, .Subscript (.Name y py) j t2] kt pt] (.Tuple [a, b] k2 pt2) X.env = pure none := by rfl)
    (h1 : (assignEach [.Tuple [.Subscript (.Name x px) i t1, .Subscript (.Name y py) j t2] kt pt] X.env).map (·.2) = [assign (.Tuple [.Subscript (.Name x px) i t1, .Subscript (.Name y py) j t2] kt pt) X.env] := by rfl)
    (h2 : (assignEach [.Subscript (.Name x px) i t1, .Subscript (.Name y py) j t2] X.env).map (·.2) = assign (.Subscript (.Name x px) i t1) X.env :: (assignEach [.Subscript (.Name y py) j t2] X.env).map (·.2) := by rfl)
    (h3 : (assignEach [.Subscript (.Name y py) j t2] X.env).map (·.2) = assign (.Subscript (.Name y py) j t2) X.env :: (assignEach [] X.env).map (·.2) := by rfl)
    (h4 : (assignEach [.Subscript (.Name x px) i t1, .Subscript (.Name y py) j t2] X.env).length = 2 := by rfl) (h5 : (assignEach [.Subscript (.Name x px) i t1, .Subscript (.Name y py) j t2] X.env).findIdx? (·.1) = none := by rfl)
    (hd : (x == ("__debug__" : Str)) = false := by decide) (hcd : (x == ("__classdict__" : Str)) = false := by decide) (hd2 : (y == ("__debug__" : Str)) = false := by decide) (hcd2 : (y == ("__classdict__" : Str)) = false := by decide) :
    SS X c n (.Assign [.Tuple [.Subscript (.Name x px) i t1, .Subscript (.Name y py) j t2] kt pt] (.Tuple [a, b] k2 pt2) pos) (.swp k pi l pj pa pb) := by
  obtain ⟨ti, hi1, hi2⟩ := hi.opd
  obtain ⟨tj, hj1, hj2⟩ := hj.opd
  refine psImp (ps_asg (pe_tup ha.1) (pg_tup hc (pgs_cons (pg_sub (pe_var hN hv hd hcd) hi1 set_list ha1) (pgs_cons (pg_sub (pe_var hN2 hv2 hd2 hcd2) hj1 set_list ha2) pgs_nil h3) h2) h4 h5) hs hw h1) ?_
  rintro D σ H ⟨F, ρ, fl, ρ', g, e, kk⟩
  rw [ex] at e
  obtain ⟨u, ρ1, e1, e⟩ := bind_ok e
  obtain ⟨v, ρ2, e2, e⟩ := bind_ok e
  obtain ⟨x0, ρ2', e0, e⟩ := bind_ok e
  have zz := lift_ok e0; clear e0; obtain ⟨e0, e01⟩ := zz
  subst e01
  obtain ⟨dk, ρ3, e3, e⟩ := bind_ok e
  have ee : evs c [pa, pb] ρ = .ok [u.d, v.d] ρ2 := by
    simp only [evs, e1, e2, Res.bind]
  refine ⟨F, ρ, _, ρ2, g, ee, fun vs F1 H1 s1 rs => ⟨by rw [rs.length]; show 2 ≤ sizeLine; decide, fun q hq => Ext.rep_tup (Q := fun x H1 => gTup X.K 2 (gCons (gSub (tVar k) ti rSetL) (gCons (gSub (tVar l) tj rSetL) gNil)) x σ H1 D.nx) s1 rs (fun w F2 H2 s2 rr => ?_) q hq⟩⟩
  replace rr : Rep X.K F2 w (.tup [u.d, v.d]) := rr
  rw [Rep] at rr
  obtain ⟨ad, xs, rfl, hq, rxs⟩ := rr
  obtain ⟨w1, xs, rfl, r1, rxs⟩ := rxs.uncons
  obtain ⟨w2, xs, rfl, r2, rxs⟩ := rxs.uncons
  have := rxs.unnil
  subst this
  refine ⟨ad, [w1, w2], rfl, Same.seqT s2.gs.sub hq, rfl, w1, [w2], rfl, ?_⟩
  obtain ⟨o, ho, _⟩ := s2.gs.pk e0
  refine ⟨o, ho, hi2 s2.gs e3 fun vi F3 H3 s3 pi => ?_⟩
  split at e
  · rename_i bb ds kk' q
    split at e
    · rename_i m hm
      obtain ⟨x1, ρ4', e4, e⟩ := bind_ok e
      have zz := lift_ok e4; clear e4; obtain ⟨e4, e41⟩ := zz
      subst e41
      obtain ⟨dk2, ρ5, e5, e⟩ := bind_ok e
      obtain ⟨ad2, ys, q1, q2, q3, q4⟩ := s3.gs.own k _ ds q rfl
      rw [ho] at q1; cases q1
      have s4 := (s2.trans s3).trans (s3.gs.mut q ho (q4.set (r1.mono s3.fsub) m))
      have sf : Same F2 F3 := s3.fsub
      refine ⟨ad2, ys, kk', m, rfl, pi.int, q2, by rw [q4.length]; exact hm, ?_⟩
      refine ⟨w2, [], rfl, ?_⟩
      obtain ⟨o2, ho2, _⟩ := s4.gs.pk e4
      refine ⟨o2, ho2, hj2 s4.gs e5 fun vj F5 H5 s5 pj => ?_⟩
      split at e
      · rename_i bb2 ds2 kk2 q'
        split at e
        · rename_i m2 hm2
          cases e
          obtain ⟨ad3, zs, z1, z2, z3, z4⟩ := s5.gs.own l _ ds2 q' rfl
          rw [ho2] at z1; cases z1
          refine ⟨ad3, zs, kk2, m2, rfl, pj.int, z2, by rw [z4.length]; exact hm2, rfl, ?_⟩
          exact kk F5 σ _ ((s4.trans s5).trans (s5.gs.mut q' ho2 (z4.set ((r2.mono sf).mono s5.fsub) m2)))
        · cases e
      · cases e
    · cases e
  · cases e
end
end HH
end
section
set_option linter.all false
set_option Elab.async false
set_option maxRecDepth 100000
namespace HH
open PySem L2 PySem.Spec PyProof.Rows
section
variable {X : Cx} {c : Call} {n : Nat} {e a b d elt tg : Expr} {p pa pb pe : P} {pos : Pos} {elts : List Expr} {x1 : Nat} {tp : Pos}
variable {scope : Scope} {N' : List Str} {ifs : List Expr} {iter : Expr}
end
end HH
end
section
set_option linter.all false
set_option Elab.async false
set_option maxRecDepth 100000
namespace HH
open PySem L2 PySem.Spec PyProof.Rows
theorem args_minD (x dv : Value) : argsOk "min" ⟨[x], [("default", dv)]⟩ := by unfold argsOk; kernel_rfl
theorem minName : (toString "min" ++ toString ".loop" : String) = "min.loop" := by decide
section
variable {prog : Program} {w : World} {A : Around} {R : Result → Shared → Prop} {I : Addr} {fp wr : List Addr} {m : Nat} {P : Nat → Value → Prop} {Sx : Nat → Heap → Prop} {dv : Value}
theorem minD_loop (W : Walks prog w A.in1 I fp wr m P Sx) (bt : Nat → Nat → Bool) (cmp : CmpOf prog w A.in1 .Lt P bt) (B : Addr) (hB : B ∉ fp) :
    ∀ (u j : Nat) (s : Shared) (v0 : Value) (q : Nat), m - (j + 1) = u → j + 1 ≤ m → Sx (j + 1) s.heap → P (argBest bt j) v0 →
    s.heap.get? B = some ⟨.type "list", none, .seq #[v0, v0] q, #[]⟩ →
    (∀ v h' tk, P (argBest bt (m - 1)) v → (∀ b o, b ∉ wr → b ≠ B → s.heap.get? b = some o → h'.get? b = some o) → R (.ok (.ret v)) { s with heap := h', toks := tk }) →
    codeAny (model prog w) A (.builtin "min.loop" ⟨[.ref I, .none, .ref B], [("default", dv)]⟩) R s := by
  have hBw : B ∉ wr := fun z => hB (W.sub _ z)
  intro u
  induction u with
  | zero =>
    intro j s v0 q hu hj st p0 gB k
    have hjm : j + 1 = m := by omega
    refine codeAny_builtin F.entry_min_loop ?_; rw [Around.under_plainId F.plain_min_loop _]
    show wpAny _ A.in1 (seqItems? (.ref B) >>= _) _ _ s
    refine wpAny_bind (wpAny_seqItems gB rfl ?_); show wpAny _ A.in1 (tryCatch (pyNext (.ref I)) _ >>= _) _ _ s
    refine wpAny_bind (wpAny_tryCatch (W.done s _ _ (hjm ▸ st) fun h' tk kk => ?_))
    have gB' := kk B _ hBw gB
    show wpAny _ A.in1 (updateSeq B (fun _ => #[]) >>= _) _ _ _
    refine wpAny_bind (wpAny_updateSeq gB' rfl (wpAny_bind (wpAny_letGo (wpAny_pure ?_))))
    exact k v0 _ tk (by rw [← hjm]; exact p0) fun b o z1 z2 z3 => (Heap.get?_update_other _ _ (Ne.symm z2)).trans (kk b o z1 z3)
  | succ u ih =>
    intro j s v0 q hu hj st p0 gB k
    have hlt : j + 1 < m := by omega
    refine codeAny_builtin F.entry_min_loop ?_; rw [Around.under_plainId F.plain_min_loop _]
    show wpAny _ A.in1 (seqItems? (.ref B) >>= _) _ _ s
    refine wpAny_bind (wpAny_seqItems gB rfl ?_); show wpAny _ A.in1 (tryCatch (pyNext (.ref I)) _ >>= _) _ _ s
    refine wpAny_bind (wpAny_tryCatch (W.item (j + 1) s _ _ hlt st fun v h' tk pv st' kk => ?_))
    have gB' := kk B _ hBw gB
    show wpAny _ A.in1 (tryCatch (holding [v, v] (richCompare .Lt v v0 >>= _)) _ >>= _) _ _ _
    refine wpAny_bind (wpAny_tryCatch (wpAny_holding (wpAny_bind (cmp (j + 1) (argBest bt j) v v0 _ _ _ pv p0 (wpAny_bind (wpAny_holding (wpAny_truthy_bool (wpAny_bind (wpAny_letGo (wpAny_pure ?_))))))))))
    cases e : bt (j + 1) (argBest bt j) with
    | true =>
      simp only [if_true]
      refine wpAny_bind (wpAny_updateSeq gB' rfl (wpAny_bind (wpAny_letGo ?_)))
      rw [minName]
      refine wpAny_pure ⟨plainId_quiet F.plain_min_loop _, ih (j + 1) _ v _ (by omega) hlt (W.frame _ _ _ st' fun b z o y => (Heap.get?_update_other _ _ (fun h : B = b => hB (by rw [h]; exact z))).trans y) (by simp only [argBest, e, if_true]; exact pv) (Heap.get?_update_self _ gB' rfl) fun v' h2 t2 p2 k2 => ?_⟩
      exact k v' h2 t2 p2 fun b o z1 z2 z3 => k2 b o z1 z2 ((Heap.get?_update_other _ _ (Ne.symm z2)).trans (kk b o z1 z3))
    | false =>
      simp only [Bool.false_eq_true, if_false]
      refine wpAny_bind (wpAny_letGo ?_); rw [minName]
      refine wpAny_pure ⟨plainId_quiet F.plain_min_loop _, ih (j + 1) _ v0 q (by omega) hlt st' (by simp only [argBest, e, Bool.false_eq_true, if_false]; exact p0) gB' fun v' h2 t2 p2 k2 => k v' h2 t2 p2 fun b o z1 z2 z3 => k2 b o z1 z2 (kk b o z1 z3)⟩
theorem minD_first (W : Walks prog w A.in1 I fp wr m P Sx) (bt : Nat → Nat → Bool) (cmp : CmpOf prog w A.in1 .Lt P bt) (B : Addr) (hB : B ∉ fp) {s : Shared} {q : Nat} (st : Sx 0 s.heap) (gB : s.heap.get? B = some ⟨.type "list", none, .seq #[] q, #[]⟩)
    (k : 0 < m → ∀ v h' tk, P (argBest bt (m - 1)) v → (∀ b o, b ∉ wr → b ≠ B → s.heap.get? b = some o → h'.get? b = some o) → R (.ok (.ret v)) { s with heap := h', toks := tk })
    (k0 : m = 0 → ∀ h' tk, (∀ b o, b ∉ wr → b ≠ B → s.heap.get? b = some o → h'.get? b = some o) → R (.ok (.ret dv)) { s with heap := h', toks := tk }) :
    codeAny (model prog w) A (.builtin "min.loop" ⟨[.ref I, .none, .ref B], [("default", dv)]⟩) R s := by
  have hBw : B ∉ wr := fun z => hB (W.sub _ z)
  refine codeAny_builtin F.entry_min_loop ?_; rw [Around.under_plainId F.plain_min_loop _]
  show wpAny _ A.in1 (seqItems? (.ref B) >>= _) _ _ s
  refine wpAny_bind (wpAny_seqItems gB rfl ?_); show wpAny _ A.in1 (tryCatch (pyNext (.ref I)) _ >>= _) _ _ s
  by_cases hm : 0 < m
  · refine wpAny_bind (wpAny_tryCatch (W.item 0 s _ _ hm st fun v h' tk pv st' kk => ?_))
    have gB' := kk B _ hBw gB
    show wpAny _ A.in1 (updateSeq B (fun _ => #[v, v]) >>= _) _ _ _
    refine wpAny_bind (wpAny_updateSeq gB' rfl ?_); rw [minName]
    refine wpAny_pure ⟨plainId_quiet F.plain_min_loop _, minD_loop W bt cmp B hB _ 0 _ v _ rfl hm (W.frame _ _ _ st' fun b z o y => (Heap.get?_update_other _ _ (fun h : B = b => hB (by rw [h]; exact z))).trans y) pv (Heap.get?_update_self _ gB' rfl) fun v' h2 t2 p2 k2 => ?_⟩
    exact k hm v' h2 t2 p2 fun b o z1 z2 z3 => k2 b o z1 z2 ((Heap.get?_update_other _ _ (Ne.symm z2)).trans (kk b o z1 z3))
  · have hm0 : m = 0 := by omega
    refine wpAny_bind (wpAny_tryCatch (W.done s _ _ (by rw [hm0]; exact st) fun h' tk kk => ?_))
    show wpAny _ A.in1 (rule _ >>= _) _ _ _
    refine wpAny_bind (wpAny_rule (wpAny_pure ?_))
    exact k0 hm0 h' tk fun b o z1 z2 z3 => kk b o z1 z3
end
section
variable {prog : Program} {w : World} {A : Around} {E : Value → Shared → Prop} {s : Shared}
theorem call_treeK {id : String} {f : Builtin} {xs : List Value} {kw : List (Str × Value)} {Q : Value → Shared → Prop} (h1 : builtinKind id = none) (h2 : plainId id = true) (h3 : entryFor table id = some f) (h4 : argsOk id ⟨xs, kw⟩)
    (h : wpAny (model prog w) A.in1 (f ⟨xs, kw⟩) (fun fin s' => match fin with
      | .done z => (match (Except.ok z : Result) with | .ok (.ret v) => Q v s' | .ok _ => False | .error y => E y s')
      | .again z => z.quiet = true ∧ codeAny (model prog w) A z (fun r s' => match r with | .ok (.ret v) => Q v s' | .ok _ => False | .error y => E y s') s') E s) : wpAny (model prog w) A (call (.builtin id) xs kw) Q E s := by
  refine wpAny_call (codeAny_call_builtin h2 h3 ?_); simp only [checkBuiltinCall, h1]
  cases e : Manifest.signature? id with
  | none => exact wpAny_pure h
  | some g => (have h5 : Bind.checkArgs id g ⟨xs, kw⟩ = pure () := by simpa only [argsOk, e] using h4); simp only [h5]; exact wpAny_pure h
theorem call_minD {x dv : Value} {Q : Value → Shared → Prop}
    (h : wpAny (model prog w) A.in1 (pyIter x) (fun it s₂ => ∃ I fp wr m P Sx bt, it = .ref I ∧ Walks prog w A.in1 I fp wr m P Sx ∧ Sx 0 s₂.heap ∧ (∀ b ∈ fp, b < s₂.heap.objs.size) ∧ CmpOf prog w A.in1 .Lt P bt ∧
      (0 < m → ∀ v h' tk, P (argBest bt (m - 1)) v → (∀ b o, b ∉ wr → s₂.heap.get? b = some o → h'.get? b = some o) → Q v { s₂ with heap := h', toks := tk }) ∧ (m = 0 → ∀ h' tk, (∀ b o, b ∉ wr → s₂.heap.get? b = some o → h'.get? b = some o) → Q dv { s₂ with heap := h', toks := tk })) E s) :
    wpAny (model prog w) A (call (.builtin "min") [x] [("default", dv)]) Q E s := by
  refine call_treeK F.kind_min F.plain_min F.entry_min (args_minD _ _) ?_
  show wpAny _ A.in1 (Builtin.Builtins.bindParams "min" ["key", "default"] 0 ⟨[], [("default", dv)]⟩ >>= _) _ _ s
  refine wpAny_bind (wpAny_of_eq (show Builtin.Builtins.bindParams "min" ["key", "default"] 0 ⟨[], [("default", dv)]⟩ = pure [none, some dv] from rfl) (wpAny_bind (wpAny_pure ?_)))
  refine wpAny_bind (wpAny_mono h (?_) fun _ _ z => z)
  rintro it s₂ ⟨I, fp, wr, m, P, Sx, bt, ei, W, st, hfp, cmp, k, k0⟩
  subst ei
  refine wpAny_bind (wpAny_newObj_type ?_)
  have hB : s₂.heap.objs.size ∉ fp := fun z => Nat.lt_irrefl _ (hfp _ z)
  rw [minName]
  refine wpAny_pure ⟨plainId_quiet F.plain_min_loop _, minD_first W bt cmp s₂.heap.objs.size hB (W.frame _ _ _ st fun b _ o z => Heap.get?_push_of_some _ z) (Heap.get?_push_size _ rfl) (fun hm v h' tk pv kk => ?_) fun hm h' tk kk => ?_⟩
  · exact k hm v h' tk pv fun b o z y => kk b o z (Nat.ne_of_lt (Heap.lt_size y)) (Heap.get?_push_of_some _ y)
  · exact k0 hm h' tk fun b o z y => kk b o z (Nat.ne_of_lt (Heap.lt_size y)) (Heap.get?_push_of_some _ y)
end
section
variable {X : Cx} {c : Call} {n : Nat} {e a b : Expr} {p pa pb : P} {pos : Pos}
noncomputable def CallD (X : Cx) (id : String) (r : List V → Hp → VK → Prop) : Prop := ∀ (pins : List (Addr × Obj)) (s : Shared) (σ : L2.St) (H : Hp) (xs : List V) (us : List Value) (Q : VK), L2.Inv X pins σ H s → Vals xs us → r xs H Q → wpAny (model X.prog X.w) X.A (call (.builtin id) us [("default", .none)]) (EP X pins σ Q) X.xe s
theorem pe_callD {x : Str} {id : String} {r : List V → Hp → VK → Prop} {t : TA} {p' kp cp : Pos} {ck} (hc : CallD X id r) (hg : Gl X x) (hm : X.mg x = none) (hv : bootBuiltins x = some (.builtin id)) (ha : PA X [e] t) (hn : x ≠ "__name__" := by decide) (hdb : (x == ("__debug__" : Str)) = false := by decide)
    (he : backTo pos (starEach [e] X.env) = (false, eval e X.env) :: backTo pos (starEach [] X.env) := by rfl) (hpl : (backTo pos (starEach [e] X.env)).any (·.1) = false := by rfl)
    (hall : (backToKw pos (keywordEach [⟨some "default", .Constant .none ck cp, kp⟩] X.env)).all (·.1.isSome) = true := by rfl) (hkw : (backToKw pos (keywordEach [⟨some "default", .Constant .none ck cp, kp⟩] X.env)).any (·.1.isNone) = false := by rfl) :
    PE X (.Call (.Name x p') [e] [⟨some "default", .Constant .none ck cp, kp⟩] pos) (tCB r t) := by
  intro pins s σ H Q I h
  refine wpAny_Call_Name_kw (ld_blt I hg hm hv (callWith_kw (thn (ha pos pins s σ H _ I h) ?_) he hpl hall hkw) hn hdb)
  rintro us s1 ⟨vs, H1, I1, r1, q1⟩
  exact kws_cons (Constant_none (kws_nil (hc pins s1 σ H1 vs us Q I1 r1 q1)))
theorem c_minN (hc : X.calm = true) : CallD X "min" (rB1 X.K fun x => blt .minN [x]) := by
  rintro pins s σ H xs us Q I r ⟨x, hx, F, d, r', sm, px, he, k⟩
  obtain ⟨ns, e1, he⟩ := map_some (show ((items d).bind fun ds => ds.mapM asI).map _ = some r' from he)
  subst he
  obtain ⟨ds, e2, e3⟩ := bindO e1
  obtain ⟨p, ys, rfl, hq, rs⟩ := px.items sm e2
  rw [mapM_asI e3] at rs
  have ey := reps_int rs
  subst hx
  obtain ⟨u, rfl, rx⟩ := r.one
  cases rx
  refine call_minD (walked I hc hq fun it us s₂ Sx rv W h0 hl kp => ?_)
  subst ey
  have hlen : us.toArray.size = ns.length := by rw [List.size_toArray, ← rv.length, List.length_map]
  refine ⟨it, _, _, _, _, Sx, _, rfl, W, h0, hl, CmpOf.ints_lt (fun i => ns.getD i 0) (fun i v e => vals_at rv e), fun hm v h' tk pv kk => ?_, fun hm h' tk kk => ?_⟩
  · rw [hlen] at pv hm
    obtain ⟨t, rfl⟩ := vals_at rv pv
    obtain ⟨i, hi⟩ : ∃ i, ns.min? = some i := by
      cases e : ns.min? with
      | none => rw [List.min?_eq_none_iff] at e; rw [e] at hm; cases hm
      | some i => exact ⟨i, rfl⟩
    rw [hi] at k
    rw [best_min hi]
    exact ⟨.int _, H, kp h' tk kk, ⟨t, rfl⟩, RepN.val0 sm (repInt _) k⟩
  · rw [hlen] at hm
    have e : ns = [] := List.eq_nil_of_length_eq_zero hm
    subst e
    exact ⟨.non, H, kp h' tk kk, rfl, RepN.val0 sm repNon k⟩
theorem sx_minN {x : Str} {p' kp cp : Pos} {ck} (hx : x = "min") (hc : X.calm = true) (hg : Gl X x) (hm : X.mg x = none) (ha : SX X c a pa) (hs : starEach [a] X.env = (false, eval a X.env) :: starEach [] X.env := by rfl) (he : backTo pos (starEach [a] X.env) = (false, eval a X.env) :: backTo pos (starEach [] X.env) := by rfl) (hpl : (backTo pos (starEach [a] X.env)).any (·.1) = false := by rfl)
    (hall : (backToKw pos (keywordEach [⟨some "default", .Constant .none ck cp, kp⟩] X.env)).all (·.1.isSome) = true := by rfl) (hkw : (backToKw pos (keywordEach [⟨some "default", .Constant .none ck cp, kp⟩] X.env)).any (·.1.isNone) = false := by rfl) : SX X c (.Call (.Name x p') [a] [⟨some "default", .Constant .none ck cp, kp⟩] pos) (.blt .minN [pa]) := by
  subst hx; exact sx_b1 (fun h => pe_callD (c_minN hc) hg hm boot_min h (he := he) (hpl := hpl) (hall := hall) (hkw := hkw)) ha (fun ρ => by rw [HH.ev]) rfl hs
end
end HH
end
section
set_option linter.all false
set_option Elab.async false
set_option maxRecDepth 100000
namespace HT
open PySem PySem.Spec PyProof.Rows
section
variable {prog : Program} {w : World} {A : Around} {E : Value → Shared → Prop} {s : Shared}
theorem whole_tuple {t sl : Addr} {its : Array Value} {vl vu : Value} {lo hi : Option Int} {Q : Value → Shared → Prop} (ht : IsTup s.heap t its) (hs : s.heap.IsSliceOf sl vl vu .none) (pl : IsPart vl lo) (pu : IsPart vu hi)
    (h1 : sIx its.size 0 lo = 0) (h2 : sIx its.size its.size hi = its.size) (h : Q (.ref t) s) : wpAny (model prog w) A (getItem (.ref t) (.ref sl)) Q E s := by
  obtain ⟨os, hos, hcs, hds⟩ := id hs
  have hT : s.TypeIs (.ref sl) "slice" := ⟨os, hos, hcs⟩
  unfold getItem
  try with_reducible refine wpAny_holding ?_
  first | refine wpAny_bind (wpAny_pure ?_) | skip
  refine wpAny_bind (wpAny_sequenceKey ht.typeIs (by decide) (wpAny_bind (wpAny_callSpecial?_slot (name := Str.ofString "__getitem__") ht.typeIs slot_tuple_getitem (wpAny_call_entry slot_tuple_getitem ht.typeIs entry_tuple_getitem ?_ (args_tuple_getitem _ _)))))
  show wpAny _ _ (Builtin.Tuple.tupleItemsOf (.ref t) >>= _) _ _ s
  refine wpAny_bind (tupleItemsOf_ ht (wpAny_bind (wpAny_typeOf hT ?_)))
  rw [if_pos (by decide)]
  refine wpAny_bind (sliceApplied_gen hs pl pu ?_)
  have hyes : ((((sIx its.size 0 lo : Nat) : Int) == 0 && (1 : Int) == 1 && (sIx its.size its.size hi - sIx its.size 0 lo) == its.size) = true) := by rw [h1, h2]; simp
  show wpAny _ _ (if (((sIx its.size 0 lo : Nat) : Int) == 0 && (1 : Int) == 1 && (sIx its.size its.size hi - sIx its.size 0 lo) == its.size) = true then _ else _) _ _ s
  rw [if_pos hyes]
  unfold Builtin.Tuple.tupleIsExact
  refine wpAny_bind (wpAny_bind (wpAny_typeOf ht.typeIs (wpAny_pure ?_)))
  rw [if_pos (by decide)]
  exact wpAny_bind (wpAny_rule (wpAny_pure ⟨_, rfl, wpAny_pure h⟩))
end
end HT
namespace HH
open PySem L2 PySem.Spec PyProof.Rows
noncomputable def nst : Expr → Bool
  | .Starred _ _ => false
  | _ => true
theorem starEach_nst {e : Expr} {es : List Expr} {env : Env} (h : nst e = true) : starEach (e :: es) env = (false, eval e env) :: starEach es env := by
  cases e with
  | Starred a b => cases h
  | _ => rw [starEach]; (intro e p z; cases z)
noncomputable def dropInts : List Int → List Expr → Option (List Expr)
  | [], es => some es
  | i :: is, .Constant (.int j) _ _ :: es => if i = j then dropInts is es else none
  | _, _ => none
theorem sa_preI {X : L2.Cx} {c : Call} : ∀ (is : List Int) {es es' : List Expr} {ps' : List P}, dropInts is es = some es' → SA X c es' ps' → SA X c es (is.map (fun i => P.con (.int i)) ++ ps')
  | [], es, es', ps', h, r => by cases h; exact r
  | i :: is, [], es', ps', h, r => by cases h
  | i :: is, e :: es, es', ps', h, r => by
    cases e with
    | Constant v k p =>
      cases v with
      | int j =>
        rw [dropInts] at h
        split at h
        · rename_i hij
          subst hij
          exact sa_cons sx_int (sa_preI is h r) (starEach_nst rfl)
        · cases h
      | _ => cases h
    | _ => cases h
theorem sIx_eq {n d : Nat} {o : Option Int} : HT.sIx n d o = HH.sIx n d o := by
  cases o with
  | none => rfl
  | some v =>
    show (if v < 0 then (v + (n : Int)).toNat else min v.toNat n) = (if 0 ≤ v then min v.toNat n else (v + n).toNat)
    by_cases h : 0 ≤ v
    · rw [if_pos h, if_neg (by omega)]
    · rw [if_neg h, if_pos (by omega)]
theorem cut_eq {xs : List V} {lo hi : Option Int} : cutV xs lo hi = HH.cut xs lo hi := by
  unfold cutV HH.cut; rw [sIx_eq, sIx_eq]
theorem Reps.cut {K : PySem.W.Frag} {F : Hp} {ds : List D} {vs : List V} {lo hi : Option Int} (h : Reps K F vs ds) : Reps K F (HH.cut vs lo hi) (HH.cut ds lo hi) := by
  unfold HH.cut; rw [h.length]; exact (h.drop _).take _
section
variable {X : Cx} {c : Call} {n : Nat} {e a b : Expr} {p pa pb pl ph : P} {pos p2 : Pos} {lo hi : Option Expr}
noncomputable def rSlD (K : PySem.W.Frag) : V → Option Int → Option Int → Hp → VK → Prop := fun x lo hi H Q => ∃ F d r, Same F H ∧ PRep K F H x d ∧ sl3 d (some lo) (some hi) = some r ∧ ∀ v F' H', Ext F H F' H' → RepN K F' H' H v r → Q v H'
theorem sl_D : SlR X (rSlD X.K) := by
  rintro pins s σ H x v vl vu lo hi sl Q I rx hs pl pu ⟨F, d, r, sm, px, he, k⟩
  cases d with
  | lst ds =>
    cases he
    obtain ⟨a, xs, rfl, hq, rs⟩ := px.lst sm
    refine sl_list pins s σ H _ v vl vu lo hi sl Q I rx hs pl pu ⟨a, xs, rfl, hq, fun p hp => ?_⟩
    rw [cut_eq]
    exact newL sm rs.cut hp k
  | tup ds =>
    cases he
    obtain ⟨a, xs, rfl, hq, rs, rt⟩ := px.tup sm
    by_cases hw : HT.sIx xs.length 0 lo = 0 ∧ HT.sIx xs.length xs.length hi = xs.length
    · cases rx
      obtain ⟨its, rv, ht, hz⟩ := I.tuple hq
      have hlen : its.toArray.size = xs.length := by rw [List.size_toArray]; exact rv.length.symm
      refine ⟨"tuple", _, slot_tuple_getitem.lookup, ht.typeIs, HT.whole_tuple ht hs pl pu (by rw [hlen]; exact hw.1) (by rw [hlen]; exact hw.2) ⟨.ref a, H, I, rfl, ?_⟩⟩
      have hc : HH.cut ds lo hi = ds := by
        unfold HH.cut
        rw [← rs.length, ← sIx_eq, ← sIx_eq, hw.1, hw.2]; simp [rs.length]
      rw [hc] at k
      exact RepN.val0 sm rt k
    · refine sl_tup pins s σ H _ v vl vu lo hi sl Q I rx hs pl pu ⟨a, xs, rfl, hq, hw, fun p hp => ?_⟩
      rw [cut_eq]
      exact newT sm rs.cut hp k
  | _ => cases he
noncomputable def SO (X : Cx) (c : Call) (o : Option Expr) (p : P) : Prop := ∃ t, PO X o t ∧ ∀ {σ : L2.St} {H F : Hp} {ρ ρ' : List Sl} {d : D} {i : Option Int} {Q : Option Int → Hp → Prop}, GS X.K F ρ σ H → opd (isVar p) (HH.ev c p) ρ = .ok d ρ' → part p d = some i → (∀ F' H', Stp X.K F ρ σ H F' ρ' σ H' → Q i H') → t σ H Q
theorem so_none : SO X c none (.con .non) := by
  refine ⟨_, po_none, fun {σ H F ρ ρ' d i Q} g e h k => ?_⟩
  cases (show some none = some i from h)
  have e' : (HH.ev c (.con .non) ρ).bind (fun r ρ => .ok r.d ρ) = .ok d ρ' := e
  clear e
  rw [HH.ev] at e'
  cases e'
  exact k F H (.refl g)
theorem so_some (h : SX X c e p) (hn : isNC p = false := by rfl) : SO X c (some e) p := by
  obtain ⟨t, h1, h2⟩ := h.opd
  refine ⟨_, po_some h1, fun {σ H F ρ ρ' d i Q} g e hp k => ?_⟩
  unfold part at hp
  rw [hn, if_neg (by decide)] at hp
  obtain ⟨j, e1, e2⟩ := map_some hp
  cases asI_some e1
  subst e2
  exact h2 g e fun v F' H' s pv => ⟨j, pv.int, k F' H' s⟩
theorem sl3_some {d : D} {x y : Option (Option Int)} {r : R} (h : sl3 d x y = some r) : ∃ lo hi, x = some lo ∧ y = some hi := by
  cases x with
  | none => cases d <;> cases h
  | some lo => cases y with
    | none => cases d <;> cases h
    | some hi => exact ⟨lo, hi, rfl, rfl⟩
theorem sx_slice (ha : SX X c a pa) (hl : SO X c lo pl) (hh : SO X c hi ph) : SX X c (.Subscript a (.Slice lo hi none p2) pos) (.slice pa pl ph) := by
  obtain ⟨tl, l1, l2⟩ := hl
  obtain ⟨th, h1, h2⟩ := hh
  cases hv : isVar pa with
  | none =>
    refine ⟨peImp (pe_slice sl_D ha.ev l1 h1) ?_, fun i h => by cases h⟩
    rintro σ H Q ⟨F, ρ, r, ρ', g, e, k⟩
    rw [HH.ev, hv] at e
    obtain ⟨x, ρ1, e1', ea⟩ := bind_ok e; clear e
    have e1'' : (HH.ev c pa ρ).bind (fun r ρ => .ok r.d ρ) = .ok x ρ1 := e1'
    clear e1'
    obtain ⟨rx, ρ1', e1, e0⟩ := bind_ok e1''; clear e1''
    cases e0
    obtain ⟨y, ρ2, e2, eb⟩ := bind_ok ea; clear ea
    obtain ⟨z, ρ3, e3, ec⟩ := bind_ok eb; clear eb
    obtain ⟨e, e4⟩ := lift_ok ec; clear ec
    subst e4
    obtain ⟨lo', hi', q1, q2⟩ := sl3_some e
    rw [q1, q2] at e
    refine ⟨F, ρ, rx, _, g, e1, fun v F1 H1 s1 rr => ?_⟩
    obtain ⟨F2, s2, _, rp⟩ := s1.frz rr
    refine l2 s2.gs e2 q1 fun F3 H3 s3 => h2 s3.gs e3 q2 fun F4 H4 s4 => ?_
    have s5 := s2.trans (s3.trans s4)
    refine ⟨F4, _, r, s4.gs.sub, .inl ((rp.mono s3.fsub).mono s4.fsub), e, fun v F5 H5 x rn => ?_⟩
    exact k v F5 H5 (s5.trans (x.stp s5.gs)) (.later s5 (rn.repR s5.gs))
  | some i =>
    refine ⟨peImp (pe_slice sl_D (ha.var i hv) l1 h1) ?_, fun i h => by cases h⟩
    rintro σ H Q ⟨F, ρ, r, ρ', g, e, k⟩
    rw [HH.ev, hv] at e
    obtain ⟨x0, ρ0, e0', ea⟩ := bind_ok e; clear e
    obtain ⟨e0, e01⟩ := lift_ok e0'; clear e0'
    subst e01
    obtain ⟨y, ρ2, e2, eb⟩ := bind_ok ea; clear ea
    obtain ⟨z, ρ3, e3, ec⟩ := bind_ok eb; clear eb
    obtain ⟨x, ρ4, e5', ed⟩ := bind_ok ec; clear ec
    obtain ⟨e5, e6⟩ := lift_ok e5'; clear e5'
    subst e6
    obtain ⟨e, e4⟩ := lift_ok ed; clear ed
    subst e4
    obtain ⟨lo', hi', q1, q2⟩ := sl3_some e
    rw [q1, q2] at e
    obtain ⟨v, hv1, _⟩ := g.pk e0
    refine ⟨v, hv1, l2 g e2 q1 fun F3 H3 s3 => h2 s3.gs e3 q2 fun F4 H4 s4 => ?_⟩
    have s5 := s3.trans s4
    obtain ⟨v', hv2, pv⟩ := s5.gs.pk e5
    rw [hv1] at hv2; cases hv2
    refine ⟨F4, _, r, s4.gs.sub, pv, e, fun v F5 H5 x rn => ?_⟩
    exact k v F5 H5 (s5.trans (x.stp s5.gs)) (.later s5 (rn.repR s5.gs))
theorem c_int : CallR X (.type "int") (rB1 X.K fun x => blt .int [x]) := by
  rintro pins s σ H xs us Q I r ⟨x, hx, F, d, r', sm, px, he, k⟩
  cases d with
  | int i =>
    cases (show some _ = some r' from he)
    exact call_int1 pins s σ H xs us Q I r (.inl ⟨i, by rw [hx, px.int], RepN.val0 sm (repInt _) k⟩)
  | bl b =>
    cases (show some _ = some r' from he)
    exact call_int1 pins s σ H xs us Q I r (.inr ⟨b, by rw [hx, px.bl], RepN.val0 sm (repInt _) k⟩)
  | _ => cases he
theorem sx_int1 {x : Str} {p' : Pos} (hx : x = "int") (hg : Gl X x) (hm : X.mg x = none) (ha : SX X c a pa) (hs : starEach [a] X.env = (false, eval a X.env) :: starEach [] X.env := by rfl) : SX X c (.Call (.Name x p') [a] [] pos) (.blt .int [pa]) := by
  subst hx; exact sx_b1 (fun h => pe_callTy c_int hg hm (by decide +kernel) h (he := hs)) ha (fun ρ => by rw [HH.ev]) rfl hs
end
end HH
end
section
set_option linter.all false
set_option Elab.async false
set_option maxRecDepth 100000
namespace PySem
namespace F
end F
section
variable {prog : Program} {w : World} {A : Around} {E : Value → Shared → Prop} {s : Shared}
end
section
variable {prog : Program} {w : World} {A : Around} {E : Value → Shared → Prop} {s : Shared}
end
section
variable {prog : Program} {w : World} {A : Around} {E : Value → Shared → Prop} {s : Shared}
end
section
variable {prog : Program} {w : World} {A : Around} {E : Value → Shared → Prop} {s : Shared}
end
end PySem
end
section
set_option linter.all false
set_option Elab.async false
set_option maxRecDepth 100000
namespace L2
open PySem PySem.Spec PyProof.Rows
section
variable {X : Cx} {tg : Expr}
theorem boot_reversed' : bootBuiltins "reversed" = some (.type "reversed") := by decide +kernel
end
end L2
namespace HH
open PySem L2 PySem.Spec PyProof.Rows
section
variable {K : PySem.W.Frag} {F F1 H H1 : Hp} {ρ ρ1 : List Sl} {σ : L2.St} {ds : List D} {a : Addr}
theorem Reps.rev : ∀ {ds : List D} {xs : List V}, Reps K F xs ds → Reps K F xs.reverse ds.reverse
  | [], _, h => by rw [h.unnil]; exact .nil
  | d :: ds, _, h => by
    obtain ⟨v, r, rfl, h1, h2⟩ := h.uncons
    rw [List.reverse_cons, List.reverse_cons]
    exact (Reps.rev h2).append (.cons h1 .nil)
end
section
variable {X : Cx} {c : Call} {e a tg : Expr} {pa : P} {pos : Pos}
end
section
variable {X : Cx} {c : Call} {a b d : Expr} {pa pb pd : P} {pos : Pos}
theorem st_chain {o o' : Cm} {op op' : CmpOp} (ho : OpR X (compareOp op) (rD X.K (cmR o))) (ho' : OpR X (compareOp op') (rD X.K (cmR o'))) (ha : SX X c a pa) (hb : SX X c b pb) (hd : SX X c d pd)
    (hm : lastMarks [op, op'] [b, d] = false := by with_unfolding_all rfl) : ST X c (.Compare a [op, op'] [b, d] pos) (.chain o o' pa pb pd) := by
  obtain ⟨ta, tb, h1, h2, h3⟩ := ha.opd2 hb
  obtain ⟨td, h4, h5⟩ := hd.opd
  refine ptImp (pt_chain ho ho' h1 h2 h4 hm) fun σ H Q q => tTr_of (t := tChain (rD X.K (cmR o)) (rD X.K (cmR o')) ta tb td) (fun Q z => ?_) q
  obtain ⟨F, ρ, r, ρ', g, e, k⟩ := z
  rw [HH.ev] at e
  obtain ⟨xy, ρ1, e1, e⟩ := bind_ok e
  obtain ⟨t, ρ2, e2, e⟩ := bind_ok e
  have zz := lift_ok e2; clear e2; obtain ⟨e2, e3⟩ := zz
  subst e3
  have hfl : flat xy.2 = true ∧ cm o xy.1 xy.2 = some t := by
    split at e2
    · rename_i hf; exact ⟨hf, e2⟩
    · cases e2
  obtain ⟨hfl, e2⟩ := hfl
  refine h3 g e1 fun v u F' H' s pv pu => ⟨F', xy.1, xy.2, .val (.bl t), s.gs.sub, pv, pu, by unfold cmR; rw [e2]; rfl, fun w F2 H2 x rn => ?_⟩
  have s2 := s.trans (x.stp s.gs)
  have rn : Rep X.K F2 w (.bl t) := rn
  rw [Rep] at rn
  subst rn
  refine ⟨t, rfl, ?_⟩
  cases t with
  | false =>
    rw [if_neg Bool.false_ne_true] at e ⊢
    cases e
    exact k _ F2 H2 s2 (show Rep X.K F2 _ _ from repBl _)
  | true =>
    rw [if_pos rfl] at e ⊢
    obtain ⟨z, ρ3, e3, e⟩ := bind_ok e
    obtain ⟨e4, e5⟩ := lift_ok e
    subst e5
    refine h5 s2.gs e3 fun w F3 H3 s3 pw => ⟨F3, xy.2, z, r, s3.gs.sub, ?_, pw, e4, fun w' F4 H4 x4 rn => ?_⟩
    · have x1 := x.fs
      have x2 := s3.fsub
      rcases pu with pu | ⟨_, _, _, _, _, _, h⟩
      · exact .inl ((pu.mono x1).mono x2)
      · rw [h] at hfl; cases hfl
    · have s4 := s2.trans s3
      exact k w' F4 H4 (s4.trans (x4.stp s4.gs)) (.later s4 (rn.repR s4.gs))
end
end HH
end
section
set_option linter.all false
set_option Elab.async false
set_option maxRecDepth 100000
namespace L2
open PySem PySem.Spec PyProof.Rows
section
variable {M : Model} {A : Around} {E : Value → Shared → Prop} {s : Shared}
end
end L2
end
section
set_option linter.all false
set_option Elab.async false
set_option maxRecDepth 100000
namespace L2
open PySem PySem.Spec PyProof.Rows
section
variable {X : Cx} {pins : List (Addr × Obj)} {σ : St} {H : Hp} {s : Shared}
end
end L2
end
section
set_option linter.all false
set_option Elab.async false
set_option maxRecDepth 100000
namespace L2
open PySem PySem.Spec PyProof.Rows
section
variable {M : Model} {A : Around} {E : Value → Shared → Prop}
end
section
variable {prog : Program} {w : World} {A : Around} {E : Value → Shared → Prop} {s : Shared} {env : Env}
end
end L2
end
section
set_option linter.all false
set_option Elab.async false
set_option maxRecDepth 100000
namespace L2
open PySem PySem.Spec PyProof.Rows
section
variable {X : Cx} {pins pins' : List (Addr × Obj)} {σ : St} {H : Hp} {s : Shared} {xe' : Value → Shared → Prop} {e : Addr}
end
end L2
end
section
set_option linter.all false
set_option Elab.async false
set_option maxRecDepth 100000
namespace HH
open PySem L2 PySem.Spec PyProof.Rows
section
variable {X : Cx} {c : Call} {n : Nat} {W : Nat → Hp → Prop} {e a b tg iter : Expr} {p : P} {pos : Pos} {body : List Stmt} {ss : List S}
end
section
variable {Pg : Program} {w : World} {K : PySem.W.Frag} {mg : Str → Option Value} {base : Heap}
end
section
variable {X : Cx} {c : Call} {n : Nat} {body : List Stmt} {ss : List S} {pos : Pos}
end
section
variable {X : Cx} {c : Call} {n : Nat}
theorem ss_rais {k : Nat} {st : Stmt} : SS X c n st (.rais k) := psImp ps_never fun D σ H ⟨F, ρ, fl, ρ', g, e, q⟩ => by rw [ex] at e; cases e
end
section
variable {Pg : Program} {w : World} {K : PySem.W.Frag} {mg : Str → Option Value} {base h : Heap}
end
end HH
namespace HH
open PySem L2 PySem.Spec PyProof.Rows
section
variable {X : Cx} {c : Call} {n : Nat} {W : Nat → Hp → Prop} {iter : Expr} {p : P} {pos : Pos} {body : List Stmt} {ss : List S}
end
end HH
namespace HH
open PySem L2 PySem.Spec PyProof.Rows
end HH
end
section
set_option linter.all false
set_option Elab.async false
set_option maxRecDepth 100000
namespace L2
open PySem PySem.Spec PyProof.Rows
section
variable {prog : Program} {w : World} {A : Around} {E : Value → Shared → Prop} {s : Shared} {env : Env}
end
section
variable {X : Cx} {pins : List (Addr × Obj)} {σ : St} {H : Hp} {s : Shared} {e : Addr} {oe : Obj}
end
section
variable {X : Cx} {e C : Addr} {oe : Obj}
end
end L2
end
section
set_option linter.all false
set_option Elab.async false
set_option maxRecDepth 100000
namespace HH
open PySem L2 PySem.Spec PyProof.Rows
section
variable {K : PySem.W.Frag} {F H F1 H1 : Hp} {ρ ρ1 : List Sl} {σ σ1 : L2.St}
end
section
variable {X : Cx} {i : Nat} {e C : Addr} {oe : Obj} {pos : Pos}
variable {x : Expr} {b : Bool}
end
section
variable {X : Cx} {c : Call} {n i : Nat} {e C : Addr} {oe : Obj} {pos : Pos}
variable {cl : Nat → Addr} {kk : Nat} {st : List Stmt}
variable {body : List Stmt} {ss : List S}
end
section
variable {X : Cx} {c : Call} {n : Nat} {W : Nat → Hp → Prop} {e : Expr} {pos : Pos}
end
end HH
end
section
set_option linter.all false
set_option Elab.async false
set_option maxRecDepth 100000
namespace L2
open PySem PySem.Spec PyProof.Rows
theorem boot_list'' : bootBuiltins "list" = some (.type "list") := by decide +kernel
noncomputable def rgV (i : Int) (n : Nat) : List V := (List.range n).map fun (k : Nat) => V.int (i + (k : Int))
theorem items_vals {i : Int} {n : Nat} {acc : Array Value} (h : ItemsOf (fun k v => ∃ t, v = Value.int (i + (k : Int) * 1) t) acc n) : Vals (rgV i n) acc.toList := by
  obtain ⟨h1, h2⟩ := h
  have key : ∀ (m : Nat) (l : List Value), l.length = m → ∀ (f : Nat → Int), (∀ (j : Nat) (v : Value), l[j]? = some v → ∃ t, v = Value.int (f j) t) → Vals ((List.range m).map fun k => V.int (f k)) l := by
    intro m
    induction m with
    | zero => intro l hl f _; cases l with
      | nil => exact .nil
      | cons _ _ => cases hl
    | succ m ih => intro l hl f hf; cases l with
      | nil => cases hl
      | cons v l =>
        rw [List.range_succ_eq_map, List.map_cons, List.map_map]
        obtain ⟨t, rfl⟩ := hf 0 v rfl
        exact .cons ⟨t, rfl⟩ (ih l (by simpa using hl) (fun k => f (k + 1)) fun j v q => hf (j + 1) v (by simpa using q))
  refine key n acc.toList (by simpa using h1) (fun k => i + (k : Int)) fun j v q => ?_
  obtain ⟨t, e⟩ := h2 j v (by simpa using q)
  exact ⟨t, by rw [e, Int.mul_one]⟩
section
variable {X : Cx} {pins : List (Addr × Obj)} {σ : St} {H : Hp} {s : Shared} {E : Value → Shared → Prop}
theorem list_rng {lo hi : Int} {t u v : Tok} {tk : Nat} {Q : VK} (hc : X.calm = true) (I : Inv X pins σ H s) (h1 : -(2 ^ 62) ≤ lo) (h2 : lo < 2 ^ 62) (h3 : -(2 ^ 62) ≤ hi) (h4 : hi < 2 ^ 62) (hn : (hi - lo).toNat ≤ sizeLine)
    (q : ∀ l, H l = none → Q (.ref l) (upd H l (.lst (rgV lo (hi - lo).toNat)))) :
    wpAny (model X.prog X.w) X.A (call (.type "list") [.ref s.heap.objs.size]) (EP X pins σ Q) E { s with heap := s.heap.push { cls := .type "range", data := .fields #[.int lo t, .int hi u, .int 1 v] }, toks := tk } := by
  have I1 : Inv X pins σ H { s with heap := s.heap.push { cls := .type "range", data := .fields #[.int lo t, .int hi u, .int 1 v] }, toks := tk } := I.kept fun b o e => Heap.get?_push_of_some _ e
  refine call_list_range (I.ok.hd hc) (IsRange.new ..) (small_one h1 h2 h3 h4) (n := (hi - lo).toNat) (by rw [rangeSize_one]; split <;> omega) (Nat.le_trans hn (by decide)) fun h' tk' acc' c' hk hS' hacc => ?_
  generalize hP : (s.heap.push { cls := .type "range", data := .fields #[.int lo t, .int hi u, .int 1 v] } : Heap) = hp at *
  have hf : H hp.objs.size = none := I1.hok.fresh (Nat.le_refl _)
  refine ⟨.ref hp.objs.size, _, I1.laid (t' := tk') (o := .lst (rgV lo (hi - lo).toNat)) (h' := h') hk (Nat.le_refl _) ?_, rfl, q _ hf⟩
  exact ⟨by simpa [rgV] using hn, acc'.toList, c', items_vals hacc, by simpa using hS'⟩
theorem pe_listR1 {a : Expr} {ta : TA} {p pos p2 pos2 : Pos} (hc : X.calm = true) (hgL : Gl X "list") (hmL : X.mg "list" = none) (hg : Gl X "range") (hm : X.mg "range" = none) (ha : PA X [a] ta) (hs : starEach [a] X.env = [(false, eval a X.env)] := by rfl)
    (hs2 : starEach [.Call (.Name "range" p) [a] [] pos] X.env = [(false, eval (.Call (.Name "range" p) [a] [] pos) X.env)] := by rfl) :
    PE X (.Call (.Name "list" p2) [.Call (.Name "range" p) [a] [] pos] [] pos2) (fun σ H Q => ta σ H fun vs H1 => ∃ j : Int, vs = [.int j] ∧ (-(2 ^ 62) ≤ j ∧ j < 2 ^ 62 ∧ (j - 0).toNat ≤ sizeLine) ∧ ∀ l, H1 l = none → Q (.ref l) (upd H1 l (.lst (rgV 0 (j - 0).toNat)))) := by
  intro pins s σ H Q I h
  refine Call_ (ld_blt I hgL hmL boot_list'' (PyProof.Rows.callWith_type1 ?_ hs2 rfl))
  rw [hs2]
  show wpAny _ _ (spliced ((false, eval (.Call (.Name "range" p) [a] [] pos) X.env) :: [])) _ _ _
  refine Calls.spliced_cons (Call_ (ld_blt I hg hm boot_range (PyProof.Rows.callWith_type1 (thn (ha pos pins s σ H _ I h) ?_) hs rfl)))
  rintro us s1 ⟨vs, H1, I1, r1, q1⟩
  obtain ⟨j, e, ⟨b1, b2, b3⟩, q⟩ := q1
  subst e
  cases r1 with
  | cons r rr =>
    cases rr
    obtain ⟨t, rfl⟩ := r
    exact call_range_1 (Calls.spliced_nil (list_rng hc I1 (by omega) (by omega) b1 b2 b3 q))
end
end L2
namespace HH
open PySem L2 PySem.Spec PyProof.Rows
theorem repsRg {K : PySem.W.Frag} {F : Hp} (i : Int) (n : Nat) : Reps K F (rgV i n) ((List.range n).map fun (k : Nat) => D.int (i + (k : Int))) := by
  unfold rgV
  generalize List.range n = l
  induction l with
  | nil => exact .nil
  | cons k l ih => exact .cons (show Rep K F (.int _) (.int _) from repInt _) ih
section
variable {X : Cx} {c : Call} {a b : Expr} {pa pb : P} {pos : Pos}
theorem sx_listR1 {x y : Str} {p' q' pos' : Pos} (hy : y = "list") (hx : x = "range") (hc : X.calm = true) (hgL : Gl X y) (hmL : X.mg y = none) (hg : Gl X x) (hm : X.mg x = none) (ha : SX X c a pa) (hs : starEach [a] X.env = [(false, eval a X.env)] := by rfl)
    (hs2 : starEach [.Call (.Name x p') [a] [] pos] X.env = [(false, eval (.Call (.Name x p') [a] [] pos) X.env)] := by rfl) : SX X c (.Call (.Name y q') [.Call (.Name x p') [a] [] pos] [] pos') (.blt .listR [.rng (.con (.int 0)) pa]) := by
  subst hx hy
  obtain ⟨ta, h1, h2⟩ := ha.opd
  refine ⟨peImp (pe_listR1 hc hgL hmL hg hm (pa_cons h1 pa_nil hs) hs hs2) ?_, fun i h => by cases h⟩
  rintro σ H Q ⟨F, ρ, r, ρ', g, e, k⟩
  rw [HH.ev] at e
  obtain ⟨x, ρ2, e1, e2⟩ := bind_ok e
  have zz := lift_ok e2; clear e2; obtain ⟨e2, e3⟩ := zz
  subst e3
  obtain ⟨r1, ρ3, e3, e4⟩ := bind_ok e1
  cases e4
  rw [HH.ev] at e3
  obtain ⟨xy, ρ4, e4, e5⟩ := bind_ok e3
  have zz := lift_ok e5; clear e5; obtain ⟨e5, e6⟩ := zz
  subst e6
  obtain ⟨y0, ρ5, e9, e10⟩ := bind_ok e4
  cases e10
  obtain ⟨i, f1, e5⟩ := bindO e5
  obtain ⟨j, f2, e5⟩ := bindO e5
  obtain ⟨⟨b1, b2, b3, b4⟩, e5⟩ := ite_some e5
  have f1 : i = 0 := by cases f1; rfl
  subst f1
  subst e5
  obtain ⟨b5, e2⟩ := ite_some (show (if ((List.range (j - 0).toNat).map fun (k : Nat) => D.int (0 + (k : Int))).length ≤ 16777216 then some (R.own ((List.range (j - 0).toNat).map fun (k : Nat) => D.int (0 + (k : Int)))) else none) = some r from e2)
  subst e2
  cases asI_some f2
  refine h2 g e9 fun v F' H' s pv => ⟨j, by rw [pv.int], ⟨by omega, by omega, ?_⟩, fun l hl => newL s.gs.sub (repsRg 0 (j - 0).toNat) hl fun v F2 H2 xt rn => k v F2 H2 (s.trans (xt.stp s.gs)) (.later s (rn.repR s.gs))⟩
  rw [List.length_map, List.length_range] at b5
  exact b5
end
end HH
namespace HH
open PySem L2 PySem.Spec PyProof.Rows
end HH
namespace HH
open PySem L2 PySem.Spec PyProof.Rows
end HH
end
section
set_option linter.all false
set_option Elab.async false
set_option maxRecDepth 100000
namespace HH
open PySem L2 PySem.Spec PyProof.Rows
section
variable {K : PySem.W.Frag} {x y : Str} {C C2 : Addr} {b : Bool} {T : String}
end
end HH
end
section
set_option linter.all false
set_option Elab.async false
set_option maxRecDepth 100000
namespace HT
open PySem PySem.Spec PyProof.Rows
section
variable {prog : Program} {w : World} {A : Around} {E : Value → Shared → Prop} {s : Shared}
end
end HT
namespace HH
open PySem L2 PySem.Spec PyProof.Rows
section
variable {X : Cx} {c : Call} {e a : Expr} {te : TE} {pa : P} {pos p1 p2 p3 : Pos}
end
end HH
end
section
set_option linter.all false
set_option Elab.async false
set_option maxRecDepth 100000
namespace PySem
namespace F
theorem rl_nolen : typeLookup (.type "list_reverseiterator") "__len__" = pure none := by rw [typeLookup_type, builtinLookup_eq_fast]; kernel_rfl
theorem rl_hint : typeLookup (.type "list_reverseiterator") "__length_hint__" = pure (some (.builtin "list_reverseiterator.__length_hint__")) := by rw [typeLookup_type, builtinLookup_eq_fast]; kernel_rfl
end F
section
variable {prog : Program} {w : World} {A : Around} {E : Value → Shared → Prop} {s : Shared}
theorem wpAny_hint_revL {it l : Addr} {items : Array Value} {Q : Bool → Shared → Prop} (hit : s.heap.IsRevIter it l ((items.size : Int) - 1)) (hl : s.heap.IsList l items) (hlen : items.size ≤ 2 ^ 24)
    (h : ∀ b tk, s.toks ≤ tk → Q b { s with toks := tk }) : wpAny (model prog w) A (Builtin.List.listLengthHint (.ref it)) Q E s := by
  have hT := hit.typeIs
  unfold Builtin.List.listLengthHint
  refine wpAny_bind (wpAny_specialOf hT F.rl_nolen ?_)
  show wpAny _ _ (specialOf (Value.ref it) (Str.ofString "__length_hint__") >>= _) _ _ _
  refine wpAny_bind (wpAny_specialOf hT F.rl_hint ?_)
  generalize hid : ("list_reverseiterator.__length_hint__" : String) = id0; (fail_if_success (clear hid id0)); wp_delta; rw [show splitId id0 = some ("list_reverseiterator", "__length_hint__") from by subst hid; decide +kernel]; subst hid
  refine wpAny_bind (wpAny_isInstance (b := true) hT (by rw [isSubtype_type]; kernel_rfl) ?_)
  rw [if_neg (by decide)]
  dsimp only
  split
  · refine wpAny_ite_split (fun hab => absurd hab (by decide +kernel)) (fun _ => ?_)
    exact wpAny_pure (h _ s.toks (Nat.le_refl _))
  · rename_i hq; exact absurd (by decide +kernel) hq
theorem wpAny_extend_revL {R : Result → Shared → Prop} {I l : Addr} {items : Array Value} (hh : A.handled = none) (hit : s.heap.IsRevIter I l ((items.size : Int) - 1)) (hl : s.heap.IsList l items) (hne : l ≠ I) (hlen : items.size ≤ 2 ^ 24)
    (S : Addr) (hSI : S ≠ I) (hSl : S ≠ l) (res : Value) (c₀ : Nat) (hS : s.heap.get? S = some { cls := .type "list", data := .seq #[] c₀ })
    (hR : ∀ h' tk acc' c', (∀ b o, b ≠ S → b ≠ I → s.heap.get? b = some o → h'.get? b = some o) → h'.get? S = some { cls := .type "list", dict := none, data := .seq acc' c', slots := #[] } →
      ItemsOf (fun i v => items[items.size - 1 - i]? = some v) acc' items.size → R (.ok (.ret res)) { s with heap := h', toks := tk }) :
    wpAny (model prog w) A.in1 (Builtin.List.listExtendWith (.ref S) (.ref I) res)
      (fun fin s' => match fin with | .done f => R (.ok f) s' | .again c' => c'.quiet = true ∧ codeAny (model prog w) A c' R s') (fun e s' => R (.error e) s') s := by
  have hSf : S ∉ [I, l] := fun hm => by
    rcases List.mem_cons.mp hm with e | hm
    · exact hSI e
    · exact hSl (List.mem_singleton.mp hm)
  have W := (Walks.listRev (prog := prog) (w := w) (A := A.in1) hh I l hne items).toS
  have hT : s.TypeIs (.ref I) "list_reverseiterator" := hit.typeIs
  have key : ∀ (h : Heap) (c₁ tk : Nat), h.IsRevIter I l ((items.size : Int) - 1 - ((0 : Nat) : Int)) → h.IsList l items → (∀ b o, b ≠ S → s.heap.get? b = some o → h.get? b = some o) →
      h.get? S = some { cls := .type "list", data := .seq #[] c₁ } → codeAny (model prog w) A (.builtin "list.extend.loop" ⟨[.ref S, .ref I, res], []⟩) R { s with heap := h, toks := tk } := by
    intro h c₁ tk hi hl' hk hS₁
    refine codeAny_extend_loopS W (by rw [sizeLine_eq]; omega) S hSf res items.size 0 _ #[] c₁ rfl (Nat.zero_le _) ⟨Nat.zero_le _, hi, hl'⟩ hS₁ (ItemsOf.nil _) fun s' acc' c' hm hS' hacc => ?_
    rw [Moved.eq_with hm]
    refine hR s'.heap s'.toks acc' c' (fun b o hb hbI e => hm.heap b o (fun hmem => ?_) (hk b o hb e)) hS' hacc
    rcases List.mem_cons.mp hmem with e' | hmem
    · exact hb e'
    · exact hbI (List.mem_singleton.mp hmem)
  unfold Builtin.List.listExtendWith
  refine wpAny_bind (wpAny_typeOf hT ?_)
  have h1 : Builtin.List.listSameRef (.ref S) (.ref I) = false := by simp [Builtin.List.listSameRef, hSI]
  have h2 : (Value.type "list_reverseiterator" == Value.type "list") = false := by decide
  have h3 : (Value.type "list_reverseiterator" == Value.type "tuple") = false := by decide
  simp only [h1, h2, h3, Bool.or_false, Bool.false_eq_true, if_false]
  refine wpAny_bind (wpAny_pyIter_revIter hit ?_)
  refine wpAny_bind (wpAny_holding (wpAny_hint_revL hit hl hlen fun bb tk htk => ?_))
  have hi0 : s.heap.IsRevIter I l ((items.size : Int) - 1 - ((0 : Nat) : Int)) := by simpa using hit
  refine wpAny_ite_split (fun _ => ?_) (fun _ => wpAny_pure ⟨plainId_quiet F.plain_extend_loop _, key _ c₀ _ hi0 hl (fun b o _ e => e) hS⟩)
  refine wpAny_bind (wpAny_rule ?_)
  refine wpAny_bind ?_
  show wpAny _ _ (updateSeq S (·.push .none) >>= fun _ => updateSeq S (·.pop)) _ _ _
  refine wpAny_bind (wpAny_updateSeq hS rfl ?_)
  have hS₂ := Heap.get?_update_self (Obj.mapSeq (·.push Value.none)) hS rfl
  refine wpAny_updateSeq (hz := by seq_fits) hS₂ rfl ?_
  have hS₃ := Heap.get?_update_self (Obj.mapSeq (·.pop)) hS₂ rfl
  have oth : ∀ b o, b ≠ S → s.heap.get? b = some o → ((s.heap.update S (Obj.mapSeq (·.push Value.none))).update S (Obj.mapSeq (·.pop))).get? b = some o := fun b o hb e =>
    (Heap.get?_update_other _ _ (Ne.symm hb)).trans ((Heap.get?_update_other _ _ (Ne.symm hb)).trans e)
  exact wpAny_pure ⟨plainId_quiet F.plain_extend_loop _, key _ _ _ (hi0.at fun o e => oth I o (Ne.symm hSI) e) (hl.at fun o e => oth l o (Ne.symm hSl) e) oth hS₃⟩
theorem call_list_revL {Q : Value → Shared → Prop} {I l : Addr} {items : Array Value} (hh : A.handled = none) (hit : s.heap.IsRevIter I l ((items.size : Int) - 1)) (hl : s.heap.IsList l items) (hne : l ≠ I) (hlen : items.size ≤ 2 ^ 24)
    (hQ : ∀ h' tk acc' c', (∀ b o, b ≠ I → s.heap.get? b = some o → h'.get? b = some o) →
      h'.get? s.heap.objs.size = some { cls := .type "list", dict := none, data := .seq acc' c', slots := #[] } → ItemsOf (fun i v => items[items.size - 1 - i]? = some v) acc' items.size → Q (.ref s.heap.objs.size) { s with heap := h', toks := tk }) :
    wpAny (model prog w) A (call (.type "list") [.ref I]) Q E s := by
  refine callType_codes (Q₁ := fun obj s₁ => obj = .ref s.heap.objs.size ∧ s₁ = { s with heap := s.heap.push { cls := .type "list", data := .seq #[] } }) F.called_list (F.typeCall_list_1 _) F.entry_list_init
    (code_list_new _ ⟨rfl, rfl⟩) fun obj s₁ h₁ => ?_
  obtain ⟨rfl, rfl⟩ := h₁
  have hIlt : I < s.heap.objs.size := let ⟨_, ho, _⟩ := hit; Heap.lt_size ho
  have hllt : l < s.heap.objs.size := let ⟨_, ho, _⟩ := hl; Heap.lt_size ho
  have hSI : s.heap.objs.size ≠ I := Ne.symm (Nat.ne_of_lt hIlt)
  have hSl : s.heap.objs.size ≠ l := Ne.symm (Nat.ne_of_lt hllt)
  generalize hZ : s.heap.objs.size = S at *
  have hS : (s.heap.push { cls := .type "list", data := .seq #[] }).get? S = some { cls := .type "list", data := .seq #[] } := by rw [← hZ]; exact Heap.get?_push_size _ rfl
  refine ⟨⟨_, hS, rfl⟩, F.args_list_init_2 _ _, ?_⟩
  show wpAny _ _ (do let old ← Builtin.List.listItems (.ref S); Builtin.List.listUpdate (.ref S) (fun _ => #[]); letGo old.toList.reverse; Builtin.List.listExtendWith (.ref S) (.ref I) .none) _ _ _
  refine wpAny_bind ?_
  unfold Builtin.List.listItems
  refine wpAny_bind (wpAny_seqItems hS rfl (wpAny_pure ?_))
  show wpAny _ _ (updateSeq S (fun _ => #[]) >>= fun _ => letGo (#[] : Array Value).toList.reverse >>= fun _ => Builtin.List.listExtendWith (.ref S) (.ref I) .none) _ _ _
  refine wpAny_bind (wpAny_updateSeq hS rfl ?_)
  have hS₂ := Heap.get?_update_self (Obj.mapSeq (fun _ => (#[] : Array Value))) hS rfl
  have oth : ∀ b o, b ≠ S → s.heap.get? b = some o → ((s.heap.push { cls := .type "list", data := .seq #[] }).update S (Obj.mapSeq (fun _ => (#[] : Array Value)))).get? b = some o :=
    fun b o hb e => (Heap.get?_update_other _ _ (Ne.symm hb)).trans (Heap.get?_push_of_some _ e)
  refine wpAny_bind (wpAny_letGo ?_)
  refine wpAny_extend_revL (A := A.in1) (items := items) hh (hit.at fun o e => oth I o (Ne.symm hSI) e) (hl.at fun o e => oth l o (Ne.symm hSl) e) hne hlen S hSI hSl .none _ hS₂ fun h' tk acc' c' hk hS' hacc => ?_
  exact ⟨rfl, hQ h' tk acc' c' (fun b o hb e => hk b o (by rw [← hZ]; exact Nat.ne_of_lt (Heap.lt_size e)) hb (oth b o (by rw [← hZ]; exact Nat.ne_of_lt (Heap.lt_size e)) e)) hS' hacc⟩
end
end PySem
namespace L2
open PySem PySem.Spec PyProof.Rows
theorem vals_rv : ∀ {xs : List V} {us : List Value}, Vals xs us → Vals xs.reverse us.reverse
  | _, _, .nil => .nil
  | _, _, .cons r rs => by
    rw [List.reverse_cons, List.reverse_cons]
    exact (vals_rv rs).append (.cons r .nil)
section
variable {X : Cx} {pins : List (Addr × Obj)} {σ : St} {H : Hp} {s : Shared} {E : Value → Shared → Prop}
theorem pe_listRev {a : Expr} {ta : TE} {p pos p2 pos2 : Pos} (hc : X.calm = true) (hgL : Gl X "list") (hmL : X.mg "list" = none) (hg : Gl X "reversed") (hm : X.mg "reversed" = none) (ha : PE X a ta) (hs : starEach [a] X.env = [(false, eval a X.env)] := by rfl)
    (hs2 : starEach [.Call (.Name "reversed" p) [a] [] pos] X.env = [(false, eval (.Call (.Name "reversed" p) [a] [] pos) X.env)] := by rfl) :
    PE X (.Call (.Name "list" p2) [.Call (.Name "reversed" p) [a] [] pos] [] pos2) (fun σ H Q => ta σ H fun x H1 => ∃ ad xs, x = .ref ad ∧ SqL X.K H1 ad xs ∧ ∀ l, H1 l = none → Q (.ref l) (upd H1 l (.lst xs.reverse))) := by
  intro pins s σ H Q I h
  refine Call_ (ld_blt I hgL hmL boot_list'' (PyProof.Rows.callWith_type1 ?_ hs2 rfl))
  rw [hs2]
  show wpAny _ _ (spliced ((false, eval (.Call (.Name "reversed" p) [a] [] pos) X.env) :: [])) _ _ _
  refine Calls.spliced_cons (Call_ (ld_blt I hg hm boot_reversed' (PyProof.Rows.callWith_type1 (thn ((pa_cons ha pa_nil hs) pos pins s σ H (fun vs H1 => match vs with | [x] => ∃ ad xs, x = .ref ad ∧ SqL X.K H1 ad xs ∧ ∀ l, H1 l = none → Q (.ref l) (upd H1 l (.lst xs.reverse)) | _ => False) I h) ?_) hs rfl)))
  rintro us s1 ⟨vs, H1, I1, r1, q1⟩
  obtain ⟨ad, xs, hq, q, vs1⟩ : ∃ ad xs, SqL X.K H1 ad xs ∧ (∀ l, H1 l = none → Q (.ref l) (upd H1 l (.lst xs.reverse))) ∧ vs = [.ref ad] := by
    cases vs with
    | nil => cases q1
    | cons x r =>
      cases r with
      | nil => obtain ⟨ad, xs, rfl, q, q'⟩ := q1; exact ⟨ad, xs, q, q', rfl⟩
      | cons _ _ => cases q1
  subst vs1
  obtain ⟨u, rfl, ru⟩ := r1.one
  cases ru
  obtain ⟨its, rv, pl, hz⟩ := I1.list hq
  have hsz : its.toArray.size = xs.length := by rw [List.size_toArray, ← rv.length]
  refine call_reversed_list pl.isList (Calls.spliced_nil ?_)
  have hne : ad ≠ s1.heap.objs.size := Nat.ne_of_lt (let ⟨_, ho, _⟩ := pl.isList; Heap.lt_size ho)
  have hl2 : (s1.heap.push (revObj ad ((its.toArray.size : Int) - 1))).IsList ad its.toArray := pl.isList.at fun o e => Heap.get?_push_of_some _ e
  refine call_list_revL (I1.ok.hd hc) (I := s1.heap.objs.size) (l := ad) (items := its.toArray) ⟨_, Heap.get?_push_size _ rfl, rfl, rfl⟩ hl2 hne (by rw [hsz]; exact Nat.le_trans hz (by decide)) fun h' tk acc' c' hk hS hacc => ?_
  have hsz2 : (s1.heap.push (revObj ad ((its.toArray.size : Int) - 1))).objs.size = s1.heap.objs.size + 1 := Heap.size_push ..
  have ea : acc'.toList = its.reverse := by
    obtain ⟨h1, h2⟩ := hacc
    apply List.ext_getElem
    · simpa using h1
    · intro j j1 j2
      have hj : j < its.length := by simpa using j2
      have := h2 j acc'[j] (Array.getElem?_eq_getElem (by simpa using j1))
      simp only [List.size_toArray] at this
      have h3 := Array.getElem?_eq_some_iff.mp this
      rw [List.getElem_reverse]
      simpa using h3.2.symm
  dsimp only at hS hk ⊢
  rw [hsz2] at hS ⊢
  refine ⟨.ref (s1.heap.objs.size + 1), _, I1.laid (t' := tk) (o := .lst xs.reverse) (h' := h') (fun b o e => hk b o (Nat.ne_of_lt (Heap.lt_size e)) (Heap.get?_push_of_some _ e)) (Nat.le_succ _) ?_, rfl, q _ (I1.hok.fresh (Nat.le_succ _))⟩
  exact ⟨by simpa using hz, acc'.toList, c', by rw [ea]; exact vals_rv rv, by simpa using hS⟩
end
end L2
namespace HH
open PySem L2 PySem.Spec PyProof.Rows
section
variable {X : Cx} {c : Call} {a : Expr} {pa : P} {pos : Pos}
theorem sx_listRev {x y : Str} {p' q' pos' : Pos} (hy : y = "list") (hx : x = "reversed") (hc : X.calm = true) (hgL : Gl X y) (hmL : X.mg y = none) (hg : Gl X x) (hm : X.mg x = none) (ha : SX X c a pa) (hs : starEach [a] X.env = [(false, eval a X.env)] := by rfl)
    (hs2 : starEach [.Call (.Name x p') [a] [] pos] X.env = [(false, eval (.Call (.Name x p') [a] [] pos) X.env)] := by rfl) : SX X c (.Call (.Name y q') [.Call (.Name x p') [a] [] pos] [] pos') (.blt .revL [pa]) := by
  subst hx hy
  obtain ⟨ta, h1, h2⟩ := ha.opd
  refine ⟨peImp (pe_listRev hc hgL hmL hg hm h1 hs hs2) ?_, fun i h => by cases h⟩
  rintro σ H Q ⟨F, ρ, r, ρ', g, e, k⟩
  rw [HH.ev] at e
  obtain ⟨d, ρ2, e1, e2⟩ := bind_ok e
  have zz := lift_ok e2; clear e2; obtain ⟨e2, e3⟩ := zz
  subst e3
  cases d with
  | lst ds =>
    cases e2
    refine h2 g e1 ?_
    rintro v F' H' s pv
    obtain ⟨ad, xs, rfl, hq, rs⟩ := pv.lst s.gs.sub
    exact ⟨ad, xs, rfl, hq, fun l hl => newL s.gs.sub (Reps.rev rs) hl fun v F2 H2 xt rn => k v F2 H2 (s.trans (xt.stp s.gs)) (.later s (rn.repR s.gs))⟩
  | _ => cases e2
end
end HH
end
section
set_option linter.all false
set_option Elab.async false
set_option maxRecDepth 100000
set_option maxHeartbeats 4000000
namespace T
open PySem L2 PySem.Spec PyProof.Rows HH
noncomputable def top (i : Nat) : Stmt := PySem.Challenge.pw_hourhaul_k12_whole_a_way_more.main.body.getD i (.Pass ⟨0, 0, 0, 0⟩)
noncomputable abbrev s0 : Stmt := top 7
noncomputable def b0 : List S := [
    .ret (.comp (.enm (.idx (.var 0) (.con (.int 1)))) 2 [2, 3] false (some (.cmp .eq (.idx (.var 3) (.con (.int 0))) (.var 1))) (.var 2))]
noncomputable def f0 : Fd := ⟨2, 2, b0⟩
theorem sc0 : FnScope ["net", "place"] ["net", "place"] (defScope s0) := ⟨rfl, rfl, rfl, by decide +kernel, rfl, by decide +kernel, by decide +kernel⟩
theorem d0 {Pg : Program} {w : World} {K : PySem.W.Frag} {mg : Str → Option Value} {base : Heap} {f : Addr} {fd : FuncData} {k n : Nat} {c : Call} {cl : Nat → Addr} (Fu : Fun K "ways_out" "ways_out" s0 f fd) (B_enumerate : mg "enumerate" = none) :
    FnOk Pg w K mg base CX0 (k + 1) f fd ["net", "place"] (spC K 2 (fun args => enter c n f0 args)) := by
  refine fn_ok Fu sc0 rfl rfl fun cdv A outer s H E hr => ?_
  have nd := sc0.nd
  have hc : true = true := rfl
  refine sb_cons ?_ ?_
  · exact (by (first | with_reducible refine ss_ret  ?q1_1 | refine ss_ret  ?q1_1); (case q1_1 => exact (sx_comp (N' := ["net", "place", "number", "way"]) hc (cOk rfl (by rfl)) (si_enm rfl (by rfl) B_enumerate (sx_idx (sv 0) sx_int)) (fun _ _ _ _ _ => pg_tup hc (pgs_cons (pg_name (i := 2) (show (["net", "place", "number", "way"] : List Str).Nodup by decide +kernel) rfl (Or.inl rfl) (Or.inr rfl)) (pgs_cons (pg_name (i := 3) (show (["net", "place", "number", "way"] : List Str).Nodup by decide +kernel) rfl (Or.inl rfl) (Or.inr rfl)) pgs_nil))) (tgc_tup rfl (tgc_cons (show 2 ≤ 2 by decide) (tgc_cons (show 2 ≤ 3 by decide) tgc_nil))) (fun _ _ _ _ _ => sq_some (st_cmp (op_eqD (room_u hr)) (sx_idx (sv 3) sx_int) (sv 1) (nomark _))) (fun _ _ _ _ _ => (sv 2)))))
  exact sb_nil
noncomputable abbrev s1 : Stmt := top 8
noncomputable def b1 : List S := [
    .ifs (.not (.chain .le .lt (.con (.int 0)) (.var 1) (.blt .len [.idx (.var 0) (.con (.int 1))]))) [.rais 2] [], 
    .ret (.idx (.idx (.var 0) (.con (.int 1))) (.var 1))]
noncomputable def f1 : Fd := ⟨2, 2, b1⟩
theorem sc1 : FnScope ["net", "number"] ["net", "number"] (defScope s1) := ⟨rfl, rfl, rfl, by decide +kernel, rfl, by decide +kernel, by decide +kernel⟩
theorem d1 {Pg : Program} {w : World} {K : PySem.W.Frag} {mg : Str → Option Value} {base : Heap} {f : Addr} {fd : FuncData} {k n : Nat} {c : Call} {cl : Nat → Addr} (Fu : Fun K "known_way" "known_way" s1 f fd) (B_len : mg "len" = none) :
    FnOk Pg w K mg base CX0 (k + 1) f fd ["net", "number"] (spC K 2 (fun args => enter c n f1 args)) := by
  refine fn_ok Fu sc1 rfl rfl fun cdv A outer s H E hr => ?_
  have nd := sc1.nd
  have hc : true = true := rfl
  refine sb_cons ?_ ?_
  · exact (by (first | with_reducible refine ss_if  ?q3_1 ?q3_2 ?q3_3 | refine ss_if  ?q3_1 ?q3_2 ?q3_3); (case q3_1 => exact (st_not (st_chain op_leD op_ltD sx_int (sv 1) (sx_len rfl (by rfl) B_len (sx_idx (sv 0) sx_int))))); (case q3_2 => exact (by (first | with_reducible refine sb_cons  ?q2_1 ?q2_2 | refine sb_cons  ?q2_1 ?q2_2); (case q2_1 => exact ss_rais); (case q2_2 => exact sb_nil))); (case q3_3 => exact sb_nil))
  with_reducible refine sb_cons ?_ ?_
  · exact (by (first | with_reducible refine ss_ret  ?q4_1 | refine ss_ret  ?q4_1); (case q4_1 => exact (sx_idx (sx_idx (sv 0) sx_int) (sv 1))))
  exact sb_nil
noncomputable abbrev s2 : Stmt := top 9
noncomputable def b2 : List S := [
    .ifs (.cmp .ge (.blt .len [.idx (.var 0) (.con (.int 1))]) (.glob "MOST_WAYS" (.int 12))) [.rais 1] [], 
    .ret (.tup [.idx (.var 0) (.con (.int 0)), .bin .add (.idx (.var 0) (.con (.int 1))) (.tup [.blt .tuple [.var 1]])])]
noncomputable def f2 : Fd := ⟨2, 2, b2⟩
theorem sc2 : FnScope ["net", "way"] ["net", "way"] (defScope s2) := ⟨rfl, rfl, rfl, by decide +kernel, rfl, by decide +kernel, by decide +kernel⟩
theorem d2 {Pg : Program} {w : World} {K : PySem.W.Frag} {mg : Str → Option Value} {base : Heap} {f : Addr} {fd : FuncData} {k n : Nat} {c : Call} {cl : Nat → Addr} (Fu : Fun K "put_way" "put_way" s2 f fd) (B_len : mg "len" = none) (B_tuple : mg "tuple" = none) (G_MOST_WAYS : ∃ t, mg "MOST_WAYS" = some (Value.int 12 t)) :
    FnOk Pg w K mg base CX0 (k + 1) f fd ["net", "way"] (spC K 2 (fun args => enter c n f2 args)) := by
  refine fn_ok Fu sc2 rfl rfl fun cdv A outer s H E hr => ?_
  have nd := sc2.nd
  have hc : true = true := rfl
  refine sb_cons ?_ ?_
  · exact (by (first | with_reducible refine ss_if  ?q6_1 ?q6_2 ?q6_3 | refine ss_if  ?q6_1 ?q6_2 ?q6_3); (case q6_1 => exact (st_cmp op_geD (sx_len rfl (by rfl) B_len (sx_idx (sv 0) sx_int)) (sx_globI (by rfl) G_MOST_WAYS.choose_spec (by rfl)) (nomark _))); (case q6_2 => exact (by (first | with_reducible refine sb_cons  ?q5_1 ?q5_2 | refine sb_cons  ?q5_1 ?q5_2); (case q5_1 => exact ss_rais); (case q5_2 => exact sb_nil))); (case q6_3 => exact sb_nil))
  with_reducible refine sb_cons ?_ ?_
  · exact (by (first | with_reducible refine ss_ret  ?q7_1 | refine ss_ret  ?q7_1); (case q7_1 => exact (sx_tup (sa_cons (sx_idx (sv 0) sx_int) (sa_cons (sx_bin op_addD (sx_idx (sv 0) sx_int) (sx_tup (sa_cons (sx_tuple rfl (by rfl) B_tuple (sv 1)) sa_nil (starEach_nst rfl)))) sa_nil (starEach_nst rfl)) (starEach_nst rfl)))))
  exact sb_nil
noncomputable abbrev s3 : Stmt := top 10
noncomputable def b3 : List S := [
    .expr (.call 1 [.var 0, .var 1]), 
    .ret (.tup [.idx (.var 0) (.con (.int 0)), .bin .add (.slice (.idx (.var 0) (.con (.int 1))) (.con .non) (.var 1)) (.slice (.idx (.var 0) (.con (.int 1))) (.bin .add (.var 1) (.con (.int 1))) (.con .non))])]
noncomputable def f3 : Fd := ⟨2, 2, b3⟩
theorem sc3 : FnScope ["net", "number"] ["net", "number"] (defScope s3) := ⟨rfl, rfl, rfl, by decide +kernel, rfl, by decide +kernel, by decide +kernel⟩
theorem d3 {Pg : Program} {w : World} {K : PySem.W.Frag} {mg : Str → Option Value} {base : Heap} {f : Addr} {fd : FuncData} {k n : Nat} {c : Call} {cl : Nat → Addr} (Fu : Fun K "less_way" "less_way" s3 f fd) (C_known_way : CallOk Pg w K mg base k c 1 "known_way" 2) :
    FnOk Pg w K mg base CX0 (k + 1) f fd ["net", "number"] (spC K 2 (fun args => enter c n f3 args)) := by
  refine fn_ok Fu sc3 rfl rfl fun cdv A outer s H E hr => ?_
  have nd := sc3.nd
  have hc : true = true := rfl
  refine sb_cons ?_ ?_
  · exact (ss_expr (sxc C_known_way hr (sg_cons (sv 0) (sg_cons (sv 1) sg_nil (starEach_nst rfl)) (starEach_nst rfl))))
  with_reducible refine sb_cons ?_ ?_
  · exact (by (first | with_reducible refine ss_ret  ?q8_1 | refine ss_ret  ?q8_1); (case q8_1 => exact (sx_tup (sa_cons (sx_idx (sv 0) sx_int) (sa_cons (sx_bin op_addD (sx_slice (sx_idx (sv 0) sx_int) so_none (so_some (sv 1))) (sx_slice (sx_idx (sv 0) sx_int) (so_some (sx_bin op_addD (sv 1) sx_int)) so_none)) sa_nil (starEach_nst rfl)) (starEach_nst rfl)))))
  exact sb_nil
noncomputable abbrev s4 : Stmt := top 11
noncomputable def b4 : List S := [
    .asg 3 (.call 1 [.var 0, .var 1]), 
    .asg 4 (.tup [.idx (.var 3) (.con (.int 0)), .idx (.var 3) (.con (.int 1)), .var 2, .idx (.var 3) (.con (.int 3))]), 
    .ret (.tup [.idx (.var 0) (.con (.int 0)), .bin .add (.bin .add (.slice (.idx (.var 0) (.con (.int 1))) (.con .non) (.var 1)) (.tup [.var 4])) (.slice (.idx (.var 0) (.con (.int 1))) (.bin .add (.var 1) (.con (.int 1))) (.con .non))])]
noncomputable def f4 : Fd := ⟨3, 5, b4⟩
theorem sc4 : FnScope ["net", "number", "room", "way", "changed"] ["net", "number", "room"] (defScope s4) := ⟨rfl, rfl, rfl, by decide +kernel, rfl, by decide +kernel, by decide +kernel⟩
theorem d4 {Pg : Program} {w : World} {K : PySem.W.Frag} {mg : Str → Option Value} {base : Heap} {f : Addr} {fd : FuncData} {k n : Nat} {c : Call} {cl : Nat → Addr} (Fu : Fun K "with_room" "with_room" s4 f fd) (C_known_way : CallOk Pg w K mg base k c 1 "known_way" 2) :
    FnOk Pg w K mg base CX0 (k + 1) f fd ["net", "number", "room"] (spC K 3 (fun args => enter c n f4 args)) := by
  refine fn_ok Fu sc4 rfl rfl fun cdv A outer s H E hr => ?_
  have nd := sc4.nd
  have hc : true = true := rfl
  refine sb_cons ?_ ?_
  · exact (by (first | with_reducible refine ss_asg (i := 3) ?q9_1 ?q9_2 ?q9_3 ?q9_4 ?q9_5 ?q9_6 | refine ss_asg (i := 3) ?q9_1 ?q9_2 ?q9_3 ?q9_4 ?q9_5 ?q9_6); (case q9_1 => exact nd); (case q9_2 => exact rfl); (case q9_3 => exact (Or.inl rfl)); (case q9_5 => exact (by rfl)); (case q9_6 => exact (Or.inl rfl)); (case q9_4 => exact (sxc C_known_way hr (sg_cons (sv 0) (sg_cons (sv 1) sg_nil (starEach_nst rfl)) (starEach_nst rfl)))))
  with_reducible refine sb_cons ?_ ?_
  · exact (by (first | with_reducible refine ss_asg (i := 4) ?q10_1 ?q10_2 ?q10_3 ?q10_4 ?q10_5 ?q10_6 | refine ss_asg (i := 4) ?q10_1 ?q10_2 ?q10_3 ?q10_4 ?q10_5 ?q10_6); (case q10_1 => exact nd); (case q10_2 => exact rfl); (case q10_3 => exact (Or.inl rfl)); (case q10_5 => exact (by rfl)); (case q10_6 => exact (Or.inl rfl)); (case q10_4 => exact (sx_tup (sa_cons (sx_idx (sv 3) sx_int) (sa_cons (sx_idx (sv 3) sx_int) (sa_cons (sv 2) (sa_cons (sx_idx (sv 3) sx_int) sa_nil (starEach_nst rfl)) (starEach_nst rfl)) (starEach_nst rfl)) (starEach_nst rfl)))))
  with_reducible refine sb_cons ?_ ?_
  · exact (by (first | with_reducible refine ss_ret  ?q11_1 | refine ss_ret  ?q11_1); (case q11_1 => exact (sx_tup (sa_cons (sx_idx (sv 0) sx_int) (sa_cons (sx_bin op_addD (sx_bin op_addD (sx_slice (sx_idx (sv 0) sx_int) so_none (so_some (sv 1))) (sx_tup (sa_cons (sv 4) sa_nil (starEach_nst rfl)))) (sx_slice (sx_idx (sv 0) sx_int) (so_some (sx_bin op_addD (sv 1) sx_int)) so_none)) sa_nil (starEach_nst rfl)) (starEach_nst rfl)))))
  exact sb_nil
noncomputable abbrev s5 : Stmt := top 12
noncomputable def b5 : List S := [
    .asg 1 (.bin .sub (.idx (.var 0) (.con (.int 0))) (.con (.int 1))), 
    .asg 2 (.comp (.idx (.var 0) (.con (.int 1))) 1 [3] true none (.tup [.bin .sub (.var 1) (.idx (.var 3) (.con (.int 1))), .bin .sub (.var 1) (.idx (.var 3) (.con (.int 0))), .idx (.var 3) (.con (.int 2)), .idx (.var 3) (.con (.int 3))])), 
    .ret (.tup [.idx (.var 0) (.con (.int 0)), .blt .tuple [.var 2]])]
noncomputable def f5 : Fd := ⟨1, 3, b5⟩
theorem sc5 : FnScope ["net", "end", "ways"] ["net"] (defScope s5) := ⟨rfl, rfl, rfl, by decide +kernel, rfl, by decide +kernel, by decide +kernel⟩
theorem d5 {Pg : Program} {w : World} {K : PySem.W.Frag} {mg : Str → Option Value} {base : Heap} {f : Addr} {fd : FuncData} {k n : Nat} {c : Call} {cl : Nat → Addr} (Fu : Fun K "turned_net" "turned_net" s5 f fd) (B_tuple : mg "tuple" = none) :
    FnOk Pg w K mg base CX0 (k + 1) f fd ["net"] (spC K 1 (fun args => enter c n f5 args)) := by
  refine fn_ok Fu sc5 rfl rfl fun cdv A outer s H E hr => ?_
  have nd := sc5.nd
  have hc : true = true := rfl
  refine sb_cons ?_ ?_
  · exact (by (first | with_reducible refine ss_asg (i := 1) ?q12_1 ?q12_2 ?q12_3 ?q12_4 ?q12_5 ?q12_6 | refine ss_asg (i := 1) ?q12_1 ?q12_2 ?q12_3 ?q12_4 ?q12_5 ?q12_6); (case q12_1 => exact nd); (case q12_2 => exact rfl); (case q12_3 => exact (Or.inr rfl)); (case q12_5 => exact (by rfl)); (case q12_6 => exact (Or.inl rfl)); (case q12_4 => exact (sx_bin op_subD (sx_idx (sv 0) sx_int) sx_int)))
  with_reducible refine sb_cons ?_ ?_
  · exact (ss_asgC (i := 2) (N' := ["net", "end", "ways", "way"]) hc nd rfl (Or.inl rfl) (cOk rfl (by rfl)) (si_seq (sx_idx (sv 0) sx_int)) (fun _ _ _ _ _ => pg_name (i := 3) (show (["net", "end", "ways", "way"] : List Str).Nodup by decide +kernel) rfl (Or.inl rfl) (Or.inr rfl)) (tgc_name (Nat.le_refl _)) (fun _ _ _ _ _ => sq_none) (fun _ _ _ _ _ => (sx_tup (sa_cons (sx_bin op_subD (sv 1) (sx_idx (sv 3) sx_int)) (sa_cons (sx_bin op_subD (sv 1) (sx_idx (sv 3) sx_int)) (sa_cons (sx_idx (sv 3) sx_int) (sa_cons (sx_idx (sv 3) sx_int) sa_nil (starEach_nst rfl)) (starEach_nst rfl)) (starEach_nst rfl)) (starEach_nst rfl)))) (by rfl) (by intro _; rfl) (Or.inl rfl))
  with_reducible refine sb_cons ?_ ?_
  · exact (by (first | with_reducible refine ss_ret  ?q13_1 | refine ss_ret  ?q13_1); (case q13_1 => exact (sx_tup (sa_cons (sx_idx (sv 0) sx_int) (sa_cons (sx_tuple rfl (by rfl) B_tuple (sv 2)) sa_nil (starEach_nst rfl)) (starEach_nst rfl)))))
  exact sb_nil
noncomputable abbrev s6 : Stmt := top 14
noncomputable def b6 : List S := [
    .asg 2 (.bin .mul (.lst [.con .non]) (.idx (.var 0) (.con (.int 0)))), 
    .seti 2 (.var 1) (.con (.int 0)), 
    .asg 3 (.con (.bl true)), 
    .whl (.var 3) [.asg 3 (.con (.bl false)), .forr (.idx (.var 0) (.con (.int 1))) [4] true [.ifs (.and (.cmp .gt (.idx (.var 4) (.con (.int 2))) (.con (.int 0))) (.cmp .notN (.idx (.var 2) (.idx (.var 4) (.con (.int 0)))) (.con .non))) [.asg 5 (.bin .add (.idx (.var 2) (.idx (.var 4) (.con (.int 0)))) (.idx (.var 4) (.con (.int 3)))), .ifs (.or (.cmp .isN (.idx (.var 2) (.idx (.var 4) (.con (.int 1)))) (.con .non)) (.cmp .lt (.var 5) (.idx (.var 2) (.idx (.var 4) (.con (.int 1)))))) [.seti 2 (.idx (.var 4) (.con (.int 1))) (.var 5), .asg 3 (.con (.bl true))] []] []]], 
    .ret (.var 2)]
noncomputable def f6 : Fd := ⟨2, 6, b6⟩
theorem sc6 : FnScope ["net", "start", "hours", "changed", "way", "come"] ["net", "start"] (defScope s6) := ⟨rfl, rfl, rfl, by decide +kernel, rfl, by decide +kernel, by decide +kernel⟩
theorem d6 {Pg : Program} {w : World} {K : PySem.W.Frag} {mg : Str → Option Value} {base : Heap} {f : Addr} {fd : FuncData} {k n : Nat} {c : Call} {cl : Nat → Addr} (Fu : Fun K "hours_from" "hours_from" s6 f fd) :
    FnOk Pg w K mg base CX0 (k + 1) f fd ["net", "start"] (spC K 2 (fun args => enter c n f6 args)) := by
  refine fn_ok Fu sc6 rfl rfl fun cdv A outer s H E hr => ?_
  have nd := sc6.nd
  have hc : true = true := rfl
  refine sb_cons ?_ ?_
  · exact (by (first | with_reducible refine ss_asg (i := 2) ?q14_1 ?q14_2 ?q14_3 ?q14_4 ?q14_5 ?q14_6 | refine ss_asg (i := 2) ?q14_1 ?q14_2 ?q14_3 ?q14_4 ?q14_5 ?q14_6); (case q14_1 => exact nd); (case q14_2 => exact rfl); (case q14_3 => exact (Or.inl rfl)); (case q14_5 => exact (by rfl)); (case q14_6 => exact (Or.inl rfl)); (case q14_4 => exact (sx_bin op_mulD (sx_lst (sa_cons sx_non sa_nil (starEach_nst rfl))) (sx_idx (sv 0) sx_int))))
  with_reducible refine sb_cons ?_ ?_
  · exact (ss_seti (k := 2) rfl (by first | exact Or.inl rfl | exact Or.inr (Or.inl rfl)) (sv 1) sx_int)
  with_reducible refine sb_cons ?_ ?_
  · exact (by (first | with_reducible refine ss_asg (i := 3) ?q15_1 ?q15_2 ?q15_3 ?q15_4 ?q15_5 ?q15_6 | refine ss_asg (i := 3) ?q15_1 ?q15_2 ?q15_3 ?q15_4 ?q15_5 ?q15_6); (case q15_1 => exact nd); (case q15_2 => exact rfl); (case q15_3 => exact (Or.inl rfl)); (case q15_5 => exact (by rfl)); (case q15_6 => exact (Or.inl rfl)); (case q15_4 => exact sx_bl))
  with_reducible refine sb_cons ?_ ?_
  · exact (ss_whl PassesOwn.never (st_val (sv 3)) (by (first | with_reducible refine sb_cons  ?q28_1 ?q28_2 | refine sb_cons  ?q28_1 ?q28_2); (case q28_1 => exact (by (first | with_reducible refine ss_asg (i := 3) ?q27_1 ?q27_2 ?q27_3 ?q27_4 ?q27_5 ?q27_6 | refine ss_asg (i := 3) ?q27_1 ?q27_2 ?q27_3 ?q27_4 ?q27_5 ?q27_6); (case q27_1 => exact nd); (case q27_2 => exact rfl); (case q27_3 => exact (Or.inl rfl)); (case q27_5 => exact (by rfl)); (case q27_6 => exact (Or.inl rfl)); (case q27_4 => exact sx_bl))); (case q28_2 => exact (by (first | with_reducible refine sb_cons  ?q26_1 ?q26_2 | refine sb_cons  ?q26_1 ?q26_2); (case q26_1 => exact (by (first | with_reducible refine ss_for1 (i := 4) ?q25_1 ?q25_2 ?q25_3 ?q25_4 ?q25_5 ?q25_6 ?q25_7 ?q25_8 ?q25_9 | refine ss_for1 (i := 4) ?q25_1 ?q25_2 ?q25_3 ?q25_4 ?q25_5 ?q25_6 ?q25_7 ?q25_8 ?q25_9); (case q25_1 => exact PassesOwn.never); (case q25_2 => exact hc); (case q25_3 => exact nd); (case q25_4 => exact rfl); (case q25_5 => exact (Or.inl rfl)); (case q25_6 => exact (si_seq (sx_idx (sv 0) sx_int))); (case q25_7 => exact (by (first | with_reducible refine sb_cons  ?q24_1 ?q24_2 | refine sb_cons  ?q24_1 ?q24_2); (case q24_1 => exact (by (first | with_reducible refine ss_if  ?q23_1 ?q23_2 ?q23_3 | refine ss_if  ?q23_1 ?q23_2 ?q23_3); (case q23_1 => exact (SW.st (sw_and (st_cmp op_gtD (sx_idx (sv 4) sx_int) sx_int (nomark _)) (sw_and1 (st_cmp op_notD (sx_idx (sv 2) (sx_idx (sv 4) sx_int)) sx_non (nomark _)))))); (case q23_2 => exact (by (first | with_reducible refine sb_cons  ?q22_1 ?q22_2 | refine sb_cons  ?q22_1 ?q22_2); (case q22_1 => exact (by (first | with_reducible refine ss_asg (i := 5) ?q21_1 ?q21_2 ?q21_3 ?q21_4 ?q21_5 ?q21_6 | refine ss_asg (i := 5) ?q21_1 ?q21_2 ?q21_3 ?q21_4 ?q21_5 ?q21_6); (case q21_1 => exact nd); (case q21_2 => exact rfl); (case q21_3 => exact (Or.inl rfl)); (case q21_5 => exact (by rfl)); (case q21_6 => exact (Or.inl rfl)); (case q21_4 => exact (sx_bin op_addD (sx_idx (sv 2) (sx_idx (sv 4) sx_int)) (sx_idx (sv 4) sx_int))))); (case q22_2 => exact (by (first | with_reducible refine sb_cons  ?q20_1 ?q20_2 | refine sb_cons  ?q20_1 ?q20_2); (case q20_1 => exact (by (first | with_reducible refine ss_if  ?q19_1 ?q19_2 ?q19_3 | refine ss_if  ?q19_1 ?q19_2 ?q19_3); (case q19_1 => exact (SW.st (sw_or (st_cmp op_isD (sx_idx (sv 2) (sx_idx (sv 4) sx_int)) sx_non (nomark _)) (sw_or1 (st_cmp op_ltD (sv 5) (sx_idx (sv 2) (sx_idx (sv 4) sx_int)) (nomark _)))))); (case q19_2 => exact (by (first | with_reducible refine sb_cons  ?q18_1 ?q18_2 | refine sb_cons  ?q18_1 ?q18_2); (case q18_1 => exact (ss_seti (k := 2) rfl (by first | exact Or.inl rfl | exact Or.inr (Or.inl rfl)) (sx_idx (sv 4) sx_int) (sv 5))); (case q18_2 => exact (by (first | with_reducible refine sb_cons  ?q17_1 ?q17_2 | refine sb_cons  ?q17_1 ?q17_2); (case q17_1 => exact (by (first | with_reducible refine ss_asg (i := 3) ?q16_1 ?q16_2 ?q16_3 ?q16_4 ?q16_5 ?q16_6 | refine ss_asg (i := 3) ?q16_1 ?q16_2 ?q16_3 ?q16_4 ?q16_5 ?q16_6); (case q16_1 => exact nd); (case q16_2 => exact rfl); (case q16_3 => exact (Or.inl rfl)); (case q16_5 => exact (by rfl)); (case q16_6 => exact (Or.inl rfl)); (case q16_4 => exact sx_bl))); (case q17_2 => exact sb_nil))))); (case q19_3 => exact sb_nil))); (case q20_2 => exact sb_nil))))); (case q23_3 => exact sb_nil))); (case q24_2 => exact sb_nil))); (case q25_8 => exact (by intro _; rfl)); (case q25_9 => exact (Or.inl rfl)))); (case q26_2 => exact sb_nil)))))
  with_reducible refine sb_cons ?_ ?_
  · exact (by (first | with_reducible refine ss_ret  ?q29_1 | refine ss_ret  ?q29_1); (case q29_1 => exact (sv 2)))
  exact sb_nil
noncomputable abbrev s7 : Stmt := top 15
noncomputable def b7 : List S := [
    .ret (.call 6 [.var 0, .con (.int 0)])]
noncomputable def f7 : Fd := ⟨1, 1, b7⟩
theorem sc7 : FnScope ["net"] ["net"] (defScope s7) := ⟨rfl, rfl, rfl, by decide +kernel, rfl, by decide +kernel, by decide +kernel⟩
theorem d7 {Pg : Program} {w : World} {K : PySem.W.Frag} {mg : Str → Option Value} {base : Heap} {f : Addr} {fd : FuncData} {k n : Nat} {c : Call} {cl : Nat → Addr} (Fu : Fun K "soonest_hours" "soonest_hours" s7 f fd) (C_hours_from : CallOk Pg w K mg base k c 6 "hours_from" 2) :
    FnOk Pg w K mg base CX0 (k + 1) f fd ["net"] (spC K 1 (fun args => enter c n f7 args)) := by
  refine fn_ok Fu sc7 rfl rfl fun cdv A outer s H E hr => ?_
  have nd := sc7.nd
  have hc : true = true := rfl
  refine sb_cons ?_ ?_
  · exact (by (first | with_reducible refine ss_ret  ?q30_1 | refine ss_ret  ?q30_1); (case q30_1 => exact (sxc C_hours_from hr (sg_cons (sv 0) (sg_cons sx_int sg_nil (starEach_nst rfl)) (starEach_nst rfl)))))
  exact sb_nil
noncomputable abbrev s8 : Stmt := top 16
noncomputable def b8 : List S := [
    .ret (.blt .revL [.call 6 [.call 5 [.var 0], .bin .sub (.bin .sub (.idx (.var 0) (.con (.int 0))) (.con (.int 1))) (.var 1)]])]
noncomputable def f8 : Fd := ⟨2, 2, b8⟩
theorem sc8 : FnScope ["net", "place"] ["net", "place"] (defScope s8) := ⟨rfl, rfl, rfl, by decide +kernel, rfl, by decide +kernel, by decide +kernel⟩
theorem d8 {Pg : Program} {w : World} {K : PySem.W.Frag} {mg : Str → Option Value} {base : Heap} {f : Addr} {fd : FuncData} {k n : Nat} {c : Call} {cl : Nat → Addr} (Fu : Fun K "hours_to" "hours_to" s8 f fd) (B_list : mg "list" = none) (B_reversed : mg "reversed" = none) (C_hours_from : CallOk Pg w K mg base k c 6 "hours_from" 2) (C_turned_net : CallOk Pg w K mg base k c 5 "turned_net" 1) :
    FnOk Pg w K mg base CX0 (k + 1) f fd ["net", "place"] (spC K 2 (fun args => enter c n f8 args)) := by
  refine fn_ok Fu sc8 rfl rfl fun cdv A outer s H E hr => ?_
  have nd := sc8.nd
  have hc : true = true := rfl
  refine sb_cons ?_ ?_
  · exact (by (first | with_reducible refine ss_ret  ?q31_1 | refine ss_ret  ?q31_1); (case q31_1 => exact (sx_listRev rfl rfl hc (by rfl) B_list (by rfl) B_reversed (sxc C_hours_from hr (sg_cons (sxc C_turned_net hr (sg_cons (sv 0) sg_nil (starEach_nst rfl))) (sg_cons (sx_bin op_subD (sx_bin op_subD (sx_idx (sv 0) sx_int) sx_int) (sv 1)) sg_nil (starEach_nst rfl)) (starEach_nst rfl))))))
  exact sb_nil
noncomputable abbrev s9 : Stmt := top 17
noncomputable def b9 : List S := [
    .ret (.and (.cmp .gt (.idx (.var 0) (.con (.int 2))) (.con (.int 0))) (.and (.cmp .notN (.idx (.var 1) (.idx (.var 0) (.con (.int 1)))) (.con .non)) (.cmp .eq (.bin .add (.idx (.var 0) (.con (.int 3))) (.idx (.var 1) (.idx (.var 0) (.con (.int 1))))) (.idx (.var 1) (.idx (.var 0) (.con (.int 0)))))))]
noncomputable def f9 : Fd := ⟨2, 2, b9⟩
theorem sc9 : FnScope ["way", "left"] ["way", "left"] (defScope s9) := ⟨rfl, rfl, rfl, by decide +kernel, rfl, by decide +kernel, by decide +kernel⟩
theorem d9 {Pg : Program} {w : World} {K : PySem.W.Frag} {mg : Str → Option Value} {base : Heap} {f : Addr} {fd : FuncData} {k n : Nat} {c : Call} {cl : Nat → Addr} (Fu : Fun K "is_soonest_step" "is_soonest_step" s9 f fd) :
    FnOk Pg w K mg base CX0 (k + 1) f fd ["way", "left"] (spC K 2 (fun args => enter c n f9 args)) := by
  refine fn_ok Fu sc9 rfl rfl fun cdv A outer s H E hr => ?_
  have nd := sc9.nd
  have hc : true = true := rfl
  refine sb_cons ?_ ?_
  · exact (by (first | with_reducible refine ss_ret  ?q32_1 | refine ss_ret  ?q32_1); (case q32_1 => exact (sx_and (sx_cmp op_gtD (sx_idx (sv 0) sx_int) sx_int (nomark _)) (sx_and (sx_cmp op_notD (sx_idx (sv 1) (sx_idx (sv 0) sx_int)) sx_non (nomark _)) (sx_oneV (sx_cmp (op_eqD (room_u hr)) (sx_bin op_addD (sx_idx (sv 0) sx_int) (sx_idx (sv 1) (sx_idx (sv 0) sx_int))) (sx_idx (sv 1) (sx_idx (sv 0) sx_int)) (nomark _)))).ev)))
  exact sb_nil
noncomputable abbrev s10 : Stmt := top 18
noncomputable def b10 : List S := [
    .ifs (.not (.chain .le .lt (.con (.int 0)) (.var 1) (.idx (.var 0) (.con (.int 0))))) [.rais 3] [], 
    .asg 2 (.call 8 [.var 0, .var 1]), 
    .ifs (.cmp .isN (.idx (.var 2) (.con (.int 0))) (.con .non)) [.rais 3] [], 
    .asg 3 (.lst []), 
    .asg 4 (.con (.int 0)), 
    .whl (.cmp .ne (.var 4) (.var 1)) [.asg 5 (.blt .minL [.comp (.call 0 [.var 0, .var 4]) 1 [6] true (some (.call 9 [.idx (.idx (.var 0) (.con (.int 1))) (.var 6), .var 2])) (.var 6)]), .app 3 (.var 5), .asg 4 (.idx (.idx (.idx (.var 0) (.con (.int 1))) (.var 5)) (.con (.int 1)))], 
    .ret (.blt .tuple [.var 3])]
noncomputable def f10 : Fd := ⟨2, 6, b10⟩
theorem sc10 : FnScope ["net", "place", "left", "walk", "here", "step"] ["net", "place"] (defScope s10) := ⟨rfl, rfl, rfl, by decide +kernel, rfl, by decide +kernel, by decide +kernel⟩
theorem d10 {Pg : Program} {w : World} {K : PySem.W.Frag} {mg : Str → Option Value} {base : Heap} {f : Addr} {fd : FuncData} {k n : Nat} {c : Call} {cl : Nat → Addr} (Fu : Fun K "soonest_walk" "soonest_walk" s10 f fd) (B_min : mg "min" = none) (B_tuple : mg "tuple" = none) (C_hours_to : CallOk Pg w K mg base k c 8 "hours_to" 2) (C_is_soonest_step : CallOk Pg w K mg base k c 9 "is_soonest_step" 2) (C_ways_out : CallOk Pg w K mg base k c 0 "ways_out" 2) :
    FnOk Pg w K mg base CX0 (k + 1) f fd ["net", "place"] (spC K 2 (fun args => enter c n f10 args)) := by
  refine fn_ok Fu sc10 rfl rfl fun cdv A outer s H E hr => ?_
  have nd := sc10.nd
  have hc : true = true := rfl
  refine sb_cons ?_ ?_
  · exact (by (first | with_reducible refine ss_if  ?q34_1 ?q34_2 ?q34_3 | refine ss_if  ?q34_1 ?q34_2 ?q34_3); (case q34_1 => exact (st_not (st_chain op_leD op_ltD sx_int (sv 1) (sx_idx (sv 0) sx_int)))); (case q34_2 => exact (by (first | with_reducible refine sb_cons  ?q33_1 ?q33_2 | refine sb_cons  ?q33_1 ?q33_2); (case q33_1 => exact ss_rais); (case q33_2 => exact sb_nil))); (case q34_3 => exact sb_nil))
  with_reducible refine sb_cons ?_ ?_
  · exact (by (first | with_reducible refine ss_asg (i := 2) ?q35_1 ?q35_2 ?q35_3 ?q35_4 ?q35_5 ?q35_6 | refine ss_asg (i := 2) ?q35_1 ?q35_2 ?q35_3 ?q35_4 ?q35_5 ?q35_6); (case q35_1 => exact nd); (case q35_2 => exact rfl); (case q35_3 => exact (Or.inr rfl)); (case q35_5 => exact (by rfl)); (case q35_6 => exact (Or.inl rfl)); (case q35_4 => exact (sxc C_hours_to hr (sg_cons (sv 0) (sg_cons (sv 1) sg_nil (starEach_nst rfl)) (starEach_nst rfl)))))
  with_reducible refine sb_cons ?_ ?_
  · exact (by (first | with_reducible refine ss_if  ?q37_1 ?q37_2 ?q37_3 | refine ss_if  ?q37_1 ?q37_2 ?q37_3); (case q37_1 => exact (st_cmp op_isD (sx_idx (sv 2) sx_int) sx_non (nomark _))); (case q37_2 => exact (by (first | with_reducible refine sb_cons  ?q36_1 ?q36_2 | refine sb_cons  ?q36_1 ?q36_2); (case q36_1 => exact ss_rais); (case q36_2 => exact sb_nil))); (case q37_3 => exact sb_nil))
  with_reducible refine sb_cons ?_ ?_
  · exact (by (first | with_reducible refine ss_asg (i := 3) ?q38_1 ?q38_2 ?q38_3 ?q38_4 ?q38_5 ?q38_6 | refine ss_asg (i := 3) ?q38_1 ?q38_2 ?q38_3 ?q38_4 ?q38_5 ?q38_6); (case q38_1 => exact nd); (case q38_2 => exact rfl); (case q38_3 => exact (Or.inl rfl)); (case q38_5 => exact (by rfl)); (case q38_6 => exact (Or.inl rfl)); (case q38_4 => exact (sx_lst sa_nil)))
  with_reducible refine sb_cons ?_ ?_
  · exact (by (first | with_reducible refine ss_asg (i := 4) ?q39_1 ?q39_2 ?q39_3 ?q39_4 ?q39_5 ?q39_6 | refine ss_asg (i := 4) ?q39_1 ?q39_2 ?q39_3 ?q39_4 ?q39_5 ?q39_6); (case q39_1 => exact nd); (case q39_2 => exact rfl); (case q39_3 => exact (Or.inl rfl)); (case q39_5 => exact (by rfl)); (case q39_6 => exact (Or.inl rfl)); (case q39_4 => exact sx_int))
  with_reducible refine sb_cons ?_ ?_
  · exact (ss_whl PassesOwn.never (st_cmp (op_neD (room_u hr)) (sv 4) (sv 1) (nomark _)) (by (first | with_reducible refine sb_cons  ?q44_1 ?q44_2 | refine sb_cons  ?q44_1 ?q44_2); (case q44_1 => exact (by (first | with_reducible refine ss_asg (i := 5) ?q43_1 ?q43_2 ?q43_3 ?q43_4 ?q43_5 ?q43_6 | refine ss_asg (i := 5) ?q43_1 ?q43_2 ?q43_3 ?q43_4 ?q43_5 ?q43_6); (case q43_1 => exact nd); (case q43_2 => exact rfl); (case q43_3 => exact (Or.inl rfl)); (case q43_5 => exact (by rfl)); (case q43_6 => exact (Or.inl rfl)); (case q43_4 => exact (sx_minL rfl hc (by rfl) B_min (sx_comp (N' := ["net", "place", "left", "walk", "here", "step", "number"]) hc (cOk rfl (by rfl)) (si_seq (sxc C_ways_out hr (sg_cons (sv 0) (sg_cons (sv 4) sg_nil (starEach_nst rfl)) (starEach_nst rfl)))) (fun _ _ _ _ _ => pg_name (i := 6) (show (["net", "place", "left", "walk", "here", "step", "number"] : List Str).Nodup by decide +kernel) rfl (Or.inl rfl) (Or.inr rfl)) (tgc_name (Nat.le_refl _)) (fun _ _ _ _ _ => sq_some (st_val (sxc C_is_soonest_step hr (sg_cons (sx_idx (sx_idx (sv 0) sx_int) (sv 6)) (sg_cons (sv 2) sg_nil (starEach_nst rfl)) (starEach_nst rfl))))) (fun _ _ _ _ _ => (sv 6))))))); (case q44_2 => exact (by (first | with_reducible refine sb_cons  ?q42_1 ?q42_2 | refine sb_cons  ?q42_1 ?q42_2); (case q42_1 => exact (sx_app_core (k := 3) rfl (by first | exact Or.inl rfl | exact Or.inr (Or.inl rfl)) (sv 5))); (case q42_2 => exact (by (first | with_reducible refine sb_cons  ?q41_1 ?q41_2 | refine sb_cons  ?q41_1 ?q41_2); (case q41_1 => exact (by (first | with_reducible refine ss_asg (i := 4) ?q40_1 ?q40_2 ?q40_3 ?q40_4 ?q40_5 ?q40_6 | refine ss_asg (i := 4) ?q40_1 ?q40_2 ?q40_3 ?q40_4 ?q40_5 ?q40_6); (case q40_1 => exact nd); (case q40_2 => exact rfl); (case q40_3 => exact (Or.inl rfl)); (case q40_5 => exact (by rfl)); (case q40_6 => exact (Or.inl rfl)); (case q40_4 => exact (sx_idx (sx_idx (sx_idx (sv 0) sx_int) (sv 5)) sx_int)))); (case q41_2 => exact sb_nil)))))))
  with_reducible refine sb_cons ?_ ?_
  · exact (by (first | with_reducible refine ss_ret  ?q45_1 | refine ss_ret  ?q45_1); (case q45_1 => exact (sx_tuple rfl (by rfl) B_tuple (sv 3))))
  exact sb_nil
noncomputable abbrev s11 : Stmt := top 19
noncomputable def b11 : List S := [
    .asg 2 (.lst []), 
    .forr (.var 1) [3] true [.ifs (.or (.not (.chain .le .lt (.con (.int 0)) (.var 3) (.blt .len [.idx (.var 0) (.con (.int 1))]))) (.cmp .lt (.idx (.idx (.idx (.var 0) (.con (.int 1))) (.var 3)) (.con (.int 2))) (.con (.int 1)))) [.rais 3] [], .asg 4 (.idx (.idx (.var 0) (.con (.int 1))) (.var 3)), .ifs (.cmp .eq (.blt .len [.var 2]) (.con (.int 0))) [.app 2 (.idx (.var 4) (.con (.int 0)))] [], .ifs (.or (.cmp .ne (.idx (.var 4) (.con (.int 0))) (.idx (.var 2) (.neg (.con (.int 1))))) (.cmp .inn (.idx (.var 4) (.con (.int 1))) (.var 2))) [.rais 3] [], .app 2 (.idx (.var 4) (.con (.int 1)))], 
    .ret (.blt .tuple [.var 2])]
noncomputable def f11 : Fd := ⟨2, 5, b11⟩
theorem sc11 : FnScope ["net", "walk", "places", "number", "way"] ["net", "walk"] (defScope s11) := ⟨rfl, rfl, rfl, by decide +kernel, rfl, by decide +kernel, by decide +kernel⟩
theorem d11 {Pg : Program} {w : World} {K : PySem.W.Frag} {mg : Str → Option Value} {base : Heap} {f : Addr} {fd : FuncData} {k n : Nat} {c : Call} {cl : Nat → Addr} (Fu : Fun K "walk_places" "walk_places" s11 f fd) (B_len : mg "len" = none) (B_tuple : mg "tuple" = none) :
    FnOk Pg w K mg base CX0 (k + 1) f fd ["net", "walk"] (spC K 2 (fun args => enter c n f11 args)) := by
  refine fn_ok Fu sc11 rfl rfl fun cdv A outer s H E hr => ?_
  have nd := sc11.nd
  have hc : true = true := rfl
  refine sb_cons ?_ ?_
  · exact (by (first | with_reducible refine ss_asg (i := 2) ?q46_1 ?q46_2 ?q46_3 ?q46_4 ?q46_5 ?q46_6 | refine ss_asg (i := 2) ?q46_1 ?q46_2 ?q46_3 ?q46_4 ?q46_5 ?q46_6); (case q46_1 => exact nd); (case q46_2 => exact rfl); (case q46_3 => exact (Or.inl rfl)); (case q46_5 => exact (by rfl)); (case q46_6 => exact (Or.inl rfl)); (case q46_4 => exact (sx_lst sa_nil)))
  with_reducible refine sb_cons ?_ ?_
  · exact (by (first | with_reducible refine ss_for1 (i := 3) ?q59_1 ?q59_2 ?q59_3 ?q59_4 ?q59_5 ?q59_6 ?q59_7 ?q59_8 ?q59_9 | refine ss_for1 (i := 3) ?q59_1 ?q59_2 ?q59_3 ?q59_4 ?q59_5 ?q59_6 ?q59_7 ?q59_8 ?q59_9); (case q59_1 => exact PassesOwn.never); (case q59_2 => exact hc); (case q59_3 => exact nd); (case q59_4 => exact rfl); (case q59_5 => exact (Or.inl rfl)); (case q59_6 => exact (si_seq (sv 1))); (case q59_7 => exact (by (first | with_reducible refine sb_cons  ?q58_1 ?q58_2 | refine sb_cons  ?q58_1 ?q58_2); (case q58_1 => exact (by (first | with_reducible refine ss_if  ?q57_1 ?q57_2 ?q57_3 | refine ss_if  ?q57_1 ?q57_2 ?q57_3); (case q57_1 => exact (SW.st (sw_or (st_not (st_chain op_leD op_ltD sx_int (sv 3) (sx_len rfl (by rfl) B_len (sx_idx (sv 0) sx_int)))) (sw_or1 (st_cmp op_ltD (sx_idx (sx_idx (sx_idx (sv 0) sx_int) (sv 3)) sx_int) sx_int (nomark _)))))); (case q57_2 => exact (by (first | with_reducible refine sb_cons  ?q56_1 ?q56_2 | refine sb_cons  ?q56_1 ?q56_2); (case q56_1 => exact ss_rais); (case q56_2 => exact sb_nil))); (case q57_3 => exact sb_nil))); (case q58_2 => exact (by (first | with_reducible refine sb_cons  ?q55_1 ?q55_2 | refine sb_cons  ?q55_1 ?q55_2); (case q55_1 => exact (by (first | with_reducible refine ss_asg (i := 4) ?q54_1 ?q54_2 ?q54_3 ?q54_4 ?q54_5 ?q54_6 | refine ss_asg (i := 4) ?q54_1 ?q54_2 ?q54_3 ?q54_4 ?q54_5 ?q54_6); (case q54_1 => exact nd); (case q54_2 => exact rfl); (case q54_3 => exact (Or.inl rfl)); (case q54_5 => exact (by rfl)); (case q54_6 => exact (Or.inl rfl)); (case q54_4 => exact (sx_idx (sx_idx (sv 0) sx_int) (sv 3))))); (case q55_2 => exact (by (first | with_reducible refine sb_cons  ?q53_1 ?q53_2 | refine sb_cons  ?q53_1 ?q53_2); (case q53_1 => exact (by (first | with_reducible refine ss_if  ?q52_1 ?q52_2 ?q52_3 | refine ss_if  ?q52_1 ?q52_2 ?q52_3); (case q52_1 => exact (st_cmp (op_eqD (room_u hr)) (sx_len rfl (by rfl) B_len (sv 2)) sx_int (nomark _))); (case q52_2 => exact (by (first | with_reducible refine sb_cons  ?q51_1 ?q51_2 | refine sb_cons  ?q51_1 ?q51_2); (case q51_1 => exact (sx_app_core (k := 2) rfl (by first | exact Or.inl rfl | exact Or.inr (Or.inl rfl)) (sx_idx (sv 4) sx_int))); (case q51_2 => exact sb_nil))); (case q52_3 => exact sb_nil))); (case q53_2 => exact (by (first | with_reducible refine sb_cons  ?q50_1 ?q50_2 | refine sb_cons  ?q50_1 ?q50_2); (case q50_1 => exact (by (first | with_reducible refine ss_if  ?q49_1 ?q49_2 ?q49_3 | refine ss_if  ?q49_1 ?q49_2 ?q49_3); (case q49_1 => exact (SW.st (sw_or (st_cmp (op_neD (room_u hr)) (sx_idx (sv 4) sx_int) (sx_idx (sv 2) (sx_neg sx_int)) (nomark _)) (sw_or1 (st_cmp op_innD (sx_idx (sv 4) sx_int) (sv 2) (by with_unfolding_all rfl)))))); (case q49_2 => exact (by (first | with_reducible refine sb_cons  ?q48_1 ?q48_2 | refine sb_cons  ?q48_1 ?q48_2); (case q48_1 => exact ss_rais); (case q48_2 => exact sb_nil))); (case q49_3 => exact sb_nil))); (case q50_2 => exact (by (first | with_reducible refine sb_cons  ?q47_1 ?q47_2 | refine sb_cons  ?q47_1 ?q47_2); (case q47_1 => exact (sx_app_core (k := 2) rfl (by first | exact Or.inl rfl | exact Or.inr (Or.inl rfl)) (sx_idx (sv 4) sx_int))); (case q47_2 => exact sb_nil))))))))))); (case q59_8 => exact (by intro _; rfl)); (case q59_9 => exact (Or.inl rfl)))
  with_reducible refine sb_cons ?_ ?_
  · exact (by (first | with_reducible refine ss_ret  ?q60_1 | refine ss_ret  ?q60_1); (case q60_1 => exact (sx_tuple rfl (by rfl) B_tuple (sv 2))))
  exact sb_nil
noncomputable abbrev s12 : Stmt := top 20
noncomputable def b12 : List S := [
    .expr (.call 11 [.var 0, .var 1]), 
    .ret (.blt .sum [.comp (.var 1) 1 [2] true none (.idx (.idx (.idx (.var 0) (.con (.int 1))) (.var 2)) (.con (.int 3)))])]
noncomputable def f12 : Fd := ⟨2, 2, b12⟩
theorem sc12 : FnScope ["net", "walk"] ["net", "walk"] (defScope s12) := ⟨rfl, rfl, rfl, by decide +kernel, rfl, by decide +kernel, by decide +kernel⟩
theorem d12 {Pg : Program} {w : World} {K : PySem.W.Frag} {mg : Str → Option Value} {base : Heap} {f : Addr} {fd : FuncData} {k n : Nat} {c : Call} {cl : Nat → Addr} (Fu : Fun K "walk_length" "walk_length" s12 f fd) (B_sum : mg "sum" = none) (C_walk_places : CallOk Pg w K mg base k c 11 "walk_places" 2) :
    FnOk Pg w K mg base CX0 (k + 1) f fd ["net", "walk"] (spC K 2 (fun args => enter c n f12 args)) := by
  refine fn_ok Fu sc12 rfl rfl fun cdv A outer s H E hr => ?_
  have nd := sc12.nd
  have hc : true = true := rfl
  refine sb_cons ?_ ?_
  · exact (ss_expr (sxc C_walk_places hr (sg_cons (sv 0) (sg_cons (sv 1) sg_nil (starEach_nst rfl)) (starEach_nst rfl))))
  with_reducible refine sb_cons ?_ ?_
  · exact (by (first | with_reducible refine ss_ret  ?q61_1 | refine ss_ret  ?q61_1); (case q61_1 => exact (sx_sum rfl hc (by rfl) B_sum (sx_comp (N' := ["net", "walk", "number"]) hc (cOk rfl (by rfl)) (si_seq (sv 1)) (fun _ _ _ _ _ => pg_name (i := 2) (show (["net", "walk", "number"] : List Str).Nodup by decide +kernel) rfl (Or.inl rfl) (Or.inr rfl)) (tgc_name (Nat.le_refl _)) (fun _ _ _ _ _ => sq_none) (fun _ _ _ _ _ => (sx_idx (sx_idx (sx_idx (sv 0) sx_int) (sv 2)) sx_int))))))
  exact sb_nil
noncomputable abbrev s13 : Stmt := top 22
noncomputable def b13 : List S := [
    .ifs (.cmp .ge (.var 0) (.bin .pow (.con (.int 10)) (.con (.int 18)))) [.ret (.lst [.bin .sub (.var 0) (.bin .pow (.con (.int 10)) (.con (.int 18)))])] [], 
    .asg 1 (.con (.int 0)), 
    .asg 2 (.bin .add (.bin .mod (.var 0) (.con (.int 2147483647))) (.con (.int 16807))), 
    .forr (.rng (.con (.int 0)) (.con (.int 48))) [3] true [.asg 2 (.bin .mod (.bin .add (.bin .add (.bin .mul (.var 2) (.con (.int 48271))) (.bin .mul (.bin .mul (.con (.int 7919)) (.var 3)) (.var 3))) (.con (.int 104729))) (.con (.int 2147483647))), .asg 4 (.bin .mod (.bin .mul (.var 2) (.var 2)) (.con (.int 2147483629))), .asg 1 (.bin .add (.bin .mul (.var 1) (.con (.int 65536))) (.bin .mod (.bin .fdiv (.var 4) (.con (.int 512))) (.con (.int 65536))))], 
    .ret (.lst [.var 1])]
noncomputable def f13 : Fd := ⟨1, 5, b13⟩
theorem sc13 : FnScope ["cell", "number", "one", "k", "two"] ["cell"] (defScope s13) := ⟨rfl, rfl, rfl, by decide +kernel, rfl, by decide +kernel, by decide +kernel⟩
theorem d13 {Pg : Program} {w : World} {K : PySem.W.Frag} {mg : Str → Option Value} {base : Heap} {f : Addr} {fd : FuncData} {k n : Nat} {c : Call} {cl : Nat → Addr} (Fu : Fun K "_law_pot" "_law_pot" s13 f fd) (B_range : mg "range" = none) :
    FnOk Pg w K mg base CX0 (k + 1) f fd ["cell"] (spC K 1 (fun args => enter c n f13 args)) := by
  refine fn_ok Fu sc13 rfl rfl fun cdv A outer s H E hr => ?_
  have nd := sc13.nd
  have hc : true = true := rfl
  refine sb_cons ?_ ?_
  · exact (by (first | with_reducible refine ss_if  ?q64_1 ?q64_2 ?q64_3 | refine ss_if  ?q64_1 ?q64_2 ?q64_3); (case q64_1 => exact (st_cmp op_geD (sv 0) (sx_bin op_powD sx_int sx_int) (nomark _))); (case q64_2 => exact (by (first | with_reducible refine sb_cons  ?q63_1 ?q63_2 | refine sb_cons  ?q63_1 ?q63_2); (case q63_1 => exact (by (first | with_reducible refine ss_ret  ?q62_1 | refine ss_ret  ?q62_1); (case q62_1 => exact (sx_lst (sa_cons (sx_bin op_subD (sv 0) (sx_bin op_powD sx_int sx_int)) sa_nil (starEach_nst rfl)))))); (case q63_2 => exact sb_nil))); (case q64_3 => exact sb_nil))
  with_reducible refine sb_cons ?_ ?_
  · exact (by (first | with_reducible refine ss_asg (i := 1) ?q65_1 ?q65_2 ?q65_3 ?q65_4 ?q65_5 ?q65_6 | refine ss_asg (i := 1) ?q65_1 ?q65_2 ?q65_3 ?q65_4 ?q65_5 ?q65_6); (case q65_1 => exact nd); (case q65_2 => exact rfl); (case q65_3 => exact (Or.inl rfl)); (case q65_5 => exact (by rfl)); (case q65_6 => exact (Or.inl rfl)); (case q65_4 => exact sx_int))
  with_reducible refine sb_cons ?_ ?_
  · exact (by (first | with_reducible refine ss_asg (i := 2) ?q66_1 ?q66_2 ?q66_3 ?q66_4 ?q66_5 ?q66_6 | refine ss_asg (i := 2) ?q66_1 ?q66_2 ?q66_3 ?q66_4 ?q66_5 ?q66_6); (case q66_1 => exact nd); (case q66_2 => exact rfl); (case q66_3 => exact (Or.inl rfl)); (case q66_5 => exact (by rfl)); (case q66_6 => exact (Or.inl rfl)); (case q66_4 => exact (sx_bin op_addD (sx_bin op_modD (sv 0) sx_int) sx_int)))
  with_reducible refine sb_cons ?_ ?_
  · exact (by (first | with_reducible refine ss_for1 (i := 3) ?q73_1 ?q73_2 ?q73_3 ?q73_4 ?q73_5 ?q73_6 ?q73_7 ?q73_8 ?q73_9 | refine ss_for1 (i := 3) ?q73_1 ?q73_2 ?q73_3 ?q73_4 ?q73_5 ?q73_6 ?q73_7 ?q73_8 ?q73_9); (case q73_1 => exact PassesOwn.never); (case q73_2 => exact hc); (case q73_3 => exact nd); (case q73_4 => exact rfl); (case q73_5 => exact (Or.inl rfl)); (case q73_6 => exact (si_rng1 rfl (by rfl) B_range sx_int)); (case q73_7 => exact (by (first | with_reducible refine sb_cons  ?q72_1 ?q72_2 | refine sb_cons  ?q72_1 ?q72_2); (case q72_1 => exact (by (first | with_reducible refine ss_asg (i := 2) ?q71_1 ?q71_2 ?q71_3 ?q71_4 ?q71_5 ?q71_6 | refine ss_asg (i := 2) ?q71_1 ?q71_2 ?q71_3 ?q71_4 ?q71_5 ?q71_6); (case q71_1 => exact nd); (case q71_2 => exact rfl); (case q71_3 => exact (Or.inl rfl)); (case q71_5 => exact (by rfl)); (case q71_6 => exact (Or.inl rfl)); (case q71_4 => exact (sx_bin op_modD (sx_bin op_addD (sx_bin op_addD (sx_bin op_mulD (sv 2) sx_int) (sx_bin op_mulD (sx_bin op_mulD sx_int (sv 3)) (sv 3))) sx_int) sx_int)))); (case q72_2 => exact (by (first | with_reducible refine sb_cons  ?q70_1 ?q70_2 | refine sb_cons  ?q70_1 ?q70_2); (case q70_1 => exact (by (first | with_reducible refine ss_asg (i := 4) ?q69_1 ?q69_2 ?q69_3 ?q69_4 ?q69_5 ?q69_6 | refine ss_asg (i := 4) ?q69_1 ?q69_2 ?q69_3 ?q69_4 ?q69_5 ?q69_6); (case q69_1 => exact nd); (case q69_2 => exact rfl); (case q69_3 => exact (Or.inl rfl)); (case q69_5 => exact (by rfl)); (case q69_6 => exact (Or.inl rfl)); (case q69_4 => exact (sx_bin op_modD (sx_bin op_mulD (sv 2) (sv 2)) sx_int)))); (case q70_2 => exact (by (first | with_reducible refine sb_cons  ?q68_1 ?q68_2 | refine sb_cons  ?q68_1 ?q68_2); (case q68_1 => exact (by (first | with_reducible refine ss_asg (i := 1) ?q67_1 ?q67_2 ?q67_3 ?q67_4 ?q67_5 ?q67_6 | refine ss_asg (i := 1) ?q67_1 ?q67_2 ?q67_3 ?q67_4 ?q67_5 ?q67_6); (case q67_1 => exact nd); (case q67_2 => exact rfl); (case q67_3 => exact (Or.inl rfl)); (case q67_5 => exact (by rfl)); (case q67_6 => exact (Or.inl rfl)); (case q67_4 => exact (sx_bin op_addD (sx_bin op_mulD (sv 1) sx_int) (sx_bin op_modD (sx_bin op_fdivD (sv 4) sx_int) sx_int))))); (case q68_2 => exact sb_nil))))))); (case q73_8 => exact (by intro _; rfl)); (case q73_9 => exact (Or.inl rfl)))
  with_reducible refine sb_cons ?_ ?_
  · exact (by (first | with_reducible refine ss_ret  ?q74_1 | refine ss_ret  ?q74_1); (case q74_1 => exact (sx_lst (sa_cons (sv 1) sa_nil (starEach_nst rfl)))))
  exact sb_nil
noncomputable abbrev s14 : Stmt := top 23
noncomputable def b14 : List S := [
    .asg 2 (.bin .mod (.idx (.var 0) (.con (.int 0))) (.var 1)), 
    .seti 0 (.con (.int 0)) (.bin .fdiv (.idx (.var 0) (.con (.int 0))) (.var 1)), 
    .ret (.var 2)]
noncomputable def f14 : Fd := ⟨2, 3, b14⟩
theorem sc14 : FnScope ["pot", "many", "digit"] ["pot", "many"] (defScope s14) := ⟨rfl, rfl, rfl, by decide +kernel, rfl, by decide +kernel, by decide +kernel⟩
theorem d14 {Pg : Program} {w : World} {K : PySem.W.Frag} {mg : Str → Option Value} {base : Heap} {f : Addr} {fd : FuncData} {k n : Nat} {c : Call} {cl : Nat → Addr} (Fu : Fun K "_law_take" "_law_take" s14 f fd) :
    FnOk Pg w K mg base CX0 (k + 1) f fd ["pot", "many"] (spC K 2 (fun args => enter c n f14 args)) := by
  refine fn_ok Fu sc14 rfl rfl fun cdv A outer s H E hr => ?_
  have nd := sc14.nd
  have hc : true = true := rfl
  refine sb_cons ?_ ?_
  · exact (by (first | with_reducible refine ss_asg (i := 2) ?q75_1 ?q75_2 ?q75_3 ?q75_4 ?q75_5 ?q75_6 | refine ss_asg (i := 2) ?q75_1 ?q75_2 ?q75_3 ?q75_4 ?q75_5 ?q75_6); (case q75_1 => exact nd); (case q75_2 => exact rfl); (case q75_3 => exact (Or.inl rfl)); (case q75_5 => exact (by rfl)); (case q75_6 => exact (Or.inl rfl)); (case q75_4 => exact (sx_bin op_modD (sx_idx (sv 0) sx_int) (sv 1))))
  with_reducible refine sb_cons ?_ ?_
  · exact (ss_seti (k := 0) rfl (by first | exact Or.inl rfl | exact Or.inr (Or.inl rfl)) sx_int (sx_bin op_fdivD (sx_idx (sv 0) sx_int) (sv 1)))
  with_reducible refine sb_cons ?_ ?_
  · exact (by (first | with_reducible refine ss_ret  ?q76_1 | refine ss_ret  ?q76_1); (case q76_1 => exact (sv 2)))
  exact sb_nil
noncomputable abbrev s15 : Stmt := top 24
noncomputable def b15 : List S := [
    .asg 2 (.call 14 [.var 0, .var 1]), 
    .asg 3 (.bin .mod (.bin .add (.bin .add (.var 2) (.con (.int 1))) (.call 14 [.var 0, .bin .sub (.var 1) (.con (.int 1))])) (.var 1)), 
    .ifs (.and (.cmp .lt (.var 3) (.var 2)) (.cmp .gt (.call 14 [.var 0, .con (.int 3)]) (.con (.int 0)))) [.par 2 3 (.var 3) (.var 2)] [], 
    .asg 4 (.idx (.lst [.con (.int 0), .con (.int 1), .con (.int 2), .con (.int 3), .bin .add (.con (.int 1)) (.call 14 [.var 0, .con (.int 30)]), .bin .sub (.bin .pow (.con (.int 10)) (.con (.int 9))) (.call 14 [.var 0, .con (.int 3)])]) (.blt .min2 [.con (.int 5), .call 14 [.var 0, .con (.int 10)]])), 
    .asg 5 (.idx (.lst [.con (.int 1), .con (.int 1), .con (.int 2), .con (.int 3), .bin .add (.con (.int 1)) (.call 14 [.var 0, .con (.int 30)]), .bin .sub (.bin .pow (.con (.int 10)) (.con (.int 6))) (.call 14 [.var 0, .con (.int 3)])]) (.blt .min2 [.con (.int 5), .call 14 [.var 0, .con (.int 7)]])), 
    .ifs (.cmp .eq (.call 14 [.var 0, .con (.int 2)]) (.con (.int 0))) [.asg 4 (.bin .add (.con (.int 1)) (.call 14 [.var 0, .con (.int 5)]))] [], 
    .ifs (.cmp .eq (.call 14 [.var 0, .con (.int 2)]) (.con (.int 0))) [.asg 5 (.bin .add (.con (.int 1)) (.call 14 [.var 0, .con (.int 5)]))] [], 
    .ret (.tup [.var 2, .var 3, .var 4, .var 5])]
noncomputable def f15 : Fd := ⟨2, 6, b15⟩
theorem sc15 : FnScope ["pot", "many", "start", "to", "room", "hours"] ["pot", "many"] (defScope s15) := ⟨rfl, rfl, rfl, by decide +kernel, rfl, by decide +kernel, by decide +kernel⟩
theorem d15 {Pg : Program} {w : World} {K : PySem.W.Frag} {mg : Str → Option Value} {base : Heap} {f : Addr} {fd : FuncData} {k n : Nat} {c : Call} {cl : Nat → Addr} (Fu : Fun K "_law_way" "_law_way" s15 f fd) (B_min : mg "min" = none) (C__law_take : CallOk Pg w K mg base k c 14 "_law_take" 2) :
    FnOk Pg w K mg base CX0 (k + 1) f fd ["pot", "many"] (spC K 2 (fun args => enter c n f15 args)) := by
  refine fn_ok Fu sc15 rfl rfl fun cdv A outer s H E hr => ?_
  have nd := sc15.nd
  have hc : true = true := rfl
  refine sb_cons ?_ ?_
  · exact (by (first | with_reducible refine ss_asg (i := 2) ?q77_1 ?q77_2 ?q77_3 ?q77_4 ?q77_5 ?q77_6 | refine ss_asg (i := 2) ?q77_1 ?q77_2 ?q77_3 ?q77_4 ?q77_5 ?q77_6); (case q77_1 => exact nd); (case q77_2 => exact rfl); (case q77_3 => exact (Or.inl rfl)); (case q77_5 => exact (by rfl)); (case q77_6 => exact (Or.inl rfl)); (case q77_4 => exact (sxc C__law_take hr (sg_cons (sv 0) (sg_cons (sv 1) sg_nil (starEach_nst rfl)) (starEach_nst rfl)))))
  with_reducible refine sb_cons ?_ ?_
  · exact (by (first | with_reducible refine ss_asg (i := 3) ?q78_1 ?q78_2 ?q78_3 ?q78_4 ?q78_5 ?q78_6 | refine ss_asg (i := 3) ?q78_1 ?q78_2 ?q78_3 ?q78_4 ?q78_5 ?q78_6); (case q78_1 => exact nd); (case q78_2 => exact rfl); (case q78_3 => exact (Or.inl rfl)); (case q78_5 => exact (by rfl)); (case q78_6 => exact (Or.inl rfl)); (case q78_4 => exact (sx_bin op_modD (sx_bin op_addD (sx_bin op_addD (sv 2) sx_int) (sxc C__law_take hr (sg_cons (sv 0) (sg_cons (sx_bin op_subD (sv 1) sx_int) sg_nil (starEach_nst rfl)) (starEach_nst rfl)))) (sv 1))))
  with_reducible refine sb_cons ?_ ?_
  · exact (by (first | with_reducible refine ss_if  ?q80_1 ?q80_2 ?q80_3 | refine ss_if  ?q80_1 ?q80_2 ?q80_3); (case q80_1 => exact (SW.st (sw_and (st_cmp op_ltD (sv 3) (sv 2) (nomark _)) (sw_and1 (st_cmp op_gtD (sxc C__law_take hr (sg_cons (sv 0) (sg_cons sx_int sg_nil (starEach_nst rfl)) (starEach_nst rfl))) sx_int (nomark _)))))); (case q80_2 => exact (by (first | with_reducible refine sb_cons  ?q79_1 ?q79_2 | refine sb_cons  ?q79_1 ?q79_2); (case q79_1 => exact (ss_par (i := 2) (j := 3) hc nd rfl rfl (by decide) rfl rfl (sv 3) (sv 2))); (case q79_2 => exact sb_nil))); (case q80_3 => exact sb_nil))
  with_reducible refine sb_cons ?_ ?_
  · exact (by (first | with_reducible refine ss_asg (i := 4) ?q81_1 ?q81_2 ?q81_3 ?q81_4 ?q81_5 ?q81_6 | refine ss_asg (i := 4) ?q81_1 ?q81_2 ?q81_3 ?q81_4 ?q81_5 ?q81_6); (case q81_1 => exact nd); (case q81_2 => exact rfl); (case q81_3 => exact (Or.inl rfl)); (case q81_5 => exact (by rfl)); (case q81_6 => exact (Or.inl rfl)); (case q81_4 => exact (sx_idx (sx_lst (sa_preI [0, 1, 2, 3] rfl (sa_cons (sx_bin op_addD sx_int (sxc C__law_take hr (sg_cons (sv 0) (sg_cons sx_int sg_nil (starEach_nst rfl)) (starEach_nst rfl)))) (sa_cons (sx_bin op_subD (sx_bin op_powD sx_int sx_int) (sxc C__law_take hr (sg_cons (sv 0) (sg_cons sx_int sg_nil (starEach_nst rfl)) (starEach_nst rfl)))) sa_nil (starEach_nst rfl)) (starEach_nst rfl)))) (sx_min2 rfl hc (by rfl) B_min (sa_cons sx_int (sa_cons (sxc C__law_take hr (sg_cons (sv 0) (sg_cons sx_int sg_nil (starEach_nst rfl)) (starEach_nst rfl))) sa_nil (starEach_nst rfl)) (starEach_nst rfl))))))
  with_reducible refine sb_cons ?_ ?_
  · exact (by (first | with_reducible refine ss_asg (i := 5) ?q82_1 ?q82_2 ?q82_3 ?q82_4 ?q82_5 ?q82_6 | refine ss_asg (i := 5) ?q82_1 ?q82_2 ?q82_3 ?q82_4 ?q82_5 ?q82_6); (case q82_1 => exact nd); (case q82_2 => exact rfl); (case q82_3 => exact (Or.inl rfl)); (case q82_5 => exact (by rfl)); (case q82_6 => exact (Or.inl rfl)); (case q82_4 => exact (sx_idx (sx_lst (sa_preI [1, 1, 2, 3] rfl (sa_cons (sx_bin op_addD sx_int (sxc C__law_take hr (sg_cons (sv 0) (sg_cons sx_int sg_nil (starEach_nst rfl)) (starEach_nst rfl)))) (sa_cons (sx_bin op_subD (sx_bin op_powD sx_int sx_int) (sxc C__law_take hr (sg_cons (sv 0) (sg_cons sx_int sg_nil (starEach_nst rfl)) (starEach_nst rfl)))) sa_nil (starEach_nst rfl)) (starEach_nst rfl)))) (sx_min2 rfl hc (by rfl) B_min (sa_cons sx_int (sa_cons (sxc C__law_take hr (sg_cons (sv 0) (sg_cons sx_int sg_nil (starEach_nst rfl)) (starEach_nst rfl))) sa_nil (starEach_nst rfl)) (starEach_nst rfl))))))
  with_reducible refine sb_cons ?_ ?_
  · exact (by (first | with_reducible refine ss_if  ?q85_1 ?q85_2 ?q85_3 | refine ss_if  ?q85_1 ?q85_2 ?q85_3); (case q85_1 => exact (st_cmp (op_eqD (room_u hr)) (sxc C__law_take hr (sg_cons (sv 0) (sg_cons sx_int sg_nil (starEach_nst rfl)) (starEach_nst rfl))) sx_int (nomark _))); (case q85_2 => exact (by (first | with_reducible refine sb_cons  ?q84_1 ?q84_2 | refine sb_cons  ?q84_1 ?q84_2); (case q84_1 => exact (by (first | with_reducible refine ss_asg (i := 4) ?q83_1 ?q83_2 ?q83_3 ?q83_4 ?q83_5 ?q83_6 | refine ss_asg (i := 4) ?q83_1 ?q83_2 ?q83_3 ?q83_4 ?q83_5 ?q83_6); (case q83_1 => exact nd); (case q83_2 => exact rfl); (case q83_3 => exact (Or.inl rfl)); (case q83_5 => exact (by rfl)); (case q83_6 => exact (Or.inl rfl)); (case q83_4 => exact (sx_bin op_addD sx_int (sxc C__law_take hr (sg_cons (sv 0) (sg_cons sx_int sg_nil (starEach_nst rfl)) (starEach_nst rfl))))))); (case q84_2 => exact sb_nil))); (case q85_3 => exact sb_nil))
  with_reducible refine sb_cons ?_ ?_
  · exact (by (first | with_reducible refine ss_if  ?q88_1 ?q88_2 ?q88_3 | refine ss_if  ?q88_1 ?q88_2 ?q88_3); (case q88_1 => exact (st_cmp (op_eqD (room_u hr)) (sxc C__law_take hr (sg_cons (sv 0) (sg_cons sx_int sg_nil (starEach_nst rfl)) (starEach_nst rfl))) sx_int (nomark _))); (case q88_2 => exact (by (first | with_reducible refine sb_cons  ?q87_1 ?q87_2 | refine sb_cons  ?q87_1 ?q87_2); (case q87_1 => exact (by (first | with_reducible refine ss_asg (i := 5) ?q86_1 ?q86_2 ?q86_3 ?q86_4 ?q86_5 ?q86_6 | refine ss_asg (i := 5) ?q86_1 ?q86_2 ?q86_3 ?q86_4 ?q86_5 ?q86_6); (case q86_1 => exact nd); (case q86_2 => exact rfl); (case q86_3 => exact (Or.inl rfl)); (case q86_5 => exact (by rfl)); (case q86_6 => exact (Or.inl rfl)); (case q86_4 => exact (sx_bin op_addD sx_int (sxc C__law_take hr (sg_cons (sv 0) (sg_cons sx_int sg_nil (starEach_nst rfl)) (starEach_nst rfl))))))); (case q87_2 => exact sb_nil))); (case q88_3 => exact sb_nil))
  with_reducible refine sb_cons ?_ ?_
  · exact (by (first | with_reducible refine ss_ret  ?q89_1 | refine ss_ret  ?q89_1); (case q89_1 => exact (sx_tup (sa_cons (sv 2) (sa_cons (sv 3) (sa_cons (sv 4) (sa_cons (sv 5) sa_nil (starEach_nst rfl)) (starEach_nst rfl)) (starEach_nst rfl)) (starEach_nst rfl)))))
  exact sb_nil
noncomputable abbrev s16 : Stmt := top 25
noncomputable def b16 : List S := [
    .asg 1 (.bin .add (.con (.int 2)) (.call 14 [.var 0, .con (.int 5)])), 
    .asg 2 (.lst []), 
    .forr (.rng (.con (.int 0)) (.idx (.lst [.call 14 [.var 0, .con (.int 13)], .con (.int 12), .bin .add (.con (.int 4)) (.call 14 [.var 0, .con (.int 6)])]) (.call 14 [.var 0, .con (.int 3)]))) [3] true [.asg 4 (.call 15 [.var 0, .var 1]), .ifs (.and (.cmp .ne (.var 2) (.lst [])) (.cmp .eq (.call 14 [.var 0, .con (.int 8)]) (.con (.int 0)))) [.asg 4 (.idx (.var 2) (.call 14 [.var 0, .blt .len [.var 2]]))] [], .app 2 (.var 4)], 
    .ret (.tup [.var 1, .blt .tuple [.var 2]])]
noncomputable def f16 : Fd := ⟨1, 5, b16⟩
theorem sc16 : FnScope ["pot", "many", "ways", "k", "way"] ["pot"] (defScope s16) := ⟨rfl, rfl, rfl, by decide +kernel, rfl, by decide +kernel, by decide +kernel⟩
theorem d16 {Pg : Program} {w : World} {K : PySem.W.Frag} {mg : Str → Option Value} {base : Heap} {f : Addr} {fd : FuncData} {k n : Nat} {c : Call} {cl : Nat → Addr} (Fu : Fun K "_law_net" "_law_net" s16 f fd) (B_len : mg "len" = none) (B_range : mg "range" = none) (B_tuple : mg "tuple" = none) (C__law_take : CallOk Pg w K mg base k c 14 "_law_take" 2) (C__law_way : CallOk Pg w K mg base k c 15 "_law_way" 2) :
    FnOk Pg w K mg base CX0 (k + 1) f fd ["pot"] (spC K 1 (fun args => enter c n f16 args)) := by
  refine fn_ok Fu sc16 rfl rfl fun cdv A outer s H E hr => ?_
  have nd := sc16.nd
  have hc : true = true := rfl
  refine sb_cons ?_ ?_
  · exact (by (first | with_reducible refine ss_asg (i := 1) ?q90_1 ?q90_2 ?q90_3 ?q90_4 ?q90_5 ?q90_6 | refine ss_asg (i := 1) ?q90_1 ?q90_2 ?q90_3 ?q90_4 ?q90_5 ?q90_6); (case q90_1 => exact nd); (case q90_2 => exact rfl); (case q90_3 => exact (Or.inl rfl)); (case q90_5 => exact (by rfl)); (case q90_6 => exact (Or.inl rfl)); (case q90_4 => exact (sx_bin op_addD sx_int (sxc C__law_take hr (sg_cons (sv 0) (sg_cons sx_int sg_nil (starEach_nst rfl)) (starEach_nst rfl))))))
  with_reducible refine sb_cons ?_ ?_
  · exact (by (first | with_reducible refine ss_asg (i := 2) ?q91_1 ?q91_2 ?q91_3 ?q91_4 ?q91_5 ?q91_6 | refine ss_asg (i := 2) ?q91_1 ?q91_2 ?q91_3 ?q91_4 ?q91_5 ?q91_6); (case q91_1 => exact nd); (case q91_2 => exact rfl); (case q91_3 => exact (Or.inl rfl)); (case q91_5 => exact (by rfl)); (case q91_6 => exact (Or.inl rfl)); (case q91_4 => exact (sx_lst sa_nil)))
  with_reducible refine sb_cons ?_ ?_
  · exact (by (first | with_reducible refine ss_for1 (i := 3) ?q99_1 ?q99_2 ?q99_3 ?q99_4 ?q99_5 ?q99_6 ?q99_7 ?q99_8 ?q99_9 | refine ss_for1 (i := 3) ?q99_1 ?q99_2 ?q99_3 ?q99_4 ?q99_5 ?q99_6 ?q99_7 ?q99_8 ?q99_9); (case q99_1 => exact PassesOwn.never); (case q99_2 => exact hc); (case q99_3 => exact nd); (case q99_4 => exact rfl); (case q99_5 => exact (Or.inl rfl)); (case q99_6 => exact (si_rng1 rfl (by rfl) B_range (sx_idx (sx_lst (sa_cons (sxc C__law_take hr (sg_cons (sv 0) (sg_cons sx_int sg_nil (starEach_nst rfl)) (starEach_nst rfl))) (sa_cons sx_int (sa_cons (sx_bin op_addD sx_int (sxc C__law_take hr (sg_cons (sv 0) (sg_cons sx_int sg_nil (starEach_nst rfl)) (starEach_nst rfl)))) sa_nil (starEach_nst rfl)) (starEach_nst rfl)) (starEach_nst rfl))) (sxc C__law_take hr (sg_cons (sv 0) (sg_cons sx_int sg_nil (starEach_nst rfl)) (starEach_nst rfl)))))); (case q99_7 => exact (by (first | with_reducible refine sb_cons  ?q98_1 ?q98_2 | refine sb_cons  ?q98_1 ?q98_2); (case q98_1 => exact (by (first | with_reducible refine ss_asg (i := 4) ?q97_1 ?q97_2 ?q97_3 ?q97_4 ?q97_5 ?q97_6 | refine ss_asg (i := 4) ?q97_1 ?q97_2 ?q97_3 ?q97_4 ?q97_5 ?q97_6); (case q97_1 => exact nd); (case q97_2 => exact rfl); (case q97_3 => exact (Or.inl rfl)); (case q97_5 => exact (by rfl)); (case q97_6 => exact (Or.inl rfl)); (case q97_4 => exact (sxc C__law_way hr (sg_cons (sv 0) (sg_cons (sv 1) sg_nil (starEach_nst rfl)) (starEach_nst rfl)))))); (case q98_2 => exact (by (first | with_reducible refine sb_cons  ?q96_1 ?q96_2 | refine sb_cons  ?q96_1 ?q96_2); (case q96_1 => exact (by (first | with_reducible refine ss_if  ?q95_1 ?q95_2 ?q95_3 | refine ss_if  ?q95_1 ?q95_2 ?q95_3); (case q95_1 => exact (SW.st (sw_and (st_cmp (op_neD (room_u hr)) (sv 2) (sx_lst sa_nil) (nomark _)) (sw_and1 (st_cmp (op_eqD (room_u hr)) (sxc C__law_take hr (sg_cons (sv 0) (sg_cons sx_int sg_nil (starEach_nst rfl)) (starEach_nst rfl))) sx_int (nomark _)))))); (case q95_2 => exact (by (first | with_reducible refine sb_cons  ?q94_1 ?q94_2 | refine sb_cons  ?q94_1 ?q94_2); (case q94_1 => exact (by (first | with_reducible refine ss_asg (i := 4) ?q93_1 ?q93_2 ?q93_3 ?q93_4 ?q93_5 ?q93_6 | refine ss_asg (i := 4) ?q93_1 ?q93_2 ?q93_3 ?q93_4 ?q93_5 ?q93_6); (case q93_1 => exact nd); (case q93_2 => exact rfl); (case q93_3 => exact (Or.inl rfl)); (case q93_5 => exact (by rfl)); (case q93_6 => exact (Or.inl rfl)); (case q93_4 => exact (sx_idx (sv 2) (sxc C__law_take hr (sg_cons (sv 0) (sg_cons (sx_len rfl (by rfl) B_len (sv 2)) sg_nil (starEach_nst rfl)) (starEach_nst rfl))))))); (case q94_2 => exact sb_nil))); (case q95_3 => exact sb_nil))); (case q96_2 => exact (by (first | with_reducible refine sb_cons  ?q92_1 ?q92_2 | refine sb_cons  ?q92_1 ?q92_2); (case q92_1 => exact (sx_app_core (k := 2) rfl (by first | exact Or.inl rfl | exact Or.inr (Or.inl rfl)) (sv 4))); (case q92_2 => exact sb_nil))))))); (case q99_8 => exact (by intro _; rfl)); (case q99_9 => exact (Or.inl rfl)))
  with_reducible refine sb_cons ?_ ?_
  · exact (by (first | with_reducible refine ss_ret  ?q100_1 | refine ss_ret  ?q100_1); (case q100_1 => exact (sx_tup (sa_cons (sv 1) (sa_cons (sx_tuple rfl (by rfl) B_tuple (sv 2)) sa_nil (starEach_nst rfl)) (starEach_nst rfl)))))
  exact sb_nil
noncomputable abbrev s17 : Stmt := top 26
noncomputable def b17 : List S := [
    .asg 2 (.bin .mul (.lst [.con (.int 0)]) (.var 1)), 
    .forr (.rng (.con (.int 0)) (.blt .len [.var 0])) [3] true [.seti 2 (.bin .mod (.var 3) (.var 1)) (.bin .add (.bin .mul (.idx (.var 2) (.bin .mod (.var 3) (.var 1))) (.con (.int 1000003))) (.idx (.var 0) (.var 3)))], 
    .ret (.slice (.var 2) (.con .non) (.blt .max2 [.con (.int 2), .blt .min2 [.blt .len [.var 0], .var 1]]))]
noncomputable def f17 : Fd := ⟨2, 4, b17⟩
theorem sc17 : FnScope ["script", "most", "cells", "k"] ["script", "most"] (defScope s17) := ⟨rfl, rfl, rfl, by decide +kernel, rfl, by decide +kernel, by decide +kernel⟩
theorem d17 {Pg : Program} {w : World} {K : PySem.W.Frag} {mg : Str → Option Value} {base : Heap} {f : Addr} {fd : FuncData} {k n : Nat} {c : Call} {cl : Nat → Addr} (Fu : Fun K "_law_folded" "_law_folded" s17 f fd) (B_len : mg "len" = none) (B_max : mg "max" = none) (B_min : mg "min" = none) (B_range : mg "range" = none) :
    FnOk Pg w K mg base CX0 (k + 1) f fd ["script", "most"] (spC K 2 (fun args => enter c n f17 args)) := by
  refine fn_ok Fu sc17 rfl rfl fun cdv A outer s H E hr => ?_
  have nd := sc17.nd
  have hc : true = true := rfl
  refine sb_cons ?_ ?_
  · exact (by (first | with_reducible refine ss_asg (i := 2) ?q101_1 ?q101_2 ?q101_3 ?q101_4 ?q101_5 ?q101_6 | refine ss_asg (i := 2) ?q101_1 ?q101_2 ?q101_3 ?q101_4 ?q101_5 ?q101_6); (case q101_1 => exact nd); (case q101_2 => exact rfl); (case q101_3 => exact (Or.inl rfl)); (case q101_5 => exact (by rfl)); (case q101_6 => exact (Or.inl rfl)); (case q101_4 => exact (sx_bin op_mulD (sx_lst (sa_cons sx_int sa_nil (starEach_nst rfl))) (sv 1))))
  with_reducible refine sb_cons ?_ ?_
  · exact (by (first | with_reducible refine ss_for1 (i := 3) ?q103_1 ?q103_2 ?q103_3 ?q103_4 ?q103_5 ?q103_6 ?q103_7 ?q103_8 ?q103_9 | refine ss_for1 (i := 3) ?q103_1 ?q103_2 ?q103_3 ?q103_4 ?q103_5 ?q103_6 ?q103_7 ?q103_8 ?q103_9); (case q103_1 => exact PassesOwn.never); (case q103_2 => exact hc); (case q103_3 => exact nd); (case q103_4 => exact rfl); (case q103_5 => exact (Or.inl rfl)); (case q103_6 => exact (si_rng1 rfl (by rfl) B_range (sx_len rfl (by rfl) B_len (sv 0)))); (case q103_7 => exact (by (first | with_reducible refine sb_cons  ?q102_1 ?q102_2 | refine sb_cons  ?q102_1 ?q102_2); (case q102_1 => exact (ss_seti (k := 2) rfl (by first | exact Or.inl rfl | exact Or.inr (Or.inl rfl)) (sx_bin op_modD (sv 3) (sv 1)) (sx_bin op_addD (sx_bin op_mulD (sx_idx (sv 2) (sx_bin op_modD (sv 3) (sv 1))) sx_int) (sx_idx (sv 0) (sv 3))))); (case q102_2 => exact sb_nil))); (case q103_8 => exact (by intro _; rfl)); (case q103_9 => exact (Or.inl rfl)))
  with_reducible refine sb_cons ?_ ?_
  · exact (by (first | with_reducible refine ss_ret  ?q104_1 | refine ss_ret  ?q104_1); (case q104_1 => exact (sx_slice (sv 2) so_none (so_some (sx_max2 rfl hc (by rfl) B_max (sa_cons sx_int (sa_cons (sx_min2 rfl hc (by rfl) B_min (sa_cons (sx_len rfl (by rfl) B_len (sv 0)) (sa_cons (sv 1) sa_nil (starEach_nst rfl)) (starEach_nst rfl))) sa_nil (starEach_nst rfl)) (starEach_nst rfl)))))))
  exact sb_nil
noncomputable abbrev s18 : Stmt := top 27
noncomputable def b18 : List S := [
    .asg 2 (.blt .listR [.rng (.con (.int 0)) (.idx (.var 0) (.con (.int 0)))]), 
    .seti 2 (.con (.int 0)) (.var 1), 
    .seti 2 (.var 1) (.con (.int 0)), 
    .ret (.tup [.idx (.var 0) (.con (.int 0)), .blt .tuple [.comp (.idx (.var 0) (.con (.int 1))) 1 [3] true none (.tup [.idx (.var 2) (.idx (.var 3) (.con (.int 0))), .idx (.var 2) (.idx (.var 3) (.con (.int 1))), .idx (.var 3) (.con (.int 2)), .idx (.var 3) (.con (.int 3))])]])]
noncomputable def f18 : Fd := ⟨2, 3, b18⟩
theorem sc18 : FnScope ["net", "start", "places"] ["net", "start"] (defScope s18) := ⟨rfl, rfl, rfl, by decide +kernel, rfl, by decide +kernel, by decide +kernel⟩
theorem d18 {Pg : Program} {w : World} {K : PySem.W.Frag} {mg : Str → Option Value} {base : Heap} {f : Addr} {fd : FuncData} {k n : Nat} {c : Call} {cl : Nat → Addr} (Fu : Fun K "_law_begun_at" "_law_begun_at" s18 f fd) (B_list : mg "list" = none) (B_range : mg "range" = none) (B_tuple : mg "tuple" = none) :
    FnOk Pg w K mg base CX0 (k + 1) f fd ["net", "start"] (spC K 2 (fun args => enter c n f18 args)) := by
  refine fn_ok Fu sc18 rfl rfl fun cdv A outer s H E hr => ?_
  have nd := sc18.nd
  have hc : true = true := rfl
  refine sb_cons ?_ ?_
  · exact (by (first | with_reducible refine ss_asg (i := 2) ?q105_1 ?q105_2 ?q105_3 ?q105_4 ?q105_5 ?q105_6 | refine ss_asg (i := 2) ?q105_1 ?q105_2 ?q105_3 ?q105_4 ?q105_5 ?q105_6); (case q105_1 => exact nd); (case q105_2 => exact rfl); (case q105_3 => exact (Or.inr rfl)); (case q105_5 => exact (by rfl)); (case q105_6 => exact (Or.inl rfl)); (case q105_4 => exact (sx_listR1 rfl rfl hc (by rfl) B_list (by rfl) B_range (sx_idx (sv 0) sx_int))))
  with_reducible refine sb_cons ?_ ?_
  · exact (ss_seti (k := 2) rfl (by first | exact Or.inl rfl | exact Or.inr (Or.inl rfl)) sx_int (sv 1))
  with_reducible refine sb_cons ?_ ?_
  · exact (ss_seti (k := 2) rfl (by first | exact Or.inl rfl | exact Or.inr (Or.inl rfl)) (sv 1) sx_int)
  with_reducible refine sb_cons ?_ ?_
  · exact (by (first | with_reducible refine ss_ret  ?q106_1 | refine ss_ret  ?q106_1); (case q106_1 => exact (sx_tup (sa_cons (sx_idx (sv 0) sx_int) (sa_cons (sx_tuple rfl (by rfl) B_tuple (sx_comp (N' := ["net", "start", "places", "way"]) hc (cOk rfl (by rfl)) (si_seq (sx_idx (sv 0) sx_int)) (fun _ _ _ _ _ => pg_name (i := 3) (show (["net", "start", "places", "way"] : List Str).Nodup by decide +kernel) rfl (Or.inl rfl) (Or.inr rfl)) (tgc_name (Nat.le_refl _)) (fun _ _ _ _ _ => sq_none) (fun _ _ _ _ _ => (sx_tup (sa_cons (sx_idx (sv 2) (sx_idx (sv 3) sx_int)) (sa_cons (sx_idx (sv 2) (sx_idx (sv 3) sx_int)) (sa_cons (sx_idx (sv 3) sx_int) (sa_cons (sx_idx (sv 3) sx_int) sa_nil (starEach_nst rfl)) (starEach_nst rfl)) (starEach_nst rfl)) (starEach_nst rfl)))))) sa_nil (starEach_nst rfl)) (starEach_nst rfl)))))
  exact sb_nil
noncomputable abbrev s19 : Stmt := top 28
noncomputable def b19 : List S := [
    .asg 2 (.call 7 [.call 18 [.var 0, .var 1]]), 
    .swp 2 (.con (.int 0)) 2 (.var 1) (.idx (.var 2) (.var 1)) (.idx (.var 2) (.con (.int 0))), 
    .ret (.var 2)]
noncomputable def f19 : Fd := ⟨2, 3, b19⟩
theorem sc19 : FnScope ["net", "start", "found"] ["net", "start"] (defScope s19) := ⟨rfl, rfl, rfl, by decide +kernel, rfl, by decide +kernel, by decide +kernel⟩
theorem d19 {Pg : Program} {w : World} {K : PySem.W.Frag} {mg : Str → Option Value} {base : Heap} {f : Addr} {fd : FuncData} {k n : Nat} {c : Call} {cl : Nat → Addr} (Fu : Fun K "_law_hours_from" "_law_hours_from" s19 f fd) (C__law_begun_at : CallOk Pg w K mg base k c 18 "_law_begun_at" 2) (C_soonest_hours : CallOk Pg w K mg base k c 7 "soonest_hours" 1) :
    FnOk Pg w K mg base CX0 (k + 1) f fd ["net", "start"] (spC K 2 (fun args => enter c n f19 args)) := by
  refine fn_ok Fu sc19 rfl rfl fun cdv A outer s H E hr => ?_
  have nd := sc19.nd
  have hc : true = true := rfl
  refine sb_cons ?_ ?_
  · exact (by (first | with_reducible refine ss_asg (i := 2) ?q107_1 ?q107_2 ?q107_3 ?q107_4 ?q107_5 ?q107_6 | refine ss_asg (i := 2) ?q107_1 ?q107_2 ?q107_3 ?q107_4 ?q107_5 ?q107_6); (case q107_1 => exact nd); (case q107_2 => exact rfl); (case q107_3 => exact (Or.inl rfl)); (case q107_5 => exact (by rfl)); (case q107_6 => exact (Or.inl rfl)); (case q107_4 => exact (sxc C_soonest_hours hr (sg_cons (sxc C__law_begun_at hr (sg_cons (sv 0) (sg_cons (sv 1) sg_nil (starEach_nst rfl)) (starEach_nst rfl))) sg_nil (starEach_nst rfl)))))
  with_reducible refine sb_cons ?_ ?_
  · exact (ss_swp (k := 2) (l := 2) hc rfl (by first | exact Or.inl rfl | exact Or.inr (Or.inl rfl)) rfl (by first | exact Or.inl rfl | exact Or.inr (Or.inl rfl)) sx_int (sv 1) (sa_cons (sx_idx (sv 2) (sv 1)) (sa_cons (sx_idx (sv 2) sx_int) sa_nil (starEach_nst rfl)) (starEach_nst rfl)))
  with_reducible refine sb_cons ?_ ?_
  · exact (by (first | with_reducible refine ss_ret  ?q108_1 | refine ss_ret  ?q108_1); (case q108_1 => exact (sv 2)))
  exact sb_nil
noncomputable abbrev s20 : Stmt := top 29
noncomputable def b20 : List S := [
    .ret (.blt .minN [.comp (.lst [.var 0, .var 1]) 1 [2] true (some (.cmp .notN (.var 2) (.con .non))) (.var 2)])]
noncomputable def f20 : Fd := ⟨2, 2, b20⟩
theorem sc20 : FnScope ["one", "other"] ["one", "other"] (defScope s20) := ⟨rfl, rfl, rfl, by decide +kernel, rfl, by decide +kernel, by decide +kernel⟩
theorem d20 {Pg : Program} {w : World} {K : PySem.W.Frag} {mg : Str → Option Value} {base : Heap} {f : Addr} {fd : FuncData} {k n : Nat} {c : Call} {cl : Nat → Addr} (Fu : Fun K "_law_least" "_law_least" s20 f fd) (B_min : mg "min" = none) :
    FnOk Pg w K mg base CX0 (k + 1) f fd ["one", "other"] (spC K 2 (fun args => enter c n f20 args)) := by
  refine fn_ok Fu sc20 rfl rfl fun cdv A outer s H E hr => ?_
  have nd := sc20.nd
  have hc : true = true := rfl
  refine sb_cons ?_ ?_
  · exact (by (first | with_reducible refine ss_ret  ?q109_1 | refine ss_ret  ?q109_1); (case q109_1 => exact (sx_minN rfl hc (by rfl) B_min (sx_comp (N' := ["one", "other", "hours"]) hc (cOk rfl (by rfl)) (si_seq (sx_lst (sa_cons (sv 0) (sa_cons (sv 1) sa_nil (starEach_nst rfl)) (starEach_nst rfl)))) (fun _ _ _ _ _ => pg_name (i := 2) (show (["one", "other", "hours"] : List Str).Nodup by decide +kernel) rfl (Or.inl rfl) (Or.inr rfl)) (tgc_name (Nat.le_refl _)) (fun _ _ _ _ _ => sq_some (st_cmp op_notD (sv 2) sx_non (nomark _))) (fun _ _ _ _ _ => (sv 2))))))
  exact sb_nil
noncomputable abbrev s21 : Stmt := top 30
noncomputable def b21 : List S := [
    .asg 2 (.call 7 [.var 0]), 
    .asg 3 (.call 19 [.var 0, .idx (.var 1) (.con (.int 1))]), 
    .asg 4 (.lst []), 
    .forr (.rng (.con (.int 0)) (.idx (.var 0) (.con (.int 0)))) [5] true [.asg 6 (.con .non), .ifs (.and (.cmp .gt (.idx (.var 1) (.con (.int 2))) (.con (.int 0))) (.and (.cmp .notN (.idx (.var 2) (.idx (.var 1) (.con (.int 0)))) (.con .non)) (.cmp .notN (.idx (.var 3) (.var 5)) (.con .non)))) [.asg 6 (.bin .add (.bin .add (.idx (.var 2) (.idx (.var 1) (.con (.int 0)))) (.idx (.var 1) (.con (.int 3)))) (.idx (.var 3) (.var 5)))] [], .app 4 (.call 20 [.idx (.var 2) (.var 5), .var 6])], 
    .ret (.cmp .eq (.call 7 [.call 2 [.var 0, .var 1]]) (.var 4))]
noncomputable def f21 : Fd := ⟨2, 7, b21⟩
theorem sc21 : FnScope ["net", "way", "told", "beyond", "due", "place", "by_way"] ["net", "way"] (defScope s21) := ⟨rfl, rfl, rfl, by decide +kernel, rfl, by decide +kernel, by decide +kernel⟩
theorem d21 {Pg : Program} {w : World} {K : PySem.W.Frag} {mg : Str → Option Value} {base : Heap} {f : Addr} {fd : FuncData} {k n : Nat} {c : Call} {cl : Nat → Addr} (Fu : Fun K "_law_more_right" "_law_more_right" s21 f fd) (B_range : mg "range" = none) (C__law_hours_from : CallOk Pg w K mg base k c 19 "_law_hours_from" 2) (C__law_least : CallOk Pg w K mg base k c 20 "_law_least" 2) (C_put_way : CallOk Pg w K mg base k c 2 "put_way" 2) (C_soonest_hours : CallOk Pg w K mg base k c 7 "soonest_hours" 1) :
    FnOk Pg w K mg base CX0 (k + 1) f fd ["net", "way"] (spC K 2 (fun args => enter c n f21 args)) := by
  refine fn_ok Fu sc21 rfl rfl fun cdv A outer s H E hr => ?_
  have nd := sc21.nd
  have hc : true = true := rfl
  refine sb_cons ?_ ?_
  · exact (by (first | with_reducible refine ss_asg (i := 2) ?q110_1 ?q110_2 ?q110_3 ?q110_4 ?q110_5 ?q110_6 | refine ss_asg (i := 2) ?q110_1 ?q110_2 ?q110_3 ?q110_4 ?q110_5 ?q110_6); (case q110_1 => exact nd); (case q110_2 => exact rfl); (case q110_3 => exact (Or.inl rfl)); (case q110_5 => exact (by rfl)); (case q110_6 => exact (Or.inl rfl)); (case q110_4 => exact (sxc C_soonest_hours hr (sg_cons (sv 0) sg_nil (starEach_nst rfl)))))
  with_reducible refine sb_cons ?_ ?_
  · exact (by (first | with_reducible refine ss_asg (i := 3) ?q111_1 ?q111_2 ?q111_3 ?q111_4 ?q111_5 ?q111_6 | refine ss_asg (i := 3) ?q111_1 ?q111_2 ?q111_3 ?q111_4 ?q111_5 ?q111_6); (case q111_1 => exact nd); (case q111_2 => exact rfl); (case q111_3 => exact (Or.inl rfl)); (case q111_5 => exact (by rfl)); (case q111_6 => exact (Or.inl rfl)); (case q111_4 => exact (sxc C__law_hours_from hr (sg_cons (sv 0) (sg_cons (sx_idx (sv 1) sx_int) sg_nil (starEach_nst rfl)) (starEach_nst rfl)))))
  with_reducible refine sb_cons ?_ ?_
  · exact (by (first | with_reducible refine ss_asg (i := 4) ?q112_1 ?q112_2 ?q112_3 ?q112_4 ?q112_5 ?q112_6 | refine ss_asg (i := 4) ?q112_1 ?q112_2 ?q112_3 ?q112_4 ?q112_5 ?q112_6); (case q112_1 => exact nd); (case q112_2 => exact rfl); (case q112_3 => exact (Or.inl rfl)); (case q112_5 => exact (by rfl)); (case q112_6 => exact (Or.inl rfl)); (case q112_4 => exact (sx_lst sa_nil)))
  with_reducible refine sb_cons ?_ ?_
  · exact (by (first | with_reducible refine ss_for1 (i := 5) ?q120_1 ?q120_2 ?q120_3 ?q120_4 ?q120_5 ?q120_6 ?q120_7 ?q120_8 ?q120_9 | refine ss_for1 (i := 5) ?q120_1 ?q120_2 ?q120_3 ?q120_4 ?q120_5 ?q120_6 ?q120_7 ?q120_8 ?q120_9); (case q120_1 => exact PassesOwn.never); (case q120_2 => exact hc); (case q120_3 => exact nd); (case q120_4 => exact rfl); (case q120_5 => exact (Or.inl rfl)); (case q120_6 => exact (si_rng1 rfl (by rfl) B_range (sx_idx (sv 0) sx_int))); (case q120_7 => exact (by (first | with_reducible refine sb_cons  ?q119_1 ?q119_2 | refine sb_cons  ?q119_1 ?q119_2); (case q119_1 => exact (by (first | with_reducible refine ss_asg (i := 6) ?q118_1 ?q118_2 ?q118_3 ?q118_4 ?q118_5 ?q118_6 | refine ss_asg (i := 6) ?q118_1 ?q118_2 ?q118_3 ?q118_4 ?q118_5 ?q118_6); (case q118_1 => exact nd); (case q118_2 => exact rfl); (case q118_3 => exact (Or.inl rfl)); (case q118_5 => exact (by rfl)); (case q118_6 => exact (Or.inl rfl)); (case q118_4 => exact sx_non))); (case q119_2 => exact (by (first | with_reducible refine sb_cons  ?q117_1 ?q117_2 | refine sb_cons  ?q117_1 ?q117_2); (case q117_1 => exact (by (first | with_reducible refine ss_if  ?q116_1 ?q116_2 ?q116_3 | refine ss_if  ?q116_1 ?q116_2 ?q116_3); (case q116_1 => exact (SW.st (sw_and (st_cmp op_gtD (sx_idx (sv 1) sx_int) sx_int (nomark _)) (sw_and (st_cmp op_notD (sx_idx (sv 2) (sx_idx (sv 1) sx_int)) sx_non (nomark _)) (sw_and1 (st_cmp op_notD (sx_idx (sv 3) (sv 5)) sx_non (nomark _))))))); (case q116_2 => exact (by (first | with_reducible refine sb_cons  ?q115_1 ?q115_2 | refine sb_cons  ?q115_1 ?q115_2); (case q115_1 => exact (by (first | with_reducible refine ss_asg (i := 6) ?q114_1 ?q114_2 ?q114_3 ?q114_4 ?q114_5 ?q114_6 | refine ss_asg (i := 6) ?q114_1 ?q114_2 ?q114_3 ?q114_4 ?q114_5 ?q114_6); (case q114_1 => exact nd); (case q114_2 => exact rfl); (case q114_3 => exact (Or.inl rfl)); (case q114_5 => exact (by rfl)); (case q114_6 => exact (Or.inl rfl)); (case q114_4 => exact (sx_bin op_addD (sx_bin op_addD (sx_idx (sv 2) (sx_idx (sv 1) sx_int)) (sx_idx (sv 1) sx_int)) (sx_idx (sv 3) (sv 5)))))); (case q115_2 => exact sb_nil))); (case q116_3 => exact sb_nil))); (case q117_2 => exact (by (first | with_reducible refine sb_cons  ?q113_1 ?q113_2 | refine sb_cons  ?q113_1 ?q113_2); (case q113_1 => exact (sx_app_core (k := 4) rfl (by first | exact Or.inl rfl | exact Or.inr (Or.inl rfl)) (sxc C__law_least hr (sg_cons (sx_idx (sv 2) (sv 5)) (sg_cons (sv 6) sg_nil (starEach_nst rfl)) (starEach_nst rfl))))); (case q113_2 => exact sb_nil))))))); (case q120_8 => exact (by intro _; rfl)); (case q120_9 => exact (Or.inl rfl)))
  with_reducible refine sb_cons ?_ ?_
  · exact (by (first | with_reducible refine ss_ret  ?q121_1 | refine ss_ret  ?q121_1); (case q121_1 => exact (sx_cmp (op_eqD (room_u hr)) (sxc C_soonest_hours hr (sg_cons (sxc C_put_way hr (sg_cons (sv 0) (sg_cons (sv 1) sg_nil (starEach_nst rfl)) (starEach_nst rfl))) sg_nil (starEach_nst rfl))) (sv 4) (nomark _))))
  exact sb_nil
noncomputable abbrev s22 : Stmt := top 31
noncomputable def b22 : List S := [
    .asg 2 (.call 7 [.var 0]), 
    .asg 3 (.call 7 [.call 4 [.var 0, .var 1, .con (.int 0)]]), 
    .ifs (.cmp .ne (.var 3) (.call 7 [.call 3 [.var 0, .var 1]])) [.ret (.con (.bl false))] [], 
    .asg 4 (.call 7 [.call 4 [.var 0, .var 1, .bin .pow (.con (.int 10)) (.con (.int 9))]]), 
    .ifs (.cmp .ne (.var 4) (.call 7 [.call 4 [.var 0, .var 1, .con (.int 1)]])) [.ret (.con (.bl false))] [], 
    .ret (.cmp .eq (.var 2) (.idx (.lst [.var 4, .var 3]) (.blt .int [.cmp .eq (.idx (.idx (.idx (.var 0) (.con (.int 1))) (.var 1)) (.con (.int 2))) (.con (.int 0))])))]
noncomputable def f22 : Fd := ⟨2, 5, b22⟩
theorem sc22 : FnScope ["net", "number", "told", "shut", "wide"] ["net", "number"] (defScope s22) := ⟨rfl, rfl, rfl, by decide +kernel, rfl, by decide +kernel, by decide +kernel⟩
theorem d22 {Pg : Program} {w : World} {K : PySem.W.Frag} {mg : Str → Option Value} {base : Heap} {f : Addr} {fd : FuncData} {k n : Nat} {c : Call} {cl : Nat → Addr} (Fu : Fun K "_law_rooms_right" "_law_rooms_right" s22 f fd) (B_int : mg "int" = none) (C_less_way : CallOk Pg w K mg base k c 3 "less_way" 2) (C_soonest_hours : CallOk Pg w K mg base k c 7 "soonest_hours" 1) (C_with_room : CallOk Pg w K mg base k c 4 "with_room" 3) :
    FnOk Pg w K mg base CX0 (k + 1) f fd ["net", "number"] (spC K 2 (fun args => enter c n f22 args)) := by
  refine fn_ok Fu sc22 rfl rfl fun cdv A outer s H E hr => ?_
  have nd := sc22.nd
  have hc : true = true := rfl
  refine sb_cons ?_ ?_
  · exact (by (first | with_reducible refine ss_asg (i := 2) ?q122_1 ?q122_2 ?q122_3 ?q122_4 ?q122_5 ?q122_6 | refine ss_asg (i := 2) ?q122_1 ?q122_2 ?q122_3 ?q122_4 ?q122_5 ?q122_6); (case q122_1 => exact nd); (case q122_2 => exact rfl); (case q122_3 => exact (Or.inl rfl)); (case q122_5 => exact (by rfl)); (case q122_6 => exact (Or.inl rfl)); (case q122_4 => exact (sxc C_soonest_hours hr (sg_cons (sv 0) sg_nil (starEach_nst rfl)))))
  with_reducible refine sb_cons ?_ ?_
  · exact (by (first | with_reducible refine ss_asg (i := 3) ?q123_1 ?q123_2 ?q123_3 ?q123_4 ?q123_5 ?q123_6 | refine ss_asg (i := 3) ?q123_1 ?q123_2 ?q123_3 ?q123_4 ?q123_5 ?q123_6); (case q123_1 => exact nd); (case q123_2 => exact rfl); (case q123_3 => exact (Or.inl rfl)); (case q123_5 => exact (by rfl)); (case q123_6 => exact (Or.inl rfl)); (case q123_4 => exact (sxc C_soonest_hours hr (sg_cons (sxc C_with_room hr (sg_cons (sv 0) (sg_cons (sv 1) (sg_cons sx_int sg_nil (starEach_nst rfl)) (starEach_nst rfl)) (starEach_nst rfl))) sg_nil (starEach_nst rfl)))))
  with_reducible refine sb_cons ?_ ?_
  · exact (by (first | with_reducible refine ss_if  ?q126_1 ?q126_2 ?q126_3 | refine ss_if  ?q126_1 ?q126_2 ?q126_3); (case q126_1 => exact (st_cmp (op_neD (room_u hr)) (sv 3) (sxc C_soonest_hours hr (sg_cons (sxc C_less_way hr (sg_cons (sv 0) (sg_cons (sv 1) sg_nil (starEach_nst rfl)) (starEach_nst rfl))) sg_nil (starEach_nst rfl))) (nomark _))); (case q126_2 => exact (by (first | with_reducible refine sb_cons  ?q125_1 ?q125_2 | refine sb_cons  ?q125_1 ?q125_2); (case q125_1 => exact (by (first | with_reducible refine ss_ret  ?q124_1 | refine ss_ret  ?q124_1); (case q124_1 => exact sx_bl))); (case q125_2 => exact sb_nil))); (case q126_3 => exact sb_nil))
  with_reducible refine sb_cons ?_ ?_
  · exact (by (first | with_reducible refine ss_asg (i := 4) ?q127_1 ?q127_2 ?q127_3 ?q127_4 ?q127_5 ?q127_6 | refine ss_asg (i := 4) ?q127_1 ?q127_2 ?q127_3 ?q127_4 ?q127_5 ?q127_6); (case q127_1 => exact nd); (case q127_2 => exact rfl); (case q127_3 => exact (Or.inl rfl)); (case q127_5 => exact (by rfl)); (case q127_6 => exact (Or.inl rfl)); (case q127_4 => exact (sxc C_soonest_hours hr (sg_cons (sxc C_with_room hr (sg_cons (sv 0) (sg_cons (sv 1) (sg_cons (sx_bin op_powD sx_int sx_int) sg_nil (starEach_nst rfl)) (starEach_nst rfl)) (starEach_nst rfl))) sg_nil (starEach_nst rfl)))))
  with_reducible refine sb_cons ?_ ?_
  · exact (by (first | with_reducible refine ss_if  ?q130_1 ?q130_2 ?q130_3 | refine ss_if  ?q130_1 ?q130_2 ?q130_3); (case q130_1 => exact (st_cmp (op_neD (room_u hr)) (sv 4) (sxc C_soonest_hours hr (sg_cons (sxc C_with_room hr (sg_cons (sv 0) (sg_cons (sv 1) (sg_cons sx_int sg_nil (starEach_nst rfl)) (starEach_nst rfl)) (starEach_nst rfl))) sg_nil (starEach_nst rfl))) (nomark _))); (case q130_2 => exact (by (first | with_reducible refine sb_cons  ?q129_1 ?q129_2 | refine sb_cons  ?q129_1 ?q129_2); (case q129_1 => exact (by (first | with_reducible refine ss_ret  ?q128_1 | refine ss_ret  ?q128_1); (case q128_1 => exact sx_bl))); (case q129_2 => exact sb_nil))); (case q130_3 => exact sb_nil))
  with_reducible refine sb_cons ?_ ?_
  · exact (by (first | with_reducible refine ss_ret  ?q131_1 | refine ss_ret  ?q131_1); (case q131_1 => exact (sx_cmp (op_eqD (room_u hr)) (sv 2) (sx_idx (sx_lst (sa_cons (sv 4) (sa_cons (sv 3) sa_nil (starEach_nst rfl)) (starEach_nst rfl))) (sx_int1 rfl (by rfl) B_int (sx_cmp (op_eqD (room_u hr)) (sx_idx (sx_idx (sx_idx (sv 0) sx_int) (sv 1)) sx_int) sx_int (nomark _)))) (nomark _))))
  exact sb_nil
noncomputable abbrev s23 : Stmt := top 32
noncomputable def b23 : List S := [
    .forr (.call 17 [.var 0, .con (.int 10)]) [1] true [.asg 2 (.call 13 [.var 1]), .asg 3 (.call 16 [.var 2]), .asg 3 (.tup [.idx (.var 3) (.con (.int 0)), .slice (.idx (.var 3) (.con (.int 1))) (.con .non) (.con (.int 11))]), .asg 4 (.call 15 [.var 2, .idx (.var 3) (.con (.int 0))]), .ifs (.not (.call 21 [.var 3, .var 4])) [.ret (.con (.bl false))] [], .ifs (.not (.blt .all [.comp (.rng (.con (.int 0)) (.blt .len [.idx (.var 3) (.con (.int 1))])) 1 [8] true none (.call 22 [.var 3, .var 8])])) [.ret (.con (.bl false))] [], .asg 5 (.call 7 [.var 3]), .forr (.rng (.con (.int 0)) (.idx (.var 3) (.con (.int 0)))) [6] true [.ifs (.cmp .notN (.idx (.var 5) (.var 6)) (.con .non)) [.asg 7 (.call 10 [.var 3, .var 6]), .ifs (.cmp .ne (.call 12 [.call 2 [.var 3, .var 4], .var 7]) (.idx (.var 5) (.var 6))) [.ret (.con (.bl false))] []] []]], 
    .ret (.con (.bl true))]
noncomputable def f23 : Fd := ⟨1, 8, b23⟩
theorem sc23 : FnScope ["script", "cell", "pot", "net", "way", "hours", "place", "walk"] ["script"] (defScope s23) := ⟨rfl, rfl, rfl, by decide +kernel, rfl, by decide +kernel, by decide +kernel⟩
theorem d23 {Pg : Program} {w : World} {K : PySem.W.Frag} {mg : Str → Option Value} {base : Heap} {f : Addr} {fd : FuncData} {k n : Nat} {c : Call} {cl : Nat → Addr} (Fu : Fun K "law" "law" s23 f fd) (B_all : mg "all" = none) (B_len : mg "len" = none) (B_range : mg "range" = none) (C__law_folded : CallOk Pg w K mg base k c 17 "_law_folded" 2) (C__law_more_right : CallOk Pg w K mg base k c 21 "_law_more_right" 2) (C__law_net : CallOk Pg w K mg base k c 16 "_law_net" 1) (C__law_pot : CallOk Pg w K mg base k c 13 "_law_pot" 1) (C__law_rooms_right : CallOk Pg w K mg base k c 22 "_law_rooms_right" 2) (C__law_way : CallOk Pg w K mg base k c 15 "_law_way" 2) (C_put_way : CallOk Pg w K mg base k c 2 "put_way" 2) (C_soonest_hours : CallOk Pg w K mg base k c 7 "soonest_hours" 1) (C_soonest_walk : CallOk Pg w K mg base k c 10 "soonest_walk" 2) (C_walk_length : CallOk Pg w K mg base k c 12 "walk_length" 2) :
    FnOk Pg w K mg base CX0 (k + 1) f fd ["script"] (spC K 1 (fun args => enter c n f23 args)) := by
  refine fn_ok Fu sc23 rfl rfl fun cdv A outer s H E hr => ?_
  have nd := sc23.nd
  have hc : true = true := rfl
  refine sb_cons ?_ ?_
  · exact (by (first | with_reducible refine ss_for1 (i := 1) ?q160_1 ?q160_2 ?q160_3 ?q160_4 ?q160_5 ?q160_6 ?q160_7 ?q160_8 ?q160_9 | refine ss_for1 (i := 1) ?q160_1 ?q160_2 ?q160_3 ?q160_4 ?q160_5 ?q160_6 ?q160_7 ?q160_8 ?q160_9); (case q160_1 => exact PassesOwn.never); (case q160_2 => exact hc); (case q160_3 => exact nd); (case q160_4 => exact rfl); (case q160_5 => exact (Or.inl rfl)); (case q160_6 => exact (si_seq (sxc C__law_folded hr (sg_cons (sv 0) (sg_cons sx_int sg_nil (starEach_nst rfl)) (starEach_nst rfl))))); (case q160_7 => exact (by (first | with_reducible refine sb_cons  ?q159_1 ?q159_2 | refine sb_cons  ?q159_1 ?q159_2); (case q159_1 => exact (by (first | with_reducible refine ss_asg (i := 2) ?q158_1 ?q158_2 ?q158_3 ?q158_4 ?q158_5 ?q158_6 | refine ss_asg (i := 2) ?q158_1 ?q158_2 ?q158_3 ?q158_4 ?q158_5 ?q158_6); (case q158_1 => exact nd); (case q158_2 => exact rfl); (case q158_3 => exact (Or.inl rfl)); (case q158_5 => exact (by rfl)); (case q158_6 => exact (Or.inl rfl)); (case q158_4 => exact (sxc C__law_pot hr (sg_cons (sv 1) sg_nil (starEach_nst rfl)))))); (case q159_2 => exact (by (first | with_reducible refine sb_cons  ?q157_1 ?q157_2 | refine sb_cons  ?q157_1 ?q157_2); (case q157_1 => exact (by (first | with_reducible refine ss_asg (i := 3) ?q156_1 ?q156_2 ?q156_3 ?q156_4 ?q156_5 ?q156_6 | refine ss_asg (i := 3) ?q156_1 ?q156_2 ?q156_3 ?q156_4 ?q156_5 ?q156_6); (case q156_1 => exact nd); (case q156_2 => exact rfl); (case q156_3 => exact (Or.inr rfl)); (case q156_5 => exact (by rfl)); (case q156_6 => exact (Or.inl rfl)); (case q156_4 => exact (sxc C__law_net hr (sg_cons (sv 2) sg_nil (starEach_nst rfl)))))); (case q157_2 => exact (by (first | with_reducible refine sb_cons  ?q155_1 ?q155_2 | refine sb_cons  ?q155_1 ?q155_2); (case q155_1 => exact (by (first | with_reducible refine ss_asg (i := 3) ?q154_1 ?q154_2 ?q154_3 ?q154_4 ?q154_5 ?q154_6 | refine ss_asg (i := 3) ?q154_1 ?q154_2 ?q154_3 ?q154_4 ?q154_5 ?q154_6); (case q154_1 => exact nd); (case q154_2 => exact rfl); (case q154_3 => exact (Or.inr rfl)); (case q154_5 => exact (by rfl)); (case q154_6 => exact (Or.inl rfl)); (case q154_4 => exact (sx_tup (sa_cons (sx_idx (sv 3) sx_int) (sa_cons (sx_slice (sx_idx (sv 3) sx_int) so_none (so_some sx_int)) sa_nil (starEach_nst rfl)) (starEach_nst rfl)))))); (case q155_2 => exact (by (first | with_reducible refine sb_cons  ?q153_1 ?q153_2 | refine sb_cons  ?q153_1 ?q153_2); (case q153_1 => exact (by (first | with_reducible refine ss_asg (i := 4) ?q152_1 ?q152_2 ?q152_3 ?q152_4 ?q152_5 ?q152_6 | refine ss_asg (i := 4) ?q152_1 ?q152_2 ?q152_3 ?q152_4 ?q152_5 ?q152_6); (case q152_1 => exact nd); (case q152_2 => exact rfl); (case q152_3 => exact (Or.inl rfl)); (case q152_5 => exact (by rfl)); (case q152_6 => exact (Or.inl rfl)); (case q152_4 => exact (sxc C__law_way hr (sg_cons (sv 2) (sg_cons (sx_idx (sv 3) sx_int) sg_nil (starEach_nst rfl)) (starEach_nst rfl)))))); (case q153_2 => exact (by (first | with_reducible refine sb_cons  ?q151_1 ?q151_2 | refine sb_cons  ?q151_1 ?q151_2); (case q151_1 => exact (by (first | with_reducible refine ss_if  ?q150_1 ?q150_2 ?q150_3 | refine ss_if  ?q150_1 ?q150_2 ?q150_3); (case q150_1 => exact (st_not (st_val (sxc C__law_more_right hr (sg_cons (sv 3) (sg_cons (sv 4) sg_nil (starEach_nst rfl)) (starEach_nst rfl)))))); (case q150_2 => exact (by (first | with_reducible refine sb_cons  ?q149_1 ?q149_2 | refine sb_cons  ?q149_1 ?q149_2); (case q149_1 => exact (by (first | with_reducible refine ss_ret  ?q148_1 | refine ss_ret  ?q148_1); (case q148_1 => exact sx_bl))); (case q149_2 => exact sb_nil))); (case q150_3 => exact sb_nil))); (case q151_2 => exact (by (first | with_reducible refine sb_cons  ?q147_1 ?q147_2 | refine sb_cons  ?q147_1 ?q147_2); (case q147_1 => exact (by (first | with_reducible refine ss_if  ?q146_1 ?q146_2 ?q146_3 | refine ss_if  ?q146_1 ?q146_2 ?q146_3); (case q146_1 => exact (st_not (st_val (sx_all rfl hc (by rfl) B_all (sx_comp (N' := ["script", "cell", "pot", "net", "way", "hours", "place", "walk", "number"]) hc (cOk rfl (by rfl)) (si_rng1 rfl (by rfl) B_range (sx_len rfl (by rfl) B_len (sx_idx (sv 3) sx_int))) (fun _ _ _ _ _ => pg_name (i := 8) (show (["script", "cell", "pot", "net", "way", "hours", "place", "walk", "number"] : List Str).Nodup by decide +kernel) rfl (Or.inl rfl) (Or.inr rfl)) (tgc_name (Nat.le_refl _)) (fun _ _ _ _ _ => sq_none) (fun _ _ _ _ _ => (sxc C__law_rooms_right hr (sg_cons (sv 3) (sg_cons (sv 8) sg_nil (starEach_nst rfl)) (starEach_nst rfl))))))))); (case q146_2 => exact (by (first | with_reducible refine sb_cons  ?q145_1 ?q145_2 | refine sb_cons  ?q145_1 ?q145_2); (case q145_1 => exact (by (first | with_reducible refine ss_ret  ?q144_1 | refine ss_ret  ?q144_1); (case q144_1 => exact sx_bl))); (case q145_2 => exact sb_nil))); (case q146_3 => exact sb_nil))); (case q147_2 => exact (by (first | with_reducible refine sb_cons  ?q143_1 ?q143_2 | refine sb_cons  ?q143_1 ?q143_2); (case q143_1 => exact (by (first | with_reducible refine ss_asg (i := 5) ?q142_1 ?q142_2 ?q142_3 ?q142_4 ?q142_5 ?q142_6 | refine ss_asg (i := 5) ?q142_1 ?q142_2 ?q142_3 ?q142_4 ?q142_5 ?q142_6); (case q142_1 => exact nd); (case q142_2 => exact rfl); (case q142_3 => exact (Or.inl rfl)); (case q142_5 => exact (by rfl)); (case q142_6 => exact (Or.inl rfl)); (case q142_4 => exact (sxc C_soonest_hours hr (sg_cons (sv 3) sg_nil (starEach_nst rfl)))))); (case q143_2 => exact (by (first | with_reducible refine sb_cons  ?q141_1 ?q141_2 | refine sb_cons  ?q141_1 ?q141_2); (case q141_1 => exact (by (first | with_reducible refine ss_for1 (i := 6) ?q140_1 ?q140_2 ?q140_3 ?q140_4 ?q140_5 ?q140_6 ?q140_7 ?q140_8 ?q140_9 | refine ss_for1 (i := 6) ?q140_1 ?q140_2 ?q140_3 ?q140_4 ?q140_5 ?q140_6 ?q140_7 ?q140_8 ?q140_9); (case q140_1 => exact PassesOwn.never); (case q140_2 => exact hc); (case q140_3 => exact nd); (case q140_4 => exact rfl); (case q140_5 => exact (Or.inl rfl)); (case q140_6 => exact (si_rng1 rfl (by rfl) B_range (sx_idx (sv 3) sx_int))); (case q140_7 => exact (by (first | with_reducible refine sb_cons  ?q139_1 ?q139_2 | refine sb_cons  ?q139_1 ?q139_2); (case q139_1 => exact (by (first | with_reducible refine ss_if  ?q138_1 ?q138_2 ?q138_3 | refine ss_if  ?q138_1 ?q138_2 ?q138_3); (case q138_1 => exact (st_cmp op_notD (sx_idx (sv 5) (sv 6)) sx_non (nomark _))); (case q138_2 => exact (by (first | with_reducible refine sb_cons  ?q137_1 ?q137_2 | refine sb_cons  ?q137_1 ?q137_2); (case q137_1 => exact (by (first | with_reducible refine ss_asg (i := 7) ?q136_1 ?q136_2 ?q136_3 ?q136_4 ?q136_5 ?q136_6 | refine ss_asg (i := 7) ?q136_1 ?q136_2 ?q136_3 ?q136_4 ?q136_5 ?q136_6); (case q136_1 => exact nd); (case q136_2 => exact rfl); (case q136_3 => exact (Or.inl rfl)); (case q136_5 => exact (by rfl)); (case q136_6 => exact (Or.inl rfl)); (case q136_4 => exact (sxc C_soonest_walk hr (sg_cons (sv 3) (sg_cons (sv 6) sg_nil (starEach_nst rfl)) (starEach_nst rfl)))))); (case q137_2 => exact (by (first | with_reducible refine sb_cons  ?q135_1 ?q135_2 | refine sb_cons  ?q135_1 ?q135_2); (case q135_1 => exact (by (first | with_reducible refine ss_if  ?q134_1 ?q134_2 ?q134_3 | refine ss_if  ?q134_1 ?q134_2 ?q134_3); (case q134_1 => exact (st_cmp (op_neD (room_u hr)) (sxc C_walk_length hr (sg_cons (sxc C_put_way hr (sg_cons (sv 3) (sg_cons (sv 4) sg_nil (starEach_nst rfl)) (starEach_nst rfl))) (sg_cons (sv 7) sg_nil (starEach_nst rfl)) (starEach_nst rfl))) (sx_idx (sv 5) (sv 6)) (nomark _))); (case q134_2 => exact (by (first | with_reducible refine sb_cons  ?q133_1 ?q133_2 | refine sb_cons  ?q133_1 ?q133_2); (case q133_1 => exact (by (first | with_reducible refine ss_ret  ?q132_1 | refine ss_ret  ?q132_1); (case q132_1 => exact sx_bl))); (case q133_2 => exact sb_nil))); (case q134_3 => exact sb_nil))); (case q135_2 => exact sb_nil))))); (case q138_3 => exact sb_nil))); (case q139_2 => exact sb_nil))); (case q140_8 => exact (by intro _; rfl)); (case q140_9 => exact (Or.inl rfl)))); (case q141_2 => exact sb_nil))))))))))))))))); (case q160_8 => exact (by intro _; rfl)); (case q160_9 => exact (Or.inl rfl)))
  with_reducible refine sb_cons ?_ ?_
  · exact (by (first | with_reducible refine ss_ret  ?q161_1 | refine ss_ret  ?q161_1); (case q161_1 => exact sx_bl))
  exact sb_nil
end T
end
section
namespace T
open PySem L2 PySem.Spec PyProof.Rows HH
noncomputable def Γ : Tab := fun i => [f0, f1, f2, f3, f4, f5, f6, f7, f8, f9, f10, f11, f12, f13, f14, f15, f16, f17, f18, f19, f20, f21, f22, f23][i]?
end T
end
section
set_option Elab.async false
set_option linter.all false
set_option maxRecDepth 100000
namespace T
open HH
noncomputable abbrev big : Int := 1606938044258990275541962092341162602522202993782792835301376
theorem take_sat {w n : Nat} {x m : Int} {Q : R → List Sl → Prop} (h0 : 0 < m) (h2 : m < 1000) (k : ∀ d y : Int, 0 ≤ d → d < m → Q (.val (.int d)) [.own true [.int y], .val false (.int m)]) :
    (run Γ w (n + 1) 14 [.own true [.int x], .val false (.int m)]).sat Q := by
  have h3 : m < 1606938044258990275541962092341162602522202993782792835301376 := by omega
  refine sat_run (d := f14) rfl rfl (by decide) ?_
  refine sat_cons ?_
  simp [f14, h0, h3]
  refine sat_cons ?_
  simp [h0, h3, ixN]
  refine sat_cons ?_
  simp
  exact k _ _ (Int.emod_nonneg _ (by omega)) (Int.emod_lt_of_pos _ h0)
structure Wy where
  (s t r h : Int)
noncomputable def Wy.d (w : Wy) : D := .tup [.int w.s, .int w.t, .int w.r, .int w.h]
structure Wy.Ok (m : Int) (w : Wy) : Prop where
  s0 : 0 ≤ w.s
  s1 : w.s < m
  t0 : 0 ≤ w.t
  t1 : w.t < m
  ne : w.s ≠ w.t
  r0 : 0 ≤ w.r
  r1 : w.r ≤ 1000000000
  h0 : 1 ≤ w.h
  h1 : w.h ≤ 1000000
theorem other {a b m : Int} (h1 : 0 ≤ a) (h2 : a < m) (h3 : 0 ≤ b) (h4 : b < m - 1) : 0 ≤ (a + 1 + b) % m ∧ (a + 1 + b) % m < m ∧ (a + 1 + b) % m ≠ a := by
  by_cases h : a + 1 + b < m
  · rw [Int.emod_eq_of_lt (by omega) h]; omega
  · have e : (a + 1 + b) % m = a + 1 + b - m := by
      rw [← Int.sub_emod_right, Int.emod_eq_of_lt (by omega) (by omega)]
    rw [e]; omega
theorem pick {a b c d e f i lo hi : Int} (h0 : 0 ≤ i) (h1 : i ≤ 5) (k1 : lo ≤ a ∧ a ≤ hi ∧ lo ≤ b ∧ b ≤ hi) (k2 : lo ≤ c ∧ c ≤ hi ∧ lo ≤ d ∧ d ≤ hi) (k3 : lo ≤ e ∧ e ≤ hi ∧ lo ≤ f ∧ f ≤ hi) : ∃ r, at' [D.int a, D.int b, D.int c, D.int d, D.int e, D.int f] i = some (.int r) ∧ lo ≤ r ∧ r ≤ hi := by
  have : i = 0 ∨ i = 1 ∨ i = 2 ∨ i = 3 ∨ i = 4 ∨ i = 5 := by omega
  rcases this with rfl | rfl | rfl | rfl | rfl | rfl
  · exact ⟨a, at_0, by omega⟩
  · exact ⟨b, at_1, by omega⟩
  · exact ⟨c, at_2, by omega⟩
  · exact ⟨d, at_3, by omega⟩
  · exact ⟨e, at_4, by omega⟩
  · exact ⟨f, at_5, by omega⟩
theorem way_sat {w n : Nat} {x m : Int} {Q : R → List Sl → Prop} (h0 : 2 ≤ m) (h2 : m ≤ 6) (k : ∀ (w : Wy) (y : Int), w.Ok m → Q (.val w.d) [.own true [.int y], .val false (.int m)]) :
    (run Γ w (n + 2) 15 [.own true [.int x], .val false (.int m)]).sat Q := by
  refine sat_run (d := f15) rfl rfl (by decide) ?_
  refine sat_cons ?_
  simp [f15]
  refine take_sat (by omega) (by omega) fun a x ha1 ha2 => ?_
  simp
  refine sat_cons ?_
  simp
  refine take_sat (by omega) (by omega) fun b x hb1 hb2 => ?_
  obtain ⟨t0, t1, tn⟩ := other ha1 ha2 hb1 hb2
  simp [show 0 < m by omega]
  generalize (a + 1 + b) % m = t at *
  refine sat_seq (fun ρ => ∃ y s t, ρ = [.own true [.int y], .val false (.int m), .val false (.int s), .val false (.int t), .unb, .unb] ∧ 0 ≤ s ∧ s < m ∧ 0 ≤ t ∧ t < m ∧ s ≠ t) ?_ ?_
  · simp
    constructor
    · intro _
      refine take_sat (by omega) (by omega) fun d x hd1 hd2 => ?_
      simp
      constructor
      · intro _
        refine sat_cons ?_
        simp
        refine ⟨_, _, _, ⟨rfl, rfl, rfl⟩, ?_⟩; omega
      · intro _; refine ⟨_, _, _, ⟨rfl, rfl, rfl⟩, ?_⟩; omega
    · intro _; refine ⟨_, _, _, ⟨rfl, rfl, rfl⟩, ?_⟩; omega
  rintro _ ⟨x, s, t, rfl, s0, s1, t0, t1, ne⟩
  clear ha1 ha2 hb1 hb2 tn
  refine sat_cons ?_
  simp
  refine take_sat (by omega) (by omega) fun d1 x hd1 hd2 => ?_
  simp
  refine take_sat (by omega) (by omega) fun d2 x hd3 hd4 => ?_
  simp
  refine take_sat (by omega) (by omega) fun d3 x hd5 hd6 => ?_
  simp
  obtain ⟨r, e, r0, r1⟩ : ∃ r, at' [D.int 0, D.int 1, D.int 2, D.int 3, D.int (1 + d1), D.int (1000000000 - d2)] (if d3 < 5 then d3 else 5) = some (.int r) ∧ 0 ≤ r ∧ r ≤ 1000000000 := pick (by split <;> omega) (by split <;> omega) (by omega) (by omega) (by omega)
  rw [e]
  simp
  clear e hd1 hd2 hd3 hd4 hd5 hd6
  refine sat_cons ?_
  simp
  refine take_sat (by omega) (by omega) fun d1 x hd1 hd2 => ?_
  simp
  refine take_sat (by omega) (by omega) fun d2 x hd3 hd4 => ?_
  simp
  refine take_sat (by omega) (by omega) fun d3 x hd5 hd6 => ?_
  simp
  obtain ⟨h, e, u0, u1⟩ : ∃ r, at' [D.int 1, D.int 1, D.int 2, D.int 3, D.int (1 + d1), D.int (1000000 - d2)] (if d3 < 5 then d3 else 5) = some (.int r) ∧ 1 ≤ r ∧ r ≤ 1000000 := pick (by split <;> omega) (by split <;> omega) (by omega) (by omega) (by omega)
  rw [e]
  simp
  clear e hd1 hd2 hd3 hd4 hd5 hd6
  refine sat_seq (fun ρ => ∃ y r, ρ = [.own true [.int y], .val false (.int m), .val false (.int s), .val false (.int t), .val false (.int r), .val false (.int h)] ∧ 0 ≤ r ∧ r ≤ 1000000000) ?_ ?_
  · simp
    refine take_sat (by omega) (by omega) fun d x hd1 hd2 => ?_
    simp
    constructor
    · intro _
      refine sat_cons ?_
      simp
      refine take_sat (by omega) (by omega) fun d x hd1 hd2 => ?_
      simp
      refine ⟨_, _, ⟨rfl, rfl⟩, ?_⟩; omega
    · intro _; refine ⟨_, _, ⟨rfl, rfl⟩, ?_⟩; omega
  rintro _ ⟨x, r, rfl, r0, r1⟩
  refine sat_seq (fun ρ => ∃ y h, ρ = [.own true [.int y], .val false (.int m), .val false (.int s), .val false (.int t), .val false (.int r), .val false (.int h)] ∧ 1 ≤ h ∧ h ≤ 1000000) ?_ ?_
  · simp
    refine take_sat (by omega) (by omega) fun d x hd1 hd2 => ?_
    simp
    constructor
    · intro _
      refine sat_cons ?_
      simp
      refine take_sat (by omega) (by omega) fun d x hd1 hd2 => ?_
      simp
      refine ⟨_, _, ⟨rfl, rfl⟩, ?_⟩; omega
    · intro _; refine ⟨_, _, ⟨rfl, rfl⟩, ?_⟩; omega
  rintro _ ⟨x, h, rfl, u0, u1⟩
  refine sat_cons ?_
  simp
  exact k ⟨s, t, r, h⟩ x ⟨s0, s1, t0, t1, ne, r0, r1, u0, u1⟩
theorem rng_mem {a b : Int} {d : D} (h : d ∈ (List.range (b - a).toNat).map fun (k : Nat) => D.int (a + (k : Int))) : ∃ i, d = .int i ∧ a ≤ i ∧ i < b := by
  rw [List.mem_map] at h
  obtain ⟨k, h1, rfl⟩ := h
  rw [List.mem_range] at h1
  exact ⟨a + k, rfl, by omega, by omega⟩
noncomputable def JPot (x : Int) (r : List D) (ρ : List Sl) : Prop := ∃ a b s t, ρ = [.val false (.int x), .val false (.int a), .val false (.int b), s, t] ∧ fr s = true ∧ fr t = true ∧ ∀ d ∈ r, ∃ i, d = D.int i ∧ 0 ≤ i ∧ i < 48
theorem pot_sat {w n : Nat} {x : Int} {Q : R → List Sl → Prop} (k : ∀ y : Int, Q (.own [.int y]) [.val false (.int x)]) : (run Γ w (n + 1) 13 [.val false (.int x)]).sat Q := by
  refine sat_run (d := f13) rfl rfl (by decide) ?_
  refine sat_cons ?_
  simp [f13]
  constructor
  · intro _
    refine sat_cons ?_
    simp
    exact k _
  intro _
  refine sat_cons ?_
  simp
  refine sat_cons ?_
  simp
  generalize x % 2147483647 + 16807 = one
  refine sat_cons ?_
  simp
  refine sat_forT (JPot x) ?_ ?_ ?_
  · rintro d r _ ⟨a, b, s, t, rfl, hs, ht, h⟩
    obtain ⟨i, rfl, i0, i1⟩ := h d (by simp)
    simp [hs]
    refine sat_cons ?_
    have q1 : -18446744073709551616 < 7919 * i ∧ 7919 * i < 18446744073709551616 := by omega
    simp [q1]
    generalize hz : (b * 48271 + 7919 * i * i + 104729) % 2147483647 = z
    have q2 : -18446744073709551616 < z ∧ z < 18446744073709551616 := by omega
    refine sat_cons ?_
    simp [q2, ht]
    refine sat_cons ?_
    simp
    exact ⟨_, _, _, _, rfl, rfl, rfl, fun d hd => h d (List.mem_cons_of_mem _ hd)⟩
  · rintro _ ⟨a, b, s, t, rfl, hs, ht, h⟩
    refine sat_cons ?_
    simp
    exact k _
  · refine ⟨_, _, _, _, rfl, rfl, rfl, fun d hd => ?_⟩
    have := rng_mem (a := 0) (b := 48) (d := d) (by simpa using hd)
    exact this
theorem wy_dle (w : Wy) : dle 7 w.d = true := rfl
theorem dle_all {ds : List D} {k : Nat} (h : ∀ d ∈ ds, dle k d = true) : dle (k + 1) (.lst ds) = true := by rw [dle]; exact List.all_eq_true.mpr h
theorem dle_allT {ds : List D} {k : Nat} (h : ∀ d ∈ ds, dle k d = true) : dle (k + 1) (.tup ds) = true := by rw [dle]; exact List.all_eq_true.mpr h
theorem ne_nil {ws : List Wy} : cm .ne (.lst (ws.map Wy.d)) (.lst []) = some (!ws.isEmpty) := by
  show cmNe _ _ = _
  unfold cmNe
  rw [dle_all (fun d hd => by obtain ⟨w, _, rfl⟩ := List.mem_map.mp hd; exact wy_dle w)]
  cases ws <;> simp [peq, peqs, dle]
noncomputable def netD (m : Int) (ws : List Wy) : D := .tup [.int m, .tup (ws.map Wy.d)]
structure NetOk (m : Int) (ws : List Wy) : Prop where
  m0 : 2 ≤ m
  m1 : m ≤ 6
  len : ws.length ≤ 12
  ok : ∀ w ∈ ws, w.Ok m
noncomputable def JNet (b : Bool) (m : Int) (r : List D) (ρ : List Sl) : Prop := ∃ (y : Int) (ws : List Wy) (s t : Sl), ρ = [.own b [.int y], .val false (.int m), .own false (ws.map Wy.d), s, t] ∧ fr s = true ∧ fr t = true ∧ (∀ w ∈ ws, w.Ok m) ∧ ws.length + r.length ≤ 12
theorem net_sat {w n : Nat} {b : Bool} {x : Int} {Q : R → List Sl → Prop} (k : ∀ (m : Int) (ws : List Wy) (y : Int), NetOk m ws → Q (.val (netD m ws)) [.own b [.int y]]) : (run Γ w (n + 3) 16 [.own b [.int x]]).sat Q := by
  refine sat_run (d := f16) rfl rfl (by decide) ?_
  refine sat_cons ?_
  simp [f16]
  refine take_sat (by omega) (by omega) fun d1 x hd1 hd2 => ?_
  simp
  obtain ⟨m, hm, m0, m1⟩ : ∃ m, m = 2 + d1 ∧ 2 ≤ m ∧ m ≤ 6 := ⟨_, rfl, by omega, by omega⟩
  rw [← hm]
  refine sat_cons ?_
  simp
  refine sat_cons ?_
  simp
  refine take_sat (by omega) (by omega) fun d1 x hd1 hd2 => ?_
  simp
  refine take_sat (by omega) (by omega) fun d2 x hd3 hd4 => ?_
  simp
  refine take_sat (by omega) (by omega) fun d3 x hd5 hd6 => ?_
  simp
  obtain ⟨c, e, c0, c1⟩ : ∃ r, at' [D.int d1, D.int 12, D.int (4 + d2)] d3 = some (.int r) ∧ 0 ≤ r ∧ r ≤ 12 := by
    have : d3 = 0 ∨ d3 = 1 ∨ d3 = 2 := by omega
    rcases this with rfl | rfl | rfl
    · exact ⟨_, at_0, by omega⟩
    · exact ⟨_, at_1, by omega⟩
    · exact ⟨_, at_2, by omega⟩
  rw [e]
  simp
  refine ⟨by omega, ?_⟩
  refine sat_forT (JNet b m) ?_ ?_ ?_
  · rintro d r _ ⟨y, ws, s, t, rfl, hs, ht, hw, hl⟩
    simp [hs]
    simp only [List.length_cons] at hl
    refine sat_cons ?_
    simp
    refine way_sat m0 m1 fun w y hwo => ?_
    simp [ht]
    refine sat_seq (fun ρ => ∃ (y : Int) (w : Wy), ρ = [.own b [.int y], .val false (.int m), .own false (ws.map Wy.d), .val false d, .val false w.d] ∧ w.Ok m) ?_ ?_
    · simp [ne_nil]
      constructor
      · intro hne
        have hl0 : 0 < ws.length := by cases ws with | nil => simp at hne | cons _ _ => simp
        refine take_sat (by omega) (by omega) fun d1 x hd1 hd2 => ?_
        simp
        constructor
        · intro _
          refine sat_cons ?_
          simp
          refine take_sat (by omega) (by omega) fun d1 x hd1 hd2 => ?_
          simp
          have hlt : d1.toNat < ws.length := by omega
          rw [at_nat hd1 (by simpa using hd2), List.getElem?_map, List.getElem?_eq_getElem hlt]
          simp
          exact ⟨_, _, ⟨rfl, rfl⟩, hw _ (List.getElem_mem hlt)⟩
        · intro _
          exact ⟨_, _, ⟨rfl, rfl⟩, hwo⟩
      · intro _
        exact ⟨_, _, ⟨rfl, rfl⟩, hwo⟩
    rintro _ ⟨y, w, rfl, hwo⟩
    refine sat_cons ?_
    have hlim : ws.length < lim := by show _ < 16777216; omega
    simp [hlim]
    refine ⟨y, ws ++ [w], .val false d, .val false w.d, by simp, rfl, rfl, fun v hv => ?_, by simp; omega⟩
    rw [List.mem_append, List.mem_singleton] at hv
    rcases hv with hv | rfl
    · exact hw v hv
    · exact hwo
  · rintro _ ⟨y, ws, s, t, rfl, hs, ht, hw, hl⟩
    refine sat_cons ?_
    simp
    exact k m ws y ⟨m0, m1, by simpa using hl, hw⟩
  · exact ⟨x, [], _, _, rfl, rfl, rfl, by simp, by simp; omega⟩
end T
end
section
set_option Elab.async false
set_option linter.all false
set_option maxRecDepth 100000
namespace T
open HH
@[simp] theorem rb_ok {α β : Type} {a : α} {ρ : List Sl} {f : α → List Sl → Res β} : (Res.ok a ρ).bind f = f a ρ := rfl
@[simp] theorem rb_stuck {α β : Type} {f : α → List Sl → Res β} : (Res.stuck : Res α).bind f = .stuck := rfl
@[simp] theorem lf_some {α : Type} {a : α} {ρ : List Sl} : lift (some a) ρ = .ok a ρ := rfl
@[simp] theorem ex_rais {c : Call} {n k : Nat} {ρ : List Sl} : ex c n (.rais k) ρ = .stuck := by rw [ex]
theorem wy_at {ws : List Wy} {k : Int} (h0 : 0 ≤ k) (h1 : k < (ws.length : Int)) : ∃ v, ws[k.toNat]? = some v ∧ v ∈ ws ∧ at' (ws.map Wy.d) k = some v.d := by
  have hk : k.toNat < ws.length := by omega
  refine ⟨ws[k.toNat], by simp [hk], List.getElem_mem hk, ?_⟩
  rw [at_nat h0 (by simpa using h1)]; simp [hk]
theorem wd_0 {v : Wy} : ixR v.d (.int 0) = some (.val (.int v.s)) := by simp [Wy.d]
theorem wd_1 {v : Wy} : ixR v.d (.int 1) = some (.val (.int v.t)) := by simp [Wy.d]
theorem wd_2 {v : Wy} : ixR v.d (.int 2) = some (.val (.int v.r)) := by simp [Wy.d]
theorem wd_3 {v : Wy} : ixR v.d (.int 3) = some (.val (.int v.h)) := by simp [Wy.d]
@[simp] theorem net_0 {m : Int} {ws : List Wy} : ixR (netD m ws) (.int 0) = some (.val (.int m)) := rfl
@[simp] theorem net_1 {m : Int} {ws : List Wy} : ixR (netD m ws) (.int 1) = some (.val (.tup (ws.map Wy.d))) := rfl
theorem known_ok {w n : Nat} {m k : Int} {ws : List Wy} {v : Wy} (h0 : 0 ≤ k) (h1 : k < (ws.length : Int)) (hv : at' (ws.map Wy.d) k = some v.d) :
    run Γ w (n + 1) 1 [.val false (netD m ws), .val false (.int k)] = .ok (.val v.d) [.val false (netD m ws), .val false (.int k)] := by
  rw [run_succ (d := f1) rfl]
  unfold enter
  simp [f1, b1, exs, h0, h1, hv]
theorem cut_pre {α : Type} {xs : List α} {k : Int} (h0 : 0 ≤ k) (h1 : k < (xs.length : Int)) : cut xs none (some k) = xs.take k.toNat := by
  unfold cut sIx
  simp [h0]
  try rw [Nat.min_eq_left (by omega)]
theorem cut_suf {α : Type} {xs : List α} {k : Int} (h0 : 0 ≤ k) (h1 : k < (xs.length : Int)) : cut xs (some (k + 1)) none = xs.drop (k.toNat + 1) := by
  unfold cut sIx
  have e : (k + 1).toNat = k.toNat + 1 := by omega
  simp [show 0 ≤ k + 1 by omega, e]
  try rw [Nat.min_eq_left (by omega)]
  try rw [List.take_of_length_le (by simp)]
noncomputable def less (ws : List Wy) (k : Int) : List Wy := ws.take k.toNat ++ ws.drop (k.toNat + 1)
noncomputable def roomy (ws : List Wy) (k : Int) (v : Wy) (r : Int) : List Wy := ws.take k.toNat ++ { v with r := r } :: ws.drop (k.toNat + 1)
theorem put_ok {w n : Nat} {m : Int} {ws : List Wy} {v : Wy} (h : ws.length < 12) :
    run Γ w (n + 1) 2 [.val false (netD m ws), .val false v.d] = .ok (.val (netD m (ws ++ [v]))) [.val false (netD m ws), .val false v.d] := by
  rw [run_succ (d := f2) rfl]
  unfold enter
  have h1 : ¬ (12 : Int) ≤ (ws.length : Int) := by omega
  have e : netD m (ws ++ [v]) = .tup [.int m, .tup (ws.map Wy.d ++ [v.d])] := by simp [netD]
  have h2 : ws.length + 1 ≤ lim := by show _ ≤ 16777216; omega
  rw [e]
  simp [f2, b2, exs, h1, h2]
  simp [Wy.d, h2]
theorem less_ok {w n : Nat} {m k : Int} {ws : List Wy} (h : NetOk m ws) (h0 : 0 ≤ k) (h1 : k < (ws.length : Int)) :
    run Γ w (n + 2) 3 [.val false (netD m ws), .val false (.int k)] = .ok (.val (netD m (less ws k))) [.val false (netD m ws), .val false (.int k)] := by
  obtain ⟨v, hv, hm, ha⟩ := wy_at h0 h1
  rw [run_succ (d := f3) rfl]
  unfold enter
  have hl := h.len
  have c1 := cut_pre (xs := ws.map Wy.d) h0 (by simpa using h1)
  have c2 := cut_suf (xs := ws.map Wy.d) h0 (by simpa using h1)
  have e : netD m (less ws k) = .tup [.int m, .tup ((ws.map Wy.d).take k.toNat ++ (ws.map Wy.d).drop (k.toNat + 1))] := by simp [netD, less]
  have h2 : ((ws.map Wy.d).take k.toNat).length + ((ws.map Wy.d).drop (k.toNat + 1)).length ≤ lim := by simp; show _ ≤ 16777216; omega
  rw [e]
  simp [f3, b3, exs, doCall, bindA, backA, backS, lookA, known_ok h0 h1 ha, sl3, part, isNC, c1, c2]
  simp at h2
  simp [h2]
theorem room_ok {w n : Nat} {m k r : Int} {ws : List Wy} {v : Wy} (h : NetOk m ws) (h0 : 0 ≤ k) (h1 : k < (ws.length : Int)) (ha : at' (ws.map Wy.d) k = some v.d) :
    run Γ w (n + 2) 4 [.val false (netD m ws), .val false (.int k), .val false (.int r)] = .ok (.val (netD m (roomy ws k v r))) [.val false (netD m ws), .val false (.int k), .val false (.int r)] := by
  rw [run_succ (d := f4) rfl]
  unfold enter
  have hl := h.len
  have c1 := cut_pre (xs := ws.map Wy.d) h0 (by simpa using h1)
  have c2 := cut_suf (xs := ws.map Wy.d) h0 (by simpa using h1)
  have e : netD m (roomy ws k v r) = .tup [.int m, .tup ((ws.map Wy.d).take k.toNat ++ [D.tup [.int v.s, .int v.t, .int r, .int v.h]] ++ (ws.map Wy.d).drop (k.toNat + 1))] := by simp [netD, roomy, Wy.d]
  have h2 : ((ws.map Wy.d).take k.toNat).length + 1 ≤ lim := by simp; show _ ≤ 16777216; omega
  have h3 : ((ws.map Wy.d).take k.toNat).length + 1 + ((ws.map Wy.d).drop (k.toNat + 1)).length ≤ lim := by simp; show _ ≤ 16777216; omega
  rw [e]
  simp [f4, b4, exs, doCall, bindA, backA, backS, lookA, known_ok h0 h1 ha, sl3, part, isNC, c1, c2, wd_0, wd_1, wd_3]
  simp at h2 h3
  simp [c2, h2, h3]
end T
end
section
set_option Elab.async false
set_option linter.all false
set_option maxRecDepth 100000
namespace T
open HH
noncomputable def stepW (ws : List Wy) (ps : List Int) (k : Int) : Option (List Int) :=
  if 0 ≤ k ∧ k < ws.length then match ws[k.toNat]? with
    | some v => if v.r < 1 then none else
      if ps = [] then (if v.t = v.s then none else some [v.s, v.t])
      else if ps.getLast? = some v.s ∧ v.t ∉ ps then some (ps ++ [v.t]) else none
    | none => none
  else none
noncomputable def turnB : List S := match b11 with
  | _ :: .forr _ _ _ b :: _ => b
  | _ => []
noncomputable abbrev WF (m : Int) (ws : List Wy) (s1 : Sl) (ps : List Int) (k : Int) (s4 : Sl) : List Sl := [.val false (netD m ws), s1, .own false (ps.map D.int), .val false (.int k), s4]
theorem turn_out {c : Call} {n : Nat} {m k : Int} {ws : List Wy} {ps : List Int} {s1 s4 : Sl} (e : ¬ (0 ≤ k ∧ k < (ws.length : Int))) :
    exs c n turnB (WF m ws s1 ps k s4) = .stuck ∧ ∃ ρ', exsX c n turnB (WF m ws s1 ps k s4) = some (3, ρ') := by
  by_cases e1 : 0 ≤ k
  · have e2 : ¬ k < (ws.length : Int) := fun z => e ⟨e1, z⟩
    constructor
    · simp [turnB, b11, exs, e1, e2]
    · simp [turnB, b11, exsX, exX, e1, e2]
  · constructor
    · simp [turnB, b11, exs, e1]
    · simp [turnB, b11, exsX, exX, e1]
theorem turn_shut {c : Call} {n : Nat} {m k : Int} {ws : List Wy} {ps : List Int} {s1 s4 : Sl} {v : Wy} (e1 : 0 ≤ k) (e2 : k < (ws.length : Int)) (ev : at' (ws.map Wy.d) k = some v.d) (hr : v.r < 1) :
    exs c n turnB (WF m ws s1 ps k s4) = .stuck ∧ ∃ ρ', exsX c n turnB (WF m ws s1 ps k s4) = some (3, ρ') := by
  constructor
  · simp [turnB, b11, exs, e1, e2, ev, wd_2, hr]
  · simp [turnB, b11, exsX, exX, e1, e2, ev, wd_2, hr]
theorem turn_first {c : Call} {n : Nat} {m k : Int} {ws : List Wy} {s1 s4 : Sl} {v : Wy} (h4 : fr s4 = true) (e1 : 0 ≤ k) (e2 : k < (ws.length : Int)) (ev : at' (ws.map Wy.d) k = some v.d) (hr : ¬ v.r < 1) (hne : v.s ≠ v.t) :
    exs c n turnB (WF m ws s1 [] k s4) = .ok .next (WF m ws s1 [v.s, v.t] k (.val false v.d)) ∧ exsX c n turnB (WF m ws s1 [] k s4) = none := by
  have hin : cm .inn (.int v.t) (.lst [.int v.s]) = some false := by
    have := in_lst (S := [v.s]) (i := v.t)
    simpa [Ne.symm hne] using this
  have hl : at' [D.int v.s] (-1) = some (.int v.s) := at_last (l := [])
  have l0 : 0 < lim := by show 0 < 16777216; omega
  have l1 : 1 < lim := by show 1 < 16777216; omega
  constructor
  · simp [turnB, b11, exs, e1, e2, ev, wd_0, wd_1, wd_2, hr, h4, hin, hl, l0, l1]
  · simp [turnB, b11, exs, exsX, exX, e1, e2, ev, wd_0, wd_1, wd_2, hr, h4, hin, hl, l0, l1, callX, callOf]
theorem turn_on {c : Call} {n : Nat} {m k z : Int} {ws : List Wy} {ps : List Int} {s1 s4 : Sl} {v : Wy} (h4 : fr s4 = true) (hps : ps.length ≤ 1000) (e1 : 0 ≤ k) (e2 : k < (ws.length : Int)) (ev : at' (ws.map Wy.d) k = some v.d) (hr : ¬ v.r < 1) (hz : ps.getLast? = some z) :
    (v.s = z → v.t ∉ ps → exs c n turnB (WF m ws s1 ps k s4) = .ok .next (WF m ws s1 (ps ++ [v.t]) k (.val false v.d)) ∧ exsX c n turnB (WF m ws s1 ps k s4) = none) ∧
    ((v.s ≠ z ∨ v.t ∈ ps) → exs c n turnB (WF m ws s1 ps k s4) = .stuck ∧ ∃ ρ', exsX c n turnB (WF m ws s1 ps k s4) = some (3, ρ')) := by
  have hne : ps ≠ [] := by rintro rfl; simp at hz
  have hlen : ¬ (ps.length : Int) = 0 := by
    have : 0 < ps.length := List.length_pos_iff.mpr hne
    omega
  have hl : at' (ps.map D.int) (-1) = some (.int z) := by
    obtain ⟨l, x, rfl⟩ : ∃ l x, ps = l ++ [x] := ⟨ps.dropLast, ps.getLast hne, (List.dropLast_concat_getLast hne).symm⟩
    rw [List.map_append, List.map_singleton, at_last]
    simpa using hz
  have l1 : ps.length < lim := by show _ < 16777216; omega
  refine ⟨fun hs ht => ?_, fun hst => ?_⟩
  · have hin : cm .inn (.int v.t) (.lst (ps.map D.int)) = some false := by rw [in_lst]; simp [ht]
    constructor
    · simp [turnB, b11, exs, e1, e2, ev, wd_0, wd_1, wd_2, hr, h4, hin, hl, l1, hne, hs]
    · simp [turnB, b11, exs, exsX, exX, e1, e2, ev, wd_0, wd_1, wd_2, hr, h4, hin, hl, l1, hne, hs, callX, callOf]
  · by_cases hs : v.s = z
    · have ht : v.t ∈ ps := hst.resolve_left (fun q => q hs)
      have hin : cm .inn (.int v.t) (.lst (ps.map D.int)) = some true := by rw [in_lst]; simp [ht]
      constructor
      · simp [turnB, b11, exs, e1, e2, ev, wd_0, wd_1, wd_2, hr, h4, hin, hl, l1, hne, hs]
      · simp [turnB, b11, exs, exsX, exX, e1, e2, ev, wd_0, wd_1, wd_2, hr, h4, hin, hl, l1, hne, hs, callX, callOf]
    · constructor
      · simp [turnB, b11, exs, e1, e2, ev, wd_0, wd_1, wd_2, hr, h4, hl, l1, hne, hs]
      · simp [turnB, b11, exs, exsX, exX, e1, e2, ev, wd_0, wd_1, wd_2, hr, h4, hl, l1, hne, hs, callX, callOf]
end T
end
section
set_option Elab.async false
set_option linter.all false
set_option maxRecDepth 100000
namespace T
open HH
noncomputable def goW (ws : List Wy) : List Int → List Int → Option (List Int)
  | [], ps => some ps
  | k :: r, ps => match stepW ws ps k with
    | some qs => goW ws r qs
    | none => none
noncomputable def hh (ws : List Wy) (k : Int) : Int := match ws[k.toNat]? with
  | some v => v.h
  | none => 0
noncomputable def tot (ws : List Wy) (l : List Int) : Int := (l.map (hh ws)).sum
theorem step_ok {ws : List Wy} {ps qs : List Int} {k : Int} (h : stepW ws ps k = some qs) : 0 ≤ k ∧ k < (ws.length : Int) ∧ qs.length ≤ ps.length + 2 ∧ qs ≠ [] := by
  unfold stepW at h
  by_cases e : 0 ≤ k ∧ k < (ws.length : Int)
  · rw [if_pos e] at h
    refine ⟨e.1, e.2, ?_⟩
    split at h
    · split at h
      · cases h
      · split at h
        · split at h
          · cases h
          · cases h; rename_i z _; rw [z]; simp
        · split at h
          · cases h; simp
          · cases h
    · cases h
  · rw [if_neg e] at h; cases h
theorem goW_ok {ws : List Wy} : ∀ {l ps qs : List Int}, goW ws l ps = some qs → ∀ k ∈ l, 0 ≤ k ∧ k < (ws.length : Int)
  | [], _, _, _, k, hk => by cases hk
  | a :: l, ps, qs, h, k, hk => by
    rw [goW] at h
    cases e : stepW ws ps a with
    | none => rw [e] at h; cases h
    | some rs =>
      rw [e] at h
      rcases List.mem_cons.mp hk with rfl | hk
      · exact ⟨(step_ok e).1, (step_ok e).2.1⟩
      · exact goW_ok h k hk
theorem goW_len {ws : List Wy} : ∀ {l ps qs : List Int}, goW ws l ps = some qs → qs.length ≤ ps.length + 2 * l.length
  | [], _, _, h => by rw [goW] at h; cases h; simp
  | a :: l, ps, qs, h => by
    rw [goW] at h
    cases e : stepW ws ps a with
    | none => rw [e] at h; cases h
    | some rs =>
      rw [e] at h
      have := goW_len h
      have := (step_ok e).2.2.1
      simp; omega
theorem turn_ok {c : Call} {n : Nat} {m k : Int} {ws : List Wy} {ps : List Int} {s1 s4 : Sl} (hk : NetOk m ws) (h4 : fr s4 = true) (hps : ps.length ≤ 1000) : match stepW ws ps k with
    | some qs => ∃ s4', fr s4' = true ∧ exs c n turnB (WF m ws s1 ps k s4) = .ok .next (WF m ws s1 qs k s4') ∧ exsX c n turnB (WF m ws s1 ps k s4) = none
    | none => exs c n turnB (WF m ws s1 ps k s4) = .stuck ∧ ∃ ρ', exsX c n turnB (WF m ws s1 ps k s4) = some (3, ρ') := by
  by_cases e : 0 ≤ k ∧ k < (ws.length : Int)
  · obtain ⟨v, hv, hm, ha⟩ := wy_at e.1 e.2
    have vo := hk.ok v hm
    have e0 : stepW ws ps k = (if v.r < 1 then none else if ps = [] then (if v.t = v.s then none else some [v.s, v.t]) else if ps.getLast? = some v.s ∧ v.t ∉ ps then some (ps ++ [v.t]) else none) := by
      unfold stepW; rw [if_pos e, hv]
    rw [e0]
    by_cases hr : v.r < 1
    · rw [if_pos hr]
      exact turn_shut e.1 e.2 ha hr
    · rw [if_neg hr]
      by_cases hp : ps = []
      · rw [if_pos hp, if_neg (fun z => vo.ne z.symm)]
        subst hp
        have := turn_first (c := c) (n := n) (m := m) (s1 := s1) h4 e.1 e.2 ha hr vo.ne
        exact ⟨_, rfl, this.1, this.2⟩
      · rw [if_neg hp]
        obtain ⟨z, hz⟩ : ∃ z, ps.getLast? = some z := ⟨_, List.getLast?_eq_some_getLast hp⟩
        have := turn_on (c := c) (n := n) (m := m) (s1 := s1) h4 hps e.1 e.2 ha hr hz
        by_cases h2 : ps.getLast? = some v.s ∧ v.t ∉ ps
        · rw [if_pos h2]
          have hzs : v.s = z := by have := h2.1; rw [hz] at this; cases this; rfl
          exact ⟨_, rfl, this.1 hzs h2.2⟩
        · rw [if_neg h2]
          refine this.2 ?_
          by_cases hzs : v.s = z
          · right
            exact Decidable.byContradiction fun q => h2 ⟨by rw [hz, hzs], q⟩
          · exact .inl hzs
  · have e0 : stepW ws ps k = none := by unfold stepW; rw [if_neg e]
    rw [e0]
    exact turn_out e
theorem loop_ok {c : Call} {n : Nat} {m : Int} {ws : List Wy} {s1 : Sl} (hk : NetOk m ws) : ∀ (l ps : List Int) (s3 s4 : Sl), fr s3 = true → fr s4 = true → ps.length + 2 * l.length ≤ 1000 → match goW ws l ps with
    | some qs => ∃ s3' s4', forT [3] true (exs c n turnB) (l.map D.int) [.val false (netD m ws), s1, .own false (ps.map D.int), s3, s4] = .ok .next [.val false (netD m ws), s1, .own false (qs.map D.int), s3', s4'] ∧ forX [3] true (exs c n turnB) (exsX c n turnB) (l.map D.int) [.val false (netD m ws), s1, .own false (ps.map D.int), s3, s4] = none
    | none => forT [3] true (exs c n turnB) (l.map D.int) [.val false (netD m ws), s1, .own false (ps.map D.int), s3, s4] = .stuck ∧ ∃ ρ', forX [3] true (exs c n turnB) (exsX c n turnB) (l.map D.int) [.val false (netD m ws), s1, .own false (ps.map D.int), s3, s4] = some (3, ρ') := by
  intro l
  induction l with
  | nil => intro ps s3 s4 _ _ _; exact ⟨_, _, rfl, rfl⟩
  | cons k l ih =>
    intro ps s3 s4 h3 h4 hl
    simp only [List.length_cons] at hl
    have hb : bindF [.val false (netD m ws), s1, .own false (ps.map D.int), s3, s4] [3] true (.int k) = some (WF m ws s1 ps k s4) := by simp [h3, WF]
    have ht := turn_ok (c := c) (n := n) (k := k) (s1 := s1) hk h4 (ps := ps) (by omega)
    rw [goW]
    cases e : stepW ws ps k with
    | none =>
      rw [e] at ht
      obtain ⟨t1, ρ', t2⟩ := ht
      refine ⟨?_, ρ', ?_⟩
      · rw [List.map_cons, forT, hb]; simp only [t1]; rfl
      · rw [List.map_cons, forX, hb]; simp only [t2]
    | some qs =>
      rw [e] at ht
      obtain ⟨s4', f4, t1, t2⟩ := ht
      have := (step_ok e).2.2.1
      have hi := ih qs (.val false (.int k)) s4' rfl f4 (by omega)
      have g1 : forT [3] true (exs c n turnB) ((k :: l).map D.int) [.val false (netD m ws), s1, .own false (ps.map D.int), s3, s4] = forT [3] true (exs c n turnB) (l.map D.int) (WF m ws s1 qs k s4') := by
        rw [List.map_cons, forT, hb]; simp only [t1]; rfl
      have g2 : forX [3] true (exs c n turnB) (exsX c n turnB) ((k :: l).map D.int) [.val false (netD m ws), s1, .own false (ps.map D.int), s3, s4] = forX [3] true (exs c n turnB) (exsX c n turnB) (l.map D.int) (WF m ws s1 qs k s4') := by
        rw [List.map_cons, forX, hb]; simp only [t1, t2]
      simp only []
      rw [g1, g2]
      exact hi
noncomputable abbrev A2 (m : Int) (ws : List Wy) (l : List Int) : List Sl := [.val false (netD m ws), .val false (.tup (l.map D.int))]
theorem places_ok {w n : Nat} {m : Int} {ws : List Wy} {l qs : List Int} (hk : NetOk m ws) (hl : l.length ≤ 100) (h : goW ws l [] = some qs) : run Γ w (n + 1) 11 (A2 m ws l) = .ok (.val (.tup (qs.map D.int))) (A2 m ws l) := by
  have z := loop_ok (c := run Γ w n) (n := w) (s1 := .val false (.tup (l.map D.int))) hk l [] .unb .unb rfl rfl (by simp; omega)
  rw [h] at z
  obtain ⟨s3, s4, z, _⟩ := z
  rw [run_succ (d := ⟨2, 5, [.asg 2 (.lst []), .forr (.var 1) [3] true turnB, .ret (.blt .tuple [.var 2])]⟩) rfl]
  generalize turnB = B at z ⊢
  unfold enter
  rw [List.map_nil] at z
  simp [exs, z]
theorem places_no {w n : Nat} {m : Int} {ws : List Wy} {l : List Int} (hk : NetOk m ws) (hl : l.length ≤ 100) (h : goW ws l [] = none) : ∃ args, run Γ w (n + 1) 11 (A2 m ws l) = .exc 3 args := by
  have z := loop_ok (c := run Γ w n) (n := w) (s1 := .val false (.tup (l.map D.int))) hk l [] .unb .unb rfl rfl (by simp; omega)
  rw [h] at z
  obtain ⟨z, ρ', z2⟩ := z
  rw [run_succ (d := ⟨2, 5, [.asg 2 (.lst []), .forr (.var 1) [3] true turnB, .ret (.blt .tuple [.var 2])]⟩) rfl]
  generalize turnB = B at z z2 ⊢
  unfold enter
  rw [List.map_nil] at z z2
  simp [exs, exsX, exX, callX, callOf, z, z2]
noncomputable def F2c (a b : Sl) (ρ : List Sl) : Prop := ∃ s, ρ = [a, b, s] ∧ fr s = true
theorem hh_at {ws : List Wy} {k : Int} (h0 : 0 ≤ k) (h1 : k < (ws.length : Int)) : ∃ v : Wy, at' (ws.map Wy.d) k = some v.d ∧ v.h = hh ws k := by
  obtain ⟨v, hv, _, ha⟩ := wy_at h0 h1
  exact ⟨v, ha, by unfold hh; rw [hv]⟩
noncomputable def gH (ws : List Wy) : D → D
  | .int k => .int (hh ws k)
  | d => d
theorem length_ok {w n : Nat} {m : Int} {ws : List Wy} {l qs : List Int} {Q : R → List Sl → Prop} (hk : NetOk m ws) (hl : l.length ≤ 100) (h : goW ws l [] = some qs) (q : Q (.val (.int (tot ws l))) (A2 m ws l)) : (run Γ w (n + 2) 12 (A2 m ws l)).sat Q := by
  refine sat_run (d := f12) rfl rfl (by decide) ?_
  refine sat_cons ?_
  simp [f12, places_ok hk hl h]
  refine sat_cons ?_
  have hlim : l.length ≤ lim := by show _ ≤ 16777216; omega
  simp [hlim]
  refine sat_compM (F2c _ _) (gH ws) ⟨.unb, rfl, rfl⟩ ?_ ?_
  · rintro d hd _ ⟨s, rfl, hs⟩
    obtain ⟨k, hk', rfl⟩ := List.mem_map.mp hd
    obtain ⟨k0, k1⟩ := goW_ok h k hk'
    obtain ⟨v, ha, hv⟩ := hh_at k0 k1
    simp [hs, ha, wd_3, gH, hv]
    exact ⟨_, rfl, rfl⟩
  rintro _ ⟨s, rfl, hs⟩
  have e1 : (l.map D.int).map (gH ws) = (l.map (hh ws)).map D.int := by simp [gH]
  rw [e1, mapM_int]
  simp
  exact q
end T
end
section
set_option Elab.async false
set_option linter.all false
set_option maxRecDepth 100000
namespace T
open HH
inductive Wk (ws : List Wy) (a : Int) : Int → Int → Prop where
  | nil : Wk ws a a 0
  | step {p h : Int} {v : Wy} (k : Wk ws a p h) (hv : v ∈ ws) (r : 0 < v.r) (s : v.s = p) : Wk ws a v.t (h + v.h)
theorem Wk.nn {m a : Int} {ws : List Wy} (hn : NetOk m ws) (a0 : 0 ≤ a) (a1 : a < m) {p h : Int} (k : Wk ws a p h) : 0 ≤ h ∧ 0 ≤ p ∧ p < m := by
  induction k with
  | nil => omega
  | step k hv r s ih =>
    have h1 := hn.ok _ hv
    have := h1.h0; have := h1.t0; have := h1.t1
    omega
theorem Wk.trans {ws : List Wy} {a p q h g : Int} (k : Wk ws a p h) (l : Wk ws p q g) : Wk ws a q (h + g) := by
  induction l with
  | nil => simpa using k
  | @step p' g' v l hv r s ih => rw [← Int.add_assoc]; exact .step ih hv r s
theorem Wk.one {ws : List Wy} {v : Wy} (hv : v ∈ ws) (r : 0 < v.r) : Wk ws v.s v.t v.h := by
  have := Wk.step (.nil : Wk ws v.s v.s 0) hv r rfl
  simpa using this
theorem Wk.first {ws : List Wy} {a b h : Int} (k : Wk ws a b h) : (a = b ∧ h = 0) ∨ ∃ v ∈ ws, 0 < v.r ∧ v.s = a ∧ ∃ g, Wk ws v.t b g ∧ h = v.h + g := by
  induction k with
  | nil => exact .inl ⟨rfl, rfl⟩
  | @step p h v k hv r s ih =>
    right
    rcases ih with ⟨e, rfl⟩ | ⟨u, hu, ru, su, g, z, e⟩
    · subst e
      exact ⟨v, hv, r, s, 0, .nil, by omega⟩
    · exact ⟨u, hu, ru, su, g + v.h, .step z hv r s, by omega⟩
noncomputable def Sub (us ws : List Wy) : Prop := ∀ v ∈ us, 0 < v.r → ∃ u ∈ ws, 0 < u.r ∧ u.s = v.s ∧ u.t = v.t ∧ u.h = v.h
theorem Wk.sub {us ws : List Wy} (hs : Sub us ws) {a p h : Int} (k : Wk us a p h) : Wk ws a p h := by
  induction k with
  | nil => exact .nil
  | @step p h v k hv r s ih =>
    obtain ⟨u, hu, ru, su, tu, hu'⟩ := hs v hv r
    rw [← tu, ← hu']
    exact .step ih hu ru (su.trans s)
noncomputable def Least (ws : List Wy) (a p : Int) (o : Option Int) : Prop := match o with
  | none => ∀ h, ¬ Wk ws a p h
  | some v => Wk ws a p v ∧ ∀ h, Wk ws a p h → v ≤ h
theorem Least.uniq {ws : List Wy} {a p : Int} {o o' : Option Int} (h : Least ws a p o) (h' : Least ws a p o') : o = o' := by
  cases o with
  | none => cases o' with
    | none => rfl
    | some v => exact absurd h'.1 (h v)
  | some u => cases o' with
    | none => exact absurd h.1 (h' u)
    | some v => have := h.2 v h'.1; have := h'.2 u h.1; congr 1; omega
theorem Least.iff {us ws : List Wy} {a p b q : Int} {o : Option Int} (e : ∀ h, Wk us a p h ↔ Wk ws b q h) (k : Least us a p o) : Least ws b q o := by
  cases o with
  | none => exact fun h z => k h ((e h).mpr z)
  | some v => exact ⟨(e v).mp k.1, fun h z => k.2 h ((e h).mpr z)⟩
theorem Least.sub {us ws : List Wy} {a p : Int} {o : Option Int} (s1 : Sub us ws) (s2 : Sub ws us) (k : Least us a p o) : Least ws a p o := k.iff fun h => ⟨Wk.sub s1, Wk.sub s2⟩
noncomputable def oD : Option Int → D
  | none => .non
  | some i => .int i
end T
end
section
set_option Elab.async false
set_option linter.all false
set_option maxRecDepth 100000
namespace T
open HH
noncomputable def pot1 : Option Int → Nat
  | none => 6000001
  | some v => v.toNat
noncomputable def meas (hs : List (Option Int)) : Nat := (hs.map pot1).sum
noncomputable def cnt (hs : List (Option Int)) : Nat := (hs.filter Option.isSome).length
theorem meas_set : ∀ {hs : List (Option Int)} {k : Nat} {o n : Option Int}, hs[k]? = some o → pot1 n < pot1 o → meas (hs.set k n) < meas hs
  | [], _, _, _, h, _ => by simp at h
  | x :: hs, 0, o, n, h, l => by
    simp at h; subst h
    simp only [meas, List.set_cons_zero, List.map_cons, List.sum_cons]; omega
  | x :: hs, k + 1, o, n, h, l => by
    have := meas_set (hs := hs) (k := k) (by simpa using h) l
    simp only [meas, List.set_cons_succ, List.map_cons, List.sum_cons] at this ⊢; omega
theorem meas_le : ∀ (hs : List (Option Int)), (∀ o ∈ hs, pot1 o ≤ 6000001) → meas hs ≤ 6000001 * hs.length
  | [], _ => by simp [meas]
  | x :: hs, h => by
    have h1 := h x (by simp)
    have h2 := meas_le hs fun o ho => h o (by simp [ho])
    simp only [meas, List.map_cons, List.sum_cons, List.length_cons] at h2 ⊢; omega
theorem cnt_set_new : ∀ {hs : List (Option Int)} {k : Nat} {v : Int}, hs[k]? = some none → cnt (hs.set k (some v)) = cnt hs + 1
  | [], _, _, h => by simp at h
  | x :: hs, 0, v, h => by
    simp at h; subst h
    simp [cnt]
  | x :: hs, k + 1, v, h => by
    have := cnt_set_new (hs := hs) (k := k) (v := v) (by simpa using h)
    simp only [cnt, List.set_cons_succ, List.filter_cons] at this ⊢
    split <;> simp [this]
theorem cnt_set_old : ∀ {hs : List (Option Int)} {k : Nat} {u v : Int}, hs[k]? = some (some u) → cnt (hs.set k (some v)) = cnt hs
  | [], _, _, _, h => by simp at h
  | x :: hs, 0, u, v, h => by
    simp at h; subst h
    simp [cnt]
  | x :: hs, k + 1, u, v, h => by
    have := cnt_set_old (hs := hs) (k := k) (v := v) (by simpa using h)
    simp only [cnt, List.set_cons_succ, List.filter_cons] at this ⊢
    split <;> simp [this]
theorem cnt_le (hs : List (Option Int)) : cnt hs ≤ hs.length := List.length_filter_le _ _
structure Hrs (m : Int) (ws : List Wy) (a0 : Int) (hs : List (Option Int)) : Prop where
  len : (hs.length : Int) = m
  zero : hs[a0.toNat]? = some (some 0)
  wk : ∀ (p : Nat) (v : Int), hs[p]? = some (some v) → Wk ws a0 p v ∧ v ≤ 1000000 * ((cnt hs : Int) - 1)
noncomputable def Relaxed (hs : List (Option Int)) (v : Wy) : Prop := 0 < v.r → ∀ a : Int, hs[v.s.toNat]? = some (some a) → ∃ b : Int, hs[v.t.toNat]? = some (some b) ∧ b ≤ a + v.h
theorem Hrs.pot {m a0 : Int} {ws : List Wy} (hn : NetOk m ws) {hs : List (Option Int)} (h : Hrs m ws a0 hs) : ∀ o ∈ hs, pot1 o ≤ 6000001 := by
  intro o ho
  obtain ⟨p, hp, e⟩ := List.getElem_of_mem ho
  cases o with
  | none => exact Nat.le_refl _
  | some v =>
    have h1 := (h.wk p v (by rw [List.getElem?_eq_getElem hp, e])).2
    have h2 := cnt_le hs
    have h3 := h.len
    have h4 := hn.m1
    show v.toNat ≤ _
    omega
theorem Hrs.upd {m a0 : Int} {ws : List Wy} (hn : NetOk m ws) (z0 : 0 ≤ a0) (z1 : a0 < m) {hs : List (Option Int)} (h : Hrs m ws a0 hs) {v : Wy} (hv : v ∈ ws) (r : 0 < v.r) {a : Int} {o : Option Int} (ha : hs[v.s.toNat]? = some (some a)) (ho : hs[v.t.toNat]? = some o)
    (hl : ∀ b, o = some b → a + v.h < b) : Hrs m ws a0 (hs.set v.t.toNat (some (a + v.h))) ∧ meas (hs.set v.t.toNat (some (a + v.h))) < meas hs := by
  have hk := hn.ok v hv
  have s0 := hk.s0; have t0 := hk.t0; have h0 := hk.h0; have h1 := hk.h1
  obtain ⟨wa, la⟩ := h.wk _ _ ha
  rw [show ((v.s.toNat : Nat) : Int) = v.s by omega] at wa
  have an := (wa.nn hn z0 z1).1
  have wt : Wk ws a0 v.t (a + v.h) := .step wa hv r rfl
  have hlt := (List.getElem?_eq_some_iff.mp ho).1
  have hnz : v.t.toNat ≠ a0.toNat := by
    intro e
    rw [e, h.zero] at ho
    cases ho
    have := hl 0 rfl
    omega
  have hc : (cnt hs : Int) ≤ cnt (hs.set v.t.toNat (some (a + v.h))) ∧ a + v.h ≤ 1000000 * ((cnt (hs.set v.t.toNat (some (a + v.h))) : Int) - 1) := by
    cases o with
    | none => rw [cnt_set_new ho]; omega
    | some b =>
      rw [cnt_set_old ho]
      have := (h.wk _ _ ho).2
      have := hl b rfl
      omega
  refine ⟨⟨by rw [List.length_set]; exact h.len, by rw [List.getElem?_set_ne hnz]; exact h.zero, fun p u e => ?_⟩, meas_set ho ?_⟩
  · by_cases hp : p = v.t.toNat
    · subst hp
      rw [List.getElem?_set_self hlt] at e
      cases e
      refine ⟨by rw [show ((v.t.toNat : Nat) : Int) = v.t by omega]; exact wt, hc.2⟩
    · rw [List.getElem?_set_ne (Ne.symm hp)] at e
      obtain ⟨w1, w2⟩ := h.wk p u e
      exact ⟨w1, by omega⟩
  · cases o with
    | none =>
      show (a + v.h).toNat < 6000001
      have h2 := cnt_le hs
      have h3 := h.len
      have h4 := hn.m1
      omega
    | some b =>
      have := hl b rfl
      show (a + v.h).toNat < b.toNat
      omega
theorem Hrs.least {m a0 : Int} {ws : List Wy} (z0 : 0 ≤ a0) (hn : NetOk m ws) {hs : List (Option Int)} (h : Hrs m ws a0 hs) (hr : ∀ v ∈ ws, Relaxed hs v) : ∀ (p : Nat) (o : Option Int), hs[p]? = some o → Least ws a0 p o := by
  have key : ∀ (p g : Int), Wk ws a0 p g → ∃ b : Int, hs[p.toNat]? = some (some b) ∧ b ≤ g := by
    intro p g k
    induction k with
    | nil => exact ⟨0, h.zero, Int.le_refl _⟩
    | @step p g v k hv r s ih =>
      obtain ⟨a, ha, la⟩ := ih
      obtain ⟨b, hb, lb⟩ := hr v hv r a (by rw [s]; exact ha)
      exact ⟨b, hb, by omega⟩
  intro p o e
  cases o with
  | none =>
    intro g k
    obtain ⟨b, hb, _⟩ := key _ _ k
    rw [show ((p : Nat) : Int).toNat = p by omega, e] at hb
    cases hb
  | some v =>
    refine ⟨(h.wk p v e).1, fun g k => ?_⟩
    obtain ⟨b, hb, l⟩ := key _ _ k
    rw [show ((p : Nat) : Int).toNat = p by omega, e] at hb
    cases hb
    exact l
theorem Hrs.start {m a0 : Int} {ws : List Wy} (hn : NetOk m ws) (z0 : 0 ≤ a0) (z1 : a0 < m) : Hrs m ws a0 ((List.replicate m.toNat none).set a0.toNat (some 0)) := by
  have m0 := hn.m0
  refine ⟨by rw [List.length_set, List.length_replicate]; omega, List.getElem?_set_self (by rw [List.length_replicate]; omega), fun p v e => ?_⟩
  by_cases hp : p = a0.toNat
  · subst hp
    rw [List.getElem?_set_self (by rw [List.length_replicate]; omega)] at e
    cases e
    refine ⟨by rw [show ((a0.toNat : Nat) : Int) = a0 by omega]; exact .nil, ?_⟩
    rw [cnt_set_new (by rw [List.getElem?_replicate, if_pos (by omega)])]
    omega
  · rw [List.getElem?_set_ne (Ne.symm hp), List.getElem?_replicate] at e
    split at e <;> cases e
end T
end
section
set_option Elab.async false
set_option linter.all false
set_option maxRecDepth 100000
namespace T
open HH
theorem at_mapI {α : Type} {l : List α} {f : α → D} {i : Int} {x : α} (h0 : 0 ≤ i) (h : l[i.toNat]? = some x) : at' (l.map f) i = some (f x) := by
  have := at_map (f := f) h
  rwa [show ((i.toNat : Nat) : Int) = i by omega] at this
theorem ix_int {n : Nat} {i : Int} (h0 : 0 ≤ i) (h : i < n) : ixN n i = some i.toNat := by
  have := ix_nat (n := n) (k := i.toNat) (by omega)
  rwa [show ((i.toNat : Nat) : Int) = i by omega] at this
@[simp] theorem isNon_oD_none : isNon (oD none) = true := rfl
@[simp] theorem isNon_oD_some {v : Int} : isNon (oD (some v)) = false := rfl
noncomputable def PJ (m : Int) (ws : List Wy) (a0 : Int) (M : Nat) (r : List D) (ρ : List Sl) : Prop := ∃ (hs : List (Option Int)) (b : Bool) (us pre : List Wy) (s4 s5 : Sl), ρ = [.val false (netD m ws), .val false (.int a0), .own false (hs.map oD), .val false (.bl b), s4, s5] ∧ fr s4 = true ∧ fr s5 = true ∧ r = us.map Wy.d ∧ ws = pre ++ us ∧ Hrs m ws a0 hs ∧ meas hs ≤ M ∧ ((b = true ∧ meas hs < M) ∨ (b = false ∧ ∀ v ∈ pre, Relaxed hs v))
noncomputable def WJ (m : Int) (ws : List Wy) (a0 : Int) (M : Nat) (ρ : List Sl) : Prop := ∃ (hs : List (Option Int)) (b : Bool) (s4 s5 : Sl), ρ = [.val false (netD m ws), .val false (.int a0), .own false (hs.map oD), .val false (.bl b), s4, s5] ∧ fr s4 = true ∧ fr s5 = true ∧ Hrs m ws a0 hs ∧ ((b = true ∧ meas hs < M) ∨ (b = false ∧ ∀ v ∈ ws, Relaxed hs v))
theorem from_sat {w n : Nat} {m a0 : Int} {ws : List Wy} {Q : R → List Sl → Prop} (hw : 50000000 ≤ w) (h : NetOk m ws) (z0 : 0 ≤ a0) (z1 : a0 < m)
    (k : ∀ hs : List (Option Int), (hs.length : Int) = m → (∀ (p : Nat) (o : Option Int), hs[p]? = some o → Least ws a0 p o) → (∀ (p : Nat) (v : Int), hs[p]? = some (some v) → 0 ≤ v ∧ v ≤ 6000000) → Q (.own (hs.map oD)) [.val false (netD m ws), .val false (.int a0)]) :
    (run Γ w (n + 1) 6 [.val false (netD m ws), .val false (.int a0)]).sat Q := by
  have m0 := h.m0
  have m1 := h.m1
  refine sat_run (d := f6) rfl rfl (by decide) ?_
  refine sat_seq (fun ρ => ρ = [.val false (netD m ws), .val false (.int a0), .own false ((List.replicate m.toNat (none : Option Int)).map oD), .unb, .unb, .unb]) ?_ ?_
  · simp [f6, oD]
    refine ⟨by omega, by show _ ≤ 16777216; omega⟩
  rintro _ rfl
  refine sat_seq (fun ρ => ρ = [.val false (netD m ws), .val false (.int a0), .own false (((List.replicate m.toNat (none : Option Int)).set a0.toNat (some 0)).map oD), .unb, .unb, .unb]) ?_ ?_
  · simp [ix_int (n := m.toNat) (i := a0) z0 (by omega), oD]
  rintro _ rfl
  have hst := Hrs.start h z0 z1
  generalize ((List.replicate m.toNat (none : Option Int)).set a0.toNat (some 0)) = hs0 at *
  refine sat_cons ?_
  simp
  refine sat_cons ?_
  simp
  have hm0 : meas hs0 ≤ 6000001 * hs0.length := meas_le hs0 (hst.pot h)
  have hl0 := hst.len
  refine sat_whlC (WJ m ws a0) ?_ (k := w) (m := meas hs0 + 1) (by omega) ⟨hs0, true, .unb, .unb, rfl, rfl, rfl, hst, .inl ⟨rfl, Nat.lt_succ_self _⟩⟩
  rintro M _ ⟨hs, b, s4, s5, rfl, h4, h5, hh, hb⟩
  simp
  rcases hb with ⟨rfl, hM⟩ | ⟨rfl, hfix⟩
  · simp
    refine sat_cons ?_
    simp
    refine sat_cons ?_
    simp
    refine sat_forT (PJ m ws a0 (meas hs)) ?_ ?_ ⟨hs, false, ws, [], s4, s5, rfl, h4, h5, rfl, rfl, hh, Nat.le_refl _, .inr ⟨rfl, by simp⟩⟩
    · rintro d r _ ⟨hs', b, us, pre, s4, s5, rfl, h4, h5, hr, hws, hh', hle, hb⟩
      cases us with
      | nil => cases hr
      | cons v us =>
        obtain ⟨rfl, rfl⟩ : d = v.d ∧ r = us.map Wy.d := by simpa using hr
        have hv : v ∈ ws := by rw [hws]; simp
        have hk := h.ok v hv
        have s0 := hk.s0; have s1 := hk.s1; have t0 := hk.t0; have t1 := hk.t1
        have hlen := hh'.len
        obtain ⟨os, es⟩ : ∃ o, hs'[v.s.toNat]? = some o := ⟨_, List.getElem?_eq_getElem (by omega)⟩
        obtain ⟨ot, et⟩ : ∃ o, hs'[v.t.toNat]? = some o := ⟨_, List.getElem?_eq_getElem (by omega)⟩
        have as := at_mapI (f := oD) s0 es
        have at_ := at_mapI (f := oD) t0 et
        have ixt : ixN hs'.length v.t = some v.t.toNat := ix_int t0 (by omega)
        have hws2 : ws = (pre ++ [v]) ++ us := by rw [hws]; simp
        have stay : Relaxed hs' v → ((b = true ∧ meas hs' < meas hs) ∨ (b = false ∧ ∀ u ∈ pre ++ [v], Relaxed hs' u)) := fun hx => by
          rcases hb with hb | ⟨hb, hp⟩
          · exact .inl hb
          · refine .inr ⟨hb, fun u hu => ?_⟩
            rcases List.mem_append.mp hu with hu | hu
            · exact hp u hu
            · rw [List.mem_singleton.mp hu]; exact hx
        simp [h4]
        refine sat_cons ?_
        by_cases r0 : 0 < v.r
        · cases os with
          | none =>
            simp [Wy.d, r0, as]
            exact ⟨hs', b, us, pre ++ [v], _, _, rfl, rfl, h5, rfl, hws2, hh', hle, stay fun _ a ha => by rw [es] at ha; cases ha⟩
          | some a =>
            have up := fun (hl : ∀ b, ot = some b → a + v.h < b) => hh'.upd h z0 z1 hv r0 es et hl
            simp [Wy.d, r0, as]
            refine sat_cons ?_
            simp [as, oD, h5]
            have hset : ∀ hs2 : List (Option Int), hs2 = hs'.set v.t.toNat (some (a + v.h)) → (hs'.map oD).set v.t.toNat (D.int (a + v.h)) = hs2.map oD := fun hs2 e => by rw [e, List.map_set]; rfl
            refine sat_cons ?_
            cases ot with
            | none =>
              obtain ⟨u1, u2⟩ := up fun b hb => by cases hb
              have hse := hset _ rfl
              generalize hs'.set v.t.toNat (some (a + v.h)) = hs2 at *
              simp [at_]
              refine sat_cons ?_
              simp [ixt, hse]
              refine sat_cons ?_
              simp
              exact ⟨hs2, true, us, pre ++ [v], _, _, rfl, rfl, rfl, rfl, hws2, u1, by omega, .inl ⟨rfl, by omega⟩⟩
            | some bb =>
              by_cases hlt : a + v.h < bb
              · obtain ⟨u1, u2⟩ := up fun b hb => by cases hb; exact hlt
                have hse := hset _ rfl
                generalize hs'.set v.t.toNat (some (a + v.h)) = hs2 at *
                simp [at_, oD, hlt]
                refine sat_cons ?_
                simp [ixt, hse]
                refine sat_cons ?_
                simp
                exact ⟨hs2, true, us, pre ++ [v], _, _, rfl, rfl, rfl, rfl, hws2, u1, by omega, .inl ⟨rfl, by omega⟩⟩
              · simp [at_, oD, hlt]
                exact ⟨hs', b, us, pre ++ [v], _, _, rfl, rfl, rfl, rfl, hws2, hh', hle, stay fun _ a' ha => by rw [es] at ha; cases ha; exact ⟨bb, et, by omega⟩⟩
        · simp [Wy.d, r0]
          exact ⟨hs', b, us, pre ++ [v], _, _, rfl, rfl, h5, rfl, hws2, hh', hle, stay fun hx => absurd hx r0⟩
    · rintro _ ⟨hs', b, us, pre, s4, s5, rfl, h4, h5, hr, hws, hh', hle, hb⟩
      have : us = [] := by cases us with | nil => rfl | cons _ _ => cases hr
      subst this
      rw [List.append_nil] at hws
      subst hws
      simp
      rcases hb with ⟨rfl, hl⟩ | ⟨rfl, hp⟩
      · exact ⟨meas hs, hM, hs', true, _, _, rfl, h4, h5, hh', .inl ⟨rfl, hl⟩⟩
      · exact ⟨0, by omega, hs', false, _, _, rfl, h4, h5, hh', .inr ⟨rfl, hp⟩⟩
  · simp
    refine sat_cons ?_
    simp
    exact k hs hh.len (hh.least z0 h hfix) fun p v e => by
      have h1 := hh.wk p v e
      have h2 := cnt_le hs
      have h3 := hh.len
      exact ⟨(h1.1.nn h z0 z1).1, by omega⟩
end T
end
section
set_option Elab.async false
set_option linter.all false
set_option maxRecDepth 100000
namespace T
open HH
noncomputable def Wy.turn (m : Int) (w : Wy) : Wy := ⟨m - 1 - w.t, m - 1 - w.s, w.r, w.h⟩
theorem turn_turn {m : Int} {ws : List Wy} : (ws.map (Wy.turn m)).map (Wy.turn m) = ws := by
  rw [List.map_map]
  have : (Wy.turn m ∘ Wy.turn m) = id := by
    funext w
    cases w
    simp only [Function.comp, Wy.turn, id]
    congr 1 <;> omega
  rw [this]; simp
theorem turn_nok {m : Int} {ws : List Wy} (h : NetOk m ws) : NetOk m (ws.map (Wy.turn m)) := by
  refine ⟨h.m0, h.m1, by simpa using h.len, fun v hv => ?_⟩
  obtain ⟨u, hu, rfl⟩ := List.mem_map.mp hv
  have o := h.ok u hu
  have := o.s0; have := o.s1; have := o.t0; have := o.t1; have := o.ne
  exact ⟨by show 0 ≤ m - 1 - u.t; omega, by show m - 1 - u.t < m; omega, by show 0 ≤ m - 1 - u.s; omega, by show m - 1 - u.s < m; omega, by show m - 1 - u.t ≠ m - 1 - u.s; omega, o.r0, o.r1, o.h0, o.h1⟩
theorem Wk.turned {m : Int} {ws : List Wy} {b P h : Int} (k : Wk (ws.map (Wy.turn m)) (m - 1 - b) P h) : Wk ws (m - 1 - P) b h := by
  induction k with
  | nil => rw [show m - 1 - (m - 1 - b) = b by omega]; exact .nil
  | @step p h v k hv r s ih =>
    obtain ⟨u, hu, rfl⟩ := List.mem_map.mp hv
    have s' : m - 1 - u.t = p := s
    have e1 : m - 1 - p = u.t := by omega
    rw [e1] at ih
    have e2 : m - 1 - (Wy.turn m u).t = u.s := by show m - 1 - (m - 1 - u.s) = u.s; omega
    rw [e2]
    have := (Wk.one hu (show 0 < u.r from r)).trans ih
    rw [Int.add_comm]
    exact this
theorem wk_turn {m : Int} {ws : List Wy} {p b h : Int} : Wk (ws.map (Wy.turn m)) (m - 1 - b) (m - 1 - p) h ↔ Wk ws p b h := by
  constructor
  · intro k
    have := k.turned
    rwa [show m - 1 - (m - 1 - p) = p by omega] at this
  · intro k
    have k' : Wk ((ws.map (Wy.turn m)).map (Wy.turn m)) (m - 1 - (m - 1 - p)) b h := by
      rw [turn_turn, show m - 1 - (m - 1 - p) = p by omega]; exact k
    exact k'.turned
noncomputable def sw (a x : Int) : Int := if x = 0 then a else if x = a then 0 else x
noncomputable def swW (a : Int) (w : Wy) : Wy := ⟨sw a w.s, sw a w.t, w.r, w.h⟩
theorem sw_sw {a x : Int} : sw a (sw a x) = x := by
  unfold sw
  by_cases h1 : x = 0
  · rw [if_pos h1]
    by_cases h2 : a = 0
    · rw [if_pos h2]; omega
    · rw [if_neg h2, if_pos rfl]; exact h1.symm
  · rw [if_neg h1]
    by_cases h2 : x = a
    · rw [if_pos h2, if_pos rfl]; exact h2.symm
    · rw [if_neg h2, if_neg h1, if_neg h2]
theorem sw_map {a : Int} {ws : List Wy} : (ws.map (swW a)).map (swW a) = ws := by
  rw [List.map_map]
  have : (swW a ∘ swW a) = id := by
    funext w
    cases w
    simp only [Function.comp, swW, id, sw_sw]
  rw [this]; simp
theorem sw_b {a x m : Int} (a0 : 0 ≤ a) (a1 : a < m) (x0 : 0 ≤ x) (x1 : x < m) : 0 ≤ sw a x ∧ sw a x < m := by
  unfold sw; split
  · exact ⟨a0, a1⟩
  · split
    · omega
    · exact ⟨x0, x1⟩
theorem sw_ok {m a : Int} {ws : List Wy} (h : NetOk m ws) (a0 : 0 ≤ a) (a1 : a < m) : NetOk m (ws.map (swW a)) := by
  refine ⟨h.m0, h.m1, by simpa using h.len, fun v hv => ?_⟩
  obtain ⟨u, hu, rfl⟩ := List.mem_map.mp hv
  have o := h.ok u hu
  have b1 := sw_b a0 a1 o.s0 o.s1
  have b2 := sw_b a0 a1 o.t0 o.t1
  refine ⟨b1.1, b1.2, b2.1, b2.2, fun e => o.ne ?_, o.r0, o.r1, o.h0, o.h1⟩
  have : sw a (sw a u.s) = sw a (sw a u.t) := congrArg (sw a) e
  rwa [sw_sw, sw_sw] at this
theorem Wk.swapped {a : Int} {ws : List Wy} {b p h : Int} (k : Wk ws b p h) : Wk (ws.map (swW a)) (sw a b) (sw a p) h := by
  induction k with
  | nil => exact .nil
  | @step p h v k hv r s ih => exact .step (v := swW a v) ih (List.mem_map.mpr ⟨v, hv, rfl⟩) r (by show sw a v.s = _; rw [s])
theorem wk_sw {a : Int} {ws : List Wy} {p h : Int} : Wk (ws.map (swW a)) 0 p h ↔ Wk ws a (sw a p) h := by
  have e0 : sw a 0 = a := by unfold sw; rw [if_pos rfl]
  constructor
  · intro k
    have := k.swapped (a := a)
    rwa [sw_map, e0] at this
  · intro k
    have := k.swapped (a := a)
    have e1 : sw a a = 0 := by have := sw_sw (a := a) (x := 0); rwa [e0] at this
    rwa [sw_sw, e1] at this
theorem Wk.more {ws : List Wy} {v : Wy} {p h : Int} (h0 : ∀ u ∈ ws ++ [v], 0 ≤ u.h) (k : Wk (ws ++ [v]) 0 p h) : (∃ g, Wk ws 0 p g ∧ g ≤ h) ∨ (0 < v.r ∧ ∃ g1 g2, Wk ws 0 v.s g1 ∧ Wk ws v.t p g2 ∧ g1 + v.h + g2 ≤ h) := by
  induction k with
  | nil => exact .inl ⟨0, .nil, Int.le_refl _⟩
  | @step p h u k hu r s ih =>
    have hh := h0 u hu
    rcases List.mem_append.mp hu with hu | hu
    · rcases ih with ⟨g, z, l⟩ | ⟨rv, g1, g2, z1, z2, l⟩
      · exact .inl ⟨g + u.h, .step z hu r s, by omega⟩
      · exact .inr ⟨rv, g1, g2 + u.h, z1, .step z2 hu r s, by omega⟩
    · have e := List.mem_singleton.mp hu
      subst e
      right
      have nn2 : ∀ q g, Wk ws u.t q g → 0 ≤ g := fun q g z => by
        induction z with
        | nil => exact Int.le_refl _
        | @step p' g' x z hx r' s' ih' => have := h0 x (List.mem_append_left _ hx); omega
      rcases ih with ⟨g, z, l⟩ | ⟨rv, g1, g2, z1, z2, l⟩
      · subst s
        exact ⟨r, g, 0, z, .nil, by omega⟩
      · have := nn2 _ _ z2
        exact ⟨r, g1, 0, z1, .nil, by omega⟩
noncomputable def omin : Option Int → Option Int → Option Int
  | none, o => o
  | some a, none => some a
  | some a, some b => some (if b < a then b else a)
noncomputable def byW (v : Wy) (x y : Option Int) : Option Int := match x, y with
  | some a, some b => if 0 < v.r then some (a + v.h + b) else none
  | _, _ => none
theorem more_least {ws : List Wy} {v : Wy} {p : Int} {x y z : Option Int} (h0 : ∀ u ∈ ws ++ [v], 0 ≤ u.h) (hx : Least ws 0 v.s x) (hy : Least ws v.t p y) (hz : Least ws 0 p z) : Least (ws ++ [v]) 0 p (omin z (byW v x y)) := by
  have sub : Sub ws (ws ++ [v]) := fun u hu r => ⟨u, List.mem_append_left _ hu, r, rfl, rfl, rfl⟩
  have hv : v ∈ ws ++ [v] := by simp
  -- what the way makes
  have byk : ∀ a b, Wk ws 0 v.s a → Wk ws v.t p b → 0 < v.r → Wk (ws ++ [v]) 0 p (a + v.h + b) := fun a b k1 k2 r => (((k1.sub sub).trans (Wk.one hv r)).trans (k2.sub sub))
  have key : ∀ h, Wk (ws ++ [v]) 0 p h → (∃ g, z = some g ∧ g ≤ h) ∨ (∃ g, byW v x y = some g ∧ g ≤ h) := fun h k => by
    rcases k.more h0 with ⟨g, k, l⟩ | ⟨r, g1, g2, k1, k2, l⟩
    · left
      cases z with
      | none => exact absurd k (hz g)
      | some c => exact ⟨c, rfl, by have := hz.2 g k; omega⟩
    · right
      cases x with
      | none => exact absurd k1 (hx g1)
      | some a =>
        cases y with
        | none => exact absurd k2 (hy g2)
        | some b =>
          refine ⟨a + v.h + b, by simp [byW, r], ?_⟩
          have := hx.2 g1 k1; have := hy.2 g2 k2; omega
  have isby : ∀ g, byW v x y = some g → Wk (ws ++ [v]) 0 p g := fun g e => by
    cases x with
    | none => cases e
    | some a =>
      cases y with
      | none => cases e
      | some b =>
        by_cases r : 0 < v.r
        · simp [byW, r] at e
          subst e
          exact byk a b hx.1 hy.1 r
        · simp [byW, r] at e
  cases z with
  | none =>
    show Least (ws ++ [v]) 0 p (byW v x y)
    cases e : byW v x y with
    | none =>
      intro h k
      rcases key h k with ⟨g, e', _⟩ | ⟨g, e', _⟩
      · cases e'
      · rw [e] at e'; cases e'
    | some g =>
      refine ⟨isby g e, fun h k => ?_⟩
      rcases key h k with ⟨g', e', _⟩ | ⟨g', e', l⟩
      · cases e'
      · rw [e] at e'; cases e'; exact l
  | some c =>
    cases e : byW v x y with
    | none =>
      refine ⟨hz.1.sub sub, fun h k => ?_⟩
      rcases key h k with ⟨g', e', l⟩ | ⟨g', e', l⟩
      · cases e'; exact l
      · rw [e] at e'; cases e'
    | some g =>
      show Least (ws ++ [v]) 0 p (some (if g < c then g else c))
      by_cases hlt : g < c
      · rw [if_pos hlt]
        refine ⟨isby g e, fun h k => ?_⟩
        rcases key h k with ⟨g', e', l⟩ | ⟨g', e', l⟩
        · cases e'; omega
        · rw [e] at e'; cases e'; exact l
      · rw [if_neg hlt]
        refine ⟨hz.1.sub sub, fun h k => ?_⟩
        rcases key h k with ⟨g', e', l⟩ | ⟨g', e', l⟩
        · cases e'; exact l
        · rw [e] at e'; cases e'; omega
theorem split_at {ws : List Wy} {k : Nat} {v : Wy} (h : ws[k]? = some v) : ws = ws.take k ++ v :: ws.drop (k + 1) := by
  have hk := (List.getElem?_eq_some_iff.mp h)
  obtain ⟨hlt, e⟩ := hk
  rw [← e, List.getElem_cons_drop, List.take_append_drop]
theorem roomy_ok {m k r : Int} {ws : List Wy} {v : Wy} (h : NetOk m ws) (hv : ws[k.toNat]? = some v) (r0 : 0 ≤ r) (r1 : r ≤ 1000000000) : NetOk m (roomy ws k v r) := by
  have hm : v ∈ ws := List.mem_of_getElem? hv
  have hlt := (List.getElem?_eq_some_iff.mp hv).1
  have hl := h.len
  refine ⟨h.m0, h.m1, by simp [roomy]; omega, fun u hu => ?_⟩
  unfold roomy at hu
  rcases List.mem_append.mp hu with hu | hu
  · exact h.ok u (List.mem_of_mem_take hu)
  · rcases List.mem_cons.mp hu with rfl | hu
    · have o := h.ok v hm
      exact ⟨o.s0, o.s1, o.t0, o.t1, o.ne, r0, r1, o.h0, o.h1⟩
    · exact h.ok u (List.mem_of_mem_drop hu)
theorem less_nok {m k : Int} {ws : List Wy} (h : NetOk m ws) : NetOk m (less ws k) := by
  have hl := h.len
  refine ⟨h.m0, h.m1, by simp [less]; omega, fun u hu => ?_⟩
  unfold less at hu
  rcases List.mem_append.mp hu with hu | hu
  · exact h.ok u (List.mem_of_mem_take hu)
  · exact h.ok u (List.mem_of_mem_drop hu)
theorem sub_refl {ws : List Wy} : Sub ws ws := fun u hu r => ⟨u, hu, r, rfl, rfl, rfl⟩
theorem roomy_shut1 {k : Int} {ws : List Wy} {v : Wy} : Sub (roomy ws k v 0) (less ws k) := fun u hu r => by
  unfold roomy at hu
  rcases List.mem_append.mp hu with hu | hu
  · exact ⟨u, List.mem_append_left _ hu, r, rfl, rfl, rfl⟩
  · rcases List.mem_cons.mp hu with rfl | hu
    · exact absurd r (by simp)
    · exact ⟨u, List.mem_append_right _ hu, r, rfl, rfl, rfl⟩
theorem roomy_shut2 {k : Int} {ws : List Wy} {v : Wy} : Sub (less ws k) (roomy ws k v 0) := fun u hu r => by
  unfold less at hu
  rcases List.mem_append.mp hu with hu | hu
  · exact ⟨u, List.mem_append_left _ hu, r, rfl, rfl, rfl⟩
  · exact ⟨u, List.mem_append_right _ (List.mem_cons_of_mem _ hu), r, rfl, rfl, rfl⟩
theorem roomy_wide {k r r' : Int} {ws : List Wy} {v : Wy} (h' : 0 < r') : Sub (roomy ws k v r) (roomy ws k v r') := fun u hu hr => by
  unfold roomy at hu
  rcases List.mem_append.mp hu with hu | hu
  · exact ⟨u, List.mem_append_left _ hu, hr, rfl, rfl, rfl⟩
  · rcases List.mem_cons.mp hu with rfl | hu
    · exact ⟨{ v with r := r' }, List.mem_append_right _ (List.mem_cons_self ..), h', rfl, rfl, rfl⟩
    · exact ⟨u, List.mem_append_right _ (List.mem_cons_of_mem _ hu), hr, rfl, rfl, rfl⟩
theorem roomy_self {k : Int} {ws : List Wy} {v : Wy} (hv : ws[k.toNat]? = some v) : ws = roomy ws k v v.r := by
  unfold roomy; exact split_at hv
end T
end
section
set_option Elab.async false
set_option linter.all false
set_option maxRecDepth 100000
namespace T
open HH
noncomputable def trD (m : Int) : D → D
  | .tup [.int s, .int t, .int r, .int h] => (Wy.turn m ⟨s, t, r, h⟩).d
  | d => d
theorem trD_d {m : Int} {w : Wy} : trD m w.d = (w.turn m).d := rfl
noncomputable def FT3 (a b c : Sl) (ρ : List Sl) : Prop := ∃ s, ρ = [a, b, c, s] ∧ fr s = true
theorem turned_sat {w n : Nat} {m : Int} {ws : List Wy} {Q : R → List Sl → Prop} (hl : ws.length ≤ 13) (q : Q (.val (netD m (ws.map (Wy.turn m)))) [.val false (netD m ws)]) : (run Γ w (n + 1) 5 [.val false (netD m ws)]).sat Q := by
  refine sat_run (d := f5) rfl rfl (by decide) ?_
  refine sat_cons ?_
  simp [f5]
  refine sat_cons ?_
  have hlim : ws.length ≤ lim := by show _ ≤ 16777216; omega
  simp [hlim]
  refine sat_compM (FT3 _ _ _) (trD m) ⟨.unb, rfl, rfl⟩ ?_ ?_
  · rintro d hd _ ⟨s, rfl, hs⟩
    obtain ⟨v, hv, rfl⟩ := List.mem_map.mp hd
    simp [hs, wd_0, wd_1, wd_2, wd_3, trD_d]
    exact ⟨rfl, _, rfl, rfl⟩
  rintro _ ⟨s, rfl, hs⟩
  simp
  refine sat_cons ?_
  simp
  have e : netD m (ws.map (Wy.turn m)) = .tup [.int m, .tup ((ws.map Wy.d).map (trD m))] := by simp [netD, trD_d]
  rw [e] at q
  simpa using q
theorem soon_sat {w n : Nat} {m : Int} {ws : List Wy} {Q : R → List Sl → Prop} (hw : 50000000 ≤ w) (h : NetOk m ws)
    (k : ∀ hs : List (Option Int), (hs.length : Int) = m → (∀ (p : Nat) (o : Option Int), hs[p]? = some o → Least ws 0 p o) → Q (.own (hs.map oD)) [.val false (netD m ws)]) :
    (run Γ w (n + 2) 7 [.val false (netD m ws)]).sat Q := by
  have m0 := h.m0
  refine sat_run (d := f7) rfl rfl (by decide) ?_
  refine sat_cons ?_
  simp [f7]
  refine from_sat hw h (by decide) (by omega) fun hs h1 h2 _ => ?_
  exact k hs h1 h2
@[simp] theorem blt_revL {ds : List D} : blt .revL [.lst ds] = some (.own ds.reverse) := rfl
structure LOk (m : Int) (ws : List Wy) (b : Int) (L : List (Option Int)) : Prop where
  len : (L.length : Int) = m
  least : ∀ (p : Nat) (o : Option Int), L[p]? = some o → Least ws p b o
  bnd : ∀ (p : Nat) (v : Int), L[p]? = some (some v) → 0 ≤ v ∧ v ≤ 6000000
theorem to_sat {w n : Nat} {m b : Int} {ws : List Wy} {Q : R → List Sl → Prop} (hw : 50000000 ≤ w) (h : NetOk m ws) (b0 : 0 ≤ b) (b1 : b < m)
    (k : ∀ L : List (Option Int), LOk m ws b L → Q (.own (L.map oD)) [.val false (netD m ws), .val false (.int b)]) :
    (run Γ w (n + 2) 8 [.val false (netD m ws), .val false (.int b)]).sat Q := by
  have m0 := h.m0
  have hl := h.len
  refine sat_run (d := f8) rfl rfl (by decide) ?_
  refine sat_cons ?_
  simp [f8]
  refine turned_sat (by omega) ?_
  simp
  refine from_sat hw (turn_nok h) (by omega) (by omega) fun hs h1 h2 h3 => ?_
  simp
  rw [← List.map_reverse]
  have ix : ∀ (p : Nat) (o : Option Int), hs.reverse[p]? = some o → hs[hs.length - 1 - p]? = some o ∧ p < hs.length := fun p o e => by
    have hp : p < hs.length := by
      have := (List.getElem?_eq_some_iff.mp e).1
      simpa using this
    rw [List.getElem?_reverse hp] at e
    exact ⟨e, hp⟩
  refine k hs.reverse ⟨by simpa using h1, fun p o e => ?_, fun p v e => ?_⟩
  · obtain ⟨e1, hp⟩ := ix p o e
    have := h2 _ o e1
    rw [show ((hs.length - 1 - p : Nat) : Int) = m - 1 - (p : Int) by omega] at this
    exact this.iff fun h => wk_turn
  · obtain ⟨e1, hp⟩ := ix p _ e
    exact h3 _ v e1
noncomputable def outI (ws : List Wy) (p : Int) : List Int := (List.range ws.length).filterMap fun (i : Nat) => match ws[i]? with
  | some v => if v.s = p then some (i : Int) else none
  | none => none
noncomputable def outD (p : Int) : D → Option D
  | .tup [.int i, .tup [.int s, _, _, _]] => if s = p then some (.int i) else none
  | _ => none
theorem fm_congr {α β : Type} {f g : α → Option β} : ∀ {l : List α}, (∀ x ∈ l, f x = g x) → l.filterMap f = l.filterMap g
  | [], _ => rfl
  | a :: l, h => by
    rw [List.filterMap_cons, List.filterMap_cons, h a (by simp), fm_congr fun x hx => h x (List.mem_cons_of_mem _ hx)]
theorem out_map {ws : List Wy} {p : Int} : ((ws.map Wy.d).mapIdx fun i d => D.tup [.int (i : Int), d]).filterMap (outD p) = (outI ws p).map D.int := by
  have e : ((ws.map Wy.d).mapIdx fun i d => D.tup [.int (i : Int), d]) = (List.range ws.length).map fun (k : Nat) => D.tup [.int (k : Int), ((ws[k]?).map Wy.d).getD .non] := by
    apply List.ext_getElem
    · simp
    · intro i h1 h2
      have : i < ws.length := by simpa using h1
      simp [this]
  rw [e, List.filterMap_map, outI, List.map_filterMap]
  apply fm_congr
  intro k hk
  have hk : k < ws.length := by simpa using hk
  by_cases h : ws[k].s = p <;> simp [outD, hk, Wy.d, h]
theorem enm_mem {ds : List D} {d : D} (h : d ∈ ds.mapIdx fun i d => D.tup [.int (i : Int), d]) : ∃ (i : Nat) (e : D), d = .tup [.int i, e] ∧ e ∈ ds := by
  rw [List.mem_mapIdx] at h
  obtain ⟨i, hi, rfl⟩ := h
  exact ⟨i, _, rfl, List.getElem_mem hi⟩
noncomputable def FO2 (a b : Sl) (ρ : List Sl) : Prop := ∃ s t, ρ = [a, b, s, t] ∧ fr s = true ∧ fr t = true
theorem out_sat {w n : Nat} {m p : Int} {ws : List Wy} {Q : R → List Sl → Prop} (h : NetOk m ws) (k : Q (.own ((outI ws p).map D.int)) [.val false (netD m ws), .val false (.int p)]) : (run Γ w (n + 1) 0 [.val false (netD m ws), .val false (.int p)]).sat Q := by
  have hl := h.len
  refine sat_run (d := f0) rfl rfl (by decide) ?_
  refine sat_cons ?_
  have hlim : ws.length ≤ lim := by show _ ≤ 16777216; omega
  simp [f0, hlim]
  have e0 := out_map (ws := ws) (p := p)
  refine sat_compF (FO2 _ _) (outD p) ⟨.unb, .unb, rfl, rfl, rfl⟩ ?_ ?_
  · rintro d hd _ ⟨s, t, rfl, hs, ht⟩
    obtain ⟨i, e, rfl, he⟩ := enm_mem hd
    obtain ⟨v, hv, rfl⟩ := List.mem_map.mp he
    by_cases e : v.s = p
    · simp [hs, ht, Wy.d, outD, e]; exact ⟨_, _, rfl, rfl, rfl⟩
    · simp [hs, ht, Wy.d, outD, e]; exact ⟨_, _, rfl, rfl, rfl⟩
  rintro _ ⟨s, t, rfl, hs, ht⟩
  rw [e0]
  simpa using k
end T
end
section
set_option Elab.async false
set_option linter.all false
set_option maxRecDepth 100000
namespace T
open HH
noncomputable def isSt (L : List (Option Int)) (v : Wy) : Bool := decide (0 < v.r) && match L[v.t.toNat]? with
  | some (some g) => (match L[v.s.toNat]? with | some (some f) => v.h + g == f | _ => false)
  | _ => false
theorem eq_non {i : Int} : cm .eq (.int i) .non = some false := rfl
theorem step_sat {w n : Nat} {m : Int} {v : Wy} {L : List (Option Int)} {Q : R → List Sl → Prop} (vo : v.Ok m) (hl : (L.length : Int) = m) (q : Q (.val (.bl (isSt L v))) [.val false v.d, .own true (L.map oD)]) :
    (run Γ w (n + 1) 9 [.val false v.d, .own true (L.map oD)]).sat Q := by
  have s0 := vo.s0; have s1 := vo.s1; have t0 := vo.t0; have t1 := vo.t1
  obtain ⟨os, es⟩ : ∃ o, L[v.s.toNat]? = some o := ⟨_, List.getElem?_eq_getElem (by omega)⟩
  obtain ⟨ot, et⟩ : ∃ o, L[v.t.toNat]? = some o := ⟨_, List.getElem?_eq_getElem (by omega)⟩
  have as := at_mapI (f := oD) s0 es
  have at_ := at_mapI (f := oD) t0 et
  refine sat_run (d := f9) rfl rfl (by decide) ?_
  refine sat_cons ?_
  unfold isSt at q
  rw [es, et] at q
  by_cases hr : 0 < v.r
  · cases ot with
    | none =>
      simp [f9, wd_1, wd_2, hr, at_]
      simpa [hr] using q
    | some g =>
      cases os with
      | none =>
        simp [f9, wd_0, wd_1, wd_2, wd_3, hr, at_, as]
        simp [oD, wd_0, as, eq_non]
        simpa [hr] using q
      | some f =>
        simp [f9, wd_0, wd_1, wd_2, wd_3, hr, at_, as]
        simp [oD, wd_0, as]
        simpa [hr] using q
  · simp [f9, wd_2, hr]
    simpa [hr] using q
theorem out_mem {ws : List Wy} {p k : Int} : k ∈ outI ws p ↔ 0 ≤ k ∧ k < (ws.length : Int) ∧ ∃ v, ws[k.toNat]? = some v ∧ v.s = p := by
  unfold outI
  rw [List.mem_filterMap]
  constructor
  · rintro ⟨i, hi, e⟩
    have hi : i < ws.length := by simpa using hi
    rw [List.getElem?_eq_getElem hi] at e
    simp only at e
    split at e
    · rename_i hs
      cases e
      exact ⟨by omega, by omega, ws[i], by simp [hi], hs⟩
    · cases e
  · rintro ⟨k0, k1, v, hv, hs⟩
    refine ⟨k.toNat, by simp; omega, ?_⟩
    rw [hv]
    simp [hs]; omega
noncomputable def isC (ws : List Wy) (L : List (Option Int)) (k : Int) : Bool := match ws[k.toNat]? with
  | some v => isSt L v
  | none => false
noncomputable def gQ (ws : List Wy) (L : List (Option Int)) : D → Option D
  | .int k => if isC ws L k = true then some (.int k) else none
  | _ => none
theorem gQ_map {ws : List Wy} {L : List (Option Int)} (ks : List Int) : (ks.map D.int).filterMap (gQ ws L) = (ks.filter (isC ws L)).map D.int := by
  induction ks with
  | nil => rfl
  | cons k ks ih =>
    rw [List.map_cons, List.filterMap_cons, List.filter_cons, ih]
    rw [show gQ ws L (.int k) = if isC ws L k = true then some (D.int k) else none from rfl]
    by_cases h : isC ws L k = true <;> simp [h]
theorem step_on {ws : List Wy} {ps rs : List Int} {k : Int} (hp : ps ≠ []) (h : stepW ws ps k = some rs) : ∃ v, ws[k.toNat]? = some v ∧ rs = ps ++ [v.t] ∧ v.t ∉ ps ∧ ps.getLast? = some v.s ∧ v ∈ ws := by
  have k01 := step_ok h
  obtain ⟨v, hv, hm, ha⟩ := wy_at k01.1 k01.2.1
  unfold stepW at h
  rw [if_pos ⟨k01.1, k01.2.1⟩, hv] at h
  simp only [if_neg hp] at h
  split at h
  · cases h
  · split at h
    · rename_i hc; cases h; exact ⟨v, hv, rfl, hc.2, hc.1, hm⟩
    · cases h
theorem step_do {m : Int} {ws : List Wy} {ps : List Int} {k : Int} {v : Wy} (hk : NetOk m ws) (hp : ps ≠ []) (k0 : 0 ≤ k) (k1 : k < (ws.length : Int)) (hv : ws[k.toNat]? = some v) (hr : 0 < v.r) (hl : ps.getLast? = some v.s) (hn : v.t ∉ ps) : stepW ws ps k = some (ps ++ [v.t]) := by
  unfold stepW
  rw [if_pos ⟨k0, k1⟩, hv]
  simp only [if_neg hp]
  rw [if_neg (by omega), if_pos ⟨hl, hn⟩]
theorem goW_snoc {ws : List Wy} {k : Int} : ∀ {l ps : List Int}, goW ws (l ++ [k]) ps = match goW ws l ps with | some qs => stepW ws qs k | none => none
  | [], ps => by
    rw [List.nil_append, goW, goW]
    show (match stepW ws ps k with | some qs => goW ws [] qs | none => none) = stepW ws ps k
    cases stepW ws ps k with
    | none => rfl
    | some qs => simp [goW]
  | a :: l, ps => by
    rw [List.cons_append, goW, goW]
    cases e : stepW ws ps a with
    | none => rfl
    | some qs => exact goW_snoc
theorem goW_nd {m : Int} {ws : List Wy} (hk : NetOk m ws) : ∀ {l ps qs : List Int}, ps ≠ [] → ps.Nodup → (∀ x ∈ ps, 0 ≤ x ∧ x < m) → goW ws l ps = some qs → qs.Nodup ∧ (∀ x ∈ qs, 0 ≤ x ∧ x < m) ∧ qs.length = ps.length + l.length
  | [], ps, qs, _, h1, h2, h => by rw [goW] at h; cases h; exact ⟨h1, h2, by simp⟩
  | k :: l, ps, qs, hp, h1, h2, h => by
    rw [goW] at h
    cases e : stepW ws ps k with
    | none => rw [e] at h; cases h
    | some rs =>
      rw [e] at h
      obtain ⟨v, hv, rfl, hn, _, hm⟩ := step_on hp e
      have vo := hk.ok v hm
      obtain ⟨z1, z2, z3⟩ := goW_nd hk (l := l) (ps := ps ++ [v.t]) (by simp) (by
          rw [List.nodup_append]
          refine ⟨h1, by simp, fun x hx y hy => ?_⟩
          rw [List.mem_singleton.mp hy]
          intro z; rw [z] at hx; exact hn hx) (fun x hx => by
          rcases List.mem_append.mp hx with hx | hx
          · exact h2 x hx
          · rw [List.mem_singleton.mp hx]; exact ⟨vo.t0, vo.t1⟩) h
      refine ⟨z1, z2, ?_⟩
      rw [z3]; simp; omega
theorem nodup_le {α : Type} [BEq α] [LawfulBEq α] : ∀ {l l2 : List α}, l.Nodup → (∀ a ∈ l, a ∈ l2) → l.length ≤ l2.length
  | [], _, _, _ => Nat.zero_le _
  | a :: l, l2, hn, hs => by
    have ha := hs a (by simp)
    have hn' := List.nodup_cons.mp hn
    have := nodup_le (l := l) (l2 := l2.erase a) hn'.2 fun b hb => by
      have hba : b ≠ a := by rintro rfl; exact hn'.1 hb
      exact (List.mem_erase_of_ne hba).mpr (hs b (by simp [hb]))
    rw [List.length_erase_of_mem ha] at this
    have := List.length_pos_of_mem ha
    simp only [List.length_cons]
    omega
theorem goW_short {m : Int} {ws : List Wy} (hk : NetOk m ws) {l qs : List Int} (h : goW ws l [0] = some qs) : l.length ≤ 5 := by
  have m0 := hk.m0
  have m1 := hk.m1
  obtain ⟨z1, z2, z3⟩ := goW_nd hk (by simp) (by simp) (fun x hx => by rw [List.mem_singleton.mp hx]; omega) h
  have := nodup_le (l2 := [0, 1, 2, 3, 4, 5]) z1 fun x hx => by
    have := z2 x hx
    have : x = 0 ∨ x = 1 ∨ x = 2 ∨ x = 3 ∨ x = 4 ∨ x = 5 := by omega
    simpa using this
  simp at this z3
  omega
theorem tot_snoc {ws : List Wy} {l : List Int} {k : Int} : tot ws (l ++ [k]) = tot ws l + hh ws k := by simp [tot]
theorem next_step {m b p g : Int} {ws : List Wy} {L : List (Option Int)} (hk : NetOk m ws) (hL : LOk m ws b L) (p0 : 0 ≤ p) (p1 : p < m) (hg : L[p.toNat]? = some (some g)) (hne : p ≠ b) : ∃ (k : Int), k ∈ (outI ws p).filter (isC ws L) := by
  have hle := hL.least _ _ hg
  rw [show ((p.toNat : Nat) : Int) = p by omega] at hle
  rcases hle.1.first with ⟨e, _⟩ | ⟨v, hv, r, s, g', z, e⟩
  · exact absurd e hne
  · obtain ⟨i, hi, ei⟩ := List.getElem_of_mem hv
    have vo := hk.ok v hv
    have t0 := vo.t0; have t1 := vo.t1
    have hlen := hL.len
    obtain ⟨ot, et⟩ : ∃ o, L[v.t.toNat]? = some o := ⟨_, List.getElem?_eq_getElem (by omega)⟩
    have hlt := hL.least _ _ et
    rw [show ((v.t.toNat : Nat) : Int) = v.t by omega] at hlt
    cases ot with
    | none => exact absurd z (hlt g')
    | some f =>
      have h1 := hlt.2 g' z
      have h2 : g ≤ v.h + f := by
        have := (Wk.one hv r).trans hlt.1
        rw [s] at this
        exact hle.2 _ this
      refine ⟨(i : Int), List.mem_filter.mpr ⟨out_mem.mpr ⟨by omega, by omega, v, by rw [Int.toNat_natCast, List.getElem?_eq_getElem hi, ei], s⟩, ?_⟩⟩
      unfold isC
      rw [Int.toNat_natCast, List.getElem?_eq_getElem hi, ei]
      simp only [isSt, et, s, hg, r, decide_true, Bool.true_and]
      simp; omega
noncomputable def JS (m : Int) (ws : List Wy) (b g0 : Int) (L : List (Option Int)) (M : Nat) (ρ : List Sl) : Prop := ∃ (l ps : List Int) (p g : Int) (s5 : Sl), ρ = [.val false (netD m ws), .val false (.int b), .own false (L.map oD), .own false (l.map D.int), .val false (.int p), s5] ∧ fr s5 = true ∧ 0 ≤ p ∧ p < m ∧ L[p.toNat]? = some (some g) ∧ g.toNat ≤ M ∧
  goW ws l [0] = some ps ∧ ps.getLast? = some p ∧ (∀ x ∈ ps, ∃ gx, L[x.toNat]? = some (some gx) ∧ g ≤ gx) ∧ tot ws l + g = g0
noncomputable def FW (a b c d e f : Sl) (ρ : List Sl) : Prop := ∃ s, ρ = [a, b, c, d, e, f, s] ∧ fr s = true
theorem minL_mem {ns : List Int} (h : ns ≠ []) : ∃ i, i ∈ ns ∧ ns.min? = some i := by
  cases e : ns.min? with
  | none => rw [List.min?_eq_none_iff] at e; exact absurd e h
  | some i => exact ⟨i, List.min?_mem e, rfl⟩
theorem walk_sat {w n : Nat} {m b g0 : Int} {ws : List Wy} {Q : R → List Sl → Prop} (hw : 50000000 ≤ w) (hk : NetOk m ws) (b0 : 0 ≤ b) (b1 : b < m) (hg0 : Least ws 0 b (some g0))
    (q : ∀ (l ps : List Int), goW ws l [0] = some ps → l.length ≤ 5 → tot ws l = g0 → Q (.val (.tup (l.map D.int))) [.val false (netD m ws), .val false (.int b)]) :
    (run Γ w (n + 3) 10 [.val false (netD m ws), .val false (.int b)]).sat Q := by
  have m0 := hk.m0
  refine sat_run (d := f10) rfl rfl (by decide) ?_
  refine sat_cons ?_
  simp [f10, b0, b1]
  refine sat_cons ?_
  simp
  refine to_sat hw hk b0 b1 fun L hL => ?_
  have hlen := hL.len
  have hL0 : L[0]? = some (some g0) := by
    obtain ⟨o, e⟩ : ∃ o, L[0]? = some o := ⟨_, List.getElem?_eq_getElem (by omega)⟩
    have := hL.least 0 o e
    rw [e, this.uniq hg0]
  have a0 : at' (L.map oD) 0 = some (.int g0) := by rw [at_nat (by decide) (by simp; omega)]; simp [hL0, oD]
  simp
  refine sat_cons ?_
  simp [a0]
  refine sat_cons ?_
  simp
  refine sat_cons ?_
  simp
  refine sat_cons ?_
  simp
  have gb := hL.bnd 0 g0 hL0
  refine sat_whlC (JS m ws b g0 L) ?_ (k := w) (m := g0.toNat) (by omega) ⟨[], [0], 0, g0, .unb, rfl, rfl, by decide, by omega, hL0, Nat.le_refl _, rfl, rfl, fun x hx => ⟨g0, by rw [List.mem_singleton.mp hx]; exact hL0, Int.le_refl _⟩, by simp [tot]⟩
  rintro M _ ⟨l, ps, p, g, s5, rfl, h5, p0, p1, hg, hM, hgo, hlast, hps, htot⟩
  have hg0' := hL.bnd _ _ hg
  have hps0 : ps ≠ [] := by rintro rfl; cases hlast
  have hl5 := goW_short hk hgo
  by_cases hpb : p = b
  · subst hpb
    simp
    refine sat_cons ?_
    simp
    have hle := hL.least _ _ hg
    rw [show ((p.toNat : Nat) : Int) = p by omega] at hle
    have := hle.2 0 .nil
    exact q l ps hgo hl5 (by omega)
  · have hpb' : (p == b) = false := by simpa using hpb
    simp [hpb]
    refine sat_cons ?_
    simp
    refine out_sat hk ?_
    have hol : (outI ws p).length ≤ 12 := by
      have h1 := hk.len
      have h2 : (outI ws p).length ≤ (List.range ws.length).length := List.length_filterMap_le _ _
      simp at h2; omega
    simp
    refine ⟨fun _ => ?_, by show _ ≤ 16777216; omega⟩
    refine sat_compF (FW _ _ _ _ _ _) (gQ ws L) ⟨.unb, rfl, rfl⟩ ?_ ?_
    · rintro d hd _ ⟨s, rfl, hs⟩
      obtain ⟨k, hk', rfl⟩ := List.mem_map.mp hd
      obtain ⟨k0, k1, v, hv, hsv⟩ := out_mem.mp hk'
      have vo := hk.ok v (List.mem_of_getElem? hv)
      have ha : at' (ws.map Wy.d) k = some v.d := by rw [at_nat k0 (by simpa using k1)]; simp [hv]
      have hc : isC ws L k = isSt L v := by unfold isC; rw [hv]
      simp [hs, ha]
      refine step_sat vo hlen ?_
      rw [show gQ ws L (.int k) = if isC ws L k = true then some (.int k) else none from rfl, hc]
      cases hst : isSt L v with
      | true => simp; exact ⟨_, rfl, rfl⟩
      | false => simp; exact ⟨_, rfl, rfl⟩
    rintro _ ⟨s, rfl, hs⟩
    rw [gQ_map]
    obtain ⟨kx, hkx⟩ := next_step hk hL p0 p1 hg hpb
    obtain ⟨k, hkm, hmin⟩ := minL_mem (ns := (outI ws p).filter (isC ws L)) (fun z => by rw [z] at hkx; cases hkx)
    rw [List.mem_filter] at hkm
    obtain ⟨k0, k1, v, hv, hsv⟩ := out_mem.mp hkm.1
    have hvm : v ∈ ws := List.mem_of_getElem? hv
    have vo := hk.ok v hvm
    have ha : at' (ws.map Wy.d) k = some v.d := by rw [at_nat k0 (by simpa using k1)]; simp [hv]
    have hst : isSt L v = true := by have := hkm.2; unfold isC at this; rwa [hv] at this
    have l1 : l.length < lim := by show _ < 16777216; omega
    obtain ⟨f, hf, hr, hgf⟩ : ∃ f, L[v.t.toNat]? = some (some f) ∧ 0 < v.r ∧ v.h + f = g := by
      unfold isSt at hst
      rw [hsv, hg] at hst
      cases e : L[v.t.toNat]? with
      | none => rw [e] at hst; simp at hst
      | some o =>
        cases o with
        | none => rw [e] at hst; simp at hst
        | some f => rw [e] at hst; simp at hst; exact ⟨f, rfl, hst.1, hst.2⟩
    have hf0 := hL.bnd _ _ hf
    have hh0 := vo.h0
    have htn : v.t ∉ ps := fun z => by
      obtain ⟨gx, e1, e2⟩ := hps _ z
      rw [hf] at e1; cases e1
      omega
    simp [hmin, h5]
    refine sat_cons ?_
    simp [l1]
    refine sat_cons ?_
    simp [ha, wd_1]
    have hstep : stepW ws ps k = some (ps ++ [v.t]) := step_do hk hps0 k0 k1 hv hr (by rw [hlast, hsv]) htn
    refine ⟨f.toNat, by omega, l ++ [k], ps ++ [v.t], v.t, f, .val false (.int k), by simp, rfl, vo.t0, vo.t1, hf, Nat.le_refl _, by rw [goW_snoc, hgo]; exact hstep, by simp, fun x hx => ?_, ?_⟩
    · rcases List.mem_append.mp hx with hx | hx
      · obtain ⟨gx, e1, e2⟩ := hps x hx
        exact ⟨gx, e1, by omega⟩
      · rw [List.mem_singleton.mp hx]; exact ⟨f, hf, Int.le_refl _⟩
    · have : hh ws k = v.h := by unfold hh; rw [hv]
      rw [tot_snoc, this]; omega
end T
end
section
set_option Elab.async false
set_option linter.all false
set_option maxRecDepth 100000
namespace T
open HH
noncomputable def gd : Nat → D → Bool
  | _, .non => true
  | _, .int _ => true
  | k + 1, .tup ds => decide (ds.length ≤ 1000) && ds.all (gd k)
  | k + 1, .lst ds => decide (ds.length ≤ 1000) && ds.all (gd k)
  | _, _ => false
theorem mapM_bl {α : Type} {l : List α} : (l.map fun _ => D.bl true).mapM asB = some (l.map fun _ => true) := by
  induction l with
  | nil => rfl
  | cons a l ih => simp [ih]
theorem all_true {α : Type} {l : List α} : (l.map fun _ => true).all id = true := by simp
theorem peq_refl : ∀ (k : Nat) (d : D), gd k d = true → peq d d = true := by
  have seq : ∀ (k : Nat), (∀ d, gd k d = true → peq d d = true) → ∀ ds : List D, ds.all (gd k) = true → peqs ds ds = true := by
    intro k ih ds
    induction ds with
    | nil => intro _; rw [peqs]
    | cons d ds ihd =>
      intro h
      rw [List.all_cons, Bool.and_eq_true] at h
      rw [peqs, ih d h.1, ihd h.2]; rfl
  intro k
  induction k with
  | zero => intro d g; cases d with
    | non => rw [peq]
    | int i => rw [peq]; simp
    | bl b => cases g
    | str s => cases g
    | tup ds => cases g
    | lst ds => cases g
  | succ k ih => intro d g; cases d with
    | non => rw [peq]
    | int i => rw [peq]; simp
    | bl b => cases g
    | str s => cases g
    | tup ds => rw [gd, Bool.and_eq_true] at g; rw [peq]; exact seq k ih ds g.2
    | lst ds => rw [gd, Bool.and_eq_true] at g; rw [peq]; exact seq k ih ds g.2
theorem gd_dle : ∀ (k j : Nat) (d : D), k ≤ j → gd k d = true → dle j d = true := by
  intro k
  induction k with
  | zero => intro j d _ g; cases d with
    | non => rw [dle]
    | int i => rw [dle]
    | bl b => cases g
    | str s => cases g
    | tup ds => cases g
    | lst ds => cases g
  | succ k ih => intro j d hj g; cases d with
    | non => rw [dle]
    | int i => rw [dle]
    | bl b => cases g
    | str s => cases g
    | tup ds =>
      rw [gd, Bool.and_eq_true] at g
      obtain ⟨j, rfl⟩ : ∃ i, j = i + 1 := ⟨j - 1, by omega⟩
      exact dle_allT fun d hd => ih j d (by omega) (List.all_eq_true.mp g.2 d hd)
    | lst ds =>
      rw [gd, Bool.and_eq_true] at g
      obtain ⟨j, rfl⟩ : ∃ i, j = i + 1 := ⟨j - 1, by omega⟩
      exact dle_all fun d hd => ih j d (by omega) (List.all_eq_true.mp g.2 d hd)
theorem ne_self {k : Nat} {d : D} (hk : k ≤ 8) (h : gd k d = true) : cm .ne d d = some false := by
  show cmNe d d = _
  unfold cmNe
  rw [gd_dle k 8 d hk h, peq_refl k d h]; rfl
theorem eq_self {k : Nat} {d : D} (hk : k ≤ 8) (h : gd k d = true) : cm .eq d d = some true := by
  show cmEq d d = _
  unfold cmEq
  rw [gd_dle k 8 d hk h, peq_refl k d h]; rfl
end T
end
section
set_option Elab.async false
set_option linter.all false
set_option maxRecDepth 100000
namespace T
open HH
theorem least_eq {m : Int} {ws : List Wy} {hs os : List (Option Int)} (h1 : (hs.length : Int) = m) (h2 : (os.length : Int) = m) (k1 : ∀ (p : Nat) (o : Option Int), hs[p]? = some o → Least ws 0 p o) (k2 : ∀ (p : Nat) (o : Option Int), os[p]? = some o → Least ws 0 p o) : hs = os := by
  apply List.ext_getElem?
  intro p
  by_cases hp : p < hs.length
  · obtain ⟨a, ea⟩ : ∃ a, hs[p]? = some a := ⟨_, List.getElem?_eq_getElem hp⟩
    obtain ⟨b, eb⟩ : ∃ b, os[p]? = some b := ⟨_, List.getElem?_eq_getElem (by omega)⟩
    rw [ea, eb, (k1 p a ea).uniq (k2 p b eb)]
  · rw [List.getElem?_eq_none (by omega), List.getElem?_eq_none (by omega)]
theorem os_gd {os : List (Option Int)} (h : os.length ≤ 1000) : gd 1 (.lst (os.map oD)) = true := by
  rw [gd, Bool.and_eq_true, decide_eq_true_eq]
  refine ⟨by simpa using h, List.all_eq_true.mpr fun d hd => ?_⟩
  obtain ⟨o, _, rfl⟩ := List.mem_map.mp hd
  cases o <;> rfl
theorem rng_mem0 {n : Nat} {d : D} (h : d ∈ (List.range n).map fun (k : Nat) => D.int (k : Int)) : ∃ i : Int, d = .int i ∧ 0 ≤ i ∧ i < (n : Int) := by
  rw [List.mem_map] at h
  obtain ⟨k, h1, rfl⟩ := h
  rw [List.mem_range] at h1
  exact ⟨k, rfl, by omega, by omega⟩
noncomputable def JC (ns : List Int) (_ : Nat) (ρ : List Sl) : Prop := ∃ (cs : List Int) (s : Sl), ρ = [.val false (.lst (ns.map D.int)), .val false (.int 10), .own false (cs.map D.int), s] ∧ fr s = true ∧ cs.length = 10
theorem cut_int {cs : List Int} {a b : Option Int} : cut (cs.map D.int) a b = (cut cs a b).map D.int := by
  unfold cut; simp
theorem folded_sat {w n : Nat} {ns : List Int} {Q : R → List Sl → Prop} (hn : ns.length ≤ 63) (k : ∀ cs : List Int, Q (.own (cs.map D.int)) [.val false (.lst (ns.map D.int)), .val false (.int 10)]) :
    (run Γ w (n + 1) 17 [.val false (.lst (ns.map D.int)), .val false (.int 10)]).sat Q := by
  refine sat_run (d := f17) rfl rfl (by decide) ?_
  refine sat_cons ?_
  simp [f17]
  refine ⟨by show 10 ≤ 16777216; omega, ?_⟩
  refine sat_cons ?_
  simp
  refine ⟨by omega, ?_⟩
  refine sat_forR (g := fun (k : Nat) => D.int (k : Int)) (JC ns) ?_ ?_ ⟨List.replicate 10 0, .unb, by simp [List.replicate], rfl, rfl⟩
  · rintro i _ hi ⟨cs, s, rfl, hs, hc⟩
    have e0 : 0 ≤ (i : Int) % 10 := Int.emod_nonneg _ (by decide)
    have e1 : (i : Int) % 10 < 10 := Int.emod_lt_of_pos _ (by decide)
    obtain ⟨j, hj, j0⟩ : ∃ j, (i : Int) % 10 = j ∧ j.toNat < cs.length := ⟨_, rfl, by omega⟩
    have a1 : at' (cs.map D.int) j = some (.int cs[j.toNat]) := by rw [at_nat (by omega) (by simp; omega)]; simp [j0]
    have a2 : at' (ns.map D.int) (i : Int) = some (.int ns[i]) := by
      rw [at_nat (by omega) (by simp; omega)]; simp [hi]
    have hx : ixN cs.length j = some j.toNat := ix_int (by omega) (by omega)
    simp [hs]
    refine sat_cons ?_
    simp [hj, a1, a2, hx]
    exact ⟨cs.set j.toNat (cs[j.toNat] * 1000003 + ns[i]), .val false (.int i), by simp [List.map_set], rfl, by simpa using hc⟩
  · rintro _ ⟨cs, s, rfl, hs, hc⟩
    refine sat_cons ?_
    simp [sl3, part, isNC, cut_int]
    exact k _
theorem at_sw {m a x : Int} (m1 : m ≤ 6) (m0 : 2 ≤ m) (a0 : 0 ≤ a) (a1 : a < m) (x0 : 0 ≤ x) (x1 : x < m) : at' ((((List.range m.toNat).map fun (k : Nat) => D.int (k : Int)).set 0 (D.int a)).set a.toNat (D.int 0)) x = some (.int (sw a x)) := by
  rw [at_nat x0 (by simp; omega)]
  rw [List.getElem?_set]
  have hxl : x.toNat < m.toNat := by omega
  by_cases h1 : a.toNat = x.toNat
  · rw [if_pos h1, if_pos (by simp; omega)]
    have e : x = a := by omega
    subst e
    unfold sw
    by_cases h2 : x = 0
    · rw [if_pos h2, h2]
    · rw [if_neg h2, if_pos rfl]
  · rw [if_neg h1, List.getElem?_set]
    have e : x ≠ a := by omega
    by_cases h2 : 0 = x.toNat
    · rw [if_pos h2, if_pos (by simp; omega)]
      have e2 : x = 0 := by omega
      unfold sw; rw [if_pos e2]
    · rw [if_neg h2]
      have e2 : x ≠ 0 := by omega
      unfold sw
      rw [if_neg e2, if_neg e]
      simp [hxl]; omega
noncomputable def swD (a : Int) : D → D
  | .tup [.int s, .int t, .int r, .int h] => (swW a ⟨s, t, r, h⟩).d
  | d => d
theorem swD_d {a : Int} {w : Wy} : swD a w.d = (swW a w).d := rfl
noncomputable def FB3 (a b c : Sl) (ρ : List Sl) : Prop := ∃ s, ρ = [a, b, c, s] ∧ fr s = true
theorem begun_sat {w n : Nat} {m a : Int} {ws : List Wy} {Q : R → List Sl → Prop} (h : NetOk m ws) (a0 : 0 ≤ a) (a1 : a < m) (q : Q (.val (netD m (ws.map (swW a)))) [.val false (netD m ws), .val false (.int a)]) :
    (run Γ w (n + 1) 18 [.val false (netD m ws), .val false (.int a)]).sat Q := by
  have m0 := h.m0
  have m1 := h.m1
  have hl := h.len
  refine sat_run (d := f18) rfl rfl (by decide) ?_
  refine sat_cons ?_
  simp [f18]
  refine ⟨by omega, by omega, ?_⟩
  have x1 : ixN m.toNat 0 = some 0 := ix_int (by decide) (by omega)
  have x2 : ixN m.toNat a = some a.toNat := ix_int a0 (by omega)
  refine sat_cons ?_
  simp [x1]
  refine sat_cons ?_
  simp [x2]
  refine sat_cons ?_
  have hat : ∀ x, 0 ≤ x → x < m → at' ((((List.range m.toNat).map fun (k : Nat) => D.int (k : Int)).set 0 (D.int a)).set a.toNat (D.int 0)) x = some (.int (sw a x)) := fun x x0 x1 => at_sw m1 m0 a0 a1 x0 x1
  generalize ((((List.range m.toNat).map fun (k : Nat) => D.int (k : Int)).set 0 (D.int a)).set a.toNat (D.int 0)) = P at hat ⊢
  have hlim : ws.length ≤ lim := by show _ ≤ 16777216; omega
  simp [hlim]
  refine sat_compM (FB3 _ _ _) (swD a) ⟨.unb, rfl, rfl⟩ ?_ ?_
  · rintro d hd _ ⟨s, rfl, hs⟩
    obtain ⟨v, hv, rfl⟩ := List.mem_map.mp hd
    have vo := h.ok v hv
    simp [hs, wd_0, wd_1, wd_2, wd_3, hat _ vo.s0 vo.s1, hat _ vo.t0 vo.t1, swD_d]
    exact ⟨rfl, _, rfl, rfl⟩
  rintro _ ⟨s, rfl, hs⟩
  have e : netD m (ws.map (swW a)) = .tup [.int m, .tup ((ws.map Wy.d).map (swD a))] := by simp [netD, swD_d]
  rw [e] at q
  simpa using q
theorem hfrom_sat {w n : Nat} {m a : Int} {ws : List Wy} {Q : R → List Sl → Prop} (hw : 50000000 ≤ w) (h : NetOk m ws) (a0 : 0 ≤ a) (a1 : a < m)
    (k : ∀ hs : List (Option Int), (hs.length : Int) = m → (∀ (p : Nat) (o : Option Int), hs[p]? = some o → Least ws a p o) → Q (.own (hs.map oD)) [.val false (netD m ws), .val false (.int a)]) :
    (run Γ w (n + 3) 19 [.val false (netD m ws), .val false (.int a)]).sat Q := by
  have m0 := h.m0
  refine sat_run (d := f19) rfl rfl (by decide) ?_
  refine sat_cons ?_
  simp [f19]
  refine begun_sat h a0 a1 ?_
  simp
  refine soon_sat hw (sw_ok h a0 a1) fun hs h1 h2 => ?_
  obtain ⟨oa, ea⟩ : ∃ o, hs[a.toNat]? = some o := ⟨_, List.getElem?_eq_getElem (by omega)⟩
  obtain ⟨o0, e0⟩ : ∃ o, hs[0]? = some o := ⟨_, List.getElem?_eq_getElem (by omega)⟩
  have aa := at_mapI (f := oD) a0 ea
  have az : at' (hs.map oD) 0 = some (oD o0) := at_mapI (f := oD) (i := 0) (by decide) e0
  have x1 : ixN hs.length 0 = some 0 := ix_int (by decide) (by omega)
  have x2 : ixN hs.length a = some a.toNat := ix_int a0 (by omega)
  simp
  refine sat_cons ?_
  simp [aa, az, x1, x2]
  refine sat_cons ?_
  simp
  have e : ((hs.map oD).set 0 (oD oa)).set a.toNat (oD o0) = ((hs.set 0 oa).set a.toNat o0).map oD := by simp [List.map_set]
  rw [e]
  refine k _ (by simpa using h1) fun p o ep => ?_
  have hsw : ∀ q : Int, 0 ≤ q → q < m → ∀ o, hs[q.toNat]? = some o → Least ws a (sw a q) o := fun q q0 q1 o eq => by
    have := h2 _ o eq
    rw [show ((q.toNat : Nat) : Int) = q by omega] at this
    exact this.iff fun h => wk_sw
  have e00 : sw a 0 = a := by unfold sw; rw [if_pos rfl]
  have eaa : sw a a = 0 := by have := sw_sw (a := a) (x := 0); rwa [e00] at this
  have hp : p < hs.length := by have := (List.getElem?_eq_some_iff.mp ep).1; simpa using this
  rw [List.getElem?_set] at ep
  by_cases c1 : a.toNat = p
  · rw [if_pos c1, if_pos (by simp; omega)] at ep
    cases ep
    have := hsw 0 (by decide) (by omega) o0 e0
    rw [e00] at this
    rw [show (p : Int) = a by omega]; exact this
  · rw [if_neg c1, List.getElem?_set] at ep
    by_cases c2 : 0 = p
    · rw [if_pos c2, if_pos (by omega)] at ep
      cases ep
      have := hsw a a0 a1 oa ea
      rw [eaa] at this
      rw [show (p : Int) = 0 by omega]; exact this
    · rw [if_neg c2] at ep
      have := hsw (p : Int) (by omega) (by omega) o (by simpa using ep)
      have es : sw a (p : Int) = p := by unfold sw; rw [if_neg (by omega), if_neg (by omega)]
      rw [es] at this; exact this
noncomputable def FL2 (a b : Sl) (ρ : List Sl) : Prop := ∃ s, ρ = [a, b, s] ∧ fr s = true
noncomputable def gLs : D → Option D
  | .non => none
  | d => some d
theorem least_sat {w n : Nat} {a b : Option Int} {Q : R → List Sl → Prop} (q : Q (.val (oD (omin a b))) [.val false (oD a), .val false (oD b)]) :
    (run Γ w (n + 1) 20 [.val false (oD a), .val false (oD b)]).sat Q := by
  refine sat_run (d := f20) rfl rfl (by decide) ?_
  refine sat_cons ?_
  have l2 : 2 ≤ lim := by show 2 ≤ 16777216; omega
  simp [f20, l2]
  refine sat_compF (FL2 _ _) gLs ⟨.unb, rfl, rfl⟩ ?_ ?_
  · rintro d hd _ ⟨s, rfl, hs⟩
    obtain ⟨o, rfl⟩ : ∃ o, d = oD o := by
      simp at hd
      rcases hd with rfl | rfl <;> exact ⟨_, rfl⟩
    cases o with
    | none => simp [hs, gLs, oD]; exact ⟨_, rfl, rfl⟩
    | some i => simp [hs, gLs, oD]; exact ⟨_, rfl, rfl⟩
  rintro _ ⟨s, rfl, hs⟩
  cases a with
  | none =>
    cases b with
    | none =>
      rw [show List.filterMap gLs [oD none, oD none] = [] from rfl]
      simp [blt]
      exact q
    | some j =>
      rw [show List.filterMap gLs [oD none, oD (some j)] = [D.int j] from rfl]
      simp [blt]
      exact q
  | some i =>
    cases b with
    | none =>
      rw [show List.filterMap gLs [oD (some i), oD none] = [D.int i] from rfl]
      simp [blt]
      exact q
    | some j =>
      have e : ([i, j] : List Int).min? = some (if j < i then j else i) := by
        simp [List.min?]
        rw [Int.min_def]; split <;> split <;> omega
      rw [show List.filterMap gLs [oD (some i), oD (some j)] = [D.int i, D.int j] from rfl]
      simp [blt, e]
      exact q
end T
end
section
set_option Elab.async false
set_option linter.all false
set_option maxRecDepth 100000
namespace T
open HH
noncomputable def JM (m : Int) (ws : List Wy) (v : Wy) (T B : Sl) (i : Nat) (ρ : List Sl) : Prop := ∃ (os : List (Option Int)) (s5 s6 : Sl), ρ = [.val false (netD m ws), .val false v.d, T, B, .own false (os.map oD), s5, s6] ∧ fr s5 = true ∧ fr s6 = true ∧ os.length = i ∧ ∀ (p : Nat) (o : Option Int), os[p]? = some o → Least (ws ++ [v]) 0 p o
theorem more_sat {w n : Nat} {m : Int} {ws : List Wy} {v : Wy} {Q : R → List Sl → Prop} (hw : 50000000 ≤ w) (h : NetOk m ws) (hv : v.Ok m) (hl : ws.length ≤ 11) (q : Q (.val (.bl true)) [.val false (netD m ws), .val false v.d]) :
    (run Γ w (n + 4) 21 [.val false (netD m ws), .val false v.d]).sat Q := by
  have m0 := h.m0
  have m1 := h.m1
  have h2 : NetOk m (ws ++ [v]) := ⟨m0, m1, by simp; omega, fun u hu => by
    rcases List.mem_append.mp hu with hu | hu
    · exact h.ok u hu
    · rw [List.mem_singleton.mp hu]; exact hv⟩
  have hnn : ∀ u ∈ ws ++ [v], 0 ≤ u.h := fun u hu => by have := (h2.ok u hu).h0; omega
  refine sat_run (d := f21) rfl rfl (by decide) ?_
  refine sat_cons ?_
  simp [f21]
  refine soon_sat hw h fun ts t1 t2 => ?_
  simp
  refine sat_cons ?_
  simp [wd_1]
  refine hfrom_sat hw h hv.t0 hv.t1 fun bs b1 b2 => ?_
  simp
  refine sat_cons ?_
  simp
  refine sat_cons ?_
  simp
  refine ⟨by omega, ?_⟩
  obtain ⟨N, hN⟩ : ∃ N : Nat, (N : Int) = m := ⟨m.toNat, by omega⟩
  have eN : m.toNat = N := by omega
  rw [eN]
  have s0 := hv.s0
  have s1 := hv.s1
  obtain ⟨x, ex⟩ : ∃ o, ts[v.s.toNat]? = some o := ⟨_, List.getElem?_eq_getElem (by omega)⟩
  have ax := at_mapI (f := oD) s0 ex
  have lx := t2 _ x ex
  rw [show ((v.s.toNat : Nat) : Int) = v.s by omega] at lx
  refine sat_forR (g := fun (k : Nat) => D.int (k : Int)) (JM m ws v (.own false (ts.map oD)) (.own false (bs.map oD))) ?_ ?_ ⟨[], .unb, .unb, rfl, rfl, rfl, rfl, by simp⟩
  · rintro i _ hi ⟨os, s5, s6, rfl, h5, h6, hol, ho⟩
    obtain ⟨z, ez⟩ : ∃ o, ts[i]? = some o := ⟨_, List.getElem?_eq_getElem (by omega)⟩
    obtain ⟨y, ey⟩ : ∃ o, bs[i]? = some o := ⟨_, List.getElem?_eq_getElem (by omega)⟩
    have az := at_map (f := oD) ez
    have ay := at_map (f := oD) ey
    have l1 : os.length < lim := by show _ < 16777216; omega
    simp [h5]
    refine sat_cons ?_
    simp [h6]
    refine sat_seq (fun ρ => ρ = [.val false (netD m ws), .val false v.d, .own false (ts.map oD), .own false (bs.map oD), .own false (os.map oD), .val false (.int i), .val false (oD (byW v x y))]) ?_ ?_
    · by_cases hr : 0 < v.r
      · cases x with
        | none => simp [wd_0, wd_2, hr, ax, byW, oD]
        | some a =>
          cases y with
          | none => simp [wd_0, wd_2, hr, ax, ay, byW]; simp [oD]
          | some b =>
            simp [wd_0, wd_2, hr, ax, ay]
            refine sat_cons ?_
            simp [wd_0, wd_3, ax, ay]
            simp [oD, byW, hr, ay]
      · have e : byW v x y = none := by unfold byW; cases x <;> cases y <;> simp [hr]
        simp [wd_2, hr, e, oD]
    rintro _ rfl
    refine sat_cons ?_
    simp [az]
    refine least_sat ?_
    simp [l1]
    refine ⟨os ++ [omin z (byW v x y)], .val false (.int i), .val false (oD (byW v x y)), by simp, rfl, rfl, by simp [hol], fun p o ep => ?_⟩
    by_cases hp : p < os.length
    · rw [List.getElem?_append_left hp] at ep; exact ho p o ep
    · have hpl : p < (os ++ [omin z (byW v x y)]).length := (List.getElem?_eq_some_iff.mp ep).1
      have hpe : p = os.length := by simp at hpl; omega
      subst hpe
      simp at ep
      subst ep
      rw [hol]
      exact more_least hnn lx (b2 i y ey) (t2 i z ez)
  · rintro _ ⟨os, s5, s6, rfl, h5, h6, hol, ho⟩
    refine sat_cons ?_
    simp [put_ok (show ws.length < 12 by omega)]
    refine soon_sat hw h2 fun hs h1 h3 => ?_
    have e : hs = os := least_eq h1 (by omega) h3 ho
    subst e
    have ne := eq_self (k := 1) (by decide) (os_gd (os := hs) (by omega))
    simp [ne]
    exact q
theorem rooms_sat {w n : Nat} {m k : Int} {ws : List Wy} {Q : R → List Sl → Prop} (hw : 50000000 ≤ w) (h : NetOk m ws) (k0 : 0 ≤ k) (k1 : k < (ws.length : Int)) (q : Q (.val (.bl true)) [.val false (netD m ws), .val false (.int k)]) :
    (run Γ w (n + 3) 22 [.val false (netD m ws), .val false (.int k)]).sat Q := by
  have m0 := h.m0
  have m1 := h.m1
  obtain ⟨v, hv, hm, ha⟩ := wy_at k0 k1
  have vo := h.ok v hm
  have r0 := vo.r0
  refine sat_run (d := f22) rfl rfl (by decide) ?_
  refine sat_cons ?_
  simp [f22]
  refine soon_sat hw h fun ts t1 t2 => ?_
  simp
  refine sat_cons ?_
  simp [room_ok h k0 k1 ha]
  refine soon_sat hw (roomy_ok h hv (by decide) (by decide)) fun us u1 u2 => ?_
  simp
  refine sat_cons ?_
  simp [less_ok h k0 k1]
  refine soon_sat hw (less_nok h) fun us' u1' u2' => ?_
  have e1 : us' = us := least_eq u1' u1 u2' fun p o e => (u2 p o e).sub roomy_shut1 roomy_shut2
  subst e1
  have nu := ne_self (k := 1) (by decide) (os_gd (os := us') (by omega))
  simp [nu]
  refine sat_cons ?_
  simp [room_ok h k0 k1 ha]
  refine soon_sat hw (roomy_ok h hv (by decide) (by decide)) fun ws' w1 w2 => ?_
  simp
  refine sat_cons ?_
  simp [room_ok h k0 k1 ha]
  refine soon_sat hw (roomy_ok h hv (by decide) (by decide)) fun ws'' w1' w2' => ?_
  have e2 : ws'' = ws' := least_eq w1' w1 w2' fun p o e => (w2 p o e).sub (roomy_wide (by decide)) (roomy_wide (by decide))
  subst e2
  have nw := ne_self (k := 1) (by decide) (os_gd (os := ws'') (by omega))
  simp [nw]
  refine sat_cons ?_
  have nt := eq_self (k := 1) (by decide) (os_gd (os := ts) (by omega))
  by_cases hr : v.r = 0
  · have e3 : us' = ts := least_eq u1 t1 u2 fun p o e => by
      have := t2 p o e
      rw [roomy_self hv, hr] at this
      exact this
    subst e3
    simp [ha, wd_2, hr, blt, nt]
    exact q
  · have e3 : ws'' = ts := least_eq w1 t1 w2 fun p o e => by
      have := t2 p o e
      rw [roomy_self hv] at this
      exact this.sub (roomy_wide (by decide)) (roomy_wide (by omega))
    subst e3
    simp [ha, wd_2, hr, blt, nt]
    exact q
theorem goW_app {ws : List Wy} {v : Wy} : ∀ {l ps qs : List Int}, goW ws l ps = some qs → goW (ws ++ [v]) l ps = some qs
  | [], _, _, h => by rw [goW] at h ⊢; exact h
  | k :: l, ps, qs, h => by
    rw [goW] at h ⊢
    cases e : stepW ws ps k with
    | none => rw [e] at h; cases h
    | some rs =>
      rw [e] at h
      have k01 := step_ok e
      obtain ⟨u, hu, _, _⟩ := wy_at k01.1 k01.2.1
      have hu2 : (ws ++ [v])[k.toNat]? = some u := by rw [List.getElem?_append_left (by omega)]; exact hu
      have e2 : stepW (ws ++ [v]) ps k = some rs := by
        unfold stepW at e ⊢
        rw [if_pos ⟨k01.1, k01.2.1⟩, hu] at e
        rw [if_pos ⟨k01.1, by simp; omega⟩, hu2]
        exact e
      rw [e2]
      exact goW_app h
theorem tot_app {ws : List Wy} {v : Wy} {l ps qs : List Int} (h : goW ws l ps = some qs) : tot (ws ++ [v]) l = tot ws l := by
  unfold tot
  congr 1
  apply List.map_congr_left
  intro k hk
  obtain ⟨k0, k1⟩ := goW_ok h k hk
  unfold hh
  rw [List.getElem?_append_left (by omega)]
theorem goW_nil {m : Int} {ws : List Wy} (hk : NetOk m ws) {l qs : List Int} (h : goW ws l [0] = some qs) : ∃ ps, goW ws l [] = some ps := by
  cases l with
  | nil => exact ⟨[], rfl⟩
  | cons k l =>
    rw [goW] at h ⊢
    cases e : stepW ws [0] k with
    | none => rw [e] at h; cases h
    | some rs =>
      rw [e] at h
      have k01 := step_ok e
      obtain ⟨v, hv, rfl, hn, hl, hm⟩ := step_on (by simp) e
      have hs : v.s = 0 := by simp at hl; exact hl.symm
      have vo := hk.ok v hm
      have hr : ¬ v.r < 1 := by
        intro z
        unfold stepW at e
        rw [if_pos ⟨k01.1, k01.2.1⟩, hv] at e
        simp [z] at e
      have e2 : stepW ws [] k = some [v.s, v.t] := by
        unfold stepW
        rw [if_pos ⟨k01.1, k01.2.1⟩, hv]
        simp only [if_neg hr, if_pos rfl, if_neg (fun z => vo.ne (Eq.symm z) : ¬ v.t = v.s), if_true]
      rw [e2, hs]
      exact ⟨qs, h⟩
noncomputable def JL (v : Sl) (r : List D) (ρ : List Sl) : Prop := ∃ s1 s2 s3 s4 s5 s6 s7, ρ = [v, s1, s2, s3, s4, s5, s6, s7] ∧ (fr s1 = true ∧ fr s2 = true ∧ fr s3 = true ∧ fr s4 = true ∧ fr s5 = true ∧ fr s6 = true ∧ fr s7 = true) ∧ ∀ d ∈ r, ∃ i, d = D.int i
noncomputable def JP (a0 a1 a2 a3 a4 a5 : Sl) (_ : Nat) (ρ : List Sl) : Prop := ∃ s6 s7, ρ = [a0, a1, a2, a3, a4, a5, s6, s7] ∧ fr s6 = true ∧ fr s7 = true
noncomputable def FP (a0 a1 a2 a3 a4 a5 a6 a7 : Sl) (ρ : List Sl) : Prop := ∃ s, ρ = [a0, a1, a2, a3, a4, a5, a6, a7, s] ∧ fr s = true
theorem cut_wy {cs : List Wy} {a b : Option Int} : cut (cs.map Wy.d) a b = (cut cs a b).map Wy.d := by
  unfold cut; simp
theorem law_run (ns : List Int) (hn : ns.length ≤ 63) : ∃ as, run Γ 100000000 40 23 [.val false (.lst (ns.map D.int))] = .ok (.val (.bl true)) as := by
  suffices h : ∀ w, 50000000 ≤ w → (run Γ w 40 23 [.val false (.lst (ns.map D.int))]).sat fun r _ => r = .val (.bl true) by
    obtain ⟨a, ρ, e, rfl⟩ := sat_iff.mp (h 100000000 (by decide))
    exact ⟨ρ, e⟩
  intro w hw
  refine sat_run (d := f23) rfl rfl (by decide) ?_
  refine sat_cons ?_
  simp [f23]
  refine folded_sat hn fun cs => ?_
  simp
  refine sat_forT (JL (.val false (.lst (ns.map D.int)))) ?_ ?_ ?_
  · rintro d r _ ⟨s1, s2, s3, s4, s5, s6, s7, rfl, ⟨h1, h2, h3, h4, h5, h6, h7⟩, hd⟩
    obtain ⟨x, rfl⟩ := hd d (by simp)
    simp [h1]
    refine sat_cons ?_
    simp
    refine pot_sat fun y => ?_
    simp [h2]
    refine sat_cons ?_
    simp
    refine net_sat fun m ws0 y hk0 => ?_
    simp [h3]
    have m0 := hk0.m0
    have m1 := hk0.m1
    refine sat_cons ?_
    obtain ⟨ws, hws, hwl, hwo⟩ : ∃ ws, cut ws0 none (some 11) = ws ∧ ws.length ≤ 11 ∧ ∀ v ∈ ws, v.Ok m := by
      refine ⟨_, rfl, by unfold cut sIx; simp; omega, fun v hv => hk0.ok v ?_⟩
      unfold cut at hv
      exact List.mem_of_mem_drop (List.mem_of_mem_take hv)
    simp [sl3, part, isNC, cut_wy, hws]
    rw [show D.tup [.int m, .tup (ws.map Wy.d)] = netD m ws from rfl]
    have hk : NetOk m ws := ⟨m0, m1, by omega, hwo⟩
    refine sat_cons ?_
    simp
    refine way_sat m0 m1 fun v y hv => ?_
    simp [h4]
    refine sat_cons ?_
    simp
    refine more_sat hw hk hv hwl ?_
    simp
    refine sat_cons ?_
    simp
    refine ⟨by omega, fun _ => ?_, by show _ ≤ 16777216; omega⟩
    refine sat_compM (FP _ _ _ _ _ _ _ _) (fun _ => .bl true) ⟨.unb, rfl, rfl⟩ ?_ ?_
    · rintro d hd _ ⟨s, rfl, hs⟩
      obtain ⟨k, rfl, k0, k1⟩ := rng_mem0 hd
      simp [hs]
      refine rooms_sat hw hk k0 k1 ?_
      simp
      exact ⟨_, rfl, rfl⟩
    rintro _ ⟨s, rfl, hs⟩
    rw [mapM_bl]
    simp
    refine sat_cons ?_
    simp
    refine soon_sat hw hk fun ts t1 t2 => ?_
    simp [h5]
    refine sat_cons ?_
    simp
    refine ⟨by omega, ?_⟩
    obtain ⟨N, hN⟩ : ∃ N : Nat, (N : Int) = m := ⟨m.toNat, by omega⟩
    have eN : m.toNat = N := by omega
    rw [eN]
    have hk2 : NetOk m (ws ++ [v]) := ⟨m0, m1, by simp; omega, fun u hu => by
      rcases List.mem_append.mp hu with hu | hu
      · exact hwo u hu
      · rw [List.mem_singleton.mp hu]; exact hv⟩
    refine sat_forR (g := fun (k : Nat) => D.int (k : Int)) (JP _ _ _ _ _ _) ?_ ?_ ⟨s6, s7, rfl, h6, h7⟩
    · rintro i _ hi ⟨s6, s7, rfl, h6, h7⟩
      obtain ⟨z, ez⟩ : ∃ o, ts[i]? = some o := ⟨_, List.getElem?_eq_getElem (by omega)⟩
      have az := at_map (f := oD) ez
      have lz := t2 i z ez
      simp [h6]
      refine sat_cons ?_
      cases z with
      | none =>
        simp [az]
        exact ⟨_, _, rfl, rfl, h7⟩
      | some g =>
        simp [az]
        refine sat_cons ?_
        simp
        refine walk_sat hw hk (by omega) (by omega) lz fun l ps hgo hl5 htot => ?_
        simp [h7]
        obtain ⟨qs, hq⟩ := goW_nil hk hgo
        refine sat_cons ?_
        simp [put_ok (show ws.length < 12 by omega)]
        refine length_ok hk2 (by omega) (goW_app hq) ?_
        rw [tot_app hgo, htot]
        simp [az]
        simp [oD]
        exact ⟨_, _, rfl, rfl, rfl⟩
    · rintro _ ⟨s6, s7, rfl, h6, h7⟩
      simp
      exact ⟨_, _, _, _, _, _, _, rfl, ⟨rfl, rfl, rfl, rfl, rfl, h6, h7⟩, fun d h => hd d (List.mem_cons_of_mem _ h)⟩
  · rintro _ ⟨s1, s2, s3, s4, s5, s6, s7, rfl, _, hd⟩
    refine sat_cons ?_
    simp
  · refine ⟨_, _, _, _, _, _, _, rfl, ⟨rfl, rfl, rfl, rfl, rfl, rfl, rfl⟩, fun d hd => ?_⟩
    obtain ⟨i, _, rfl⟩ := List.mem_map.mp hd
    exact ⟨_, rfl⟩
end T
end
namespace T
open PySem L2 PySem.Spec PyProof.Rows HH
structure Txt (K : PySem.W.Frag) : Prop where
  D0 : DefIn K "ways_out" s0
  D1 : DefIn K "known_way" s1
  D2 : DefIn K "put_way" s2
  D3 : DefIn K "less_way" s3
  D4 : DefIn K "with_room" s4
  D5 : DefIn K "turned_net" s5
  D6 : DefIn K "hours_from" s6
  D7 : DefIn K "soonest_hours" s7
  D8 : DefIn K "hours_to" s8
  D9 : DefIn K "is_soonest_step" s9
  D10 : DefIn K "soonest_walk" s10
  D11 : DefIn K "walk_places" s11
  D12 : DefIn K "walk_length" s12
  D13 : DefIn K "_law_pot" s13
  D14 : DefIn K "_law_take" s14
  D15 : DefIn K "_law_way" s15
  D16 : DefIn K "_law_net" s16
  D17 : DefIn K "_law_folded" s17
  D18 : DefIn K "_law_begun_at" s18
  D19 : DefIn K "_law_hours_from" s19
  D20 : DefIn K "_law_least" s20
  D21 : DefIn K "_law_more_right" s21
  D22 : DefIn K "_law_rooms_right" s22
  D23 : DefIn K "law" s23
  B_all : PySem.W.nsIn K mainGlobals "all" = some none
  B_enumerate : PySem.W.nsIn K mainGlobals "enumerate" = some none
  B_int : PySem.W.nsIn K mainGlobals "int" = some none
  B_len : PySem.W.nsIn K mainGlobals "len" = some none
  B_list : PySem.W.nsIn K mainGlobals "list" = some none
  B_max : PySem.W.nsIn K mainGlobals "max" = some none
  B_min : PySem.W.nsIn K mainGlobals "min" = some none
  B_range : PySem.W.nsIn K mainGlobals "range" = some none
  B_reversed : PySem.W.nsIn K mainGlobals "reversed" = some none
  B_sum : PySem.W.nsIn K mainGlobals "sum" = some none
  B_tuple : PySem.W.nsIn K mainGlobals "tuple" = some none
  G_MOST_WAYS : ∃ t, PySem.W.nsIn K mainGlobals "MOST_WAYS" = some (some (Value.int 12 t))
noncomputable def clT {K : PySem.W.Frag} (T : Txt K) : Nat → Addr := fun k => 0
structure Oks (Pg : Program) (w : World) (K : PySem.W.Frag) (mg : Str → Option Value) (base : Heap) (cl : Nat → Addr) (n : Nat) : Prop where
  c0 : CallOk Pg w K mg base n (run Γ 100000000 n) 0 "ways_out" 2
  c1 : CallOk Pg w K mg base n (run Γ 100000000 n) 1 "known_way" 2
  c2 : CallOk Pg w K mg base n (run Γ 100000000 n) 2 "put_way" 2
  c3 : CallOk Pg w K mg base n (run Γ 100000000 n) 3 "less_way" 2
  c4 : CallOk Pg w K mg base n (run Γ 100000000 n) 4 "with_room" 3
  c5 : CallOk Pg w K mg base n (run Γ 100000000 n) 5 "turned_net" 1
  c6 : CallOk Pg w K mg base n (run Γ 100000000 n) 6 "hours_from" 2
  c7 : CallOk Pg w K mg base n (run Γ 100000000 n) 7 "soonest_hours" 1
  c8 : CallOk Pg w K mg base n (run Γ 100000000 n) 8 "hours_to" 2
  c9 : CallOk Pg w K mg base n (run Γ 100000000 n) 9 "is_soonest_step" 2
  c10 : CallOk Pg w K mg base n (run Γ 100000000 n) 10 "soonest_walk" 2
  c11 : CallOk Pg w K mg base n (run Γ 100000000 n) 11 "walk_places" 2
  c12 : CallOk Pg w K mg base n (run Γ 100000000 n) 12 "walk_length" 2
  c13 : CallOk Pg w K mg base n (run Γ 100000000 n) 13 "_law_pot" 1
  c14 : CallOk Pg w K mg base n (run Γ 100000000 n) 14 "_law_take" 2
  c15 : CallOk Pg w K mg base n (run Γ 100000000 n) 15 "_law_way" 2
  c16 : CallOk Pg w K mg base n (run Γ 100000000 n) 16 "_law_net" 1
  c17 : CallOk Pg w K mg base n (run Γ 100000000 n) 17 "_law_folded" 2
  c18 : CallOk Pg w K mg base n (run Γ 100000000 n) 18 "_law_begun_at" 2
  c19 : CallOk Pg w K mg base n (run Γ 100000000 n) 19 "_law_hours_from" 2
  c20 : CallOk Pg w K mg base n (run Γ 100000000 n) 20 "_law_least" 2
  c21 : CallOk Pg w K mg base n (run Γ 100000000 n) 21 "_law_more_right" 2
  c22 : CallOk Pg w K mg base n (run Γ 100000000 n) 22 "_law_rooms_right" 2
  c23 : CallOk Pg w K mg base n (run Γ 100000000 n) 23 "law" 1
set_option maxHeartbeats 0 in
theorem all_ok {Pg : Program} {w : World} {K : PySem.W.Frag} {mg : Str → Option Value} {base : Heap} (T : Txt K) (X : K.In base) (G : base.Ns mainGlobals mg) : ∀ n, Oks Pg w K mg base (clT T) n
  | 0 => {
    c0 := call0 (ps := ["net", "place"]) X G T.D0 rfl (fun _ _ _ _ _ _ us hl => match us, hl with | [_, _], _ => rfl)
    c1 := call0 (ps := ["net", "number"]) X G T.D1 rfl (fun _ _ _ _ _ _ us hl => match us, hl with | [_, _], _ => rfl)
    c2 := call0 (ps := ["net", "way"]) X G T.D2 rfl (fun _ _ _ _ _ _ us hl => match us, hl with | [_, _], _ => rfl)
    c3 := call0 (ps := ["net", "number"]) X G T.D3 rfl (fun _ _ _ _ _ _ us hl => match us, hl with | [_, _], _ => rfl)
    c4 := call0 (ps := ["net", "number", "room"]) X G T.D4 rfl (fun _ _ _ _ _ _ us hl => match us, hl with | [_, _, _], _ => rfl)
    c5 := call0 (ps := ["net"]) X G T.D5 rfl (fun _ _ _ _ _ _ us hl => match us, hl with | [_], _ => rfl)
    c6 := call0 (ps := ["net", "start"]) X G T.D6 rfl (fun _ _ _ _ _ _ us hl => match us, hl with | [_, _], _ => rfl)
    c7 := call0 (ps := ["net"]) X G T.D7 rfl (fun _ _ _ _ _ _ us hl => match us, hl with | [_], _ => rfl)
    c8 := call0 (ps := ["net", "place"]) X G T.D8 rfl (fun _ _ _ _ _ _ us hl => match us, hl with | [_, _], _ => rfl)
    c9 := call0 (ps := ["way", "left"]) X G T.D9 rfl (fun _ _ _ _ _ _ us hl => match us, hl with | [_, _], _ => rfl)
    c10 := call0 (ps := ["net", "place"]) X G T.D10 rfl (fun _ _ _ _ _ _ us hl => match us, hl with | [_, _], _ => rfl)
    c11 := call0 (ps := ["net", "walk"]) X G T.D11 rfl (fun _ _ _ _ _ _ us hl => match us, hl with | [_, _], _ => rfl)
    c12 := call0 (ps := ["net", "walk"]) X G T.D12 rfl (fun _ _ _ _ _ _ us hl => match us, hl with | [_, _], _ => rfl)
    c13 := call0 (ps := ["cell"]) X G T.D13 rfl (fun _ _ _ _ _ _ us hl => match us, hl with | [_], _ => rfl)
    c14 := call0 (ps := ["pot", "many"]) X G T.D14 rfl (fun _ _ _ _ _ _ us hl => match us, hl with | [_, _], _ => rfl)
    c15 := call0 (ps := ["pot", "many"]) X G T.D15 rfl (fun _ _ _ _ _ _ us hl => match us, hl with | [_, _], _ => rfl)
    c16 := call0 (ps := ["pot"]) X G T.D16 rfl (fun _ _ _ _ _ _ us hl => match us, hl with | [_], _ => rfl)
    c17 := call0 (ps := ["script", "most"]) X G T.D17 rfl (fun _ _ _ _ _ _ us hl => match us, hl with | [_, _], _ => rfl)
    c18 := call0 (ps := ["net", "start"]) X G T.D18 rfl (fun _ _ _ _ _ _ us hl => match us, hl with | [_, _], _ => rfl)
    c19 := call0 (ps := ["net", "start"]) X G T.D19 rfl (fun _ _ _ _ _ _ us hl => match us, hl with | [_, _], _ => rfl)
    c20 := call0 (ps := ["one", "other"]) X G T.D20 rfl (fun _ _ _ _ _ _ us hl => match us, hl with | [_, _], _ => rfl)
    c21 := call0 (ps := ["net", "way"]) X G T.D21 rfl (fun _ _ _ _ _ _ us hl => match us, hl with | [_, _], _ => rfl)
    c22 := call0 (ps := ["net", "number"]) X G T.D22 rfl (fun _ _ _ _ _ _ us hl => match us, hl with | [_, _], _ => rfl)
    c23 := call0 (ps := ["script"]) X G T.D23 rfl (fun _ _ _ _ _ _ us hl => match us, hl with | [_], _ => rfl)
  }
  | n + 1 =>
    have ih := all_ok (Pg := Pg) (w := w) (base := base) T X G n
    {
      c0 := callS (ps := ["net", "place"]) X G T.D0 rfl rfl (fun _ _ _ _ _ _ us hl => match us, hl with | [_, _], _ => rfl) fun _ _ F => d0 (cl := clT T) F (PySem.W.mg_none_of X G T.B_enumerate)
      c1 := callS (ps := ["net", "number"]) X G T.D1 rfl rfl (fun _ _ _ _ _ _ us hl => match us, hl with | [_, _], _ => rfl) fun _ _ F => d1 (cl := clT T) F (PySem.W.mg_none_of X G T.B_len)
      c2 := callS (ps := ["net", "way"]) X G T.D2 rfl rfl (fun _ _ _ _ _ _ us hl => match us, hl with | [_, _], _ => rfl) fun _ _ F => d2 (cl := clT T) F (PySem.W.mg_none_of X G T.B_len) (PySem.W.mg_none_of X G T.B_tuple) (T.G_MOST_WAYS.elim fun t e => ⟨t, PySem.W.mg_of X G e⟩)
      c3 := callS (ps := ["net", "number"]) X G T.D3 rfl rfl (fun _ _ _ _ _ _ us hl => match us, hl with | [_, _], _ => rfl) fun _ _ F => d3 (cl := clT T) F ih.c1
      c4 := callS (ps := ["net", "number", "room"]) X G T.D4 rfl rfl (fun _ _ _ _ _ _ us hl => match us, hl with | [_, _, _], _ => rfl) fun _ _ F => d4 (cl := clT T) F ih.c1
      c5 := callS (ps := ["net"]) X G T.D5 rfl rfl (fun _ _ _ _ _ _ us hl => match us, hl with | [_], _ => rfl) fun _ _ F => d5 (cl := clT T) F (PySem.W.mg_none_of X G T.B_tuple)
      c6 := callS (ps := ["net", "start"]) X G T.D6 rfl rfl (fun _ _ _ _ _ _ us hl => match us, hl with | [_, _], _ => rfl) fun _ _ F => d6 (cl := clT T) F
      c7 := callS (ps := ["net"]) X G T.D7 rfl rfl (fun _ _ _ _ _ _ us hl => match us, hl with | [_], _ => rfl) fun _ _ F => d7 (cl := clT T) F ih.c6
      c8 := callS (ps := ["net", "place"]) X G T.D8 rfl rfl (fun _ _ _ _ _ _ us hl => match us, hl with | [_, _], _ => rfl) fun _ _ F => d8 (cl := clT T) F (PySem.W.mg_none_of X G T.B_list) (PySem.W.mg_none_of X G T.B_reversed) ih.c6 ih.c5
      c9 := callS (ps := ["way", "left"]) X G T.D9 rfl rfl (fun _ _ _ _ _ _ us hl => match us, hl with | [_, _], _ => rfl) fun _ _ F => d9 (cl := clT T) F
      c10 := callS (ps := ["net", "place"]) X G T.D10 rfl rfl (fun _ _ _ _ _ _ us hl => match us, hl with | [_, _], _ => rfl) fun _ _ F => d10 (cl := clT T) F (PySem.W.mg_none_of X G T.B_min) (PySem.W.mg_none_of X G T.B_tuple) ih.c8 ih.c9 ih.c0
      c11 := callS (ps := ["net", "walk"]) X G T.D11 rfl rfl (fun _ _ _ _ _ _ us hl => match us, hl with | [_, _], _ => rfl) fun _ _ F => d11 (cl := clT T) F (PySem.W.mg_none_of X G T.B_len) (PySem.W.mg_none_of X G T.B_tuple)
      c12 := callS (ps := ["net", "walk"]) X G T.D12 rfl rfl (fun _ _ _ _ _ _ us hl => match us, hl with | [_, _], _ => rfl) fun _ _ F => d12 (cl := clT T) F (PySem.W.mg_none_of X G T.B_sum) ih.c11
      c13 := callS (ps := ["cell"]) X G T.D13 rfl rfl (fun _ _ _ _ _ _ us hl => match us, hl with | [_], _ => rfl) fun _ _ F => d13 (cl := clT T) F (PySem.W.mg_none_of X G T.B_range)
      c14 := callS (ps := ["pot", "many"]) X G T.D14 rfl rfl (fun _ _ _ _ _ _ us hl => match us, hl with | [_, _], _ => rfl) fun _ _ F => d14 (cl := clT T) F
      c15 := callS (ps := ["pot", "many"]) X G T.D15 rfl rfl (fun _ _ _ _ _ _ us hl => match us, hl with | [_, _], _ => rfl) fun _ _ F => d15 (cl := clT T) F (PySem.W.mg_none_of X G T.B_min) ih.c14
      c16 := callS (ps := ["pot"]) X G T.D16 rfl rfl (fun _ _ _ _ _ _ us hl => match us, hl with | [_], _ => rfl) fun _ _ F => d16 (cl := clT T) F (PySem.W.mg_none_of X G T.B_len) (PySem.W.mg_none_of X G T.B_range) (PySem.W.mg_none_of X G T.B_tuple) ih.c14 ih.c15
      c17 := callS (ps := ["script", "most"]) X G T.D17 rfl rfl (fun _ _ _ _ _ _ us hl => match us, hl with | [_, _], _ => rfl) fun _ _ F => d17 (cl := clT T) F (PySem.W.mg_none_of X G T.B_len) (PySem.W.mg_none_of X G T.B_max) (PySem.W.mg_none_of X G T.B_min) (PySem.W.mg_none_of X G T.B_range)
      c18 := callS (ps := ["net", "start"]) X G T.D18 rfl rfl (fun _ _ _ _ _ _ us hl => match us, hl with | [_, _], _ => rfl) fun _ _ F => d18 (cl := clT T) F (PySem.W.mg_none_of X G T.B_list) (PySem.W.mg_none_of X G T.B_range) (PySem.W.mg_none_of X G T.B_tuple)
      c19 := callS (ps := ["net", "start"]) X G T.D19 rfl rfl (fun _ _ _ _ _ _ us hl => match us, hl with | [_, _], _ => rfl) fun _ _ F => d19 (cl := clT T) F ih.c18 ih.c7
      c20 := callS (ps := ["one", "other"]) X G T.D20 rfl rfl (fun _ _ _ _ _ _ us hl => match us, hl with | [_, _], _ => rfl) fun _ _ F => d20 (cl := clT T) F (PySem.W.mg_none_of X G T.B_min)
      c21 := callS (ps := ["net", "way"]) X G T.D21 rfl rfl (fun _ _ _ _ _ _ us hl => match us, hl with | [_, _], _ => rfl) fun _ _ F => d21 (cl := clT T) F (PySem.W.mg_none_of X G T.B_range) ih.c19 ih.c20 ih.c2 ih.c7
      c22 := callS (ps := ["net", "number"]) X G T.D22 rfl rfl (fun _ _ _ _ _ _ us hl => match us, hl with | [_, _], _ => rfl) fun _ _ F => d22 (cl := clT T) F (PySem.W.mg_none_of X G T.B_int) ih.c3 ih.c7 ih.c4
      c23 := callS (ps := ["script"]) X G T.D23 rfl rfl (fun _ _ _ _ _ _ us hl => match us, hl with | [_], _ => rfl) fun _ _ F => d23 (cl := clT T) F (PySem.W.mg_none_of X G T.B_all) (PySem.W.mg_none_of X G T.B_len) (PySem.W.mg_none_of X G T.B_range) ih.c17 ih.c21 ih.c16 ih.c13 ih.c22 ih.c15 ih.c2 ih.c7 ih.c10 ih.c12
    }
theorem gin {K : PySem.W.Frag} {x : Str} {i : Int} {t : Tok} (a : PySem.W.nsIn K mainGlobals x = some (some (Value.int i t))) : ∃ t, PySem.W.nsIn K mainGlobals x = some (some (Value.int i t)) := ⟨t, a⟩
set_option maxHeartbeats 0 in
theorem law_fn {Pg : Program} {w : World} {K : PySem.W.Frag} {mg : Str → Option Value} {h : Heap} {fa : Addr} (T : Txt K) (X : K.In h) (G : h.Ns mainGlobals mg) (hmg : mg "law" = some (.ref fa)) :
    ∃ fd : FuncData, (∀ (s : Shared) (u : Value), BindsTo s fd ⟨[u], []⟩ [("script", u)]) ∧ ∀ base : Heap, K.In base → base.Ns mainGlobals mg → FnOk Pg w K mg base CX0 40 fa fd ["script"] (spC K 1 (run Γ 100000000 40 23)) := by
  obtain ⟨f, fd, a, F⟩ := T.D23.ex
  have e := hmg.symm.trans (PySem.W.mg_of X G a)
  cases e
  refine ⟨fd, fun s u => ?_, fun base kb nb => ?_⟩
  · obtain ⟨oc, od, kV, doc, pm, an, cdv, ct, osl, rfl, lk, hcd⟩ := F.ex
    exact .of_eq rfl
  · have ih := all_ok (Pg := Pg) (w := w) (base := base) T kb nb 39
    exact d23 (cl := clT T) (k := 39) (n := 100000000) (c := run Γ 100000000 39) F (PySem.W.mg_none_of X G T.B_all) (PySem.W.mg_none_of X G T.B_len) (PySem.W.mg_none_of X G T.B_range) ih.c17 ih.c21 ih.c16 ih.c13 ih.c22 ih.c15 ih.c2 ih.c7 ih.c10 ih.c12
end T
open PySem PySem.W PyProof.Rows
set_option maxRecDepth 100000 in
set_option maxHeartbeats 0 in
theorem PySem.Challenge.cw_hourhaul_k12_whole_a_way_more_holds : PySem.Challenge.rw_hourhaul_k12_whole_a_way_more.Holds := by
  w_on; o_law; k_head; (case hw => w_witness2)
  k_fill
  refine L2.walk_ofK (l := PySem.Challenge.rw_hourhaul_k12_whole_a_way_more) (n := 63) (k := 40) (x := "script") (CX := L2.CX0) (sp := fun K => HH.spC K 1 (HH.run T.Γ 100000000 40 23)) rfl (by decide) rfl ⟨rfl, by decide, by decide⟩ (fun w h Y => PySem.W.kIn_of Y) ?F ?S ?C
  case F =>
    intro w mg fa h KX G hmg
    refine T.law_fn ?T KX G hmg
    constructor
    · (refine' HH.def_in ?a ?l ?c ?k); (case a => k_is); (case l => k_is); (case c => k_is); (case k => k_is)
    · (refine' HH.def_in ?a ?l ?c ?k); (case a => k_is); (case l => k_is); (case c => k_is); (case k => k_is)
    · (refine' HH.def_in ?a ?l ?c ?k); (case a => k_is); (case l => k_is); (case c => k_is); (case k => k_is)
    · (refine' HH.def_in ?a ?l ?c ?k); (case a => k_is); (case l => k_is); (case c => k_is); (case k => k_is)
    · (refine' HH.def_in ?a ?l ?c ?k); (case a => k_is); (case l => k_is); (case c => k_is); (case k => k_is)
    · (refine' HH.def_in ?a ?l ?c ?k); (case a => k_is); (case l => k_is); (case c => k_is); (case k => k_is)
    · (refine' HH.def_in ?a ?l ?c ?k); (case a => k_is); (case l => k_is); (case c => k_is); (case k => k_is)
    · (refine' HH.def_in ?a ?l ?c ?k); (case a => k_is); (case l => k_is); (case c => k_is); (case k => k_is)
    · (refine' HH.def_in ?a ?l ?c ?k); (case a => k_is); (case l => k_is); (case c => k_is); (case k => k_is)
    · (refine' HH.def_in ?a ?l ?c ?k); (case a => k_is); (case l => k_is); (case c => k_is); (case k => k_is)
    · (refine' HH.def_in ?a ?l ?c ?k); (case a => k_is); (case l => k_is); (case c => k_is); (case k => k_is)
    · (refine' HH.def_in ?a ?l ?c ?k); (case a => k_is); (case l => k_is); (case c => k_is); (case k => k_is)
    · (refine' HH.def_in ?a ?l ?c ?k); (case a => k_is); (case l => k_is); (case c => k_is); (case k => k_is)
    · (refine' HH.def_in ?a ?l ?c ?k); (case a => k_is); (case l => k_is); (case c => k_is); (case k => k_is)
    · (refine' HH.def_in ?a ?l ?c ?k); (case a => k_is); (case l => k_is); (case c => k_is); (case k => k_is)
    · (refine' HH.def_in ?a ?l ?c ?k); (case a => k_is); (case l => k_is); (case c => k_is); (case k => k_is)
    · (refine' HH.def_in ?a ?l ?c ?k); (case a => k_is); (case l => k_is); (case c => k_is); (case k => k_is)
    · (refine' HH.def_in ?a ?l ?c ?k); (case a => k_is); (case l => k_is); (case c => k_is); (case k => k_is)
    · (refine' HH.def_in ?a ?l ?c ?k); (case a => k_is); (case l => k_is); (case c => k_is); (case k => k_is)
    · (refine' HH.def_in ?a ?l ?c ?k); (case a => k_is); (case l => k_is); (case c => k_is); (case k => k_is)
    · (refine' HH.def_in ?a ?l ?c ?k); (case a => k_is); (case l => k_is); (case c => k_is); (case k => k_is)
    · (refine' HH.def_in ?a ?l ?c ?k); (case a => k_is); (case l => k_is); (case c => k_is); (case k => k_is)
    · (refine' HH.def_in ?a ?l ?c ?k); (case a => k_is); (case l => k_is); (case c => k_is); (case k => k_is)
    · (refine' HH.def_in ?a ?l ?c ?k); (case a => k_is); (case l => k_is); (case c => k_is); (case k => k_is)
    · k_is
    · k_is
    · k_is
    · k_is
    · k_is
    · k_is
    · k_is
    · k_is
    · k_is
    · k_is
    · k_is
    · (refine' T.gin ?a); (case a => k_is)
  case S =>
    intro K H a ns hl hO hS
    obtain ⟨as, e⟩ := T.law_run ns hl
    exact HH.script_ok hS e
  case C => exact fun H s e s' z => z
